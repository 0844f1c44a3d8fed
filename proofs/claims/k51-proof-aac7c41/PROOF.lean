import PyProof.Rows.All
import Wide.All
import OpenK.AllK
import Wide.FinOn
import PyProof.Seq
import PyProof.RangeIter
import PyProof.TupleIter
import PyProof.StrLoop
import PyProof.WalkInts
import PyProof.StationsW
import PyProof.ZipIter
import PyProof.ListNew
import Lean
import PyProof.EqAt
import PyProof.EqKinds
import PyProof.TupleCall
import PyProof.NeKinds
import KE.IntTextLaws
import KE.KIntText
import PyProof.Draws
import PyProof.EnumMake
import PyProof.EnumFor
import PyProof.NsDelKeeps
import PyProof.Rows.StrFit
import PyProof.Rows.SortShellK
import PyProof.DictKinds
import KE.KDictList
import PyProof.DictWalks
import KE.KEqDict
import PyProof.RaisesDict
import PySem.SetOps
import PyProof.FactsAll.set_1
import PyProof.FactsAll.set_2
import PyProof.LongRange
import PyProof.MaxThree
import KE.KDictOf
import PyProof.AttrMissHeap
import KE.KItemsList
import KE.KDictLaws
import PyProof.Rows.IntBool
import PyProof.TupleKey
import PyProof.DictValues
import PyProof.WalksMore
import PyProof.ListRange
import KE.KRevIter
import PySem.Challenge.RW_copperbook_k51_a_drawing_renamed
set_option Elab.async false
set_option linter.all false
set_option maxRecDepth 100000
set_option hygiene false
local macro_rules|`('!')=>`((by omega))|`('#')=>`((model prog w))|`('$')=>`((by decide))
set_option hygiene true
section
local macro_rules|`(#[$x,*])=>`(⟨$x,*⟩)
theorem ya:type_of% @List.length_map:=@List.length_map
theorem yb:type_of% @List.getElem?_eq_getElem:=@List.getElem?_eq_getElem
theorem yc:type_of% @List.getElem?_eq_some_iff:=@List.getElem?_eq_some_iff
theorem yd:type_of% @PySem.Heap.get?_push_of_some:=@PySem.Heap.get?_push_of_some
theorem ye:type_of% @List.getElem?_map:=@List.getElem?_map
theorem yf:type_of% @List.map_append:=@List.map_append
theorem yg:type_of% @List.size_toArray:=@List.size_toArray
theorem yh:type_of% @Nat.le_refl:=@Nat.le_refl
theorem yi:type_of% @List.mem_map:=@List.mem_map
theorem yj:type_of% @List.length_append:=@List.length_append
theorem yk:type_of% @List.mem_of_getElem?:=@List.mem_of_getElem?
theorem yl:type_of% @List.getD_eq_getElem?_getD:=@List.getD_eq_getElem?_getD
theorem ym:type_of% @PySem.Heap.lt_size:=@PySem.Heap.lt_size
theorem yn:type_of% @List.mem_cons_of_mem:=@List.mem_cons_of_mem
theorem yo:type_of% @PySem.Heap.get?_push_size:=@PySem.Heap.get?_push_size
theorem yp:type_of% @Nat.le_trans:=@Nat.le_trans
theorem yq:type_of% @List.map_map:=@List.map_map
theorem yr:type_of% @List.mem_cons:=@List.mem_cons
theorem yt:type_of% @Bool.false_ne_true:=@Bool.false_ne_true
theorem yu:type_of% @List.mem_singleton:=@List.mem_singleton
theorem yw:type_of% @List.mem_cons_self:=@List.mem_cons_self
theorem yx:type_of% @Nat.ne_of_lt:=@Nat.ne_of_lt
theorem yz:type_of% @Option.map_eq_some_iff:=@Option.map_eq_some_iff
theorem yA:type_of% @Array.length_toList:=@Array.length_toList
theorem yB:type_of% @List.getElem_mem:=@List.getElem_mem
theorem yC:type_of% @List.getElem?_append_left:=@List.getElem?_append_left
theorem yD:type_of% @List.getElem_of_mem:=@List.getElem_of_mem
theorem yE:type_of% @List.mem_range:=@List.mem_range
theorem yF:type_of% @List.mem_append_right:=@List.mem_append_right
theorem yG:type_of% @List.getElem?_append_right:=@List.getElem?_append_right
theorem yH:type_of% @List.map_cons:=@List.map_cons
theorem yI:type_of% @List.length_take:=@List.length_take
theorem yJ:type_of% @Nat.lt_of_lt_of_le:=@Nat.lt_of_lt_of_le
theorem yK:type_of% @Nat.lt_of_le_of_lt:=@Nat.lt_of_le_of_lt
theorem yL:type_of% @List.mem_append:=@List.mem_append
theorem yM:type_of% @PySem.Heap.get?_update_other:=@PySem.Heap.get?_update_other
theorem yN:type_of% @Array.getElem?_toList:=@Array.getElem?_toList
theorem yO:type_of% @Bool.false_eq_true:=@Bool.false_eq_true
theorem yP:type_of% @List.not_mem_nil:=@List.not_mem_nil
theorem yQ:type_of% @List.length_cons:=@List.length_cons
theorem yR:type_of% @List.getElem_map:=@List.getElem_map
theorem yS:type_of% @List.getElem_toArray:=@List.getElem_toArray
theorem yT:type_of% @Nat.zero_le:=@Nat.zero_le
theorem yU:type_of% @Array.getElem?_eq_getElem:=@Array.getElem?_eq_getElem
theorem yV:type_of% @List.length_zip:=@List.length_zip
theorem yW:type_of% @List.length_range:=@List.length_range
theorem yX:type_of% @List.ext_getElem:=@List.ext_getElem
theorem yY:type_of% @List.map_congr_left:=@List.map_congr_left
theorem yZ:type_of% @Ne.symm:=@Ne.symm
theorem y4:type_of% @Nat.le_of_lt:=@Nat.le_of_lt
theorem y6:type_of% @PySem.Heap.get?_update_self:=@PySem.Heap.get?_update_self
theorem y7:type_of% @List.nodup_cons:=@List.nodup_cons
theorem y8:type_of% @List.idxOf_lt_length_of_mem:=@List.idxOf_lt_length_of_mem
theorem y9:type_of% @Array.getElem?_eq_some_iff:=@Array.getElem?_eq_some_iff
theorem Qa:type_of% @Nat.lt_or_ge:=@Nat.lt_or_ge
theorem Qc:type_of% @List.drop_eq_getElem_cons:=@List.drop_eq_getElem_cons
theorem Qd:type_of% @List.nodup_append:=@List.nodup_append
theorem Qe:type_of% @Nat.ne_of_gt:=@Nat.ne_of_gt
theorem Qf:type_of% @Bool.eq_iff_iff:=@Bool.eq_iff_iff
theorem Qg:type_of% @Int.toNat_natCast:=@Int.toNat_natCast
theorem Qh:type_of% @List.append_assoc:=@List.append_assoc
theorem Qi:type_of% @PySem.Heap.get?_none_of_le:=@PySem.Heap.get?_none_of_le
theorem Qj:type_of% @List.getElem?_zip_eq_some:=@List.getElem?_zip_eq_some
theorem Qk:type_of% @List.nodup_nil:=@List.nodup_nil
theorem Ql:type_of% @Nat.succ_pos:=@Nat.succ_pos
theorem Qm:type_of% @List.getElem?_toArray:=@List.getElem?_toArray
theorem Qo:type_of% @List.take_append_drop:=@List.take_append_drop
theorem Qp:type_of% @List.mem_append_left:=@List.mem_append_left
theorem Qq:type_of% @Nat.min_eq_left:=@Nat.min_eq_left
theorem Qr:type_of% @Bool.not_true:=@Bool.not_true
theorem Qs:type_of% @PySem.Heap.size_push:=@PySem.Heap.size_push
theorem Qt:type_of% @List.map_inj_right:=@List.map_inj_right
theorem Qu:type_of% @List.getElem?_cons_succ:=@List.getElem?_cons_succ
theorem Qv:type_of% @Nat.mul_assoc:=@Nat.mul_assoc
theorem Qw:type_of% @Nat.lt_succ_of_lt:=@Nat.lt_succ_of_lt
theorem Qx:type_of% @List.pairwise_map:=@List.pairwise_map
theorem Qz:type_of% @List.filter_eq_self:=@List.filter_eq_self
theorem QA:type_of% @List.find?_cons:=@List.find?_cons
theorem QB:type_of% @Nat.not_lt_zero:=@Nat.not_lt_zero
theorem QC:type_of% @List.all_eq_true:=@List.all_eq_true
theorem QD:type_of% @Nat.zero_add:=@Nat.zero_add
theorem QE:type_of% @Nat.pow_succ:=@Nat.pow_succ
theorem QF:type_of% @Nat.mod_eq_of_lt:=@Nat.mod_eq_of_lt
theorem QG:type_of% @Nat.succ_le_succ:=@Nat.succ_le_succ
theorem QH:type_of% @List.mem_flatMap:=@List.mem_flatMap
theorem QI:type_of% @Nat.lt_irrefl:=@Nat.lt_irrefl
theorem QJ:type_of% @Array.toArray_toList:=@Array.toArray_toList
theorem QK:type_of% @List.flatMap_cons:=@List.flatMap_cons
theorem QL:type_of% @List.mem_filter:=@List.mem_filter
theorem QM:type_of% @List.append_nil:=@List.append_nil
theorem QN:type_of% @List.getElem?_range:=@List.getElem?_range
theorem QO:type_of% @Nat.min_self:=@Nat.min_self
theorem QP:type_of% @Bool.and_eq_true:=@Bool.and_eq_true
theorem QQ:type_of% @List.length_filter_le:=@List.length_filter_le
theorem QR:type_of% @List.getElem?_eq_none:=@List.getElem?_eq_none
theorem QS:type_of% @Array.forIn_toList:=@Array.forIn_toList
theorem QT:type_of% @List.getElem_idxOf:=@List.getElem_idxOf
theorem QU:type_of% @List.pairwise_iff_getElem:=@List.pairwise_iff_getElem
theorem QW:type_of% @List.ext_getElem?:=@List.ext_getElem?
theorem QX:type_of% @List.flatten_cons:=@List.flatten_cons
theorem QY:type_of% @List.eq_nil_of_length_eq_zero:=@List.eq_nil_of_length_eq_zero
theorem QZ:type_of% @Nat.min_le_right:=@Nat.min_le_right
theorem Q0:type_of% @List.length_drop:=@List.length_drop
theorem Q2:type_of% @List.nodup_range:=@List.nodup_range
theorem Q3:type_of% @Array.getElem?_eq_none:=@Array.getElem?_eq_none
theorem Q4:type_of% @List.take_of_length_le:=@List.take_of_length_le
theorem Q5:type_of% @List.filter_append:=@List.filter_append
theorem Q6:type_of% @List.length_zipIdx:=@List.length_zipIdx
theorem Q7:type_of% @List.sublist_flatten_of_mem:=@List.sublist_flatten_of_mem
theorem Q8:type_of% @Nat.le_of_lt_succ:=@Nat.le_of_lt_succ
theorem Q9:type_of% @Nat.lt_trichotomy:=@Nat.lt_trichotomy
theorem Wa:type_of% @Nat.lt_succ_self:=@Nat.lt_succ_self
theorem Wb:type_of% @Nat.mul_comm:=@Nat.mul_comm
theorem Wc:type_of% @List.flatMap_append:=@List.flatMap_append
theorem We:type_of% @List.map_drop:=@List.map_drop
theorem Wf:type_of% @Nat.min_le_left:=@Nat.min_le_left
theorem Wg:type_of% @List.idxOf_cons:=@List.idxOf_cons
theorem Wh:type_of% @List.map_id:=@List.map_id
open PySem.W (Frag InstAt KdlSrc Looks callWith_K cellsFrom_some codeIn emptyDict findIn fnOf handedIn hasDictIn hideAll hideAll_get hideAll_none instObj isFn kIn_of kdl_extend keepIn kia_one kitOne kitx_dict kitx_list lookIn makesIn methodCall_KW methodObj mroIn of_hideAll plainGet plainGet_of plainOver takerIn typeIn)
section
open PySem PySem.Spec PyProof.Rows
abbrev Ax:=Value->Shared->Prop
abbrev Ay:=Unit->Shared->Prop
abbrev Az:=Bool->Shared->Prop
abbrev AA:=Option Value->Shared->Prop
abbrev AB:=PySem.W.Frag
abbrev AC:=List (Int×Int×Int)
abbrev AD:=List (Int×Int)
abbrev AE:=Str->Option Value
abbrev AF:=List (Addr×Obj)
abbrev AG:=Array Keyed
abbrev AH:=List Value
abbrev AI:=List Addr
abbrev AJ:=List (Str×Addr)
abbrev AK:=Array (Int×Value)
abbrev AL:=Array (Option Value)
abbrev AM:=List Str
abbrev AN:=Array Value
abbrev AO:=List Expr
abbrev AQ:=Array (Option Nat)
abbrev AR:=Option Addr
abbrev AS:=Program
abbrev AT:=@PySem.wpAny_bind
abbrev AU:=@PySem.wpAny_pure
end
/- These names keep the theorem's opening from writing out equations that only make the build larger: what is built must stay
   below 64 MiB. They say nothing and are used nowhere. -/
namespace PySem.W.Fast
def tw10900943156670357140:=0
def tw9621561003458342045:=0
def tw17321108024763621659:=0
def tw17994139316254541130:=0
def tw784880182461736144:=0
def tw8582504264152383663:=0
def tw5773719084851867373:=0
def tw14229942770948894212:=0
def tw14908749070835300531:=0
def tw12821339265508557092:=0
def tw12037717101130431249:=0
def tw1029960764281346068:=0
def tw8167252941570674471:=0
def tw428203409697416665:=0
def tw17507370731955278213:=0
def tw11056899384723411053:=0
def tw16348237555882240953:=0
def tw6407417492141395209:=0
def tw5916732798420021869:=0
def tw1955306163025074085:=0
def tw1611205086383214505:=0
def tw18157781557519447758:=0
def tw5311828510343997299:=0
def tw13774518420261328882:=0
def tw7521636519425657302:=0
def tw15143134884300862284:=0
def tw3370509288565097619:=0
def tw16080015943534903395:=0
def tw1690762149531504738:=0
def tw7507344888910134041:=0
def tw18037658236974247812:=0
def tw14238124318726310813:=0
def tw17733878418869572257:=0
def tw4354513896719812353:=0
def tw9960210187719034428:=0
def tw10099758140597056599:=0
def tw13729091060095976950:=0
def tw1571170457468198690:=0
def tw1301339648474244174:=0
def tw6725454444086350145:=0
def tw18134811095642130231:=0
def tw9304261232924171325:=0
def tw16775043696819312280:=0
def tw4918003082232892250:=0
def tw1899718994871478931:=0
def tw7268141310534600279:=0
def tw8099647225388670523:=0
def tw3219879852603214296:=0
def tw7201214812924799794:=0
def tw6510853430765925166:=0
def tw6044230298945712378:=0
def tw17824576017231784552:=0
def te17688400529258640065:=0
def tw1021580778254334513:=0
def tw7050551203155593134:=0
def tw1872168057007587762:=0
def tw1005991131418892236:=0
def tw7644096130235283973:=0
def tw17370104558642747514:=0
def tw72248584203470767:=0
def tw5203303316265018027:=0
def tw16543553776755804885:=0
def tw10525075505919736547:=0
def tw18367224067107206289:=0
def tw16114795654671635045:=0
def tw8899851958542194949:=0
def tw12664901687485730699:=0
def tw9624405467224739075:=0
def tw4678456769739972265:=0
def tw16984410600102846162:=0
def tw13244680774872599169:=0
def tw12486741037747285557:=0
def tw3894360069178150774:=0
def tw11688270087041819985:=0
def tw4991307723105076981:=0
def tw7625804018967782090:=0
def tw13180072483851793605:=0
def tw3570147785168218125:=0
def tw16414983528003502043:=0
def tw11275492211902990956:=0
def tw5908887016880882508:=0
def tw4195466564780496058:=0
def tw15836568442995924487:=0
def tw16114109949240304942:=0
def tw2072962862112119503:=0
def tw5672594575312065207:=0
def tw1414885625534958871:=0
def tw5229641316031489788:=0
def tw14110530307113119179:=0
end PySem.W.Fast
namespace L2
open PySem
variable {h h':Heap}{D:AI}{v:Value}{A:Around}{it a o b e l:Addr}{ob oe:Obj}{us vs items:AN}{Q:AA}{i:Nat}{x:Str}
inductive zO (h:Heap) (D:AI):Value->Prop
 | nil:zO h D .none
 | cons {b:Addr} {ob:Obj} {us:AN} {c:Value}:b∈D->h.get? b=some ob->ob.data=.fields us->us[2]?=some c->zO h D c->zO h D (.ref b)
theorem zO.kept {D':AI} (n:zO h D v) (k:∀b∈D,∀o,h.get? b=some o->h'.get? b=some o) (d:∀b∈D,b∈D'):zO h' D' v:=by
 induction n with
 | nil=>exact .nil
 | cons q1 q2 q3 q4 _ ih=>exact .cons (d _ q1) (k _ q1 _ q2) q3 q4 ih
theorem zO.small (n:zO h D v):∃D',zO h D' v/\∀b∈D',∃(o:Obj) (us:AN),h.get? b=some o/\o.data=.fields us/\2<us.size:=by
 induction n with
 | nil=>exact#[[],.nil,λb hb=>absurd hb (by simp)]
 | @cons b ob us c q1 q2 q3 q4 _ ih =>
  obtain⟨D',m,l⟩:=ih;refine#[b::D',.cons (by simp) q2 q3 q4 (m.kept (λ_ _ _ e=>e) λd hd=>yn _ hd),λd hd=>?_];rcases yr.mp hd with rfl|hd
  ·exact#[ob,us,q2,q3,(y9.mp q4).1]
  ·exact l d hd
def kZ (A:Around) (h:Heap) (D:AI):Prop:=A.handled=none\/∃ea:Addr,A.handled=some (.ref ea)/\zO h D (.ref ea)
def VX (A:Around) (h:Heap):Prop:=∃D,kZ A h D
theorem kZ.keptD (n:kZ A h D) (k:∀b∈D,∀o,h.get? b=some o->h'.get? b=some o):kZ A h' D:=by
 rcases n with z|⟨ea,h1,h2⟩
 ·exact .inl z
 ·exact .inr #[ea,h1,h2.kept k λ_ q=>q]
theorem VX.small (n:VX A h):∃D,kZ A h D/\∀b∈D,∃(o:Obj) (us:AN),h.get? b=some o/\o.data=.fields us/\2<us.size:=by
 obtain⟨D,n⟩:=n;rcases n with z|⟨ea,h1,h2⟩
 ·exact#[[],.inl z,λb hb=>absurd hb (by simp)]
 ·obtain⟨D',m,l⟩:=h2.small;exact#[D',.inr #[ea,h1,m],l]
theorem VX.but (n:VX A h) (k:Heap.SameBut it h h') (ne:∃(o:Obj) (us:AN),h.get? it=some o/\o.data=.fields us/\us.size<=2):VX A h':=by
 obtain⟨D,n,l⟩:=n.small;refine#[D,n.keptD λb hb o e=>(k.2 b λq=>?_).trans e];obtain⟨o1,HN,e1,e2,e3⟩:=l b hb;obtain⟨o2,C3,f1,f2,f3⟩:=ne;rw[q,f1] at e1;cases e1;rw[f2] at e2;cases e2;omega
theorem K9:entryFor table "proto.unchain"=some Builtin.«proto.unchain»:=entryFor_of_tree (by kernel_rfl)
section
variable {prog:AS}{w:World}{A:Around}{E:Ax}{s:Shared}
inductive ZZ (h:Heap):Addr->Addr->Prop
 | refl (a:Addr):ZZ h a a
 | step {a b o:Addr} {ob:Obj} {us:AN}:h.get? a=some ob->ob.data=.fields us->us[2]?=some (.ref b)->ZZ h b o->ZZ h a o
theorem ZZ.snoc (p:ZZ h a o) (h1:h.get? o=some ob) (h2:ob.data=.fields us) (h3:us[2]?=some (.ref b)):ZZ h a b:=by
 induction p with
 | refl a=>exact .step h1 h2 h3 (.refl b)
 | step q1 q2 q3 _ ih=>exact .step q1 q2 q3 (ih h1)
def xa (h:Heap) (a o:Addr):Prop:=∃(b:Addr) (ob:Obj) (us:AN),h.get? a=some ob/\ob.data=.fields us/\us[2]?=some (.ref b)/\ZZ h b o
theorem ZZ.far (p:ZZ h a o) (h1:h.get? o=some ob) (h2:ob.data=.fields us) (h3:us[2]?=some (.ref b)):xa h a b:=by
 cases p with
 | refl=>exact#[b,ob,us,h1,h2,h3,.refl b]
 | step q1 q2 q3 p=>exact#[_,_,_,q1,q2,q3,p.snoc h1 h2 h3]
theorem cL {R:Result->Shared->Prop} (new:e ∉ D) (h:R (.ok (.ret .none)) s) (n:zO s.heap D v):∀(o BI:Addr) (tg:Bool),v=.ref o->ZZ s.heap BI o->(tg=true->xa s.heap BI o) ->
  codeAny '#' A (.builtin "proto.unchain" #[[.ref e,.ref o,.ref BI,.bool tg],[]]) R s:=by
 induction n with
 | nil=>intro o BI tg q;cases q
 | @cons b ob us c q1 q2 q3 q4 m ih =>
  intro o BI tg q p far;cases q;refine codeAny_builtin K9 ?_;unfold Builtin.«proto.unchain»;dsimp only;refine AT (wpAny_field q2 q3 (x:=c) q4 ?_);cases m with
  | nil=>exact AU h
  | @cons b2 ob2 C3 c2 r1 r2 r3 r4 m2 =>
   have P4:b2≠e:=λq=>new (q▸r1);rw[if_neg (show ¬((Value.ref b2==Value.none)=true) from yt),if_neg (show ¬((Value.ref b2==Value.ref e)=true) by simpa using P4)];by_cases hs:b2=BI
   ·subst hs;rw[if_pos (by simp)];exact AT (wpAny_rule (AU h))
   ·rw[if_neg (show ¬((Value.ref b2==Value.ref BI)=true) by simpa using hs)];cases tg with
    | false=>exact AT (AU (AU #[Code.quiet_builtin _ (by decide +kernel),ih b2 BI true rfl (p.snoc q2 q3 q4) λ_=>p.far q2 q3 q4]))
    | true =>
     obtain⟨b3,ob3,us3,f1,f2,f3,p3⟩:=far rfl;exact AT (wpAny_field f1 f2 (x:=.ref b3) f3 (AU #[Code.quiet_builtin _ (by decide +kernel),ih b2 b3 false rfl (p3.snoc q2 q3 q4) λz=>by cases z]))
theorem lE {α:Type}{Q:α->Shared->Prop} (hn:kZ A s.heap D) (he:s.heap.get? e=some oe) (hd:oe.data=.fields vs) (h2:2<vs.size)
  (new:e ∉ D)
  (h:∀h',(h'=s.heap/\A.handled=none)\/(∃ea,A.handled=some (.ref ea)/\h'=s.heap.update e (Obj.mapFields (·.setIfInBounds 2 (.ref ea))))->Heap.SameBut e s.heap h'->(∃o,h'.get? e=some o/\o.cls=oe.cls)->E (.ref e) { s with heap:=h' }):wpAny '#' A (raiseNew (.ref e):Sem α) Q E s:=by
 unfold raiseNew;refine AT (wpAny_handled ?_);rcases hn with z|⟨ea,z,n⟩
 ·rw[z];exact AT (AU (wpAny_throw (h s.heap (.inl #[rfl,z]) #[rfl,λ_ _=>rfl] #[oe,he,rfl])))
 ·have ne:ea≠e:=λq=>by cases n with|cons q1=>exact new (q▸q1)
  rw[z];dsimp only;have Bk:(Value.ref ea != Value.ref e)=true:=by
   rw[bne_iff_ne];intro q;exact ne (Value.ref.inj q)
  rw[Bk];have wf:∀{P:Ay},P () { s with heap:=s.heap.update e (Obj.mapFields (·.setIfInBounds 2 (.ref ea))) }->wpAny '#' A (updateField e 2 (.ref ea)) P E s:=λ{P} q=>wpAny_setField he hd h2 q;refine AT (wpAny_holding (wpAny_runValue (cL new ?_ n ea ea false rfl (.refl ea) λz=>by cases z)));exact AT (wf (wpAny_throw (h _ (.inr #[ea,z,rfl]) (Heap.SameBut.update ..) #[_,y6 _ he (Obj.isFreed_of_fields (Obj.data_mapFields hd _)),Obj.cls_mapFields ..])))
theorem zf {α:Type}{Q:α->Shared->Prop} (hn:VX A s.heap) (h:∀h' e,(∀b o,s.heap.get? b=some o->h'.get? b=some o)->(∃o,h'.get? e=some o/\o.cls=.type "StopIteration")->E (.ref e) { s with heap:=h' }) :
  wpAny '#' A (newExc (.type "StopIteration") []>>=λx=>(raiseNew x:Sem α)) Q E s:=by
 refine AT ?_;unfold newExc newTuple;refine AT (wpAny_newObj_type ?_ (by show 0<=sizeLine;decide));refine AT (m:=firstArgMember (.type "StopIteration") []) (wpAny_of_eq (a:=Value.none) rfl (wpAny_newObj_type ?_ (by size_fits)));generalize hp:s.heap.push _=h1;have k1:∀b o,s.heap.get? b=some o->h1.get? b=some o:=λb o e=>hp▸yd _ e;have k2:∀ob b o,h1.get? b=some o->(h1.push ob).get? b=some o:=λob b o e=>yd _ e;obtain⟨D,nD,lD⟩:=hn.small;refine lE (e:=h1.objs.size) (vs:=_) (D:=D) ((nD.keptD λb _ o e=>k1 b o e).keptD λb _ o e=>k2 _ b o e) (yo _ rfl) rfl (by show 2<6;decide) (λq=>?_) λh' _ sb ex=>h h' _ (λb o e=>(sb.2 b ?_).trans (k2 _ b o (k1 b o e))) ex
 ·obtain⟨o,_,eo,_⟩:=lD _ q;exact absurd (ym (k1 _ _ eo)) (QI _)
 ·exact yx (ym (k1 b o e))
theorem zg (ex:∃o,s.heap.get? e=some o/\o.cls=.type "StopIteration") (h:Q none s) :
  wpAny '#' A (do if (<-isInstance (.ref e) (.type "StopIteration"))=true then pure (none:Option Value) else throw (.ref e)) Q E s:=by
 obtain⟨o,h1,h2⟩:=ex;refine AT (wpAny_isInstance (T:="StopIteration") (b:=true) #[o,h1,h2] isSubtype_stop ?_);exact AU h
theorem aB (hn:VX A s.heap) (hit:s.heap.IsListIter it l i) (hl:s.heap.IsList l items) (hx:items[i]?=none)
  (hQ:∀h',Heap.ExtBut it s.heap h'->Q none { s with heap:=h' }):wpAny '#' A (pyNext (.ref it)) Q E s:=by
 obtain⟨o,ho,hc,hd⟩:=id hit;obtain⟨ol,Dp,_,nl,Dq⟩:=hl;unfold pyNext;refine AT (wpAny_attempt (wpAny_callSpecial?_slot (name:=Str.ofString "__next__") hit.typeIs slot_listiter_next (wpAny_call_entry slot_listiter_next hit.typeIs entry_listiter_next ?_ (args_listiter_next _))));refine (show ∀{R:Fin->Shared->Prop} {F:Ax},wpAny '#' A.in1 (field (.ref it) 0>>=_) R F s->wpAny '#' A.in1 (Builtin.«list_iterator.__next__» _) R F s from λz=>z) (AT (wpAny_field ho hd (x:=.ref l) rfl ?_));rw[if_neg (show ¬((Value.ref l==Value.none)=true) from yt)];refine AT (wpAny_field (i:=1) ho hd (x:=.int i 0) rfl (AT (wpAny_seqItems Dp Dq ?_)));simp only[Qg,hx];refine AT (wpAny_rule (AT (wpAny_setField ho hd (by simp) ?_)));have sb:Heap.SameBut it s.heap (s.heap.update it (Obj.mapFields (·.setIfInBounds 0 .none))):=Heap.SameBut.update ..;refine zf (A:=A.in1) (s:={ s with heap:=_ }) (hn.but sb #[o,_,ho,hd,by simp]) λh' e k ex=>zg (s:={ s with heap:=h' }) ex (hQ h' λb o hb q=>k b o ((sb.2 b hb).trans q))
theorem lX (hn:VX A s.heap) (hit:s.heap.IsTupleIter it l i) (hl:s.heap.IsTuple l items) (hx:items[i]?=none)
  (hQ:∀h',Heap.ExtBut it s.heap h'->Q none { s with heap:=h' }):wpAny '#' A (pyNext (.ref it)) Q E s:=by
 obtain⟨o,ho,hc,hd⟩:=id hit;obtain⟨ol,Dp,_,nl,Dq⟩:=hl;unfold pyNext;refine AT (wpAny_attempt (wpAny_callSpecial?_slot (name:=Str.ofString "__next__") hit.typeIs F.slot_tuple_iterator_next (wpAny_call_entry F.slot_tuple_iterator_next hit.typeIs F.entry_tuple_iterator_next ?_ (F.args_tuple_iterator_next_1 _))));refine (show ∀{R:Fin->Shared->Prop} {F:Ax},wpAny '#' A.in1 (field (.ref it) 0>>=_) R F s->wpAny '#' A.in1 (Builtin.«tuple_iterator.__next__» _) R F s from λz=>z) (AT (wpAny_field ho hd (x:=.ref l) rfl ?_));rw[if_neg (show ¬((Value.ref l==Value.none)=true) from yt)];refine AT (wpAny_field (i:=1) ho hd (x:=.int i 0) rfl (AT (wpAny_seqItems Dp Dq ?_)));simp only[Qg,hx];refine AT (wpAny_rule (AT (wpAny_setField ho hd (by simp) ?_)));have sb:Heap.SameBut it s.heap (s.heap.update it (Obj.mapFields (·.setIfInBounds 0 .none))):=Heap.SameBut.update ..;refine zf (A:=A.in1) (s:={ s with heap:=_ }) (hn.but sb #[o,_,ho,hd,by simp]) λh' e k ex=>zg (s:={ s with heap:=h' }) ex (hQ h' λb o hb q=>k b o ((sb.2 b hb).trans q))
theorem lG {x left step:Int} (hn:VX A s.heap) (hit:IsRangeIter s.heap it x left step) (Fc:left<=0)
  (hQ:∀h',Heap.ExtBut it s.heap h'->Q none { s with heap:=h' }):wpAny '#' A (pyNext (.ref it)) Q E s:=by
 have hT:s.TypeIs (.ref it) "range_iterator":=#[_,hit,rfl];unfold pyNext;refine AT (wpAny_attempt (wpAny_callSpecial?_slot (name:=Str.ofString "__next__") hT F.slot_range_iterator_next (wpAny_call_entry F.slot_range_iterator_next hT F.entry_range_iterator_next ?_ (F.args_range_iterator_next_1 _))));refine (show ∀{R:Fin->Shared->Prop} {F:Ax},wpAny '#' A.in1 (field (.ref it) 0>>=_) R F s->wpAny '#' A.in1 (Builtin.«range_iterator.__next__» _) R F s from λz=>z) (AT (wpAny_field hit rfl (x:=rawInt x) rfl ?_));refine (show ∀{k:Value->Sem Fin} {R:Fin->Shared->Prop} {F:Ax},wpAny '#' A.in1 (k (rawInt left)) R F s->wpAny '#' A.in1 (field (.ref it) 1>>=k) R F s from λz=>AT (wpAny_field hit rfl (x:=rawInt left) rfl z)) ?_;refine (show ∀{k:Value->Sem Fin} {R:Fin->Shared->Prop} {F:Ax},wpAny '#' A.in1 (k (rawInt step)) R F s->wpAny '#' A.in1 (field (.ref it) 2>>=k) R F s from λz=>AT (wpAny_field hit rfl (x:=rawInt step) rfl z)) ?_;refine (show ∀{a b:Sem Fin} {R:Fin->Shared->Prop} {F:Ax},wpAny '#' A.in1 a R F s->wpAny '#' A.in1 (if left<=0 then a else b) R F s from λz=>by rw[if_pos Fc];exact z) ?_;refine AT (wpAny_rule (AT ?_));exact zf (A:=A.in1) hn λh' e k ex=>zg (s:={ s with heap:=h' }) ex (hQ h' λb o _ q=>k b o q)
theorem io {t:Tok} (hn:VX A s.heap) (hit:s.heap.IsStrIter it "str_ascii_iterator" x t i) (hx:x.cps[i]?=none)
  (hQ:∀h',Heap.ExtBut it s.heap h'->Q none { s with heap:=h' }):wpAny '#' A (pyNext (.ref it)) Q E s:=by
 obtain⟨o,ho,hc,hd⟩:=id hit;unfold pyNext;refine AT (wpAny_attempt (wpAny_callSpecial?_slot (name:=Str.ofString "__next__") hit.typeIs F.slot_str_ascii_iterator_next (wpAny_call_entry F.slot_str_ascii_iterator_next hit.typeIs F.entry_str_ascii_iterator_next ?_ (F.args_str_ascii_iterator_next_1 _))));refine (show ∀{R:Fin->Shared->Prop} {F:Ax},wpAny '#' A.in1 (field (.ref it) 0>>=_) R F s->wpAny '#' A.in1 (Builtin.«str_ascii_iterator.__next__» _) R F s from λz=>z) (AT (wpAny_field ho hd (x:=.str x t) rfl ?_));refine AT (wpAny_of_eq (a:=some x) rfl ?_);refine AT (wpAny_field (i:=1) ho hd (x:=.int i 0) rfl ?_);simp only[Qg,hx];refine AT (wpAny_rule (AT (wpAny_setField ho hd (by simp) (AT (wpAny_letGo ?_)))));have sb:Heap.SameBut it s.heap (s.heap.update it (Obj.mapFields (·.setIfInBounds 0 .none))):=Heap.SameBut.update ..;refine zf (A:=A.in1) (s:={ s with heap:=_ }) (hn.but sb #[o,_,ho,hd,by simp]) λh' e k ex=>zg (s:={ s with heap:=h' }) ex (hQ h' λb o hb q=>k b o ((sb.2 b hb).trans q))
theorem rm {t:Tok} (hn:VX A s.heap) (hit:s.heap.IsStrIter it "str_iterator" x t i) (hx:x.cps[i]?=none)
  (hQ:∀h',Heap.ExtBut it s.heap h'->Q none { s with heap:=h' }):wpAny '#' A (pyNext (.ref it)) Q E s:=by
 obtain⟨o,ho,hc,hd⟩:=id hit;unfold pyNext;refine AT (wpAny_attempt (wpAny_callSpecial?_slot (name:=Str.ofString "__next__") hit.typeIs F.slot_str_iterator_next (wpAny_call_entry F.slot_str_iterator_next hit.typeIs F.entry_str_iterator_next ?_ (F.args_str_iterator_next_1 _))));refine (show ∀{R:Fin->Shared->Prop} {F:Ax},wpAny '#' A.in1 (field (.ref it) 0>>=_) R F s->wpAny '#' A.in1 (Builtin.«str_iterator.__next__» _) R F s from λz=>z) (AT (wpAny_field ho hd (x:=.str x t) rfl ?_));refine AT (wpAny_of_eq (a:=some x) rfl ?_);refine AT (wpAny_field (i:=1) ho hd (x:=.int i 0) rfl ?_);simp only[Qg,hx];refine AT (wpAny_rule (AT (wpAny_setField ho hd (by simp) (AT (wpAny_letGo ?_)))));have sb:Heap.SameBut it s.heap (s.heap.update it (Obj.mapFields (·.setIfInBounds 0 .none))):=Heap.SameBut.update ..;refine zf (A:=A.in1) (s:={ s with heap:=_ }) (hn.but sb #[o,_,ho,hd,by simp]) λh' e k ex=>zg (s:={ s with heap:=h' }) ex (hQ h' λb o hb q=>k b o ((sb.2 b hb).trans q))
theorem og (I ax:Addr) (Bk:ax≠I) (D:AI) (hI:I ∉ D) (items:AN) :
  Walks prog w A I ([I,ax]++D) [I] items.size (λi v=>items[i]?=some v) (λi h=>(h.IsListIter I ax i/\h.IsList ax items)/\kZ A h D) where
 sub:=λb hb=>by simp at hb;simp [hb]
 frame:=λi h h' st k=>#[#[st.1.1.at λo e=>k I (by simp) o e,st.1.2.at λo e=>k ax (by simp) o e],st.2.keptD λb hb o e=>k b (by simp [hb]) o e]
 item:=λi s Q E hi st hQ=>by
  refine wpAny_pyNext_list_item st.1.1 st.1.2 (x:=items[i]) (by simp [hi]) λh' HP sb=>?_;refine hQ _ h' s.toks (by simp [hi]) #[#[HP,st.1.2.extBut sb.extBut Bk],st.2.keptD λb hb o e=>(sb.2 b λq=>hI (q▸hb)).trans e] λb o hb e=>(sb.2 b λq=>hb (by simp [q])).trans e
 done:=λs Q E st hQ=>aB #[D,st.2] st.1.1 st.1.2 (by simp) λh' k=>hQ h' s.toks λb o hb e=>k b o (λq=>hb (by simp [q])) e
 self:=λ_ _ _ _ st hQ=>wpAny_pyIter_listiter st.1.1 hQ
theorem sy {xs:Array (Int×Tok)}{Q:Ax} (hn:VX A s.heap) (hl:s.heap.IsList l (intItems xs)) (Bk:0<xs.size)
  (h:∀v h' tk,(intItems xs)[argBest (λi j=>decide (numAt xs i<numAt xs j)) (xs.size - 1)]?=some v->(∀b o,s.heap.get? b=some o->h'.get? b=some o)->Q v { s with heap:=h',toks:=tk }) :
  wpAny '#' A (call (.builtin "min") [.ref l]) Q E s:=by
 obtain⟨D,nD,lD⟩:=hn.small;have AX:∀b∈D,b<s.heap.objs.size:=λb hb=>let ⟨_,_,e,_⟩:=lD b hb;ym e
 refine call_min_walk (iter_intList hl λs2 e st P5 P6=>?_);subst e;have nI:s.heap.objs.size ∉ D:=λz=>absurd (AX _ z) (QI _);refine#[_,_,_,_,_,_,_,rfl,og (A:=A.in1) s.heap.objs.size l P6 D nI (intItems xs),#[st,kZ.keptD (A:=A.in1) nD λb _ o e=>yd _ e],λb hb=>?_,by simpa [intItems] using Bk,CmpOf.ints_lt (numAt xs) (λ_ _=>intItems_at),λv h' tk hP hk=>?_]
 ·rcases yL.mp hb with z|z
  ·exact P5 b z
  ·rw[Qs];exact Qw (AX b z)
 ·exact h v h' tk (by simpa [intItems] using hP) (old_kept hk)
end
def oB (h base:Heap) (e:Addr) (cls:Value) (a0:Value×Value) (fl:Value):Prop :=
 ∃oe vs T oT ts,h.get? e=some oe/\(oe.cls=cls/\vs[0]?=some a0.1/\vs[2]?=some a0.2)/\oe.data=.fields vs/\vs[1]?=some (.ref T)/\base.get? T=none/\T≠e/\h.get? T=some oT/\oT.data=.fields ts/\ts[3]?=some fl
structure gZ (base:Heap) (l:List Env) (e:Addr) (cls:Value) (a0:Value×Value) (fl:Value) (h h':Heap):Prop where
 st:base.StaysIn h'
 ff:h'.FunFrames base l
 tr:oB h' base e cls a0 fl
 up:h.UpToSlots h'
section
variable {M:Model}{A:Around}{E:Ax}{s:Shared}{base:Heap}{env:Env}{outer:List Env}{L e:Addr}{cls:Value}{a0:Value×Value}
theorem pV {head:Value}{Ds:Bool}{Q:Ay} (D9:A.frames=some (env::outer)) (hl:s.heap.FunFrames base (env::outer)) (hf:env.frame=some L)
  (he:s.heap.get? e=some oe) (Ea:base.StaysIn s.heap) (Fd:base.get? e=none) (hd:oe.data=.fields vs) (hsz:1<vs.size) (h0:vs[0]?=some a0.1) (h2:vs[2]?=some a0.2)
  (h:∀h',gZ base (env::outer) e oe.cls a0 (rawInt L) s.heap h'->Q () { s with heap:=h' }) :
  wpAny M A (do let a <-frameOf env;let pl <-entryPlaceOf L Ds;let b <-EntryCells.newEntry head a .none (rawInt L) .none pl;setField (.ref e) 1 b) Q E s:=by
 have Eb:∀b o,s.heap.get? b=some o->(∀us,o.data≠.fields us)->b≠e:=λb o hb hn q=>by
  subst q;rw[he] at hb;cases hb;exact hn vs hd
 have P7:e ∉ (env::outer).filterMap (·.frame):=λhm=>by
  obtain⟨_,o,ho,hn⟩:=hl.mem hm;exact Eb e o ho hn rfl
 refine AT (wpAny_frameOf_fun D9 hl hf λg hg=>AT (wpAny_entryPlaceOf λpl Ba=>?_));unfold EntryCells.newEntry newFields;refine AT (wpAny_newObj_type ?_ (Ba.sizeOk5 _ _ _ _ _));generalize ho:(Obj.mk (.type "traceback") none (.fields ([head,.ref L,.none,rawInt L,.none]++(if pl.isEmpty then List.replicate 6 Value.none else pl)).toArray) (List.toArray []))=ot;have C6:ot.data=.fields ([head,.ref L,.none,rawInt L,.none]++(if pl.isEmpty then List.replicate 6 Value.none else pl)).toArray:=by rw[<-ho]
 have eg:g.get? e=some oe:=(hg.2.1 e P7).trans he;have bg:base.StaysIn g:=λb o hb=>(hg.2.1 b λhm=>by rw[(hl.mem hm).1] at hb;cases hb).trans (Ea b o hb);have nT:g.objs.size≠e:=Qe (ym eg);have e2:(g.push ot).get? e=some oe:=yd _ eg;refine wpAny_setField e2 hd hsz (h _ ?_);have d3:=Obj.data_mapFields hd (·.setIfInBounds 1 (Value.ref g.objs.size));have e3:=y6 (Obj.mapFields (·.setIfInBounds 1 (Value.ref g.objs.size))) e2 (Obj.isFreed_of_fields d3);have keep:∀b o,b≠e->g.get? b=some o->((g.push ot).update e (Obj.mapFields (·.setIfInBounds 1 (Value.ref g.objs.size)))).get? b=some o:=λb o hb q=>by
  rw[yM _ _ (yZ hb)];exact yd _ q
 have T3:((g.push ot).update e (Obj.mapFields (·.setIfInBounds 1 (Value.ref g.objs.size)))).get? g.objs.size=some ot:=by
  rw[yM _ _ (yZ nT)];exact yo g (by rw[<-ho];rfl)
 refine#[λb o hb=>keep b o (λq=>by rw[q,Fd] at hb;cases hb) (bg b o hb),hl.of_keeps λb o hb hn=>?_,#[_,_,g.objs.size,ot,_,e3,#[Obj.cls_mapFields _ _,?_,?_],d3,by simp [hsz],bg.fresh,nT,T3,C6,?_],λb o hb hn=>?_]
 ·obtain⟨sl,q⟩:=hg.2.2 b o hb;exact#[_,keep b _ (Eb b o hb hn) q,rfl]
 ·rw[Array.getElem?_setIfInBounds_ne '$'];exact h0
 ·rw[Array.getElem?_setIfInBounds_ne '$'];exact h2
 ·first|(simp;done)|(rcases Ba with rfl|⟨_,_,_,_,_,_,_,rfl⟩<;>simp)
 ·obtain⟨sl,q⟩:=hg.2.2 b o hb;exact#[sl,keep b _ (Eb b o hb hn) q]
theorem iE {l:List Env}{fl:Value}{Q:Ay} (Ea:base.StaysIn s.heap) (hl:s.heap.FunFrames base l) (ht:oB s.heap base e cls a0 fl)
  (h:∀h',gZ base l e cls a0 .none s.heap h'->(∀b o,s.heap.get? b=some o->(∀us,o.data≠.fields us)->h'.get? b=some o)->Q () { s with heap:=h' }):wpAny M A (setFlight (.ref e) none) Q E s:=by
 obtain⟨oe,vs,T,oT,ts,he,hc,hd,h1,F7,F8,hT,DJ,h3⟩:=ht;have z3:3<ts.size:=(y9.mp h3).1;have Cb:∀b o,s.heap.get? b=some o->(∀us,o.data≠.fields us)->T≠b:=λb o hb hn q=>by
  subst q;rw[hT] at hb;cases hb;exact hn ts DJ
 unfold setFlight;refine AT (wpAny_field he hd h1 ?_);rw[if_pos (show (Value.ref T != Value.none)=true by simp)];refine wpAny_setField hT DJ z3 (h _ #[λb o hb=>?_,hl.of_keeps λb o hb hn=>#[o,?_,rfl],#[oe,vs,T,_,_,?_,hc,hd,h1,F7,F8,y6 _ hT (Obj.isFreed_of_fields (Obj.data_mapFields DJ _)),Obj.data_mapFields DJ _,by simp [z3]],λb o hb hn=>#[o.slots,?_]] λb o hb hn=>?_)
 ·rw[yM _ _ (λq=>by rw[<-q,F7] at hb;cases hb)];exact Ea b o hb
 ·rw[yM _ _ (Cb b o hb hn)];exact hb
 ·rw[yM _ _ F8];exact he
 ·rw[yM _ _ (Cb b o hb hn)];exact hb
 ·rw[yM _ _ (Cb b o hb hn)];exact hb
theorem eB {Q:Ay} (D9:A.frames=some (env::outer)) (hl:s.heap.FunFrames base (env::outer)) (hf:env.frame=some L) (ht:oB s.heap base e cls a0 .none) (Ea:base.StaysIn s.heap) (Fd:base.get? e=none)
  (h:∀h',gZ base (env::outer) e cls a0 (rawInt L) s.heap h'->Q () { s with heap:=h' }):wpAny M A (noteFrame (.ref e) env) Q E s:=by
 obtain⟨oe,vs,T,oT,ts,he,⟨hc,h0,h2⟩,hd,h1,F7,F8,hT,DJ,h3⟩:=ht;subst hc;have Cb:∀b o,s.heap.get? b=some o->(∀us,o.data≠.fields us)->T≠b:=λb o hb hn q=>by
  subst q;rw[hT] at hb;cases hb;exact hn ts DJ
 unfold noteFrame;simp only[hf];refine AT (wpAny_field he hd h1 ?_);rw[if_pos (show (Value.ref T != Value.none)=true by simp)];refine AT (wpAny_field hT DJ h3 ?_);rw[if_neg (show ¬((Value.none==rawInt L)=true) by simp [rawInt])];refine AT (wpAny_setField hT DJ (y9.mp h3).1 ?_)
 refine pV (s:={ s with heap:=_ }) D9 (hl.of_keeps λb o hb hn=>#[o,by rw[yM _ _ (Cb b o hb hn)];exact hb,rfl]) hf (by rw[yM _ _ F8];exact he) (λb o hb=>by
  rw[yM _ _ (λq=>by rw[<-q,F7] at hb;cases hb)];exact Ea b o hb) Fd hd (y9.mp h1).1 h0 h2 λh' S=>h h' #[S.st,S.ff,S.tr,λb o hb hn=>S.up b o (by rw[yM _ _ (Cb b o hb hn)];exact hb) hn]
theorem ca {Q:Ay} (D9:A.frames=some (env::outer)) (hl:s.heap.FunFrames base (env::outer)) (hf:env.frame=some L) (ht:oB s.heap base e cls a0 .none) (Ea:base.StaysIn s.heap) (Fd:base.get? e=none)
  (h:∀h',gZ base (env::outer) e cls a0 .none s.heap h'->Q () { s with heap:=h' }):wpAny M A (leaving env (.ref e)) Q E s:=by
 unfold leaving;refine AT (eB D9 hl hf ht Ea Fd λh1 S=>iE (s:={ s with heap:=h1 }) S.st S.ff S.tr λh2 S2 _=>h h2 #[S2.st,S2.ff,S2.tr,S.up.trans S2.up])
end
end L2
namespace L2
open PySem PySem.Spec PyProof.Rows
variable {xs vs:List V}{us:AH}{H:Hp}{o:HO}{P:AS}{h:Heap}{l e tg:Expr}{c cm:Bool}{g':Array GenState}{t' n:Nat}{d':Drawn}{ch fp:AI}{it C dx:Addr}{E Q:Ax}{X:Cx}{s:Shared}{tb:TS}{σ:St}{R:V->V->Hp->Prop}{y:V}{tc:TT}{es:AO}{te tl:TE}{g:TG}{body:List Stmt}{lo:Int}{pl:Sem Bool}{D:vX}{r:R2}{f:Value->Value->Sem Value}{mA:AE}{kw:List (Str×Value)}{ps:AM}{kindOf:Str->Option NameKind}{CX:gU}{qual:Str}{scope:Scope}
section
set_option genSizeOf false
set_option genInjectivity false
inductive E2 {α0 α1:Type} (p:α0->α1->Prop):Prop
 | mk (x0:α0) (x1:α1) (h:p x0 x1):E2 p
inductive E3 {α0 α1 α2:Type} (p:α0->α1->α2->Prop):Prop
 | mk (x0:α0) (x1:α1) (x2:α2) (h:p x0 x1 x2):E3 p
inductive E4 {α0 α1 α2 α3:Type} (p:α0->α1->α2->α3->Prop):Prop
 | mk (x0:α0) (x1:α1) (x2:α2) (x3:α3) (h:p x0 x1 x2 x3):E4 p
inductive E5 {α0 α1 α2 α3 α4:Type} (p:α0->α1->α2->α3->α4->Prop):Prop
 | mk (x0:α0) (x1:α1) (x2:α2) (x3:α3) (x4:α4) (h:p x0 x1 x2 x3 x4):E5 p
inductive E6 {α0 α1 α2 α3 α4 α5:Type} (p:α0->α1->α2->α3->α4->α5->Prop):Prop
 | mk (x0:α0) (x1:α1) (x2:α2) (x3:α3) (x4:α4) (x5:α5) (h:p x0 x1 x2 x3 x4 x5):E6 p
inductive E7 {α0 α1 α2 α3 α4 α5 α6:Type} (p:α0->α1->α2->α3->α4->α5->α6->Prop):Prop
 | mk (x0:α0) (x1:α1) (x2:α2) (x3:α3) (x4:α4) (x5:α5) (x6:α6) (h:p x0 x1 x2 x3 x4 x5 x6):E7 p
inductive E8 {α0 α1 α2 α3 α4 α5 α6 α7:Type} (p:α0->α1->α2->α3->α4->α5->α6->α7->Prop):Prop
 | mk (x0:α0) (x1:α1) (x2:α2) (x3:α3) (x4:α4) (x5:α5) (x6:α6) (x7:α7) (h:p x0 x1 x2 x3 x4 x5 x6 x7):E8 p
inductive E9 {α0 α1 α2 α3 α4 α5 α6 α7 α8:Type} (p:α0->α1->α2->α3->α4->α5->α6->α7->α8->Prop):Prop
 | mk (x0:α0) (x1:α1) (x2:α2) (x3:α3) (x4:α4) (x5:α5) (x6:α6) (x7:α7) (x8:α8) (h:p x0 x1 x2 x3 x4 x5 x6 x7 x8):E9 p
inductive kW {α0 α1 α2 α3 α4 α5 α6 α7 α8 α9:Type} (p:α0->α1->α2->α3->α4->α5->α6->α7->α8->α9->Prop):Prop
 | mk (x0:α0) (x1:α1) (x2:α2) (x3:α3) (x4:α4) (x5:α5) (x6:α6) (x7:α7) (x8:α8) (x9:α9) (h:p x0 x1 x2 x3 x4 x5 x6 x7 x8 x9):kW p
structure A3 (a0 a1 a2:Prop):Prop where
 mk ::
 h0:a0
 h1:a1
 h2:a2
structure A4 (a0 a1 a2 a3:Prop):Prop where
 mk ::
 h0:a0
 h1:a1
 h2:a2
 h3:a3
structure A5 (a0 a1 a2 a3 a4:Prop):Prop where
 mk ::
 h0:a0
 h1:a1
 h2:a2
 h3:a3
 h4:a4
structure A6 (a0 a1 a2 a3 a4 a5:Prop):Prop where
 mk ::
 h0:a0
 h1:a1
 h2:a2
 h3:a3
 h4:a4
 h5:a5
structure A7 (a0 a1 a2 a3 a4 a5 a6:Prop):Prop where
 mk ::
 h0:a0
 h1:a1
 h2:a2
 h3:a3
 h4:a4
 h5:a5
 h6:a6
structure A8 (a0 a1 a2 a3 a4 a5 a6 a7:Prop):Prop where
 mk ::
 h0:a0
 h1:a1
 h2:a2
 h3:a3
 h4:a4
 h5:a5
 h6:a6
 h7:a7
structure A9 (a0 a1 a2 a3 a4 a5 a6 a7 a8:Prop):Prop where
 mk ::
 h0:a0
 h1:a1
 h2:a2
 h3:a3
 h4:a4
 h5:a5
 h6:a6
 h7:a7
 h8:a8
structure rz (a0 a1 a2 a3 a4 a5 a6 a7 a8 a9:Prop):Prop where
 mk ::
 h0:a0
 h1:a1
 h2:a2
 h3:a3
 h4:a4
 h5:a5
 h6:a6
 h7:a7
 h8:a8
 h9:a9
end
abbrev Key:=Sum Int Str
def ur:Key->Value->Bool
 | .inl k,v=>Value.isInt k v
 | .inr x,v=>Value.isStrOf x v
def xD (w:World):Key->Int
 | .inl k=>hashInt k
 | .inr x=>hashStr w x
theorem Jl:∀{k:Key} {v:Value},ur k v=true->(∃i t,k=Sum.inl i/\v=Value.int i t)\/(∃x t,k=Sum.inr x/\v=Value.str x t)
 | .inl i,v,h=>by
  obtain⟨t,e⟩:=Value.isInt_shape (k:=i) (v:=v) h;exact .inl #[i,t,rfl,e]
 | .inr x,v,h=>by
  obtain⟨t,e⟩:=Value.isStrOf_shape (x:=x) (v:=v) h;exact .inr #[x,t,rfl,e]
theorem KB (i:Int) (t:Tok):ur (.inl i) (.int i t)=true:=by simp [ur,Value.isInt]
theorem KC (x:Str) (t:Tok):ur (.inr x) (.str x t)=true:=by simp [ur,Value.isStrOf]
theorem si (a b:Int):decide ((Sum.inl a:Key)=Sum.inl b)=(a==b):=by
 by_cases e:a=b
 ·subst e;simp
 ·have h:¬(Sum.inl a:Key)=Sum.inl b:=λq=>e (Sum.inl.inj q);rw[decide_eq_false h];exact (beq_eq_false_iff_ne.mpr e).symm
theorem su (a b:Str):decide ((Sum.inr a:Key)=Sum.inr b)=decide (a=b):=by
 by_cases e:a=b
 ·subst e;simp
 ·have h:¬(Sum.inr a:Key)=Sum.inr b:=λq=>e (Sum.inr.inj q);rw[decide_eq_false h,decide_eq_false e]
theorem sj (a:Int) (b:Str):decide ((Sum.inl a:Key)=Sum.inr b)=false:=decide_eq_false (λq=>nomatch q)
theorem sq (a:Str) (b:Int):decide ((Sum.inr a:Key)=Sum.inl b)=false:=decide_eq_false (λq=>nomatch q)
def jr (prog:AS) (w:World):PySem.KeyKind prog w Key where
 is:=ur
 hash:=xD w
 inj:=λv a b ha hb=>by
  rcases Jl ha with ⟨i,t,rfl,rfl⟩|⟨x,t,rfl,rfl⟩
  ·rcases Jl hb with ⟨j,u,rfl,e⟩|⟨y,u,rfl,e⟩
   ·injection e with e1 _;rw[e1]
   ·exact nomatch e
  ·rcases Jl hb with ⟨j,u,rfl,e⟩|⟨y,u,rfl,e⟩
   ·exact nomatch e
   ·injection e with e1 _;rw[e1]
 byValue:=λk v h=>by
  rcases Jl h with ⟨i,t,rfl,rfl⟩|⟨x,t,rfl,rfl⟩<;>rfl
 pyHash:=λhv h=>by
  rcases Jl hv with ⟨i,t,rfl,rfl⟩|⟨x,t,rfl,rfl⟩
  ·exact wpAny_pyHash_int h
  ·exact wpAny_pyHash_str h
 eqBool:=λhu hv h=>by
  rcases Jl hu with ⟨i,t,rfl,rfl⟩|⟨x,t,rfl,rfl⟩
  ·rcases Jl hv with ⟨j,u,rfl,rfl⟩|⟨y,u,rfl,rfl⟩
   ·rw[si] at h;exact wpAny_eqBool_int h
   ·rw[sj] at h;exact SeqAt.EqAt.int_str i t y u _ _ _ _ h
  ·rcases Jl hv with ⟨j,u,rfl,rfl⟩|⟨y,u,rfl,rfl⟩
   ·rw[sq] at h;exact SeqAt.EqAt.str_int x t j u _ _ _ _ h
   ·rw[su] at h;exact wpAny_eqBool_str h
 «strs»:=λk x t v h=>by
  rcases Jl h with ⟨i,u,rfl,e⟩|⟨y,u,rfl,e⟩
  ·exact nomatch e
  ·injection e with e1 _
   subst e1;cases v<;>rfl
theorem NN (prog:AS) (w:World) (i:Int) (t:Tok):(jr prog w).is (.inl i) (.int i t)=true:=KB i t
theorem NO (prog:AS) (w:World) (x:Str) (t:Tok):(jr prog w).is (.inr x) (.str x t)=true:=KC x t
inductive V where
 | non|bl (b:Bool)|int (i:Int)|str (x:Str)|byt (b:Array UInt8)|flt (b:UInt64)|ref (a:Addr)|ty (n:String)
 deriving DecidableEq
def jE:V->Value->Prop
 | .non,u=>u=Value.none
 | .bl b,u=>u=Value.bool b
 | .int i,u=>∃t,u=Value.int i t
 | .str x,u=>∃t,u=Value.str x t
 | .byt b,u=>∃t,u=Value.bytes b t
 | .flt b,u=>∃t,u=Value.float b t
 | .ref a,u=>u=Value.ref a
 | .ty n,u=>u=Value.type n
abbrev jz:List V->List Value->Prop:=Paired jE
theorem jz.length (r:jz xs us):xs.length=us.length:=Paired.length r
theorem jz.get:∀{xs:List V} {us:AH} {i:Nat} {x:V},jz xs us->xs[i]?=some x->∃u,us[i]?=some u/\jE x u
 | _,_,_,_,.nil,e=>by simp at e
 | _,_,0,_,.cons r _,e=>by simp at e;subst e;exact#[_,rfl,r]
 | _,_,i+1,x,.cons _ t,e=>by
  obtain⟨u,h1,h2⟩:=jz.get (i:=i) (x:=x) t (by simpa using e);exact#[u,by simpa using h1,h2]
theorem jz.append:∀{xs ys:List V} {us ws:AH},jz xs us->jz ys ws->jz (xs++ys) (us++ws)
 | _,_,_,_,.nil,s=>s
 | _,_,_,_,.cons r t,s=>.cons r (jz.append t s)
theorem jz.take:∀{xs:List V} {us:AH} (n:Nat),jz xs us->jz (xs.take n) (us.take n)
 | _,_,0,_=>.nil
 | _,_,_+1,.nil=>.nil
 | _,_,n+1,.cons r t=>.cons r (jz.take n t)
theorem jz.drop:∀{xs:List V} {us:AH} (n:Nat),jz xs us->jz (xs.drop n) (us.drop n)
 | _,_,0,r=>r
 | _,_,_+1,.nil=>.nil
 | _,_,n+1,.cons _ t=>jz.drop n t
def Uq:Option V->Option Value->Prop
 | some v,some u=>jE v u
 | none,none=>True
 | _,_=>False
def KV {κ:Type}:List (κ×V)->List (κ×Value)->Prop:=Paired λ(p:κ×V) (q:κ×Value)=>p.1=q.1/\jE p.2 q.2
def kV:Key->V
 | .inl i=>.int i
 | .inr x=>.str x
inductive HO where
 | lst (xs:List V)
 | tup (xs:List V)
 | dK (kvs:List (Key×V))|dT (kvs:List (List Key×V))
 | set (S:Int->Bool) (n:Nat)
 | ins (C dx:Addr) (fs:List (Str×V))
 | own (x:Addr)
 | xd (fs:List (Str×V))
 | met (f x:Addr)
 | rng (lo hi:Int)
 | frz (o:Obj) (u:HO)
 | tbl (ps:AN)
 | ext (φ:Heap->Prop)
abbrev Hp:=Addr->Option HO
def upd (H:Hp) (a:Addr) (o:HO):Hp:=λb=>if b=a then some o else H b
theorem jc {a:Addr}:upd H a o a=some o:=by unfold upd;rw[if_pos rfl]
theorem jw {a b:Addr} (h:b≠a):upd H a o b=H b:=by unfold upd;rw[if_neg h]
theorem jq {a b:Addr}{x:Option HO} (n:b≠a) (e:H b=x):upd H a o b=x:=by rw[jw n];exact e
theorem rj {a:Addr}{u:HO}:upd (upd H a o) a u=upd H a u:=by
 funext b;unfold upd;split<;>rfl
theorem jX {a b:Addr}{u:HO} (h:H a=some o) (h':H b=some u) (d:o≠u:=by exact λz=>nomatch z):a≠b:=by
 intro e;subst e;rw[h] at h';exact d (Option.some.inj h')
theorem jy {a b:Addr} (h:H a=some o) (h':H b=none):a≠b:=by
 intro e;subst e;rw[h] at h';cases h'
section
variable (P:AS) (w:World)
def jP (H:Hp) (h:Heap) (a:Addr):HO->Prop
 | .lst xs=>xs.length<=sizeLine/\∃(AV:AH) (n:Nat),jz xs AV/\h.get? a=some { cls:=.type "list",data:=.seq AV.toArray n }
 | .tup xs=>xs.length<=sizeLine/\∃AV:List Value,jz xs AV/\IsTup h a AV.toArray
 | .dK kvs=>kvs.length<=sizeLine/\(a==sysModules)=false/\∃vs,KV kvs vs/\h.DictOf (jr P w) a vs
 | .dT kvs=>kvs.length<=sizeLine/\(a==sysModules)=false/\∃xs:List (List Key×Addr×Value),
   Paired (λ(p:List Key×V) (q:List Key×Addr×Value)=>p.1=q.1/\H q.2.1=some (.tup (p.1.map kV))/\jE p.2 q.2.2) kvs xs /\
   ∃o es ep,h.get? a=some o/\o.ExactDict/\o.data=.dict es ep/\es.toList=xs.map (entryOfKey (tupleKind (jr P w)))/\(xs.map (·.1)).Nodup
 | .set S n=>h.SetOf (intKind P w) a S n
 | .ins C dx fs=>H dx=some (.own a)/\fs.length<=1000/\dx≠a/\h.get? a=some (instObj C dx) /\
   ∃mA,h.Ns1 dx mA/\(∀f,Uq (fs.lookup f) (mA f))/\PySem.Within mA (fs.map (·.1))
 | .own _=>∃o,h.get? a=some o
 | .xd fs=>∃mA,h.Ns1 a mA/\∀f,Uq (fs.lookup f) (mA f)
 | .rng lo hi=>∃t u v,h.get? a=some { cls:=.type "range",data:=.fields (List.toArray [.int lo t,.int hi u,.int 1 v]) }
 | .frz o u=>h.get? a=some o/\jP H h a u
 | .tbl ps=>h.get? a=some { cls:=.none,data:=.fields ps }
 | .met f x=>h.get? a=some (methodObj (.ref f) (.ref x))
 | .ext φ=>φ h/\(∃o,h.get? a=some o)/\∀h1 h2:Heap,φ h1->(∀o,h1.get? a=some o->h2.get? a=some o)->φ h2
def Js (H:Hp) (h:Heap):Prop:=∀a o,H a=some o->jP P w H h a o
end
section
variable {P:AS}{w:World}{H H':Hp}{h h':Heap}{a:Addr}{o:HO}
theorem jP.lt (x:jP P w H h a o):a<h.objs.size:=by
 cases o with
 | lst xs=>obtain⟨_,_,_,_,e⟩:=x;exact ym e
 | tup xs=>obtain⟨_,_,_,p⟩:=x;exact p.lt
 | dK kvs=>obtain⟨_,_,_,_,o,_,_,e,_⟩:=x;exact ym e
 | dT kvs=>obtain⟨_,_,_,_,o,_,_,e,_⟩:=x;exact ym e
 | set S n=>obtain⟨o,_,_,_,e,_⟩:=x;exact ym e
 | ins C dx fs=>obtain⟨_,_,_,e,_⟩:=x;exact ym e
 | own y=>obtain⟨_,e⟩:=x;exact ym e
 | xd fs=>obtain⟨_,⟨_,_,_,e,_⟩,_⟩:=x;exact ym e
 | rng lo hi=>obtain⟨_,_,_,e⟩:=x;exact ym e
 | frz ob u=>obtain⟨e,_⟩:=x;exact ym e
 | tbl ps=>exact ym (show h.get? a=some _ from x)
 | met f y=>exact ym (show h.get? a=some _ from x)
 | ext φ=>obtain⟨_,⟨_,e⟩,_⟩:=x;exact ym e
theorem Paired.mapP {α β:Type}{F G:α->β->Prop}:∀{l₁:List α} {l₂:List β},Paired F l₁ l₂->(∀a b,F a b->G a b)->Paired G l₁ l₂
 | _,_,.nil,_=>.nil
 | _,_,.cons r t,f=>.cons (f _ _ r) (Paired.mapP t f)
theorem jP.stay (x:jP P w H h a o) (k:∀b u,(b=a\/H b=some (.own a))->h.get? b=some u->h'.get? b=some u)
  (ho:∀b,H b=some (.own a)->H' b=some (.own a)) (ht:∀b xs,H b=some (.tup xs)->H' b=some (.tup xs)):jP P w H' h' a o:=by
 induction o with
 | lst xs=>obtain⟨z,AV,n,r,e⟩:=x;exact#[z,AV,n,r,k _ _ (.inl rfl) e]
 | tup xs=>obtain⟨z,AV,r,ob,e,c⟩:=x;exact#[z,AV,r,ob,k _ _ (.inl rfl) e,c]
 | dK kvs=>obtain⟨z,y,vs,r,ob,es,ep,e,c⟩:=x;exact#[z,y,vs,r,ob,es,ep,k _ _ (.inl rfl) e,c]
 | dT kvs =>
  obtain⟨z,y,xs,r,ob,es,ep,e,c⟩:=x;exact#[z,y,xs,Paired.mapP r λp q z=>#[z.1,ht _ _ z.2.1,z.2.2],ob,es,ep,k _ _ (.inl rfl) e,c]
 | set S n=>obtain⟨ob,es,ep,t,e,c⟩:=x;exact#[ob,es,ep,t,k _ _ (.inl rfl) e,c]
 | ins C dx fs =>
  obtain⟨d,z,ne,e,mA,⟨od,es,ep,e2,c⟩,r⟩:=x;exact#[ho _ d,z,ne,k _ _ (.inl rfl) e,mA,#[od,es,ep,k _ _ (.inr d) e2,c],r]
 | own y=>obtain⟨ob,e⟩:=x;exact#[ob,k _ _ (.inl rfl) e]
 | xd fs=>obtain⟨mA,⟨od,es,ep,e,c⟩,r⟩:=x;exact#[mA,#[od,es,ep,k _ _ (.inl rfl) e,c],r]
 | rng lo hi=>obtain⟨t,u,v,e⟩:=x;exact#[t,u,v,k _ _ (.inl rfl) e]
 | frz ob u ih=>obtain⟨e,q⟩:=x;exact#[k _ _ (.inl rfl) e,ih q]
 | tbl ps =>
  have e:h.get? a=some { cls:=.none,data:=.fields ps }:=x;show h'.get? a=some { cls:=.none,data:=.fields ps };exact k a _ (.inl rfl) e
 | met f y =>
  have e:h.get? a=some (methodObj (.ref f) (.ref y)):=x;show h'.get? a=some (methodObj (.ref f) (.ref y));exact k a _ (.inl rfl) e
 | ext φ=>obtain⟨p,⟨o,e⟩,st⟩:=x;exact#[st _ _ p λo q=>k _ _ (.inl rfl) q,#[o,k _ _ (.inl rfl) e],st]
theorem Js.lt (x:Js P w H h) (e:H a=some o):a<h.objs.size:=(x a o e).lt
theorem Js.fresh (x:Js P w H h) (e:h.objs.size<=a):H a=none:=by
 cases q:H a with
 | none=>rfl
 | some u=>exact absurd (yJ (x.lt q) e) (QI _)
theorem Js.kept (x:Js P w H h) (k:∀b u,h.get? b=some u->h'.get? b=some u):Js P w H h':=λa o e =>
 (x a o e).stay (λb u _ q=>k b u q) (λ_ q=>q) λ_ _ q=>q
theorem Js.laid (x:Js P w H h) (k:∀b u,h.get? b=some u->h'.get? b=some u) (hp:h.objs.size<=a) (new:jP P w (upd H a o) h' a o):Js P w (upd H a o) h':=λb u e=>by
 have hn:=x.fresh hp;by_cases hb:b=a
 ·subst hb;rw[jc] at e;cases e;exact new
 ·rw[jw hb] at e;exact (x b u e).stay (λc v _ q=>k c v q) (λc q=>jq (jy q hn) q) λc xs q=>by rw[jw (jy q hn)];exact q
end
def Rd (H:Hp) (a:Addr) (u:HO):Prop:=H a=some u\/∃o,H a=some (.frz o u)
theorem Rd.ok {w:World}{a:Addr}{u:HO} (r:Rd H a u) (x:Js P w H h):jP P w H h a u:=by
 rcases r with r|⟨o,r⟩
 ·exact x a u r
 ·obtain⟨_,q⟩:=x a _ r;exact q
def cQ:Option HO->Prop
 | some (.lst _)=>True
 | some (.dK _)=>True
 | some (.dT _)=>True
 | some (.set _ _)=>True
 | some (.ins _ _ _)=>True
 | some (.ext _)=>True
 | _=>False
section
variable {P:AS}{w:World}{H:Hp}{h h':Heap}{x e:Addr}{o':HO}
theorem Js.write (ok:Js P w H h) (mu:cQ (H x)) (he:e=x\/H e=some (.own x)) (k:∀b u,b≠e->h.get? b=some u->h'.get? b=some u) (EJ:∃u,h'.get? e=some u)
  (new:jP P w (upd H x o') h' x o'):Js P w (upd H x o') h':=λb u q=>by
 have Fe:∀c y,H c=some (.own y)->c≠x:=λc y r z=>by subst z;rw[r] at mu;exact mu
 have HQ:∀c xs,H c=some (.tup xs)->c≠x:=λc xs r z=>by subst z;rw[r] at mu;exact mu
 by_cases hb:b=x
 ·subst hb;rw[jc] at q;cases q;exact new
 ·rw[jw hb] at q;by_cases Ec:b=e
  ·have q':H b=some (.own x):=by
    rcases he with z|z
    ·exact absurd (Ec.trans z) hb
    ·rw[Ec];exact z
   rw[q] at q';cases q';obtain⟨v,hv⟩:=EJ;exact#[v,by rw[Ec];exact hv]
  ·refine (ok b u q).stay (λc v hc r=>k c v ?_ r) (λc r=>jq (Fe c b r) r) λc xs r=>by rw[jw (HQ c xs r)];exact r
   rcases hc with rfl|hc
   ·exact Ec
   ·rintro rfl;rcases he with z|z
    ·exact Fe c b hc z
    ·rw[hc] at z;cases z;exact hb rfl
end
structure Un (fs ex:AI) (H H':Hp) (h h':Heap):Prop where
 keep:∀b o,h.get? b=some o->H b=none->b ∉ fs->b ∉ ex->h'.get? b=some o
 slot:∀b o,h.get? b=some o->H b=none->b∈fs->b ∉ ex->∃sl,h'.get? b=some { o with slots:=sl }
 free:∀b o,h.get? b=some o->H b=none->b ∉ ex->H' b=none
 there:∀b o,h.get? b=some o->b ∉ ex->∃o',h'.get? b=some o'
 tups:∀b xs,H b=some (.tup xs)->H' b=some (.tup xs)
 frzs:∀b o u,H b=some (.frz o u)->H' b=some (.frz o u)
 tbls:∀b ps,H b=some (.tbl ps)->∃more,H' b=some (.tbl (ps++more))
section
variable {fs P8 ex F9:AI}{H H1 H2:Hp}{h h1 h2 h':Heap}{a x e:Addr}{o:HO}
theorem Un.any (u:Un fs ex H H1 h h1) {b:Addr} {ob:Obj} (q:h.get? b=some ob) (n:H b=none) (hx:b ∉ ex):∃sl,h1.get? b=some { ob with slots:=sl }:=by
 by_cases hb:b∈fs
 ·exact u.slot b ob q n hb hx
 ·exact#[ob.slots,u.keep b ob q n hb hx]
theorem Un.kept (k:∀b u,h.get? b=some u->h'.get? b=some u):Un fs ex H H h h' :=
 #[λb ob q _ _ _=>k b ob q,λb ob q _ _ _=>#[ob.slots,k b ob q],λ_ _ _ n _=>n,λb ob q _=>#[ob,k b ob q],λ_ _ q=>q,λ_ _ _ q=>q,λ_ ps q=>#[(List.toArray []),by rw[q];simp]]
theorem Un.refl:Un fs ex H H h h:=Un.kept λ_ _ q=>q
theorem Un.laid (k:∀b u,h.get? b=some u->h'.get? b=some u) (hp:h.objs.size<=a) (hn:H a=none):Un fs ex H (upd H a o) h h' where
 keep:=λb u q _ _ _=>k b u q
 slot:=λb u q _ _ _=>#[u.slots,k b u q]
 free:=λb u q n _=>by rw[jw (yx (yJ (ym q) hp))];exact n
 there:=λb u q _=>#[u,k b u q]
 tups:=λb xs q=>by rw[jw (jy q hn)];exact q
 frzs:=λb u xs q=>by rw[jw (jy q hn)];exact q
 tbls:=λb ps q=>#[(List.toArray []),by rw[jw (jy q hn),q];simp]
theorem Un.write (mu:cQ (H x)) (he:e=x\/H e=some (.own x)) (k:∀b u,b≠e->h.get? b=some u->h'.get? b=some u) (EJ:∃u,h'.get? e=some u):Un fs ex H (upd H x o) h h':=by
 have hx:∀b,H b=none->b≠x:=λb n z=>by subst z;rw[n] at mu;exact mu
 have hb:∀b,H b=none->b≠e:=λb n z=>by
  subst z;rcases he with r|r
  ·exact hx b n r
  ·rw[n] at r;cases r
 have hm:∀b u,H b=some u->¬cQ (some u)->b≠x:=λb u q nm z=>by subst z;rw[q] at mu;exact nm mu
 refine#[λb u q n _ _=>k b u (hb b n) q,λb u q n _ _=>#[u.slots,k b u (hb b n) q],λb u q n _=>jq (hx b n) n,λb u q _=>?_,
  λb xs q=>jq (hm b _ q λz=>z) q,λb u xs q=>jq (hm b _ q λz=>z) q,λb ps q=>#[(List.toArray []),by rw[jw (hm b _ q λz=>z),q];simp]]
 by_cases Ec:b=e
 ·subst Ec;exact EJ
 ·exact#[u,k b u Ec q]
end
def pG (h:Heap) (H:Hp):List Addr:=(List.range h.objs.size).filter λa=>(H a).isSome
def zw (h:Heap) (H:Hp):Heap:=hideAll h (pG h H)
theorem dw (h:Heap) (H:Hp):(zw h H).objs.size=h.objs.size:=PySem.W.hideAll_size _ _
theorem iL {b:Addr}{o:Obj} (e:h.get? b=some o) (n:H b=none):(zw h H).get? b=some o :=
 hideAll_get _ e λhm=>by
  have q:(H b).isSome=true:=(QL.mp hm).2;rw[n] at q;simp at q
theorem qr {b:Addr}{o:Obj} (e:(zw h H).get? b=some o):h.get? b=some o/\H b=none:=by
 have e':h.get? b=some o:=of_hideAll (pG h H) e;refine#[e',?_];cases q:H b with
 | none=>rfl
 | some x =>
  have hm:b∈pG h H:=QL.mpr #[yE.mpr (ym e'),by simp [q]];have z:(zw h H).get? b=none:=hideAll_none (pG h H) hm;rw[z] at e;cases e
structure Mod (K:AB) (mg:AE) (base:Heap):Prop where
 kin:K.In base
 glob:base.Ns mainGlobals mg
 blt:∃mb,base.Ns builtinsNs mb/\∀x:Str,x≠"__name__"->mb x=bootBuiltins x
 nolimit:base.NoLimit
structure Cx where
 prog:Program
 w:World
 K:Frag
 mg:Str->Option Value
 base:Heap
 A:Around
 N:List Str
 s₀:Shared
 H₀:Hp
 env:Env
 outer:List Env
 stack:List Env
 ex:List Addr
 fn:Str->Bool
 calm:Bool
 pn:List (Addr×Obj)
 xe:Value->Shared->Prop
theorem mN {l:AM} (h:decide l.Nodup=true):l.Nodup:=of_decide_eq_true h
theorem Vg {a w K mg base A N s₀ H₀ env outer stack ex fn calm pn xe}:(Cx.mk a w K mg base A N s₀ H₀ env outer stack ex fn calm pn xe).K=K:=rfl
def uv (l:List Env):List Addr:=l.filterMap (·.frame)
abbrev Cx.fs (X:Cx):List Addr:=uv X.outer
def rM (sc:Scope) (x:Str):Prop:=sc.names.lookup x=some .local\/sc.names.lookup x=some .cell\/sc.names.lookup x=some .free
def N8 (sc:Scope) (x:Str):Prop:=sc.names.lookup x=some .local\/sc.names.lookup x=some .cell
def xr (env:Env) (h:Heap) (m:AE) (x:Str) (u:Value):Prop :=
 (env.kindOf x=some .local/\m x=some u)\/((env.kindOf x=some .cell\/env.kindOf x=some .free)/\∃c,env.cells.lookup x=some c/\h.IsCell c (some u))
structure Cx.Ok (X:Cx):Prop where
 mod:Mod X.K X.mg X.base
 kind:X.env.scope.kind=.function
 glob:X.env.globals=mainGlobals
 blt:X.env.builtins=builtinsNs
 above:X.s₀.heap.objs.size<=X.env.locals
 inj:∀x y c,X.env.cells.lookup x=some c->X.env.cells.lookup y=some c->x=y
 has:∀x,(X.env.kindOf x=some .cell\/X.env.kindOf x=some .free)->∃c,X.env.cells.lookup x=some c
 cab:∀x c,X.fn x=true->X.env.cells.lookup x=some c->X.s₀.heap.objs.size<=c
 hd:X.calm=true->X.A.handled=none
 frames:X.A.frames=some X.stack
 stk:X.stack=X.outer\/(X.stack=X.env::X.outer/\X.env.frame=some X.env.locals)
 exf:∀b∈X.ex,b≠X.env.locals/\∀x c,X.env.cells.lookup x=some c->c≠b
 bs:∀b o,X.base.get? b=some o->X.s₀.heap.get? b=some o/\X.H₀ b=none
 bsz:X.base.objs.size<=X.s₀.heap.objs.size
 noex:∀b o,X.base.get? b=some o->b ∉ X.ex
 exfs:∀b∈X.ex,b ∉ X.fs
 funs:X.s₀.heap.FunFrames X.base X.outer
 frf:∀b∈X.fs,X.H₀ b=none
inductive zW (H:Hp):Value->Prop
 | nil:zW H .none
 | cons {b:Addr} {ob:Obj} {us:AN} {u:HO} {c:Value}:H b=some (.frz ob u)->ob.data=.fields us->us[2]?=some c->zW H c->zW H (.ref b)
theorem zW.mono {H':Hp}{c:Value} (h:zW H c) (k:∀b o u,H b=some (.frz o u)->H' b=some (.frz o u)):zW H' c:=by
 induction h with
 | nil=>exact .nil
 | cons q1 q2 q3 _ ih=>exact .cons (k _ _ _ q1) q2 q3 ih
theorem zW.chn {w:World}{c:Value} (n:zW H c) (ok:Js P w H h):∃D,zO h D c/\∀b∈D,∃o u,H b=some (.frz o u):=by
 induction n with
 | nil=>exact#[[],.nil,λb hb=>absurd hb (by simp)]
 | @cons b ob us u c q1 q2 q3 _ ih =>
  obtain⟨D,m,l⟩:=ih;refine#[b::D,.cons (by simp) (ok b _ q1).1 q2 q3 (m.kept (λ_ _ _ e=>e) λd hd=>yn _ hd),λd hd=>?_];rcases yr.mp hd with rfl|hd
  ·exact#[_,_,q1]
  ·exact l d hd
def m5 (A:Around) (H:Hp):Prop:=A.handled=none\/∃ea:Addr,A.handled=some (.ref ea)/\zW H (.ref ea)
theorem m5.mono {A:Around}{H':Hp} (h:m5 A H) (k:∀b o u,H b=some (.frz o u)->H' b=some (.frz o u)):m5 A H':=by
 rcases h with z|⟨ea,h1,h2⟩
 ·exact .inl z
 ·exact .inr #[ea,h1,h2.mono k]
theorem m5.now {w:World}{A:Around} (n:m5 A H) (ok:Js P w H h):VX A h:=by
 rcases n with z|⟨ea,h1,h2⟩
 ·exact#[[],.inl z]
 ·obtain⟨D,m,_⟩:=h2.chn ok;exact#[D,.inr #[ea,h1,m]]
structure ji (X:Cx) (pins:AF) (σ:List (Option V)) (H:Hp) (s:Shared):Prop where
 ok:X.Ok
 os:s.os=X.s₀.os
 bare:AllBare s.gens
 base:Un X.fs X.ex X.H₀ H X.s₀.heap s.heap
 loc:∃m,s.heap.Ns X.env.locals m/\∀(i:Nat) (x:Str) (v:V),X.N[i]?=some x->σ[i]?=some (some v)->rM X.env.scope x->∃u,jE v u/\xr X.env s.heap m x u
 cell:∀x c,X.env.cells.lookup x=some c->∃v,s.heap.IsCell c v
 free:H X.env.locals=none
 freeC:∀x c,X.env.cells.lookup x=some c->H c=none
 pin:∀p∈X.pn++pins,s.heap.get? p.1=some p.2/\H p.1=none/\p.1≠X.env.locals/\p.1 ∉ X.fs/\∀v,p.2.data≠.cell v
 hok:Js X.prog X.w H s.heap
 len:σ.length=X.N.length
 hn:m5 X.A H
section
variable {X:Cx}{pins:AF}{σ:List (Option V)}{H H':Hp}{s:Shared}{h':Heap}
theorem Cx.Ok.nofr (ok:X.Ok) {b:Addr} {o:Obj} (e:X.base.get? b=some o):b ∉ X.fs:=λhb=>by
 have:=(ok.funs.mem hb).1;rw[e] at this;cases this
theorem ji.bs (I:ji X pins σ H s):∀b o,X.base.get? b=some o->s.heap.get? b=some o/\H b=none:=λb o e =>
 #[I.base.keep b o (I.ok.bs b o e).1 (I.ok.bs b o e).2 (I.ok.nofr e) (I.ok.noex b o e),I.base.free b o (I.ok.bs b o e).1 (I.ok.bs b o e).2 (I.ok.noex b o e)]
theorem ji.bk (I:ji X pins σ H s):∀b o,X.base.get? b=some o->s.heap.get? b=some o:=λb o e=>(I.bs b o e).1
theorem ji.mod (I:ji X pins σ H s):Mod X.K X.mg X.base:=I.ok.mod
theorem ji.kIn (I:ji X pins σ H s):X.K.In s.heap:=I.ok.mod.kin.keeps I.bk
theorem ji.fr (I:ji X pins σ H s):∃m,Fr X.base X.env.locals s.heap m :=
 let ⟨m,hn,_⟩:=I.loc
 #[m,hn,I.bk,yp I.ok.bsz I.ok.above]
theorem ji.lt (I:ji X pins σ H s):X.env.locals<s.heap.objs.size:=let ⟨_,hn,_⟩:=I.loc;hn.lt
theorem ji.sz (I:ji X pins σ H s):X.s₀.heap.objs.size<=s.heap.objs.size:=yp I.ok.above (y4 I.lt)
theorem ji.nofs (I:ji X pins σ H s) {a:Addr} (h:s.heap.objs.size<=a):a ∉ X.fs:=λhb=>by
 obtain⟨_,o,ho,_⟩:=I.ok.funs.mem hb;exact absurd (yJ (ym ho) (yp I.sz h)) (QI _)
theorem ji.cne (I:ji X pins σ H s):∀x c,X.env.cells.lookup x=some c->c≠X.env.locals:=λx c e z=>by
 obtain⟨v,o,ho,hd⟩:=I.cell x c e;obtain⟨m,⟨o',es,ep,BJ,Ct,_⟩,_⟩:=I.loc;rw[z,BJ] at ho;cases ho;rw[Ct] at hd;cases hd
theorem ji.funs (I:ji X pins σ H s):s.heap.FunFrames X.base X.outer:=by
 have all:∀(l:List Env),(∀b∈uv l,b∈X.fs)->X.s₀.heap.FunFrames X.base l->s.heap.FunFrames X.base l:=by
  intro l
  induction l with
  | nil=>intro _ _;trivial
  | cons env r ih =>
   intro hs hl;obtain⟨hk,⟨L,o,hf,hn,ho,hd⟩,hr⟩:=hl;have hL:L∈X.fs:=hs L (by unfold uv;rw[List.filterMap_cons,hf];exact yw);obtain⟨sl,e⟩:=I.base.slot L o ho (I.ok.frf L hL) hL λz=>I.ok.exfs L z hL;exact#[hk,#[L,_,hf,hn,e,hd],ih (λb hb=>hs b (by unfold uv;rw[List.filterMap_cons,hf];exact yn _ hb)) hr]
 exact all X.outer (λ_ hb=>hb) I.ok.funs
theorem ji.stack (I:ji X pins σ H s):s.heap.FunFrames X.base X.stack:=by
 rcases I.ok.stk with e|⟨e,hf⟩
 ·rw[e];exact I.funs
 ·rw[e];obtain⟨m,hn,_⟩:=I.loc;refine .cons (by rw[I.ok.kind];decide) hf hn ?_ I.funs;exact Qi (yp I.ok.bsz I.ok.above)
theorem ji.stkSub (I:ji X pins σ H s):∀b∈uv X.stack,b∈X.env.locals::X.fs:=λb hb=>by
 rcases I.ok.stk with e|⟨e,hf⟩
 ·rw[e] at hb;exact yn _ hb
 ·rw[e] at hb;unfold uv at hb;rw[List.filterMap_cons,hf] at hb;exact hb
theorem ji.stkFree (I:ji X pins σ H s):∀b∈uv X.stack,H b=none:=λb hb=>by
 rcases yr.mp (I.stkSub b hb) with e|hb
 ·rw[e];exact I.free
 ·obtain⟨_,o,ho,_⟩:=I.ok.funs.mem hb;exact I.base.free b o ho (I.ok.frf b hb) λz=>I.ok.exfs b z hb
theorem ji.step (I:ji X pins σ H s)
  (BM:∀b∈ch,(b∈X.ex\/X.s₀.heap.objs.size<=b)/\b≠X.env.locals/\(∀x c,X.env.cells.lookup x=some c->c≠b)/\∀p∈X.pn++pins,p.1≠b)
  (keep:∀b o,b≠X.env.locals->b ∉ X.fs->b ∉ ch->s.heap.get? b=some o->H b=none->h'.get? b=some o)
  (slot:∀b o,b≠X.env.locals->b∈X.fs->b ∉ ch->s.heap.get? b=some o->H b=none->∃sl,h'.get? b=some { o with slots:=sl }) (free:∀b o,b ∉ ch->s.heap.get? b=some o->H b=none->H' b=none)
  (there:∀b o,b ∉ ch->s.heap.get? b=some o->∃o',h'.get? b=some o')
  (tups:∀b xs,H b=some (.tup xs)->H' b=some (.tup xs)) (frzs:∀b o u,H b=some (.frz o u)->H' b=some (.frz o u)) (tbls:∀b ps,H b=some (.tbl ps)->∃more,H' b=some (.tbl (ps++more)))
  (ns:∀m,s.heap.Ns X.env.locals m->h'.Ns X.env.locals m) (hok:Js X.prog X.w H' h') (hg:AllBare g') :
  ji X pins σ H' { s with heap:=h',gens:=g',drawn:=d',toks:=t' }:=by
 have Ot:∀b o,X.s₀.heap.get? b=some o->b≠X.env.locals:=λb o e=>yx (yJ (ym e) I.ok.above);have EK:∀b o,X.s₀.heap.get? b=some o->b ∉ X.ex->b ∉ ch:=λb o e hx hb=>by
  rcases (BM b hb).1 with z|z
  ·exact hx z
  ·exact absurd (yJ (ym e) z) (QI _)
 have cellK:∀x c,X.env.cells.lookup x=some c->∀v,s.heap.IsCell c v->h'.IsCell c v:=λx c e v #[o,ho,hd]=>by
  have DK:c ∉ ch:=λz=>(BM c z).2.2.1 x c e rfl;by_cases hc:c∈X.fs
  ·obtain⟨sl,q⟩:=slot c o (I.cne x c e) hc DK ho (I.freeC x c e);exact#[_,q,hd]
  ·exact#[o,keep c o (I.cne x c e) hc DK ho (I.freeC x c e),hd]
 refine#[I.ok,I.os,hg,#[λb o e n hb hx=>?_,λb o e n hb hx=>?_,λb o e n hx=>?_,λb o e hx=>?_,λb xs e=>tups b xs (I.base.tups b xs e),λb o xs e=>frzs b o xs (I.base.frzs b o xs e),λb ps e=>?_],?_,λx c e=>?_,?_,λx c e=>?_,λp hp=>?_,hok,I.len,I.hn.mono frzs]
 ·exact keep b o (Ot b o e) hb (EK b o e hx) (I.base.keep b o e n hb hx) (I.base.free b o e n hx)
 ·obtain⟨sl,e1⟩:=I.base.slot b o e n hb hx;obtain⟨HR,e2⟩:=slot b _ (Ot b o e) hb (EK b o e hx) e1 (I.base.free b o e n hx);exact#[HR,e2]
 ·obtain⟨o',e1⟩:=I.base.there b o e hx;exact free b o' (EK b o e hx) e1 (I.base.free b o e n hx)
 ·obtain⟨o',e1⟩:=I.base.there b o e hx;exact there b o' (EK b o e hx) e1
 ·obtain⟨m1,e1⟩:=I.base.tbls b ps e;obtain⟨m2,e2⟩:=tbls b _ e1;exact#[m1++m2,by rw[e2,Array.append_assoc]]
 ·obtain⟨m,hn,hl⟩:=I.loc;refine#[m,ns m hn,λi x v e1 e2 e3=>?_];obtain⟨u,r,l⟩:=hl i x v e1 e2 e3;refine#[u,r,?_];rcases l with l|⟨k,c,e,z⟩
  ·exact .inl l
  ·exact .inr #[k,c,e,cellK x c e _ z]
 ·obtain⟨v,z⟩:=I.cell x c e;exact#[v,cellK x c e v z]
 ·obtain⟨m,⟨o,_,_,ho,_⟩,_⟩:=I.loc;exact free _ o (λz=>(BM _ z).2.1 rfl) ho I.free
 ·obtain⟨v,o,ho,hd⟩:=I.cell x c e;exact free c o (λz=>(BM c z).2.2.1 x c e rfl) ho (I.freeC x c e)
 ·obtain⟨e,n,ne,nf,d⟩:=I.pin p hp;have DK:p.1 ∉ ch:=λz=>(BM p.1 z).2.2.2 p hp rfl;exact#[keep p.1 p.2 ne nf DK e n,free p.1 p.2 DK e n,ne,nf,d]
theorem ji.un (I:ji X pins σ H s) (u:Un X.fs [] H H' s.heap h') (hok:Js X.prog X.w H' h'):ji X pins σ H' { s with heap:=h',toks:=t' }:=by
 obtain⟨m,⟨o,es,ep,ho,r⟩,_⟩:=id I.loc;obtain⟨sl,hL⟩:=u.any ho I.free (by simp)
 exact I.step (g':=s.gens) (d':=s.drawn) (ch:=[]) (λ_ z=>nomatch z) (λb o _ hb _ e n=>u.keep b o e n hb (by simp)) (λb o _ hb _ e n=>u.slot b o e n hb (by simp)) (λb o _ e n=>u.free b o e n (by simp)) (λb o _ e=>u.there b o e (by simp)) u.tups u.frzs u.tbls (λm' hm=>by
  obtain⟨o',Bx,BK,BJ,r'⟩:=hm;rw[ho] at BJ;cases BJ;exact#[_,Bx,BK,hL,r']) hok I.bare
theorem ji.call (I:ji X pins σ H s) (u:Un (uv X.stack) ch H H' s.heap h') (hok:Js X.prog X.w H' h') (hg:AllBare g')
  (BM:∀b∈ch,(b∈X.ex\/X.s₀.heap.objs.size<=b)/\b≠X.env.locals/\(∀x c,X.env.cells.lookup x=some c->c≠b)/\∀p∈X.pn++pins,p.1≠b) :
  ji X pins σ H' { s with heap:=h',gens:=g',drawn:=d',toks:=t' }:=by
 obtain⟨m,⟨o,es,ep,ho,r⟩,_⟩:=id I.loc;obtain⟨sl,hL⟩:=u.any ho I.free λz=>(BM _ z).2.1 rfl;exact I.step (ch:=ch) BM (λb o hL hb hc e n=>u.keep b o e n (λz=>(yr.mp (I.stkSub b z)).elim hL hb) hc) (λb o _ _ hc e n=>u.any e n hc) (λb o hc e n=>u.free b o e n hc) (λb o hc e=>u.there b o e hc) u.tups u.frzs u.tbls (λm' hm=>by
  obtain⟨o',Bx,BK,BJ,r'⟩:=hm;rw[ho] at BJ;cases BJ;exact#[_,Bx,BK,hL,r']) hok hg
theorem ji.turned (I:ji X pins σ H s) (k:∀b o,b≠it->s.heap.get? b=some o->h'.get? b=some o) (hn:H it=none) (hL:it≠X.env.locals)
  (h1:it∈X.ex\/X.s₀.heap.objs.size<=it) (h2:∀x c,X.env.cells.lookup x=some c->c≠it) (h3:∀p∈X.pn++pins,p.1≠it):ji X pins σ H { s with heap:=h',toks:=t' }:=by
 have Ou:∀b u,H b=some u->b≠it:=λb u e z=>by rw[z,hn] at e;cases e
 refine I.step (g':=s.gens) (d':=s.drawn) (ch:=[it]) (λb hb=>?_) (λb o _ _ hc e _=>k b o (λz=>hc (by simp [z])) e) (λb o _ _ hc e _=>#[o.slots,k b o (λz=>hc (by simp [z])) e]) (λ_ _ _ _ n=>n)
  (λb o hc e=>#[o,k b o (λz=>hc (by simp [z])) e]) (λ_ _ e=>e) (λ_ _ _ e=>e) (λb ps e=>#[(List.toArray []),by rw[e];simp]) (λm hm=>?_) (λb u e=>?_) I.bare
 ·have e:b=it:=by simpa using hb
  subst e;exact#[h1,hL,h2,h3]
 ·obtain⟨o,es,ep,ho,r⟩:=hm;exact#[o,es,ep,k _ o (yZ hL) ho,r]
 ·refine (I.hok b u e).stay (λc v hc q=>k c v ?_ q) (λ_ q=>q) λ_ _ q=>q;rcases hc with z|z
  ·rw[z];exact Ou b u e
  ·exact Ou c _ z
theorem ji.tok (I:ji X pins σ H s) (t:Nat):ji X pins σ H { s with toks:=t }:=I.un (h':=s.heap) (t':=t) Un.refl I.hok
theorem ji.kept (I:ji X pins σ H s) (k:∀b u,s.heap.get? b=some u->h'.get? b=some u):ji X pins σ H { s with heap:=h',toks:=t' }:=I.un (Un.kept k) (I.hok.kept k)
theorem ji.laid {a:Addr} (I:ji X pins σ H s) (k:∀b u,s.heap.get? b=some u->h'.get? b=some u) (hp:s.heap.objs.size<=a) (new:jP X.prog X.w (upd H a o) h' a o) :
  ji X pins σ (upd H a o) { s with heap:=h',toks:=t' }:=I.un (Un.laid k hp (I.hok.fresh hp)) (I.hok.laid k hp new)
theorem ji.write {x e:Addr} (I:ji X pins σ H s) (mu:cQ (H x)) (he:e=x\/H e=some (.own x)) (k:∀b u,b≠e->s.heap.get? b=some u->h'.get? b=some u) (EJ:∃u,h'.get? e=some u)
  (new:jP X.prog X.w (upd H x o) h' x o):ji X pins σ (upd H x o) { s with heap:=h',toks:=t' }:=I.un (Un.write mu he k EJ) (I.hok.write mu he k EJ new)
theorem ji.weak {σ':List (Option V)} (I:ji X pins σ H s) (hl:σ'.length=σ.length) (w:∀(i:Nat) v,σ'[i]?=some (some v)->σ[i]?=some (some v)):ji X pins σ' H s :=
 #[I.ok,I.os,I.bare,I.base,let ⟨m,hn,BC⟩:=I.loc;#[m,hn,λi x v e1 e2 e3=>BC i x v e1 (w i v e2) e3],I.cell,I.free,I.freeC,I.pin,I.hok,hl.trans I.len,I.hn]
theorem ji.pins_of {DL:AF} (I:ji X pins σ H s) (h:∀p∈DL,s.heap.get? p.1=some p.2/\H p.1=none/\p.1≠X.env.locals/\p.1 ∉ X.fs/\∀v,p.2.data≠.cell v):ji X DL σ H s :=
 #[I.ok,I.os,I.bare,I.base,I.loc,I.cell,I.free,I.freeC,λp hp=>(yL.mp hp).elim (λz=>I.pin p (Qp _ z)) (h p),I.hok,I.len,I.hn]
theorem nj {N:AM} (hN:N.Nodup) {i j:Nat} {x:Str} (a:N[i]?=some x) (b:N[j]?=some x):i=j:=by
 obtain⟨h1,e1⟩:=yc.mp a;obtain⟨h2,e2⟩:=yc.mp b;exact (List.getElem_inj hN).mp (e1.trans e2.symm)
theorem KP {M:Model}{A:Around}{i:Nat}{x:Str}{v:V}{u:Value}{Q:Ay} (I:ji X pins σ H s) (hN:X.N.Nodup) (hi:X.N[i]?=some x) (hx:N8 X.env.scope x) (r:jE v u)
  (h:∀s',ji X pins (σ.set i (some v)) H s'->(∃a,Heap.SameBut a s.heap s'.heap/\(a=X.env.locals\/X.env.cells.lookup x=some a))->Q () s') (hf:X.fn x=true\/X.env.scope.names.lookup x=some .local:=by first|exact .inl rfl|exact .inr rfl|assumption):wpAny M A (storeName X.env x u) Q E s:=by
 obtain⟨m,hn,hl⟩:=id I.loc;have HU:(X.env.scope.kind==.class||(X.env.scope.kind==.module&&X.env.locals != X.env.globals))=false:=by rw[I.ok.kind];rfl
 have Ov:i<σ.length:=by rw[I.len];exact (yc.mp hi).1
 have cne:=I.cne;have tracked:∀{a:Addr} {h':Heap},(∃o,s.heap.get? a=some o/\H a=none)->Heap.SameBut a s.heap h'->Js X.prog X.w H h':=λ{a h'} ha hs b ob e=>by
  obtain⟨_,_,B4⟩:=ha;refine (I.hok b ob e).stay (λc w' hc q=>(hs.2 c ?_).trans q) (λ_ q=>q) λ_ _ q=>q;rintro rfl;rcases hc with rfl|hc
  ·rw[B4] at e;cases e
  ·rw[B4] at hc;cases hc
 rcases hx with hk|hk
 ·refine wpAny_storeName_local hk hn (λh' Dt hs=>?_) HU;obtain⟨oL,_,_,P9,_⟩:=id hn;refine h _ #[I.ok,I.os,I.bare,#[λb o e n hb hx=>?_,λb o e n hb hx=>?_,I.base.free,λb o e hx=>?_,I.base.tups,I.base.frzs,I.base.tbls],#[_,Dt,λj y v' e1 e2 e3=>?_],λy c e=>?_,I.free,I.freeC,λp hp=>?_,tracked #[oL,P9,I.free] hs,by simpa using I.len,I.hn] #[_,hs,.inl rfl]
  ·exact (hs.2 b (yx (yJ (ym e) I.ok.above))).trans (I.base.keep b o e n hb hx)
  ·obtain⟨sl,e1⟩:=I.base.slot b o e n hb hx;exact#[sl,(hs.2 b (yx (yJ (ym e) I.ok.above))).trans e1]
  ·obtain⟨o',e1⟩:=I.base.there b o e hx;exact#[o',(hs.2 b (yx (yJ (ym e) I.ok.above))).trans e1]
  ·by_cases hj:j=i
   ·subst hj;rw[hi] at e1;cases e1;rw[List.getElem?_set_self Ov] at e2;cases e2;exact#[u,r,.inl #[hk,by simp]]
   ·rw[List.getElem?_set_ne (yZ hj)] at e2;obtain⟨u',r',q⟩:=hl j y v' e1 e2 e3;refine#[u',r',?_];rcases q with ⟨k,e⟩|⟨k,c,e,z⟩
    ·refine .inl #[k,?_];have:y≠x:=λe=>hj (nj hN e1 (e▸hi));simp [this,e]
    ·exact .inr #[k,c,e,z.sameBut hs (cne y c e)]
  ·obtain⟨w',z⟩:=I.cell y c e;exact#[w',z.sameBut hs (cne y c e)]
  ·obtain⟨e,n,ne,nf,d⟩:=I.pin p hp;exact#[(hs.2 p.1 ne).trans e,n,ne,nf,d]
 ·have HV:X.fn x=true:=by
   rcases hf with z|z
   ·exact z
   ·rw[z] at hk;cases hk
  obtain⟨c,hc⟩:=I.ok.has x (.inl hk);obtain⟨w',z⟩:=I.cell x c hc;refine wpAny_storeName_cell I.ok.kind hk hc z (λh' C7 hs=>?_);obtain⟨oc,C6,HW⟩:=id z;refine h { s with heap:=h' } #[I.ok,I.os,I.bare,#[λb o e n hb hx=>?_,λb o e n hb hx=>?_,I.base.free,λb o e hx=>?_,I.base.tups,I.base.frzs,I.base.tbls],#[m,hn.sameBut hs (yZ (cne x c hc)),λj y v' e1 e2 e3=>?_],λy c' e=>?_,I.free,I.freeC,λp hp=>?_,tracked #[oc,C6,I.freeC x c hc] hs,by simpa using I.len,I.hn] #[c,hs,.inr hc]
  ·exact (hs.2 b (yx (yJ (ym e) (I.ok.cab x c HV hc)))).trans (I.base.keep b o e n hb hx)
  ·obtain⟨sl,e1⟩:=I.base.slot b o e n hb hx;exact#[sl,(hs.2 b (yx (yJ (ym e) (I.ok.cab x c HV hc)))).trans e1]
  ·obtain⟨o',e1⟩:=I.base.there b o e hx;exact#[o',(hs.2 b (yx (yJ (ym e) (I.ok.cab x c HV hc)))).trans e1]
  ·by_cases hj:j=i
   ·subst hj;rw[hi] at e1;cases e1;rw[List.getElem?_set_self Ov] at e2;cases e2;exact#[u,r,.inr #[.inl hk,c,hc,C7]]
   ·rw[List.getElem?_set_ne (yZ hj)] at e2;obtain⟨u',r',q⟩:=hl j y v' e1 e2 e3;refine#[u',r',?_];rcases q with q|⟨k,c',e,z'⟩
    ·exact .inl q
    ·refine .inr #[k,c',e,z'.sameBut hs ?_];rintro rfl;exact hj (nj hN e1 (I.ok.inj _ _ _ e hc▸hi))
  ·by_cases Ow:c'=c
   ·subst Ow;exact#[_,C7]
   ·obtain⟨w2,z2⟩:=I.cell y c' e;exact#[w2,z2.sameBut hs Ow]
  ·obtain⟨e,n,ne,nf,d⟩:=I.pin p hp;refine#[(hs.2 p.1 ?_).trans e,n,ne,nf,d];intro q;rw[q,C6] at e;have q':oc=p.2:=Option.some.inj e;exact d w' (by rw[<-q'];exact HW)
theorem Nh {M:Model}{A:Around}{i:Nat}{x:Str}{v:V}{u:Value}{Q:Ay} (I:ji X pins σ H s) (hN:X.N.Nodup) (hi:X.N[i]?=some x) (hx:N8 X.env.scope x) (r:jE v u)
  (h:∀s',ji X pins (σ.set i (some v)) H s'->Q () s') (hf:X.fn x=true\/X.env.scope.names.lookup x=some .local:=by first|exact .inl rfl|exact .inr rfl|assumption):wpAny M A (storeName X.env x u) Q E s :=
 KP I hN hi hx r (λs' I' _=>h s' I') hf
theorem ji.call' {s':Shared} (I:ji X pins σ H s) (ho:s'.os=s.os) (u:Un (uv X.stack) ch H H' s.heap s'.heap) (hok:Js X.prog X.w H' s'.heap) (hg:AllBare s'.gens)
  (BM:∀b∈ch,(b∈X.ex\/X.s₀.heap.objs.size<=b)/\b≠X.env.locals/\(∀x c,X.env.cells.lookup x=some c->c≠b)/\∀p∈X.pn++pins,p.1≠b):ji X pins σ H' s':=by
 obtain⟨h',g',d',t',o'⟩:=s';have e:o'=s.os:=ho;subst e;exact I.call (g':=g') (t':=t') (d':=d') u hok hg BM
end
abbrev XK:=Value->Option Addr->Hp->Prop
abbrev St:=List (Option V)
abbrev VK:=V->Hp->Prop
abbrev TE:=St->Hp->VK->Prop
abbrev TT:=St->Hp->(Bool->Hp->Prop)->Prop
abbrev TA:=St->Hp->(List V->Hp->Prop)->Prop
structure vX where
 nx:St->Hp->Prop
 rt:VK
 bk:St->Hp->Prop:=λ_ _=>False
 ct:St->Hp->Prop:=λ_ _=>False
abbrev TS:=vX->St->Hp->Prop
inductive w9 (X:Cx) (pins:AF) (σ:St) (Q:VK) (u:Value) (s':Shared):Prop
 | mk (v:_) (H':_) (h0:ji X pins σ H' s') (h1:jE v u) (h2:Q v H'):w9 X pins σ Q u s'
def EP (X:Cx) (pins:AF) (σ:St) (Q:VK) (u:Value) (s':Shared):Prop:=w9 X pins σ Q u s'
inductive xg (X:Cx) (pins:AF) (σ:St) (Q:Bool->Hp->Prop) (b:Bool) (s':Shared):Prop
 | mk (H':_) (h0:ji X pins σ H' s') (h1:Q b H'):xg X pins σ Q b s'
def TP (X:Cx) (pins:AF) (σ:St) (Q:Bool->Hp->Prop) (b:Bool) (s':Shared):Prop:=xg X pins σ Q b s'
inductive w6 (X:Cx) (pins:AF) (σ:St) (Q:List V->Hp->Prop) (us:AH) (s':Shared):Prop
 | mk (vs:_) (H':_) (h0:ji X pins σ H' s') (h1:jz vs us) (h2:Q vs H'):w6 X pins σ Q us s'
def AP (X:Cx) (pins:AF) (σ:St) (Q:List V->Hp->Prop) (us:AH) (s':Shared):Prop:=w6 X pins σ Q us s'
def SP (X:Cx) (pins:AF) (D:vX) (f:Flow) (s':Shared):Prop :=
 match f with
 | .next=>∃σ' H',ji X pins σ' H' s'/\D.nx σ' H'
 | .brk=>∃σ' H',ji X pins σ' H' s'/\D.bk σ' H'
 | .cont=>∃σ' H',ji X pins σ' H' s'/\D.ct σ' H'
 | .ret u=>∃v σ' H',ji X pins σ' H' s'/\jE v u/\D.rt v H'
def PE (X:Cx) (e:Expr) (t:TE):Prop :=
 ∀(pins:AF) (s:Shared) (σ:St) (H:Hp) (Q:VK),ji X pins σ H s->t σ H Q->wpAny (model X.prog X.w) X.A (eval e X.env) (EP X pins σ Q) X.xe s
def PT (X:Cx) (e:Expr) (t:TT):Prop :=
 ∀(pins:AF) (s:Shared) (σ:St) (H:Hp) (Q:Bool->Hp->Prop),ji X pins σ H s->t σ H Q->wpAny (model X.prog X.w) X.A (isTrue e X.env (eval e X.env)) (TP X pins σ Q) X.xe s
def PW (X:Cx) (e:Expr) (t:TT):Prop :=
 ∀(whole:Sem Value) (pins:AF) (s:Shared) (σ:St) (H:Hp) (Q:Bool->Hp->Prop),ji X pins σ H s->t σ H Q->wpAny (model X.prog X.w) X.A (isTrue e X.env whole) (TP X pins σ Q) X.xe s
theorem PW.pt {t:TT} (h:PW X e t):PT X e t:=h _
def PA (X:Cx) (es:AO) (t:TA):Prop :=
 ∀(pos:Pos) (pins:AF) (s:Shared) (σ:St) (H:Hp) (Q:List V->Hp->Prop),ji X pins σ H s->t σ H Q->wpAny (model X.prog X.w) X.A (spliced (backTo pos (starEach es X.env))) (AP X pins σ Q) X.xe s
def PS (X:Cx) (st:Stmt) (t:TS):Prop :=
 ∀(pins:AF) (s:Shared) (σ:St) (H:Hp) (D:vX),ji X pins σ H s->t D σ H->wpAny (model X.prog X.w) X.A (exec st X.env) (SP X pins D) X.xe s
def z8 (X:Cx) (st:List Stmt) (t:TS):Prop :=
 ∀(pins:AF) (s:Shared) (σ:St) (H:Hp) (D:vX),ji X pins σ H s->t D σ H->wpAny (model X.prog X.w) X.A (execs st X.env) (SP X pins D) X.xe s
theorem jA {α:Type}{t:Sem α}{Q Q':α->Shared->Prop}{M:Model}{A:Around} (h:wpAny M A t Q E s) (hQ:∀a s,Q a s->Q' a s):wpAny M A t Q' E s:=wpAny_mono h hQ λ_ _ x=>x
section
variable {X:Cx}
theorem Aw {a b:Expr}{ta tb:TE} (ha:PE X a ta) (hb:PE X b tb) {pins:AF} (I:ji X pins σ H s) (h:ta σ H λx H1=>tb σ H1 λy H2=>R x y H2)
  {α:Type} {Q:α->Shared->Prop} {f:Value->Value->Sem α}
  (hf:∀v u s2 x y H2,ji X pins σ H2 s2->jE x v->jE y u->R x y H2->wpAny (model X.prog X.w) X.A (f v u) Q X.xe s2) :
  wpAny (model X.prog X.w) X.A (eval a X.env) (λv s₁=>wpAny (model X.prog X.w) X.A (eval b X.env) (λu s₂=>wpAny (model X.prog X.w) X.A (f v u) Q X.xe s₂) X.xe s₁) X.xe s:=by
 refine jA (ha pins s σ H _ I h) λv s1 #[x,H1,I1,r1,q1]=>?_;refine jA (hb pins s1 σ H1 _ I1 q1) λu s2 #[y,H2,I2,r2,q2]=>?_;exact hf v u s2 x y H2 I2 r1 r2 q2
inductive pF (i:Nat) (σ:St) (H:Hp) (Q:VK):Prop
 | mk (v:_) (h0:σ[i]?=some (some v)) (h1:Q v H):pF i σ H Q
def Nk (i:Nat):TE:=λσ H Q=>pF i σ H Q
def tC (v:V):TE:=λ_ H Q=>Q v H
theorem sK {i:Nat}{x:Str}{pos:Pos} (hN:X.N[i]?=some x) (hv:rM X.env.scope x) (hd:(x==("__debug__":Str))=false:=by decide) (C8:(x==("__classdict__":Str))=false:=by decide):PE X (.Name x pos) (Nk i):=by
 intro pins s σ H Q I h;obtain⟨v,e,h⟩:=h;obtain⟨m,hn,hl⟩:=I.loc;obtain⟨u,r,l⟩:=hl i x v hN e hv;have fin:EP X pins σ Q u s:=#[v,H,I,r,h];rcases l with ⟨hk,hm⟩|⟨hk,c,hc,DM⟩
 ·exact wpAny_Name (wpAny_loadName_local I.ok.kind hk hn hm fin) hd
 ·rcases hk with hk|hk
  ·exact wpAny_Name (wpAny_loadName_cell I.ok.kind hk hc DM fin) hd
  ·exact wpAny_Name (wpAny_loadName_free I.ok.kind hk hc DM fin C8) hd
theorem jk {i j pos}:PE X (.Constant (.int i) j pos) (tC (.int i)):=λ_ _ _ H _ I h=>wpAny_Constant_int #[.int i,H,I.tok _,#[_,rfl],h]
theorem vd {b j pos}:PE X (.Constant (.bool b) j pos) (tC (.bl b)):=λ_ _ _ H _ I h=>Constant_bool #[.bl b,H,I,rfl,h]
theorem eU {j pos}:PE X (.Constant .none j pos) (tC .non):=λ_ _ _ H _ I h=>Constant_none #[.non,H,I,rfl,h]
theorem JP {x j pos}:PE X (.Constant (.str x) j pos) (tC (.str x)):=λ_ _ _ H _ I h=>Calls.Constant_str #[.str x,H,I.tok _,#[_,rfl],h]
def Gl (X:Cx) (x:Str):Prop:=X.env.kindOf x=some .globalImplicit
theorem kA {pins:AF}{x:Str}{u:Value}{pos:Pos} (I:ji X pins σ H s) (hg:Gl X x) (hm:X.mg x=some u) (h:Q u s)
  (hd:(x==("__debug__":Str))=false:=by decide):wpAny (model X.prog X.w) X.A (eval (.Name x pos) X.env) Q E s :=
 Calls.Name_function_global I.ok.kind hg (Calls.loadGlobal_global (by rw[I.ok.glob];exact I.mod.glob.keeps I.bk) hm h) hd
theorem U7 {pins:AF}{x:Str}{u:Value}{pos:Pos} (I:ji X pins σ H s) (hg:Gl X x) (hm:X.mg x=none) (hv:bootBuiltins x=some u) (h:Q u s)
  (hn:x≠"__name__":=by decide) (hd:(x==("__debug__":Str))=false:=by decide):wpAny (model X.prog X.w) X.A (eval (.Name x pos) X.env) Q E s:=by
 obtain⟨mb,h1,h2⟩:=I.mod.blt;exact Calls.Name_function_global I.ok.kind hg (Calls.loadGlobal_builtin (by rw[I.ok.glob];exact I.mod.glob.keeps I.bk) hm (by rw[I.ok.blt];exact h1.keeps I.bk) ((h2 x hn).trans hv) h) hd
theorem uR {x:Str}{v:V}{u:Value}{pos:Pos} (hg:Gl X x) (hm:X.mg x=some u) (r:jE v u) (hd:(x==("__debug__":Str))=false:=by decide):PE X (.Name x pos) (tC v) :=
 λ_ _ _ H _ I h=>kA I hg hm #[v,H,I,r,h] hd
theorem uj {x:Str}{v:V}{u:Value}{pos:Pos} (hg:Gl X x) (hm:X.mg x=none) (hv:bootBuiltins x=some u) (r:jE v u) (hn:x≠"__name__":=by decide) (hd:(x==("__debug__":Str))=false:=by decide):PE X (.Name x pos) (tC v) :=
 λ_ _ _ H _ I h=>U7 I hg hm hv #[v,H,I,r,h] hn hd
variable {a b:Expr}{ta tb:TE}{pos:Pos}
def PC (X:Cx) (op:CmpOp) (a b:Expr) (t:TE):Prop :=
 ∀(pins:AF) (s:Shared) (σ:St) (H:Hp) (Q:VK),ji X pins σ H s->t σ H Q ->
  wpAny (model X.prog X.w) X.A (eval a X.env) (λv s₁=>wpAny (model X.prog X.w) X.A (eval b X.env) (λu s₂=>wpAny (model X.prog X.w) X.A (compareOp op v u) (EP X pins σ Q) X.xe s₂) X.xe s₁) X.xe s
theorem nh (b:Expr) {op:CmpOp} (h:op≠.In) (h2:op≠.NotIn):behindInMarks op b=false:=by
 have e1:(op==CmpOp.In)=false:=by cases op<;>first|rfl|exact absurd rfl h
 have e2:(op==CmpOp.NotIn)=false:=by cases op<;>first|rfl|exact absurd rfl h2
 cases b<;>simp [behindInMarks,e1,e2]
def wW (ta:TE):TE:=λσ H Q=>ta σ H λx H1=>Q (.bl (!decide (x=.non))) H1
theorem jE.none_iff {x:V}{v:Value} (r:jE x v):(v==Value.none)=decide (x=.non):=by
 cases x with
 | non=>cases r;rfl
 | bl _=>cases r;rfl
 | int _=>obtain⟨t,rfl⟩:=r;rfl
 | str _=>obtain⟨t,rfl⟩:=r;rfl
 | byt _=>obtain⟨t,rfl⟩:=r;rfl
 | flt _=>obtain⟨t,rfl⟩:=r;rfl
 | ref _=>cases r;rfl
 | ty _=>cases r;rfl
theorem qz {j pos'} (ha:PE X a ta):PC X .IsNot a (.Constant .none j pos') (wW ta):=by
 intro pins s σ H Q I h;refine jA (ha pins s σ H _ I h) λv s1 #[x,H1,I1,r1,q1]=>?_;exact Constant_none (isnot_none_gen #[.bl _,H1,I1,by rw[r1.none_iff];rfl,q1])
inductive xn (Q:Bool->Hp->Prop) (x:V) (H1:Hp):Prop
 | mk (c:_) (h0:x=.bl c) (h1:Q c H1):xn Q x H1
def tB (t:TE):TT:=λσ H Q=>t σ H λx H1=>xn Q x H1
theorem sI {op:CmpOp}{t:TE} (h:PC X op a b t) (h1:behindInMarks op b=false:=by first|exact nh _ '$' (by decide)|rfl):PE X (.Compare a [op] [b] pos) t:=λpins s σ H Q I hw=>wpAny_Compare1 (h pins s σ H Q I hw) h1
theorem fh {op:CmpOp}{t:TE} (h:PC X op a b t) (h1:behindInMarks op b=false:=by first|exact nh _ '$' (by decide)|rfl):PT X (.Compare a [op] [b] pos) (tB t):=by
 intro pins s σ H Q I hw;refine wpAny_isTrue_Compare1 (jA (h pins s σ H _ I hw) λv s1 h1=>jA h1 λu s2 h2=>jA h2 λc s3 #[x,H1,I1,r1,q1]=>?_) h1;obtain⟨d,rfl,q⟩:=q1;cases r1;exact wpAny_truthy_bool #[H1,I1,q]
theorem Jz {t:TE} (h:PE X e t) (he:∀whole,isTrue e X.env whole=(do let v <-whole;standAt e.pos;holding [v] (truthy v)):=by intro _;rfl):PT X e (tB t):=by
 intro pins s σ H Q I hw;refine isTrue_plain (jA (h pins s σ H _ I hw) λv s1 #[x,H1,I1,r1,q1]=>?_) (he _);obtain⟨d,rfl,q⟩:=q1;cases r1;exact wpAny_truthy_bool #[H1,I1,q]
variable {tA Ha:TT}{rest:AO}
def xN (t u:TT):TT:=λσ H Q=>t σ H λc H1=>if c=true then u σ H1 Q else Q false H1
def Ap (t u:TT):TT:=λσ H Q=>t σ H λc H1=>if c=true then Q true H1 else u σ H1 Q
def xT (t:TT):TT:=λσ H Q=>t σ H λc H1=>Q (!c) H1
theorem qI (ha:PT X a tA):PW X (.BoolOp .And [a] pos) tA:=by
 intro wh pins s σ H Q I h;refine isTrue_and (jA (ha pins s σ H Q I h) λc s1 e=>?_);cases c with
 | true=>exact isTrue_and_nil e
 | false=>exact e
theorem uS (ha:PT X a tA):PW X (.BoolOp .Or [a] pos) tA:=by
 intro wh pins s σ H Q I h;refine isTrue_or (jA (ha pins s σ H Q I h) λc s1 e=>?_);cases c with
 | false=>exact isTrue_or_nil e
 | true=>exact e
theorem sP (ha:PT X a tA) (hb:PW X (.BoolOp .And (b::rest) pos) Ha):PW X (.BoolOp .And (a::b::rest) pos) (xN tA Ha):=by
 intro wh pins s σ H Q I h;refine isTrue_and (jA (ha pins s σ H _ I h) λc s1 #[H1,I1,q1]=>?_);cases c with
 | true=>exact hb wh pins s1 σ H1 Q I1 q1
 | false=>exact#[H1,I1,q1]
theorem Um (ha:PT X a tA) (hb:PW X (.BoolOp .Or (b::rest) pos) Ha):PW X (.BoolOp .Or (a::b::rest) pos) (Ap tA Ha):=by
 intro wh pins s σ H Q I h;refine isTrue_or (jA (ha pins s σ H _ I h) λc s1 #[H1,I1,q1]=>?_);cases c with
 | true=>exact#[H1,I1,q1]
 | false=>exact hb wh pins s1 σ H1 Q I1 q1
theorem Jj (ha:PT X a tA):PT X (.UnaryOp .Not a pos) (xT tA):=by
 intro pins s σ H Q I h;exact isTrue_not (jA (ha pins s σ H (λc H1=>Q (!c) H1) I h) λc s1 #[H1,I1,q1]=>#[H1,I1,q1])
inductive fM (tb:TE) (σ:St) (Q:VK) (x:V) (H1:Hp):Prop
 | mk (c:_) (h0:x=.bl c) (h1:if c=true then tb σ H1 Q else Q (.bl false) H1):fM tb σ Q x H1
def wQ (ta tb:TE):TE:=λσ H Q=>ta σ H λx H1=>fM tb σ Q x H1
inductive fT (Q:VK) (x:V) (H1:Hp):Prop
 | mk (c:_) (h0:x=.bl c) (h1:Q (.bl (!c)) H1):fT Q x H1
def wX (ta:TE):TE:=λσ H Q=>ta σ H λx H1=>fT Q x H1
theorem GO {op}{t:TE} (h:PE X a t):PE X (.BoolOp op [a] pos) t:=λpins s σ H Q I hw=>BoolOp_one (h pins s σ H Q I hw)
theorem za (ha:PE X a ta) (hb:PE X (.BoolOp .And (b::rest) pos) tb):PE X (.BoolOp .And (a::b::rest) pos) (wQ ta tb):=by
 intro pins s σ H Q I h;refine BoolOp_and (jA (ha pins s σ H _ I h) λv s1 #[x,H1,I1,r1,q1]=>?_);obtain⟨c,rfl,q1⟩:=q1;cases r1;refine wpAny_truthy_bool ?_;cases c with
 | true=>exact hb pins s1 σ H1 Q I1 q1
 | false=>exact#[.bl false,H1,I1,rfl,q1]
theorem sJ (ha:PE X a ta):PE X (.UnaryOp .Not a pos) (wX ta):=by
 intro pins s σ H Q I h;refine UnaryOp_ (jA (ha pins s σ H _ I h) λv s1 #[x,H1,I1,r1,q1]=>?_);obtain⟨c,rfl,q1⟩:=q1;cases r1;exact not_of (wpAny_truthy_bool #[.bl (!c),H1,I1,rfl,q1])
def Am (t:TT) (ta tb:TE):TE:=λσ H Q=>t σ H λc H1=>if c=true then ta σ H1 Q else tb σ H1 Q
theorem lc {c:Expr} (hc:PT X c tA) (ha:PE X a ta) (hb:PE X b tb):PE X (.IfExp c a b pos) (Am tA ta tb):=by
 intro pins s σ H Q I h;refine wpAny_IfExp (jA (hc pins s σ H _ I h) λd s1 #[H1,I1,q1]=>?_);cases d with
 | true=>exact ha pins s1 σ H1 Q I1 q1
 | false=>exact hb pins s1 σ H1 Q I1 q1
end
def jg (K:AB) (H:Hp) (a:Addr) (xs:List V):Prop :=
 Rd H a (.lst xs) \/
  ∃(o:Obj) (AV:AN) (n:Nat),K.lookup a=some o/\o.cls=.type "list"/\o.dict=none/\o.data=.seq AV n/\AV.size<=sizeLine/\jz xs AV.toList
def jB (K:AB) (H:Hp) (a:Addr) (xs:List V):Prop :=
 Rd H a (.tup xs) \/
  ∃(o:Obj) (AV:AN) (n:Nat),K.lookup a=some o/\o.cls=.type "tuple"/\o.data=.seq AV n/\AV.size<=sizeLine/\jz xs AV.toList
def xw:Value->Option V
 | .none=>some .non
 | .bool b=>some (.bl b)
 | .int i _=>some (.int i)
 | .str x _=>some (.str x)
 | .bytes b _=>some (.byt b)
 | .float b _=>some (.flt b)
 | .ref a=>some (.ref a)
 | .type n=>some (.ty n)
 | _=>none
theorem jE.abs {x:V}{u:Value} (r:jE x u):xw u=some x:=by
 cases x with
 | non=>cases r;rfl
 | bl _=>cases r;rfl
 | int _=>obtain⟨t,rfl⟩:=r;rfl
 | str _=>obtain⟨t,rfl⟩:=r;rfl
 | byt _=>obtain⟨t,rfl⟩:=r;rfl
 | flt _=>obtain⟨t,rfl⟩:=r;rfl
 | ref _=>cases r;rfl
 | ty _=>cases r;rfl
theorem jE.inj {x:V}{u:Value} (r:jE x u) (q:jE y u):x=y:=Option.some.inj (r.abs.symm.trans q.abs)
theorem jz.inj:∀{xs ys:List V} {us:AH},jz xs us->jz ys us->xs=ys
 | _,_,_,.nil,.nil=>rfl
 | _,_,_,.cons r t,.cons r' t'=>by rw[r.inj r',jz.inj t t']
section
variable {X:Cx}{pins:AF}{σ:St}{H:Hp}{s:Shared}{a:Addr}{xs ys:List V}
theorem jg.of {K:AB} (h:H a=some (.lst xs)):jg K H a xs:=.inl (.inl h)
theorem jB.of {K:AB} (h:H a=some (.tup xs)):jB K H a xs:=.inl (.inl h)
theorem ji.list (I:ji X pins σ H s) (h:jg X.K H a xs):∃AV:List Value,jz xs AV/\PlainL s.heap a AV.toArray/\xs.length<=sizeLine:=by
 rcases h with h|⟨o,AV,n,hk,hc,hd,hs,hz,r⟩
 ·obtain⟨z,AV,n,r,e⟩:=h.ok I.hok;exact#[AV,r,#[_,n,e,rfl,rfl,rfl],z]
 ·refine#[AV.toList,r,#[o,n,I.kIn a o hk,hc,hd,by simpa using hs],?_];have e:=r.length;simp only[yA] at e;omega
theorem ji.tuple (I:ji X pins σ H s) (h:jB X.K H a xs):∃AV:List Value,jz xs AV/\IsTup s.heap a AV.toArray/\xs.length<=sizeLine:=by
 rcases h with h|⟨o,AV,n,hk,hc,hs,hz,r⟩
 ·obtain⟨z,AV,r,p⟩:=h.ok I.hok;exact#[AV,r,p,z]
 ·refine#[AV.toList,r,#[o,I.kIn a o hk,hc,n,by simpa using hs],?_];have e:=r.length;simp only[yA] at e;omega
theorem ji.list_inj (I:ji X pins σ H s) (h:jg X.K H a xs) (h':jg X.K H a ys):xs=ys:=by
 obtain⟨AV,r,⟨o,n,e,_,_,d⟩,_⟩:=I.list h;obtain⟨its',r',⟨o',n',e',_,_,d'⟩,_⟩:=I.list h';rw[e] at e';cases e';rw[d] at d';injection d' with d1 _
 have:AV=its':=by simpa using congrArg Array.toList d1
 subst this;exact r.inj r'
theorem ji.tuple_inj (I:ji X pins σ H s) (h:jB X.K H a xs) (h':jB X.K H a ys):xs=ys:=by
 obtain⟨AV,r,⟨o,e,_,n,d⟩,_⟩:=I.tuple h;obtain⟨its',r',⟨o',e',_,n',d'⟩,_⟩:=I.tuple h';rw[e] at e';cases e';rw[d] at d';injection d' with d1 _
 have:AV=its':=by simpa using congrArg Array.toList d1
 subst this;exact r.inj r'
end
section
variable {X:Cx}{st:Stmt}{rest:List Stmt}{t u:TS}{e:Expr}{te:TE}{pos:Pos}
def wV:TS:=λD σ H=>D.nx σ H
def u7 (t u:TS):TS:=λD σ H=>t { D with nx:=u D } σ H
theorem jR:z8 X [] wV:=λ_ _ σ H _ I h=>wpAny_execs_nil #[σ,H,I,h]
theorem jf (h1:PS X st t) (h2:z8 X rest u):z8 X (st::rest) (u7 t u):=by
 intro pins s σ H D I h;refine wpAny_execs_cons (jA (h1 pins s σ H { D with nx:=u D } I h) λf s1 q=>?_);cases f with
 | next =>
  obtain⟨σ',H',I',q⟩:=q;exact h2 pins s1 σ' H' D I' q
 | ret v=>exact q
 | brk=>exact q
 | cont=>exact q
theorem jj (h1:PS X st t):z8 X [st] t:=by
 intro pins s σ H D I h;refine wpAny_execs_cons (jA (h1 pins s σ H D I h) λf s1 q=>?_);cases f with
 | next=>exact wpAny_execs_nil q
 | ret v=>exact q
 | brk=>exact q
 | cont=>exact q
theorem ji.quiet {pins:AF} (I:ji X pins σ H s):interactive X.env=false:=by simp [interactive,I.ok.kind]
def wU (te:TE):TS:=λD σ H=>te σ H λ_ H1=>D.nx σ H1
theorem j6 (he:PE X e te) (hs:swapsWith e none pos.line X.env=pure false:=by rfl):PS X (.Expr e pos) (wU te):=by
 intro pins s σ H D I h;exact wpAny_Expr_any (jA (he pins s σ H _ I h) λv s1 #[x,H1,I1,r1,q1]=>#[σ,H1,I1,q1]) I.quiet hs
def xU (te:TE):TS:=λD σ H=>te σ H D.rt
theorem jH (he:PE X e te):PS X (.Return (some e) pos) (xU te):=by
 intro pins s σ H D I h;exact wpAny_Return_some (jA (he pins s σ H _ I h) λv s1 #[x,H1,I1,r1,q1]=>#[x,σ,H1,I1,r1,q1])
def xS (c:TT) (t u:TS):TS:=λD σ H=>c σ H λb H1=>if b=true then t D σ H1 else u D σ H1
theorem Jo {c:Expr}{a b:List Stmt} (hc:PT X c tc) (ha:z8 X a t) (hb:z8 X b u):PS X (.If c a b pos) (xS tc t u):=by
 intro pins s σ H D I h;refine wpAny_If (jA (hc pins s σ H _ I h) λd s1 #[H1,I1,q1]=>?_);cases d with
 | true=>exact ha pins s1 σ H1 D I1 q1
 | false=>exact hb pins s1 σ H1 D I1 q1
def tT:TS:=λ_ _ _=>False
theorem ua:PS X st tT:=λ_ _ _ _ _ _ h=>h.elim
end
abbrev TG:=V->St->Hp->(St->Hp->Prop)->Prop
abbrev Kb:=List V->St->Hp->(St->Hp->Prop)->Prop
def PG (X:Cx) (target:Expr) (t:TG):Prop :=
 ∀(pins:AF) (s:Shared) (σ:St) (H:Hp) (v:V) (u:Value) (Q:St->Hp->Prop),ji X pins σ H s->jE v u->t v σ H Q ->
  wpAny (model X.prog X.w) X.A (assign target X.env u) (λ_ s'=>∃σ' H',ji X pins σ' H' s'/\Q σ' H') X.xe s
def ox (X:Cx) (ts:AO) (t:Kb):Prop :=
 ∀(pins:AF) (s:Shared) (σ:St) (H:Hp) (vs:List V) (us:AH) (Q:St->Hp->Prop),ji X pins σ H s->jz vs us->t vs σ H Q ->
  wpAny (model X.prog X.w) X.A (assignInOrder ((assignEach ts X.env).map (·.2)) us) (λ_ s'=>∃σ' H',ji X pins σ' H' s'/\Q σ' H') X.xe s
section
variable {X:Cx}{pos:Pos}
def ZM (i:Nat):TG:=λv σ H Q=>Q (σ.set i (some v)) H
theorem jl (i:Nat) {x:Str} (hN:X.N.Nodup:=by exact mN (by kernel_rfl)) (hi:X.N[i]?=some x:=by rfl) (hx:N8 X.env.scope x:=by first|exact .inl rfl|exact .inr rfl) (hf:X.fn x=true\/X.env.scope.names.lookup x=some .local:=by first|exact .inl rfl|exact .inr rfl|assumption):PG X (.Name x pos) (ZM i):=by
 intro pins s σ H v u Q I r h;exact wpAny_assign_Name (Nh I hN hi hx r (λs' I'=>#[_,H,I',h]) hf)
def xy:Kb:=λvs σ H Q=>vs=[]/\Q σ H
def wo (t:TG) (u:Kb):Kb:=λvs σ H Q=>∃v r,vs=v::r/\t v σ H λσ' H'=>u r σ' H' Q
theorem Jc:ox X [] xy:=by
 intro pins s σ H vs us Q I r h;obtain⟨e,h⟩:=h;subst e;cases r;exact assignInOrder_nil #[σ,H,I,h]
theorem jt {t:TG}{u:Kb} (h1:PG X e t) (h2:ox X es u)
  (hs:(assignEach (e::es) X.env).map (·.2)=assign e X.env::(assignEach es X.env).map (·.2):=by rfl):ox X (e::es) (wo t u):=by
 intro pins s σ H vs us Q I r h;obtain⟨v,vr,e1,h⟩:=h;subst e1;cases r with
 | cons r rr =>
  rw[hs];refine assignInOrder_cons (jA (h1 pins s σ H _ _ _ I r h) λ_ s1 #[σ1,H1,I1,q1]=>?_);exact h2 pins s1 σ1 H1 _ _ Q I1 rr q1
inductive oK (K:AB) (n:Nat) (t:Kb) (v:V) (σ:St) (H:Hp) (Q:St->Hp->Prop):Prop
 | mk (a:_) (xs:_) (h0:v=.ref a) (h1:jB K H a xs) (h2:xs.length=n) (h3:t xs σ H Q):oK K n t v σ H Q
def xz (K:AB) (n:Nat) (t:Kb):TG:=λv σ H Q=>oK K n t v σ H Q
theorem Jv {K:AB}{k:Nat}{t:Kb} (h:ox X es t) (hc:X.calm=true:=by rfl)
  (hn:(assignEach es X.env).length=n:=by rfl) (Bo:(assignEach es X.env).findIdx? (·.1)=none:=by rfl) (hK:X.K=K:=by first|exact Vg|exact rfl):PG X (.Tuple es k pos) (xz K n t):=by
 subst hK;intro pins s σ H v u Q I r hw;obtain⟨a,xs,e1,hq,hl,hw⟩:=hw;subst e1;cases r;obtain⟨AV,rv,ht,hz⟩:=I.tuple hq;refine assign_Tuple_tuple (I.ok.hd hc) ht (by simp [hn,<-hl,rv.length]) Bo λh' hx=>?_;have I1:ji X pins σ H { s with heap:=h' }:=I.kept (t':=s.toks) λb o e=>hx b o (yx (ym e)) e;exact h pins _ σ H xs _ Q I1 (by simpa using rv) hw
def cC (te:TE) (g:TG):TS:=λD σ H=>te σ H λx H1=>g x σ H1 D.nx
theorem sN (he:PE X e te) (hg:PG X tg g) (hs:swapsWithSole [tg] e pos.line X.env=pure false:=by rfl) (hw:swappedStores [tg] e X.env=pure none:=by rfl)
  (h1:(assignEach [tg] X.env).map (·.2)=[assign tg X.env]:=by rfl):PS X (.Assign [tg] e pos) (cC te g):=by
 intro pins s σ H D I h;refine wpAny_Assign_stores (jA (he pins s σ H _ I h) λv s1 #[x,H1,I1,r1,q1]=>?_) hs hw;rw[h1];exact jA (hg pins s1 σ H1 x v _ I1 r1 q1) λ_ s2 q=>q
theorem ju (i:Nat) {x:Str} {pos':Pos} (he:PE X e te) (hN:X.N.Nodup:=by exact mN (by kernel_rfl)) (hi:X.N[i]?=some x:=by rfl) (hx:N8 X.env.scope x:=by first|exact .inl rfl|exact .inr rfl) (hs:swapsWith e (some (.Name x pos')) pos.line X.env=pure false:=by rfl) (hf:X.fn x=true\/X.env.scope.names.lookup x=some .local:=by first|exact .inl rfl|exact .inr rfl|assumption) :
  PS X (.Assign [.Name x pos'] e pos) (cC te (ZM i)):=by
 intro pins s σ H D I h;refine wpAny_Assign_Name (jA (he pins s σ H _ I h) λv s1 #[y,H1,I1,r1,q1]=>?_) hs;exact Nh I1 hN hi hx r1 (λs2 I2=>#[_,H1,I2,q1]) hf
end
section
variable {X:Cx}{pos:Pos}
def tV (c:TT) (tb:TS):TS:=λD σ H=>∃W:Nat->St->Hp->Prop,(∃m,W m σ H)/\∀m σ H,W m σ H ->
 c σ H λb H1=>if b=true then ∃N:St->Hp->Prop,(∀σ' H',N σ' H'->∃m',m'<m/\W m' σ' H')/\tb { D with nx:=N,ct:=N,bk:=D.nx } σ H1 else D.nx σ H1
theorem lB {c:Expr} (hp:PassesOwn (model X.prog X.w) X.A X.env X.xe) (hc:PT X c tc) (hb:z8 X body tb):PS X (.While c body [] pos) (tV tc tb):=by
 intro pins s σ H D I h;obtain⟨W,⟨m0,w0⟩,turn⟩:=h;refine wpAny_While (codeAny_whileLoop (λn s'=>∃σ' H',ji X pins σ' H' s'/\W n σ' H') ?_ m0 #[σ,H,I,w0]);rintro n s1 ⟨σ1,H1,I1,w1⟩;refine wpAny_passesOwn hp (jA (hc pins s1 σ1 H1 _ I1 (turn n σ1 H1 w1)) λb s2 #[H2,I2,q2]=>?_);cases b with
 | true =>
  obtain⟨N,hN,q2⟩:=q2;rw[if_pos rfl];refine wpAny_passesOwn hp (jA (hb pins s2 σ1 H2 _ I2 q2) λf s3 q3=>?_);cases f with
  | next =>
   obtain⟨σ3,H3,I3,n3⟩:=q3;obtain⟨m',hm,w3⟩:=hN σ3 H3 n3;exact#[m',hm,σ3,H3,I3,w3]
  | cont =>
   obtain⟨σ3,H3,I3,n3⟩:=q3;obtain⟨m',hm,w3⟩:=hN σ3 H3 n3;exact#[m',hm,σ3,H3,I3,w3]
  | brk=>exact q3
  | ret v=>exact q3
 | false =>
  rw[if_neg yt];exact wpAny_execs_nil #[σ1,H2,I2,q2]
end
structure It where
 go:Nat->Hp->Prop
 yld:Nat->Hp->V->Hp->Prop
 stop:Nat->Hp->Prop
def vY (X:Cx) (pins:AF) (H:Hp) (b:Addr):Prop :=
 H b=none/\b≠X.env.locals/\b ∉ X.fs/\(b∈X.ex\/X.s₀.heap.objs.size<=b)/\(∀x c,X.env.cells.lookup x=some c->c≠b)/\∀p∈X.pn++pins,p.1≠b
theorem ji.fpOk {pins:AF}{H':Hp}{b:Addr} (I:ji X pins σ H s) (hb:s.heap.objs.size<=b) (hn:H' b=none):vY X pins H' b:=by
 refine#[hn,Qe (yJ I.lt hb),I.nofs hb,.inr (yp I.sz hb),λx c e z=>?_,λp hp z=>?_]
 ·obtain⟨v,q⟩:=I.cell x c e;exact absurd (yJ q.lt (by rw[z];exact hb)) (QI _)
 ·exact absurd (yJ (ym (I.pin p hp).1) (by rw[z];exact hb)) (QI _)
structure Vb (P:AS) (w:World) (K:AB) (tg:Expr) (J:It) (fp:AI) (it:Addr) (tn:Nat->Heap->Prop) (nm:Bool):Prop where
 mem:it∈fp
 obj:∀i h,tn i h->∀b∈fp,∃o,h.get? b=some o/\∀v,o.data≠.cell v
 keep:∀i h h',tn i h->(∀b∈fp,∀o,h.get? b=some o->h'.get? b=some o)->tn i h'
 item:∀(X:Cx),X.prog=P->X.w=w->X.K=K->(nm=true->X.calm=true)->∀(i:Nat) (pins:AF) (s:Shared) (σ:St) (H:Hp) (E:Ax),ji X pins σ H s->(∀b∈fp,vY X pins H b)->tn i s.heap->J.go i H ->
  wpAny (model P w) X.A (pyNext (.ref it)) (λr s1=>∃u,r=some u /\
   wpAny (model P w) X.A (letOwnedTupleGo tg (.ref it) u) (λ_ s2=>∃x H',ji X pins σ H' s2/\jE x u/\J.yld i H x H'/\tn (i+1) s2.heap/\∀b∈fp,H' b=none) E s1) E s
 done:∀(X:Cx),X.prog=P->X.w=w->X.K=K->(nm=true->X.calm=true)->∀(i:Nat) (pins:AF) (s:Shared) (σ:St) (H:Hp) (E:Ax),ji X pins σ H s->(∀b∈fp,vY X pins H b)->tn i s.heap->J.stop i H ->
  wpAny (model P w) X.A (pyNext (.ref it)) (λr s1=>r=none/\ji X pins σ H s1) E s
 self:∀(A:Around) (i:Nat) (s:Shared) (Q:Ax) (E:Ax),tn i s.heap->Q (.ref it) s->wpAny (model P w) A (pyIter (.ref it)) Q E s
def zp (X:Cx) (tg:Expr) (J:It) (fp:AI) (it:Addr) (tn:Nat->Heap->Prop):Prop:=∃nm,Vb X.prog X.w X.K tg J fp it tn nm/\(nm=true->X.calm=true)
theorem zp.of {J:It}{tn:Nat->Heap->Prop} (T:Vb X.prog X.w X.K tg J fp it tn false):zp X tg J fp it tn:=#[false,T,λz=>by cases z]
abbrev TI:=St->Hp->(It->Hp->Prop)->Prop
def xf (X:Cx) (pins:AF) (σ:St) (tg:Expr) (R:It->Hp->Prop) (HX:Value) (s2:Shared):Prop :=
 ∃(it:Addr) (fp:AI) (tn:Nat->Heap->Prop) (J:It) (H':Hp),HX=.ref it/\ji X pins σ H' s2/\zp X tg J fp it tn/\tn 0 s2.heap/\(∀b∈fp,vY X pins H' b)/\R J H'
def PI (X:Cx) (tg iter:Expr) (wi:TI):Prop :=
 ∀(pins:AF) (s:Shared) (σ:St) (H:Hp) (R:It->Hp->Prop),ji X pins σ H s->wi σ H R ->
  wpAny (model X.prog X.w) X.A (eval iter X.env) (λv s1=>wpAny (model X.prog X.w) X.A (pyIter v) (xf X pins σ tg R) X.xe s1) X.xe s
theorem ZN {M:Model}{A:Around}{u:Value}{o:Obj}{n:String}{vs:AN}{Q:Ay} (ho:s.heap.get? it=some o) (hc:o.cls=.type n) (hd:o.data=.fields vs)
  (hn:["enumerate","zip","dict_itemiterator","dict_reverseitemiterator","odict_iterator","itertools.zip_longest","itertools.pairwise"].contains n=false) (hQ:Q () s):wpAny M A (letOwnedTupleGo tg (.ref it) u) Q E s:=by
 unfold letOwnedTupleGo;cases tg<;>first
  | exact AU hQ
  | (cases u<;>first
    | exact AU hQ
    | (refine AT (wpAny_load ho ?_)
       rw[hc,hd];show wpAny M A (if (["enumerate","zip","dict_itemiterator","dict_reverseitemiterator","odict_iterator","itertools.zip_longest","itertools.pairwise"].contains n&&vs[0]?==some (rawInt _))=true then _ else _) Q E s;rw[if_neg (by intro h;rw[hn,Bool.false_and] at h;cases h)];exact AU hQ))
def k6 (K:AB) (a:Addr):It :=
 #[λi H=>∃xs x,jg K H a xs/\xs[i]?=some x,λi H x H'=>H'=H/\∀xs,jg K H a xs->xs[i]?=some x,λi H=>∃xs,jg K H a xs/\xs.length<=i]
def NZ (K:AB) (a:Addr):It :=
 #[λi H=>∃xs x,jB K H a xs/\xs[i]?=some x,λi H x H'=>H'=H/\∀xs,jB K H a xs->xs[i]?=some x,λi H=>∃xs,jB K H a xs/\xs.length<=i]
def m9 (lo:Int) (n:Nat):It:=#[λi _=>i<n,λi H x H'=>H'=H/\x=.int (lo+i),λi _=>n<=i]
theorem f8 {w:World}{K:AB} (a it:Addr):Vb P w K tg (k6 K a) [it] it (λi h=>h.IsListIter it a i) false where
 mem:=by simp
 obj:=λi h st b hb=>by
  have e:b=it:=by simpa using hb
  subst e;obtain⟨o,e,c,d⟩:=st;exact#[o,e,λv z=>by rw[d] at z;cases z]
 keep:=λi h h' st k=>st.at λo e=>k it (by simp) o e
 item:=by
  intro X hP hw hK hc i pins s σ H E I hf st hg;subst hP hw hK;obtain⟨xs,x,hq,hx⟩:=hg;obtain⟨AV,rv,p,hz⟩:=I.list hq;obtain⟨u,hu,ru⟩:=rv.get hx;obtain⟨f0,f1,f2,f3,f4,f5⟩:=hf it (by simp);refine wpAny_pyNext_list_item st p.isList (x:=u) (by simpa using hu) λh' Bp sb=>?_;have I1:ji X pins σ H { s with heap:=h' }:=I.turned (t':=s.toks) (λb o hb e=>(sb.2 b hb).trans e) f0 f1 f3 f4 f5;obtain⟨o,e,c,d⟩:=id Bp;exact#[u,rfl,ZN (s:={ s with heap:=h' }) e c d '$' #[x,H,I1,ru,#[rfl,λys hy=>by rw[I.list_inj hy hq];exact hx],Bp,λb hb=>(hf b hb).1]]
 done:=by
  intro X hP hw hK hc i pins s σ H E I hf st hg;subst hP hw hK;obtain⟨xs,hq,hx⟩:=hg;obtain⟨AV,rv,p,hz⟩:=I.list hq;obtain⟨f0,f1,f2,f3,f4,f5⟩:=hf it (by simp);have hl:=rv.length;exact aB (I.hn.now I.hok) st p.isList (by simp;omega) λh' eb=>#[rfl,I.turned (t':=s.toks) (λb o hb e=>eb b o hb e) f0 f1 f3 f4 f5]
 self:=λ_ _ _ _ _ st h=>wpAny_pyIter_listiter st h
theorem cK {w:World}{K:AB} (a it:Addr):Vb P w K tg (NZ K a) [it] it (λi h=>h.IsTupleIter it a i) false where
 mem:=by simp
 obj:=λi h st b hb=>by
  have e:b=it:=by simpa using hb
  subst e;obtain⟨o,e,c,d⟩:=st;exact#[o,e,λv z=>by rw[d] at z;cases z]
 keep:=λi h h' st k=>st.at λo e=>k it (by simp) o e
 item:=by
  intro X hP hw hK hc i pins s σ H E I hf st hg;subst hP hw hK;obtain⟨xs,x,hq,hx⟩:=hg;obtain⟨AV,rv,p,hz⟩:=I.tuple hq;obtain⟨u,hu,ru⟩:=rv.get hx;obtain⟨f0,f1,f2,f3,f4,f5⟩:=hf it (by simp);refine wpAny_pyNext_tuple_item st (show s.heap.IsTuple a AV.toArray from p) (x:=u) (by simpa using hu) λh' Bp sb=>?_;have I1:ji X pins σ H { s with heap:=h' }:=I.turned (t':=s.toks) (λb o hb e=>(sb.2 b hb).trans e) f0 f1 f3 f4 f5;obtain⟨o,e,c,d⟩:=id Bp;exact#[u,rfl,ZN (s:={ s with heap:=h' }) e c d '$' #[x,H,I1,ru,#[rfl,λys hy=>by rw[I.tuple_inj hy hq];exact hx],Bp,λb hb=>(hf b hb).1]]
 done:=by
  intro X hP hw hK hc i pins s σ H E I hf st hg;subst hP hw hK;obtain⟨xs,hq,hx⟩:=hg;obtain⟨AV,rv,p,hz⟩:=I.tuple hq;obtain⟨f0,f1,f2,f3,f4,f5⟩:=hf it (by simp);have hl:=rv.length;exact lX (I.hn.now I.hok) st (show s.heap.IsTuple a AV.toArray from p) (by simp;omega) λh' eb=>#[rfl,I.turned (t':=s.toks) (λb o hb e=>eb b o hb e) f0 f1 f3 f4 f5]
 self:=λ_ _ _ _ _ st h=>wpAny_pyIter_tupleiter st h
theorem cJ {w:World}{K:AB} (it:Addr) (lo:Int) (n:Nat):Vb P w K tg (m9 lo n) [it] it (λi h=>IsRangeIter h it (lo+(i:Nat)*1) ((n:Int) - (i:Nat)) 1) false where
 mem:=by simp
 obj:=λi h st b hb=>by
  have e:b=it:=by simpa using hb
  subst e;exact#[_,st,λv z=>by
   have z':Data.fields _=Data.cell v:=z;cases z']
 keep:=λi h h' st k=>k it (by simp) _ st
 item:=by
  intro X hP hw hK hc i pins s σ H E I hf st hg;subst hP hw hK;obtain⟨f0,f1,f2,f3,f4,f5⟩:=hf it (by simp);refine wpAny_pyNext_range_item st (by have:i<n:=hg;omega) λh' Bp sb=>?_;obtain⟨tk,Hb⟩:∃tk,tk=s.toks+1:=#[_,rfl];rw[<-Hb];have I1:ji X pins σ H { s with heap:=h',toks:=tk }:=I.turned (λb o hb e=>(sb.2 b hb).trans e) f0 f1 f3 f4 f5;have Ed:IsRangeIter h' it (lo+((i+1:Nat):Int)*1) ((n:Int) - ((i+1:Nat):Int)) 1:=by
   rw[show lo+((i+1:Nat):Int)*1=lo+(i:Int)*1+1 by omega,show (n:Int) - ((i+1:Nat):Int)=(n:Int) - (i:Int) - 1 by omega];exact Bp
  refine#[_,rfl,ZN (s:={ s with heap:=h',toks:=tk }) (n:="range_iterator") Bp rfl rfl '$' #[.int (lo+i),H,I1,#[s.toks,?_],#[rfl,rfl],Ed,λb hb=>(hf b hb).1]];rw[Int.mul_one]
 done:=by
  intro X hP hw hK hc i pins s σ H E I hf st hg;subst hP hw hK;obtain⟨f0,f1,f2,f3,f4,f5⟩:=hf it (by simp);exact lG (I.hn.now I.hok) st (by have:n<=i:=hg;omega) λh' eb=>#[rfl,I.turned (t':=s.toks) (λb o hb e=>eb b o hb e) f0 f1 f3 f4 f5]
 self:=λ_ _ _ _ _ st h=>wpAny_pyIter_rangeiter st h
section
variable {X:Cx}{tg:Expr}
inductive dz (K:AB) (R:It->Hp->Prop) (x:V) (H1:Hp):Prop
 | mk (a:_) (h0:x=.ref a) (h1:(∃xs,jg K H1 a xs)) (h2:R (k6 K a) H1):dz K R x H1
def wv (K:AB) (tl:TE):TI:=λσ H R=>tl σ H λx H1=>dz K R x H1
inductive oN (K:AB) (R:It->Hp->Prop) (x:V) (H1:Hp):Prop
 | mk (a:_) (h0:x=.ref a) (h1:(∃xs,jB K H1 a xs)) (h2:R (NZ K a) H1):oN K R x H1
def xB (K:AB) (tl:TE):TI:=λσ H R=>tl σ H λx H1=>oN K R x H1
theorem jO {K:AB} (hl:PE X l tl) (hK:X.K=K:=by first|exact Vg|exact rfl):PI X tg l (wv K tl):=by
 subst hK;intro pins s σ H R I h;refine jA (hl pins s σ H _ I h) λv s1 #[x,H1,I1,r1,q1]=>?_;obtain⟨a,e,⟨xs,hq⟩,q⟩:=q1;subst e;cases r1;obtain⟨AV,rv,p,hz⟩:=I1.list hq;refine wpAny_pyIter_list p.isList ?_;refine#[s1.heap.objs.size,[s1.heap.objs.size],_,_,H1,rfl,I1.kept (t':=s1.toks) λb o e=>yd _ e,zp.of (f8 a _),#[_,yo _ rfl,rfl,rfl],λb hb=>?_,q];have e:b=s1.heap.objs.size:=by simpa using hb
 subst e;exact I1.fpOk (yh _) (I1.hok.fresh (yh _))
theorem fb {K:AB} (hl:PE X l tl) (hK:X.K=K:=by first|exact Vg|exact rfl):PI X tg l (xB K tl):=by
 subst hK;intro pins s σ H R I h;refine jA (hl pins s σ H _ I h) λv s1 #[x,H1,I1,r1,q1]=>?_;obtain⟨a,e,⟨xs,hq⟩,q⟩:=q1;subst e;cases r1;obtain⟨AV,rv,p,hz⟩:=I1.tuple hq;refine wpAny_pyIter_tuple (show s1.heap.IsTuple a AV.toArray from p) ?_;refine#[s1.heap.objs.size,[s1.heap.objs.size],_,_,H1,rfl,I1.kept (t':=s1.toks) λb o e=>yd _ e,zp.of (cK a _),#[_,yo _ rfl,rfl,rfl],λb hb=>?_,q];have e:b=s1.heap.objs.size:=by simpa using hb
 subst e;exact I1.fpOk (yh _) (I1.hok.fresh (yh _))
theorem lF {pins:AF}{R:It->Hp->Prop}{hi:Int}{t u v:Tok}{tk:Nat} (I:ji X pins σ H s) (h1:-(2^62)<=lo) (h2:lo<2^62) (h3:-(2^62)<=hi) (h4:hi<2^62)
  (q:R (m9 lo (hi - lo).toNat) H):wpAny (model X.prog X.w) X.A (pyIter (.ref s.heap.objs.size)) (xf X pins σ tg R) E { s with heap:=s.heap.push { cls:=.type "range",data:=.fields (List.toArray [.int lo t,.int hi u,.int 1 v]) },toks:=tk }:=by
 refine wpAny_pyIter_range (IsRange.new ..) (small_one h1 h2 h3 h4) ?_;have I1:ji X pins σ H { s with heap:=s.heap.push { cls:=.type "range",data:=.fields (List.toArray [.int lo t,.int hi u,.int 1 v]) },toks:=tk }:=I.kept λb o e=>yd _ e;refine#[(s.heap.push { cls:=.type "range",data:=.fields (List.toArray [.int lo t,.int hi u,.int 1 v]) }).objs.size,[(s.heap.push { cls:=.type "range",data:=.fields (List.toArray [.int lo t,.int hi u,.int 1 v]) }).objs.size],_,_,H,rfl,
  I1.kept (t':=tk) λb o e=>yd _ e,zp.of (cJ _ lo (hi - lo).toNat),?_,λb hb=>?_,q]
 ·have e1:lo+((0:Nat):Int)*1=lo:=by simp
  have e2:(((hi - lo).toNat:Nat):Int) - ((0:Nat):Int)=Builtin.Range.rangeSize lo hi 1:=by rw[rangeSize_one];split<;>omega
  show IsRangeIter _ _ (lo+((0:Nat):Int)*1) ((((hi - lo).toNat:Nat):Int) - ((0:Nat):Int)) 1;rw[e1,e2];exact yo _ rfl
 ·have e:b=(s.heap.push { cls:=.type "range",data:=.fields (List.toArray [.int lo t,.int hi u,.int 1 v]) }).objs.size:=by simpa using hb
  subst e;exact I1.fpOk (yh _) (I1.hok.fresh (yh _))
inductive dA (R:It->Hp->Prop) (vs:List V) (H1:Hp):Prop
 | mk (j:Int) (h0:vs=[.int j]) (h1:-(2^62)<=j) (h2:j<2^62) (h3:R (m9 0 j.toNat) H1):dA R vs H1
def ww (ta:TA):TI:=λσ H R=>ta σ H λvs H1=>dA R vs H1
theorem UX {a:Expr}{ta:TA}{p pos:Pos} (hg:Gl X "range") (hm:X.mg "range"=none) (ha:PA X [a] ta) (hs:starEach [a] X.env=[(false,eval a X.env)]:=by rfl):PI X tg (.Call (.Name "range" p) [a] [] pos) (ww ta):=by
 intro pins s σ H R I h;refine Call_ (U7 I hg hm boot_range (PyProof.Rows.callWith_type1 (jA (ha pos pins s σ H _ I h) λus s1 #[vs,H1,I1,r1,q1]=>?_) hs rfl));obtain⟨j,e,q1,q2,q⟩:=q1;subst e;cases r1 with
 | cons r rr =>
  cases rr;obtain⟨t,rfl⟩:=r;exact call_range_1 (lF I1 '!' '!' q1 q2 (by simpa using q))
def xR (wi:TI) (g:TG) (tb:TS):TS:=λD σ H=>wi σ H λJ H1=>∃W:Nat->Nat->St->Hp->Prop,(∃m,W 0 m σ H1)/\∀i m σ H,W i m σ H ->
 (J.stop i H/\D.nx σ H)\/(J.go i H/\∃N:St->Hp->Prop,(∀σ' H',N σ' H'->∃m',m'<m/\W (i+1) m' σ' H')/\∀x H',J.yld i H x H'->g x σ H' λσ2 H2=>tb { D with nx:=N,ct:=N,bk:=D.nx } σ2 H2)
def Zy (fp:AI) (h:Heap):List (Addr×Obj):=fp.filterMap λb=>(h.get? b).map λo=>(b,o)
theorem vO {b:Addr}{o:Obj} (hb:b∈fp) (e:h.get? b=some o):(b,o)∈Zy fp h:=List.mem_filterMap.mpr #[b,hb,by rw[e];rfl]
theorem eE {p:Addr×Obj} (hp:p∈Zy fp h):p.1∈fp/\h.get? p.1=some p.2:=by
 obtain⟨b,hb,e⟩:=List.mem_filterMap.mp hp;cases q:h.get? b with
 | none=>rw[q] at e;cases e
 | some o =>
  rw[q] at e;have e':(b,o)=p:=Option.some.inj e;subst e';exact#[hb,q]
theorem ji.pinned {pins:AF} (I:ji X pins σ H s) (hf:∀b∈fp,vY X pins H b) (ho:∀b∈fp,∃o,s.heap.get? b=some o/\∀v,o.data≠.cell v):ji X (pins++Zy fp s.heap) σ H s :=
 I.pins_of λp hp=>(yL.mp hp).elim (λz=>I.pin p (yF _ z)) λz=>by
  obtain⟨hb,e⟩:=eE z;obtain⟨f0,f1,f2,_⟩:=hf p.1 hb;obtain⟨o,e',d⟩:=ho p.1 hb;rw[e] at e';cases e';exact#[e,f0,f1,f2,d]
theorem ji.unpinned {pins pl:AF} (I:ji X (pins++pl) σ H s):ji X pins σ H s:=I.pins_of λp hp=>I.pin p (yF _ (Qp _ hp))
theorem j7 {iter:Expr}{wi:TI}{pos:Pos} (hp:PassesOwn (model X.prog X.w) X.A X.env X.xe) (hi:PI X tg iter wi) (hg:PG X tg g) (hb:z8 X body tb)
  (hs:∀x,foldedSetIterable iter X.env x=pure x:=by intro _;rfl):PS X (.For tg iter body [] pos) (xR wi g tb):=by
 intro pins s σ H D I h;refine wpAny_For (jA (hi pins s σ H _ I h) λv s1 h1=>jA h1 λHX s2 h2=>?_) hs;obtain⟨it,fp,tn,J,H2,e,I2,T,Ed,f2,W,⟨m0,w0⟩,turn⟩:=h2;subst e;obtain⟨nm,T,hc⟩:=T;have BS:∀{H':Hp},(∀b∈fp,H' b=none)->∀b∈fp,vY X pins H' b:=λhn b hb=>#[hn b hb,(f2 b hb).2];refine codeAny_forLoop_any (λn s'=>∃i σ' H',ji X pins σ' H' s'/\tn i s'.heap/\(∀b∈fp,H' b=none)/\W i n σ' H') ?_ m0 #[0,σ,H2,I2,Ed,λb hb=>(f2 b hb).1,w0];rintro n s3 ⟨i,σ3,H3,I3,Ff,Fg,w3⟩;rcases turn i n σ3 H3 w3 with ⟨stop,qn⟩|⟨go,N,hN,step⟩
 ·refine wpAny_passesOwn hp (jA (T.done X rfl rfl rfl hc i pins s3 σ3 H3 X.xe I3 (BS Fg) Ff stop) λr s4 #[hr,I4]=>?_);subst hr;exact wpAny_execs_nil #[σ3,H3,I4,qn]
 ·refine wpAny_passesOwn hp (jA (T.item X rfl rfl rfl hc i pins s3 σ3 H3 X.xe I3 (BS Fg) Ff go) λr s4 #[u,hr,h4]=>?_);subst hr;refine wpAny_passesOwn hp (jA h4 λ_ s5 hh=>?_);obtain⟨x,H5,I5,r5,y5,Ee,HY⟩:=hh;have Ra:=I5.pinned (BS HY) (T.obj _ _ Ee);refine wpAny_passesOwn hp (jA (hg _ s5 σ3 H5 x u _ Ra r5 (step x H5 y5)) λ_ s6 #[σ6,H6,I6,q6]=>?_);refine wpAny_passesOwn hp (jA (hb _ s6 σ6 H6 _ I6 q6) λf s7 q7=>?_);have again:∀{σ7:St} {H7:Hp},ji X (pins++Zy fp s5.heap) σ7 H7 s7->N σ7 H7->∃m,m<n/\∃i σ' H',ji X pins σ' H' s7/\tn i s7.heap/\(∀b∈fp,H' b=none)/\W i m σ' H':=λ{σ7 H7} I7 n7=>by
   obtain⟨m',hm,w7⟩:=hN σ7 H7 n7;refine#[m',hm,i+1,σ7,H7,I7.unpinned,T.keep _ _ _ Ee λb hb o e=>(I7.pin (b,o) (yF _ (yF _ (vO hb e)))).1,λb hb=>?_,w7];obtain⟨o,e,d⟩:=T.obj _ _ Ee b hb;exact (I7.pin (b,o) (yF _ (yF _ (vO hb e)))).2.1
  cases f with
  | next=>obtain⟨σ7,H7,I7,n7⟩:=q7;exact again I7 n7
  | cont=>obtain⟨σ7,H7,I7,n7⟩:=q7;exact again I7 n7
  | brk=>obtain⟨σ7,H7,I7,q7⟩:=q7;exact#[σ7,H7,I7.unpinned,q7]
  | ret v=>obtain⟨x7,σ7,H7,I7,r7,q7⟩:=q7;exact#[x7,σ7,H7,I7.unpinned,r7,q7]
end
theorem uJ {K:AB}{a:Addr} (Pv:Nat->St->Hp->Prop) (h0:Pv 0 σ H) (hl:∀i σ H,i<=xs.length->Pv i σ H->jg K H a xs)
  (hs:∀i x σ H,xs[i]?=some x->Pv i σ H->g x σ H λσ2 H2=>tb { D with nx:=Pv (i+1),ct:=Pv (i+1),bk:=D.nx } σ2 H2) (hd:∀σ H,Pv xs.length σ H->D.nx σ H) :
  ∃W:Nat->Nat->St->Hp->Prop,(∃m,W 0 m σ H)/\∀i m σ H,W i m σ H ->
   ((k6 K a).stop i H/\D.nx σ H)\/((k6 K a).go i H/\∃N:St->Hp->Prop,(∀σ' H',N σ' H'->∃m',m'<m/\W (i+1) m' σ' H')/\∀x H',(k6 K a).yld i H x H'->g x σ H' λσ2 H2=>tb { D with nx:=N,ct:=N,bk:=D.nx } σ2 H2):=by
 refine#[λi m σ H=>m=xs.length - i/\i<=xs.length/\Pv i σ H,#[xs.length,by simp,yT _,h0],?_];rintro i m σ H ⟨rfl,hi,p⟩;have q:=hl i σ H hi p;by_cases AX:i<xs.length
 ·refine .inr #[#[xs,xs[i],q,by simp [AX]],Pv (i+1),λσ' H' p'=>#[xs.length - (i+1),by omega,rfl,AX,p'],λx H' y=>?_];obtain⟨e,y⟩:=y;subst e;exact hs i x σ _ (y xs q) p
 ·have e:i=xs.length:=by omega
  subst e;exact .inl #[#[xs,q,yh _],hd σ H p]
theorem pZ {K:AB}{a:Addr} (Pv:Nat->St->Hp->Prop) (h0:Pv 0 σ H) (hl:∀i σ H,i<=xs.length->Pv i σ H->jB K H a xs)
  (hs:∀i x σ H,xs[i]?=some x->Pv i σ H->g x σ H λσ2 H2=>tb { D with nx:=Pv (i+1),ct:=Pv (i+1),bk:=D.nx } σ2 H2) (hd:∀σ H,Pv xs.length σ H->D.nx σ H) :
  ∃W:Nat->Nat->St->Hp->Prop,(∃m,W 0 m σ H)/\∀i m σ H,W i m σ H ->
   ((NZ K a).stop i H/\D.nx σ H)\/((NZ K a).go i H/\∃N:St->Hp->Prop,(∀σ' H',N σ' H'->∃m',m'<m/\W (i+1) m' σ' H')/\∀x H',(NZ K a).yld i H x H'->g x σ H' λσ2 H2=>tb { D with nx:=N,ct:=N,bk:=D.nx } σ2 H2):=by
 refine#[λi m σ H=>m=xs.length - i/\i<=xs.length/\Pv i σ H,#[xs.length,by simp,yT _,h0],?_];rintro i m σ H ⟨rfl,hi,p⟩;have q:=hl i σ H hi p;by_cases AX:i<xs.length
 ·refine .inr #[#[xs,xs[i],q,by simp [AX]],Pv (i+1),λσ' H' p'=>#[xs.length - (i+1),by omega,rfl,AX,p'],λx H' y=>?_];obtain⟨e,y⟩:=y;subst e;exact hs i x σ _ (y xs q) p
 ·have e:i=xs.length:=by omega
  subst e;exact .inl #[#[xs,q,yh _],hd σ H p]
theorem Zi (Pv:Nat->St->Hp->Prop) (h0:Pv 0 σ H)
  (hs:∀i σ H,i<n->Pv i σ H->g (.int (lo+i)) σ H λσ2 H2=>tb { D with nx:=Pv (i+1),ct:=Pv (i+1),bk:=D.nx } σ2 H2) (hd:∀σ H,Pv n σ H->D.nx σ H) :
  ∃W:Nat->Nat->St->Hp->Prop,(∃m,W 0 m σ H)/\∀i m σ H,W i m σ H ->
   ((m9 lo n).stop i H/\D.nx σ H)\/((m9 lo n).go i H/\∃N:St->Hp->Prop,(∀σ' H',N σ' H'->∃m',m'<m/\W (i+1) m' σ' H')/\∀x H',(m9 lo n).yld i H x H'->g x σ H' λσ2 H2=>tb { D with nx:=N,ct:=N,bk:=D.nx } σ2 H2):=by
 refine#[λi m σ H=>m=n - i/\i<=n/\Pv i σ H,#[n,by simp,yT _,h0],?_];rintro i m σ H ⟨rfl,hi,p⟩;by_cases AX:i<n
 ·refine .inr #[AX,Pv (i+1),λσ' H' p'=>#[n - (i+1),by omega,rfl,AX,p'],λx H' y=>?_];obtain⟨e,y⟩:=y;subst e y;exact hs i σ _ AX p
 ·have e:i=n:=by omega
  subst e;exact .inl #[yh _,hd σ H p]
abbrev R2:=V->V->Hp->VK->Prop
def uN (X:Cx) (f:Value->Value->Sem Value) (r:R2):Prop :=
 ∀(pins:AF) (s:Shared) (σ:St) (H:Hp) (x y:V) (v u:Value) (Q:VK),ji X pins σ H s->jE x v->jE y u->r x y H Q ->
  wpAny (model X.prog X.w) X.A (f v u) (EP X pins σ Q) X.xe s
def rL (X:Cx) (f:Value->Sem Value) (r:V->Hp->VK->Prop):Prop :=
 ∀(pins:AF) (s:Shared) (σ:St) (H:Hp) (x:V) (v:Value) (Q:VK),ji X pins σ H s->jE x v->r x H Q ->
  wpAny (model X.prog X.w) X.A (f v) (EP X pins σ Q) X.xe s
def Jf (X:Cx) (f:Value) (r:List V->Hp->VK->Prop):Prop :=
 ∀(pins:AF) (s:Shared) (σ:St) (H:Hp) (xs:List V) (us:AH) (Q:VK),ji X pins σ H s->jz xs us->r xs H Q ->
  wpAny (model X.prog X.w) X.A (call f us) (EP X pins σ Q) X.xe s
def xv (X:Cx) (r:V->Hp->(Bool->Hp->Prop)->Prop):Prop :=
 ∀(pins:AF) (s:Shared) (σ:St) (H:Hp) (x:V) (v:Value) (Q:Bool->Hp->Prop),ji X pins σ H s->jE x v->r x H Q ->
  wpAny (model X.prog X.w) X.A (truthy v) (TP X pins σ Q) X.xe s
def fU (r:R2) (ta tb:TE):TE:=λσ H Q=>ta σ H λx H1=>tb σ H1 λy H2=>r x y H2 Q
def Ar (r:V->Hp->VK->Prop) (ta:TE):TE:=λσ H Q=>ta σ H λx H1=>r x H1 Q
inductive xj (C:Int->Int->Prop) (g:Int->Int->V) (x:V) (y:V) (H:Hp) (Q:VK):Prop
 | mk (i:_) (j:_) (h0:x=.int i) (h1:y=.int j) (h2:C i j) (h3:Q (g i j) H):xj C g x y H Q
def rI (C:Int->Int->Prop) (g:Int->Int->V):R2:=λx y H Q=>xj C g x y H Q
inductive sT (g:Int->Int->V) (x:V) (y:V) (H:Hp) (Q:VK):Prop
 | mk (i:_) (j:_) (h0:x=.int i) (h1:y=.int j) (h2:Q (g i j) H):sT g x y H Q
def aO (g:Int->Int->V):R2:=λx y H Q=>sT g x y H Q
inductive xk (g:Int->V) (x:V) (H:Hp) (Q:VK):Prop
 | mk (i:_) (h0:x=.int i) (h1:Q (g i) H):xk g x H Q
def rU (g:Int->V):V->Hp->VK->Prop:=λx H Q=>xk g x H Q
section
variable {X:Cx}{a b c:Expr}{ta tb tc:TE}{pos:Pos}
theorem ip (ha:PE X a ta) (hb:PE X b tb) {pins:AF} (I:ji X pins σ H s)
  (h:ta σ H λx H1=>tb σ H1 λy H2=>R x y H2) {Q:Ax} {f:Value->Value->Sem Value}
  (hf:∀v u s2 x y H2,ji X pins σ H2 s2->jE x v->jE y u->R x y H2->wpAny (model X.prog X.w) X.A (f v u) Q X.xe s2) :
  wpAny (model X.prog X.w) X.A (eval a X.env) (λv s₁=>wpAny (model X.prog X.w) X.A (eval b X.env) (λu s₂=>wpAny (model X.prog X.w) X.A (f v u) Q X.xe s₂) X.xe s₁) X.xe s:=by
 refine jA (ha pins s σ H _ I h) λv s1 #[x,H1,I1,r1,q1]=>?_;refine jA (hb pins s1 σ H1 _ I1 q1) λu s2 #[y,H2,I2,r2,q2]=>?_;exact hf v u s2 x y H2 I2 r1 r2 q2
theorem jK {op:Operator} (ho:uN X (binaryOp op) r) (ha:PE X a ta) (hb:PE X b tb):PE X (.BinOp a op b pos) (fU r ta tb):=by
 intro pins s σ H Q I h;exact wpAny_BinOp (ip ha hb I h λv u s2 x y H2 I2 rx ry q=>ho pins s2 σ H2 x y v u Q I2 rx ry q)
theorem GP {op:UnaryOp}{r:V->Hp->VK->Prop} (ho:rL X (unaryOp op) r) (ha:PE X a ta):PE X (.UnaryOp op a pos) (Ar r ta):=by
 intro pins s σ H Q I h;exact UnaryOp_ (jA (ha pins s σ H _ I h) λv s1 #[x,H1,I1,r1,q1]=>ho pins s1 σ H1 x v Q I1 r1 q1)
theorem sF {C:Int->Int->Prop}{g:Int->Int->Int}
  (rule:∀(i j:Int) (t u:Tok) (s:Shared) (Q:Ax) (E:Ax),C i j->Q (.int (g i j) s.toks) { s with toks:=s.toks+1 }->wpAny (model X.prog X.w) X.A (f (.int i t) (.int j u)) Q E s) :
  uN X f (rI C λi j=>.int (g i j)):=by
 intro pins s σ H x y v u Q I rx ry h;obtain⟨i,j,rfl,rfl,hc,q⟩:=h;obtain⟨t,rfl⟩:=rx;obtain⟨t',rfl⟩:=ry;exact rule i j t t' s _ _ hc #[.int (g i j),H,I.tok _,#[_,rfl],q]
theorem xE {g:Int->Int->Int}
  (rule:∀(i j:Int) (t u:Tok) (s:Shared) (Q:Ax) (E:Ax),Q (.int (g i j) s.toks) { s with toks:=s.toks+1 }->wpAny (model X.prog X.w) X.A (f (.int i t) (.int j u)) Q E s) :
  uN X f (aO λi j=>.int (g i j)):=by
 intro pins s σ H x y v u Q I rx ry h;obtain⟨i,j,rfl,rfl,q⟩:=h;obtain⟨t,rfl⟩:=rx;obtain⟨t',rfl⟩:=ry;exact rule i j t t' s _ _ #[.int (g i j),H,I.tok _,#[_,rfl],q]
theorem i8 {g:Int->Int->Bool}
  (rule:∀(i j:Int) (t u:Tok) (s:Shared) (Q:Ax) (E:Ax),Q (.bool (g i j)) s->wpAny (model X.prog X.w) X.A (f (.int i t) (.int j u)) Q E s) :
  uN X f (aO λi j=>.bl (g i j)):=by
 intro pins s σ H x y v u Q I rx ry h;obtain⟨i,j,rfl,rfl,q⟩:=h;obtain⟨t,rfl⟩:=rx;obtain⟨t',rfl⟩:=ry;exact rule i j t t' s _ _ #[.bl (g i j),H,I,rfl,q]
def xp (i j:Int):Prop:=0<j/\j<1073741824
def ib (i j:Int):Prop:=(-(2^64)<i/\i<2^64)\/(-(2^64)<j/\j<2^64)
theorem ib.ok {i j:Int} (h:ib i j):IntMulOk i j:=by
 rcases h with ⟨h1,h2⟩|⟨h1,h2⟩
 ·exact .of_left (intBits_le_64 h1 h2)
 ·exact .of_right (intBits_le_64 h1 h2)
theorem Uy:uN X (binaryOp .Add) (aO λi j=>.int (i+j)):=xE λ_ _ _ _ _ _ _ q=>add_int q
theorem Zu:uN X (binaryOp .Mult) (rI ib λi j=>.int (i*j)):=sF λ_ _ _ _ _ _ _ hc q=>mul_int q hc.ok
theorem V9:uN X (binaryOp .FloorDiv) (rI xp λi j=>.int (i / j)):=sF λi j _ _ _ _ _ hc q=>by
 have h1:(0:Int)<j:=hc.1;have h2:j<1073741824:=hc.2;exact floordiv_int '!' (by rw[Int.fdiv_eq_ediv_of_nonneg i '!'];exact q) (.inl (PyProof.noPylong_small '!'))
theorem uF:uN X (binaryOp .Mod) (rI (λ_ j=>0<j) λi j=>.int (i % j)):=sF λi j _ _ _ _ _ hc q=>by
 have h1:(0:Int)<j:=hc;exact mod_int' '!' (by rw[Int.fmod_eq_emod_of_nonneg i '!'];exact q)
theorem Au {f:Value->Sem Value}{g:Int->Int}
  (rule:∀(i:Int) (t:Tok) (s:Shared) (Q:Ax) (E:Ax),Q (.int (g i) s.toks) { s with toks:=s.toks+1 }->wpAny (model X.prog X.w) X.A (f (.int i t)) Q E s) :
  rL X f (rU λi=>.int (g i)):=by
 intro pins s σ H x v Q I rx h;obtain⟨i,rfl,q⟩:=h;obtain⟨t,rfl⟩:=rx;exact rule i t s _ _ #[.int (g i),H,I.tok _,#[_,rfl],q]
theorem ZB:rL X (unaryOp .USub) (rU λi=>.int (-i)):=Au λ_ _ _ _ _ q=>neg_int q
end
def ti:V->V->Bool
 | .non,.non=>true|.non,.int _=>true|.int _,.non=>true|.non,.bl _=>true|.bl _,.non=>true|.non,.str _=>true|.str _,.non=>true
 | .int _,.int _=>true|.bl _,.bl _=>true|.str _,.str _=>true|.byt _,.byt _=>true
 | .int _,.str _=>true|.str _,.int _=>true|.bl _,.str _=>true|.str _,.bl _=>true
 | _,_=>false
inductive sS (x:V) (y:V) (H:Hp) (Q:VK):Prop
 | mk  (h0:ti x y=true) (h1:Q (.bl (decide (x=y))) H):sS x y H Q
def Ag:R2:=λx y H Q=>sS x y H Q
inductive sX (x:V) (y:V) (H:Hp) (Q:VK):Prop
 | mk  (h0:ti x y=true) (h1:Q (.bl (!decide (x=y))) H):sX x y H Q
def Ai:R2:=λx y H Q=>sX x y H Q
theorem af {i j:Int}:decide (V.int i=V.int j)=(i==j):=by
 rw[Qf];simp
theorem c5 {i j:Bool}:decide (V.bl i=V.bl j)=(i==j):=by
 rw[Qf];simp
theorem ag {i j:Str}:decide (V.str i=V.str j)=(i==j):=by
 rw[Qf];simp
theorem ae {i j:Array UInt8}:decide (V.byt i=V.byt j)=(i.toList==j.toList):=by
 rw[Qf];cases i;cases j;simp
section
variable {X:Cx}{a b c:Expr}{ta tb tc:TE}{pos:Pos}
theorem jV {pins:AF}{Q:VK}{k k':Bool} (I:ji X pins σ H s) (q:Q (.bl k) H) (e:k=k'):EP X pins σ Q (.bool k') s:=by
 subst e;exact#[.bl k,H,I,rfl,q]
theorem mO:uN X (compareOp .Eq) Ag:=by
 intro pins s σ H x y v u Q I rx ry h;obtain⟨hs,q⟩:=h;cases x with
 | non =>
  cases rx;cases y with
  | non=>cases ry;exact PySem.EqNone.eq_none_none (jV I q (by simp))
  | bl j=>cases ry;exact PySem.EqNone.eq_none_bool (jV I q (by simp))
  | int j=>obtain⟨t',rfl⟩:=ry;exact PySem.EqNone.eq_none_int (jV I q (by simp))
  | str j=>obtain⟨t',rfl⟩:=ry;exact PySem.EqNone.eq_none_str (jV I q (by simp))
  | _=>exact absurd (show false=true from hs) yt
 | bl i =>
  cases rx;cases y with
  | non=>cases ry;exact PySem.EqNone.eq_bool_none (jV I q (by simp))
  | bl j=>cases ry;exact eq_bool (jV I q c5)
  | str j=>obtain⟨t',rfl⟩:=ry;exact PySem.EqMixed.eq_bool_str (jV I q (by simp))
  | _=>exact absurd (show false=true from hs) yt
 | int i =>
  obtain⟨t,rfl⟩:=rx;cases y with
  | non=>cases ry;exact PySem.EqNone.eq_int_none (jV I q (by simp))
  | int j=>obtain⟨t',rfl⟩:=ry;exact eq_int (jV I q af)
  | str j=>obtain⟨t',rfl⟩:=ry;exact PySem.EqMixed.eq_int_str (jV I q (by simp))
  | _=>exact absurd (show false=true from hs) yt
 | str i =>
  obtain⟨t,rfl⟩:=rx;cases y with
  | non=>cases ry;exact PySem.EqNone.eq_str_none (jV I q (by simp))
  | bl j=>cases ry;exact PySem.EqMixed.eq_str_bool (jV I q (by simp))
  | int j=>obtain⟨t',rfl⟩:=ry;exact PySem.EqMixed.eq_str_int (jV I q (by simp))
  | str j=>obtain⟨t',rfl⟩:=ry;exact eq_str (jV I q ag)
  | _=>exact absurd (show false=true from hs) yt
 | byt i =>
  obtain⟨t,rfl⟩:=rx;cases y with
  | byt j=>obtain⟨t',rfl⟩:=ry;exact PySem.W.eq_bytes (jV I q ae)
  | _=>exact absurd (show false=true from hs) yt
 | _=>cases y<;>exact absurd (show false=true from hs) yt
theorem zG:uN X (compareOp .NotEq) Ai:=by
 intro pins s σ H x y v u Q I rx ry h;obtain⟨hs,q⟩:=h;cases x with
 | non =>
  cases rx;cases y with
  | non=>cases ry;exact PySem.EqNone.ne_none_none (jV I q (by simp))
  | bl j=>cases ry;exact PySem.EqNone.ne_none_bool (jV I q (by simp))
  | int j=>obtain⟨t',rfl⟩:=ry;exact PySem.EqNone.ne_none_int (jV I q (by simp))
  | str j=>obtain⟨t',rfl⟩:=ry;exact PySem.EqNone.ne_none_str (jV I q (by simp))
  | _=>exact absurd (show false=true from hs) yt
 | bl i =>
  cases rx;cases y with
  | non=>cases ry;exact PySem.EqNone.ne_bool_none (jV I q (by simp))
  | bl j=>cases ry;exact ne_bool (jV I q (congrArg not c5))
  | str j=>obtain⟨t',rfl⟩:=ry;exact PySem.EqMixed.ne_bool_str (jV I q (by simp))
  | _=>exact absurd (show false=true from hs) yt
 | int i =>
  obtain⟨t,rfl⟩:=rx;cases y with
  | non=>cases ry;exact PySem.EqNone.ne_int_none (jV I q (by simp))
  | int j=>obtain⟨t',rfl⟩:=ry;exact ne_int (jV I q (congrArg not af))
  | str j=>obtain⟨t',rfl⟩:=ry;exact PySem.EqMixed.ne_int_str (jV I q (by simp))
  | _=>exact absurd (show false=true from hs) yt
 | str i =>
  obtain⟨t,rfl⟩:=rx;cases y with
  | non=>cases ry;exact PySem.EqNone.ne_str_none (jV I q (by simp))
  | bl j=>cases ry;exact PySem.EqMixed.ne_str_bool (jV I q (by simp))
  | int j=>obtain⟨t',rfl⟩:=ry;exact PySem.EqMixed.ne_str_int (jV I q (by simp))
  | str j=>obtain⟨t',rfl⟩:=ry;exact ne_str (jV I q (congrArg not ag))
  | _=>exact absurd (show false=true from hs) yt
 | byt i =>
  obtain⟨t,rfl⟩:=rx;cases y with
  | byt j=>obtain⟨t',rfl⟩:=ry;exact PySem.W.ne_bytes (jV I q (congrArg not ae))
  | _=>exact absurd (show false=true from hs) yt
 | _=>cases y<;>exact absurd (show false=true from hs) yt
theorem wB:uN X (compareOp .Lt) (aO λi j=>.bl (decide (i<j))):=i8 λ_ _ _ _ _ _ _ q=>lt_int q
theorem mP:uN X (compareOp .LtE) (aO λi j=>.bl (decide (i<=j))):=i8 λ_ _ _ _ _ _ _ q=>le_int q
theorem ck:uN X (compareOp .Gt) (aO λi j=>.bl (decide (j<i))):=i8 λ_ _ _ _ _ _ _ q=>gt_int q
theorem KM:uN X (compareOp .In) (λx y H Q=>E2 λi j=>A3 (x=.str i) (y=.str j) (Q (.bl (!(Builtin.Str.occurrences j i 0 j.length 1).isEmpty)) H)):=by
 intro pins s σ H x y v u Q I rx ry h;obtain⟨i,j,rfl,rfl,q⟩:=h;obtain⟨t,rfl⟩:=rx;obtain⟨t',rfl⟩:=ry;exact in_str (jV I q rfl)
theorem ef (b:Expr) {op:CmpOp} (h:op≠.In:=by decide) (h2:op≠.NotIn:=by decide):behindInMarks op b=false:=by
 have e1:(op==CmpOp.In)=false:=by cases op<;>first|rfl|exact absurd rfl h
 have e2:(op==CmpOp.NotIn)=false:=by cases op<;>first|rfl|exact absurd rfl h2
 cases b<;>simp [behindInMarks,e1,e2]
theorem zc {op:CmpOp} (ho:uN X (compareOp op) r) (ha:PE X a ta) (hb:PE X b tb) (hm:behindInMarks op b=false:=by first|exact ef _|with_unfolding_all rfl):PE X (.Compare a [op] [b] pos) (fU r ta tb):=by
 intro pins s σ H Q I h;exact wpAny_Compare1 (ip ha hb I h λv u s2 x y H2 I2 rx ry q=>ho pins s2 σ H2 x y v u Q I2 rx ry q) hm
inductive fW (Q:Bool->Hp->Prop) (x:V) (H':Hp):Prop
 | mk (k:_) (h0:x=.bl k) (h1:Q k H'):fW Q x H'
def pD (t:TE):TT:=λσ H Q=>t σ H λx H'=>fW Q x H'
theorem Jq {op:CmpOp} (ho:uN X (compareOp op) r) (ha:PE X a ta) (hb:PE X b tb) (hm:behindInMarks op b=false:=by first|exact ef _|with_unfolding_all rfl):PT X (.Compare a [op] [b] pos) (pD (fU r ta tb)):=by
 intro pins s σ H Q I h;refine wpAny_isTrue_Compare1 (jA (ha pins s σ H _ I h) λv s1 #[x,H1,I1,r1,q1]=>jA (hb pins s1 σ H1 _ I1 q1) λu s2 #[y,H2,I2,r2,q2] =>
  jA (ho pins s2 σ H2 x y v u _ I2 r1 r2 q2) λc s3 #[z,H3,I3,r3,k,e,q3]=>?_) hm
 subst e;cases r3;exact wpAny_truthy_bool #[H3,I3,q3]
inductive aT (r':R2) (tc:TE) (σ:St) (Q:VK) (y:V) (z:V) (H3:Hp):Prop
 | mk (k:_) (h0:z=.bl k) (h1:(if k=true then tc σ H3 λw' H4=>r' y w' H4 Q else Q (.bl false) H3)):aT r' tc σ Q y z H3
def tO (r r':R2) (ta tb tc:TE):TE:=λσ H Q=>ta σ H λx H1=>tb σ H1 λy H2=>r x y H2 λz H3=>aT r' tc σ Q y z H3
theorem nV {op HZ:CmpOp}{r':R2} (ho:uN X (compareOp op) r) (BJ:uN X (compareOp HZ) r') (ha:PE X a ta) (hb:PE X b tb) (hc:PE X c tc)
  (hm:lastMarks [op,HZ] [b,c]=false:=by with_unfolding_all rfl):PT X (.Compare a [op,HZ] [b,c] pos) (pD (tO r r' ta tb tc)):=by
 intro pins s σ H Q I h;refine isTrue_chain (jA (ha pins s σ H _ I h) λv s1 #[x,H1,I1,r1,q1]=>test_link (jA (hb pins s1 σ H1 _ I1 q1) λu s2 #[y,H2,I2,r2,q2] =>
  jA (ho pins s2 σ H2 x y v u _ I2 r1 r2 q2) λd s3 #[z,H3,I3,r3,k,e,q3]=>?_)) hm
 subst e;cases r3;refine wpAny_truthy_bool ?_;cases k with
 | false =>
  obtain⟨k',e',q'⟩:=q3;cases e';exact ite_ff #[H3,I3,q']
 | true =>
  refine ite_tt (test_last (jA (hc pins s3 σ H3 _ I3 q3) λw' s4 #[z',H4,I4,r4,q4]=>jA (BJ pins s4 σ H4 y z' u w' _ I4 r2 r4 q4) λd' s5 hh=>?_));obtain⟨z2,H5,I5,r5,k2,e2,q5⟩:=hh;subst e2;cases r5;exact wpAny_truthy_bool #[H5,I5,q5]
def rK (K:AB) (x:V) (H:Hp) (k:Bool):Prop :=
 match x with
 | .non=>k=false
 | .bl b=>k=b
 | .int i=>k=(i != 0)
 | .str y=>y.length<=sizeLine/\k=((y.length:Int) != 0)
 | .byt y=>y.size<=sizeLine/\k=((y.size:Int) != 0)
 | .ref p=>(∃xs,jg K H p xs/\k=!xs.isEmpty)\/(∃xs,jB K H p xs/\k=!xs.isEmpty)\/∃kvs,H p=some (.dK kvs)/\k=!kvs.isEmpty
 | _=>False
theorem bW {κ:Type}{kvs:List (κ×V)}{vs:List (κ×Value)} (r:KV kvs vs):(!vs.isEmpty)=!kvs.isEmpty:=by
 cases r<;>rfl
theorem Gq {AV:AH} (r:jz xs AV):(!AV.toArray.isEmpty)=!xs.isEmpty:=by
 cases r<;>simp
theorem V6:(sizeLine:Nat)<2^63:=by rw[sizeLine_eq];decide
theorem tW:xv X (λx H Q=>∃k,rK X.K x H k/\Q k H):=by
 intro pins s σ H x v Q I rx h;obtain⟨k,e,q⟩:=h;have hl:=V6;have hs:sizeLine=16777216:=sizeLine_eq;cases x with
 | non =>
  cases rx;have e':k=false:=e;subst e';exact truthy_none #[H,I,q]
 | bl b =>
  cases rx;have e':k=b:=e;subst e';exact wpAny_truthy_bool #[H,I,q]
 | int i =>
  obtain⟨t,rfl⟩:=rx;have e':k=(i != 0):=e;subst e';exact PySem.P.truthy_int #[H,I,q]
 | str y =>
  obtain⟨t,rfl⟩:=rx;obtain⟨hy,e'⟩:y.length<=sizeLine/\k=((y.length:Int) != 0):=e;subst e';exact PySem.P.truthy_str '!' #[H,I.tok _,q]
 | byt y =>
  obtain⟨t,rfl⟩:=rx;obtain⟨hy,e'⟩:y.size<=sizeLine/\k=((y.size:Int) != 0):=e;subst e';exact PySem.W.truthy_bytes '!' #[H,I.tok _,q]
 | ref p =>
  cases rx;have e':(∃xs,jg X.K H p xs/\k=!xs.isEmpty)\/(∃xs,jB X.K H p xs/\k=!xs.isEmpty)\/∃kvs,H p=some (.dK kvs)/\k=!kvs.isEmpty:=e;rcases e' with ⟨xs,hx,e'⟩|⟨xs,hx,e'⟩|⟨kvs,hx,e'⟩
  ·subst e';obtain⟨AV,r,pl,hz⟩:=I.list hx;have hlen:=r.length;exact wpAny_truthy_list pl.isList (by simp only[yg];omega) #[H,I.tok _,by rw[Gq r];exact q]
  ·subst e';obtain⟨AV,r,pl,hz⟩:=I.tuple hx;have hlen:=r.length;exact truthy_tuple pl (by simp only[yg];omega) #[H,I.tok _,by rw[Gq r];exact q]
  ·subst e';obtain⟨hz,hS,vs,r,m⟩:kvs.length<=sizeLine/\(p==sysModules)=false/\∃vs,KV kvs vs/\s.heap.DictOf (jr X.prog X.w) p vs:=I.hok p _ hx;have hlen:kvs.length=vs.length:=Paired.length r;exact wpAny_truthy_dict hS m '!' #[H,I.tok _,by rw[bW r];exact q]
 | _=>exact (show False from e).elim
theorem nW (ha:PE X a ta) (he:∀whole,isTrue a X.env whole=(do let v <-whole;standAt a.pos;holding [v] (truthy v))) :
  PT X a (λσ H Q=>ta σ H λx H'=>∃k,rK X.K x H' k/\Q k H'):=by
 intro pins s σ H Q I h;exact isTrue_plain (jA (ha pins s σ H _ I h) λv s1 #[x,H1,I1,r1,q1]=>tW pins s1 σ H1 x v Q I1 r1 q1) (he _)
theorem U9:uN X (binaryOp .Add) (λx y H Q=>E2 λi j=>A4 (x=.str i) (y=.str j) (i.length+j.length<=sizeLine) (Q (.str (i++j)) H)):=by
 intro pins s σ H x y v u Q I rx ry h;obtain⟨i,j,rfl,rfl,hz,q⟩:=h;obtain⟨t,rfl⟩:=rx;obtain⟨t',rfl⟩:=ry;exact add_str (λt' tk=>#[.str (i++j),H,I.tok _,#[_,rfl],q]) hz
theorem J1 {x:V} (r:jz [x] us):∃u,us=[u]/\jE x u:=by
 cases r with
 | cons r1 r2=>cases r2;exact#[_,rfl,r1]
theorem pI {x:V} (r:jz [x,y] us):∃u w',us=[u,w']/\jE x u/\jE y w':=by
 cases r with
 | cons r1 r2 =>
  cases r2 with
  | cons r3 r4=>cases r4;exact#[_,_,rfl,r1,r3]
theorem Vf:Jf X (.type "str") (λxs H Q=>∃i,A3 (xs=[.int i]) (i.natAbs.log2<1920) (Q (.str (toString i)) H)):=by
 intro pins s σ H xs us Q I r h;obtain⟨i,rfl,hz,q⟩:=h;obtain⟨u,rfl,t,rfl⟩:=J1 r;exact PySem.P.str_of_int hz #[.str _,H,I.tok _,#[_,rfl],q]
end
structure gi (h:Heap) (x dx C:Addr) (mA:AE):Prop where
 obj:h.get? x=some (instObj C dx)
 ns:h.Ns1 dx mA
 ne:dx≠x
theorem dP (n:h.Ns1 dx mA):∃od,h.get? dx=some od/\∀name,lookIn name od=some (mA name):=by
 obtain⟨o,es,ep,ho,hd,hk,_,hm⟩:=n;refine#[o,ho,λname=>?_];have e:=hm name;unfold nsFind findBy at e;rw[<-Array.find?_toList] at e;unfold lookIn;rw[hd];dsimp only;split
 ·rename_i y q;rw[q] at e;exact congrArg some e
 ·rename_i q;rw[q] at e;have a:es.toList.any (·.refKey)=false:=by
   rw[List.any_eq_false];intro y hy;obtain⟨z,t,Ia⟩:=hk y (Array.mem_toList_iff.mp hy);simp [DictEntry.refKey,Ia]
  have a':¬es.toList.any (·.refKey)=true:=by rw[a];exact yt
  rw[if_neg a'];exact congrArg some e
theorem gi.look {x:Addr} (I:gi h x dx C mA):∃od,InstAt h x (instObj C dx) C (some od)/\∀name,lookIn name od=some (mA name) :=
 let ⟨od,ho,hl⟩:=dP I.ns
 #[od,#[I.obj,rfl,rfl,ho],hl]
section
variable {prog:AS}{w:World}{A:Around}{E:Ax}{s:Shared}{K:AB}{x dx C f:Addr}{mA:AE}{name:Str}{v:Value}
theorem qc {expr:Bool} (X:K.In s.heap) (I:gi s.heap x dx C mA) (hg:plainGet K C name=true) (hh:hasDictIn K C=true)
  (ha:findIn K (.ref C) name=some none) (hv:mA name=some v) (Du:handedIn v=true) (h:Q v { s with toks:=s.toks+1 }) :
  wpAny '#' A (getAttr (.ref x) name expr) Q E s:=by
 obtain⟨od,J,hl⟩:=I.look;exact PySem.W.get_value X J (plainGet_of hg).1 (PySem.W.findObj_own hh ha rfl (by rw[hl,hv])) Du h
theorem iK {Q:Value×List Value->Shared->Prop} (X:K.In s.heap) (I:gi s.heap x dx C mA) (hg:plainGet K C name=true)
  (hf:findIn K (.ref C) name=some (some (.ref f))) (ht:isFn K (.ref f)=true) (hv:mA name=none) (h:Q (.ref f,[.ref x]) s) :
  wpAny '#' A (getMethod (.ref x) name pl) Q E s:=by
 obtain⟨od,J,hl⟩:=I.look;exact PySem.W.method_fn X J (plainGet_of hg).1 (plainGet_of hg).2 hf (beq_iff_eq.mp ht) (by show (lookIn name od).map (·.isSome)=some false;rw[hl,hv];rfl) h
theorem qQ {ns:AM}{Q:Ay} (X:K.In s.heap) (I:gi s.heap x dx C mA)
  (hs:findIn K (.ref C) "__setattr__"=some (some (.builtin "object.__setattr__"))) (hp:plainOver K C=true) (ht:takerIn K C name=some none) (hh:hasDictIn K C=true)
  (hw:PySem.Within mA ns) (hsz:ns.length<=sizeLine)
  (h:∀h',gi h' x dx C (λy=>if y=name then some v else mA y)->Heap.SameBut dx s.heap h'->Q () { s with heap:=h',toks:=s.toks+2 }) :
  wpAny '#' A (setAttr (.ref x) name v) Q E s:=by
 obtain⟨od,J,hl⟩:=I.look;refine PySem.W.set_plain X J hs (PySem.W.osa_open (s:={ s with toks:=s.toks+1 }) (r:=none) X J hp ht λb=>?_);obtain⟨cd,hc,Ct⟩:=PySem.W.any_some hh;have hx:s.heap.get? x=some #[.ref C,some dx,.plain,(List.toArray [])]:=I.obj;refine AT (AU (AT (AT (wpAny_loadPart hx (AT (Looks.here (s:={ s with toks:=s.toks+1 }) (PySem.W.looks_clsIn X hc) ?_))))));rw[Ct];refine AU (a:=some dx) (AT (AU (AT ?_)));refine wpAny_nsSet1 (s:={ s with toks:=s.toks+1 }) I.ns λh' EL Cu=>?_;obtain⟨oD,esD,epD,Rb,Rc,Rf⟩:=EL.count (PySem.Within.cons name v hw);refine AT (wpAny_lookBehind Rb (by rw[Rc];exact pastItsLine_dict (yp Rf (by rw[yQ];omega))) ?_);exact AU (h _ #[(Cu.2 _ (yZ I.ne)).trans I.obj,EL,I.ne] Cu)
theorem iX {R:Result->Shared->Prop}{vs:AH} (X:K.In s.heap) (hm:makesIn K C=true)
  (hi:findIn K (.ref C) "__init__"=some (some (.ref f))) (hf:typeIn K (.ref f)=some (.type "function"))
  (h:codeAny '#' (A.under (.builtin "type.__call__" #[.ref C::vs,kw])) (.call (.ref f) #[.ref (s.heap.objs.size+1)::vs,kw]) (PySem.W.InitBack (s.heap.objs.size+1) R)
   { s with heap:=(s.heap.push emptyDict).push (instObj C s.heap.objs.size) }) :
  codeAny '#' A (.call (.ref C) #[vs,kw]) R s:=by
 obtain⟨hh,g,d,t,os⟩:=s;exact PySem.W.make_core (PySem.W.makes_of X hm) (PySem.W.looks_findIn X hi) (λself=>PySem.W.bind_fn X self hf) (.inl rfl) h
end
def jY (f:Str) (v:V):List (Str×V)->List (Str×V)
 | []=>[(f,v)]
 | (g,x)::r=>if g=f then (g,v)::r else (g,x)::jY f v r
theorem Z4 (f g:Str) (v:V):∀fs:List (Str×V),(jY f v fs).lookup g=if g=f then some v else fs.lookup g
 | []=>by
  show List.lookup g [(f,v)]=_;by_cases h:g=f
  ·have hb:(g==f)=true:=beq_iff_eq.mpr h;simp only[List.lookup,hb,if_pos h]
  ·have hb:(g==f)=false:=beq_eq_false_iff_ne.mpr h;simp only[List.lookup,hb,if_neg h]
 | (k,x)::r=>by
  have ih:=Z4 f g v r;rw[show jY f v ((k,x)::r)=(if k=f then (k,v)::r else (k,x)::jY f v r) from rfl];by_cases hk:k=f
  ·rw[if_pos hk];by_cases h:g=k
   ·have hb:(g==k)=true:=beq_iff_eq.mpr h;simp only[List.lookup,hb,if_pos (h.trans hk)]
   ·have hb:(g==k)=false:=beq_eq_false_iff_ne.mpr h;simp only[List.lookup,hb,if_neg (λe:g=f=>h (e.trans hk.symm))]
  ·rw[if_neg hk];by_cases h:g=k
   ·have hb:(g==k)=true:=beq_iff_eq.mpr h;simp only[List.lookup,hb,if_neg (λe:g=f=>hk (h.symm.trans e))]
   ·have hb:(g==k)=false:=beq_eq_false_iff_ne.mpr h;simp only[List.lookup,hb];exact ih
theorem Zn (f:Str) (v:V):∀fs:List (Str×V),f∈(jY f v fs).map (·.1)/\∀g,g∈fs.map (·.1)->g∈(jY f v fs).map (·.1)
 | []=>#[by simp [jY],λg h=>by simp at h]
 | (k,x)::r=>by
  obtain⟨i1,i2⟩:=Zn f v r;rw[show jY f v ((k,x)::r)=(if k=f then (k,v)::r else (k,x)::jY f v r) from rfl];by_cases hk:k=f
  ·rw[if_pos hk];subst hk;exact#[by simp,λg h=>by simpa using h]
  ·rw[if_neg hk];refine#[?_,λg h=>?_]
   ·rw[yH];exact yn _ i1
   ·rw[yH] at h ⊢;rcases yr.mp h with e|e
    ·exact yr.mpr (.inl e)
    ·exact yn _ (i2 g e)
theorem Z3 (f:Str) (v:V):∀fs:List (Str×V),(jY f v fs).length<=fs.length+1
 | []=>by simp [jY]
 | (k,x)::r=>by
  have ih:=Z3 f v r;rw[show jY f v ((k,x)::r)=(if k=f then (k,v)::r else (k,x)::jY f v r) from rfl];by_cases hk:k=f
  ·rw[if_pos hk,yQ,yQ];omega
  ·rw[if_neg hk,yQ,yQ];omega
theorem Uq.some_of {v:V}{o:Option Value} (r:Uq (some v) o):∃u,o=some u/\jE v u:=by
 cases o with
 | none=>exact (show False from r).elim
 | some u=>exact#[u,rfl,r]
theorem Uq.none_of {o:Option Value} (r:Uq none o):o=none:=by
 cases o with
 | none=>rfl
 | some u=>exact (show False from r).elim
theorem du {v:V}{u:Value} (r:jE v u):handedIn u=true:=by
 cases v with
 | non=>cases (show u=Value.none from r);rfl
 | bl b=>cases (show u=Value.bool b from r);rfl
 | int i=>obtain⟨t,e⟩:=(show ∃t,u=Value.int i t from r);cases e;rfl
 | str x=>obtain⟨t,e⟩:=(show ∃t,u=Value.str x t from r);cases e;rfl
 | byt b=>obtain⟨t,e⟩:=(show ∃t,u=Value.bytes b t from r);cases e;rfl
 | flt b=>obtain⟨t,e⟩:=(show ∃t,u=Value.float b t from r);cases e;rfl
 | ref a=>cases (show u=Value.ref a from r);rfl
 | ty n=>cases (show u=Value.type n from r);rfl
section
variable {P:AS}{w:World}{H H':Hp}{h h':Heap}{a C dx:Addr}{fs P8:List (Str×V)}
theorem ZO (hok:Js P w H h) (e:H a=some (.ins C dx fs)):∃mA,gi h a dx C mA/\(∀f,Uq (fs.lookup f) (mA f))/\PySem.Within mA (fs.map (·.1))/\fs.length<=1000/\H dx=some (.own a):=by
 obtain⟨d,z,ne,ob,mA,n,r,q⟩:=(show jP P w H h a (.ins C dx fs) from hok a _ e);exact#[mA,#[ob,n,ne],r,q,z,d]
end
structure Vs (K:AB) (C:Addr):Prop where
 pg:plainGet K C Str.empty=true
 hd:hasDictIn K C=true
 po:plainOver K C=true
 sa:findIn K (.ref C) "__setattr__"=some (some (.builtin "object.__setattr__"))
theorem Vs.get {K:AB} (c:Vs K C) (f:Str):plainGet K C f=true:=c.pg
def uz (K:AB) (C:Addr) (f:Str):Prop:=findIn K (.ref C) f=some none
theorem uz.taker {K:AB}{f:Str} (n:uz K C f):takerIn K C f=some none:=by
 unfold takerIn;rw[show findIn K (.ref C) f=some none from n]
 rfl
structure Ma (K:AB) (C:Addr) (m:Str) (f:Addr):Prop where
 at_:findIn K (.ref C) m=some (some (.ref f))
 fn:isFn K (.ref f)=true
 kp:keepIn K (.ref f)=true
section
variable {X:Cx}{pins:AF}{σ:St}{H:Hp}{s:Shared}{a C dx:Addr}{fs:List (Str×V)}{f:Str}{v:V}{A:Around}{E:Ax}
theorem bT {b:Bool} (I:ji X pins σ H s) (e:H a=some (.ins C dx fs)) (c:Vs X.K C) (n:uz X.K C f) (l:fs.lookup f=some v)
  (h:∀u s',ji X pins σ H s'->jE v u->Q u s'):wpAny (model X.prog X.w) A (getAttr (.ref a) f b) Q E s:=by
 obtain⟨mA,O,r,_,_,_⟩:=ZO I.hok e;obtain⟨u,hu,ru⟩:=Uq.some_of (v:=v) (o:=mA f) (by rw[<-l];exact r f);exact qc I.kIn O (c.get f) c.hd n hu (du ru) (h u _ (I.tok _) ru)
theorem zv {m:Str}{g:Addr}{Q:Value×List Value->Shared->Prop} (I:ji X pins σ H s) (e:H a=some (.ins C dx fs)) (c:Vs X.K C) (k:Ma X.K C m g) (l:fs.lookup m=none)
  (h:Q (.ref g,[.ref a]) s):wpAny (model X.prog X.w) A (getMethod (.ref a) m pl) Q E s:=by
 obtain⟨mA,O,r,_,_,_⟩:=ZO I.hok e;have hn:mA m=none:=Uq.none_of (by rw[<-l];exact r m);exact iK I.kIn O (c.get m) k.at_ k.fn hn h
theorem cy {u:Value}{Q:Ay} (I:ji X pins σ H s) (e:H a=some (.ins C dx fs)) (c:Vs X.K C) (n:uz X.K C f) (hl:fs.length<1000) (ry:jE y u)
  (h:∀s',ji X pins σ (upd H a (.ins C dx (jY f y fs))) s'->Q () s'):wpAny (model X.prog X.w) A (setAttr (.ref a) f u) Q E s:=by
 obtain⟨mA,O,r,wi,_,ho⟩:=ZO I.hok e;have hz:(fs.map (·.1)).length<=sizeLine:=by rw[ya,sizeLine_eq];omega
 refine qQ I.kIn O c.sa c.po n.taker c.hd wi hz λh' O' sb=>h _ ?_;have hd:∃o,h'.get? dx=some o:=let ⟨o,_,_,e',_⟩:=O'.ns;#[o,e']
 refine I.write (x:=a) (e:=dx) (by rw[e];exact True.intro) (.inr ho) (λb q hb z=>(sb.2 b hb).trans z) hd ?_;refine#[jq O.ne ho,?_,O.ne,O'.obj,_,O'.ns,λg=>?_,λg hg=>?_]
 ·have:=Z3 f y fs;omega
 ·show Uq ((jY f y fs).lookup g) (if g=f then some u else mA g);rw[Z4];by_cases q:g=f
  ·rw[if_pos q,if_pos q];exact ry
  ·rw[if_neg q,if_neg q];exact r g
 ·by_cases q:g=f
  ·rw[q];exact (Zn f y fs).1
  ·refine (Zn f y fs).2 g (wi g λz=>hg ?_);show (if g=f then some u else mA g)=none;rw[if_neg q];exact z
theorem ji.made (I:ji X pins σ H s):ji X pins σ (upd (upd H s.heap.objs.size (.own (s.heap.objs.size+1))) (s.heap.objs.size+1) (.ins C s.heap.objs.size []))
  { s with heap:=(s.heap.push emptyDict).push (instObj C s.heap.objs.size) }:=by
 have e1:(s.heap.push emptyDict).get? s.heap.objs.size=some emptyDict:=yo s.heap rfl;have e2:((s.heap.push emptyDict).push (instObj C s.heap.objs.size)).get? (s.heap.objs.size+1)=some (instObj C s.heap.objs.size):=by
  have:=yo (s.heap.push emptyDict) (o:=instObj C s.heap.objs.size) rfl;rwa [Qs] at this
 have e3:(s.heap.push emptyDict).Ns s.heap.objs.size (λ_=>none):=#[emptyDict,(List.toArray []),_,e1,rfl,(λe he=>absurd he (by simp)),λ_=>rfl];have I1:=I.laid (a:=s.heap.objs.size) (o:=.own (s.heap.objs.size+1)) (h':=s.heap.push emptyDict) (t':=s.toks) (λb u q=>yd _ q) (yh _) #[_,e1];refine I1.laid (a:=s.heap.objs.size+1) (o:=.ins C s.heap.objs.size []) (t':=s.toks) (λb u q=>yd _ q) (Nat.le_of_eq (Qs _ _)) ?_;have ne:s.heap.objs.size≠s.heap.objs.size+1:=yx (Wa _);refine#[by rw[jw ne,jc],yT _,ne,e2,λ_=>none,(Heap.Ns1.of_empty e3).at λo q=>yd _ q,λ_=>True.intro,λy hy=>absurd rfl hy]
theorem pO {prog:AS}{w:World}{env:Env}{pos:Pos} (hb:attributeBase e f env (eval e env)=eval e env)
  (h:wpAny '#' A (eval e env) (λo s₁=>wpAny '#' A (getAttr o f true) Q E s₁) E s):wpAny '#' A (eval (.Attribute e f pos) env) Q E s :=
 Attribute_any_ h (by rw[arm_eval_Attribute,hb])
end
inductive pj (K:AB) (f:Str) (Q:VK) (x:V) (H1:Hp):Prop
 | mk (a:_) (C:_) (dx:_) (fs:_) (v:_) (h0:x=.ref a) (h1:H1 a=some (.ins C dx fs)) (h2:Vs K C) (h3:uz K C f) (h4:fs.lookup f=some v) (h5:Q v H1):pj K f Q x H1
def xQ (K:AB) (ta:TE) (f:Str):TE:=λσ H Q=>ta σ H λx H1=>pj K f Q x H1
inductive pb (K:AB) (f:Str) (D:vX) (σ:St) (y:V) (x:V) (H2:Hp):Prop
 | mk (a:_) (C:_) (dx:_) (fs:_) (h0:x=.ref a) (h1:H2 a=some (.ins C dx fs)) (h2:Vs K C) (h3:uz K C f) (h4:fs.length<1000) (h5:D.nx σ (upd H2 a (.ins C dx (jY f y fs)))):pb K f D σ y x H2
def lO (K:AB) (ta tv:TE) (f:Str):TS:=λD σ H=>tv σ H λy H1=>ta σ H1 λx H2=>pb K f D σ y x H2
section
variable {X:Cx}{o e value:Expr}{f:Str}{pos pos' Bn:Pos}{ta tv:TE}
theorem ud {K:AB} (he:PE X e ta) (hb:attributeBase e f X.env (eval e X.env)=eval e X.env:=by rfl) (hK:X.K=K:=by first|exact Vg|exact rfl):PE X (.Attribute e f pos) (xQ K ta f):=by
 subst hK;intro pins s σ H Q I h;refine pO hb (jA (he pins s σ H _ I h) λu s1 hh=>?_);obtain⟨x,H1,I1,rx,a,C,dx,fs,v,ex,ea,c,n,l,q⟩:=hh;subst ex;obtain rfl:u=Value.ref a:=rx;exact bT I1 ea c n l λu' s2 I2 ru=>#[v,H1,I2,ru,q]
theorem Vn (ha:PE X o ta) (hv:PE X value tv) (hs:swapsWith value (some (.Attribute o f pos')) pos.line X.env=pure false):PS X (.Assign [.Attribute o f pos'] value pos) (lO X.K ta tv f):=by
 intro pins s σ H D I h;refine plainObj_wpAny_Assign_Attribute (jA (hv pins s σ H _ I h) λu s1 #[y,H1,I1,ry,q]=>jA (ha pins s1 σ H1 _ I1 q) λov s2 hh=>?_) hs;obtain⟨x,H2,I2,rx,a,C,dx,fs,ex,ea,c,n,l,q2⟩:=hh;subst ex;obtain rfl:ov=Value.ref a:=rx;exact cy I2 ea c n l ry λs3 I3=>#[σ,_,I3,q2]
theorem t9 {m:Str}{apos:Pos}{args:AO}{pins:AF} (he:PE X e te) (I:ji X pins σ H s)
  (h:te σ H λx H1=>∃a C dx fs g,x=.ref a/\H1 a=some (.ins C dx fs)/\Vs X.K C/\Ma X.K C m g/\fs.lookup m=none /\
   ∀s1,ji X pins σ H1 s1->wpAny (model X.prog X.w) X.A (callWith pos (.ref g) [.ref a] (backTo pos (starEach args X.env)) (backToKw pos (keywordEach [] X.env))) Q X.xe s1)
  (ht:eval (.Call (.Attribute e m apos) args [] pos) X.env=(do
   let ov <-eval e X.env
   standAt apos.atName
   let (f,first) <-holding [ov] (getMethod ov m pl)
   callWith pos f first (backTo pos (starEach args X.env)) (backToKw pos (keywordEach [] X.env)))) :
  wpAny (model X.prog X.w) X.A (eval (.Call (.Attribute e m apos) args [] pos) X.env) Q X.xe s:=by
 refine methodCall_KW (pl:=pl) (jA (he pins s σ H _ I h) λu s1 hh=>?_) ht;obtain⟨x,H1,I1,rx,a,C,dx,fs,g,ex,ea,c,k,l,q⟩:=hh;subst ex;obtain rfl:u=Value.ref a:=rx;exact zv I1 ea c k l (q s1 I1)
end
section
variable {X:Cx}{pins:AF}{σ:St}{H:Hp}{s:Shared}{A:Around}{E:Ax}{Q:Ax}{c:Value}{b:Bool}
inductive vf (K:AB) (H:Hp):V->Value->Prop where
 | non:vf K H .non (.type "NoneType")
 | bl (x:Bool):vf K H (.bl x) (.type "bool")
 | int (i:Int):vf K H (.int i) (.type "int")
 | str (x:Str):vf K H (.str x) (.type "str")
 | flt (x:UInt64):vf K H (.flt x) (.type "float")
 | lst {a:Addr} {xs:List V} (e:H a=some (.lst xs)):vf K H (.ref a) (.type "list")
 | frz {a:Addr} {o:Obj} {xs:List V} (e:H a=some (.frz o (.lst xs))):vf K H (.ref a) (.type "list")
 | tup {a:Addr} {xs:List V} (e:H a=some (.tup xs)):vf K H (.ref a) (.type "tuple")
 | dK {a:Addr} {kvs:List (Key×V)} (e:H a=some (.dK kvs)):vf K H (.ref a) (.type "dict")
 | dT {a:Addr} {kvs:List (List Key×V)} (e:H a=some (.dT kvs)):vf K H (.ref a) (.type "dict")
 | ins {a C dx:Addr} {fs:List (Str×V)} (e:H a=some (.ins C dx fs)) (cl:Vs K C) (ha:findIn K (.ref C) "__class__"=some (some (.builtin "object.__class__")))
   (hn:PySem.W.specialIn K (.builtin "object.__class__") "__get__"=some (some (.builtin "getset_descriptor.__get__"))) (Hb:PySem.W.takesIn K (.builtin "object.__class__")=some true)
   (hm:mroIn K C (.type "object")=some true):vf K H (.ref a) (.ref C)
theorem dE {x:V}{u t:Value} (I:ji X pins σ H s) (rx:jE x u) (ty:vf X.K H x t) (e:kitOne X.K t c=some b) (h:∀tk,Q (.bool b) { s with toks:=tk }) :
  wpAny (model X.prog X.w) A (call (.builtin "isinstance") [u,c]) Q E s:=by
 cases ty with
 | non=>cases (show u=Value.none from rx);exact kia_one PySem.W.kitx_none I.kIn True.intro e (λz=>nomatch z) h
 | bl y=>cases (show u=Value.bool y from rx);exact kia_one PySem.W.kitx_bool I.kIn True.intro e (λz=>nomatch z) h
 | int i=>obtain⟨t,q⟩:=(show ∃t,u=Value.int i t from rx);cases q;exact kia_one PySem.W.kitx_int I.kIn True.intro e (λz=>nomatch z) h
 | str y=>obtain⟨t,q⟩:=(show ∃t,u=Value.str y t from rx);cases q;exact kia_one PySem.W.kitx_str I.kIn True.intro e (λz=>nomatch z) h
 | flt y=>obtain⟨t,q⟩:=(show ∃t,u=Value.float y t from rx);cases q;exact kia_one PySem.W.kitx_float I.kIn True.intro e (λz=>nomatch z) h
 | @lst a xs ea =>
  cases (show u=Value.ref a from rx);obtain⟨_,_,n,_,h1⟩:=(show jP X.prog X.w H s.heap a (.lst xs) from I.hok a _ ea);exact kia_one kitx_list I.kIn #[_,h1,rfl] e (λz=>nomatch z) h
 | @frz a ob xs ea =>
  cases (show u=Value.ref a from rx);obtain⟨_,_,_,n,_,h1⟩:=(show jP X.prog X.w H s.heap a (.frz ob (.lst xs)) from I.hok a _ ea);exact kia_one kitx_list I.kIn #[_,h1,rfl] e (λz=>nomatch z) h
 | @tup a xs ea =>
  cases (show u=Value.ref a from rx);obtain⟨_,_,_,p⟩:=(show jP X.prog X.w H s.heap a (.tup xs) from I.hok a _ ea);obtain⟨o,h1,h2,_⟩:=p;exact kia_one PySem.W.kitx_tuple I.kIn #[o,h1,h2] e (λz=>nomatch z) h
 | @dK a kvs ea =>
  cases (show u=Value.ref a from rx);obtain⟨_,_,vs,_,p⟩:=(show jP X.prog X.w H s.heap a (.dK kvs) from I.hok a _ ea);obtain⟨o,es,ep,h1,h2,_⟩:=p;exact kia_one kitx_dict I.kIn #[o,h1,h2.1] e (λz=>nomatch z) h
 | @dT a kvs ea =>
  cases (show u=Value.ref a from rx);obtain⟨_,_,xs,_,o,es,ep,h1,h2,_⟩:=(show jP X.prog X.w H s.heap a (.dT kvs) from I.hok a _ ea);exact kia_one kitx_dict I.kIn #[o,h1,h2.1] e (λz=>nomatch z) h
 | @ins a C dx fs ea cl ha hn Hb hm =>
  cases (show u=Value.ref a from rx);obtain⟨mA,O,_⟩:=ZO I.hok ea;obtain⟨od,J,_⟩:=O.look;exact kia_one (PySem.W.kitx_own (cl.get _) cl.hd ha hn Hb hm) I.kIn J e (λz=>nomatch z) h
end
structure Jx (c:Bool) (k:Nat) (A:Around):Prop where
 hd:c=true->A.handled=none
 dp:A.depth+3*k+5<recursionLimit
 un:A.units+16*k+200<cLine
abbrev zo:=Jx true
theorem Jx.mono {c':Bool}{j k:Nat}{A:Around} (r:Jx c k A) (h:j<=k) (hc:c'=true->c=true:=by decide):Jx c' j A:=#[λz=>r.hd (hc z),by have:=r.dp;omega,by have:=r.un;omega]
theorem Jx.m {c c':Bool}{j k:Nat}{A:Around} (r:Jx c k A) (h:j<=k:=by decide) (hc:c'=true->c=true:=by decide):Jx c' j A:=r.mono h hc
theorem Jx.deeper {k:Nat}{A:Around} (r:Jx c (k+1) A) (env:Env):Jx c k (A.deeper env) :=
 #[r.hd,by have:=r.dp;show A.depth+1+3*k+5<_;omega,by have:=r.un;show A.units+3+16*k+200<_;omega]
theorem ce {A:Around}:(A.under (.builtin "type.__call__" #[.ref C::us,kw])).depth=A.depth+1:=by
 first|rfl|simp [Around.under,Code.weight,Code.isCreation,Code.isGuard,Code.isCaller,Code.frames,Code.isFrame,guardIds]
theorem cf {A:Around}:(A.under (.builtin "type.__call__" #[.ref C::us,kw])).units=A.units+1:=by
 first|rfl|simp [Around.under,Code.cUnits,Code.frames,Code.isFrame]
theorem Jx.make {k:Nat}{A:Around} (r:Jx c (k+1) A) (C:Addr) (us:AH) (kw:List (Str×Value)):Jx c k (A.under (.builtin "type.__call__" #[.ref C::us,kw])) :=
 #[r.hd,by have:=r.dp;rw[ce];omega,by have:=r.un;rw[cf];omega]
theorem Jx.depth {k:Nat}{A:Around} (r:Jx c k A):A.depth<recursionLimit:=by have:=r.dp;omega
theorem Jx.units {k:Nat}{A:Around} (r:Jx c k A):A.units+64<cLine:=by have:=r.un;omega
theorem Jx.units0 {k:Nat}{A:Around} (r:Jx c k A):A.units<cLine:=by have:=r.un;omega
def tU:TA:=λ_ H Q=>Q [] H
def wR (ta:TE) (tr:TA):TA:=λσ H Q=>ta σ H λx H1=>tr σ H1 λxs H2=>Q (x::xs) H2
section
variable {X:Cx}{e:Expr}{es:AO}{te:TE}{t:TA}{pos:Pos}
theorem jb:PA X [] tU:=λ_ _ _ _ H Q I h=>Calls.spliced_nil #[[],H,I,.nil,h]
theorem ja (ha:PE X e te) (hr:PA X es t) (hs:starEach (e::es) X.env=(false,eval e X.env)::starEach es X.env:=by rfl):PA X (e::es) (wR te t):=by
 intro pos pins s σ H Q I h;rw[hs];show wpAny _ _ (spliced ((false,eval e X.env)::backTo pos (starEach es X.env))) _ _ s;refine Calls.spliced_cons (jA (ha pins s σ H _ I h) λu s1 #[x,H1,I1,r1,q1]=>?_);exact jA (hr pos pins s1 σ H1 _ I1 q1) λus s2 #[xs,H2,I2,r2,q2]=>#[x::xs,H2,I2,.cons r1 r2,q2]
inductive pE (Q:VK) (xs:List V) (H1:Hp):Prop
 | mk  (h0:xs.length<=sizeLine) (h1:∀p,H1 p=none->Q (.ref p) (upd H1 p (.tup xs))):pE Q xs H1
def xV (t:TA):TE:=λσ H Q=>t σ H λxs H1=>pE Q xs H1
inductive pA (Q:VK) (xs:List V) (H1:Hp):Prop
 | mk  (h0:xs.length<=sizeLine) (h1:∀p,H1 p=none->Q (.ref p) (upd H1 p (.lst xs))):pA Q xs H1
def tS (t:TA):TE:=λσ H Q=>t σ H λxs H1=>pA Q xs H1
theorem Jn {x1} (h:PA X es t):PE X (.Tuple es x1 pos) (xV t):=by
 intro pins s σ H Q I hq;refine wpAny_Tuple_spliced (jA (h pos pins s σ H _ I hq) λus s1 #[xs,H1,I1,r,z,q]=>#[by rw[<-r.length];exact z,?_]);have hf:H1 s1.heap.objs.size=none:=I1.hok.fresh (yh _);refine#[.ref s1.heap.objs.size,upd H1 s1.heap.objs.size (.tup xs),I1.laid (t':=s1.toks) (λb u e=>yd _ e) (yh _) ?_,rfl,q _ hf];exact#[z,us,r,#[_,yo _ rfl,rfl,_,rfl]]
theorem Jb (h:PA X es t):PE X (.List es pos) (tS t):=by
 intro pins s σ H Q I hq;refine wpAny_List_spliced (jA (h pos pins s σ H _ I hq) λus s1 #[xs,H1,I1,r,z,q]=>#[by rw[<-r.length];exact z,?_]);have hf:H1 s1.heap.objs.size=none:=I1.hok.fresh (yh _);refine#[.ref s1.heap.objs.size,upd H1 s1.heap.objs.size (.lst xs),I1.laid (t':=s1.toks) (λb u e=>yd _ e) (yh _) ?_,rfl,q _ hf];exact#[z,us,0,r,yo _ rfl]
end
abbrev Sp:=List V->Hp->VK->XK->Prop
abbrev gU:=List Env->Hp->Shared->XK->Value->Shared->Prop
structure gf (P:AS) (w:World) (K:AB) (mg:AE) (base:Heap) (A:Around) (outer:List Env) (s:Shared) (H:Hp):Prop where
 frames:A.frames=some outer
 mod:Mod K mg base
 bs:∀b o,base.get? b=some o->s.heap.get? b=some o/\H b=none
 bsz:base.objs.size<=s.heap.objs.size
 funs:s.heap.FunFrames base outer
 frf:∀b∈uv outer,H b=none
 hok:Js P w H s.heap
 bare:AllBare s.gens
 hn:m5 A H
def CE (outer:List Env) (P:AS) (w:World) (H:Hp) (s:Shared) (Q:VK) (u:Value) (s':Shared):Prop :=
 ∃v H',s'.os=s.os/\AllBare s'.gens/\Un (uv outer) [] H H' s.heap s'.heap/\Js P w H' s'.heap/\jE v u/\Q v H'
def CR (CX:gU) (outer:List Env) (P:AS) (w:World) (H:Hp) (s:Shared) (Q:VK) (E:XK) (r:Result) (s':Shared):Prop :=
 match r with
 | .ok (.ret u)=>CE outer P w H s Q u s'
 | .ok _=>False
 | .error e=>CX outer H s E e s'
structure UD (P:AS) (w:World) (K:AB) (mg:AE) (base:Heap) (CX:gU) (k:Nat) (f:Addr) (fd:FuncData) (ps:AM) (sp:Sp) (c:Bool:=true):Prop where
 len:∀vs H Q E,sp vs H Q E->vs.length=ps.length
 run:∀(A:Around) (outer:List Env) (s:Shared) (H:Hp) (args:Args) (us:AH) (vs:List V) (Q:VK) (E:XK),Jx c k A->gf P w K mg base A outer s H->BindsTo s fd args (ps.zip us)->jz vs us->sp vs H Q E ->
  codeAny (model P w) A (.call (.ref f) args) (CR CX outer P w H s Q E) s
theorem gf.make {w:World}{K:AB}{mg:AE}{base:Heap}{A:Around}{outer:List Env} (e:gf P w K mg base A outer s H) (C:Addr) (us:AH) (kw:List (Str×Value)) :
  gf P w K mg base (A.under (.builtin "type.__call__" #[.ref C::us,kw])) outer s H:=#[by first|exact e.frames|(simpa [Around.under,Code.envs,Code.isFrame,pushEnvs] using e.frames),e.mod,e.bs,e.bsz,e.funs,e.frf,e.hok,e.bare,e.hn]
section
variable {X:Cx}{pins:AF}{σ:St}{H:Hp}{s s':Shared}
theorem ji.env0 (I:ji X pins σ H s):gf X.prog X.w X.K X.mg X.base X.A X.stack s H :=
 #[I.ok.frames,I.ok.mod,I.bs,yp I.ok.bsz I.sz,I.stack,I.stkFree,I.hok,I.bare,I.hn]
theorem ji.after {Q:VK}{u:Value} (I:ji X pins σ H s) (h:CE X.stack X.prog X.w H s Q u s'):EP X pins σ Q u s':=by
 obtain⟨v,H',os,bare,un,hok,r,q⟩:=h;obtain⟨hh,g,d,t,Ef⟩:=s';obtain rfl:Ef=s.os:=os;exact#[v,H',I.call (h':=hh) (g':=g) (d':=d) (t':=t) (ch:=[]) un hok bare (λb z=>absurd z (by simp)),r,q]
end
def pi (sp:Sp) (Bv:List V) (E:XK) (t:TA):TE:=λσ H Q=>t σ H λvs H1=>sp (vs++Bv) H1 Q E
inductive fR (C:Addr) (m:Str) (sp:Sp) (Bv:List V) (E:XK) (t:TA) (σ:St) (Q:VK) (x:V) (H1:Hp):Prop
 | mk (a:_) (dx:_) (fs:_) (h0:x=.ref a) (h1:H1 a=some (.ins C dx fs)) (h2:fs.lookup m=none) (h3:t σ H1 λvs H2=>sp (x::(vs++Bv)) H2 Q E):fR C m sp Bv E t σ Q x H1
def pC (C:Addr) (m:Str) (sp:Sp) (Bv:List V) (E:XK) (ta:TE) (t:TA):TE:=λσ H Q=>ta σ H λx H1=>fR C m sp Bv E t σ Q x H1
def pB (C:Addr) (sp:Sp) (Bv:List V) (E:XK) (t:TA):TE:=λσ H Q=>t σ H λvs H1=>∀x dx,H1 x=none->H1 dx=none->dx≠x ->
 sp (.ref x::(vs++Bv)) (upd (upd H1 dx (.own x)) x (.ins C dx [])) (λv H2=>v=.non/\Q (.ref x) H2) E
def UK (K:AB) (fd:FuncData) (ps:AM) (ds:AH):Prop :=
 ∀(s:Shared) (us:AH),K.In s.heap->(us++ds).length=ps.length->BindsTo s fd #[us,[]] (ps.zip (us++ds))
theorem UK.all {K:AB}{fd:FuncData} (h:∀us:List Value,us.length=ps.length->bindArgs fd ⟨us,[]⟩=pure (ps.zip us)):UK K fd ps []:=λs us _ hl=>by
 rw[QM] at hl ⊢;exact .of_eq (h us hl)
def Ub (CX:gU) (X:Cx) (E:XK):Prop:=∀(pins:AF) (σ:St) (H:Hp) (s:Shared) (e:Value) (s':Shared),ji X pins σ H s->CX X.stack H s E e s'->X.xe e s'
section
variable {X:Cx}{CX:gU}{k:Nat}{f C:Addr}{fd:FuncData}{ps:AM}{sp:Sp}{Bv:List V}{ds:AH}{E:XK}{x m:Str}{p pos apos:Pos}{e o:Expr}{es:AO}{ta:TE}{t:TA}
theorem GQ {pins:AF}{Q:VK} (F:UD X.prog X.w X.K X.mg X.base CX k f fd ps sp cm) (hr:Jx cm k X.A) (hb:UK X.K fd ps ds) (hd:jz Bv ds) (hx:Ub CX X E)
  (I:ji X pins σ H s) (r:jz vs us) (h:sp (vs++Bv) H Q E):wpAny (model X.prog X.w) X.A (call (.ref f) us) (EP X pins σ Q) X.xe s:=by
 have r2:jz (vs++Bv) (us++ds):=r.append hd;have hl:(us++ds).length=ps.length:=by rw[<-r2.length];exact F.len _ _ _ _ h
 refine wpAny_call (codeAny_mono (F.run X.A X.stack s H #[us,[]] (us++ds) (vs++Bv) Q E hr I.env0 (hb s us I.kIn hl) r2 h) λr s' hq=>?_);cases r with
 | error e=>exact hx pins σ H s e s' I hq
 | ok fl =>
  cases fl with
  | ret u=>exact I.after hq
  | next=>exact False.elim hq
  | brk=>exact False.elim hq
  | cont=>exact False.elim hq
theorem qA (F:UD X.prog X.w X.K X.mg X.base CX k f fd ps sp cm) (hr:Jx cm k X.A) (hg:Gl X x) (hm:X.mg x=some (.ref f)) (hk:keepIn X.K (.ref f)=true) (hb:UK X.K fd ps ds) (hd:jz Bv ds) (hx:Ub CX X E)
  (ha:PA X (e::es) t) (Cc:(x==("__debug__":Str))=false:=by decide) (he:starEach (e::es) X.env=(false,eval e X.env)::starEach es X.env:=by rfl) (Ba:(backTo pos (starEach es X.env)).any (·.1)=false:=by rfl) :
  PE X (.Call (.Name x p) (e::es) [] pos) (pi sp Bv E t):=by
 intro pins s σ H Q I h;refine wpAny_Call_Name_kw (kA I hg hm ?_ Cc);refine callWith_K (h₀:=X.base) I.ok.mod.kin hk (jA (ha pos pins s σ H _ I h) λus s1 #[vs,H1,I1,r,q]=>#[I1.kIn,?_]) he Ba;exact GQ F hr hb hd hx I1 r q
theorem qC {pl:Sem Bool} (he:PE X o ta) (c:Vs X.K C) (hm:Ma X.K C m f) (F:UD X.prog X.w X.K X.mg X.base CX k f fd ps sp cm) (hr:Jx cm k X.A) (hb:UK X.K fd ps ds) (hd:jz Bv ds) (hx:Ub CX X E) (ha:PA X (e::es) t)
  (Bo:starEach (e::es) X.env=(false,eval e X.env)::starEach es X.env:=by rfl) (Ba:(backTo pos (starEach es X.env)).any (·.1)=false:=by rfl)
  (ht:eval (.Call (.Attribute o m apos) (e::es) [] pos) X.env=(do
   let ov <-eval o X.env
   standAt apos.atName
   let (f,first) <-holding [ov] (getMethod ov m pl)
   callWith pos f first (backTo pos (starEach (e::es) X.env)) (backToKw pos (keywordEach [] X.env))):=by rfl) :
  PE X (.Call (.Attribute o m apos) (e::es) [] pos) (pC C m sp Bv E ta t):=by
 intro pins s σ H Q I h;refine methodCall_KW (pl:=pl) (jA (he pins s σ H _ I h) λu s1 hh=>?_) ht;obtain⟨x,H1,I1,rx,a,dx,fs,ex,ea,l,q⟩:=hh;subst ex;obtain rfl:u=Value.ref a:=rx;refine zv I1 ea c hm l ?_;refine callWith_K (first:=[.ref a]) (h₀:=X.base) I.ok.mod.kin hm.kp (jA (ha pos pins s1 σ H1 _ I1 q) λus s2 #[vs,H2,I2,r,q2]=>#[I2.kIn,?_]) Bo Ba;exact GQ (us:=.ref a::us) (vs:=.ref a::vs) F hr hb hd hx I2 (.cons rfl r) q2
structure Mk (K:AB) (C f:Addr):Prop where
 makes:makesIn K C=true
 init:findIn K (.ref C) "__init__"=some (some (.ref f))
 fn:isFn K (.ref f)=true
 kp:keepIn K (.ref C)=true
theorem lM {pins:AF}{Q:VK} (M:Mk X.K C f) (F:UD X.prog X.w X.K X.mg X.base CX k f fd ps sp) (hr:zo (k+1) X.A) (hb:UK X.K fd ps ds) (hd:jz Bv ds)
  (hx:Ub CX X E) (I:ji X pins σ H s) (r:jz vs us)
  (h:∀x dx,H x=none->H dx=none->dx≠x->sp (.ref x::(vs++Bv)) (upd (upd H dx (.own x)) x (.ins C dx [])) (λv H2=>v=.non/\Q (.ref x) H2) E) :
  wpAny (model X.prog X.w) X.A (call (.ref C) us) (EP X pins σ Q) X.xe s:=by
 have hq:=h (s.heap.objs.size+1) s.heap.objs.size (I.hok.fresh (Nat.le_succ _)) (I.hok.fresh (yh _)) (yx (Wa _));have I2:=ji.made (C:=C) I;have r2:jz (V.ref (s.heap.objs.size+1)::(vs++Bv)) (Value.ref (s.heap.objs.size+1)::(us++ds)):=.cons rfl (r.append hd);have hl:(Value.ref (s.heap.objs.size+1)::us++ds).length=ps.length:=by
  have e:=r2.length;rw[F.len _ _ _ _ hq] at e;exact e.symm
 refine wpAny_call (iX (f:=f) I.kIn M.makes M.init (beq_iff_eq.mp M.fn) (codeAny_mono (F.run _ X.stack _ _ #[Value.ref (s.heap.objs.size+1)::us,[]] (Value.ref (s.heap.objs.size+1)::(us++ds)) _ _ E (hr.make C us [])
  (I2.env0.make C us []) (hb _ (Value.ref (s.heap.objs.size+1)::us) I2.kIn hl) r2 hq) λr s' Eg=>?_))
 cases r with
 | error e=>exact hx pins σ _ _ e s' I2 Eg
 | ok fl =>
  cases fl with
  | ret u =>
   obtain⟨v,H',I3,rv,ev,q3⟩:=I2.after Eg;subst ev;exact#[rv,#[V.ref (s.heap.objs.size+1),H',I3,rfl,q3]]
  | next=>exact False.elim Eg
  | brk=>exact False.elim Eg
  | cont=>exact False.elim Eg
theorem qB (M:Mk X.K C f) (F:UD X.prog X.w X.K X.mg X.base CX k f fd ps sp) (hr:zo (k+1) X.A) (hg:Gl X x) (hm:X.mg x=some (.ref C)) (hb:UK X.K fd ps ds) (hd:jz Bv ds) (hx:Ub CX X E)
  (ha:PA X (e::es) t) (Cc:(x==("__debug__":Str))=false:=by decide) (he:starEach (e::es) X.env=(false,eval e X.env)::starEach es X.env:=by rfl) (Ba:(backTo pos (starEach es X.env)).any (·.1)=false:=by rfl) :
  PE X (.Call (.Name x p) (e::es) [] pos) (pB C sp Bv E t):=by
 intro pins s σ H Q I h;refine wpAny_Call_Name_kw (kA I hg hm ?_ Cc);refine callWith_K (h₀:=X.base) I.ok.mod.kin M.kp (jA (ha pos pins s σ H _ I h) λus s1 #[vs,H1,I1,r,q]=>#[I1.kIn,?_]) he Ba;exact lM M F hr hb hd hx I1 r q
end
structure UV (N P:AM) (sc:Scope):Prop where
 kind:sc.kind=.function
 co:sc.isCoroutine=false
 gen:sc.isGenerator=false
 nd:N.Nodup
 pre:N.take P.length=P
 par:∀x∈P,sc.names.lookup x=some .local\/sc.names.lookup x=some .cell
 nofree:∀y∈sc.names,y.2≠.free
theorem Av {N P:AM}{sc:Scope} (a:sc.kind=.function:=by rfl) (b:sc.isCoroutine=false:=by rfl) (c:sc.isGenerator=false:=by rfl) (d:N.Nodup:=by decide +kernel) (e:N.take P.length=P:=by rfl) (f:∀x∈P,sc.names.lookup x=some .local\/sc.names.lookup x=some .cell:=by decide +kernel) (g:∀y∈sc.names,y.2≠.free:=by decide +kernel):UV N P sc:=#[a,b,c,d,e,f,g]
theorem Kg {x:Str}:∀{binds:List (Str×Value)} {m:AE},(∀v,(x,v) ∉ binds)->bindL kindOf binds m x=m x
 | [],_,_=>rfl
 | (n,v)::r,m,h=>by
  unfold bindL;rw[Kg λw hw=>h w (yn _ hw)];split
  ·have:x≠n:=by rintro rfl;exact h v yw
   simp [this]
  ·rfl
theorem Ke {x:Str}:∀{binds:List (Str×Value)} {m:AE},(∀v,(x,v) ∉ binds)->bindC kindOf binds m x=m x
 | [],_,_=>rfl
 | (n,v)::r,m,h=>by
  unfold bindC;rw[Ke λw hw=>h w (yn _ hw)];split
  ·rfl
  ·have:x≠n:=by rintro rfl;exact h v yw
   simp [this]
theorem Kf {kindOf:Str->Option NameKind}{x:Str}{v:Value}:∀{P:AM} {vs:AH} {i:Nat} {m:AE},P.Nodup->P[i]?=some x->vs[i]?=some v->kindOf x=some .local ->
  bindL kindOf (P.zip vs) m x=some v
 | [],_,_,_,_,h,_,_=>by simp at h
 | _::_,[],_,_,_,_,h,_=>by simp at h
 | p::P,w::vs,0,m,nd,h1,h2,hk=>by
  simp at h1 h2;subst h1;subst h2;show bindL kindOf ((p,w)::P.zip vs) m p=_;unfold bindL;rw[Kg λv hv=>(y7.mp nd).1 (List.of_mem_zip hv).1,if_pos hk];simp
 | p::P,w::vs,i+1,m,nd,h1,h2,hk=>by
  show bindL kindOf ((p,w)::P.zip vs) m x=_;unfold bindL;exact Kf (i:=i) (y7.mp nd).2 (by simpa using h1) (by simpa using h2) hk
theorem Kd {kindOf:Str->Option NameKind}{x:Str}{v:Value}:∀{P:AM} {vs:AH} {i:Nat} {m:AE},P.Nodup->P[i]?=some x->vs[i]?=some v->kindOf x≠some .local ->
  bindC kindOf (P.zip vs) m x=some v
 | [],_,_,_,_,h,_,_=>by simp at h
 | _::_,[],_,_,_,_,h,_=>by simp at h
 | p::P,w::vs,0,m,nd,h1,h2,hk=>by
  simp at h1 h2;subst h1;subst h2;show bindC kindOf ((p,w)::P.zip vs) m p=_;unfold bindC;rw[Ke λv hv=>(y7.mp nd).1 (List.of_mem_zip hv).1,if_neg hk];simp
 | p::P,w::vs,i+1,m,nd,h1,h2,hk=>by
  show bindC kindOf ((p,w)::P.zip vs) m x=_;unfold bindC;exact Kd (i:=i) (y7.mp nd).2 (by simpa using h1) (by simpa using h2) hk
def start (N:AM) (vs:List V):St:=vs.map some++List.replicate (N.length - vs.length) none
def gu (CX:gU) (P:AS) (w:World) (K:AB) (mg:AE) (base:Heap) (N:AM) (qual:Str) (scope:Scope) (f:Addr) (cd:Value) (A:Around) (outer:List Env) (s:Shared) (H:Hp) (E:XK) (c:Bool:=true):Cx where
 prog:=P
 w:=w
 K:=K
 mg:=mg
 base:=base
 A:=A.deeper (envOfC qual scope s.heap.objs.size f cd)
 N:=N
 s₀:=s
 H₀:=H
 env:=envOfC qual scope s.heap.objs.size f cd
 outer:=outer
 stack:=envOfC qual scope s.heap.objs.size f cd::outer
 ex:=[]
 calm:=c
 fn:=λ_=>true
 pn:=[]
 xe:=λe s'=>wpAny (model P w) (A.deeper (envOfC qual scope s.heap.objs.size f cd)) (leaving (envOfC qual scope s.heap.objs.size f cd) e) (λ_ Ib=>CX outer H s E e Ib) (λe' Ib=>CX outer H s E e' Ib) s'
theorem Mh {sc:Scope}{x:Str} (h:sc.names.lookup x=some .cell):∃c,(cellsFrom n sc.names []).lookup x=some c:=by
 have q:=cellsFrom_some sc.names n [] (.inl h);exact Option.isSome_iff_exists.mp q
theorem dD {w:World}{K:AB}{mg:AE}{base:Heap}{N:AM}{f:Addr}{cd:Value}{A:Around}{outer:List Env}{s1:Shared}{E:XK}
  {c:Bool} (S:UV N ps scope) (hd:c=true->A.handled=none) (e0:gf P w K mg base A outer s H) (hl:vs.length=ps.length) (r:jz vs us)
  (x:InCallC s s.heap.objs.size (bindL (envOfC qual scope s.heap.objs.size f cd).kindOf (ps.zip us) λ_=>none) (cellsFrom (s.heap.objs.size+1) scope.names []) (bindC (envOfC qual scope s.heap.objs.size f cd).kindOf (ps.zip us) λ_=>none) s1) :
  ji (gu CX P w K mg base N qual scope f cd A outer s H E c) [] (start N vs) H s1:=by
 have Ba:ps.length<=N.length:=by have:=congrArg List.length S.pre;rw[yI] at this;omega
 obtain⟨h1,tk,rfl,hk⟩:=x.done;have Fh:∀b:Addr,b ∉ (gu CX P w K mg base N qual scope f cd A outer s H E c).ex:=λb z=>absurd (show b∈([]:AI) from z) (by simp);refine#[#[e0.mod,S.kind,rfl,rfl,yh _,λy z c h1 h2=>?_,λy hy=>?_,λy c' _ h=>?_,hd,Around.frames_deeper e0.frames,.inr #[rfl,rfl],λb z=>absurd z (Fh b),e0.bs,e0.bsz,λb _ _=>Fh b,λb z=>absurd z (Fh b),e0.funs,e0.frf],
  rfl,e0.bare,Un.kept hk,#[_,x.toInCall.ns,λi y v h1 h2 h3=>?_],λy c h=>#[_,x.cell y c h],e0.hok.fresh (yh _),λy c h=>?_,λp hp=>absurd (show p∈([]:AF) from hp) (by simp),e0.hok.kept hk,?_,e0.hn]
 ·exact name_of_addr x.apart (PySem.mem_of_lookup h1) (PySem.mem_of_lookup h2)
 ·have hy:scope.names.lookup y=some .cell\/scope.names.lookup y=some .free:=hy;rcases hy with hy|hy
  ·exact Mh hy
  ·exact absurd rfl (S.nofree _ (PySem.mem_of_lookup hy))
 ·exact y4 (x.above y c' (PySem.mem_of_lookup h))
 ·have hi:i<vs.length:=by
   unfold start at h2;by_cases hi:i<vs.length
   ·exact hi
   ·rw[yG (by simpa using hi)] at h2;rw[List.getElem?_replicate] at h2
    split at h2<;>cases h2
  have ha:vs[i]?=some v:=by
   unfold start at h2;rw[yC (by simpa using hi),ye] at h2;cases e:vs[i]? with
   | none=>rw[e] at h2;cases h2
   | some a=>rw[e] at h2;cases h2;rfl
  obtain⟨u,hu,rv⟩:=r.get ha;have hp:ps[i]?=some y:=by
   rw[<-S.pre,List.getElem?_take_of_lt '!'];exact h1
  have Fi:ps.Nodup:=by rw[<-S.pre];exact S.nd.sublist (List.take_sublist _ _)
  refine#[u,rv,?_];rcases S.par y (yk hp) with k|k
  ·exact .inl #[k,Kf Fi hp hu k]
  ·obtain⟨c,e⟩:=Mh (n:=s.heap.objs.size+1) k;refine .inr #[.inl k,c,e,?_];have q:=x.cell y c e;rw[Kd Fi hp hu (by show scope.names.lookup y≠_;rw[k];decide)] at q;exact q
 ·exact e0.hok.fresh (y4 (x.above y c (PySem.mem_of_lookup h)))
 ·unfold start;show _=N.length;rw[yj,ya,List.length_replicate];omega
theorem wn {w:World}{K:AB}{mg:AE}{base:Heap}{k:Nat}{f:Addr}{name:Str}{params:Arguments}{dV kV doc pm AZ ct oc:Value}{an od:AR}
  {Eh:AL} {N ps:AM} {sp:Sp} {c:Bool} (lk:K.lookup f=some #[oc,od,.func (fnOf name qual params body scope dV kV doc pm an AZ ct),Eh]) (C8:codeIn K AZ qual=true) (S:UV N ps scope)
  (len:∀vs H Q E,sp vs H Q E->vs.length=ps.length)
  (Cv:∀(A:Around) (outer:List Env) (s:Shared) (H:Hp) (vs:List V) (Q:VK) (E:XK),Jx c k (A.deeper (envOfC qual scope s.heap.objs.size f AZ))->sp vs H Q E ->
   ∃t,z8 (gu CX P w K mg base N qual scope f AZ A outer s H E c) body t/\t { nx:=λ_ H'=>Q .non H',rt:=Q } (start N vs) H) :
  UD P w K mg base CX (k+1) f (fnOf name qual params body scope dV kV doc pm an AZ ct) ps sp c:=by
 refine#[len,λA outer s H args us vs Q E hr e0 hb r BG=>?_];have hl:=len _ _ _ _ BG;have KX:K.In s.heap:=e0.mod.kin.keeps λb o e=>(e0.bs b o e).1;have lim:s.heap.NoLimit:=e0.mod.nolimit.keeps λb o e=>(e0.bs b o e).1;have Fj:∀y∈ps.zip us,scope.names.lookup y.1=some .local\/(scope.names.lookup y.1=some .cell/\((cellsFrom (s.heap.objs.size+1) scope.names []).lookup y.1).isSome=true):=λ⟨n,v⟩ hy=>by
  rcases S.par n (List.of_mem_zip hy).1 with q|q
  ·exact .inl q
  ·exact .inr #[q,cellsFrom_some _ _ _ (.inl q)]
 refine codeAny_call_function hr.depth (KX _ _ lk) rfl S.co S.gen rfl (PySem.W.codeRec_of KX C8) (hb _ _ _ _ ?_);refine wpAny_newFunctionEnv_cells S.kind Fj λenv he s1 x=>?_;subst he;refine#[lim.keeps x.toInCall.keep,codeAny_func ?_];obtain⟨t,ht,hq⟩:=Cv A outer s H vs Q E (hr.deeper _) BG;have I:ji (gu CX P w K mg base N qual scope f AZ A outer s H E c) [] (start N vs) H s1:=dD S hr.hd e0 hl r x;refine wpAny_mono (ht [] s1 (start N vs) H _ I hq) (λfl s' hs=>?_) λe s' hs=>hs;have fin:∀{σ':St} {H':Hp} {v:V} {u:Value},ji (gu CX P w K mg base N qual scope f AZ A outer s H E c) [] σ' H' s'->jE v u->Q v H'->CE outer P w H s Q u s' :=
  λ{σ' H' v u} J rv q=>#[v,H',J.os,J.bare,J.base,J.hok,rv,q]
 cases fl with
 | ret u =>
  obtain⟨v,σ',H',J,rv,q⟩:=hs;exact fin J rv q
 | next =>
  obtain⟨σ',H',J,q⟩:=hs;exact fin (v:=V.non) (u:=Value.none) J rfl q
 | brk =>
  obtain⟨_,_,_,q⟩:=hs;exact False.elim q
 | cont =>
  obtain⟨_,_,_,q⟩:=hs;exact False.elim q
section
variable {X:Cx}{x:Str}{p pos:Pos}{e:Expr}{es:AO}{t:TA}{id T:String}{r:List V->Hp->VK->Prop}
def xo (r:List V->Hp->VK->Prop) (t:TA):TE:=λσ H Q=>t σ H λvs H1=>r vs H1 Q
theorem jx (hc:Jf X (.builtin id) r) (hg:Gl X x) (hm:X.mg x=none) (hv:bootBuiltins x=some (.builtin id)) (ha:PA X (e::es) t) (hn:x≠"__name__":=by decide) (Cc:(x==("__debug__":Str))=false:=by decide)
  (he:starEach (e::es) X.env=(false,eval e X.env)::starEach es X.env:=by rfl) (Ba:(backTo pos (starEach es X.env)).any (·.1)=false:=by rfl):PE X (.Call (.Name x p) (e::es) [] pos) (xo r t):=by
 intro pins s σ H Q I h;refine wpAny_Call_Name_kw (U7 I hg hm hv ?_ hn Cc);exact PyProof.Rows.callWith_builtin1 (jA (ha pos pins s σ H _ I h) λus s1 #[vs,H1,I1,r1,q1]=>hc pins s1 σ H1 vs us Q I1 r1 q1) he Ba
theorem j4 (hc:Jf X (.type T) r) (hg:Gl X x) (hm:X.mg x=none) (hv:bootBuiltins x=some (.type T)) (ha:PA X (e::es) t) (hn:x≠"__name__":=by decide) (Cc:(x==("__debug__":Str))=false:=by decide)
  (he:starEach (e::es) X.env=(false,eval e X.env)::starEach es X.env:=by rfl) (Ba:(backTo pos (starEach es X.env)).any (·.1)=false:=by rfl):PE X (.Call (.Name x p) (e::es) [] pos) (xo r t):=by
 intro pins s σ H Q I h;refine wpAny_Call_Name_kw (U7 I hg hm hv ?_ hn Cc);exact PyProof.Rows.callWith_type1 (jA (ha pos pins s σ H _ I h) λus s1 #[vs,H1,I1,r1,q1]=>hc pins s1 σ H1 vs us Q I1 r1 q1) he Ba
end
end L2
namespace HT
open PySem PyProof.Rows
variable {Q:Ax}{sl:Addr}{vl vu:Value}{lo hi:Option Int}
section
variable {prog:AS}{w:World}{A:Around}{E:Ax}{s:Shared}
theorem cat_tup {t b:Addr}{vs ws:AH} (ht:IsTup s.heap t vs.toArray) (hb:IsTup s.heap b ws.toArray) (hv:vs≠[])
  (h1:ws=[]->Q (.ref t) s) (h2:ws≠[]->Q (.ref s.heap.objs.size) { s with heap:=s.heap.push { cls:=.type "tuple",data:=.seq (vs++ws).toArray } })
  (hsz:vs.length+ws.length<=sizeLine):wpAny '#' A (binaryOp .Add (.ref t) (.ref b)) Q E s:=by
 obtain⟨⟨cls,dd,data,sl⟩,ho,hc,n,hd⟩:=id ht;obtain⟨⟨Fl,C9,data2,Dc⟩,Bw,DN,n2,hd2⟩:=id hb;simp only at hc hd DN hd2;subst hc hd DN hd2;have e:vs.toArray++ws.toArray=(vs++ws).toArray:=by simp
 by_cases hw:ws=[]
 ·exact concat_meets #[_,ho,rfl] #[_,Bw,rfl] noFill_tuple_add seq_tuple_add PySem.F.slot_tuple_add PySem.F.entry_tuple_add (PySem.F.args_tuple_add_2 _ _)
   (tuple_addW1 t b vs.toArray ws.toArray n n2 dd C9 sl Dc (by simpa using hv) (by simp [hw])) #[ho,Bw,h1 hw]
 ·refine concat_meets #[_,ho,rfl] #[_,Bw,rfl] noFill_tuple_add seq_tuple_add PySem.F.slot_tuple_add PySem.F.entry_tuple_add (PySem.F.args_tuple_add_2 _ _)
   (tuple_addW2 t b vs.toArray ws.toArray n n2 dd C9 sl Dc (by simpa using hv) (by simpa using hw) (by rw[yg,yg];exact hsz)) #[ho,Bw,?_]
  rw[e];exact h2 hw
def sIx (n d:Nat):Option Int->Nat
 | none=>d
 | some v=>if v<0 then (v+(n:Int)).toNat else min v.toNat n
theorem sIx_none (n d:Nat):sIx n d none=d:=rfl
theorem sIx_nat (n d k:Nat):sIx n d (some (k:Int))=min k n:=by
 show (if (k:Int)<0 then ((k:Int)+(n:Int)).toNat else min (k:Int).toNat n)=min k n;rw[if_neg '!',Qg]
theorem sZ (n d:Nat) (hd:d<=n) (o:Option Int):sIx n d o<=n:=by
 cases o with
 | none=>exact hd
 | some v =>
  show (if v<0 then (v+(n:Int)).toNat else min v.toNat n)<=n;by_cases hv:v<0
  ·rw[if_pos hv];omega
  ·rw[if_neg hv];exact QZ _ _
theorem ab (v:Int) (n d:Nat):(if v<0 then max (v+(n:Int)) 0 else min v (n:Int))=((sIx n d (some v):Nat):Int):=by
 show (if v<0 then max (v+(n:Int)) 0 else min v (n:Int))=(((if v<0 then (v+(n:Int)).toNat else min v.toNat n):Nat):Int);by_cases hv:v<0
 ·simp only[if_pos hv];omega
 ·simp only[if_neg hv];omega
theorem bn (lo hi:Option Int) (n:Nat):Builtin.Slice.sliceAdjust lo hi 1 (n:Int)=(((sIx n 0 lo:Nat):Int),((sIx n n hi:Nat):Int)):=by
 have h1:¬((1:Int)<0):=by omega
 unfold Builtin.Slice.sliceAdjust;simp only[h1,if_false];refine Prod.ext ?_ ?_
 ·cases lo with
  | none=>rfl
  | some v=>exact ab v n 0
 ·cases hi with
  | none=>rfl
  | some v=>exact ab v n n
theorem cq (i j:Nat):Builtin.Slice.slicePlaces (i:Int) (j:Int) 1=j - i:=by
 unfold Builtin.Slice.slicePlaces;have h1:(1:Int) > 0:=by omega
 simp only[h1,if_true,Int.ediv_one]
 split<;>omega
theorem GS {v:Value}{o:Option Int}{Q:Option Int->Shared->Prop} (p:IsPart v o) (h:Q o s):wpAny '#' A (Builtin.Slice.slicePartIndex v) Q E s:=by
 cases p with
 | none=>exact slicePart_none h
 | int i t=>exact slicePart_int h
theorem gP {n:Nat}{Q:Int×Int×Nat->Shared->Prop} (hs:s.heap.IsSliceOf sl vl vu .none) (pl:IsPart vl lo) (pu:IsPart vu hi)
  (h:Q (((sIx n 0 lo:Nat):Int),1,sIx n n hi - sIx n 0 lo) s):wpAny '#' A (Builtin.Slice.sliceApplied (.ref sl) (pure (n:Int))) Q E s:=by
 obtain⟨os,Fn,Hc,EM⟩:=id hs;unfold Builtin.Slice.sliceApplied Builtin.Slice.sliceFields;refine AT (AT (wpAny_field Fn EM (x:=vl) rfl (AT (wpAny_field Fn EM (x:=vu) rfl (AT (wpAny_field Fn EM (x:=.none) rfl (AU ?_)))))));refine AT (slicePart_none ?_);show wpAny _ _ (if ((1:Int)==0)=true then _ else _) _ _ s;rw[if_neg '$'];refine AT (GS pl (AT (GS pu (AT (AU ?_)))));show wpAny _ _ (match Builtin.Slice.sliceAdjust lo hi 1 (n:Int) with|(lo,hi)=>pure (lo,(1:Int),Builtin.Slice.slicePlaces lo hi 1)) _ _ s;rw[bn lo hi n];show wpAny _ _ (pure (((sIx n 0 lo:Nat):Int),(1:Int),Builtin.Slice.slicePlaces ((sIx n 0 lo:Nat):Int) ((sIx n n hi:Nat):Int) 1)) _ _ s;rw[cq];exact AU h
theorem lA (xs:AN) (i k:Nat):((List.range k).filterMap λ(m:Nat)=>xs[((i:Int)+(m:Int)*1).toNat]?).toArray=((xs.toList.drop i).take k).toArray:=by
 have e:(λ(m:Nat)=>xs[((i:Int)+(m:Int)*1).toNat]?)=λm=>xs[i+m]?:=by
  funext m;have:((i:Int)+(m:Int)*1).toNat=i+m:=by omega
  rw[this]
 rw[e];have:=pick_run xs i k;rw[List.filterMap_map] at this;have e2:((λx=>xs[x]?)∘λx=>i+x)=λm=>xs[i+m]?:=rfl;rw[e2] at this;rw[this]
theorem getItem_tuple_cut {t:Addr}{items:AN} (ht:IsTup s.heap t items) (hs:s.heap.IsSliceOf sl vl vu .none) (pl:IsPart vl lo) (pu:IsPart vu hi)
  (hw:¬(sIx items.size 0 lo=0/\sIx items.size items.size hi=items.size))
  (h:Q (.ref s.heap.objs.size) { s with heap:=s.heap.push { cls:=.type "tuple",data:=.seq ((items.toList.drop (sIx items.size 0 lo)).take (sIx items.size items.size hi - sIx items.size 0 lo)).toArray } })
  (hsz:items.size<=sizeLine):wpAny '#' A (getItem (.ref t) (.ref sl)) Q E s:=by
 have B5:sizeOk (.seq ((items.toList.drop (sIx items.size 0 lo)).take (sIx items.size items.size hi - sIx items.size 0 lo)).toArray):=by
  show ((items.toList.drop (sIx items.size 0 lo)).take (sIx items.size items.size hi - sIx items.size 0 lo)).toArray.size<=sizeLine;rw[yg,yI,Q0,yA];omega
 have hj:sIx items.size items.size hi<=items.size:=sZ _ _ (yh _) hi;obtain⟨os,Fn,Hc,EM⟩:=id hs;have Rg:s.TypeIs (.ref sl) "slice":=#[os,Fn,Hc];unfold getItem
 try with_reducible refine wpAny_holding ?_
 first|refine AT (AU ?_)|skip
 refine AT (wpAny_sequenceKey ht.typeIs '$' ?_);refine AT (wpAny_callSpecial?_slot (name:=Str.ofString "__getitem__") ht.typeIs PyProof.Rows.slot_tuple_getitem
  (wpAny_call_entry PyProof.Rows.slot_tuple_getitem ht.typeIs entry_tuple_getitem ?_ (args_tuple_getitem _ _)))
 show wpAny _ _ (Builtin.Tuple.tupleItemsOf (.ref t)>>=_) _ _ s;refine AT (tupleItemsOf_ ht ?_);refine AT (wpAny_typeOf Rg ?_);rw[if_pos '$'];refine AT (gP hs pl pu ?_);have Cd:¬((((sIx items.size 0 lo:Nat):Int)==0&&(1:Int)==1&&(sIx items.size items.size hi - sIx items.size 0 lo)==items.size)=true):=by
  intro q;rw[QP,QP] at q;have q1:((sIx items.size 0 lo:Nat):Int)=0:=eq_of_beq q.1.1;have q2:sIx items.size items.size hi - sIx items.size 0 lo=items.size:=eq_of_beq q.2;exact hw #[by omega,by omega]
 show wpAny _ _ (if (((sIx items.size 0 lo:Nat):Int)==0&&(1:Int)==1&&(sIx items.size items.size hi - sIx items.size 0 lo)==items.size)=true then _ else _) _ _ s;rw[if_neg Cd,lA]
 first
  | exact AT (m:=Builtin.Tuple.tupleExact _) (wpAny_newObj_type (AU ⟨_,rfl,AU h⟩) B5)
  | exact AT (m:=Builtin.Tuple.tupleExact _) (wpAny_newObj_type (AT (AU (AU ⟨_,rfl,AU h⟩))) B5)
  | exact AT (AT (m:=Builtin.Tuple.tupleExact _) (wpAny_newObj_type (AU (AU ⟨_,rfl,AU h⟩)) B5))
  | exact AT (AT (m:=Builtin.Tuple.tupleExact _) (wpAny_newObj_type (AU ⟨_,rfl,AU h⟩) B5))
end
end HT
namespace L2
open PySem PySem.Spec PyProof.Rows
variable {xs:List V}{us AV:AH}{n j t':Nat}{i:Int}{A:Around}{s:Shared}{y x:V}{u v:Value}
abbrev TO:=St->Hp->(Option Int->Hp->Prop)->Prop
def PO (X:Cx) (e:Option Expr) (t:TO):Prop :=
 ∀(pins:AF) (s:Shared) (σ:St) (H:Hp) (Q:Option Int->Hp->Prop),ji X pins σ H s->t σ H Q ->
  wpAny (model X.prog X.w) X.A (evalPart e X.env) (λu s'=>∃o H',ji X pins σ H' s'/\IsPart u o/\Q o H') X.xe s
def ri:TO:=λ_ H Q=>Q none H
inductive fV (Q:Option Int->Hp->Prop) (x:V) (H1:Hp):Prop
 | mk (i:_) (h0:x=.int i) (h1:Q (some i) H1):fV Q x H1
def wY (t:TE):TO:=λσ H Q=>t σ H λx H1=>fV Q x H1
theorem bV {ns:List Int}:∀{us:AH},jz (ns.map V.int) us->IntsAre us ns:=by
 induction ns with
 | nil=>intro us r;rw[List.map_nil] at r;cases r;exact .nil
 | cons n ns ih =>
  intro us r;rw[yH] at r;cases r with
  | cons r1 r2 =>
   obtain⟨t,e⟩:=r1;subst e;exact .cons n t (ih r2)
section
variable {X:Cx}{e:Expr}{te:TE}{lo hi:Option Expr}{tl th:TO}{pos p2:Pos}
theorem zd:PO X none ri:=by
 intro pins s σ H Q I h;rw[evalPart_none];exact AU #[none,H,I,.none,h]
theorem ze (h:PE X e te):PO X (some e) (wY te):=by
 intro pins s σ H Q I hw;rw[evalPart_some];refine jA (h pins s σ H _ I hw) λu s1 #[x,H1,I1,r1,q1]=>?_;obtain⟨i,rfl,q⟩:=q1;obtain⟨t,rfl⟩:=r1;exact#[some i,H1,I1,.int i t,q]
def rH (X:Cx) (r:V->Option Int->Option Int->Hp->VK->Prop):Prop :=
 ∀(pins:AF) (s:Shared) (σ:St) (H:Hp) (x:V) (v vl vu:Value) (lo hi:Option Int) (sl:Addr) (Q:VK),ji X pins σ H s->jE x v->s.heap.IsSliceOf sl vl vu .none->IsPart vl lo->IsPart vu hi->r x lo hi H Q ->
  ∃T id,typeLookup (.type T) "__getitem__"=pure (some (.builtin id))/\s.TypeIs v T/\wpAny (model X.prog X.w) X.A (getItem v (.ref sl)) (EP X pins σ Q) X.xe s
def Aq (r:V->Option Int->Option Int->Hp->VK->Prop) (te:TE) (tl th:TO):TE:=λσ H Q=>te σ H λx H1=>tl σ H1 λl H2=>th σ H2 λu H3=>r x l u H3 Q
theorem Vm {r:V->Option Int->Option Int->Hp->VK->Prop} (hr:rH X r) (he:PE X e te) (hl:PO X lo tl) (hu:PO X hi th):PE X (.Subscript e (.Slice lo hi none p2) pos) (Aq r te tl th):=by
 intro pins s σ H Q I h;refine Subscript_ (jA (he pins s σ H _ I h) λv s1 #[x,H1,I1,r1,q1]=>?_);refine wpAny_Slice (jA (hl pins s1 σ H1 _ I1 q1) λvl s2 #[l,H2,I2,pl,q2]=>jA (hu pins s2 σ H2 _ I2 q2) λvu s3 #[u,H3,I3,pu,q3]=>?_);rw[evalPart_none];refine AU ?_;have I4:ji X pins σ H3 { s3 with heap:=s3.heap.push { cls:=.type "slice",data:=.fields (List.toArray [vl,vu,.none]) } }:=I3.kept (t':=s3.toks) λb ob q=>yd _ q;obtain⟨T,id,hT,ht,hg⟩:=hr pins { s3 with heap:=s3.heap.push { cls:=.type "slice",data:=.fields (List.toArray [vl,vu,.none]) } } σ H3 x v vl vu l u s3.heap.objs.size Q I4 r1 (Heap.IsSliceOf.new ..) pl pu q3;show wpAny (model X.prog X.w) X.A (subscriptTail e (.Slice lo hi none p2) v (.ref s3.heap.objs.size)) (EP X pins σ Q) X.xe { s3 with heap:=s3.heap.push { cls:=.type "slice",data:=.fields (List.toArray [vl,vu,.none]) } };exact tail_any (ops:=[.ref s3.heap.objs.size,v]) ht hT hg (by with_unfolding_all rfl)
def uY (xs:List V) (lo hi:Option Int):List V:=(xs.drop (HT.sIx xs.length 0 lo)).take (HT.sIx xs.length xs.length hi - HT.sIx xs.length 0 lo)
theorem Z0 (xs:List V) (lo hi:Option Int):(uY xs lo hi).length<=xs.length:=by
 unfold uY;rw[yI,Q0];omega
inductive o8 (K:AB) (x:V) (lo:Option Int) (hi:Option Int) (H:Hp) (Q:VK):Prop
 | mk (a:_) (xs:_) (h0:x=.ref a) (h1:jB K H a xs) (h2:¬(HT.sIx xs.length 0 lo=0/\HT.sIx xs.length xs.length hi=xs.length)) (h3:∀p,H p=none->Q (.ref p) (upd H p (.tup (uY xs lo hi)))):o8 K x lo hi H Q
def xK (K:AB):V->Option Int->Option Int->Hp->VK->Prop:=λx lo hi H Q=>o8 K x lo hi H Q
theorem tq:rH X (xK X.K):=by
 intro pins s σ H x v vl vu lo hi sl Q I rx hs pl pu h;obtain⟨a,xs,rfl,hx,hw,q⟩:=h;cases rx;obtain⟨AV,r,ht,hz⟩:=I.tuple hx;have hlen:AV.toArray.size=xs.length:=by rw[yg];exact r.length.symm
 refine#["tuple",_,PyProof.Rows.slot_tuple_getitem.lookup,ht.typeIs,?_];refine HT.getItem_tuple_cut ht hs pl pu (by rw[hlen];exact hw) ?_ (by rw[hlen];exact hz);rw[hlen];refine#[.ref s.heap.objs.size,_,I.laid (t':=s.toks) (o:=.tup (uY xs lo hi)) (λb ob q=>yd _ q) (yh _) ?_,rfl,q _ (I.hok.fresh (yh _))];exact#[yp (Z0 xs lo hi) hz,_,(r.drop (HT.sIx xs.length 0 lo)).take (HT.sIx xs.length xs.length hi - HT.sIx xs.length 0 lo),IsTup.new _ _]
def wC (K:AB):R2:=λx y H Q=>∃a b xs ys,x=.ref a/\y=.ref b/\jB K H a xs/\jB K H b ys/\xs≠[]/\xs.length+ys.length<=sizeLine /\
 (ys=[]->Q (.ref a) H)/\(ys≠[]->∀p,H p=none->Q (.ref p) (upd H p (.tup (xs++ys))))
theorem jz.nil_iff (r:jz xs us):us=[]↔xs=[]:=by
 cases r with
 | nil=>simp
 | cons _ _=>simp
theorem qv:uN X (binaryOp .Add) (wC X.K):=by
 intro pins s σ H x y v u Q I rx ry h;obtain⟨a,b,xs,ys,rfl,rfl,ha,hb,hx,hz,q1,q2⟩:=h;cases rx;cases ry;obtain⟨AV,r1,p1,_⟩:=I.tuple ha;obtain⟨A0,r2,p2,_⟩:=I.tuple hb;refine HT.cat_tup p1 p2 (λz=>hx (r1.nil_iff.mp z)) (λz=>#[.ref a,H,I,rfl,q1 (r2.nil_iff.mp z)]) (λz=>?_) (by rw[<-r1.length,<-r2.length];exact hz);refine#[.ref s.heap.objs.size,_,I.laid (t':=s.toks) (o:=.tup (xs++ys)) (λb ob q=>yd _ q) (yh _) ?_,rfl,q2 (λw=>z (r2.nil_iff.mpr w)) _ (I.hok.fresh (yh _))];exact#[by rw[yj];exact hz,_,r1.append r2,IsTup.new _ _]
end
def Kw (n:Nat) (i:Int):Option Nat:=if 0<=i then (if i<n then some i.toNat else none) else if -(n:Int)<=i then some (i+n).toNat else none
def vL {α:Type} (xs:List α) (i:Int):Option α:=(Kw xs.length i).bind λj=>xs[j]?
theorem qf (h:Kw n i=some j):seqIndex? i n=some j/\j<n/\-(n:Int)<=i/\i<n:=by
 unfold Kw at h;by_cases h0:0<=i
 ·rw[if_pos h0] at h;by_cases h1:i<n
  ·rw[if_pos h1] at h;have e:i.toNat=j:=Option.some.inj h;exact#[by rw[seqIndex_of h0 h1,e],by omega,by omega,h1]
  ·rw[if_neg h1] at h;cases h
 ·rw[if_neg h0] at h;by_cases h1:-(n:Int)<=i
  ·rw[if_pos h1] at h;have e:(i+n).toNat=j:=Option.some.inj h;exact#[by rw[seqIndex_neg '!' h1,e],by omega,h1,by omega]
  ·rw[if_neg h1] at h;cases h
theorem G6 {α:Type}{xs:List α}{v:α} (h:vL xs i=some v):∃j,seqIndex? i xs.length=some j/\xs[j]?=some v/\j<xs.length/\-(xs.length:Int)<=i/\i<xs.length:=by
 unfold vL at h;cases e:Kw xs.length i with
 | none=>rw[e] at h;cases h
 | some j =>
  rw[e] at h;obtain⟨h1,h2,h3,h4⟩:=qf e;exact#[j,h1,h,h2,h3,h4]
theorem Je {α:Type}{xs:List α}{v:α} (h:xs[j]?=some v):vL xs (j:Int)=some v:=by
 have hj:j<xs.length:=(yc.mp h).1;have e:Kw xs.length (j:Int)=some j:=by
  unfold Kw;rw[if_pos '!',if_pos '!'];simp
 unfold vL;rw[e];exact h
def pK (b:Expr):Prop:=∀o i,subscripted b false o i=operate [o,i] (getItem o i)
def ow (X:Cx) (r:R2):Prop :=
 ∀(value slice:Expr) (pins:AF) (s:Shared) (σ:St) (H:Hp) (x y:V) (v u:Value) (Q:VK),ji X pins σ H s->jE x v->jE y u->r x y H Q ->
  subscripted slice false v u=operate [v,u] (getItem v u)->wpAny (model X.prog X.w) X.A (subscriptTail value slice v u) (EP X pins σ Q) X.xe s
def rG (X:Cx) (id:String) (r:V->List V->Hp->VK->Prop):Prop :=
 ∀(pins:AF) (s:Shared) (σ:St) (H:Hp) (x:V) (xs:List V) (v:Value) (us:AH) (Q:VK),ji X pins σ H s->jE x v->jz xs us->r x xs H Q ->
  wpAny (model X.prog X.w) X.A (call (.builtin id) (v::us)) (EP X pins σ Q) X.xe s
section
variable {X:Cx}{a b:Expr}{ta tb:TE}{pos:Pos}
theorem jp {r:R2} (hr:ow X r) (ha:PE X a ta) (hb:PE X b tb) (hs:pK b:=by exact λ_ _=>rfl):PE X (.Subscript a b pos) (fU r ta tb):=by
 intro pins s σ H Q I h;exact Subscript_ (ip ha hb I h λv u s2 x y H2 I2 rx ry q=>hr a b pins s2 σ H2 x y v u Q I2 rx ry q (hs _ _))
inductive oX (K:AB) (x:V) (y:V) (H:Hp) (Q:VK):Prop
 | mk (p:_) (xs:_) (i:_) (v:_) (h0:x=.ref p) (h1:y=.int i) (h2:jg K H p xs) (h3:vL xs i=some v) (h4:Q v H):oX K x y H Q
def xG (K:AB):R2:=λx y H Q=>oX K x y H Q
inductive oZ (K:AB) (x:V) (y:V) (H:Hp) (Q:VK):Prop
 | mk (p:_) (xs:_) (i:_) (v:_) (h0:x=.ref p) (h1:y=.int i) (h2:jB K H p xs) (h3:vL xs i=some v) (h4:Q v H):oZ K x y H Q
def sV (K:AB):R2:=λx y H Q=>oZ K x y H Q
inductive oY (x:V) (y:V) (H:Hp) (Q:VK):Prop
 | mk (z:_) (i:_) (c:_) (h0:x=.str z) (h1:y=.int i) (h2:z.length<=sizeLine) (h3:vL z.cps.toList i=some c) (h4:Q (.str ⟨(List.toArray [c])⟩) H):oY x y H Q
def xH:R2:=λx y H Q=>oY x y H Q
theorem jF {K:AB} (hK:X.K=K:=by first|exact Vg|exact rfl):ow X (xG K):=by
 subst hK;intro value slice pins s σ H x y v u Q I rx ry h hs;obtain⟨p,xs,i,z,rfl,rfl,hq,he,q⟩:=h;cases rx;obtain⟨t,rfl⟩:=ry;obtain⟨AV,r,pl,hz⟩:=I.list hq;obtain⟨j,h1,h2,h3,h4,h5⟩:=G6 he;obtain⟨w,ew,Br⟩:=r.get h2;have hl:=r.length;have hn:=V6;have fin:EP X pins σ Q w s:=#[z,H,I,Br,q];by_cases h0:0<=i
 ·have hj:i.toNat=j:=by
   rw[seqIndex_of h0 h5] at h1;exact Option.some.inj h1
  exact item_listR pl.isList h0 '!' (by rw[hj];simpa using ew) fin hs
 ·have hj:(i+(AV.toArray.size:Int)).toNat=j:=by
   rw[seqIndex_neg '!' h4] at h1;rw[yg,<-hl];exact Option.some.inj h1
  exact subscriptTail_builtinR (x:=w) pl.isList.typeIs slot_list_getitem.lookup
   (wpAny_getItem_list_neg (Q:=λr s'=>r=w/\EP X pins σ Q r s') pl.isList '!' (by rw[yg]<;>omega) '!' (by rw[hj];simpa using ew) #[rfl,fin]) hs
theorem jL {K:AB} (hK:X.K=K:=by first|exact Vg|exact rfl):ow X (sV K):=by
 subst hK;intro value slice pins s σ H x y v u Q I rx ry h hs;obtain⟨p,xs,i,z,rfl,rfl,hq,he,q⟩:=h;cases rx;obtain⟨t,rfl⟩:=ry;obtain⟨AV,r,pl,hz⟩:=I.tuple hq;obtain⟨j,h1,h2,h3,h4,h5⟩:=G6 he;obtain⟨w,ew,Br⟩:=r.get h2;have hl:=r.length;have hn:=V6;have fin:EP X pins σ Q w s:=#[z,H,I,Br,q];exact subscriptTail_builtinR (x:=w) pl.typeIs slot_tuple_getitem.lookup
  (getItem_tuple (j:=j) (Q:=λr s'=>r=w/\EP X pins σ Q r s') pl '!' '!' (by rw[yg,<-hl];exact h1) (by simpa using ew) #[rfl,fin]) hs
theorem r9:ow X xH:=by
 intro value slice pins s σ H x y v u Q I rx ry h hs;obtain⟨z,i,c,rfl,rfl,hz,he,q⟩:=h;obtain⟨t,rfl⟩:=rx;obtain⟨t',rfl⟩:=ry;obtain⟨j,h1,h2,h3,h4,h5⟩:=G6 he;have hl:z.cps.toList.length=z.length:=by simp [Str.length]
 rw[hl] at h1 h4 h5;have hn:=V6;exact tail_any (typeIs_str s z t) slot_str_getitem.lookup (getItem_str (c:=c) (by
  have e1:decide (i < -(2^63:Int))=false:=decide_eq_false '!';have e2:decide (i>=2^63)=false:=decide_eq_false '!'
  rw[e1,e2,Bool.or_false]) (by rw[h1];simpa using h2) #[.str #[(List.toArray [c])],H,I.tok _,#[_,rfl],q]) hs
theorem Nb (lo hi:Option Int) (n:Nat):(sliceBounds lo hi none n).1=((HT.sIx n 0 lo:Nat):Int)/\(sliceBounds lo hi none n).2.1=((HT.sIx n n hi:Nat):Int)/\(sliceBounds lo hi none n).2.2=1:=by
 refine#[?_,?_,rfl]
 ·cases lo with
  | none=>simp [sliceBounds,HT.sIx]
  | some i =>
   simp only[sliceBounds,HT.sIx,Option.getD_none,show (1:Int) > 0 by decide,if_true];by_cases h:i<0
   ·simp only[h,if_true]<;>omega
   ·simp only[h,if_false]<;>omega
 ·cases hi with
  | none=>simp [sliceBounds,HT.sIx]
  | some i =>
   simp only[sliceBounds,HT.sIx,Option.getD_none,show (1:Int) > 0 by decide,if_true];by_cases h:i<0
   ·simp only[h,if_true]<;>omega
   ·simp only[h,if_false]<;>omega
theorem mB (AV:AH) (lo hi:Option Int):slicePick AV.toArray lo hi none=((AV.drop (HT.sIx AV.length 0 lo)).take (HT.sIx AV.length AV.length hi - HT.sIx AV.length 0 lo)).toArray:=by
 obtain⟨h1,h2,h3⟩:=Nb lo hi AV.toArray.size;unfold slicePick;rw[h1,h2,h3];simp only[sliceRange_one,pick_run,yg]<;>rfl
inductive o7 (K:AB) (x:V) (lo:Option Int) (hi:Option Int) (H:Hp) (Q:VK):Prop
 | mk (a:_) (xs:_) (h0:x=.ref a) (h1:jg K H a xs) (h2:∀p,H p=none->Q (.ref p) (upd H p (.lst (uY xs lo hi)))):o7 K x lo hi H Q
def xJ (K:AB):V->Option Int->Option Int->Hp->VK->Prop:=λx lo hi H Q=>o7 K x lo hi H Q
theorem ZS {K:AB} (hK:X.K=K:=by first|exact Vg|exact rfl):rH X (xJ K):=by
 subst hK;intro pins s σ H x v vl vu lo hi sl Q I rx hs pl pu h;obtain⟨a,xs,rfl,hx,q⟩:=h;cases rx;obtain⟨AV,r,ht,hz⟩:=I.list hx;have hlen:=r.length;refine#["list",_,slot_list_getitem.lookup,ht.isList.typeIs,?_];refine wpAny_getItem_list_slice ht.isList hs pl pu .none (by simp) ?_ (by rw[yg]<;>omega);rw[mB,<-hlen];refine#[.ref s.heap.objs.size,_,I.laid (t':=s.toks) (o:=.lst (uY xs lo hi)) (λb ob q=>yd _ q) (yh _) ?_,rfl,q _ (I.hok.fresh (yh _))];exact#[yp (Z0 xs lo hi) hz,_,0,(r.drop (HT.sIx xs.length 0 lo)).take (HT.sIx xs.length xs.length hi - HT.sIx xs.length 0 lo),yo _ rfl]
def Vz:V->Bool
 | .non=>true
 | .bl _=>true
 | .int _=>true
 | .str _=>true
 | _=>false
def Z1:V->V->Bool
 | .non,.non=>true
 | .bl a,.bl b=>a==b
 | .bl a,.int b=>(if a then 1 else 0)==b
 | .int a,.bl b=>a==(if b then 1 else 0)
 | .int a,.int b=>a==b
 | .str a,.str b=>a==b
 | _,_=>false
theorem rS (ry:jE y u) (rx:jE x v) (fy:Vz y=true) (fx:Vz x=true):SeqAt.EqAt A s u v (Z1 y x):=by
 cases y with
 | non =>
  cases ry;cases x with
  | non=>cases rx;exact SeqAt.EqAt.same _
  | bl b=>cases rx;exact SeqAt.EqAt.none_bool b
  | int b=>obtain⟨t,rfl⟩:=rx;exact SeqAt.EqAt.none_int b t
  | str b=>obtain⟨t,rfl⟩:=rx;exact SeqAt.EqAt.none_str b t
  | _=>exact absurd (show false=true from fx) yt
 | bl a =>
  cases ry;cases x with
  | non=>cases rx;exact SeqAt.EqAt.bool_none a
  | bl b=>cases rx;exact SeqAt.EqAt.bool_bool a b
  | int b=>obtain⟨t,rfl⟩:=rx;exact SeqAt.EqAt.bool_int a b t
  | str b=>obtain⟨t,rfl⟩:=rx;exact SeqAt.EqAt.bool_str a b t
  | _=>exact absurd (show false=true from fx) yt
 | int a =>
  obtain⟨t',rfl⟩:=ry;cases x with
  | non=>cases rx;exact SeqAt.EqAt.int_none a t'
  | bl b=>cases rx;exact SeqAt.EqAt.int_bool a t' b
  | int b=>obtain⟨t,rfl⟩:=rx;exact SeqAt.EqAt.int_int a t' b t
  | str b=>obtain⟨t,rfl⟩:=rx;exact SeqAt.EqAt.int_str a t' b t
  | _=>exact absurd (show false=true from fx) yt
 | str a =>
  obtain⟨t',rfl⟩:=ry;cases x with
  | non=>cases rx;exact SeqAt.EqAt.str_none a t'
  | bl b=>cases rx;exact SeqAt.EqAt.str_bool a t' b
  | int b=>obtain⟨t,rfl⟩:=rx;exact SeqAt.EqAt.str_int a t' b t
  | str b=>obtain⟨t,rfl⟩:=rx;exact SeqAt.EqAt.str_str a t' b t
  | _=>exact absurd (show false=true from fx) yt
 | _=>exact absurd (show false=true from fy) yt
def Gj (x:V) (u:Value):Bool:=match u with
 | .none=>Z1 .non x
 | .bool b=>Z1 (.bl b) x
 | .int i _=>Z1 (.int i) x
 | .str z _=>Z1 (.str z) x
 | _=>false
theorem df (r:jE y u) (f:Vz y=true):Gj x u=Z1 y x:=by
 cases y with
 | non=>cases r;rfl
 | bl b=>cases r;rfl
 | int i=>obtain⟨t,rfl⟩:=r;rfl
 | str z=>obtain⟨t,rfl⟩:=r;rfl
 | _=>exact absurd (show false=true from f) yt
theorem G5:∀{xs:List V} {us:AH},jz xs us->xs.all Vz=true->us.any (Gj x)=xs.any λy=>Z1 y x
 | _,_,.nil,_=>rfl
 | y::xs,u::us,.cons r t,f=>by
  rw[List.all_cons,QP] at f;rw[List.any_cons,List.any_cons,df r f.1,G5 t f.2]
theorem gC (rx:jE x v) (fx:Vz x=true):∀{xs:List V} {us:AH},jz xs us->xs.all Vz=true->∀u∈us,SeqAt.EqAt A s u v (Gj x u)
 | _,_,.nil,_=>λu hu=>by cases hu
 | y::xs,u::us,.cons r t,f=>λu' hu=>by
  rw[List.all_cons,QP] at f;rcases yr.mp hu with rfl|hu
  ·rw[df r f.1];exact rS r rx f.1 fx
  ·exact gC rx fx t f.2 u' hu
def ar (x:V) (xs:List V):Bool:=xs.any λy=>Z1 y x
inductive sU (K:AB) (neg:Bool) (x:V) (y:V) (H:Hp) (Q:VK):Prop
 | mk (p:_) (xs:_) (h0:y=.ref p) (h1:(jg K H p xs\/jB K H p xs)) (h2:Vz x=true) (h3:xs.all Vz=true) (h4:Q (.bl (if neg then !ar x xs else ar x xs)) H):sU K neg x y H Q
def Ah (K:AB) (neg:Bool):R2:=λx y H Q=>sU K neg x y H Q
theorem eG:uN X (compareOp .In) (Ah X.K false):=by
 intro pins s σ H x y v u Q I rx ry h;obtain⟨p,xs,rfl,hq,fx,fs,q⟩:=h;cases ry;rcases hq with hq|hq
 ·obtain⟨AV,r,pl,hz⟩:=I.list hq;refine SeqAt.in_listAt (Gj x) pl.isList (λw hw=>gC rx fx r fs w (by simpa using hw)) #[.bl _,H,I,rfl,?_];rw[show AV.toArray.any (Gj x)=AV.any (Gj x) by simp,G5 r fs];exact q
 ·obtain⟨AV,r,pl,hz⟩:=I.tuple hq;refine SeqAt.in_tupleAt (Gj x) pl (λw hw=>gC rx fx r fs w (by simpa using hw)) #[.bl _,H,I,rfl,?_];rw[show AV.toArray.any (Gj x)=AV.any (Gj x) by simp,G5 r fs];exact q
theorem jU {K:AB} (hK:X.K=K:=by first|exact Vg|exact rfl):Jf X (.builtin "len") (λxs H Q=>E2 λp ys=>A3 (xs=[.ref p]) (jg K H p ys\/jB K H p ys) (Q (.int ys.length) H)):=by
 subst hK;intro pins s σ H xs us Q I r h;obtain⟨p,ys,rfl,hq,q⟩:=h;obtain⟨u,rfl,rx⟩:=J1 r;cases rx;have hn:=V6;rcases hq with hq|hq
 ·obtain⟨AV,r',pl,hz⟩:=I.list hq;have hlen:=r'.length;exact Calls.call_len_list pl.isList (by simp only[yg]<;>omega) #[.int ys.length,H,I.tok _,#[s.toks+1,by rw[yg,hlen]],q]
 ·obtain⟨AV,r',pl,hz⟩:=I.tuple hq;have hlen:=r'.length;exact len_tuple pl (by simp only[yg]<;>omega) #[.int ys.length,H,I.tok _,#[s.toks+1,by rw[yg,hlen]],q]
theorem Mg:Jf X (.builtin "len") (λxs H Q=>∃z,A3 (xs=[.str z]) (z.length<=sizeLine) (Q (.int z.length) H)):=by
 intro pins s σ H xs us Q I r h;obtain⟨z,rfl,hz,q⟩:=h;obtain⟨u,rfl,t,rfl⟩:=J1 r;have hn:=V6;exact len_str '!' #[.int z.length,H,I.tok _,#[_,rfl],q]
theorem Vd:Jf X (.type "list") (λxs H Q=>E2 λp ys=>A3 (xs=[.ref p]) (jg X.K H p ys\/jB X.K H p ys) (∀l,H l=none->Q (.ref l) (upd H l (.lst ys)))):=by
 intro pins s σ H xs us Q I r h;obtain⟨p,ys,rfl,hq,q⟩:=h;obtain⟨u,rfl,rx⟩:=J1 r;cases rx;have fin:∀(AV:AH),jz ys AV->ys.length<=sizeLine->∀(h':Heap) (c':Nat),(∀b o',s.heap.get? b=some o'->h'.get? b=some o') ->
   h'.get? s.heap.objs.size=some { cls:=.type "list",dict:=none,data:=.seq AV.toArray c',slots:=(List.toArray []) }->EP X pins σ Q (.ref s.heap.objs.size) { s with heap:=h' }:=λAV r' hz h' c' kp e =>
  #[.ref s.heap.objs.size,_,I.laid (t':=s.toks) kp (yh _) (show jP X.prog X.w _ h' _ (.lst ys) from#[hz,AV,c',r',e]),rfl,q _ (I.hok.fresh (yh _))]
 rcases hq with hq|hq
 ·obtain⟨AV,r',pl,hz⟩:=I.list hq;have hlen:=r'.length;obtain⟨o,ho,hc,n,hd⟩:=pl.isList;exact call_list_seq p (.inl rfl) ho hc hd (λh' c' kp e=>fin AV r' hz h' c' kp e) (by simp only[yg]<;>omega)
 ·obtain⟨AV,r',pl,hz⟩:=I.tuple hq;have hlen:=r'.length;obtain⟨o,ho,hc,n,hd⟩:=pl;exact call_list_seq p (.inr rfl) ho hc hd (λh' c' kp e=>fin AV r' hz h' c' kp e) (by simp only[yg]<;>omega)
theorem zR:Jf X (.type "tuple") (λxs H Q=>E2 λp ys=>xs=[.ref p]/\((jg X.K H p ys/\∀l,H l=none->Q (.ref l) (upd H l (.tup ys)))\/(jB X.K H p ys/\Q (.ref p) H))):=by
 intro pins s σ H xs us Q I r h;obtain⟨p,ys,rfl,h⟩:=h;obtain⟨u,rfl,rx⟩:=J1 r;cases rx;rcases h with ⟨hq,q⟩|⟨hq,q⟩
 ·obtain⟨AV,r',pl,hz⟩:=I.list hq;have hlen:=r'.length;refine call_tuple_list pl.isList (λh' kp=>?_) (by simp only[yg]<;>omega);have I1:ji X pins σ H { s with heap:=h' }:=I.kept (t':=s.toks) kp;have I2:ji X pins σ (upd H h'.objs.size (.tup ys)) { s with heap:=h'.push { cls:=.type "tuple",data:=.seq AV.toArray } } :=
   I1.laid (t':=s.toks) (λb o e=>yd _ e) (yh _) (show jP X.prog X.w _ _ _ (.tup ys) from#[hz,AV,r',IsTup.new _ _])
  exact#[.ref h'.objs.size,_,I2,rfl,q _ (I1.hok.fresh (yh _))]
 ·obtain⟨AV,r',pl,hz⟩:=I.tuple hq;exact call_tuple_same pl #[.ref p,H,I,rfl,q]
def tY (K:AB) (T:String) (x:V) (H:Hp):Prop:=match x with
 | .str _=>T="str"
 | .int _=>T="int"
 | .ref p=>(T="list"/\∃xs,jg K H p xs)\/(T="tuple"/\∃o,K.lookup p=some o/\o.cls=.type "tuple"/\o.dict=none) \/
   (T="dict"/\((∃kvs,H p=some (.dK kvs))\/∃kvs,H p=some (.dT kvs)))\/(T="set"/\∃S n,H p=some (.set S n))
 | _=>False
theorem hG {pins:AF}{σ:St}{H:Hp}{T:String} (I:ji X pins σ H s) (r:jE x v) (ty:tY X.K T x H) :
  s.TypeIs v T/\∀a,v=.ref a->∃ob,s.heap.get? a=some ob/\ob.dict=none:=by
 cases x with
 | str z =>
  obtain⟨t,rfl⟩:=r;cases (show T="str" from ty);exact#[typeIs_str s z t,λ_ e=>nomatch e]
 | int i =>
  obtain⟨t,rfl⟩:=r;cases (show T="int" from ty);exact#[typeIs_int s i t,λ_ e=>nomatch e]
 | ref p =>
  cases r;rcases ty with ⟨rfl,xs,hq⟩|⟨rfl,o,hk,hc,hd⟩|⟨rfl,hk⟩|⟨rfl,S,n,hk⟩
  ·obtain⟨AV,_,pl,_⟩:=I.list hq;refine#[pl.isList.typeIs,λa e=>?_];cases e;obtain⟨o,n,e,c,hd,_⟩:=pl;exact#[o,e,hd]
  ·refine#[#[o,I.kIn p o hk,hc],λa e=>?_];cases e;exact#[o,I.kIn _ o hk,hd]
  ·have z:∃o,s.heap.get? p=some o/\o.ExactDict:=by
    rcases hk with ⟨kvs,hk⟩|⟨kvs,hk⟩
    ·obtain⟨_,_,_,_,o,_,_,e,ex,_⟩:=I.hok p _ hk;exact#[o,e,ex]
    ·obtain⟨_,_,_,_,o,_,_,e,ex,_⟩:=I.hok p _ hk;exact#[o,e,ex]
   obtain⟨o,e,ex⟩:=z;refine#[#[o,e,ex.1],λa e2=>?_];cases e2;exact#[o,e,ex.2.1]
  ·obtain⟨o,_,_,_,e,ex,_⟩:=I.hok p _ hk;refine#[#[o,e,ex.1],λa e2=>?_];cases e2;exact#[o,e,ex.2.1]
 | _=>exact False.elim ty
inductive ph (K:AB) (T:String) (r:V->List V->Hp->VK->Prop) (Q:VK) (x:V) (H1:Hp):Prop
 | mk  (h0:tY K T x H1) (h1:r x [] H1 Q):ph K T r Q x H1
def xO (K:AB) (T:String) (r:V->List V->Hp->VK->Prop) (to:TE):TE:=λσ H Q=>to σ H λx H1=>ph K T r Q x H1
inductive tM (K:AB) (T:String) (r:V->List V->Hp->VK->Prop) (t:TA) (σ:St) (Q:VK) (x:V) (H1:Hp):Prop
 | mk  (h0:tY K T x H1) (h1:t σ H1 λxs H2=>r x xs H2 Q):tM K T r t σ Q x H1
def Al (K:AB) (T:String) (r:V->List V->Hp->VK->Prop) (to:TE) (t:TA):TE:=λσ H Q=>to σ H λx H1=>tM K T r t σ Q x H1
variable {o e:Expr}{es:AO}{to:TE}{t:TA}{name:Str}{apos BD:Pos}{T id:String}{r:V->List V->Hp->VK->Prop}
theorem eT {K:AB} (pa:PlainAttrs T) (slot:Slot T name id) (Ic:typeOf (.builtin id)=pure (.type "method_descriptor")) (hm:rG X id r) (ho:PE X o to)
  (Cw:attributeBase o name X.env (eval o X.env)=eval o X.env:=by rfl) (BA:(apos.endLine==BD.line)=true:=by rfl) (hK:X.K=K:=by first|exact Vg|exact rfl):PE X (.Call (.Attribute o name apos) [] [] BD) (xO K T r to):=by
 subst hK;intro pins s σ H Q I h;refine wpAny_Call_method0_late Cw BA (jA (ho pins s σ H _ I h) λv s1 hh=>?_);obtain⟨x,H1,I1,r1,ty,q1⟩:=hh;obtain⟨h1,h2⟩:=hG I1 r1 ty;exact#[T,id,pa,slot,Ic,h1,h2,Calls.callWith_builtin rfl (PySem.evalArgs_none (hm pins s1 σ H1 x [] v [] Q I1 r1 .nil q1))]
theorem Jm {K:AB} (pa:PlainAttrs T) (slot:Slot T name id) (Ic:typeOf (.builtin id)=pure (.type "method_descriptor")) (hm:rG X id r) (ho:PE X o to) (ha:PA X (e::es) t)
  (Cw:attributeBase o name X.env (eval o X.env)=eval o X.env:=by rfl)
  (Ie:((backTo BD (starEach (e::es) X.env)).all (λx=>!x.1)&&(backToKw BD (keywordEach [] X.env)).all (λx=>x.1.isSome)
   && decide ((e::es).length+([]:List Keyword).length+(if ([]:List Keyword).isEmpty then 0 else 1)<30))=true:=by rfl)
  (BA:(apos.endLine==BD.line)=true:=by rfl) (hs:starEach (e::es) X.env=(false,eval e X.env)::starEach es X.env:=by rfl) (Ei:(backTo BD (starEach es X.env)).any (·.1)=false:=by rfl) (hK:X.K=K:=by first|exact Vg|exact rfl) :
  PE X (.Call (.Attribute o name apos) (e::es) [] BD) (Al K T r to t):=by
 subst hK;intro pins s σ H Q I h;refine wpAny_Call_method_late Cw Ie BA rfl (jA (ho pins s σ H _ I h) λv s1 hh=>?_);obtain⟨x,H1,I1,r1,ty,q1⟩:=hh;obtain⟨h1,h2⟩:=hG I1 r1 ty;refine#[T,id,pa,slot,Ic,h1,h2,?_];have hA:=ha BD pins s1 σ H1 _ I1 q1;rw[hs] at hA ⊢;refine Calls.callWith_builtin (by show (false||(backTo BD (starEach es X.env)).any (·.1))=false;rw[Ei]<;>rfl) (Calls.evalArgs_plain ?_);exact jA hA λus s2 #[vs,H2,I2,r2,q2]=>hm pins s2 σ H2 x vs v us Q I2 r1 r2 q2
end
def Mb (X:Cx) (id:String) (r:V->List V->Hp->VK->Prop):Prop :=
 ∀(pins:AF) (s:Shared) (σ:St) (H:Hp) (x:V) (xs:List V) (v:Value) (us:AH) (Q:VK),ji X pins σ H s->jE x v->jz xs us->r x xs H Q ->
  wpAny (model X.prog X.w) X.A (call (.builtin id) (v::us)) (EP X pins σ Q) X.xe s
theorem jz.one:∀{x:V} {us:AH},jz [x] us->∃u,us=[u]/\jE x u
 | _,_,.cons r .nil=>#[_,rfl,r]
theorem jz.zero:∀{us:AH},jz [] us->us=[]
 | _,.nil=>rfl
theorem jz.dropLast (h:jz xs us):jz xs.dropLast us.dropLast:=by
 induction h with
 | nil=>exact .nil
 | cons r t ih =>
  cases t with
  | nil=>exact .nil
  | cons q t'=>exact .cons r ih
theorem bH {α:Type} (l:List α):l.eraseIdx (l.length - 1)=l.dropLast:=by
 induction l with
 | nil=>rfl
 | cons a r ih =>
  cases r with
  | nil=>rfl
  | cons b r =>
   have e:(a::b::r).length - 1=((b::r).length - 1)+1:=by
    have h1:(a::b::r).length=r.length+2:=rfl;have h2:(b::r).length=r.length+1:=rfl;omega
   rw[e,List.eraseIdx_cons_succ,ih]
   all_goals rfl
section
variable {X:Cx}{pins:AF}{σ:St}{H:Hp}{s:Shared}{l b:Addr}{xs ys zs:List V}
theorem ji.lset {its':AH}{f:Array Value->Array Value} (I:ji X pins σ H s) (hH:H l=some (.lst xs))
  (e:s.heap.get? l=some { cls:=.type "list",data:=.seq AV.toArray n }) (hf:f AV.toArray=its'.toArray) (hv:jz ys its') (hz:ys.length<=sizeLine) :
  ji X pins σ (upd H l (.lst ys)) { s with heap:=s.heap.update l (Obj.mapSeq f),toks:=t' }:=by
 have q:=PySem.IsL.update e f;rw[hf] at q;refine I.write (x:=l) (e:=l) (by rw[hH];exact trivial) (.inl rfl) (λb' u hb hu=>(yM s.heap (Obj.mapSeq f) (yZ hb)).trans hu) #[_,q] ?_;exact#[hz,its',_,hv,q]
theorem ji.lnew (I:ji X pins σ H s) (hv:jz ys AV) (hz:ys.length<=sizeLine) :
  ji X pins σ (upd H s.heap.objs.size (.lst ys)) { s with heap:=s.heap.push { cls:=.type "list",data:=.seq AV.toArray },toks:=t' } :=
 I.laid (λ_ _ q=>yd _ q) (yh _) #[hz,AV,0,hv,yo _ rfl]
theorem ji.fresh (I:ji X pins σ H s):H s.heap.objs.size=none:=I.hok.fresh (yh _)
theorem ji.lstM (I:ji X pins σ H s) (hH:H l=some (.lst xs)):xs.length<=sizeLine/\∃(AV:AH) (n:Nat),jz xs AV/\xs.length=AV.length/\s.heap.get? l=some { cls:=.type "list",data:=.seq AV.toArray n }:=by
 obtain⟨z,AV,n,r,e⟩:=I.hok l _ hH;exact#[z,AV,n,r,r.length,e]
theorem i5 (h:n<=sizeLine):Builtin.List.listTooLong n=false:=by
 unfold Builtin.List.listTooLong;exact decide_eq_false '!'
end
section
variable {X:Cx}
inductive nZ (x:V) (vs:List V) (H:Hp) (Q:VK):Prop
 | mk (l:_) (xs:_) (y:_) (h0:x=.ref l) (h1:vs=[y]) (h2:H l=some (.lst xs)) (h3:xs.length<sizeLine) (h4:Q .non (upd H l (.lst (xs++[y])))):nZ x vs H Q
def qJ:V->List V->Hp->VK->Prop:=λx vs H Q=>nZ x vs H Q
theorem j3:Mb X "list.append" qJ:=by
 intro pins s σ H x vs v us Q I rx rv h;obtain⟨l,xs,y,rfl,rfl,hH,hz,q⟩:=h;cases rx;obtain⟨u,rfl,ru⟩:=rv.one;obtain⟨z,AV,n,r,hl,e⟩:=I.lstM hH;refine call_meets F.slot_list_append #[_,e,rfl] F.entry_list_append (F.args_list_append_2 _ _) (PySem.list_append l AV.toArray n u (by rw[yg];omega)) #[e,?_];refine#[.non,_,I.lset (its':=AV++[u]) hH e (by simp) (r.append (.cons ru .nil)) ?_,rfl,q];rw[yj,List.length_singleton];omega
def qK:V->List V->Hp->VK->Prop:=λx vs H Q=>∃l b xs zs,x=.ref l/\vs=[.ref b]/\H l=some (.lst xs)/\H b=some (.lst zs)/\xs.length+zs.length<=sizeLine/\Q .non (upd H l (.lst (xs++zs)))
theorem dX:Mb X "list.extend" qK:=by
 intro pins s σ H x vs v us Q I rx rv h;obtain⟨l,b,xs,zs,rfl,rfl,hH,hB,hz,q⟩:=h;cases rx;obtain⟨u,rfl,ru⟩:=rv.one;cases ru;obtain⟨z,AV,n,r,hl,e⟩:=I.lstM hH;obtain⟨z2,A0,n2,r2,hl2,e2⟩:=I.lstM hB;have hsz:AV.toArray.size+A0.toArray.size<=sizeLine:=by rw[yg,yg];omega
 have Fo:¬(!AV.toArray.isEmpty&&Builtin.List.listTooLong (AV.toArray.size+A0.toArray.size))=true:=by
  rw[i5 hsz,Bool.and_false];exact yt
 refine call_meets F.slot_list_extend #[_,e,rfl] F.entry_list_extend (F.args_list_extend_2 _ _)
  (AutoSeq1.list_extend_list_list_0 l AV.toArray n b A0.toArray n2 Fo (by rw[yg];omega) '!') #[e,e2,?_]
 refine#[.non,_,I.lset (its':=AV++A0) hH e (by simp) (r.append r2) ?_,rfl,q];rw[yj];omega
def xI:V->List V->Hp->VK->Prop:=λx vs H Q=>∃l xs y,x=.ref l/\vs=[]/\H l=some (.lst xs)/\xs[xs.length - 1]?=some y/\Q y (upd H l (.lst xs.dropLast))
theorem Af:Mb X "list.pop" xI:=by
 intro pins s σ H x vs v us Q I rx rv h;obtain⟨l,xs,y,rfl,rfl,hH,hy,q⟩:=h;cases rx;have Ig:=rv.zero;subst Ig;obtain⟨z,AV,n,r,hl,e⟩:=I.lstM hH;obtain⟨u,hu,ru⟩:=r.get hy;have DO:AV.toArray[AV.toArray.size - 1]?=some u:=by
  show AV.toArray[AV.length - 1]?=some u;rw[<-yN,<-hl];exact hu
 refine call_meets F.slot_list_pop #[_,e,rfl] F.entry_list_pop (F.args_list_pop_1 _) (MeetsSeq.list_pop_last l AV.toArray n u DO (by rw[yg];omega)) #[e,?_];refine#[y,_,I.lset (its':=AV.dropLast) hH e ?_ r.dropLast ?_,ru,q]
 ·show AV.toArray.eraseIdxIfInBounds (AV.toArray.size - 1)=AV.dropLast.toArray;rw[yg,List.eraseIdxIfInBounds_toArray,bH]
 ·rw[List.length_dropLast];omega
def sR:V->List V->Hp->VK->Prop:=λx vs H Q=>∃l xs,x=.ref l/\vs=[]/\H l=some (.lst xs)/\Q .non (upd H l (.lst []))
theorem iY:Mb X "list.clear" sR:=by
 intro pins s σ H x vs v us Q I rx rv h;obtain⟨l,xs,rfl,rfl,hH,q⟩:=h;cases rx;have Ig:=rv.zero;subst Ig;obtain⟨z,AV,n,r,hl,e⟩:=I.lstM hH;refine call_meets F.slot_list_clear #[_,e,rfl] F.entry_list_clear (F.args_list_clear_1 _) (AutoSeq1.list_clear_list_0 l AV.toArray n (by rw[yg];omega)) #[e,?_];exact#[.non,_,I.lset (its':=[]) (ys:=[]) hH e rfl .nil (yT _),rfl,q]
inductive oW (x:V) (y:V) (H:Hp) (Q:VK):Prop
 | mk (l:_) (b:_) (xs:_) (zs:_) (h0:x=.ref l) (h1:y=.ref b) (h2:H l=some (.lst xs)) (h3:H b=some (.lst zs)) (h4:xs.length+zs.length<=sizeLine) (h5:∀p,H p=none->Q (.ref p) (upd H p (.lst (xs++zs)))):oW x y H Q
def xF:R2:=λx y H Q=>oW x y H Q
theorem vc:uN X (binaryOp .Add) xF:=by
 intro pins s σ H x y v u Q I rx ry h;obtain⟨l,b,xs,zs,rfl,rfl,hH,hB,hz,q⟩:=h;cases rx;cases ry;obtain⟨z,AV,n,r,hl,e⟩:=I.lstM hH;obtain⟨z2,A0,n2,r2,hl2,e2⟩:=I.lstM hB;refine PySem.P.add_list e e2 ?_ (by rw[yg,yg];omega);have ea:AV.toArray++A0.toArray=(AV++A0).toArray:=by simp
 rw[ea];exact#[.ref _,_,I.lnew (t':=s.toks) (r.append r2) (by rw[yj];omega),rfl,q _ I.fresh]
end
end L2
namespace Att
open PySem PySem.W PySem.Calls PyProof.Rows
variable {P:Params}{h:Heap}{l:OpenLaw}{n:Nat}
theorem Gp:∀(ns:List Int) (vs:AH),WellAll P h vs (ns.map WData.int)->IntsAre vs ns:=by
 intro ns
 induction ns with
 | nil =>
  intro vs w;rw[List.map_nil] at w;cases w;exact .nil
 | cons n ns ih =>
  intro vs w;rw[yH] at w;cases w with
  | cons a b =>
   cases a;exact .cons _ _ (ih _ b)
theorem fE (hn:l.most=some n) {args:List WData} {vals:AH}
  (Dv:l.row.toRowW.claim.pre args=true) (hwl:WellAll P h vals args) :
  ∃a vs ns,vals=[Value.ref a]/\args=[WData.list (ns.map WData.int)]/\h.get? a=some { cls:=.type "list",data:=.seq vs.toArray }/\IntsAre vs ns/\ns.length<=n:=by
 have DP:WShape.hasAll [] args [.list .int]=true:=(pre_splitW Dv).1;have hc:l.pre.holds [] { args:=args }=true:=(pre_splitW Dv).2;obtain⟨d,r,rfl,h1,h2⟩:=hasAllW_cons DP;obtain rfl:=hasAllW_nil h2;obtain⟨xs,rfl,h3⟩:=hasW_list h1;obtain⟨ns,rfl⟩:=items_int h3;have hlen:ns.length<=n:=by
  unfold OpenLaw.pre at hc;have h4:(WTm.not (.lt (.lit (.int (n:Int))) (.len (.arg 0)))).holds [] { args:=[.list (ns.map .int)] }=true:=by
   have h4:=(holds_andW hc).1;rw[hn] at h4;exact h4
  have h5:=condW_of h4 (w_not (w_lt w_lit (w_len_list (w_arg rfl))));rw[ya] at h5;refine Nat.le_of_not_lt λq=>?_;have q':(n:Int)<((ns.length:Nat):Int):=by omega
  first
   | (rw[decide_eq_true q'] at h5;exact absurd h5 (by decide))
   | (simp at h5;omega)
 cases hwl with
 | cons w1 w2 =>
  cases w2;cases w1 with
  | list ho Bd=>exact⟨_,_,ns,rfl,rfl,ho,Gp ns _ Bd,hlen⟩
theorem fg (l:OpenLaw) (args:List WData):l.row.toRowW.claim.post args (.bool true) args=true :=
 postW_of (r:=l.row.toRowW) (X:=(true==true))
  (show WShape.has [] (.bool true) .bool=true by first|rfl|decide|simp [WShape.has,WShape.arms,WShape.armsAll])
  (show (WTm.eq .res (.lit (.bool true))).value [] { args:=args,res:=some (.bool true),after:=args }=some (.bool (true==true)) from w_eq_bool (w_res rfl) w_lit) rfl
theorem attach_call {q:AS}{loose:AM}{XP:(Str->Option Value)->Heap->Prop}{YP:World->Heap->Prop}{d:DefRec}
  (hn:l.most=some n) (Fp:d.params.defaults=[])
  (call:∀(w:World) (s₀ s₁:Shared) (mg mb:AE) (fa:Addr) (o:Obj) (pm cd doc:Value) (a:Addr) (vs:AH) (ns:List Int),
   Ground q loose [] XP w s₀ mg mb s₁.heap->YP w s₁.heap ->
   s₁.heap.get? fa=some o->o.data=.func (docDef d.name d.params d.body d.scope pm cd doc)->s₁.heap.CodeRec cd d.name->mg d.name=some (.ref fa) ->
   s₁.heap.get? a=some { cls:=.type "list",data:=.seq vs.toArray }->IntsAre vs ns->ns.length<=n->s₁.gens=(List.toArray []) ->
   codeAny (model l.prog w) callerA (.call (.ref fa) #[[.ref a],[]]) (λr s'=>r=.ok (.ret (.bool true))/\OldK s₁.heap s'.heap/\s'.os=s₁.os/\AllBare s'.gens) s₁) :
  WalkO q loose XP YP l.row.toRowW d [] (λf vs=>PySem.call f vs):=by
 intro w s₀ s₁ mg mb G Y fa o pm cd doc dV kV ho hd C8 hD Ih hg args vals as Dv hlay hrd hwl Ii;obtain rfl:dV=.none:=Dflts.none hD Fp;obtain rfl:kV=.none:=Dflts.noKw hD;obtain⟨a,vs,ns,rfl,rfl,Cy,hints,hlen⟩:=fE hn Dv hwl;refine enter_call (codeAny_mono (call w s₀ s₁ mg mb fa o pm cd doc a vs ns G Y ho (fd_plain hd) C8 Ih Cy hints hlen hg) λr s' hq=>?_);obtain⟨rfl,h2,h3,h4⟩:=hq;exact#[.inl #[.bool true,.bool true,[],rfl,λ_=>rfl,.bool true,fg l _,λ_=>#[List.Pairwise.nil,λ_ hm=>(nomatch hm)]],h2,h3,h4]
end Att
namespace L2
open PySem PySem.Spec PyProof.Rows
variable {P:AS}{w:World}{a C:Addr}{x:Str}{h h':Heap}{A B:Prop}{pos:Pos}{H H1 H2 H':Hp}{xs:List V}{ch:AI}{σ:St}{s:Shared}{env:Env}{X:Cx}{pl:Sem Bool}{g:TG}
theorem VL:∀{vs:AH} {ns:List Int},IntsAre vs ns->jz (ns.map V.int) vs
 | _,_,.nil=>.nil
 | _,_,.cons n t h=>.cons #[t,rfl] (VL h)
def ik (H:Hp):Prop:=∀b,H b=none\/∃o xs,H b=some (.frz o (.lst xs))
theorem iU {K:AB}{mg mb:AE}{CX:gU}{k:Nat}{fa:Addr}{fd:FuncData}{sp:Sp}{s₁:Shared}{vs:AH}{ns:List Int}
  (KX:K.In s₁.heap) (Ck:s₁.heap.Ns mainGlobals mg) (hb:s₁.heap.Ns builtinsNs mb) (Rh:∀x:Str,x≠"__name__"->mb x=bootBuiltins x) (Ij:s₁.heap.NoLimit) (hg:s₁.gens=(List.toArray []))
  (ha:s₁.heap.get? a=some { cls:=.type "list",data:=.seq vs.toArray }) (hi:IntsAre vs ns) (hl:ns.length<=sizeLine) (hr:zo k callerA)
  (F:∀base:Heap,K.In base->base.Ns mainGlobals mg->UD P w K mg base CX k fa fd [x] sp) (Fq:∀(s:Shared) (u:Value),BindsTo s fd #[[u],[]] [(x,u)])
  (BG:∀H:Hp,ik H->jg K H a (ns.map V.int)->sp [.ref a] H (λv _=>v=.bl true) λ_ _ _=>False)
  (Ik:∀H e s',CX [] H s₁ (λ_ _ _=>False) e s'->False) :
  codeAny (model P w) callerA (.call (.ref fa) #[[.ref a],[]]) (λr s'=>r=.ok (.ret (.bool true))/\OldK s₁.heap s'.heap/\s'.os=s₁.os/\AllBare s'.gens) s₁:=by
 have rv:=VL hi;have Il:=hi.length;have core:∀H:Hp,ik H->jg K H a (ns.map V.int)->Js P w H s₁.heap->(∀b,H b≠none->b=a)->(H a≠none->K.lookup a=none) ->
   codeAny (model P w) callerA (.call (.ref fa) #[[.ref a],[]]) (λr s'=>r=.ok (.ret (.bool true))/\OldK s₁.heap s'.heap/\s'.os=s₁.os/\AllBare s'.gens) s₁:=by
  intro H hO hS hok hA hK;have B6:∀{b:Addr} {o:Obj},s₁.heap.get? b=some o->H b=none->(zw s₁.heap H).get? b=some o:=λe n=>iL e n;have Fh:∀{b:Addr} {o:Obj} {es:Array DictEntry} {ep:Nat},s₁.heap.get? b=some o->o.data=.dict es ep->H b=none:=λ{b o es ep} e d=>by
   cases q:H b with
   | none=>rfl
   | some u =>
    have e':b=a:=hA b (by rw[q];simp);subst e';rw[ha] at e;cases e;have d':Data.seq vs.toArray _=Data.dict es ep:=d;cases d'
  have He:∀{b:Addr} {m:AE},s₁.heap.Ns b m->(zw s₁.heap H).Ns b m:=λ{b m} ⟨o,es,ep,e,d,r⟩=>#[o,es,ep,B6 e (Fh e d),d,r];have Ox:K.In (zw s₁.heap H):=λb o e=>B6 (KX b o e) (by
   cases q:H b with
   | none=>rfl
   | some u =>
    have e':b=a:=hA b (by rw[q];simp);subst e'
    rw[hK (by rw[q];simp)] at e;cases e)
  have hM:Mod K mg (zw s₁.heap H):=#[Ox,He Ck,#[mb,He hb,Rh],let ⟨mc,h1,h2⟩:=Ij;#[mc,He h1,h2]];have e0:gf P w K mg (zw s₁.heap H) callerA [] s₁ H:=#[rfl,hM,λb o e=>qr e,Nat.le_of_eq (dw _ _),trivial,λb hb=>absurd (show b∈([]:AI) from hb) (by simp),hok,.of_eq hg,.inl rfl];refine codeAny_mono ((F _ Ox (He Ck)).run callerA [] s₁ H #[[.ref a],[]] [.ref a] [.ref a] _ _ hr e0 (Fq s₁ (.ref a)) (.cons rfl .nil) (BG H hO hS)) λr s' h=>?_;cases r with
  | error e=>exact (Ik H e s' h).elim
  | ok fl =>
   cases fl with
   | next=>exact False.elim h
   | brk=>exact False.elim h
   | cont=>exact False.elim h
   | ret u =>
    obtain⟨v,H',os,bare,un,Im,r',q⟩:=h;have q':v=.bl true:=q;subst q';obtain rfl:u=Value.bool true:=r';refine#[rfl,OldK.of_keep λb o e=>?_,os,bare];cases q:H b with
    | none=>exact un.keep b o e q (by intro z;exact absurd (show b∈([]:AI) from z) (by simp)) (by simp)
    | some u =>
     rcases hO b with z|⟨ob,xs,z⟩
     ·rw[q] at z;cases z
     ·have z2:=un.frzs b ob _ z;obtain⟨e1,_⟩:=hok b _ z;obtain⟨e2,_⟩:=Im b _ z2;rw[e] at e1;cases e1;exact e2
 cases hk:K.lookup a with
 | some o =>
  have e:=KX a o hk;rw[ha] at e;cases e;refine core (λ_=>none) (λ_=>.inl rfl) (.inr #[_,vs.toArray,_,hk,rfl,rfl,rfl,by rw[yg,Il];exact hl,by simpa using rv]) (λb u z=>by have z':(none:Option HO)=some u:=z;cases z') (λb z=>absurd rfl z) λz=>absurd rfl z
 | none =>
  refine core (λb=>if b=a then some (.frz { cls:=.type "list",data:=.seq vs.toArray } (.lst (ns.map V.int))) else none) (λb=>?_) (.inl (.inr #[{ cls:=.type "list",data:=.seq vs.toArray },if_pos rfl])) (λb u z=>?_) (λb z=>?_) λ_=>hk
  ·by_cases hb:b=a
   ·exact .inr #[_,_,if_pos hb]
   ·exact .inl (if_neg hb)
  ·by_cases hb:b=a
   ·have z':=(if_pos hb).symm.trans z;cases z';subst hb;exact#[ha,by rw[ya];exact hl,vs,_,rv,ha]
   ·have z':=(if_neg hb).symm.trans z;cases z'
  ·by_cases hb:b=a
   ·exact hb
   ·exact absurd (if_neg hb) z
abbrev KOf {K:AB} (_:K.In h):Frag:=K
theorem walk_of {l:PySem.W.OpenLaw}{n k:Nat}{q:AS}{loose:AM}{XP:(Str->Option Value)->Heap->Prop}{YP:World->Heap->Prop}{d:DefRec}{K:Params->Frag}{CX:World->gU}{sp:World->Sp}
  (hn:l.most=some n) (EL:n<=sizeLine) (Fp:d.params.defaults=[]) (hr:zo k callerA)
  (hY:∀(w:World) (h:Heap),YP w h->(K w.params).In h)
  (F:∀(w:World) (mg:AE) (fa:Addr) (h:Heap),(K w.params).In h->h.Ns mainGlobals mg->mg d.name=some (.ref fa) ->
   ∃fd:FuncData,(∀(s:Shared) (u:Value),BindsTo s fd #[[u],[]] [(x,u)]) /\
    ∀base:Heap,(K w.params).In base->base.Ns mainGlobals mg->UD l.prog w (K w.params) mg base (CX w) k fa fd [x] (sp w))
  (BG:∀(w:World) (H:Hp) (a:Addr) (ns:List Int),ns.length<=n->ik H->jg (K w.params) H a (ns.map V.int)->sp w [.ref a] H (λv _=>v=.bl true) λ_ _ _=>False)
  (Ik:∀(w:World) (H:Hp) (s:Shared) (e:Value) (s':Shared),CX w [] H s (λ_ _ _=>False) e s'->False) :
  PySem.W.WalkO q loose XP YP l.row.toRowW d [] (λf vs=>PySem.call f vs):=by
 refine Att.attach_call hn Fp λw s₀ s₁ mg mb fa o pm cd doc a vs ns G Y ho hd C8 Ih Cy hints hlen hg=>?_;have KX:=hY w _ Y;obtain⟨fd,hb,hF⟩:=F w mg fa _ KX G.T.g Ih;exact iU KX G.T.g G.T.b G.T.builtins G.T.nolimit hg Cy hints (yp hlen EL) hr hF hb (λH hO hS=>BG w H a ns hlen hO hS) λH e s'=>Ik w H s₁ e s'
def vT (s:Stmt) (j:Nat):Stmt:=match s with
 | .ClassDef _ _ _ body _ _ _ _ _ _ _=>body.getD j (.Pass #[0,0,0,0])
 | _=>.Pass #[0,0,0,0]
def V2 (s:Stmt):Arguments:=match s with
 | .FunctionDef _ a _ _ _ _ _ _ _ _=>a
 | _=>{ posonlyargs:=[],args:=[],vararg:=none,kwonlyargs:=[],kw_defaults:=[],kwarg:=none,defaults:=[] }
def vh (s:Stmt):List Stmt:=match s with
 | .FunctionDef _ _ b _ _ _ _ _ _ _=>b
 | _=>[]
def JO (s:Stmt):Scope:=match s with
 | .FunctionDef _ _ _ _ _ _ sc _ _ _=>sc
 | _=>{ kind:=.function,names:=[],isGenerator:=false,isCoroutine:=false }
theorem mJ {A:Around}{k:Nat} (hr:zo k A):A.units+1<cLine:=yK (Nat.add_le_add_left (by decide:1<=64) _) hr.units
section
variable {X:Cx}
theorem pv (i:Nat) {pos:Pos} (hN:X.N[i]?=some x:=by rfl) (hv:rM X.env.scope x:=by first|exact Or.inl rfl|exact Or.inr (Or.inl rfl)|exact Or.inr (Or.inr rfl)) (hd:(x==("__debug__":Str))=false:=by decide)
  (C8:(x==("__classdict__":Str))=false:=by decide):PE X (.Name x pos) (Nk i):=sK hN hv hd C8
end
theorem UE (h:B):if false=true then A else B:=by
 rw[if_neg yt];exact h
theorem JI (h:A):if true=true then A else B:=by
 rw[if_pos rfl];exact h
theorem vx {c:Prop} [Decidable c] (hc:c) (h:B):if (!decide c)=true then A else B:=by
 rw[decide_eq_true hc];exact UE h
def Same (H H':Hp):Prop:=∀b o,H b=some o->H' b=some o
theorem Same.refl (H:Hp):Same H H:=λ_ _ h=>h
theorem Same.trans (a:Same H H1) (b:Same H1 H2):Same H H2:=λc o h=>b c o (a c o h)
theorem Same.seq {K:AB} (e:Same H H') (h:jg K H a xs):jg K H' a xs:=by
 rcases h with (h|⟨o,h⟩)|h
 ·exact .inl (.inl (e _ _ h))
 ·exact .inl (.inr #[o,e _ _ h])
 ·exact .inr h
theorem jP.there {o:HO} (x:jP P w H h a o):∃u,h.get? a=some u:=by
 cases o with
 | lst xs=>obtain⟨_,_,_,_,e⟩:=x;exact#[_,e]
 | tup xs=>obtain⟨_,_,_,ob,e,_⟩:=x;exact#[_,e]
 | dK kvs=>obtain⟨_,_,_,_,ob,_,_,e,_⟩:=x;exact#[_,e]
 | dT kvs=>obtain⟨_,_,_,_,ob,_,_,e,_⟩:=x;exact#[_,e]
 | set S n=>obtain⟨ob,_,_,_,e,_⟩:=x;exact#[_,e]
 | ins C dx fs=>obtain⟨_,_,_,e,_⟩:=x;exact#[_,e]
 | own y=>exact x
 | xd fs=>obtain⟨_,⟨_,_,_,e,_⟩,_⟩:=x;exact#[_,e]
 | rng lo hi=>obtain⟨_,_,_,e⟩:=x;exact#[_,e]
 | frz ob u=>obtain⟨e,_⟩:=x;exact#[_,e]
 | tbl ps=>exact#[_,(show h.get? a=some _ from x)]
 | met f y=>exact#[_,(show h.get? a=some _ from x)]
 | ext φ=>obtain⟨_,e,_⟩:=x;exact e
theorem Js.free_of (x:Js P w H h) (e:h.get? a=none):H a=none:=by
 cases q:H a with
 | none=>rfl
 | some o=>obtain⟨u,z⟩:=(x a o q).there;rw[e] at z;cases z
structure ZE (h0 h:Heap) (H:Hp) (e C:Addr):Prop where
 ex:∃oe vs T oT ts,∃a0:Value×Value,h.get? e=some oe/\oe.cls=.ref C/\vs[0]?=some a0.1/\oe.data=.fields vs/\vs[1]?=some (.ref T)/\T≠e/\h.get? T=some oT/\oT.data=.fields ts/\ts[3]?=some .none/\h0.get? T=none/\H T=none/\vs[2]?=some a0.2/\zW H a0.2
 new:h0.get? e=none
 free:H e=none
def XC (P:AS) (w:World):gU:=λouter H s E e s'=>∃(ea C:Addr) (H':Hp),e=.ref ea/\s'.os=s.os/\AllBare s'.gens/\Un (uv outer) [] H H' s.heap s'.heap/\Js P w H' s'.heap/\ZE s.heap s'.heap H' ea C/\E (.ref C) none H'
theorem Un.late {fs ex:AI}{h1 h2:Heap} (u:Un fs ex H H' h h1) (fresh:∀b∈ch,h.get? b=none)
  (k:∀b o,b ∉ fs->b ∉ ch->h1.get? b=some o->h2.get? b=some o) (ks:∀b o,b∈fs->h1.get? b=some o->∃sl,h2.get? b=some { o with slots:=sl }):Un fs ex H H' h h2:=by
 have DK:∀b o,h.get? b=some o->b ∉ ch:=λb o q z=>by have:=fresh b z;rw[q] at this;cases this
 refine#[λb o q n hb hx=>k b o hb (DK b o q) (u.keep b o q n hb hx),λb o q n hb hx=>?_,u.free,λb o q hx=>?_,u.tups,u.frzs,u.tbls]
 ·obtain⟨sl,e1⟩:=u.slot b o q n hb hx;obtain⟨HR,e2⟩:=ks b _ hb e1;exact#[HR,e2]
 ·obtain⟨o',e1⟩:=u.there b o q hx;by_cases hb:b∈fs
  ·obtain⟨sl,e2⟩:=ks b o' hb e1;exact#[_,e2]
  ·exact#[o',k b o' hb (DK b o q) e1]
section
variable {X:Cx}{pins:AF}{σ:St}{H H':Hp}{s s':Shared}{ea C:Addr}{a0:Value×Value}{h':Heap}{ch:AI}
theorem dj (I:ji X pins σ H s) (Bo:X.stack=X.env::X.outer) (os:s'.os=s.os) (bare:AllBare s'.gens) (un:Un (uv X.stack) [] H H' s.heap s'.heap) (hok:Js X.prog X.w H' s'.heap)
  (BM:∀b∈ch,s.heap.get? b=none/\H' b=none) (Oy:ea∈ch) (Ri:zW H' a0.2) (L:gZ (hideAll s'.heap (ch++uv X.stack)) (X.env::X.outer) ea (.ref C) a0 .none s'.heap h') :
  ji X pins σ H' { s' with heap:=h' }/\ZE s.heap h' H' ea C:=by
 have I1:ji X pins σ H' s':=I.call' (ch:=[]) os un hok bare (λb z=>absurd z (by simp));obtain⟨st,ff,tr,up⟩:=L;have FF:s'.heap.FunFrames X.base X.stack:=I1.stack;have keep:∀b o,b ∉ uv X.stack->b ∉ ch->s'.heap.get? b=some o->h'.get? b=some o:=λb o hb hc e=>st b o (hideAll_get _ e λz=>(yL.mp z).elim hc hb);have slots:∀b o,b∈uv X.stack->s'.heap.get? b=some o->∃sl,h'.get? b=some { o with slots:=sl }:=λb o hb e=>by
  obtain⟨_,o',BJ,hd⟩:=FF.mem hb;rw[e] at BJ;cases BJ;exact up b o e hd
 have Io:Un (uv X.stack) [] H H' s.heap h':=un.late (ch:=ch) (λb hb=>(BM b hb).1) keep slots;have free:∀b,H' b≠none->b ∉ uv X.stack/\b ∉ ch:=λb n=>#[λz=>n (I1.stkFree b z),λz=>n (BM b z).2];have Ip:Js X.prog X.w H' h':=λb o e=>(hok b o e).stay (λc u hc q=>by
  have n:H' c≠none:=by
   rcases hc with z|z
   ·rw[z,e];simp
   ·rw[z];simp
  exact keep c u (free c n).1 (free c n).2 q) (λ_ q=>q) λ_ _ q=>q
 refine#[I.call' (s':={ s' with heap:=h' }) (ch:=[]) os Io Ip bare (λb z=>absurd z (by simp)),#[?_,(BM ea Oy).1,(BM ea Oy).2]];obtain⟨oe,vs,T,oT,ts,e1,⟨e2,e3,c3⟩,e4,e5,e6,e7,e8,e9,Fs⟩:=tr;have hT:s.heap.get? T=none/\H' T=none:=by
  cases q:s'.heap.get? T with
  | none =>
   refine#[?_,hok.free_of q];cases q2:s.heap.get? T with
   | none=>rfl
   | some o=>obtain⟨o',z⟩:=un.there T o q2 (by simp);rw[q] at z;cases z
  | some o =>
   by_cases hc:T∈ch
   ·exact BM T hc
   ·by_cases hf:T∈uv X.stack
    ·have Rj:T∈uv (X.env::X.outer):=Bo▸hf;obtain⟨_,o',BJ,hd⟩:=ff.mem Rj;rw[e8] at BJ;cases BJ;exact absurd e9 (hd ts)
    ·rw[hideAll_get _ q λz=>(yL.mp z).elim hc hf] at e6;cases e6
 exact#[oe,vs,T,oT,ts,a0,e1,e2,e3,e4,e5,e7,e8,e9,Fs,hT.1,hT.2,c3,Ri]
theorem bR (I:ji X pins σ H' s') (Bo:X.stack=X.env::X.outer) (ch:AI):s'.heap.FunFrames (hideAll s'.heap (ch++uv X.stack)) (X.env::X.outer):=by
 have FF:s'.heap.FunFrames X.base X.stack:=I.stack;rw[<-Bo];exact PySem.W.funFrames_hide FF λenv he a hf=>yF _ (List.mem_filterMap.mpr #[env,he,hf])
theorem iV (I:ji X pins σ H s) (Bo:X.stack=X.env::X.outer) (hf:X.env.frame=some X.env.locals) (os:s'.os=s.os) (bare:AllBare s'.gens) (un:Un (uv X.stack) [] H H' s.heap s'.heap) (hok:Js X.prog X.w H' s'.heap)
  (fl:ZE s.heap s'.heap H' ea C) {M:Model} {E:Ax} {Q:Ay} (h:∀h',ji X pins σ H' { s' with heap:=h' }->ZE s.heap h' H' ea C->Q () { s' with heap:=h' }) :
  wpAny M X.A (leaving X.env (.ref ea)) Q E s':=by
 have I1:ji X pins σ H' s':=I.call' (ch:=[]) os un hok bare (λb z=>absurd z (by simp));obtain⟨oe,vs,T,oT,ts,a0,e1,e2,e3,e4,e5,e7,e8,e9,Fs,Iq,Ir,c3,cx⟩:=fl.ex;have D9:X.A.frames=some (X.env::X.outer):=by rw[<-Bo];exact I.ok.frames
 refine ca (base:=hideAll s'.heap ([ea,T]++uv X.stack)) (cls:=.ref C) (a0:=a0) D9 (bR I1 Bo [ea,T]) hf
  #[oe,vs,T,oT,ts,e1,#[e2,e3,c3],e4,e5,hideAll_none _ (by simp),e7,e8,e9,Fs] (λb o q=>of_hideAll _ q) (hideAll_none _ (by simp)) λh' L=>?_
 obtain⟨J,F⟩:=dj (ch:=[ea,T]) I Bo os bare un hok (λb hb=>by
  rcases yr.mp hb with rfl|hb
  ·exact#[fl.new,fl.free]
  ·obtain rfl:b=T:=by simpa using hb
   exact#[Iq,Ir]) (by simp) cx L
 exact h h' J F
end
section
variable {P:AS}{w:World}{K:AB}{mg:AE}{base:Heap}{N ps:AM}{qual:Str}{scope:Scope}{f:Addr}{cd:Value}{A:Around}{outer:List Env}{s:Shared}{H:Hp}{E:XK}
abbrev Mi (P:AS) (w:World) (K:AB) (mg:AE) (base:Heap) (N:AM) (qual:Str) (scope:Scope) (f:Addr) (cd:Value) (A:Around) (outer:List Env) (s:Shared) (H:Hp) (E:XK) (c:Bool:=true):Cx :=
 gu (XC P w) P w K mg base N qual scope f cd A outer s H E c
theorem NI {c:Bool}{pins:AF}{s1:Shared}{ea:Addr} (I:ji (Mi P w K mg base N qual scope f cd A outer s H E c) pins σ H1 s1) (F:ZE s1.heap h' H' ea C):ZE s.heap h' H' ea C:=by
 have z:∀b,s1.heap.get? b=none->s.heap.get? b=none:=λb q=>by
  cases q2:s.heap.get? b with
  | none=>rfl
  | some o=>obtain⟨o',e⟩:=I.base.there b o q2 (by simp [gu]);rw[q] at e;cases e
 obtain⟨oe,vs,T,oT,ts,a0,e1,e2,e3,e4,e5,e7,e8,e9,Fs,Iq,Ir,c3,cx⟩:=F.ex;exact#[#[oe,vs,T,oT,ts,a0,e1,e2,e3,e4,e5,e7,e8,e9,Fs,z _ Iq,Ir,c3,cx],z _ F.new,F.free]
theorem vH {c:Bool}:Ub (XC P w) (Mi P w K mg base N qual scope f cd A outer s H E c) E:=by
 intro pins σ H1 s1 e s' I h;obtain⟨ea,C',H',rfl,os,bare,un,hok,fl,q⟩:=h;refine iV I rfl rfl os bare un hok fl λh' J F=>?_;exact#[ea,C',H',rfl,J.os,J.bare,J.base,J.hok,NI I F,q]
theorem jQ {c:Bool}:PassesOwn (model P w) (Mi P w K mg base N qual scope f cd A outer s H E c).A (Mi P w K mg base N qual scope f cd A outer s H E c).env (Mi P w K mg base N qual scope f cd A outer s H E c).xe:=PassesOwn.leaving
end
theorem bE {prog:AS}{A:Around}{R:Result->Shared->Prop}{elt tg iter:Expr}{ifs:AO}{scope:Scope}{pos:Pos}{it acc:Value}{env:Env} (J:Nat->Shared->Prop)
  (turn:∀n s,J n s->wpAny '#' A (pyNext it) (λr s1=>match r with
   | none=>R (.ok .next) s1
   | some v=>wpAny '#' A (letOwnedTupleGo tg it v) (λ_ s2=>wpAny '#' A (assign tg env v) (λ_ s3 =>
     wpAny '#' A (forIn ifs true λc r=>if r=true then do let ok <-isTrue c env (eval c env);pure (ForInStep.yield ok) else pure (ForInStep.yield r)) (λok s4 =>
      if ok=true then wpAny '#' A (eval elt env) (λx s5=>wpAny '#' A (call (.builtin "list.append") [acc,x]) (λ_ s6=>∃m,m<n/\J m s6) (λ_ _=>False) s5) (λ_ _=>False) s4
      else ∃m,m<n/\J m s4) (λ_ _=>False) s3) (λ_ _=>False) s2) (λ_ _=>False) s1) (λ_ _=>False) s)
  (n:Nat) (h:J n s):codeAny '#' A (.compLoop (.ListComp elt [#[tg,iter,ifs,0]] scope pos) 0 it acc env) R s:=by
 refine codeAny_loop rfl J (λn s hJ=>?_) n h;show wpAny _ A ((compTurn (.ListComp elt [#[tg,iter,ifs,0]] scope pos) 0 it acc env).onRaise _) _ _ s;refine wpAny_noted (wpAny_noRaise ?_);rw[compTurn_list];refine AT (wpAny_standAt (AT (jA (turn n s hJ) λr s1 h1=>?_)));cases r with
 | none=>exact AU h1
 | some v =>
  refine AT (jA h1 λ_ s2 h2=>AT (jA h2 λ_ s3 h3=>AT (jA h3 λok s4 h4=>?_)));cases ok with
  | false=>exact AU #[rfl,h4]
  | true=>exact AT (AT (jA h4 λx s5 h5=>AT (jA h5 λ_ s6 h6=>AU (AU #[rfl,h6]))))
abbrev Cx.blk (X:Cx) (scope:Scope) (cl:AJ) (C:Addr) (own:AM) (s:Shared) (H:Hp) (fp:AI) (pins:AF):Cx :=
 { X with N:=X.N++own,env:=compEnvC scope cl C X.env,s₀:=s,H₀:=H,outer:=X.stack,ex:=fp,fn:=λ_=>false,pn:=X.pn++pins,xe:=λ_ _=>False }
theorem Zo {env:Env}{x:Str}:∀{names:List (Str×NameKind)},(names.map λ(n,k)=>if (k==NameKind.free&&env.scope.kind==.function&&env.kindOf n==some .cell) then (n,NameKind.cell) else (n,k)).lookup x =
  (names.lookup x).map λk=>if (k==NameKind.free&&env.scope.kind==.function&&env.kindOf x==some .cell) then NameKind.cell else k
 | []=>rfl
 | (n,k)::r=>by
  have ih:=@Zo env x r;rw[yH];show List.lookup x ((if (k==NameKind.free&&env.scope.kind==.function&&env.kindOf n==some .cell)=true then (n,NameKind.cell) else (n,k))::_)=_;have e:(if (k==NameKind.free&&env.scope.kind==.function&&env.kindOf n==some .cell)=true then (n,NameKind.cell) else (n,k))=(n,if (k==NameKind.free&&env.scope.kind==.function&&env.kindOf n==some .cell)=true then NameKind.cell else k):=by
   split<;>rfl
  rw[e];cases q:x==n with
  | true =>
   obtain rfl:x=n:=by simpa using q
   simp [List.lookup_cons]
  | false=>simp only[List.lookup_cons,q];exact ih
theorem Gx {α β:Type} [BEq α] [LawfulBEq α] {l:List (α×β)} {x:α} {b:β} (h:l.lookup x=some b):(x,b)∈l:=by
 induction l with
 | nil=>simp at h
 | cons p r ih =>
  obtain⟨a,c⟩:=p;rw[List.lookup_cons] at h
  split at h
  ·rename_i q;obtain rfl:x=a:=by simpa using q
   cases h;exact .head _
  ·exact .tail _ (ih h)
section
variable {X:Cx}{scope:Scope}{cl:AJ}{own:AM}{pins:AF}{σ:St}{H2 H3:Hp}{s2:Shared}{fp:AI}{C:Addr}{h1:Heap}
theorem Nf {b:Addr} (I2:ji X pins σ H2 s2) (n1:b≠X.env.locals) (n2:b ∉ X.fs):b ∉ uv X.stack:=λz=>(yr.mp (I2.stkSub b z)).elim n1 n2
end
def PF (X:Cx) (ifs:AO) (t:TT):Prop :=
 ∀(pins:AF) (s:Shared) (σ:St) (H:Hp) (Q:Bool->Hp->Prop),ji X pins σ H s->t σ H Q ->
  wpAny (model X.prog X.w) X.A (forIn ifs true λc r=>if r=true then do let ok <-isTrue c X.env (eval c X.env);pure (ForInStep.yield ok) else pure (ForInStep.yield r)) (TP X pins σ Q) X.xe s
theorem Jd:PF X [] (λ_ H Q=>Q true H):=λ_ _ _ H _ I h=>wpAny_tests_nil #[H,I,h]
theorem eY {c:Expr}{t:TT} (h:PT X c t):PF X [c] t:=λpins s σ H Q I q=>wpAny_tests_one (h pins s σ H Q I q)
def vM (k:Nat) (g:TG) (tc:TT) (te:TE) (σ:St) (Q:VK):It->Hp->Prop:=λJ H1=>∀D,H1 D=none->∃W:Nat->Nat->List V->Hp->Prop,(∃m,W 0 m [] (upd H1 D (.lst [])))/\∀i m ys H,W i m ys H ->
 H D=some (.lst ys)/\((J.stop i H/\Q (.ref D) H)\/(J.go i H/\ys.length<sizeLine/\∀x H',J.yld i H x H'->g x (σ++List.replicate k none) H' λσ2 H2=>(∃zs,σ2=σ++zs/\zs.length=k)/\tc σ2 H2 λb H3 =>
  if b=true then te σ2 H3 λy H4=>H4 D=some (.lst ys)/\∃m',m'<m/\W (i+1) m' (ys++[y]) (upd H4 D (.lst (ys++[y]))) else ∃m',m'<m/\W (i+1) m' ys H3))
def ZU (wi:TI) (k:Nat) (g:TG) (tc:TT) (te:TE):TE:=λσ H Q=>wi σ H (vM k g tc te σ Q)
section
variable {X:Cx}{tg elt iter:Expr}{ifs:AO}{scope:Scope}{cl:AJ}{own:AM}{wi:TI}{g:TG}{tc:TT}{te:TE}{pos:Pos}
theorem ji.let_go {pins:AF}{σ2:St}{s2:Shared} (I:ji X pins σ H s) (I2:ji X pins σ2 H2 s2) (hC:s2.heap.objs.size<=C) (hf:H C=none) (sb:Heap.SameBut C s.heap h'):ji X pins σ H { s with heap:=h' }:=by
 have nC:s2.heap.get? C=none:=Qi hC;have CF:C ∉ uv X.stack:=λz=>by
  obtain⟨_,o,ho,_⟩:=I2.stack.mem z;rw[nC] at ho;cases ho
 have off:∀b o,s2.heap.get? b=some o->b≠C:=λb o e z=>by rw[z,nC] at e;cases e
 have un:Un (uv X.stack) [C] H H s.heap h':=#[λb o q _ _ hx=>(sb.2 b λz=>hx (by simp [z])).trans q,λb o q _ hb _=>#[o.slots,(sb.2 b λz=>CF (z▸hb)).trans q],λ_ _ _ n _=>n,λb o q hx=>#[o,(sb.2 b λz=>hx (by simp [z])).trans q],λ_ _ q=>q,λ_ _ _ q=>q,λb ps q=>#[(List.toArray []),by rw[Array.append_empty];exact q]];have hok:Js X.prog X.w H h':=λb o e=>(I.hok b o e).stay (λc u hc q=>(sb.2 c λz=>by
  subst z;rcases hc with z|z
  ·rw[z,e] at hf;cases hf
  ·rw[z] at hf;cases hf).trans q) (λ_ q=>q) λ_ _ q=>q
 refine I.call' (s':={ s with heap:=h' }) (ch:=[C]) rfl un hok I.bare λb hb=>?_;obtain rfl:b=C:=by simpa using hb
 obtain⟨_,hn,_⟩:=I2.loc;obtain⟨_,_,_,hL,_⟩:=hn;refine#[.inr (yp I2.sz hC),λz=>off _ _ hL z.symm,λx c e=>?_,λp hp=>off _ _ (I2.pin p hp).1];obtain⟨_,_,hc,_⟩:=I2.cell x c e;exact off _ _ hc
end
theorem ji.track {pins:AF}{o:HO} (I:ji X pins σ H s) (hn:H a=none) (h0:X.s₀.heap.get? a=none) (hL:a≠X.env.locals)
  (hc:∀x c,X.env.cells.lookup x=some c->c≠a) (hp:∀p∈X.pn++pins,p.1≠a) (new:jP X.prog X.w (upd H a o) s.heap a o):ji X pins σ (upd H a o) s:=by
 have ne:∀b u,H b=some u->b≠a:=λb u e z=>by rw[z,hn] at e;cases e
 refine#[I.ok,I.os,I.bare,#[I.base.keep,I.base.slot,λb u e n hx=>?_,I.base.there,λb xs e=>?_,λb u v e=>?_,λb ps e=>?_],I.loc,I.cell,?_,λx c e=>?_,λp h=>?_,λb u e=>?_,I.len,I.hn.mono λb u v e=>jq (ne b _ e) e]
 ·rw[jw (λz=>by rw[z,h0] at e;cases e)];exact I.base.free b u e n hx
 ·have q:=I.base.tups b xs e;rw[jw (ne b _ q)];exact q
 ·have q:=I.base.frzs b u v e;rw[jw (ne b _ q)];exact q
 ·obtain⟨m,q⟩:=I.base.tbls b ps e;exact#[m,jq (ne b _ q) q]
 ·rw[jw (yZ hL)];exact I.free
 ·rw[jw (hc x c e)];exact I.freeC x c e
 ·obtain⟨q1,q2,q3⟩:=I.pin p h;exact#[q1,jq (hp p h) q2,q3]
 ·by_cases hb:b=a
  ·subst hb;rw[jc] at e;cases e;exact new
  ·rw[jw hb] at e;exact (I.hok b u e).stay (λ_ _ _ q=>q) (λc q=>jq (ne c _ q) q) λc xs q=>by rw[jw (ne c _ q)];exact q
section
variable {P:AS}{w:World}{K:AB}{mg:AE}{base:Heap}{k:Nat}{x m:Str}{C:Addr}{ps:AM}{sp:Sp}
structure j0 (P:AS) (w:World) (K:AB) (mg:AE) (base:Heap) (k:Nat) (x:Str) (ps:AM) (sp:Sp) (c:Bool:=true):Prop where
 ex:∃f fd,UD P w K mg base (XC P w) k f fd ps sp c/\UK K fd ps []/\keepIn K (.ref f)=true/\mg x=some (.ref f)
structure mE (P:AS) (w:World) (K:AB) (mg:AE) (base:Heap) (k:Nat) (x:Str) (C:Addr) (ps:AM) (sp:Sp):Prop where
 ex:∃f fd,Mk K C f/\UD P w K mg base (XC P w) k f fd ps sp/\UK K fd ps []/\mg x=some (.ref C)
structure zl (P:AS) (w:World) (K:AB) (mg:AE) (base:Heap) (k:Nat) (C:Addr) (m:Str) (ps:AM) (sp:Sp):Prop where
 cl:Vs K C
 ex:∃f fd,Ma K C m f/\UD P w K mg base (XC P w) k f fd ps sp/\UK K fd ps []
end
section
variable {X:Cx}{k:Nat}{x m:Str}{C:Addr}{ps:AM}{sp:Sp}{E:XK}{p pos apos:Pos}{e o:Expr}{es:AO}{ta:TE}{t:TA}
theorem jo {cm:Bool} (G:j0 X.prog X.w X.K X.mg X.base k x ps sp cm) (ha:PA X (e::es) t) (hr:Jx cm k X.A:=by exact hr.mono '$') (hx:Ub (XC X.prog X.w) X E:=by first|exact vH|exact GN) (hg:Gl X x:=by rfl)
  (Cc:(x==("__debug__":Str))=false:=by decide) (he:starEach (e::es) X.env=(false,eval e X.env)::starEach es X.env:=by rfl) (Ba:(backTo pos (starEach es X.env)).any (·.1)=false:=by rfl) :
  PE X (.Call (.Name x p) (e::es) [] pos) (pi sp [] E t):=by
 obtain⟨f,fd,F,b,kp,Iu⟩:=G.ex;exact qA F hr hg Iu kp b .nil hx ha Cc he Ba
theorem gK (G:mE X.prog X.w X.K X.mg X.base k x C ps sp) (ha:PA X (e::es) t) (hr:zo (k+1) X.A:=by exact hr.mono '$') (hx:Ub (XC X.prog X.w) X E:=by first|exact vH|exact GN) (hg:Gl X x:=by rfl)
  (Cc:(x==("__debug__":Str))=false:=by decide) (he:starEach (e::es) X.env=(false,eval e X.env)::starEach es X.env:=by rfl) (Ba:(backTo pos (starEach es X.env)).any (·.1)=false:=by rfl) :
  PE X (.Call (.Name x p) (e::es) [] pos) (pB C sp [] E t):=by
 obtain⟨f,fd,M,F,b,Iu⟩:=G.ex;exact qB M F hr hg Iu b .nil hx ha Cc he Ba
theorem nJ {pl:Sem Bool} (ho:PE X o ta) (G:zl X.prog X.w X.K X.mg X.base k C m ps sp) (ha:PA X (e::es) t) (hr:zo k X.A:=by exact hr.mono '$') (hx:Ub (XC X.prog X.w) X E:=by first|exact vH|exact GN)
  (Bo:starEach (e::es) X.env=(false,eval e X.env)::starEach es X.env:=by rfl) (Ba:(backTo pos (starEach es X.env)).any (·.1)=false:=by rfl)
  (ht:eval (.Call (.Attribute o m apos) (e::es) [] pos) X.env=(do
   let ov <-eval o X.env
   standAt apos.atName
   let (f,first) <-holding [ov] (getMethod ov m pl)
   callWith pos f first (backTo pos (starEach (e::es) X.env)) (backToKw pos (keywordEach [] X.env))):=by rfl) :
  PE X (.Call (.Attribute o m apos) (e::es) [] pos) (pC C m sp [] E ta t):=by
 obtain⟨f,fd,M,F,b⟩:=G.ex;exact qC ho G.cl M F hr b .nil hx ha Bo Ba ht
inductive aP (C:Addr) (m:Str) (sp:Sp) (E:XK) (x:V) (H:Hp) (Q:VK):Prop
 | mk (a:_) (dx:_) (fs:_) (h0:x=.ref a) (h1:H a=some (.ins C dx fs)) (h2:fs.lookup m=none) (h3:sp [x] H Q E):aP C m sp E x H Q
def sW (C:Addr) (m:Str) (sp:Sp) (E:XK):V->Hp->VK->Prop:=λx H Q=>aP C m sp E x H Q
def xc (X:Cx) (m:Str) (r:V->Hp->VK->Prop):Prop:=∀(pins:AF) (s:Shared) (σ:St) (H:Hp) (x:V) (u:Value) (Q:VK) (pl:Sem Bool) (pos:Pos),ji X pins σ H s->jE x u->r x H Q ->
 wpAny (model X.prog X.w) X.A (holding [u] (getMethod u m pl)) (λfm s1=>wpAny (model X.prog X.w) X.A (callWith pos fm.1 fm.2 (backTo pos (starEach [] X.env)) (backToKw pos (keywordEach [] X.env))) (EP X pins σ Q) X.xe s1) X.xe s
theorem cc (G:zl X.prog X.w X.K X.mg X.base k C m ps sp) (hr:zo k X.A:=by exact hr.mono '$') (hx:Ub (XC X.prog X.w) X E:=by first|exact vH|exact GN):xc X m (sW C m sp E):=by
 intro pins s σ H x u Q pl pos I r h;obtain⟨f,fd,M,F,b⟩:=G.ex;obtain⟨a,dx,fs,rfl,ea,l,q⟩:=h;obtain rfl:u=Value.ref a:=r;refine wpAny_holding (zv I ea G.cl M l ?_);exact PySem.W.callWith_K0 (first:=[.ref a]) I.kIn M.kp (GQ (us:=[.ref a]) (vs:=[.ref a]) F hr b .nil hx I (.cons rfl .nil) q)
def Ao (r:V->Hp->VK->Prop) (ta:TE):TE:=λσ H Q=>ta σ H λx H1=>r x H1 Q
theorem Zx {r:V->Hp->VK->Prop} (hr:xc X m r) (ho:PE X o ta)
  (ht:eval (.Call (.Attribute o m apos) [] [] pos) X.env=(do
   let ov <-eval o X.env
   standAt apos.atName
   let (f,first) <-holding [ov] (getMethod ov m pl)
   callWith pos f first (backTo pos (starEach [] X.env)) (backToKw pos (keywordEach [] X.env))):=by rfl):PE X (.Call (.Attribute o m apos) [] [] pos) (Ao r ta):=by
 intro pins s σ H Q I h;rw[ht];refine AT (jA (ho pins s σ H _ I h) λu s1 #[x,H1,I1,rx,q]=>AT (wpAny_standAt (AT ?_)));exact hr pins s1 σ H1 x u Q pl pos I1 rx q
end
inductive mT:V->Value->Prop where
 | ty (n:String):mT (.ty n) (.type n)
 | ref (a:Addr):mT (.ref a) (.ref a)
theorem mT.val {c:V}{cv u:Value} (h:mT c cv) (r:jE c u):u=cv:=by cases h<;>exact r
section
variable {X:Cx}
theorem JV:Jf X (.builtin "isinstance") (λxs H Q=>E5 λx c t cv b=>A5 (xs=[x,c]) (vf X.K H x t) (mT c cv) (kitOne X.K t cv=some b) (Q (.bl b) H)):=by
 intro pins s σ H xs us Q I r h;obtain⟨x,c,t,cv,b,rfl,ty,hc,e,q⟩:=h;obtain⟨u,w,rfl,ru,rc⟩:=pI r;obtain rfl:=hc.val rc;exact dE I ru ty e λtk=>#[.bl b,H,I.tok tk,rfl,q]
end
def cP (K:AB) (a b:Addr):It :=
 #[λi H=>∃xs ys x y,jg K H a xs/\jg K H b ys/\xs[i]?=some x/\ys[i]?=some y,
  λi H v H'=>∃p x y,H p=none/\v=.ref p/\H'=upd H p (.tup [x,y])/\∀xs ys,jg K H a xs->jg K H b ys->xs[i]?=some x/\ys[i]?=some y,
  λi H=>∃xs ys,jg K H a xs/\jg K H b ys/\(xs.length<=i\/ys.length<=i)]
theorem ji.turnedL {pins:AF}{t':Nat} (I:ji X pins σ H s) (fp:∀c∈ch,vY X pins H c) (keep:∀c o,c ∉ ch->s.heap.get? c=some o->h'.get? c=some o) :
  ji X pins σ H { s with heap:=h',toks:=t' }:=by
 have Oz:∀c o,H c=some o->c ∉ ch:=λc o e hc=>by have:=(fp c hc).1;rw[e] at this;cases this
 refine I.step (g':=s.gens) (d':=s.drawn) (ch:=ch) (λc hc=>#[(fp c hc).2.2.2.1,(fp c hc).2.1,(fp c hc).2.2.2.2.1,(fp c hc).2.2.2.2.2])
  (λc o _ _ hc e _=>keep c o hc e) (λc o _ _ hc e _=>#[o.slots,keep c o hc e]) (λ_ _ _ _ n=>n) (λc o hc e=>#[o,keep c o hc e]) (λ_ _ e=>e) (λ_ _ _ e=>e) (λc ps e=>#[(List.toArray []),by rw[e];simp]) (λm hm=>?_) (λc o e=>?_) I.bare
 ·obtain⟨o,es,ep,ho,r⟩:=hm;exact#[o,es,ep,keep _ o (λhc=>(fp _ hc).2.1 rfl) ho,r]
 ·refine (I.hok c o e).stay (λd u hd q=>keep d u ?_ q) (λ_ q=>q) λ_ _ q=>q;rcases hd with z|z
  ·rw[z];exact Oz c o e
  ·exact Oz d _ z
theorem lZ {K:AB}{elts:AO}{kk:Nat}{Bn:Pos} (z TI TO i1 i2 l1 l2:Addr) (D:ZipApart z TI TO i1 i2 l1 l2) :
  Vb P w K (.Tuple elts kk Bn) (cP K l1 l2) [z,TI,TO,i1,i2] z (λi h=>IsZip h z TI TO .none/\IsPair h TI (.ref i1) (.ref i2)/\(∃a b,IsPair h TO a b)/\h.IsListIter i1 l1 i/\h.IsListIter i2 l2 i) true where
 mem:=by simp
 obj:=λi h st b hb=>by
  obtain⟨q1,q2,⟨_,_,q3⟩,⟨o4,q4,_,d4⟩,⟨o5,q5,_,d5⟩⟩:=st;simp only[yr,yP,or_false] at hb;rcases hb with rfl|rfl|rfl|rfl|rfl
  ·exact#[_,q1,λv e=>by cases e]
  ·exact#[_,q2,λv e=>by cases e]
  ·exact#[_,q3,λv e=>by cases e]
  ·exact#[_,q4,λv e=>by rw[d4] at e;cases e]
  ·exact#[_,q5,λv e=>by rw[d5] at e;cases e]
 keep:=λi h h' st k=>by
  obtain⟨q1,q2,⟨a,b,q3⟩,q4,q5⟩:=st;exact#[k z (by simp) _ q1,k TI (by simp) _ q2,#[a,b,k TO (by simp) _ q3],q4.at λo e=>k i1 (by simp) o e,q5.at λo e=>k i2 (by simp) o e]
 item:=by
  intro X hP hw hK hc i pins s σ H E I hf st hg;subst hP hw hK;obtain⟨xs,ys,x,y,hx,hy,ex,ey⟩:=hg;obtain⟨AV,rv,p,_⟩:=I.list hx;obtain⟨Iv,Br,p',_⟩:=I.list hy;obtain⟨u,hu,ru⟩:=rv.get ex;obtain⟨v,hv,Rl⟩:=Br.get ey;obtain⟨q1,q2,⟨a,b,q3⟩,q4,q5⟩:=st;refine wpAny_pyNext_zip_item D q1 q2 q3 q4 q5 p.isList p'.isList (x:=u) (y:=v) (by simpa using hu) (by simpa using hv) λh1 z1 z2 z3 z4 z5 z6 z7=>?_;refine#[_,rfl,wpAny_letOwnedTupleGo_zip (s:={ s with heap:=h1 }) z1 λh2 Ft sb=>?_];have fz:=hf z (by simp);have fO:=hf TO (by simp);have f1:=hf i1 (by simp);have f2:=hf i2 (by simp);have keep:∀c o,c ∉ [z,TO,i1,i2]->s.heap.get? c=some o->h2.get? c=some o:=λc o hc e=>by
   simp only[yr,yP,or_false,not_or] at hc;exact (sb.2 c hc.1).trans (z7 c o hc.1 hc.2.1 hc.2.2.1 hc.2.2.2 e)
  have AX:∀{c o},s.heap.get? c=some o->c≠s.heap.objs.size:=λe=>yx (ym e);have g4:=q4;have g5:=q5;obtain⟨o4,e4,_,_⟩:=g4;obtain⟨o5,e5,_,_⟩:=g5;have fp:∀c∈[z,TO,i1,i2],vY X pins H c:=λc hc=>by
   simp only[yr,yP,or_false] at hc;rcases hc with rfl|rfl|rfl|rfl
   ·exact fz
   ·exact fO
   ·exact f1
   ·exact f2
  have I1:ji X pins σ H { s with heap:=h2 }:=I.turnedL (t':=s.toks) fp keep;have hp:H s.heap.objs.size=none:=I.fresh;have tp:h2.get? s.heap.objs.size=some { cls:=.type "tuple",data:=.seq (List.toArray [u,v]) }:=(sb.2 _ (yZ (AX q1))).trans z5;have I2:ji X pins σ (upd H s.heap.objs.size (.tup [x,y])) { s with heap:=h2 }:=I1.track hp (Qi I.sz) (Qe I.lt)
   (λn c e zz=>by obtain⟨v0,o0,h0,_⟩:=I.cell n c e;exact AX h0 zz) (λq hq zz=>AX (I.pin q hq).1 zz) #[by show 2<=sizeLine;decide,[u,v],.cons ru (.cons Rl .nil),_,tp,rfl,_,rfl]
  refine#[.ref s.heap.objs.size,_,I2,rfl,#[_,x,y,hp,rfl,rfl,λBN EN B7 DO=>?_],#[Ft,?_,#[u,v,(sb.2 _ D.TOz).trans z2],z3.extBut sb.extBut D.i1z,z4.extBut sb.extBut D.i2z],λc hc=>?_]
  ·rw[I.list_inj B7 hx,I.list_inj DO hy];exact#[ex,ey]
  ·exact (sb.2 _ D.TIz).trans (z7 _ _ D.TIz D.TITO D.TIi1 D.TIi2 q2)
  ·have Fu:=(hf c hc).1;rw[jw ?_]
   ·exact Fu
   ·simp only[yr,yP,or_false] at hc;rcases hc with rfl|rfl|rfl|rfl|rfl
    ·exact AX q1
    ·exact AX q2
    ·exact AX q3
    ·exact AX e4
    ·exact AX e5
 done:=by
  intro X hP hw hK hc i pins s σ H E I hf st hg;subst hP hw hK;obtain⟨xs,ys,hx,hy,Iw⟩:=hg;obtain⟨AV,rv,p,_⟩:=I.list hx;obtain⟨Iv,Br,p',_⟩:=I.list hy;obtain⟨q1,q2,⟨a,b,q3⟩,q4,q5⟩:=st;have hl:=rv.length;have BC:=Br.length;refine wpAny_pyNext_zip_end (I.ok.hd (hc rfl)) D q1 q2 q3 q4 q5 p.isList p'.isList (by simp;omega) λh1 k=>#[rfl,?_];refine I.turnedL (t':=s.toks) (ch:=[z,TO,i1,i2]) (λc hc=>hf c ?_) λc o hc e=>?_
  ·simp only[yr,yP,or_false] at hc ⊢;rcases hc with h|h|h|h<;>simp [h]
  ·simp only[yr,yP,or_false,not_or] at hc;exact k c o hc.1 hc.2.1 hc.2.2.1 hc.2.2.2 e
 self:=λ_ _ _ _ _ st h=>wpAny_pyIter_zip st.1 h
section
variable {X:Cx}{elts:AO}{kk:Nat}{Bn:Pos}
def xC (K:AB) (ta:TA):TI:=λσ H R=>ta σ H λvs H1=>∃a b,vs=[.ref a,.ref b]/\(∃xs,jg K H1 a xs)/\(∃ys,jg K H1 b ys)/\R (cP K a b) H1
theorem fc {a b:Expr}{ta:TA}{p pos:Pos} (Ce:X.calm=true) (hg:Gl X "zip") (hm:X.mg "zip"=none) (ha:PA X [a,b] ta) (hs:starEach [a,b] X.env=[(false,eval a X.env),(false,eval b X.env)]:=by rfl) (Cu:starEach [b] X.env=[(false,eval b X.env)]:=by rfl) :
  PI X (.Tuple elts kk Bn) (.Call (.Name "zip" p) [a,b] [] pos) (xC X.K ta):=by
 intro pins s σ H R I h;refine Call_ (U7 I hg hm boot_zip (PyProof.Rows.callWith_type1 (jA (ha pos pins s σ H _ I h) λus s1 #[vs,H1,I1,r1,q1]=>?_) (by rw[hs,Cu]) (by rw[Cu];rfl)));obtain⟨l1,l2,e,⟨xs,hx⟩,⟨ys,hy⟩,q⟩:=q1;subst e;obtain⟨u,v,rfl,ru,rv⟩:=pI r1;cases ru;cases rv;obtain⟨AV,_,p1,_⟩:=I1.list hx;obtain⟨Iv,_,p2,_⟩:=I1.list hy;have a1:l1<s1.heap.objs.size:=by obtain⟨_,e,_⟩:=p1.isList;exact ym e
 have a2:l2<s1.heap.objs.size:=by obtain⟨_,e,_⟩:=p2.isList;exact ym e
 refine call_zip_2 p1.isList p2.isList λh' z1 z2 z3 z4 z5 z6 k=>wpAny_pyIter_zip (s:={ s1 with heap:=h' }) z1 ?_;have I2:ji X pins σ H1 { s1 with heap:=h' }:=I1.kept (t':=s1.toks) k;refine#[s1.heap.objs.size+4,[s1.heap.objs.size+4,s1.heap.objs.size+2,s1.heap.objs.size+3,s1.heap.objs.size,s1.heap.objs.size+1],_,_,H1,rfl,I2,#[true,lZ _ _ _ _ _ l1 l2 (zipApart_new a1 a2),λ_=>Ce],#[z1,z2,#[_,_,z3],z4,z5],λc hc=>?_,q];have le:s1.heap.objs.size<=c:=by
  simp only[yr,yP,or_false] at hc;rcases hc with rfl|rfl|rfl|rfl|rfl<;>omega
 exact I1.fpOk le (I1.hok.fresh le)
end
section
variable {X:Cx}{tg:Expr}
theorem ai {K:AB}{b:Addr}{ys:List V}{tb:TS}{D:vX} (Pv:Nat->St->Hp->Prop) (h0:Pv 0 σ H) (hl:∀i σ H,i<=(xs.zip ys).length->Pv i σ H->jg K H a xs/\jg K H b ys)
  (hs:∀i x y p σ H,(xs.zip ys)[i]?=some (x,y)->H p=none->Pv i σ H->g (.ref p) σ (upd H p (.tup [x,y])) λσ2 H2=>tb { D with nx:=Pv (i+1),ct:=Pv (i+1),bk:=D.nx } σ2 H2) (hd:∀σ H,Pv (xs.zip ys).length σ H->D.nx σ H) :
  ∃W:Nat->Nat->St->Hp->Prop,(∃m,W 0 m σ H)/\∀i m σ H,W i m σ H ->
   ((cP K a b).stop i H/\D.nx σ H)\/((cP K a b).go i H/\∃N:St->Hp->Prop,(∀σ' H',N σ' H'->∃m',m'<m/\W (i+1) m' σ' H')/\∀x H',(cP K a b).yld i H x H'->g x σ H' λσ2 H2=>tb { D with nx:=N,ct:=N,bk:=D.nx } σ2 H2):=by
 refine#[λi m σ H=>m=(xs.zip ys).length - i/\i<=(xs.zip ys).length/\Pv i σ H,#[(xs.zip ys).length,by simp,yT _,h0],?_];rintro i m σ H ⟨rfl,hi,p⟩;obtain⟨qa,qb⟩:=hl i σ H hi p;have hz:(xs.zip ys).length=min xs.length ys.length:=yV;by_cases AX:i<(xs.zip ys).length
 ·have h1:i<xs.length:=by omega
  have h2:i<ys.length:=by omega
  refine .inr #[#[xs,ys,xs[i],ys[i],qa,qb,by simp [h1],by simp [h2]],Pv (i+1),λσ' H' p'=>#[(xs.zip ys).length - (i+1),by omega,rfl,AX,p'],λv H' yy=>?_];obtain⟨t,x,y,ht,rfl,rfl,e⟩:=yy;obtain⟨ex,ey⟩:=e xs ys qa qb;exact hs i x y t σ H (by simp [Qj,ex,ey]) ht p
 ·obtain rfl:i=(xs.zip ys).length:=by omega
  exact .inl #[#[xs,ys,qa,qb,by omega],hd σ H p]
end
theorem oF:bootBuiltins "int"=some (.type "int"):=by decide +kernel
theorem cU:bootBuiltins "bool"=some (.type "bool"):=by decide +kernel
theorem Gb:bootBuiltins "str"=some (.type "str"):=by decide +kernel
theorem Us:bootBuiltins "list"=some (.type "list"):=by decide +kernel
theorem vS:bootBuiltins "tuple"=some (.type "tuple"):=by decide +kernel
theorem j8:bootBuiltins "isinstance"=some (.builtin "isinstance"):=by decide +kernel
theorem wg:bootBuiltins "min"=some (.builtin "min"):=by decide +kernel
theorem uo:bootBuiltins "len"=some (.builtin "len"):=by decide +kernel
theorem GN:Ub (XC X.prog X.w) X (λ_ _ _=>False):=by
 intro pins σ H s e s' I h;obtain⟨_,_,_,_,_,_,_,_,_,q⟩:=h;exact q.elim
section
variable {X:Cx}
theorem K5:Jf X (.builtin "min") (λxs H Q=>E2 λ(p:Addr) (ns:List Int)=>A4 (xs=[.ref p]) (jg X.K H p (ns.map V.int)) (0<ns.length) (∀M,M∈ns->(∀a∈ns,M<=a)->Q (.int M) H)):=by
 intro pins s σ H xs us Q I r h;obtain⟨p,ns,rfl,hq,Bk,q⟩:=h;obtain⟨u,rfl,ru⟩:=J1 r;cases ru;obtain⟨AV,rv,pl,_⟩:=I.list hq;have hi:=bV rv;obtain⟨zs,e⟩:=hi.allInts.items;have Ck:ns=zs.toList.map (·.1):=by rw[<-hi.numsOf,<-nums_intItems,<-e]
 have hsz:0<zs.size:=by rw[Ck,ya,yA] at Bk;exact Bk
 have hl:s.heap.IsList p (intItems zs):=e▸pl.isList;refine sy (I.hn.now I.hok) hl hsz λv h' tk hv hk=>?_;obtain⟨t,rfl⟩:=intItems_at hv;obtain⟨h1,h2⟩:=argBest_lt (numAt zs) (zs.size - 1);refine#[.int _,H,I.kept hk,#[t,rfl],q _ ?_ λa ha=>?_]
 ·rw[Ck,numAt_eq];exact getD_mem (by rw[ya,yA];omega)
 ·rw[Ck] at ha;obtain⟨j,hj,rfl⟩:=mem_getD ha;rw[ya,yA] at hj;rw[<-numAt_eq];exact h2 j '!'
theorem eI {K:AB} (hu:X.A.units<cLine) (hK:X.K=K:=by first|exact Vg|exact rfl):uN X (compareOp .NotEq) (λx y H Q=>E3 λa b xs=>A5 (x=.ref a) (y=.ref b) (jg K H a xs) (jg K H b []) (Q (.bl (!xs.isEmpty)) H)):=by
 subst hK;intro pins s σ H x y v u Q I rx ry h;obtain⟨a,b,xs,rfl,rfl,ha,hb,q⟩:=h;cases rx;cases ry;obtain⟨AV,rv,p,_⟩:=I.list ha;obtain⟨Iv,Br,p',_⟩:=I.list hb;cases Br;cases rv with
 | nil=>exact EqBoolInt.of_rcne (SeqAt.RcNeAt.lists (e:=λ_=>true) p.isList p'.isList rfl hu (λj h1=>absurd h1 (by simp))) #[.bl false,H,I,rfl,q]
 | cons r t=>exact EqBoolInt.of_rcne (SeqAt.RcNeAt.lists_lengths p.isList p'.isList (by simp) hu) #[.bl true,H,I,rfl,q]
end
theorem Ut {K:AB}{tc:TT}{te:TE}{k:Nat}{Q:VK} (p:V->Bool) (f:V->V) (hl:jg K H a xs) (hz:xs.length<=sizeLine)
  (step:∀x∈xs,∀(H':Hp) (Qy:VK) (Qn:Hp->Prop),Same H H'->(p x=true->Qy (f x) H')->(p x=false->Qn H')->g x (σ++List.replicate k none) H' λσ2 H2=>(∃zs,σ2=σ++zs/\zs.length=k)/\tc σ2 H2 λb H3=>if b=true then te σ2 H3 Qy else Qn H3)
  (q:∀D,H D=none->Q (.ref D) (upd H D (.lst ((xs.filter p).map f)))) :
  vM k g tc te σ Q (k6 K a) H:=by
 intro D hD;have sm:∀ys,Same H (upd H D (.lst ys)):=λys b o e=>by rw[jw (jy e hD)];exact e
 refine#[λi m ys H'=>m=xs.length - i/\i<=xs.length/\ys=((xs.take i).filter p).map f/\H'=upd H D (.lst ys),#[xs.length,by simp,yT _,by simp,rfl],?_];rintro i m ys H' ⟨rfl,hi,rfl,rfl⟩;refine#[jc,?_];have q1:jg K (upd H D (.lst (((xs.take i).filter p).map f))) a xs:=(sm _).seq hl;by_cases AX:i<xs.length
 ·refine .inr #[#[xs,xs[i],q1,by simp [AX]],?_,λx H2 y=>?_]
  ·have:=QQ p (xs.take i);rw[ya];simp only[yI] at this;omega
  ·obtain⟨rfl,y⟩:=y;have hx:xs[i]?=some x:=y xs q1;have hm:x∈xs:=yk hx;have et:(xs.take (i+1)).filter p=(xs.take i).filter p++(if p x then [x] else []):=take_succ_filter p xs i x hx;refine step x hm _ _ _ (sm _) (λhp=>#[jc,xs.length - (i+1),by omega,rfl,AX,?_,?_]) λhp=>#[xs.length - (i+1),by omega,rfl,AX,?_,rfl]
   ·rw[et,hp];simp
   ·rw[rj]
   ·rw[et,hp];simp
 ·obtain rfl:i=xs.length:=by omega
  refine .inl #[#[xs,q1,yh _],?_];rw[List.take_length];exact q D hD
end L2
namespace L2
open PySem PySem.Spec PyProof.Rows PySem.W
section
variable {X:Cx}
theorem uT:∀{cs:AI} {us:AH},jz (cs.map V.ref) us->us=cs.map Value.ref
 | [],_,.nil=>rfl
 | _::_,_,.cons r t=>by cases r;rw[uT t];rfl
end
def ou (x:Str):It:=#[λi _=>i<x.length,λi H v H'=>H'=H/\∃c,x.cps[i]?=some c/\v=.str #[(List.toArray [c])],λi _=>x.length<=i]
theorem zy (x:Str):strIterType x="str_ascii_iterator"\/strIterType x="str_iterator":=by
 unfold strIterType;split
 ·exact .inl rfl
 ·exact .inr rfl
theorem lY {P:AS}{w:World}{K:AB}{tg:Expr} (it:Addr) (x:Str) (t:Tok):Vb P w K tg (ou x) [it] it (λi h=>h.IsStrIter it (strIterType x) x t i) false where
 mem:=by simp
 obj:=λi h st b hb=>by
  obtain rfl:b=it:=by simpa using hb
  obtain⟨o,e,c,d⟩:=st;exact#[o,e,λv z=>by rw[d] at z;cases z]
 keep:=λi h h' st k=>by
  obtain⟨o,e,r⟩:=st;exact#[o,k it (by simp) o e,r]
 item:=by
  intro X hP hw hK hc i pins s σ H E I hf st hg;subst hP hw hK;obtain⟨f0,f1,f2,f3,f4,f5⟩:=hf it (by simp);have hi:i<x.cps.size:=hg;have hx:x.cps[i]?=some x.cps[i]:=yU hi;have fin:∀h',h'.IsStrIter it (strIterType x) x t (i+1)->Heap.SameBut it s.heap h'->∃u,some (Value.str #[(List.toArray [x.cps[i]])] s.toks)=some u /\
    wpAny (model X.prog X.w) X.A (letOwnedTupleGo tg (.ref it) u) (λ_ s2=>∃v H',ji X pins σ H' s2/\jE v u/\(ou x).yld i H v H'/\s2.heap.IsStrIter it (strIterType x) x t (i+1)/\∀b∈[it],H' b=none) E { s with heap:=h',toks:=s.toks+1 }:=λh' Bp sb=>by
   have I1:ji X pins σ H { s with heap:=h',toks:=s.toks+1 }:=I.turned (λb o hb e=>(sb.2 b hb).trans e) f0 f1 f3 f4 f5;obtain⟨o,e,c,d⟩:=id Bp;refine#[_,rfl,ZN (s:={ s with heap:=h',toks:=s.toks+1 }) e c d ?_ #[.str #[(List.toArray [x.cps[i]])],H,I1,#[_,rfl],#[rfl,_,hx,rfl],Bp,λb hb=>(hf b hb).1]];rcases zy x with z|z<;>(rw[z];decide)
  rcases zy x with z|z
  ·refine wpAny_pyNext_ascii_item (z▸st) hx λh' Bp sb=>fin h' (z▸Bp) sb
  ·refine wpAny_pyNext_wide_item (z▸st) hx λh' Bp sb=>fin h' (z▸Bp) sb
 done:=by
  intro X hP hw hK hc i pins s σ H E I hf st hg;subst hP hw hK;obtain⟨f0,f1,f2,f3,f4,f5⟩:=hf it (by simp);have hx:x.cps[i]?=none:=Q3 (show x.cps.size<=i from hg);rcases zy x with z|z
  ·exact io (I.hn.now I.hok) (z▸st) hx λh' eb=>#[rfl,I.turned (t':=s.toks) (λb o hb e=>eb b o hb e) f0 f1 f3 f4 f5]
  ·exact rm (I.hn.now I.hok) (z▸st) hx λh' eb=>#[rfl,I.turned (t':=s.toks) (λb o hb e=>eb b o hb e) f0 f1 f3 f4 f5]
 self:=λA i s Q E st h=>by
  rcases zy x with z|z
  ·exact wpAny_pyIter_striter_ascii (z▸st) h
  ·exact wpAny_pyIter_striter_wide (z▸st) h
section
variable {X:Cx}{tg:Expr}
inductive oM (R:It->Hp->Prop) (v:V) (H1:Hp):Prop
 | mk (x:_) (h0:v=.str x) (h1:R (ou x) H1):oM R v H1
def xA (tl:TE):TI:=λσ H R=>tl σ H λv H1=>oM R v H1
theorem sL {l:Expr}{tl:TE} (hl:PE X l tl):PI X tg l (xA tl):=by
 intro pins s σ H R I h;refine jA (hl pins s σ H _ I h) λv s1 hh=>?_;obtain⟨y,H1,I1,r1,x,e,q⟩:=hh;subst e;obtain⟨t,rfl⟩:=r1;refine wpAny_pyIter_strU ?_;refine#[s1.heap.objs.size,[s1.heap.objs.size],_,_,H1,rfl,I1.kept (t':=s1.toks) λb o e=>yd _ e,zp.of (lY _ x t),#[_,yo _ rfl,rfl,rfl],λb hb=>?_,q];obtain rfl:b=s1.heap.objs.size:=by simpa using hb
 exact I1.fpOk (yh _) (I1.hok.fresh (yh _))
end
section
variable {X:Cx}{e:Expr}{te:TE}{pos p2 q1 q2:Pos}{j1 j2:Nat}
theorem cS {bs:List Bool}:(List.range bs.length).all (λj=>bs.getD j true)=bs.all id:=by
 rw[Qf,QC,QC];constructor
 ·intro h b hb;obtain⟨j,hj,rfl⟩:=yD hb;have:=h j (yE.mpr hj);rwa [yl,yb hj] at this
 ·intro h j hj;have hj:=yE.mp hj;rw[yl,yb hj];exact h _ (yB hj)
theorem V0 (hc:X.calm=true):Jf X (.builtin "all") (λxs H Q=>E2 λ(p:Addr) (bs:List Bool)=>A3 (xs=[.ref p]) (jg X.K H p (bs.map V.bl)) (Q (.bl (bs.all id)) H)):=by
 intro pins s σ H xs us Q I r h;obtain⟨p,bs,rfl,hq,q⟩:=h;obtain⟨u,rfl,ru⟩:=J1 r;cases ru;obtain⟨AV,rv,pl,_⟩:=I.list hq;have hlen:AV.length=bs.length:=by rw[<-rv.length,ya]
 have Ej:∀(i:Nat) (v:Value),AV.toArray[i]?=some v->v=.bool (bs.getD i true):=λi v e=>by
  have e':AV[i]?=some v:=by simpa using e
  have hi:i<bs.length:=by rw[<-hlen];exact (yc.mp e').1
  obtain⟨u,hu,ru⟩:=rv.get (i:=i) (x:=V.bl bs[i]) (by simp [hi]);rw[e'] at hu;cases hu;obtain rfl:=ru;rw[yl,yb hi];rfl
 have AX:p<s.heap.objs.size:=by obtain⟨_,e,_⟩:=pl.isList;exact ym e
 refine call_all_walk (wpAny_pyIter_list pl.isList ?_);refine#[_,_,_,_,_,_,λj=>bs.getD j true,rfl,Walks.list (A:=X.A.in1) (I.ok.hd hc) s.heap.objs.size p (yx AX) AV.toArray,#[#[_,yo _ rfl,rfl,rfl],pl.isList.push _],?_,λh' tk hk=>?_]
 ·intro i v s' Q' E' hP Eg;obtain rfl:=Ej i v hP;exact wpAny_of_eq rfl Eg
 ·rw[yg,hlen,cS];exact#[.bl _,H,I.kept λb o e=>hk b o (λhm=>by simp at hm;exact absurd (hm▸ym e) (QI _)) (yd _ e),rfl,q]
end
end L2
namespace Wd
open PySem L2 PySem.NumText PySem.W
theorem len_list (x:Str):x.length=x.cps.toList.length:=by simp [Str.length]
end Wd
namespace L2
open PySem PySem.Spec PyProof.Rows
variable {H:Hp}
theorem oE:bootBuiltins "all"=some (.builtin "all"):=by decide +kernel
theorem zF {H':Hp}{D:Addr}{o:HO} (hD:H D=none) (s:Same H H'):Same H (upd H' D o):=λb u e=>by rw[jw (jy e hD)];exact s b u e
theorem iy {x:Str}{g:TG}{tc:TT}{te:TE}{k:Nat}{σ:St}{Q:VK} (p:Nat->Bool) (f:Nat->V) (hz:x.length<=sizeLine)
  (step:∀c∈x.cps.toList,∀(H':Hp) (Qy:VK) (Qn:Hp->Prop),Same H H'->(p c=true->∀Cz,Same H' Cz->Qy (f c) Cz)->(p c=false->∀Cz,Same H' Cz->Qn Cz)->g (.str #[(List.toArray [c])]) (σ++List.replicate k none) H' λσ2 H2=>(∃zs,σ2=σ++zs/\zs.length=k)/\tc σ2 H2 λb H3=>if b=true then te σ2 H3 Qy else Qn H3)
  (q:∀D H',H D=none->Same H H'->H' D=some (.lst ((x.cps.toList.filter p).map f))->Q (.ref D) H'):vM k g tc te σ Q (ou x) H:=by
 intro D hD;have hn:x.length=x.cps.toList.length:=Wd.len_list x;refine#[λi m ys H'=>m=x.length - i/\i<=x.length/\ys=((x.cps.toList.take i).filter p).map f/\Same H H'/\H' D=some (.lst ys),#[x.length,by simp,yT _,by simp,zF hD (Same.refl H),jc],?_];rintro i m ys H' ⟨rfl,hi,rfl,sm,eD⟩;refine#[eD,?_];by_cases AX:i<x.length
 ·refine .inr #[AX,?_,λv H2 y=>?_]
  ·have:=QQ p (x.cps.toList.take i);rw[ya];simp only[yI] at this;omega
  ·obtain⟨rfl,c,hc,rfl⟩:=y;have hx:x.cps.toList[i]?=some c:=by rw[yN];exact hc
   have et:(x.cps.toList.take (i+1)).filter p=(x.cps.toList.take i).filter p++(if p c then [c] else []):=by
    rw[List.take_add_one,hx,Q5];congr 1;cases Rm:p c<;>simp [List.filter,Rm]
   refine step c (yk hx) _ _ _ sm (λhp H4 s4=>#[s4 _ _ eD,x.length - (i+1),by omega,rfl,AX,?_,zF hD (Same.trans sm s4),jc]) λhp H4 s4=>#[x.length - (i+1),by omega,rfl,AX,?_,Same.trans sm s4,s4 _ _ eD]
   ·rw[et,hp];simp
   ·rw[et,hp];simp
 ·obtain rfl:i=x.length:=by omega
  refine .inl #[yh _,?_];rw[hn,List.take_length] at eD;exact q D H' hD sm eD
end L2
namespace L2
open PySem PySem.Spec PyProof.Rows PySem.W
variable {H:Hp}{a:Addr}{xs:List V}{g:TG}{tc:TT}{te:TE}{σ:St}{Q:VK}
theorem Vc {α:Type} [DecidableEq α] (d:α) (xs ys:List α):((List.range (min xs.length ys.length)).all (λj=>decide (xs.getD j d=ys.getD j d))&&xs.length==ys.length)=decide (xs=ys):=by
 rw[Qf,QP,QC,decide_eq_true_iff,beq_iff_eq];constructor
 ·rintro⟨h,hl⟩;refine yX hl λj h1 h2=>?_;have:=of_decide_eq_true (h j (yE.mpr '!'));rwa [yl,yl,yb h1,yb h2] at this
 ·rintro rfl;exact#[λj _=>decide_eq_true rfl,rfl]
theorem Same.sqT {K:AB}{H':Hp} (e:Same H H') (h:jB K H a xs):jB K H' a xs:=by
 rcases h with (h|⟨o,h⟩)|h
 ·exact .inl (.inl (e _ _ h))
 ·exact .inl (.inr #[o,e _ _ h])
 ·exact .inr h
section
variable {X:Cx}{pins:AF}{σ:St}{H:Hp}{s:Shared}
theorem Km {A:Around}{AV A0:AH}{ns ms:List Int} (r1:jz (ns.map V.int) AV) (r2:jz (ms.map V.int) A0) (j:Nat) (h1:j<AV.toArray.size) (h2:j<A0.toArray.size) :
  SeqAt.EqAt A s AV.toArray[j] A0.toArray[j] (decide (ns.getD j 0=ms.getD j 0)):=by
 have l1:=r1.length;have l2:=r2.length;rw[ya] at l1 l2;rw[yg] at h1 h2;have g1:j<ns.length:=by omega
 have g2:j<ms.length:=by omega
 obtain⟨u,hu,ru⟩:=r1.get (i:=j) (x:=V.int ns[j]) (by simp [g1]);obtain⟨v,hv,rv⟩:=r2.get (i:=j) (x:=V.int ms[j]) (by simp [g2]);obtain⟨t,rfl⟩:=ru;obtain⟨t2,rfl⟩:=rv;have e1:AV.toArray[j]=.int ns[j] t:=by
  rw[yS];exact Option.some.inj ((yb h1).symm.trans hu)
 have e2:A0.toArray[j]=.int ms[j] t2:=by
  rw[yS];exact Option.some.inj ((yb h2).symm.trans hv)
 rw[e1,e2];have e3:(ns[j]==ms[j])=decide (ns.getD j 0=ms.getD j 0):=by
  rw[yl,yl,yb g1,yb g2];rw[Qf,beq_iff_eq,decide_eq_true_iff];rfl
 rw[<-e3];exact SeqAt.EqAt.int_int _ _ _ _
end
theorem bD {K:AB}{k:Nat} (p:V->Bool) (f:V->V) (hl:jB K H a xs) (hz:xs.length<=sizeLine)
  (step:∀x∈xs,∀(H':Hp) (Qy:VK) (Qn:Hp->Prop),Same H H'->(p x=true->∀Cz,Same H' Cz->Qy (f x) Cz)->(p x=false->∀Cz,Same H' Cz->Qn Cz)->g x (σ++List.replicate k none) H' λσ2 H2=>(∃zs,σ2=σ++zs/\zs.length=k)/\tc σ2 H2 λb H3=>if b=true then te σ2 H3 Qy else Qn H3)
  (q:∀D H',H D=none->Same H H'->H' D=some (.lst ((xs.filter p).map f))->Q (.ref D) H'):vM k g tc te σ Q (NZ K a) H:=by
 intro D hD;refine#[λi m ys H'=>m=xs.length - i/\i<=xs.length/\ys=((xs.take i).filter p).map f/\Same H H'/\H' D=some (.lst ys),#[xs.length,by simp,yT _,by simp,zF hD (Same.refl H),jc],?_];rintro i m ys H' ⟨rfl,hi,rfl,sm,eD⟩;refine#[eD,?_];have q1:jB K H' a xs:=sm.sqT hl;by_cases AX:i<xs.length
 ·refine .inr #[#[xs,xs[i],q1,by simp [AX]],?_,λx H2 y=>?_]
  ·have:=QQ p (xs.take i);rw[ya];simp only[yI] at this;omega
  ·obtain⟨rfl,y⟩:=y;have hx:xs[i]?=some x:=y xs q1;have et:(xs.take (i+1)).filter p=(xs.take i).filter p++(if p x then [x] else []):=take_succ_filter p xs i x hx;refine step x (yk hx) _ _ _ sm (λhp H4 s4=>#[s4 _ _ eD,xs.length - (i+1),by omega,rfl,AX,?_,zF hD (Same.trans sm s4),jc]) λhp H4 s4=>#[xs.length - (i+1),by omega,rfl,AX,?_,Same.trans sm s4,s4 _ _ eD]
   ·rw[et,hp];simp
   ·rw[et,hp];simp
 ·obtain rfl:i=xs.length:=by omega
  refine .inl #[#[xs,q1,yh _],?_];rw[List.take_length] at eD;exact q D H' hD sm eD
theorem zq {lo:Int}{n:Nat}{k:Nat} (Pv:Addr->Nat->List V->Hp->Prop) (hn:n<=sizeLine)
  (h0:∀D,H D=none->Pv D 0 [] (upd H D (.lst []))) (hD:∀D i ys H',Pv D i ys H'->H' D=some (.lst ys)/\ys.length=i)
  (step:∀D i ys H' (Qy:VK) (Qn:Hp->Prop),i<n->Pv D i ys H'->(∀y H4,H4 D=some (.lst ys)->Pv D (i+1) (ys++[y]) (upd H4 D (.lst (ys++[y])))->Qy y H4) ->
   g (.int (lo+i)) (σ++List.replicate k none) H' λσ2 H2=>(∃zs,σ2=σ++zs/\zs.length=k)/\tc σ2 H2 λb H3=>if b=true then te σ2 H3 Qy else Qn H3)
  (q:∀D ys H',H D=none->Pv D n ys H'->Q (.ref D) H'):vM k g tc te σ Q (m9 lo n) H:=by
 intro D CA;refine#[λi m ys H'=>m=n - i/\i<=n/\Pv D i ys H',#[n,by simp,yT _,h0 D CA],?_];rintro i m ys H' ⟨rfl,hi,p⟩;obtain⟨e,hl⟩:=hD D i ys H' p;refine#[e,?_];by_cases AX:i<n
 ·refine .inr #[AX,by omega,λx H2 y=>?_];obtain⟨rfl,rfl⟩:=y;exact step D i ys H2 _ _ AX p λy H4 e4 p4=>#[e4,n - (i+1),by omega,rfl,AX,p4]
 ·obtain rfl:i=n:=by omega
  exact .inl #[yh _,q D ys H' CA p]
theorem uh {K:AB}{k:Nat} (Pv:Addr->Nat->List V->Hp->Prop) (hz:xs.length<=sizeLine)
  (h0:∀D,H D=none->Pv D 0 [] (upd H D (.lst []))) (hD:∀D i ys H',Pv D i ys H'->H' D=some (.lst ys)/\ys.length<=i/\jg K H' a xs)
  (step:∀D i x ys H' (Qy:VK) (Qn:Hp->Prop),xs[i]?=some x->Pv D i ys H'->(∀y H4,H4 D=some (.lst ys)->Pv D (i+1) (ys++[y]) (upd H4 D (.lst (ys++[y])))->Qy y H4)->(∀H4,Pv D (i+1) ys H4->Qn H4) ->
   g x (σ++List.replicate k none) H' λσ2 H2=>(∃zs,σ2=σ++zs/\zs.length=k)/\tc σ2 H2 λb H3=>if b=true then te σ2 H3 Qy else Qn H3)
  (q:∀D ys H',H D=none->Pv D xs.length ys H'->Q (.ref D) H'):vM k g tc te σ Q (k6 K a) H:=by
 intro D CA;refine#[λi m ys H'=>m=xs.length - i/\i<=xs.length/\Pv D i ys H',#[xs.length,by simp,yT _,h0 D CA],?_];rintro i m ys H' ⟨rfl,hi,p⟩;obtain⟨e,hl,q1⟩:=hD D i ys H' p;refine#[e,?_];by_cases AX:i<xs.length
 ·refine .inr #[#[xs,xs[i],q1,by simp [AX]],by omega,λx H2 y=>?_];obtain⟨rfl,y⟩:=y;exact step D i x ys H2 _ _ (y xs q1) p (λy H4 e4 p4=>#[e4,xs.length - (i+1),by omega,rfl,AX,p4]) λH4 p4=>#[xs.length - (i+1),by omega,rfl,AX,p4]
 ·obtain rfl:i=xs.length:=by omega
  exact .inl #[#[xs,q1,yh _],q D ys H' CA p]
section
variable {X:Cx}{K:AB}
theorem zQ (h:X.K=K):Jf X (.type "list") (λxs H Q=>E2 λp ys=>A3 (xs=[.ref p]) (jg K H p ys\/jB K H p ys) (∀l,H l=none->Q (.ref l) (upd H l (.lst ys)))):=by
 subst h;exact Vd
theorem K4 (h:X.K=K):Jf X (.builtin "len") (λxs H Q=>E2 λp ys=>A3 (xs=[.ref p]) (jg K H p ys\/jB K H p ys) (Q (.int ys.length) H)):=by
 subst h;exact jU
end
end L2
namespace L2
open PySem PySem.Spec PyProof.Rows
variable {h':Heap}{s:Shared}{σ:St}{H H':Hp}{Q:Ax}{x qual:Str}{u:Value}{y v:V}{P:AS}{w:World}{a b f:Addr}{kvs:List (List Key×V)}{xs:List (List Key×Addr×Value)}{pos:Pos}{X:Cx}{DQ:List (TE×TE)}{st:Stmt}
section
variable {X:Cx}
def qL:V->List V->Hp->VK->Prop:=λx vs H Q=>∃l xs y,∃i:Int,x=.ref l/\vs=[.int i,y]/\H l=some (.lst xs)/\xs.length<sizeLine/\0<=i/\i<2^63/\Q .non (upd H l (.lst (xs.take (min i.toNat xs.length)++[y]++xs.drop (min i.toNat xs.length))))
theorem dY:Mb X "list.insert" qL:=by
 intro pins s σ H x vs v us Q I rx rv h;obtain⟨l,xs,y,i,rfl,rfl,hH,hz,h0,hi,q⟩:=h;cases rx;cases rv with
 | cons ra rr =>
  cases rr with
  | cons rb rr =>
   cases rr;obtain⟨t,rfl⟩:=ra;rename_i yv;obtain⟨z,AV,n,r,hl,e⟩:=I.lstM hH;have hlen:=r.length;have Iy:¬(!Builtin.List.listFitsIndex i)=true:=by rw[fitsIndex_both '!' hi];decide
   have hm:=AutoListH.list_insert_list_int_val_1 l AV.toArray n i t yv Iy (by rw[yg];omega);refine call_meets F.slot_list_insert #[_,e,rfl] F.entry_list_insert (F.args_list_insert_3 _ _ _) hm #[e,?_];refine#[.non,_,I.lset (its':=AV.take (min i.toNat xs.length)++[yv]++AV.drop (min i.toNat xs.length)) hH e ?_ (((r.take _).append (.cons rb .nil)).append (r.drop _)) ?_,rfl,q]
   ·dsimp only;rw[if_neg '!',yg,hlen]
    apply Array.toList_inj.mp
    simp only[Array.toList_append,Array.toList_push,Array.toList_extract,Qh];have e1:AV.extract 0 (min i.toNat AV.length)=AV.take (min i.toNat AV.length):=by simp [List.extract_eq_drop_take]
    have e2:AV.extract (min i.toNat AV.length)=AV.drop (min i.toNat AV.length):=by
     rw[List.extract_eq_drop_take];exact Q4 (by rw[Q0];omega)
    rw[e1,e2]
   ·rw[yj,yj,yI,Q0,List.length_singleton];omega
end
abbrev Cx.blkN (X:Cx) (N0:AM) (scope:Scope) (cl:AJ) (C:Addr) (own:AM) (s:Shared) (H:Hp) (fp:AI) (pins:AF):Cx :=
 { X.blk scope cl C own s H fp pins with N:=N0++own }
structure uV (X:Cx) (N0:AM) (scope:Scope) (cl:AJ):Prop where
 clos:closureFor scope X.env=pure cl
 kind:scope.kind=.function
 nocell:∀y∈scope.names,y.2≠.cell
 names:∀y∈scope.names,y.2=.local->scope.names.lookup y.1=some .local
 sub:∀x c,cl.lookup x=some c->X.env.cells.lookup x=some c
 has:∀x,scope.names.lookup x=some .free->∃c,cl.lookup x=some c
 outer:∀x,scope.names.lookup x=some .free->X.env.kindOf x=some .cell\/X.env.kindOf x=some .free
 lenN:N0.length=X.N.length
 nm:∀(i:Nat) (x:Str),N0[i]?=some x->(X.N[i]?=some x/\scope.names.lookup x≠some .local)\/scope.names.lookup x=none
section
variable {X:Cx}{scope:Scope}{cl:AJ}{own N0:AM}{pins:AF}{σ:St}{H2 H3:Hp}{s2:Shared}{fp:AI}{C:Addr}{h1:Heap}
theorem pS (S:uV X N0 scope cl) (I2:ji X pins σ H2 s2) (f2:∀b∈fp,vY X pins H2 b) (AX:∀b∈fp,b<s2.heap.objs.size) (hC:s2.heap.objs.size<=C) {m:AE} (Ck:h1.Ns C m)
  (keep:∀b o,s2.heap.get? b=some o->h1.get? b=some o) (hH:∀b o,s2.heap.get? b=some o->H2 b=none->H3 b=none) (un:Un (uv X.stack) fp H2 H3 s2.heap h1) (hok:Js X.prog X.w H3 h1) (Ro:H3 C=none) {tk:Nat} :
  ji (X.blkN N0 scope cl C own s2 H2 fp pins) [] (σ++List.replicate own.length none) H3 { s2 with heap:=h1,toks:=tk }:=by
 have EK:∀b o,s2.heap.get? b=some o->b≠C:=λb o e=>yx (yJ (ym e) hC);have Iz:∀x,(compEnvC scope cl C X.env).kindOf x=(scope.names.lookup x).map λk=>if (k==NameKind.free&&X.env.scope.kind==.function&&X.env.kindOf x==some .cell) then NameKind.cell else k:=λx=>Zo
 have BU:∀x,((compEnvC scope cl C X.env).kindOf x=some .cell\/(compEnvC scope cl C X.env).kindOf x=some .free)->scope.names.lookup x=some .free:=λx hx=>by
  rw[Iz x] at hx;cases q:scope.names.lookup x with
  | none=>rw[q] at hx;rcases hx with z|z<;>cases z
  | some k =>
   rw[q] at hx;have nc:=S.nocell _ (Gx q);cases k<;>simp_all
 refine#[#[I2.ok.mod,S.kind,I2.ok.glob,I2.ok.blt,hC,λx y c e1 e2=>I2.ok.inj x y c (S.sub x c e1) (S.sub y c e2),λx hx=>S.has x (BU x hx),λx c z _=>(by cases z),I2.ok.hd,I2.ok.frames,.inl rfl,
  λb hb=>#[yx (yJ (AX b hb) hC),λx c e=>(f2 b hb).2.2.2.2.1 x c (S.sub x c e)],λb o e=>#[(I2.bs b o e).1,(I2.bs b o e).2],yp I2.ok.bsz I2.sz,λb o e hb=>?_,λb hb=>Nf I2 (f2 b hb).2.1 (f2 b hb).2.2.1,I2.stack,I2.stkFree],
  rfl,I2.bare,un,#[m,Ck,λi x v e1 e2 e3=>?_],λx c e=>?_,Ro,λx c e=>?_,λp hp=>?_,hok,?_,I2.hn.mono un.frzs]
 ·rcases (f2 b hb).2.2.2.1 with z|z
  ·exact I2.ok.noex b o e z
  ·exact absurd (yJ (yJ (ym e) I2.ok.bsz) z) (QI _)
 ·
  have hi:i<σ.length:=by
   apply Classical.byContradiction
   intro hn;rw[yG '!',List.getElem?_replicate] at e2
   split at e2<;>cases e2
  rw[yC hi] at e2;have hi2:i<N0.length:=by rw[S.lenN,<-I2.len];exact hi
  have Rp:N0[i]?=some x:=by rw[<-yC (l₂:=own) hi2];exact e1
  have Hf:=S.nm i x Rp;have OA:(compEnvC scope cl C X.env).kindOf x=some .local\/(compEnvC scope cl C X.env).kindOf x=some .cell\/(compEnvC scope cl C X.env).kindOf x=some .free:=e3;have Hf:X.N[i]?=some x/\scope.names.lookup x≠some .local:=Hf.resolve_right λz=>by
   have k0:=Iz x;rw[z] at k0;rcases OA with q|q|q<;>(rw[k0] at q;cases q)
  have Rq:X.N[i]?=some x:=Hf.1;have nl:(compEnvC scope cl C X.env).kindOf x≠some .local:=λz=>by
   rw[Iz x] at z;cases q:scope.names.lookup x with
   | none=>rw[q] at z;cases z
   | some k =>
    rw[q,Option.map_some] at z;have na:=Hf.2;rw[q] at na;cases k<;>first
     | exact na rfl
     | (have z':=Option.some.inj z;split at z'<;>cases z')
  have IA:(compEnvC scope cl C X.env).kindOf x=some .cell\/(compEnvC scope cl C X.env).kindOf x=some .free:=OA.resolve_left nl;obtain⟨c,hc⟩:=S.has x (BU x IA);obtain⟨m0,hn0,Rr⟩:=I2.loc;have Rt:=S.sub x c hc;have ho:=S.outer x (BU x IA);obtain⟨u,r,l⟩:=Rr i x v Rq e2 (.inr ho);refine⟨u,r,.inr ⟨IA,c,hc,?_⟩⟩;rcases l with ⟨z,_⟩|⟨_,c',C7,oc,C6,Hg⟩
  ·rcases ho with y|y<;>(rw[y] at z;cases z)
  ·rw[Rt] at C7;cases C7;exact⟨oc,keep _ _ C6,Hg⟩
 ·obtain⟨v,⟨oc,C6,Hg⟩⟩:=I2.cell x c (S.sub x c e);exact⟨v,oc,keep _ _ C6,Hg⟩
 ·obtain⟨v,⟨oc,C6,Hg⟩⟩:=I2.cell x c (S.sub x c e);exact hH c oc C6 (I2.freeC x c (S.sub x c e))
 ·obtain⟨q1,q2,q3,q4,q5⟩:=I2.pin p (by simpa using hp);exact⟨keep _ _ q1,hH _ _ q1 q2,EK _ _ q1,Nf I2 q3 q4,q5⟩
 ·show (σ++List.replicate own.length none).length=(N0++own).length;rw[yj,yj,List.length_replicate,I2.len,S.lenN]
theorem iq (I2:ji X pins σ H2 s2) (f2:∀b∈fp,vY X pins H2 b) (hC:s2.heap.objs.size<=C) {pl:AF} {σ':St} {s4:Shared} (I4:ji (X.blkN N0 scope cl C own s2 H2 fp pins) pl σ' H3 s4) (sb:Heap.SameBut C s4.heap h') :
  ji X pins σ H3 { s4 with heap:=h' }:=by
 have un:Un (uv X.stack) fp H2 H3 s2.heap s4.heap:=I4.base;have nC:s2.heap.get? C=none:=Qi hC;have CF:C ∉ uv X.stack:=λz=>by
  obtain⟨_,o,ho,_⟩:=I2.stack.mem z;rw[nC] at ho;cases ho
 have Io:Un (uv X.stack) fp H2 H3 s2.heap h':=un.late (ch:=[C]) (λb hb=>by
  obtain rfl:b=C:=by simpa using hb
  exact nC) (λb o _ hb e=>(sb.2 b (by simpa using hb)).trans e) λb o hb e=>#[o.slots,(sb.2 b λz=>CF (z▸hb)).trans e]
 have hf:H3 C=none:=I4.free;have hok:Js X.prog X.w H3 h':=λb o e=>(I4.hok b o e).stay (λc u hc q=>(sb.2 c λz=>by
  subst z;rcases hc with z|z
  ·rw[z,e] at hf;cases hf
  ·rw[z] at hf;cases hf).trans q) (λ_ q=>q) λ_ _ q=>q
 exact I2.call' (s':={ s4 with heap:=h' }) (ch:=fp) I4.os Io hok I4.bare λb hb=>#[(f2 b hb).2.2.2.1,(f2 b hb).2.1,(f2 b hb).2.2.2.2.1,(f2 b hb).2.2.2.2.2]
end
section
variable {X:Cx}{tg elt iter:Expr}{ifs:AO}{scope:Scope}{cl:AJ}{own N0:AM}{wi:TI}{g:TG}{tc:TT}{te:TE}{pos:Pos}
theorem Gf {p2:Pos}{use:Option (Value->Sem Unit)}{QV:Ax}{pins:AF}{Q:VK} (S:uV X N0 scope cl) (hi:PI X tg iter wi)
  (hg:∀C s H fp pins,PG (X.blkN N0 scope cl C own s H fp pins) tg g) (ht:∀C s H fp pins,PF (X.blkN N0 scope cl C own s H fp pins) ifs tc) (he:∀C s H fp pins,PE (X.blkN N0 scope cl C own s H fp pins) elt te)
  (hs:∀x,foldedSetIterable iter X.env x=pure x) (I:ji X pins σ H s) (h:ZU wi own.length g tc te σ H Q)
  (fin:∀D C s2 H2 H3 s4,ji X pins σ H2 s2->s2.heap.objs.size<=C->H3 C=none->(∃m,s4.heap.Ns C m)->(∀h',Heap.SameBut C s4.heap h'->ji X pins σ H3 { s4 with heap:=h' })->Q (.ref D) H3->compPost (model X.prog X.w) X.A X.xe use QV (.ref D) C (.ok .next) s4) :
  wpAny (model X.prog X.w) X.A (comprehension (.ListComp elt [#[tg,iter,ifs,0]] scope pos) scope X.env p2 (newList []) false (eval iter X.env) use) QV X.xe s:=by
 refine wpAny_comprehension_free (use:=use) rfl hs S.clos S.kind S.names (jA (hi pins s σ H _ I h) λv s1 h1=>jA h1 λHX s2 h2=>?_);obtain⟨it,fp,tn,J,H2,e,I2,T,Ed,f2,R⟩:=h2;subst e;obtain⟨nm,T,hc⟩:=T;refine wpAny_newObj_type (wpAny_newFunctionEnv S.nocell (by intro y hy;simp at hy) (λh1 Ck IB=>?_) S.kind);dsimp only at Ck IB ⊢;have AX:∀b∈fp,b<s2.heap.objs.size:=λb hb=>by
  obtain⟨o,ho,_⟩:=T.obj 0 _ Ed b hb;exact ym ho
 generalize hp:s2.heap.push { cls:=.type "list",dict:=none,data:=.seq ([]:AH).toArray }=hl at Ck IB ⊢;have hC:hl.objs.size=s2.heap.objs.size+1:=by rw[<-hp,Qs]
 have CB:s2.heap.objs.size<=hl.objs.size:=by rw[hC];exact Nat.le_succ _
 have Ru:s2.heap.objs.size≠hl.objs.size:=by rw[hC];exact yx (Wa _)
 have old:∀b o,hl.get? b=some o->h1.get? b=some o:=λb o e=>IB.extBut b o (yx (ym e)) (yd _ e);have CC:∀b o,s2.heap.get? b=some o->h1.get? b=some o:=λb o e=>old b o (hp▸yd _ e);have Dn:H2 s2.heap.objs.size=none:=I2.fresh;have Cn:H2 hl.objs.size=none:=I2.hok.fresh CB;obtain⟨W,⟨m0,w0⟩,step⟩:=R s2.heap.objs.size Dn;have Cy:h1.get? s2.heap.objs.size=some { cls:=.type "list",data:=.seq ([]:AH).toArray }:=old _ _ (hp▸yo _ rfl);have I3:ji (X.blkN N0 scope cl hl.objs.size own s2 H2 fp pins) [] (σ++List.replicate own.length none) (upd H2 s2.heap.objs.size (.lst [])) { s2 with heap:=h1,toks:=s2.toks+([]:List (Str×Value)).length } :=
  pS S I2 f2 AX CB Ck CC (λb o e n=>jq (yx (ym e)) n) (Un.laid CC (yh _) Dn) (I2.hok.laid CC (yh _) (show jP X.prog X.w (upd H2 s2.heap.objs.size (.lst [])) h1 s2.heap.objs.size (.lst []) from#[yT _,[],0,.nil,Cy])) (jq (yZ Ru) Cn)
 have Rv:∀b∈fp,upd H2 s2.heap.objs.size (.lst []) b=none:=λb hb=>by rw[jw (yx (AX b hb))];exact (f2 b hb).1
 have BS:∀{H':Hp},(∀b∈fp,H' b=none)->∀b∈fp,vY (X.blkN N0 scope cl hl.objs.size own s2 H2 fp pins) [] H' b:=λhn b hb =>
  #[hn b hb,yx (yJ (AX b hb) CB),Nf I2 (f2 b hb).2.1 (f2 b hb).2.2.1,.inl hb,λx c e=>(f2 b hb).2.2.2.2.1 x c (S.sub x c e),λp hp=>(f2 b hb).2.2.2.2.2 p (by simpa using hp)]
 have loop:∀s3:Shared,s3={ s2 with heap:=h1,toks:=s2.toks+([]:List (Str×Value)).length } ->
   codeAny (model X.prog X.w) X.A (.compLoop (.ListComp elt [#[tg,iter,ifs,0]] scope pos) 0 (.ref it) (.ref s2.heap.objs.size) (compEnvC scope cl hl.objs.size X.env)) (compPost (model X.prog X.w) X.A X.xe use QV (.ref s2.heap.objs.size) hl.objs.size) s3:=by
  rintro s3 rfl;refine bE (λn s'=>∃i ys H',ji (X.blkN N0 scope cl hl.objs.size own s2 H2 fp pins) [] (σ++List.replicate own.length none) H' s'/\tn i s'.heap/\(∀b∈fp,H' b=none)/\W i n ys H') ?_ m0
   #[0,[],_,I3,T.keep 0 _ _ Ed (λb _ o e=>CC b o e),Rv,w0]
  rintro n s3 ⟨i,ys,H3,J3,Ff,Fg,w3⟩;obtain⟨hD,⟨stop,q⟩|⟨go,hlen,turn⟩⟩:=step i n ys H3 w3
  ·refine jA (T.done (X.blkN N0 scope cl hl.objs.size own s2 H2 fp pins) rfl rfl rfl hc i [] s3 _ H3 _ J3 (BS Fg) Ff stop) λr s4 #[hr,J4]=>?_;subst hr;obtain⟨m4,Rw,_⟩:=J4.loc;exact fin _ _ s2 H2 H3 s4 I2 CB J4.free #[m4,Rw] (λh' sb=>iq I2 f2 CB J4 sb) q
  ·refine jA (T.item (X.blkN N0 scope cl hl.objs.size own s2 H2 fp pins) rfl rfl rfl hc i [] s3 _ H3 _ J3 (BS Fg) Ff go) λr s4 #[u,hr,h4]=>?_;subst hr;refine jA h4 λ_ s5 hh=>?_;obtain⟨x,H5,J5,r5,y5,Ee,HY⟩:=hh;have Rx:=J5.pinned (BS HY) (T.obj _ _ Ee);refine jA (hg _ _ _ _ _ _ s5 _ H5 x u _ Rx r5 (turn x H5 y5)) λ_ s6 hh=>?_;obtain⟨σ6,H6,J6,⟨ts,e6,Ry⟩,q6⟩:=hh;subst e6;refine jA (ht _ _ _ _ _ _ s6 _ H6 _ J6 q6) λok s7 #[H7,J7,q7]=>?_;have again:∀{s8:Shared} {H8:Hp} {zs:List V},ji (X.blkN N0 scope cl hl.objs.size own s2 H2 fp pins) ([]++Zy fp s5.heap) (σ++ts) H8 s8->(∃m',m'<n/\W (i+1) m' zs H8) ->
     ∃m,m<n/\∃i ys H',ji (X.blkN N0 scope cl hl.objs.size own s2 H2 fp pins) [] (σ++List.replicate own.length none) H' s8/\tn i s8.heap/\(∀b∈fp,H' b=none)/\W i m ys H':=λ{s8 H8 zs} J8 ⟨m',hm,w8⟩=>by
    refine#[m',hm,i+1,zs,H8,?_,T.keep _ _ _ Ee λb hb o e=>(J8.pin (b,o) (yF _ (yF _ (vO hb e)))).1,λb hb=>?_,w8]
    ·refine J8.unpinned.weak (by rw[yj,yj,List.length_replicate,Ry]) λj v ej=>?_;by_cases hj:j<σ.length
     ·rw[yC hj] at ej ⊢;exact ej
     ·rw[yG '!',List.getElem?_replicate] at ej
      split at ej<;>cases ej
    ·obtain⟨o,e,d⟩:=T.obj _ _ Ee b hb;exact (J8.pin (b,o) (yF _ (yF _ (vO hb e)))).2.1
   cases ok with
   | false=>exact again J7 q7
   | true =>
    refine jA (he _ _ _ _ _ _ s7 _ H7 _ J7 q7) λz s8 hh=>?_;obtain⟨y,H8,J8,r8,Rz,q8⟩:=hh;refine jA (j3 _ s8 _ H8 (.ref s2.heap.objs.size) [y] _ [z] (λ_ H9=>∃m',m'<n/\W (i+1) m' (ys++[y]) H9) J8 rfl (.cons r8 .nil) #[_,ys,y,rfl,rfl,Rz,hlen,q8]) λ_ s9 #[_,H9,J9,_,q9]=>again J9 q9
 exact codeAny_compStart_list (loop _ rfl) (T.self _ 0 _ _ _ (T.keep 0 _ _ Ed λb _ o e=>CC b o e) (loop _ rfl))
theorem zH (S:uV X N0 scope cl) (hi:PI X tg iter wi)
  (hg:∀C s H fp pins,PG (X.blkN N0 scope cl C own s H fp pins) tg g) (ht:∀C s H fp pins,PF (X.blkN N0 scope cl C own s H fp pins) ifs tc) (he:∀C s H fp pins,PE (X.blkN N0 scope cl C own s H fp pins) elt te)
  (hs:∀x,foldedSetIterable iter X.env x=pure x:=by intro _;rfl):PE X (.ListComp elt [#[tg,iter,ifs,0]] scope pos) (ZU wi own.length g tc te):=by
 intro pins s σ H Q I h;rw[eval_ListComp];exact Gf (use:=none) (QV:=EP X pins σ Q) S hi hg ht he hs I h λD C s2 H2 H3 s4 _ _ _ hn inv q=>hn.elim λm hn=>#[m,hn,λh' sb=>#[.ref D,H3,inv h' sb,rfl,q]]
theorem Uh (i:Nat) {pos' CG:Pos} (S:uV X N0 scope cl) (hi:PI X tg iter wi)
  (hg:∀C s H fp pins,PG (X.blkN N0 scope cl C own s H fp pins) tg g) (ht:∀C s H fp pins,PF (X.blkN N0 scope cl C own s H fp pins) ifs tc) (he:∀C s H fp pins,PE (X.blkN N0 scope cl C own s H fp pins) elt te)
  (hN:X.N.Nodup:=by exact mN (by kernel_rfl)) (IC:X.N[i]?=some x:=by rfl) (hx:N8 X.env.scope x:=by first|exact .inl rfl|exact .inr rfl) (hs:∀x,foldedSetIterable iter X.env x=pure x:=by intro _;rfl) (ID:swapsWith (.ListComp elt [#[tg,iter,ifs,0]] scope pos) (some (.Name x pos')) CG.line X.env=pure true:=by rfl)
  (hf:X.fn x=true\/X.env.scope.names.lookup x=some .local:=by first|exact .inl rfl|exact .inr rfl|assumption) :
  PS X (.Assign [.Name x pos'] (.ListComp elt [#[tg,iter,ifs,0]] scope pos) CG) (cC (ZU wi own.length g tc te) (ZM i)):=by
 intro pins s σ H D I h;rw[exec_Assign_Name_used _ _ _ _ ID];refine AT (wpAny_standAt (AT ?_));show wpAny _ X.A (do let _ <-comprehension (.ListComp elt [#[tg,iter,ifs,0]] scope pos) scope X.env _ (newList []) false (eval iter X.env) (some (assign (.Name x pos') X.env))) _ _ s;refine AT (wpAny_mono (Gf (pos:=pos) (use:=some (assign (.Name x pos') X.env)) (QV:=λ_ s'=>SP X pins D .next s') S hi hg ht he hs I h λDa C s2 H2 H3 s4 I2 hC B4 hn inv q=>?_) (λ_ s' hq=>AU (AU hq)) λ_ _ e=>e);obtain⟨m,hn⟩:=hn;have I4:ji X pins σ H3 s4:=inv s4.heap (Heap.SameBut.refl _ _);have nC:s2.heap.get? C=none:=Qi hC;refine wpAny_assign_Name (KP I4 hN IC hx (show jE (.ref Da) (.ref Da) from rfl) (λs5 I5 #[a,sb,ha]=>#[m,hn.sameBut sb ?_,λh' RB=>#[_,H3,I5.let_go I2 hC B4 RB,q]]) hf);rintro rfl;rcases ha with z|z
 ·obtain⟨_,EL,_⟩:=I2.loc;obtain⟨_,_,_,hL,_⟩:=EL;rw[<-z,nC] at hL;cases hL
 ·obtain⟨_,_,hc,_⟩:=I2.cell x _ z;rw[nC] at hc;cases hc
end
section
variable {κ:Type} [DecidableEq κ]
def Jh (kvs:List (κ×V)) (k:κ):Option V:=(kvs.find? λkv=>decide (kv.1=k)).map (·.2)
def uw (kvs:List (κ×V)) (k:κ) (v:V):List (κ×V) :=
 if (kvs.any λkv=>decide (kv.1=k))=true then kvs.map (λkv=>if kv.1=k then (kv.1,v) else kv) else kvs++[(k,v)]
theorem gT {p:κ×V}{r:List (κ×V)}{k:κ} (e:p.1=k):Jh (p::r) k=some p.2:=by simp [Jh,QA,e]
theorem gR {p:κ×V}{r:List (κ×V)}{k:κ} (e:¬p.1=k):Jh (p::r) k=Jh r k:=by simp [Jh,QA,e]
theorem Vq (k:κ):∀kvs:List (κ×V),(kvs.any λkv=>decide (kv.1=k))=(Jh kvs k).isSome
 | []=>rfl
 | p::r=>by
  rw[List.any_cons];by_cases e:p.1=k
  ·simp only[gT e,decide_eq_true e,Bool.true_or,Option.isSome_some]
  ·rw[gR e,decide_eq_false e,Bool.false_or];exact Vq k r
theorem vy (kvs:List (κ×V)) (k:κ) (v:V):(uw kvs k v).length<=kvs.length+1:=by
 unfold uw;split
 ·rw[ya];omega
 ·rw[yj,yQ,List.length_nil];omega
theorem zK {kvs:List (κ×V)}{k:κ} (v:V) (h:Jh kvs k=none):uw kvs k v=kvs++[(k,v)]:=by
 unfold uw;rw[Vq,h];exact if_neg '$'
theorem Uq.isSome_eq {o:Option V}{u:Option Value} (r:Uq o u):o.isSome=u.isSome:=by
 cases o with
 | none=>cases u with
  | none=>rfl
  | some _=>exact (show False from r).elim
 | some _=>cases u with
  | none=>exact (show False from r).elim
  | some _=>rfl
theorem KV.val {kvs:List (κ×V)}{vs:List (κ×Value)} (r:KV kvs vs) (k:κ):Uq (Jh kvs k) (valueAt vs k):=by
 unfold KV at r
 induction r with
 | nil=>exact True.intro
 | @cons p q ps qs h t ih =>
  obtain⟨h1,h2⟩:=h;by_cases e:p.1=k
  ·have e':q.1=k:=h1.symm.trans e;have b:valueAt (q::qs) k=some q.2:=by simp [valueAt,QA,e']
   rw[gT e,b];exact h2
  ·have e':¬q.1=k:=λz=>e (h1.trans z);have b:valueAt (q::qs) k=valueAt qs k:=by simp [valueAt,QA,e']
   rw[gR e,b];exact ih
theorem KV.any {kvs:List (κ×V)}{vs:List (κ×Value)} (r:KV kvs vs) (k:κ):(kvs.any λkv=>decide (kv.1=k))=vs.any λkv=>decide (kv.1=k):=by
 unfold KV at r
 induction r with
 | nil=>rfl
 | cons h t ih=>rw[List.any_cons,List.any_cons,ih,h.1]
theorem KV.repl {kvs:List (κ×V)}{vs:List (κ×Value)} (r:KV kvs vs) (k:κ) (ry:jE y u) :
  KV (kvs.map λkv=>if kv.1=k then (kv.1,y) else kv) (vs.map λkv=>if kv.1=k then (kv.1,u) else kv):=by
 unfold KV at r ⊢
 induction r with
 | nil=>exact .nil
 | @cons p q ps qs h t ih =>
  rw[yH,yH];refine .cons ?_ ih;obtain⟨h1,h2⟩:=h;by_cases e:p.1=k
  ·rw[if_pos e,if_pos (h1.symm.trans e)];exact#[h1,ry]
  ·rw[if_neg e,if_neg (λz=>e (h1.trans z))];exact#[h1,h2]
theorem KV.put {kvs:List (κ×V)}{vs:List (κ×Value)} (r:KV kvs vs) (k:κ) (ry:jE y u):KV (uw kvs k y) (stored vs k u):=by
 unfold uw stored;rw[r.any k];by_cases e:(vs.any λkv=>decide (kv.1=k))=true
 ·rw[if_pos e,if_pos e];exact r.repl k ry
 ·rw[if_neg e,if_neg e];exact Paired.snoc r #[rfl,ry]
theorem KV.length {kvs:List (κ×V)}{vs:List (κ×Value)} (r:KV kvs vs):kvs.length=vs.length:=Paired.length r
end
theorem Gv {k:Key} (r:jE (kV k) u):(jr P w).is k u=true:=by
 cases k with
 | inl i=>obtain⟨t,e⟩:=(show ∃t,u=Value.int i t from r);subst e;exact NN P w i t
 | inr x=>obtain⟨t,e⟩:=(show ∃t,u=Value.str x t from r);subst e;exact NO P w x t
theorem Zm {a b:Key} (e:kV a=kV b):a=b:=by
 cases a with
 | inl i=>cases b with
  | inl j=>have e':V.int i=V.int j:=e;injection e' with e';rw[e']
  | inr y=>exact nomatch (show V.int i=V.str y from e)
 | inr x=>cases b with
  | inl j=>exact nomatch (show V.str x=V.int j from e)
  | inr y=>have e':V.str x=V.str y:=e;injection e' with e';rw[e']
theorem Ku:∀{ks:List Key} {us:AH},jz (ks.map kV) us->ItemsAre (jr P w) ks us
 | [],_,r=>by rw[List.map_nil] at r;cases r;exact .nil
 | k::ks,_,r=>by
  rw[yH] at r;cases r with
  | cons h t=>exact .cons (Gv h) (Ku t)
abbrev KT (H:Hp):List (List Key×V)->List (List Key×Addr×Value)->Prop:=Paired λp q=>p.1=q.1/\H q.2.1=some (.tup (p.1.map kV))/\jE p.2 q.2.2
theorem KT.val (r:KT H kvs xs) (k:List Key):Uq (Jh kvs k) ((atKey xs k).map (·.2)):=by
 induction r with
 | nil=>exact True.intro
 | @cons p q ps qs h t ih =>
  obtain⟨h1,_,h2⟩:=h;by_cases e:p.1=k
  ·have e':q.1=k:=h1.symm.trans e;have b:atKey (q::qs) k=some q.2:=by simp [atKey,QA,e']
   rw[gT e,b];exact h2
  ·have e':¬q.1=k:=λz=>e (h1.trans z);have b:atKey (q::qs) k=atKey qs k:=by simp [atKey,QA,e']
   rw[gR e,b];exact ih
theorem KT.repl (r:KT H kvs xs) (k:List Key) (ry:jE y u) :
  KT H (kvs.map λkv=>if kv.1=k then (kv.1,y) else kv) (xs.map (putAt k u)):=by
 induction r with
 | nil=>exact .nil
 | @cons p q ps qs h t ih =>
  rw[yH,yH];refine .cons ?_ ih;obtain⟨h1,h2,h3⟩:=h;unfold putAt;by_cases e:p.1=k
  ·rw[if_pos e,if_pos (h1.symm.trans e)];exact#[h1,h2,ry]
  ·rw[if_neg e,if_neg (λz=>e (h1.trans z))];exact#[h1,h2,h3]
theorem KT.put (r:KT H kvs xs) (k:List Key) (hb:H b=some (.tup (k.map kV))) (ry:jE y u) :
  KT H (uw kvs k y) (storedH xs k b u):=by
 have e:(kvs.any λkv=>decide (kv.1=k))=(atKey xs k).isSome:=by
  rw[Vq,(r.val k).isSome_eq,Option.isSome_map]
 unfold uw storedH;rw[e];by_cases q:(atKey xs k).isSome=true
 ·rw[if_pos q,if_pos q];exact r.repl k ry
 ·rw[if_neg q,if_neg q];exact Paired.snoc r #[rfl,hb,ry]
theorem KT.keeps (r:KT H kvs xs) (ht:∀b ys,H b=some (.tup ys)->H' b=some (.tup ys)):KT H' kvs xs :=
 Paired.mapP r λ_ _ z=>#[z.1,ht _ _ z.2.1,z.2.2]
section
variable {P:AS}{w:World}{H:Hp}{h:Heap}{a:Addr}
theorem o9 {u:HO} (ok:Js P w H h) (e:Rd H a u):jP P w H h a u:=e.ok ok
theorem mH {kvs:List (Key×V)} (ok:Js P w H h) (e:Rd H a (.dK kvs)):kvs.length<=sizeLine/\(a==sysModules)=false/\∃vs,KV kvs vs/\h.DictOf (jr P w) a vs :=
 show jP P w H h a (.dK kvs) from o9 ok e
theorem ZK {kvs:List (Key×V)} (ok:Js P w H h) (e:H a=some (.dK kvs)):kvs.length<=sizeLine/\(a==sysModules)=false/\∃vs,KV kvs vs/\h.DictOf (jr P w) a vs:=mH ok (.inl e)
theorem V5 {ks:List Key} (ok:Js P w H h) (e:H a=some (.tup (ks.map kV))):(tupleKind (jr P w)).is h ks a:=by
 obtain⟨_,AV,r,o,h1,h2,n,h3⟩:=(show jP P w H h a (.tup (ks.map kV)) from ok a _ e);exact#[o,AV.toArray,n,h1,h2,h3,by simpa using Ku r]
theorem mI (ok:Js P w H h) (e:Rd H a (.dT kvs)):kvs.length<=sizeLine/\(a==sysModules)=false /\
  ∃xs,KT H kvs xs/\h.DictOfH (tupleKind (jr P w)) a xs:=by
 obtain⟨z,y,xs,r,o,es,ep,h1,h2,h3,h4,h5⟩:=(show jP P w H h a (.dT kvs) from o9 ok e);refine#[z,y,xs,r,o,es,ep,h1,h2,h3,h4,λx hx=>?_,h5];have all:∀{l:List (List Key×V)} {m:List (List Key×Addr×Value)},KT H l m->∀x∈m,(tupleKind (jr P w)).is h x.1 x.2.1:=by
  intro l m q
  induction q with
  | nil=>intro x hx;exact nomatch hx
  | @cons p q ps qs hq t ih =>
   intro x hx;rcases yr.mp hx with e|hx
   ·subst e;exact V5 ok (by rw[<-hq.1];exact hq.2.1)
   ·exact ih x hx
 exact all r x hx
theorem bF (ok:Js P w H h) (e:H a=some (.dT kvs)):kvs.length<=sizeLine/\(a==sysModules)=false /\
  ∃xs,KT H kvs xs/\h.DictOfH (tupleKind (jr P w)) a xs:=mI ok (.inl e)
end
def JG (H:Hp) (a:Addr) (y:V) (r:Option V):Prop :=
 (∃kvs k,Rd H a (.dK kvs)/\y=kV k/\r=Jh kvs k)\/∃kvs k b,Rd H a (.dT kvs)/\y=.ref b/\H b=some (.tup (k.map kV))/\r=Jh kvs k
def vW (H:Hp) (a:Addr) (y v:V) (H':Hp):Prop :=
 (∃kvs k,H a=some (.dK kvs)/\y=kV k/\kvs.length<sizeLine/\H'=upd H a (.dK (uw kvs k v))) \/
 ∃kvs k b,H a=some (.dT kvs)/\y=.ref b/\H b=some (.tup (k.map kV))/\kvs.length<sizeLine/\H'=upd H a (.dT (uw kvs k v))
theorem JG.k {kvs:List (Key×V)}{k:Key} (e:H a=some (.dK kvs)):JG H a (kV k) (Jh kvs k):=.inl #[kvs,k,.inl e,rfl,rfl]
theorem JG.t {k:List Key} (e:H a=some (.dT kvs)) (eb:H b=some (.tup (k.map kV))):JG H a (.ref b) (Jh kvs k):=.inr #[kvs,k,b,.inl e,rfl,eb,rfl]
theorem vW.k {kvs:List (Key×V)}{k:Key} (e:H a=some (.dK kvs)) (hl:kvs.length<sizeLine):vW H a (kV k) v (upd H a (.dK (uw kvs k v))):=.inl #[kvs,k,e,rfl,hl,rfl]
theorem vW.t {k:List Key} (e:H a=some (.dT kvs)) (eb:H b=some (.tup (k.map kV))) (hl:kvs.length<sizeLine) :
  vW H a (.ref b) v (upd H a (.dT (uw kvs k v))):=.inr #[kvs,k,b,e,rfl,eb,hl,rfl]
section
variable {X:Cx}{pins:AF}{σ:St}{H:Hp}{s:Shared}{a:Addr}{y v:V}{u r:Value}{o:Option V}{A:Around}{E:Ax}
theorem ji.big (I:ji X pins σ H s):sysModules<s.heap.objs.size:=by
 have h:mainGlobals<s.heap.objs.size:=(I.mod.glob.keeps I.bk).lt;exact Nat.lt_trans '$' h
theorem Zf (hu:A.units+1<cLine) (I:ji X pins σ H s) (g:JG H a y (some v)) (ry:jE y u) (h:∀w' s',ji X pins σ H s'->jE v w'->Q w' s') :
  wpAny (model X.prog X.w) A (getItem (.ref a) u) Q E s:=by
 rcases g with ⟨kvs,k,e,ey,l⟩|⟨kvs,k,b,e,ey,eb,l⟩
 ·subst ey;obtain⟨z,hd,vs,rel,dd⟩:=mH I.hok e;obtain⟨w',hw,Br⟩:=Uq.some_of (v:=v) (o:=valueAt vs k) (by rw[l];exact rel.val k);exact wpAny_getItem_of (Gv ry) dd.mapOf hw (h w' _ (I.tok _) Br)
 ·subst ey;cases (show u=Value.ref b from ry);obtain⟨z,hd,xs,rel,dd⟩:=mI I.hok e;obtain⟨w',hw,Br⟩:=Uq.some_of (v:=v) (o:=(atKey xs k).map (·.2)) (by rw[l];exact rel.val k);obtain⟨p,hp,Cm⟩:=yz.mp hw;refine wpAny_getItem_heap (tupleKind_room_in1 hu) (V5 I.hok eb) dd hp ?_;rw[Cm];exact h w' _ (I.tok _) Br
theorem xx (hu:A.units+1<cLine) (I:ji X pins σ H s) (g:JG H a y o) (ry:jE y u) (h:∀s',ji X pins σ H s'->Q (.bool o.isSome) s') :
  wpAny (model X.prog X.w) A (compareOp .In u (.ref a)) Q E s:=by
 rcases g with ⟨kvs,k,e,ey,l⟩|⟨kvs,k,b,e,ey,eb,l⟩
 ·subst ey;obtain⟨z,hd,vs,rel,dd⟩:=mH I.hok e;refine wpAny_in_of (Gv ry) hd dd.mapOf ?_;rw[<-(rel.val k).isSome_eq,<-l];exact h _ (I.tok _)
 ·subst ey;cases (show u=Value.ref b from ry);obtain⟨z,hd,xs,rel,dd⟩:=mI I.hok e;refine wpAny_in_heap (tupleKind_room_in1 hu) (V5 I.hok eb) hd dd ?_;have q:=(rel.val k).isSome_eq;rw[Option.isSome_map] at q;rw[<-q,<-l];exact h _ (I.tok _)
theorem ZJ {t':Nat}{ob:HO} (I:ji X pins σ H s) (mu:cQ (H a)) (hs:Heap.SameBut a s.heap h') (he:∃q,h'.get? a=some q) (new:jP X.prog X.w (upd H a ob) h' a ob) :
  ji X pins σ (upd H a ob) { s with heap:=h',toks:=t' } :=
 I.write (x:=a) (e:=a) mu (.inl rfl) (λb q hb z=>(hs.2 b hb).trans z) he new
theorem c6 {kvs:List (Key×V)}{vs:List (Key×Value)} (z:kvs.length<=sizeLine) (hd:(a==sysModules)=false) (rel:KV kvs vs) (dd:h'.DictOf (jr P w) a vs) :
  jP P w H' h' a (.dK kvs):=#[z,hd,vs,rel,dd]
theorem Kk {Q:Ay} (hu:A.units+1<cLine) (I:ji X pins σ H s) (g:vW H a y v H') (ry:jE y u) (rv:jE v r) (h:∀s',ji X pins σ H' s'->Q () s') :
  wpAny (model X.prog X.w) A (setItem (.ref a) u r) Q E s:=by
 rcases g with ⟨kvs,k,e,ey,l,eH⟩|⟨kvs,k,b,e,ey,eb,l,eH⟩
 ·subst ey eH;obtain⟨z,hd,vs,rel,dd⟩:=ZK I.hok e;have hz:vs.length<=sizeLine:=by rw[<-rel.length];exact z
  have hl:(uw kvs k v).length<=sizeLine:=by have:=vy kvs k v;omega
  refine wpAny_setItem_pairs (hsz:=hz) (Gv ry) dd λh' Dd hs=>h _ ?_;have he:∃q,h'.get? a=some q:=let ⟨q,_,_,hq,_⟩:=Dd;#[q,hq]
  exact ZJ I (by rw[e];exact True.intro) hs he (c6 hl hd (rel.put k rv) Dd)
 ·subst ey eH;cases (show u=Value.ref b from ry);obtain⟨z,hd,xs,rel,dd⟩:=bF I.hok e;have hz:xs.length<=sizeLine:=by rw[<-Paired.length rel];exact z
  have hl:(uw kvs k v).length<=sizeLine:=by have:=vy kvs k v;omega
  refine wpAny_setItem_heap (hsz:=hz) (tupleKind_room_in1 hu) (V5 I.hok eb) dd λh' Dd hs=>h _ ?_;obtain⟨q,es,ep,hq,h2,h3,h4,_,h5⟩:=Dd;refine ZJ I (by rw[e];exact True.intro) hs #[q,hq] #[hl,hd,_,(rel.put k eb rv).keeps λc ys ec=>?_,q,es,ep,hq,h2,h3,h4,h5];rw[jw (jX ec e)];exact ec
end
def bh (i:Expr):Prop:=∀ov iv,subscripted i false ov iv=operate [ov,iv] (getItem ov iv)
theorem kU {prog:AS}{A:Around}{E:Ax}{env:Env}{value slice:Expr}{T id:String}
  (hl:typeLookup (.type T) "__getitem__"=pure (some (.builtin id))) (hs:bh slice)
  (h:wpAny '#' A (eval value env) (λo s₁=>wpAny '#' A (eval slice env) (λi s₂=>s₂.TypeIs o T/\wpAny '#' A (getItem o i) Q E s₂) E s₁) E s) :
  wpAny '#' A (eval (.Subscript value slice pos) env) Q E s:=by
 refine Subscript_ (wpAny_mono h (λo s₁ h₁=>wpAny_mono h₁ (λi s₂ h₂=>?_) λ_ _ x=>x) λ_ _ x=>x);obtain⟨hT,h₂⟩:=h₂;unfold subscriptTail;refine AT ?_;rw[getitemInPython_of_ne hT.not_modules];refine AT (wpAny_specialOf hT hl ?_);have fin:wpAny '#' A (subscripted slice false o i) (λr s₃=>wpAny '#' A (letTemporaryGo value o r>>=λ_=>pure r) Q E s₃) E s₂:=by
  rw[hs o i];exact wpAny_operating (wpAny_mono h₂ (λr s₃ h₃=>AT (wpAny_letTemporaryGo (AU h₃))) λ_ _ x=>x)
 first
  | exact AU (AT fin)
  | exact AT (AU (AT fin))
  | exact AT fin
theorem VP {pins:AF}{o:Option V} (I:ji X pins σ H s) (g:JG H a y o):s.TypeIs (.ref a) "dict":=by
 rcases g with ⟨kvs,k,e,_,_⟩|⟨kvs,k,b,e,_,_,_⟩
 ·obtain⟨_,_,vs,_,dd⟩:=mH I.hok e;exact dd.typeIs
 ·obtain⟨_,_,xs,_,dd⟩:=mI I.hok e;exact dd.typeIs
def wS (td ty:TE):TE:=λσ H Q=>td σ H λx H1=>ty σ H1 λy H2=>∃a v,x=.ref a/\JG H2 a y (some v)/\Q v H2
def xP (ty td:TE):TE:=λσ H Q=>ty σ H λy H1=>td σ H1 λx H2=>∃a o,x=.ref a/\JG H2 a y o/\Q (.bl o.isSome) H2
def wE (td ty tv:TE):TS:=λD σ H=>tv σ H λv H1=>td σ H1 λx H2=>ty σ H2 λy H3=>∃a H4,x=.ref a/\vW H3 a y v H4/\D.nx σ H4
section
variable {X:Cx}{o i e value:Expr}{pos pos' Bn:Pos}{td ty tv:TE}
theorem uQ (ho:PE X o td) (hi:PE X i ty) (hu:X.A.units+1<cLine:=by exact mJ hr) (hs:bh i:=by exact λ_ _=>rfl):PE X (.Subscript o i pos) (wS td ty):=by
 intro pins s σ H Q I h;refine kU PySem.F.slot_dict_getitem.lookup hs (jA (ho pins s σ H _ I h) λu s1 #[x,H1,I1,rx,q1]=>jA (hi pins s1 σ H1 _ I1 q1) λiv s2 hh=>?_);obtain⟨y,H2,I2,ry,a,v,ex,g,q2⟩:=hh;subst ex;obtain rfl:u=Value.ref a:=rx;exact#[VP I2 g,Zf hu I2 g ry λw' s3 I3 Br=>#[v,H2,I3,Br,q2]]
theorem eQ (hi:PE X i ty) (ho:PE X o td) (hu:X.A.units+1<cLine:=by exact mJ hr):PC X .In i o (xP ty td):=by
 intro pins s σ H Q I h;refine jA (hi pins s σ H _ I h) λiv s1 #[y,H1,I1,ry,q1]=>jA (ho pins s1 σ H1 _ I1 q1) λu s2 hh=>?_;obtain⟨x,H2,I2,rx,a,ov,ex,g,q2⟩:=hh;subst ex;obtain rfl:u=Value.ref a:=rx;exact xx hu I2 g ry λs3 I3=>#[.bl ov.isSome,H2,I3,rfl,q2]
theorem kR (ho:PE X o td) (hi:PE X i ty) (hv:PE X value tv) (hu:X.A.units+1<cLine:=by exact mJ hr) (hs:swapsWith value (some (.Subscript o i pos')) pos.line X.env=pure false:=by rfl) :
  PS X (.Assign [.Subscript o i pos'] value pos) (wE td ty tv):=by
 intro pins s σ H D I h;refine wpAny_Assign_Subscript (jA (hv pins s σ H _ I h) λr s1 #[v,H1,I1,rv,q1]=>jA (ho pins s1 σ H1 _ I1 q1) λu s2 #[x,H2,I2,rx,q2]=>jA (hi pins s2 σ H2 _ I2 q2) λiv s3 hh=>?_) hs;obtain⟨y,H3,I3,ry,a,H4,ex,g,q3⟩:=hh;subst ex;obtain rfl:u=Value.ref a:=rx;exact Kk hu I3 g ry rv λs4 I4=>#[σ,H4,I4,q3]
end
theorem Mj (h:Heap) (hb:sysModules<h.objs.size):jP P w H (h.push { cls:=.type "dict",data:=.dict (List.toArray []) }) h.objs.size (.dK []) :=
 #[yT _,beq_eq_false_iff_ne.mpr (yZ (yx hb)),[],.nil,Heap.DictOf.new h]
theorem Ml (h:Heap) (hb:sysModules<h.objs.size):jP P w H (h.push { cls:=.type "dict",data:=.dict (List.toArray []) }) h.objs.size (.dT []) :=
 #[yT _,beq_eq_false_iff_ne.mpr (yZ (yx hb)),[],.nil,_,(List.toArray []),0,yo _ rfl,#[rfl,rfl,rfl],rfl,rfl,Qk]
def tQ:TE:=λ_ H Q=>∀p,H p=none->Q (.ref p) (upd H p (.dK []))
def tR:TE:=λ_ H Q=>∀p,H p=none->Q (.ref p) (upd H p (.dT []))
section
variable {X:Cx}{pos:Pos}
theorem gJ:PE X (.Dict [] [] pos) tQ:=λpins s σ H Q I h =>
 wpAny_Dict_empty #[.ref s.heap.objs.size,_,I.laid (a:=s.heap.objs.size) (o:=.dK []) (t':=s.toks) (λ_ _ q=>yd _ q) (yh _) (Mj s.heap I.big),rfl,h _ (I.hok.fresh (yh _))]
theorem nH:PE X (.Dict [] [] pos) tR:=λpins s σ H Q I h =>
 wpAny_Dict_empty #[.ref s.heap.objs.size,_,I.laid (a:=s.heap.objs.size) (o:=.dT []) (t':=s.toks) (λ_ _ q=>yd _ q) (yh _) (Ml s.heap I.big),rfl,h _ (I.hok.fresh (yh _))]
end
def Nj:List (TE×TE)->St->Hp->(List (V×V)->Hp->Prop)->Prop
 | [],_,H,Q=>Q [] H
 | (tk,tv)::r,σ,H,Q=>tk σ H λx H1=>tv σ H1 λy H2=>Nj r σ H2 λps H3=>Q ((x,y)::ps) H3
abbrev VV:List (V×V)->List (Value×Value)->Prop:=Paired λp q=>jE p.1 q.1/\jE p.2 q.2
def oy (X:Cx) (pos:Pos) (keys:List (Option Expr)) (values:AO) (DQ:List (TE×TE)):Prop :=
 ∀(pins:AF) (s:Shared) (σ:St) (H:Hp) (Q:List (V×V)->Hp->Prop),ji X pins σ H s->Nj DQ σ H Q ->
  wpAny (model X.prog X.w) X.A (evalPairs (pairTrees keys values X.env pos)) (λvs s'=>∃ps H',ji X pins σ H' s'/\VV ps vs/\Q ps H') X.xe s
theorem aN:oy X pos [] [] []:=λpins s σ H Q I h=>pairTrees_nil_walk #[[],H,I,.nil,h]
theorem zJ {k v:Expr}{ks:List (Option Expr)}{vs:AO}{tk tv:TE} (hk:PE X k tk) (hv:PE X v tv) (hr:oy X pos ks vs DQ) :
  oy X pos (some k::ks) (v::vs) ((tk,tv)::DQ):=λpins s σ H Q I h =>
 pairTrees_cons_walk (jA (hk pins s σ H _ I h) λu s1 #[x,H1,I1,rx,q1]=>jA (hv pins s1 σ H1 _ I1 q1) λw2 s2 #[y,H2,I2,ry,q2] =>
  jA (hr pins s2 σ H2 _ I2 q2) λws s3 #[ps,H3,I3,rel,q3]=>#[(x,y)::ps,H3,I3,.cons #[rx,ry] rel,q3])
def Zp (kvs more:List (Key×V)):List (Key×V):=more.foldl (λacc kv=>uw acc kv.1 kv.2) kvs
theorem KV.merge:∀{more:List (Key×V)} {rs:List (Key×Value)} {kvs:List (Key×V)} {vs:List (Key×Value)},KV more rs->KV kvs vs->KV (Zp kvs more) (merged vs rs):=by
 intro more rs kvs vs r;unfold KV at r
 induction r generalizing kvs vs with
 | nil=>intro q;exact q
 | @cons p q ps qs h t ih =>
  intro r0;have e:KV (uw kvs p.1 p.2) (stored vs q.1 q.2):=by
   have:=r0.put p.1 h.2;rw[<-h.1];exact this
  exact ih e
theorem zT:∀(more kvs:List (Key×V)),(Zp kvs more).length<=kvs.length+more.length
 | [],kvs=>by show kvs.length<=kvs.length+0;omega
 | p::r,kvs=>by
  have h1:=zT r (uw kvs p.1 p.2);have h2:=vy kvs p.1 p.2;show (Zp (uw kvs p.1 p.2) r).length<=_;rw[yQ];omega
theorem Ge {P:AS}{w:World}:∀{kvs:List (Key×V)} {ws:List (Value×Value)},VV (kvs.map λkv=>(kV kv.1,kv.2)) ws->∃rs,Carries (jr P w) ws rs/\KV kvs rs
 | [],_,r=>by rw[List.map_nil] at r;cases r;exact#[[],True.intro,.nil]
 | p::kvs,_,r=>by
  rw[yH] at r;cases r with
  | @cons a b as bs h t =>
   obtain⟨rs,c,q⟩:=Ge (P:=P) (w:=w) t;obtain⟨b1,b2⟩:=b;exact#[(p.1,b2)::rs,#[Gv h.1,rfl,c],.cons #[rfl,h.2] q]
def wT (DQ:List (TE×TE)):TE:=λσ H Q=>∀p,H p=none->Nj DQ σ (upd H p (.dK [])) λps H2=>H2 p=some (.dK [])/\∃kvs:List (Key×V),ps=kvs.map (λkv=>(kV kv.1,kv.2))/\kvs.length<=15/\Q (.ref p) (upd H2 p (.dK (Zp [] kvs)))
theorem aK {keys:List (Option Expr)}{values:AO} (h:oy X pos keys values DQ) (Bd:keys.all (·.isSome)=true) (hl:keys.length=values.length) (h0:keys≠[])
  (h15:keys.length<=15):PE X (.Dict keys values pos) (wT DQ):=by
 intro pins s σ H Q I q;have hn:=I.hok.fresh (yh s.heap.objs.size);have I1:=I.laid (a:=s.heap.objs.size) (o:=.dK []) (h':=s.heap.push { cls:=.type "dict",data:=.dict (List.toArray []) }) (t':=s.toks) (λ_ _ q=>yd _ q) (yh _) (Mj s.heap I.big);refine wpAny_Dict_walk (knd:=jr X.prog X.w) Bd hl h0 h15 (jA (h pins _ σ _ _ I1 (q _ hn)) λws s2 hh=>?_);obtain⟨ps,H2,I2,rel,e,kvs,ep,lk,q2⟩:=hh;subst ep;obtain⟨rs,c,rk⟩:=Ge (P:=X.prog) (w:=X.w) rel;obtain⟨z,hd,Fv,r0,dd⟩:=ZK I2.hok e;cases r0;refine#[rs,c,dd,λh' Dd hs=>#[.ref s.heap.objs.size,_,?_,rfl,q2]];have hz:(Zp [] kvs).length<=sizeLine:=by
  have h1:=zT kvs [];rw[List.length_nil] at h1;rw[sizeLine_eq];omega
 have he:∃q,h'.get? s.heap.objs.size=some q:=let ⟨q,_,_,hq,_⟩:=Dd;#[q,hq]
 exact ZJ I2 (by rw[e];exact True.intro) hs he (c6 hz hd (rk.merge .nil) Dd)
section
variable {κ:Type} [DecidableEq κ]
theorem gS {kvs:List (κ×V)}{k:κ} (h:Jh kvs k=none):¬k∈kvs.map (·.1):=by
 intro m;obtain⟨p,hp,e⟩:=yi.mp m;have q:(kvs.any λkv=>decide (kv.1=k))=true:=List.any_eq_true.mpr #[p,hp,decide_eq_true e];rw[Vq,h] at q;exact absurd q (by simp)
theorem zh {kvs:List (κ×V)}{k:κ} (h:Jh kvs k=some v):k∈kvs.map (·.1):=by
 have q:(kvs.any λkv=>decide (kv.1=k))=true:=by
  rw[Vq,h]
  all_goals rfl
 obtain⟨p,hp,e⟩:=List.any_eq_true.mp q;exact yi.mpr #[p,hp,of_decide_eq_true e]
end
def G0 (K:AB) (a:Addr):It :=
 #[λi H=>∃xs x,jg K H a xs/\xs[i]?=some x,
  λi H v H'=>∃t x,H t=none/\v=.ref t/\H'=upd H t (.tup [.int i,x])/\∀xs,jg K H a xs->xs[i]?=some x,
  λi H=>∃xs,jg K H a xs/\xs.length<=i]
theorem cH {K:AB}{elts:AO}{kk:Nat}{Bn:Pos} (e it l:Addr) (EO:e≠it) (hle:l≠e) (IE:l≠it) :
  Vb P w K (.Tuple elts kk Bn) (G0 K l) [e,it] e (λi h=>(∃old,IsEnum h e it i old)/\h.IsListIter it l i) true where
 mem:=by simp
 obj:=λi h st b hb=>by
  obtain⟨⟨old,q1⟩,⟨o4,q4,_,d4⟩⟩:=st;simp only[yr,yP,or_false] at hb;rcases hb with rfl|rfl
  ·exact#[_,q1,λv e=>by cases e]
  ·exact#[_,q4,λv e=>by rw[d4] at e;cases e]
 keep:=λi h h' st k=>by
  obtain⟨⟨old,q1⟩,q4⟩:=st;exact#[#[old,k e (by simp) _ q1],q4.at λo x=>k it (by simp) o x]
 item:=by
  intro X hP hw hK hc i pins s σ H E I hf st hg;subst hP hw hK;obtain⟨xs,x,hx,ex⟩:=hg;obtain⟨AV,r1,p1,_⟩:=I.list hx;obtain⟨v1,Hh,IF⟩:=r1.get ex;obtain⟨⟨old,q1⟩,q4⟩:=st;refine wpAny_pyNext_enum_item q1 q4 p1.isList (x:=v1) (by simpa using Hh) EO λh1 z1 z2 z3 z4 z5=>?_;refine#[_,rfl,wpAny_letOwnedTupleGo_enum (s:={ s with heap:=h1,toks:=s.toks+1 }) z1 λh2 Ft sb=>?_];have keep:∀c o,c ∉ [e,it]->s.heap.get? c=some o->h2.get? c=some o:=λc o hc y=>by
   simp only[yr,yP,or_false,not_or] at hc;exact (sb.2 c hc.1).trans (z5 c o hc.1 hc.2 y)
  have AX:∀{c o},s.heap.get? c=some o->c≠s.heap.objs.size:=λe=>yx (ym e);obtain⟨o4,e4,_,_⟩:=id q4;have I1:ji X pins σ H { s with heap:=h2,toks:=s.toks+1 }:=I.turnedL (t':=s.toks+1) hf keep;have hp:H s.heap.objs.size=none:=I.fresh;have tp:h2.get? s.heap.objs.size=some { cls:=.type "tuple",data:=.seq (List.toArray [.int i s.toks,v1]) }:=(sb.2 _ (yZ (AX q1))).trans z3;have I2:ji X pins σ (upd H s.heap.objs.size (.tup [.int i,x])) { s with heap:=h2,toks:=s.toks+1 }:=I1.track hp (Qi I.sz) (Qe I.lt)
   (λn c e zz=>by obtain⟨v0,o0,h0,_⟩:=I.cell n c e;exact AX h0 zz) (λq hq zz=>AX (I.pin q hq).1 zz) #[by show 2<=sizeLine;decide,[.int i s.toks,v1],.cons #[_,rfl] (.cons IF .nil),_,tp,rfl,_,rfl]
  refine#[.ref s.heap.objs.size,_,I2,rfl,#[_,x,hp,rfl,rfl,λBN B7=>?_],#[#[_,by simpa using Ft],z2.extBut sb.extBut (yZ EO)],λc hc=>?_]
  ·rw[I.list_inj B7 hx];exact ex
  ·have Fu:=(hf c hc).1;rw[jw ?_]
   ·exact Fu
   ·simp only[yr,yP,or_false] at hc;rcases hc with rfl|rfl
    ·exact AX q1
    ·exact AX e4
 done:=by
  intro X hP hw hK hc i pins s σ H E I hf st hg;subst hP hw hK;obtain⟨xs,hx,Iw⟩:=hg;obtain⟨AV,rv,p,_⟩:=I.list hx;obtain⟨⟨old,q1⟩,q4⟩:=st;have hl:=rv.length;refine wpAny_pyNext_enum_end (I.ok.hd (hc rfl)) q1 q4 p.isList (by simp;omega) λh1 k=>#[rfl,?_];refine I.turnedL (t':=s.toks) (ch:=[it]) (λc hc=>hf c ?_) λc o hc y=>?_
  ·simp only[yr,yP,or_false] at hc ⊢;exact .inr hc
  ·simp only[yr,yP,or_false,not_or] at hc;exact k c o hc y
 self:=λ_ _ _ _ _ st h=>let ⟨_,q⟩:=st.1;wpAny_pyIter_enum q h
section
variable {X:Cx}{elts:AO}{kk:Nat}{Bn:Pos}
def rY (K:AB) (ta:TA):TI:=λσ H R=>ta σ H λvs H1=>∃a,vs=[.ref a]/\(∃xs,jg K H1 a xs)/\R (G0 K a) H1
theorem uL {a:Expr}{ta:TA}{p:Pos} (Ce:X.calm=true) (hg:Gl X "enumerate") (hm:X.mg "enumerate"=none) (ha:PA X [a] ta) (hs:starEach [a] X.env=(false,eval a X.env)::starEach [] X.env:=by rfl) (Ba:(backTo pos (starEach [] X.env)).any (·.1)=false:=by rfl) :
  PI X (.Tuple elts kk Bn) (.Call (.Name "enumerate" p) [a] [] pos) (rY X.K ta):=by
 intro pins s σ H R I h;refine Call_ (U7 I hg hm boot_enumerate (PyProof.Rows.callWith_type1 (jA (ha pos pins s σ H _ I h) λus s1 #[vs,H1,I1,r1,q1]=>?_) hs Ba));obtain⟨l1,e,⟨xs,hx⟩,q⟩:=q1;subst e;cases r1 with
 | cons ra rr =>
  cases rr;cases ra;obtain⟨AV,_,p1,_⟩:=I1.list hx;have a1:l1<s1.heap.objs.size:=by obtain⟨_,e,_⟩:=p1.isList;exact ym e
  refine call_enumerate_list p1.isList λh' z1 z2 z3 k=>wpAny_pyIter_enum (s:={ s1 with heap:=h' }) z1 ?_;have I2:ji X pins σ H1 { s1 with heap:=h' }:=I1.kept (t':=s1.toks) k;refine#[s1.heap.objs.size+1,[s1.heap.objs.size+1,s1.heap.objs.size],_,_,H1,rfl,I2,#[true,cH _ _ l1 (Nat.succ_ne_self _) (yx (Qw a1)) (yx a1),λ_=>Ce],#[#[_,z1],z2],λc hc=>?_,q];have le:s1.heap.objs.size<=c:=by
   simp only[yr,yP,or_false] at hc;rcases hc with rfl|rfl<;>omega
  exact I1.fpOk le (I1.hok.fresh le)
theorem uC {K:AB}{xs:List V}{g:TG}{tb:TS}{D:vX} (Pv:Nat->St->Hp->Prop) (h0:Pv 0 σ H) (hl:∀i σ H,i<=xs.length->Pv i σ H->jg K H a xs)
  (hs:∀(i:Nat) x p σ H,xs[i]?=some x->H p=none->Pv i σ H->g (.ref p) σ (upd H p (.tup [.int i,x])) λσ2 H2=>tb { D with nx:=Pv (i+1),ct:=Pv (i+1),bk:=D.nx } σ2 H2) (hd:∀σ H,Pv xs.length σ H->D.nx σ H) :
  ∃W:Nat->Nat->St->Hp->Prop,(∃m,W 0 m σ H)/\∀i m σ H,W i m σ H ->
   ((G0 K a).stop i H/\D.nx σ H)\/((G0 K a).go i H/\∃N:St->Hp->Prop,(∀σ' H',N σ' H'->∃m',m'<m/\W (i+1) m' σ' H')/\∀x H',(G0 K a).yld i H x H'->g x σ H' λσ2 H2=>tb { D with nx:=N,ct:=N,bk:=D.nx } σ2 H2):=by
 refine#[λi m σ H=>m=xs.length - i/\i<=xs.length/\Pv i σ H,#[xs.length,by simp,yT _,h0],?_];rintro i m σ H ⟨rfl,hi,p⟩;have qa:=hl i σ H hi p;by_cases AX:i<xs.length
 ·refine .inr #[#[xs,xs[i],qa,by simp [AX]],Pv (i+1),λσ' H' p'=>#[xs.length - (i+1),by omega,rfl,AX,p'],λv H' yy=>?_];obtain⟨t,x,ht,rfl,rfl,e⟩:=yy;exact hs i x t σ H (e xs qa) ht p
 ·obtain rfl:i=xs.length:=by omega
  exact .inl #[#[xs,qa,yh _],hd σ H p]
end
structure gh (K:AB) (x qual:Str) (st:Stmt) (f:Addr) (fd:FuncData):Prop where
 ex:∃(oc:Value) (od:AR) (dV kV doc pm:Value) (an:AR) (AZ ct:Value) (Eh:AL),
  fd=fnOf x qual (V2 st) (vh st) (JO st) dV kV doc pm an AZ ct/\K.lookup f=some #[oc,od,.func fd,Eh]/\codeIn K AZ qual=true
 kp:keepIn K (.ref f)=true
section
variable {P:AS}{w:World}{K:AB}{mg:AE}{base:Heap}
theorem gh.okX {fd:FuncData}{N ps:AM}{k:Nat}{sp:Sp}{c:Bool} (F:gh K x qual st f fd) (S:UV N ps (JO st)) (len:∀vs H Q E,sp vs H Q E->vs.length=ps.length)
  (Cv:∀(AZ:Value) (A:Around) (outer:List Env) (s:Shared) (H:Hp) (vs:List V) (Q:VK) (E:XK),Jx c k (A.deeper (envOfC qual (JO st) s.heap.objs.size f AZ))->sp vs H Q E ->
   ∃t,z8 (Mi P w K mg base N qual (JO st) f AZ A outer s H E c) (vh st) t/\t { nx:=λ_ H'=>Q .non H',rt:=Q } (start N vs) H):UD P w K mg base (XC P w) (k+1) f fd ps sp c:=by
 obtain⟨oc,od,dV,kV,doc,pm,an,AZ,ct,Eh,rfl,lk,C8⟩:=F.ex;exact wn lk C8 S len λA outer s H vs Q E hr BG=>Cv AZ A outer s H vs Q E hr BG
theorem ak {oc:Value}{od an:AR}{Eh:AL}{dV kV doc pm AZ ct:Value} (l:K.lookup f=some #[oc,od,.func (fnOf x qual (V2 st) (vh st) (JO st) dV kV doc pm an AZ ct),Eh])
  (c:codeIn K AZ qual=true) (k:keepIn K (.ref f)=true):gh K x qual st f (fnOf x qual (V2 st) (vh st) (JO st) dV kV doc pm an AZ ct):=#[#[oc,od,dV,kV,doc,pm,an,AZ,ct,Eh,rfl,l,c],k]
end
section
variable {X:Cx}
theorem cn (hu:X.A.units<cLine):uN X (compareOp .NotEq) (λx y H Q=>E4 λ(a b:Addr) (ns ms:List Int)=>A5 (x=.ref a) (y=.ref b) (jg X.K H a (ns.map V.int)) (jg X.K H b (ms.map V.int)) (Q (.bl (!decide (ns=ms))) H)):=by
 intro pins s σ H x y v u Q I rx ry h;obtain⟨a,b,ns,ms,rfl,rfl,ha,hb,q⟩:=h;cases rx;cases ry;obtain⟨AV,r1,p1,_⟩:=I.list ha;obtain⟨A0,r2,p2,_⟩:=I.list hb;have l1:=r1.length;have l2:=r2.length;rw[ya] at l1 l2;by_cases hz:AV.toArray.size=A0.toArray.size
 ·have e:(!((List.range AV.toArray.size).all λj=>decide (ns.getD j 0=ms.getD j 0)))=!decide (ns=ms):=by
   have:=Vc (0:Int) ns ms;rw[yg] at hz ⊢;rw[yg] at hz;rw[show min ns.length ms.length=AV.length by omega,show (ns.length==ms.length)=true by simp;omega,Bool.and_true] at this;rw[this]
  rw[<-e] at q;exact EqBoolInt.of_rcne (SeqAt.RcNeAt.lists p1.isList p2.isList hz hu λj h1 h2=>Km r1 r2 j h1 h2) #[.bl _,H,I,rfl,q]
 ·have Bk:ns≠ms:=λe=>by
   rw[yg,yg] at hz;rw[e] at l1;omega
  rw[decide_eq_false Bk] at q;exact EqBoolInt.of_rcne (SeqAt.RcNeAt.lists_lengths p1.isList p2.isList (bne_iff_ne.mpr hz) hu) #[.bl true,H,I,rfl,q]
end
end L2
set_option maxHeartbeats 4000000
namespace TS
open PySem PyProof.Rows L2
local macro_rules|`(tactic|omega)=>`(tactic|first|lia|omega +splitNatSub)
variable {a n i j lo:Nat}{b c:L2.Key}{u:Tok}{Q:Az}{d:List Bool}{ps:AH}{kc:Value->List L2.Key}{h h':Heap}{xs:AG}
def V4:L2.Key->L2.Key->Bool
 | .inl a,.inl b=>decide (a<b)
 | .inr a,.inr b=>decide (a.cps.toList<b.cps.toList)
 | .inl _,.inr _=>true
 | .inr _,.inl _=>false
def lx:List L2.Key->List L2.Key->Bool
 | [],[]=>false
 | [],_::_=>true
 | _::_,[]=>false
 | a::r,b::q=>if a=b then lx r q else V4 a b
theorem kn (a:L2.Key):V4 a a=false:=by
 cases a with
 | inl n=>exact decide_eq_false (Int.lt_irrefl n)
 | inr x=>exact decide_eq_false (List.lt_irrefl _)
theorem Zl {a:L2.Key} (h1:V4 a b=true) (h2:V4 b c=true):V4 a c=true:=by
 cases a with
 | inl n=>cases b with
  | inl m=>cases c with
   | inl k=>exact decide_eq_true (Int.lt_trans (of_decide_eq_true h1) (of_decide_eq_true h2))
   | inr k=>rfl
  | inr m=>cases c with
   | inl k=>cases h2
   | inr k=>rfl
 | inr n=>cases b with
  | inl m=>cases h1
  | inr m=>cases c with
   | inl k=>cases h2
   | inr k=>exact decide_eq_true (List.lt_trans (of_decide_eq_true h1) (of_decide_eq_true h2))
theorem cB {x y:Str} (h:x.cps.toList=y.cps.toList):x=y:=Str.ext' (Array.toList_inj.mp h)
theorem kq {a:L2.Key} (h1:V4 a b=false) (h2:V4 b a=false):a=b:=by
 cases a with
 | inl n=>cases b with
  | inl m =>
   have:=of_decide_eq_false h1;have:=of_decide_eq_false h2;congr 1;omega
  | inr m=>cases h1
 | inr n=>cases b with
  | inl m=>cases h2
  | inr m=>exact congrArg Sum.inr (cB (List.le_antisymm (List.not_lt.mp (of_decide_eq_false h2)) (List.not_lt.mp (of_decide_eq_false h1))))
theorem sf {a:L2.Key} (h:V4 a b=true):a≠b:=λe=>by rw[e,kn] at h;cases h
theorem Gz:∀a:List L2.Key,lx a a=false
 | []=>rfl
 | a::r=>by unfold lx;rw[if_pos rfl];exact Gz r
theorem GA:∀{a b:List L2.Key},lx a b=false->lx b a=false->a=b
 | [],[],_,_=>rfl
 | [],_::_,h,_=>by cases h
 | _::_,[],_,h=>by cases h
 | a::r,b::q,h1,h2=>by
  unfold lx at h1 h2;by_cases e:a=b
  ·rw[if_pos e] at h1;rw[if_pos e.symm] at h2;rw[e,GA h1 h2]
  ·rw[if_neg e] at h1;rw[if_neg (λz=>e z.symm)] at h2;exact absurd (kq h1 h2) e
theorem zB:∀{a b c:List L2.Key},lx a b=true->lx b c=true->lx a c=true
 | [],[],_,h,_=>by cases h
 | [],_::_,[],_,h=>by cases h
 | [],_::_,_::_,_,_=>rfl
 | _::_,[],_,h,_=>by cases h
 | _::_,_::_,[],_,h=>by cases h
 | a::r,b::q,c::p,h1,h2=>by
  unfold lx at h1 h2 ⊢;by_cases e1:a=b
  ·subst e1;rw[if_pos rfl] at h1;by_cases e2:a=c
   ·rw[if_pos e2] at h2 ⊢;exact zB h1 h2
   ·rw[if_neg e2] at h2 ⊢;exact h2
  ·rw[if_neg e1] at h1;by_cases e2:b=c
   ·subst e2;rw[if_neg e1];exact h1
   ·rw[if_neg e2] at h2;have h3:=Zl h1 h2;rw[if_neg (sf h3)];exact h3
theorem dS {a b c:List L2.Key} (h:lx a c=true):lx a b=true\/lx b c=true:=by
 cases h1:lx a b
 ·right
  cases h2:lx b a
  ·rw[<-GA h1 h2];exact h
  ·exact zB h2 h
 ·exact .inl rfl
def kind (kc:Value->List L2.Key):KeyKind where
 α:=List L2.Key
 blt:=lx
 irrefl:=Gz
 trans:=λ_ _ _=>zB
 negTrans:=λ_ _ _=>dS
 total:=λ_ _=>GA
 keyOf:=λv=>some (kc v)
 dflt:=[]
def uk:L2.Key->Value->Prop
 | .inl n,v=>∃t,v=.int n t
 | .inr x,v=>∃t,v=.str x t
inductive U1:List L2.Key->List Value->Prop
 | nil:U1 [] []
 | cons {k v ks vs}:uk k v->U1 ks vs->U1 (k::ks) (v::vs)
def sd (ks:List L2.Key):List Bool:=ks.map Sum.isLeft
theorem MV (f:Bool) (x y:Value):keyLt' (tuples' f) x y=(do
  let p <-Builtin.List.listItems x
  let q <-Builtin.List.listItems y
  for ((u,v),i) in (p.toList.zip q.toList).zipIdx do
   if !(<-eqBool u v) then return <-oneLt' (f&&i==0) u v
  return p.size<q.size):=rfl
section
variable {prog:AS}{w:World}{A:Around}{E:Ax}{s:Shared}
theorem qt (f:Bool) {a b:Int} {t:Tok} (h:Q (decide (a<b)) s):wpAny '#' A (oneLt' f (.int a t) (.int b u)) Q E s:=by
 cases f with
 | true=>exact oneLt_int h
 | false =>
  rw[oneLt'_eq];rw[if_neg yt];exact AT (richCompare_gives (op:=.Lt) (typeIs_int s a t) (typeIs_int s b u) F.slot_int_lt F.entry_int_lt (F.args_int_lt_2 _ _) (gives_int_lt a b t u) (λz=>nomatch z) (wpAny_truthy_bool h))
theorem qu (f:Bool) {a b:Str} {t:Tok} (h:Q (decide (a.cps.toList<b.cps.toList)) s):wpAny '#' A (oneLt' f (.str a t) (.str b u)) Q E s:=by
 cases f with
 | true=>exact oneLt_str h
 | false =>
  rw[oneLt'_eq];rw[if_neg yt];exact AT (richCompare_gives (op:=.Lt) (typeIs_str s a t) (typeIs_str s b u) F.slot_str_lt F.entry_str_lt (F.args_str_lt_2 _ _) (gives_str_lt a b t u) (λz=>nomatch z) (wpAny_truthy_bool h))
theorem rT {d:L2.Key}{u v:Value} (hs:c.isLeft=d.isLeft) (hc:uk c u) (hd:uk d v) (h:Q (decide (c=d)) s):wpAny '#' A (eqBool u v) Q E s:=by
 cases c with
 | inl n=>cases d with
  | inl m =>
   obtain⟨t,rfl⟩:=hc;obtain⟨t',rfl⟩:=hd;refine wpAny_eqBool_int ?_;rw[show (n==m)=decide ((Sum.inl n:L2.Key)=Sum.inl m) by rw[Qf,beq_iff_eq,decide_eq_true_iff];exact#[λe=>e▸rfl,λe=>Sum.inl.inj e]];exact h
  | inr m=>cases hs
 | inr n=>cases d with
  | inl m=>cases hs
  | inr m =>
   obtain⟨t,rfl⟩:=hc;obtain⟨t',rfl⟩:=hd;refine wpAny_eqBool_str ?_;rw[show decide (n=m)=decide ((Sum.inr n:L2.Key)=Sum.inr m) by rw[Qf,decide_eq_true_iff,decide_eq_true_iff];exact#[λe=>e▸rfl,λe=>Sum.inr.inj e]];exact h
theorem aJ (f:Bool) {d:L2.Key} {u v:Value} (hs:c.isLeft=d.isLeft) (hc:uk c u) (hd:uk d v) (h:Q (V4 c d) s):wpAny '#' A (oneLt' f u v) Q E s:=by
 cases c with
 | inl n=>cases d with
  | inl m =>
   obtain⟨t,rfl⟩:=hc;obtain⟨t',rfl⟩:=hd;exact qt f h
  | inr m=>cases hs
 | inr n=>cases d with
  | inl m=>cases hs
  | inr m =>
   obtain⟨t,rfl⟩:=hc;obtain⟨t',rfl⟩:=hd;exact qu f h
theorem MW (f:Bool):∀{cs ds:List L2.Key} {ps qs:AH} (k:Nat),sd cs=sd ds->U1 cs ps->U1 ds qs->∀{R:Option Bool×Unit->Shared->Prop},(cs≠ds->R (some (lx cs ds),()) s)->(cs=ds->R (none,()) s) ->
  wpAny '#' A (forIn ((ps.zip qs).zipIdx k) ((none,()):Option Bool×Unit) λx _ =>
   match x with
   | ((u,v),i)=>do
    let r <-eqBool u v
    if (!r)=true then do
      let r <-oneLt' (f&&i==0) u v
      pure (ForInStep.done (some r,()))
     else pure (ForInStep.yield (none,()))) R E s
 | [],[],_,_,k,_,.nil,.nil,R,_,h=>by
  show wpAny _ _ (forIn [] _ _) _ _ _;rw[List.forIn_nil];exact AU (h rfl)
 | [],_::_,_,_,_,hs,_,_,_,_,_=>by cases hs
 | _::_,[],_,_,_,hs,_,_,_,_,_=>by cases hs
 | c::cs,d::ds,_,_,k,hs,.cons hc Hc,.cons hd EM,R,h1,h2=>by
  obtain⟨e1,e2⟩:=List.cons.inj hs;rw[List.zip_cons_cons,List.zipIdx_cons,List.forIn_cons];refine AT (AT (rT e1 hc hd ?_));by_cases e:c=d
  ·rw[decide_eq_true e];refine AU (MW f (k+1) e2 Hc EM (λn=>?_) λz=>h2 (by rw[e,z]));have:=h1 (λz=>n (List.cons.inj z).2);unfold lx at this;rw[if_pos e] at this;exact this
  ·rw[decide_eq_false e];refine AT (aJ _ e1 hc hd (AU (AU ?_)));have:=h1 (λz=>e (List.cons.inj z).1);unfold lx at this;rw[if_neg e] at this;exact this
theorem U1.len {cs:List L2.Key} (h:U1 cs ps):ps.length=cs.length:=by
 induction h with
 | nil=>rfl
 | cons _ _ ih=>rw[yQ,yQ,ih]
theorem sn (f:Bool) {a b:Addr} {o o':Obj} {qs:AH} {m:Nat} {cs ds:List L2.Key} (ha:s.heap.get? a=some o) (hd:o.data=.seq ps.toArray n) (hb:s.heap.get? b=some o') (Ct:o'.data=.seq qs.toArray m)
  (hs:sd cs=sd ds) (hc:U1 cs ps) (hq:U1 ds qs) {Q:Az} (h:Q (lx cs ds) s):wpAny '#' A (keyLt' (tuples' f) (.ref a) (.ref b)) Q E s:=by
 rw[MV];refine AT (listItems_at ha hd ?_);refine AT (listItems_at hb Ct ?_);refine AT (MW f 0 hs hc hq (λ_=>AU h) λe=>AU ?_);have l1:=hc.len;have l2:=hq.len;rw[e] at l1 h;rw[Gz] at h;rw[show decide (ps.toArray.size<qs.toArray.size)=false by rw[yg,yg];exact decide_eq_false '!'];exact h
variable {f:Bool}{z:AG}{o:KeyKind}
def kv (o:KeyKind) (p:Keyed):o.α:=(o.keyOf p.1).getD o.dflt
def zZ (prog:AS) (w:World) (A:Around) (s:Shared) (f:Bool) (o:KeyKind) (z:AG):Prop:=∀(E:Ax) (p q:Keyed) (Q:Az),p∈z.toList->q∈z.toList->Q (o.blt (kv o p) (kv o q)) s->wpAny '#' A (keyLt' (tuples' f) p.1 q.1) Q E s
end
section
variable {prog:AS}{w:World}{A:Around}{E:Ax}{s:Shared}
theorem V7 {α β:Type}{g:α->Sem β}{r:α->β}{M:Model}:∀{l:List α} {R:List β->Shared->Prop},(∀x∈l,∀R:β->Shared->Prop,R (r x) s->wpAny M A (g x) R E s)->R (l.map r) s->wpAny M A (l.mapM g) R E s
 | [],R,_,h=>by rw[List.mapM_nil];exact AU h
 | a::l,R,f,h=>by
  rw[List.mapM_cons];exact AT (f a (yw ..) _ (AT (V7 (λx hx=>f x (yn _ hx)) (AU h))))
def TupAt (h:Heap) (v:Value) (ks:List L2.Key):Prop:=∃a ob vs n,v=.ref a/\h.get? a=some ob/\ob.cls=.type "tuple"/\ob.data=.seq vs.toArray n/\U1 ks vs
theorem My (v:Value):firstOfTuple' v=(do
  if (<-typeOf v) != .type "tuple" then return none
  return (<-Builtin.List.listItems v)[0]?):=rfl
theorem aW {k:L2.Key}{v:Value} (h:uk k v) {R:Ax} (q:R (.type (if k.isLeft then "int" else "str")) s):wpAny '#' A (typeOf v) R E s:=by
 cases k with
 | inl n=>obtain⟨t,rfl⟩:=h;exact wpAny_typeOf (typeIs_int s n t) q
 | inr x=>obtain⟨t,rfl⟩:=h;exact wpAny_typeOf (typeIs_str s x t) q
theorem iT {vs:AH} (h2:2<=vs.length) (ht:∀v∈vs,TupAt s.heap v (kc v)) (hs:∀v∈vs,sd (kc v)=d) (hd:d≠[]) {R:SortKind->Shared->Prop} (q:R (tuples' true) s):wpAny '#' A (keyKind' vs.toArray) R E s:=by
 have fx:∃fv:Value->Value,∀v∈vs,∃k r,kc v=k::r/\k.isLeft=d.headD true/\uk k (fv v)/\∀R:Option Value->Shared->Prop,R (some (fv v)) s->wpAny '#' A (firstOfTuple' v) R E s:=by
  have one:∀v∈vs,∃x:Value,∃k r,kc v=k::r/\k.isLeft=d.headD true/\uk k x/\∀R:Option Value->Shared->Prop,R (some x) s->wpAny '#' A (firstOfTuple' v) R E s:=λv hv=>by
   obtain⟨a,ob,us,n,rfl,ho,hc,Ek,hk⟩:=ht v hv;have e:=hs _ hv;cases OB:kc (.ref a) with
   | nil=>rw[OB] at e;exact absurd e.symm hd
   | cons k r =>
    rw[OB] at hk e;cases hk with
    | @cons _ x _ xs hx hxs =>
     refine#[x,k,r,rfl,by rw[<-e];rfl,hx,λR hR=>?_];rw[My];refine AT (wpAny_typeOf (T:="tuple") #[ob,ho,hc] ?_);rw[if_neg '$'];exact AT (listItems_at ho Ek (AU hR))
  refine#[λv=>if hv:v∈vs then (one v hv).choose else .none,λv hv=>?_];simp only[dif_pos hv];exact (one v hv).choose_spec
 obtain⟨fv,Fw⟩:=fx;rw[keyKind'_eq,List.mapM_toArray,<-bind_pure_comp];refine AT (AT (V7 (r:=λv=>some (fv v)) (λv hv R hR=>by obtain⟨_,_,_,_,_,f⟩:=Fw v hv;exact f R hR) (AU ?_)));rw[if_pos (by simp)];refine AT (wpAny_rule (AT ?_));rw[show (vs.map λv=>some (fv v)).toArray.filterMap id=(vs.map fv).toArray by simp [List.filterMap_map,Function.comp_def]];rw[oneTypeOnly'_eq,List.mapM_toArray,<-bind_pure_comp];refine AT (AT (V7 (r:=λ_=>Value.type (if d.headD true then "int" else "str")) (λx hx R hR=>?_) (AU ?_)))
 ·obtain⟨v,hv,rfl⟩:=yi.mp hx;obtain⟨k,r,_,e,hk,_⟩:=Fw v hv;rw[<-e] at hR;exact aW hk hR
 ·match vs,h2 with
  | a::b::r,_ =>
   have e0:((List.map fv (a::b::r)).map λ_=>Value.type (if d.headD true then "int" else "str")).toArray[0]?=some (Value.type (if d.headD true then "int" else "str")):=by simp
   rw[e0];have ea:(((List.map fv (a::b::r)).map λ_=>Value.type (if d.headD true then "int" else "str")).toArray.all λx=>x==Value.type (if d.headD true then "int" else "str"))=true:=by
    simp only[List.all_toArray,List.all_map,QC];intro _ _;cases d.headD true<;>rfl
   show wpAny _ _ (pure (if (((List.map fv (a::b::r)).map λ_=>Value.type (if d.headD true then "int" else "str")).toArray.all λx=>x==Value.type (if d.headD true then "int" else "str"))=true then some (Value.type (if d.headD true then "int" else "str")) else none)) _ _ _;rw[if_pos ea];refine AU (AU ?_);have en:((some (Value.type (if d.headD true then "int" else "str"))).any λx=>x != Value.type "tuple")=true:=by cases d.headD true<;>rfl
   rw[en];exact q
theorem TupAt.upd {v:Value}{ks:List L2.Key} (t:TupAt h v ks) {a:Addr} {g:Array Value->Array Value} {ob:Obj} (ho:h.get? a=some ob) (hc:ob.cls=.type "list"):TupAt (h.update a (Obj.mapSeq g)) v ks:=by
 obtain⟨b,o2,us,n,rfl,e,c,dt,k⟩:=t;have ne:a≠b:=λz=>by
  rw[z,e] at ho;cases ho;rw[c] at hc;exact absurd hc '$'
 exact#[b,o2,us,n,rfl,(yM _ _ ne).trans e,c,dt,k]
theorem TupAt.push {v:Value}{ks:List L2.Key} (t:TupAt h v ks) (ob:Obj):TupAt (h.push ob) v ks:=by
 obtain⟨b,o2,us,n,rfl,e,c,dt,k⟩:=t;exact#[b,o2,us,n,rfl,yd _ e,c,dt,k]
theorem VB {vs:AH}{p:Keyed} (h:p∈(pairsOf vs).toList):p.1=p.2/\p.1∈vs:=mem_zip_self (pairsOf_toList vs▸h)
theorem sG {vs:AH} (ht:∀v∈vs,TupAt s.heap v (kc v)) (hs:∀v∈vs,sd (kc v)=d) (f:Bool):zZ prog w A s f (kind kc) (pairsOf vs):=λE p q Q hp hq h=>by
 have m1:=(VB hp).2;have m2:=(VB hq).2;have h1:Q (lx (kc p.1) (kc q.1)) s:=h;obtain⟨a,o1,us,n,e1,ho,_,hd,hk⟩:=ht _ m1;obtain⟨b,o2,ws,m,e2,Bw,_,hd2,Fx⟩:=ht _ m2;rw[e1,e2] at h1;rw[e1] at hk;rw[e2] at Fx;have s1:=(hs _ m1).trans (hs _ m2).symm;rw[e1,e2] at s1;rw[e1,e2];exact sn f ho hd Bw hd2 s1 hk Fx h1
end
section
variable {prog:AS}{w:World}{A:Around}{E:Ax}{s:Shared}{f:Bool}{z:AG}{o:KeyKind}
def Ae (o:KeyKind) (p q:Keyed):Prop:=o.kle (kv o p) (kv o q)
def Up (o:KeyKind) (l:List Keyed):Prop:=l.Pairwise (Ae o)
theorem wz {st:SortSt}{p q:Keyed}{Q:Option Bool->SortSt->Prop} (O:zZ prog w A s f o z) (kd:kindOf st=tuples' f) (hp:p∈z.toList) (hq:q∈z.toList) (h:Q (some (o.blt (kv o p) (kv o q))) st):wpS '#' A E s (lt' p q) Q st:=by
 rw[lt'_eq];refine wpS_bind (wpS_get ?_);rw[kd];exact wpS_bind (wpS_lift (wpAny_attempt (O _ p q _ hp hq #[rfl,wpS_pure h])))
theorem oG {st:SortSt}{Q:Keyed->SortSt->Prop} (hi:i<xs.size) (h:Q xs[i] st):wpS '#' A E s (elem' xs i) Q st:=by
 rw[elem'_eq,getElem?_pos xs i hi];exact wpS_pure h
theorem dU (hi:i<xs.size):xs[i]∈xs.toList:=Array.getElem_mem_toList hi
end
section
variable {prog:AS}{w:World}{A:Around}{E:Ax}{s:Shared}{f:Bool}{z:AG}{o:KeyKind}
structure Gd (f:Bool) (z:AG) (y:SortSt):Prop where
 pm:(arrOf y).Perm z
 kd:kindOf y=tuples' f
 fl:failedOf y=none
theorem Gd.sz {y:SortSt} (g:Gd f z y):(arrOf y).size=z.size:=g.pm.size_eq
theorem Gd.mem {y:SortSt} (g:Gd f z y):∀p∈(arrOf y).toList,p∈z.toList:=λp hp=>(Array.perm_iff_toList_perm.mp g.pm).mem_iff.mp hp
end
def cV (lo a n:Nat):StateT SortSt Sem AscSt :=
 forIn [a:n] ((none,a):AscSt) λ_ c=>do
  let some r <-ltAt' (lo+c.2) (lo+c.2 - 1)|pure (.done (some none,c.2))
  if r then pure (.done (none,c.2)) else pure (.yield (none,c.2+1))
def mG (lo a n:Nat):StateT SortSt Sem DescSt :=
 forIn [a:n] ((none,a,0):DescSt) λ_ c=>do
  let some r <-ltAt' (lo+c.2.1) (lo+c.2.1 - 1)|pure (.done (some none,c.2.1,c.2.2))
  if r then
   if c.2.2 > 0 then
    reverseSlice' (lo+c.2.1 - (c.2.2+1)) (lo+c.2.1)
    pure (.yield (none,c.2.1+1,0))
   else pure (.yield (none,c.2.1+1,0))
  else
   let some r <-ltAt' (lo+c.2.1 - 1) (lo+c.2.1)|pure (.done (some none,c.2.1,c.2.2))
   if r then pure (.done (none,c.2.1,c.2.2)) else pure (.yield (none,c.2.1+1,c.2.2+1))
section
variable {prog:AS}{w:World}{A:Around}{E:Ax}{s:Shared}{f:Bool}{z:AG}{o:KeyKind}
theorem M3 {st:SortSt}{Q:Option Bool->SortSt->Prop} (O:zZ prog w A s f o z) (g:Gd f z st) (hi:i<z.size) (hj:j<z.size) (h:Q (some (o.blt (KK o (arrOf st) i) (KK o (arrOf st) j))) st):wpS '#' A E s (ltAt' i j) Q st:=by
 have kk:∀{k} (hk:k<(arrOf st).size),KK o (arrOf st) k=kv o (arrOf st)[k]:=λ{k} hk=>by unfold KK;rw[getElem?_pos (arrOf st) k hk];rfl
 have h1:i<(arrOf st).size:=g.sz▸hi;have h2:j<(arrOf st).size:=g.sz▸hj;rw[kk h1,kk h2] at h;rw[ltAt'_eq];exact wpS_bind (wpS_get (wpS_bind (oG h1 (wpS_bind (oG h2 (wz O g.kd (g.mem _ (dU h1)) (g.mem _ (dU h2)) h))))))
structure Rn (f:Bool) (z:AG) (x:SortSt) (lo:Nat) (y:SortSt):Prop where
 gd:Gd f z y
 pd:pendingOf y=pendingOf x
 low:∀k,k<lo->(arrOf y)[k]?=(arrOf x)[k]?
theorem Rn.refl {x:SortSt} (g:Gd f z x) (lo:Nat):Rn f z x lo x:=#[g,rfl,λ_ _=>rfl]
theorem Rn.mir {x y:SortSt} (r:Rn f z x lo y) (hi:lo<=i) (hj:j<=z.size):Rn f z x lo (setArr y (mirror (arrOf y) i j ((j - i) / 2))):=by
 refine#[#[(mirror_perm _ _ _ _).trans r.gd.pm,r.gd.kd,r.gd.fl],r.pd,λk hk=>?_];show (mirror (arrOf y) i j ((j - i) / 2))[k]?=_;rw[getElem?_mirror_all (by rw[r.gd.sz];exact hj),if_neg '!'];exact r.low k hk
def SU (o:KeyKind) (xs:AG) (lo m:Nat):Prop:=∀i j,i<=j->j<m->o.kle (KK o xs (lo+i)) (KK o xs (lo+j))
def SD (o:KeyKind) (xs:AG) (lo m:Nat):Prop:=∀i j,i<=j->j<m->o.kle (KK o xs (lo+j)) (KK o xs (lo+i))
theorem SU.more (u:SU o xs lo i) (h:1<=i) (hl:o.kle (KK o xs (lo+(i - 1))) (KK o xs (lo+i))):SU o xs lo (i+1):=λg k IG hk=>by
 rcases Qa k i with Fy|Fy
 ·exact u g k IG Fy
 ·obtain rfl:k=i:=by omega
  rcases Qa g k with hg|hg
  ·exact KeyOrd.kle_trans (u g (k - 1) '!' '!') hl
  ·obtain rfl:g=k:=by omega
   exact KeyOrd.kle_refl _
theorem SD.more {ys:AG} (hk:∀k,KK o ys k=KK o xs k) (u:SD o xs lo i) (h:1<=i) (hl:o.kle (KK o xs (lo+i)) (KK o xs (lo+(i - 1)))):SD o ys lo (i+1):=λg k IG Fx=>by
 rw[hk,hk];rcases Qa k i with Fy|Fy
 ·exact u g k IG Fy
 ·obtain rfl:k=i:=by omega
  rcases Qa g k with hg|hg
  ·exact KeyOrd.kle_trans hl (u g (k - 1) '!' '!')
  ·obtain rfl:g=k:=by omega
   exact KeyOrd.kle_refl _
theorem cW {x st:SortSt}{Q:AscSt->SortSt->Prop} (O:zZ prog w A s f o z) (hn:lo+n<=z.size) (ha:1<=a) (DR:a<=n) (r:Rn f z x lo st) (u:SU o (arrOf st) lo a)
  (q:∀m,a<=m->m<=n->SU o (arrOf st) lo m->(m=n\/o.klt (KK o (arrOf st) (lo+m)) (KK o (arrOf st) (lo+(m - 1))))->Q (none,m) st):wpS '#' A E s (cV lo a n) Q st:=by
 refine wpS_forRange (I:=λi c y=>y=st/\c=(none,i)/\SU o (arrOf st) lo i) (λi c y h1 h2 hy=>?_) (λc y hy=>?_) #[rfl,rfl,u]
 ·obtain⟨rfl,rfl,up⟩:=hy;refine wpS_bind (M3 O r.gd (show lo+i<_ by omega) (show lo+i - 1<_ by omega) ?_);show wpS _ _ _ _ (if o.blt (KK o (arrOf y) (lo+i)) (KK o (arrOf y) (lo+i - 1))=true then _ else _) _ _;rw[show lo+i - 1=lo+(i - 1) by omega];cases hl:o.blt (KK o (arrOf y) (lo+i)) (KK o (arrOf y) (lo+(i - 1))) with
  | true=>rw[if_pos rfl];exact wpS_pure (q i h1 '!' up (.inr hl))
  | false=>rw[if_neg yt];exact wpS_pure #[rfl,rfl,up.more '!' hl]
 ·obtain⟨rfl,rfl,up⟩:=hy;have e:max a n=n:=by omega
  rw[e] at up ⊢;exact q n DR (yh _) up (.inl rfl)
def rE (k:AscSt->StateT SortSt Sem (Option Nat)):Prop:=∀m,k (none,m)=pure (some m)
theorem aa {k:AscSt->StateT SortSt Sem (Option Nat)} (hk:rE k) {x st:SortSt} {Q:Option Nat->SortSt->Prop} (O:zZ prog w A s f o z) (hn:lo+n<=z.size) (ha:1<=a) (DR:a<=n) (r:Rn f z x lo st) (d:SD o (arrOf st) lo a)
  (q:∀m y,Rn f z x lo y->1<=m->m<=n->SU o (arrOf y) lo m->Q (some m) y):wpS '#' A E s (reverseSlice' lo (lo+a)>>=λ_=>cV lo a n>>=k) Q st:=by
 have hz:lo+a<=(arrOf st).size:=by rw[r.gd.sz];omega
 have r2:=r.mir (i:=lo) (j:=lo+a) (yh _) '!';refine wpS_bind (wpS_reverse (wpS_bind (cW O hn ha DR r2 (λi j Cf hj=>?_) λm h1 h2 up _=>by rw[hk];exact wpS_pure (q m _ r2 '!' h2 up))));show o.kle (KK o (mirror (arrOf st) lo (lo+a) _) (lo+i)) (KK o (mirror (arrOf st) lo (lo+a) _) (lo+j));rw[KK_mirror hz,KK_mirror hz,if_pos #[by omega,by omega],if_pos #[by omega,by omega]];have:=d (a - 1 - j) (a - 1 - i) '!' '!';rw[show lo+(lo+a) - 1 - (lo+i)=lo+(a - 1 - i) by omega,show lo+(lo+a) - 1 - (lo+j)=lo+(a - 1 - j) by omega];exact this
theorem ir {x st:SortSt}{Q:DescSt->SortSt->Prop} (O:zZ prog w A s f o z) (hn:lo+n<=z.size) (ha:1<=a) (DR:a<=n) (r:Rn f z x lo st) (d:SD o (arrOf st) lo a)
  (q:∀m e y,Rn f z x lo y->a<=m->m<=n->SD o (arrOf y) lo m->e+1<=m->(∀i,lo+m - (e+1)<=i->i<lo+m->KK o (arrOf y) i=KK o (arrOf y) (lo+m - 1))->Q (none,m,e) y):wpS '#' A E s (mG lo a n) Q st:=by
 refine wpS_forRange (I:=λi c y=>∃e,c=(none,i,e)/\Rn f z x lo y/\SD o (arrOf y) lo i/\e+1<=i/\∀k,lo+i - (e+1)<=k->k<lo+i->KK o (arrOf y) k=KK o (arrOf y) (lo+i - 1)) (λi c y h1 h2 hy=>?_) (λc y hy=>?_) #[0,rfl,r,d,by omega,λk p1 p2=>congrArg _ '!']
 ·obtain⟨e,rfl,r2,dn,he,eqs⟩:=hy;have hz:lo+i<=(arrOf y).size:=by rw[r2.gd.sz];omega
  refine wpS_bind (M3 O r2.gd (show lo+i<_ by omega) (show lo+i - 1<_ by omega) ?_);show wpS _ _ _ _ (if o.blt (KK o (arrOf y) (lo+i)) (KK o (arrOf y) (lo+i - 1))=true then _ else _) _ _;have ei:lo+i - 1=lo+(i - 1):=by omega
  cases hl:o.blt (KK o (arrOf y) (lo+i)) (KK o (arrOf y) (lo+i - 1)) with
  | true =>
   rw[if_pos rfl];have hle:o.kle (KK o (arrOf y) (lo+i)) (KK o (arrOf y) (lo+(i - 1))):=by rw[<-ei];exact KeyOrd.kle_of_klt (O:=o.toKeyOrd) hl
   show wpS _ _ _ _ (if e > 0 then _ else _) _ _;by_cases h0:e > 0
   ·rw[if_pos h0];exact wpS_bind (wpS_reverse (wpS_pure #[0,rfl,r2.mir (show lo<=lo+i - (e+1) by omega) (show lo+i<=_ by omega),SD.more (KK_mirror_equal hz eqs) dn '!' hle,by omega,λk p1 p2=>congrArg _ '!']))
   ·rw[if_neg h0];exact wpS_pure #[0,rfl,r2,SD.more (λ_=>rfl) dn '!' hle,by omega,λk p1 p2=>congrArg _ '!']
  | false =>
   rw[if_neg yt];refine wpS_bind (M3 O r2.gd (show lo+i - 1<_ by omega) (show lo+i<_ by omega) ?_);show wpS _ _ _ _ (if o.blt (KK o (arrOf y) (lo+i - 1)) (KK o (arrOf y) (lo+i))=true then _ else _) _ _;cases hg:o.blt (KK o (arrOf y) (lo+i - 1)) (KK o (arrOf y) (lo+i)) with
   | true=>rw[if_pos rfl];exact wpS_pure (q i e y r2 h1 '!' dn he eqs)
   | false =>
    rw[if_neg yt];have same:KK o (arrOf y) (lo+i)=KK o (arrOf y) (lo+i - 1):=o.total _ _ hl hg;refine wpS_pure #[e+1,rfl,r2,SD.more (λ_=>rfl) dn '!' (by rw[<-ei];exact hg),by omega,λk p1 p2=>?_];rw[show lo+(i+1) - 1=lo+i by omega];rcases Qa k (lo+i) with hk|hk
    ·rw[same];exact eqs k '!' hk
    ·exact congrArg _ '!'
 ·obtain⟨e,rfl,r2,dn,he,eqs⟩:=hy;have em:max a n=n:=by omega
  rw[em] at dn he eqs ⊢;exact q n e y r2 DR (yh _) dn he eqs
def wc (lo n:Nat) (k:DescSt->StateT SortSt Sem (Option Nat)):Prop:=∃k1,rE k1/\∀m e,k (none,m,e)=if e > 0 then reverseSlice' (lo+m - (e+1)) (lo+m)>>=λ_=>reverseSlice' lo (lo+m)>>=λ_=>cV lo m n>>=k1 else reverseSlice' lo (lo+m)>>=λ_=>cV lo m n>>=k1
theorem Mf {k2:DescSt->StateT SortSt Sem (Option Nat)}{x st:SortSt}{Q:Option Nat->SortSt->Prop} (hk:wc lo n k2) (O:zZ prog w A s f o z) (hn:lo+n<=z.size) (DR:a+1<=n) (r:Rn f z x lo st) (d:SD o (arrOf st) lo (a+1))
  (q:∀m y,Rn f z x lo y->1<=m->m<=n->SU o (arrOf y) lo m->Q (some m) y):wpS '#' A E s (liftM (rule "list.sort.descending-run")>>=λ_=>mG lo (a+1) n>>=k2) Q st:=by
 obtain⟨k1,OC,Fx⟩:=hk;refine wpS_bind (wpS_lift (wpAny_rule #[rfl,wpS_bind (ir O hn '!' DR r d λm e y r2 h1 h2 dn he eqs=>?_)]));have hz:lo+m<=(arrOf y).size:=by rw[r2.gd.sz];omega
 rw[Fx];by_cases h0:e > 0
 ·rw[if_pos h0];refine wpS_bind (wpS_reverse (aa OC (a:=m) O hn '!' h2 (r2.mir (show lo<=lo+m - (e+1) by omega) (show lo+m<=_ by omega)) (λi j Cf hj=>?_) q));have ek:=KK_mirror_equal hz eqs;show o.kle (KK o (mirror (arrOf y) (lo+m - (e+1)) (lo+m) _) (lo+j)) (KK o (mirror (arrOf y) (lo+m - (e+1)) (lo+m) _) (lo+i));rw[ek,ek];exact dn i j Cf hj
 ·rw[if_neg h0];exact aa OC (a:=m) O hn '!' h2 r2 dn q
theorem rO {st:SortSt}{Q:Option Nat->SortSt->Prop} (O:zZ prog w A s f o z) (hn:lo+n<=z.size) (h1:1<=n) (g:Gd f z st)
  (q:∀m y,Rn f z st lo y->1<=m->m<=n->SU o (arrOf y) lo m->Q (some m) y):wpS '#' A E s (countRun' lo n) Q st:=by
 rw[countRun'_eq];show wpS _ _ _ _ (cV lo 1 n>>=_) _ _;have r:=Rn.refl g lo;refine wpS_bind (cW O hn (yh 1) h1 r (λi j Cf hj=>?_) λm m1 m2 up last=>?_)
 ·obtain rfl:i=j:=by omega
  exact KeyOrd.kle_refl _
 show wpS _ _ _ _ (if (m==n)=true then _ else _) _ _;rcases Qa m n with RC|RC
 ·rw[if_neg (by rw[beq_iff_eq];omega)];have hl:=last.resolve_left '!';show wpS _ _ _ _ (if m > 1 then _ else _) _ _;rcases Qa 1 m with hm|hm
  ·rw[if_pos hm];refine wpS_bind (M3 O g (show lo<_ by omega) (show lo+m - 1<_ by omega) ?_);show wpS _ _ _ _ (if o.blt (KK o (arrOf st) lo) (KK o (arrOf st) (lo+m - 1))=true then _ else _) _ _;cases hr:o.blt (KK o (arrOf st) lo) (KK o (arrOf st) (lo+m - 1)) with
   | true=>rw[if_pos rfl];exact wpS_pure (q m st r m1 m2 up)
   | false =>
    rw[if_neg yt];have hz:lo+m<=(arrOf st).size:=by rw[g.sz];omega
    have eqs:∀k,lo<=k->k<lo+m->KK o (arrOf st) k=KK o (arrOf st) (lo+m - 1):=λk k1 k2=>by
     have a1:=up (k - lo) (m - 1) '!' '!';have a2:=up 0 (k - lo) '!' '!';rw[show lo+(k - lo)=k by omega,show lo+(m - 1)=lo+m - 1 by omega] at a1;rw[show lo+(k - lo)=k by omega,Nat.add_zero] at a2;exact KeyOrd.kle_antisymm a1 (KeyOrd.kle_trans hr a2)
    have ek:=KK_mirror_equal hz eqs;refine wpS_bind (wpS_reverse ?_);show wpS _ _ _ _ (liftM (rule "list.sort.descending-run")>>=λ_=>mG lo (m+1) n>>=_) _ _;refine Mf #[_,λ_=>rfl,λ_ _=>rfl] O hn '!' (r.mir (yh _) '!') (SD.more (xs:=arrOf st) ek (λi j Cf hj=>?_) m1 (KeyOrd.kle_of_klt hl)) q;rw[eqs (lo+i) '!' '!',eqs (lo+j) '!' '!'];exact KeyOrd.kle_refl _
  ·rw[if_neg '!'];obtain rfl:m=1:=by omega
   show wpS _ _ _ _ (liftM (rule "list.sort.descending-run")>>=λ_=>mG lo (1+1) n>>=_) _ _;refine Mf #[_,λ_=>rfl,λ_ _=>rfl] O hn '!' r (SD.more (xs:=arrOf st) (λ_=>rfl) (λi j Cf hj=>?_) m1 (KeyOrd.kle_of_klt hl)) q;obtain rfl:i=j:=by omega
   exact KeyOrd.kle_refl _
 ·rw[if_pos (by rw[beq_iff_eq];omega)];exact wpS_pure (q m st r m1 m2 up)
theorem rN {x st:SortSt}{Q:Bool->SortSt->Prop} (O:zZ prog w A s f o z) (hn:lo+n<=z.size) (DR:a<=n) (r:Rn f z x lo st) (u:SU o (arrOf st) lo a)
  (q:∀y,Rn f z x lo y->SU o (arrOf y) lo n->Q true y):wpS '#' A E s (binarySort' lo n a) Q st:=by
 rw[binarySort'_eq];refine wpS_bind (wpS_mono (wpS_forRange (I:=λk c y=>c=(none,())/\Rn f z x lo y/\SU o (arrOf y) lo (min k n)) (Q:=λc y=>c=(none,())/\Rn f z x lo y/\SU o (arrOf y) lo n) (λk c y k1 k2 hy=>?_) (λc y hy=>?_) #[rfl,r,λi j Cf hj=>?_]) λc y hy=>?_)
 ·obtain⟨rfl,b2,up⟩:=hy;rw[Qq '!'] at up;have hk:lo+k<z.size:=by omega
  refine wpS_bind (wpS_mono (wpS_forRange (I:=λi c y'=>y'=y/\∃l r,c=(none,l,r)/\l<=r/\r<=k/\r - l<=k - i/\(∀g,g<l->o.kle (KK o (arrOf y) (lo+g)) (KK o (arrOf y) (lo+k)))/\∀g,r<=g->g<k->o.klt (KK o (arrOf y) (lo+k)) (KK o (arrOf y) (lo+g)))
   (Q:=λc y'=>y'=y/\∃l r,c=(none,l,r)/\l<=k/\(∀g,g<l->o.kle (KK o (arrOf y) (lo+g)) (KK o (arrOf y) (lo+k)))/\∀g,l<=g->g<k->o.klt (KK o (arrOf y) (lo+k)) (KK o (arrOf y) (lo+g))) (λi c y' i1 i2 hy=>?_) (λc y' hy=>?_) #[rfl,0,k,rfl,by omega,by omega,by omega,λg hg=>absurd hg '!',λg p1 p2=>absurd p1 '!']) λc y' hy=>?_)
  ·obtain⟨rfl,l,r',rfl,lr,rk,fu,lw,hw⟩:=hy;show wpS _ _ _ _ (if l>=r' then _ else _) _ _;rcases Qa l r' with OD|OD
   ·rw[if_neg '!'];refine wpS_bind (M3 O b2.gd hk (show lo+(l+r') / 2<_ by omega) ?_);show wpS _ _ _ _ (if o.blt (KK o (arrOf y') (lo+k)) (KK o (arrOf y') (lo+(l+r') / 2))=true then _ else _) _ _;cases hl:o.blt (KK o (arrOf y') (lo+k)) (KK o (arrOf y') (lo+(l+r') / 2)) with
    | true=>rw[if_pos rfl];exact wpS_pure #[rfl,l,(l+r') / 2,rfl,by omega,by omega,by omega,lw,λg p1 p2=>KeyOrd.klt_of_klt_of_kle hl (up _ _ p1 p2)]
    | false=>rw[if_neg yt];exact wpS_pure #[rfl,(l+r') / 2+1,r',rfl,by omega,by omega,by omega,λg p1=>KeyOrd.kle_trans (up g ((l+r') / 2) '!' '!') hl,hw]
   ·rw[if_pos OD];obtain rfl:l=r':=by omega
    exact wpS_pure #[rfl,l,l,rfl,rk,lw,hw]
  ·obtain⟨rfl,l,r',rfl,lr,rk,fu,lw,hw⟩:=hy;obtain rfl:l=r':=by omega
   exact#[rfl,l,l,rfl,rk,lw,hw]
  ·obtain⟨rfl,l,r',rfl,lk,lw,hw⟩:=hy;show wpS _ _ _ _ (moveDown' (lo+k) (lo+l)>>=λ_=>pure (ForInStep.yield (none,()))) _ _;rw[moveDown'_eq];have hz:lo+k<(arrOf y').size:=by rw[b2.gd.sz];exact hk
   refine wpS_bind (wpS_modify (wpS_pure #[rfl,#[#[(bubble_perm _ _ _).trans b2.gd.pm,b2.gd.kd,b2.gd.fl],b2.pd,λg hg=>?_],λi j Cf hj=>?_]))
   ·show (bubble (arrOf y') (lo+k) (lo+k - (lo+l)))[g]?=_;rw[getElem?_bubble hz _ '!',if_neg '!',if_neg '!'];exact b2.low g hg
   ·have kb:=λg=>KK_bubble (κ:=o) hz (show lo+k - (lo+l)<=lo+k by omega) g;rw[show lo+k - (lo+k - (lo+l))=lo+l by omega] at kb;show o.kle (KK o (bubble (arrOf y') (lo+k) (lo+k - (lo+l))) (lo+i)) (KK o (bubble (arrOf y') (lo+k) (lo+k - (lo+l))) (lo+j));rw[kb,kb];rw[Qq '!'] at hj;have dec:∀g,lo+g - 1=lo+(g - 1)\/g=0:=λg=>by omega
    split
    ·split
     ·exact KeyOrd.kle_refl _
     ·split
      ·rw[show lo+j - 1=lo+(j - 1) by omega];exact KeyOrd.kle_of_klt (hw _ '!' '!')
      ·exact absurd Cf '!'
    ·split
     ·split
      ·exact absurd Cf '!'
      ·split
       ·rw[show lo+i - 1=lo+(i - 1) by omega,show lo+j - 1=lo+(j - 1) by omega];exact up _ _ '!' '!'
       ·exact absurd Cf '!'
     ·split
      ·exact lw _ '!'
      ·split
       ·rw[show lo+j - 1=lo+(j - 1) by omega];exact up _ _ '!' '!'
       ·exact up _ _ '!' '!'
 ·obtain⟨rfl,b2,up⟩:=hy;rw[Nat.min_eq_right '!'] at up;exact#[rfl,b2,up]
 ·rcases Nat.eq_zero_or_pos a with h0|h0
  ·obtain rfl:i=j:=by omega
   exact KeyOrd.kle_refl _
  ·exact u i j Cf '!'
 ·obtain⟨rfl,b2,up⟩:=hy;exact wpS_pure (q y b2 up)
end
section
variable {prog:AS}{w:World}{A:Around}{E:Ax}{s:Shared}{f:Bool}{o:KeyKind}{z:AG}
theorem SU.all (u:SU o xs 0 xs.size):Up o xs.toList:=by
 have kk:∀{k} (hk:k<xs.size),KK o xs k=kv o xs[k]:=λ{k} hk=>by unfold KK;rw[getElem?_pos xs k hk];rfl
 refine QU.mpr λi j hi hj Cf=>?_;rw[yA] at hi hj;have:=u i j (y4 Cf) hj;rw[QD,QD,kk hi,kk hj] at this;exact this
structure rA (o:KeyKind) (f:Bool) (z:AG) (y:SortSt):Prop where
 gd:Gd f z y
 pd:pendingOf y=(List.toArray [(0,z.size,0)])
 up:SU o (arrOf y) 0 z.size
theorem Rn.done {x y:SortSt} (r:Rn f z x 0 y) (p0:pendingOf x=(List.toArray [])) (u:SU o (arrOf y) 0 z.size):rA o f z (setPending y ((pendingOf y).push (0,z.size,0))) :=
 #[#[r.gd.pm,r.gd.kd,r.gd.fl],by show (pendingOf y).push _=_;rw[r.pd,p0];rfl,u]
theorem aR {st:SortSt}{Q:Unit->SortSt->Prop} (O:zZ prog w A s f o z) (g:Gd f z st) (p0:pendingOf st=(List.toArray [])) (h2:2<=z.size) (DS:z.size<64)
  (q:∀y,Gd f z y->Up o (arrOf y).toList->Q () y):wpS '#' A E s sortRuns' Q st:=by
 rw[sortRuns'_eq];refine wpS_bind (wpS_get ?_);dsimp only;have RD:minRun' z.size z.size 0=z.size:=by
  obtain⟨n,hn⟩:∃n,z.size=n+1:=#[z.size - 1,by omega];have:minRun' (n+1) z.size 0=z.size:=by rw[minRun'_succ,if_pos DS];rfl
  rwa [<-hn] at this
 simp only[g.sz,RD];refine wpS_bind (wpS_mono (wpS_forRange (I:=λx c y=>(x=0/\c=(none,0)/\y=st)\/(1<=x/\c=(none,z.size)/\rA o f z y)) (Q:=λc y=>c=(none,z.size)/\rA o f z y) ?step ?fin (.inl #[rfl,rfl,rfl])) ?post)
 case fin =>
  rintro c y (⟨hx,_,_⟩|⟨_,hc,hD⟩)
  ·omega
  ·exact#[hc,hD]
 case step =>
  rintro x c y _ hx (⟨rfl,rfl,rfl⟩|⟨BO,rfl,hD⟩)
  ·dsimp only;rw[if_neg '!'];simp only[Nat.sub_zero,QO,QD];refine wpS_bind (rO O '!' '!' g λm y2 r2 m1 m2 u2=>?_);dsimp only;by_cases AX:m<z.size
   ·rw[if_pos AX];refine wpS_bind (wpS_lift (wpAny_rule #[rfl,wpS_bind (rN O '!' m2 r2 u2 λy3 r3 u3=>?_)]));simp only[Qr,yO,if_false];refine wpS_bind (wpS_get ?_);have hb:(pendingOf y3).back?=none:=by rw[r3.pd,p0];rfl
    rw[hb];exact wpS_bind (wpS_modify (wpS_pure (.inr #[by omega,rfl,r3.done p0 u3])))
   ·rw[if_neg AX];obtain rfl:m=z.size:=by omega
    refine wpS_bind (wpS_get ?_);have hb:(pendingOf y2).back?=none:=by rw[r2.pd,p0];rfl
    rw[hb];exact wpS_bind (wpS_modify (wpS_pure (.inr #[by omega,rfl,r2.done p0 u2])))
  ·dsimp only;rw[if_pos (yh _)];exact wpS_pure #[rfl,hD]
 case post =>
  rintro c y ⟨rfl,hD⟩;dsimp only;refine wpS_bind (wpS_mono (wpS_forRange (I:=λ_ c y'=>y'=y/\c=(none,())) (Q:=λc y'=>y'=y/\c=(none,())) ?_ (λ_ _ hh=>hh) #[rfl,rfl]) ?_)
  ·rintro x c y' _ _ ⟨rfl,rfl⟩;refine wpS_bind (wpS_get ?_);rw[if_pos (by rw[hD.pd];exact yh 1)];exact wpS_pure #[rfl,rfl]
  ·rintro c y' ⟨rfl,rfl⟩;exact wpS_pure (q _ hD.gd (SU.all (by rw[hD.gd.sz];exact hD.up)))
theorem sz64 (h:n<64):n<=sizeLine:=yp (y4 h) '$'
end
def VU (h:Heap) (d:Addr) (es:Array DictEntry) (ep:Nat):Prop:=∃ob,h.get? d=some ob/\ob.ExactDict/\ob.data=.dict es ep
theorem VU.typeIs {s:Shared}{d:Addr}{es:Array DictEntry}{ep:Nat} (x:VU s.heap d es ep):s.TypeIs (.ref d) "dict":=by
 obtain⟨ob,e,c,_⟩:=x;exact#[ob,e,c.1]
section
variable {prog:AS}{w:World}{A:Around}{E:Ax}{s:Shared}{d t:Addr}{es:Array DictEntry}{ep i:Nat}
theorem MP {Q:Ax} (hd:(d==sysModules)=false) (x:VU s.heap d es ep)
  (q:Q (.ref s.heap.objs.size) { s with heap:=s.heap.push { cls:=.type "dict_keyiterator",data:=.fields (List.toArray [.ref d,.int 0 0,.int es.size 0,.int ep 0]) } }):wpAny '#' A (pyIter (.ref d)) Q E s:=by
 have ty:=x.typeIs;obtain⟨ob,e,c,dt⟩:=x;refine wpAny_pyIter_slot ty F.slot_dict_iter (wpAny_call_entry F.slot_dict_iter ty F.entry_dict_iter (AT ?_) (F.args_dict_iter_1 _));refine AT (wpAny_notOrdered_dict ty ?_);show wpAny _ _ (pure (Value.ref d)) _ _ s;refine AU ?_;show wpAny _ _ (Builtin.Dict.showsAll d>>=_) _ _ s;unfold Builtin.Dict.showsAll;rw[if_neg (by rw[hd];decide)];refine AT (AU (AT (wpAny_dictEntries e dt (AT (wpAny_dictEpoch e dt ?_)))));exact AT (wpAny_newObj_type (AU #[_,rfl,"dict_keyiterator",_,#[_,yo _ rfl,rfl],F.slot_dict_keyiterator_next.lookup,q]))
theorem M8 {Q:AA} (k:s.heap.IsKeyIter t d i es.size ep) (x:VU s.heap d es ep) (hi:i<es.size)
  (q:∀h',h'.IsKeyIter t d (i+1) es.size ep->Heap.SameBut t s.heap h'->Q (some es[i].key) { s with heap:=h' }):wpAny '#' A (pyNext (.ref t)) Q E s:=by
 have ty:=k.typeIs;obtain⟨oi,e,c,dt⟩:=id k;obtain⟨ob,e2,_,FA⟩:=x;refine AT (wpAny_attempt (wpAny_callSpecial?_slot (name:=Str.ofString "__next__") ty F.slot_dict_keyiterator_next (wpAny_call_entry F.slot_dict_keyiterator_next ty F.entry_dict_keyiterator_next (AT (AU (AT (AT ?_)))) (F.args_dict_keyiterator_next_1 _))));refine AT (wpAny_typeNameOfWhole_keyiter ty (AU (AT (wpAny_fieldsOf e dt ?_))));rw[show Builtin.Dict_items.ownsTuple "dict_keyiterator"=false by decide];show wpAny _ _ (if (Value.ref d==Value.none)=true then _ else _) _ _ s;rw[if_neg (λz=>yt z)];refine AT (AU (AT (wpAny_dictEntries e2 FA ?_)));rw[if_neg (by simp)];refine AT (AU (AT (wpAny_dictEpoch e2 FA ?_)));rw[if_neg (by simp)];refine AU ?_;simp only[show ¬((i:Int)<0) by omega,if_false,Qg,yU hi];refine AT (AT (wpAny_typeNameOfWhole_keyiter ty (AU (AT (wpAny_isOneOf_keyiter ty ?_)))));show wpAny _ _ (setField (.ref t) 1 (rawInt ((i:Int)+1))>>=_) _ _ s;refine AT (wpAny_setField e dt (by simp) ?_);have k2:(s.heap.update t (Obj.mapFields (·.setIfInBounds 1 (rawInt ((i:Int)+1))))).IsKeyIter t d (i+1) es.size ep:=#[_,y6 _ e (Obj.isFreed_of_fields (Obj.data_mapFields dt _)),(Obj.cls_mapFields ..).trans c,by rw[Obj.data_mapFields dt];simp [rawInt]];refine AT (wpAny_holding (AT (wpAny_isOneOf_keyiter (s:={ s with heap:=s.heap.update t (Obj.mapFields (·.setIfInBounds 1 (rawInt ((i:Int)+1)))) }) k2.typeIs ?_)));show wpAny _ _ (pure es[i].key) _ _ _;exact AU (AU #[_,rfl,AU (q _ k2 (Heap.SameBut.update ..))])
theorem Ng {Q:AA} (hh:A.handled=none) (k:s.heap.IsKeyIter t d i es.size ep) (x:VU s.heap d es ep) (hi:es.size<=i)
  (q:∀h',Heap.ExtBut t s.heap h'->Q none { s with heap:=h' }):wpAny '#' A (pyNext (.ref t)) Q E s:=by
 have ty:=k.typeIs;obtain⟨oi,e,c,dt⟩:=id k;obtain⟨ob,e2,_,FA⟩:=x;refine AT (wpAny_attempt (wpAny_callSpecial?_slot (name:=Str.ofString "__next__") ty F.slot_dict_keyiterator_next (wpAny_call_entry F.slot_dict_keyiterator_next ty F.entry_dict_keyiterator_next (AT (AU (AT (AT ?_)))) (F.args_dict_keyiterator_next_1 _))));refine AT (wpAny_typeNameOfWhole_keyiter ty (AU (AT (wpAny_fieldsOf e dt ?_))));rw[show Builtin.Dict_items.ownsTuple "dict_keyiterator"=false by decide];show wpAny _ _ (if (Value.ref d==Value.none)=true then _ else _) _ _ s;rw[if_neg (λz=>yt z)];refine AT (AU (AT (wpAny_dictEntries e2 FA ?_)));rw[if_neg (by simp)];refine AT (AU (AT (wpAny_dictEpoch e2 FA ?_)));rw[if_neg (by simp)];refine AU ?_;simp only[show ¬((i:Int)<0) by omega,if_false,Qg,Q3 hi];refine AT (AT (wpAny_typeNameOfWhole_keyiter ty (AU ?_)));show wpAny _ _ (setField (.ref t) 0 .none>>=_) _ _ s;refine AT (wpAny_setField e dt (by simp) ?_);show wpAny _ _ (newExc (.type "StopIteration") []>>=_) _ _ _;refine AT ?_;simp only[newExc,newTuple];refine AT (wpAny_newObj_type (AT (m:=firstArgMember _ _) (wpAny_of_eq (a:=Value.none) (by simp only[firstArgMember];rfl) (wpAny_newObj_type ?_ (by size_fits)))) (by size_fits));simp only[raiseNew];refine AT (wpAny_handled ?_);rw[show A.in1.handled=none from hh];refine AT (AU (wpAny_throw ?_));exact AT (wpAny_isInstance (T:="StopIteration") (b:=true) #[_,yo _ rfl,rfl] isSubtype_stop (AU (q _ (((Heap.SameBut.update ..).extBut.push _).push _))))
theorem VU.keep (x:VU h d es ep) (k:∀o,h.get? d=some o->h'.get? d=some o):VU h' d es ep:=by
 obtain⟨ob,e,c⟩:=x;exact#[ob,k _ e,c]
theorem rf (hd:(d==sysModules)=false):KdlSrc prog w "dict" d d es.size (λi v=>∃hi:i<es.size,v=es[i].key) (λh=>VU h d es ep) where
 type:=λ_ x=>x.typeIs
 there:=λ_ x=>by obtain⟨ob,e,_⟩:=x;exact#[ym e,ym e]
 keep:=λ_ _ x k=>x.keep λo e=>k d (.inl rfl) o e
 notList:=by decide
 notTuple:=by decide
 hint:=λ_ _ _ _ x q=>PySem.W.kdl_hint_dict x.typeIs q
 iter:=λA s hh x=>by
  have AX:d<s.heap.objs.size:=by obtain⟨ob,e,_⟩:=x;exact ym e
  refine#[{ cls:=.type "dict_keyiterator",data:=.fields (List.toArray [.ref d,.int 0 0,.int es.size 0,.int ep 0]) },λi h=>h.IsKeyIter s.heap.objs.size d i es.size ep/\VU h d es ep,λE Q q=>MP hd x q,?_,#[_,yo _ rfl,rfl,rfl],x.keep λo e=>yd _ e];refine#[λb hb=>by simp at hb;simp [hb],λi h h' st k=>#[?_,st.2.keep λo e=>k d (by simp) o e],λi s' Q E hi st q=>?_,λs' Q E st q=>?_,λi s' Q E st q=>wpAny_pyIter_keyiter st.1 q]
  ·obtain⟨ob,e,r⟩:=st.1;exact#[ob,k _ (by simp) ob e,r]
  ·refine M8 st.1 st.2 hi λh' k' sb=>q _ h' s'.toks #[hi,rfl] #[k',st.2.keep λo e=>sb.extBut d o (yx AX) e] λb o hb e=>sb.extBut b o (λz=>hb (by simp [z])) e
  ·refine Ng hh st.1 st.2 (yh _) λh' eb=>q h' s'.toks λb o hb e=>eb b o (λz=>hb (by simp [z])) e
theorem qO {Q:Ax} (hh:A.handled=none) (hd:(d==sysModules)=false) (x:VU s.heap d es ep) (hn:es.size<=sizeLine)
  (q:∀h' tk acc c,(∀b o,s.heap.get? b=some o->h'.get? b=some o)->h'.get? s.heap.objs.size=some { cls:=.type "list",dict:=none,data:=.seq acc c,slots:=(List.toArray []) }->ItemsOf (λi v=>∃hi:i<es.size,v=es[i].key) acc es.size->Q (.ref s.heap.objs.size) { s with heap:=h',toks:=tk }) :
  wpAny '#' A (runValue (.builtin "proto.collect" #[[.ref d],[]])) Q E s:=by
 have AX:d<s.heap.objs.size:=by obtain⟨ob,e,_⟩:=x;exact ym e
 have ne:s.heap.objs.size≠d:=Qe AX;refine wpAny_runValue (codeAny_builtin F.entry_proto_collect ?_);rw[Around.under_plainId F.plain_proto_collect _];refine AT (m:=newList []) (wpAny_newObj_type (AU #[plainId_quiet F.plain_list_iadd _,codeAny_builtin F.entry_list_iadd ?_]));rw[Around.under_plainId F.plain_list_iadd _];have x2:VU (s.heap.push { cls:=.type "list",data:=.seq ([]:AH).toArray }) d es ep:=x.keep λo e=>yd _ e;exact kdl_extend (s:={ s with heap:=s.heap.push { cls:=.type "list",data:=.seq ([]:AH).toArray } }) (R:=λr s'=>match r with|.ok (.ret v)=>Q v s'|.ok _=>False|.error e=>E e s') (rf (es:=es) (ep:=ep) hd) hh x2 _ ne ne (.ref s.heap.objs.size) 0 (yo _ rfl)
  (λh' tk acc c kp e items=>q h' tk acc c (λb o hb=>kp b o (yx (ym hb)) (yd _ hb)) e items) hn
theorem Nz {Q:List Value->Shared->Prop} (hh:A.handled=none) (hd:(d==sysModules)=false) (x:VU s.heap d es ep) (hn:es.size<=sizeLine)
  (q:∀h' tk,(∀b o,s.heap.get? b=some o->h'.get? b=some o)->s.heap.objs.size<h'.objs.size->Q (es.toList.map (·.key)) { s with heap:=h',toks:=tk }):wpAny '#' A (collect (.ref d)) Q E s:=by
 refine AT (qO hh hd x hn λh' tk acc c kp e items=>?_);show wpAny _ A (load s.heap.objs.size>>=_) _ _ _;refine AT (wpAny_load e (AU ?_));have ea:acc.toList=es.toList.map (·.key):=by
  apply QW
  intro k;rw[ye,yN,yN];rcases Qa k es.size with hk|hk
  ·have h1:k<acc.size:=by rw[items.1];exact hk
   rw[getElem?_pos es k hk,getElem?_pos acc k h1];obtain⟨_,e2⟩:=items.2 k acc[k] (getElem?_pos acc k h1);rw[e2];rfl
  ·rw[getElem?_neg es k '!',getElem?_neg acc k (by rw[items.1];omega)];rfl
 rw[ea];exact q h' tk kp (ym e)
end
section
variable {prog:AS}{w:World}{A:Around}{E:Ax}{s:Shared}
theorem TupAt.keep {v:Value}{ks:List L2.Key} (t:TupAt h v ks) (k:∀b o,h.get? b=some o->h'.get? b=some o):TupAt h' v ks:=by
 obtain⟨b,o2,us,n,rfl,e,r⟩:=t;exact#[b,o2,us,n,rfl,k _ _ e,r]
theorem sH {vs:AH}{y:AG} (pm:y.Perm (pairsOf vs)) (up:Up (kind kc) y.toList) :
  ∃out:List Value,(y.map (·.2))=out.toArray/\out.Perm vs/\out.Pairwise λu v=>lx (kc v) (kc u)=false:=by
 have pl:y.toList.Perm (vs.zip vs):=pairsOf_toList vs▸Array.perm_iff_toList_perm.mp pm;have hm:∀p∈y.toList,p.1=p.2:=λp hp=>(mem_zip_self (pl.mem_iff.mp hp)).1;refine#[y.toList.map (·.2),by rw[<-Array.toList_map,QJ],?_,?_]
 ·have:=pl.map Prod.snd;rwa [List.map_snd_zip (yh _)] at this
 ·refine Qx.mpr (up.imp_of_mem λ{p q} hp hq h=>?_);rw[<-hm p hp,<-hm q hq];exact h
theorem nY {α:Type}{R:α->α->Prop}{l:List α} (h:l.length<2):l.Pairwise R:=by
 cases l with
 | nil=>exact List.Pairwise.nil
 | cons v l =>
  cases l with
  | nil=>exact List.pairwise_singleton _ _
  | cons u l=>exact absurd h (by simp)
theorem lQ {a:Addr}{vs:AH}{P:Fin->Shared->Prop} (ho:s.heap.get? a=some (seqObj "list" vs.toArray n)) (ht:∀v∈vs,TupAt s.heap v (kc v)) (hs:∀v∈vs,sd (kc v)=d) (hd:d≠[]) (hl:vs.length<64)
  (q:∀out:List Value,out.Perm vs->(out.Pairwise λu v=>lx (kc v) (kc u)=false)->P (.done (.ret .none)) { s with heap:=sortedHeap s.heap a vs out.toArray }):wpAny '#' A (Builtin.«list.sort» #[[.ref a],[]]) P E s:=by
 have hz:=sz64 hl;rw[list_sort_plain];refine AT (listItems_at ho rfl (AT (listUpdate_at ho rfl ?_ (by rw[yg];exact hz))));have g1:=get?_update_seq ho (λ_=>(List.toArray []));refine AT (seqEpoch_at g1 rfl (AT (wpAny_newTuple (AT (wpAny_newList (wpAny_holding ?_))))));have g2:(((s.heap.update a (Obj.mapSeq λ_=>(List.toArray []))).push (seqObj "tuple" vs.toArray 0)).push (seqObj "list" (List.toArray []) 0)).get? a=_:=yd _ (yd _ g1);have FC:∀v∈vs,TupAt (((s.heap.update a (Obj.mapSeq λ_=>(List.toArray []))).push (seqObj "tuple" vs.toArray 0)).push (seqObj "list" (List.toArray []) 0)) v (kc v):=λv hv=>(((ht v hv).upd ho rfl).push _).push _;have room:∀y:Array Keyed,y.Perm (pairsOf vs)->(y.map (·.2)).size<=sizeLine+1:=λy hy=>by
  rw[Array.size_map,hy.size_eq,pairsOf_size];omega
 have fin:∀y:SortSt,(arrOf y).Perm (pairsOf vs)->Up (kind kc) (arrOf y).toList->P (.done (.ret .none)) { s with heap:=sortedHeap s.heap a vs ((arrOf y).map (·.2)) }:=λy pm up=>by
  obtain⟨out,e,p,w⟩:=sH pm up;rw[e];exact q out p w
 rcases Qa vs.length 2 with h2|h2
 ·rw[if_pos (by simpa using h2),if_pos (by simpa using h2)];refine AT (AU ?_);dsimp only;rw[StateT.run_pure];refine AT (AU (AT (seqEpoch_at g2 rfl (AT (listUpdate_at g2 rfl ?_ (hsz2:=room _ (Array.Perm.refl _)))))));simp only[bne_self_eq_false,yO,if_false];refine AU (fin (SortSt.mk' general' (pairsOf vs) (List.toArray []) 7 none) (Array.Perm.refl _) ?_);show Up _ (pairsOf vs).toList;rw[pairsOf_toList];exact nY (by rw[yV,QO];exact h2)
 ·rw[if_neg (by simpa using h2),if_neg (by simpa using h2)];refine AT (iT h2 FC hs hd ?_);refine AT (wpAny_mono (aR (o:=kind kc) (z:=pairsOf vs) (f:=true) (st:=SortSt.mk' (tuples' true) (vs.toArray.zip vs.toArray) (List.toArray []) 7 none) (Q:=λ_ y=>Gd true (pairsOf vs) y/\Up (kind kc) (arrOf y).toList) (sG FC hs true) #[Array.Perm.refl _,rfl,rfl] rfl (by rw[pairsOf_size];exact h2) (by rw[pairsOf_size];exact hl) λy p1 p2=>#[p1,p2]) ?_ λ_ _ e=>e);rintro⟨⟨⟩,y⟩ s2 ⟨rfl,gd,up⟩;refine AT (seqEpoch_at g2 rfl (AT (listUpdate_at g2 rfl ?_ (hsz2:=room _ gd.pm))));rw[gd.fl];simp only[bne_self_eq_false,yO,if_false];exact AU (fin y gd.pm up)
theorem sortedHeap_at {a:Addr}{vs:AH}{out:AN} (ho:h.get? a=some (seqObj "list" vs.toArray n)):∃c,(sortedHeap h a vs out).get? a=some (seqObj "list" out c)/\∀b o,b≠a->h.get? b=some o->(sortedHeap h a vs out).get? b=some o:=by
 have g1:=get?_update_seq ho (λ_=>(List.toArray []));have g2:(((h.update a (Obj.mapSeq λ_=>(List.toArray []))).push (seqObj "tuple" vs.toArray 0)).push (seqObj "list" (List.toArray []) 0)).get? a=_:=yd _ (yd _ g1);have g3:=get?_update_seq g2 (λ_=>out);refine#[_,g3,λb o hb e=>?_];exact (yM _ _ (yZ hb)).trans (yd _ (yd _ ((yM _ _ (yZ hb)).trans e)))
theorem KN {x:Value}{vs:AH}{kc:Value->List L2.Key}{d:List Bool}{Q:Ax} (hc:∀R:List Value->Shared->Prop,(∀h' tk,(∀b o,s.heap.get? b=some o->h'.get? b=some o)->s.heap.objs.size<h'.objs.size->R vs { s with heap:=h',toks:=tk })->wpAny '#' A.in1 (collect x) R E s)
  (ht:∀v∈vs,TupAt s.heap v (kc v)) (hs:∀v∈vs,sd (kc v)=d) (hd:d≠[]) (hl:vs.length<64)
  (q:∀(h':Heap) (tk c:Nat) (p:Addr) (out:AH),(∀b o,s.heap.get? b=some o->h'.get? b=some o)->s.heap.objs.size<=p->h'.get? p=some (seqObj "list" out.toArray c)->out.Perm vs->(out.Pairwise λu v=>lx (kc v) (kc u)=false)->Q (.ref p) { s with heap:=h',toks:=tk }) :
  wpAny '#' A (call (.builtin "sorted") [x]) Q E s:=by
 have hz:=sz64 hl;refine Calls.call_function_entry kind_sorted plain_sorted entry_sorted (args_sorted1 _) ?_;refine AT (m:=checkCount "sorted" 1 1 _) (AU ?_);refine AT (hc _ λh' tk kp lt=>?_);refine AT (wpAny_newList ?_);have e1:(h'.push (seqObj "list" vs.toArray 0)).get? h'.objs.size=some (seqObj "list" vs.toArray 0):=yo _ rfl;have El:∀b o,s.heap.get? b=some o->(h'.push (seqObj "list" vs.toArray 0)).get? b=some o:=λb o e=>yd _ (kp b o e);refine AT (wpAny_holding (wpAny_call_entry slot_list_sort #[_,e1,rfl] entry_list_sort (lQ e1 (λv hv=>(ht v hv).keep El) hs hd hl λout pm up=>#[_,rfl,AU #[_,rfl,?_]]) (args_list_sort _)));obtain⟨c,g1,g2⟩:=sortedHeap_at (out:=out.toArray) e1;exact q _ tk c _ out (λb o e=>g2 b o (yx (Nat.lt_trans (ym e) lt)) (El b o e)) (y4 lt) g1 pm up
end
end TS
namespace L2
open PySem PyProof.Rows TS
variable {H:Hp}{b:Addr}
def pH:V->Key|.int n=>.inl n|.str x=>.inr x|_=>.inl 0
theorem t0 (k:Key):pH (kV k)=k:=by cases k<;>rfl
def KeyAt (H:Hp) (bs:AI) (ks:List (List Key)):Prop:=bs.length=ks.length/\∀(i:Nat) (b:Addr) (k:List Key),bs[i]?=some b->ks[i]?=some k->H b=some (.tup (k.map kV))
def vn (H:Hp):Value->List Key
 | .ref b=>match H b with|some (.tup ys)=>ys.map pH|_=>[]
 | _=>[]
theorem vp {k:List Key} (e:H b=some (.tup (k.map kV))):vn H (.ref b)=k:=by
 show (match H b with|some (.tup ys)=>ys.map pH|_=>[])=k;rw[e];show (k.map kV).map pH=k;rw[yq];exact (yY λx _=>t0 x).trans (Wh _)
theorem MU:∀{ks:List Key} {us:AH},jz (ks.map kV) us->U1 ks us
 | [],_,h=>by rw[List.map_nil] at h;cases h;exact .nil
 | k::ks,_,h=>by
  rw[yH] at h;cases h with
  | cons r t =>
   refine .cons ?_ (MU t);cases k with
   | inl n=>exact r
   | inr x=>exact r
theorem Nn {P:AS}{w:World}{h:Heap}{k:List Key} (ok:Js P w H h) (e:H b=some (.tup (k.map kV))):TS.TupAt h (.ref b) k:=by
 obtain⟨_,AV,r,o,h1,h2,n,h3⟩:=(show jP P w H h b (.tup (k.map kV)) from ok b _ e);exact#[b,o,AV,n,rfl,h1,h2,h3,MU r]
def gl:Value->Addr|.ref b=>b|_=>0
theorem MX {vs out:AH}{ks:List (List Key)} (hv:∀v∈vs,∃(b:Addr) (k:List Key),v=.ref b/\H b=some (.tup (k.map kV))) (hk:vs.map (vn H)=ks) (pm:out.Perm vs) (up:out.Pairwise λu v=>lx (vn H v) (vn H u)=false) :
  jz ((out.map gl).map V.ref) out/\KeyAt H (out.map gl) (out.map (vn H))/\(out.map (vn H)).Perm ks/\(out.map (vn H)).Pairwise λa b=>lx b a=false:=by
 have ho:∀v∈out,∃(b:Addr) (k:List Key),v=.ref b/\H b=some (.tup (k.map kV)):=λv h=>hv v (pm.mem_iff.mp h);refine#[?_,#[by rw[ya,ya],λi b k h1 h2=>?_],hk▸pm.map _,Qx.mpr up]
 ·clear pm up hk
  induction out with
  | nil=>exact .nil
  | cons v r ih =>
   obtain⟨b,k,rfl,_⟩:=ho v (yw ..);exact .cons rfl (ih λu hu=>ho u (yn _ hu))
 ·rw[ye] at h1 h2;obtain⟨v,e1,rfl⟩:=yz.mp h1;rw[e1] at h2;cases h2;obtain⟨b,k,rfl,e⟩:=ho v (yk e1);rw[vp e];exact e
theorem GM {α β:Type}{F:α->β->Prop}:∀{l:List α} {m:List β} {y:β},Paired F l m->y∈m->∃x∈l,F x y
 | _,_,_,.nil,h=>by cases h
 | _,_,y,.cons r t,h=>by
  rcases yr.mp h with rfl|h
  ·exact#[_,yw ..,r]
  ·obtain⟨x,hx,hf⟩:=GM t h;exact#[x,yn _ hx,hf]
theorem GL {α β γ:Type}{F:α->β->Prop}{g:α->γ}{g':β->γ}:∀{l:List α} {m:List β},Paired F l m->(∀x y,F x y->g' y=g x)->l.map g=m.map g'
 | _,_,.nil,_=>rfl
 | _,_,.cons r t,h=>by rw[yH,yH,h _ _ r,GL t h]
section
variable {X:Cx}
theorem Zc (hc:X.calm=true):Jf X (.builtin "sorted") (λxs H Q=>∃p kvs d,xs=[.ref p]/\H p=some (.dT kvs)/\(∀kv∈kvs,sd kv.1=d)/\d≠[]/\kvs.length<64 /\
  ∀l bs ks,H l=none->KeyAt H bs ks->ks.Perm (kvs.map (·.1))->(ks.Pairwise λa b=>lx b a=false)->Q (.ref l) (upd H l (.lst (bs.map V.ref)))):=by
 intro pins s σ H xs us Q I r h;obtain⟨p,kvs,d,rfl,e,hs,hd,DS,q⟩:=h;obtain⟨u,rfl,ru⟩:=J1 r;cases ru;obtain⟨hl,hm,ys,kt,ob,es,ep,h1,h2,h3,h4,h5,h6⟩:=bF I.hok e;have hv:∀v∈es.toList.map (·.key),∃(b:Addr) (k:List Key),v=.ref b/\H b=some (.tup (k.map kV))/\k∈kvs.map (·.1):=λv hv=>by
  rw[h4,yq] at hv;obtain⟨y,hy,rfl⟩:=yi.mp hv;obtain⟨x,hx,e2,e3,_⟩:=GM kt hy;exact#[y.2.1,x.1,rfl,e3,yi.mpr #[x,hx,rfl]]
 have hk:(es.toList.map (·.key)).map (vn H)=kvs.map (·.1):=by
  rw[h4,yq,yq];exact (GL kt λx y Hi=>vp Hi.2.1).symm
 have IH:∀v∈es.toList.map (·.key),sd (vn H v)=d:=λv Du=>by
  obtain⟨b,k,rfl,e1,hm⟩:=hv v Du;obtain⟨kv,h7,rfl⟩:=yi.mp hm;rw[vp e1];exact hs kv h7
 have hlen:es.size=kvs.length:=by
  have:=congrArg List.length h4;rw[yA,ya] at this;rw[this,Paired.length kt]
 refine KN (kc:=vn H) (λR hR=>Nz (A:=X.A.in1) (I.ok.hd hc) hm #[ob,h1,h2,h3] (by rw[hlen];exact hl) hR) (λv Du=>?_) IH hd (by rw[ya,yA,hlen];exact DS) λh' tk c p' out kp hp e' pm up=>?_
 ·obtain⟨b,k,rfl,e1,_⟩:=hv v Du;rw[vp e1];exact Nn I.hok e1
 ·obtain⟨rv,ka,BP,II⟩:=MX (λv h=>by obtain⟨b,k,e1,e2,_⟩:=hv v h;exact#[b,k,e1,e2]) hk pm up;refine#[.ref p',_,I.laid (t':=tk) (o:=.lst ((out.map gl).map V.ref)) kp hp #[?_,out,c,rv,e'],rfl,q p' _ _ (I.hok.fresh hp) ka BP II];rw[ya,ya,pm.length_eq,ya,yA,hlen];exact hl
end
end L2
namespace L2
open PySem PySem.Spec PyProof.Rows TS
section
variable {X:Cx}
theorem U4:Jf X (.builtin "sorted") (λxs H Q=>∃p bs ks d,xs=[.ref p]/\H p=some (.lst (bs.map V.ref))/\KeyAt H bs ks/\(∀k∈ks,sd k=d)/\d≠[]/\ks.length<64 /\
  ∀l B8 By,H l=none->KeyAt H B8 By->By.Perm ks->(By.Pairwise λa b=>lx b a=false)->Q (.ref l) (upd H l (.lst (B8.map V.ref)))):=by
 intro pins s σ H xs us Q I r h;obtain⟨p,bs,ks,d,rfl,e,ka,hs,hd,DS,q⟩:=h;obtain⟨u,rfl,ru⟩:=J1 r;cases ru;obtain⟨AV,rv,pl,hz⟩:=I.list (jg.of e);obtain rfl:=uT rv;have hv:∀v∈bs.map Value.ref,∃(b:Addr) (k:List Key),v=.ref b/\H b=some (.tup (k.map kV))/\k∈ks:=λv hv=>by
  obtain⟨b,hb,rfl⟩:=yi.mp hv;obtain⟨i,hi,eb⟩:=yD hb;have hi2:i<ks.length:=by rw[<-ka.1];exact hi
  exact#[b,ks[i],rfl,ka.2 i b ks[i] (by rw[yb hi,eb]) (yb hi2),yB hi2]
 have hk:(bs.map Value.ref).map (vn H)=ks:=by
  refine yX (by rw[ya,ya,ka.1]) λi h1 h2=>?_;rw[yR,yR];have hb:i<bs.length:=by simpa using h1
  exact vp (ka.2 i bs[i] ks[i] (yb hb) (yb h2))
 have IH:∀v∈bs.map Value.ref,sd (vn H v)=d:=λv Du=>by
  obtain⟨b,k,rfl,e1,hm⟩:=hv v Du;rw[vp e1];exact hs k hm
 have hlen:(bs.map Value.ref).length<=sizeLine:=by
  have:=hz;simpa using this
 refine KN (kc:=vn H) (λR hR=>collect_list (A:=X.A.in1) pl.isList (hR _ s.toks (λb o e=>?_) ?_) hlen) (λv Du=>?_) IH hd (by rw[ya,ka.1];exact DS) λh' tk c p' out kp hp e' pm up=>?_
 ·exact (yM _ _ (Qe (ym e))).trans (yd _ e)
 ·show s.heap.objs.size<((s.heap.push _).update _ _).objs.size;simp [Heap.update,Heap.push]
 ·obtain⟨b,k,rfl,e1,_⟩:=hv v Du;rw[vp e1];exact Nn I.hok e1
 ·obtain⟨rv,ka,BP,II⟩:=MX (λv h=>by obtain⟨b,k,e1,e2,_⟩:=hv v h;exact#[b,k,e1,e2]) hk pm up;refine#[.ref p',_,I.laid (t':=tk) (o:=.lst ((out.map gl).map V.ref)) kp hp #[?_,out,c,rv,e'],rfl,q p' _ _ (I.hok.fresh hp) ka BP II];rw[ya,ya,pm.length_eq];exact hlen
open Classical in
end
end L2
namespace STb
open PySem SetTable
local macro_rules|`(tactic|omega)=>`(tactic|first|lia|omega +splitNatSub)
variable {mask n x i j p r:Nat}{h:Int}{xs:Array Nat}{hs:Nat->Int}{owner:AQ}{l:List (Nat×Nat)}
def sm:Nat->Nat
 | 0=>0
 | n+1=>5*sm n+1
theorem GU (m:Nat):∀n,sm (n+m)=5^n*sm m+sm n
 | 0=>by simp [sm]
 | n+1=>by
  have e:n+1+m=(n+m)+1:=by omega
  rw[e];show 5*sm (n+m)+1=5^(n+1)*sm m+(5*sm n+1);rw[GU m n,QE,Nat.mul_add,Wb (5^n) 5,Qv];omega
theorem Mz (n:Nat):5^n % 4=1:=by
 induction n with
 | zero=>rfl
 | succ n ih=>rw[QE];omega
theorem Nc:∀k,∃d,sm (2^k)=2^k*(2*d+1)
 | 0=>#[0,rfl]
 | k+1=>by
  obtain⟨d,hd⟩:=Nc k;have e:2^(k+1)=2^k+2^k:=by rw[QE];omega
  have h4:=Mz (2^k);obtain⟨q,hq⟩:∃q,5^(2^k)=4*q+1:=#[5^(2^k) / 4,by omega];refine#[2*d*q+d+q,?_];rw[e,GU,hd,hq];have:(4*q+1)*(2^k*(2*d+1))+2^k*(2*d+1)=2^k*((4*q+2)*(2*d+1)):=by
   rw[<-Qv,Wb (4*q+1),Qv,<-Nat.mul_add];congr 1;rw[show (4*q+2)=(4*q+1)+1 by omega,Nat.add_mul (4*q+1) 1,Nat.one_mul]
  rw[this,<-Nat.two_mul,Wb 2 (2^k),Qv];congr 1;have:(4*q+2)*(2*d+1)=2*((2*q+1)*(2*d+1)):=by rw[<-Qv];congr 1;omega
  rw[this];congr 1;rw[Nat.add_mul,Nat.mul_add,Nat.one_mul,show 2*q*(2*d)=2*(2*d*q) by rw[Qv,Wb q (2*d)]];omega
theorem fH:∀(k b:Nat),∃n,n<2^k/\sm n % 2^k=b % 2^k
 | 0,b=>#[0,by decide,by simp [Nat.mod_one]]
 | k+1,b=>by
  obtain⟨n,hn,he⟩:=fH k b;have e:2^(k+1)=2^k+2^k:=by rw[QE];omega
  have hp:0<2^k:=Nat.pow_pos '$';obtain⟨d,hd⟩:=Nc k;by_cases h:sm n % 2^(k+1)=b % 2^(k+1)
  ·exact#[n,by omega,h]
  ·refine#[n+2^k,by omega,?_];obtain⟨c,hc⟩:∃c,5^n=2*c+1:=#[5^n / 2,by have:=Mz n;omega];have e1:sm (n+2^k)=sm n+2^k+2^(k+1)*(2*c*d+c+d):=by
    rw[GU,hd,hc,<-Qv,Wb (2*c+1),Qv];have:(2*c+1)*(2*d+1)=2*(2*c*d+c+d)+1:=by
     rw[Nat.add_mul,Nat.mul_add,Nat.one_mul,show 2*c*(2*d)=2*(2*c*d) by rw[Nat.mul_left_comm]];omega
    rw[this,Nat.mul_add,Nat.mul_one,<-Qv,<-QE];show 2^(k+1)*_+2^k+sm n=_;omega
   rw[e1,Nat.add_mul_mod_self_left];have d1:=Nat.div_add_mod (sm n) (2^(k+1));have d2:=Nat.div_add_mod b (2^(k+1));have m1:=Nat.mod_lt (sm n) (show 0<2^(k+1) by omega);have m2:=Nat.mod_lt b (show 0<2^(k+1) by omega);have q1:sm n % 2^(k+1) % 2^k=sm n % 2^k:=Nat.mod_mod_of_dvd _ #[2,by rw[QE]];have q2:b % 2^(k+1) % 2^k=b % 2^k:=Nat.mod_mod_of_dvd _ #[2,by rw[QE]];rw[Nat.add_mod];generalize sm n % 2^(k+1)=x at *;generalize b % 2^(k+1)=y at *;rw[e] at *;generalize 2^k=p at *;have hx:x % p=y % p:=by omega
   have px:x % p=if x<p then x else x - p:=by
    split
    ·exact QF ‹_›
    ·rw[Nat.mod_eq_sub_mod '!',QF '!']
   have py:y % p=if y<p then y else y - p:=by
    split
    ·exact QF ‹_›
    ·rw[Nat.mod_eq_sub_mod '!',QF '!']
   have pp:p % (p+p)=p:=QF '!';rw[pp];rw[px,py] at hx;by_cases h1:x<p
   ·rw[QF '!']
    split at hx<;>split at hx<;>omega
   ·rw[Nat.mod_eq_sub_mod '!',QF '!']
    split at hx<;>split at hx<;>omega
def Fm (mask i:Nat):Nat:=(i*5+1) % (mask+1)
def Zk (mask:Nat) (a:Nat):Nat->Nat
 | 0=>a
 | n+1=>Fm mask (Zk mask a n)
theorem Gr {k:Nat} (hm:mask+1=2^k) (a:Nat) (ha:a<=mask):∀n,Zk mask a n=(5^n*a+sm n) % 2^k
 | 0=>by
  show a=(5^0*a+0) % 2^k;rw[Nat.pow_zero,Nat.one_mul,Nat.add_zero,QF (by omega +splitNatSub)]
 | n+1=>by
  show (Zk mask a n*5+1) % (mask+1)=(5^(n+1)*a+(5*sm n+1)) % 2^k;rw[Gr hm a ha n,hm,Nat.add_mod,Nat.mod_mul_mod,<-Nat.add_mod];congr 1;rw[Nat.add_mul,QE,Wb (5^n*a) 5,Wb (5^n) 5,Qv];omega
theorem kj (mask a m:Nat):∀n,Zk mask (Zk mask a m) n=Zk mask a (m+n)
 | 0=>rfl
 | n+1=>by show Fm mask _=Fm mask _;rw[kj mask a m n];rfl
theorem av {k:Nat} (hm:mask+1=2^k) {a b:Nat} (ha:a<=mask) (hb:b<=mask):∃n,n<=mask/\Zk mask a n=b:=by
 have z:∀c,c<=mask->∃n,n<2^k/\Zk mask 0 n=c:=λc hc=>by
  obtain⟨n,h1,h2⟩:=fH k c;refine#[n,h1,?_];rw[Gr hm 0 (yT _),Nat.mul_zero,QD,h2,QF '!']
 have RE:∀n,Zk mask 0 (n+2^k)=Zk mask 0 n:=λn=>by
  obtain⟨d,hd⟩:=Nc k;rw[Gr hm 0 (yT _),Gr hm 0 (yT _),Nat.mul_zero,QD,Nat.mul_zero,QD,GU,hd,<-Qv,Wb (5^n),Qv,Nat.add_comm,Nat.add_mul_mod_self_left]
 obtain⟨m,m1,rfl⟩:=z a ha;obtain⟨m',m2,rfl⟩:=z b hb;by_cases h:m<=m'
 ·exact#[m' - m,by omega,by rw[kj];congr 1;omega]
 ·refine#[m'+2^k - m,by omega,?_];rw[kj,<-RE m'];congr 1;omega
def UM (mask:Nat) (p:Probe):Probe :=
 if p.more > 0 then { p with j:=p.j+1,more:=p.more - 1 } else { p with j:=(leap mask p.i p.perturb).1,more:=runEnd mask (leap mask p.i p.perturb).1 - (leap mask p.i p.perturb).1,i:=(leap mask p.i p.perturb).1,perturb:=(leap mask p.i p.perturb).2 }
theorem Md (t:SetTable) (p:Probe):t.advance p=UM t.mask p:=by
 unfold SetTable.advance UM
 split<;>rfl
def Ak (mask:Nat) (h:Int):Probe:={ j:=bits h % (mask+1),more:=runEnd mask (bits h % (mask+1)) - bits h % (mask+1),i:=bits h % (mask+1),perturb:=bits h,dummy:=none }
def jJ (mask:Nat) (h:Int):Nat->Probe
 | 0=>Ak mask h
 | n+1=>UM mask (jJ mask h n)
def lp (mask:Nat) (h:Int):Nat->Nat×Nat
 | 0=>(bits h % (mask+1),bits h)
 | m+1=>leap mask (lp mask h m).1 (lp mask h m).2
def g9 (mask:Nat) (x:Nat×Nat):Probe:={ j:=x.1,more:=runEnd mask x.1 - x.1,i:=x.1,perturb:=x.2,dummy:=none }
theorem kS {x:Nat×Nat} (e:jJ mask h n=g9 mask x):∀d,d<=runEnd mask x.1 - x.1->jJ mask h (n+d)={ g9 mask x with j:=x.1+d,more:=runEnd mask x.1 - x.1 - d }
 | 0,_=>e
 | d+1,hd=>by
  show UM mask (jJ mask h (n+d))=_;rw[kS e d (by omega +splitNatSub)];unfold UM;rw[if_pos (by show runEnd mask x.1 - x.1 - d > 0;omega)];simp only[g9,Probe.mk.injEq,true_and,and_true];omega
theorem fB (mask i:Nat):runEnd mask i - i<=9:=by unfold runEnd;split<;>omega
theorem nX (mask:Nat) (h:Int):∀m,∃n,n<=10*m/\jJ mask h n=g9 mask (lp mask h m)
 | 0=>#[0,yh _,rfl]
 | m+1=>by
  obtain⟨n,hn,e⟩:=nX mask h m;have hr:=fB mask (lp mask h m).1;refine#[n+(runEnd mask (lp mask h m).1 - (lp mask h m).1)+1,by omega,?_];show UM mask (jJ mask h (n+(runEnd mask (lp mask h m).1 - (lp mask h m).1)))=_;rw[kS e _ (yh _)];unfold UM;rw[if_neg (by show ¬(runEnd mask (lp mask h m).1 - (lp mask h m).1 - (runEnd mask (lp mask h m).1 - (lp mask h m).1) > 0);omega)]
  rfl
theorem aE (mask:Nat) (h:Int):∀m,(lp mask h m).2=bits h / 32^m
 | 0=>by show bits h=_;rw[Nat.pow_zero,Nat.div_one]
 | m+1=>by
  show (lp mask h m).2 / 32=_;rw[aE mask h m,Nat.div_div_eq_div_mul,QE]
theorem pR (h:Int):bits h<2^64:=by
 unfold bits;have h1:=Int.emod_nonneg h (show ((2:Int)^64)≠0 by decide);have h2:=Int.emod_lt_of_pos h (show (0:Int)<2^64 by decide);omega
theorem oP (mask:Nat) (h:Int):∀m,(lp mask h m).1<=mask
 | 0=>Q8 (Nat.mod_lt _ (Ql _))
 | m+1=>Q8 (Nat.mod_lt _ (Ql _))
theorem qi (mask:Nat) (h:Int) (m:Nat):(lp mask h (13+m)).2=0:=by
 rw[aE];refine Nat.div_eq_of_lt (yJ (pR h) ?_);exact yp (by decide:2^64<=32^13) (Nat.pow_le_pow_right '$' '!')
theorem cb (mask:Nat) (h:Int):∀m,(lp mask h (13+m)).1=Zk mask (lp mask h 13).1 m
 | 0=>rfl
 | m+1=>by
  show (leap mask (lp mask h (13+m)).1 (lp mask h (13+m)).2).1=Fm mask _;rw[qi,cb mask h m]
  rfl
theorem qH {k:Nat} (hm:mask+1=2^k) (h:Int) {b:Nat} (hb:b<=mask):∃n,n<10*turns mask/\(jJ mask h n).j=b:=by
 obtain⟨m,m1,e⟩:=av hm (oP mask h 13) hb;obtain⟨n,n1,e2⟩:=nX mask h (13+m);refine#[n,by unfold turns;omega,?_];rw[e2];show (lp mask h (13+m)).1=b;rw[cb,e]
theorem Zz (mask:Nat) (h:Int):∀n,(jJ mask h n).dummy=none
 | 0=>rfl
 | n+1=>by
  show (UM mask (jJ mask h n)).dummy=none;unfold UM;split
  ·exact Zz mask h n
  ·exact Zz mask h n
theorem sO (n:Nat):(jJ mask h n).j+(jJ mask h n).more<=mask:=by
 have run:∀i,i<=mask->i+(runEnd mask i - i)<=mask:=λi hi=>by unfold runEnd;split<;>omega
 induction n with
 | zero=>exact run _ (Q8 (Nat.mod_lt _ (Ql _)))
 | succ n ih =>
  show (UM mask (jJ mask h n)).j+(UM mask (jJ mask h n)).more<=mask;unfold UM;split
  ·show (jJ mask h n).j+1+((jJ mask h n).more - 1)<=mask;omega
  ·exact run _ (Q8 (Nat.mod_lt _ (Ql _)))
theorem cu (n:Nat):(jJ mask h n).j<=mask:=by have:=sO (mask:=mask) (h:=h) n;omega
def UI (xs:Array Nat):Prop:=∀i k,i<k->k<xs.size->xs.getD i 0<xs.getD k 0
theorem p9 (h:i<xs.size) (a b:Nat):xs.getD i a=xs.getD i b:=by simp [Array.getD,h]
theorem UI.le (R:UI xs) {k:Nat} (h:i<=k) (hk:k<xs.size):xs.getD i 0<=xs.getD k 0:=by
 rcases Nat.lt_or_eq_of_le h with h|h
 ·exact y4 (R i k h hk)
 ·rw[h];exact yh _
theorem gq (R:UI xs):∀(fuel lo hi:Nat),lo<=hi->hi<=xs.size->hi - lo<=fuel->(∀i,i<lo->xs.getD i 0<j)->(∀i,hi<=i->i<xs.size->j<=xs.getD i 0) ->
  below.go xs j fuel lo hi<=xs.size/\(∀i,i<below.go xs j fuel lo hi->xs.getD i 0<j)/\∀i,below.go xs j fuel lo hi<=i->i<xs.size->j<=xs.getD i 0
 | 0,lo,hi,h1,h2,h3,h4,h5=>by
  obtain rfl:lo=hi:=by omega
  exact#[h2,h4,h5]
 | fuel+1,lo,hi,h1,h2,h3,h4,h5=>by
  unfold below.go;split
  ·rename_i AX;have m1:(lo+hi) / 2<hi:=by omega
   have m2:lo<=(lo+hi) / 2:=by omega
   generalize (lo+hi) / 2=mid at m1 m2;dsimp only;rw[p9 '!' j 0];split
   ·rename_i hm;exact gq R fuel (mid+1) hi '!' h2 '!' (λi hi2=>yK (R.le (show i<=mid by omega) '!') hm) h5
   ·rename_i hm;exact gq R fuel lo mid m2 '!' '!' h4 λi h6 h7=>yp '!' (R.le h6 h7)
  ·obtain rfl:lo=hi:=by omega
   exact#[h2,h4,h5]
theorem vg (R:UI xs) (j:Nat):below xs j<=xs.size/\(∀i,i<below xs j->xs.getD i 0<j)/\∀i,below xs j<=i->i<xs.size->j<=xs.getD i 0 :=
 gq R _ _ _ (yT _) (yh _) (yh _) (λi h=>absurd h (QB i)) λi h1 h2=>by omega
def At (xs:Array Nat) (i j:Nat):Prop:=i<xs.size/\xs.getD i 0=j
def uP (xs:Array Nat) (j:Nat):Prop:=∃i,At xs i j
theorem At.uniq (R:UI xs) {k:Nat} (a:At xs i j) (b:At xs k j):i=k:=by
 rcases Q9 i k with h|h|h
 ·have:=R i k h b.1;rw[a.2,b.2] at this;omega
 ·exact h
 ·have:=R k i h a.1;rw[a.2,b.2] at this;omega
theorem Vi:(xs[i]?=some j)↔At xs i j:=by
 unfold At;constructor
 ·intro h;obtain⟨h1,h2⟩:=y9.mp h;exact#[h1,by simp [Array.getD,h1,h2]]
 ·rintro⟨h1,h2⟩;rw[y9];exact#[h1,by simpa [Array.getD,h1] using h2]
theorem VH {t:SetTable} (R:UI t.place) (a:At t.place i j):t.slot j=.live i:=by
 obtain⟨b1,b2,b3⟩:=vg R j;have e:below t.place j=i:=by
  rcases Q9 i (below t.place j) with h|h|h
  ·have:=b2 i h;rw[a.2] at this;omega
  ·exact h.symm
  ·have h1:=b3 (below t.place j) (yh _) (by have:=a.1;omega);have h2:=R (below t.place j) i h a.1;rw[a.2] at h2;omega
 unfold SetTable.slot;rw[e];dsimp only;rw[Vi.mpr a,if_pos (by simp)]
theorem GT {t:SetTable} (R:UI t.place) (dm:t.dummies=(List.toArray [])) (n:¬uP t.place j):t.slot j=.empty:=by
 unfold SetTable.slot;dsimp only;rw[if_neg (λz=>n #[_,Vi.mp (by simpa using z)]),dm]
 rfl
theorem uy {α:Type} (xs:Array α) (hp:p<=xs.size) (x:α):(insertAt xs p x).size=xs.size+1:=by
 unfold insertAt;simp;omega
theorem getElem?_insertAt {α:Type} (xs:Array α) (hp:p<=xs.size) (x:α) (i:Nat):(insertAt xs p x)[i]?=if i<p then xs[i]? else if i=p then some x else xs[i - 1]?:=by
 unfold insertAt;rw[Array.getElem?_append,Array.size_push,Array.size_extract];have e:min p xs.size - 0=p:=by omega
 rw[e,Array.getElem?_push,Array.size_extract,e];by_cases h1:i<p
 ·rw[if_pos '!',if_neg '!',if_pos h1,Array.getElem?_extract,if_pos '!',QD]
 ·rw[if_neg h1];by_cases h2:i=p
  ·rw[if_pos '!',if_pos h2,if_pos h2]
  ·rw[if_neg '!',if_neg h2,Array.getElem?_extract];have e2:p+(i - (p+1))=i - 1:=by omega
   rw[e2];by_cases h3:i - 1<xs.size
   ·rw[if_pos '!']
   ·rw[if_neg '!',Q3 '!']
theorem Vh (xs:Array Nat) (i:Nat):xs.getD i 0=(xs[i]?).getD 0:=by
 rw[Array.getD_getElem?]
 rfl
theorem MH (hp:p<=xs.size) (x i:Nat):(insertAt xs p x).getD i 0=if i<p then xs.getD i 0 else if i=p then x else xs.getD (i - 1) 0:=by
 rw[Vh,getElem?_insertAt xs hp,Vh,Vh];split
 ·rfl
 ·split<;>rfl
theorem aQ (R:UI xs) (n:¬uP xs j):UI (insertAt xs (below xs j) j):=by
 obtain⟨b1,b2,b3⟩:=vg R j;intro i k IJ hk;rw[uy xs b1] at hk;rw[MH b1,MH b1];have up:∀m,below xs j<=m->m<xs.size->j<xs.getD m 0:=λm h1 h2=>by
  rcases Nat.lt_or_eq_of_le (b3 m h1 h2) with h|h
  ·exact h
  ·exact absurd #[m,h2,h.symm] n
 by_cases h1:i<below xs j
 ·rw[if_pos h1];by_cases h2:k<below xs j
  ·rw[if_pos h2];exact R i k IJ '!'
  ·rw[if_neg h2];by_cases h3:k=below xs j
   ·rw[if_pos h3];exact b2 i h1
   ·rw[if_neg h3];exact R i (k - 1) '!' '!'
 ·rw[if_neg h1,if_neg (show ¬k<below xs j by omega),if_neg (show ¬k=below xs j by omega)];by_cases h3:i=below xs j
  ·rw[if_pos h3];exact up (k - 1) '!' '!'
  ·rw[if_neg h3];exact R (i - 1) (k - 1) '!' '!'
theorem Zb (hp:p<=xs.size):At (insertAt xs p x) i j↔if i<p then At xs i j else if i=p then x=j else At xs (i - 1) j/\0<i:=by
 rw[<-Vi,getElem?_insertAt xs hp];split
 ·exact Vi
 ·split
  ·simp
  ·rw[Vi];exact#[λh=>#[h,by omega],λh=>h.1]
theorem aU (hp:p<=xs.size):uP (insertAt xs p x) j↔uP xs j\/j=x:=by
 constructor
 ·rintro⟨i,h⟩;rw[Zb hp] at h
  split at h
  ·exact .inl #[i,h]
  ·split at h
   ·exact .inr h.symm
   ·exact .inl #[i - 1,h.1]
 ·rintro (⟨i,h⟩|rfl)
  ·by_cases h1:i<p
   ·exact#[i,(Zb hp).mpr (by rw[if_pos h1];exact h)]
   ·exact#[i+1,(Zb hp).mpr (by rw[if_neg '!',if_neg '!'];exact#[h,by omega])]
  ·exact#[p,(Zb hp).mpr (by rw[if_neg '!',if_pos rfl])]
structure Tbl (t:SetTable) (hs:Nat->Int) (n:Nat):Prop where
 size:t.place.size=n
 ris:UI t.place
 le:∀j,uP t.place j->j<=t.mask
 dm:t.dummies=(List.toArray [])
 pw:∃k,t.mask+1=2^k
 room:n<=t.mask
 reach:∀i j,At t.place i j->∃m,(jJ t.mask (hs i) m).j=j/\∀m',m'<m->uP t.place (jJ t.mask (hs i) m').j
theorem nP:∀(n:Nat) (f:Nat->Nat),(∀j,j<=n->∃i,i<n/\f i=j)->False
 | 0,f,h=>by obtain⟨i,hi,_⟩:=h 0 (yh _);omega
 | n+1,f,h=>by
  obtain⟨i0,h0,e0⟩:=h (n+1) (yh _);refine nP n (λi=>if i=i0 then f n else f i) λj hj=>?_;obtain⟨i,hi,e⟩:=h j '!';have ne:i≠i0:=λz=>by rw[z,e0] at e;omega
  by_cases hn:i=n
  ·refine#[i0,by omega,?_];show (if i0=i0 then f n else f i0)=j;rw[if_pos rfl,<-hn];exact e
  ·refine#[i,by omega,?_];show (if i=i0 then f n else f i)=j;rw[if_neg ne];exact e
theorem Tbl.free {t:SetTable} (T:Tbl t hs n):∃j,j<=t.mask/\¬uP t.place j:=by
 refine Classical.byContradiction λz=>?_;refine nP t.mask (λi=>t.place.getD i 0) λj hj=>?_;have h1:uP t.place j:=Classical.byContradiction λq=>z #[j,hj,q];obtain⟨i,h2,h3⟩:=h1;exact#[i,by have:=T.room;have:=T.size;omega,h3]
def rJ (t:SetTable) (hs:Nat->Int) (h:Int) (m:Nat):Prop:=¬uP t.place (jJ t.mask h m).j\/∃i,At t.place i (jJ t.mask h m).j/\hs i=h
theorem nR {t:SetTable} (T:Tbl t hs n):∀(d fuel m:Nat),d<fuel->rJ t hs h (m+d)->(∀d',d'<d->¬rJ t hs h (m+d')) ->
  (¬uP t.place (jJ t.mask h (m+d)).j/\SetTable.probe.go t hs h fuel (jJ t.mask h m)=some (.empty (jJ t.mask h (m+d)).j none)) \/
  ∃i,At t.place i (jJ t.mask h (m+d)).j/\hs i=h/\SetTable.probe.go t hs h fuel (jJ t.mask h m)=some (.candidate (jJ t.mask h (m+d)).j i (jJ t.mask h (m+d+1)))
 | 0,fuel+1,m,_,Bo,_=>by
  rcases Bo with Bo|⟨i,ha,hh⟩
  ·refine .inl #[Bo,?_];rw[SetTable.probe.go];rw[show m+0=m from rfl] at Bo ⊢;rw[GT T.ris T.dm Bo];show some (Met.empty _ (jJ t.mask h m).dummy)=_;rw[Zz]
  ·refine .inr #[i,ha,hh,?_];rw[SetTable.probe.go];rw[show m+0=m from rfl] at ha ⊢;rw[VH T.ris ha];dsimp only;rw[if_pos (by rw[hh];exact beq_self_eq_true _),Md]
   rfl
 | d+1,fuel+1,m,hf,Bo,Cd=>by
  have h0:=Cd 0 '!';have ht:uP t.place (jJ t.mask h m).j:=Classical.byContradiction λz=>h0 (.inl z);obtain⟨i,ha⟩:=ht;have Bk:hs i≠h:=λz=>h0 (.inr #[i,ha,z]);have e:m+1+d=m+(d+1):=by omega
  have ih:=nR T d fuel (m+1) '!' (by rw[e];exact Bo) λd' Ct=>by
   have:=Cd (d'+1) '!';rwa [show m+(d'+1)=m+1+d' by omega] at this
  rw[e] at ih;have go:SetTable.probe.go t hs h (fuel+1) (jJ t.mask h m)=SetTable.probe.go t hs h fuel (jJ t.mask h (m+1)):=by
   rw[SetTable.probe.go,VH T.ris ha];dsimp only;rw[if_neg (by simpa using Bk),Md]
   rfl
  rw[go];exact ih
theorem wy {p:Nat->Prop}:∀(n:Nat),p n->∃m,m<=n/\p m/\∀k,k<m->¬p k:=by
 intro n
 induction n using Nat.strongRecOn with
 | _ n ih =>
  intro h;by_cases z:∃k,k<n/\p k
  ·obtain⟨k,hk,pk⟩:=z;obtain⟨m,h1,h2,h3⟩:=ih k hk pk;exact#[m,by omega,h2,h3]
  ·exact#[n,yh _,h,λk hk pk=>z #[k,hk,pk]]
theorem Tbl.probe {t:SetTable} (T:Tbl t hs n) (h:Int) {m:Nat} (ahead:∀m',m'<m->uP t.place (jJ t.mask h m').j):∃m2,m<=m2/\m2<10*turns t.mask/\(∀m',m<=m'->m'<m2->uP t.place (jJ t.mask h m').j/\∀i,At t.place i (jJ t.mask h m').j->hs i≠h) /\
  ((¬uP t.place (jJ t.mask h m2).j/\t.probe hs h (jJ t.mask h m)=some (.empty (jJ t.mask h m2).j none)) \/
   ∃i,At t.place i (jJ t.mask h m2).j/\hs i=h/\t.probe hs h (jJ t.mask h m)=some (.candidate (jJ t.mask h m2).j i (jJ t.mask h (m2+1)))):=by
 obtain⟨b,hb,nb⟩:=T.free;obtain⟨k,hk⟩:=T.pw;obtain⟨FD,h1,e1⟩:=qH hk h hb;have hm:m<=FD:=Classical.byContradiction λz=>nb (by rw[<-e1];exact ahead FD '!');obtain⟨d,hd,RF,Cu⟩:=wy (p:=λd=>rJ t hs h (m+d)) (FD - m) (.inl (by rw[show m+(FD - m)=FD by omega,e1];exact nb));refine#[m+d,by omega,by omega,λm' g1 g2=>?_,nR T d _ m '!' RF Cu];have:=Cu (m' - m) '!';rw[show m+(m' - m)=m' by omega] at this;refine#[Classical.byContradiction λz=>this (.inl z),λi ha z=>this (.inr #[i,ha,z])]
def VW (owner:AQ) (j:Nat):Prop:=(owner.getD j (some 0)).isNone=true
theorem aj {mb:Nat} (nb:VW owner (lp mask h mb).1):∀(fuel m n:Nat),mb<m+fuel->m<=mb->jJ mask h n=g9 mask (lp mask h m)->(∀n',n'<n->¬VW owner (jJ mask h n').j) ->
  ∃n2,layClean.free mask owner fuel (lp mask h m).1 (lp mask h m).2=some (jJ mask h n2).j/\VW owner (jJ mask h n2).j/\∀n',n'<n2->¬VW owner (jJ mask h n').j
 | 0,m,n,hf,hm,_,_=>absurd hf (by omega +splitNatSub)
 | fuel+1,m,n,hf,hm,hn,ahead=>by
  have run:=kS hn;have ge:(lp mask h m).1<=runEnd mask (lp mask h m).1:=by unfold runEnd;split<;>omega
  have jd:∀d,d<=runEnd mask (lp mask h m).1 - (lp mask h m).1->(jJ mask h (n+d)).j=(lp mask h m).1+d:=λd hd=>by rw[run d hd]
  rw[layClean.free];cases e:(List.range (runEnd mask (lp mask h m).1+1 - (lp mask h m).1)).find? λk=>(owner.getD ((lp mask h m).1+k) (some 0)).isNone with
  | some k =>
   obtain⟨h1,as,bs,h2,h3⟩:=List.find?_eq_some_iff_append.mp e;have hk:k∈List.range (runEnd mask (lp mask h m).1+1 - (lp mask h m).1):=by rw[h2];simp
   rw[yE] at hk;have hlen:as.length=k:=by
    have h4:(List.range (runEnd mask (lp mask h m).1+1 - (lp mask h m).1))[as.length]?=some k:=by rw[h2];simp
    have h5:as.length<(List.range (runEnd mask (lp mask h m).1+1 - (lp mask h m).1)).length:=(yc.mp h4).1;rw[yW] at h5;rw[QN h5] at h4;exact Option.some.inj h4
   refine#[n+k,?_,?_,λn' Dt=>?_]
   ·rw[jd k '!']
   ·rw[jd k '!'];exact h1
   ·by_cases hl:n'<n
    ·exact ahead n' hl
    ·obtain⟨d,rfl⟩:∃d,n'=n+d:=#[n' - n,by omega];rw[jd d '!'];intro z;have hd:d∈as:=by
      have h5:d<(List.range (runEnd mask (lp mask h m).1+1 - (lp mask h m).1)).length:=by rw[yW];omega
      have h6:(List.range (runEnd mask (lp mask h m).1+1 - (lp mask h m).1))[d]?=some d:=QN (by rw[yW] at h5;exact h5);rw[h2,yC '!'] at h6;exact yk h6
     have:=h3 d hd;rw[z] at this;cases this
  | none =>
   dsimp only;have FE:=List.find?_eq_none.mp e;have Bd:∀d,d<=runEnd mask (lp mask h m).1 - (lp mask h m).1->¬VW owner ((lp mask h m).1+d):=λd hd=>FE d (yE.mpr '!');have AX:m<mb:=by
    rcases Nat.lt_or_eq_of_le hm with h1|h1
    ·exact h1
    ·have:=Bd 0 (yT _);rw[Nat.add_zero,h1] at this;exact absurd nb this
   refine aj nb fuel (m+1) (n+(runEnd mask (lp mask h m).1 - (lp mask h m).1)+1) '!' '!' ?_ λn' Dt=>?_
   ·show UM mask (jJ mask h (n+(runEnd mask (lp mask h m).1 - (lp mask h m).1)))=_;rw[run _ (yh _)];unfold UM;rw[if_neg (by show ¬(runEnd mask (lp mask h m).1 - (lp mask h m).1 - (runEnd mask (lp mask h m).1 - (lp mask h m).1) > 0);omega)]
    rfl
   ·by_cases hl:n'<n
    ·exact ahead n' hl
    ·obtain⟨d,rfl⟩:∃d,n'=n+d:=#[n' - n,by omega];rw[jd d '!'];exact Bd d '!'
theorem p6 {k:Nat} (hm:mask+1=2^k) (h:Int) {b:Nat} (hb:b<=mask) (nb:VW owner b):∃n2,layClean.free mask owner (turns mask) (bits h % (mask+1)) (bits h)=some (jJ mask h n2).j/\VW owner (jJ mask h n2).j/\∀n',n'<n2->¬VW owner (jJ mask h n').j:=by
 obtain⟨m,m1,e⟩:=av hm (oP mask h 13) hb;exact aj (mb:=13+m) (by rw[cb,e];exact nb) (turns mask) 0 0 (by unfold turns;omega) '!' rfl λn' h=>absurd h (QB _)
structure VZ (mask:Nat) (hs:Nat->Int) (owner:AQ) (r:Nat):Prop where
 size:owner.size=mask+1
 val:∀(j k:Nat),owner[j]?=some (some k)->k<r
 ex:∀k:Nat,k<r->∃j:Nat,owner[j]?=some (some k)
 uq:∀(j j' k:Nat),owner[j]?=some (some k)->owner[j']?=some (some k)->j=j'
 reach:∀(j k:Nat),owner[j]?=some (some k)->∃n,(jJ mask (hs k) n).j=j/\∀n',n'<n->∃k':Nat,owner[(jJ mask (hs k) n').j]?=some (some k')
theorem ah (hj:j<owner.size):VW owner j↔owner[j]?=some none:=by
 unfold VW;rw[yU hj];simp only[Array.getD,hj,dite_true];show (owner[j]).isNone=true↔some owner[j]=some none;generalize owner[j]=x;cases x<;>simp
theorem aI (hj:j<owner.size) (h:¬VW owner j):∃k,owner[j]?=some (some k):=by
 rw[ah hj,yU hj] at h;rw[yU hj];cases e:owner[j] with
 | none=>rw[e] at h;exact absurd rfl h
 | some k=>exact#[k,rfl]
theorem VZ.free (O:VZ mask hs owner r) (hr:r<=mask):∃j,j<=mask/\VW owner j:=by
 refine Classical.byContradiction λz=>?_;refine nP mask (λi=>if h:i<r then Classical.choose (O.ex i h) else 0) λj hj=>?_;have Bk:¬VW owner j:=λq=>z #[j,hj,q];obtain⟨k,hk⟩:=aI (by rw[O.size];omega) Bk;have OE:=O.val j k hk;refine#[k,by omega,?_];show (if h:k<r then Classical.choose (O.ex k h) else 0)=j;rw[dif_pos OE];exact O.uq _ _ k (Classical.choose_spec (O.ex k OE)) hk
theorem VZ.step (hm:mask+1=2^p) (O:VZ mask hs owner r) (hr:r<=mask):∃j,layClean.free mask owner (turns mask) (bits (hs r) % (mask+1)) (bits (hs r))=some j/\VZ mask hs (owner.setIfInBounds j (some r)) (r+1):=by
 obtain⟨b,hb,nb⟩:=O.free hr;obtain⟨n2,e1,e2,e3⟩:=p6 hm (hs r) hb nb;refine#[_,e1,?_];have hj:(jJ mask (hs r) n2).j<owner.size:=by rw[O.size];have:=cu (mask:=mask) (h:=hs r) n2;omega
 have ej:=(ah hj).mp e2;generalize RG:(jJ mask (hs r) n2).j=j at hj ej;have get:∀i:Nat,(owner.setIfInBounds j (some r))[i]?=if i=j then some (some r) else owner[i]?:=λi=>by
  rw[Array.getElem?_setIfInBounds];by_cases h:j=i
  ·subst h;rw[if_pos rfl,if_pos hj,if_pos rfl]
  ·rw[if_neg h,if_neg (λz=>h z.symm)]
 have keep:∀(i k:Nat),owner[i]?=some (some k)->(owner.setIfInBounds j (some r))[i]?=some (some k):=λi k h=>by
  rw[get,if_neg (λz=>by rw[z,ej] at h;cases h)];exact h
 refine#[by rw[Array.size_setIfInBounds];exact O.size,λi k h=>?_,λk hk=>?_,λi i' k h h'=>?_,λi k h=>?_]
 ·rw[get] at h
  split at h
  ·cases h;omega
  ·have:=O.val i k h;omega
 ·by_cases h:k=r
  ·exact#[j,by rw[get,if_pos rfl,h]]
  ·obtain⟨i,hi⟩:=O.ex k '!';exact#[i,keep i k hi]
 ·rw[get] at h h'
  split at h
  ·cases h
   split at h'
   ·rename_i a b;rw[a,b]
   ·have:=O.val i' r h';omega
  ·split at h'
   ·cases h';have:=O.val i r h;omega
   ·exact O.uq i i' k h h'
 ·rw[get] at h
  split at h
  ·rename_i e;cases h;refine#[n2,by rw[RG,e],λn' Dt=>?_];obtain⟨k',Cg⟩:=aI (by rw[O.size];have:=cu (mask:=mask) (h:=hs r) n';omega) (e3 n' Dt);exact#[k',keep _ _ Cg]
  ·obtain⟨n,a1,a2⟩:=O.reach i k h;refine#[n,a1,λn' Dt=>?_];obtain⟨k',Cg⟩:=a2 n' Dt;exact#[k',keep _ _ Cg]
theorem VZ.start (mask:Nat) (hs:Nat->Int):VZ mask hs (Array.replicate (mask+1) none) 0:=by
 have no:∀(j k:Nat),(Array.replicate (mask+1) (none:Option Nat))[j]?=some (some k)->False:=λj k h=>by
  rw[Array.getElem?_replicate] at h
  split at h<;>cases h
 exact#[by simp,λj k h=>(no j k h).elim,λk h=>absurd h (QB _),λj j' k h=>(no j k h).elim,λj k h=>(no j k h).elim]
theorem MZ (hm:mask+1=2^p) {f:Option (Array (Option Nat)×Nat)->Int->Option (Array (Option Nat)×Nat)}
  (hf:∀owner k h,f (some (owner,k)) h=(layClean.free mask owner (turns mask) (bits h % (mask+1)) (bits h)).bind λj=>some (owner.setIfInBounds j (some k),k+1)) :
  ∀(l:List Int) (r:Nat) (owner:AQ),(∀i h,l[i]?=some h->hs (r+i)=h)->r+l.length<=mask+1->VZ mask hs owner r->∃CH,l.foldl f (some (owner,r))=some (CH,r+l.length)/\VZ mask hs CH (r+l.length)
 | [],r,owner,_,_,O=>#[owner,rfl,O]
 | h::l,r,owner,hh,hr,O=>by
  have h0:=hh 0 h rfl;rw[Nat.add_zero] at h0;rw[yQ] at hr;obtain⟨j,e,O'⟩:=O.step hm '!';rw[h0] at e;obtain⟨o2,e2,O2⟩:=MZ hm hf l (r+1) _ (λi x hx=>by
   have:=hh (i+1) x hx
   rwa [show r+(i+1)=r+1+i by omega] at this) (by omega) O'
  refine#[o2,?_,by rw[yQ,show r+(l.length+1)=r+1+l.length by omega];exact O2];rw[List.foldl_cons,hf,e,yQ,show r+(l.length+1)=r+1+l.length by omega];exact e2
theorem NM (hm:mask+1=2^p) (hashes:Array Int) (hn:hashes.size<=mask+1):∃owner,layClean mask hashes=some owner/\VZ mask (λi=>hashes.getD i 0) owner hashes.size:=by
 unfold layClean;obtain⟨o,e,O⟩:=MZ (hs:=λi=>hashes.getD i 0) hm (f:=λacc h=>do
  let (owner,k) <-acc
  let j <-layClean.free mask owner (turns mask) (bits h % (mask+1)) (bits h)
  pure (owner.setIfInBounds j (some k),k+1)) (λowner k h=>rfl) hashes.toList 0 (Array.replicate (mask+1) none) (λi h hi=>by
   rw[QD];rw[yN] at hi;obtain⟨h1,h2⟩:=y9.mp hi
   simp [Array.getD,h1,h2]) (by rw[yA];omega) (VZ.start mask _)
 rw[QD,yA] at e O;refine#[o,?_,O];rw[<-Array.foldl_toList,e]
 rfl
def Uw (mask:Nat) (owner:AQ):List (Nat×Nat):=(List.range (mask+1)).filterMap λj=>(owner.getD j none).map (j,·)
theorem Vk (O:VZ mask hs owner n) {k:Nat}:(j,k)∈Uw mask owner↔owner[j]?=some (some k):=by
 unfold Uw;rw[List.mem_filterMap];constructor
 ·rintro⟨a,ha,e⟩;obtain⟨x,e1,e2⟩:=yz.mp e;cases e2;rw[yE] at ha;have hs:j<owner.size:=by rw[O.size];exact ha
  rw[yU hs];simp only[Array.getD,hs,dite_true] at e1;rw[<-e1];rfl
 ·intro h;obtain⟨h1,h2⟩:=y9.mp h;refine#[j,yE.mpr (by rw[<-O.size];exact h1),?_];simp only[Array.getD,h1,dite_true];show Option.map _ owner[j]=_;rw[h2];rfl
theorem aD (mask:Nat) (owner:AQ):(Uw mask owner).Pairwise λa b=>a.1<b.1:=by
 unfold Uw;refine List.Pairwise.filterMap _ (λa a' h b hb b' Dx=>?_) List.pairwise_lt_range;obtain⟨x,_,rfl⟩:=yz.mp hb;obtain⟨x',_,rfl⟩:=yz.mp Dx;exact h
theorem dO (O:VZ mask hs owner n):((Uw mask owner).map (·.2)).Perm (List.range n):=by
 refine (List.perm_ext_iff_of_nodup ?_ Q2).mpr λk=>?_
 ·refine Qx.mpr ((aD mask owner).imp_of_mem λ{a b} ha hb h e=>?_);have h1:=(Vk O).mp (show (a.1,a.2)∈Uw mask owner from ha);have h2:=(Vk O).mp (show (b.1,b.2)∈Uw mask owner from hb);rw[e] at h1;have:=O.uq _ _ _ h1 h2;omega
 ·rw[yi,yE];constructor
  ·rintro⟨⟨j,k'⟩,h,rfl⟩;exact O.val j k' ((Vk O).mp h)
  ·intro hk;obtain⟨j,hj⟩:=O.ex k hk;exact#[(j,k),(Vk O).mpr hj,rfl]
theorem aC (a:At (l.map (·.1)).toArray i j):∃k,l[i]?=some (j,k):=by
 have:=Vi.mpr a;rw[Qm,ye] at this;obtain⟨x,h1,h2⟩:=yz.mp this;exact#[x.2,by rw[h1,<-h2]]
theorem pM {k:Nat} (h:l[i]?=some (j,k)):At (l.map (·.1)).toArray i j:=by
 refine Vi.mp ?_;rw[Qm,ye,h];rfl
theorem lJ (h:l.Pairwise λa b=>a.1<b.1):UI (l.map (·.1)).toArray:=by
 intro i k IJ hk;rw[yg,ya] at hk;rw[Vh,Vh,Qm,Qm,ye,ye,yb '!',yb hk];exact QU.mp h i k '!' hk IJ
theorem Zv {α:Type}{es:Array α}:∀{l:List Nat},(∀k∈l,k<es.size)->∀i:Nat,(l.filterMap (λk:Nat=>es[k]?))[i]?=(l[i]?).bind (λk:Nat=>es[k]?)
 | [],_,i=>by simp
 | k::l,h,i=>by
  have hk:=h k (yw ..);have e:es[k]?=some es[k]:=yU hk;rw[List.filterMap_cons,e];dsimp only;cases i with
  | zero=>simp [e]
  | succ i =>
   rw[Qu,Qu];exact Zv (λk hk=>h k (yn _ hk)) i
structure xq (mask n:Nat) (hashes:Array Int) (place:Array Nat) (order:Array Nat):Prop where
 size:place.size=n
 ris:UI place
 le:∀j,uP place j->j<=mask
 perm:order.toList.Perm (List.range n)
 reach:∀i j,At place i j->∃k,order[i]?=some k/\∃m,(jJ mask (hashes.getD k 0) m).j=j/\∀m',m'<m->uP place (jJ mask (hashes.getD k 0) m').j
theorem qh (hm:mask+1=2^p) (hashes:Array Int) (hn:hashes.size<=mask+1) (finger moves:Nat) (led plain:Bool) :
  ∃place order,laid mask finger moves led plain hashes=some ({ mask,place,dummies:=(List.toArray []),finger,led,moves,plain },order)/\xq mask hashes.size hashes place order:=by
 obtain⟨owner,e,O⟩:=NM hm hashes hn;have lp:=dO O;have mem:∀j k,(j,k)∈Uw mask owner↔owner[j]?=some (some k):=λj k=>Vk O;have tk:∀j,uP ((Uw mask owner).map (·.1)).toArray j↔∃k:Nat,owner[j]?=some (some k):=λj=>by
  constructor
  ·rintro⟨i,a⟩;obtain⟨k,hk⟩:=aC a;exact#[k,(mem j k).mp (yk hk)]
  ·rintro⟨k,hk⟩;obtain⟨i,hi,ei⟩:=yD ((mem j k).mpr hk);exact#[i,pM (k:=k) (by rw[yb hi,ei])]
 refine#[((Uw mask owner).map (·.1)).toArray,((Uw mask owner).map (·.2)).toArray,?_,?_,lJ (aD mask owner),λj hj=>?_,lp,λi j a=>?_]
 ·unfold laid;rw[e]
  rfl
 ·have:=lp.length_eq;rw[ya,yW] at this;rw[yg,ya,this]
 ·obtain⟨k,hk⟩:=(tk j).mp hj;have:=(y9.mp hk).1;rw[O.size] at this;omega
 ·obtain⟨k,hk⟩:=aC a;obtain⟨m,h1,h2⟩:=O.reach j k ((mem j k).mp (yk hk));refine#[k,by rw[Qm,ye,hk];rfl,m,h1,λm' De=>?_];exact (tk _).mpr (h2 m' De)
theorem ZA (n:Nat):∀(fuel q:Nat),n<2^(q+fuel)->∃k,sizeAbove.go n fuel (2^q)=2^k/\q<=k/\n<2^k/\(k=q\/2^k<=2*n)
 | 0,q,h=>#[q,rfl,yh _,h,.inl rfl]
 | fuel+1,q,h=>by
  rw[sizeAbove.go];split
  ·rename_i hle;obtain⟨k,h1,h2,h3,h4⟩:=ZA n fuel (q+1) (by rw[show q+1+fuel=q+(fuel+1) by omega];exact h);refine#[k,by rw[<-h1,QE],by omega,h3,.inr ?_];rcases h4 with h4|h4
   ·rw[h4,QE];omega
   ·exact h4
  ·rename_i AX;exact#[q,rfl,yh _,by omega,.inl rfl]
theorem Na (h:n<2^60):∃k,sizeAbove n=2^k/\3<=k/\n<2^k/\(k=3\/2^k<=2*n):=by
 have:=ZA n 64 3 (yJ h (Nat.pow_le_pow_right '$' '$'));exact this
end STb
namespace STb
open PySem PySem.Spec PyProof.Rows L2 SetTable
local macro_rules|`(tactic|omega)=>`(tactic|first|lia|omega +splitNatSub)
variable {v:Value}{hs:Nat->Int}{n:Nat}{es:AK}
section
variable {P:AS}{w:World}{A:Around}{E:Ax}{s:Shared}
theorem items_scan {ks:List Key}{vs:AH} (h:ItemsAre (jr P w) ks vs):∀v∈vs,v.scannable=true:=by
 induction h with
 | nil=>intro v hv;cases hv
 | cons h1 _ ih =>
  intro v hv;rcases yr.mp hv with rfl|hv
  ·rcases Jl h1 with ⟨i,t,_,rfl⟩|⟨x,t,_,rfl⟩<;>rfl
  ·exact ih v hv
theorem stmt_val (n:Nat) (h:carriedByValue v=true):ofAClassStatement n v=pure false:=by
 cases v with
 | ref a=>cases h
 | _=>first|rfl|(unfold ofAClassStatement;rfl)
end
section
variable {P:AS}{w:World}{A:Around}{E:Ax}{s:Shared}
def hsOf (es:AK) (i:Nat):Int:=(es[i]?.map (·.1)).getD 0
theorem Tbl.fits {t:SetTable} (T:Tbl t hs n):t.fits n=true:=by
 unfold SetTable.fits SetTable.fill;rw[T.dm,T.size];have:=T.room;simp;exact this
theorem Tbl.odd {t:SetTable} (T:Tbl t hs n) (h1:1<=n\/1<=t.mask):t.gaveWay=false:=by
 unfold SetTable.gaveWay;obtain⟨k,hk⟩:=T.pw;have:=T.room;cases k with
 | zero=>simp at hk;omega
 | succ k =>
  rw[QE] at hk;have:t.mask % 2=1:=by omega
  rw[this];rfl
end
section
variable {P:AS}{w:World}{A:Around}{E:Ax}{s:Shared}
theorem Tbl.put {t:SetTable} (T:Tbl t (hsOf es) es.size) {h:Int} (hr:es.size+1<=t.mask) (ne:¬uP t.place (jJ t.mask h n).j) (ahead:∀m',m'<n->uP t.place (jJ t.mask h m').j) :
  Tbl (t.put (jJ t.mask h n).j).1 (hsOf (insertAt es (t.put (jJ t.mask h n).j).2 (h,v))) (insertAt es (t.put (jJ t.mask h n).j).2 (h,v)).size/\(t.put (jJ t.mask h n).j).2<=es.size/\(t.put (jJ t.mask h n).j).1.mask=t.mask:=by
 obtain⟨b1,b2,b3⟩:=vg T.ris (jJ t.mask h n).j;have RH:=cu (mask:=t.mask) (h:=h) n;have hp:(t.put (jJ t.mask h n).j).2=below t.place (jJ t.mask h n).j:=rfl;have Ba:(t.put (jJ t.mask h n).j).1.place=insertAt t.place (below t.place (jJ t.mask h n).j) (jJ t.mask h n).j:=rfl;have Co:(t.put (jJ t.mask h n).j).1.mask=t.mask:=rfl;have Hj:below t.place (jJ t.mask h n).j<=es.size:=by rw[<-T.size];exact b1
 have RI:(t.put (jJ t.mask h n).j).1.dummies=(List.toArray []):=by
  show (if has t.dummies _ then eraseAt t.dummies _ else t.dummies)=(List.toArray []);rw[T.dm];rfl
 have hs:∀i,hsOf (insertAt es (below t.place (jJ t.mask h n).j) (h,v)) i=if i<below t.place (jJ t.mask h n).j then hsOf es i else if i=below t.place (jJ t.mask h n).j then h else hsOf es (i - 1):=λi=>by
  unfold hsOf;rw[getElem?_insertAt es Hj];split
  ·rfl
  ·split<;>rfl
 refine#[#[?_,?_,λj hj=>?_,RI,T.pw,?_,λi j a=>?_],Hj,Co]
 ·rw[Ba,hp,uy _ b1,uy _ Hj,T.size]
 ·rw[Ba];exact aQ T.ris ne
 ·rw[Ba,aU b1] at hj;rcases hj with hj|rfl
  ·exact T.le j hj
  ·exact RH
 ·rw[hp,uy _ Hj,Co];exact hr
 ·rw[Ba,Zb b1] at a;rw[hp,hs,Co,Ba];have up:∀{j'},uP t.place j'->uP (insertAt t.place (below t.place (jJ t.mask h n).j) (jJ t.mask h n).j) j':=λq=>(aU b1).mpr (.inl q)
  split at a
  ·rename_i AX;rw[if_pos AX];obtain⟨m,r1,r2⟩:=T.reach i j a;exact#[m,r1,λm' h'=>up (r2 m' h')]
  ·rename_i AX;rw[if_neg AX]
   split at a
   ·rename_i he;rw[if_pos he];exact#[n,a,λm' h'=>up (ahead m' h')]
   ·rename_i he;rw[if_neg he];obtain⟨m,r1,r2⟩:=T.reach (i - 1) j a.1;exact#[m,r1,λm' h'=>up (r2 m' h')]
theorem fj {α:Type} (es:Array α):(List.range es.size).filterMap (λk:Nat=>es[k]?)=es.toList:=by
 refine QW λi=>?_;rw[Zv (λk hk=>yE.mp hk)];by_cases h:i<es.size
 ·rw[QN h,yN];rfl
 ·have h1:(List.range es.size)[i]?=none:=QR (by rw[yW];omega);have h2:es.toList[i]?=none:=QR (by rw[yA];omega);rw[h1,h2];rfl
theorem n5 {t:SetTable} (h1:1<=es.size) (h2:es.size<=1000) :
  ∃t' order,t.relaid (es.map (·.1)) (grown es.size)=some (t',order)/\(order.filterMap (λk:Nat=>es[k]?)).toList.Perm es.toList/\(order.filterMap (λk:Nat=>es[k]?)).size=es.size/\Tbl t' (hsOf (order.filterMap (λk:Nat=>es[k]?))) (order.filterMap (λk:Nat=>es[k]?)).size/\7<=t'.mask/\t'.mask<=9000/\4*es.size<=t'.mask/\t'.led=t.led/\sizeAbove (grown es.size)<=9000/\t'.plain=t.plain:=by
 have hg:grown es.size=es.size*4:=by unfold grown;rw[if_neg '!']
 obtain⟨k,e1,k3,k4,k5⟩:=Na (n:=grown es.size) (by rw[hg];exact yK (show es.size*4<=4000 by omega) '$');have hle:2^k<=8000:=by
  rcases k5 with rfl|k5
  ·decide
  ·rw[hg] at k5;omega
 have h8:8<=2^k:=yp (by decide:8<=2^3) (Nat.pow_le_pow_right '$' k3);have hm:2^k - 1+1=2^k:=by omega
 rw[hg] at k4;obtain⟨place,order,e2,La⟩:=qh hm (es.map (·.1)) (by rw[Array.size_map];omega) t.finger (t.movedTo (2^k - 1)) t.led t.plain;rw[Array.size_map] at La;have FG:∀x∈order.toList,x<es.size:=λx hx=>yE.mp (La.perm.mem_iff.mp hx);have tl:(order.filterMap (λk:Nat=>es[k]?)).toList=order.toList.filterMap (λk:Nat=>es[k]?):=Array.toList_filterMap;have pm:(order.filterMap (λk:Nat=>es[k]?)).toList.Perm es.toList:=by
  rw[tl,<-fj es];exact La.perm.filterMap _
 have sz:(order.filterMap (λk:Nat=>es[k]?)).size=es.size:=by rw[<-yA,pm.length_eq,yA]
 refine#[{ mask:=2^k - 1,place:=place,dummies:=(List.toArray []),finger:=t.finger,led:=t.led,moves:=t.movedTo (2^k - 1),plain:=t.plain },order,by unfold relaid;rw[e1];exact e2,pm,sz,#[by rw[sz];exact La.size,La.ris,La.le,rfl,#[k,hm],by rw[sz];show es.size<=2^k - 1;omega,λi j a=>?_],by show 7<=2^k - 1;omega,by show 2^k - 1<=9000;omega,by show 4*es.size<=2^k - 1;omega,rfl,by rw[e1];omega,rfl];obtain⟨x,o1,m,r1,r2⟩:=La.reach i j a;have hx:x<es.size:=FG x (by rw[<-yN] at o1;exact yk o1);have hh:hsOf (order.filterMap (λk:Nat=>es[k]?)) i=(es.map (·.1)).getD x 0:=by
  unfold hsOf;rw[<-yN,tl,Zv FG,yN,o1];show (Option.map _ es[x]?).getD 0=_;rw[yU hx];simp [Array.getD,hx]
 rw[hh];exact#[m,r1,r2]
end
section
variable {P:AS}{w:World}{A:Around}{E:Ax}{s:Shared}
theorem VJ {α:Type} (xs:Array α) {p:Nat} (hp:p<=xs.size) (x:α):(insertAt xs p x).toList=xs.toList.take p++x::xs.toList.drop p:=by
 refine QW λi=>?_;rw[yN,getElem?_insertAt xs hp,List.getElem?_append,yI,yA];have e:min p xs.size=p:=by omega
 rw[e];split
 ·rw[List.getElem?_take_of_lt (by assumption),yN]
 ·split
  ·rename_i h;subst h;simp
  ·rename_i h1 h2;obtain⟨d,rfl⟩:∃d,i=p+d+1:=#[i - p - 1,by omega];rw[show p+d+1 - p=d+1 by omega,Qu,List.getElem?_drop,yN]
   rfl
theorem perm_map {α β:Type}{f:α->β}{l l':List β} (p:l.Perm l'):∀xs:List α,l'=xs.map f->∃BN:List α,BN.Perm xs/\l=BN.map f:=by
 induction p with
 | nil=>intro xs h;exact#[xs,.refl _,h]
 | cons x _ ih =>
  intro xs h;cases xs with
  | nil=>cases h
  | cons y ys =>
   rw[yH] at h;injection h with h1 h2
   obtain⟨zs,q,e⟩:=ih ys h2;exact#[y::zs,q.cons y,by rw[yH,<-h1,e]]
 | swap x y l =>
  intro xs h
  match xs,h with
  | [],h=>cases h
  | [_],h=>cases h
  | u::v::zs,h =>
   rw[yH,yH] at h;injection h with h1 h
   injection h with h2 h3
   exact#[v::u::zs,List.Perm.swap u v zs,by rw[yH,yH,h1,h2,h3]]
 | trans _ _ ih1 ih2 =>
  intro xs h;obtain⟨ys,q,e⟩:=ih2 xs h;obtain⟨zs,q2,e2⟩:=ih1 ys e;exact#[zs,q2.trans q,e2]
theorem VI {h:Heap}{a:Addr}{o:Obj}{ep:Nat}{t:SetTable} (ho:h.get? a=some o) (hd:o.data=.set es ep t) (Bx:AK) (t':SetTable):(h.update a (Obj.putSet Bx t')).get? a=some { o with data:=.set Bx (ep+1) t' }:=by
 have:=y6 (Obj.putSet Bx t') ho (by rw[putSet_of Bx t' hd];rfl);rw[putSet_of Bx t' hd] at this;exact this
end
section
variable {P:AS}{w:World}{A:Around}{E:Ax}{s:Shared}
abbrev Ux (led:Bool):Obj:={ cls:=.type "set",dict:=none,data:=.set (List.toArray []) 0 (.fresh 0 0 led) }
theorem V1 (a:Value) {Q₁:Ax}
  (h:Q₁ (.ref s.heap.objs.size) { s with heap:=s.heap.push (Ux (!w.params.followText "set-order")) }) :
  codeAny (model P w) A (.call (.builtin "set.__new__") #[[.type "set",a],[]]) (wants Q₁ E) s:=by
 refine codeAny_of_tree ?_;show wpAny _ A.in1 (do checkBuiltinCall "set.__new__" #[[.type "set",a],[]];again (.builtin "set.__new__" #[[.type "set",a],[]])) _ _ s;refine AT (wpAny_of_eq (PySem.F.newCall_set_1 a) (AU #[plainId_quiet PySem.F.plain_set_new _,codeAny_builtin PySem.F.entry_set_new ?_]));rw[Around.under_plainId PySem.F.plain_set_new _];unfold Builtin.«set.__new__» Builtin.Frozenset.newClass;have IK:=sub_set_self;obtain⟨hp,g,d,tk,os⟩:=s;dsimp only
 wp_walk
 refine wpAny_askSetting (AU ?_);dsimp only;simp only[newObj];refine AT (wpAny_alloc (AU ?_));exact AU h
end
end STb
namespace L2
open PySem PySem.Spec PyProof.Rows
section
variable {P:AS}{w:World}{K:AB}{mg:AE}{base:Heap}{N ps:AM}{qual:Str}{params:Arguments}{body:Expr}{scope:Scope}{cl:AJ}{RJ:List V}{f c:Addr}{k:Nat}
 {A:Around} {outer:List Env} {s:Shared} {H:Hp} {us:AH} {vs:List V} {Q:VK} {E:XK}
end
end L2
namespace STb
open PySem PySem.Spec PyProof.Rows L2 SetTable TS
local macro_rules|`(tactic|omega)=>`(tactic|first|lia|omega +splitNatSub)
variable {xs:Array Nat}
theorem V3:entryFor table "set.__iter__"=some Builtin.«frozenset.__iter__» :=
 entryFor_alias (id':="frozenset.__iter__") (by kernel_rfl) rfl (by decide +kernel) (by kernel_rfl)
theorem vG:Manifest.owners.lookup (String.ofList ['r','o','t','a','r','e','t','i','_','t','e','s'].reverse)=some Manifest.sig_set_iterator:=by kernel_rfl
theorem jI:Slot "set_iterator" "__next__" "set_iterator.__next__" :=
 .of (owner:="set_iterator") (n:="__next__") (by rw[typeLookup_type,builtinLookup_eq_fast];kernel_rfl) (by decide +kernel) (by decide +kernel) (by decide +kernel)
  (by first|exact .inl (by decide +kernel)|exact .inr (by decide +kernel)) (by rw[isSubtype_type];kernel_rfl)
theorem JT:entryFor table "set_iterator.__next__"=some Builtin.«set_iterator.__next__»:=entryFor_of_tree (by kernel_rfl)
theorem JN (a:Value):argsOk "set_iterator.__next__" #[[a],[]]:=by
 unfold argsOk;rw[signature?_of (id:="set_iterator.__next__") (n:=['_','_','t','x','e','n','_','_']) (o:=['r','o','t','a','r','e','t','i','_','t','e','s']) (by kernel_rfl) vG];kernel_rfl
theorem JW:Slot "set_iterator" "__iter__" "set_iterator.__iter__" :=
 .of (owner:="set_iterator") (n:="__iter__") (by rw[typeLookup_type,builtinLookup_eq_fast];kernel_rfl) (by decide +kernel) (by decide +kernel) (by decide +kernel)
  (by first|exact .inl (by decide +kernel)|exact .inr (by decide +kernel)) (by rw[isSubtype_type];kernel_rfl)
theorem UC:entryFor table "set_iterator.__iter__"=some Builtin.«dict_keyiterator.__iter__» :=
 entryFor_alias (id':="dict_keyiterator.__iter__") (by kernel_rfl) rfl (by decide +kernel) (by kernel_rfl)
theorem Ur (a:Value):argsOk "set_iterator.__iter__" #[[a],[]]:=by
 unfold argsOk;rw[signature?_of (id:="set_iterator.__iter__") (n:=['_','_','r','e','t','i','_','_']) (o:=['r','o','t','a','r','e','t','i','_','t','e','s']) (by kernel_rfl) vG];kernel_rfl
theorem zr {α:Type}:∀(l:List α) (i:Nat) (h:i<l.length),(l[i]::l.eraseIdx i).Perm l
 | a::l,0,_=>List.Perm.refl _
 | a::l,i+1,h=>by
  have hl:i<l.length:=by simpa using h
  have:=zr l i hl;rw[List.getElem_cons_succ,List.eraseIdx_cons_succ];exact (List.Perm.swap a l[i] _).trans (this.cons a)
theorem aL {α:Type} (next:Nat->Nat):∀(fuel k:Nat) (left:List α) (out:Array α),left.length=fuel->(pickOrder.go next fuel k left out).toList.Perm (out.toList++left)
 | 0,k,left,out,h=>by
  have:left=[]:=List.length_eq_zero_iff.mp h;subst this;unfold pickOrder.go;rw[QM]
 | fuel+1,k,left,out,h=>by
  have AX:next k % left.length<left.length:=Nat.mod_lt _ '!';unfold pickOrder.go;rw[yb AX];refine (aL next fuel (k+1) _ _ (by rw[List.length_eraseIdx_of_lt AX];omega)).trans ?_;rw[Array.toList_push,Qh];refine List.Perm.append_left _ ?_;exact zr _ _ AX
theorem fe {α:Type} (next:Nat->Nat) (xs:Array α):(pickOrder next xs).toList.Perm xs.toList:=by
 have:=aL next xs.size 0 xs.toList (List.toArray []) rfl;rw[show ((List.toArray []):Array α).toList++xs.toList=xs.toList from rfl] at this;exact this
def UF (w:World) (S ep:Nat) (es:AK):Array (Int×Value):=if w.params.followText "set-order" then pickOrder (w.params.setOrder S ep) es else es
theorem gH (w:World) (S ep:Nat) (es:AK):(UF w S ep es).toList.Perm es.toList:=by
 unfold UF;split
 ·exact fe _ _
 ·exact List.Perm.refl _
theorem UT (w:World) (S ep:Nat) (es:AK):(UF w S ep es).size=es.size:=by
 rw[<-yA,(gH w S ep es).length_eq,yA]
theorem bq (R:UI xs) {i:Nat} (h:i<xs.size):below xs (xs.getD i 0+1)=i+1:=by
 obtain⟨h1,h2,h3⟩:=vg R (xs.getD i 0+1);rcases Q9 (below xs (xs.getD i 0+1)) (i+1) with z|z|z
 ·have:=h3 i '!' h;omega
 ·exact z
 ·have:=h2 (i+1) z;have:=R i (i+1) '!' '!';omega
theorem bu (R:UI xs):below xs 0=0:=by
 obtain⟨h1,h2,h3⟩:=vg R 0;rcases Nat.eq_zero_or_pos (below xs 0) with z|z
 ·exact z
 ·have:=h2 0 z;omega
section
variable {prog:AS}{w:World}{A:Around}{E:Ax}{s:Shared}{S t it:Addr}{es:AK}{ep i:Nat}{tb:SetTable}
theorem wp_byText {Q:Az} (q:Q (w.params.followText "set-order") s):wpAny '#' A setsByText Q E s:=by
 unfold setsByText;exact AT (wpAny_askSetting (AU q))
end
end STb
namespace L2
open PySem PySem.Spec PyProof.Rows TS
variable {P:AS}{w:World}
def Ua (a:Addr) (o:Obj):HO:=.ext λh=>h.get? a=some o
def ic (P:AS) (w:World) (o:Obj) (xs:List (List Key×Addr×Value)):Prop:=∃es ep,o.ExactDict/\o.data=.dict es ep/\es.toList=xs.map (entryOfKey (tupleKind (jr P w)))/\(xs.map (·.1)).Nodup
def cO (a:Addr) (o:Obj) (xs:List (List Key×Addr×Value)):It:=#[λi H=>H a=some (Ua a o)/\i<xs.length,λi H x H'=>H'=H/\∃y,xs[i]?=some y/\x=.ref y.2.1,λi H=>H a=some (Ua a o)/\xs.length<=i]
theorem vk {H:Hp}{h:Heap}{a:Addr}{o:Obj} (ok:Js P w H h) (e:H a=some (Ua a o)):h.get? a=some o:=(show jP P w H h a (Ua a o) from ok a _ e).1
theorem f7 {K:AB}{tg:Expr} (a it:Addr) (o:Obj) (xs:List (List Key×Addr×Value)) {es:Array DictEntry} {ep:Nat} (ex:o.ExactDict) (hd:o.data=.dict es ep) (he:es.toList=xs.map (entryOfKey (tupleKind (jr P w)))) :
  Vb P w K tg (cO a o xs) [it] it (λi h=>h.IsKeyIter it a i es.size ep) true where
 mem:=by simp
 obj:=λi h st b hb=>by
  obtain rfl:b=it:=by simpa using hb
  obtain⟨o,e,c,d⟩:=st;exact#[o,e,λv z=>by rw[d] at z;cases z]
 keep:=λi h h' st k=>by
  obtain⟨o,e,r⟩:=st;exact#[o,k it (by simp) o e,r]
 item:=by
  intro X hP hw hK hc i pins s σ H E I hf st hg;subst hP hw hK;obtain⟨ea,hi⟩:=hg;have sz:=size_of_entries he;have hi2:i<es.size:=by omega
  obtain⟨f0,f1,f2,f3,f4,f5⟩:=hf it (by simp);refine M8 st #[o,vk I.hok ea,ex,hd] hi2 λh' Bp sb=>?_;have I1:ji X pins σ H { s with heap:=h' }:=I.turned (t':=s.toks) (λb o hb e=>(sb.2 b hb).trans e) f0 f1 f3 f4 f5;obtain⟨oi,e,c,d⟩:=id Bp;have ey:es[i]?=some (entryOfKey (tupleKind (jr X.prog X.w)) xs[i]):=by rw[entry_at he,yb hi];rfl
  have ek:es[i].key=.ref xs[i].2.1:=by
   have:=(yc.mp (by rw[yN];exact ey)).2;rw[Array.getElem_toList] at this;rw[this];rfl
  exact#[_,rfl,ZN (s:={ s with heap:=h' }) e c d '$' #[.ref xs[i].2.1,H,I1,ek,#[rfl,xs[i],yb hi,rfl],Bp,λb hb=>(hf b hb).1]]
 done:=by
  intro X hP hw hK hc i pins s σ H E I hf st hg;subst hP hw hK;obtain⟨ea,hi⟩:=hg;have sz:=size_of_entries he;obtain⟨f0,f1,f2,f3,f4,f5⟩:=hf it (by simp);exact Ng (I.ok.hd (hc rfl)) st #[o,vk I.hok ea,ex,hd] '!' λh' eb=>#[rfl,I.turned (t':=s.toks) (λb o hb e=>eb b o hb e) f0 f1 f3 f4 f5]
 self:=λ_ _ _ _ _ st h=>wpAny_pyIter_keyiter st h
section
variable {X:Cx}{tg:Expr}
def wu (P:AS) (w:World) (te:TE):TI:=λσ H R=>te σ H λx H1=>∃a kvs,x=.ref a/\H1 a=some (.dT kvs)/\∀o xs,kvs.length<=sizeLine->(a==sysModules)=false->KT H1 kvs xs->ic P w o xs->R (cO a o xs) (upd H1 a (Ua a o))
theorem lg {l:Expr}{tl:TE} (hc:X.calm=true) (hl:PE X l tl):PI X tg l (wu X.prog X.w tl):=by
 intro pins s σ H R I h;refine jA (hl pins s σ H _ I h) λv s1 hh=>?_;obtain⟨x,H1,I1,r1,a,kvs,e,ha,q⟩:=hh;subst e;cases r1;obtain⟨z,hm,xs,kt,o,es,ep,h1,h2,h3,h4,h5,h6⟩:=bF I1.hok ha;refine MP hm #[o,h1,h2,h3] ?_;have I2:ji X pins σ (upd H1 a (Ua a o)) { s1 with heap:=s1.heap,toks:=s1.toks }:=I1.write (x:=a) (e:=a) (h':=s1.heap) (t':=s1.toks) (by rw[ha];exact True.intro) (.inl rfl) (λb u _ e=>e) #[o,h1] #[h1,#[o,h1],λg1 g2 x k=>k _ x];have I3:ji X pins σ (upd H1 a (Ua a o)) { s1 with heap:=s1.heap.push { cls:=.type "dict_keyiterator",data:=.fields (List.toArray [.ref a,.int 0 0,.int es.size 0,.int ep 0]) } }:=I2.kept (t':=s1.toks) λb o e=>yd _ e;refine#[s1.heap.objs.size,[s1.heap.objs.size],_,_,_,rfl,I3,#[true,f7 a _ o xs h2 h3 h4,λ_=>hc],#[_,yo _ rfl,rfl,rfl],λb hb=>?_,q o xs z hm kt #[es,ep,h2,h3,h4,h6]];obtain rfl:b=s1.heap.objs.size:=by simpa using hb
 exact I2.fpOk (yh _) (I2.hok.fresh (yh _))
end
end L2
namespace L2
open PySem
variable {σ:St}{H:Hp}{a b:TS}{D:vX}
abbrev oR (a:Addr):Option V:=some (.ref a)
abbrev oI (n:Int):Option V:=some (.int n)
theorem UY:0<=sizeLine:=by decide
theorem s0:1<=sizeLine:=by decide
theorem Uz:2<=sizeLine:=by decide
theorem tf:3<=sizeLine:=by decide
theorem Ab {K:AB}{i:Nat}{j:Int}{Q:VK}{p:Addr}{xs:List V} (v:V) (e:jB K H p xs) (q:Q v H) (e0:σ[i]?=some (oR p):=by rfl) (a:vL xs j=some v:=by first|rfl|exact Je rfl):fU (sV K) (Nk i) (tC (.int j)) σ H Q:=#[_,e0,p,xs,j,v,rfl,rfl,e,a,q]
theorem kT (R:St->Hp->Prop) (h1:∀B:TS,(∀σ H,R σ H->B D σ H)->u7 a B D σ H) (h2:∀σ H,R σ H->b D σ H):u7 a b D σ H:=h1 b h2
theorem J0 (s:St) (I:Hp->Prop) (h1:∀B:TS,(∀H,I H->B D s H)->u7 a B D σ H) (h2:∀H,I H->b D s H):u7 a b D σ H:=h1 b h2
theorem JF {α:Type} (s:α->St) (I:α->Hp->Prop) (h1:∀B:TS,(∀x H,I x H->B D (s x) H)->u7 a B D σ H) (h2:∀x H,I x H->b D (s x) H):u7 a b D σ H:=h1 b h2
theorem Vo {α β:Type} (s:α->β->St) (I:α->β->Hp->Prop) (h1:∀B:TS,(∀x y H,I x y H->B D (s x y) H)->u7 a B D σ H) (h2:∀x y H,I x y H->b D (s x y) H):u7 a b D σ H:=h1 b h2
theorem zU {α β γ:Type} (s:α->β->γ->St) (I:α->β->γ->Hp->Prop) (h1:∀B:TS,(∀x y z H,I x y z H->B D (s x y z) H)->u7 a B D σ H) (h2:∀x y z H,I x y z H->b D (s x y z) H):u7 a b D σ H:=h1 b h2
theorem GR {α β γ δ:Type} (s:α->β->γ->δ->St) (I:α->β->γ->δ->Hp->Prop) (h1:∀B:TS,(∀x y z u H,I x y z u H->B D (s x y z u) H)->u7 a B D σ H) (h2:∀x y z u H,I x y z u H->b D (s x y z u) H):u7 a b D σ H:=h1 b h2
theorem pe {α β γ δ ε:Type} (s:α->β->γ->δ->ε->St) (I:α->β->γ->δ->ε->Hp->Prop) (h1:∀B:TS,(∀x y z u v H,I x y z u v H->B D (s x y z u v) H)->u7 a B D σ H) (h2:∀x y z u v H,I x y z u v H->b D (s x y z u v) H):u7 a b D σ H:=h1 b h2
theorem Aj {α:Type} (s:α->α->α->α->α->α->St) (I:α->α->α->α->α->α->Hp->Prop) (h1:∀B:TS,(∀x y z u v w H,I x y z u v w H->B D (s x y z u v w) H)->u7 a B D σ H) (h2:∀x y z u v w H,I x y z u v w H->b D (s x y z u v w) H):u7 a b D σ H:=h1 b h2
def zS (H:Hp):V->V|.ref p=>(match H p with|some (.tup (a::_))=>a|_=>.non)|v=>v
end L2
namespace L2
open PySem PySem.Spec PyProof.Rows TS STb
variable {A:Around}{s:Shared}{j:List Key}{AV A0:AH}
theorem Mn {k j:Key}{u v:Value} (hu:jE (kV k) u) (hv:jE (kV j) v):SeqAt.EqAt A s u v (decide (k=j)):=by
 cases k with
 | inl a =>
  obtain⟨t,rfl⟩:=hu;cases j with
  | inl b =>
   obtain⟨t',rfl⟩:=hv;have:=SeqAt.EqAt.int_int (A:=A) (s:=s) a t b t';rwa [show (a==b)=decide ((Sum.inl a:Key)=Sum.inl b) from Qf.mpr (by rw[beq_iff_eq,decide_eq_true_eq];exact#[λz=>by rw[z],λz=>Sum.inl.inj z])] at this
  | inr b =>
   obtain⟨t',rfl⟩:=hv;rw[decide_eq_false (λz=>by cases z)];exact SeqAt.EqAt.int_str a t b t'
 | inr a =>
  obtain⟨t,rfl⟩:=hu;cases j with
  | inl b =>
   obtain⟨t',rfl⟩:=hv;rw[decide_eq_false (λz=>by cases z)];exact SeqAt.EqAt.str_int a t b t'
  | inr b =>
   obtain⟨t',rfl⟩:=hv;have:=SeqAt.EqAt.str_str (A:=A) (s:=s) a t b t';rwa [show (a==b)=decide ((Sum.inr a:Key)=Sum.inr b) from Qf.mpr (by rw[beq_iff_eq,decide_eq_true_eq];exact#[λz=>by rw[z],λz=>Sum.inr.inj z])] at this
theorem c9 {k:List Key} (r1:jz (k.map kV) AV) (r2:jz (j.map kV) A0) (n:Nat) (h1:n<AV.toArray.size) (h2:n<A0.toArray.size) :
  SeqAt.EqAt A s AV.toArray[n] A0.toArray[n] (decide (k.getD n (.inl 0)=j.getD n (.inl 0))):=by
 have l1:=r1.length;have l2:=r2.length;rw[ya] at l1 l2;rw[yg] at h1 h2;have g1:n<k.length:=by omega
 have g2:n<j.length:=by omega
 obtain⟨u,hu,ru⟩:=r1.get (i:=n) (x:=kV k[n]) (by simp [g1]);obtain⟨v,hv,rv⟩:=r2.get (i:=n) (x:=kV j[n]) (by simp [g2]);rw[yb h1] at hu;rw[yb h2] at hv;cases hu;cases hv;rw[yS,yS,yl,yl,yb g1,yb g2];exact Mn ru rv
theorem dL {k:List Key} (r1:jz (k.map kV) AV) (r2:jz (j.map kV) A0):((List.range (min AV.toArray.size A0.toArray.size)).all (λn=>decide (k.getD n (.inl 0)=j.getD n (.inl 0)))&&AV.toArray.size==A0.toArray.size)=decide (k=j):=by
 have l1:=r1.length;have l2:=r2.length;rw[ya] at l1 l2;rw[yg,yg,<-l1,<-l2];exact Vc _ k j
section
variable {X:Cx}{pins:AF}{σ:St}{H:Hp}{s:Shared}
theorem Kn (I:ji X pins σ H s) {a b:Addr} {k:List Key} (hu:A.units<cLine) (ha:H a=some (.tup (k.map kV))) (hb:H b=some (.tup (j.map kV))):SeqAt.EqAt A s (.ref a) (.ref b) (decide (k=j)):=by
 by_cases Bu:a=b
 ·subst Bu;rw[ha] at hb;have e:k=j:=(Qt (f:=kV) λx y h=>Zm h).mp (HO.tup.inj (Option.some.inj hb));rw[decide_eq_true e];exact SeqAt.EqAt.same _
 ·obtain⟨AV,r1,p1,_⟩:=I.tuple (jB.of ha);obtain⟨A0,r2,p2,_⟩:=I.tuple (jB.of hb);rw[<-dL r1 r2];exact SeqAt.EqAt.of_refs Bu (SeqAt.RcAt.tuples p1 p2 hu λn h1 h2=>c9 r1 r2 n h1 h2)
theorem kO (hu:X.A.units+64<cLine):uN X (compareOp .NotEq) (λx y H Q=>E6 λ(a b:Addr) (ps qs:AI) (ks js:List (List Key))=>A7 (x=.ref a) (y=.ref b) (jg X.K H a (ps.map V.ref)) (jg X.K H b (qs.map V.ref)) (KeyAt H ps ks) (KeyAt H qs js) (Q (.bl (!decide (ks=js))) H)):=by
 intro pins s σ H x y v u Q I rx ry h;obtain⟨a,b,ps,qs,ks,js,rfl,rfl,ha,hb,T1,T2,q⟩:=h;cases rx;cases ry;obtain⟨AV,r1,p1,_⟩:=I.list ha;obtain⟨A0,r2,p2,_⟩:=I.list hb;have FH:X.A.units<cLine:=by omega
 have Em:X.A.in1.units<cLine:=by show X.A.units+1<cLine;omega
 have l1:=r1.length;have l2:=r2.length;rw[ya] at l1 l2;have t1:=T1.1;have t2:=T2.1;by_cases hz:AV.toArray.size=A0.toArray.size
 ·have e:(List.range AV.toArray.size).all (λn=>decide (ks.getD n []=js.getD n []))=decide (ks=js):=by
   rw[yg] at hz ⊢;rw[yg] at hz;rw[<-Vc [] ks js,show min ks.length js.length=AV.length by omega,show (ks.length==js.length)=true by rw[beq_iff_eq];omega,Bool.and_true]
  rw[<-e] at q;refine EqBoolInt.of_rcne (SeqAt.RcNeAt.lists p1.isList p2.isList hz FH λn h1 h2=>?_) #[.bl _,H,I,rfl,q];have e1:=uT r1;have e2:=uT r2;subst e1 e2;rw[yg,ya] at h1 h2;have g1:n<ks.length:=by omega
  have g2:n<js.length:=by omega
  rw[yS,yS,yR,yR,yl,yl,yb g1,yb g2];exact Kn I Em (T1.2 n _ _ (yb h1) (yb g1)) (T2.2 n _ _ (yb h2) (yb g2))
 ·have Bk:ks≠js:=λe=>by
   rw[yg,yg] at hz;rw[e] at t1;omega
  rw[decide_eq_false Bk] at q;exact EqBoolInt.of_rcne (SeqAt.RcNeAt.lists_lengths p1.isList p2.isList (bne_iff_ne.mpr hz) FH) #[.bl true,H,I,rfl,q]
end
end L2
namespace PySem.SeqAt
open PySem PySem.Spec
open MeetsSeq MeetsSeq2 MeetsSeq3 SeqRoads2
variable {l b:Addr}{items AW:AN}{e:Nat->Bool}{r:Bool}
def LtAt (A:Around) (s:Shared) (y x:Value) (b:Bool):Prop :=
 ∀(prog:AS) (w:World) (E:Ax) (Q:Ax),Q (.bool b) s->wpAny '#' A (richCompare .Lt y x) Q E s
theorem cF (l b:Addr) (items AW:AN) (n n2:Nat) (dd C9:AR) (sl Dc:AL) (e:Nat->Bool) (r:Bool) :
  Meets (Builtin.«tuple.__lt__» #[[.ref l,.ref b],[]])
   (λA R s=>s.heap.get? l=some { cls:=.type "tuple",dict:=dd,data:=.seq items n,slots:=sl }/\s.heap.get? b=some { cls:=.type "tuple",dict:=C9,data:=.seq AW n2,slots:=Dc } /\
    (∀j (h1:j<items.size) (h2:j<AW.size),(∀i,i<j->e i=true)->EqAt A.in1 s items[j] AW[j] (e j)) /\
    (∀j (h1:j<items.size) (h2:j<AW.size),(∀i,i<j->e i=true)->e j=false->LtAt A.in1 s items[j] AW[j] r) /\
    ((∀i,i<min items.size AW.size->e i=true)->r=decide (items.size<AW.size)) /\
    R (.ok (.ret (.bool r))) s) :=
 .of_wp λprog w A R s h=>by
  obtain⟨hp,g,d,tk,os⟩:=s;obtain⟨hl,hb,he,AX,hr,h⟩:=h;have f2:=AutoSeq1.sub_tuple_tuple;have hZ:(items.toList.zip AW.toList).length=min items.size AW.size:=by simp
  wp_walk using AutoSeq1.wpAny_loadPart' hl,AutoSeq1.wpAny_loadPart' hb,wpAny_forIn_list _ (λrest b s'=>b.1=none/\s'=#[hp,g,d,tk,os]/\∃i,rest=(items.toList.zip AW.toList).drop i/\∀j,j<i->e j=true) _
  case turn =>
   rintro⟨y,x⟩ rest b s' ⟨Dx,rfl,i,hz,hR⟩;have BV:i<(items.toList.zip AW.toList).length:=by
    rcases Qa i (items.toList.zip AW.toList).length with h'|h'
    ·exact h'
    ·rw[List.drop_of_length_le h'] at hz;cases hz
   have hm:i<min items.size AW.size:=hZ▸BV;have h1:i<items.size:=yJ hm (Wf _ _);have h2:i<AW.size:=yJ hm (QZ _ _);rw[Qc BV] at hz;injection hz with FI CI
   have hy:y=items[i]:=by have:=congrArg Prod.fst FI;simpa using this
   have hx:x=AW[i]:=by have:=congrArg Prod.snd FI;simpa using this
   subst hy hx;refine AT (he i h1 h2 hR prog w _ _ ?_);cases hy:e i with
   | true =>
    wp_walk
    exact#[rfl,rfl,i+1,CI,λj hj=>by
     rcases Nat.lt_or_eq_of_le (Q8 hj) with z|rfl
     ·exact hR j z
     ·exact hy]
   | false =>
    have q:=AX i h1 h2 hR hy prog w;generalize richCompare CmpOp.Lt items[i] AW[i]=m at q ⊢
    wp_walk using q _ _
    wp_walk
    exact#[_,rfl,h]
  case fin =>
   rintro⟨b1,b2⟩ s' ⟨Dx,rfl,i,hz,hR⟩;simp only at Dx;subst Dx;have Hk:min items.size AW.size<=i:=by
    rcases Qa i (items.toList.zip AW.toList).length with h'|h'
    ·rw[Qc h'] at hz;cases hz
    ·exact hZ▸h'
   rw[hr λj hj=>hR j (yJ hj Hk)] at h
   wp_walk
   exact#[_,rfl,by simpa [Builtin.Tuple.tupleCompareSizes] using h]
  case h =>
   exact#[rfl,rfl,0,rfl,λj hj=>absurd hj (QB _)]
theorem NX (l b:Addr) (items AW:AN) (n n2:Nat) (dd C9:AR) (sl Dc:AL) (e:Nat->Bool) (r:Bool) :
  Meets (Builtin.«tuple.__eq__» #[[.ref l,.ref b],[]])
   (λA R s=>s.heap.get? l=some { cls:=.type "tuple",dict:=dd,data:=.seq items n,slots:=sl }/\s.heap.get? b=some { cls:=.type "tuple",dict:=C9,data:=.seq AW n2,slots:=Dc } /\
    (∀j (h1:j<items.size) (h2:j<AW.size),(∀i,i<j->e i=true)->EqAt A.in1 s items[j] AW[j] (e j)) /\
    (∀j (h1:j<items.size) (h2:j<AW.size),(∀i,i<j->e i=true)->e j=false->r=false) /\
    ((∀i,i<min items.size AW.size->e i=true)->r=(items.size==AW.size)) /\
    R (.ok (.ret (.bool r))) s) :=
 .of_wp λprog w A R s h=>by
  obtain⟨hp,g,d,tk,os⟩:=s;obtain⟨hl,hb,he,AX,hr,h⟩:=h;have f2:=AutoSeq1.sub_tuple_tuple;have hZ:(items.toList.zip AW.toList).length=min items.size AW.size:=by simp
  wp_walk using AutoSeq1.wpAny_loadPart' hl,AutoSeq1.wpAny_loadPart' hb,wpAny_forIn_list _ (λrest b s'=>b.1=none/\s'=#[hp,g,d,tk,os]/\∃i,rest=(items.toList.zip AW.toList).drop i/\∀j,j<i->e j=true) _
  case turn =>
   rintro⟨y,x⟩ rest b s' ⟨Dx,rfl,i,hz,hR⟩;have BV:i<(items.toList.zip AW.toList).length:=by
    rcases Qa i (items.toList.zip AW.toList).length with h'|h'
    ·exact h'
    ·rw[List.drop_of_length_le h'] at hz;cases hz
   have hm:i<min items.size AW.size:=hZ▸BV;have h1:i<items.size:=yJ hm (Wf _ _);have h2:i<AW.size:=yJ hm (QZ _ _);rw[Qc BV] at hz;injection hz with FI CI
   have hy:y=items[i]:=by have:=congrArg Prod.fst FI;simpa using this
   have hx:x=AW[i]:=by have:=congrArg Prod.snd FI;simpa using this
   subst hy hx;refine AT (he i h1 h2 hR prog w _ _ ?_);cases hy:e i with
   | true =>
    wp_walk
    exact#[rfl,rfl,i+1,CI,λj hj=>by
     rcases Nat.lt_or_eq_of_le (Q8 hj) with z|rfl
     ·exact hR j z
     ·exact hy]
   | false =>
    rw[AX i h1 h2 hR hy] at h
    wp_walk
    exact#[_,rfl,h]
  case fin =>
   rintro⟨b1,b2⟩ s' ⟨Dx,rfl,i,hz,hR⟩;simp only at Dx;subst Dx;have Hk:min items.size AW.size<=i:=by
    rcases Qa i (items.toList.zip AW.toList).length with h'|h'
    ·rw[Qc h'] at hz;cases hz
    ·exact hZ▸h'
   rw[hr λj hj=>hR j (yJ hj Hk)] at h
   wp_walk
   exact#[_,rfl,by simpa [Builtin.Tuple.tupleCompareSizes] using h]
  case h =>
   exact#[rfl,rfl,0,rfl,λj hj=>absurd hj (QB _)]
section
variable {A:Around}{s:Shared}
theorem LtAt.tuples (hl:s.heap.IsTuple l items) (hb:s.heap.IsTuple b AW) (hu:A.units<cLine)
  (he:∀j (h1:j<items.size) (h2:j<AW.size),(∀i,i<j->e i=true)->EqAt A.in1 s items[j] AW[j] (e j))
  (AX:∀j (h1:j<items.size) (h2:j<AW.size),(∀i,i<j->e i=true)->e j=false->LtAt A.in1 s items[j] AW[j] r)
  (hr:(∀i,i<min items.size AW.size->e i=true)->r=decide (items.size<AW.size)):LtAt A s (.ref l) (.ref b) r:=λprog w E Q h=>by
 obtain⟨⟨cls,dd,data,sl⟩,ho,hc,n,hd⟩:=id hl;obtain⟨⟨Fl,C9,data2,Dc⟩,Bw,DN,n2,hd2⟩:=id hb;simp only at hc hd DN hd2;subst hc hd DN hd2;exact richCompare_meets_room (op:=.Lt) #[_,ho,rfl] #[_,Bw,rfl] F.slot_tuple_lt F.entry_tuple_lt (F.args_tuple_lt_2 _ _) (cF l b items AW n n2 dd C9 sl Dc e r)
  #[ho,Bw,he,AX,hr,show Value.bool r≠Value.notImplemented/\Q (.bool r) s from#[(λx=>nomatch x),h]] hu
theorem EqAt.tuplesP (Bk:l≠b) (hl:s.heap.IsTuple l items) (hb:s.heap.IsTuple b AW) (hu:A.units<cLine)
  (he:∀j (h1:j<items.size) (h2:j<AW.size),(∀i,i<j->e i=true)->EqAt A.in1 s items[j] AW[j] (e j))
  (AX:∀j (h1:j<items.size) (h2:j<AW.size),(∀i,i<j->e i=true)->e j=false->r=false)
  (hr:(∀i,i<min items.size AW.size->e i=true)->r=(items.size==AW.size)):EqAt A s (.ref l) (.ref b) r:=EqAt.of_refs Bk λprog w E Q h=>by
 obtain⟨⟨cls,dd,data,sl⟩,ho,hc,n,hd⟩:=id hl;obtain⟨⟨Fl,C9,data2,Dc⟩,Bw,DN,n2,hd2⟩:=id hb;simp only at hc hd DN hd2;subst hc hd DN hd2;exact richCompare_meets_room (op:=.Eq) #[_,ho,rfl] #[_,Bw,rfl] F.slot_tuple_eq F.entry_tuple_eq (F.args_tuple_eq_2 _ _) (NX l b items AW n n2 dd C9 sl Dc e r)
  #[ho,Bw,he,AX,hr,show Value.bool r≠Value.notImplemented/\Q (.bool r) s from#[(λx=>nomatch x),h]] hu
end
end PySem.SeqAt
namespace L2
open PySem PySem.Spec PyProof.Rows TS
variable {j:Nat}{vs:AH}{d:Bool}{o:Obj}{kvs:List (List Key×V)}{xs:List (List Key×Addr×Value)}
structure Od where
 α:Type
 deq:DecidableEq α
 lt:α->α->Bool
 irr:∀a,lt a a=false
 trans:∀{a b c},lt a b=true->lt b c=true->lt a c=true
 tot:∀{a b},lt a b=false->lt b a=false->a=b
 R:Heap->Value->α->Prop
 V_:Hp->V->α->Prop
 cmp:α->α->Prop
 deep:Nat
 keep:∀{h h':Heap} {u a},(∀b o,h.get? b=some o->o.cls=.type "tuple"->h'.get? b=some o)->R h u a->R h' u a
 mono:∀{H H':Hp} {x a},(∀p xs,H p=some (.tup xs)->H' p=some (.tup xs))->V_ H x a->V_ H' x a
 raw:∀{P w H h x u a},Js P w H h->V_ H x a->jE x u->R h u a
 uniq:∀{h u a b},R h u a->R h u b->a=b
 eq:∀{A:Around} {s:Shared} {u v a b},A.units+deep<cLine->cmp a b->R s.heap u a->R s.heap v b->SeqAt.EqAt A s u v (@decide (a=b) (deq a b))
 less:∀{A:Around} {s:Shared} {u v a b},A.units+deep<cLine->cmp a b->R s.heap u a->R s.heap v b->SeqAt.LtAt A s u v (lt a b)
instance (O:Od):DecidableEq O.α:=O.deq
theorem Vj {k:Key}{u:Value}:jE (kV k) u↔uk k u:=by cases k<;>exact Iff.rfl
abbrev UL:Od where
 α:=Key
 deq:=inferInstance
 lt:=V4
 irr:=kn
 trans:=Zl
 tot:=kq
 R:=λ_ u k=>uk k u
 V_:=λ_ x k=>x=kV k
 cmp:=λa b=>a.isLeft=b.isLeft
 deep:=0
 keep:=λ_ h=>h
 mono:=λ_ h=>h
 raw:=λ_ h r=>by rw[h] at r;exact Vj.mp r
 uniq:=λ{h u a b} h1 h2=>by
  cases a<;>cases b<;>(obtain⟨t,rfl⟩:=h1;obtain⟨t',e⟩:=h2;first|(cases e;done)|(cases e;rfl))
 eq:=λ_ _ h1 h2=>Mn (Vj.mpr h1) (Vj.mpr h2)
 less:=λ{A s u v a b} _ hc h1 h2 prog w E Q h=>by
  cases a with
  | inl a=>cases b with
   | inl b =>
    obtain⟨t,rfl⟩:=h1;obtain⟨t',rfl⟩:=h2;exact richCompare_gives (op:=.Lt) (typeIs_int s a t) (typeIs_int s b t') F.slot_int_lt F.entry_int_lt (F.args_int_lt_2 _ _) (gives_int_lt a b t t') (λz=>nomatch z) h
   | inr b=>cases hc
  | inr a=>cases b with
   | inl b=>cases hc
   | inr b =>
    obtain⟨t,rfl⟩:=h1;obtain⟨t',rfl⟩:=h2;exact richCompare_gives (op:=.Lt) (typeIs_str s a t) (typeIs_str s b t') F.slot_str_lt F.entry_str_lt (F.args_str_lt_2 _ _) (gives_str_lt a b t t') (λz=>nomatch z) h
section
variable (O:Od)
def JY:List O.α->List O.α->Bool
 | _,[]=>false
 | [],_::_=>true
 | a::as,b::bs=>if a=b then JY as bs else O.lt a b
def UO:List O.α->List O.α->Prop
 | [],_=>True
 | _::_,[]=>True
 | a::as,b::bs=>O.cmp a b/\(a=b->UO as bs)
variable {O}
theorem Od.ne_ {a b:O.α} (h:O.lt a b=true):a≠b:=λe=>by rw[e,O.irr] at h;cases h
theorem aF:∀a:List O.α,JY O a a=false
 | []=>rfl
 | a::as=>by unfold JY;rw[if_pos rfl];exact aF as
theorem aG:∀{a b:List O.α},JY O a b=false->JY O b a=false->a=b
 | [],[],_,_=>rfl
 | [],b::bs,h,_=>by unfold JY at h;cases h
 | a::as,[],_,h=>by unfold JY at h;cases h
 | a::as,b::bs,h1,h2=>by
  unfold JY at h1 h2;by_cases e:a=b
  ·rw[if_pos e] at h1;rw[if_pos e.symm] at h2;rw[e,aG h1 h2]
  ·rw[if_neg e] at h1;rw[if_neg (yZ e)] at h2;exact absurd (O.tot h1 h2) e
theorem KH:∀{a b c:List O.α},JY O a b=true->JY O b c=true->JY O a c=true
 | a,b,[],_,h=>by unfold JY at h;cases h
 | a,[],c,h,_=>by unfold JY at h;cases h
 | [],b::bs,c::cs,_,_=>by unfold JY;rfl
 | a::as,b::bs,c::cs,h1,h2=>by
  unfold JY at h1 h2 ⊢;by_cases e1:a=b
  ·subst e1;rw[if_pos rfl] at h1;by_cases e2:a=c
   ·rw[if_pos e2] at h2 ⊢;exact KH h1 h2
   ·rw[if_neg e2] at h2 ⊢;exact h2
  ·rw[if_neg e1] at h1;by_cases e2:b=c
   ·subst e2;rw[if_neg e1];exact h1
   ·rw[if_neg e2] at h2;have h3:=O.trans h1 h2;rw[if_neg (Od.ne_ h3)];exact h3
theorem ug {α β:Type}{F G:α->β->Prop} (f:∀x y,F x y->G x y):∀{l:List α} {m:List β},Paired F l m->Paired G l m
 | _,_,.nil=>.nil
 | _,_,.cons r t=>.cons (f _ _ r) (ug f t)
theorem VR {α β:Type}{F:α->β->Prop} (f:∀x y z,F x y->F x z->y=z):∀{l:List α} {m n:List β},Paired F l m->Paired F l n->m=n
 | _,_,_,.nil,.nil=>rfl
 | _,_,_,.cons r t,.cons r' t'=>by rw[f _ _ _ r r',VR f t t']
theorem JD {α β:Type}{F:α->β->Prop}:∀{l:List α} {m:List β},Paired F l m->l.length=m.length
 | _,_,.nil=>rfl
 | _,_,.cons _ t=>by rw[yQ,yQ,JD t]
theorem ui {α β:Type}{F:α->β->Prop}:∀{l:List α} {m:List β} (p:Paired F l m) {i:Nat} (h1:i<l.length) (h2:i<m.length),F l[i] m[i]
 | _,_,.cons r _,0,_,_=>r
 | _,_,.cons _ t,i+1,h1,h2=>ui t (by simpa using h1) (by simpa using h2)
theorem n0 {P:AS}{w:World}{H:Hp}{h:Heap} (ok:Js P w H h):∀{xs:List V} {us:AH} {l:List O.α},Paired (O.V_ H) xs l->jz xs us->Paired (O.R h) us l
 | _,_,_,.nil,.nil=>.nil
 | _,_,_,.cons r t,.cons r' t'=>.cons (O.raw ok r r') (n0 ok t t')
theorem ZI:∀{as bs:List O.α},UO O as bs->∀(j:Nat) (h1:j<as.length) (h2:j<bs.length),(∀i (g1:i<as.length) (g2:i<bs.length),i<j->as[i]=bs[i])->O.cmp as[j] bs[j]
 | a::as,b::bs,h,0,_,_,_=>by unfold UO at h;exact h.1
 | a::as,b::bs,h,j+1,h1,h2,e=>by
  unfold UO at h;exact ZI (h.2 (e 0 (Ql _) (Ql _) (Ql _))) j (by simpa using h1) (by simpa using h2) λi g1 g2 hi=>by
   have:=e (i+1) (by simpa using g1) (by simpa using g2) '!';simpa using this
theorem dR:∀{as bs:List O.α} (j:Nat) (h1:j<as.length) (h2:j<bs.length),(∀i (g1:i<as.length) (g2:i<bs.length),i<j->as[i]=bs[i])->as[j]≠bs[j]->JY O as bs=O.lt as[j] bs[j]
 | a::as,b::bs,0,_,_,_,n=>by unfold JY;rw[if_neg (by simpa using n)];rfl
 | a::as,b::bs,j+1,h1,h2,e,n=>by
  have e0:a=b:=e 0 (Ql _) (Ql _) (Ql _);unfold JY;rw[if_pos e0];refine (dR j (by simpa using h1) (by simpa using h2) (λi g1 g2 hi=>?_) (by simpa using n)).trans (by simp);have:=e (i+1) (by simpa using g1) (by simpa using g2) '!';simpa using this
theorem kC:∀{as bs:List O.α},(∀i (g1:i<as.length) (g2:i<bs.length),as[i]=bs[i])->JY O as bs=decide (as.length<bs.length)
 | as,[],_=>by unfold JY;exact (decide_eq_false (QB _)).symm
 | [],b::bs,_=>by unfold JY;exact (decide_eq_true (Ql _)).symm
 | a::as,b::bs,e=>by
  have e0:a=b:=e 0 (Ql _) (Ql _);unfold JY;rw[if_pos e0,kC (λi g1 g2=>by
   have:=e (i+1) (by simpa using g1) (by simpa using g2);simpa using this)]
  simp
theorem dg {as bs:List O.α}:as=bs↔as.length=bs.length/\∀i (g1:i<as.length) (g2:i<bs.length),as[i]=bs[i] :=
 #[λe=>by subst e;exact#[rfl,λ_ _ _=>rfl],λh=>yX h.1 λi h1 h2=>h.2 i h1 h2]
def c7 (as bs:List O.α) (j:Nat):Bool:=decide (as[j]?=bs[j]?)
theorem vj {as bs:List O.α} (h1:j<as.length) (h2:j<bs.length):c7 as bs j=decide (as[j]=bs[j]):=by
 unfold c7;rw[yb h1,yb h2,Qf,decide_eq_true_iff,decide_eq_true_iff];exact#[λe=>Option.some.inj e,λe=>by rw[e]]
theorem ZL {as bs:List O.α} (h:∀i,i<j->c7 as bs i=true):∀i (g1:i<as.length) (g2:i<bs.length),i<j->as[i]=bs[i]:=λi g1 g2 hi=>by
 have:=h i hi;rw[vj g1 g2] at this;exact of_decide_eq_true this
end
abbrev JX (O:Od):Od where
 α:=List O.α
 deq:=inferInstance
 lt:=JY O
 irr:=aF
 trans:=KH
 tot:=aG
 R:=λh u l=>∃a vs,u=.ref a/\h.IsTuple a vs.toArray/\Paired (O.R h) vs l
 V_:=λH x l=>∃a xs,x=.ref a/\H a=some (.tup xs)/\Paired (O.V_ H) xs l
 cmp:=UO O
 deep:=O.deep+1
 keep:=λk #[a,vs,e,#[o,h1,h2,h3],p]=>#[a,vs,e,#[o,k a o h1 h2,h2,h3],ug (λ_ _ r=>O.keep k r) p]
 mono:=λk #[a,xs,e,h,p]=>#[a,xs,e,k _ _ h,ug (λ_ _ r=>O.mono k r) p]
 raw:=λ{P w H h x u l} ok ⟨a,xs,e,hh,p⟩ r=>by
  subst e;cases r;obtain⟨_,AV,rv,it⟩:=(show jP P w H h a (.tup xs) from ok a _ hh);exact#[a,AV,rfl,it,n0 ok p rv]
 uniq:=λ⟨a,vs,e,⟨o,h1,_,n,h3⟩,p⟩ ⟨a',Cp,e',⟨o',OF,_,n',OG⟩,p'⟩=>by
  subst e;cases e';rw[h1] at OF;cases OF;rw[h3] at OG;injection OG with e1 _
  have e2:vs=Cp:=by simpa using e1
  subst e2;exact VR (F:=O.R _) (λ_ _ _ r r'=>O.uniq r r') p p'
 eq:=λ{A s u v as bs} hu hc h1 h2=>by
  obtain⟨a,vs,rfl,t1,p1⟩:=id h1;obtain⟨b,ws,rfl,t2,p2⟩:=id h2;have l1:=JD p1;have l2:=JD p2;by_cases Bu:a=b
  ·subst Bu;have e:as=bs:=by
    obtain⟨o,g1,_,n,g3⟩:=t1;obtain⟨o',OH,_,n',OI⟩:=t2;rw[g1] at OH;cases OH;rw[g3] at OI;injection OI with e1 _
    have e2:vs=ws:=by simpa using e1
    subst e2;exact VR (F:=O.R s.heap) (λ_ _ _ r r'=>O.uniq r r') p1 p2
   rw[decide_eq_true e];exact SeqAt.EqAt.same _
  ·refine SeqAt.EqAt.tuplesP (e:=c7 as bs) Bu t1 t2 '!' (λj g1 g2 pre=>?_) (λj g1 g2 pre ej=>?_) λall=>?_
   ·have k1:j<as.length:=by rw[<-l1];simpa using g1
    have k2:j<bs.length:=by rw[<-l2];simpa using g2
    rw[vj k1 k2,yS,yS];exact O.eq (by show A.units+1+O.deep<cLine;omega) (ZI hc j k1 k2 (ZL pre)) (ui p1 _ k1) (ui p2 _ k2)
   ·have k1:j<as.length:=by rw[<-l1];simpa using g1
    have k2:j<bs.length:=by rw[<-l2];simpa using g2
    refine decide_eq_false λe=>?_;subst e;rw[vj k1 k2] at ej;exact absurd rfl (of_decide_eq_false ej)
   ·rw[yg,yg,l1,l2] at all ⊢;rw[Qf,decide_eq_true_iff,beq_iff_eq,dg];refine#[λz=>z.1,λz=>#[z,λi g1 g2=>?_]];have:=all i '!';rw[vj g1 g2] at this;exact of_decide_eq_true this
 less:=λ{A s u v as bs} hu hc h1 h2=>by
  obtain⟨a,vs,rfl,t1,p1⟩:=id h1;obtain⟨b,ws,rfl,t2,p2⟩:=id h2;have l1:=JD p1;have l2:=JD p2;refine SeqAt.LtAt.tuples (e:=c7 as bs) t1 t2 '!' (λj g1 g2 pre=>?_) (λj g1 g2 pre ej=>?_) λall=>?_
  ·have k1:j<as.length:=by rw[<-l1];simpa using g1
   have k2:j<bs.length:=by rw[<-l2];simpa using g2
   rw[vj k1 k2,yS,yS];exact O.eq (by show A.units+1+O.deep<cLine;omega) (ZI hc j k1 k2 (ZL pre)) (ui p1 _ k1) (ui p2 _ k2)
  ·have k1:j<as.length:=by rw[<-l1];simpa using g1
   have k2:j<bs.length:=by rw[<-l2];simpa using g2
   rw[vj k1 k2] at ej;have ne:=of_decide_eq_false ej;rw[dR j k1 k2 (ZL pre) ne,yS,yS];exact O.less (by show A.units+1+O.deep<cLine;omega) (ZI hc j k1 k2 (ZL pre)) (ui p1 _ k1) (ui p2 _ k2)
  ·rw[yg,yg,l1,l2] at all ⊢;refine kC λi g1 g2=>?_;have:=all i '!';rw[vj g1 g2] at this;exact of_decide_eq_true this
theorem Gh {A:Around}{s:Shared}{u v:Value}{p q:Prop}{d:Decidable p}{d':Decidable q} (h:p↔q) (x:SeqAt.EqAt A s u v (@decide p d)):SeqAt.EqAt A s u v (@decide q d'):=(@decide_eq_decide p q d d').mpr h▸x
abbrev JB (O:Od) (hd:∀h u l,¬(uk l u/\∃a,O.R h u a)):Od where
 α:=Key ⊕ O.α
 deq:=inferInstance
 lt:=λa b=>match a,b with|.inl a,.inl b=>V4 a b|.inl _,.inr _=>true|.inr _,.inl _=>false|.inr a,.inr b=>O.lt a b
 irr:=λa=>by cases a<;>first|exact kn _|exact O.irr _
 trans:=λ{a b c} h1 h2=>by
  cases a<;>cases b<;>cases c<;>first|exact Zl h1 h2|exact O.trans h1 h2|rfl|exact absurd h1 yt|exact absurd h2 yt
 tot:=λ{a b} h1 h2=>by
  cases a<;>cases b<;>first|exact congrArg _ (kq h1 h2)|exact congrArg _ (O.tot h1 h2)|exact absurd h1.symm yt|exact absurd h2.symm yt
 R:=λh u a=>match a with|.inl k=>uk k u|.inr a=>O.R h u a
 V_:=λH x a=>match a with|.inl k=>x=kV k|.inr a=>O.V_ H x a
 cmp:=λa b=>match a,b with|.inl a,.inl b=>a.isLeft=b.isLeft|.inr a,.inr b=>O.cmp a b|_,_=>False
 deep:=O.deep
 keep:=λ{h h' u a} k r=>by cases a<;>first|exact r|exact O.keep k r
 mono:=λ{H H' x a} k r=>by cases a<;>first|exact r|exact O.mono k r
 raw:=λ{P w H h x u a} ok r q=>by
  cases a with
  | inl k=>rw[show x=kV k from r] at q;exact Vj.mp q
  | inr a=>exact O.raw ok r q
 uniq:=λ{h u a b} r q=>by
  cases a with
  | inl a=>cases b with
   | inl b=>exact congrArg _ (UL.uniq (h:=h) r q)
   | inr b=>exact absurd #[r,_,q] (hd h u a)
  | inr a=>cases b with
   | inl b=>exact absurd #[q,_,r] (hd h u b)
   | inr b=>exact congrArg _ (O.uniq r q)
 eq:=λ{A s u v a b} hu hc r q=>by
  cases a with
  | inl a=>cases b with
   | inl b =>
    exact Gh #[λe=>by rw[e],λe=>Sum.inl.inj e] (UL.eq (A:=A) (s:=s) (by show A.units+0<cLine;omega) hc r q)
   | inr b=>exact absurd hc id
  | inr a=>cases b with
   | inl b=>exact absurd hc id
   | inr b =>
    exact Gh #[λe=>by rw[e],λe=>Sum.inr.inj e] (O.eq (A:=A) (s:=s) hu hc r q)
 less:=λ{A s u v a b} hu hc r q=>by
  cases a with
  | inl a=>cases b with
   | inl b=>exact UL.less (A:=A) (s:=s) (by show A.units+0<cLine;omega) hc r q
   | inr b=>exact absurd hc id
  | inr a=>cases b with
   | inl b=>exact absurd hc id
   | inr b=>exact O.less hu hc r q
theorem UJ (O:Od):∀h u l,¬(uk l u/\∃a,(JX O).R h u a):=λh u l #[k,a,b,_,e,_]=>by
 subst e;cases l<;>(obtain⟨t,z⟩:=k;cases z)
abbrev KI:Od:=JB (JX UL) (UJ UL)
theorem Od.neg (O:Od) {a b c:O.α} (h:O.lt a c=true):O.lt a b=true\/O.lt b c=true:=by
 cases h1:O.lt a b with
 | true=>exact .inl rfl
 | false =>
  right
  cases h2:O.lt b a with
  | true=>exact O.trans h2 h
  | false=>rw[<-O.tot h1 h2];exact h
theorem sw {O:Od}{a b:O.α}{as bs:List O.α} (e:a=b):JY O (a::as) (b::bs)=JY O as bs:=by
 show (if a=b then JY O as bs else O.lt a b)=_;rw[if_pos e]
theorem sx {O:Od}{a b:O.α}{as bs:List O.α} (e:a≠b):JY O (a::as) (b::bs)=O.lt a b:=by
 show (if a=b then JY O as bs else O.lt a b)=_;rw[if_neg e]
def Gw (O:Od) (kc:Value->O.α) (d:O.α):KeyKind where
 α:=O.α
 blt:=O.lt
 irrefl:=O.irr
 trans:=λ_ _ _=>O.trans
 negTrans:=λ_ _ _=>O.neg
 total:=λ_ _=>O.tot
 keyOf:=λv=>some (kc v)
 dflt:=d
section
variable {prog:AS}{w:World}{A:Around}{E:Ax}{s:Shared}
def xb (h:Heap) (d:Bool) (v:Value):Prop:=∃a u us k,v=.ref a/\h.IsTuple a (u::us).toArray/\uk k u/\k.isLeft=d
theorem iH (h2:2<=vs.length) (ht:∀v∈vs,xb s.heap d v) {R:SortKind->Shared->Prop} (q:R (tuples' true) s):wpAny '#' A (keyKind' vs.toArray) R E s:=by
 have fx:∃fv:Value->Value,∀v∈vs,∃k,k.isLeft=d/\uk k (fv v)/\∀R:Option Value->Shared->Prop,R (some (fv v)) s->wpAny '#' A (firstOfTuple' v) R E s:=by
  have one:∀v∈vs,∃x:Value,∃k,k.isLeft=d/\uk k x/\∀R:Option Value->Shared->Prop,R (some x) s->wpAny '#' A (firstOfTuple' v) R E s:=λv hv=>by
   obtain⟨a,u,us,k,rfl,⟨ob,ho,hc,n,Ek⟩,hk,hl⟩:=ht v hv;refine#[u,k,hl,hk,λR hR=>?_];rw[My];refine AT (wpAny_typeOf (T:="tuple") #[ob,ho,hc] ?_);rw[if_neg '$'];exact AT (listItems_at ho Ek (AU hR))
  refine#[λv=>if hv:v∈vs then (one v hv).choose else .none,λv hv=>?_];simp only[dif_pos hv];exact (one v hv).choose_spec
 obtain⟨fv,Fw⟩:=fx;rw[keyKind'_eq,List.mapM_toArray,<-bind_pure_comp];refine AT (AT (V7 (r:=λv=>some (fv v)) (λv hv R hR=>by obtain⟨_,_,_,f⟩:=Fw v hv;exact f R hR) (AU ?_)));rw[if_pos (by simp)];refine AT (wpAny_rule (AT ?_));rw[show (vs.map λv=>some (fv v)).toArray.filterMap id=(vs.map fv).toArray by simp [List.filterMap_map,Function.comp_def]];rw[oneTypeOnly'_eq,List.mapM_toArray,<-bind_pure_comp];refine AT (AT (V7 (r:=λ_=>Value.type (if d then "int" else "str")) (λx hx R hR=>?_) (AU ?_)))
 ·obtain⟨v,hv,rfl⟩:=yi.mp hx;obtain⟨k,e,hk,_⟩:=Fw v hv;rw[<-e] at hR;exact aW hk hR
 ·match vs,h2 with
  | a::b::r,_ =>
   have e0:((List.map fv (a::b::r)).map λ_=>Value.type (if d then "int" else "str")).toArray[0]?=some (Value.type (if d then "int" else "str")):=by simp
   rw[e0];have ea:(((List.map fv (a::b::r)).map λ_=>Value.type (if d then "int" else "str")).toArray.all λx=>x==Value.type (if d then "int" else "str"))=true:=by
    simp only[List.all_toArray,List.all_map,QC];intro _ _;cases d<;>rfl
   show wpAny _ _ (pure (if (((List.map fv (a::b::r)).map λ_=>Value.type (if d then "int" else "str")).toArray.all λx=>x==Value.type (if d then "int" else "str"))=true then some (Value.type (if d then "int" else "str")) else none)) _ _ _;rw[if_pos ea];refine AU (AU ?_);have en:((some (Value.type (if d then "int" else "str"))).any λx=>x != Value.type "tuple")=true:=by cases d<;>rfl
   rw[en];exact q
theorem i7 {u v:Value}{r:Bool}{Q:Az} (h:SeqAt.LtAt A s u v r) (q:Q r s):wpAny '#' A (oneLt' false u v) Q E s:=by
 rw[oneLt'_eq];rw[if_neg yt];exact AT (h prog w E _ (wpAny_truthy_bool q))
def Pe {α:Type} (cs ds:List α):Prop:=∀i (g1:i<cs.length) (g2:i<ds.length),cs[i]=ds[i]
theorem Pe.cons {α:Type}{c d:α}{cs ds:List α} (e:c=d) (h:Pe cs ds):Pe (c::cs) (d::ds):=λi g1 g2=>by
 cases i with
 | zero=>exact e
 | succ i=>exact h i (by simpa using g1) (by simpa using g2)
theorem Pe.tail {α:Type}{c d:α}{cs ds:List α} (h:Pe (c::cs) (d::ds)):Pe cs ds:=λi g1 g2=>by
 have:=h (i+1) (by simpa using g1) (by simpa using g2);simpa using this
theorem de {u v:Value}{p:Prop}{d:Decidable p} (h:p) (x:SeqAt.EqAt A s u v (@decide p d)):SeqAt.EqAt A s u v true:=by rw[decide_eq_true h] at x;exact x
theorem bG {u v:Value}{p:Prop}{d:Decidable p} (h:¬p) (x:SeqAt.EqAt A s u v (@decide p d)):SeqAt.EqAt A s u v false:=by rw[decide_eq_false h] at x;exact x
theorem KG {O:Od} (f:Bool) (hu:A.units+O.deep<cLine):∀{cs ds:List O.α} {ps qs:AH} (k:Nat),0<k->UO O cs ds->Paired (O.R s.heap) ps cs->Paired (O.R s.heap) qs ds->∀{R:Option Bool×Unit->Shared->Prop},(¬Pe cs ds->R (some (JY O cs ds),()) s)->(Pe cs ds->R (none,()) s) ->
  wpAny '#' A (forIn ((ps.zip qs).zipIdx k) ((none,()):Option Bool×Unit) λx _ =>
   match x with
   | ((u,v),i)=>do
    let r <-eqBool u v
    if (!r)=true then do
      let r <-oneLt' (f&&i==0) u v
      pure (ForInStep.done (some r,()))
     else pure (ForInStep.yield (none,()))) R E s
 | [],_,_,_,k,_,_,.nil,_,R,_,h=>by
  rw[List.zip_nil_left];show wpAny _ _ (forIn [] _ _) _ _ _;rw[List.forIn_nil];exact AU (h λi g1=>absurd g1 (QB _))
 | _::_,[],_,_,k,_,_,.cons _ _,.nil,R,_,h=>by
  rw[List.zip_nil_right];show wpAny _ _ (forIn [] _ _) _ _ _;rw[List.forIn_nil];exact AU (h λi g1 g2=>absurd g2 (QB _))
 | c::cs,d::ds,_,_,k,hk,hc,.cons r1 t1,.cons r2 t2,R,h1,h2=>by
  unfold UO at hc;rw[List.zip_cons_cons,List.zipIdx_cons,List.forIn_cons];refine AT (AT (O.eq hu hc.1 r1 r2 prog w _ _ ?_));by_cases e:c=d
  ·rw[decide_eq_true e];refine AU (KG f hu (k+1) (Ql _) (hc.2 e) t1 t2 (λn=>?_) λz=>h2 (Pe.cons e z));have:=h1 λz=>n z.tail;unfold JY at this;rw[if_pos e] at this;exact this
  ·rw[decide_eq_false e];rw[show (k==0)=false from beq_eq_false_iff_ne.mpr (Nat.pos_iff_ne_zero.mp hk),Bool.and_false];refine AT (i7 (O.less hu hc.1 r1 r2) (AU (AU ?_)));have:=h1 λz=>e (z 0 (Ql _) (Ql _));unfold JY at this;rw[if_neg e] at this;exact this
section
variable {O:Od}{hd:∀h u l,¬(uk l u/\∃a,O.R h u a)}
theorem tX (f:Bool) {u v:Value} {cs ds:List (Key ⊕ O.α)} {c d:Key} {cr dr:List (Key ⊕ O.α)} (ec:cs=.inl c::cr) (ed:ds=.inl d::dr) (hu:A.units+O.deep<cLine) (hc:UO (JB O hd) cs ds) (h1:(JX (JB O hd)).R s.heap u cs) (h2:(JX (JB O hd)).R s.heap v ds)
  {Q:Az} (h:Q (JY (JB O hd) cs ds) s):wpAny '#' A (keyLt' (tuples' f) u v) Q E s:=by
 obtain⟨a,ps,rfl,⟨o,ho,_,n,Ek⟩,p1⟩:=h1;obtain⟨b,qs,rfl,⟨o2,Bw,_,n2,IL⟩,p2⟩:=h2;rw[MV];refine AT (listItems_at ho Ek (AT (listItems_at Bw IL ?_)));have l1:=JD p1;have l2:=JD p2;have fin:Pe cs ds->Q (decide (ps.toArray.size<qs.toArray.size)) s:=λz=>by
  rw[kC (O:=JB O hd) z] at h;rw[yg,yg,l1,l2];exact h
 subst ec ed;cases p1 with
 | @cons u0 _ us _ r1 t1=>cases p2 with
  | @cons v0 _ vs _ r2 t2 =>
   have C7:=hc;unfold UO at C7;show wpAny _ _ (forIn (((u0::us).zip (v0::vs)).zipIdx) _ _>>=_) _ _ _;rw[List.zip_cons_cons,List.zipIdx_cons,List.forIn_cons];have qe:=(JB O hd).eq (A:=A) (s:=s) hu C7.1 r1 r2;by_cases e:(Sum.inl c:Key ⊕ O.α)=.inl d
   ·refine AT (AT (AT (de e qe prog w _ _ (AU ?_))));refine (KG (O:=JB O hd) f hu 1 Nat.one_pos (C7.2 e) t1 t2 (λn=>AU ?_) λz=>AU (fin (Pe.cons e z)));rw[sw (O:=JB O hd) e] at h;exact h
   ·refine AT (AT (AT (bG e qe prog w _ _ ?_)));refine AT (aJ _ C7.1 r1 r2 (AU (AU (AU ?_))));rw[sx (O:=JB O hd) e] at h;exact h
end
end
section
variable {prog:AS}{w:World}{A:Around}{E:Ax}{s:Shared}{O:Od}{hd:∀h u l,¬(uk l u/\∃a,O.R h u a)}
theorem qx {M:Od}{kc:Value->M.α}{d:M.α}{y:AG} (pm:y.Perm (pairsOf vs)) (up:Up (Gw M kc d) y.toList) :
  ∃out:List Value,(y.map (·.2))=out.toArray/\out.Perm vs/\out.Pairwise λu v=>M.lt (kc v) (kc u)=false:=by
 have pl:y.toList.Perm (vs.zip vs):=pairsOf_toList vs▸Array.perm_iff_toList_perm.mp pm;have hm:∀p∈y.toList,p.1=p.2:=λp hp=>(mem_zip_self (pl.mem_iff.mp hp)).1;refine#[y.toList.map (·.2),by rw[<-Array.toList_map,QJ],?_,?_]
 ·have:=pl.map Prod.snd;rwa [List.map_snd_zip (yh _)] at this
 ·refine Qx.mpr (up.imp_of_mem λ{p q} hp hq h=>?_);rw[<-hm p hp,<-hm q hq];exact h
structure uc (hd:∀h u l,¬(uk l u/\∃a,O.R h u a)) (h:Heap) (vs:AH) (kc:Value->List (Key ⊕ O.α)) (d:Bool):Prop where
 at_:∀v∈vs,(JX (JB O hd)).R h v (kc v)
 fst:∀v∈vs,∃c r,kc v=.inl c::r/\c.isLeft=d
 cm:∀u∈vs,∀v∈vs,UO (JB O hd) (kc u) (kc v)
theorem uc.keep {h h':Heap}{kc:Value->List (Key ⊕ O.α)} (x:uc hd h vs kc d) (k:∀b o,h.get? b=some o->o.cls=.type "tuple"->h'.get? b=some o):uc hd h' vs kc d :=
 #[λv hv=>(JX (JB O hd)).keep k (x.at_ v hv),x.fst,x.cm]
theorem uc.fsts {h:Heap}{kc:Value->List (Key ⊕ O.α)} (x:uc hd h vs kc d):∀v∈vs,xb h d v:=λv hv=>by
 obtain⟨c,r,e,l⟩:=x.fst v hv;obtain⟨a,us,rfl,t,p⟩:=x.at_ v hv;rw[e] at p;cases p with
 | cons r1 t1=>exact#[a,_,_,c,rfl,t,r1,l]
theorem uc.orc {kc:Value->List (Key ⊕ O.α)} (x:uc hd s.heap vs kc d) (hu:A.units+O.deep<cLine) (f:Bool):zZ prog w A s f (Gw (JX (JB O hd)) kc []) (pairsOf vs):=λE p q Q hp hq h=>by
 have m1:=(VB hp).2;have m2:=(VB hq).2;obtain⟨c,r,e,_⟩:=x.fst _ m1;obtain⟨c',r',e',_⟩:=x.fst _ m2;exact tX (hd:=hd) f e e' hu (x.cm _ m1 _ m2) (x.at_ _ m1) (x.at_ _ m2) h
theorem fI {a:Addr}{n:Nat}{P:Fin->Shared->Prop}{kc:Value->List (Key ⊕ O.α)} (hu:A.units+O.deep<cLine) (ho:s.heap.get? a=some (seqObj "list" vs.toArray n)) (x:uc hd s.heap vs kc d) (hl:vs.length<64)
  (q:∀out:List Value,out.Perm vs->(out.Pairwise λu v=>JY (JB O hd) (kc v) (kc u)=false)->P (.done (.ret .none)) { s with heap:=sortedHeap s.heap a vs out.toArray }):wpAny '#' A (Builtin.«list.sort» #[[.ref a],[]]) P E s:=by
 have hz:=sz64 hl;rw[list_sort_plain];refine AT (listItems_at ho rfl (AT (listUpdate_at ho rfl ?_ (by rw[yg];exact hz))));have g1:=get?_update_seq ho (λ_=>(List.toArray []));refine AT (seqEpoch_at g1 rfl (AT (wpAny_newTuple (AT (wpAny_newList (wpAny_holding ?_))))));have g2:(((s.heap.update a (Obj.mapSeq λ_=>(List.toArray []))).push (seqObj "tuple" vs.toArray 0)).push (seqObj "list" (List.toArray []) 0)).get? a=_:=yd _ (yd _ g1);have FC:uc hd (((s.heap.update a (Obj.mapSeq λ_=>(List.toArray []))).push (seqObj "tuple" vs.toArray 0)).push (seqObj "list" (List.toArray []) 0)) vs kc d:=x.keep λb o e c=>by
  have ne:a≠b:=λz=>by
   rw[z,e] at ho;cases ho;exact absurd (show Value.type "list"=Value.type "tuple" from c) '$'
  exact yd _ (yd _ ((yM _ _ ne).trans e))
 have room:∀y:Array Keyed,y.Perm (pairsOf vs)->(y.map (·.2)).size<=sizeLine+1:=λy hy=>by
  rw[Array.size_map,hy.size_eq,pairsOf_size];omega
 have fin:∀y:SortSt,(arrOf y).Perm (pairsOf vs)->Up (Gw (JX (JB O hd)) kc []) (arrOf y).toList->P (.done (.ret .none)) { s with heap:=sortedHeap s.heap a vs ((arrOf y).map (·.2)) }:=λy pm up=>by
  obtain⟨out,e,p,w⟩:=qx pm up;rw[e];exact q out p w
 rcases Qa vs.length 2 with h2|h2
 ·rw[if_pos (by simpa using h2),if_pos (by simpa using h2)];refine AT (AU ?_);dsimp only;rw[StateT.run_pure];refine AT (AU (AT (seqEpoch_at g2 rfl (AT (listUpdate_at g2 rfl ?_ (hsz2:=room _ (Array.Perm.refl _)))))));simp only[bne_self_eq_false,yO,if_false];refine AU (fin (SortSt.mk' general' (pairsOf vs) (List.toArray []) 7 none) (Array.Perm.refl _) ?_);show Up _ (pairsOf vs).toList;rw[pairsOf_toList];exact nY (by rw[yV,QO];exact h2)
 ·rw[if_neg (by simpa using h2),if_neg (by simpa using h2)];refine AT (iH h2 FC.fsts ?_);refine AT (wpAny_mono (aR (o:=Gw (JX (JB O hd)) kc []) (z:=pairsOf vs) (f:=true) (st:=SortSt.mk' (tuples' true) (vs.toArray.zip vs.toArray) (List.toArray []) 7 none) (Q:=λ_ y=>Gd true (pairsOf vs) y/\Up (Gw (JX (JB O hd)) kc []) (arrOf y).toList) (FC.orc hu true) #[Array.Perm.refl _,rfl,rfl] rfl (by rw[pairsOf_size];exact h2) (by rw[pairsOf_size];exact hl) λy p1 p2=>#[p1,p2]) ?_ λ_ _ e=>e);rintro⟨⟨⟩,y⟩ s2 ⟨rfl,gd,up⟩;refine AT (seqEpoch_at g2 rfl (AT (listUpdate_at g2 rfl ?_ (hsz2:=room _ gd.pm))));rw[gd.fl];simp only[bne_self_eq_false,yO,if_false];exact AU (fin y gd.pm up)
end
def Uk (M:Od) (H:Hp) (bs:AI) (ks:List M.α):Prop:=Paired (λb k=>M.V_ H (.ref b) k) bs ks
theorem Uk.mono {M:Od}{H H':Hp}{bs:AI}{ks:List M.α} (x:Uk M H bs ks) (k:∀p xs,H p=some (.tup xs)->H' p=some (.tup xs)):Uk M H' bs ks:=ug (λ_ _ r=>M.mono k r) x
theorem uG {α β:Type}{F:α->β->Prop}:∀{a b:List α} {c d:List β},Paired F a c->Paired F b d->Paired F (a++b) (c++d)
 | _,_,_,_,.nil,s=>s
 | _,_,_,_,.cons r t,s=>.cons r (uG t s)
theorem Uk.app {M:Od}{H:Hp}{bs B8:AI}{ks By:List M.α} (x:Uk M H bs ks) (y:Uk M H B8 By):Uk M H (bs++B8) (ks++By):=uG x y
open Classical in
noncomputable def Kz (M:Od) (h:Heap) (d:M.α) (v:Value):M.α:=if x:∃k,M.R h v k then x.choose else d
theorem sg {M:Od}{h:Heap}{d:M.α}{v:Value}{k:M.α} (x:M.R h v k):Kz M h d v=k:=by
 have hx:∃k,M.R h v k:=#[k,x];unfold Kz;rw[dif_pos hx];exact M.uniq hx.choose_spec x
structure Fz (P:AS) (w:World) (H:Hp) (a:Addr) (o:Obj) (kvs:List (List Key×V)) (xs:List (List Key×Addr×Value)):Prop where
 e:H a=some (Ua a o)
 hm:(a==sysModules)=false
 kt:KT H kvs xs
 dr:ic P w o xs
 hz:kvs.length<=sizeLine
theorem Fz.len {P:AS}{w:World}{H:Hp}{a:Addr} (F:Fz P w H a o kvs xs):xs.length=kvs.length:=(Paired.length F.kt).symm
theorem oO {H:Hp}:∀{kvs:List (List Key×V)} {xs:List (List Key×Addr×Value)} {i:Nat} {y:List Key×Addr×Value},KT H kvs xs->xs[i]?=some y->∃kv,kvs[i]?=some kv/\H y.2.1=some (.tup (kv.1.map kV))
 | _,_,_,_,.nil,e=>by simp at e
 | _,_,0,_,.cons r _,e=>by simp at e;subst e;exact#[_,rfl,r.2.1]
 | _,_,i+1,y,.cons _ t,e=>by
  obtain⟨kv,h1,h2⟩:=oO (i:=i) t (by simpa using e);exact#[kv,by simpa using h1,h2]
theorem iI {P:AS}{w:World}{H:Hp}{a:Addr} (ha:H a=some (.dT kvs)) (hz:kvs.length<=sizeLine) (hm:(a==sysModules)=false) (kt:KT H kvs xs) (dr:ic P w o xs) :
  Fz P w (upd H a (Ua a o)) a o kvs xs/\(∀b u,b≠a->H b=some u->upd H a (Ua a o) b=some u)/\(∀b,upd H a (Ua a o) b=none->H b=none)/\∀H',Same (upd H a (Ua a o)) H'->Same H (upd H' a (.dT kvs)):=by
 refine#[#[jc,hm,kt.keeps λb ys e=>jq (jX e ha) e,dr,hz],λb u n e=>jq n e,λb e=>?_,λH' s b u e=>?_]
 ·by_cases h:b=a
  ·subst h;rw[jc] at e;cases e
  ·rwa [jw h] at e
 ·by_cases h:b=a
  ·subst h;rw[ha] at e;cases e;exact jc
  ·rw[jw h];exact s b u (jq h e)
theorem iF {P:AS}{w:World}{a:Addr}{g:TG}{tb:TS}{D:vX}{σ:St}{H:Hp} (F:Fz P w H a o kvs xs) (Pv:Nat->St->Hp->Prop) (h0:Pv 0 σ H) (hl:∀i σ H',i<=kvs.length->Pv i σ H'->H' a=some (Ua a o))
  (hs:∀i kv p σ H',kvs[i]?=some kv->H p=some (.tup (kv.1.map kV))->Pv i σ H'->g (.ref p) σ H' λσ2 H2=>tb { D with nx:=Pv (i+1),ct:=Pv (i+1),bk:=D.nx } σ2 H2) (hd:∀σ H',Pv kvs.length σ H'->D.nx σ H') :
  ∃W:Nat->Nat->St->Hp->Prop,(∃m,W 0 m σ H)/\∀i m σ H,W i m σ H ->
   ((cO a o xs).stop i H/\D.nx σ H)\/((cO a o xs).go i H/\∃N:St->Hp->Prop,(∀σ' H',N σ' H'->∃m',m'<m/\W (i+1) m' σ' H')/\∀x H',(cO a o xs).yld i H x H'->g x σ H' λσ2 H2=>tb { D with nx:=N,ct:=N,bk:=D.nx } σ2 H2):=by
 have le:=F.len;refine#[λi m σ H=>m=kvs.length - i/\i<=kvs.length/\Pv i σ H,#[kvs.length,by simp,yT _,h0],?_];rintro i m σ H1 ⟨rfl,hi,p⟩;have q:=hl i σ H1 hi p;by_cases AX:i<kvs.length
 ·refine .inr #[#[q,by omega],Pv (i+1),λσ' H' p'=>#[kvs.length - (i+1),by omega,rfl,AX,p'],λx H' y=>?_];obtain⟨e,z,hz,rfl⟩:=y;subst e;obtain⟨kv,h1,h2⟩:=oO F.kt hz;exact hs i kv _ σ _ h1 h2 p
 ·have e:i=kvs.length:=by omega
  subst e;exact .inl #[#[q,by omega],hd σ H1 p]
section
variable {X:Cx}
def wF (P:AS) (w:World) (t:TS):TS:=λD σ H=>t { D with nx:=λσ' H'=>∃a o kvs xs,Fz P w H' a o kvs xs/\D.nx σ' (upd H' a (.dT kvs)) } σ H
theorem qF {st:Stmt}{t:TS} (h:PS X st t):PS X st (wF X.prog X.w t):=by
 intro pins s σ H D I q;refine jA (h pins s σ H _ I q) λf s1 hh=>?_;cases f with
 | next =>
  obtain⟨σ',H1,I1,a,o,kvs,xs,F,q⟩:=hh;obtain⟨es,ep,h2,h3,h4,h6⟩:=F.dr;have g:=vk I1.hok F.e;have I2:ji X pins σ' (upd H1 a (.dT kvs)) { s1 with heap:=s1.heap,toks:=s1.toks }:=I1.write (x:=a) (e:=a) (h':=s1.heap) (t':=s1.toks) (by rw[F.e];exact True.intro) (.inl rfl) (λb u _ e=>e) #[o,g] #[F.hz,F.hm,xs,Paired.mapP F.kt λx y r=>#[r.1,?_,r.2.2],o,es,ep,g,h2,h3,h4,h6]
  ·exact#[σ',_,I2,q]
  ·rw[jw (jX r.2.1 F.e)];exact r.2.1
 | ret v=>exact hh
 | brk=>exact hh
 | cont=>exact hh
def vV (P:AS) (w:World) (H:Hp) (a:Addr) (y:V) (r:Option V):Prop:=JG H a y r\/∃o kvs xs k b,Fz P w H a o kvs xs/\y=.ref b/\H b=some (.tup (k.map kV))/\r=Jh kvs k
theorem vV.z {P:AS}{w:World}{H:Hp}{a b:Addr}{k:List Key} (F:Fz P w H a o kvs xs) (eb:H b=some (.tup (k.map kV))):vV P w H a (.ref b) (Jh kvs k):=.inr #[o,kvs,xs,k,b,F,rfl,eb,rfl]
theorem vV.t {P:AS}{w:World}{H:Hp}{a b:Addr}{k:List Key} (e:H a=some (.dT kvs)) (eb:H b=some (.tup (k.map kV))):vV P w H a (.ref b) (Jh kvs k):=.inl (JG.t e eb)
theorem oJ {P:AS}{w:World}{H:Hp}{h:Heap}{a:Addr} (ok:Js P w H h) (F:Fz P w H a o kvs xs):h.DictOfH (tupleKind (jr P w)) a xs:=by
 obtain⟨es,ep,h2,h3,h4,h6⟩:=F.dr;refine#[o,es,ep,vk ok F.e,h2,h3,h4,λx hx=>?_,h6];have all:∀{l:List (List Key×V)} {m:List (List Key×Addr×Value)},KT H l m->∀x∈m,(tupleKind (jr P w)).is h x.1 x.2.1:=by
  intro l m q
  induction q with
  | nil=>intro x hx;exact nomatch hx
  | @cons p q ps qs hq t ih =>
   intro x hx;rcases yr.mp hx with e|hx
   ·subst e;exact V5 ok (by rw[<-hq.1];exact hq.2.1)
   ·exact ih x hx
 exact all F.kt x hx
variable {pins:AF}{σ:St}{H:Hp}{s:Shared}{a:Addr}{y v:V}{u r:Value}{o:Option V}{A:Around}{E:Ax}
theorem hV {Q:Ax} (hu:A.units+1<cLine) (I:ji X pins σ H s) (g:vV X.prog X.w H a y (some v)) (ry:jE y u) (h:∀w' s',ji X pins σ H s'->jE v w'->Q w' s') :
  wpAny (model X.prog X.w) A (getItem (.ref a) u) Q E s:=by
 rcases g with g|⟨o,kvs,xs,k,b,F,ey,eb,l⟩
 ·exact Zf hu I g ry h
 ·subst ey;cases (show u=Value.ref b from ry);have dd:=oJ I.hok F;obtain⟨w',hw,Br⟩:=Uq.some_of (v:=v) (o:=(atKey xs k).map (·.2)) (by rw[l];exact F.kt.val k);obtain⟨p,hp,Cm⟩:=yz.mp hw;refine wpAny_getItem_heap (tupleKind_room_in1 hu) (V5 I.hok eb) dd hp ?_;rw[Cm];exact h w' _ (I.tok _) Br
theorem oo (I:ji X pins σ H s) (g:vV X.prog X.w H a y o):s.TypeIs (.ref a) "dict":=by
 rcases g with g|⟨ob,kvs,xs,k,b,F,_⟩
 ·exact VP I g
 ·exact (oJ I.hok F).typeIs
end
def w5 (P:AS) (w:World) (td ty:TE):TE:=λσ H Q=>td σ H λx H1=>ty σ H1 λy H2=>∃a v,x=.ref a/\vV P w H2 a y (some v)/\Q v H2
section
variable {X:Cx}{o i e value:Expr}{pos pos' Bn:Pos}{td ty tv:TE}
theorem gI (ho:PE X o td) (hi:PE X i ty) (hu:X.A.units+1<cLine:=by exact mJ hr) (hs:bh i:=by exact λ_ _=>rfl):PE X (.Subscript o i pos) (w5 X.prog X.w td ty):=by
 intro pins s σ H Q I h;refine kU PySem.F.slot_dict_getitem.lookup hs (jA (ho pins s σ H _ I h) λu s1 #[x,H1,I1,rx,q1]=>jA (hi pins s1 σ H1 _ I1 q1) λiv s2 hh=>?_);obtain⟨y,H2,I2,ry,a,v,ex,g,q2⟩:=hh;subst ex;obtain rfl:u=Value.ref a:=rx;exact#[oo I2 g,hV hu I2 g ry λw' s3 I3 Br=>#[v,H2,I3,Br,q2]]
end
end L2
namespace L2
open PySem PySem.Spec PyProof.Rows
section
variable {P:AS}{w:World}{K:AB}{mg:AE}{base:Heap}{N ps:AM}{name qual:Str}{params:Arguments}{body:List Stmt}{scope:Scope}{cl:AJ}{RJ:List V}{f c:Addr}{k:Nat}
 {A:Around} {outer:List Env} {s:Shared} {H:Hp} {us:AH} {vs:List V} {Q:VK} {E:XK}
end
end L2
namespace L2
open PySem PyProof.Rows TS
section
variable {X:Cx}{k:Nat}{x:Str}{p pos:Pos}{e:Expr}{es:AO}{ta:TE}{t:TA}{E:XK}
def rB (P:AS) (w:World) (K:AB) (mg:AE) (base:Heap) (k:Nat) (f:Addr) (sp:Sp):Prop:=∃fd ps,UD P w K mg base (XC P w) k f fd ps sp/\UK K fd ps []/\keepIn K (.ref f)=true
def tN (P:AS) (w:World) (K:AB) (mg:AE) (base:Heap) (k:Nat) (E:XK) (ta:TE) (t:TA):TE:=λσ H Q=>ta σ H λx H1=>∃f sp,x=.ref f/\rB P w K mg base k f sp/\t σ H1 λvs H2=>sp vs H2 Q E
theorem i9 {P:AS}{w:World}{K:AB}{mg:AE}{base:Heap} (e1:X.prog=P) (e2:X.w=w) (e3:X.K=K) (e4:X.mg=mg) (e5:X.base=base) (hf:PE X (.Name x p) ta) (hr:zo k X.A) (hx:Ub (XC X.prog X.w) X E) (ha:PA X (e::es) t)
  (he:starEach (e::es) X.env=(false,eval e X.env)::starEach es X.env:=by rfl) (Ba:(backTo pos (starEach es X.env)).any (·.1)=false:=by rfl) :
  PE X (.Call (.Name x p) (e::es) [] pos) (tN P w K mg base k E ta t):=by
 subst e1 e2 e3 e4 e5;intro pins s σ H Q I h;refine wpAny_Call_Name_kw (jA (hf pins s σ H _ I h) λu s1 hh=>?_);obtain⟨v,H1,I1,rv,f,sp,ev,⟨fd,ps,F,b,kp⟩,q⟩:=hh;subst ev;obtain rfl:u=Value.ref f:=rv;refine callWith_K (first:=[]) (h₀:=X.base) I1.ok.mod.kin kp (jA (ha pos pins s1 σ H1 _ I1 q) λus s2 #[vs,H2,I2,r,q2]=>#[I2.kIn,?_]) he Ba;exact GQ F hr b .nil hx I2 r (by rw[QM];exact q2)
end
end L2
namespace L2
open PySem PySem.Spec PyProof.Rows TS STb
variable {A:Around}
def bm (H:Hp) (p:Addr) (x:Str×List (List Key)):Prop:=∃(l:Addr) (us:AI),H p=some (.tup [.str x.1,.ref l])/\H l=some (.lst (us.map V.ref))/\KeyAt H us x.2
def Mc (H:Hp) (ps:AI) (xs:List (Str×List (List Key))):Prop:=ps.length=xs.length/\∀(i:Nat) p x,ps[i]?=some p->xs[i]?=some x->bm H p x
section
variable {X:Cx}{pins:AF}{s:Shared}{σ:St}{H:Hp}
theorem Gi (I:ji X pins σ H s) (hu:A.units+8<cLine) {a b:Addr} {ps qs:AI} {ks js:List (List Key)} (ha:H a=some (.lst (ps.map V.ref))) (hb:H b=some (.lst (qs.map V.ref))) (T1:KeyAt H ps ks) (T2:KeyAt H qs js):SeqAt.EqAt A s (.ref a) (.ref b) (decide (ks=js)):=by
 by_cases Bu:a=b
 ·subst Bu;rw[ha] at hb;have e:ps=qs:=(Qt (f:=V.ref) λx y h=>V.ref.inj h).mp (HO.lst.inj (Option.some.inj hb));subst e;have:ks=js:=yX (by rw[<-T1.1,<-T2.1]) λi h1 h2=>by
   have g:i<ps.length:=by rw[T1.1];exact h1
   have e1:=T1.2 i _ _ (yb g) (yb h1);have e2:=T2.2 i _ _ (yb g) (yb h2);rw[e1] at e2;exact (Qt (f:=kV) λx y h=>Zm h).mp (HO.tup.inj (Option.some.inj e2))
  rw[decide_eq_true this];exact SeqAt.EqAt.same _
 ·obtain⟨AV,r1,p1,_⟩:=I.list (jg.of ha);obtain⟨A0,r2,p2,_⟩:=I.list (jg.of hb);have FH:A.units<cLine:=by omega
  have Em:A.in1.units<cLine:=by show A.units+1<cLine;omega
  have l1:=r1.length;have l2:=r2.length;rw[ya] at l1 l2;have t1:=T1.1;have t2:=T2.1;by_cases hz:AV.toArray.size=A0.toArray.size
  ·have e:(List.range AV.toArray.size).all (λn=>decide (ks.getD n []=js.getD n []))=decide (ks=js):=by
    rw[yg] at hz ⊢;rw[yg] at hz;rw[<-Vc [] ks js,show min ks.length js.length=AV.length by omega,show (ks.length==js.length)=true by rw[beq_iff_eq];omega,Bool.and_true]
   rw[<-e];refine SeqAt.EqAt.of_refs Bu (SeqAt.RcAt.lists p1.isList p2.isList hz FH λn h1 h2=>?_);have e1:=uT r1;have e2:=uT r2;subst e1 e2;rw[yg,ya] at h1 h2;have g1:n<ks.length:=by omega
   have g2:n<js.length:=by omega
   rw[yS,yS,yR,yR,yl,yl,yb g1,yb g2];exact Kn I Em (T1.2 n _ _ (yb h1) (yb g1)) (T2.2 n _ _ (yb h2) (yb g2))
  ·have Bk:ks≠js:=λe=>by
    rw[yg,yg] at hz;rw[e] at t1;omega
   rw[decide_eq_false Bk];exact SeqAt.EqAt.of_refs Bu (SeqAt.RcAt.lists_lengths p1.isList p2.isList (bne_iff_ne.mpr hz) FH)
theorem iz (I:ji X pins σ H s) (hu:A.units+16<cLine) {p q:Addr} {x y:Str×List (List Key)} (h1:bm H p x) (h2:bm H q y):SeqAt.EqAt A s (.ref p) (.ref q) (decide (x=y)):=by
 obtain⟨l,us,e1,e2,T1⟩:=h1;obtain⟨m,vs,g1,g2,T2⟩:=h2;have Em:A.in1.units+8<cLine:=by show A.units+1+8<cLine;omega
 by_cases Bu:p=q
 ·subst Bu;have:x=y:=by
   rw[e1] at g1;injection g1 with g1
   injection g1 with g1
   injection g1 with z1 g1
   injection g1 with z2 _
   injection z2 with z2
   subst z2;rw[e2] at g2;have e:us=vs:=(Qt (f:=V.ref) λx y h=>V.ref.inj h).mp (HO.lst.inj (Option.some.inj g2));subst e;refine Prod.ext (V.str.inj z1) (yX (by rw[<-T1.1,<-T2.1]) λi h1 h2=>?_);have g:i<us.length:=by rw[T1.1];exact h1
   have e1:=T1.2 i _ _ (yb g) (yb h1);have e2:=T2.2 i _ _ (yb g) (yb h2);rw[e1] at e2;exact (Qt (f:=kV) λx y h=>Zm h).mp (HO.tup.inj (Option.some.inj e2))
  rw[decide_eq_true this];exact SeqAt.EqAt.same _
 ·obtain⟨AV,r1,p1,_⟩:=I.tuple (jB.of e1);obtain⟨A0,r2,p2,_⟩:=I.tuple (jB.of g1);cases r1 with
  | cons a1 r1=>cases r1 with
   | cons a2 r1 =>
    cases r1;cases r2 with
    | cons b1 r2=>cases r2 with
     | cons b2 r2 =>
      cases r2;obtain⟨t1,rfl⟩:=a1;obtain⟨t2,rfl⟩:=b1;cases a2;cases b2;have ev:decide (x=y)=((List.range (min 2 2)).all (λn=>match n with|0=>(x.1==y.1)|_=>decide (x.2=y.2))&&(2==2)):=by
       show decide (x=y)=(((x.1==y.1)&&(decide (x.2=y.2)&&true))&&true);rw[Bool.and_true,Bool.and_true];refine Qf.mpr ?_;rw[decide_eq_true_eq,QP,beq_iff_eq,decide_eq_true_eq];exact#[λe=>by rw[e];exact#[rfl,rfl],λe=>Prod.ext e.1 e.2]
      rw[ev];refine SeqAt.EqAt.of_refs Bu (SeqAt.RcAt.tuples p1 p2 '!' λn h1 h2=>?_)
      match n,h1,h2 with
      | 0,_,_=>exact SeqAt.EqAt.str_str x.1 t1 y.1 t2
      | 1,_,_=>exact Gi I Em e2 g2 T1 T2
      | n+2,h,_=>exact absurd h (by show ¬n+2<2;omega)
end
end L2
namespace L2
open PySem PySem.Spec PyProof.Rows TS
theorem az {P:AS}{w:World}{k:Key}{u:Value} (h:(jr P w).is k u=true):jE (kV k) u:=by
 rcases Jl h with ⟨i,t,rfl,rfl⟩|⟨x,t,rfl,rfl⟩
 ·exact#[t,rfl]
 ·exact#[t,rfl]
end L2
namespace L2
open PySem PySem.Spec PyProof.Rows
variable {X:Cx}
def mS (X:Cx):List (Str×Addr)->Prop
 | []=>True
 | y::r=>(X.env.cells.lookup y.1=some y.2/\X.env.kindOf y.1=some .cell)/\mS X r
theorem mS.of:∀{cl:AJ},mS X cl->∀{x:Str} {c:Addr},cl.lookup x=some c->X.env.cells.lookup x=some c/\X.env.kindOf x=some .cell
 | (n,a)::r,h,x,c,e=>by
  rw[List.lookup_cons] at e
  split at e
  ·rename_i q;obtain rfl:x=n:=by simpa using q
   cases e;exact h.1
  ·exact mS.of h.2 e
theorem uO {N0:AM}{scope:Scope}{cl:AJ} (hk:scope.kind=.function:=by rfl) (En:closureFor scope X.env=pure cl:=by rfl)
  (hs:mS X cl:=by first|exact trivial|exact#[#[rfl,rfl],trivial]|exact#[#[rfl,rfl],#[rfl,rfl],trivial]|exact#[#[rfl,rfl],#[rfl,rfl],#[rfl,rfl],trivial]|exact#[#[rfl,rfl],#[rfl,rfl],#[rfl,rfl],#[rfl,rfl],trivial])
  (h1:(scope.names.all λy=>y.2 != .cell&&(y.2 != .free||(cl.lookup y.1).isSome)&&(y.2 != .local||scope.names.lookup y.1==some .local))=true:=by kernel_rfl)
  (hl:N0.length=X.N.length:=by rfl) (h3:((N0.zip X.N).all λy=>(y.1==y.2&&scope.names.lookup y.1 != some .local)||scope.names.lookup y.1==none)=true:=by kernel_rfl):uV X N0 scope cl:=by
 have H:∀y∈scope.names,(y.2≠.cell/\(y.2=.free->(cl.lookup y.1).isSome=true))/\(y.2=.local->scope.names.lookup y.1=some .local):=λy hy=>by
  have:=QC.mp h1 y hy;simp only[QP,Bool.or_eq_true,bne_iff_ne,ne_eq,beq_iff_eq] at this;exact#[#[this.1.1,λe=>this.1.2.resolve_left λn=>n e],λe=>this.2.resolve_left λn=>n e]
 have F:∀x,scope.names.lookup x=some .free->∃c,cl.lookup x=some c:=λx e=>Option.isSome_iff_exists.mp ((H _ (Gx e)).1.2 rfl);refine#[En,hk,λy hy=>(H y hy).1.1,λy hy=>(H y hy).2,λx c e=>(hs.of e).1,F,λx e=>.inl (hs.of (F x e).choose_spec).2,hl,λi x e=>?_];have hi:i<X.N.length:=by rw[<-hl];exact (yc.mp e).1
 have:=QC.mp h3 (x,X.N[i]) (yk (Qj.mpr #[e,yb hi]));simp only[Bool.or_eq_true,QP,beq_iff_eq,bne_iff_ne] at this;rcases this with ⟨q1,q2⟩|q
 ·exact .inl #[by rw[yb hi,<-q1],q2]
 ·exact .inr q
section
variable {X:Cx}{scope:Scope}{cl:AJ}{tg iter elt:Expr}{ifs:AO}{own:AM}{wi:TI}{g:TG}{tc:TT}{te:TE}{pos:Pos}
theorem Jg (S:uV X X.N scope cl) (hi:PI X tg iter wi)
  (hg:∀C s H fp pins,PG (X.blk scope cl C own s H fp pins) tg g) (ht:∀C s H fp pins,PF (X.blk scope cl C own s H fp pins) ifs tc) (he:∀C s H fp pins,PE (X.blk scope cl C own s H fp pins) elt te)
  (hs:∀x,foldedSetIterable iter X.env x=pure x:=by intro _;rfl):PE X (.ListComp elt [#[tg,iter,ifs,0]] scope pos) (ZU wi own.length g tc te):=zH S hi hg ht he hs
theorem qE (i:Nat) {x:Str} {pos' CG:Pos} (S:uV X X.N scope cl) (hi:PI X tg iter wi)
  (hg:∀C s H fp pins,PG (X.blk scope cl C own s H fp pins) tg g) (ht:∀C s H fp pins,PF (X.blk scope cl C own s H fp pins) ifs tc) (he:∀C s H fp pins,PE (X.blk scope cl C own s H fp pins) elt te)
  (hN:X.N.Nodup:=by exact mN (by kernel_rfl)) (IC:X.N[i]?=some x:=by rfl) (hx:N8 X.env.scope x:=by first|exact .inl rfl|exact .inr rfl) (hs:∀x,foldedSetIterable iter X.env x=pure x:=by intro _;rfl)
  (ID:swapsWith (.ListComp elt [#[tg,iter,ifs,0]] scope pos) (some (.Name x pos')) CG.line X.env=pure true:=by rfl) (hf:X.fn x=true\/X.env.scope.names.lookup x=some .local:=by first|exact .inl rfl|exact .inr rfl|assumption) :
  PS X (.Assign [.Name x pos'] (.ListComp elt [#[tg,iter,ifs,0]] scope pos) CG) (cC (ZU wi own.length g tc te) (ZM i)):=Uh i S hi hg ht he hN IC hx hs ID hf
end
structure Df (K:AB) (x q:Str) (st:Stmt) (f:Addr) (ps:AM) (ds:AH):Prop where
 ex:∃fd,gh K x q st f fd/\UK K fd ps ds
structure TF (K:AB) (mg:AE) (x:Str) (st:Stmt) (f:Addr) (ps:AM):Prop where
 g:mg x=some (.ref f)
 d:Df K x x st f ps []
structure TM (K:AB) (C:Addr) (m q:Str) (st:Stmt) (f:Addr) (ps:AM) (ds:AH):Prop where
 at_:Ma K C m f
 d:Df K m q st f ps ds
structure TN (K:AB) (C:Addr) (q:Str) (st:Stmt) (f:Addr) (ps:AM):Prop where
 m:Mk K C f
 d:Df K "__init__" q st f ps []
section
variable {P:AS}{w:World}{K:AB}{mg:AE}{base:Heap}{x m q:Str}{st:Stmt}{f C:Addr}{fd:FuncData}{N ps:AM}{ds:AH}{k:Nat}{sp:Sp}{c:Bool}
abbrev oq (P:AS) (w:World) (K:AB) (mg:AE) (base:Heap) (N ps:AM) (q:Str) (st:Stmt) (f:Addr) (k:Nat) (sp:Sp) (c:Bool):Prop :=
 ∀(vs:List V) (H:Hp) (Q:VK) (E:XK),sp vs H Q E->vs.length=ps.length/\∀(AZ:Value) (A:Around) (outer:List Env) (s:Shared),Jx c k (A.deeper (envOfC q (JO st) s.heap.objs.size f AZ)) ->
  ∃t,z8 (Mi P w K mg base N q (JO st) f AZ A outer s H E c) (vh st) t/\t { nx:=λ_ H'=>Q .non H',rt:=Q } (start N vs) H
theorem gh.okY (F:gh K x q st f fd) (h:oq P w K mg base N ps q st f k sp c) (S:UV N ps (JO st):=by exact#[rfl,rfl,rfl,by decide +kernel,rfl,by decide +kernel,by decide +kernel]):UD P w K mg base (XC P w) (k+1) f fd ps sp c :=
 F.okX S (λvs H Q E y=>(h vs H Q E y).1) λAZ A outer s H vs Q E hr y=>(h vs H Q E y).2 AZ A outer s hr
theorem TF.ok (T:TF K mg x st f ps) (N:AM) (h:oq P w K mg base N ps x st f k sp c) (S:UV N ps (JO st):=by exact#[rfl,rfl,rfl,by decide +kernel,rfl,by decide +kernel,by decide +kernel]):j0 P w K mg base (k+1) x ps sp c :=
 let ⟨fd,F,b⟩:=T.d.ex;#[_,fd,F.okY h S,b,F.kp,T.g]
theorem TM.ok (T:TM K C m q st f ps []) (c:Vs K C) (N:AM) (h:oq P w K mg base N ps q st f k sp true) (S:UV N ps (JO st):=by exact#[rfl,rfl,rfl,by decide +kernel,rfl,by decide +kernel,by decide +kernel]):zl P w K mg base (k+1) C m ps sp :=
 let ⟨fd,F,b⟩:=T.d.ex;#[c,_,fd,T.at_,F.okY h S,b]
theorem TN.ok (T:TN K C q st f ps) (g:mg x=some (.ref C)) (N:AM) (h:oq P w K mg base N ps q st f k sp true) (S:UV N ps (JO st):=by exact#[rfl,rfl,rfl,by decide +kernel,rfl,by decide +kernel,by decide +kernel]):mE P w K mg base (k+1) x C ps sp :=
 let ⟨fd,F,b⟩:=T.d.ex;#[_,fd,T.m,F.okY h S,b,g]
end
end L2
namespace PySem
variable {v:Value}{vs:AH}{Q:Az}{b:Addr}
section
variable {prog:AS}{w:World}{K K':Type} [DecidableEq K] [DecidableEq K']
structure uW (prog:AS) (w:World) (K:Type) [DecidableEq K] where
 kd:HeapKind prog w K
 deep:Nat
 roomOk:∀{A:Around},A.units+deep<cLine->kd.room A
 nq:Nat
 quietN:∀{A:Around} {E:Ax} {s:Shared} {k:K} {a:Addr} {Q:Az} (n:Nat),nq<=n->kd.is s.heap k a->Q true s->wpAny '#' A (eqIsQuiet n (.ref a)) Q E s
 keepsO:∀{h h':Heap} {k:K} {a:Addr},kd.is h k a->(∀b o xs n,h.get? b=some o->o.cls=.type "tuple"->o.data=.seq xs n->h'.get? b=some o)->kd.is h' k a
 tok:∀{h:Heap} {k:K} {a:Addr},kd.is h k a->∃o,h.get? a=some o/\o.cls=.type "tuple"
variable (knd:KeyKind prog w K) (hk:uW prog w K')
def UH (h:Heap):K ⊕ K'->Value->Prop
 | .inl k,v=>knd.is k v=true
 | .inr k,v=>∃b,v=.ref b/\hk.kd.is h k b
inductive JA (h:Heap):List (K ⊕ K')->List Value->Prop
 | nil:JA h [] []
 | cons {k:K ⊕ K'} {v:Value} {ks:List (K ⊕ K')} {vs:AH}:UH knd hk h k v->JA h ks vs->JA h (k::ks) (v::vs)
def JU (h:Heap) (ks:List (K ⊕ K')) (a:Addr):Prop:=∃o items n,h.get? a=some o/\o.cls=.type "tuple"/\o.data=.seq items n/\JA knd hk h ks items.toList
variable {knd hk}
theorem UH.inj {h:Heap}{x y:K ⊕ K'} (hx:UH knd hk h x v) (hy:UH knd hk h y v):x=y:=by
 cases x with
 | inl x=>cases y with
  | inl y=>rw[knd.inj _ _ _ hx hy]
  | inr y =>
   obtain⟨b,rfl,_⟩:=hy;have:=knd.byValue _ _ hx;simp [carriedByValue] at this
 | inr x =>
  obtain⟨b,rfl,hx⟩:=hx;cases y with
  | inl y =>
   have:=knd.byValue _ _ hy;simp [carriedByValue] at this
  | inr y =>
   obtain⟨b',e,hy⟩:=hy;injection e with e
   subst e;rw[hk.kd.inj hx hy]
theorem JA.inj {h:Heap}{x y:List (K ⊕ K')} (hx:JA knd hk h x vs) (hy:JA knd hk h y vs):x=y:=by
 induction hx generalizing y with
 | nil=>cases hy;rfl
 | cons h1 _ ih=>cases hy with
  | cons h2 t2=>rw[h1.inj h2,ih t2]
theorem JU.typeIs {s:Shared}{ks:List (K ⊕ K')}{a:Addr} (x:JU knd hk s.heap ks a):s.TypeIs (.ref a) "tuple":=let ⟨o,_,_,ho,hc,_⟩:=x;#[o,ho,hc]
theorem JU.inj {h:Heap}{a:Addr}{x y:List (K ⊕ K')} (hx:JU knd hk h x a) (hy:JU knd hk h y a):x=y:=by
 obtain⟨o,items,n,ho,_,hd,hi⟩:=hx;obtain⟨o',items',n',BJ,_,Ct,B9⟩:=hy;obtain rfl:o=o':=Option.some.inj (ho.symm.trans BJ);rw[hd] at Ct;injection Ct with h1 _
 subst h1;exact hi.inj B9
theorem JA.keepsO {h h':Heap}{ks:List (K ⊕ K')} (x:JA knd hk h ks vs) (k:∀b o xs n,h.get? b=some o->o.cls=.type "tuple"->o.data=.seq xs n->h'.get? b=some o):JA knd hk h' ks vs:=by
 induction x with
 | nil=>exact .nil
 | @cons k v ks vs h1 _ ih =>
  refine .cons ?_ ih;cases k with
  | inl k=>exact h1
  | inr k=>obtain⟨b,e,h2⟩:=h1;exact#[b,e,hk.keepsO h2 ‹_›]
theorem JU.keepsO {h h':Heap}{ks:List (K ⊕ K')}{a:Addr} (x:JU knd hk h ks a) (k:∀b o xs n,h.get? b=some o->o.cls=.type "tuple"->o.data=.seq xs n->h'.get? b=some o):JU knd hk h' ks a :=
 let ⟨o,items,n,ho,hc,hd,hi⟩:=x;#[o,items,n,k _ _ _ _ ho hc hd,hc,hd,hi.keepsO k]
def UP (knd:KeyKind prog w K) (hk:uW prog w K'):K ⊕ K'->Int
 | .inl k=>knd.hash k
 | .inr k=>hk.kd.hash k
def Vw (hk:uW prog w K'):K ⊕ K'->Nat
 | .inl _=>1
 | .inr k=>hk.kd.draws k
def gE (knd:KeyKind prog w K) (hk:uW prog w K') (ks:List (K ⊕ K')):Int:=reduceHash (Builtin.Tuple.tupleHashOf (ks.map (UP knd hk)))
def Zr (hk:uW prog w K') (ks:List (K ⊕ K')):Nat:=(ks.map (Vw hk)).sum+1
variable {A:Around}{E:Ax}{s:Shared}
theorem cY {k:K ⊕ K'}{Q:Int->Shared->Prop} (hu:A.units+hk.deep<cLine) (h:UH knd hk s.heap k v) (q:Q (UP knd hk k) { s with toks:=s.toks+Vw hk k }):wpAny '#' A (pyHash v) Q E s:=by
 cases k with
 | inl k=>exact knd.pyHash h q
 | inr k=>obtain⟨b,rfl,h⟩:=h;exact hk.kd.pyHash (hk.roomOk hu) h q
theorem pU {x y:K ⊕ K'}{u:Value} (hu:A.units+hk.deep<cLine) (hx:UH knd hk s.heap x u) (hy:UH knd hk s.heap y v) (same:x.isRight=y.isRight) (q:Q (decide (x=y)) s):wpAny '#' A (eqBool u v) Q E s:=by
 cases x with
 | inl x=>cases y with
  | inl y =>
   have e:decide ((Sum.inl x:K ⊕ K')=Sum.inl y)=decide (x=y):=by simp
   rw[e] at q;exact knd.eqBool (a:=x) (b:=y) hx hy q
  | inr y=>cases same
 | inr x =>
  obtain⟨a,rfl,hx⟩:=hx;cases y with
  | inl y=>cases same
  | inr y =>
   obtain⟨b,rfl,hy⟩:=hy;have e:decide ((Sum.inr x:K ⊕ K')=Sum.inr y)=decide (x=y):=by simp
   rw[e] at q;exact hk.kd.eqBool (hk.roomOk hu) hx hy q
theorem d8 {ks:List (K ⊕ K')}{a:Addr}{Q:Int->Shared->Prop} (hu:A.units+(hk.deep+1)<cLine) (Cg:JU knd hk s.heap ks a) (h:Q (gE knd hk ks) { s with toks:=s.toks+Zr hk ks }) :
  wpAny '#' A (pyHash (.ref a)) Q E s:=by
 have hT:=Cg.typeIs;obtain⟨o,items,n,ho,_,hd,hi⟩:=Cg;unfold pyHash
 first|unfold pyHashByItsType|skip
 first|refine AT (wpAny_cRoomFor_or (.inr '!') ?_)|skip
 refine AT (wpAny_specialOf hT F.slot_tuple_hash.lookup ?_);show wpAny _ _ (if (some (Value.builtin "tuple.__hash__")==some Value.none)=true then _ else _) Q E s;rw[if_neg (by rw[beq_builtin_none];exact yt)];refine AT (wpAny_specialOf hT F.slot_tuple_hash.lookup ?_);show wpAny _ _ (callSpecialIfBoundUnlessNone? (.ref a) "__hash__" _>>=_) Q E s;refine AT (wpAny_callSpecialIfBoundUnlessNone?_slot hT F.slot_tuple_hash (wpAny_call_entry F.slot_tuple_hash hT F.entry_tuple_hash ?_ (F.args_tuple_hash_1 _)));show wpAny _ _ (Builtin.Tuple.tupleItemsOf (.ref a)>>=_) _ _ s;refine AT (wpAny_tupleItemsOf ho hd ?_);refine AT ?_;rw[<-QS];refine wpAny_forIn_list _
  (λrest (b:Array Int) s'=>∃done left,ks=done++left/\JA knd hk s.heap left rest/\b.toList=done.map (UP knd hk)/\s'={ s with toks:=s.toks+(done.map (Vw hk)).sum })
  _ ?_ ?_ _ _ #[[],ks,rfl,hi,rfl,rfl]
 ·rintro x rest b s' ⟨done,left,rfl,hl,hb,rfl⟩;cases hl with
  | @cons k _ By _ h1 BC =>
   refine AT (cY (knd:=knd) (hk:=hk) (s:={ s with toks:=s.toks+(done.map (Vw hk)).sum }) ?_ h1 ?_)
   ·show A.units+1+hk.deep<cLine;omega
   first
    | exact AU ⟨done++[k],By,by simp,BC,by simp [hb],by simp [Nat.add_assoc]⟩
    | exact AT (AU (AU ⟨done++[k],By,by simp,BC,by simp [hb],by simp [Nat.add_assoc]⟩))
 ·rintro b s' ⟨done,left,rfl,hl,hb,rfl⟩;cases hl;rw[QM] at h;show wpAny _ _ (retInt (Builtin.Tuple.tupleHashOf b.toList)) _ _ _;rw[hb];refine wpAny_ret_mkInt ?_;show wpAny _ _ (if (decide (-(2:Int)^63<=Builtin.Tuple.tupleHashOf (done.map (UP knd hk)))&&decide (Builtin.Tuple.tupleHashOf (done.map (UP knd hk))<2^63))=true then _ else _) Q E _;unfold gE Zr reduceHash at h;by_cases hr:(decide (-(2:Int)^63<=Builtin.Tuple.tupleHashOf (done.map (UP knd hk)))&&decide (Builtin.Tuple.tupleHashOf (done.map (UP knd hk))<2^63))=true
  ·rw[if_pos hr];rw[if_pos hr] at h;exact AU (by simpa [Nat.add_assoc] using h)
  ·rw[if_neg hr];rw[if_neg hr] at h;exact AT (wpAny_rule (AU (by simpa [Nat.add_assoc] using h)))
theorem M6 {x y:List (K ⊕ K')}{a:Addr}{P:Fin->Shared->Prop} (hu:A.units+hk.deep<cLine) (hx:JU knd hk s.heap x a) (hy:JU knd hk s.heap y b) (RK:∀p∈x.zip y,p.1.isRight=p.2.isRight) (h:P (.done (.ret (.bool (decide (x=y))))) s) :
  wpAny '#' A (Builtin.«tuple.__eq__» #[[.ref a,.ref b],[]]) P E s:=by
 have RL:=hy.typeIs;obtain⟨oa,xs,na,RM,_,Ek,RN⟩:=hx;obtain⟨ob,ys,nb,RO,_,Cc,RP⟩:=hy;show wpAny _ _ (isInstance (.ref b) (.type "tuple")>>=_) _ _ s;refine AT (wpAny_isInstance RL isSubtype_tuple_tuple ?_);simp only[Qr,yO,if_false];refine AT (wpAny_tupleItemsOf RM Ek ?_);refine AT (wpAny_tupleItemsOf RO Cc ?_);refine AT ?_;refine wpAny_forIn_list _
  (λrest r s'=>r.1=none/\s'=s/\∃x' y' BN EN,rest=List.zip BN EN/\JA knd hk s.heap x' BN/\JA knd hk s.heap y' EN/\(∀p∈x'.zip y',p.1.isRight=p.2.isRight)/\decide (x'=y')=decide (x=y)/\(BN.length==EN.length)=(xs.size==ys.size))
  _ ?_ ?_ _ _ #[rfl,rfl,x,y,xs.toList,ys.toList,rfl,RN,RP,RK,rfl,by simp]
 ·rintro⟨u,v⟩ rest r s' ⟨hr,rfl,x',y',BN,EN,hz,B7,DO,DP,Dy,hlen⟩;cases B7 with
  | nil=>simp at hz
  | @cons k1 u' x'' xs'' h1 hx'' =>
   cases DO with
   | nil=>simp at hz
   | @cons k2 v' y'' ys'' h2 hy'' =>
    simp only[List.zip_cons_cons,List.cons.injEq,Prod.mk.injEq] at hz;obtain⟨⟨rfl,rfl⟩,rfl⟩:=hz;rw[List.zip_cons_cons] at DP;refine AT (pU (knd:=knd) (hk:=hk) hu h1 h2 (DP (k1,k2) (yw ..)) ?_);by_cases hk:k1=k2
    ·subst hk;rw[decide_eq_true rfl];simp only[Qr,yO,if_false];refine AU #[rfl,rfl,x'',y'',xs'',ys'',rfl,hx'',hy'',λp hp=>DP p (yn _ hp),?_,by simpa using hlen];rw[<-Dy];by_cases Hi:x''=y''
     ·simp [Hi]
     ·simp [Hi]
    ·rw[decide_eq_false hk];simp only[Bool.not_false,if_true];have hf:decide (x=y)=false:=by rw[<-Dy];simp [hk]
     rw[hf] at h;exact AT (AU (AU (AU h)))
 ·rintro⟨r1,r2⟩ s' ⟨hr,rfl,x',y',BN,EN,hz,B7,DO,DP,Dy,hlen⟩;simp only at hr;subst hr;refine AU ?_;have IM:(xs.size==ys.size)=decide (x=y):=by
   rw[<-Dy,<-hlen];cases B7 with
   | nil =>
    cases DO with
    | nil=>simp
    | cons _ _=>simp
   | cons _ _ =>
    cases DO with
    | nil=>simp
    | cons _ _=>simp at hz
  show P (.done (.ret (.bool (xs.size==ys.size)))) s';rw[IM];exact h
theorem ql {x y:List (K ⊕ K')}{a:Addr} (hu:A.units+(hk.deep+2)<cLine) (hx:JU knd hk s.heap x a) (hy:JU knd hk s.heap y b) (hz:∀p∈x.zip y,p.1.isRight=p.2.isRight) (h:Q (decide (x=y)) s) :
  wpAny '#' A (eqBool (.ref a) (.ref b)) Q E s:=by
 unfold eqBool
 try with_reducible refine wpAny_holding ?_
 show wpAny _ _ (if (Value.ref a==Value.ref b)=true then _ else _) Q E s;by_cases Bu:(Value.ref a==Value.ref b)=true
 ·rw[if_pos Bu];have e:a=b:=by have:=eq_of_beq Bu;injection this
  subst e;obtain rfl:=hx.inj hy;exact AT (wpAny_rule (AU (by simpa using h)))
 ·rw[if_neg Bu];exact AT (wpAny_richCompare_same_room (op:=.Eq) hx.typeIs hy.typeIs F.slot_tuple_eq
   (wpAny_call_entry F.slot_tuple_eq hx.typeIs F.entry_tuple_eq (M6 (by show A.units+_+hk.deep<cLine;omega) hx hy hz #[_,rfl,(λe=>nomatch e),wpAny_truthy_bool h]) (F.args_tuple_eq_2 _ _)) '!')
theorem GG {ks:List (K ⊕ K')}{a:Addr} (n:Nat) (hn:hk.nq+1<=n) (Cg:JU knd hk s.heap ks a) (h:Q true s):wpAny '#' A (eqIsQuiet n (.ref a)) Q E s:=by
 have hT:=Cg.typeIs;obtain⟨o,items,m,ho,_,hd,hi⟩:=Cg;obtain⟨n,rfl⟩:∃n',n=n'+1:=#[n - 1,by omega];unfold eqIsQuiet;refine AT (wpAny_specialOf hT F.slot_tuple_eq.lookup ?_);show wpAny _ _ (isInstance (.ref a) (.type "tuple")>>=_) _ _ s;refine AT (wpAny_isInstance hT isSubtype_tuple_tuple ?_);simp only[Qr,yO,if_false];refine AT (wpAny_seqItems ho hd ?_);refine AT ?_;show wpAny _ _ (forIn items _ _) _ _ s;rw[<-QS];refine wpAny_forIn_list _ (λrest r s'=>r.1=none/\s'=s/\∃left,JA knd hk s.heap left rest) _ ?_ ?_ _ _ #[rfl,rfl,ks,hi]
 ·rintro v rest r s' ⟨hr,rfl,left,hl⟩;cases hl with
  | @cons k _ By _ h1 BC =>
   have fin:∀{R:Az},R true s'->wpAny '#' A (eqIsQuiet n v) R E s':=λ{R} q=>by
    cases k with
    | inl k=>rw[eqIsQuiet_byValue _ (knd.byValue _ _ h1)];exact AU q
    | inr k=>obtain⟨b,rfl,h2⟩:=h1;exact hk.quietN n '!' h2 q
   refine AT (fin ?_);simp only[Qr,yO,if_false];exact AU #[rfl,rfl,By,BC]
 ·rintro⟨r1,r2⟩ s' ⟨hr,rfl,_⟩;simp only at hr;subst hr;exact AU h
theorem bQ {ks:List K}{a:Addr} (n:Nat) (hn:1<=n) (Cg:IsTupleKey knd s.heap ks a) (h:Q true s):wpAny '#' A (eqIsQuiet n (.ref a)) Q E s:=by
 have hT:=Cg.typeIs;obtain⟨o,items,m,ho,_,hd,hi⟩:=Cg;obtain⟨n,rfl⟩:∃n',n=n'+1:=#[n - 1,by omega];unfold eqIsQuiet;refine AT (wpAny_specialOf hT F.slot_tuple_eq.lookup ?_);show wpAny _ _ (isInstance (.ref a) (.type "tuple")>>=_) _ _ s;refine AT (wpAny_isInstance hT isSubtype_tuple_tuple ?_);simp only[Qr,yO,if_false];refine AT (wpAny_seqItems ho hd ?_);refine AT ?_;show wpAny _ _ (forIn items _ _) _ _ s;rw[<-QS];refine wpAny_forIn_list _ (λrest r s'=>r.1=none/\s'=s/\∀v∈rest,carriedByValue v=true) _ ?_ ?_ _ _ #[rfl,rfl,hi.byValue]
 ·rintro v rest r s' ⟨hr,rfl,Bd⟩;rw[eqIsQuiet_byValue _ (Bd v yw)];refine AT (AU ?_);simp only[Qr,yO,if_false];exact AU #[rfl,rfl,λu Dz=>Bd u (yn _ Dz)]
 ·rintro⟨r1,r2⟩ s' ⟨hr,rfl,_⟩;simp only at hr;subst hr;exact AU h
end
section
variable {prog:AS}{w:World}{K K':Type} [DecidableEq K] [DecidableEq K']
def iD (knd:KeyKind prog w K):uW prog w (List K) where
 kd:=tupleKind knd
 deep:=0
 roomOk:=λh=>h
 nq:=1
 quietN:=λn hn hk h=>bQ n hn hk h
 keepsO:=λ⟨o,items,n,ho,hc,hd,hi⟩ k=>#[o,items,n,k _ _ _ _ ho hc hd,hc,hd,hi]
 tok:=λ⟨o,_,_,ho,hc,_⟩=>#[o,ho,hc]
def iZ (knd:KeyKind prog w K) (hk:uW prog w K') (sh:Nat->Bool) (h8:hk.nq+1<=8):uW prog w (List (K ⊕ K')) where
 kd :=
  {
   is:=λh ks a=>JU knd hk h ks a/\∀(i:Nat) (k:K ⊕ K'),ks[i]?=some k->k.isRight=sh i
   hash:=gE knd hk
   draws:=Zr hk
   room:=λA=>A.units+(hk.deep+2)<cLine
   inj:=λhx hy=>hx.1.inj hy.1
   keeps:=λ{h h' k a d o es ep} x ho hd hs=>#[x.1.keepsO λb o' xs n e c dt=>by
    by_cases z:b=d
    ·subst z;rw[ho] at e;cases e;rw[hd] at dt;cases dt
    ·exact (hs.2 b z).trans e,x.2]
   pyHash:=λhu hk h=>d8 '!' hk.1 h
   eqBool:=λhu hx hy h=>ql hu hx.1 hy.1 (λp hp=>by
    obtain⟨i,hi⟩:=List.mem_iff_getElem?.mp hp;obtain⟨p1,p2⟩:=p;rw[Qj] at hi;rw[hx.2 i p1 hi.1,hy.2 i p2 hi.2]) h
   quiet:=λhk h=>GG 8 h8 hk.1 h }
 deep:=hk.deep+2
 roomOk:=λh=>h
 nq:=hk.nq+1
 quietN:=λn hn hk h=>GG n hn hk.1 h
 keepsO:=λx k=>#[x.1.keepsO k,x.2]
 tok:=λ⟨⟨o,_,_,ho,hc,_⟩,_⟩=>#[o,ho,hc]
end
end PySem
namespace SG
open PySem PySem.Spec PyProof.Rows L2 SetTable
variable {a:Addr}{Q:Az}
section
variable {P:AS}{w:World}{A:Around}{E:Ax}{s:Shared}
structure SK (P:AS) (w:World) (K:Type) [DecidableEq K] where
 d:uW P w K
 hbN:∀{A:Around} {E:Ax} {s:Shared} {k:K} {a:Addr} {Q:Az} (n:Nat),d.nq<=n->d.kd.is s.heap k a->(∀b,Q b s)->wpAny (model P w) A (hashByValue n (.ref a)) Q E s
 stN:∀{A:Around} {E:Ax} {s:Shared} {k:K} {a:Addr} {Q:Az} (n:Nat),d.nq<=n->d.kd.is s.heap k a->Q false s->wpAny (model P w) A (ofAClassStatement n (.ref a)) Q E s
 n8:d.nq<=8
theorem pX {k:List Key} (n:Nat) (hn:1<=n) (hk:IsTupleKey (jr P w) s.heap k a) (h:∀b,Q b s):wpAny (model P w) A (hashByValue n (.ref a)) Q E s:=by
 have hT:=hk.typeIs;obtain⟨o,items,m,ho,_,hd,hi⟩:=hk;obtain⟨n,rfl⟩:∃n',n=n'+1:=#[n - 1,by omega];unfold hashByValue;refine AT (wpAny_specialOf hT PySem.F.slot_tuple_hash.lookup ?_);show wpAny _ _ (seqItems? (.ref a)>>=_) _ _ s;refine AT (wpAny_seqItems ho hd ?_);refine AT ?_;show wpAny _ _ (forIn items _ _) _ _ s;rw[<-QS];refine wpAny_forIn_list _ (λrest r s'=>r.1=none/\s'=s/\∀v∈rest,v.scannable=true) _ ?_ ?_ _ _ #[rfl,rfl,STb.items_scan hi]
 ·rintro v rest r s' ⟨hr,rfl,Bd⟩;rw[hashByValue_scannable _ (Bd v yw)];refine AT (AU ?_);cases plainKind v with
  | true =>
   simp only[Qr,yO,if_false];exact AU #[rfl,rfl,λu Dz=>Bd u (yn _ Dz)]
  | false =>
   simp only[Bool.not_false,if_true]
   first|exact AU (AU (h _))|exact AT (AU (AU (h _)))|exact AU (h _)
 ·rintro⟨r1,r2⟩ s' ⟨hr,rfl,_⟩;simp only at hr;subst hr;exact AU (h _)
theorem pY {k:List Key} (n:Nat) (hn:1<=n) (hk:IsTupleKey (jr P w) s.heap k a) (h:Q false s):wpAny (model P w) A (ofAClassStatement n (.ref a)) Q E s:=by
 have hT:=hk.typeIs;obtain⟨o,items,m,ho,_,hd,hi⟩:=hk;obtain⟨n,rfl⟩:∃n',n=n'+1:=#[n - 1,by omega];unfold ofAClassStatement;refine AT (wpAny_typeOf hT ?_);dsimp only;rw[if_pos (show (("tuple":String)=="tuple")=true by decide)];refine AT (AU ?_);simp only[Qr,yO,if_false];refine AT (wpAny_seqItems ho hd ?_);dsimp only;refine AT ?_;rw[<-QS];refine wpAny_forIn_list _ (λrest r s'=>r.1=none/\s'=s/\∀v∈rest,carriedByValue v=true) _ ?_ ?_ _ _ #[rfl,rfl,hi.byValue]
 ·rintro v rest r s' ⟨hr,rfl,Bd⟩;rw[STb.stmt_val _ (Bd v yw)];refine AT (AU ?_);simp only[yO,if_false];exact AU #[rfl,rfl,λu Dz=>Bd u (yn _ Dz)]
 ·rintro⟨r1,r2⟩ s' ⟨hr,rfl,_⟩;simp only at hr;subst hr;exact AU h
def Vy (P:AS) (w:World):SK P w (List Key):=#[iD (jr P w),λn hn hk h=>pX n hn hk h,λn hn hk h=>pY n hn hk h,(by decide:1<=8)]
section
variable {K':Type} [DecidableEq K'] (hk:SK P w K')
theorem vD {k:Key}{v:Value} (h:ur k v=true):v.scannable=true/\carriedByValue v=true:=by
 rcases Jl h with ⟨i,t,_,rfl⟩|⟨x,t,_,rfl⟩<;>exact#[rfl,rfl]
theorem Kj {h:Heap}{ks:List (Key ⊕ K')}{vs:AH} (x:JA (jr P w) hk.d h ks vs):∀v∈vs,∃k,UH (jr P w) hk.d h k v:=by
 induction x with
 | nil=>intro v hv;cases hv
 | cons h1 _ ih =>
  intro v hv;rcases yr.mp hv with rfl|hv
  ·exact#[_,h1]
  ·exact ih v hv
theorem qm {ks:List (Key ⊕ K')} (n:Nat) (hn:hk.d.nq+1<=n) (x:JU (jr P w) hk.d s.heap ks a) (h:∀b,Q b s):wpAny (model P w) A (hashByValue n (.ref a)) Q E s:=by
 have hT:=x.typeIs;obtain⟨o,items,m,ho,_,hd,hi⟩:=x;obtain⟨n,rfl⟩:∃n',n=n'+1:=#[n - 1,by omega];unfold hashByValue;refine AT (wpAny_specialOf hT PySem.F.slot_tuple_hash.lookup ?_);show wpAny _ _ (seqItems? (.ref a)>>=_) _ _ s;refine AT (wpAny_seqItems ho hd ?_);refine AT ?_;show wpAny _ _ (forIn items _ _) _ _ s;rw[<-QS];refine wpAny_forIn_list _ (λrest r s'=>r.1=none/\s'=s/\∀v∈rest,∃k,UH (jr P w) hk.d s.heap k v) _ ?_ ?_ _ _ #[rfl,rfl,Kj hk hi]
 ·rintro v rest r s' ⟨hr,rfl,Bd⟩;obtain⟨k,hc⟩:=Bd v yw;have key:∀{Qb:Az},(∀b,Qb b s')->wpAny (model P w) A (hashByValue n v) Qb E s':=λ{Qb} q=>by
   cases k with
   | inl k=>rw[hashByValue_scannable _ (vD hc).1];exact AU (q _)
   | inr k=>obtain⟨b,rfl,hc⟩:=hc;exact hk.hbN n '!' hc q
  refine AT (key λb=>?_);cases b with
  | true =>
   simp only[Qr,yO,if_false];exact AU #[rfl,rfl,λu Dz=>Bd u (yn _ Dz)]
  | false =>
   simp only[Bool.not_false,if_true]
   first|exact AU (AU (h _))|exact AT (AU (AU (h _)))|exact AU (h _)
 ·rintro⟨r1,r2⟩ s' ⟨hr,rfl,_⟩;simp only at hr;subst hr;exact AU (h _)
theorem qo {ks:List (Key ⊕ K')} (n:Nat) (hn:hk.d.nq+1<=n) (x:JU (jr P w) hk.d s.heap ks a) (h:Q false s):wpAny (model P w) A (ofAClassStatement n (.ref a)) Q E s:=by
 have hT:=x.typeIs;obtain⟨o,items,m,ho,_,hd,hi⟩:=x;obtain⟨n,rfl⟩:∃n',n=n'+1:=#[n - 1,by omega];unfold ofAClassStatement;refine AT (wpAny_typeOf hT ?_);dsimp only;rw[if_pos (show (("tuple":String)=="tuple")=true by decide)];refine AT (AU ?_);simp only[Qr,yO,if_false];refine AT (wpAny_seqItems ho hd ?_);dsimp only;refine AT ?_;rw[<-QS];refine wpAny_forIn_list _ (λrest r s'=>r.1=none/\s'=s/\∀v∈rest,∃k,UH (jr P w) hk.d s.heap k v) _ ?_ ?_ _ _ #[rfl,rfl,Kj hk hi]
 ·rintro v rest r s' ⟨hr,rfl,Bd⟩;obtain⟨k,hc⟩:=Bd v yw;have key:∀{Qb:Az},Qb false s'->wpAny (model P w) A (ofAClassStatement n v) Qb E s':=λ{Qb} q=>by
   cases k with
   | inl k=>rw[STb.stmt_val _ (vD hc).2];exact AU q
   | inr k=>obtain⟨b,rfl,hc⟩:=hc;exact hk.stN n '!' hc q
  refine AT (key ?_);simp only[yO,if_false];exact AU #[rfl,rfl,λu Dz=>Bd u (yn _ Dz)]
 ·rintro⟨r1,r2⟩ s' ⟨hr,rfl,_⟩;simp only at hr;subst hr;exact AU h
def GF (sh:Nat->Bool) (h8:hk.d.nq+1<=8):SK P w (List (Key ⊕ K')):=#[iZ (jr P w) hk.d sh h8,λn hn x h=>qm hk n hn x.1 h,λn hn x h=>qo hk n hn x.1 h,h8]
end
end
end SG
namespace SG
open PySem PySem.Spec PyProof.Rows L2 SetTable STb
variable {h h':Heap}{a b S:Addr}{Q:Ax}{o:Obj}{es:AK}{ep n i:Nat}{adr:Nat->Addr}{led:Bool}{w:World}{s:Shared}
def mU (h h':Heap):Prop:=∀b o,h.get? b=some o->h'.get? b=some o
section
variable {P:AS}{w:World}{A:Around}{E:Ax}{s:Shared}{K:Type} [DecidableEq K] {kk:SK P w K} {h0:Heap}
theorem SK.ext {k:K} (x:kk.d.kd.is h k a) (e:mU h h'):kk.d.kd.is h' k a:=kk.d.keepsO x λb o _ _ q _ _=>e b o q
theorem tj {k:K}{stored:AH}{Q:Az} (hk:kk.d.kd.is s.heap k a) (Bo:∀v∈stored,∃k' b,v=.ref b/\kk.d.kd.is s.heap k' b) (h:Q false s):wpAny (model P w) A (searchCouldBeSeen (.ref a) stored) Q E s:=by
 unfold searchCouldBeSeen;refine AT ?_;refine wpAny_forIn_list _ (λrest r s'=>s'=s/\r.1=none/\∀v∈rest,∃k' b,v=.ref b/\kk.d.kd.is s.heap k' b) _ ?_ ?_ _ _ #[rfl,rfl,Bo]
 ·rintro x rest r s' ⟨rfl,hr,Bd⟩;obtain⟨k',b,rfl,hb⟩:=Bd x yw;have DT:∀v∈rest,∃k' b,v=.ref b/\kk.d.kd.is s'.heap k' b:=λv hv=>Bd v (yn _ hv);dsimp only;split
  ·exact AU #[rfl,rfl,DT]
  ·refine AT (kk.d.kd.quiet hk ?_);simp only[Qr,yO,if_false];refine AT (kk.d.kd.quiet hb ?_);simp only[Qr,yO,if_false];refine AT (kk.stN 8 kk.n8 hk ?_);simp only[yO,if_false];refine AT (kk.stN 8 kk.n8 hb ?_);simp only[yO,if_false];exact AU #[rfl,rfl,DT]
 ·rintro⟨r1,r2⟩ s' ⟨rfl,hr,_⟩;simp only at hr;subst hr;exact AU h
structure Ka {P:AS}{w:World}{K:Type} [DecidableEq K] (kk:SK P w K) (h0 h:Heap) (a:Addr) (o:Obj) (es:AK) (ep:Nat) (t:SetTable) (xs:List (K×Addr)):Prop where
 get:h.get? a=some o
 ex:o.ExactSet
 data:o.data=.set es ep t
 ent:es.toList=xs.map λx=>(kk.d.kd.hash x.1,Value.ref x.2)
 tb:Tbl t (hsOf es) es.size
 msk:7<=t.mask/\t.mask<=9000
 load:es.size*5<t.mask*3
 is:∀x∈xs,kk.d.kd.is h0 x.1 x.2
 ext:mU h0 h
 na:h0.get? a=none
 nd:(xs.map (·.1)).Nodup
theorem Ka.at {t:SetTable}{xs:List (K×Addr)} (I:Ka kk h0 h a o es ep t xs) (i:Nat):es[i]?=(xs[i]?).map λx=>(kk.d.kd.hash x.1,Value.ref x.2):=by
 rw[<-yN,I.ent,ye]
theorem Ka.isH {t:SetTable}{xs:List (K×Addr)} (I:Ka kk h0 h a o es ep t xs) {x:K×Addr} (hx:x∈xs):kk.d.kd.is h x.1 x.2:=SK.ext (I.is x hx) I.ext
theorem gb {t:SetTable}{xs:List (K×Addr)}{k:K}{Q:SetFound->Shared->Prop} (hu:A.units+kk.d.deep<cLine) (I:Ka kk h0 s.heap a o es ep t xs) (hk:kk.d.kd.is s.heap k b)
  (q1:k∈xs.map (·.1)->Q (.there none) s) (q2:k ∉ xs.map (·.1)->∀n,¬uP t.place (jJ t.mask (kk.d.kd.hash k) n).j->(∀m',m'<n->uP t.place (jJ t.mask (kk.d.kd.hash k) m').j)->Q (.free (jJ t.mask (kk.d.kd.hash k) n).j false) s) :
  ∀(fuel m:Nat) (stand:Option Probe),10*turns t.mask - m<fuel->stand.getD (t.probeStart (kk.d.kd.hash k))=jJ t.mask (kk.d.kd.hash k) m ->
   (∀m',m'<m->uP t.place (jJ t.mask (kk.d.kd.hash k) m').j/\∀i,At t.place i (jJ t.mask (kk.d.kd.hash k) m').j->∀x,xs[i]?=some x->x.1≠k) ->
   wpAny (model P w) A (setSearchFrom a (.ref b) (kk.d.kd.hash k) true fuel stand) Q E s
 | 0,m,stand,hf,_,_=>absurd hf '!'
 | fuel+1,m,stand,hf,Bo,ahead=>by
  have T:=I.tb;obtain⟨m2,g1,g2,g3,g4⟩:=T.probe (kk.d.kd.hash k) (m:=m) λm' h=>(ahead m' h).1;unfold setSearchFrom;refine AT (wpAny_setState_of I.get I.data T.fits ?_);dsimp only;rw[T.odd (.inr (by have:=I.msk.1;omega))];simp only[yO,if_false];rw[Bo];have Eo:es.size=xs.length:=by rw[<-yA,I.ent,ya]
  have IP:∀i x,xs[i]?=some x->hsOf es i=kk.d.kd.hash x.1:=λi x hx=>by unfold hsOf;rw[I.at,hx];rfl
  rcases g4 with ⟨ne,e⟩|⟨i,ha,hh,e⟩
  ·split
   ·rename_i met heq;have CJ:t.probe (hsOf es) (kk.d.kd.hash k) (jJ t.mask (kk.d.kd.hash k) m)=some met:=heq;rw[e] at CJ;cases CJ;dsimp only;refine AU (q2 (λBB=>?_) m2 ne λm' De=>?_)
    ·obtain⟨x,hx,rfl⟩:=yi.mp BB;obtain⟨i0,OJ,RQ⟩:=yD hx;have ex:xs[i0]?=some x:=by rw[yb OJ,RQ]
     have Ej:At t.place i0 (t.place.getD i0 0):=#[by rw[T.size,Eo];exact OJ,rfl];obtain⟨m0,r1,r2⟩:=T.reach i0 _ Ej;rw[IP i0 x ex] at r1 r2;rw[<-r1] at Ej;have h0:m0<m2:=by
      rcases Q9 m0 m2 with h|h|h
      ·exact h
      ·exact absurd #[i0,h▸Ej] ne
      ·exact absurd (r2 m2 h) ne
     by_cases h1:m0<m
     ·exact (ahead m0 h1).2 i0 Ej x ex rfl
     ·exact (g3 m0 '!' h0).2 i0 Ej (IP i0 x ex)
    ·by_cases h1:m'<m
     ·exact (ahead m' h1).1
     ·exact (g3 m' '!' De).1
   ·rename_i heq;exact absurd e (heq _)
  ·have hi:i<xs.length:=by rw[<-Eo,<-T.size];exact ha.1
   have ex:=yb hi;generalize xs[i]=x at ex;have hx:x∈xs:=yk ex;have OK:es[i]?=some (kk.d.kd.hash x.1,Value.ref x.2):=by rw[I.at,ex];rfl
   have Bo:∀v∈List.map (λx=>x.snd) (Array.filter (λx=>x.fst==kk.d.kd.hash k) es).toList,∃k' b,v=.ref b/\kk.d.kd.is s.heap k' b:=λv hv=>by
    obtain⟨y,hy,rfl⟩:=yi.mp hv;have OL:y∈es.toList:=by
     rw[Array.toList_filter] at hy;exact (QL.mp hy).1
    rw[I.ent] at OL;obtain⟨z,hz,rfl⟩:=yi.mp OL;exact#[z.1,z.2,rfl,I.isH hz]
   split
   ·rename_i met heq;have CJ:t.probe (hsOf es) (kk.d.kd.hash k) (jJ t.mask (kk.d.kd.hash k) m)=some met:=heq;rw[e] at CJ;cases CJ;dsimp only;split
    all_goals (first|(refine AT (tj hk Bo ?_);simp only[yO,if_false])|skip)
    all_goals
     rw[OK];dsimp only;refine AT (wpAny_holding (kk.d.kd.eqBool (kk.d.roomOk hu) (I.isH hx) hk ?_));refine AT (wpAny_setState_of I.get I.data T.fits ?_);dsimp only;by_cases Hl:x.1=k
     ·rw[decide_eq_true Hl,if_pos (show (true&&true)=true from rfl)];exact AU (q1 (yi.mpr #[x,hx,Hl]))
     ·rw[decide_eq_false Hl,if_neg '$'];have RR:t.sameMemory t.moves t.mask=some true:=by unfold SetTable.sameMemory;rw[if_pos (beq_self_eq_true _)]
      rw[RR];dsimp only;rw[if_pos rfl,VH T.ris ha];dsimp only;rw[OK];dsimp only;refine AT (wpAny_isSame_ref_self ?_);refine AT (AU ?_);rw[if_pos rfl];dsimp only;rw[if_neg '$'];refine gb hu I hk q1 q2 fuel (m2+1) _ '!' rfl λm' De=>?_;by_cases h1:m'<m
      ·exact ahead m' h1
      ·by_cases h2:m'<m2
       ·obtain⟨g5,g6⟩:=g3 m' '!' h2;exact#[g5,λi' B9 x' B7 z=>g6 i' B9 (by rw[IP i' x' B7,z])]
       ·obtain rfl:m'=m2:=by omega
        refine#[#[i,ha],λi' B9 x' B7 z=>?_];rw[B9.uniq T.ris ha,ex] at B7;cases B7;exact Hl z
   ·rename_i heq;exact absurd e (heq _)
theorem pL {t:SetTable}{xs:List (K×Addr)}{k:K}{Q:Az} (hu:A.units+kk.d.deep<cLine) (I:Ka kk h0 s.heap a o es ep t xs) (OM:kk.d.kd.is h0 k b) (hn:xs.length<=990)
  (q1:k∈xs.map (·.1)->Q false s) (q2:k ∉ xs.map (·.1)->∀h' o' Bx BK t' BN,Ka kk h0 h' a o' Bx BK t' BN->BN.Perm ((k,b)::xs)->Heap.SameBut a s.heap h'->t'.led=t.led->Q true { s with heap:=h' }) :
  wpAny (model P w) A (setAddHashed a (.ref b) (kk.d.kd.hash k)) Q E s:=by
 have hk:kk.d.kd.is s.heap k b:=SK.ext OM I.ext;have Eo:es.size=xs.length:=by rw[<-yA,I.ent,ya]
 unfold setAddHashed setAddHashedIn;refine wpAny_holding (AT (wpAny_setState_of I.get I.data I.tb.fits ?_));dsimp only;rw[show byScan (Value.ref b) es=false from rfl];simp only[yO,if_false];unfold setSearch;refine AT (gb hu I hk (λBB=>?_) (λDg n ne ahead=>?_) 100000 0 none (by have:=I.msk.2;unfold turns;omega) rfl (λm' h=>absurd h (QB _)))
 ·dsimp only;exact AU (q1 BB)
 ·dsimp only;refine AT (wpAny_setState_of I.get I.data I.tb.fits ?_);dsimp only;have hload:=I.load;have IQ:=I.msk;obtain⟨T1,hp,Co⟩:=I.tb.put (v:=Value.ref b) '!' ne ahead;have Ba:(t.put (jJ t.mask (kk.d.kd.hash k) n).j).1.led=t.led:=rfl;have RS:(t.put (jJ t.mask (kk.d.kd.hash k) n).j).1.plain=t.plain:=rfl;generalize (t.put (jJ t.mask (kk.d.kd.hash k) n).j).1=t1 at T1 Co Ba RS ⊢;generalize (t.put (jJ t.mask (kk.d.kd.hash k) n).j).2=p at T1 hp ⊢;have DA:(insertAt es p (kk.d.kd.hash k,Value.ref b)).toList=(xs.take p++(k,b)::xs.drop p).map λx=>(kk.d.kd.hash x.1,Value.ref x.2):=by
   rw[VJ es hp,I.ent,yf,yH,List.map_take,We]
  have BW:(xs.take p++(k,b)::xs.drop p).Perm ((k,b)::xs):=by
   refine List.perm_middle.trans ?_;rw[Qo]
  have Vp:(insertAt es p (kk.d.kd.hash k,Value.ref b)).size=es.size+1:=uy es hp _;generalize insertAt es p (kk.d.kd.hash k,Value.ref b)=Bi at T1 DA Vp ⊢;generalize xs.take p++(k,b)::xs.drop p=Dh at DA BW;have tail:∀t2:SetTable,Tbl t2 (hsOf Bi) Bi.size->t2.mask=t.mask->t2.led=t.led->wpAny (model P w) A (do
    storeSet a Bi t2
    if (!false&&t2.tooFull)=true then do
      setRelay a (grown (es.size+1))
      pure true
     else pure true) Q E s:=λt2 T2 m2 l2=>by
   refine AT (wpAny_storeSet_of I.get I.data ?_ (by rw[Vp];exact yp (show _<=1000 by omega) '$'));have g1:=VI I.get I.data Bi t2;have BX:=Heap.SameBut.update s.heap a (Obj.putSet Bi t2);have FJ:∀x∈Dh,kk.d.kd.is h0 x.1 x.2:=λx hx=>by
    rcases yr.mp (BW.mem_iff.mp hx) with rfl|hx
    ·exact OM
    ·exact I.is x hx
   have ext1:mU h0 (s.heap.update a (Obj.putSet Bi t2)):=λb o e=>by
    rw[BX.2 b (λz=>by rw[z,I.na] at e;cases e)];exact I.ext b o e
   have Ep:(Dh.map (·.1)).Nodup:=((BW.map (·.1)).nodup_iff).mpr (y7.mpr #[Dg,I.nd]);generalize s.heap.update a (Obj.putSet Bi t2)=h1 at g1 BX ext1 ⊢;cases hf:t2.tooFull with
   | false =>
    rw[if_neg '$'];refine AU (q2 Dg h1 _ Bi (ep+1) t2 Dh #[g1,I.ex,rfl,DA,T2,by rw[m2];exact IQ,?_,FJ,ext1,I.na,Ep] BW BX l2);unfold SetTable.tooFull SetTable.fill at hf;rw[T2.size,T2.dm] at hf;have:=of_decide_eq_false hf;simp at this;omega
   | true =>
    rw[if_pos (by rfl)];obtain⟨t3,order,e3,Er,DU,T3,k7,k9,k4,l3,ks,p3⟩:=n5 (t:=t2) (es:=Bi) '!' '!';unfold setRelay;refine AT (AT (wpAny_setState_of (s:={ s with heap:=h1 }) g1 rfl T2.fits ?_));dsimp only;rw[Vp] at e3 ks;rw[if_neg (by have:(9000:Nat)<=sizeLine:='$';omega),e3];refine AT (wpAny_of_eq (show _=pure (order.filterMap (λk:Nat=>Bi[k]?),t3) from ?_) ?_)
    ·show (if ((order.filterMap (λk:Nat=>Bi[k]?)).size != Bi.size)=true then _ else pure (order.filterMap (λk:Nat=>Bi[k]?),t3))=_;rw[if_neg (by rw[DU];simp)]
    obtain⟨RT,px,ex3⟩:=perm_map Er Dh DA;dsimp only;refine wpAny_storeSet_of (s:={ s with heap:=h1 }) g1 rfl (AU ?_) (by rw[DU,Vp];exact yp (show _<=1000 by omega) '$');have ON:=Heap.SameBut.update h1 a (Obj.putSet (order.filterMap (λk:Nat=>Bi[k]?)) t3);refine q2 Dg _ _ _ (ep+1+1) t3 RT #[VI g1 rfl _ t3,I.ex,rfl,ex3,T3,#[k7,k9],by rw[DU];omega,λx hx=>FJ x (px.mem_iff.mp hx),λb o e=>by rw[ON.2 b (λz=>by rw[z,I.na] at e;cases e)];exact ext1 b o e,I.na,((px.map (·.1)).nodup_iff).mpr Ep] (px.trans BW) (BX.trans ON) (l3.trans l2)
  split
  ·refine AT (kk.hbN 8 kk.n8 hk λbv=>?_);cases bv with
   | true=>exact tail t1 T1 Co Ba
   | false=>exact tail { t1 with plain:=false } #[T1.size,T1.ris,T1.le,T1.dm,T1.pw,T1.room,T1.reach] Co Ba
  ·refine AT (AU ?_);exact tail t1 T1 Co Ba
def Mt {K:Type} [DecidableEq K] (kk:SK P w K) (h0:Heap) (S:Addr) (n:Nat) (val:Nat->K) (adr:Nat->Addr) (led:Bool) (i:Nat) (h:Heap):Prop :=
 ∃o es ep t xs,Ka kk h0 h S o es ep t xs/\t.led=led/\xs.length<=i/\(∀x∈xs,∃j,j<n/\x.2=adr j)/\∀k,k∈xs.map (·.1)↔∃j,j<i/\val j=k
theorem Mt.keep {val:Nat->K} (m:Mt kk h0 S n val adr led i h) (hS:∀o,h.get? S=some o->h'.get? S=some o) (he:mU h0 h'):Mt kk h0 S n val adr led i h':=by
 obtain⟨o,es,ep,t,xs,I,l1,l2,l3,l4⟩:=m;exact#[o,es,ep,t,xs,#[hS _ I.get,I.ex,I.data,I.ent,I.tb,I.msk,I.load,I.is,he,I.na,I.nd],l1,l2,l3,l4]
variable {A:Around}{R:Result->Shared->Prop}{It:Addr}{fp wr:AI}{G:Array GenState->Array GenState->Prop}{n:Nat}{Pr:Nat->Value->Prop}{St:Nat->Shared->Prop}
theorem M2 (W:WalksS P w A.in1 It fp wr G n Pr St) (hu:A.in1.units+kk.d.deep<cLine) (S:Addr) (DB:S ∉ fp) (val:Nat->K) (adr:Nat->Addr) (led:Bool) (CK:∀i v,Pr i v->v=.ref (adr i)) (hb:n<=990) (hw:∀b∈S::wr,h0.get? b=none) (ks:∀j,j<n->kk.d.kd.is h0 (val j) (adr j)) :
  ∀(d i:Nat) (s:Shared),n - i=d->i<=n->St i s->mU h0 s.heap->Mt kk h0 S n val adr led i s.heap->(∀s',Moved (S::wr) G s s'->Mt kk h0 S n val adr led n s'.heap->R (.ok (.ret .none)) s') ->
   codeAny (model P w) A (.builtin "set.update.loop" #[[.ref S,.ref It],[]]) R s
 | 0,i,s,hd,hi,st,ex,m,hR=>by
  obtain rfl:i=n:=by omega
  refine codeAny_builtin PyProof.Rows.F.entry_set_update_loop ?_;rw[Around.under_plainId PyProof.Rows.F.plain_set_update_loop _];refine AT (W.done s _ _ st λs' mv=>AU (hR s' (mv.mono λb hb=>yn _ hb) ?_));exact m.keep (λo e=>mv.heap S o (λz=>DB (W.sub _ z)) e) λb o e=>mv.heap b o (λz=>by rw[hw b (yn _ z)] at e;cases e) (ex b o e)
 | d+1,i,s,hd,hi,st,ex,m,hR=>by
  have AX:i<n:=by omega
  refine codeAny_builtin PyProof.Rows.F.entry_set_update_loop ?_;rw[Around.under_plainId PyProof.Rows.F.plain_set_update_loop _];refine AT (W.item i s _ _ AX st λv s' hP Bp mv=>?_);obtain rfl:=CK i v hP;have F9:mU h0 s'.heap:=λb o e=>mv.heap b o (λz=>by rw[hw b (yn _ z)] at e;cases e) (ex b o e);obtain⟨o,es,ep,t,xs,I,l1,l2,l3,l4⟩:=m.keep (h':=s'.heap) (λo e=>mv.heap S o (λz=>DB (W.sub _ z)) e) F9;have IS:∀b∈wr,b∈S::wr:=λb hb=>yn _ hb;refine AT (wpAny_holding ?_);unfold setAdd;refine wpAny_holding (AT (kk.d.kd.pyHash (kk.d.roomOk hu) (SK.ext (ks i AX) F9) ?_));have go:∀h':Heap,Heap.SameBut S s'.heap h'->Mt kk h0 S n val adr led (i+1) h'->codeAny (model P w) A (.builtin "set.update.loop" #[[.ref S,.ref It],[]]) R { s' with heap:=h',toks:=s'.toks+kk.d.kd.draws (val i) }:=λh' sb m'=>by
   refine M2 W hu S DB val adr led CK hb hw ks d (i+1) _ '!' AX (W.frame _ s' _ _ Bp (Nat.le_add_right _ _) λb hb o e=>?_) (λb o e=>?_) m' λs2 IT m2=>hR s2 (Moved.trans W.gtrans ((mv.mono IS).then_heap (Nat.le_add_right _ _) λb o hb e=>?_) IT) m2
   ·rw[sb.2 b (λz:b=S=>DB (by rw[<-z];exact hb))];exact e
   ·rw[sb.2 b (λz=>by rw[hw b (by rw[z];exact yw)] at e;cases e)];exact F9 b o e
   ·rw[sb.2 b (λz:b=S=>hb (by rw[z];exact yw))];exact e
  refine pL (s:={ s' with toks:=s'.toks+kk.d.kd.draws (val i) }) hu I (ks i AX) '!' (λBB=>?_) (λDg h' o' Bx BK t' BN I' pm sb hl=>?_)
  ·refine AU #[plainId_quiet PyProof.Rows.F.plain_set_update_loop _,go s'.heap (Heap.SameBut.refl S s'.heap) #[o,es,ep,t,xs,I,l1,by omega,l3,λk=>?_]];rw[l4 k];constructor
   ·rintro⟨j,h1,h2⟩;exact#[j,by omega,h2]
   ·rintro⟨j,h1,h2⟩;by_cases e:j=i
    ·subst e;rw[<-h2];exact (l4 _).mp BB
    ·exact#[j,by omega,h2]
  ·refine AU #[plainId_quiet PyProof.Rows.F.plain_set_update_loop _,go h' sb #[o',Bx,BK,t',BN,I',hl.trans l1,?_,λx hx=>?_,λk=>?_]]
   ·rw[pm.length_eq,yQ];omega
   ·rcases yr.mp (pm.mem_iff.mp hx) with rfl|hx
    ·exact#[i,AX,rfl]
    ·exact l3 x hx
   ·rw[(pm.map (·.1)).mem_iff,yH,yr,l4 k];constructor
    ·rintro (rfl|⟨j,h1,h2⟩)
     ·exact#[i,by omega,rfl]
     ·exact#[j,by omega,h2]
    ·rintro⟨j,h1,h2⟩;by_cases e:j=i
     ·subst e;exact .inl h2.symm
     ·exact .inr #[j,by omega,h2]
end
section
variable {P:AS}{w:World}{A:Around}{E:Ax}{s:Shared}{K:Type} [DecidableEq K] {kk:SK P w K} {h0:Heap}
theorem sB {S:Nat}{val:Nat->K} (e:h.get? S=some (Ux led)) (he:mU h0 h) (na:h0.get? S=none):Mt kk h0 S n val adr led 0 h:=by
 refine#[_,(List.toArray []),0,_,[],#[e,#[rfl,rfl,rfl],rfl,rfl,#[rfl,λi k _ hk=>absurd hk (by simp [SetTable.fresh]),λj hj=>?_,rfl,#[3,rfl],by show 0<=7;omega,λi j a=>?_],by show 7<=7/\7<=9000;omega,by show 0*5<7*3;omega,(λx hx=>by cases hx),he,na,Qk],rfl,yh _,(λx hx=>by cases hx),λk=>#[(λh=>by cases h),(λ⟨j,h,_⟩=>by omega)]]
 ·obtain⟨i,hi,_⟩:=hj;exact absurd hi (by simp [SetTable.fresh])
 ·exact absurd a.1 (by simp [SetTable.fresh])
theorem K7 {l:Addr}{items:AN}{val:Nat->K} (hh:A.handled=none) (hu:A.units+8+kk.d.deep<cLine) (hl:s.heap.IsList l items) (hit:∀(i:Nat) v,items[i]?=some v->v=.ref (adr i)) (RU:∀j,j<items.size->kk.d.kd.is s.heap (val j) (adr j)) (hb:items.size<=990)
  (h:∀(h':Heap) (tok:Nat) (led:Bool),led=(!w.params.followText "set-order")->Mt kk s.heap s.heap.objs.size items.size val adr led items.size h'->(∀b o,b<s.heap.objs.size->s.heap.get? b=some o->h'.get? b=some o)->s.heap.objs.size<h'.objs.size->Q (.ref s.heap.objs.size) { s with heap:=h',toks:=tok }) :
  wpAny (model P w) A (call (.type "set") [.ref l]) Q E s:=by
 obtain⟨c,tl,hm⟩:=PySem.F.called_set.mro;have RV:=PySem.F.called_set.made;have IU:=PySem.F.called_set.sub;refine wpAny_call (codeAny_of_tree ?_);show wpAny _ _ (callAny (.type "set") _) _ _ _;refine AU #[Code.quiet_builtin _ (by decide +kernel),codeAny_builtin PySem.F.entry_type_call ?_];rw[Around.under_plain (weight_type_call_type "set" [.ref l] []) rfl];have g1:=PySem.F.called_set.notType;have g2:=PySem.F.called_set.canCreate;have g3:=PySem.F.typeCall_set_1 (.ref l)
 repeat (any_goals (first|assumption|wp_step))
 refine codeAny_mono (V1 (.ref l) (E:=E) (Q₁:=λv s1=>∃led:Bool,led=(!w.params.followText "set-order")/\v=.ref s.heap.objs.size/\s1={ s with heap:=s.heap.push (Ux led) }) #[_,rfl,rfl,rfl]) λr s1 hr=>?_;cases r with
 | error e=>exact hr
 | ok f1 =>
  cases f1 with
  | ret v =>
   obtain⟨led,BY,rfl,rfl⟩:=hr;have e1:(s.heap.push (Ux led)).get? s.heap.objs.size=some (Ux led):=yo _ rfl;have ty:Shared.TypeIs { s with heap:=s.heap.push (Ux led) } (.ref s.heap.objs.size) "set":=#[_,e1,rfl];have g4:=PySem.F.called_set.init.lookup;have g5:=PySem.F.called_set.init.bind (.ref s.heap.objs.size)
   repeat (any_goals (first|assumption|wp_step))
   refine codeAny_mono (codeAny_call_builtin (R:=wants (λr s2=>r=.none/\∃h' tok,s2={ s with heap:=h',toks:=tok }/\Mt kk s.heap s.heap.objs.size items.size val adr led items.size h'/\(∀b o,b<s.heap.objs.size->s.heap.get? b=some o->h'.get? b=some o)) E) PySem.F.called_set.init.plain F.entry_set_init (check_set_init_1 ty ?_)) λr2 s2 Ci=>?_
   ·obtain⟨ol,Dp,En,nl,Dq⟩:=hl;obtain⟨o1,o2,o3,o4⟩:=ol;simp only at En Dq;subst En;subst Dq;have Es:(s.heap.push (Ux led)).get? l=some { cls:=.type "list",dict:=o2,data:=.seq items nl,slots:=o4 }:=yd _ Dp;have g6:=PySem.F.sub_list_set;have g7:=PySem.F.sub_list_frozenset;have g8:(Value.type "list"==Value.type "dict")=false:=by decide
    have hl1:(s.heap.push (Ux led)).IsList l items:=#[_,Es,rfl,nl,rfl];unfold Builtin.«set.__init__» noKeywords Builtin.Frozenset.updateFrom;generalize IV:pyIter=PI
    wp_walk
    subst IV;refine wpAny_pyIter_list hl1 (AT (wpAny_runValue ?_));have FK:l<s.heap.objs.size:=ym Dp;have BG:(s.heap.push (Ux led)).objs.size=s.heap.objs.size+1:=Qs ..;refine M2 ((Walks.list (by simp [hh]) _ l (by rw[BG];exact yx (Qw FK)) items).toS) ?hu s.heap.objs.size ?hS val adr led hit hb ?hA RU (items.size - 0) 0 _ '!' (yT _) #[#[_,yo _ rfl,rfl,rfl],(hl1.push _)] (λb o e=>yd _ (yd _ e)) (sB (yd _ e1) (λb o e=>yd _ (yd _ e)) (Qi (yh _))) ?hR
    case hu=>show A.units+1+1+1+kk.d.deep<cLine;omega
    case hS=>rw[BG];simp only[yr,yP,or_false,not_or];exact#[yx (Wa _),Qe FK]
    case hA =>
     intro b hb;rcases yr.mp hb with rfl|hb
     ·exact Qi (yh _)
     ·rw[yu.mp hb,BG];exact Qi (Nat.le_succ _)
    case hR =>
     intro s' mv m';obtain⟨h',g',d',IW,Ef⟩:=s';have eg:g'=s.gens:=mv.gens;have ed:d'=s.drawn:=mv.drawn;have eo:Ef=s.os:=mv.os;subst eg;subst ed;subst eo;refine AU (AU #[rfl,h',IW,rfl,m',λb o hb e=>?_]);refine mv.heap b o ?_ (yd _ (yd _ e));rw[BG];simp only[yr,yP,or_false,not_or];exact#[yx hb,yx (Qw hb)]
   ·cases r2 with
    | error e=>exact Ci
    | ok f2 =>
     cases f2 with
     | ret r =>
      obtain⟨rfl,h',tok,rfl,m',keep⟩:=Ci
      repeat (any_goals (first|assumption|wp_step))
      have m2:=m';obtain⟨o',_,_,_,_,I',_⟩:=m2;exact h h' tok led BY m' keep (ym I'.get)
     | _=>exact Ci.elim
  | _=>exact hr.elim
end
def Wk (w:World) (h:Heap) (S:Addr) (es:AK) (ep:Nat) (t:SetTable):Prop :=
 ∃o,h.get? S=some o/\o.ExactSet/\o.data=.set es ep t/\t.fits es.size=true/\UI t.place/\t.place.size=es.size/\t.led=(!w.params.followText "set-order")/\(w.params.followText "set-order"=false->(!t.plain&&decide (es.size > 1))=false)
theorem Wk.keep {t:SetTable} (x:Wk w h S es ep t) (k:∀o,h.get? S=some o->h'.get? S=some o):Wk w h' S es ep t:=by
 obtain⟨o,e,r⟩:=x;exact#[o,k _ e,r]
theorem Wk.typeIs {t:SetTable} (x:Wk w s.heap S es ep t):s.TypeIs (.ref S) "set":=by
 obtain⟨o,e,c,_⟩:=x;exact#[o,e,c.1]
def Wi (w:World) (h:Heap) (it S i n ep:Nat) (t:SetTable):Prop :=
 ∃o slot,h.get? it=some o/\o.cls=.type "set_iterator"/\o.data=.fields (List.toArray [.int (slot:Nat) 0,.int (i:Nat) 0,.ref S,.int (n:Nat) 0,.int (ep:Nat) 0])/\(w.params.followText "set-order"=false->below t.place slot=i)
theorem Wi.typeIs {it S:Nat}{t:SetTable} (x:Wi w s.heap it S i n ep t):s.TypeIs (.ref it) "set_iterator":=by
 obtain⟨o,slot,e,c,_⟩:=x;exact#[o,e,c]
section
variable {prog:AS}{w:World}{A:Around}{E:Ax}{s:Shared}{S t it:Addr}{es:AK}{ep i:Nat}{tb:SetTable}
theorem wp_byText {Q:Az} (q:Q (w.params.followText "set-order") s):wpAny '#' A setsByText Q E s:=by
 unfold setsByText;exact AT (wpAny_askSetting (AU q))
theorem oh {Q:Az} (x:Wk w s.heap S es ep tb) (q:Q false s):wpAny '#' A (setDrawn S) Q E s:=by
 obtain⟨o,e,_,d,f,_,_,_,p⟩:=x;unfold setDrawn;refine AT (wpAny_setState_of e d f (AT (wp_byText (AU ?_))));have:(!w.params.followText "set-order"&&(!tb.plain&&decide (es.size > 1)))=false:=by
  cases hb:w.params.followText "set-order" with
  | true=>rfl
  | false=>rw[p hb];rfl
 exact this.symm▸q
theorem om {Q:Nat->Shared->Prop} (x:Wk w s.heap S es ep tb) (q:Q ep s):wpAny '#' A (setEpoch S) Q E s:=by
 obtain⟨o,e,_,d,f,_⟩:=x;unfold setEpoch;exact AT (wpAny_setState_of e d f (AU q))
theorem zM {Q:Array (Int×Value)->Shared->Prop} (x:Wk w s.heap S es ep tb) (q:Q es s):wpAny '#' A (setEntries S) Q E s:=by
 obtain⟨o,e,_,d,f,_⟩:=x;exact wpAny_setEntries_of e d f q
theorem iQ (x:Wk w s.heap S es ep tb)
  (q:Q (.ref s.heap.objs.size) { s with heap:=s.heap.push { cls:=.type "set_iterator",data:=.fields (List.toArray [.int (0:Nat) 0,.int (0:Nat) 0,.ref S,.int es.size 0,.int ep 0]) } }):wpAny '#' A (pyIter (.ref S)) Q E s:=by
 have ty:=x.typeIs;refine wpAny_pyIter_slot ty PySem.F.slot_set_iter (wpAny_call_entry PySem.F.slot_set_iter ty V3 ?_ (PySem.F.args_set_iter_1 _));unfold Builtin.«frozenset.__iter__»;refine AT (m:=Builtin.Frozenset.slot0 "__iter__" _) (wpAny_of_eq (a:=S) rfl ?_);refine AT (m:=Builtin.Frozenset.sizeOf S) (AT (zM x (AU ?_)));refine AT (oh x ?_);rw[if_neg '$'];refine AT (AU (AT (om x ?_)));exact AT (wpAny_newObj_type (AU #[_,rfl,"set_iterator",_,#[_,yo _ rfl,rfl],jI.lookup,q]))
theorem M9 {Q:Option (Value×Nat)->Shared->Prop}{slot:Nat} (x:Wk w s.heap S es ep tb) (hs:w.params.followText "set-order"=false->below tb.place slot=i)
  (q1:∀hi:i<es.size,∀Bf,(w.params.followText "set-order"=false->below tb.place Bf=i+1)->Q (some (((UF w S ep es)[i]'(by rw[UT];exact hi)).2,Bf)) s) (q2:es.size<=i->Q none s):wpAny '#' A (setNext S slot i ep) Q E s:=by
 have x0:=x;obtain⟨o,e,_,d,f,R,pz,l,p⟩:=x;unfold setNext;refine AT (wpAny_setState_of e d f (AT (wp_byText ?_)));cases hb:w.params.followText "set-order" with
 | true =>
  rw[if_pos rfl];dsimp only;rw[if_neg (by simp)];refine AT ?_;unfold setWalk;refine AT (wpAny_setState_of e d f (AT (wp_byText ?_)));rw[hb,if_pos rfl];refine AT (wpAny_askSetting (AU (AU ?_)));have eo:UF w S ep es=pickOrder (w.params.setOrder S ep) es:=by unfold UF;rw[if_pos hb]
  show Q (Option.map (λe=>(e.2,slot)) (pickOrder (w.params.setOrder S ep) es)[i]?) s;rw[<-eo];rcases Qa i es.size with hi|hi
  ·rw[yU (by rw[UT];exact hi)];exact q1 hi slot λz=>by rw[hb] at z;cases z
  ·rw[Q3 (by rw[UT];exact hi)];exact q2 hi
 | false =>
  rw[if_neg '$'];dsimp only;refine wpAny_ite_split (λz=>absurd (show (!tb.plain&&decide (es.size > 1))=true from z) (by rw[p hb];decide)) λ_=>?_;have eo:UF w S ep es=es:=by unfold UF;rw[if_neg (by rw[hb];decide)]
  refine AT ?_;refine wpAny_ite_split (M:=model prog w) (λz=>absurd (show (!tb.led&&!es.isEmpty)=true from z) (by rw[l,hb];simp)) λ_=>AU ?_;rw[hs hb];refine AU ?_;rcases Qa i es.size with hi|hi
  ·have h1:=q1 hi (tb.place.getD i 0+1) λ_=>bq R (by rw[pz];exact hi);have h2:i<tb.place.size:=by rw[pz];exact hi
   rw[show (UF w S ep es)[i]'(by rw[UT];exact hi)=es[i] by simp only[eo]] at h1;rw[yU hi,yU h2];rw[show tb.place.getD i 0=tb.place[i] by simp [Array.getD,h2]] at h1;exact h1
  ·rw[Q3 hi];exact q2 hi
theorem i4 {Q:AA} (k:Wi w s.heap it S i es.size ep tb) (x:Wk w s.heap S es ep tb) (hi:i<es.size)
  (q:∀h',Wi w h' it S (i+1) es.size ep tb->Heap.SameBut it s.heap h'->Q (some ((UF w S ep es)[i]'(by rw[UT];exact hi)).2) { s with heap:=h' }):wpAny '#' A (pyNext (.ref it)) Q E s:=by
 have ty:=k.typeIs;obtain⟨oi,slot,e,c,dt,hs⟩:=id k;refine AT (wpAny_attempt (wpAny_callSpecial?_slot (name:=Str.ofString "__next__") ty jI (wpAny_call_entry jI ty JT ?_ (JN _))));unfold Builtin.«set_iterator.__next__»;refine AT (m:=slotArgs "__next__" 0 _) (wpAny_of_eq (a:=(Value.ref it,[])) rfl (AT (wpAny_fieldsOf e dt ?_)));dsimp only;refine AT (zM x ?_);rw[if_neg (by simp)];refine AT (M9 (i:=i) x (by simpa using hs) (λB9 Bf OO=>?_) λz=>absurd hi '!');show wpAny _ _ (setField (.ref it) 0 (rawInt (Bf:Nat))>>=λ_=>setField (.ref it) 1 (rawInt ((i:Int)+1))>>=λ_=>ret _) _ _ s;refine AT (wpAny_setField e dt (by simp) ?_);have g1:=y6 (Obj.mapFields (·.setIfInBounds 0 (rawInt (Bf:Nat)))) e (Obj.isFreed_of_fields (Obj.data_mapFields dt _));have d1:(Obj.mapFields (·.setIfInBounds 0 (rawInt (Bf:Nat))) oi).data=.fields (List.toArray [.int (Bf:Nat) 0,.int (i:Nat) 0,.ref S,.int es.size 0,.int ep 0]):=by rw[Obj.data_mapFields dt];simp [rawInt]
 have c1:(Obj.mapFields (·.setIfInBounds 0 (rawInt (Bf:Nat))) oi).cls=.type "set_iterator":=(Obj.cls_mapFields ..).trans c;have BX:=Heap.SameBut.update s.heap it (Obj.mapFields (·.setIfInBounds 0 (rawInt (Bf:Nat))));generalize s.heap.update it (Obj.mapFields (·.setIfInBounds 0 (rawInt (Bf:Nat))))=h1 at g1 BX ⊢;generalize Obj.mapFields (·.setIfInBounds 0 (rawInt (Bf:Nat))) oi=o1 at g1 d1 c1;refine AT (wpAny_setField (s:={ s with heap:=h1 }) g1 d1 (by simp) ?_);have g2:=y6 (Obj.mapFields (·.setIfInBounds 1 (rawInt ((i:Int)+1)))) g1 (Obj.isFreed_of_fields (Obj.data_mapFields d1 _));refine AU #[_,rfl,AU (q _ #[_,Bf,g2,(Obj.cls_mapFields ..).trans c1,by rw[Obj.data_mapFields d1];simp [rawInt],OO] (BX.trans (Heap.SameBut.update ..)))]
theorem lV {Q:AA} (hh:A.handled=none) (k:Wi w s.heap it S i es.size ep tb) (x:Wk w s.heap S es ep tb) (hi:es.size<=i)
  (q:∀h',Heap.ExtBut it s.heap h'->Q none { s with heap:=h' }):wpAny '#' A (pyNext (.ref it)) Q E s:=by
 have ty:=k.typeIs;obtain⟨oi,slot,e,c,dt,hs⟩:=id k;refine AT (wpAny_attempt (wpAny_callSpecial?_slot (name:=Str.ofString "__next__") ty jI (wpAny_call_entry jI ty JT ?_ (JN _))));unfold Builtin.«set_iterator.__next__»;refine AT (m:=slotArgs "__next__" 0 _) (wpAny_of_eq (a:=(Value.ref it,[])) rfl (AT (wpAny_fieldsOf e dt ?_)));dsimp only;refine AT (zM x ?_);rw[if_neg (by simp)];refine AT (M9 (i:=i) x (by simpa using hs) (λB9 Bf OO=>absurd hi '!') λz=>?_);show wpAny _ _ (setField (.ref it) 2 .none>>=_) _ _ s;refine AT (wpAny_setField e dt (by simp) ?_);show wpAny _ _ (newExc (.type "StopIteration") []>>=_) _ _ _;refine AT ?_;simp only[newExc,newTuple];refine AT (wpAny_newObj_type (AT (m:=firstArgMember _ _) (wpAny_of_eq (a:=Value.none) (by simp only[firstArgMember];rfl) (wpAny_newObj_type ?_ (by size_fits)))) (by size_fits));simp only[raiseNew];refine AT (wpAny_handled ?_);rw[show A.in1.handled=none from hh];refine AT (AU (wpAny_throw ?_));exact AT (wpAny_isInstance (T:="StopIteration") (b:=true) #[_,yo _ rfl,rfl] isSubtype_stop (AU (q _ (((Heap.SameBut.update ..).extBut.push _).push _))))
theorem dG (k:Wi w s.heap it S i es.size ep tb) (q:Q (.ref it) s):wpAny '#' A (pyIter (.ref it)) Q E s:=by
 refine wpAny_pyIter_slot k.typeIs JW (wpAny_call_entry JW k.typeIs UC ?_ (Ur _));show wpAny _ _ (ret (.ref it)) _ _ s;exact AU #[_,rfl,"set_iterator",_,k.typeIs,jI.lookup,q]
theorem MI {Q:Az} (hT:s.TypeIs (.ref S) "set") (h:Q false s):wpAny '#' A (Builtin.List.listLengthHint (.ref S)) Q E s:=by
 unfold Builtin.List.listLengthHint;refine AT (wpAny_specialOf hT PySem.F.slot_set_len.lookup ?_);generalize FL:("set.__len__":String)=id0
 wp_delta
 rw[show splitId id0=some ("set","__len__") from by subst FL;decide +kernel];subst FL;refine AT (wpAny_isInstance (T:="set") (b:=true) hT (by rw[isSubtype_type];kernel_rfl) ?_);refine wpAny_ite_split (λBu=>absurd Bu '$') (λ_=>?_);refine wpAny_ite_split (λ_=>?_) (λBu=>absurd (by decide +kernel) Bu);refine AT (wpAny_typeOf hT ?_);exact AU h
theorem rg:KdlSrc prog w "set" S S es.size (λi v=>∃hi:i<(UF w S ep es).size,v=(UF w S ep es)[i].2) (λh=>Wk w h S es ep tb) where
 type:=λ_ x=>x.typeIs
 there:=λ_ x=>by obtain⟨ob,e,_⟩:=x;exact#[ym e,ym e]
 keep:=λ_ _ x k=>x.keep λo e=>k S (.inl rfl) o e
 notList:=by decide
 notTuple:=by decide
 hint:=λ_ _ _ _ x q=>MI x.typeIs q
 iter:=λA s hh x=>by
  have AX:S<s.heap.objs.size:=by obtain⟨ob,e,_⟩:=x;exact ym e
  have hR:UI tb.place:=by obtain⟨_,_,_,_,_,R,_⟩:=x;exact R
  refine#[{ cls:=.type "set_iterator",data:=.fields (List.toArray [.int (0:Nat) 0,.int (0:Nat) 0,.ref S,.int es.size 0,.int ep 0]) },λi h=>Wi w h s.heap.objs.size S i es.size ep tb/\Wk w h S es ep tb,λE Q q=>iQ x q,?_,#[_,0,yo _ rfl,rfl,rfl,λ_=>bu hR],x.keep λo e=>yd _ e];refine#[λb hb=>by simp at hb;simp [hb],λi h h' st k=>#[?_,st.2.keep λo e=>k S (by simp) o e],λi s' Q E hi st q=>?_,λs' Q E st q=>?_,λi s' Q E st q=>dG st.1 q]
  ·obtain⟨ob,slot,e,r⟩:=st.1;exact#[ob,slot,k _ (by simp) ob e,r]
  ·refine i4 st.1 st.2 hi λh' k' sb=>q _ h' s'.toks #[by rw[UT];exact hi,rfl] #[k',st.2.keep λo e=>sb.extBut S o (yx AX) e] λb o hb e=>sb.extBut b o (λz=>hb (by simp [z])) e
  ·refine lV hh st.1 st.2 (yh _) λh' eb=>q h' s'.toks λb o hb e=>eb b o (λz=>hb (by simp [z])) e
theorem qP (hh:A.handled=none) (x:Wk w s.heap S es ep tb) (hn:es.size<=sizeLine)
  (q:∀h' tk acc c,(∀b o,s.heap.get? b=some o->h'.get? b=some o)->h'.get? s.heap.objs.size=some { cls:=.type "list",dict:=none,data:=.seq acc c,slots:=(List.toArray []) }->ItemsOf (λi v=>∃hi:i<(UF w S ep es).size,v=(UF w S ep es)[i].2) acc es.size->Q (.ref s.heap.objs.size) { s with heap:=h',toks:=tk }) :
  wpAny '#' A (runValue (.builtin "proto.collect" #[[.ref S],[]])) Q E s:=by
 have AX:S<s.heap.objs.size:=by obtain⟨ob,e,_⟩:=x;exact ym e
 have ne:s.heap.objs.size≠S:=Qe AX;refine wpAny_runValue (codeAny_builtin F.entry_proto_collect ?_);rw[Around.under_plainId F.plain_proto_collect _];refine AT (m:=newList []) (wpAny_newObj_type (AU #[plainId_quiet F.plain_list_iadd _,codeAny_builtin F.entry_list_iadd ?_]));rw[Around.under_plainId F.plain_list_iadd _];have x2:Wk w (s.heap.push { cls:=.type "list",data:=.seq ([]:AH).toArray }) S es ep tb:=x.keep λo e=>yd _ e;exact kdl_extend (s:={ s with heap:=s.heap.push { cls:=.type "list",data:=.seq ([]:AH).toArray } }) (R:=λr s'=>match r with|.ok (.ret v)=>Q v s'|.ok _=>False|.error e=>E e s') (rg (es:=es) (ep:=ep) (tb:=tb)) hh x2 _ ne ne (.ref s.heap.objs.size) 0 (yo _ rfl)
  (λh' tk acc c kp e items=>q h' tk acc c (λb o hb=>kp b o (yx (ym hb)) (yd _ hb)) e items) hn
theorem collect_set {Q:List Value->Shared->Prop} (hh:A.handled=none) (x:Wk w s.heap S es ep tb) (hn:es.size<=sizeLine)
  (q:∀h' tk,(∀b o,s.heap.get? b=some o->h'.get? b=some o)->s.heap.objs.size<h'.objs.size->Q ((UF w S ep es).toList.map (·.2)) { s with heap:=h',toks:=tk }):wpAny '#' A (collect (.ref S)) Q E s:=by
 refine AT (qP hh x hn λh' tk acc c kp e items=>?_);show wpAny _ A (load s.heap.objs.size>>=_) _ _ _;refine AT (wpAny_load e (AU ?_));have oz:=UT w S ep es;generalize UF w S ep es=os at items oz q;have ea:acc.toList=os.toList.map (·.2):=by
  apply QW
  intro k;rw[ye,yN,yN];rcases Qa k os.size with hk|hk
  ·have h1:k<acc.size:=by rw[items.1,<-oz];exact hk
   rw[getElem?_pos os k hk,getElem?_pos acc k h1];obtain⟨_,e2⟩:=items.2 k acc[k] (getElem?_pos acc k h1);rw[e2];rfl
  ·rw[getElem?_neg os k '!',getElem?_neg acc k (by rw[items.1];omega)];rfl
 rw[ea];exact q h' tk kp (ym e)
end
section
variable {prog:AS}{w:World}{A:Around}{E:Ax}{s:Shared}{S it tp:Addr}{es:AK}{ep i:Nat}{tb:SetTable}{ps:List Nat}
theorem wZ {src:Source}{Q:Nat->Shared->Prop} (hn:n≠0) (q:∀k d,k<n->Q k { s with drawn:=d }):wpAny '#' A (choose src n) Q E s:=λΓ p _=>by
 unfold choose;rw[Sem.wp_choose];exact#[hn,(by rw[Sem.wp];exact q _ _ (Nat.mod_lt _ '!'))]
theorem Np {α:Type}:∀(n:Nat) (xs:List α) {s:Shared} {Q:List α->Shared->Prop},xs.length=n->(∀ys d,ys.Perm xs->Q ys { s with drawn:=d })->wpAny '#' A (drawOrder n xs) Q E s
 | 0,xs,s,Q,hn,q=>by
  obtain rfl:=QY hn;exact AU (q [] s.drawn .nil)
 | n+1,[],s,Q,hn,q=>by cases hn
 | n+1,x::xs,s,Q,hn,q=>by
  unfold drawOrder;refine AT (wZ (by simp) λk d hk=>?_);rw[yb hk];refine AT (Np n _ (s:={ s with drawn:=d }) (by rw[List.length_eraseIdx_of_lt hk];omega) λys d' pm=>AU ?_);exact q _ d' ((pm.cons _).trans (zr _ _ hk))
def Wr (w:World) (h:Heap) (S:Addr) (es:AK) (ep:Nat) (t:SetTable):Prop :=
 ∃o,h.get? S=some o/\o.ExactSet/\o.data=.set es ep t/\t.fits es.size=true/\w.params.followText "set-order"=false/\(!t.plain&&decide (es.size > 1))=true
theorem Wr.keep (x:Wr w h S es ep tb) (k:∀o,h.get? S=some o->h'.get? S=some o):Wr w h' S es ep tb:=by
 obtain⟨o,e,r⟩:=x;exact#[o,k _ e,r]
theorem Wr.typeIs (x:Wr w s.heap S es ep tb):s.TypeIs (.ref S) "set":=by
 obtain⟨o,e,c,_⟩:=x;exact#[o,e,c.1]
def vK (ps:List Nat):Obj:={ cls:=.type "tuple",data:=.seq (ps.map λ(i:Nat)=>rawInt i).toArray }
def MO (tp S n ep:Nat):Obj:={ cls:=.type "set_iterator",data:=.fields (List.toArray [.ref tp,.int (0:Nat) 0,.ref S,.int (n:Nat) 0,.int (ep:Nat) 0]) }
theorem qd (x:Wr w s.heap S es ep tb) (hn:es.size<=1000000)
  (q:∀ps d,ps.Perm (List.range es.size)->Q (.ref (s.heap.objs.size+1)) { s with heap:=(s.heap.push (vK ps)).push (MO s.heap.objs.size S es.size ep),drawn:=d }):wpAny '#' A (pyIter (.ref S)) Q E s:=by
 have ty:=x.typeIs;obtain⟨o,e,c,d,f,hb,hd⟩:=x;refine wpAny_pyIter_slot ty PySem.F.slot_set_iter (wpAny_call_entry PySem.F.slot_set_iter ty V3 ?_ (PySem.F.args_set_iter_1 _));unfold Builtin.«frozenset.__iter__»;refine AT (m:=Builtin.Frozenset.slot0 "__iter__" _) (wpAny_of_eq (a:=S) rfl ?_);refine AT (m:=Builtin.Frozenset.sizeOf S) (AT (wpAny_setEntries_of e d f (AU ?_)));refine AT ?_;unfold setDrawn;refine AT (wpAny_setState_of e d f (AT (STb.wp_byText (AU ?_))));have hz:(!w.params.followText "set-order"&&(!tb.plain&&decide (es.size > 1)))=true:=by rw[hb,hd];rfl
 refine wpAny_ite_split (λ_=>?_) λz=>absurd hz z;refine AT (Np es.size (List.range es.size) (by simp) λps dr pm=>?_);have lp:ps.length=es.size:=by rw[pm.length_eq,yW]
 refine AT (wpAny_newTuple (s:={ s with drawn:=dr }) ?_ (by rw[ya,lp];exact yp hn '$'));have e2:(s.heap.push (vK ps)).get? S=some o:=yd _ e;refine AT ?_;unfold setEpoch;refine AT (wpAny_setState_of (s:={ s with heap:=s.heap.push (vK ps),drawn:=dr }) e2 d f (AU ?_));have sz:(s.heap.push (vK ps)).objs.size=s.heap.objs.size+1:=Qs ..;have q:=q ps dr pm;refine AT (wpAny_newObj_type (AU #[_,rfl,"set_iterator",_,#[_,yo _ rfl,rfl],jI.lookup,?_]));rw[<-sz] at q;exact q
def Wj (h:Heap) (it tp S i n ep:Nat) (ps:List Nat):Prop :=
 (∃o,h.get? it=some o/\o.cls=.type "set_iterator"/\o.data=.fields (List.toArray [.ref tp,.int (i:Nat) 0,.ref S,.int (n:Nat) 0,.int (ep:Nat) 0]))/\h.get? tp=some (vK ps)
theorem Wj.typeIs (x:Wj s.heap it tp S i n ep ps):s.TypeIs (.ref it) "set_iterator":=by
 obtain⟨⟨o,e,c,_⟩,_⟩:=x;exact#[o,e,c]
theorem fZ (ps:List Nat) (i:Nat):((ps.map λ(i:Nat)=>rawInt i).toArray)[i]?=(ps[i]?).map λ(i:Nat)=>rawInt i:=by
 rw[Qm,ye]
theorem qp {Q:AA} (k:Wj s.heap it tp S i es.size ep ps) (x:Wr w s.heap S es ep tb) {p:Nat} (hp:ps[i]?=some p) {e:Int×Value} (he:es[p]?=some e) (Bk:tp≠it)
  (q:∀h',Wj h' it tp S (i+1) es.size ep ps->Heap.SameBut it s.heap h'->Q (some e.2) { s with heap:=h' }):wpAny '#' A (pyNext (.ref it)) Q E s:=by
 have ty:=k.typeIs;obtain⟨⟨oi,ei,c,dt⟩,et⟩:=k;obtain⟨o,eo,_,d,f,hb,hd⟩:=x;refine AT (wpAny_attempt (wpAny_callSpecial?_slot (name:=Str.ofString "__next__") ty jI (wpAny_call_entry jI ty JT ?_ (JN _))));unfold Builtin.«set_iterator.__next__»;refine AT (m:=slotArgs "__next__" 0 _) (wpAny_of_eq (a:=(Value.ref it,[])) rfl (AT (wpAny_fieldsOf ei dt ?_)));dsimp only;refine AT (wpAny_setEntries_of eo d f ?_);rw[if_neg (by simp)];refine AT (wpAny_seqItems et rfl ?_);show wpAny _ _ (match ((ps.map λ(i:Nat)=>rawInt i).toArray)[(Int.toNat (i:Nat))]? with|some (.int place _)=>_|some _=>_|none=>_) _ _ s;rw[Qg,fZ,hp];show wpAny _ _ (setNextDrawn S (Int.toNat (p:Nat)) _>>=_) _ _ s;refine AT ?_;unfold setNextDrawn;refine AT (wpAny_setState_of eo d f ?_);dsimp only;rw[if_neg (by simp),Qg,he];refine AT (AU (AU ?_));refine AT (wpAny_setField ei dt (by simp) ?_);have g1:=y6 (Obj.mapFields (·.setIfInBounds 1 (rawInt ((i:Int)+1)))) ei (Obj.isFreed_of_fields (Obj.data_mapFields dt _));have BX:=Heap.SameBut.update s.heap it (Obj.mapFields (·.setIfInBounds 1 (rawInt ((i:Int)+1))));exact AU #[_,rfl,AU (q _ #[#[_,g1,(Obj.cls_mapFields ..).trans c,by rw[Obj.data_mapFields dt];simp [rawInt]],(BX.2 tp Bk).trans et] BX)]
theorem rh {Q:AA} (hh:A.handled=none) (k:Wj s.heap it tp S i es.size ep ps) (x:Wr w s.heap S es ep tb) (hp:ps[i]?=none)
  (q:∀h',Heap.ExtBut it s.heap h'->Q none { s with heap:=h' }):wpAny '#' A (pyNext (.ref it)) Q E s:=by
 have ty:=k.typeIs;obtain⟨⟨oi,ei,c,dt⟩,et⟩:=k;obtain⟨o,eo,_,d,f,hb,hd⟩:=x;refine AT (wpAny_attempt (wpAny_callSpecial?_slot (name:=Str.ofString "__next__") ty jI (wpAny_call_entry jI ty JT ?_ (JN _))));unfold Builtin.«set_iterator.__next__»;refine AT (m:=slotArgs "__next__" 0 _) (wpAny_of_eq (a:=(Value.ref it,[])) rfl (AT (wpAny_fieldsOf ei dt ?_)));dsimp only;refine AT (wpAny_setEntries_of eo d f ?_);rw[if_neg (by simp)];refine AT (wpAny_seqItems et rfl ?_);show wpAny _ _ (match ((ps.map λ(i:Nat)=>rawInt i).toArray)[(Int.toNat (i:Nat))]? with|some (.int place _)=>_|some _=>_|none=>_) _ _ s;rw[Qg,fZ,hp];show wpAny _ _ (setField (.ref it) 0 (rawInt 0)>>=λ_=>setField (.ref it) 2 .none>>=_) _ _ s;refine AT (wpAny_setField ei dt (by simp) ?_);have g1:=y6 (Obj.mapFields (·.setIfInBounds 0 (rawInt 0))) ei (Obj.isFreed_of_fields (Obj.data_mapFields dt _));have d1:(Obj.mapFields (·.setIfInBounds 0 (rawInt 0)) oi).data=.fields (List.toArray [rawInt 0,.int (i:Nat) 0,.ref S,.int es.size 0,.int ep 0]):=by rw[Obj.data_mapFields dt];simp
 have BX:=Heap.SameBut.update s.heap it (Obj.mapFields (·.setIfInBounds 0 (rawInt 0)));refine AT (wpAny_setField (s:={ s with heap:=s.heap.update it (Obj.mapFields (·.setIfInBounds 0 (rawInt 0))) }) g1 d1 (by simp) ?_);show wpAny _ _ (newExc (.type "StopIteration") []>>=_) _ _ _;refine AT ?_;simp only[newExc,newTuple];refine AT (wpAny_newObj_type (AT (m:=firstArgMember _ _) (wpAny_of_eq (a:=Value.none) (by simp only[firstArgMember];rfl) (wpAny_newObj_type ?_ (by size_fits)))) (by size_fits));simp only[raiseNew];refine AT (wpAny_handled ?_);rw[show A.in1.handled=none from hh];refine AT (AU (wpAny_throw ?_));exact AT (wpAny_isInstance (T:="StopIteration") (b:=true) #[_,yo _ rfl,rfl] isSubtype_stop (AU (q _ (((BX.trans (Heap.SameBut.update ..)).extBut.push _).push _))))
theorem MQ (k:Wj s.heap it tp S i n ep ps) (q:Q (.ref it) s):wpAny '#' A (pyIter (.ref it)) Q E s:=by
 refine wpAny_pyIter_slot k.typeIs JW (wpAny_call_entry JW k.typeIs UC ?_ (Ur _));show wpAny _ _ (ret (.ref it)) _ _ s;exact AU #[_,rfl,"set_iterator",_,k.typeIs,jI.lookup,q]
theorem l9 (hh:A.handled=none) (FN:ps.Perm (List.range es.size)) (h1:tp≠it) (h2:S≠it) :
  Walks prog w A it [it,tp,S] [it] es.size (λi v=>∃p e,ps[i]?=some p/\es[p]?=some e/\v=e.2) (λi h=>Wj h it tp S i es.size ep ps/\Wr w h S es ep tb):=by
 have lp:ps.length=es.size:=by rw[FN.length_eq,yW]
 refine#[λb hb=>by simp at hb;simp [hb],λi h h' st k=>#[#[?_,k tp (by simp) _ st.1.2],st.2.keep λo e=>k S (by simp) o e],λi s' Q E hi st q=>?_,λs' Q E st q=>?_,λi s' Q E st q=>MQ st.1 q]
 ·obtain⟨o,e,r⟩:=st.1.1;exact#[o,k it (by simp) o e,r]
 ·have h3:=yb (show i<ps.length by rw[lp];exact hi);have h4:ps[i]'(by rw[lp];exact hi)<es.size:=yE.mp (FN.mem_iff.mp (yB _));have h5:=yU h4;refine qp st.1 st.2 h3 h5 h1 λh' k' sb=>q _ h' s'.toks #[_,_,h3,h5,rfl] #[k',st.2.keep λo e=>sb.extBut S o h2 e] λb o hb e=>sb.extBut b o (λz=>hb (by simp [z])) e
 ·exact rh hh st.1 st.2 (QR (by rw[lp];exact yh _)) λh' eb=>q h' s'.toks λb o hb e=>eb b o (λz=>hb (by simp [z])) e
end
section
variable {prog:AS}{w:World}{A:Around}{E:Ax}{s:Shared}{S it tp:Addr}{es:AK}{ep i:Nat}{tb:SetTable}{ps:List Nat}
abbrev Gy (acc:AN) (c:Nat):Obj:={ cls:=.type "list",dict:=none,data:=.seq acc c,slots:=(List.toArray []) }
theorem iP {acc:AN} (FN:ps.Perm (List.range es.size)) (x:ItemsOf (λi v=>∃p e,ps[i]?=some p/\es[p]?=some e/\v=e.2) acc es.size):acc.toList.Perm (es.toList.map (·.2)):=by
 have lp:ps.length=es.size:=by rw[FN.length_eq,yW]
 have h1:acc.toList=ps.map λp=>(es.toList.map (·.2)).getD p .none:=by
  refine QW λk=>?_;rw[yN,ye];rcases Qa k es.size with hk|hk
  ·have g:=getElem?_pos acc k (by rw[x.1];exact hk);obtain⟨p,e,e1,e2,e3⟩:=x.2 k _ g;rw[g,e1,e3];show some e.2=some ((es.toList.map (·.2)).getD p .none);rw[yl,ye,yN,e2];rfl
  ·rw[getElem?_neg acc k (by rw[x.1];omega),QR (by rw[lp];exact hk)];rfl
 have h2:(List.range es.size).map (λp=>(es.toList.map (·.2)).getD p .none)=es.toList.map (·.2):=by
  refine yX (by simp) λk g1 g2=>?_;rw[yR,List.getElem_range,yl,yb g2];rfl
 rw[h1];have h3:=FN.map λp=>(es.toList.map (·.2)).getD p .none;rw[h2] at h3;exact h3
theorem fC (hh:A.handled=none) (x:Wr w s.heap S es ep tb) (hn:es.size<=1000000)
  (q:∀h' tk d acc c,(∀b o,s.heap.get? b=some o->h'.get? b=some o)->h'.get? s.heap.objs.size=some (Gy acc c)->acc.toList.Perm (es.toList.map (·.2))->Q (.ref s.heap.objs.size) { s with heap:=h',toks:=tk,drawn:=d }) :
  wpAny '#' A (runValue (.builtin "proto.collect" #[[.ref S],[]])) Q E s:=by
 have AX:S<s.heap.objs.size:=by obtain⟨ob,e,_⟩:=x;exact ym e
 have BA:es.size<=sizeLine:=yp hn '$';refine wpAny_runValue (codeAny_builtin F.entry_proto_collect ?_);rw[Around.under_plainId F.plain_proto_collect _];refine AT (m:=newList []) (wpAny_newObj_type (AU #[plainId_quiet F.plain_list_iadd _,codeAny_builtin F.entry_list_iadd ?_]));rw[Around.under_plainId F.plain_list_iadd _];have x2:Wr w (s.heap.push (Gy (List.toArray []) 0)) S es ep tb:=x.keep λo e=>yd _ e;have eL:(s.heap.push (Gy (List.toArray []) 0)).get? s.heap.objs.size=some (Gy (List.toArray []) 0):=yo _ rfl;have sz:(s.heap.push (Gy (List.toArray []) 0)).objs.size=s.heap.objs.size+1:=Qs ..;have kp:∀b o,s.heap.get? b=some o->(s.heap.push (Gy (List.toArray []) 0)).get? b=some o:=λb o e=>yd _ e;show wpAny _ _ (Builtin.List.listExtendWith (.ref s.heap.objs.size) (.ref S) (.ref s.heap.objs.size)) _ _ { s with heap:=s.heap.push (Gy (List.toArray []) 0) };generalize s.heap.push (Gy (List.toArray []) 0)=h1 at x2 eL sz kp;unfold Builtin.List.listExtendWith;refine AT (wpAny_typeOf (s:={ s with heap:=h1 }) x2.typeIs ?_);rw[show (Builtin.List.listSameRef (.ref s.heap.objs.size) (.ref S)||Value.type "set"==Value.type "list"||Value.type "set"==Value.type "tuple")=false by simp [Builtin.List.listSameRef,Qe AX]];simp only[yO,if_false];refine AT (qd (s:={ s with heap:=h1 }) x2 hn λps d pm=>?_);show wpAny _ _ _ _ _ { s with heap:=(h1.push (vK ps)).push (MO h1.objs.size S es.size ep),drawn:=d };have Ni:(h1.push (vK ps)).objs.size=h1.objs.size+1:=Qs ..;have k3:∀b o,h1.get? b=some o->((h1.push (vK ps)).push (MO h1.objs.size S es.size ep)).get? b=some o:=λb o e=>yd _ (yd _ e);have et:((h1.push (vK ps)).push (MO h1.objs.size S es.size ep)).get? h1.objs.size=some (vK ps):=yd _ (yo _ rfl);have ei:((h1.push (vK ps)).push (MO h1.objs.size S es.size ep)).get? (h1.objs.size+1)=some (MO h1.objs.size S es.size ep):=by rw[<-Ni];exact yo _ rfl
 generalize (h1.push (vK ps)).push (MO h1.objs.size S es.size ep)=h3 at k3 et ei;have x3:Wr w h3 S es ep tb:=x2.keep λo e=>k3 _ o e;have st:Wj h3 (h1.objs.size+1) h1.objs.size S 0 es.size ep ps:=#[#[_,ei,rfl,rfl],et];have RW:S<h1.objs.size:=by rw[sz];exact Qw AX
 have W:=l9 (prog:=prog) (A:=A.in1) (w:=w) (ep:=ep) (tb:=tb) (it:=h1.objs.size+1) (tp:=h1.objs.size) (S:=S) hh pm (yx (Wa _)) (yx (Qw RW));have RX:s.heap.objs.size ∉ [h1.objs.size+1,h1.objs.size,S]:=by
  simp only[yr,yP,or_false,not_or];exact#[yx (by rw[sz];omega),yx (by rw[sz];omega),Qe AX]
 have loop:∀(h:Heap) (c:Nat),Wj h (h1.objs.size+1) h1.objs.size S 0 es.size ep ps/\Wr w h S es ep tb->(∀b o,b≠s.heap.objs.size->h3.get? b=some o->h.get? b=some o)->h.get? s.heap.objs.size=some (Gy (List.toArray []) c) ->
   codeAny '#' A (.builtin "list.extend.loop" #[[.ref s.heap.objs.size,.ref (h1.objs.size+1),.ref s.heap.objs.size],[]]) (λr s'=>match r with|.ok (.ret v)=>Q v s'|.ok _=>False|.error e=>E e s') { s with heap:=h,drawn:=d }:=λh c st kh e=>by
  refine codeAny_extend_loopS W.toS BA s.heap.objs.size RX _ es.size 0 _ (List.toArray []) c rfl (yT _) st e (ItemsOf.nil _) λs' acc c' mv e' items=>?_;obtain⟨h',g',d',t',Ef⟩:=s';have e1:g'=s.gens:=mv.gens;have e2:d'=d:=mv.drawn;have e3:Ef=s.os:=mv.os;subst e1;subst e2;subst e3;refine q h' t' d' acc c' (λb o eb=>?_) e' (iP pm items);have hb:=ym eb;refine mv.heap b o ?_ (kh b o (yx hb) (k3 b o (kp b o eb)));simp only[yr,yP,or_false,not_or];exact#[yx hb,yx (yJ hb (by rw[sz];omega))]
 refine AT (wpAny_holding (MI (s:={ s with heap:=h3,drawn:=d }) x3.typeIs ?_));refine wpAny_ite_split (λ_=>?_) λ_=>AU #[plainId_quiet PySem.F.plain_extend_loop _,loop h3 0 #[st,x3] (λ_ _ _ e=>e) (k3 _ _ eL)];refine AT (wpAny_rule (AT ?_));show wpAny _ _ (updateSeq s.heap.objs.size (·.push .none)>>=λ_=>updateSeq s.heap.objs.size (·.pop)) _ _ { s with heap:=h3,drawn:=d };have DV:=k3 _ _ eL;refine AT (wpAny_updateSeq (s:={ s with heap:=h3,drawn:=d }) DV rfl ?_);have g1:=y6 (Obj.mapSeq (·.push Value.none)) DV rfl;refine wpAny_updateSeq (hz:=by seq_fits) g1 rfl (AU #[plainId_quiet PySem.F.plain_extend_loop _,?_]);have g2:=y6 (Obj.mapSeq (·.pop)) g1 rfl;have ko:∀b o,b≠s.heap.objs.size->h3.get? b=some o->((h3.update s.heap.objs.size (Obj.mapSeq (·.push Value.none))).update s.heap.objs.size (Obj.mapSeq (·.pop))).get? b=some o:=λb o hb e=>by
  rw[yM _ _ (yZ hb),yM _ _ (yZ hb)];exact e
 refine loop _ _ #[#[?_,ko _ _ (Qe (by rw[sz];omega)) et],x3.keep λo e=>ko _ o (yx AX) e] ko g2;exact#[_,ko _ _ (Qe (by rw[sz];omega)) ei,rfl,rfl]
end
section
variable {prog:AS}{w:World}{A:Around}{E:Ax}{s:Shared}{S:Addr}{es:AK}{ep:Nat}{tb:SetTable}{o:Obj}
theorem Ny {hs:Nat->Int}{Q:List Value->Shared->Prop} (hh:A.handled=none) (ho:s.heap.get? S=some o) (hx:o.ExactSet) (hd:o.data=.set es ep tb) (T:Tbl tb hs es.size) (hl:tb.led=(!w.params.followText "set-order")) (hn:es.size<=1000000)
  (q:∀vs h' tk d,vs.Perm (es.toList.map (·.2))->(∀b o,s.heap.get? b=some o->h'.get? b=some o)->s.heap.objs.size<h'.objs.size->Q vs { s with heap:=h',toks:=tk,drawn:=d }):wpAny '#' A (collect (.ref S)) Q E s:=by
 by_cases hz:w.params.followText "set-order"=false/\(!tb.plain&&decide (es.size > 1))=true
 ·refine AT (fC hh #[o,ho,hx,hd,T.fits,hz.1,hz.2] hn λh' tk d acc c kp e pm=>?_);show wpAny _ A (load s.heap.objs.size>>=_) _ _ _;exact AT (wpAny_load e (AU (q _ h' tk d pm kp (ym e))))
 ·refine collect_set hh (#[o,ho,hx,hd,T.fits,T.ris,T.size,hl,λh=>?_]:SG.Wk w s.heap S es ep tb) (yp hn '$') λh' tk kp lt=>q _ h' tk s.drawn ((gH w S ep es).map _) kp lt;cases hp:(!tb.plain&&decide (es.size > 1)) with
  | false=>rfl
  | true=>exact absurd #[h,hp] hz
end
end SG
namespace L2
open PySem PySem.Spec PyProof.Rows TS SG
variable {T:TK}
theorem ji.drw {X:Cx}{pins:AF}{σ:St}{H:Hp}{s:Shared} (I:ji X pins σ H s) (d:Drawn):ji X pins σ H { s with drawn:=d }:=#[I.ok,I.os,I.bare,I.base,I.loc,I.cell,I.free,I.freeC,I.pin,I.hok,I.len,I.hn]
section
variable {prog:AS}{w:World}{A:Around}{E:Ax}{s:Shared}{O:Od}{hd:∀h u l,¬(uk l u/\∃a,O.R h u a)}
theorem cz {x:Value}{Fv:AH}{kc:Value->List (Key ⊕ O.α)}{d:Bool}{Q:Ax} (hu:A.units+8+O.deep<cLine)
  (hc:∀R:List Value->Shared->Prop,(∀vs h' tk dr,vs.Perm Fv->(∀b o,s.heap.get? b=some o->h'.get? b=some o)->s.heap.objs.size<h'.objs.size->R vs { s with heap:=h',toks:=tk,drawn:=dr })->wpAny '#' A.in1 (collect x) R E s)
  (X:uc hd s.heap Fv kc d) (hl:Fv.length<64)
  (q:∀(h':Heap) (tk c:Nat) (dr:Drawn) (p:Addr) (out:AH),(∀b o,s.heap.get? b=some o->h'.get? b=some o)->s.heap.objs.size<=p->h'.get? p=some (seqObj "list" out.toArray c)->out.Perm Fv->(out.Pairwise λu v=>JY (JB O hd) (kc v) (kc u)=false)->Q (.ref p) { s with heap:=h',toks:=tk,drawn:=dr }) :
  wpAny '#' A (call (.builtin "sorted") [x]) Q E s:=by
 refine Calls.call_function_entry kind_sorted plain_sorted entry_sorted (args_sorted1 _) ?_;refine AT (m:=checkCount "sorted" 1 1 _) (AU ?_);refine AT (hc _ λvs h' tk dr pv kp lt=>?_);refine AT (wpAny_newList ?_ (by rw[pv.length_eq];exact TS.sz64 hl));have X2:uc hd s.heap vs kc d:=#[λv hv=>X.at_ v (pv.mem_iff.mp hv),λv hv=>X.fst v (pv.mem_iff.mp hv),λu hu v hv=>X.cm u (pv.mem_iff.mp hu) v (pv.mem_iff.mp hv)];have e1:(h'.push (seqObj "list" vs.toArray 0)).get? h'.objs.size=some (seqObj "list" vs.toArray 0):=yo _ rfl;have El:∀b o,s.heap.get? b=some o->(h'.push (seqObj "list" vs.toArray 0)).get? b=some o:=λb o e=>yd _ (kp b o e);refine AT (wpAny_holding (wpAny_call_entry slot_list_sort #[_,e1,rfl] entry_list_sort (fI (s:={ s with heap:=h'.push (seqObj "list" vs.toArray 0),toks:=tk,drawn:=dr }) (d:=d) (by show A.units+1+1+O.deep<cLine;omega) e1 (X2.keep λb o e _=>El b o e) (by rw[pv.length_eq];exact hl) λout pm up=>#[_,rfl,AU #[_,rfl,?_]]) (args_list_sort _)));obtain⟨c,g1,g2⟩:=TS.sortedHeap_at (out:=out.toArray) e1;exact q _ tk c dr _ out (λb o e=>g2 b o (yx (Nat.lt_trans (ym e) lt)) (El b o e)) (y4 lt) g1 (pm.trans pv) up
end
structure TK where
 O:Od
 hd:∀h u l,¬(uk l u/\∃a,O.R h u a)
 sk:∀(P:AS) (w:World),@SK P w (List (Key ⊕ O.α)) (@instDecidableEqList _ (@instDecidableEqSum _ _ inferInstance O.deq))
 good:List (Key ⊕ O.α)->Prop
 cm:∀{a b},good a->good b->UO (JB O hd) a b
 d:Bool
 fst:∀{k},good k->∃c r,k=.inl c::r/\c.isLeft=d
 is:∀{P w H h b k},Js P w H h->(JX (JB O hd)).V_ H (.ref b) k->good k->(sk P w).d.kd.is h k b
 dp:∀P w,(sk P w).d.deep<=16
 od:O.deep<=8
abbrev TK.α (T:TK):Type:=List (Key ⊕ T.O.α)
abbrev TK.M (T:TK):Od:=JX (JB T.O T.hd)
instance (T:TK):DecidableEq T.α:=@instDecidableEqList _ (@instDecidableEqSum _ _ inferInstance T.O.deq)
def vZ (T:TK) (P:AS) (w:World) (S:Addr) (us:List (T.α×Addr)) (h:Heap):Prop :=
 ∃o es ep t,h.get? S=some o/\o.ExactSet/\o.data=.set es ep t/\es.toList=us.map (λx=>((T.sk P w).d.kd.hash x.1,Value.ref x.2))/\STb.Tbl t (STb.hsOf es) es.size/\t.led=(!w.params.followText "set-order")
theorem vZ.keep {P:AS}{w:World}{S:Addr}{us:List (T.α×Addr)}{h h':Heap} (x:vZ T P w S us h) (k:∀o,h.get? S=some o->h'.get? S=some o):vZ T P w S us h':=by
 obtain⟨o,es,ep,t,e,r⟩:=x;exact#[o,es,ep,t,k _ e,r]
theorem uE {H:Hp}:∀{bs:AI} {ks:List T.α},Uk T.M H bs ks->bs.length=ks.length/\∀(j:Nat) b k,bs[j]?=some b->ks[j]?=some k->T.M.V_ H (.ref b) k
 | _,_,.nil=>#[rfl,λj b k h=>by cases h]
 | _,_,.cons r t=>by
  obtain⟨h1,h2⟩:=uE t;refine#[by rw[yQ,yQ,h1],λj b k e1 e2=>?_];cases j with
  | zero=>cases e1;cases e2;exact r
  | succ j=>exact h2 j b k e1 e2
section
variable {X:Cx}
theorem Ki (T:TK) (hc:X.calm=true) (hu:X.A.units+64<cLine):Jf X (.type "set") (λxs H Q=>∃(p:Addr) (bs:AI) (ks:List T.α),A5 (xs=[.ref p]) (H p=some (.lst (bs.map V.ref))) (Uk T.M H bs ks/\∀k∈ks,T.good k) (ks.length<=990)
  (∀S us,H S=none->(us.map (·.1)).Nodup->(∀k,k∈us.map (·.1)↔k∈ks)->(∀x∈us,T.M.V_ H (.ref x.2) x.1)->Q (.ref S) (upd H S (.ext (vZ T X.prog X.w S us))))):=by
 intro pins s σ H xs us Q I r h;obtain⟨p,bs,ks,rfl,e,⟨ka,hg⟩,hn,q⟩:=h;obtain⟨u,rfl,ru⟩:=J1 r;cases ru;obtain⟨AV,rv,pl,hz⟩:=I.list (jg.of e);obtain rfl:=uT rv;obtain⟨lb,RY⟩:=uE ka;have at_:∀j,j<bs.length->∃b k,bs[j]?=some b/\ks[j]?=some k/\bs.getD j 0=b/\ks.getD j []=k/\T.M.V_ H (.ref b) k/\T.good k:=λj hj=>by
  have h1:=yb hj;have h2:=yb (show j<ks.length by omega);exact#[_,_,h1,h2,by rw[yl,h1];rfl,by rw[yl,h2];rfl,RY j _ _ h1 h2,hg _ (yB _)]
 have sz:(bs.map Value.ref).toArray.size=bs.length:=by simp
 have hdp:=T.dp X.prog X.w;refine K7 (kk:=T.sk X.prog X.w) (val:=λj=>ks.getD j []) (adr:=λj=>bs.getD j 0) (I.ok.hd hc) '!' pl.isList (λi v hv=>?_) (λj hj=>?_) (by rw[sz];omega) λh' tok led BY m keep AX=>?_
 ·rw[Qm,ye] at hv;obtain⟨b,h1,h2⟩:=yz.mp hv;rw[<-h2];show Value.ref b=Value.ref (bs.getD i 0);rw[yl,h1];rfl
 ·rw[sz] at hj;obtain⟨b,k,_,_,e1,e2,e3,e4⟩:=at_ j hj;show (T.sk X.prog X.w).d.kd.is s.heap (ks.getD j []) (bs.getD j 0);rw[e1,e2];exact T.is I.hok e3 e4
 ·rw[sz] at m;obtain⟨o,es,ep,t,us,J,l1,l2,l3,l4⟩:=m;have fresh:=I.hok.fresh (yh s.heap.objs.size);refine#[.ref s.heap.objs.size,_,I.laid (a:=s.heap.objs.size) (o:=.ext (vZ T X.prog X.w s.heap.objs.size us)) (t':=tok) (λb u hb=>keep b u (ym hb) hb) (yh _) #[#[o,es,ep,t,J.get,J.ex,J.data,J.ent,J.tb,l1.trans BY],#[o,J.get],λh1 h2 x k=>x.keep k],rfl,q _ us fresh J.nd (λk=>?_) λx hx=>?_]
  ·rw[l4 k];constructor
   ·rintro⟨j,hj,rfl⟩;obtain⟨b,k,_,h2,_,e2,_⟩:=at_ j hj;show ks.getD j []∈ks;rw[e2];exact yk h2
   ·intro hk;obtain⟨j,hj,ej⟩:=yD hk;exact#[j,by omega,by show ks.getD j []=k;rw[yl,yb hj,ej];rfl]
  ·obtain⟨j,hj,ej⟩:=l3 x hx;obtain⟨b,k,_,_,e1,e2,e3,e4⟩:=at_ j hj;have ej:x.2=b:=ej.trans e1;have i1:=J.is x hx;rw[ej] at i1;rw[ej,(T.sk X.prog X.w).d.kd.inj i1 (T.is I.hok e3 e4)];exact e3
theorem Zd (T:TK) (hc:X.calm=true) (hu:X.A.units+64<cLine):Jf X (.builtin "sorted") (λxs H Q=>∃(S:Addr) (us:List (T.α×Addr)),A5 (xs=[.ref S]) (H S=some (.ext (vZ T X.prog X.w S us))) (∀x∈us,T.M.V_ H (.ref x.2) x.1/\T.good x.1) (us.length<64)
  (∀l B8 By,H l=none->Uk T.M H B8 By->By.Perm (us.map (·.1))->(By.Pairwise λa b=>JY (JB T.O T.hd) b a=false)->Q (.ref l) (upd H l (.lst (B8.map V.ref))))):=by
 intro pins s σ H xs us Q I r h;obtain⟨S,vs,rfl,e,hv,hn,q⟩:=h;obtain⟨u,rfl,ru⟩:=J1 r;cases ru;obtain⟨⟨o,es,ep,t,h1,h2,h3,h4,h5,h6⟩,_⟩:=(show jP X.prog X.w H s.heap S (.ext (vZ T X.prog X.w S vs)) from I.hok S _ e);have sz:es.size=vs.length:=by rw[<-yA,h4,ya]
 have e0:es.toList.map (·.2)=vs.map λx=>Value.ref x.2:=by rw[h4,yq];rfl
 have hr:∀b k,T.M.V_ H (.ref b) k->T.M.R s.heap (.ref b) k:=λb k h=>T.M.raw I.hok h rfl;have ER:∀b k,T.M.V_ H (.ref b) k->Kz T.M s.heap [] (.ref b)=k:=λb k h=>sg (hr b k h);have hb:∀v∈vs.map (λx=>Value.ref x.2),∃x∈vs,v=.ref x.2:=λv h=>by
  obtain⟨x,hx,rfl⟩:=yi.mp h;exact#[x,hx,rfl]
 have X1:uc T.hd s.heap (vs.map λx=>Value.ref x.2) (Kz T.M s.heap []) T.d:=#[λv h=>by
   obtain⟨x,hx,rfl⟩:=hb v h;rw[ER _ _ (hv x hx).1];exact hr _ _ (hv x hx).1,λv h=>by
   obtain⟨x,hx,rfl⟩:=hb v h;rw[ER _ _ (hv x hx).1];exact T.fst (hv x hx).2,λu hu v h=>by
   obtain⟨x,hx,rfl⟩:=hb u hu;obtain⟨y,hy,rfl⟩:=hb v h;rw[ER _ _ (hv x hx).1,ER _ _ (hv y hy).1];exact T.cm (hv x hx).2 (hv y hy).2]
 have BA:(1000000:Nat)<=sizeLine:=by decide
 have hlen:(vs.map λx=>Value.ref x.2).length<64:=by rw[ya];omega
 have hod:=T.od;refine cz (hd:=T.hd) (kc:=Kz T.M s.heap []) (d:=T.d) '!' (λR hR=>Ny (A:=X.A.in1) (I.ok.hd hc) h1 h2 h3 h5 h6 (by rw[sz];omega) λCp h' tk dr pv kp lt=>hR Cp h' tk dr (e0▸pv) kp lt) X1 hlen λh' tk c dr p' out kp hp e' pm up=>?_;have ho:∀v∈out,∃b,v=.ref b/\T.M.V_ H (.ref b) (Kz T.M s.heap [] v):=λv h=>by
  obtain⟨x,hx,rfl⟩:=hb v (pm.mem_iff.mp h);exact#[x.2,rfl,by rw[ER _ _ (hv x hx).1];exact (hv x hx).1]
 have OP:jz ((out.map gl).map V.ref) out:=by
  clear pm up e'
  induction out with
  | nil=>exact .nil
  | cons v l ih =>
   obtain⟨b,rfl,_⟩:=ho v yw;exact .cons rfl (ih λv hv=>ho v (yn _ hv))
 have ka:Uk T.M H (out.map gl) (out.map (Kz T.M s.heap [])):=by
  clear pm up e' OP
  induction out with
  | nil=>exact .nil
  | cons v l ih =>
   obtain⟨b,rfl,x⟩:=ho v yw;exact .cons x (ih λv hv=>ho v (yn _ hv))
 have pk:(out.map (Kz T.M s.heap [])).Perm (vs.map (·.1)):=by
  refine (pm.map _).trans ?_;rw[yq];exact .of_eq (yY λx hx=>ER _ _ (hv x hx).1)
 refine#[.ref p',_,(I.laid (t':=tk) (o:=.lst ((out.map gl).map V.ref)) kp hp #[?_,out,c,OP,e']).drw dr,rfl,q p' _ _ (I.hok.fresh hp) ka pk (Qx.mpr up)];rw[ya,ya,pm.length_eq];exact TS.sz64 hlen
end
end L2
namespace SG
open PySem PySem.Spec PyProof.Rows L2 SetTable STb
variable {n ep:Nat}{hs:Nat->Int}{h:Heap}{es:AK}{a:Addr}{o:Obj}{xs:List (Key×Value)}{x:Value}{ks:List Key}{led:Bool}
structure Va (t:SetTable) (n:Nat):Prop where
 size:t.place.size=n
 ris:UI t.place
 dm:t.dummies=(List.toArray [])
 fits:t.fits n=true
theorem fw (n:Nat):UI (Array.range n):=λi k h hk=>by
 rw[Array.size_range] at hk;simp [Array.getD,Nat.lt_trans h hk,hk,h]
theorem Va.stand (t:SetTable) (n:Nat):Va (t.standIn n) n:=by
 refine#[by simp [SetTable.standIn],fw n,rfl,?_];unfold SetTable.fits SetTable.fill SetTable.standIn;simp;omega
theorem Va.or {t:SetTable} (h1:t.place.size=n->UI t.place) (h2:t.dummies=(List.toArray [])):Va (t.orStandIn n) n:=by
 unfold SetTable.orStandIn;cases hf:t.fits n with
 | true =>
  have hs:t.place.size=n:=by
   unfold SetTable.fits at hf;simp at hf;exact hf.1
  rw[if_pos rfl];exact#[hs,h1 hs,h2,hf]
 | false=>rw[if_neg '$'];exact .stand t n
theorem Va.of {t:SetTable} (T:Tbl t hs n):Va t n:=#[T.size,T.ris,T.dm,T.fits]
theorem ga {t:SetTable} (dm:t.dummies=(List.toArray [])) (R:UI t.place) {h:Int}:∀(fuel:Nat) (p:Probe) {j:Nat} {d:Option Nat},p.dummy=none->SetTable.probe.go t hs h fuel p=some (.empty j d)->¬uP t.place j/\d=none
 | 0,p,j,d,_,e=>by cases e
 | fuel+1,p,j,d,hp,e=>by
  rw[SetTable.probe.go] at e;by_cases ht:uP t.place p.j
  ·obtain⟨i,ha⟩:=ht;rw[VH R ha] at e;dsimp only at e
   split at e
   ·cases e
   ·refine ga dm R fuel _ ?_ e;rw[Md];unfold UM
    split<;>exact hp
  ·rw[GT R dm ht] at e;cases e;exact#[ht,hp]
theorem bS {t:SetTable} (dm:t.dummies=(List.toArray [])) (R:UI t.place) {h:Int} {j:Nat} {b:Bool} (e:t.freeSlot h=some (j,b)):¬uP t.place j/\b=false:=by
 unfold SetTable.freeSlot at e
 split at e
 ·rename_i j' d heq;obtain⟨h1,rfl⟩:=ga dm R _ _ (by rfl) heq;cases e;exact#[h1,rfl]
 ·cases e
theorem sv {t:SetTable} (T:Va t es.size) (h:Int) (x:Value):(layNew t es h x).1.toList.Perm ((h,x)::es.toList)/\Va (layNew t es h x).2.1 (es.size+1)/\(layNew t es h x).2.1.led=t.led:=by
 unfold layNew;cases hf:t.freeSlot h with
 | none =>
  dsimp only;refine#[?_,.stand t _,rfl];rw[Array.toList_push];exact (List.perm_append_comm (l₁:=es.toList) (l₂:=[(h,x)]))
 | some q =>
  obtain⟨j,b⟩:=q;obtain⟨nt,rfl⟩:=bS T.dm T.ris hf;dsimp only;have hb:=(vg T.ris j).1;have e1:(t.put j).2=below t.place j:=rfl;have e2:(t.put j).1.place=insertAt t.place (below t.place j) j:=rfl;have e3:(t.put j).1.dummies=(List.toArray []):=by
   show (if has t.dummies _ then eraseAt t.dummies _ else t.dummies)=(List.toArray []);rw[T.dm];rfl
  have hp:(t.put j).2<=es.size:=by rw[e1,<-T.size];exact hb
  have sz:(insertAt es (t.put j).2 (h,x)).size=es.size+1:=uy es hp _;refine#[?_,?_,?_]
  ·rw[VJ es hp];refine List.perm_middle.trans ?_;rw[Qo]
  ·rw[sz];exact .or (λ_=>by rw[e2];exact aQ T.ris nt) e3
  ·unfold SetTable.orStandIn
   split<;>rfl
theorem fk {t:SetTable} (h1:1<=es.size) (h2:es.size<=1000):(relayAll t es (grown es.size)).1.toList.Perm es.toList/\Va (relayAll t es (grown es.size)).2.1 es.size/\(relayAll t es (grown es.size)).2.1.led=t.led:=by
 obtain⟨t3,order,e3,Er,DU,T3,_,_,_,l3,_,_⟩:=n5 (t:=t) (es:=es) h1 h2;refine#[relayAll_perm t es _,?_];unfold relayAll;rw[e3];dsimp only;split
 ·exact#[DU▸Va.of T3,l3]
 ·exact#[.stand t _,rfl]
section
variable {P:AS}{w:World}{A:Around}{E:Ax}{s:Shared}
structure SJ (P:AS) (w:World) (h:Heap) (a:Addr) (o:Obj) (es:AK) (ep:Nat) (t:SetTable) (xs:List (Key×Value)):Prop where
 get:h.get? a=some o
 ex:o.ExactSet
 data:o.data=.set es ep t
 ent:es.toList.Perm (xs.map λx=>((jr P w).hash x.1,x.2))
 tb:Va t es.size
 is:∀x∈xs,ur x.1 x.2=true
 nd:(xs.map (·.1)).Nodup
theorem SJ.len {t:SetTable} (I:SJ P w h a o es ep t xs):es.size=xs.length:=by
 rw[<-yA,I.ent.length_eq,ya]
theorem SJ.elems {t:SetTable} (I:SJ P w h a o es ep t xs):ElemsOf (jr P w) es.toList:=λe he=>by
 obtain⟨x,hx,rfl⟩:=yi.mp (I.ent.mem_iff.mp he);exact#[#[x.1,I.is x hx,rfl],(vD (I.is x hx)).1]
theorem im {g:Bool->Sem Unit} (hg:∀(b:Bool) (s:Shared) (Q':Ay),Q' () s->wpAny (model P w) A (g b) Q' E s) {t:SetTable} {k:Key} (I:SJ P w s.heap a o es ep t xs) (hk:ur k x=true) (hn:xs.length<=990) (Dg:k ∉ xs.map (·.1))
  {Bi:AK} {t2:SetTable} (BW:Bi.toList.Perm (((jr P w).hash k,x)::es.toList)) (T2:Va t2 Bi.size) {wd:Bool} {R:Option Bool->Shared->Prop}
  (h:∀h' o' Bx BK t',SJ P w h' a o' Bx BK t' ((k,x)::xs)->Heap.SameBut a s.heap h'->t'.led=t2.led->R (some true) { s with heap:=h' }) :
  wpAny (model P w) A (do
    storeSet a Bi t2
    if (!wd&&t2.tooFull)=true then do
      g (relayAll t2 Bi (grown Bi.size)).2.2
      storeSet a (relayAll t2 Bi (grown Bi.size)).1 (relayAll t2 Bi (grown Bi.size)).2.1
      pure (some true)
     else pure (some true)) R E s:=by
 have hl:=I.len;have Vp:Bi.size=es.size+1:=by rw[<-yA,BW.length_eq,yQ,yA]
 have en:Bi.toList.Perm (((k,x)::xs).map λy=>((jr P w).hash y.1,y.2)):=BW.trans (I.ent.cons _);have FJ:∀y∈(k,x)::xs,ur y.1 y.2=true:=λy hy=>by
  rcases yr.mp hy with rfl|hy
  ·exact hk
  ·exact I.is y hy
 have Ep:(((k,x)::xs).map (·.1)).Nodup:=y7.mpr #[Dg,I.nd];have g1:=VI I.get I.data Bi t2;have BX:=Heap.SameBut.update s.heap a (Obj.putSet Bi t2);refine AT (wpAny_storeSet_of I.get I.data ?_ (by rw[Vp,hl];exact yp (QG hn) '$'));split
 ·obtain⟨Er,T3,l3⟩:=fk (t:=t2) (es:=Bi) '!' '!';generalize relayAll t2 Bi (grown Bi.size)=rl at Er T3 l3;obtain⟨IX,t3,gv⟩:=rl;dsimp only at Er T3 l3 ⊢;have DU:IX.size=Bi.size:=by rw[<-yA,Er.length_eq,yA]
  refine AT (hg _ _ _ (AT (wpAny_storeSet_of (s:={ s with heap:=s.heap.update a (Obj.putSet Bi t2) }) g1 rfl (AU ?_) (by rw[DU,Vp,hl];exact yp (QG hn) '$'))));exact h _ _ IX _ t3 #[VI g1 rfl IX t3,I.ex,rfl,Er.trans en,by rw[DU];exact T3,FJ,Ep] (BX.trans (Heap.SameBut.update ..)) l3
 ·exact AU (h _ _ Bi _ t2 #[g1,I.ex,rfl,en,T2,FJ,Ep] BX rfl)
theorem il {t:SetTable}{k:Key}{Q:Az} (I:SJ P w s.heap a o es ep t xs) (hk:ur k x=true) (hn:xs.length<=990)
  (q1:k∈xs.map (·.1)->Q false s) (q2:k ∉ xs.map (·.1)->∀h' o' Bx BK t',SJ P w h' a o' Bx BK t' ((k,x)::xs)->Heap.SameBut a s.heap h'->t'.led=t.led->Q true { s with heap:=h' }) :
  wpAny (model P w) A (setAddHashed a x ((jr P w).hash k)) Q E s:=by
 have hl:=I.len;unfold setAddHashed setAddHashedIn;refine wpAny_holding (AT (wpAny_setState_of I.get I.data I.tb.fits ?_));dsimp only;rw[byScan_of (knd:=jr P w) (vD hk).1 (by rw[hl];exact yK hn '$') I.elems,if_pos rfl];refine AT ?_;unfold setAddByScan;refine AT (wpAny_rule (AT (wpAny_setScan_of (knd:=jr P w) hk I.get I.data I.tb.fits I.elems ?_)));cases hf:es.toList.findIdx? (λe=>(jr P w).is k e.2) with
 | some j =>
  dsimp only;refine AU (AU (q1 ?_));obtain⟨hj,e1,_⟩:=List.findIdx?_eq_some_iff_getElem.mp hf;obtain⟨y,hy,e2⟩:=yi.mp (I.ent.mem_iff.mp (yB hj));rw[<-e2] at e1;exact yi.mpr #[y,hy,(jr P w).inj _ _ _ (I.is y hy) e1]
 | none =>
  have Dg:k ∉ xs.map (·.1):=λh=>by
   obtain⟨y,hy,rfl⟩:=yi.mp h;have:=List.findIdx?_eq_none_iff.mp hf _ (I.ent.mem_iff.mpr (yi.mpr #[y,hy,rfl]));rw[show (jr P w).is y.1 y.2=true from I.is y hy] at this;cases this
  dsimp only;obtain⟨BW,T1,l1⟩:=sv I.tb ((jr P w).hash k) x;generalize layNew t es ((jr P w).hash k) x=ly at BW T1 l1;obtain⟨Bi,t1,wd,gv⟩:=ly;dsimp only at BW T1 l1 ⊢;have Vp:Bi.size=es.size+1:=by rw[<-yA,BW.length_eq,yQ,yA]
  have go:=λ(t2:SetTable) (T2:Va t2 Bi.size) (l2:t2.led=t.led) (g:Bool->Sem Unit) (hg:∀(b:Bool) (s:Shared) (Q':Ay),Q' () s->wpAny (model P w) A (g b) Q' E s) (R:Option Bool->Shared->Prop) (hR:∀s',Q true s'->R (some true) s')=>im (s:=s) (A:=A) (E:=E) (wd:=wd) (R:=R) hg I hk hn Dg BW T2 λh' o' Bx BK t' J sb l=>hR _ (q2 Dg h' o' Bx BK t' J sb (l.trans l2));have ES:Va t1 Bi.size:=by rw[Vp];exact T1
  cases gv<;>first|refine AT (AU ?_)|refine AT (wpAny_rule ?_)
  all_goals
   split
   ·rw[hashByValue_scannable _ (vD hk).1];refine AT (AU ?_);cases plainKind x with
    | true=>exact go t1 ES l1 _ (λb s Q' q=>by cases b;exact AU q;exact wpAny_rule q) _ λs' q=>AU q
    | false=>exact go { t1 with plain:=false } #[ES.size,ES.ris,ES.dm,ES.fits] l1 _ (λb s Q' q=>by cases b;exact AU q;exact wpAny_rule q) _ λs' q=>AU q
   ·refine AT (AU ?_);exact go t1 ES l1 _ (λb s Q' q=>by cases b;exact AU q;exact wpAny_rule q) _ λs' q=>AU q
end
section
variable {P:AS}{w:World}
def gX (P:AS) (w:World) (S:Addr) (ks:List Key) (led:Bool) (i:Nat) (h:Heap):Prop :=
 ∃o es ep t xs,SJ P w h S o es ep t xs/\t.led=led/\xs.length<=i/\∀k,k∈xs.map (·.1)↔k∈ks.take i
theorem gX.keep {S:Addr}{i:Nat}{h':Heap} (m:gX P w S ks led i h) (hS:∀o,h.get? S=some o->h'.get? S=some o):gX P w S ks led i h':=by
 obtain⟨o,es,ep,t,xs,I,r⟩:=m;exact#[o,es,ep,t,xs,#[hS _ I.get,I.ex,I.data,I.ent,I.tb,I.is,I.nd],r]
variable {A:Around}{R:Result->Shared->Prop}{It:Addr}{fp wr:AI}{G:Array GenState->Array GenState->Prop}{n:Nat}{Pr:Nat->Value->Prop}{St:Nat->Shared->Prop}
theorem M1 (W:WalksS P w A.in1 It fp wr G n Pr St) (S:Addr) (DB:S ∉ fp) (ks:List Key) (led:Bool) (CK:∀i v,Pr i v->∃k,ks[i]?=some k/\ur k v=true) (hb:n<=990) :
  ∀(d i:Nat) (s:Shared),n - i=d->i<=n->St i s->gX P w S ks led i s.heap->(∀s',Moved (S::wr) G s s'->gX P w S ks led n s'.heap->R (.ok (.ret .none)) s') ->
   codeAny (model P w) A (.builtin "set.update.loop" #[[.ref S,.ref It],[]]) R s
 | 0,i,s,hd,hi,st,m,hR=>by
  obtain rfl:i=n:=by omega
  refine codeAny_builtin PyProof.Rows.F.entry_set_update_loop ?_;rw[Around.under_plainId PyProof.Rows.F.plain_set_update_loop _];refine AT (W.done s _ _ st λs' mv=>AU (hR s' (mv.mono λb hb=>yn _ hb) ?_));exact m.keep λo e=>mv.heap S o (λz=>DB (W.sub _ z)) e
 | d+1,i,s,hd,hi,st,m,hR=>by
  have AX:i<n:=by omega
  refine codeAny_builtin PyProof.Rows.F.entry_set_update_loop ?_;rw[Around.under_plainId PyProof.Rows.F.plain_set_update_loop _];refine AT (W.item i s _ _ AX st λv s' hP Bp mv=>?_);obtain⟨k,ek,hk⟩:=CK i v hP;have tk:ks.take (i+1)=ks.take i++[k]:=by rw[List.take_add_one,ek];rfl
  obtain⟨o,es,ep,t,xs,I,l1,l2,l4⟩:=m.keep (h':=s'.heap) λo e=>mv.heap S o (λz=>DB (W.sub _ z)) e;have IS:∀b∈wr,b∈S::wr:=λb hb=>yn _ hb;refine AT (wpAny_holding ?_);unfold setAdd;refine wpAny_holding (AT ((jr P w).pyHash (k:=k) hk ?_));have go:∀(h':Heap) (tok:Nat),s'.toks<=tok->Heap.SameBut S s'.heap h'->gX P w S ks led (i+1) h'->codeAny (model P w) A (.builtin "set.update.loop" #[[.ref S,.ref It],[]]) R { s' with heap:=h',toks:=tok }:=λh' tok ht sb m'=>by
   refine M1 W S DB ks led CK hb d (i+1) _ '!' AX (W.frame _ s' _ _ Bp ht λb hb o e=>?_) m' λs2 IT m2=>hR s2 (Moved.trans W.gtrans ((mv.mono IS).then_heap ht λb o hb e=>?_) IT) m2
   ·rw[sb.2 b (λz:b=S=>DB (by rw[<-z];exact hb))];exact e
   ·rw[sb.2 b (λz:b=S=>hb (by rw[z];exact yw))];exact e
  refine il (s:={ s' with toks:=_ }) I hk '!' (λBB=>?_) (λDg h' o' Bx BK t' I' sb hl=>?_)
  ·refine AU #[plainId_quiet PyProof.Rows.F.plain_set_update_loop _,go s'.heap _ (Nat.le_add_right _ _) (Heap.SameBut.refl S s'.heap) #[o,es,ep,t,xs,I,l1,by omega,λk'=>?_]];rw[l4 k',tk,yL,yu];exact#[.inl,λz=>z.elim id λz=>by rw[z];exact (l4 k).mp BB]
  ·refine AU #[plainId_quiet PyProof.Rows.F.plain_set_update_loop _,go h' _ (Nat.le_add_right _ _) sb #[o',Bx,BK,t',_,I',hl.trans l1,by rw[yQ];omega,λk'=>?_]];rw[yH,yr,l4 k',tk,yL,yu];exact or_comm
end
section
variable {P:AS}{w:World}{A:Around}{E:Ax}{s:Shared}
theorem qj {S:Nat} (e:h.get? S=some (Ux led)):gX P w S ks led 0 h :=
 #[_,(List.toArray []),0,_,[],#[e,#[rfl,rfl,rfl],rfl,.nil,#[rfl,λi k _ hk=>absurd hk (by simp [SetTable.fresh]),rfl,rfl],λx hx=>(by cases hx),Qk],rfl,yh _,λk=>by simp]
theorem K6 {l:Addr}{items:AN}{Q:Ax} (hh:A.handled=none) (hl:s.heap.IsList l items) (hit:∀(i:Nat) v,items[i]?=some v->∃k,ks[i]?=some k/\ur k v=true) (hb:items.size<=990)
  (h:∀(h':Heap) (tok:Nat) (led:Bool),led=(!w.params.followText "set-order")->gX P w s.heap.objs.size ks led items.size h'->(∀b o,b<s.heap.objs.size->s.heap.get? b=some o->h'.get? b=some o)->s.heap.objs.size<h'.objs.size->Q (.ref s.heap.objs.size) { s with heap:=h',toks:=tok }) :
  wpAny (model P w) A (call (.type "set") [.ref l]) Q E s:=by
 obtain⟨c,tl,hm⟩:=PySem.F.called_set.mro;have RV:=PySem.F.called_set.made;have IU:=PySem.F.called_set.sub;refine wpAny_call (codeAny_of_tree ?_);show wpAny _ _ (callAny (.type "set") _) _ _ _;refine AU #[Code.quiet_builtin _ (by decide +kernel),codeAny_builtin PySem.F.entry_type_call ?_];rw[Around.under_plain (weight_type_call_type "set" [.ref l] []) rfl];have g1:=PySem.F.called_set.notType;have g2:=PySem.F.called_set.canCreate;have g3:=PySem.F.typeCall_set_1 (.ref l)
 repeat (any_goals (first|assumption|wp_step))
 refine codeAny_mono (V1 (.ref l) (E:=E) (Q₁:=λv s1=>∃led:Bool,led=(!w.params.followText "set-order")/\v=.ref s.heap.objs.size/\s1={ s with heap:=s.heap.push (Ux led) }) #[_,rfl,rfl,rfl]) λr s1 hr=>?_;cases r with
 | error e=>exact hr
 | ok f1 =>
  cases f1 with
  | ret v =>
   obtain⟨led,BY,rfl,rfl⟩:=hr;have e1:(s.heap.push (Ux led)).get? s.heap.objs.size=some (Ux led):=yo _ rfl;have ty:Shared.TypeIs { s with heap:=s.heap.push (Ux led) } (.ref s.heap.objs.size) "set":=#[_,e1,rfl];have g4:=PySem.F.called_set.init.lookup;have g5:=PySem.F.called_set.init.bind (.ref s.heap.objs.size)
   repeat (any_goals (first|assumption|wp_step))
   refine codeAny_mono (codeAny_call_builtin (R:=wants (λr s2=>r=.none/\∃h' tok,s2={ s with heap:=h',toks:=tok }/\gX P w s.heap.objs.size ks led items.size h'/\(∀b o,b<s.heap.objs.size->s.heap.get? b=some o->h'.get? b=some o)) E) PySem.F.called_set.init.plain F.entry_set_init (check_set_init_1 ty ?_)) λr2 s2 Ci=>?_
   ·obtain⟨ol,Dp,En,nl,Dq⟩:=hl;obtain⟨o1,o2,o3,o4⟩:=ol;simp only at En Dq;subst En;subst Dq;have Es:(s.heap.push (Ux led)).get? l=some { cls:=.type "list",dict:=o2,data:=.seq items nl,slots:=o4 }:=yd _ Dp;have g6:=PySem.F.sub_list_set;have g7:=PySem.F.sub_list_frozenset;have g8:(Value.type "list"==Value.type "dict")=false:=by decide
    have hl1:(s.heap.push (Ux led)).IsList l items:=#[_,Es,rfl,nl,rfl];unfold Builtin.«set.__init__» noKeywords Builtin.Frozenset.updateFrom;generalize IV:pyIter=PI
    wp_walk
    subst IV;refine wpAny_pyIter_list hl1 (AT (wpAny_runValue ?_));have FK:l<s.heap.objs.size:=ym Dp;have BG:(s.heap.push (Ux led)).objs.size=s.heap.objs.size+1:=Qs ..;refine M1 ((Walks.list (by simp [hh]) _ l (by rw[BG];exact yx (Qw FK)) items).toS) s.heap.objs.size ?hS ks led hit hb (items.size - 0) 0 _ '!' (yT _) #[#[_,yo _ rfl,rfl,rfl],(hl1.push _)] (qj (yd _ e1)) ?hR
    case hS=>rw[BG];simp only[yr,yP,or_false,not_or];exact#[yx (Wa _),Qe FK]
    case hR =>
     intro s' mv m';obtain⟨h',g',d',IW,Ef⟩:=s';have eg:g'=s.gens:=mv.gens;have ed:d'=s.drawn:=mv.drawn;have eo:Ef=s.os:=mv.os;subst eg;subst ed;subst eo;refine AU (AU #[rfl,h',IW,rfl,m',λb o hb e=>?_]);refine mv.heap b o ?_ (yd _ (yd _ e));rw[BG];simp only[yr,yP,or_false,not_or];exact#[yx hb,yx (Qw hb)]
   ·cases r2 with
    | error e=>exact Ci
    | ok f2 =>
     cases f2 with
     | ret r =>
      obtain⟨rfl,h',tok,rfl,m',keep⟩:=Ci
      repeat (any_goals (first|assumption|wp_step))
      have m2:=m';obtain⟨o',_,_,_,_,I',_⟩:=m2;exact h h' tok led BY m' keep (ym I'.get)
     | _=>exact Ci.elim
  | _=>exact hr.elim
end
end SG
namespace L2
open PySem PySem.Spec PyProof.Rows TS SG STb
variable {S:Addr}{h':Heap}{Q:Ax}{T:TK}{u:Value}
def Uj (P:AS) (w:World) (S:Addr) (us:List Key) (h:Heap):Prop:=∃o es ep t xs,SJ P w h S o es ep t xs/\xs.map (·.1)=us/\t.led=(!w.params.followText "set-order")
theorem Uj.keep {P:AS}{w:World}{us:List Key}{h:Heap} (x:Uj P w S us h) (k:∀o,h.get? S=some o->h'.get? S=some o):Uj P w S us h':=by
 obtain⟨o,es,ep,t,xs,I,r⟩:=x;exact#[o,es,ep,t,xs,#[k _ I.get,I.ex,I.data,I.ent,I.tb,I.is,I.nd],r]
section
variable {prog:AS}{w:World}{A:Around}{E:Ax}{s:Shared}
theorem NB {o:Obj}{es:AK}{ep:Nat}{tb:SetTable}{Q:List Value->Shared->Prop} (hh:A.handled=none) (ho:s.heap.get? S=some o) (hx:o.ExactSet) (hd:o.data=.set es ep tb) (T:Va tb es.size) (hl:tb.led=(!w.params.followText "set-order")) (hn:es.size<=1000000)
  (q:∀vs h' tk d,vs.Perm (es.toList.map (·.2))->(∀b o,s.heap.get? b=some o->h'.get? b=some o)->s.heap.objs.size<h'.objs.size->Q vs { s with heap:=h',toks:=tk,drawn:=d }):wpAny '#' A (collect (.ref S)) Q E s:=by
 by_cases hz:w.params.followText "set-order"=false/\(!tb.plain&&decide (es.size > 1))=true
 ·refine AT (fC hh #[o,ho,hx,hd,T.fits,hz.1,hz.2] hn λh' tk d acc c kp e pm=>?_);show wpAny _ A (load s.heap.objs.size>>=_) _ _ _;exact AT (wpAny_load e (AU (q _ h' tk d pm kp (ym e))))
 ·refine SG.collect_set hh (#[o,ho,hx,hd,T.fits,T.ris,T.size,hl,λh=>?_]:SG.Wk w s.heap S es ep tb) (yp hn '$') λh' tk kp lt=>q _ h' tk s.drawn ((gH w S ep es).map _) kp lt;cases hp:(!tb.plain&&decide (es.size > 1)) with
  | false=>rfl
  | true=>exact absurd #[h,hp] hz
theorem gc {x:Value}{ns0:List Int}{Q:Ax}
  (hc:∀R:List Value->Shared->Prop,(∀vs ns h' tk dr,IntsAre vs ns->ns.Perm ns0->(∀b o,s.heap.get? b=some o->h'.get? b=some o)->s.heap.objs.size<h'.objs.size->R vs { s with heap:=h',toks:=tk,drawn:=dr })->wpAny '#' A.in1 (collect x) R E s) (hl:ns0.length<64)
  (q:∀(h':Heap) (tk c:Nat) (dr:Drawn) (p:Addr) (out:AH) (ns:List Int),(∀b o,s.heap.get? b=some o->h'.get? b=some o)->s.heap.objs.size<=p->h'.get? p=some (seqObj "list" out.toArray c)->IntsAre out ns->ns.Perm ns0->ns.Pairwise (·<=·)->Q (.ref p) { s with heap:=h',toks:=tk,drawn:=dr }) :
  wpAny '#' A (call (.builtin "sorted") [x]) Q E s:=by
 refine Calls.call_function_entry kind_sorted plain_sorted entry_sorted (args_sorted1 _) ?_;refine AT (m:=checkCount "sorted" 1 1 _) (AU ?_);refine AT (hc _ λvs ns h' tk dr hi pv kp lt=>?_);have DS:vs.length<64:=by rw[hi.length,pv.length_eq];exact hl
 refine AT (wpAny_newList ?_ (yp (y4 DS) '$'));have e1:(h'.push (seqObj "list" vs.toArray 0)).get? h'.objs.size=some (seqObj "list" vs.toArray 0):=yo _ rfl;have El:∀b o,s.heap.get? b=some o->(h'.push (seqObj "list" vs.toArray 0)).get? b=some o:=λb o e=>yd _ (kp b o e);refine AT (wpAny_holding (wpAny_call_entry slot_list_sort #[_,e1,rfl] entry_list_sort (list_sort_tree (s:={ s with heap:=h'.push (seqObj "list" vs.toArray 0),toks:=tk,drawn:=dr }) e1 hi DS λout Be a1 a2 a3=>#[_,rfl,AU #[_,rfl,?_]]) (args_list_sort _)));obtain⟨c,g1,g2⟩:=TS.sortedHeap_at (out:=out) e1;exact q _ tk c dr _ out.toList Be (λb o e=>g2 b o (yx (Nat.lt_trans (ym e) lt)) (El b o e)) (y4 lt) (by rw[QJ];exact g1) a1 (a2.trans pv) a3
end
theorem MY {k:Key}{v:Value} (r:jE (kV k) v):ur k v=true:=by
 cases k with
 | inl i=>obtain⟨t,rfl⟩:=r;exact KB i t
 | inr x=>obtain⟨t,rfl⟩:=r;exact KC x t
theorem KF:∀{ks:List Key} {vs:AH},jz (ks.map kV) vs->ks.length=vs.length/\∀(i:Nat) v,vs[i]?=some v->∃k,ks[i]?=some k/\ur k v=true
 | [],_,.nil=>#[rfl,λi v h=>by cases h]
 | k::ks,_,.cons r t=>by
  obtain⟨h1,h2⟩:=KF t;refine#[by rw[yQ,yQ,h1],λi v e=>?_];cases i with
  | zero=>cases e;exact#[k,rfl,MY r]
  | succ i=>exact h2 i v e
section
variable {X:Cx}
theorem vC (hc:X.calm=true):Jf X (.type "set") (λxs H Q=>∃(p:Addr) (ks:List Key),A4 (xs=[.ref p]) (H p=some (.lst (ks.map kV))) (ks.length<=990)
  (∀S us,H S=none->us.Nodup->(∀k,k∈us↔k∈ks)->Q (.ref S) (upd H S (.ext (Uj X.prog X.w S us))))):=by
 intro pins s σ H xs us Q I r h;obtain⟨p,ks,rfl,e,hn,q⟩:=h;obtain⟨u,rfl,ru⟩:=J1 r;cases ru;obtain⟨AV,rv,pl,hz⟩:=I.list (jg.of e);obtain⟨hl,hv⟩:=KF rv;have sz:AV.toArray.size=ks.length:=by rw[yg,hl]
 refine K6 (ks:=ks) (I.ok.hd hc) pl.isList (λi v h=>hv i v (by rw[<-h,Qm])) (by rw[sz];exact hn) λh' tok led BY m keep AX=>?_;rw[sz] at m;obtain⟨o,es,ep,t,xs,J,l1,l2,l4⟩:=m;rw[List.take_length] at l4;exact#[.ref s.heap.objs.size,_,I.laid (a:=s.heap.objs.size) (o:=.ext (Uj X.prog X.w s.heap.objs.size (xs.map (·.1)))) (t':=tok) (λb u hb=>keep b u (ym hb) hb) (yh _) #[#[o,es,ep,t,xs,J,rfl,l1.trans BY],#[o,J.get],λh1 h2 x k=>x.keep k],rfl,q _ _ (I.hok.fresh (yh _)) J.nd l4]
theorem Kh:Jf X (.builtin "len") (λxs H Q=>∃(S:Addr) (us:List Key),A4 (xs=[.ref S]) (H S=some (.ext (Uj X.prog X.w S us))) (us.length<=1000000) (Q (.int us.length) H)):=by
 intro pins s σ H xs us Q I r h;obtain⟨S,vs,rfl,e,hn,q⟩:=h;obtain⟨u,rfl,ru⟩:=J1 r;cases ru;obtain⟨⟨o,es,ep,t,xs,J,rfl,_⟩,_⟩:=(show jP X.prog X.w H s.heap S (.ext (Uj X.prog X.w S vs)) from I.hok S _ e);have sz:es.size=(xs.map (·.1)).length:=by rw[ya];exact J.len
 refine call_len_set J.get J.ex J.data J.tb.fits (by rw[sz];omega) ?_;rw[sz];exact#[.int _,H,I.tok _,#[_,rfl],q]
theorem Ve (hc:X.calm=true):Jf X (.builtin "sorted") (λxs H Q=>∃(S:Addr) (ns:List Int),A4 (xs=[.ref S]) (H S=some (.ext (Uj X.prog X.w S (ns.map Sum.inl)))) (ns.length<64)
  (∀(l:Addr) (Be:List Int),H l=none->Be.Perm ns->Be.Pairwise (·<=·)->Q (.ref l) (upd H l (.lst (Be.map V.int))))):=by
 intro pins s σ H xs us Q I r h;obtain⟨S,ns,rfl,e,hn,q⟩:=h;obtain⟨u,rfl,ru⟩:=J1 r;cases ru;obtain⟨⟨o,es,ep,t,xs,J,ek,hl⟩,_⟩:=(show jP X.prog X.w H s.heap S (.ext (Uj X.prog X.w S (ns.map Sum.inl))) from I.hok S _ e);have lx:xs.length=ns.length:=by have:=congrArg List.length ek;simpa using this
 have sz:es.size=ns.length:=by rw[J.len,lx]
 have ex:∀{ys:List (Key×Value)} {ms:List Int},(∀y∈ys,ur y.1 y.2=true)->ys.map (·.1)=ms.map Sum.inl->IntsAre (ys.map (·.2)) ms:=by
  intro ys
  induction ys with
  | nil=>intro ms _ h;cases ms with|nil=>exact .nil|cons=>cases h
  | cons y ys ih =>
   intro ms hi h;cases ms with
   | nil=>cases h
   | cons m ms =>
    rw[yH,yH] at h;injection h with h1 h2
    have:=hi y yw;rw[h1] at this;rcases Jl this with ⟨i,t,e1,e2⟩|⟨z,t,e1,_⟩
    ·cases e1;rw[yH,e2];exact .cons _ t (ih (λy hy=>hi y (yn _ hy)) h2)
    ·cases e1
 have RZ:(es.toList.map (·.2)).Perm (xs.map (·.2)):=by
  have:=J.ent.map Prod.snd;rwa [yq] at this
 refine gc (ns0:=ns) (λR hR=>NB (A:=X.A.in1) (I.ok.hd hc) J.get J.ex J.data J.tb hl (by rw[sz];exact yp (y4 hn) '$') λvs h' tk dr pv kp lt=>?_) hn λh' tk c dr p' out Be kp hp e' a1 a2 a3=>?_
 ·obtain⟨ys,py,ey⟩:=STb.perm_map (pv.trans RZ) xs rfl;have hy:∀y∈ys,ur y.1 y.2=true:=λy h=>J.is y (py.mem_iff.mp h);have hk:∃ms:List Int,ys.map (·.1)=ms.map Sum.inl/\ms.Perm ns:=by
   have p2:(ys.map (·.1)).Perm (ns.map Sum.inl):=ek▸py.map _;obtain⟨ms,pm,em⟩:=STb.perm_map p2 ns rfl;exact#[ms,em,pm]
  obtain⟨ms,em,pm⟩:=hk;exact hR vs ms h' tk dr (ey▸ex hy em) pm kp lt
 ·refine#[.ref p',_,(I.laid (t':=tk) (o:=.lst (Be.map V.int)) kp hp #[?_,out,c,VL a1,e']).drw dr,rfl,q p' _ (I.hok.fresh hp) a2 a3];rw[ya,a2.length_eq];exact yp (y4 hn) '$'
end
def oA {α:Type} (p:α×Addr×Int) (q:α×Addr×Value):Prop:=p.1=q.1/\p.2.1=q.2.1/\∃t,q.2.2=Value.int p.2.2 t
def Ui (T:TK) (P:AS) (w:World) (a:Addr) (kvs:List (T.α×Addr×Int)) (h:Heap):Prop :=
 (a==sysModules)=false/\∃(xs:List (T.α×Addr×Value)) (o:Obj) (es:Array DictEntry) (ep:Nat),Paired oA kvs xs/\h.get? a=some o/\o.ExactDict/\o.data=.dict es ep/\es.toList=xs.map (entryOfKey (T.sk P w).d.kd)/\(xs.map (·.1)).Nodup
theorem Ui.keep {P:AS}{w:World}{a:Addr}{kvs:List (T.α×Addr×Int)}{h:Heap} (x:Ui T P w a kvs h) (k:∀o,h.get? a=some o->h'.get? a=some o):Ui T P w a kvs h':=by
 obtain⟨hd,xs,o,es,ep,p,e,r⟩:=x;exact#[hd,xs,o,es,ep,p,k _ e,r]
def VT (kvs:List (T.α×Addr×Int)) (k:T.α):Option Int:=(kvs.find? λx=>decide (x.1=k)).map (·.2.2)
theorem gO:∀{kvs:List (T.α×Addr×Int)} {xs:List (T.α×Addr×Value)},Paired oA kvs xs->∀k,match VT kvs k,atKey xs k with|some n,some p=>∃t,p.2=Value.int n t|none,none=>True|_,_=>False
 | _,_,.nil,k=>trivial
 | _,_,.cons (a:=p) (b:=q) r t,k=>by
  unfold VT atKey;rw[QA,QA,<-r.1];by_cases h:p.1=k
  ·rw[decide_eq_true h];exact r.2.2
  ·rw[decide_eq_false h];exact gO t k
theorem nQ:∀{kvs:List (T.α×Addr×Int)} {xs:List (T.α×Addr×Value)},Paired oA kvs xs->∀x∈xs,∃p∈kvs,p.1=x.1/\p.2.1=x.2.1
 | _,_,.nil,x,h=>by cases h
 | _,_,.cons r t,x,h=>by
  rcases yr.mp h with rfl|h
  ·exact#[_,yw,r.1,r.2.1]
  ·obtain⟨p,hp,e⟩:=nQ t x h;exact#[p,yn _ hp,e]
theorem vz {α β:Type}{F:α->β->Prop}{a:α}{b:β} (h:F a b):∀{l:List α} {m:List β},Paired F l m->Paired F (l++[a]) (m++[b])
 | _,_,.nil=>.cons h .nil
 | _,_,.cons r t=>.cons r (vz h t)
def N7 (T:TK) (H:Hp) (kvs:List (T.α×Addr×Int)):Prop:=∀x∈kvs,T.M.V_ H (.ref x.2.1) x.1/\T.good x.1
section
variable {X:Cx}{pins:AF}{σ:St}{H:Hp}{s:Shared}{a b:Addr}{A:Around}{E:Ax}{T:TK}{kvs:List (T.α×Addr×Int)}{k:T.α}{n:Int}
theorem G8 (I:ji X pins σ H s) (e:H a=some (.ext (Ui T X.prog X.w a kvs))) (ky:N7 T H kvs):(a==sysModules)=false/\∃xs,Paired oA kvs xs/\s.heap.DictOfH (T.sk X.prog X.w).d.kd a xs:=by
 obtain⟨⟨hd,xs,o,es,ep,p,g,h1,h2,h3,h4⟩,_⟩:=(show jP X.prog X.w H s.heap a (.ext (Ui T X.prog X.w a kvs)) from I.hok a _ e);refine#[hd,xs,p,o,es,ep,g,h1,h2,h3,λx hx=>?_,h4];obtain⟨q,hq,e1,e2⟩:=nQ p x hx;rw[<-e1,<-e2];exact T.is I.hok (ky q hq).1 (ky q hq).2
theorem fA (T:TK) (P:AS) (w:World) (hu:A.units+64<cLine):(T.sk P w).d.kd.room A.in1:=(T.sk P w).d.roomOk (by have:=T.dp P w;show A.units+1+_<cLine;omega)
theorem rQ (hu:A.units+64<cLine) (I:ji X pins σ H s) (e:H a=some (.ext (Ui T X.prog X.w a kvs))) (ky:N7 T H kvs) (hb:T.M.V_ H (.ref b) k) (hg:T.good k) (hv:VT kvs k=some n) (q:∀w' s',ji X pins σ H s'->jE (.int n) w'->Q w' s') :
  wpAny (model X.prog X.w) A (getItem (.ref a) (.ref b)) Q E s:=by
 obtain⟨hd,xs,p,dd⟩:=G8 I e ky;have f:=gO p k;rw[hv] at f;cases ha:atKey xs k with
 | none=>rw[ha] at f;exact f.elim
 | some r =>
  rw[ha] at f;obtain⟨t,et⟩:=f;refine wpAny_getItem_heap (fA T X.prog X.w hu) (T.is I.hok hb hg) dd ha ?_;exact q _ _ (I.tok _) #[t,et]
theorem rR {Q:Ay}{r:Value} (hu:A.units+64<cLine) (I:ji X pins σ H s) (e:H a=some (.ext (Ui T X.prog X.w a kvs))) (ky:N7 T H kvs) (hb:T.M.V_ H (.ref b) k) (hg:T.good k) (hv:VT kvs k=none) (hl:kvs.length<=1000) (rv:jE (.int n) r)
  (q:∀s',ji X pins σ (upd H a (.ext (Ui T X.prog X.w a (kvs++[(k,b,n)])))) s'->Q () s'):wpAny (model X.prog X.w) A (setItem (.ref a) (.ref b) r) Q E s:=by
 obtain⟨hd,xs,p,dd⟩:=G8 I e ky;have f:=gO p k;rw[hv] at f;have ha:atKey xs k=none:=by
  cases ha:atKey xs k with
  | none=>rfl
  | some r=>rw[ha] at f;exact f.elim
 refine wpAny_setItem_heap (hsz:=by rw[<-Paired.length p];exact yp hl '$') (fA T X.prog X.w hu) (T.is I.hok hb hg) dd λh' Dd hs=>q _ ?_;rw[storedH_new ha] at Dd;obtain⟨o,es,ep,hq,h2,h3,h4,_,h5⟩:=Dd;obtain⟨t,rfl⟩:=rv;exact ZJ I (by rw[e];exact True.intro) hs #[o,hq] #[#[hd,_,o,es,ep,vz (a:=(k,b,n)) (b:=(k,b,Value.int n t)) #[rfl,rfl,t,rfl] p,hq,h2,h3,h4,h5],#[o,hq],λh1 h2 x k=>x.keep k]
end
def tP (P:AS) (w:World):TE:=λ_ H Q=>(∀D,H D=none->Q (.ref D) (upd H D (.dK [])))\/(∀D,H D=none->Q (.ref D) (upd H D (.dT [])))\/∃T,∀D,H D=none->Q (.ref D) (upd H D (.ext (Ui T P w D [])))
inductive bf (P:AS) (w:World) (x y:V) (H:Hp) (Q:VK):Prop
 | d (a:Addr) (v:V) (ex:x=.ref a) (g:JG H a y (some v)) (q:Q v H)
 | g (T:TK) (a b:Addr) (kvs:List (T.α×Addr×Int)) (k:T.α) (n:Int) (ex:x=.ref a) (ey:y=.ref b) (e:H a=some (.ext (Ui T P w a kvs))) (ky:N7 T H kvs) (hb:T.M.V_ H (.ref b) k) (hg:T.good k) (hv:VT kvs k=some n) (q:Q (.int n) H)
def fQ (P:AS) (w:World) (td ty:TE):TE:=λσ H Q=>td σ H λx H1=>ty σ H1 λy H2=>bf P w x y H2 Q
inductive xu (P:AS) (w:World) (x y v:V) (H:Hp) (Q:Hp->Prop):Prop
 | d (a:Addr) (H':Hp) (ex:x=.ref a) (g:vW H a y v H') (q:Q H')
 | g (T:TK) (a b:Addr) (kvs:List (T.α×Addr×Int)) (k:T.α) (n:Int) (ex:x=.ref a) (ey:y=.ref b) (ev:v=.int n) (e:H a=some (.ext (Ui T P w a kvs))) (ky:N7 T H kvs) (hb:T.M.V_ H (.ref b) k) (hg:T.good k) (hv:VT kvs k=none) (hl:kvs.length<=1000) (q:Q (upd H a (.ext (Ui T P w a (kvs++[(k,b,n)])))))
def sY (P:AS) (w:World) (td ty tv:TE):TS:=λD σ H=>tv σ H λv H1=>td σ H1 λx H2=>ty σ H2 λy H3=>xu P w x y v H3 λH4=>D.nx σ H4
section
variable {X:Cx}{P:AS}{w:World}{o i value:Expr}{pos pos':Pos}{td ty tv:TE}
theorem nG (hP:X.prog=P:=by rfl) (hw:X.w=w:=by rfl):PE X (.Dict [] [] pos) (tP P w):=λpins s σ H Q I h=>by
 subst hP hw;rcases h with h|h|⟨T,h⟩
 ·exact gJ pins s σ H Q I h
 ·exact nH pins s σ H Q I h
 ·obtain⟨_,hd,xs,p,o,es,ep,g,h1,h2,h3,h4⟩:=Ml (P:=X.prog) (w:=X.w) (H:=H) s.heap I.big;cases p;exact wpAny_Dict_empty #[.ref s.heap.objs.size,_,I.laid (a:=s.heap.objs.size) (o:=.ext (Ui T X.prog X.w s.heap.objs.size [])) (t':=s.toks) (λ_ _ q=>yd _ q) (yh _) #[#[hd,[],o,es,ep,.nil,g,h1,h2,h3,Qk],#[o,g],λh1 h2 x k=>x.keep k],rfl,h _ (I.hok.fresh (yh _))]
theorem zI (ho:PE X o td) (hi:PE X i ty) (hu:X.A.units+64<cLine:=by exact hr.units) (hs:bh i:=by exact λ_ _=>rfl) (hP:X.prog=P:=by rfl) (hw:X.w=w:=by rfl):PE X (.Subscript o i pos) (fQ P w td ty):=by
 subst hP hw;intro pins s σ H Q I h;refine kU PySem.F.slot_dict_getitem.lookup hs (jA (ho pins s σ H _ I h) λu s1 #[x,H1,I1,rx,q1]=>jA (hi pins s1 σ H1 _ I1 q1) λiv s2 #[y,H2,I2,ry,q2]=>?_);cases q2 with
 | d a v ex g q =>
  subst ex;obtain rfl:u=Value.ref a:=rx;exact#[VP I2 g,Zf '!' I2 g ry λw' s3 I3 Br=>#[v,H2,I3,Br,q]]
 | g T a b kvs k n ex ey e ky hb hg hv q =>
  subst ex ey;obtain rfl:u=Value.ref a:=rx;obtain rfl:iv=Value.ref b:=ry;obtain⟨_,xs,_,dd⟩:=G8 I2 e ky;exact#[dd.typeIs,rQ hu I2 e ky hb hg hv λw' s3 I3 Br=>#[.int n,H2,I3,Br,q]]
theorem nS (ho:PE X o td) (hi:PE X i ty) (hv:PE X value tv) (hu:X.A.units+64<cLine:=by exact hr.units) (hs:swapsWith value (some (.Subscript o i pos')) pos.line X.env=pure false:=by rfl) (hP:X.prog=P:=by rfl) (hw:X.w=w:=by rfl) :
  PS X (.Assign [.Subscript o i pos'] value pos) (sY P w td ty tv):=by
 subst hP hw;intro pins s σ H D I h;refine wpAny_Assign_Subscript (jA (hv pins s σ H _ I h) λr s1 #[v,H1,I1,rv,q1]=>jA (ho pins s1 σ H1 _ I1 q1) λu s2 #[x,H2,I2,rx,q2]=>jA (hi pins s2 σ H2 _ I2 q2) λiv s3 #[y,H3,I3,ry,q3]=>?_) hs;cases q3 with
 | d a H4 ex g q =>
  subst ex;obtain rfl:u=Value.ref a:=rx;exact Kk '!' I3 g ry rv λs4 I4=>#[σ,H4,I4,q]
 | g T a b kvs k n ex ey ev e ky hb hg hv hl q =>
  subst ex ey ev;obtain rfl:u=Value.ref a:=rx;obtain rfl:iv=Value.ref b:=ry;exact rR hu I3 e ky hb hg hv hl rv λs4 I4=>#[σ,_,I4,q]
end
theorem aA {k:Key} (h:uk k u):ur k u=true:=MY (Vj.mpr h)
theorem Gn {P:AS}{w:World}{h:Heap}:∀{vs:AH} {l:List Key},Paired (UL.R h) vs l->ItemsAre (jr P w) l vs
 | _,_,.nil=>.nil
 | _,_,.cons r t=>.cons (aA r) (Gn t)
theorem ki {P:AS}{w:World}{h:Heap}{l:List Key} (r:(JX UL).R h u l):∃b,u=.ref b/\(Vy P w).d.kd.is h l b:=by
 obtain⟨a,vs,rfl,⟨o,h1,h2,n,h3⟩,p⟩:=r;exact#[a,rfl,o,_,n,h1,h2,h3,Gn p]
section
variable {P:AS}{w:World}{h:Heap}{O:Od}{hd:∀h u l,¬(uk l u/\∃a,O.R h u a)}{hk:@SK P w O.α O.deq}
theorem zD (g:O.α->Prop) (f:∀u l,O.R h u l->g l->∃b,u=.ref b/\hk.d.kd.is h l b):∀{vs:AH} {ks:List (Key ⊕ O.α)},Paired ((JB O hd).R h) vs ks->(∀l,Sum.inr l∈ks->g l)->@JA P w Key O.α _ O.deq (jr P w) hk.d h ks vs
 | _,_,.nil,_=>.nil
 | _,.inl k::_,.cons r t,q=>.cons (aA r) (zD g f t λl h=>q l (yn _ h))
 | _,.inr l::_,.cons r t,q=>.cons (f _ _ r (q l yw)) (zD g f t λl h=>q l (yn _ h))
theorem ZQ (g:O.α->Prop) (f:∀u l,O.R h u l->g l->∃b,u=.ref b/\hk.d.kd.is h l b) {ks:List (Key ⊕ O.α)} (r:(JX (JB O hd)).R h u ks) (q:∀l,Sum.inr l∈ks->g l):∃b,u=.ref b/\@JU P w Key O.α _ O.deq (jr P w) hk.d h ks b:=by
 obtain⟨a,vs,rfl,⟨o,h1,h2,n,h3⟩,p⟩:=r;exact#[a,rfl,o,_,n,h1,h2,h3,zD g f p q]
end
def mL (m:Int) (l:List Int):List (Key ⊕ List Key):=[.inl (.inl m),.inr (l.map Sum.inl)]
theorem gB:∀a b:List Int,UO UL (a.map Sum.inl) (b.map Sum.inl)
 | [],_=>by unfold UO;split<;>trivial
 | _::_,[]=>trivial
 | a::as,b::bs=>by
  refine#[rfl,λ_=>gB as bs]
def uU:TK where
 O:=JX UL
 hd:=UJ UL
 sk:=λP w=>GF (Vy P w) (λi=>decide (i=1)) (by show 1+1<=8;decide)
 good:=λk=>∃m l,k=mL m l
 cm:=λ{a b} ha hb=>by
  obtain⟨m,l,rfl⟩:=ha;obtain⟨m',l',rfl⟩:=hb;exact#[rfl,λ_=>#[gB l l',λ_=>trivial]]
 d:=true
 fst:=λ{k} h=>by obtain⟨m,l,rfl⟩:=h;exact#[_,_,rfl,rfl]
 is:=λ{P w H h b k} ok hv hg=>by
  obtain⟨m,l,rfl⟩:=hg;obtain⟨b',e,x⟩:=ZQ (P:=P) (w:=w) (hk:=Vy P w) (λ_=>True) (λu l r _=>ki r) ((JX KI).raw ok hv (show jE (.ref b) (.ref b) from rfl)) (λ_ _=>trivial);cases e;refine#[x,λi k' e=>?_]
  match i with
  | 0=>cases e;rfl
  | 1=>cases e;rfl
  | i+2=>cases e
 dp:=λP w=>(by decide:0+2<=16)
 od:=(by decide:0+1<=8)
def mK (x:Str) (m h:Int):List (Key ⊕ List Key):=[.inl (.inr x),.inl (.inl m),.inl (.inl h)]
def Uf:TK where
 O:=JX UL
 hd:=UJ UL
 sk:=λP w=>GF (Vy P w) (λ_=>false) (by show 1+1<=8;decide)
 good:=λk=>∃x m h,k=mK x m h
 cm:=λ{a b} ha hb=>by
  obtain⟨x,m,h,rfl⟩:=ha;obtain⟨x',m',h',rfl⟩:=hb;exact#[rfl,λ_=>#[rfl,λ_=>#[rfl,λ_=>trivial]]]
 d:=false
 fst:=λ{k} h=>by obtain⟨x,m,h,rfl⟩:=h;exact#[_,_,rfl,rfl]
 is:=λ{P w H h b k} ok hv hg=>by
  obtain⟨x,m,n,rfl⟩:=hg;obtain⟨b',e,y⟩:=ZQ (P:=P) (w:=w) (hk:=Vy P w) (λ_=>True) (λu l r _=>ki r) ((JX KI).raw ok hv (show jE (.ref b) (.ref b) from rfl)) (λ_ _=>trivial);cases e;refine#[y,λi k' e=>?_]
  match i with
  | 0=>cases e;rfl
  | 1=>cases e;rfl
  | 2=>cases e;rfl
  | i+3=>cases e
 dp:=λP w=>(by decide:0+2<=16)
 od:=(by decide:0+1<=8)
def U6 (ps:AD):List (Key ⊕ List Key):=ps.map λp=>.inr [.inl p.1,.inl p.2]
def b9 (m:Int) (ps:AD):List (Key ⊕ List (Key ⊕ List Key)):=[.inl (.inl m),.inr (U6 ps)]
theorem Mm:∀a b:List (Int×Int),UO KI (U6 a) (U6 b)
 | [],_=>by unfold U6 UO;split<;>trivial
 | _::_,[]=>trivial
 | a::as,b::bs=>#[gB [a.1,a.2] [b.1,b.2],λ_=>Mm as bs]
def UB:TK where
 O:=JX KI
 hd:=UJ KI
 sk:=λP w=>GF (GF (Vy P w) (λ_=>true) (by show 1+1<=8;decide)) (λi=>decide (i=1)) (by show 1+1+1<=8;decide)
 good:=λk=>∃m ps,k=b9 m ps
 cm:=λ{a b} ha hb=>by
  obtain⟨m,l,rfl⟩:=ha;obtain⟨m',l',rfl⟩:=hb;exact#[rfl,λ_=>#[Mm l l',λ_=>trivial]]
 d:=true
 fst:=λ{k} h=>by obtain⟨m,l,rfl⟩:=h;exact#[_,_,rfl,rfl]
 is:=λ{P w H h b k} ok hv hg=>by
  obtain⟨m,ps,rfl⟩:=hg
  obtain⟨b',e,y⟩:=ZQ (P:=P) (w:=w) (hk:=GF (Vy P w) (λ_=>true) (by show 1+1<=8;decide)) (λl=>∃ps,l=U6 ps) (λu l r hg=>by
   obtain⟨qs,rfl⟩:=hg;obtain⟨b,e,z⟩:=ZQ (P:=P) (w:=w) (hk:=Vy P w) (λ_=>True) (λu l r _=>ki r) r (λ_ _=>trivial);refine#[b,e,z,λi k' e=>?_];rw[U6,ye] at e;obtain⟨_,_,rfl⟩:=yz.mp e
   rfl) ((JX (JB (JX KI) (UJ KI))).raw ok hv (show jE (.ref b) (.ref b) from rfl)) (λl hl=>by
   rcases yr.mp hl with e|hl
   ·cases e
   ·rcases yr.mp hl with e|hl
    ·cases e;exact#[ps,rfl]
    ·cases hl)
  cases e;refine#[y,λi k' e=>?_]
  match i with
  | 0=>cases e;rfl
  | 1=>cases e;rfl
  | i+2=>cases e
 dp:=λP w=>(by decide:0+2+2<=16)
 od:=(by decide:0+1+1<=8)
end L2
namespace L2
open PySem PySem.Spec PyProof.Rows TS
section
variable {X:Cx}
theorem Gs {P:AS}{w:World}:∀{kvs:List (Key×Value)} {acc:AH},acc.length=kvs.length->(∀(i:Nat) v,acc[i]?=some v->∃k x,kvs[i]?=some (k,x)/\(jr P w).is k v=true)->jz (kvs.map λx=>kV x.1) acc
 | [],[],_,_=>.nil
 | [],_::_,h,_=>by cases h
 | _::_,[],h,_=>by cases h
 | q::kvs,v::acc,h,f=>by
  obtain⟨k,x,e,hk⟩:=f 0 v rfl;cases e;exact .cons (az hk) (Gs (by simpa using h) λi v e=>f (i+1) v e)
theorem qg {kvs:List (Key×V)}{ws:List (Key×Value)} (r:KV kvs ws):ws.map (λx=>kV x.1)=kvs.map λx=>kV x.1:=by
 induction r with
 | nil=>rfl
 | cons h _ ih=>rw[yH,yH,ih,h.1]
theorem Gc (Ce:X.calm=true):Jf X (.type "list") (λxs H Q=>∃(p:Addr) (kvs:List (Key×V)),A3 (xs=[.ref p]) (H p=some (.dK kvs)) (∀l,H l=none->Q (.ref l) (upd H l (.lst (kvs.map λx=>kV x.1))))):=by
 intro pins s σ H xs us Q I r h;obtain⟨p,kvs,rfl,ep,q⟩:=h;obtain⟨u,rfl,ru⟩:=J1 r;cases ru;obtain⟨z,hd,ws,rel,dd⟩:=ZK I.hok ep;obtain⟨e0,da⟩:=dd.dictAt;have hz:ws.length<=sizeLine:=by rw[<-rel.length];exact z
 refine W.kdl_call (W.kdl_dict (knd:=jr X.prog X.w) (kvs:=ws) (ep:=e0) hd) (I.ok.hd Ce) da hz λh' tk acc c kp e items=>?_;refine#[.ref s.heap.objs.size,_,I.laid (t':=tk) (o:=.lst (kvs.map λx=>kV x.1)) kp (yh _) #[by rw[ya];exact z,acc.toList,c,?_,by rw[QJ];exact e],rfl,q _ (I.hok.fresh (yh _))];rw[<-qg rel];exact Gs (by rw[yA];exact items.1) λi v e=>items.2 i v (by rw[<-yN];exact e)
def Kc (v d:Addr):HO:=.ext λh=>h.IsValuesView v d
theorem dZ:rG X "dict.values" (λx vs H Q=>∃(a:Addr) (kvs:List (Key×V)),A4 (x=.ref a) (vs=[]) (H a=some (.dK kvs)) (∀p,H p=none->Q (.ref p) (upd H p (Kc p a)))):=by
 intro pins s σ H x vs v us Q I rx rv h;obtain⟨a,kvs,rfl,rfl,ea,q⟩:=h;cases rx;cases rv;obtain⟨z,hd,ws,rel,dd⟩:=ZK I.hok ea;have g:=yo s.heap (o:={ cls:=.type "dict_values",data:=.fields (List.toArray [.ref a]) }) rfl;exact call_meetsIn PySem.F.slot_dict_values dd.typeIs PySem.F.entry_dict_values (PySem.F.args_dict_values_1 _) (meets_dict_values (jr X.prog X.w) a hd) #[#[ws,dd],.ref s.heap.objs.size,_,I.laid (a:=s.heap.objs.size) (o:=Kc s.heap.objs.size a) (t':=s.toks) (λ_ _ q=>yd _ q) (yh _) #[#[_,g,rfl,rfl],#[_,g],λh1 h2 x k=>by obtain⟨o,e,r⟩:=x;exact#[o,k _ e,r]],rfl,q _ (I.hok.fresh (yh _))]
theorem Gu:∀{kvs:List (Key×V)} {ws:List (Key×Value)} {acc:AH},KV kvs ws->acc.length=ws.length->(∀(i:Nat) v,acc[i]?=some v->∃k,ws[i]?=some (k,v))->jz (kvs.map (·.2)) acc
 | _,_,[],.nil,_,_=>.nil
 | _,_,_::_,.nil,h,_=>by cases h
 | _,_,[],.cons _ _,h,_=>by cases h
 | _,_,v::acc,.cons r t,h,f=>by
  obtain⟨k,e⟩:=f 0 v rfl;cases e;exact .cons r.2 (Gu t (by simpa using h) λi v e=>f (i+1) v e)
theorem bA (Ce:X.calm=true):Jf X (.type "list") (λxs H Q=>∃(p d:Addr) (kvs:List (Key×V)),A4 (xs=[.ref p]) (H p=some (Kc p d)) (H d=some (.dK kvs)) (∀l,H l=none->Q (.ref l) (upd H l (.lst (kvs.map (·.2)))))):=by
 intro pins s σ H xs us Q I r h;obtain⟨p,d,kvs,rfl,ep,ed,q⟩:=h;obtain⟨u,rfl,ru⟩:=J1 r;cases ru;obtain⟨z,hd,ws,rel,dd⟩:=ZK I.hok ed;obtain⟨e0,da⟩:=dd.dictAt;have hz:ws.length<=sizeLine:=by rw[<-rel.length];exact z
 have hv:s.heap.IsValuesView p d:=(show jP X.prog X.w H s.heap p (Kc p d) from I.hok p _ ep).1;refine W.kdl_call (W.kdl_values (knd:=jr X.prog X.w) (kvs:=ws) (ep:=e0) (r:=p) (d:=d)) (I.ok.hd Ce) #[hv,da] hz λh' tk acc c kp e items=>?_;refine#[.ref s.heap.objs.size,_,I.laid (t':=tk) (o:=.lst (kvs.map (·.2))) kp (yh _) #[by rw[ya];exact z,acc.toList,c,?_,by rw[QJ];exact e],rfl,q _ (I.hok.fresh (yh _))];exact Gu rel (by rw[yA];exact items.1) λi v e=>items.2 i v (by rw[<-yN];exact e)
def au (k:Int):Value->Bool|.int a _=>a==k|_=>false
theorem cZ:∀{ns:List Int} {us:AH},jz (ns.map V.int) us->∀k,us.countP (au k)=ns.count k
 | [],_,.nil,k=>rfl
 | n::ns,_,.cons r t,k=>by
  obtain⟨tk,rfl⟩:=r;rw[List.countP_cons,List.count_cons,cZ t k]
  rfl
theorem xh {A:Around}{s:Shared}{ns:List Int}{us:AH} (r:jz (ns.map V.int) us) (k:Int) (t:Tok):∀y∈us,SeqAt.EqAt A s y (.int k t) (au k y):=λy hy=>by
 obtain⟨i,hi,rfl⟩:=yD hy;have h2:i<ns.length:=by have:=r.length;rw[ya] at this;omega
 obtain⟨u,hu,tk,e⟩:=r.get (i:=i) (x:=.int ns[i]) (by simp [h2]);rw[yb hi] at hu;rw[(Option.some.inj hu).trans e];exact SeqAt.EqAt.int_int _ tk k t
theorem vE:Mb X "list.count" (λx vs H Q=>∃(l:Addr) (ns:List Int) (k:Int),A4 (x=.ref l) (vs=[.int k]) (H l=some (.lst (ns.map V.int))) (Q (.int (ns.count k:Nat)) H)):=by
 intro pins s σ H x vs v us Q I rx rv h;obtain⟨l,ns,k,rfl,rfl,hH,q⟩:=h;cases rx;obtain⟨u,rfl,t,rfl⟩:=rv.one;obtain⟨z,AV,n,r,hl,e⟩:=I.lstM hH;refine call_meets F.slot_list_count #[_,e,rfl] F.entry_list_count (F.args_list_count_2 _ _) (SeqAt.list_countAt l AV.toArray n _ _ (.int k t) (au k)) #[e,λy hy=>xh r k t y (Array.mem_toArray.mp hy),?_];rw[show AV.toArray.toList.countP (au k)=ns.count k from cZ r k];exact#[.int _,H,I.tok _,#[_,rfl],q]
theorem VC:Mb X "list.index" (λx vs H Q=>∃(l:Addr) (ns:List Int) (k:Int),A6 (x=.ref l) (vs=[.int k]) (H l=some (.lst (ns.map V.int))) (ns.length<=1000) (k∈ns) (Q (.int (ns.idxOf k:Nat)) H)):=by
 intro pins s σ H x vs v us Q I rx rv h;obtain⟨l,ns,k,rfl,rfl,hH,hs,hk,q⟩:=h;cases rx;obtain⟨u,rfl,t,rfl⟩:=rv.one;obtain⟨z,AV,n,r,hl,e⟩:=I.lstM hH;have lr:ns.length=AV.length:=by have:=r.length;rwa [ya] at this
 have hj:ns.idxOf k<ns.length:=y8 hk;have at_:∀(m:Nat) (h1:m<ns.length) (h2:m<AV.length),au k AV[m]=(ns[m]==k):=λm h1 h2=>by
  obtain⟨u,hu,tk,e⟩:=r.get (i:=m) (x:=.int ns[m]) (by simp [h1]);rw[yb h2] at hu;rw[(Option.some.inj hu).trans e]
  rfl
 refine call_meets F.slot_list_index #[_,e,rfl] F.entry_list_index (F.args_list_index_2 _ _) (SeqAt.list_indexAt l AV.toArray n _ _ (.int k t) (au k) (ns.idxOf k) (by rw[yg,<-lr];exact hj) '!' ?_ λm hm AX=>?_) #[e,λy hy=>xh r k t y (Array.mem_toArray.mp hy),#[.int _,H,I.tok _,#[_,rfl],q]]
 ·rw[yS,at_ _ hj '!',QT hj];exact beq_self_eq_true k
 ·rw[yg] at hm;rw[yS,at_ m '!' hm];exact ne_of_lt_idxOf AX '!'
end
end L2
namespace L2
open PySem PySem.Spec PyProof.Rows TS
open AutoSeq1 (wpAny_loadPart')
variable {it:Addr}{i:Nat}{items:AN}{Q:Ax}{w:World}
section
variable {prog:AS}{w:World}{A:Around}{E:Ax}{s:Shared}
theorem No {t:Addr} (hit:s.heap.IsTupleIter it t i):∃d sl,s.heap.get? it=some { cls:=.type "tuple_iterator",dict:=d,data:=.fields (List.toArray [.ref t,.int i 0]),slots:=sl }:=by
 obtain⟨⟨c,d,dt,sl⟩,ho,hc,hd⟩:=hit;exact#[d,sl,by rw[ho];cases hc;cases hd;rfl]
theorem lW {t:Addr}{x:Value} (hit:s.heap.IsTupleIter it t i) (ht:s.heap.IsTuple t items) (hx:items[i]?=some x)
  (hQ:∀h',h'.IsTupleIter it t (i+1)->Heap.SameBut it s.heap h'->Q x { s with heap:=h' }):wpAny '#' A (Builtin.SmallTypes.nextOf (.ref it)) Q E s:=by
 obtain⟨d,sl,ho⟩:=No hit;obtain⟨p,hp,pc,m,pd⟩:=id ht;refine AT (wpAny_callSpecial?_slot (name:=Str.ofString "__next__") hit.typeIs F.slot_tuple_iterator_next (wpAny_call_entry F.slot_tuple_iterator_next hit.typeIs F.entry_tuple_iterator_next ?_ (F.args_tuple_iterator_next_1 _)));refine AT (m:=field (.ref it) 0) (wpAny_field ho rfl (x:=.ref t) rfl ?_);refine AT (m:=field (.ref it) 1) (wpAny_field ho rfl (x:=.int i 0) rfl ?_);refine AT (m:=seqItems? (.ref t)) (wpAny_seqItems hp pd ?_);rw[Qg];simp only[hx];refine AT (wpAny_setField ho rfl (by simp) (AU #[x,rfl,AU (hQ _ #[_,y6 _ ho (Obj.isFreed_of_fields (Obj.data_mapFields rfl _)),rfl,rfl] (Heap.SameBut.update ..))]))
theorem f6 {t:Addr} (hh:A.handled=none) (hit:s.heap.IsTupleIter it t i) (ht:s.heap.IsTuple t items) (hx:items[i]?=none)
  (hE:∀h' e,Heap.ExtBut it s.heap h'->(∃o,h'.get? e=some o/\o.cls=.type "StopIteration")->E (.ref e) { s with heap:=h' }):wpAny '#' A (Builtin.SmallTypes.nextOf (.ref it)) Q E s:=by
 obtain⟨d,sl,ho⟩:=No hit;obtain⟨p,hp,pc,m,pd⟩:=id ht;refine AT (wpAny_callSpecial?_slot (name:=Str.ofString "__next__") hit.typeIs F.slot_tuple_iterator_next (wpAny_call_entry F.slot_tuple_iterator_next hit.typeIs F.entry_tuple_iterator_next ?_ (F.args_tuple_iterator_next_1 _)));refine AT (m:=field (.ref it) 0) (wpAny_field ho rfl (x:=.ref t) rfl ?_);refine AT (m:=field (.ref it) 1) (wpAny_field ho rfl (x:=.int i 0) rfl ?_);refine AT (m:=seqItems? (.ref t)) (wpAny_seqItems hp pd ?_);rw[Qg];simp only[hx];refine AT (wpAny_rule (AT (wpAny_setField ho rfl (by simp) ?_)));refine AT (m:=newExc (.type "StopIteration") []) (AT (m:=newTuple []) (wpAny_newObj_type (AT (m:=firstArgMember _ _) (wpAny_of_eq (a:=Value.none) (by first|rfl|(simp only[firstArgMember];rfl)) (wpAny_newObj_type ?_ (by size_fits)))) (by size_fits)));unfold raiseNew;refine AT (wpAny_handled ?_);rw[show A.in1.handled=none from hh];exact AT (AU (wpAny_throw (hE _ _ (((Heap.SameBut.update ..).extBut.push _).push _) #[_,yo _ rfl,rfl])))
theorem Kl (hh:A.handled=none) (it t:Addr) (Bk:t≠it) (items:AN):Draws prog w A it [it,t] items.size (λi v=>items[i]?=some v) (λi h=>h.IsTupleIter it t i/\h.IsTuple t items) where
 live:=λ_ _ st=>let ⟨o,ho,_⟩:=st.1;#[o,ho]
 frame:=λ_ _ _ #[#[o,ho,r],#[p,hp,q]] hk=>#[#[o,hk it (by simp) o ho,r],#[p,hk t (by simp) p hp,q]]
 item:=λi s Q E hi st hQ=>lW st.1 st.2 (yU hi) λh' y hs=>hQ _ h' s.toks (yU hi) #[y,let ⟨p,hp,q⟩:=st.2;#[p,hs.extBut t p Bk hp,q]] hs
 done:=λs Q E st hE=>f6 hh st.1 st.2 (by simp) hE
end
theorem c8 (l:Addr) (items:AN) (o:Obj) (OQ:o.cls=.type "tuple") (Bw:∃n,o.data=.seq items n) :
  Meets (Builtin.«enumerate.__new__» #[[.type "enumerate",.ref l],[]]) (λ_ R s=>s.heap.get? l=some o /\
   R (.ok (.ret (.ref (s.heap.objs.size+1)))) { s with heap:=(s.heap.push { cls:=.type "tuple_iterator",data:=.fields (List.toArray [.ref l,.int 0 0]) }).push { cls:=.type "enumerate",data:=.fields (List.toArray [.none,.bool false,.ref s.heap.objs.size,rawInt 0,.none,.none]) } }) :=
 .of_wp λprog w A R s h=>by
  obtain⟨hp,g,d,tk,os⟩:=s;obtain⟨hl,h⟩:=h;have IK:=sub_enumerate;have hT:Heap.IsTuple (Shared.heap #[hp,g,d,tk,os]) l items:=#[_,hl,OQ,Bw];obtain⟨c,dct,dt,sl⟩:=o;obtain⟨n,rfl⟩:=Bw;cases OQ;rw[show hp.objs.size+1=(hp.push { cls:=.type "tuple_iterator",data:=.fields (List.toArray [.ref l,.int 0 0]) }).objs.size from (Qs ..).symm] at h
  wp_walk using wpAny_loadPart' hl
  refine wpAny_stack_any λst=>AU ?_;split
  ·rename_i c _ _ _ _ _;cases (c==Value.type "enumerate")<;>(wp_walk using wpAny_loadPart' hl,wpAny_pyIter_tuple hT;exact#[_,rfl,h])
  ·wp_walk using wpAny_loadPart' hl,wpAny_pyIter_tuple hT
   exact#[_,rfl,h]
theorem bw {prog:AS}{w:World}{A:Around}{E:Ax}{s:Shared}{l:Addr} (hT:s.heap.IsTuple l items)
  (h:∀h',IsEnum h' (s.heap.objs.size+1) s.heap.objs.size 0 .none->h'.IsTupleIter s.heap.objs.size l 0->(∀b o,s.heap.get? b=some o->h'.get? b=some o)->Q (.ref (s.heap.objs.size+1)) { s with heap:=h' }) :
  wpAny '#' A (call (.type "enumerate") [.ref l]) Q E s:=by
 obtain⟨o,hl,hc,hd⟩:=hT;refine callType_new F.called_enumerate '$' (F.typeCall_enumerate_1 _) (F.newCall_enumerate_1 _) (λobj=>F.args_object_init_2 obj _) F.entry_enumerate_new (c8 l items o hc hd) #[hl,?_];have g:=yo (s.heap.push { cls:=.type "tuple_iterator",data:=.fields (List.toArray [.ref l,.int 0 0]) }) (o:={ cls:=.type "enumerate",data:=.fields (List.toArray [.none,.bool false,.ref s.heap.objs.size,rawInt 0,.none,.none]) }) rfl;rw[Qs] at g;exact#[#[_,g,rfl],h _ g #[_,yd _ (yo _ rfl),rfl,rfl] λb o x=>yd _ (yd _ x)]
def m7 (K:AB) (a:Addr):It :=
 #[λi H=>∃xs x,jB K H a xs/\xs[i]?=some x,
  λi H v H'=>∃t x,H t=none/\v=.ref t/\H'=upd H t (.tup [.int i,x])/\∀xs,jB K H a xs->xs[i]?=some x,
  λi H=>∃xs,jB K H a xs/\xs.length=i]
theorem cI {P:AS}{K:AB}{elts:AO}{kk:Nat}{Bn:Pos} (e it l:Addr) (EO:e≠it) (hle:l≠e) (IE:l≠it) :
  Vb P w K (.Tuple elts kk Bn) (m7 K l) [e,it] e (λi h=>(∃old,IsEnum h e it i old)/\h.IsTupleIter it l i) true where
 mem:=by simp
 obj:=λi h st b hb=>by
  obtain⟨⟨old,q1⟩,⟨o4,q4,_,d4⟩⟩:=st;simp only[yr,yP,or_false] at hb;rcases hb with rfl|rfl
  ·exact#[_,q1,λv e=>by cases e]
  ·exact#[_,q4,λv e=>by rw[d4] at e;cases e]
 keep:=λi h h' st k=>by
  obtain⟨⟨old,q1⟩,o4,q4,r⟩:=st;exact#[#[old,k e (by simp) _ q1],o4,k it (by simp) o4 q4,r]
 item:=by
  intro X hP hw hK hc i pins s σ H E I hf st hg;subst hP hw hK;obtain⟨xs,x,hx,ex⟩:=hg;obtain⟨AV,r1,p1,_⟩:=I.tuple hx;obtain⟨v1,Hh,IF⟩:=r1.get ex;obtain⟨⟨old,q1⟩,q4⟩:=st;have hi:i<AV.toArray.size:=by rw[yg];exact (yc.mp Hh).1
  refine wpAny_pyNext_enum_itemD (Kl (prog:=X.prog) (w:=X.w) (A:=X.A.in1) (I.ok.hd (hc rfl)) it l IE AV.toArray) q1 #[q4,p1] hi EO (by simp [EO,yZ hle]) λv h1 tk pv z1 z2 z3 z4 z5=>?_;obtain rfl:v1=v:=Option.some.inj (Hh.symm.trans (by simpa using pv));refine#[_,rfl,wpAny_letOwnedTupleGo_enum (s:={ s with heap:=h1,toks:=tk+1 }) z1 λh2 Ft sb=>?_];have keep:∀c o,c ∉ [e,it]->s.heap.get? c=some o->h2.get? c=some o:=λc o hc y=>by
   simp only[yr,yP,or_false,not_or] at hc;exact (sb.2 c hc.1).trans (z5 c o hc.1 hc.2 y)
  have AX:∀{c o},s.heap.get? c=some o->c≠s.heap.objs.size:=λe=>yx (ym e);obtain⟨o4,e4,_,_⟩:=id q4;have I1:ji X pins σ H { s with heap:=h2,toks:=tk+1 }:=I.turnedL (t':=tk+1) hf keep;have hp:H s.heap.objs.size=none:=I.fresh;have tp:h2.get? s.heap.objs.size=some { cls:=.type "tuple",data:=.seq (List.toArray [.int i tk,v1]) }:=(sb.2 _ (yZ (AX q1))).trans z3;have I2:ji X pins σ (upd H s.heap.objs.size (.tup [.int i,x])) { s with heap:=h2,toks:=tk+1 }:=I1.track hp (Qi I.sz) (Qe I.lt)
   (λn c e zz=>by obtain⟨v0,o0,h0,_⟩:=I.cell n c e;exact AX h0 zz) (λq hq zz=>AX (I.pin q hq).1 zz) #[by show 2<=sizeLine;decide,[.int i tk,v1],.cons #[_,rfl] (.cons IF .nil),_,tp,rfl,_,rfl]
  refine#[.ref s.heap.objs.size,_,I2,rfl,#[_,x,hp,rfl,rfl,λBN B7=>?_],#[#[_,by simpa using Ft],let ⟨o,ho,r⟩:=z2.1;#[o,(sb.2 _ (yZ EO)).trans ho,r]],λc hc=>?_]
  ·rw[I.tuple_inj B7 hx];exact ex
  ·have Fu:=(hf c hc).1;rw[jw ?_]
   ·exact Fu
   ·simp only[yr,yP,or_false] at hc;rcases hc with rfl|rfl
    ·exact AX q1
    ·exact AX e4
 done:=by
  intro X hP hw hK hc i pins s σ H E I hf st hg;subst hP hw hK;obtain⟨xs,hx,rfl⟩:=hg;obtain⟨AV,rv,p,_⟩:=I.tuple hx;obtain⟨⟨old,q1⟩,q4⟩:=st;have hl:xs.length=AV.toArray.size:=by rw[yg];exact rv.length
  rw[hl] at q1 q4;refine wpAny_pyNext_enum_endD (Kl (prog:=X.prog) (w:=X.w) (A:=X.A.in1) (I.ok.hd (hc rfl)) it l IE AV.toArray) q1 #[q4,p] λh1 k=>#[rfl,?_];refine I.turnedL (t':=s.toks) (ch:=[it]) (λc hc=>hf c ?_) λc o hc y=>?_
  ·simp only[yr,yP,or_false] at hc ⊢;exact .inr hc
  ·simp only[yr,yP,or_false,not_or] at hc;exact k c o hc y
 self:=λ_ _ _ _ _ st h=>let ⟨_,q⟩:=st.1;wpAny_pyIter_enum q h
section
variable {X:Cx}{elts:AO}{kk:Nat}{Bn:Pos}
def rZ (K:AB) (ta:TA):TI:=λσ H R=>ta σ H λvs H1=>∃a,vs=[.ref a]/\(∃xs,jB K H1 a xs)/\R (m7 K a) H1
theorem nO {a:Expr}{ta:TA}{p pos:Pos} (Ce:X.calm=true) (hg:Gl X "enumerate") (hm:X.mg "enumerate"=none) (ha:PA X [a] ta) (hs:starEach [a] X.env=(false,eval a X.env)::starEach [] X.env:=by rfl) (Ba:(backTo pos (starEach [] X.env)).any (·.1)=false:=by rfl) :
  PI X (.Tuple elts kk Bn) (.Call (.Name "enumerate" p) [a] [] pos) (rZ X.K ta):=by
 intro pins s σ H R I h;refine Call_ (U7 I hg hm boot_enumerate (PyProof.Rows.callWith_type1 (jA (ha pos pins s σ H _ I h) λus s1 #[vs,H1,I1,r1,q1]=>?_) hs Ba));obtain⟨l1,e,⟨xs,hx⟩,q⟩:=q1;subst e;obtain⟨u,rfl,ru⟩:=J1 r1;cases ru;obtain⟨AV,_,p1,_⟩:=I1.tuple hx;have a1:l1<s1.heap.objs.size:=by obtain⟨_,e,_⟩:=p1;exact ym e
 refine bw p1 λh' z1 z2 k=>wpAny_pyIter_enum (s:={ s1 with heap:=h' }) z1 ?_;have I2:ji X pins σ H1 { s1 with heap:=h' }:=I1.kept (t':=s1.toks) k;refine#[s1.heap.objs.size+1,[s1.heap.objs.size+1,s1.heap.objs.size],_,_,H1,rfl,I2,#[true,cI _ _ l1 (Nat.succ_ne_self _) (yx (Qw a1)) (yx a1),λ_=>Ce],#[#[_,z1],z2],λc hc=>?_,q];have le:s1.heap.objs.size<=c:=by
  simp only[yr,yP,or_false] at hc;rcases hc with rfl|rfl<;>omega
 exact I1.fpOk le (I1.hok.fresh le)
theorem Ko {K:AB}{a:Addr}{xs:List V}{g:TG}{tb:TS}{D:vX}{σ:St}{H:Hp} (Pv:Nat->St->Hp->Prop) (h0:Pv 0 σ H) (hl:∀i σ H,i<=xs.length->Pv i σ H->jB K H a xs)
  (hs:∀(i:Nat) x p σ H,xs[i]?=some x->H p=none->Pv i σ H->g (.ref p) σ (upd H p (.tup [.int i,x])) λσ2 H2=>tb { D with nx:=Pv (i+1),ct:=Pv (i+1),bk:=D.nx } σ2 H2) (hd:∀σ H,Pv xs.length σ H->D.nx σ H) :
  ∃W:Nat->Nat->St->Hp->Prop,(∃m,W 0 m σ H)/\∀i m σ H,W i m σ H ->
   ((m7 K a).stop i H/\D.nx σ H)\/((m7 K a).go i H/\∃N:St->Hp->Prop,(∀σ' H',N σ' H'->∃m',m'<m/\W (i+1) m' σ' H')/\∀x H',(m7 K a).yld i H x H'->g x σ H' λσ2 H2=>tb { D with nx:=N,ct:=N,bk:=D.nx } σ2 H2):=by
 refine#[λi m σ H=>m=xs.length - i/\i<=xs.length/\Pv i σ H,#[xs.length,by simp,yT _,h0],?_];rintro i m σ H ⟨rfl,hi,p⟩;have qa:=hl i σ H hi p;by_cases AX:i<xs.length
 ·refine .inr #[#[xs,xs[i],qa,by simp [AX]],Pv (i+1),λσ' H' p'=>#[xs.length - (i+1),by omega,rfl,AX,p'],λv H' yy=>?_];obtain⟨t,x,ht,rfl,rfl,e⟩:=yy;exact hs i x t σ H (e xs qa) ht p
 ·obtain rfl:i=xs.length:=by omega
  exact .inl #[#[xs,qa,rfl],hd σ H p]
end
end L2
namespace L2
open PySem PySem.Spec PyProof.Rows TS
variable {P:AS}{w:World}{kvs:List (Key×V)}{e:Expr}{te:TE}{r:Addr}
def wa (P:AS) (w:World) (a:Addr) (o:Obj) (ws:List (Key×Value)):Prop:=∃ep,∀h:Heap,h.get? a=some o->h.DictAt (jr P w) a ws ep
structure rD (P:AS) (w:World) (H:Hp) (a:Addr) (o:Obj) (kvs:List (Key×V)):Prop where
 e:H a=some (Ua a o)
 hm:(a==sysModules)=false
 dr:∃ws,KV kvs ws/\wa P w a o ws
 hz:kvs.length<=sizeLine
def rF (a:Addr) (o:Obj) (kvs:List (Key×V)):It:=#[λi H=>H a=some (Ua a o)/\i<kvs.length,λi H x H'=>H'=H/\∃kv,kvs[i]?=some kv/\x=kV kv.1,λi H=>H a=some (Ua a o)/\kvs.length=i]
theorem dN:∀{kvs:List (Key×V)} {ws:List (Key×Value)} {i:Nat} {k:Key} {x:Value},KV kvs ws->ws[i]?=some (k,x)->∃y,kvs[i]?=some (k,y)
 | _,_,_,_,_,.nil,e=>by simp at e
 | _,_,0,_,_,.cons r _,e=>by
  simp at e;subst e;exact#[_,congrArg some (Prod.ext r.1 rfl)]
 | _,_,i+1,_,_,.cons _ t,e=>by
  obtain⟨y,h⟩:=dN (i:=i) t (by simpa using e);exact#[y,by simpa using h]
theorem cG {K:AB}{tg:Expr} (a it:Addr) (Bk:a≠it) (o:Obj) {ws:List (Key×Value)} {ep:Nat} (kv:KV kvs ws) (dr:∀h:Heap,h.get? a=some o->h.DictAt (jr P w) a ws ep) :
  Vb P w K tg (rF a o kvs) [it] it (λi h=>h.IsKeyIter it a i ws.length ep) true where
 mem:=by simp
 obj:=λi h st b hb=>by
  obtain rfl:b=it:=by simpa using hb
  obtain⟨o,e,c,d⟩:=st;exact#[o,e,λv z=>by rw[d] at z;cases z]
 keep:=λi h h' st k=>by
  obtain⟨o,e,r⟩:=st;exact#[o,k it (by simp) o e,r]
 item:=by
  intro X hP hw hK hc i pins s σ H E I hf st hg;subst hP hw hK;obtain⟨ea,hi⟩:=hg;obtain⟨f0,f1,f2,f3,f4,f5⟩:=hf it (by simp);refine (Walks.dictKeys (knd:=jr X.prog X.w) (I.ok.hd (hc rfl)) it a Bk ws ep).item i s _ E (by rw[<-kv.length];exact hi) #[st,dr _ (vk I.hok ea)] λv h' tk pv Bp kp=>?_;obtain⟨k,x,ek,hk⟩:=pv;obtain⟨y,ey⟩:=dN kv ek;have I1:ji X pins σ H { s with heap:=h',toks:=tk }:=I.turned (t':=tk) (λb o hb e=>kp b o (by simpa using hb) e) f0 f1 f3 f4 f5;obtain⟨oi,e,c,d⟩:=id Bp.1;exact#[_,rfl,ZN (s:={ s with heap:=h',toks:=tk }) e c d '$' #[kV k,H,I1,az hk,#[rfl,_,ey,rfl],Bp.1,λb hb=>(hf b hb).1]]
 done:=by
  intro X hP hw hK hc i pins s σ H E I hf st hg;subst hP hw hK;obtain⟨ea,hi⟩:=hg;obtain⟨f0,f1,f2,f3,f4,f5⟩:=hf it (by simp);rw[kv.length] at hi;exact (Walks.dictKeys (knd:=jr X.prog X.w) (I.ok.hd (hc rfl)) it a Bk ws ep).done s _ E #[hi▸st,dr _ (vk I.hok ea)] λh' tk kp=>#[rfl,I.turned (t':=tk) (λb o hb e=>kp b o (by simpa using hb) e) f0 f1 f3 f4 f5]
 self:=λ_ _ _ _ _ st h=>wpAny_pyIter_keyiter st h
section
variable {X:Cx}{tg:Expr}
def dy (P:AS) (w:World) (te:TE):TI:=λσ H R=>te σ H λx H1=>∃a kvs,x=.ref a/\H1 a=some (.dK kvs)/\∀o,rD P w (upd H1 a (Ua a o)) a o kvs->R (rF a o kvs) (upd H1 a (Ua a o))
theorem nM {l:Expr}{tl:TE} (hc:X.calm=true) (hl:PE X l tl):PI X tg l (dy X.prog X.w tl):=by
 intro pins s σ H R I h;refine jA (hl pins s σ H _ I h) λv s1 hh=>?_;obtain⟨x,H1,I1,r1,a,kvs,e,ha,q⟩:=hh;subst e;cases r1;obtain⟨z,hm,ws,rel,o,es,ep,h1,h2⟩:=ZK I1.hok ha;have dr:∀h:Heap,h.get? a=some o->h.DictAt (jr X.prog X.w) a ws ep:=λh g=>#[o,es,g,h2];refine wpAny_pyIter_dict hm (dr _ h1) ?_;have I2:ji X pins σ (upd H1 a (Ua a o)) { s1 with heap:=s1.heap,toks:=s1.toks }:=I1.write (x:=a) (e:=a) (h':=s1.heap) (t':=s1.toks) (by rw[ha];exact True.intro) (.inl rfl) (λb u _ e=>e) #[o,h1] #[h1,#[o,h1],λg1 g2 x k=>k _ x];have I3:=I2.kept (h':=s1.heap.push { cls:=.type "dict_keyiterator",data:=.fields (List.toArray [.ref a,.int 0 0,.int ws.length 0,.int ep 0]) }) (t':=s1.toks) λb o e=>yd _ e;refine#[s1.heap.objs.size,[s1.heap.objs.size],_,_,_,rfl,I3,#[true,cG a _ (yx (ym h1)) o rel dr,λ_=>hc],#[_,yo _ rfl,rfl,rfl],λb hb=>?_,q o #[jc,hm,#[ws,rel,ep,dr],z]];obtain rfl:b=s1.heap.objs.size:=by simpa using hb
 exact I2.fpOk (yh _) (I2.hok.fresh (yh _))
def fX (P:AS) (w:World) (t:TE):TE:=λσ H Q=>t σ H λv H'=>∃a o kvs,rD P w H' a o kvs/\Q v (upd H' a (.dK kvs))
theorem nK {t:TE} (h:PE X e t):PE X e (fX X.prog X.w t):=by
 intro pins s σ H Q I q;refine jA (h pins s σ H _ I q) λv s1 hh=>?_;obtain⟨x,H1,I1,r1,a,o,kvs,⟨ha,hm,⟨ws,rel,ep,dr⟩,hz⟩,q⟩:=hh;have g:=vk I1.hok ha;obtain⟨o',es,r⟩:=dr _ g;exact#[x,_,I1.write (x:=a) (e:=a) (o:=.dK kvs) (h':=s1.heap) (t':=s1.toks) (by rw[ha];exact True.intro) (.inl rfl) (λb u _ e=>e) #[o,g] #[hz,hm,ws,rel,o',es,ep,r],r1,q]
theorem iw {a:Addr}{o:Obj}{g:TG}{tc:TT}{k:Nat}{σ:St}{H:Hp}{Q:VK} (F:rD P w H a o kvs) (Pv:Addr->Nat->List V->Hp->Prop)
  (h0:∀D,H D=none->Pv D 0 [] (upd H D (.lst []))) (hD:∀D i ys H',Pv D i ys H'->H' D=some (.lst ys)/\ys.length<=i/\H' a=some (Ua a o))
  (step:∀D i kv ys H' (Qy:VK) (Qn:Hp->Prop),kvs[i]?=some kv->Pv D i ys H'->(∀y H4,H4 D=some (.lst ys)->Pv D (i+1) (ys++[y]) (upd H4 D (.lst (ys++[y])))->Qy y H4)->(∀H4,Pv D (i+1) ys H4->Qn H4) ->
   g (kV kv.1) (σ++List.replicate k none) H' λσ2 H2=>(∃zs,σ2=σ++zs/\zs.length=k)/\tc σ2 H2 λb H3=>if b=true then te σ2 H3 Qy else Qn H3)
  (q:∀D ys H',H D=none->Pv D kvs.length ys H'->Q (.ref D) H'):vM k g tc te σ Q (rF a o kvs) H:=by
 have hz:=F.hz;intro D CA;refine#[λi m ys H'=>m=kvs.length - i/\i<=kvs.length/\Pv D i ys H',#[kvs.length,by simp,yT _,h0 D CA],?_];rintro i m ys H' ⟨rfl,hi,p⟩;obtain⟨e,hl,q1⟩:=hD D i ys H' p;refine#[e,?_];by_cases AX:i<kvs.length
 ·refine .inr #[#[q1,AX],by omega,λx H2 y=>?_];obtain⟨rfl,kv,h1,rfl⟩:=y;exact step D i kv ys _ _ _ h1 p (λy H4 e4 p4=>#[e4,kvs.length - (i+1),by omega,rfl,AX,p4]) λH4 p4=>#[kvs.length - (i+1),by omega,rfl,AX,p4]
 ·obtain rfl:i=kvs.length:=by omega
  exact .inl #[#[q1,rfl],q D ys H' CA p]
end
section
variable {X:Cx}
theorem qw (hu:X.A.units<cLine):uN X (compareOp .NotEq) (λx y H Q=>∃(b:Addr) (ms:List Int),A3 (y=.ref b) (jg X.K H b (ms.map V.int)) ((x=.non/\Q (.bl true) H)\/∃(a:Addr) (ns:List Int),A3 (x=.ref a) (jg X.K H a (ns.map V.int)) (Q (.bl (!decide (ns=ms))) H))):=by
 intro pins s σ H x y v u Q I rx ry h;obtain⟨b,ms,rfl,hb,h⟩:=h;rcases h with ⟨rfl,q⟩|⟨a,ns,rfl,ha,q⟩
 ·cases rx;cases ry;obtain⟨AV,r1,p1,_⟩:=I.list hb;exact EqBoolInt.of_rcne (SeqAt.RcNeAt.none_list p1.isList hu) #[.bl true,H,I,rfl,q]
 ·exact cn hu pins s σ H _ _ v u Q I rx ry #[a,b,ns,ms,rfl,rfl,ha,hb,q]
theorem Kt:∀{ns:List Int} {us:AH},jz (ns.map V.int) us->IntsAre us ns
 | [],_,.nil=>.nil
 | n::ns,_,.cons r t=>by
  obtain⟨tk,rfl⟩:=r;exact .cons n tk (Kt t)
theorem cj (hu:X.A.units<cLine):uN X (compareOp .Eq) (λx y H Q=>E4 λ(a b:Addr) (ns ms:List Int)=>A5 (x=.ref a) (y=.ref b) (jg X.K H a (ns.map V.int)) (jg X.K H b (ms.map V.int)) (Q (.bl (decide (ns=ms))) H)):=by
 intro pins s σ H x y v u Q I rx ry h;obtain⟨a,b,ns,ms,rfl,rfl,ha,hb,q⟩:=h;cases rx;cases ry;obtain⟨AV,r1,p1,_⟩:=I.list ha;obtain⟨A0,r2,p2,_⟩:=I.list hb;have l1:=r1.length;have l2:=r2.length;rw[ya] at l1 l2;by_cases hz:AV.toArray.size=A0.toArray.size
 ·have e:((List.range AV.toArray.size).all λj=>decide (ns.getD j 0=ms.getD j 0))=decide (ns=ms):=by
   have:=Vc (0:Int) ns ms;rw[yg] at hz ⊢;rw[yg] at hz;rw[show min ns.length ms.length=AV.length by omega,show (ns.length==ms.length)=true by simp;omega,Bool.and_true] at this;rw[this]
  rw[<-e] at q;exact EqBoolInt.of_rc (SeqAt.RcAt.lists p1.isList p2.isList hz hu λj h1 h2=>Km r1 r2 j h1 h2) #[.bl _,H,I,rfl,q]
 ·have Bk:ns≠ms:=λe=>by
   rw[yg,yg] at hz;rw[e] at l1;omega
  rw[decide_eq_false Bk] at q;exact EqBoolInt.of_rc (SeqAt.RcAt.lists_lengths p1.isList p2.isList (bne_iff_ne.mpr hz) hu) #[.bl false,H,I,rfl,q]
theorem K8:Jf X (.builtin "sorted") (λxs H Q=>∃(p:Addr) (ns:List Int),A4 (xs=[.ref p]) (jg X.K H p (ns.map V.int)) (ns.length<64)
  (∀(l:Addr) (Be:List Int),H l=none->Be.Perm ns->Be.Pairwise (·<=·)->Q (.ref l) (upd H l (.lst (Be.map V.int))))):=by
 intro pins s σ H xs us Q I r h;obtain⟨p,ns,rfl,e,hn,q⟩:=h;obtain⟨u,rfl,ru⟩:=J1 r;cases ru;obtain⟨AV,rv,pl,hz⟩:=I.list e;have hi:=Kt rv;refine gc (ns0:=ns) (λR hR=>collect_list (A:=X.A.in1) pl.isList (hR _ ns _ s.toks s.drawn hi (.refl _) (λb o e=>?_) ?_) ?_) hn λh' tk c dr p' out Be kp hp e' a1 a2 a3=>?_
 ·exact (yM _ _ (Qe (ym e))).trans (yd _ e)
 ·show s.heap.objs.size<((s.heap.push _).update _ _).objs.size;simp [Heap.update,Heap.push]
 ·rw[hi.length];exact yp (y4 hn) '$'
 ·refine#[.ref p',_,(I.laid (t':=tk) (o:=.lst (Be.map V.int)) kp hp #[?_,out,c,VL a1,e']).drw dr,rfl,q p' _ (I.hok.fresh hp) a2 a3];rw[ya,a2.length_eq];exact yp (y4 hn) '$'
def cR (r:Addr) (n:Nat):HO:=.ext λh=>∃t u v,IsRange h r 0 n 1 t u v
theorem Nx:Jf X (.type "range") (λxs H Q=>∃(n:Nat),xs=[.int n]/\∀r,H r=none->Q (.ref r) (upd H r (cR r n))):=by
 intro pins s σ H xs us Q I r h;obtain⟨n,rfl,q⟩:=h;obtain⟨u,rfl,t,rfl⟩:=J1 r;have g:=yo s.heap (o:={ cls:=.type "range",data:=.fields (List.toArray [.int 0 s.toks,.int n t,.int 1 (s.toks+1)]) }) rfl;exact call_range_1 #[.ref s.heap.objs.size,_,I.laid (a:=s.heap.objs.size) (o:=cR s.heap.objs.size n) (t':=s.toks+1+1) (λ_ _ q=>yd _ q) (yh _) #[#[_,_,_,g],#[_,g],λh1 h2 x k=>by obtain⟨t,u,v,e⟩:=x;exact#[t,u,v,k _ e]],rfl,q _ (I.hok.fresh (yh _))]
theorem Kv:∀{n:Nat} {acc:AH} {k:Nat},acc.length=n->(∀(i:Nat) v,acc[i]?=some v->∃t,v=.int ((k+i:Nat):Int) t)->jz ((List.range' k n).map λi=>V.int (i:Nat)) acc
 | 0,[],_,_,_=>.nil
 | 0,_::_,_,h,_=>by cases h
 | n+1,[],_,h,_=>by cases h
 | n+1,v::acc,k,h,f=>by
  rw[List.range'_succ,yH];refine .cons (f 0 v rfl) (Kv (by simpa using h) λi v e=>?_);obtain⟨t,rfl⟩:=f (i+1) v (by simpa using e);exact#[t,by rw[show k+1+i=k+(i+1) by omega]]
theorem bz (Ce:X.calm=true):Jf X (.type "list") (λxs H Q=>∃(r:Addr) (n:Nat),A4 (xs=[.ref r]) (H r=some (cR r n)) (n<=1000) (∀l,H l=none->Q (.ref l) (upd H l (.lst ((List.range n).map λi=>V.int (i:Nat)))))):=by
 intro pins s σ H xs us Q I r h;obtain⟨r0,n,rfl,e,hn,q⟩:=h;obtain⟨u,rfl,ru⟩:=J1 r;cases ru;obtain⟨⟨t,u,v,hr⟩,_⟩:=(show jP X.prog X.w H s.heap r0 (cR r0 n) from I.hok r0 _ e);refine call_list_range (n:=n) (I.ok.hd Ce) hr (small_one '!' '!' '!' '!') ?_ '!' λh' tk acc c kp e' items=>?_
 ·rw[rangeSize_one];split<;>omega
 ·refine#[.ref s.heap.objs.size,_,I.laid (t':=tk) (o:=.lst ((List.range n).map λi=>V.int (i:Nat))) kp (yh _) #[?_,acc.toList,c,?_,by rw[QJ];exact e'],rfl,q _ (I.hok.fresh (yh _))]
  ·rw[ya,yW];exact yp hn '$'
  ·rw[List.range_eq_range'];exact Kv (by rw[yA];exact items.1) λi v e=>by
    obtain⟨t,rfl⟩:=items.2 i v (by rw[<-yN];exact e);exact#[t,by simp]
end
section
variable {prog:AS}{w:World}{A:Around}{E:Ax}{s:Shared}
theorem fq:typeLookup (.type "list_reverseiterator") "__len__"=pure none:=by rw[typeLookup_type,builtinLookup_eq_fast];kernel_rfl
theorem fo:typeLookup (.type "list_reverseiterator") "__length_hint__"=pure (some (.builtin "list_reverseiterator.__length_hint__")):=by rw[typeLookup_type,builtinLookup_eq_fast];kernel_rfl
theorem lH {Q:Az} (hT:s.TypeIs (.ref r) "list_reverseiterator") (h:Q false s):wpAny '#' A (Builtin.List.listLengthHint (.ref r)) Q E s:=by
 refine AT (m:=specialOf (.ref r) "__len__") (wpAny_specialOf hT fq ?_);refine AT (m:=specialOf (.ref r) (Str.ofString "__length_hint__")) (wpAny_specialOf hT fo ?_);generalize FL:("list_reverseiterator.__length_hint__":String)=id0
 wp_delta
 rw[show splitId id0=some ("list_reverseiterator","__length_hint__") from by subst FL;decide +kernel];subst FL;refine AT (wpAny_isInstance (T:="list_reverseiterator") (b:=true) hT (by rw[isSubtype_type];kernel_rfl) ?_);exact AU h
theorem iW {l:Addr}{items:AN}{Q:Ax} (hh:A.handled=none) (hr:s.heap.IsRevIter r l ((items.size:Int) - 1)) (hl:s.heap.IsList l items) (Bk:l≠r) (hn:items.size<=sizeLine)
  (hQ:∀h' tk acc c,(∀b o,b≠r->s.heap.get? b=some o->h'.get? b=some o)->h'.get? s.heap.objs.size=some { cls:=.type "list",dict:=none,data:=.seq acc c,slots:=(List.toArray []) }->ItemsOf (λi v=>items[items.size - 1 - i]?=some v) acc items.size->Q (.ref s.heap.objs.size) { s with heap:=h',toks:=tk }) :
  wpAny '#' A (call (.type "list") [.ref r]) Q E s:=by
 refine callType_codes (Q₁:=λobj s₁=>obj=.ref s.heap.objs.size/\s₁={ s with heap:=s.heap.push { cls:=.type "list",data:=.seq (List.toArray []) } }) PySem.F.called_list (PySem.F.typeCall_list_1 _) PySem.F.entry_list_init (code_list_new _ #[rfl,rfl]) λobj s₁ h₁=>?_;obtain⟨rfl,rfl⟩:=h₁;have hS:(s.heap.push { cls:=.type "list",data:=.seq (List.toArray []) }).get? s.heap.objs.size=some { cls:=.type "list",data:=.seq (List.toArray []) }:=yo _ rfl;obtain⟨o1,g1,_⟩:=id hr;obtain⟨o2,g2,_⟩:=id hl;have n1:s.heap.objs.size≠r:=Qe (ym g1);have n2:s.heap.objs.size≠l:=Qe (ym g2);refine#[#[_,hS,rfl],PySem.F.args_list_init_2 _ _,?_];refine AT (m:=Builtin.List.listItems (.ref s.heap.objs.size)) (wpAny_listItems hS rfl ?_);refine AT (m:=updateSeq s.heap.objs.size λ_=>(List.toArray [])) (wpAny_updateSeq hS rfl ?_);refine AT (wpAny_letGo ?_);have OR:=y6 (Obj.mapSeq (λ_=>((List.toArray []):AN))) hS rfl;have old:∀b o,s.heap.get? b=some o->((s.heap.push { cls:=.type "list",data:=.seq (List.toArray []) }).update s.heap.objs.size (Obj.mapSeq (λ_=>((List.toArray []):AN)))).get? b=some o:=λb o e=>(yM _ _ (Qe (ym e))).trans (yd _ e);generalize (s.heap.push { cls:=.type "list",data:=.seq (List.toArray []) }).update s.heap.objs.size (Obj.mapSeq (λ_=>((List.toArray []):AN)))=h2 at OR old;have Ci:h2.IsRevIter r l ((items.size:Int) - 1):=hr.at λo e=>old _ o e;have hl2:h2.IsList l items:=hl.at λo e=>old _ o e;have W:=Walks.listRev (prog:=prog) (w:=w) (A:=A.in1.in1) hh r l Bk items;have hT:({ s with heap:=h2 }:Shared).TypeIs (.ref r) "list_reverseiterator":=Heap.IsRevIter.typeIs (s:={ s with heap:=h2 }) Ci;have sm:Builtin.List.listSameRef (.ref s.heap.objs.size) (.ref r)=false:=by simp [Builtin.List.listSameRef,n1]
 have st:0<=items.size/\h2.IsRevIter r l ((items.size:Int) - 1 - ((0:Nat):Int))/\h2.IsList l items:=#[yT _,by simpa using Ci,hl2];refine AT (m:=typeOf (.ref r)) (wpAny_typeOf hT ?_);rw[if_neg (by rw[sm];decide)];refine AT (wpAny_pyIter_revIter (s:={ s with heap:=h2 }) Ci ?_);refine AT (wpAny_holding (lH hT ?_));rw[if_neg '$'];refine AU #[plainId_quiet PySem.F.plain_extend_loop _,codeAny_extend_loopS W.toS hn s.heap.objs.size (by simp [n1,n2]) .none items.size 0 _ (List.toArray []) _ rfl (yT _) st OR (ItemsOf.nil _) λs' IY c' hm R0 IZ=>?_];rw[Moved.eq_with hm];refine#[rfl,hQ s'.heap s'.toks IY c' (λb o hb e=>hm.heap b o (λEt=>?_) (old b o e)) R0 IZ];rcases yr.mp Et with e'|Et
 ·exact absurd (ym e) (by rw[e'];exact QI _)
 ·exact hb (yu.mp Et)
end
theorem dF {xs:List V}{AV:AH}{acc:AH} (r:jz xs AV) (hl:acc.length=AV.length) (f:∀(i:Nat) v,acc[i]?=some v->AV.toArray[AV.length - 1 - i]?=some v):jz xs.reverse acc:=by
 have e:acc=AV.reverse:=by
  refine yX (by rw[hl,List.length_reverse]) λi h1 h2=>?_;have:=f i acc[i] (yb h1);rw[Qm] at this;rw[List.getElem_reverse];exact ((yc.mp this).2).symm
 subst e;clear hl f
 induction r with
 | nil=>exact .nil
 | cons h t ih=>rw[List.reverse_cons,List.reverse_cons];exact ih.append (.cons h .nil)
section
variable {X:Cx}
def An (K:AB) (te:TE):TE:=λσ H Q=>te σ H λx H1=>∃(a:Addr) (ys:List V),A3 (x=.ref a) (jg K H1 a ys) (∀l,H1 l=none->Q (.ref l) (upd H1 l (.lst ys.reverse)))
theorem cp {p p2 pos Eu:Pos} (Ce:X.calm=true) (hg:Gl X "list") (hm:X.mg "list"=none) (R4:Gl X "reversed") (IU:X.mg "reversed"=none) (ha:PE X e te)
  (hs:starEach [.Call (.Name "reversed" p2) [e] [] Eu] X.env=[(false,eval (.Call (.Name "reversed" p2) [e] [] Eu) X.env)]:=by rfl) (Cu:starEach [e] X.env=[(false,eval e X.env)]:=by rfl) :
  PE X (.Call (.Name "list" p) [.Call (.Name "reversed" p2) [e] [] Eu] [] pos) (An X.K te):=by
 intro pins s σ H Q I h;refine wpAny_Call_Name_kw (U7 I hg hm boot_list (PyProof.Rows.callWith_type1 ?_ hs rfl));rw[hs];refine Calls.spliced_cons (wpAny_Call_Name_kw (U7 I R4 IU boot_reversed (PyProof.Rows.callWith_type1 ?_ Cu rfl)));rw[Cu];refine Calls.spliced_cons (jA (ha pins s σ H _ I h) λu s1 hh=>Calls.spliced_nil ?_);obtain⟨x,H1,I1,r1,a,ys,rfl,hl,q⟩:=hh;cases r1;obtain⟨AV,rv,pl,hz⟩:=I1.list hl;have sz:AV.toArray.size=ys.length:=by rw[yg,rv.length]
 refine call_reversed_list pl.isList (Calls.spliced_nil ?_);have g:=yo s1.heap (o:=revObj a ((AV.toArray.size:Int) - 1)) rfl;have Bk:a≠s1.heap.objs.size:=by obtain⟨o,e,_⟩:=pl.isList;exact yx (ym e)
 refine iW (s:={ s1 with heap:=s1.heap.push (revObj a ((AV.toArray.size:Int) - 1)) }) (I.ok.hd Ce) #[_,g,rfl,rfl] (pl.isList.at λo e=>yd _ e) Bk (by rw[sz];exact hz) λh' tk acc c kp e' items=>?_;have le:s1.heap.objs.size<=(s1.heap.push (revObj a ((AV.toArray.size:Int) - 1))).objs.size:=by rw[Qs];exact Nat.le_succ _
 refine#[.ref _,_,I1.laid (t':=tk) (o:=.lst ys.reverse) (λb o e=>kp b o (yx (ym e)) (yd _ e)) le #[by rw[List.length_reverse];exact hz,acc.toList,c,?_,by rw[QJ];exact e'],rfl,q _ (I1.hok.fresh le)];exact dF rv (by rw[yA];exact items.1.trans yg) λi v e=>by
  have:=items.2 i v (by rw[<-yN];exact e);rwa [yg] at this
end
section
variable {X:Cx}{pins:AF}{σ:St}{H:Hp}{s:Shared}
def gY (H:Hp) (p q:Addr):Prop:=∃us vs:List Addr,A3 (H p=some (.lst (us.map V.ref))) (H q=some (.lst (vs.map V.ref))) ((∃ks,KeyAt H us ks/\KeyAt H vs ks)\/∃xs,Mc H us xs/\Mc H vs xs)
theorem Me (n:Nat):(List.range n).all (λ_=>true)=true:=by simp
theorem db {A:Around} (I:ji X pins σ H s) (hu:A.units+32<cLine) {p q:Addr} (h:gY H p q):SeqAt.EqAt A s (.ref p) (.ref q) true:=by
 obtain⟨us,vs,hp,hq,h⟩:=h;by_cases Bu:p=q
 ·subst Bu;exact SeqAt.EqAt.same _
 rcases h with ⟨ks,T1,T2⟩|⟨xs,T1,T2⟩
 ·have:=Gi (A:=A) I '!' hp hq T1 T2;rwa [decide_eq_true rfl] at this
 ·obtain⟨AV,r1,p1,_⟩:=I.list (jg.of hp);obtain⟨A0,r2,p2,_⟩:=I.list (jg.of hq);have l1:=r1.length;have l2:=r2.length;rw[ya] at l1 l2;have t1:=T1.1;have t2:=T2.1;rw[<-Me AV.toArray.size];refine SeqAt.EqAt.of_refs Bu (SeqAt.RcAt.lists p1.isList p2.isList (by rw[yg,yg];omega) '!' λn h1 h2=>?_);have e1:=uT r1;have e2:=uT r2;subst e1 e2;rw[yg,ya] at h1 h2;have g:n<xs.length:=by omega
  rw[yS,yS,yR,yR];have:=iz (A:=A.in1) I (by show A.units+1+16<cLine;omega) (T1.2 n _ _ (yb h1) (yb g)) (T2.2 n _ _ (yb h2) (yb g));rwa [decide_eq_true rfl] at this
theorem eF (hu:X.A.units+64<cLine):uN X (compareOp .Eq) (λx y H Q=>∃(a b:Addr) (ps qs:AI),A6 (x=.ref a) (y=.ref b) (H a=some (.lst (ps.map V.ref))) (H b=some (.lst (qs.map V.ref))) (ps.length=qs.length/\∀(i:Nat) p q,ps[i]?=some p->qs[i]?=some q->gY H p q) (Q (.bl true) H)):=by
 intro pins s σ H x y v u Q I rx ry h;obtain⟨a,b,ps,qs,rfl,rfl,ha,hb,⟨hl,hs⟩,q⟩:=h;cases rx;cases ry;obtain⟨AV,r1,p1,_⟩:=I.list (jg.of ha);obtain⟨A0,r2,p2,_⟩:=I.list (jg.of hb);have l1:=r1.length;have l2:=r2.length;rw[ya] at l1 l2;rw[<-Me AV.toArray.size] at q;refine EqBoolInt.of_rc (SeqAt.RcAt.lists p1.isList p2.isList (by rw[yg,yg];omega) '!' λn h1 h2=>?_) #[.bl _,H,I,rfl,q];have e1:=uT r1;have e2:=uT r2;subst e1 e2;rw[yg,ya] at h1 h2;rw[yS,yS,yR,yR];exact db I (by show X.A.units+1+32<cLine;omega) (hs n _ _ (yb h1) (yb h2))
end
section
variable {X:Cx}{f:Value}
theorem ZG {ι:Sort _}{r:ι->List V->Hp->VK->Prop} (h:∀i,Jf X f (r i)):Jf X f (λxs H Q=>∃i,r i xs H Q) :=
 λpins s σ H xs us Q I rv #[i,q]=>h i pins s σ H xs us Q I rv q
theorem ZH {r1 r2:List V->Hp->VK->Prop} (h1:Jf X f r1) (h2:Jf X f r2):Jf X f (λxs H Q=>r1 xs H Q\/r2 xs H Q) :=
 λpins s σ H xs us Q I rv q=>q.elim (h1 pins s σ H xs us Q I rv) (h2 pins s σ H xs us Q I rv)
end
end L2
set_option genInjectivity false
namespace K51
open PySem L2 Wd TS
variable {i n:Nat}{xs:List JC}{p:List Value->Prop}{b:Bool}{A B c:Prop}{H H':Hp}{ps:AI}
variable {P:AS}{w:World}{K:AB}{mg:AE}{base:Heap}{t:Adr}
theorem jS {α β:Type}{f:α->β}{l:List α}{y:β} (h:(l.map f)[i]?=some y):∃x,l[i]?=some x/\f x=y:=by rwa [ye,yz] at h
theorem Vp (h:n<100):n<sizeLine:=yJ h '$'
theorem Ni (h:n<=100):n<=sizeLine:=yp h '$'
def JQ (i:Nat):Stmt:=PySem.Challenge.pw_copperbook_k51_a_drawing_renamed.main.body.getD i (.Pass #[0,0,0,0])
structure Adr where
 (jG jT ma pW Mo Mq md Mr Mx Mv ml me iC bO bJ NC bP bK Mw mf NH NG VQ zu iB di G9 ke gy ZX Zh mh ND bN NE mi Mu bM mj NF bL vR:Addr)
 (mD mC Nm Nl cD cE:Tok)
structure Txt (K:AB) (mg:AE) (t:Adr):Prop where
 dl:mg "Drawing"=some (.ref t.jG)
 iJ:mg "Sketch"=some (.ref t.jT)
 jW:Vs K t.jG
 Vl:uz K t.jG "parts"
 VD:uz K t.jG "nets"
 US:uz K t.jG "kinds"
 JJ:uz K t.jG "joins"
 uB:Vs K t.jT
 VE:uz K t.jT "heads"
 U8:uz K t.jT "wires"
 UA:uz K t.jT "ends"
 KQ:TN K t.jT "Sketch.__init__" (vT (JQ 2) 0) t.ma ["self","drawing"]
 pJ:TF K mg "alike" (JQ 3) t.pW ["one","other"]
 zY:TF K mg "alike_with" (JQ 4) t.Mo ["both","held"]
 mV:TF K mg "all_rounds" (JQ 5) t.Mq ["both","held"]
 KS:TF K mg "first_round" (JQ 6) t.md ["both","held"]
 mW:TF K mg "held_parts" (JQ 7) t.Mr ["sketch","held"]
 m3:TF K mg "pin_counts" (JQ 8) t.Mx ["sketch"]
 mY:TF K mg "next_round" (JQ 9) t.Mv ["both","marks"]
 K3:TF K mg "wired_parts" (JQ 10) t.ml ["sketch","part_marks","net_marks"]
 KU:TF K mg "joined_nets" (JQ 11) t.me ["sketch","part_marks","net_marks"]
 ig:TF K mg "ranked" (JQ 12) t.iC ["found"]
 bc:TF K mg "numbered" (JQ 13) t.bO ["things"]
 aY:TF K mg "how_many" (JQ 14) t.bJ ["marks"]
 Nq:TF K mg "first_odd" (JQ 15) t.NC ["rounds"]
 be:TF K mg "renaming" (JQ 16) t.bP ["marks"]
 aZ:TF K mg "is_whole" (JQ 23) t.bK ["value"]
 mZ:TF K mg "part_kinds" (JQ 31) t.Mw ["parts"]
 KW:TF K mg "joined_pins" (JQ 32) t.mf ["parts","nets"]
 Nw:TF K mg "part_pins" (JQ 33) t.NH ["parts"]
 Nv:TF K mg "need_rows" (JQ 34) t.NG ["rows","most","need_row"]
 VM:TF K mg "need_part" (JQ 35) t.VQ ["part"]
 zk:TF K mg "need_net" (JQ 36) t.zu ["net"]
 ie:TF K mg "is_pin" (JQ 37) t.iB ["value"]
 cN:TF K mg "is_name" (JQ 38) t.di ["value"]
 GY:TN K t.jG "Drawing.__init__" (vT (JQ 30) 0) t.G9 ["self","parts","nets"]
 GZ:TM K t.jG "pins" "Drawing.pins" (vT (JQ 30) 1) t.ke ["self"] []
 gg:TM K t.jG "net_of" "Drawing.net_of" (vT (JQ 30) 2) t.gy ["self","pin"] []
 ZW:TM K t.jG "has_pin" "Drawing.has_pin" (vT (JQ 30) 3) t.ZX ["self","pin"] []
 zX:TM K t.jG "net_pins" "Drawing.net_pins" (vT (JQ 30) 4) t.Zh ["self"] []
 KY:TF K mg "_law_cell_at" (JQ 40) t.mh ["_law_script","_law_k"]
 Nr:TF K mg "_law_draws" (JQ 41) t.ND ["_law_cell","_law_many"]
 bb:TF K mg "_law_rows" (JQ 42) t.bN ["_law_script"]
 Nt:TF K mg "_law_order" (JQ 43) t.NE ["_law_draws_here","_law_many"]
 KZ:TF K mg "_law_drawing" (JQ 44) t.mi ["_law_parts","_law_nets","_law_head"]
 mX:TF K mg "_law_turned" (JQ 45) t.Mu ["_law_parts","_law_nets","_law_script"]
 ba:TF K mg "_law_deep" (JQ 46) t.bM ["_law_drawing_here"]
 K0:TF K mg "_law_numbers" (JQ 47) t.mj ["_law_found","_law_many"]
 Nu:TF K mg "_law_right" (JQ 48) t.NF ["_law_found","_law_one","_law_other"]
 wq:mg "law"=some (.ref t.bL)
 wb:∃fd,gh K "law" "law" (JQ 49) t.bL fd/\∀(s:Shared) (u:Value),BindsTo s fd #[[u],[]] [("_law_script",u)]
 Ja:mg "isinstance"=none
 oU:mg "int"=none
 d7:mg "bool"=none
 GC:mg "str"=none
 Uc:mg "list"=none
 vU:mg "tuple"=none
 ut:mg "len"=none
 vq:mg "range"=none
 uK:mg "sorted"=none
 GB:mg "set"=none
 oS:mg "all"=none
 wA:mg "min"=none
 Jw:mg "enumerate"=none
 oV:mg "zip"=none
 cg:mg "reversed"=none
 MF:mg "MOST_SIGNS"=some (.int 8 t.mD)
 ME:mg "MOST_PARTS"=some (.int 8 t.mC)
 NK:mg "MOST_PINS"=some (.int 8 t.Nm)
 NJ:mg "MOST_NETS"=some (.int 24 t.Nl)
 dq:mg "FIGURES"=some (.str "0123456789" t.cD)
 Ks:mg "LETTERS"=some (.str "abcdefghijklmnopqrstuvwxyz" t.cE)
 al:mg "WORDS"=some (.ref t.vR)
 ZR:∀H,jB K H t.vR [.str "part",.str "net"]
section
variable {K:AB}{x q a:Str}{st:Stmt}{f D C:Addr}{oc kV dc pm cd ct u tt:Value}{od an dd:AR}{sl ds:AL}{ps:AM}{n:Nat}
theorem M4 (h:findIn K (.ref C) a=some none):uz K C a:=h
theorem As {us:AH}{xs:List V} (l:K.lookup f=some #[.type "tuple",od,.seq us.toArray n,sl]) (r:jz xs us) (z:xs.length<=sizeLine:=by exact Nat.le_of_ble_eq_true rfl) (H:Hp):jB K H f xs:=.inr #[_,_,_,l,rfl,rfl,by rw[yg,<-r.length];exact z,r]
theorem xW (h:∀a,p [a]):∀us:List Value,us.length=1->p us
 | [a],_=>h a
theorem xX (h:∀a b,p [a,b]):∀us:List Value,us.length=2->p us
 | [a,b],_=>h a b
theorem xY (h:∀a b c,p [a,b,c]):∀us:List Value,us.length=3->p us
 | [a,b,c],_=>h a b c
theorem JR (l:K.lookup f=some ⟨oc,od,.func (fnOf x q (V2 st) (vh st) (JO st) .none kV dc pm an cd ct),sl⟩) (e:codeIn K cd q=true) (k:keepIn K (.ref f)=true)
  (h:∀us:List Value,us.length=ps.length->bindArgs (fnOf x q (V2 st) (vh st) (JO st) .none kV dc pm an cd ct) ⟨us,[]⟩=pure (ps.zip us):=by first|exact xW λ_=>rfl|exact xX λ_ _=>rfl|exact xY λ_ _ _=>rfl):Df K x q st f ps [] :=
 ⟨_,ak l e k,.all h⟩
end
theorem km (h1:b=true->A) (h2:b=false->B):if b=true then A else B:=by
 cases b
 ·rw[if_neg yt];exact h2 rfl
 ·rw[if_pos rfl];exact h1 rfl
theorem wx (h1:b=false->A) (h2:b=true->B):if (!b)=true then A else B:=by
 cases b
 ·exact (if_pos (show (!false)=true from rfl))▸h1 rfl
 ·rw[if_neg '$'];exact h2 rfl
theorem iO [Decidable c] (h1:c->A) (h2:¬c->B):if decide c=true then A else B:=by
 by_cases h:c
 ·rw[if_pos (decide_eq_true h)];exact h1 h
 ·rw[if_neg (by simp [h])];exact h2 h
theorem VA (h:b=true) (k:B):if (!b)=true then A else B:=by rw[h];exact k
theorem bY [Decidable c] (h:c) (k:A):if decide c=true then A else B:=by rw[decide_eq_true h];exact k
theorem bX [Decidable c] (h:¬c) (k:B):if decide c=true then A else B:=by rw[decide_eq_false h];exact k
theorem jh {p:Addr}{o:HO} (x:Same H H') (hp:H' p=none):Same H (L2.upd H' p o):=λb u e=>by
 have:=x b u e;rw[jw (jy this hp)];exact this
def ML (c:Nat) (z:Str):Bool:=!(Builtin.Str.occurrences z #[(List.toArray [c])] 0 z.length 1).isEmpty
def LO:Str:="abcdefghijklmnopqrstuvwxyz"
def LF:Str:="abcdefghijklmnopqrstuvwxyz0123456789"
def iG (x:Str):Bool:=match x.cps.toList with|c::_=>ML c LO|[]=>false
def Uv (x:Str):Bool:=(decide ((1:Int)<=x.length)&&decide ((x.length:Int)<=8))&&(iG x&&(x.cps.toList.map λc=>ML c LF).all id)
theorem p8 {x:Str} (h:(1:Int)<=x.length):∃c,vL x.cps.toList 0=some c/\iG x=ML c LO:=by
 have hn:x.length=x.cps.toList.length:=Wd.len_list x;unfold iG;cases e:x.cps.toList with
 | nil=>rw[e] at hn;rw[hn] at h;exact absurd h '$'
 | cons c r=>exact#[c,Je (j:=0) rfl,rfl]
def xZ (v:V):Bool:=match v with|.int _=>true|.bl _=>true|_=>false
def Aa (v:V):Bool:=match v with|.int _=>true|_=>false
def fK:Sp:=λvs H Q _=>∃v,vs=[v]/\xZ v=true/\Q (.bl (Aa v)) H
theorem Z6 (T:Txt K mg t):j0 P w K mg base 1 "is_whole" ["value"] fK:=by
 refine T.aZ.ok ["value"] ?_;rintro _ H Q E ⟨v,rfl,hv,k⟩;refine#[rfl,λAZ A outer s hr=>#[_,(jj (jH (za (jx JV (by rfl) T.Ja j8 (ja (pv 0) (ja (uj (v:=.ty "int") (by rfl) T.oU oF rfl) jb))) (GO (sJ (jx JV (by rfl) T.Ja j8 (ja (pv 0) (ja (uj (v:=.ty "bool") (by rfl) T.d7 cU rfl) jb)))))))),?_]];cases v with
 | int i=>exact#[_,rfl,.int i,.ty "int",_,_,true,rfl,.int i,.ty _,by kernel_rfl,true,rfl,JI #[_,rfl,.int i,.ty "bool",_,_,false,rfl,.int i,.ty _,by kernel_rfl,false,rfl,k]]
 | bl x=>exact#[_,rfl,.bl x,.ty "int",_,_,true,rfl,.bl x,.ty _,by kernel_rfl,true,rfl,JI #[_,rfl,.bl x,.ty "bool",_,_,true,rfl,.bl x,.ty _,by kernel_rfl,true,rfl,k]]
 | _=>cases hv
def tF:Sp:=λvs H Q _=>∃x:Str,vs=[.str x]/\x.length<=1000/\∀H',Same H H'->Q (.bl (Uv x)) H'
theorem GJ (T:Txt K mg t):j0 P w K mg base 1 "is_name" ["value"] tF:=by
 refine T.cN.ok ["value"] ?_;rintro _ H Q E ⟨x,rfl,hl,k⟩;refine#[rfl,λAZ A outer s hr=>#[_,(jf (Jo (Um (Jj (Jz (jx JV (by rfl) T.Ja j8 (ja (pv 0) (ja (uj (v:=.ty "str") (by rfl) T.GC Gb rfl) jb))))) (uS (Jj (nV mP mP jk (jx Mg (by rfl) T.ut uo (ja (pv 0) jb)) (uR (v:=.int 8) (by rfl) T.MF #[_,rfl]))))).pt (jj (jH vd)) jR) (jj (jH (za (zc KM (jp r9 (pv 0) jk) (uR (v:=.str "abcdefghijklmnopqrstuvwxyz") (by rfl) T.Ks #[_,rfl])) (GO (jx (V0 rfl) (by rfl) T.oS oE (ja (Jg (own:=["sign"]) (uO (cl:=[])) (sL (pv 0)) (λ_ _ _ _ _=>jl 1) (λ_ _ _ _ _=>Jd) (λ_ _ _ _ _=>(zc KM (pv 1) (jK U9 (uR (v:=.str "abcdefghijklmnopqrstuvwxyz") (by rfl) T.Ks #[_,rfl]) (uR (v:=.str "0123456789") (by rfl) T.dq #[_,rfl]))))) jb))))))),?_]];have hz:x.length<=sizeLine:=yp hl '$';unfold Uv at k;refine#[_,rfl,.str x,.ty "str",_,_,true,rfl,.str x,.ty _,by kernel_rfl,true,rfl,UE #[_,rfl,x,rfl,hz,1,_,rfl,rfl,_,rfl,iO (λh1=>#[_,8,rfl,rfl,_,rfl,wx (λh2=>?_) λh2=>?_]) λh1=>#[false,rfl,?_]]]
 ·rw[h2,Bool.and_false,Bool.false_and] at k;exact k _ (Same.refl H)
 ·rw[h2,decide_eq_true h1,Bool.true_and,Bool.true_and] at k;obtain⟨c,e1,e2⟩:=p8 h1;rw[e2] at k;refine#[_,rfl,x,0,c,rfl,rfl,hz,e1,_,_,rfl,rfl,_,rfl,km (λh3=>?_) λh3=>?_]
  ·have h3:ML c LO=true:=h3;rw[h3,Bool.true_and] at k;refine#[_,rfl,_,rfl,iy (λ_=>true) (λc=>.bl (ML c LF)) hz (λc hc H' Qy Qn s' kY kN=>#[#[[some (.str #[(List.toArray [c])])],rfl,rfl],JI #[_,rfl,_,_,rfl,rfl,by decide,_,_,rfl,rfl,kY rfl _ (Same.refl _)]]) λD H1 hD s1 eD=>?_];rw[Qz.mpr (λ_ _=>rfl)] at eD;refine#[D,x.cps.toList.map λc=>ML c LF,rfl,jg.of (by rw[eD,yq];rfl),k _ s1]
  ·have h3:ML c LO=false:=h3;rw[h3,Bool.false_and] at k;exact k _ (Same.refl H)
 ·rw[decide_eq_false h1,Bool.false_and,Bool.false_and] at k;exact k _ (Same.refl H)
def wO:Sp:=λvs H Q _=>∃(p:Addr) (x:Str) (n:Int),vs=[.ref p]/\H p=some (.tup [.str x,.int n])/\Q (.bl true) H
theorem KJ (T:Txt K mg t):j0 P w K mg base 2 "is_pin" ["value"] wO:=by
 refine T.ie.ok ["value"] ?_;rintro _ H Q E ⟨p,x,n,rfl,hp,k⟩;refine#[rfl,λAZ A outer s hr=>#[_,(jj (jH (za (jx JV (by rfl) T.Ja j8 (ja (pv 0) (ja (uj (v:=.ty "tuple") (by rfl) T.vU vS rfl) jb))) (za (zc mO (jx jU (by rfl) T.ut uo (ja (pv 0) jb)) jk) (za (jx JV (by rfl) T.Ja j8 (ja (jp jL (pv 0) jk) (ja (uj (v:=.ty "str") (by rfl) T.GC Gb rfl) jb))) (GO (jo (Z6 T) (ja (jp jL (pv 0) jk) jb)))))))),?_]];refine#[_,rfl,.ref p,.ty "tuple",_,_,true,rfl,.tup hp,.ty _,by kernel_rfl,true,rfl,JI #[_,rfl,p,_,rfl,.inr (jB.of hp),rfl,true,rfl,JI #[_,rfl,p,_,0,.str x,rfl,rfl,jB.of hp,rfl,.str x,.ty "str",_,_,true,rfl,.str x,.ty _,by kernel_rfl,true,rfl,JI #[_,rfl,p,_,1,.int n,rfl,rfl,jB.of hp,rfl,.int n,rfl,rfl,k]]]]
structure Jp where
 name:Str
 kind:Str
 many:Nat
structure Jp.good (x:Jp):Prop where
 n:Uv x.name=true
 k:Uv x.kind=true
 ln:x.name.length<=1000
 lk:x.kind.length<=1000
 m1:1<=x.many
 m8:x.many<=8
def qW:Sp:=λvs H Q _=>∃(p:Addr) (x:Jp),A4 (vs=[.ref p]) (H p=some (.tup [.str x.name,.str x.kind,.int x.many])) x.good (∀H',Same H H'->Q .non H')
theorem nA (T:Txt K mg t):j0 P w K mg base 3 "need_part" ["part"] qW:=by
 refine T.VM.ok ["part"] ?_;rintro _ H Q E ⟨p,x,rfl,hp,g,kQ⟩;refine#[rfl,λAZ A outer s hr=>#[_,(jf (Jo (Um (Jj (Jz (jx JV (by rfl) T.Ja j8 (ja (pv 0) (ja (uj (v:=.ty "tuple") (by rfl) T.vU vS rfl) jb))))) (uS (Jq zG (jx jU (by rfl) T.ut uo (ja (pv 0) jb)) jk))).pt (jj ua) jR) (jf (Jo (Um (Jj (Jz (jo (GJ T) (ja (jp jL (pv 0) jk) jb)))) (uS (Jj (Jz (jo (GJ T) (ja (jp jL (pv 0) jk) jb)))))).pt (jj ua) jR) (jj (Jo (Um (Jj (Jz (jo (Z6 T) (ja (jp jL (pv 0) jk) jb)))) (uS (Jj (nV mP mP jk (jp jL (pv 0) jk) (uR (v:=.int 8) (by rfl) T.NK #[_,rfl]))))).pt (jj ua) jR)))),?_]];refine#[_,rfl,.ref p,.ty "tuple",_,_,true,rfl,.tup hp,.ty _,by kernel_rfl,true,rfl,UE #[_,rfl,p,_,rfl,.inr (jB.of hp),rfl,_,rfl,vx rfl ?_]];refine#[_,rfl,p,_,0,.str x.name,rfl,rfl,jB.of hp,rfl,x.name,rfl,g.ln,λH1 s1=>#[_,rfl,VA g.n ?_]];refine#[_,rfl,p,_,1,.str x.kind,rfl,rfl,jB.of (s1 _ _ hp),rfl,x.kind,rfl,g.lk,λH2 s2=>#[_,rfl,VA g.k ?_]];have Bl:=Same.trans s1 s2;have Cm:=jB.of (K:=K) (Bl _ _ hp);exact#[_,rfl,p,_,2,.int x.many,rfl,rfl,Cm,rfl,.int x.many,rfl,rfl,_,rfl,VA rfl #[_,rfl,p,_,2,.int x.many,rfl,rfl,Cm,rfl,1,x.many,rfl,rfl,_,rfl,bY (by have:=g.m1;omega) #[x.many,8,rfl,rfl,_,rfl,VA (decide_eq_true (by have:=g.m8;omega)) (kQ _ Bl)]]]
def kP (x:Str×Int):List Key:=[.inr x.1,.inl x.2]
abbrev JC:=Str×Int
def JH (H:Hp) (ps:AI) (xs:List JC):Prop:=KeyAt H ps (xs.map kP)
theorem JH.len (C:JH H ps xs):ps.length=xs.length:=by have:=C.1;rwa [ya] at this
theorem JH.at_ (C:JH H ps xs) {p:Addr} {x:JC} (h1:ps[i]?=some p) (h2:xs[i]?=some x):H p=some (.tup [.str x.1,.int x.2]) :=
 C.2 i p (kP x) h1 (by rw[ye,h2];rfl)
theorem JH.mem (C:JH H ps xs) {p:Addr} (h:p∈ps):∃x∈xs,H p=some (.tup [.str x.1,.int x.2]):=by
 obtain⟨i,hi,rfl⟩:=yD h;have h2:i<xs.length:=by rw[<-C.len];exact hi
 exact#[_,yB h2,C.at_ (yb hi) (yb h2)]
theorem JH.mono (C:JH H ps xs) (k:∀q ys,H q=some (.tup ys)->H' q=some (.tup ys)):JH H' ps xs:=#[C.1,λi p c h1 h2=>k _ _ (C.2 i p c h1 h2)]
theorem JH.same (C:JH H ps xs) (s:Same H H'):JH H' ps xs:=C.mono λ_ _ e=>s _ _ e
def qV:Sp:=λvs H Q _=>E5 λ(p a:Addr) (x:Str) (ps:AI) (xs:List JC)=>A8 (vs=[.ref p]) (H p=some (.tup [.str x,.ref a])) (H a=some (.lst (ps.map V.ref))) (JH H ps xs) (Uv x=true/\x.length<=1000) (xs.length<=1000) (xs≠[]) (∀H',Same H H'->Q .non H')
theorem NS (T:Txt K mg t):j0 P w K mg base 3 "need_net" ["net"] qV:=by
 refine T.zk.ok ["net"] ?_;rintro _ H Q E ⟨p,a,x,ps,xs,rfl,hp,ha,C,h1,h2,nx,kQ⟩;refine#[rfl,λAZ A outer s hr=>#[_,(jf (Jo (Um (Jj (Jz (jx JV (by rfl) T.Ja j8 (ja (pv 0) (ja (uj (v:=.ty "tuple") (by rfl) T.vU vS rfl) jb))))) (uS (Jq zG (jx jU (by rfl) T.ut uo (ja (pv 0) jb)) jk))).pt (jj ua) jR) (jf (Jo (Jj (Jz (jo (GJ T) (ja (jp jL (pv 0) jk) jb)))) (jj ua) jR) (jf (Jo (Um (Jj (Jz (jx JV (by rfl) T.Ja j8 (ja (jp jL (pv 0) jk) (ja (uj (v:=.ty "list") (by rfl) T.Uc Us rfl) jb))))) (uS (Jj (nW (jp jL (pv 0) jk) (λ_=>rfl))))).pt (jj ua) jR) (jj (Jo (Jj (Jz (jx (V0 rfl) (by rfl) T.oS oE (ja (Jg (own:=["pin"]) (uO (cl:=[])) (jO (jp jL (pv 0) jk)) (λ_ _ _ _ _=>jl 1) (λ_ _ _ _ _=>Jd) (λ_ _ _ _ _=>(jo (KJ T) (ja (pv 1) jb)))) jb)))) (jj ua) jR))))),?_]];refine#[_,rfl,.ref p,.ty "tuple",_,_,true,rfl,.tup hp,.ty _,by kernel_rfl,true,rfl,UE #[_,rfl,p,_,rfl,.inr (jB.of hp),rfl,_,rfl,vx rfl ?_]];refine#[_,rfl,p,_,0,.str x,rfl,rfl,jB.of hp,rfl,x,rfl,h1.2,λH1 s1=>#[_,rfl,VA h1.1 ?_]];have I0:=s1 _ _ hp;have CL:=s1 _ _ ha;have ne:ps≠[]:=λz=>nx (List.length_eq_zero_iff.mp (by rw[<-C.len,z];rfl));refine#[_,rfl,p,_,1,.ref a,rfl,rfl,jB.of I0,rfl,.ref a,.ty "list",_,_,true,rfl,.lst CL,.ty _,by kernel_rfl,true,rfl,UE #[_,rfl,p,_,1,.ref a,rfl,rfl,jB.of I0,rfl,_,.inl #[_,jg.of CL,rfl],VA (by cases ps with|nil=>exact absurd rfl ne|cons _ _=>rfl) ?_]];have C1:=C.same s1;refine#[_,rfl,p,_,1,.ref a,rfl,rfl,jB.of I0,rfl,a,rfl,#[_,jg.of CL],Ut (xs:=ps.map V.ref) (λ_=>true) (λ_=>.bl true) (jg.of CL) (by rw[ya,C.len];exact yp h2 '$') (λv hv H' Qy Qn s' hy _=>?_) λD hD=>?_]
 ·obtain⟨q,hq,rfl⟩:=yi.mp hv;obtain⟨y,I8,e⟩:=C1.mem hq;exact#[#[_,rfl,rfl],JI #[_,rfl,q,y.1,y.2,rfl,s' _ _ e,hy rfl]]
 ·refine#[D,ps.map λ_=>true,rfl,jg.of (by rw[jc,Qz.mpr (λ_ _=>rfl),yq,yq];rfl),_,rfl,VA (QC.mpr λz hz=>by obtain⟨_,_,rfl⟩:=yi.mp hz;rfl) (kQ _ (jh s1 hD))]
end K51
namespace K51
open PySem L2 Wd TS STb
variable {H H1:Hp}{p r:Nat->Nat}{ps ls vs pa us ds:AI}{xs:List Jp}{n j:Nat}{ys:List JL}{kvs:List (Key×V)}{ns ms pm nm:List Int}{ks:List (List Key)}{y:JL}{f C D R d pl nl L d0:Addr}{T:TK}{Q:VK}{l' held:AD}{zs:List V}{es A1:List (List (Nat×Nat))}{X:Cx}{os:List Nat}{S1 S2:uu}{M':Ji}{Ms:List Ji}{m':Int}{E:XK}{rs Bc:List uA}{hd:Str}
variable {P:AS}{w:World}{K:AB}{mg:AE}{base:Heap}{t:Adr}
local macro_rules
 | `(tactic| exists $H:ident,$s:ident,$e:ident,$h,$p,$hp,$o)=>`(tactic| (have $s:ident:=jh (o:=$o) (Same.refl $h) $hp;have $e:ident:=(jc:upd $h $p $o $p=some $o);generalize upd $h $p $o=$H at $s:ident $e:ident))
 | `(tactic| exists $H:ident,$s:ident,$e:ident,$h,$p,$hp,$o,$q)=>`(tactic| (have $s:ident:=jh (o:=$o) (Same.refl $h) $hp;have $e:ident:=(jc:upd $h $p $o $p=some $q);generalize upd $h $p $o=$H at $s:ident $e:ident))
theorem Ga:bootBuiltins "set"=some (.type "set"):=by kernel_rfl
theorem dv {p:Addr}{a:V}{r:List V} (h:H p=some (.tup (a::r))):zS H (.ref p)=a:=by show (match H p with|some (.tup (a::_))=>a|_=>V.non)=a;rw[h]
theorem wt {xs:AM} (hl:ps.length=xs.length) (hx:∀(i:Nat) p x,ps[i]?=some p->xs[i]?=some x->(∃r,H p=some (.tup (.str x::r)))):(ps.map V.ref).map (zS H)=xs.map V.str:=by
 refine yX (by simp [hl]) λi h1 h2=>?_;have g1:i<ps.length:=by simpa using h1
 have g2:i<xs.length:=by simpa using h2
 obtain⟨r,e⟩:=hx i _ _ (yb g1) (yb g2);rw[yR,yR,yR,dv e]
theorem ul {α:Type}:∀{l m:List α},l.Nodup->(∀a∈l,a∈m)->l.length<=m.length
 | [],_,_,_=>yT _
 | a::l,m,nd,h=>by
  classical
  obtain⟨h1,h2⟩:=y7.mp nd;have ha:=h a (yw ..);have:=ul (l:=l) (m:=m.erase a) h2 λb hb=>(List.mem_erase_of_ne (show b≠a from λe=>h1 (by rw[<-e];exact hb))).mpr (h b (yn _ hb));rw[List.length_erase_of_mem ha] at this;have:=List.length_pos_of_mem ha;rw[yQ];omega
def tK (P:AS) (w:World) (K:AB) (mg:AE) (base:Heap):Sp:=λvs H Q _=>E6 λ(a f:Addr) (ps:AI) (xs:AM) (most:Int) (sp:Sp)=>A9 (vs=[.ref a,.int most,.ref f]) (H a=some (.lst (ps.map V.ref))) (ps.length=xs.length) (xs.length<=900/\xs.length<=most) (rB P w K mg base 3 f sp)
 (∀(i:Nat) p x,ps[i]?=some p->xs[i]?=some x->(∃r,H p=some (.tup (.str x::r))))
 (∀(i:Nat) p,ps[i]?=some p->∀H1,Same H H1->∀Q1 E1,(∀H2,Same H1 H2->Q1 .non H2)->sp [.ref p] H1 Q1 E1)
 xs.Nodup (∀H',Same H H'->Q .non H')
theorem nB (T:Txt K mg t):j0 P w K mg base 4 "need_rows" ["rows","most","need_row"] (tK P w K mg base):=by
 refine T.Nv.ok ["rows","most","need_row","row","names"] ?_;rintro _ H Q E ⟨a,f,ps,xs,most,sp,rfl,ha,hl,hl2,hF,hx,hg,nd,kQ⟩;refine#[rfl,λAZ A outer s hr=>#[_,(jf (Jo (Um (Jj (Jz (jx JV (by rfl) T.Ja j8 (ja (pv 0) (ja (uj (v:=.ty "list") (by rfl) T.Uc Us rfl) jb))))) (uS (Jq ck (jx jU (by rfl) T.ut uo (ja (pv 0) jb)) (pv 1)))).pt (jj ua) jR) (jf (j7 jQ (jO (pv 0)) (jl 3) (jj (j6 (i9 (k:=3) (P:=P) (w:=w) (K:=K) (mg:=mg) (base:=base) rfl rfl rfl rfl rfl (pv 2) hr.m vH (ja (pv 3) jb))))) (jf (Uh 4 (N0:=["rows","most","need_row",".row","names"]) (own:=["row"]) (uO (cl:=[])) (jO (pv 0)) (λ_ _ _ _ _=>jl 5) (λ_ _ _ _ _=>Jd) (λ_ _ _ _ _=>(jp jL (pv 5) jk))) (jj (Jo (Jq zG (jx Kh (by rfl) T.ut uo (ja (j4 (vC rfl) (by rfl) T.GB Ga (ja (pv 4) jb)) jb)) (jx jU (by rfl) T.ut uo (ja (pv 4) jb))) (jj ua) jR))))),?_]];refine J0 [oR a,some (.int most),oR f,none,none] (λH'=>H'=H) (λB hB=>#[_,rfl,.ref a,.ty "list",_,_,true,rfl,.lst ha,.ty _,by kernel_rfl,true,rfl,UE #[_,rfl,a,_,rfl,.inl (jg.of ha),_,rfl,_,most,rfl,rfl,_,rfl,bX (by rw[ya,hl];omega) (hB _ rfl)]]) ?_;rintro H rfl;have lz:(ps.map V.ref).length<=sizeLine:=by rw[ya,hl];exact yp hl2.1 '$'
 refine JF (λ(v3:Option V)=>[oR a,some (.int most),oR f,v3,none]) (λ_ H'=>Same H H') (λB hB=>?_) ?_
 ·refine#[_,rfl,a,rfl,#[_,jg.of ha],uJ (xs:=ps.map V.ref) (λi σ H'=>∃v3:Option V,σ=[oR a,some (.int most),oR f,v3,none]/\Same H H') #[_,rfl,Same.refl H] (λi σ H' _ h=>by obtain⟨_,_,e⟩:=h;exact jg.of (e _ _ ha)) ?_ ?_]
  ·rintro i v σ H2 hv ⟨v3,rfl,s2⟩;obtain⟨p,e1,rfl⟩:=jS hv;exact#[_,rfl,f,sp,rfl,hF,_,rfl,hg i p e1 H2 s2 _ _ λH3 s3=>#[_,rfl,Same.trans s2 s3]]
  ·rintro σ H2 ⟨v3,rfl,s2⟩;exact hB _ _ s2
 rintro v3 H1 s1;have CL:=s1 _ _ ha;refine#[_,rfl,a,rfl,#[_,jg.of CL],Ut (xs:=ps.map V.ref) (λ_=>true) (zS H) (jg.of CL) lz (λx BO H' Qy Qn s' hy _=>?_) λD hD=>?_]
 ·obtain⟨p,hp,rfl⟩:=yi.mp BO;obtain⟨i,hi,rfl⟩:=yD hp;have h2:i<xs.length:=by rw[<-hl];exact hi
  obtain⟨r,e⟩:=hx i _ _ (yb hi) (yb h2);refine#[#[_,rfl,rfl],JI (Ab (.str xs[i]) (jB.of (s' _ _ (s1 _ _ e))) ?_)];have:=hy rfl;rwa [dv e] at this
 have s3:=jh (o:=.lst (((ps.map V.ref).filter λ_=>true).map (zS H))) (Same.refl H1) hD;have e3:upd H1 D (.lst (((ps.map V.ref).filter λ_=>true).map (zS H))) D=some (.lst (xs.map V.str)):=by rw[jc,Qz.mpr (λ_ _=>rfl),wt hl hx]
 generalize upd H1 D (.lst (((ps.map V.ref).filter λ_=>true).map (zS H)))=H2 at s3 e3;refine#[_,rfl,D,xs.map Sum.inr,rfl,by rw[e3,yq];rfl,by rw[ya];omega,λS us hS R5 mem=>?_];have s4:=jh (o:=.ext (Uj P w S us)) (Same.refl H2) hS;have lu:us.length=xs.length:=by
  have h1:=ul R5 λk hk=>(mem k).mp hk;have h2:=ul (Qx.mpr (nd.imp λh e=>h (Sum.inr.inj e))) λk hk=>(mem k).mpr hk;rw[ya] at h1 h2;omega
 refine#[S,us,rfl,jc,by omega,_,rfl,D,_,rfl,.inl (jg.of (s4 _ _ e3)),rfl,_,rfl,?_];exact vx (by rw[lu,ya V.str]) (kQ _ (Same.trans s1 (Same.trans s3 s4)))
def uH (H:Hp) (ps:AI) (xs:List Jp):Prop:=ps.length=xs.length/\∀(i:Nat) p x,ps[i]?=some p->xs[i]?=some x->H p=some (.tup [.str x.name,.str x.kind,.int x.many])
def vA (z:Str) (n:Nat):List JC:=(List.range n).map λ(k:Nat)=>(z,(k:Int))
def Jp.pins (x:Jp):List JC:=vA x.name x.many
def Ue (xs:List Jp):List JC:=xs.flatMap Jp.pins
theorem jC {α:Type}{l:List α}{i:Nat}{x:α} (h:l[i]?=some x):l.take (i+1)=l.take i++[x]:=by rw[List.take_succ,h];rfl
theorem jN {α:Type}{l:List α} (h:l.length=n):l.take n=l:=Q4 (Nat.le_of_eq h)
theorem gN:JH H [] []:=#[rfl,λi p c h=>nomatch h]
theorem JH.app {qs:AI}{xs ys:List JC} (a:JH H ps xs) (b:JH H qs ys):JH H (ps++qs) (xs++ys):=by
 refine#[by rw[yj,ya,yj,a.len,b.len],λi p c h1 h2=>?_];rw[yf] at h2;have la:=a.1;by_cases hi:i<ps.length
 ·rw[yC hi] at h1;rw[yC '!'] at h2;exact a.2 i p c h1 h2
 ·rw[yG '!'] at h1;rw[yG '!',<-la] at h2;exact b.2 _ p c h1 h2
theorem JH.one {p:Addr}{x:JC} (h:H p=some (.tup [.str x.1,.int x.2])):JH H [p] [x]:=by
 refine#[rfl,λi q c h1 h2=>?_];cases i with
 | zero=>cases h1;cases h2;exact h
 | succ i=>cases h1
theorem JH.wr {xs:List JC} (C:JH H ps xs) {a:Addr} {o:HO} {u:HO} (e:H a=some u) (h:∀ys,u≠.tup ys):JH (upd H a o) ps xs:=C.mono λq ys g=>by
 rw[jw (jX g e (λz=>h _ z.symm))];exact g
def tI:Sp:=λvs H Q _=>∃(a:Addr) (ps:AI) (xs:List Jp),vs=[.ref a]/\H a=some (.lst (ps.map V.ref))/\uH H ps xs/\(∀x∈xs,x.good)/\xs.length<=8/\∀D qs H',Same H H'->H D=none->H' D=some (.lst (qs.map V.ref))->JH H' qs (Ue xs)->Q (.ref D) H'
theorem nE (T:Txt K mg t):j0 P w K mg base 1 "part_pins" ["parts"] tI:=by
 refine T.Nw.ok ["parts","pins","name","kind","many"] ?_;rintro _ H Q E ⟨a,ps,xs,rfl,ha,C,hm,hl,q⟩;refine#[rfl,λAZ A outer s hr=>#[_,(jf (ju 1 (Jb jb)) (jf (j7 jQ (jO (pv 0)) (Jv (jt (jl 2) (jt (jl 3) (jt (jl 4) Jc)))) (jj (j6 (Jm PySem.F.plainAttrs_list PySem.F.slot_list_extend PySem.F.type_list_extend dX (pv 1) (ja (Jg (own:=["number"]) (uO (cl:=[("name",_)])) (UX rfl T.vq (ja (pv 4) jb)) (λ_ _ _ _ _=>jl 5) (λ_ _ _ _ _=>Jd) (λ_ _ _ _ _=>(Jn (ja (pv 2) (ja (pv 5) jb))))) jb))))) (jj (jH (pv 1))))),?_]];refine JF (λ(D:Addr)=>[oR a,oR D,none,none,none]) (λD H'=>Same H H'/\H D=none/\H' D=some (.lst [])) (λB hB=>#[UY,λD hD=>hB D _ #[jh (Same.refl H) hD,hD,jc]]) ?_;rintro D H1 ⟨s1,hD,eD⟩;have CL:=s1 _ _ ha;refine GR (λ(v2 v3 v4:Option V) (qs:AI)=>[oR a,oR D,v2,v3,v4]) (λ_ _ _ qs H'=>Same H H'/\H' D=some (.lst (qs.map V.ref))/\JH H' qs (Ue xs)) (λB hB=>?_) ?_
 ·refine#[_,rfl,a,rfl,#[_,jg.of CL],uJ (xs:=ps.map V.ref) (λi σ H'=>∃(v2 v3 v4:Option V) (qs:AI),σ=[oR a,oR D,v2,v3,v4]/\Same H H'/\H' D=some (.lst (qs.map V.ref))/\JH H' qs (Ue (xs.take i))/\qs.length<=8*i) #[_,_,_,[],rfl,s1,eD,gN,yh _] (λi σ H' _ h=>by obtain⟨_,_,_,_,_,e,_⟩:=h;exact jg.of (e _ _ ha)) ?_ ?_]
  ·rintro i v σ H2 hv ⟨v2,v3,v4,qs,rfl,s2,e2,C2,l2⟩;obtain⟨p,e1,rfl⟩:=jS hv;have hi:i<xs.length:=by rw[<-C.1];exact (yc.mp e1).1
   have ex:=yb hi;have ep:=s2 _ _ (C.2 i p _ e1 ex);have n8:=(hm _ (yB hi)).m8;generalize en:xs[i].many=n at ep n8;refine#[p,_,rfl,jB.of ep,rfl,_,_,rfl,_,_,rfl,_,_,rfl,rfl,_,rfl,.inl #[rfl,_,jg.of e2],_,rfl,n,rfl,by omega,by omega,zq (lo:=0) (n:=n) (λD' k ys H'=>H2 D'=none/\Same H2 H'/\H' D'=some (.lst ys)/\ys.length=k/\∃rs:List Addr,ys=rs.map V.ref/\JH H' rs (vA xs[i].name k)) (yp n8 '$') (λD' Hm=>#[Hm,jh (Same.refl _) Hm,jc,rfl,[],rfl,gN]) (λD' k ys H' #[_,_,e,l,_]=>#[e,l]) ?_ ?_]
   ·rintro D' k ys H4 Qy Qn hk ⟨d1,d2,d3,d4,rs,rfl,C4⟩ hy;have e3:(0:Int)+(k:Int)=(k:Int):=by omega
    rw[e3];refine#[#[_,rfl,rfl],JI #[_,rfl,_,rfl,Uz,λp4 I9=>?_]];have s5:=jh (o:=.tup [.str xs[i].name,.int (k:Int)]) (Same.refl H4) I9;have OS:=s5 _ _ d3;have e5:upd H4 p4 (.tup [.str xs[i].name,.int (k:Int)]) p4=some (.tup [.str xs[i].name,.int (k:Int)]):=jc;refine hy _ _ OS #[d1,λx u e=>jq (jy e d1) (s5 _ _ (d2 _ _ e)),jc,by rw[yj,d4];rfl,rs++[p4],by rw[yf];rfl,?_];unfold vA;rw[List.range_succ,yf];exact ((C4.same s5).app (JH.one (x:=(xs[i].name,(k:Int))) e5)).wr OS (by intro ys z;cases z)
   ·rintro D' ys H4 Hm ⟨d1,d2,d3,d4,rs,rfl,C4⟩;have lr:rs.length=n:=by rw[ya] at d4;exact d4
    have e4:=d2 _ _ e2;refine#[D,D',_,_,rfl,rfl,e4,d3,?_,_,_,_,qs++rs,rfl,λb u e=>jq (jy e hD) (d2 _ _ (s2 _ _ e)),by rw[jc,yf],?_,by rw[yj];omega]
    ·rw[ya,ya];exact yp (show _<=1000 by omega) '$'
    ·have:Ue (xs.take (i+1))=Ue (xs.take i)++vA xs[i].name n:=by
      unfold Ue;rw[jC ex,Wc];simp only[QK,List.flatMap_nil,QM];unfold Jp.pins;rw[en]
     rw[this];exact ((C2.same d2).app C4).wr e4 (by intro ys z;cases z)
  ·rintro σ H2 ⟨v2,v3,v4,qs,rfl,s2,e2,C2,l2⟩;rw[ya,C.1,jN rfl] at C2;exact hB _ _ _ qs _ #[s2,e2,C2]
 rintro v2 v3 v4 qs H2 ⟨s2,e2,C2⟩;exact#[_,rfl,q D qs H2 s2 hD e2 C2]
def JZ (H:Hp) (kvs:List (Key×V)) (xs:List Jp):Prop:=kvs.map (·.1)=xs.map (λx=>Sum.inr x.name)/\∀(i:Nat) (kv:Key×V) (x:Jp),kvs[i]?=some kv->xs[i]?=some x->∃u,kv.2=.ref u/\H u=some (.tup [.str x.kind,.int x.many])
theorem JZ.same {H':Hp} (C:JZ H kvs xs) (s:Same H H'):JZ H' kvs xs:=#[C.1,λi kv x a b=>let ⟨u,e,h⟩:=C.2 i kv x a b;#[u,e,s _ _ h]]
theorem JZ.wr {H':Hp} (C:JZ H kvs xs) (s:∀q ys,H q=some (.tup ys)->H' q=some (.tup ys)):JZ H' kvs xs:=#[C.1,λi kv x a b=>let ⟨u,e,h⟩:=C.2 i kv x a b;#[u,e,s _ _ h]]
theorem JZ.snoc (C:JZ H kvs xs) {u:Addr} {x:Jp} (h:H u=some (.tup [.str x.kind,.int x.many])):JZ H (kvs++[(.inr x.name,.ref u)]) (xs++[x]):=by
 have l:kvs.length=xs.length:=by have:=congrArg List.length C.1;simpa using this
 refine#[by rw[yf,yf,C.1];rfl,λi kv y h1 h2=>?_];by_cases hi:i<kvs.length
 ·rw[yC hi] at h1;rw[yC '!'] at h2;exact C.2 i kv y h1 h2
 ·rw[yG '!'] at h1;rw[yG '!',<-l] at h2;have z:i - kvs.length=0:=by
   have:=(yc.mp h1).1;simp at this;omega
  rw[z] at h1 h2;cases h1;cases h2;exact#[u,rfl,h]
def qU:Sp:=λvs H Q _=>E3 λ(a:Addr) (ps:AI) (xs:List Jp)=>A6 (vs=[.ref a]) (H a=some (.lst (ps.map V.ref))) (uH H ps xs) (xs.length<=8) ((xs.map (·.name)).Nodup) (∀D kvs H',Same H H'->H D=none->H' D=some (.dK kvs)->JZ H' kvs xs->Q (.ref D) H')
theorem my (T:Txt K mg t):j0 P w K mg base 1 "part_kinds" ["parts"] qU:=by
 refine T.mZ.ok ["parts","kinds","name","kind","many"] ?_;rintro _ H Q E ⟨a,ps,xs,rfl,ha,C,hl,nd,q⟩;refine#[rfl,λAZ A outer s hr=>#[_,(jf (ju 1 gJ) (jf (j7 jQ (jO (pv 0)) (Jv (jt (jl 2) (jt (jl 3) (jt (jl 4) Jc)))) (jj (kR (pv 1) (pv 2) (Jn (ja (pv 3) (ja (pv 4) jb)))))) (jj (jH (pv 1))))),?_]];refine JF (λ(D:Addr)=>[oR a,oR D,none,none,none]) (λD H'=>Same H H'/\H D=none/\H' D=some (.dK [])) (λB hB=>λD hD=>hB D _ #[jh (Same.refl H) hD,hD,jc]) ?_;rintro D H1 ⟨s1,hD,eD⟩;have CL:=s1 _ _ ha;refine GR (λ(v2 v3 v4:Option V) (kvs:List (Key×V))=>[oR a,oR D,v2,v3,v4]) (λ_ _ _ kvs H'=>Same H H'/\H' D=some (.dK kvs)/\JZ H' kvs xs) (λB hB=>?_) ?_
 ·refine#[_,rfl,a,rfl,#[_,jg.of CL],uJ (xs:=ps.map V.ref) (λi σ H'=>∃(v2 v3 v4:Option V) (kvs:List (Key×V)),σ=[oR a,oR D,v2,v3,v4]/\Same H H'/\H' D=some (.dK kvs)/\JZ H' kvs (xs.take i)) #[_,_,_,[],rfl,s1,eD,rfl,λi kv x h=>nomatch h] (λi σ H' _ h=>by obtain⟨_,_,_,_,_,e,_⟩:=h;exact jg.of (e _ _ ha)) ?_ ?_]
  ·rintro i v σ H2 hv ⟨v2,v3,v4,kvs,rfl,s2,e2,C2⟩;obtain⟨p,e1,rfl⟩:=jS hv;have hi:i<xs.length:=by rw[<-C.1];exact (yc.mp e1).1
   have ex:=yb hi;have ep:=s2 _ _ (C.2 i p _ e1 ex);refine#[p,_,rfl,jB.of ep,rfl,_,_,rfl,_,_,rfl,_,_,rfl,rfl,?_];refine#[_,rfl,_,rfl,Uz,λu hu=>?_]
   exists H3,s3,e3,H2,u,hu,.tup [.str xs[i].kind,.int xs[i].many]
   have lk:kvs.length=i:=by
    have:=congrArg List.length C2.1;rw[ya,ya,yI] at this;omega
   have BQ:=s3 _ _ e2;refine#[_,rfl,_,rfl,D,_,rfl,vW.k (k:=.inr xs[i].name) BQ (yK (show _<=8 by omega) '$'),_,_,_,_,rfl,λb u e=>jq (jy e hD) (s3 _ _ (s2 _ _ e)),jc,?_];have Cd:Jh kvs (.inr xs[i].name)=none:=by
    cases e:Jh kvs (.inr xs[i].name) with
    | none=>rfl
    | some v =>
     have h1:=zh e;rw[C2.1] at h1;obtain⟨y,hy,ey⟩:=yi.mp h1;have h2:xs.map (·.name)=(xs.take i).map (·.name)++(xs.drop i).map (·.name):=by rw[<-yf,Qo]
     rw[h2] at nd;exact absurd (Sum.inr.inj ey) ((Qd.mp nd).2.2 _ (yi.mpr #[y,hy,rfl]) _ (yi.mpr #[xs[i],by rw[Qc hi];exact yw ..,rfl]))
   rw[zK _ Cd,jC ex];exact ((C2.same s3).snoc e3).wr λq ys e=>by rw[jw (jX e BQ)];exact e
  ·rintro σ H2 ⟨v2,v3,v4,kvs,rfl,s2,e2,C2⟩;rw[ya,C.1,jN rfl] at C2;exact hB _ _ _ kvs _ #[s2,e2,C2]
 rintro v2 v3 v4 kvs H2 ⟨s2,e2,C2⟩;exact#[_,rfl,q D kvs H2 s2 hD e2 C2]
variable {P:AS}{w:World}{K:AB}{mg:AE}{base:Heap}{t:Adr}
abbrev JL:=Str×List JC
def ZF (H:Hp) (p l:Addr) (x:JL):Prop:=H p=some (.tup [.str x.1,.ref l])/\∃ps,H l=some (.lst (ps.map V.ref))/\JH H ps x.2
def J2 (H:Hp) (ns ls:AI) (xs:List JL):Prop:=ns.length=xs.length/\ls.length=xs.length/\∀(i:Nat) p l x,ns[i]?=some p->ls[i]?=some l->xs[i]?=some x->ZF H p l x
theorem J2.at_ {ns:AI}{xs:List JL} (C:J2 H ns ls xs) {i:Nat} {p:Addr} (h:ns[i]?=some p):∃l x,ls[i]?=some l/\xs[i]?=some x/\ZF H p l x:=by
 have hi:=(yc.mp h).1;have h2:i<ls.length:=by rw[C.2.1,<-C.1];exact hi
 have h3:i<xs.length:=by rw[<-C.1];exact hi
 exact#[_,_,yb h2,yb h3,C.2.2 i _ _ _ h (yb h2) (yb h3)]
theorem ZF.same {H':Hp}{p l:Addr}{x:JL} (C:ZF H p l x) (s:Same H H'):ZF H' p l x:=#[s _ _ C.1,let ⟨ps,a,b⟩:=C.2;#[ps,s _ _ a,b.same s]]
theorem J2.same {H':Hp}{ns:AI}{xs:List JL} (C:J2 H ns ls xs) (s:Same H H'):J2 H' ns ls xs:=#[C.1,C.2.1,λi p l x a b c=>(C.2.2 i p l x a b c).same s]
theorem uH.same {H':Hp} (C:uH H ps xs) (s:Same H H'):uH H' ps xs:=#[C.1,λi p x a b=>s _ _ (C.2 i p x a b)]
def JK (xs:List JL):List JC:=xs.flatMap (·.2)
def row (z:Str) (ps:List JC):List (List Key×V):=ps.map λp=>(kP p,V.str z)
def j5 (xs:List JL):List (List Key×V):=xs.flatMap λx=>row x.1 x.2
theorem ue (xs:List JL):(j5 xs).map (·.1)=(JK xs).map kP:=by
 unfold j5 JK row;rw[List.map_flatMap,List.map_flatMap];congr 1;funext x;rw[yq]
 rfl
theorem Kx (xs:List JL):(j5 xs).length=(JK xs).length:=by have:=congrArg List.length (ue xs);rwa [ya,ya] at this
theorem MT {a b:JC} (h:kP a=kP b):a=b:=by
 unfold kP at h;injection h with h1 h
 injection h with h2 _
 exact Prod.ext (Sum.inr.inj h1) (Sum.inl.inj h2)
def tZ:List Key->JC|[.inr z,.inl n]=>(z,n)|_=>("",0)
theorem hU (l:List JC):(l.map kP).map tZ=l:=by
 rw[yq];exact (yY (λp _=>rfl)).trans (Wh l)
theorem qD {l m:List JC} (h:(l.map kP).Perm (m.map kP)):l.Perm m:=by
 have:=h.map tZ;rwa [hU,hU] at this
theorem vI:∀{a b:List (List Key)},a.Perm b->(a.Pairwise λx y=>lx y x=false)->(b.Pairwise λx y=>lx y x=false)->a=b
 | [],b,p,_,_=>(List.nil_perm.mp p).symm
 | x::a,b,p,ha,hb=>by
  cases b with
  | nil=>exact absurd (List.perm_nil.mp p) (by simp)
  | cons y b =>
   obtain⟨h1,R6⟩:=List.pairwise_cons.mp ha;obtain⟨h2,R7⟩:=List.pairwise_cons.mp hb;have e:x=y:=by
    rcases yr.mp (p.mem_iff.mp (yw ..)) with e|hx
    ·exact e
    ·rcases yr.mp (p.mem_iff.mpr (yw ..)) with e|hy
     ·exact e.symm
     ·exact GA (h2 x hx) (h1 y hy)
   subst e;rw[vI (List.perm_cons x |>.mp p) R6 R7]
theorem GW {i:Nat}{x:JL} (h:ys[i]?=some x):JK ys=JK (ys.take i)++(x.2++JK (ys.drop (i+1))):=by
 obtain⟨hi,e⟩:=yc.mp h;have:ys=ys.take i++(x::ys.drop (i+1)):=by rw[<-e,<-Qc hi,Qo]
 conv=>lhs;rw[this]
 unfold JK;rw[Wc,QK]
theorem fY {i:Nat}{x:JL} (h:ys[i]?=some x):JK (ys.take (i+1))=JK (ys.take i)++x.2:=by
 unfold JK;rw[jC h,Wc];simp
theorem bZ {i:Nat}{x:JL} (h:ys[i]?=some x):j5 (ys.take (i+1))=j5 (ys.take i)++row x.1 x.2:=by
 unfold j5;rw[jC h,Wc];simp
theorem lL (z:Str) (ps:List JC):(row z ps).map (·.1)=ps.map kP:=by
 unfold row;rw[yq]
 rfl
theorem KeyAt.mono' {H':Hp}{bs:AI} (C:KeyAt H bs ks) (s:Same H H'):KeyAt H' bs ks:=#[C.1,λi b k h1 h2=>s _ _ (C.2 i b k h1 h2)]
theorem uI:bootBuiltins "sorted"=some (.builtin "sorted"):=by kernel_rfl
def tD:Sp:=λvs H Q _=>E7 λ(a b:Addr) (ps:AI) (xs:List Jp) (ns ls:AI) (ys:List JL)=>rz (vs=[.ref a,.ref b]) (H a=some (.lst (ps.map V.ref))) (uH H ps xs) (∀x∈xs,x.good) (xs.length<=8) (H b=some (.lst (ns.map V.ref))) (J2 H ns ls ys) ((JK ys).length<64)
 ((JK ys).Nodup/\(JK ys).Perm (Ue xs)) (∀D H',Same H H'->H D=none->H' D=some (.dT (j5 ys))->Q (.ref D) H')
theorem kJ (T:Txt K mg t):j0 P w K mg base 2 "joined_pins" ["parts","nets"] tD:=by
 refine T.KW.ok ["parts","nets","joins","name","pins","pin"] ?_;rintro _ H Q E ⟨a,b,ps,xs,ns,ls,ys,rfl,ha,C,hm,hl,hb,N,hn,G,kQ⟩;refine#[rfl,λAZ A outer s hr=>#[_,(jf (ju 2 nH) (jf (j7 jQ (jO (pv 1)) (Jv (jt (jl 3) (jt (jl 4) Jc))) (jj (j7 jQ (jO (pv 4)) (jl 5) (jf (Jo (fh (eQ (pv 5) (pv 2))) (jj ua) jR) (jj (kR (pv 2) (pv 5) (pv 3))))))) (jf (Jo (Jq (kO hr.units) (jx (Zc rfl) (by rfl) T.uK uI (ja (pv 2) jb)) (jx U4 (by rfl) T.uK uI (ja (jo (nE T) (ja (pv 0) jb)) jb))) (jj ua) jR) (jj (jH (pv 2)))))),?_]];refine JF (λ(D:Addr)=>[oR a,oR b,oR D,none,none,none]) (λD H'=>Same H H'/\H D=none/\H' D=some (.dT [])) (λB hB=>λD hD=>hB D _ #[jh (Same.refl H) hD,hD,jc]) ?_;rintro D H1 ⟨s1,hD,eD⟩;refine zU (λ(v3 v4 v5:Option V)=>[oR a,oR b,oR D,v3,v4,v5]) (λ_ _ _ H'=>Same H H'/\H' D=some (.dT (j5 ys))/\(JK ys).Nodup) (λB hB=>?_) ?_
 ·refine#[_,rfl,b,rfl,#[_,jg.of (s1 _ _ hb)],uJ (xs:=ns.map V.ref) (λi σ H'=>∃(v3 v4 v5:Option V),σ=[oR a,oR b,oR D,v3,v4,v5]/\Same H H'/\H' D=some (.dT (j5 (ys.take i)))/\(JK (ys.take i)).Nodup) #[_,_,_,rfl,s1,eD,Qk] (λi σ H' _ h=>by obtain⟨_,_,_,_,e,_⟩:=h;exact jg.of (e _ _ hb)) ?_ ?_]
  ·rintro i v σ H2 hv ⟨v3,v4,v5,rfl,s2,e2,n2⟩;obtain⟨p,e1,rfl⟩:=jS hv;obtain⟨l,x,el,ex,ep,qs,eq,Cx⟩:=N.at_ e1;have sp:=GW ex;refine#[p,_,rfl,jB.of (s2 _ _ ep),rfl,_,_,rfl,_,_,rfl,rfl,?_];refine#[_,rfl,l,rfl,#[_,jg.of (s2 _ _ eq)],uJ (xs:=qs.map V.ref) (λj σ H'=>∃(v5:Option V),σ=[oR a,oR b,oR D,some (.str x.1),oR l,v5]/\Same H H'/\H' D=some (.dT (j5 (ys.take i)++row x.1 (x.2.take j)))/\(JK (ys.take i)++x.2.take j).Nodup) #[_,rfl,s2,by rw[e2];exact congrArg (λz=>some (HO.dT z)) (QM _).symm,(QM (JK (ys.take i))).symm▸n2] (λi σ H' _ h=>by obtain⟨_,_,e,_⟩:=h;exact jg.of (e _ _ eq)) ?_ ?_]
   ·rintro j v σ H3 hv ⟨R8,rfl,s3,e3,n3⟩;obtain⟨p5,g1,rfl⟩:=jS hv;have hj:j<x.2.length:=by rw[<-Cx.len];exact (yc.mp g1).1
    have gx:=yb hj;have gp:=s3 _ _ (Cx.at_ g1 gx);have keys:(j5 (ys.take i)++row x.1 (x.2.take j)).map (·.1)=(JK (ys.take i)++x.2.take j).map kP:=by rw[yf,yf,ue,lL]
    have CM:JK ys=(JK (ys.take i)++x.2.take j)++(x.2[j]::(x.2.drop (j+1)++JK (ys.drop (i+1)))):=by
     rw[sp,Qh];congr 1
     conv=>lhs;rw[<-Qo j x.2,Qc hj]
     rw[Qh];rfl
    have len:(j5 (ys.take i)++row x.1 (x.2.take j)).length<=1000:=by
     have:=congrArg List.length keys;rw[ya,ya] at this;rw[this];have:=congrArg List.length CM;rw[yj] at this;omega
    refine#[_,rfl,_,rfl,D,_,rfl,JG.t (k:=kP x.2[j]) e3 gp,_,rfl,km (λz=>?_) λz=>?_]
    ·obtain⟨v,hv⟩:=Option.isSome_iff_exists.mp z;have h1:=zh hv;rw[keys] at h1;obtain⟨c,hc,ec⟩:=yi.mp h1;rw[MT ec] at hc;have:=G.1;rw[CM] at this;exact absurd rfl ((Qd.mp this).2.2 _ hc _ (yw ..))
    ·have Cd:Jh (j5 (ys.take i)++row x.1 (x.2.take j)) (kP x.2[j])=none:=by
      cases e:Jh (j5 (ys.take i)++row x.1 (x.2.take j)) (kP x.2[j]) with
      | none=>rfl
      | some v=>rw[e] at z;cases z
     refine#[_,rfl,_,rfl,_,rfl,D,_,rfl,vW.t (k:=kP x.2[j]) e3 gp (yK len '$'),_,rfl,λb u e=>jq (jy e hD) (s3 _ _ e),?_,?_]
     ·rw[jc,zK _ Cd,jC gx];unfold row;rw[yf,<-Qh]
      rfl
     ·rw[jC gx,<-Qh];refine Qd.mpr #[n3,by simp,λc hc d hd e=>?_];rw[yu.mp hd] at e;have:=gS Cd;rw[keys] at this;exact this (e▸yi.mpr #[c,hc,rfl])
   ·rintro σ H3 ⟨R8,rfl,s3,e3,n3⟩;rw[ya,Cx.len,jN rfl] at e3 n3;exact#[_,_,_,rfl,s3,by rw[bZ ex];exact e3,by rw[fY ex];exact n3]
  ·rintro σ H2 ⟨v3,v4,v5,rfl,s2,e2,n2⟩;rw[ya,N.1,jN rfl] at e2 n2;exact hB _ _ _ _ #[s2,e2,n2]
 rintro v3 v4 v5 H2 ⟨s2,e2,nd⟩;refine J0 [oR a,oR b,oR D,v3,v4,v5] (λH'=>Same H H'/\H' D=some (.dT (j5 ys))/\True) (λB hB=>?_) ?_
 ·refine#[_,rfl,D,_,sd (kP ("",0)),rfl,e2,λkv DC=>?_,(λz=>nomatch z),by rw[Kx];exact hn,λl bs ks hl KA pm so=>?_]
  ·have:kv.1∈(j5 ys).map (·.1):=yi.mpr #[kv,DC,rfl];rw[ue] at this;obtain⟨p,_,e⟩:=yi.mp this;rw[<-e];rfl
  ·rw[ue] at pm
   exists H3,s3,e3,H2,l,hl,.lst (bs.map V.ref)
   have Bb:=Same.trans s2 s3;refine#[_,rfl,a,ps,xs,rfl,Bb _ _ ha,C.same Bb,hm,by assumption,λD2 qs H4 s4 Lb Hn PN=>#[D2,qs,_,sd (kP ("",0)),rfl,Hn,PN,λk hk=>?_,(λz=>nomatch z),by rw[ya,<-G.2.length_eq];exact hn,λl2 FO BZ hl2 R9 BP Lc=>?_]]
   ·obtain⟨p,_,e⟩:=yi.mp hk;rw[<-e];rfl
   ·have s5:=jh (o:=.lst (FO.map V.ref)) (Same.refl H4) hl2;have Di:=Same.trans Bb (Same.trans s4 s5);have Ld:=Same.trans s4 s5;refine#[l,l2,bs,FO,ks,BZ,rfl,rfl,jg.of (Ld _ _ e3),jg.of jc,KeyAt.mono' KA (Same.trans s3 Ld),KeyAt.mono' R9 s5,_,rfl,?_];exact vx (vI (pm.trans ((G.2.map kP).trans BP.symm)) so Lc) (hB _ #[Di,Ld _ _ (s3 _ _ e2),trivial])
 rintro H3 ⟨s3,e3,pm⟩;exact#[_,rfl,kQ D H3 s3 hD e3]
variable {P:AS}{w:World}{K:AB}{mg:AE}{base:Heap}{t:Adr}
theorem _root_.L2.Same.nn {H':Hp} (x:Same H H') {p:Addr} (hp:H' p=none):H p=none:=by
 cases e:H p with
 | none=>rfl
 | some u=>rw[x _ _ e] at hp;cases hp
structure um (xs:List Jp) (ys:List JL):Prop where
 few:xs.length<=8
 parts:∀x∈xs,x.good
 names:(xs.map (·.name)).Nodup
 few2:ys.length<=24
 nets:∀y∈ys,(Uv y.1=true/\y.1.length<=1000)/\y.2≠[]
 names2:(ys.map (·.1)).Nodup
 nd:(JK ys).Nodup
 pm:(JK ys).Perm (Ue xs)
 tl:(JK ys).length<64
def fD (p n k j:Addr):List (Str×V):=[("parts",.ref p),("nets",.ref n),("kinds",.ref k),("joins",.ref j)]
theorem rV (p n k j:Addr):jY "joins" (.ref j) (jY "kinds" (.ref k) (jY "nets" (.ref n) (jY "parts" (.ref p) [])))=fD p n k j:=by kernel_rfl
def uM (o:Addr) (H H':Hp):Prop:=∀b u,b≠o->H b=some u->H' b=some u
theorem J2.snoc {ns:AI} (C:J2 H ns ls ys) {p l:Addr} (h:ZF H p l y):J2 H (ns++[p]) (ls++[l]) (ys++[y]):=by
 obtain⟨c1,c2,c3⟩:=C;refine#[by simp [c1],by simp [c2],λi q m x h1 h2 h3=>?_];by_cases hi:i<ns.length
 ·rw[yC hi] at h1;rw[yC '!'] at h2 h3;exact c3 i q m x h1 h2 h3
 ·rw[yG '!'] at h1;rw[yG '!'] at h2 h3;have z:i - ns.length=0:=by
   have:=(yc.mp h1).1;simp at this;omega
  rw[show i - ls.length=0 by omega] at h2;rw[show i - ys.length=0 by omega] at h3;rw[z] at h1;cases h1;cases h2;cases h3;exact h
theorem gF:J2 H [] [] []:=#[rfl,rfl,λi p l x h=>nomatch h]
theorem J2.wr {ns:AI} (C:J2 H ns ls ys) {H':Hp} (k:∀q zs,H q=some (.tup zs)->H' q=some (.tup zs)) (kl:∀l∈ls,∀zs,H l=some (.lst zs)->H' l=some (.lst zs)):J2 H' ns ls ys :=
 #[C.1,C.2.1,λi p l x a b c=>let ⟨e,ps,e2,pn⟩:=C.2.2 i p l x a b c;#[k _ _ e,ps,kl l (yk b) _ e2,pn.mono k]]
theorem xi {k:Nat}{x:Str}{ps:AM}{sp:Sp} (G:j0 P w K mg base k x ps sp) (h:mg x=some (.ref f)):rB P w K mg base k f sp:=by
 obtain⟨f',fd,F,b,kp,m⟩:=G.ex;rw[h] at m;cases m;exact#[fd,ps,F,b,kp]
structure In (H:Hp) (a b:Addr) (ps:AI) (xs:List Jp) (ns ls:AI) (ys:List JL):Prop where
 ha:H a=some (.lst (ps.map V.ref))
 C:uH H ps xs
 hb:H b=some (.lst (ns.map V.ref))
 N:J2 H ns ls ys
structure Dr (H:Hp) (C o:Addr) (ps ns ls:AI) (xs:List Jp) (ys:List JL):Prop where
 ex:∃(dx pl nl kd jn:Addr) (kvs:List (Key×V)),A6 (H o=some (.ins C dx (fD pl nl kd jn))) (H pl=some (.lst (ps.map V.ref))) (H nl=some (.lst (ns.map V.ref))) (H jn=some (.dT (j5 ys))) (H kd=some (.dK kvs)) (JZ H kvs xs)
 C:uH H ps xs
 N:J2 H ns ls ys
theorem Dr.same {H':Hp}{o:Addr}{ns:AI} (d:Dr H C o ps ns ls xs ys) (s:Same H H'):Dr H' C o ps ns ls xs ys :=
 let ⟨dx,pl,nl,kd,jn,kvs,a1,a2,a3,a4,a5,a6⟩:=d.ex
 #[#[dx,pl,nl,kd,jn,kvs,s _ _ a1,s _ _ a2,s _ _ a3,s _ _ a4,s _ _ a5,a6.same s],d.C.same s,d.N.same s]
def xL (C:Addr):Sp:=λvs H Q _=>E9 λ(o dx a b:Addr) (ps:AI) (xs:List Jp) (ns ls:AI) (ys:List JL)=>A5 (vs=[.ref o,.ref a,.ref b]) (H o=some (.ins C dx [])) (In H a b ps xs ns ls ys) (um xs ys)
 (∀Be Bq H',uM o H H'->Dr H' C o ps Be Bq xs ys->Q .non H')
theorem GI (T:Txt K mg t):mE P w K mg base 5 "Drawing" t.jG ["self","parts","nets"] (xL t.jG):=by
 refine T.GY.ok T.dl ["self","parts","nets"] ?_;rintro _ H Q E ⟨o,dx,a,b,ps,xs,ns,ls,ys,rfl,ho,I,G,kQ⟩;refine#[rfl,λAZ A outer s hr=>#[_,(jf (j6 (jo (nB T) (ja (pv 1) (ja (uR (v:=.int 8) (by rfl) T.ME #[_,rfl]) (ja (uR (v:=.ref t.VQ) (by rfl) T.VM.g rfl) jb))))) (jf (j6 (jo (nB T) (ja (pv 2) (ja (uR (v:=.int 24) (by rfl) T.NJ #[_,rfl]) (ja (uR (v:=.ref t.zu) (by rfl) T.zk.g rfl) jb))))) (jf (Vn (pv 0) (j4 Vd (by rfl) T.Uc Us (ja (pv 1) jb)) rfl) (jf (Vn (pv 0) (Jg (own:=["net"]) (uO (cl:=[])) (jO (pv 2)) (λ_ _ _ _ _=>jl 3) (λ_ _ _ _ _=>Jd) (λ_ _ _ _ _=>(Jn (ja (jp jL (pv 3) jk) (ja (j4 (zQ (K:=K) rfl) (by rfl) T.Uc Us (ja (jp jL (pv 3) jk) jb)) jb))))) rfl) (jf (Vn (pv 0) (jo (my T) (ja (pv 1) jb)) rfl) (jj (Vn (pv 0) (jo (kJ T) (ja (pv 1) (ja (pv 2) jb))) rfl))))))),?_]];have ni:∀{q:Addr} {u:HO},H q=some u->(∀C dx fs,u≠.ins C dx fs)->q≠o:=λe n=>jX e ho (n _ _ _);refine J0 [oR o,oR a,oR b] (λH'=>Same H H') (λB hB=>#[_,rfl,a,t.VQ,ps,xs.map (·.name),8,_,rfl,I.ha,by rw[ya];exact I.C.1,by have:=G.few;rw[ya];omega,xi (nA T) T.VM.g,λi p x h1 h2=>?_,λi p h1 H1 s1 Q1 E1 k1=>?_,G.names,λH' s'=>hB _ s']) ?_
 ·rw[ye] at h2;obtain⟨y,e,rfl⟩:=yz.mp h2;exact#[_,I.C.2 i p y h1 e]
 ·have hi:i<xs.length:=by rw[<-I.C.1];exact (yc.mp h1).1
  have ex:=yb hi;exact#[p,xs[i],rfl,s1 _ _ (I.C.2 i p _ h1 ex),G.parts _ (yB hi),k1]
 rintro H1 s1;have N1:=I.N.same s1;refine J0 [oR o,oR a,oR b] (λH'=>Same H H') (λB hB=>#[_,rfl,b,t.zu,ns,ys.map (·.1),24,_,rfl,s1 _ _ I.hb,by rw[ya];exact I.N.1,by have:=G.few2;rw[ya];omega,xi (NS T) T.zk.g,λi p x h1 h2=>?_,λi p h1 H2 s2 Q1 E1 k1=>?_,G.names2,λH' s'=>hB _ (Same.trans s1 s')]) ?_
 ·rw[ye] at h2;obtain⟨y,e,rfl⟩:=yz.mp h2;obtain⟨l,x,_,ex,na⟩:=N1.at_ h1;rw[e] at ex;cases ex;exact#[_,na.1]
 ·obtain⟨l,x,_,ex,na⟩:=N1.at_ h1;obtain⟨e1,rs,e2,pn⟩:=na.same s2;have hx:x∈ys:=yk ex;have tl:x.2.length<=1000:=by
   have:=congrArg List.length (GW ex);rw[yj,yj] at this;have:=G.tl;omega
  exact#[p,l,x.1,rs,x.2,rfl,e1,e2,pn,(G.nets _ hx).1,tl,(G.nets _ hx).2,k1]
 rintro H2 s2;refine kT (λσ H'=>∃pl,σ=[oR o,oR a,oR b]/\uM o H H'/\H' o=some (.ins t.jG dx (jY "parts" (.ref pl) []))/\H pl=none/\H' pl=some (.lst (ps.map V.ref))) (λB hB=>#[_,rfl,a,_,rfl,.inl (jg.of (s2 _ _ I.ha)),λpl Ba=>?_]) ?_
 ·have Le:pl≠o:=λz=>by rw[z,s2 _ _ ho] at Ba;cases Ba
  have s3:=jh (o:=.lst (ps.map V.ref)) s2 Ba;exact#[_,rfl,o,_,dx,_,rfl,s3 _ _ ho,T.jW,T.Vl,by decide,hB _ _ #[pl,rfl,λb u n e=>jq n (s3 _ _ e),jc,Same.nn s2 Ba,jq Le jc]]
 rintro _ H3 ⟨pl,rfl,b3,o3,Ba,Lf⟩;have ET:∀{q:Addr} {u:HO},H q=some u->(∀C dx fs,u≠.ins C dx fs)->H3 q=some u:=λe n=>b3 _ _ (ni e n) e;have OT:=ET I.hb (by intro _ _ _ z;cases z);have N3:J2 H3 ns ls ys:=I.N.wr (λ_ _ e=>ET e (by intro _ _ _ z;cases z)) (λ_ _ _ e=>ET e (by intro _ _ _ z;cases z));refine kT (λσ H'=>∃nl Be Bq,σ=[oR o,oR a,oR b]/\uM o H3 H'/\H' o=some (.ins t.jG dx (jY "nets" (.ref nl) (jY "parts" (.ref pl) [])))/\H3 nl=none/\H' nl=some (.lst (Be.map V.ref))/\J2 H' Be Bq ys/\(∀l∈Bq,H3 l=none)) (λB hB=>#[_,rfl,b,rfl,#[_,jg.of OT],uh (xs:=ns.map V.ref) (λD i zs H'=>Same H3 H'/\H3 D=none/\H' D=some (.lst zs)/\zs.length<=i/\∃Be Bq,zs=Be.map V.ref/\J2 H' Be Bq (ys.take i)/\∀l∈Bq,H3 l=none/\l≠D) (by rw[ya,I.N.1];exact yp G.few2 '$') (λD hD=>#[jh (Same.refl H3) hD,hD,jc,yh _,[],[],rfl,gF,λl h=>nomatch h]) (λD i zs H' hv=>#[hv.2.2.1,hv.2.2.2.1,jg.of (hv.1 _ _ OT)]) ?_ ?_]) ?_
 ·rintro D i v zs H4 Qy Qn hv ⟨s4,hD,eD,lz,Be,Bq,rfl,N4,fr⟩ hy hn;obtain⟨p,e1,rfl⟩:=jS hv;obtain⟨l,x,_,ex,na⟩:=N3.at_ e1;obtain⟨ep,rs,el,pn⟩:=na.same s4;refine#[#[_,rfl,rfl],JI #[_,rfl,p,_,0,.str x.1,rfl,rfl,jB.of ep,rfl,_,rfl,p,_,1,.ref l,rfl,rfl,jB.of ep,rfl,l,_,rfl,.inl (jg.of el),λl5 Dj=>?_]]
  exists H5,s5,e5,H4,l5,Dj,.lst (rs.map V.ref)
  refine#[Uz,λu hu=>?_]
  exists H6,s6,e6,H5,u,hu,.tup [.str x.1,.ref l5]
  have Cq:=Same.trans s5 s6;have BE:=Cq _ _ eD;have nD:l5≠D:=λz=>by rw[z,eD] at Dj;cases Dj
  refine hy _ _ BE #[λq u e=>jq (jy e hD) (Cq _ _ (s4 _ _ e)),hD,jc,by rw[yj];exact QG lz,Be++[u],Bq++[l5],by rw[yf];rfl,?_,λl hl=>?_]
  ·rw[jC ex];refine ((N4.same Cq).snoc (y:=x) #[e6,rs,s6 _ _ e5,pn.same Cq]).wr (λq zs e=>jq (jX e BE) e) λl hl zs e=>?_;rw[jw]
   ·exact e
   ·rcases yL.mp hl with z|z
    ·exact (fr l z).2
    ·rw[yu.mp z];exact nD
  ·rcases yL.mp hl with z|z
   ·exact fr l z
   ·rw[yu.mp z];exact#[Same.nn s4 Dj,nD]
 ·rintro D zs H4 hD0 ⟨s4,hD,eD,lz,Be,Bq,rfl,N4,fr⟩;rw[ya,I.N.1,jN rfl] at N4;have Sa:D≠o:=λz=>by rw[z,o3] at hD;cases hD
  refine#[_,rfl,o,_,dx,_,rfl,s4 _ _ o3,T.jW,T.VD,Nat.le_of_ble_eq_true (by kernel_rfl),hB _ _ #[D,Be,Bq,rfl,λb u n e=>jq n (s4 _ _ e),jc,hD,jq Sa eD,?_,λl hl=>(fr l hl).1]];exact N4.wr (λq zs e=>jq (jX e (s4 _ _ o3)) e) λl hl zs e=>by rw[jw (jX e (s4 _ _ o3))];exact e
 rintro _ H4 ⟨nl,Be,Bq,rfl,b4,o4,B0,Sb,N4,fr⟩;have nsome:∀{q:Addr},H3 q=none->H q=none:=λ{q} e=>by
  cases z:H q with
  | none=>rfl
  | some u =>
   by_cases y:q=o
   ·rw[y,o3] at e;cases e
   ·rw[b3 _ _ y z] at e;cases e
 have OU:uM o H H4:=λq u n e=>b4 _ _ n (b3 _ _ n e);have Le:pl≠o:=λz=>by rw[z,ho] at Ba;cases Ba
 have Ho:∀{q:Addr} {u:HO},H q=some u->(∀C dx fs,u≠.ins C dx fs)->H4 q=some u:=λe n=>OU _ _ (ni e n) e;have Sd:=Ho I.ha (by intro _ _ _ z;cases z);have C4:uH H4 ps xs:=#[I.C.1,λi p x h1 h2=>Ho (I.C.2 i p x h1 h2) (by intro _ _ _ z;cases z)];refine kT (λσ H'=>∃kd kvs,σ=[oR o,oR a,oR b]/\uM o H4 H'/\H' o=some (.ins t.jG dx (jY "kinds" (.ref kd) (jY "nets" (.ref nl) (jY "parts" (.ref pl) []))))/\kd≠o/\H' kd=some (.dK kvs)/\JZ H' kvs xs) (λB hB=>#[_,rfl,a,ps,xs,rfl,Sd,C4,G.few,G.names,λkd kvs H' s' Hq Lh KA=>?_]) ?_
 ·have nk:kd≠o:=λz=>by rw[z,o4] at Hq;cases Hq
  exact#[_,rfl,o,_,dx,_,rfl,s' _ _ o4,T.jW,T.US,Nat.le_of_ble_eq_true (by kernel_rfl),hB _ _ #[kd,kvs,rfl,λb u n e=>jq n (s' _ _ e),jc,nk,jq nk Lh,KA.wr λq ys e=>jq (jX e (s' _ _ o4)) e]]
 rintro _ H5 ⟨kd,kvs,rfl,b5,o5,nk,Lh,KA⟩;have OV:uM o H H5:=λq u n e=>b5 _ _ n (OU _ _ n e);have DD:∀{q:Addr} {u:HO},H q=some u->(∀C dx fs,u≠.ins C dx fs)->H5 q=some u:=λe n=>OV _ _ (ni e n) e;have N5:J2 H5 ns ls ys:=I.N.wr (λ_ _ e=>DD e (by intro _ _ _ z;cases z)) (λ_ _ _ e=>DD e (by intro _ _ _ z;cases z));have C5:uH H5 ps xs:=#[I.C.1,λi p x h1 h2=>DD (I.C.2 i p x h1 h2) (by intro _ _ _ z;cases z)];refine#[_,rfl,_,rfl,a,b,ps,xs,ns,ls,ys,rfl,DD I.ha (by intro _ _ _ z;cases z),C5,G.parts,G.few,DD I.hb (by intro _ _ _ z;cases z),N5,G.tl,#[G.nd,G.pm],λjn H6 s6 OW Se=>?_];have njo:jn≠o:=λz=>by rw[z,o5] at OW;cases OW
 have nno:nl≠o:=λz=>by rw[z,o3] at B0;cases B0
 have o6:=s6 _ _ o5;have FP:∀{q:Addr} {u:HO},H6 q=some u->(∀C dx fs,u≠.ins C dx fs)->upd H6 o (.ins t.jG dx (jY "joins" (.ref jn) (jY "kinds" (.ref kd) (jY "nets" (.ref nl) (jY "parts" (.ref pl) []))))) q=some u:=λ{q u} e n=>by rw[jw (jX e o6 (n _ _ _))];exact e
 have tk:∀{q:Addr} {u:HO},H4 q=some u->(∀C dx fs,u≠.ins C dx fs)->upd H6 o (.ins t.jG dx (jY "joins" (.ref jn) (jY "kinds" (.ref kd) (jY "nets" (.ref nl) (jY "parts" (.ref pl) []))))) q=some u:=λ{q u} e n=>FP (s6 _ _ (b5 _ _ (jX e o4 (n _ _ _)) e)) n;refine#[_,rfl,o,_,dx,_,rfl,o6,T.jW,T.JJ,Nat.le_of_ble_eq_true (by kernel_rfl),kQ Be Bq _ (λq u n e=>jq n (s6 _ _ (OV _ _ n e))) #[#[dx,pl,nl,kd,jn,kvs,by rw[jc,rV],?_,?_,FP Se (by intro _ _ _ z;cases z),FP (s6 _ _ Lh) (by intro _ _ _ z;cases z),(KA.same s6).wr λq ys e=>FP e (by intro _ _ _ z;cases z)],?_,?_]]
 ·exact tk (b4 _ _ Le Lf) (by intro _ _ _ z;cases z)
 ·exact tk Sb (by intro _ _ _ z;cases z)
 ·exact#[C5.1,λi p x h1 h2=>FP (s6 _ _ (C5.2 i p x h1 h2)) (by intro _ _ _ z;cases z)]
 ·exact N4.wr (λ_ _ e=>tk e (by intro _ _ _ z;cases z)) (λ_ _ _ e=>tk e (by intro _ _ _ z;cases z))
variable {P:AS}{w:World}{K:AB}{mg:AE}{base:Heap}{t:Adr}
open Classical in
noncomputable def gm (l:List Key) (k:Key):List Key:=if k∈l then l else l++[k]
theorem fi (kvs:List (Key×V)) (k:Key) (v:V):(uw kvs k v).map (·.1)=gm (kvs.map (·.1)) k:=by
 unfold gm;cases e:Jh kvs k with
 | none=>rw[zK v e,yf,if_neg (gS e)];rfl
 | some u =>
  rw[if_pos (zh e)];unfold uw;rw[if_pos ?_,yq]
  ·refine yY λkv _=>?_;by_cases h:kv.1=k
   ·simp [h]
   ·simp [h]
  ·obtain⟨kv,hk,e1⟩:=yi.mp (zh e);exact List.any_eq_true.mpr #[kv,hk,decide_eq_true e1]
theorem MC {k:Key}:∀(n:Nat) {l:List Key},k∈l->(List.replicate n k).foldl gm l=l
 | 0,_,_=>rfl
 | n+1,l,h=>by rw[List.replicate_succ,List.foldl_cons,show gm l k=l from if_pos h];exact MC n h
def sD:V->Key|.str z=>.inr z|_=>.inl 0
theorem b8 (ys:List JL):(j5 ys).map (λkv=>sD kv.2)=ys.flatMap λy=>List.replicate y.2.length (.inr y.1):=by
 unfold j5 row;rw[List.map_flatMap];congr 1;funext y;rw[yq];exact yX (by simp) λi h1 h2=>by simp [sD]
theorem Go:∀(ys:List JL) (l:List Key),(∀y∈ys,Sum.inr y.1 ∉ l)->(ys.map (·.1)).Nodup->(∀y∈ys,y.2≠[])->(ys.flatMap λy=>List.replicate y.2.length (Sum.inr y.1)).foldl gm l=l++ys.map λy=>Sum.inr y.1
 | [],l,_,_,_=>by simp
 | y::ys,l,h,nd,ne=>by
  rw[QK,List.foldl_append];obtain⟨n,hn⟩:∃n,y.2.length=n+1:=#[y.2.length - 1,by have:=List.length_pos_iff.mpr (ne y (yw ..));omega];rw[hn,List.replicate_succ,List.foldl_cons,show gm l (.inr y.1)=l++[.inr y.1] from if_neg (h y (yw ..)),MC n (by simp),Go ys _ (λz hz hh=>?_) (y7.mp nd).2 λz hz=>ne z (yn _ hz),Qh]
  ·rfl
  ·rcases yL.mp hh with q|q
   ·exact h z (yn _ hz) q
   ·have:z.1=y.1:=Sum.inr.inj (yu.mp q);exact (y7.mp nd).1 (show y.1∈_ by rw[<-this];exact yi.mpr #[z,hz,rfl])
theorem dH {i:Nat}{kv:List Key×V} (h:(j5 ys)[i]?=some kv):∃z,kv.2=.str z:=by
 have:=yk h;unfold j5 row at this;obtain⟨y,_,h2⟩:=QH.mp this;obtain⟨p,_,rfl⟩:=yi.mp h2;exact#[_,rfl]
theorem aX {kvs:List (List Key×V)} (nd:(kvs.map (·.1)).Nodup):∀{i:Nat} {kv:List Key×V},kvs[i]?=some kv->Jh kvs kv.1=some kv.2:=by
 induction kvs with
 | nil=>intro i kv h;cases h
 | cons a kvs ih =>
  intro i kv h;unfold Jh;rw[QA];cases i with
  | zero=>cases h;simp
  | succ i =>
   have h:kvs[i]?=some kv:=by simpa using h
   have hm:kv.1∈kvs.map (·.1):=yi.mpr #[kv,yk h,rfl];have:a.1≠kv.1:=λe=>(y7.mp nd).1 (show a.1∈_ by rw[e];exact hm);rw[decide_eq_false this];exact ih (y7.mp nd).2 h
theorem ZC {κ:Type} [DecidableEq κ]:∀{kvs:List (κ×V)} {k:κ},k∈kvs.map (·.1)->∃v,Jh kvs k=some v/\(k,v)∈kvs:=by
 intro kvs k h;cases e:Jh kvs k with
 | none=>exact absurd h (gS e)
 | some v =>
  refine#[v,rfl,?_];unfold Jh at e;obtain⟨kv,h1,h2⟩:=yz.mp e;have:kv.1=k:=by have:=List.find?_some h1;exact of_decide_eq_true this
  rw[<-this,<-h2];exact List.mem_of_find?_eq_some h1
theorem MS (h:(JK ys).Nodup):((j5 ys).map (·.1)).Nodup:=by
 rw[ue];exact List.Pairwise.map _ (λa b n e=>n (MT e)) h
def wJ (C:Addr):Sp:=λvs H Q _=>E9 λ(o dx pl nl kd jn p:Addr) (x:JC) (kvs:List (List Key×V))=>A5 (vs=[.ref o,.ref p]) (H o=some (.ins C dx (fD pl nl kd jn))) (H jn=some (.dT kvs)) (H p=some (.tup [.str x.1,.int x.2])) (Q (.bl (Jh kvs (kP x)).isSome) H)
theorem Zs (T:Txt K mg t):zl P w K mg base 3 t.jG "has_pin" ["self","pin"] (wJ t.jG):=by
 refine T.ZW.ok T.jW ["self","pin"] ?_;rintro _ H Q E ⟨o,dx,pl,nl,kd,jn,p,x,kvs,rfl,ho,hj,hp,q⟩;refine#[rfl,λAZ A outer s hr=>#[_,(jj (jH (za (jo (KJ T) (ja (pv 1) jb)) (GO (sI (eQ (pv 1) (ud (pv 0)))))))),?_]];refine#[_,rfl,p,x.1,x.2,rfl,hp,true,rfl,JI #[_,rfl,_,rfl,o,_,dx,_,.ref jn,rfl,ho,T.jW,T.JJ,rfl,jn,_,rfl,JG.t (k:=kP x) hj hp,q]]
def wL (C:Addr):Sp:=λvs H Q _=>kW λ(o dx pl nl kd jn p:Addr) (x:JC) (kvs:List (List Key×V)) (v:V)=>A6 (vs=[.ref o,.ref p]) (H o=some (.ins C dx (fD pl nl kd jn))) (H jn=some (.dT kvs)) (H p=some (.tup [.str x.1,.int x.2])) (Jh kvs (kP x)=some v) (Q v H)
theorem ZY (T:Txt K mg t):zl P w K mg base 4 t.jG "net_of" ["self","pin"] (wL t.jG):=by
 refine T.gg.ok T.jW ["self","pin"] ?_;rintro _ H Q E ⟨o,dx,pl,nl,kd,jn,p,x,kvs,v,rfl,ho,hj,hp,z,q⟩;refine#[rfl,λAZ A outer s hr=>#[_,(jf (Jo (Jj (Jz (nJ (pv 0) (Zs T) (ja (pv 1) jb)))) (jj ua) jR) (jj (jH (uQ (ud (pv 0)) (pv 1))))),?_]];exact#[_,rfl,o,dx,_,rfl,ho,rfl,_,rfl,o,dx,pl,nl,kd,jn,p,x,kvs,rfl,ho,hj,hp,_,rfl,VA (by rw[z];rfl) #[_,rfl,o,_,dx,_,.ref jn,rfl,ho,T.jW,T.JJ,rfl,_,rfl,jn,v,rfl,z▸JG.t (k:=kP x) hj hp,q]]
def wI (C:Addr):Sp:=λvs H Q _=>E7 λ(o dx pl nl kd jn:Addr) (ys:List JL)=>A5 (vs=[.ref o]) (H o=some (.ins C dx (fD pl nl kd jn))) (H jn=some (.dT (j5 ys))) ((JK ys).length<64) (∀l bs ks H',Same H H'->H l=none->H' l=some (.lst (bs.map V.ref))->KeyAt H' bs ks->ks.Perm ((JK ys).map kP)->(ks.Pairwise λa b=>lx b a=false)->Q (.ref l) H')
theorem VF (T:Txt K mg t):zl P w K mg base 1 t.jG "pins" ["self"] (wI t.jG):=by
 refine T.GZ.ok T.jW ["self"] ?_;rintro _ H Q E ⟨o,dx,pl,nl,kd,jn,ys,rfl,ho,hj,tl,q⟩;refine#[rfl,λAZ A outer s hr=>#[_,(jj (jH (jx (Zc rfl) (by rfl) T.uK uI (ja (ud (pv 0)) jb)))),?_]];refine#[_,rfl,o,_,dx,_,.ref jn,rfl,ho,T.jW,T.JJ,rfl,jn,_,sd (kP ("",0)),rfl,hj,λkv DC=>?_,(λz=>nomatch z),by rw[Kx];exact tl,λl bs ks hl KA pm so=>?_]
 ·have:kv.1∈(j5 ys).map (·.1):=yi.mpr #[kv,DC,rfl];rw[ue] at this;obtain⟨p,_,e⟩:=yi.mp this;rw[<-e];rfl
 ·rw[ue] at pm;have s3:=jh (o:=.lst (bs.map V.ref)) (Same.refl H) hl;exact q l bs ks _ s3 hl jc (KeyAt.mono' KA s3) pm so
def ij (H H':Hp) (n:Nat) (kvs:List (Key×V)):Prop:=∀kv∈kvs,∃(l:Addr) (zs:List V),A4 (kv.2=.ref l) (H' l=some (.lst zs)) (H l=none) (zs.length<=n)
theorem lC {k:Key}{v:V}{kv:Key×V} (h:kv∈uw kvs k v):kv∈kvs\/kv.2=v:=by
 unfold uw at h
 split at h
 ·obtain⟨x,hx,rfl⟩:=yi.mp h;by_cases e:x.1=k
  ·simp [e]
  ·simp [e,hx]
 ·rcases yL.mp h with z|z
  ·exact .inl z
  ·rw[yu.mp z];exact .inr rfl
def xM (C:Addr):Sp:=λvs H Q _=>E6 λ(o:Addr) (ps ns ls:AI) (xs:List Jp) (ys:List JL)=>A4 (vs=[.ref o]) (Dr H C o ps ns ls xs ys) (um xs ys) (∀D kvs H',Same H H'->H D=none->H' D=some (.dK kvs)->kvs.map (·.1)=ys.map (λy=>Sum.inr y.1)->Q (.ref D) H')
theorem zV (T:Txt K mg t):zl P w K mg base 2 t.jG "net_pins" ["self"] (xM t.jG):=by
 refine T.zX.ok T.jW ["self","nets","pin"] ?_;rintro _ H Q E ⟨o,ps,ns,ls,xs,ys,rfl,d,G,q⟩;refine#[rfl,λAZ A outer s hr=>#[_,(jf (ju 1 gJ) (jf (qF (j7 jQ (lg rfl (ud (pv 0))) (jl 2) (jj (kR (pv 1) (gI (ud (pv 0)) (pv 2)) (Jb jb))))) (jf (j7 jQ (jO (Zx (cc (VF T)) (pv 0))) (jl 2) (jj (j6 (Jm PySem.F.plainAttrs_list PySem.F.slot_list_append PySem.F.type_list_append j3 (gI (pv 1) (gI (ud (pv 0)) (pv 2))) (ja (pv 2) jb))))) (jj (jH (pv 1)))))),?_]];refine JF (λ(D:Addr)=>[oR o,oR D,none]) (λD H'=>A3 (Same H H') (H D=none) (H' D=some (.dK []))) (λB hB=>λD hD=>hB D _ #[jh (Same.refl H) hD,hD,jc]) ?_;rintro D H1 ⟨s1,hD,eD⟩;have nd:=MS G.nd;have lj:(j5 ys).length<=1000:=by have:=congrArg List.length (ue ys);rw[ya,ya] at this;have:=G.tl;omega
 obtain⟨dx,pl,nl,kd,jn,kk,ho,_,_,hj,_⟩:=(d.same s1).ex;refine Vo (λ(v2:Option V) (kvs:List (Key×V))=>[oR o,oR D,v2]) (λ_ kvs H'=>A4 (Same H H') (H' D=some (.dK kvs)) (kvs.map (·.1)=ys.map (λy=>Sum.inr y.1)) (ij H H' 0 kvs)) (λB' hB=>?_) ?_
 ·refine#[_,rfl,o,_,dx,_,.ref jn,rfl,ho,T.jW,T.JJ,rfl,jn,_,rfl,hj,λob es hz hm kt dr=>?_];obtain⟨Z,zs,zn,zt⟩:=iI hj hz hm kt dr;have jD:jn≠D:=jX hj eD;have oj:o≠jn:=jX ho hj;have oD:o≠D:=jX ho eD;have Cr:=zs _ _ oj ho;have BQ:=zs _ _ (yZ jD) eD;generalize upd H1 jn (Ua jn ob)=H3 at Z zs zn zt Cr BQ;refine iF Z (λi σ H'=>E2 λ(v2:Option V) (kvs:List (Key×V))=>A5 (σ=[oR o,oR D,v2]) (uM D H3 H') (H' D=some (.dK kvs)) (kvs.map (·.1)=(((j5 ys).take i).map λkv=>sD kv.2).foldl gm []) (ij H H' 0 kvs/\kvs.length<=i)) #[_,[],rfl,λ_ _ _ e=>e,BQ,rfl,(λkv h=>nomatch h),yh _] (λi σ H' _ h=>by obtain⟨_,_,_,k,_⟩:=h;exact k _ _ jD Z.e) ?_ ?_
  ·rintro i kv p σ H4 DC hp ⟨v2,kvs,rfl,bt,e4,ek,L4,lk⟩;obtain⟨z,ez⟩:=dH DC;have I9:=bt _ _ (jX hp BQ) hp;have fr:∀l,H4 l=none->H l=none:=λl hl=>by
    cases e:H l with
    | none=>rfl
    | some u =>
     have h1:=s1 _ _ e;by_cases y:l=jn
     ·rw[y,bt _ _ jD Z.e] at hl;cases hl
     ·rw[bt _ _ (λq=>by rw[q,e4] at hl;cases hl) (zs _ _ y h1)] at hl;cases hl
   refine#[UY,λl hl=>?_]
   exists H5,s5,e5,H4,l,hl,.lst []
   have Z5:Fz _ _ H5 jn ob (j5 ys) es:=#[s5 _ _ (bt _ _ jD Z.e),Z.hm,Z.kt.keeps λb ys e=>s5 _ _ (bt _ _ (jX e BQ) e),Z.dr,Z.hz];have Ew:=s5 _ _ e4;refine#[_,rfl,_,rfl,o,_,dx,_,.ref jn,rfl,s5 _ _ (bt _ _ oD Cr),T.jW,T.JJ,rfl,_,rfl,jn,.str z,rfl,by rw[<-ez,<-aX nd DC];exact vV.z Z5 (s5 _ _ I9),D,_,rfl,vW.k (k:=.inr z) Ew (yK (show _<=1000 by have:=(yc.mp DC).1;omega) '$'),_,_,rfl,λb u n e=>jq n (s5 _ _ (bt _ _ n e)),jc,?_,?_,?_]
   ·rw[fi,ek,jC DC,yf,List.foldl_append,yH,ez];rfl
   ·intro Sf Li;rcases lC Li with h|h
    ·obtain⟨l',Dk,a1,a2,a3,a4⟩:=L4 Sf h;exact#[l',Dk,a1,jq (jX a2 e4) (s5 _ _ a2),a3,a4]
    ·exact#[l,[],h,jq (jX e5 Ew) e5,fr l hl,yh _]
   ·exact yp (vy _ _ _) '!'
  ·rintro σ H4 ⟨v2,kvs,rfl,bt,e4,ek,L4,lk⟩;rw[jN rfl,b8,Go ys [] (λy _ h=>nomatch h) G.names2 (λy hy=>(G.nets y hy).2),List.nil_append] at ek;refine#[jn,ob,j5 ys,es,#[bt _ _ jD Z.e,Z.hm,Z.kt.keeps λb ys e=>bt _ _ (jX e BQ) e,Z.dr,Z.hz],hB v2 kvs _ #[λb u e=>?_,jq (yZ jD) e4,ek,λkv h=>?_]]
   ·have h1:=s1 _ _ e;by_cases y:b=jn
    ·subst y;rw[hj] at h1;cases h1;exact jc
    ·rw[jw y];exact bt _ _ (jy e hD) (zs _ _ y h1)
   ·obtain⟨l',Dk,a1,a2,a3,a4⟩:=L4 kv h;exact#[l',Dk,a1,by rw[jw (λy=>by rw[y,bt _ _ jD Z.e] at a2;cases a2)];exact a2,a3,a4]
 rintro v2 kvs H2 ⟨s2,e2,ek,Hr⟩;obtain⟨dx,pl,nl,kd,jn,kk,ho,_,_,hj,_⟩:=(d.same s2).ex;refine JF (λ(v2:Option V)=>[oR o,oR D,v2]) (λ_ H'=>A3 (Same H H') (H' D=some (.dK kvs)) True) (λB' hB=>?_) ?_
 ·refine#[_,rfl,o,dx,_,rfl,ho,rfl,o,dx,pl,nl,kd,jn,ys,rfl,ho,hj,G.tl,λl bs ks H3 s3 hl el KA pm so=>?_];have D3:=s3 _ _ e2;have Cr:=s3 _ _ ho;have OX:=s3 _ _ hj;have lb:bs.length<=1000:=by
   have:=pm.length_eq;rw[ya] at this;have:=G.tl;have:=KA.1;omega
  have Sg:∀kv∈kvs,kv.2≠.ref l:=λkv h z=>by
   obtain⟨l',Dk,a1,a2,_⟩:=Hr kv h;rw[a1] at z;cases z;rw[hl] at a2;cases a2
  have no:∀{b:Addr} {u:HO},H3 b=some u->(∀zs,u≠.lst zs)->∀kv∈kvs,kv.2≠.ref b:=λ{b u} e n kv h z=>by
   obtain⟨l',Dk,a1,a2,_⟩:=Hr kv h;rw[a1] at z;cases z;rw[s3 _ _ a2] at e;cases e;exact n _ rfl
  refine#[l,rfl,#[_,jg.of el],uJ (xs:=bs.map V.ref) (λi σ H'=>∃(v2:Option V),A3 (σ=[oR o,oR D,v2]) (∀b u,(∀kv∈kvs,kv.2≠.ref b)->H3 b=some u->H' b=some u) (ij H H' i kvs)) #[_,rfl,λ_ _ _ e=>e,λkv h=>let ⟨l',Dk,a1,a2,a3,a4⟩:=Hr kv h;#[l',Dk,a1,s3 _ _ a2,a3,a4]] (λi σ H' _ h=>by obtain⟨_,_,k,_⟩:=h;exact jg.of (k _ _ Sg el)) ?_ ?_]
  ·rintro i v σ H4 hv ⟨v2,rfl,k4,L4⟩;obtain⟨p,e1,rfl⟩:=jS hv;have hi:=(yc.mp e1).1;have hi2:i<ks.length:=by rw[<-KA.1];exact hi
   have ep:=KA.2 i p _ e1 (yb hi2);have OY:=k4 _ _ (no ep (λ_ z=>nomatch z)) ep;obtain⟨x,hx,ex⟩:=yi.mp (pm.mem_iff.mp (yB hi2));rw[<-ex] at OY;have hk:kP x∈(j5 ys).map (·.1):=by rw[ue];exact yi.mpr #[x,hx,rfl]
   obtain⟨u,hu,mu⟩:=ZC hk;have:∃z,u=.str z/\Sum.inr z∈kvs.map (·.1):=by
    unfold j5 row at mu;obtain⟨y,hy,h2⟩:=QH.mp mu;obtain⟨p,_,e⟩:=yi.mp h2;exact#[y.1,(congrArg Prod.snd e).symm,by rw[ek];exact yi.mpr #[y,hy,rfl]]
   obtain⟨z,rfl,hz⟩:=this;obtain⟨u2,Em,OZ⟩:=ZC hz;obtain⟨l',Dk,a1,a2,a3,a4⟩:=L4 _ OZ;cases a1;have nD:=no D3 (λ_ z=>nomatch z);have gj:vV P w H4 jn (.ref p) (some (.str z)):=by rw[<-hu];exact vV.t (k4 _ _ (no OX (λ_ z=>nomatch z)) OX) OY
   have gD:vV P w H4 D (.str z) (some (.ref l')):=by rw[<-Em];exact .inl (JG.k (k:=.inr z) (k4 _ _ nD D3))
   refine#[_,rfl,_,rfl,o,_,dx,_,.ref jn,rfl,k4 _ _ (no Cr (λ_ z=>nomatch z)) Cr,T.jW,T.JJ,rfl,_,rfl,jn,.str z,rfl,gj,D,.ref l',rfl,gD,.inl #[rfl,_,jg.of a2],_,rfl,l',Dk,_,rfl,rfl,a2,yK (show _<=1000 by omega) '$',_,rfl,λb u n e=>?_,λkv h=>?_]
   ·rw[jw (λy=>n _ OZ (by rw[y]))];exact k4 _ _ n e
   ·obtain⟨m,Sh,b1,b2,b3,b4⟩:=L4 kv h;by_cases y:m=l'
    ·subst y;exact#[m,_,b1,jc,b3,by rw[yj];exact QG a4]
    ·exact#[m,Sh,b1,jq y b2,b3,by omega]
  ·rintro σ H4 ⟨v2,rfl,k4,L4⟩;refine hB _ _ #[λb u e=>k4 _ _ (λkv h z=>?_) (s3 _ _ (s2 _ _ e)),k4 _ _ (no D3 (λ_ z=>nomatch z)) D3,trivial];obtain⟨l',Dk,a1,a2,a3,_⟩:=Hr kv h;rw[a1] at z;cases z;rw[a3] at e;cases e
 rintro v2' H3 ⟨s3,e3,_⟩;exact#[_,rfl,q D kvs H3 s3 hD e3 ek]
variable {P:AS}{w:World}{K:AB}{mg:AE}{base:Heap}{t:Adr}
theorem GE {α:Type}{l:List α} (nd:l.Nodup) {i:Nat} (hi:i<l.length) (hj:j<l.length) (e:l[i]=l[j]):i=j:=by
 rcases Q9 i j with h|h|h
 ·exact absurd e (QU.mp nd i j hi hj h)
 ·exact h
 ·exact absurd e.symm (QU.mp nd j i hj hi h)
def uZ (ks:List Key):List (Key×V):=ks.zipIdx.map λx=>(x.1,V.int x.2)
theorem vF (ks:List Key):(uZ ks).map (·.1)=ks:=by
 unfold uZ;rw[yq];exact yX (by simp) λi h1 h2=>by simp
theorem eC (ks:List Key) (k:Key):uZ (ks++[k])=uZ ks++[(k,V.int ks.length)]:=by
 unfold uZ;rw[List.zipIdx_append,yf];simp
theorem gG {ks:List Key} (nd:ks.Nodup) {i:Nat} {k:Key} (h:ks[i]?=some k):Jh (uZ ks) k=some (.int i):=by
 have hi:k∈(uZ ks).map (·.1):=by rw[vF];exact yk h
 obtain⟨v,hv,hm⟩:=ZC hi;unfold uZ at hm;obtain⟨x,hx,e⟩:=yi.mp hm;obtain⟨j,hj,ej⟩:=yD hx;rw[List.getElem_zipIdx] at ej;have Lj:j<ks.length:=by simpa using hj
 subst ej;have e1:ks[j]=k:=congrArg Prod.fst e;have e2:v=.int j:=(congrArg Prod.snd e).symm.trans (by simp);obtain⟨B9,ei⟩:=yc.mp h;have:j=i:=GE nd Lj B9 (e1.trans ei.symm);rw[hv,e2,this]
structure U3 (T:TK) (H:Hp) (kvs:List (T.α×Addr×Int)) (ks:List T.α):Prop where
 keys:kvs.map (·.1)=ks
 idx:∀(j:Nat) x,kvs[j]?=some x->x.2.2=(j:Int)
 ky:N7 T H kvs
theorem U3.mono {H':Hp}{kvs:List (T.α×Addr×Int)}{ks:List T.α} (N:U3 T H kvs ks) (k:∀p xs,H p=some (.tup xs)->H' p=some (.tup xs)):U3 T H' kvs ks:=#[N.keys,N.idx,λx hx=>#[T.M.mono k (N.ky x hx).1,(N.ky x hx).2]]
theorem U3.val {kvs:List (T.α×Addr×Int)}{ks:List T.α} (N:U3 T H kvs ks) (nd:ks.Nodup) {i:Nat} {k:T.α} (h:ks[i]?=some k):VT kvs k=some (i:Int):=by
 obtain⟨hi,ei⟩:=yc.mp h;unfold VT;cases e:kvs.find? λx=>decide (x.1=k) with
 | none =>
  have:=List.find?_eq_none.mp e;have hm:k∈kvs.map (·.1):=by rw[N.keys];exact yk h
  obtain⟨x,hx,ex⟩:=yi.mp hm;exact absurd (decide_eq_true ex) (this x hx)
 | some x =>
  have e1:x.1=k:=by have:=List.find?_some e;exact of_decide_eq_true this
  obtain⟨j,hj,ej⟩:=yD (List.mem_of_find?_eq_some e);have Lj:j<ks.length:=by rw[<-N.keys,ya];exact hj
  have e2:ks[j]=k:=by
   have:(kvs.map (·.1))[j]'(by rw[ya];exact hj)=ks[j]:=by simp only[N.keys]
   rw[<-this,yR,ej,e1]
  have:j=i:=GE nd Lj hi (e2.trans ei.symm);rw[Option.map_some,N.idx j x (by rw[yb hj,ej]),this]
theorem U3.none {kvs:List (T.α×Addr×Int)}{ks:List T.α} (N:U3 T H kvs ks) {k:T.α} (h:k ∉ ks):VT kvs k=none:=by
 unfold VT;cases e:kvs.find? λx=>decide (x.1=k) with
 | none=>rfl
 | some x =>
  have e1:x.1=k:=by have:=List.find?_some e;exact of_decide_eq_true this
  exact absurd (by rw[<-N.keys];exact yi.mpr #[x,List.mem_of_find?_eq_some e,e1]) h
theorem U3.snoc {kvs:List (T.α×Addr×Int)}{ks:List T.α} (N:U3 T H kvs ks) {k:T.α} {b:Addr} (hb:T.M.V_ H (.ref b) k) (hg:T.good k):U3 T H (kvs++[(k,b,(ks.length:Int))]) (ks++[k]):=by
 have l:kvs.length=ks.length:=by rw[<-N.keys,ya]
 refine#[by rw[yf,N.keys];rfl,λj x h=>?_,λx hx=>?_]
 ·by_cases hj:j<kvs.length
  ·rw[yC hj] at h;exact N.idx j x h
  ·rw[yG '!'] at h;have z:j - kvs.length=0:=by have:=(yc.mp h).1;simp at this;omega
   rw[z] at h;cases h;show (ks.length:Int)=j;omega
 ·rcases yL.mp hx with h|h
  ·exact N.ky x h
  ·rw[yu.mp h];exact#[hb,hg]
inductive tH (P:AS) (w:World) (vs:List V) (H:Hp) (Q:VK):Prop
 | k (a:Addr) (ks:List Key) (h0:vs=[.ref a]) (h1:H a=some (.lst (ks.map kV))) (h2:ks.Nodup) (h3:ks.length<=1000) (q:∀D H',Same H H'->H D=none->H' D=some (.dK (uZ ks))->Q (.ref D) H')
 | g (T:TK) (a:Addr) (bs:AI) (ks:List T.α) (h0:vs=[.ref a]) (h1:H a=some (.lst (bs.map V.ref))) (h2:Uk T.M H bs ks) (h3:∀k∈ks,T.good k) (h4:ks.Nodup) (h5:ks.length<=1000) (q:∀D kvs H',Same H H'->H D=none->H' D=some (.ext (Ui T P w D kvs))->U3 T H' kvs ks->Q (.ref D) H')
def wM (P:AS) (w:World):Sp:=λvs H Q _=>tH P w vs H Q
theorem Z7 (T:Txt K mg t):j0 P w K mg base 1 "numbered" ["things"] (wM P w):=by
 refine T.bc.ok ["things","numbers","number","thing"] ?_;rintro _ H Q E (⟨a,ks,rfl,ha,nd,hl,q⟩|⟨T',a,bs,ks,rfl,ha,NA,hg,nd,hl,q⟩)
 ·refine#[rfl,λAZ A outer s hr=>#[_,(jf (ju 1 nG) (jf (j7 jQ (uL rfl rfl T.Jw (ja (pv 0) jb)) (Jv (jt (jl 2) (jt (jl 3) Jc))) (jj (nS (pv 1) (pv 3) (pv 2)))) (jj (jH (pv 1))))),?_]];refine JF (λ(D:Addr)=>[oR a,oR D,none,none]) (λD H'=>A3 (Same H H') (H D=none) (H' D=some (.dK []))) (λB hB=>.inl λD hD=>hB D _ #[jh (Same.refl H) hD,hD,jc]) ?_;rintro D H1 ⟨s1,hD,eD⟩;refine Vo (λ(v2 v3:Option V)=>[oR a,oR D,v2,v3]) (λ_ _ H'=>A3 (Same H H') (H' D=some (.dK (uZ ks))) True) (λB hB=>?_) ?_
  ·refine#[_,rfl,a,rfl,#[_,jg.of (s1 _ _ ha)],uC (xs:=ks.map kV) (λi σ H'=>E2 λ(v2 v3:Option V)=>A3 (σ=[oR a,oR D,v2,v3]) (Same H H') (H' D=some (.dK (uZ (ks.take i))))) #[_,_,rfl,s1,eD] (λi σ H' _ h=>by obtain⟨_,_,_,e,_⟩:=h;exact jg.of (e _ _ ha)) ?_ ?_]
   ·rintro i v p σ H2 hv hp ⟨v2,v3,rfl,s2,e2⟩;obtain⟨k,ek,rfl⟩:=jS hv;have hi:=(yc.mp ek).1
    exists H3,s3,e3,H2,p,hp,.tup [.int (i:Int),kV k]
    have BQ:=s3 _ _ e2;have Cd:Jh (uZ (ks.take i)) k=none:=by
     cases e:Jh (uZ (ks.take i)) k with
     | none=>rfl
     | some v =>
      have h1:=zh e;rw[vF] at h1;have h2:(ks.take i++ks.drop i).Nodup:=by rw[Qo];exact nd
      exact absurd rfl ((Qd.mp h2).2.2 _ h1 k (by rw[Qc hi,(yc.mp ek).2];exact yw ..))
    refine#[p,_,rfl,jB.of e3,rfl,_,_,rfl,_,_,rfl,rfl,_,rfl,_,rfl,_,rfl,?_];refine .d D _ rfl (vW.k (k:=k) BQ ?_) #[_,_,rfl,λb u e=>jq (jy e hD) (s3 _ _ (s2 _ _ e)),?_]
    ·have:(uZ (ks.take i)).length<=1000:=by
      have:=congrArg List.length (vF (ks.take i));rw[ya,yI] at this;omega
     exact yK this '$'
    ·rw[jc,zK _ Cd,jC ek,eC,yI,Qq (y4 hi)]
   ·rintro σ H2 ⟨v2,v3,rfl,s2,e2⟩;rw[ya,jN rfl] at e2;exact hB _ _ _ #[s2,e2,trivial]
  rintro v2 v3 H2 ⟨s2,e2,_⟩;exact#[_,rfl,q D H2 s2 hD e2]
 ·refine#[rfl,λAZ A outer s hr=>#[_,(jf (ju 1 nG) (jf (j7 jQ (uL rfl rfl T.Jw (ja (pv 0) jb)) (Jv (jt (jl 2) (jt (jl 3) Jc))) (jj (nS (pv 1) (pv 3) (pv 2)))) (jj (jH (pv 1))))),?_]];refine JF (λ(D:Addr)=>[oR a,oR D,none,none]) (λD H'=>A3 (Same H H') (H D=none) (H' D=some (.ext (Ui T' P w D [])))) (λB hB=>.inr (.inr #[T',λD hD=>hB D _ #[jh (Same.refl H) hD,hD,jc]])) ?_;rintro D H1 ⟨s1,hD,eD⟩;obtain⟨lb,hb⟩:=uE NA;refine zU (λ(v2 v3:Option V) (kvs:List (T'.α×Addr×Int))=>[oR a,oR D,v2,v3]) (λ_ _ kvs H'=>A3 (Same H H') (H' D=some (.ext (Ui T' P w D kvs))) (U3 T' H' kvs ks)) (λB hB=>?_) ?_
  ·refine#[_,rfl,a,rfl,#[_,jg.of (s1 _ _ ha)],uC (xs:=bs.map V.ref) (λi σ H'=>E3 λ(v2 v3:Option V) (kvs:List (T'.α×Addr×Int))=>A4 (σ=[oR a,oR D,v2,v3]) (Same H H') (H' D=some (.ext (Ui T' P w D kvs))) (U3 T' H' kvs (ks.take i))) #[_,_,[],rfl,s1,eD,rfl,(λj x h=>nomatch h),λx h=>nomatch h] (λi σ H' _ h=>by obtain⟨_,_,_,_,e,_⟩:=h;exact jg.of (e _ _ ha)) ?_ ?_]
   ·rintro i v p σ H2 hv hp ⟨v2,v3,kvs,rfl,s2,e2,N2⟩;obtain⟨b,O0,rfl⟩:=jS hv;have hi:i<ks.length:=by rw[<-lb];exact (yc.mp O0).1
    have ek:=yb hi
    exists H3,s3,e3,H2,p,hp,.tup [.int (i:Int),.ref b]
    have BQ:=s3 _ _ e2;have N3:=N2.mono λ_ _ e=>s3 _ _ e;have Cd:ks[i] ∉ ks.take i:=λh1=>by
     have h2:(ks.take i++ks.drop i).Nodup:=by rw[Qo];exact nd
     exact (Qd.mp h2).2.2 _ h1 ks[i] (by rw[Qc hi];exact yw ..) rfl
    have vb:=T'.M.mono (λ_ _ e=>s3 _ _ (s2 _ _ e)) (hb i b _ O0 ek);have gk:=hg _ (yB hi);have lk:kvs.length=i:=by rw[<-ya (f:=(·.1)),N2.keys,yI,Qq (y4 hi)]
    refine#[p,_,rfl,jB.of e3,rfl,_,_,rfl,_,_,rfl,rfl,_,rfl,_,rfl,_,rfl,?_];refine .g T' D b kvs ks[i] i rfl rfl rfl BQ N3.ky vb gk (N3.none Cd) '!' #[_,_,_,rfl,λb u e=>jq (jy e hD) (s3 _ _ (s2 _ _ e)),jc,?_];rw[jC ek];have:=N3.snoc vb gk;rw[yI,Qq (y4 hi)] at this;exact this.mono λq ys e=>by rw[jw (jX e BQ)];exact e
   ·rintro σ H2 ⟨v2,v3,kvs,rfl,s2,e2,N2⟩;rw[ya,lb,jN rfl] at N2;exact hB _ _ kvs _ #[s2,e2,N2]
  rintro v2 v3 kvs H2 ⟨s2,e2,N2⟩;exact#[_,rfl,q D kvs H2 s2 hD e2 N2]
variable {P:AS}{w:World}{K:AB}{mg:AE}{base:Heap}{t:Adr}
theorem jM {H':Hp}{o:HO} (s:Same H H') (hD:H D=none):Same H (upd H' D o):=λb u e=>by rw[jw (jy e hD)];exact s _ _ e
theorem vN {a:Addr}{vs:List V} (ha:H a=some (.lst vs)) (hl:vs.length=ms.length) (hz:vs.length<=1000) (hg:∀(i:Nat) v m,vs[i]?=some v->ms[i]?=some m->∀H' (Q':VK),Same H H'->Q' (.int m) H'->bf P w (.ref R) v H' Q')
  (q:∀D H',Same H H'->H D=none->H' D=some (.lst (ms.map V.int))->Q (.ref D) H'):vM 1 (ZM 2) (λ_ H Q=>Q true H) (fQ P w (Nk 1) (Nk 2)) [oR f,oR R] Q (k6 K a) H:=by
 refine uh (xs:=vs) (λD i ys H'=>A4 (Same H H') (H D=none) (H' D=some (.lst ys)) (ys=(ms.take i).map V.int)) (yp hz '$') (λD hD=>#[jh (Same.refl H) hD,hD,jc,rfl]) (λD i ys H' #[s1,h1,h2,h3]=>#[h2,by rw[h3,ya,yI];exact Wf _ _,jg.of (s1 _ _ ha)]) ?_ ?_
 ·rintro D i v ys H1 Qy Qn hv ⟨s1,hD,eD,rfl⟩ hy hn;have hi:i<ms.length:=by rw[<-hl];exact (yc.mp hv).1
  have em:=yb hi;refine#[#[_,rfl,rfl],JI #[_,rfl,_,rfl,hg i v _ hv em H1 _ s1 (hy _ _ eD #[jM s1 hD,hD,jc,?_])]];rw[jC em,yf]
  rfl
 ·rintro D ys H1 hD ⟨s1,_,eD,rfl⟩;rw[hl,jN rfl] at eD;exact q D H1 s1 hD eD
inductive qY (P:AS) (w:World) (K:AB) (vs:List V) (H:Hp) (Q:VK):Prop
 | g (T:TK) (f l0 l1:Addr) (bs cs:AI) (ks js:List T.α) (h0:vs=[.ref f]) (h1:H f=some (.lst [.ref l0,.ref l1])) (h2:H l0=some (.lst (bs.map V.ref))) (h3:H l1=some (.lst (cs.map V.ref))) (h4:Uk T.M H bs ks) (h5:Uk T.M H cs js) (h6:∀k∈ks++js,T.good k) (h7:ks.length+js.length<=60)
   (q:∀(rk:T.α->Nat) R r0 r1 H',(∀a∈ks++js,∀b∈ks++js,rk a=rk b->a=b)->(∀a∈ks++js,rk a<60)->Same H H'->H R=none->H r0=none->H r1=none->H' R=some (.lst [.ref r0,.ref r1])->H' r0=some (.lst ((ks.map λk=>(rk k:Int)).map V.int))->H' r1=some (.lst ((js.map λk=>(rk k:Int)).map V.int))->r0≠r1->Q (.ref R) H')
 | k (f l0 l1:Addr) (ks js:List Int) (h0:vs=[.ref f]) (h1:H f=some (.lst [.ref l0,.ref l1])) (h2:H l0=some (.lst (ks.map V.int))) (h3:H l1=some (.lst (js.map V.int))) (h7:ks.length+js.length<=60)
   (q:∀(rk:Int->Nat) R r0 r1 H',(∀a∈ks++js,∀b∈ks++js,rk a=rk b->a=b)->(∀a∈ks++js,rk a<60)->Same H H'->H R=none->H r0=none->H r1=none->H' R=some (.lst [.ref r0,.ref r1])->H' r0=some (.lst ((ks.map λk=>(rk k:Int)).map V.int))->H' r1=some (.lst ((js.map λk=>(rk k:Int)).map V.int))->r0≠r1->Q (.ref R) H')
def tJ (P:AS) (w:World) (K:AB):Sp:=λvs H Q _=>qY P w K vs H Q
noncomputable def UG {α:Type} (l:List α) (k:α):Nat:=by classical exact if h:∃i:Nat,l[i]?=some k then h.choose else 0
theorem vt {α:Type}{l:List α}{k:α} (h:k∈l):l[UG l k]?=some k:=by
 have h':∃i:Nat,l[i]?=some k:=by obtain⟨i,hi,rfl⟩:=yD h;exact#[i,yb hi]
 unfold UG;rw[dif_pos h'];exact h'.choose_spec
theorem n9 {α:Type}{l:List α}{a b:α} (ha:a∈l) (hb:b∈l) (e:UG l a=UG l b):a=b:=by
 have h1:=vt ha;rw[e,vt hb] at h1;exact (Option.some.inj h1).symm
theorem KL (T:Txt K mg t):j0 P w K mg base 2 "ranked" ["found"] (tJ P w K):=by
 refine T.ig.ok ["found","ranks"] ?_;rintro _ H Q E (⟨T',f,l0,l1,bs,cs,ks,js,rfl,hf,h0,h1,N0,N1,hg,hl,q⟩|⟨f,l0,l1,ks,js,rfl,hf,h0,h1,hl,q⟩)
 ·refine#[rfl,λAZ A outer s hr=>#[_,(jf (ju 1 (jo (Z7 T) (ja (jx (ZH (ZG λT=>Zd T rfl hr.units) (Ve rfl)) (by rfl) T.uK uI (ja (j4 (ZH (ZG λT=>Ki T rfl hr.units) (vC rfl)) (by rfl) T.GB Ga (ja (jK vc (jp jF (pv 0) jk) (jp jF (pv 0) jk)) jb)) jb)) jb))) (jj (jH (Jb (ja (Jg (own:=["thing"]) (uO (cl:=[("ranks",_)])) (jO (jp jF (pv 0) jk)) (λ_ _ _ _ _=>jl 2) (λ_ _ _ _ _=>Jd) (λ_ _ _ _ _=>(zI (pv 1) (pv 2)))) (ja (Jg (own:=["thing"]) (uO (cl:=[("ranks",_)])) (jO (jp jF (pv 0) jk)) (λ_ _ _ _ _=>jl 2) (λ_ _ _ _ _=>Jd) (λ_ _ _ _ _=>(zI (pv 1) (pv 2)))) jb)))))),?_]];refine zU (λ(D:Addr) (us:List T'.α) (kvs:List (T'.α×Addr×Int))=>[oR f,oR D]) (λD us kvs H'=>A6 (Same H H') (H D=none) (H' D=some (.ext (Ui T' P w D kvs))) (U3 T' H' kvs us) us.Nodup (∀k,k∈us↔k∈ks++js)) (λB hB=>#[_,rfl,f,_,0,.ref l0,rfl,rfl,jg.of hf,rfl,_,rfl,f,_,1,.ref l1,rfl,rfl,jg.of hf,rfl,l0,l1,_,_,rfl,rfl,h0,h1,?_,λp hp=>?_]) ?_
  ·rw[ya,ya,(uE N0).1,(uE N1).1];exact yp hl '$'
  ·have s1:=jh (o:=.lst (bs.map V.ref++cs.map V.ref)) (Same.refl H) hp;have e1:upd H p (.lst (bs.map V.ref++cs.map V.ref)) p=some (.lst ((bs++cs).map V.ref)):=by rw[jc,yf]
   generalize upd H p (.lst (bs.map V.ref++cs.map V.ref))=H1 at s1 e1;refine .inl #[T',p,bs++cs,ks++js,rfl,e1,#[(N0.app N1).mono λ_ _ e=>s1 _ _ e,hg],by rw[yj];omega,λS us hS nd mem hv=>?_];have lu:us.length<=60:=by
    have:=ul nd λa ha=>(mem a).mp ha;rw[ya,yj] at this;omega
   have s2:=jh (o:=.ext (vZ T' P w S us)) (Same.refl H1) hS;have e2:upd H1 S (.ext (vZ T' P w S us)) S=some (.ext (vZ T' P w S us)):=jc;refine .inl #[T',S,us,rfl,e2,λx hx=>#[T'.M.mono (λ_ _ e=>s2 _ _ e) (hv x hx),hg _ ((mem _).mp (yi.mpr #[x,hx,rfl]))],by omega,λl B8 By BC NA pm so=>?_];have s3:=jh (o:=.lst (B8.map V.ref)) (Same.refl (upd H1 S (.ext (vZ T' P w S us)))) BC;have Bb:=Same.trans s1 (Same.trans s2 s3);have Dl:By.Nodup:=pm.nodup_iff.mpr nd;have BL:∀k,k∈By↔k∈ks++js:=λk=>(pm.mem_iff).trans (mem k);exact .g T' l B8 By rfl jc (NA.mono λ_ _ e=>s3 _ _ e) (λk hk=>hg k ((BL k).mp hk)) Dl (by rw[pm.length_eq,ya];omega) λD kvs H' s' hD eD N=>hB D By kvs H' #[Same.trans Bb s',Same.nn Bb hD,eD,N,Dl,BL]
  rintro D us kvs H1 ⟨s1,hD,eD,N,nd,mem⟩;have get:∀{H':Hp} {Q':VK} {b:Addr} {k:T'.α},Same H1 H'->T'.M.V_ H (.ref b) k->k∈ks++js->Q' (.int (UG us k:Nat)) H'->bf P w (.ref D) (.ref b) H' Q':=λ{H' Q' b k} s' hb hk q' =>
   .g T' D b kvs k _ rfl rfl (s' _ _ eD) (N.mono λ_ _ e=>s' _ _ e).ky (T'.M.mono (λ_ _ e=>s' _ _ (s1 _ _ e)) hb) (hg k hk) (N.val nd (vt ((mem k).mpr hk))) q'
  refine#[_,rfl,f,_,0,.ref l0,rfl,rfl,jg.of (s1 _ _ hf),rfl,l0,rfl,#[_,jg.of (s1 _ _ h0)],vN (ms:=ks.map λk=>((UG us k:Nat):Int)) (s1 _ _ h0) (by rw[ya,ya,(uE N0).1]) (by rw[ya,(uE N0).1];omega) (λi v m hv hm H' Q' s' q'=>?_) λr0 H2 s2 FQ e0=>?_]
  ·rw[ye] at hv hm;obtain⟨b,eb,rfl⟩:=yz.mp hv;obtain⟨k,ek,rfl⟩:=yz.mp hm;exact get s' ((uE N0).2 i b k eb ek) (Qp _ (yk ek)) q'
  have Bl:=Same.trans s1 s2;refine#[_,rfl,f,_,1,.ref l1,rfl,rfl,jg.of (Bl _ _ hf),rfl,l1,rfl,#[_,jg.of (Bl _ _ h1)],vN (ms:=js.map λk=>((UG us k:Nat):Int)) (Bl _ _ h1) (by rw[ya,ya,(uE N1).1]) (by rw[ya,(uE N1).1];omega) (λi v m hv hm H' Q' s' q'=>?_) λr1 H3 s3 Ex e1=>?_]
  ·rw[ye] at hv hm;obtain⟨b,eb,rfl⟩:=yz.mp hv;obtain⟨k,ek,rfl⟩:=yz.mp hm;exact get (Same.trans s2 s') ((uE N1).2 i b k eb ek) (yF _ (yk ek)) q'
  have Bb:=Same.trans Bl s3;refine#[Uz,λR hR=>?_];have s4:=jh (o:=.lst [.ref r0,.ref r1]) (Same.refl H3) hR;have lu:us.length<=60:=by
   have:=ul nd λa ha=>(mem a).mp ha;rw[yj] at this;omega
  exact q (UG us) R r0 r1 _ (λa ha b hb e=>n9 ((mem a).mpr ha) ((mem b).mpr hb) e) (λa ha=>by have:=(yc.mp (vt ((mem a).mpr ha))).1;omega) (Same.trans Bb s4) (Same.nn Bb hR) (Same.nn s1 FQ) (Same.nn Bl Ex) jc (s4 _ _ (s3 _ _ e0)) (s4 _ _ e1) (jy e0 Ex)
 ·refine#[rfl,λAZ A outer s hr=>#[_,(jf (ju 1 (jo (Z7 T) (ja (jx (ZH (ZG λT=>Zd T rfl hr.units) (Ve rfl)) (by rfl) T.uK uI (ja (j4 (ZH (ZG λT=>Ki T rfl hr.units) (vC rfl)) (by rfl) T.GB Ga (ja (jK vc (jp jF (pv 0) jk) (jp jF (pv 0) jk)) jb)) jb)) jb))) (jj (jH (Jb (ja (Jg (own:=["thing"]) (uO (cl:=[("ranks",_)])) (jO (jp jF (pv 0) jk)) (λ_ _ _ _ _=>jl 2) (λ_ _ _ _ _=>Jd) (λ_ _ _ _ _=>(zI (pv 1) (pv 2)))) (ja (Jg (own:=["thing"]) (uO (cl:=[("ranks",_)])) (jO (jp jF (pv 0) jk)) (λ_ _ _ _ _=>jl 2) (λ_ _ _ _ _=>Jd) (λ_ _ _ _ _=>(zI (pv 1) (pv 2)))) jb)))))),?_]];refine Vo (λ(D:Addr) (us:List Int)=>[oR f,oR D]) (λD us H'=>A5 (Same H H') (H D=none) (H' D=some (.dK (uZ (us.map Sum.inl)))) us.Nodup (∀k,k∈us↔k∈ks++js)) (λB hB=>#[_,rfl,f,_,0,.ref l0,rfl,rfl,jg.of hf,rfl,_,rfl,f,_,1,.ref l1,rfl,rfl,jg.of hf,rfl,l0,l1,_,_,rfl,rfl,h0,h1,?_,λp hp=>?_]) ?_
  ·rw[ya,ya];exact yp hl '$'
  ·have s1:=jh (o:=.lst (ks.map V.int++js.map V.int)) (Same.refl H) hp;have e1:upd H p (.lst (ks.map V.int++js.map V.int)) p=some (.lst (((ks++js).map Sum.inl).map kV)):=by rw[jc,yf,yf,yq,yq];rfl
   generalize upd H p (.lst (ks.map V.int++js.map V.int))=H1 at s1 e1;refine .inr #[p,(ks++js).map Sum.inl,rfl,e1,by rw[ya,yj];omega,λS us hS nd mem=>?_];have BB:∃ns:List Int,us=ns.map Sum.inl:=by
    refine#[us.map λk=>match k with|.inl i=>i|.inr _=>0,?_];rw[yq];refine (yY λk hk=>?_).trans (Wh us) |>.symm
    obtain⟨x,_,rfl⟩:=yi.mp ((mem k).mp hk)
    rfl
   obtain⟨ns,rfl⟩:=BB;have nd:ns.Nodup:=(List.Pairwise.of_map _ (λa b h e=>h (by rw[e])) nd);have mem:∀k,k∈ns↔k∈ks++js:=λk=>by
    have:=mem (.inl k);rw[yi,yi] at this;exact#[λh=>by obtain⟨x,hx,e⟩:=this.mp #[k,h,rfl];cases e;exact hx,λh=>by obtain⟨x,hx,e⟩:=this.mpr #[k,h,rfl];cases e;exact hx]
   have lu:ns.length<=60:=by
    have:=ul nd λa ha=>(mem a).mp ha;rw[yj] at this;omega
   have s2:=jh (o:=.ext (Uj P w S (ns.map Sum.inl))) (Same.refl H1) hS;refine .inr #[S,ns,rfl,jc,by omega,λl Be BC pm so=>?_];have s3:=jh (o:=.lst (Be.map V.int)) (Same.refl (upd H1 S (.ext (Uj P w S (ns.map Sum.inl))))) BC;have Bb:=Same.trans s1 (Same.trans s2 s3);have Dl:Be.Nodup:=pm.nodup_iff.mpr nd;exact .k l (Be.map Sum.inl) rfl (by rw[jc,yq];rfl) (List.Pairwise.map _ (λa b h e=>h (Sum.inl.inj e)) Dl) (by rw[ya,pm.length_eq];omega) λD H' s' hD eD=>hB D Be H' #[Same.trans Bb s',Same.nn Bb hD,eD,Dl,λk=>pm.mem_iff.trans (mem k)]
  rintro D us H1 ⟨s1,hD,eD,nd,mem⟩;have get:∀{H':Hp} {Q':VK} {k:Int},Same H1 H'->k∈ks++js->Q' (.int (UG us k:Nat)) H'->bf P w (.ref D) (.int k) H' Q':=λ{H' Q' k} s' hk q'=>by
   have:=gG (ks:=us.map Sum.inl) (List.Pairwise.map _ (λa b h e=>h (Sum.inl.inj e)) nd) (i:=UG us k) (k:=.inl k) (by rw[ye,vt ((mem k).mpr hk)];rfl);exact .d D _ rfl (by rw[<-this];exact JG.k (k:=.inl k) (s' _ _ eD)) q'
  refine#[_,rfl,f,_,0,.ref l0,rfl,rfl,jg.of (s1 _ _ hf),rfl,l0,rfl,#[_,jg.of (s1 _ _ h0)],vN (ms:=ks.map λk=>((UG us k:Nat):Int)) (s1 _ _ h0) (by rw[ya,ya]) (by rw[ya];omega) (λi v m hv hm H' Q' s' q'=>?_) λr0 H2 s2 FQ e0=>?_]
  ·rw[ye] at hv hm;obtain⟨b,eb,rfl⟩:=yz.mp hv;rw[eb] at hm;cases hm;exact get s' (Qp _ (yk eb)) q'
  have Bl:=Same.trans s1 s2;refine#[_,rfl,f,_,1,.ref l1,rfl,rfl,jg.of (Bl _ _ hf),rfl,l1,rfl,#[_,jg.of (Bl _ _ h1)],vN (ms:=js.map λk=>((UG us k:Nat):Int)) (Bl _ _ h1) (by rw[ya,ya]) (by rw[ya];omega) (λi v m hv hm H' Q' s' q'=>?_) λr1 H3 s3 Ex e1=>?_]
  ·rw[ye] at hv hm;obtain⟨b,eb,rfl⟩:=yz.mp hv;rw[eb] at hm;cases hm;exact get (Same.trans s2 s') (yF _ (yk eb)) q'
  have Bb:=Same.trans Bl s3;refine#[Uz,λR hR=>?_];have s4:=jh (o:=.lst [.ref r0,.ref r1]) (Same.refl H3) hR;have lu:us.length<=60:=by
   have:=ul nd λa ha=>(mem a).mp ha;rw[yj] at this;omega
  exact q (UG us) R r0 r1 _ (λa ha b hb e=>n9 ((mem a).mpr ha) ((mem b).mpr hb) e) (λa ha=>by have:=(yc.mp (vt ((mem a).mpr ha))).1;omega) (Same.trans Bb s4) (Same.nn Bb hR) (Same.nn s1 FQ) (Same.nn Bl Ex) jc (s4 _ _ (s3 _ _ e0)) (s4 _ _ e1) (jy e0 Ex)
variable {P:AS}{w:World}{K:AB}{mg:AE}{base:Heap}{t:Adr}
structure uu where
 hs:List (Str×Nat)
 ws:List (List Nat)
 es:List (List (Nat×Nat))
def kH (x:Str×Nat):List Key:=[.inr x.1,.inl x.2]
def kE (x:Nat×Nat):List Key:=[.inl x.1,.inl x.2]
def ux (H:Hp) (vs:AI) (ws:List (List Nat)):Prop:=vs.length=ws.length/\∀(i:Nat) v l,vs[i]?=some v->ws[i]?=some l->H v=some (.lst (l.map λn=>V.int (n:Nat)))
def Jr (H:Hp) (ls:AI) (es:List (List (Nat×Nat))):Prop:=ls.length=es.length/\∀(i:Nat) v l,ls[i]?=some v->es[i]?=some l->∃us:List Addr,H v=some (.lst (us.map V.ref))/\KeyAt H us (l.map kE)
def fS (h w e:Addr):List (Str×V):=[("heads",.ref h),("wires",.ref w),("ends",.ref e)]
structure uX (H:Hp) (C o:Addr) (S:uu):Prop where
 ex:∃(dx hl wl el:Addr) (us vs ls:AI),A7 (H o=some (.ins C dx (fS hl wl el))) (H hl=some (.lst (us.map V.ref))) (KeyAt H us (S.hs.map kH)) (H wl=some (.lst (vs.map V.ref))) (ux H vs S.ws) (H el=some (.lst (ls.map V.ref))) (Jr H ls S.es)
theorem uX.same {H':Hp}{o:Addr}{S:uu} (x:uX H C o S) (s:Same H H'):uX H' C o S:=by
 obtain⟨dx,hl,wl,el,us,vs,ls,a1,a2,a3,a4,a5,a6,a7⟩:=x.ex;exact#[dx,hl,wl,el,us,vs,ls,s _ _ a1,s _ _ a2,KeyAt.mono' a3 s,s _ _ a4,#[a5.1,λi v l h1 h2=>s _ _ (a5.2 i v l h1 h2)],s _ _ a6,a7.1,λi v l h1 h2=>let ⟨us,e1,e2⟩:=a7.2 i v l h1 h2;#[us,s _ _ e1,KeyAt.mono' e2 s]]
structure uu.ok (S:uu):Prop where
 h:S.hs.length<=8
 w:S.ws.length=S.hs.length
 e:S.es.length<=24
 wl:∀l∈S.ws,l.length<=100/\∀n∈l,n<S.es.length
 el:∀l∈S.es,l.length<64/\∀p∈l,p.1<S.hs.length
def lT (C:Addr):Sp:=λvs H Q _=>∃(o:Addr) (S:uu),A4 (vs=[.ref o]) (uX H C o S) S.ok (∀D H',Same H H'->H D=none->H' D=some (.lst ((S.es.map λl=>(l.length:Int)).map V.int))->Q (.ref D) H')
theorem mz (T:Txt K mg t):j0 P w K mg base 1 "pin_counts" ["sketch"] (lT t.jT):=by
 refine T.m3.ok ["sketch"] ?_;rintro _ H Q E ⟨o,S,rfl,sk,ok,q⟩;refine#[rfl,λAZ A outer s hr=>#[_,(jj (jH (Jg (own:=["ends"]) (uO (cl:=[])) (jO (ud (pv 0))) (λ_ _ _ _ _=>jl 1) (λ_ _ _ _ _=>Jd) (λ_ _ _ _ _=>(jx (K4 (K:=K) rfl) (by rfl) T.ut uo (ja (pv 1) jb)))))),?_]];obtain⟨dx,hl,wl,el,us,vs,ls,ho,_,_,_,_,he,E5⟩:=sk.ex;refine#[_,rfl,o,_,dx,_,.ref el,rfl,ho,T.uB,T.UA,rfl,el,rfl,#[_,jg.of he],uh (xs:=ls.map V.ref) (λD i ys H'=>A4 (Same H H') (H D=none) (H' D=some (.lst ys)) (ys=((S.es.take i).map λl=>(l.length:Int)).map V.int)) (by rw[ya,E5.1];exact yp ok.e '$') (λD hD=>#[jh (Same.refl H) hD,hD,jc,rfl]) (λD i ys H' #[s1,h1,h2,h3]=>#[h2,by rw[h3,ya,ya,yI];exact Wf _ _,jg.of (s1 _ _ he)]) ?_ ?_]
 ·rintro D i v ys H1 Qy Qn hv ⟨s1,hD,eD,rfl⟩ hy hn;obtain⟨b,eb,rfl⟩:=jS hv;have hi:i<S.es.length:=by rw[<-E5.1];exact (yc.mp eb).1
  have em:=yb hi;obtain⟨qs,e1,e2⟩:=E5.2 i b _ eb em;refine#[#[_,rfl,rfl],JI #[_,rfl,b,_,rfl,.inl (jg.of (s1 _ _ e1)),hy _ _ eD #[jM s1 hD,hD,jc,?_]]];have lq:qs.length=S.es[i].length:=by have:=e2.1;rwa [ya] at this
  rw[jC em,yf,yf,ya,lq]
  rfl
 ·rintro D ys H1 hD ⟨s1,_,eD,rfl⟩;rw[ya,E5.1,jN rfl] at eD;exact q D H1 s1 hD eD
theorem gA (k:Int):∀l:List Int,ar (.int k) (l.map V.int)=decide (k∈l)
 | []=>rfl
 | a::l=>by
  show (Z1 (.int a) (.int k)||ar (.int k) (l.map V.int))=_;rw[gA k l,show Z1 (.int a) (.int k)=decide (a=k) from rfl];by_cases h:a=k
  ·simp [h]
  ·simp [h,yZ h]
def u4 (held:List Int) (n:Nat):Int:=if (n:Int)∈held then (held.idxOf (n:Int):Int)+1 else 0
def ao (x:Str) (m h:Int):Uf.α:=mK x m h
def j9 (hs:List (Str×Nat)) (held:List Int):List Uf.α:=hs.zipIdx.map λx=>ao x.1.1 x.1.2 (u4 held x.2)
theorem Jy (hs:List (Str×Nat)) (held:List Int):(j9 hs held).length=hs.length:=by unfold j9;rw[ya,Q6]
theorem NL (hs:List (Str×Nat)) (x:Str×Nat) (held:List Int):j9 (hs++[x]) held=j9 hs held++[ao x.1 x.2 (u4 held hs.length)]:=by
 unfold j9;rw[List.zipIdx_append,yf];simp
def tz (C:Addr):Sp:=λvs H Q _=>E4 λ(o hl:Addr) (S:uu) (held:List Int)=>A6 (vs=[.ref o,.ref hl]) (uX H C o S) S.ok (H hl=some (.lst (held.map V.int))) (held.length<=100) (∀D bs H',Same H H'->H D=none->H' D=some (.lst (bs.map V.ref))->Uk Uf.M H' bs (j9 S.hs held)->Q (.ref D) H')
theorem mt (T:Txt K mg t):j0 P w K mg base 1 "held_parts" ["sketch","held"] (tz t.jT):=by
 refine T.mW.ok ["sketch","held","found","number","head","pair"] ?_;rintro _ H Q E ⟨o,hl,S,held,rfl,sk,ok,hh,lh,q⟩;refine#[rfl,λAZ A outer s hr=>#[_,(jf (ju 2 (Jb jb)) (jf (j7 jQ (uL rfl rfl T.Jw (ja (ud (pv 0)) jb)) (Jv (jt (jl 3) (jt (jl 4) Jc))) (jf (ju 5 (lc (Jq eG (pv 3) (pv 1)) (jK Uy (Jm PySem.F.plainAttrs_list PySem.F.slot_list_index PySem.F.type_list_index VC (pv 1) (ja (pv 3) jb)) jk) jk)) (jj (j6 (Jm PySem.F.plainAttrs_list PySem.F.slot_list_append PySem.F.type_list_append j3 (pv 2) (ja (jK qv (pv 4) (Jn (ja (pv 5) jb))) jb)))))) (jj (jH (pv 2))))),?_]];obtain⟨dx,Hs,wl,el,us,vs,ls,ho,e1,KA,_⟩:=sk.ex;refine JF (λ(D:Addr)=>[oR o,oR hl,oR D,none,none,none]) (λD H'=>A3 (Same H H') (H D=none) (H' D=some (.lst []))) (λB hB=>#[UY,λD hD=>hB D _ #[jh (Same.refl H) hD,hD,jc]]) ?_;rintro D H1 ⟨s1,hD,eD⟩;have lu:us.length=S.hs.length:=by have:=KA.1;rwa [ya] at this
 refine GR (λ(v3 v4 v5:Option V) (bs:AI)=>[oR o,oR hl,oR D,v3,v4,v5]) (λ_ _ _ bs H'=>A3 (Same H H') (H' D=some (.lst (bs.map V.ref))) (Uk Uf.M H' bs (j9 S.hs held))) (λB hB=>?_) ?_
 ·refine#[_,rfl,o,_,dx,_,.ref Hs,rfl,s1 _ _ ho,T.uB,T.VE,rfl,Hs,rfl,#[_,jg.of (s1 _ _ e1)],uC (xs:=us.map V.ref) (λi σ H'=>E4 λ(v3 v4 v5:Option V) (bs:AI)=>A4 (σ=[oR o,oR hl,oR D,v3,v4,v5]) (Same H H') (H' D=some (.lst (bs.map V.ref))) (Uk Uf.M H' bs (j9 (S.hs.take i) held))) #[_,_,_,[],rfl,s1,eD,.nil] (λi σ H' _ h=>by obtain⟨_,_,_,_,_,e,_⟩:=h;exact jg.of (e _ _ e1)) ?_ ?_]
  ·rintro i v p σ H2 hv hp ⟨v3,v4,v5,bs,rfl,s2,e2,N2⟩;obtain⟨u,eu,rfl⟩:=jS hv;have hi:i<S.hs.length:=by rw[<-lu];exact (yc.mp eu).1
   have em:=yb hi;have eh:=KA.2 i u (kH S.hs[i]) eu (by rw[ye,em];rfl)
   exists H3,s3,e3,H2,p,hp,.tup [.int (i:Int),.ref u]
   have Bb:=Same.trans s2 s3;refine#[p,_,rfl,jB.of e3,rfl,_,_,rfl,_,_,rfl,rfl,?_];refine J0 [oR o,oR hl,oR D,some (.int i),oR u,some (.int (u4 held i))] (λH'=>H'=H3) (λB hB=>#[_,rfl,_,rfl,hl,_,rfl,.inl (jg.of (Bb _ _ hh)),rfl,QC.mpr λv hv=>by obtain⟨n,_,rfl⟩:=yi.mp hv;rfl,_,rfl,km (λz=>?_) λz=>?_]) ?_
   ·have z:ar (.int i) (held.map V.int)=true:=z;rw[gA,decide_eq_true_eq] at z;refine#[_,rfl,.inl #[rfl,_,jg.of (Bb _ _ hh)],_,rfl,hl,held,i,rfl,rfl,Bb _ _ hh,by omega,z,_,1,rfl,rfl,?_];have:=hB H3 rfl;rwa [show u4 held i=(held.idxOf (i:Int):Int)+1 from if_pos z] at this
   ·have z:ar (.int i) (held.map V.int)=false:=z;rw[gA,decide_eq_false_iff_not] at z;have:=hB H3 rfl;rwa [show u4 held i=0 from if_neg z] at this
   rintro H3 rfl;refine#[_,rfl,.inl #[rfl,_,jg.of (s3 _ _ e2)],_,rfl,_,rfl,s0,λu5 Ll=>?_]
   exists H5,s5,e5,H3,u5,Ll,.tup [.int (u4 held i)]
   refine#[u,u5,_,_,rfl,rfl,jB.of (s5 _ _ (Bb _ _ eh)),jB.of e5,(λz=>nomatch z),(by show 3<=sizeLine;decide),(λz=>nomatch z),λ_ u6 Lm=>?_]
   exists H6,s6,e6,H5,u6,Lm,.tup ((kH S.hs[i]).map kV++[.int (u4 held i)])
   have Ey:=Same.trans s3 (Same.trans s5 s6);have BE:=Ey _ _ e2;have lb:bs.length=i:=by
    rw[(uE N2).1,Jy,yI,Qq (y4 hi)]
   have:=ok.h;refine#[D,_,_,rfl,rfl,BE,by rw[ya,lb];exact yK (show _<=8 by omega) '$',_,_,_,bs++[u6],rfl,jM (Same.trans s2 Ey) hD,by rw[jc,yf];rfl,?_];rw[jC em,NL,yI,Qq (y4 hi)];have v6:Uf.M.V_ H6 (.ref u6) (ao S.hs[i].1 S.hs[i].2 (u4 held i)):=#[u6,_,rfl,e6,.cons rfl (.cons rfl (.cons rfl .nil))];exact ((N2.mono λ_ _ e=>Ey _ _ e).app (.cons v6 .nil)).mono λq ys e=>by rw[jw (jX e BE)];exact e
  ·rintro σ H2 ⟨v3,v4,v5,bs,rfl,s2,e2,N2⟩;rw[ya,lu,jN rfl] at N2;exact hB _ _ _ bs _ #[s2,e2,N2]
 rintro v3 v4 v5 bs H2 ⟨s2,e2,N2⟩;exact#[_,rfl,q D bs H2 s2 hD e2 N2]
variable {P:AS}{w:World}{K:AB}{mg:AE}{base:Heap}{t:Adr}
def nU (m:Int) (l:List Int):uU.α:=mL m l
def jZ (pm:List Int) (ws:List (List Nat)) (nm:List Int):List uU.α:=(pm.zip ws).map λx=>nU x.1 (x.2.map λn=>nm.getD n 0)
theorem ia {α β:Type}{xs:List α}{ys:List β}{i:Nat}{x:α}{y:β} (h:(xs.zip ys)[i]?=some (x,y)):xs[i]?=some x/\ys[i]?=some y:=Qj.mp h
theorem NV (l:List Int):Paired (λ(x:V) (k:Key)=>x=kV k) (l.map V.int) (l.map Sum.inl):=by
 induction l with
 | nil=>exact .nil
 | cons a l ih=>exact .cons rfl ih
def re (C:Addr):Sp:=λvs H Q _=>E6 λ(o pa na:Addr) (S:uu) (pm nm:List Int)=>A7 (vs=[.ref o,.ref pa,.ref na]) (uX H C o S) S.ok (H pa=some (.lst (pm.map V.int))) (H na=some (.lst (nm.map V.int))) (pm.length=S.hs.length/\nm.length=S.es.length) (∀D bs H',Same H H'->H D=none->H' D=some (.lst (bs.map V.ref))->Uk uU.M H' bs (jZ pm S.ws nm)->Q (.ref D) H')
theorem kM (T:Txt K mg t):j0 P w K mg base 1 "wired_parts" ["sketch","part_marks","net_marks"] (re t.jT):=by
 refine T.K3.ok ["sketch","part_marks","net_marks","found","mark","wires"] ?_;rintro _ H Q E ⟨o,pa,na,S,pm,nm,rfl,sk,ok,hp,hn,⟨lp,ln⟩,q⟩;refine#[rfl,λAZ A outer s hr=>#[_,(jf (ju 3 (Jb jb)) (jf (j7 jQ (fc rfl rfl T.oV (ja (pv 1) (ja (ud (pv 0)) jb))) (Jv (jt (jl 4) (jt (jl 5) Jc))) (jj (j6 (Jm PySem.F.plainAttrs_list PySem.F.slot_list_append PySem.F.type_list_append j3 (pv 3) (ja (Jn (ja (pv 4) (ja (j4 zR (by rfl) T.vU vS (ja (Jg (own:=["net"]) (uO (cl:=[("net_marks",_)])) (jO (pv 5)) (λ_ _ _ _ _=>jl 6) (λ_ _ _ _ _=>Jd) (λ_ _ _ _ _=>(jp jF (pv 2) (pv 6)))) jb)) jb))) jb))))) (jj (jH (pv 3))))),?_]];obtain⟨dx,Hs,wl,el,us,vs,ls,ho,_,_,hw,WA,_⟩:=sk.ex;refine JF (λ(D:Addr)=>[oR o,oR pa,oR na,oR D,none,none]) (λD H'=>A3 (Same H H') (H D=none) (H' D=some (.lst []))) (λB hB=>#[UY,λD hD=>hB D _ #[jh (Same.refl H) hD,hD,jc]]) ?_;rintro D H1 ⟨s1,hD,eD⟩;have lz:((pm.map V.int).zip (vs.map V.ref)).length=(pm.zip S.ws).length:=by rw[yV,yV,ya,ya,WA.1]
 refine zU (λ(v4 v5:Option V) (bs:AI)=>[oR o,oR pa,oR na,oR D,v4,v5]) (λ_ _ bs H'=>A3 (Same H H') (H' D=some (.lst (bs.map V.ref))) (Uk uU.M H' bs (jZ pm S.ws nm))) (λB hB=>?_) ?_
 ·refine#[_,rfl,_,rfl,o,_,dx,_,.ref wl,rfl,s1 _ _ ho,T.uB,T.U8,rfl,pa,wl,rfl,#[_,jg.of (s1 _ _ hp)],#[_,jg.of (s1 _ _ hw)],ai (xs:=pm.map V.int) (ys:=vs.map V.ref) (λi σ H'=>E3 λ(v4 v5:Option V) (bs:AI)=>A4 (σ=[oR o,oR pa,oR na,oR D,v4,v5]) (Same H H') (H' D=some (.lst (bs.map V.ref))) (Uk uU.M H' bs (((pm.zip S.ws).take i).map λx=>nU x.1 (x.2.map λn=>nm.getD n 0)))) #[_,_,[],rfl,s1,eD,.nil] (λi σ H' _ h=>by obtain⟨_,_,_,_,e,_⟩:=h;exact#[jg.of (e _ _ hp),jg.of (e _ _ hw)]) ?_ ?_]
  ·rintro i x y p σ H2 hz Cm ⟨v4,v5,bs,rfl,s2,e2,N2⟩;obtain⟨hx,hy⟩:=ia hz;rw[ye] at hx hy;obtain⟨m,em,rfl⟩:=yz.mp hx;obtain⟨v,ev,rfl⟩:=yz.mp hy;have hi:i<S.ws.length:=by rw[<-WA.1];exact (yc.mp ev).1
   have ew:=yb hi;have hv:=WA.2 i v _ ev ew;have wk:=ok.wl _ (yB hi);have ez:(pm.zip S.ws)[i]?=some (m,S.ws[i]):=Qj.mpr #[em,ew];generalize S.ws[i]=l at hv wk ez
   exists H3,s3,e3,H2,p,Cm,.tup [.int m,.ref v]
   have Bb:=Same.trans s2 s3;have FR:=Bb _ _ hv;have Si:=Bb _ _ hn;refine#[p,_,rfl,jB.of e3,rfl,_,_,rfl,_,_,rfl,rfl,?_];refine#[_,rfl,.inl #[rfl,_,jg.of (s3 _ _ e2)],_,rfl,_,rfl,v,rfl,#[_,jg.of FR],Ut (xs:=l.map λn=>V.int (n:Nat)) (λ_=>true) (λx=>match x with|.int n=>.int (nm.getD n.toNat 0)|_=>.non) (jg.of FR) (by rw[ya];exact yp wk.1 '$') (λx hx H' Qy Qn s' hy _=>?_) λD4 DW=>?_]
   ·obtain⟨n,Dt,rfl⟩:=yi.mp hx;have AX:n<nm.length:=by have:=wk.2 n Dt;omega
    refine#[#[_,rfl,rfl],JI #[_,rfl,_,rfl,na,_,n,.int (nm.getD n 0),rfl,rfl,jg.of (s' _ _ Si),Je (by rw[ye,yl,yb AX];rfl),hy rfl]]
   have e4:upd H3 D4 (.lst (((l.map λn=>V.int (n:Nat)).filter λ_=>true).map λx=>match x with|.int n=>.int (nm.getD n.toNat 0)|_=>.non)) D4=some (.lst ((l.map λn=>nm.getD n 0).map V.int)):=by
    rw[jc,Qz.mpr (λ_ _=>rfl),yq,yq];rfl
   have s4:=jh (o:=.lst (((l.map λn=>V.int (n:Nat)).filter λ_=>true).map λx=>match x with|.int n=>.int (nm.getD n.toNat 0)|_=>.non)) (Same.refl H3) DW;generalize upd H3 D4 (.lst (((l.map λn=>V.int (n:Nat)).filter λ_=>true).map λx=>match x with|.int n=>.int (nm.getD n.toNat 0)|_=>.non))=H4 at s4 e4;refine#[D4,_,rfl,.inl #[jg.of e4,λt5 Ln=>?_]]
   exists H5,s5,e5,H4,t5,Ln,.tup ((l.map λn=>nm.getD n 0).map V.int)
   refine#[Uz,λt6 Lo=>?_]
   exists H6,s6,e6,H5,t6,Lo,.tup [.int m,.ref t5]
   have Ey:=Same.trans s3 (Same.trans s4 (Same.trans s5 s6));have BE:=Ey _ _ e2;have lb:bs.length<=8:=by
    rw[(uE N2).1,ya,yI,yV];have:=ok.h;omega
   refine#[D,_,_,rfl,rfl,BE,by rw[ya];exact yK lb '$',_,_,bs++[t6],rfl,jM (Same.trans s2 Ey) hD,by rw[jc,yf];rfl,?_];rw[jC ez,yf];have v6:uU.M.V_ H6 (.ref t6) (nU m (l.map λn=>nm.getD n 0)):=#[t6,_,rfl,e6,.cons rfl (.cons #[t5,_,rfl,s6 _ _ e5,NV _] .nil)];exact ((N2.mono λ_ _ e=>Ey _ _ e).app (.cons v6 .nil)).mono λq ys e=>by rw[jw (jX e BE)];exact e
  ·rintro σ H2 ⟨v4,v5,bs,rfl,s2,e2,N2⟩;rw[lz,jN rfl] at N2;exact hB _ _ bs _ #[s2,e2,N2]
 rintro v4 v5 bs H2 ⟨s2,e2,N2⟩;exact#[_,rfl,q D bs H2 s2 hD e2 N2]
variable {P:AS}{w:World}{K:AB}{mg:AE}{base:Heap}{t:Adr}
def kI (p:Int×Int):List Key:=[.inl p.1,.inl p.2]
theorem se {a b:Int×Int} (h:kI a=kI b):a=b:=by
 unfold kI at h;injection h with h1 h
 injection h with h2 _
 exact Prod.ext (Sum.inl.inj h1) (Sum.inl.inj h2)
def vQ (m:AD):Prop:=(m.map kI).Pairwise λa b=>lx b a=false
noncomputable def VS (l:AD):List (Int×Int):=by classical exact if h:∃m:List (Int×Int),m.Perm l/\vQ m then h.choose else l
theorem ZT {m l:AD} (p:m.Perm l) (s:vQ m):m=VS l:=by
 have h:∃m:List (Int×Int),m.Perm l/\vQ m:=#[m,p,s];unfold VS;rw[dif_pos h];have c:=h.choose_spec;exact (Qt λ_ _ e=>se e).mp (vI ((p.trans c.1.symm).map kI) s c.2)
theorem dC (a:Int×Int):∀m:List (Int×Int),vQ m->∃m',m'.Perm (a::m)/\vQ m'
 | [],_=>#[[a],.refl _,List.pairwise_singleton ..]
 | b::m,h=>by
  obtain⟨h1,h2⟩:=List.pairwise_cons.mp (show (kI b::m.map kI).Pairwise _ from h);cases e:lx (kI b) (kI a) with
  | false =>
   refine#[a::b::m,.refl _,List.pairwise_cons.mpr #[λc hc=>?_,h]];rcases yr.mp (show c∈kI b::m.map kI from hc) with rfl|hc
   ·exact e
   ·cases e2:lx c (kI a) with
    | false=>rfl
    | true =>
     rcases dS (b:=kI b) e2 with z|z
     ·rw[h1 c hc] at z;cases z
     ·rw[e] at z;cases z
  | true =>
   obtain⟨m',p',s'⟩:=dC a m h2;refine#[b::m',(p'.cons b).trans (.swap a b m),List.pairwise_cons.mpr #[λc hc=>?_,s']];rcases yr.mp ((p'.map kI).mem_iff.mp hc) with rfl|hc
   ·cases e2:lx (kI a) (kI b) with
    | false=>rfl
    | true=>have:=zB e2 e;rw[Gz] at this;cases this
   ·exact h1 c hc
theorem Nd:∀l:List (Int×Int),∃m:List (Int×Int),m.Perm l/\vQ m
 | []=>#[[],.refl _,List.Pairwise.nil]
 | a::l=>by
  obtain⟨m,p,h⟩:=Nd l;obtain⟨m',p',h'⟩:=dC a m h;exact#[m',p'.trans (p.cons a),h']
theorem aS (l:AD):(VS l).Perm l:=by
 obtain⟨m,p,h⟩:=Nd l;rw[<-ZT p h];exact p
theorem KO {l:AD}:VS l=VS l'↔l.Perm l':=by
 refine#[λe=>(aS l).symm.trans (e▸aS l'),λp=>?_];obtain⟨m,h1,h2⟩:=Nd l;rw[<-ZT h1 h2,<-ZT (h1.trans p) h2]
theorem uD (C:KeyAt H ps ks) {p:Addr} {k:List Key} (h:H p=some (.tup (k.map kV))):KeyAt H (ps++[p]) (ks++[k]):=by
 refine#[by rw[yj,yj,C.1];rfl,λi q c h1 h2=>?_];have la:=C.1;by_cases hi:i<ps.length
 ·rw[yC hi] at h1;rw[yC '!'] at h2;exact C.2 i q c h1 h2
 ·rw[yG '!'] at h1;rw[yG '!',<-la] at h2;have z:i - ps.length=0:=by have:=(yc.mp h1).1;simp at this;omega
  rw[z] at h1 h2;cases h1;cases h2;exact h
theorem _root_.L2.KeyAt.wr (C:KeyAt H ps ks) {o:HO} (e:H D=some (.lst zs)):KeyAt (upd H D o) ps ks:=#[C.1,λi b k h1 h2=>jq (jX (C.2 i b k h1 h2) e) (C.2 i b k h1 h2)]
def nr (m:Int) (l:AD):UB.α:=b9 m l
noncomputable def Jk (nm:List Int) (es:List (List (Nat×Nat))) (pm:List Int):List UB.α:=(nm.zip es).map λx=>nr x.1 (VS (x.2.map λp=>(pm.getD p.1 0,(p.2:Int))))
theorem Z8 {H:Hp}:∀{us:AI} {m:AD},KeyAt H us (m.map kI)->Paired (KI.V_ H) (us.map V.ref) (U6 m)
 | [],[],_=>.nil
 | [],_::_,h=>by cases h.1
 | _::_,[],h=>by cases h.1
 | u::us,p::m,h=>.cons #[u,_,rfl,h.2 0 u (kI p) rfl rfl,.cons rfl (.cons rfl .nil)] (Z8 (us:=us) (m:=m) #[Nat.succ.inj h.1,λi b k h1 h2=>h.2 (i+1) b k h1 h2])
def wK (C:Addr):Sp:=λvs H Q _=>E6 λ(o pa na:Addr) (S:uu) (pm nm:List Int)=>A7 (vs=[.ref o,.ref pa,.ref na]) (uX H C o S) S.ok (H pa=some (.lst (pm.map V.int))) (H na=some (.lst (nm.map V.int))) (pm.length=S.hs.length/\nm.length=S.es.length) (∀D bs H',Same H H'->H D=none->H' D=some (.lst (bs.map V.ref))->Uk UB.M H' bs (Jk nm S.es pm)->Q (.ref D) H')
theorem kG (T:Txt K mg t):j0 P w K mg base 1 "joined_nets" ["sketch","part_marks","net_marks"] (wK t.jT):=by
 refine T.KU.ok ["sketch","part_marks","net_marks","found","mark","ends"] ?_;rintro _ H Q E ⟨o,pa,na,S,pm,nm,rfl,sk,ok,hp,hn,⟨lp,ln⟩,q⟩;refine#[rfl,λAZ A outer s hr=>#[_,(jf (ju 3 (Jb jb)) (jf (j7 jQ (fc rfl rfl T.oV (ja (pv 2) (ja (ud (pv 0)) jb))) (Jv (jt (jl 4) (jt (jl 5) Jc))) (jj (j6 (Jm PySem.F.plainAttrs_list PySem.F.slot_list_append PySem.F.type_list_append j3 (pv 3) (ja (Jn (ja (pv 4) (ja (j4 zR (by rfl) T.vU vS (ja (jx U4 (by rfl) T.uK uI (ja (Jg (own:=["part","pin"]) (uO (cl:=[("part_marks",_)])) (jO (pv 5)) (λ_ _ _ _ _=>Jv (n:=2) (jt (jl 6) (jt (jl 7) Jc))) (λ_ _ _ _ _=>Jd) (λ_ _ _ _ _=>(Jn (ja (jp jF (pv 1) (pv 6)) (ja (pv 7) jb))))) jb)) jb)) jb))) jb))))) (jj (jH (pv 3))))),?_]];obtain⟨dx,Hs,wl,el,us,vs,ls,ho,_,_,_,_,he,EA⟩:=sk.ex;refine JF (λ(D:Addr)=>[oR o,oR pa,oR na,oR D,none,none]) (λD H'=>A3 (Same H H') (H D=none) (H' D=some (.lst []))) (λB hB=>#[UY,λD hD=>hB D _ #[jh (Same.refl H) hD,hD,jc]]) ?_;rintro D H1 ⟨s1,hD,eD⟩;have lz:((nm.map V.int).zip (ls.map V.ref)).length=(nm.zip S.es).length:=by rw[yV,yV,ya,ya,EA.1]
 refine zU (λ(v4 v5:Option V) (bs:AI)=>[oR o,oR pa,oR na,oR D,v4,v5]) (λ_ _ bs H'=>A3 (Same H H') (H' D=some (.lst (bs.map V.ref))) (Uk UB.M H' bs (Jk nm S.es pm))) (λB hB=>?_) ?_
 ·refine#[_,rfl,_,rfl,o,_,dx,_,.ref el,rfl,s1 _ _ ho,T.uB,T.UA,rfl,na,el,rfl,#[_,jg.of (s1 _ _ hn)],#[_,jg.of (s1 _ _ he)],ai (xs:=nm.map V.int) (ys:=ls.map V.ref) (λi σ H'=>E3 λ(v4 v5:Option V) (bs:AI)=>A4 (σ=[oR o,oR pa,oR na,oR D,v4,v5]) (Same H H') (H' D=some (.lst (bs.map V.ref))) (Uk UB.M H' bs (((nm.zip S.es).take i).map λx=>nr x.1 (VS (x.2.map λp=>(pm.getD p.1 0,(p.2:Int))))))) #[_,_,[],rfl,s1,eD,.nil] (λi σ H' _ h=>by obtain⟨_,_,_,_,e,_⟩:=h;exact#[jg.of (e _ _ hn),jg.of (e _ _ he)]) ?_ ?_]
  ·rintro i x y p σ H2 hz Cm ⟨v4,v5,bs,rfl,s2,e2,N2⟩;obtain⟨hx,hy⟩:=ia hz;rw[ye] at hx hy;obtain⟨m,em,rfl⟩:=yz.mp hx;obtain⟨v,ev,rfl⟩:=yz.mp hy;have hi:i<S.es.length:=by rw[<-EA.1];exact (yc.mp ev).1
   have ew:=yb hi;obtain⟨ts,hv,KA⟩:=EA.2 i v _ ev ew;have wk:=ok.el _ (yB hi);have ez:(nm.zip S.es)[i]?=some (m,S.es[i]):=Qj.mpr #[em,ew];generalize S.es[i]=l at hv wk ez KA;have lt:ts.length=l.length:=by have:=KA.1;rwa [ya] at this
   exists H3,s3,e3,H2,p,Cm,.tup [.int m,.ref v]
   have Bb:=Same.trans s2 s3;have FR:=Bb _ _ hv;have Sj:=Bb _ _ hp;refine#[p,_,rfl,jB.of e3,rfl,_,_,rfl,_,_,rfl,rfl,?_];refine#[_,rfl,.inl #[rfl,_,jg.of (s3 _ _ e2)],_,rfl,_,rfl,v,rfl,#[_,jg.of FR],uh (xs:=ts.map V.ref) (λD4 j ys H'=>A4 (Same H3 H') (H3 D4=none) (H' D4=some (.lst ys)) (∃rs:List Addr,ys=rs.map V.ref/\KeyAt H' rs (((l.take j).map λp=>(pm.getD p.1 0,(p.2:Int))).map kI))) (by rw[ya,lt];exact yp (y4 wk.1) '$') (λD4 DW=>#[jh (Same.refl H3) DW,DW,jc,[],rfl,rfl,λi b k h=>nomatch h]) (λD4 j ys H' #[s1,h1,h2,rs,h3,h4]=>#[h2,by rw[h3,ya,h4.1,ya,ya,yI];exact Wf _ _,jg.of (s1 _ _ FR)]) ?_ ?_]
   ·rintro D4 j x ys H4 Qy Qn hx ⟨s4,DW,Ht,rs,rfl,KR⟩ hy hn;obtain⟨tb,FT,rfl⟩:=jS hx;have hj:j<l.length:=by rw[<-lt];exact (yc.mp FT).1
    have el:=yb hj;have tt:=s4 _ _ (Bb _ _ (KA.2 j tb (kE l[j]) FT (by rw[ye,el];rfl)));have AX:l[j].1<pm.length:=by have:=wk.2 _ (yB hj);omega
    refine#[tb,_,rfl,jB.of tt,rfl,_,_,rfl,_,_,rfl,rfl,#[_,rfl,rfl],JI #[_,rfl,_,rfl,pa,_,l[j].1,.int (pm.getD l[j].1 0),rfl,rfl,jg.of (s4 _ _ Sj),Je (by rw[ye,yl,yb AX];rfl),_,rfl,Uz,λt5 Ln=>?_]];have s5:=jh (o:=.tup [.int (pm.getD l[j].1 0),.int l[j].2]) (Same.refl H4) Ln;have e5:upd H4 t5 (.tup [.int (pm.getD l[j].1 0),.int l[j].2]) t5=some (.tup ((kI (pm.getD l[j].1 0,(l[j].2:Int))).map kV)):=jc;refine hy _ _ (s5 _ _ Ht) #[jM (Same.trans s4 s5) DW,DW,jc,rs++[t5],by rw[yf];rfl,?_];rw[jC el,yf,yf];exact (uD (KeyAt.mono' KR s5) e5).wr (s5 _ _ Ht)
   ·rintro D4 ys H4 DW ⟨s4,_,Ht,rs,rfl,KR⟩;rw[ya,lt,jN rfl] at KR;refine#[D4,rs,_,sd (kI (0,0)),rfl,Ht,KR,λk hk=>by obtain⟨p,_,rfl⟩:=yi.mp hk;rfl,(λz=>nomatch z),by rw[ya,ya];exact wk.1,λl5 B8 By Dj Sk Sl Sn=>?_];obtain⟨ms,So,rfl⟩:=STb.perm_map Sl _ rfl;obtain rfl:=ZT So Sn
    exists H5,s5,e5,H4,l5,Dj,.lst (B8.map V.ref)
    refine#[l5,_,rfl,.inl #[jg.of e5,λt6 Lo=>?_]]
    exists H6,s6,e6,H5,t6,Lo,.tup (B8.map V.ref)
    refine#[Uz,λt7 Sq=>?_]
    exists H7,s7,e7,H6,t7,Sq,.tup [.int m,.ref t6]
    have Hu:=Same.trans s5 (Same.trans s6 s7);have Lp:=Same.trans s3 (Same.trans s4 Hu);have O1:=Lp _ _ e2;have lb:bs.length<=24:=by
     rw[(uE N2).1,ya,yI,yV];have:=ok.e;omega
    refine#[D,_,_,rfl,rfl,O1,by rw[ya];exact yK lb '$',_,_,bs++[t7],rfl,jM (Same.trans s2 Lp) hD,by rw[jc,yf];rfl,?_];rw[jC ez,yf];have v7:UB.M.V_ H7 (.ref t7) (nr m (VS (l.map λp=>(pm.getD p.1 0,(p.2:Int))))):=#[t7,_,rfl,e7,.cons rfl (.cons #[t6,_,rfl,s7 _ _ e6,Z8 (KeyAt.mono' Sk Hu)] .nil)];exact ((N2.mono λ_ _ e=>Lp _ _ e).app (.cons v7 .nil)).mono λq ys e=>by rw[jw (jX e O1)];exact e
  ·rintro σ H2 ⟨v4,v5,bs,rfl,s2,e2,N2⟩;rw[lz,jN rfl] at N2;exact hB _ _ bs _ #[s2,e2,N2]
 rintro v4 v5 bs H2 ⟨s2,e2,N2⟩;exact#[_,rfl,q D bs H2 s2 hD e2 N2]
variable {P:AS}{w:World}{K:AB}{mg:AE}{base:Heap}{t:Adr}
structure Ji where
 pp:List Int
 pq:List Int
 np:List Int
 nq:List Int
def z9 (H:Hp) (R:Addr) (ms ns:List Int):Prop:=∃a b:Addr,A3 (H R=some (.lst [.ref a,.ref b])) (H a=some (.lst (ms.map V.int))) (H b=some (.lst (ns.map V.int)))
theorem z9.same {H':Hp} (x:z9 H R ms ns) (s:Same H H'):z9 H' R ms ns:=let ⟨a,b,e1,e2,e3⟩:=x;#[a,b,s _ _ e1,s _ _ e2,s _ _ e3]
def U2 (H:Hp) (d:Addr) (M:Ji):Prop:=∃R1 R2:Addr,A3 (H d=some (.dK [(.inr "part",.ref R1),(.inr "net",.ref R2)])) (z9 H R1 M.pp M.pq) (z9 H R2 M.np M.nq)
theorem U2.same {H':Hp}{M:Ji} (x:U2 H d M) (s:Same H H'):U2 H' d M:=let ⟨a,b,e1,e2,e3⟩:=x;#[a,b,s _ _ e1,e2.same s,e3.same s]
def Rk {α:Type} (ks js:List α) (ms ns:List Int):Prop:=∃rk:α->Nat,A4 (∀a∈ks++js,∀b∈ks++js,rk a=rk b->a=b) (∀a∈ks++js,rk a<60) (ms=ks.map λk=>(rk k:Int)) (ns=js.map λk=>(rk k:Int))
def U5 (S:uu):List Int:=S.es.map λl=>(l.length:Int)
def Vt (S1 S2:uu) (held:AD) (M:Ji):Prop:=Rk (j9 S1.hs (held.map (·.1))) (j9 S2.hs (held.map (·.2))) M.pp M.pq/\Rk (U5 S1) (U5 S2) M.np M.nq
def Uo (S1 S2:uu) (M M':Ji):Prop:=Rk (jZ M.pp S1.ws M.np) (jZ M.pq S2.ws M.nq) M'.pp M'.pq/\Rk (Jk M.np S1.es M.pp) (Jk M.nq S2.es M.pq) M'.np M'.nq
def wP:Sp:=λvs H Q _=>E3 λ(R:Addr) (ms ns:List Int)=>A5 (vs=[.ref R]) (z9 H R ms ns) (∀m∈ms,m∈ns) (ms.length<=100/\ns.length<=100) (∀D H',Same H H'->H D=none->H' D=some (.lst ((ms.map λm=>(ns.idxOf m:Int)).map V.int))->Q (.ref D) H')
theorem NT (T:Txt K mg t):j0 P w K mg base 1 "renaming" ["marks"] wP:=by
 refine T.be.ok ["marks"] ?_;rintro _ H Q E ⟨R,ms,ns,rfl,⟨a,b,e1,e2,e3⟩,hm,⟨l1,l2⟩,q⟩;refine#[rfl,λAZ A outer s hr=>#[_,(jj (jH (Jg (own:=["mark"]) (uO (cl:=[("marks",_)])) (jO (jp jF (pv 0) jk)) (λ_ _ _ _ _=>jl 1) (λ_ _ _ _ _=>Jd) (λ_ _ _ _ _=>(Jm PySem.F.plainAttrs_list PySem.F.slot_list_index PySem.F.type_list_index VC (jp jF (pv 0) jk) (ja (pv 1) jb)))))),?_]];refine#[_,rfl,R,_,0,.ref a,rfl,rfl,jg.of e1,rfl,a,rfl,#[_,jg.of e2],Ut (xs:=ms.map V.int) (λ_=>true) (λx=>match x with|.int m=>.int (ns.idxOf m:Nat)|_=>.non) (jg.of e2) (by rw[ya];exact yp l1 '$') (λx hx H' Qy Qn s' hy _=>?_) λD hD=>?_]
 ·obtain⟨m,De,rfl⟩:=yi.mp hx;exact#[#[_,rfl,rfl],JI #[_,rfl,R,_,1,.ref b,rfl,rfl,jg.of (s' _ _ e1),rfl,.inl #[rfl,_,jg.of (s' _ _ e3)],_,rfl,b,ns,m,rfl,rfl,s' _ _ e3,by omega,hm m De,hy rfl]]
 ·exact q D _ (jh (Same.refl H) hD) hD (by rw[jc,Qz.mpr (λ_ _=>rfl),yq,yq];rfl)
variable {P:AS}{w:World}{K:AB}{mg:AE}{base:Heap}{t:Adr}
def zP (T:TK) (pl nl:Addr) (H:Hp) (pa:AI) (ks:List (List T.α)):Prop:=Paired (λa x=>a≠pl/\a≠nl/\∃bs:List Addr,H a=some (.lst (bs.map V.ref))/\Uk T.M H bs x) pa ks
def N9 (pl nl:Addr) (H:Hp) (pa:AI) (ks:List (List Int)):Prop:=Paired (λa x=>a≠pl/\a≠nl/\H a=some (.lst (x.map V.int))) pa ks
theorem zP.mono {H':Hp}{ks:List (List T.α)} (x:zP T pl nl H pa ks) (k:∀b u,b≠pl->b≠nl->H b=some u->H' b=some u) (hp:∀ys,H pl≠some (.tup ys)) (hn:∀ys,H nl≠some (.tup ys)):zP T pl nl H' pa ks :=
 ug (λa x h=>let ⟨h1,h2,bs,e,n⟩:=h;#[h1,h2,bs,k _ _ h1 h2 e,n.mono λp xs e=>k _ _ (λz=>hp _ (z▸e)) (λz=>hn _ (z▸e)) e]) x
theorem N9.mono {H':Hp}{ks:List (List Int)} (x:N9 pl nl H pa ks) (k:∀b u,b≠pl->b≠nl->H b=some u->H' b=some u):N9 pl nl H' pa ks :=
 ug (λa x h=>let ⟨h1,h2,e⟩:=h;#[h1,h2,k _ _ h1 h2 e]) x
theorem vP {α β:Type}{F:α->β->Prop}{l:List α}{x y:β} (h:Paired F l [x,y]):∃a b,l=[a,b]/\F a x/\F b y:=by
 cases h with
 | cons h1 t=>cases t with
  | cons h2 t=>cases t;exact#[_,_,rfl,h1,h2]
theorem Z2 {hs:List (Str×Nat)}{held:List Int}{k:Uf.α} (h:k∈j9 hs held):Uf.good k:=by
 unfold j9 at h;obtain⟨x,_,rfl⟩:=yi.mp h;exact#[_,_,_,rfl]
theorem JD {α β:Type}{F:α->β->Prop}{l:List α}{m:List β} (h:Paired F l m):l.length=m.length:=Paired.length h
def qT (C:Addr):Sp:=λvs H Q _=>E8 λ(bo o1 o2 hl:Addr) (S1 S2:uu) (us:AI) (held:AD)=>A8 (vs=[.ref bo,.ref hl]) (H bo=some (.tup [.ref o1,.ref o2])) (uX H C o1 S1) (uX H C o2 S2) (S1.ok/\S2.ok) (H hl=some (.lst (us.map V.ref))) (KeyAt H us (held.map kI)/\held.length<=8) (∀d M H',Same H H'->H d=none->U2 H' d M->Vt S1 S2 held M->Q (.ref d) H')
theorem kF (T:Txt K mg t):j0 P w K mg base 3 "first_round" ["both","held"] (qT t.jT):=by
 refine T.KS.ok ["both","held","parts","nets","side","sketch"] ?_;rintro _ H Q E ⟨bo,o1,o2,hl,S1,S2,us,held,rfl,hb,k1,k2,⟨AY,A2⟩,hh,⟨KA,lh⟩,q⟩;refine#[rfl,λAZ A outer s hr=>#[_,(jf (ju 2 (Jb jb)) (jf (ju 3 (Jb jb)) (jf (j7 jQ (nO rfl rfl T.Jw (ja (pv 0) jb)) (Jv (jt (jl 4) (jt (jl 5) Jc))) (jf (j6 (Jm PySem.F.plainAttrs_list PySem.F.slot_list_append PySem.F.type_list_append j3 (pv 2) (ja (jo (mt T) (ja (pv 5) (ja (Jg (own:=["pair"]) (uO (cl:=[("side",_)])) (jO (pv 1)) (λ_ _ _ _ _=>jl 6) (λ_ _ _ _ _=>Jd) (λ_ _ _ _ _=>(jp jL (pv 6) (pv 4)))) jb))) jb))) (jj (j6 (Jm PySem.F.plainAttrs_list PySem.F.slot_list_append PySem.F.type_list_append j3 (pv 3) (ja (jo (mz T) (ja (pv 5) jb)) jb)))))) (jj (jH (aK (zJ JP (jo (KL T) (ja (pv 2) jb)) (zJ JP (jo (KL T) (ja (pv 3) jb)) aN)) rfl rfl '$' '$')))))),?_]];refine JF (λ(pl:Addr)=>[oR bo,oR hl,oR pl,none,none,none]) (λpl H'=>A3 (Same H H') (H pl=none) (H' pl=some (.lst []))) (λB hB=>#[UY,λD hD=>hB D _ #[jh (Same.refl H) hD,hD,jc]]) ?_;rintro pl H1 ⟨s1,Ba,e1⟩;refine JF (λ(nl:Addr)=>[oR bo,oR hl,oR pl,oR nl,none,none]) (λnl H'=>A4 (Same H H') (H nl=none/\pl≠nl) (H' nl=some (.lst [])) (H' pl=some (.lst []))) (λB hB=>#[UY,λD hD=>hB D _ #[jh s1 hD,#[Same.nn s1 hD,jy e1 hD],jc,jh (Same.refl H1) hD _ _ e1]]) ?_;rintro nl H2 ⟨s2,⟨B0,FU⟩,e2,Lq⟩;have lu:us.length=held.length:=by have:=KA.1;rwa [ya] at this
 refine GR (λ(v4 v5:Option V) (pa na:AI)=>[oR bo,oR hl,oR pl,oR nl,v4,v5]) (λ_ _ pa na H'=>A5 (Same H H') (H' pl=some (.lst (pa.map V.ref))) (H' nl=some (.lst (na.map V.ref))) (zP Uf pl nl H' pa [j9 S1.hs (held.map (·.1)),j9 S2.hs (held.map (·.2))]) (N9 pl nl H' na [U5 S1,U5 S2])) (λB hB=>?_) ?_
 ·refine#[_,rfl,bo,rfl,#[_,jB.of (s2 _ _ hb)],Ko (xs:=[.ref o1,.ref o2]) (λi σ H'=>E4 λ(v4 v5:Option V) (pa na:AI)=>A6 (σ=[oR bo,oR hl,oR pl,oR nl,v4,v5]) (Same H H') (H' pl=some (.lst (pa.map V.ref))) (H' nl=some (.lst (na.map V.ref))) (zP Uf pl nl H' pa ([j9 S1.hs (held.map (·.1)),j9 S2.hs (held.map (·.2))].take i)) (N9 pl nl H' na ([U5 S1,U5 S2].take i))) #[_,_,[],[],rfl,s2,Lq,e2,.nil,.nil] (λi σ H' _ h=>by obtain⟨_,_,_,_,_,e,_⟩:=h;exact jB.of (e _ _ hb)) ?_ ?_]
  ·rintro i x p σ H3 hx hp ⟨v4,v5,pa,na,rfl,s3,ep,en,LG,LI⟩;have:∃(o:Addr) (S:uu) (pr:Int×Int->Int),A7 (x=.ref o) (uX H t.jT o S) S.ok ([j9 S1.hs (held.map (·.1)),j9 S2.hs (held.map (·.2))][i]?=some (j9 S.hs (held.map pr))) ([U5 S1,U5 S2][i]?=some (U5 S)) (∀p:Int×Int,vL [V.int p.1,V.int p.2] (i:Int)=some (.int (pr p))) (i<2):=by
    match i,hx with
    | 0,hx=>cases hx;exact#[o1,S1,(·.1),rfl,k1,AY,rfl,rfl,λp=>Je (j:=0) rfl,by decide]
    | 1,hx=>cases hx;exact#[o2,S2,(·.2),rfl,k2,A2,rfl,rfl,λp=>Je (j:=1) rfl,by decide]
   obtain⟨o,S,pr,rfl,sk,ok,g1,g2,at_,i2⟩:=this
   exists H4,s4,e4,H3,p,hp,.tup [.int (i:Int),.ref o]
   have Bj:=Same.trans s3 s4;have Lr:pa.length<=2:=by rw[JD LG,yI];exact QZ _ _
   have Ls:na.length<=2:=by rw[JD LI,yI];exact QZ _ _
   refine#[p,_,rfl,jB.of e4,rfl,_,_,rfl,_,_,rfl,rfl,?_];refine JF (λ(l:Addr)=>[oR bo,oR hl,oR pl,oR nl,some (.int i),oR o]) (λl H'=>A5 (Same H H') (H' pl=some (.lst ((pa++[l]).map V.ref))) (H' nl=some (.lst (na.map V.ref))) (zP Uf pl nl H' (pa++[l]) ([j9 S1.hs (held.map (·.1)),j9 S2.hs (held.map (·.2))].take (i+1))) (N9 pl nl H' na ([U5 S1,U5 S2].take i))) (λB hB=>?_) ?_
   ·refine#[_,rfl,.inl #[rfl,_,jg.of (s4 _ _ ep)],_,rfl,_,rfl,hl,rfl,#[_,jg.of (Bj _ _ hh)],uh (xs:=us.map V.ref) (λD5 j ys H'=>A4 (Same H4 H') (H4 D5=none) (H' D5=some (.lst ys)) (ys=((held.take j).map pr).map V.int)) (by rw[ya,lu];exact yp lh '$') (λD5 EU=>#[jh (Same.refl H4) EU,EU,jc,rfl]) (λD5 j ys H' #[z1,z2,z3,z4]=>#[z3,by rw[z4,ya,ya,yI];exact Wf _ _,jg.of (z1 _ _ (Bj _ _ hh))]) ?_ ?_]
    ·rintro D5 j x ys H5 Qy Qn Ss ⟨s5,EU,Ew,rfl⟩ hy _;obtain⟨tb,FT,rfl⟩:=jS Ss;have hj:j<held.length:=by rw[<-lu];exact (yc.mp FT).1
     have ej:=yb hj;have tt:=s5 _ _ (Bj _ _ (KA.2 j tb (kI held[j]) FT (by rw[ye,ej];rfl)));refine#[#[_,rfl,rfl],JI #[_,rfl,_,rfl,tb,_,i,.int (pr held[j]),rfl,rfl,jB.of tt,at_ _,hy _ _ Ew #[jM s5 EU,EU,jc,by rw[jC ej,yf,yf];rfl]]]
    ·rintro D5 ys H5 EU ⟨s5,_,Ew,rfl⟩;rw[ya,lu,jN rfl] at Ew;have Di:=Same.trans Bj s5;have B1:=Same.trans s4 s5;refine#[o,D5,S,held.map pr,rfl,sk.same Di,ok,Ew,by rw[ya];omega,λD6 bs H6 s6 CN BE NA=>?_];have Bm:=Same.trans B1 s6;have DE:=Bm _ _ ep;have DX:=Bm _ _ en;refine#[pl,_,_,rfl,rfl,DE,by rw[ya];exact yK Lr '$',hB D6 _ #[jM (Same.trans s3 Bm) Ba,by rw[jc,yf];rfl,jq (yZ FU) DX,?_,LI.mono λb u n1 n2 e=>jq n1 (Bm _ _ e)]];rw[jC g1];have nD:D6≠pl/\D6≠nl:=#[yZ (jy (B1 _ _ ep) CN),yZ (jy (B1 _ _ en) CN)];refine uG (LG.mono (λb u n1 n2 e=>jq n1 (Bm _ _ e)) (λys z=>by rw[ep] at z;cases z) (λys z=>by rw[en] at z;cases z)) (.cons #[nD.1,nD.2,bs,jq nD.1 BE,NA.mono λq ys e=>jq (jX e DE) e] .nil)
   rintro l H5 ⟨s5,CO,Dm,Lu,Lv⟩;refine#[_,rfl,.inl #[rfl,_,jg.of Dm],_,rfl,o,S,rfl,sk.same s5,ok,λD6 H6 s6 CN BE=>?_];have DE:=s6 _ _ CO;have DX:=s6 _ _ Dm;have nD:D6≠pl/\D6≠nl:=#[yZ (jy CO CN),yZ (jy Dm CN)];refine#[nl,_,_,rfl,rfl,DX,by rw[ya];exact yK Ls '$',_,_,pa++[l],na++[D6],rfl,jM (Same.trans s5 s6) B0,jq FU DE,by rw[jc,yf];rfl,Lu.mono (λb u n1 n2 e=>jq n2 (s6 _ _ e)) (λys z=>by rw[CO] at z;cases z) (λys z=>by rw[Dm] at z;cases z),?_];rw[jC g2];exact uG (Lv.mono λb u n1 n2 e=>jq n2 (s6 _ _ e)) (.cons #[nD.1,nD.2,jq nD.2 BE] .nil)
  ·rintro σ H3 ⟨v4,v5,pa,na,rfl,s3,ep,en,LG,LI⟩;exact hB _ _ pa na _ #[s3,ep,en,LG,LI]
 rintro v4 v5 pa na H3 ⟨s3,ep,en,LG,LI⟩;obtain⟨a0,a1,rfl,⟨_,_,b0,f0,N0⟩,_,_,b1,f1,N1⟩:=vP LG;obtain⟨c0,c1,rfl,⟨_,_,g0⟩,_,_,g1⟩:=vP LI;have l1:=Jy S1.hs (held.map (·.1));have l2:=Jy S2.hs (held.map (·.2));have:=AY.h;have:=A2.h;have:=AY.e;have:=A2.e;refine λd hd=>?_
 exists H4,s4,e4,H3,d,hd,.dK []
 refine#[_,rfl,.g Uf pl a0 a1 b0 b1 _ _ rfl (s4 _ _ ep) (s4 _ _ f0) (s4 _ _ f1) (N0.mono λ_ _ e=>s4 _ _ e) (N1.mono λ_ _ e=>s4 _ _ e) (λk hk=>?_) '!' λrk R r0 r1 H5 inj bd s5 hR FQ Ex eR e0 e1 ne=>?_]
 ·rcases yL.mp hk with h|h
  ·exact Z2 h
  ·exact Z2 h
 have B1:=Same.trans s4 s5;refine#[_,rfl,.k nl c0 c1 _ _ rfl (B1 _ _ en) (B1 _ _ g0) (B1 _ _ g1) (by unfold U5;rw[ya,ya];omega) λLw R2 r2 r3 H6 Ez Lx s6 Su Ci Sv Ly e2 e3 ne2=>?_];have e6:=s6 _ _ (s5 _ _ e4);have Bm:=Same.trans B1 s6;have zS:=Same.nn s3 hd;have up:∀{b:Addr} {u:HO},H6 b=some u->(∀k,u≠.dK k)->∀{o:HO},upd H6 d o b=some u:=λ{b u} e n {o}=>by rw[jw (jX e e6 (n _))];exact e
 refine#[e6,[(.inr "part",.ref R),(.inr "net",.ref R2)],rfl,(by show 2<=15;decide),q d #[_,_,_,_] _ (jM (Same.trans s3 Bm) zS) zS #[R,R2,jc,#[r0,r1,up (s6 _ _ eR) (λ_ z=>nomatch z),up (s6 _ _ e0) (λ_ z=>nomatch z),up (s6 _ _ e1) (λ_ z=>nomatch z)],r2,r3,up Ly (λ_ z=>nomatch z),up e2 (λ_ z=>nomatch z),up e3 (λ_ z=>nomatch z)] #[#[rk,inj,bd,rfl,rfl],Lw,Ez,Lx,rfl,rfl]]
variable {P:AS}{w:World}{K:AB}{mg:AE}{base:Heap}{t:Adr}
theorem zL (x y:V):Jh [((.inr "part":Key),x),(.inr "net",y)] (.inr "part")=some x:=by simp [Jh]
theorem ZV (x y:V):Jh [((.inr "part":Key),x),(.inr "net",y)] (.inr "net")=some y:=by
 unfold Jh;rw[QA,show decide (((.inr "part":Key),x).1=(.inr "net":Key))=false from (show decide ((.inr "part":Key)=(.inr "net":Key))=false by decide +kernel)];simp
theorem Z9 {ws:List (List Nat)}{k:uU.α} (h:k∈jZ pm ws nm):uU.good k:=by
 unfold jZ at h;obtain⟨x,_,rfl⟩:=yi.mp h;exact#[_,_,rfl]
theorem GH {k:UB.α} (h:k∈Jk nm es pm):UB.good k:=by
 unfold Jk at h;obtain⟨x,_,rfl⟩:=yi.mp h;exact#[_,_,rfl]
structure U0 (S1 S2:uu) (M:Ji):Prop where
 pp:M.pp.length=S1.hs.length
 pq:M.pq.length=S2.hs.length
 np:M.np.length=S1.es.length
 nq:M.nq.length=S2.es.length
def tG (C:Addr):Sp:=λvs H Q _=>E7 λ(bo o1 o2 d0:Addr) (S1 S2:uu) (M0:Ji)=>A8 (vs=[.ref bo,.ref d0]) (H bo=some (.tup [.ref o1,.ref o2])) (uX H C o1 S1) (uX H C o2 S2) (S1.ok/\S2.ok) (U2 H d0 M0) (U0 S1 S2 M0) (∀d M H',Same H H'->H d=none->U2 H' d M->Uo S1 S2 M0 M->Q (.ref d) H')
theorem mx (T:Txt K mg t):j0 P w K mg base 3 "next_round" ["both","marks"] (tG t.jT):=by
 refine T.mY.ok ["both","marks","parts","nets","side","sketch","part_marks","net_marks"] ?_;rintro _ H Q E ⟨bo,o1,o2,d0,S1,S2,M0,rfl,hb,k1,k2,⟨AY,A2⟩,mk,ft,q⟩;refine#[rfl,λAZ A outer s hr=>#[_,(jf (ju 2 (Jb jb)) (jf (ju 3 (Jb jb)) (jf (j7 jQ (nO rfl rfl T.Jw (ja (pv 0) jb)) (Jv (jt (jl 4) (jt (jl 5) Jc))) (jf (ju 6 (jp jF (uQ (pv 1) JP) (pv 4))) (jf (ju 7 (jp jF (uQ (pv 1) JP) (pv 4))) (jf (j6 (Jm PySem.F.plainAttrs_list PySem.F.slot_list_append PySem.F.type_list_append j3 (pv 2) (ja (jo (kM T) (ja (pv 5) (ja (pv 6) (ja (pv 7) jb)))) jb))) (jj (j6 (Jm PySem.F.plainAttrs_list PySem.F.slot_list_append PySem.F.type_list_append j3 (pv 3) (ja (jo (kG T) (ja (pv 5) (ja (pv 6) (ja (pv 7) jb)))) jb)))))))) (jj (jH (aK (zJ JP (jo (KL T) (ja (pv 2) jb)) (zJ JP (jo (KL T) (ja (pv 3) jb)) aN)) rfl rfl '$' '$')))))),?_]];obtain⟨R1,R2,em,⟨x0,x1,fx,Sw,Sx⟩,y0,y1,fy,Sy,Sz⟩:=mk;refine JF (λ(pl:Addr)=>[oR bo,oR d0,oR pl,none,none,none,none,none]) (λpl H'=>A3 (Same H H') (H pl=none) (H' pl=some (.lst []))) (λB hB=>#[UY,λD hD=>hB D _ #[jh (Same.refl H) hD,hD,jc]]) ?_;rintro pl H1 ⟨s1,Ba,e1⟩;refine JF (λ(nl:Addr)=>[oR bo,oR d0,oR pl,oR nl,none,none,none,none]) (λnl H'=>A4 (Same H H') (H nl=none/\pl≠nl) (H' nl=some (.lst [])) (H' pl=some (.lst []))) (λB hB=>#[UY,λD hD=>hB D _ #[jh s1 hD,#[Same.nn s1 hD,jy e1 hD],jc,jh (Same.refl H1) hD _ _ e1]]) ?_;rintro nl H2 ⟨s2,⟨B0,FU⟩,e2,Lq⟩;refine GR (λ(v4 v5 v6 v7:Option V)=>[oR bo,oR d0,oR pl,oR nl,v4,v5,v6,v7]) (λ_ _ _ _ H'=>E2 λ(pa na:AI)=>A5 (Same H H') (H' pl=some (.lst (pa.map V.ref))) (H' nl=some (.lst (na.map V.ref))) (zP uU pl nl H' pa [jZ M0.pp S1.ws M0.np,jZ M0.pq S2.ws M0.nq]) (zP UB pl nl H' na [Jk M0.np S1.es M0.pp,Jk M0.nq S2.es M0.pq])) (λB hB=>?_) ?_
 ·refine#[_,rfl,bo,rfl,#[_,jB.of (s2 _ _ hb)],Ko (xs:=[.ref o1,.ref o2]) (λi σ H'=>E6 λ(v4 v5 v6 v7:Option V) (pa na:AI)=>A6 (σ=[oR bo,oR d0,oR pl,oR nl,v4,v5,v6,v7]) (Same H H') (H' pl=some (.lst (pa.map V.ref))) (H' nl=some (.lst (na.map V.ref))) (zP uU pl nl H' pa ([jZ M0.pp S1.ws M0.np,jZ M0.pq S2.ws M0.nq].take i)) (zP UB pl nl H' na ([Jk M0.np S1.es M0.pp,Jk M0.nq S2.es M0.pq].take i))) #[_,_,_,_,[],[],rfl,s2,Lq,e2,.nil,.nil] (λi σ H' _ h=>by obtain⟨_,_,_,_,_,_,_,e,_⟩:=h;exact jB.of (e _ _ hb)) ?_ ?_]
  ·rintro i x p σ H3 hx hp ⟨v4,v5,v6,v7,pa,na,rfl,s3,ep,en,LG,LI⟩;have:∃(o ax ay:Addr) (S:uu) (pm nm:List Int),rz (x=.ref o) (uX H t.jT o S) S.ok ([jZ M0.pp S1.ws M0.np,jZ M0.pq S2.ws M0.nq][i]?=some (jZ pm S.ws nm)) ([Jk M0.np S1.es M0.pp,Jk M0.nq S2.es M0.pq][i]?=some (Jk nm S.es pm)) (H ax=some (.lst (pm.map V.int))) (H ay=some (.lst (nm.map V.int))) (vL [V.ref x0,V.ref x1] (i:Int)=some (.ref ax)) (vL [V.ref y0,V.ref y1] (i:Int)=some (.ref ay)) (pm.length=S.hs.length/\nm.length=S.es.length):=by
    match i,hx with
    | 0,hx=>cases hx;exact#[o1,x0,y0,S1,M0.pp,M0.np,rfl,k1,AY,rfl,rfl,Sw,Sy,Je (j:=0) rfl,Je (j:=0) rfl,ft.pp,ft.np]
    | 1,hx=>cases hx;exact#[o2,x1,y1,S2,M0.pq,M0.nq,rfl,k2,A2,rfl,rfl,Sx,Sz,Je (j:=1) rfl,Je (j:=1) rfl,ft.pq,ft.nq]
   obtain⟨o,ax,ay,S,pm,nm,rfl,sk,ok,g1,g2,O3,O4,SA,SE,lm⟩:=this
   exists H4,s4,e4,H3,p,hp,.tup [.int (i:Int),.ref o]
   have Bj:=Same.trans s3 s4;have Lr:pa.length<=2:=by rw[JD LG,yI];exact QZ _ _
   have Ls:na.length<=2:=by rw[JD LI,yI];exact QZ _ _
   have gp:JG H4 d0 (.str "part") (some (.ref R1)):=by rw[<-zL (.ref R1) (.ref R2)];exact JG.k (k:=.inr "part") (Bj _ _ em)
   have gn:JG H4 d0 (.str "net") (some (.ref R2)):=by rw[<-ZV (.ref R1) (.ref R2)];exact JG.k (k:=.inr "net") (Bj _ _ em)
   refine#[p,_,rfl,jB.of e4,rfl,_,_,rfl,_,_,rfl,rfl,?_];refine J0 [oR bo,oR d0,oR pl,oR nl,some (.int i),oR o,oR ax,v7] (λH'=>H'=H4) (λB hB=>#[_,rfl,d0,.ref R1,rfl,gp,_,rfl,R1,_,i,.ref ax,rfl,rfl,jg.of (Bj _ _ fx),SA,hB _ rfl]) ?_;rintro H4 rfl;refine J0 [oR bo,oR d0,oR pl,oR nl,some (.int i),oR o,oR ax,oR ay] (λH'=>H'=H4) (λB hB=>#[_,rfl,d0,.ref R2,rfl,gn,_,rfl,R2,_,i,.ref ay,rfl,rfl,jg.of (Bj _ _ fy),SE,hB _ rfl]) ?_;rintro H4 rfl;refine JF (λ(l:Addr)=>[oR bo,oR d0,oR pl,oR nl,some (.int i),oR o,oR ax,oR ay]) (λl H'=>A5 (Same H H') (H' pl=some (.lst ((pa++[l]).map V.ref))) (H' nl=some (.lst (na.map V.ref))) (zP uU pl nl H' (pa++[l]) ([jZ M0.pp S1.ws M0.np,jZ M0.pq S2.ws M0.nq].take (i+1))) (zP UB pl nl H' na ([Jk M0.np S1.es M0.pp,Jk M0.nq S2.es M0.pq].take i))) (λB hB=>?_) ?_
   ·refine#[_,rfl,.inl #[rfl,_,jg.of (s4 _ _ ep)],_,rfl,_,rfl,_,rfl,o,ax,ay,S,pm,nm,rfl,sk.same Bj,ok,Bj _ _ O3,Bj _ _ O4,lm,λD6 bs H6 s6 CN BE NA=>?_];have Bm:=Same.trans s4 s6;have DE:=Bm _ _ ep;have DX:=Bm _ _ en;refine#[pl,_,_,rfl,rfl,DE,by rw[ya];exact yK Lr '$',hB D6 _ #[jM (Same.trans s3 Bm) Ba,by rw[jc,yf];rfl,jq (yZ FU) DX,?_,LI.mono (λb u n1 n2 e=>jq n1 (Bm _ _ e)) (λys z=>by rw[ep] at z;cases z) (λys z=>by rw[en] at z;cases z)]];rw[jC g1];have nD:D6≠pl/\D6≠nl:=#[yZ (jy (s4 _ _ ep) CN),yZ (jy (s4 _ _ en) CN)];exact uG (LG.mono (λb u n1 n2 e=>jq n1 (Bm _ _ e)) (λys z=>by rw[ep] at z;cases z) (λys z=>by rw[en] at z;cases z)) (.cons #[nD.1,nD.2,bs,jq nD.1 BE,NA.mono λq ys e=>jq (jX e DE) e] .nil)
   rintro l H5 ⟨s5,CO,Dm,Lu,Lv⟩;refine#[_,rfl,.inl #[rfl,_,jg.of Dm],_,rfl,_,rfl,_,rfl,o,ax,ay,S,pm,nm,rfl,sk.same s5,ok,s5 _ _ O3,s5 _ _ O4,lm,λD6 bs H6 s6 CN BE NA=>?_];have DE:=s6 _ _ CO;have DX:=s6 _ _ Dm;have nD:D6≠pl/\D6≠nl:=#[yZ (jy CO CN),yZ (jy Dm CN)];refine#[nl,_,_,rfl,rfl,DX,by rw[ya];exact yK Ls '$',_,_,_,_,pa++[l],na++[D6],rfl,jM (Same.trans s5 s6) B0,jq FU DE,by rw[jc,yf];rfl,Lu.mono (λb u n1 n2 e=>jq n2 (s6 _ _ e)) (λys z=>by rw[CO] at z;cases z) (λys z=>by rw[Dm] at z;cases z),?_];rw[jC g2];exact uG (Lv.mono (λb u n1 n2 e=>jq n2 (s6 _ _ e)) (λys z=>by rw[CO] at z;cases z) (λys z=>by rw[Dm] at z;cases z)) (.cons #[nD.1,nD.2,bs,jq nD.2 BE,NA.mono λq ys e=>jq (jX e DX) e] .nil)
  ·rintro σ H3 ⟨v4,v5,v6,v7,pa,na,rfl,s3,ep,en,LG,LI⟩;exact hB _ _ _ _ _ #[pa,na,s3,ep,en,LG,LI]
 rintro v4 v5 v6 v7 H3 ⟨pa,na,s3,ep,en,LG,LI⟩;obtain⟨a0,a1,rfl,⟨_,_,b0,f0,N0⟩,_,_,b1,f1,N1⟩:=vP LG;obtain⟨c0,c1,rfl,⟨_,_,w0,g0,N2⟩,_,_,w1,g1,N3⟩:=vP LI;have l1:(jZ M0.pp S1.ws M0.np).length<=8:=by unfold jZ;rw[ya,yV];have:=AY.h;have:=ft.pp;omega
 have l2:(jZ M0.pq S2.ws M0.nq).length<=8:=by unfold jZ;rw[ya,yV];have:=A2.h;have:=ft.pq;omega
 have l3:(Jk M0.np S1.es M0.pp).length<=24:=by unfold Jk;rw[ya,yV];have:=AY.e;have:=ft.np;omega
 have l4:(Jk M0.nq S2.es M0.pq).length<=24:=by unfold Jk;rw[ya,yV];have:=A2.e;have:=ft.nq;omega
 refine λd hd=>?_
 exists H4,s4,e4,H3,d,hd,.dK []
 refine#[_,rfl,.g uU pl a0 a1 b0 b1 _ _ rfl (s4 _ _ ep) (s4 _ _ f0) (s4 _ _ f1) (N0.mono λ_ _ e=>s4 _ _ e) (N1.mono λ_ _ e=>s4 _ _ e) (λk hk=>(yL.mp hk).elim Z9 Z9) '!' λrk R r0 r1 H5 inj bd s5 hR FQ Ex eR e0 e1 ne=>?_];have B1:=Same.trans s4 s5;refine#[_,rfl,.g UB nl c0 c1 w0 w1 _ _ rfl (B1 _ _ en) (B1 _ _ g0) (B1 _ _ g1) (N2.mono λ_ _ e=>B1 _ _ e) (N3.mono λ_ _ e=>B1 _ _ e) (λk hk=>(yL.mp hk).elim GH GH) '!' λLw R2 r2 r3 H6 Ez Lx s6 Su Ci Sv Ly e2 e3 ne2=>?_];have e6:=s6 _ _ (s5 _ _ e4);have Bm:=Same.trans B1 s6;have zS:=Same.nn s3 hd;have up:∀{b:Addr} {u:HO},H6 b=some u->(∀k,u≠.dK k)->∀{o:HO},upd H6 d o b=some u:=λ{b u} e n {o}=>by rw[jw (jX e e6 (n _))];exact e
 refine#[e6,[(.inr "part",.ref R),(.inr "net",.ref R2)],rfl,(by show 2<=15;decide),q d #[_,_,_,_] _ (jM (Same.trans s3 Bm) zS) zS #[R,R2,jc,#[r0,r1,up (s6 _ _ eR) (λ_ z=>nomatch z),up (s6 _ _ e0) (λ_ z=>nomatch z),up (s6 _ _ e1) (λ_ z=>nomatch z)],r2,r3,up Ly (λ_ z=>nomatch z),up e2 (λ_ z=>nomatch z),up e3 (λ_ z=>nomatch z)] #[#[rk,inj,bd,rfl,rfl],Lw,Ez,Lx,rfl,rfl]]
variable {P:AS}{w:World}{K:AB}{mg:AE}{base:Heap}{t:Adr}
def Vv {α:Type} (l:List α) (n:Nat):Prop:=∃us:List α,us.Nodup/\(∀k,k∈us↔k∈l)/\us.length=n
theorem Vv.uniq {α:Type}{l:List α}{m:Nat} (h:Vv l n) (h':Vv l m):n=m:=by
 obtain⟨us,a1,a2,rfl⟩:=h;obtain⟨vs,b1,b2,rfl⟩:=h';exact Nat.le_antisymm (ul a1 λa ha=>(b2 a).mpr ((a2 a).mp ha)) (ul b1 λa ha=>(a2 a).mpr ((b2 a).mp ha))
noncomputable def Jt {α:Type} (l:List α):Nat:=by classical exact if h:∃n,Vv l n then h.choose else 0
theorem ad {α:Type}{l:List α} (h:Vv l n):Jt l=n:=by
 have h':∃n,Vv l n:=#[n,h];unfold Jt;rw[dif_pos h'];exact h'.choose_spec.uniq h
theorem KD {us:List Key}{l:List Int} (nd:us.Nodup) (mem:∀k,k∈us↔k∈l.map Sum.inl):∃ns:List Int,us=ns.map Sum.inl/\ns.Nodup/\∀k,k∈ns↔k∈l:=by
 have BB:∃ns:List Int,us=ns.map Sum.inl:=by
  refine#[us.map λk=>match k with|.inl i=>i|.inr _=>0,?_];rw[yq];refine (yY λk hk=>?_).trans (Wh us) |>.symm
  obtain⟨x,_,rfl⟩:=yi.mp ((mem k).mp hk)
  rfl
 obtain⟨ns,rfl⟩:=BB;refine#[ns,rfl,List.Pairwise.of_map _ (λa b h e=>h (by rw[e])) nd,λk=>?_];have:=mem (.inl k);rw[yi,yi] at this;exact#[λh=>by obtain⟨x,hx,e⟩:=this.mp #[k,h,rfl];cases e;exact hx,λh=>by obtain⟨x,hx,e⟩:=this.mpr #[k,h,rfl];cases e;exact hx]
noncomputable def mQ (M:Ji):V->Nat|.str z=>if z="part" then Jt (M.pp++M.pq) else Jt (M.np++M.nq)|_=>0
theorem bB (hc:X.calm=true) (hP:X.prog=P) (hw:X.w=w):Jf X (.type "set") (λxs H Q=>∃(p:Addr) (ks:List Key),A4 (xs=[.ref p]) (H p=some (.lst (ks.map kV))) (ks.length<=990) (∀S us,H S=none->us.Nodup->(∀k,k∈us↔k∈ks)->Q (.ref S) (upd H S (.ext (Uj P w S us))))):=by
 subst hP hw;exact vC hc
theorem bx (hP:X.prog=P) (hw:X.w=w):Jf X (.builtin "len") (λxs H Q=>∃(S:Addr) (us:List Key),A4 (xs=[.ref S]) (H S=some (.ext (Uj P w S us))) (us.length<=1000000) (Q (.int us.length) H)):=by
 subst hP hw;exact Kh
def tE:Sp:=λvs H Q _=>∃(d:Addr) (M:Ji),A4 (vs=[.ref d]) (U2 H d M) (M.pp.length+M.pq.length<=60/\M.np.length+M.nq.length<=60) (∀D H',Same H H'->H D=none->H' D=some (.lst ([(Jt (M.pp++M.pq):Int),(Jt (M.np++M.nq):Int)].map V.int))->Q (.ref D) H')
theorem NP (T:Txt K mg t):j0 P w K mg base 1 "how_many" ["marks"] tE:=by
 refine T.aY.ok ["marks"] ?_;rintro _ H Q E ⟨d,M,rfl,mk,⟨l1,l2⟩,q⟩;refine#[rfl,λAZ A outer s hr=>#[_,(jj (jH (Jg (own:=["word"]) (uO (cl:=[("marks",_)])) (fb (uR (v:=.ref t.vR) (by rfl) T.al rfl)) (λ_ _ _ _ _=>jl 1) (λ_ _ _ _ _=>Jd) (λ_ _ _ _ _=>(jx (bx (P:=P) (w:=w) rfl rfl) (by rfl) T.ut uo (ja (j4 (bB (P:=P) (w:=w) rfl rfl rfl) (by rfl) T.GB Ga (ja (jK vc (jp jF (uQ (pv 0) (pv 1)) jk) (jp jF (uQ (pv 0) (pv 1)) jk)) jb)) jb)))))),?_]];refine#[t.vR,rfl,#[_,T.ZR H],bD (xs:=[.str "part",.str "net"]) (λ_=>true) (λx=>.int (mQ M x)) (T.ZR H) (by show 2<=sizeLine;decide) (λx hx H' Qy Qn s' hy _=>?_) λD H1 hD s1 eD=>?_]
 ·obtain⟨R1,R2,em,t1,t2⟩:=mk.same s';have:∃(R:Addr) (ms ns:List Int),A4 (z9 H' R ms ns) (JG H' d x (some (.ref R))) (mQ M x=Jt (ms++ns)) (ms.length+ns.length<=60):=by
   rcases yr.mp hx with rfl|hx
   ·exact#[R1,M.pp,M.pq,t1,by rw[<-zL (.ref R1) (.ref R2)];exact JG.k (k:=.inr "part") em,by unfold mQ;exact if_pos rfl,l1]
   ·rw[yu.mp hx];exact#[R2,M.np,M.nq,t2,by rw[<-ZV (.ref R1) (.ref R2)];exact JG.k (k:=.inr "net") em,by unfold mQ;exact if_neg (by decide +kernel),l2]
  obtain⟨R,ms,ns,⟨a,b,e1,e2,e3⟩,gd,ew,ll⟩:=this;refine#[#[_,rfl,rfl],JI #[_,rfl,_,rfl,d,.ref R,rfl,gd,R,_,0,.ref a,rfl,rfl,jg.of e1,rfl,_,rfl,_,rfl,d,.ref R,rfl,gd,R,_,1,.ref b,rfl,rfl,jg.of e1,rfl,a,b,_,_,rfl,rfl,e2,e3,by rw[ya,ya];exact yp ll '$',λp hp=>?_]];have s4:=jh (o:=.lst (ms.map V.int++ns.map V.int)) (Same.refl H') hp;have e4:upd H' p (.lst (ms.map V.int++ns.map V.int)) p=some (.lst (((ms++ns).map Sum.inl).map kV)):=by rw[jc,yf,yf,yq,yq];rfl
  generalize upd H' p (.lst (ms.map V.int++ns.map V.int))=H4 at s4 e4;refine#[p,(ms++ns).map Sum.inl,rfl,e4,by rw[ya,yj];omega,λS us hS nd mem=>?_];obtain⟨vs,rfl,Dl,BL⟩:=KD nd mem;have lv:vs.length<=60:=by
   have:=ul Dl λa ha=>(BL a).mp ha;rw[yj] at this;omega
  have:=hy rfl _ (Same.trans s4 (jh (o:=.ext (Uj P w S (vs.map Sum.inl))) (Same.refl H4) hS));rw[ew,ad #[vs,Dl,BL,rfl]] at this;exact#[S,vs.map Sum.inl,rfl,jc,by rw[ya];omega,by rw[ya];exact this]
 ·exact q D H1 s1 hD (by rw[eD];rfl)
variable {P:AS}{w:World}{K:AB}{mg:AE}{base:Heap}{t:Adr}
theorem Ze {α:Type}:∀l:List α,Vv l (Jt l):=λl=>by
 have:∃n,Vv l n:=by
  induction l with
  | nil=>exact#[0,[],Qk,λk=>Iff.rfl,rfl]
  | cons a l ih =>
   obtain⟨n,us,nd,mem,rfl⟩:=ih;by_cases h:a∈us
   ·exact#[_,us,nd,λk=>#[λhk=>yn _ ((mem k).mp hk),λhk=>(yr.mp hk).elim (λe=>e▸h) λhk=>(mem k).mpr hk],rfl]
   ·exact#[_,a::us,y7.mpr #[h,nd],λk=>by rw[yr,yr,mem k],rfl]
 obtain⟨n,h⟩:=this;rw[ad h];exact h
theorem pT {α β:Type} (g:α->β) (l:List α):Jt (l.map g)<=Jt l:=by
 obtain⟨us,a1,a2,e1⟩:=Ze (l.map g);obtain⟨vs,b1,b2,e2⟩:=Ze l;rw[<-e1,<-e2,<-ya (f:=g)];refine ul a1 λx hx=>?_;obtain⟨y,hy,e⟩:=yi.mp ((a2 x).mp hx);exact yi.mpr #[y,(b2 y).mpr hy,e]
theorem cX {α:Type} (l:List α):Jt l<=l.length:=by
 obtain⟨us,a1,a2,e1⟩:=Ze l;rw[<-e1];exact ul a1 λx hx=>(a2 x).mp hx
theorem Rk.cnt {α:Type}{ks js:List α}{os qs:List Int} (h:Rk ks js ms ns) (f:α->Int) (e1:os=ks.map f) (e2:qs=js.map f):Jt (os++qs)<=Jt (ms++ns):=by
 obtain⟨rk,inj,_,rfl,rfl⟩:=h;rw[e1,e2,<-yf,<-yf]
 classical
 let g:Int->Int:=λm=>if h:∃k,k∈ks++js/\(rk k:Int)=m then f h.choose else 0
 have:(ks++js).map f=((ks++js).map λk=>(rk k:Int)).map g:=by
  rw[yq];refine yY λk hk=>?_;have h:∃k',k'∈ks++js/\(rk k':Int)=(rk k:Int):=#[k,hk,rfl];show f k=g (rk k:Int);show f k=if h:∃k',k'∈ks++js/\(rk k':Int)=(rk k:Int) then f h.choose else 0
  rw[dif_pos h];have c:=h.choose_spec;rw[inj _ c.1 _ hk (by have:=c.2;omega)]
 rw[this];exact pT _ _
def sA:uU.α->Int|.inl (.inl m)::_=>m|_=>0
def oQ:UB.α->Int|.inl (.inl m)::_=>m|_=>0
theorem nF {ws:List (List Nat)} (h:pm.length=ws.length):pm=(jZ pm ws nm).map sA:=by
 unfold jZ;rw[yq];refine yX (by simp [h]) λi h1 h2=>?_;rw[yR,List.getElem_zip]
 rfl
theorem aH (h:nm.length=es.length):nm=(Jk nm es pm).map oQ:=by
 unfold Jk;rw[yq];refine yX (by simp [h]) λi h1 h2=>?_;rw[yR,List.getElem_zip]
 rfl
theorem Uo.le {M:Ji} (AY:S1.ok) (A2:S2.ok) (ft:U0 S1 S2 M) (h:Uo S1 S2 M M'):Jt (M.pp++M.pq)<=Jt (M'.pp++M'.pq)/\Jt (M.np++M.nq)<=Jt (M'.np++M'.nq) :=
 #[h.1.cnt sA (nF (by rw[ft.pp,AY.w])) (nF (by rw[ft.pq,A2.w])),h.2.cnt oQ (aH ft.np) (aH ft.nq)]
theorem Rk.len {α:Type}{ks js:List α} (h:Rk ks js ms ns):ms.length=ks.length/\ns.length=js.length:=by
 obtain⟨rk,_,_,rfl,rfl⟩:=h;exact#[ya _,ya _]
theorem Vt.fits {M:Ji} (h:Vt S1 S2 held M):U0 S1 S2 M:=by
 have a:=h.1.len;have b:=h.2.len;rw[Jy,Jy] at a;unfold U5 at b;rw[ya,ya] at b;exact#[a.1,a.2,b.1,b.2]
theorem Uo.fits {M:Ji} (AY:S1.ok) (A2:S2.ok) (ft:U0 S1 S2 M) (h:Uo S1 S2 M M'):U0 S1 S2 M':=by
 have a:=h.1.len;have b:=h.2.len;unfold jZ at a;unfold Jk at b;rw[ya,ya,yV,yV,ft.pp,ft.pq,AY.w,A2.w,QO,QO] at a;rw[ya,ya,yV,yV,ft.np,ft.nq,QO,QO] at b;exact#[a.1,a.2,b.1,b.2]
variable {P:AS}{w:World}{K:AB}{mg:AE}{base:Heap}{t:Adr}
theorem UN (xs:List V) (x:V):vL (xs++[x]) (-1)=some x:=by
 have:Kw (xs++[x]).length (-1)=some xs.length:=by
  unfold Kw;rw[yj,List.length_singleton,if_neg '$',if_pos '!'];congr 1;omega
 unfold vL;rw[this];simp
theorem Ug {α β:Type}{F:α->β->Prop}:∀{l:List α} {m:List β} {a:α} {b:β},Paired F (l++[a]) (m++[b])->Paired F l m/\F a b
 | [],[],_,_,.cons h _=>#[.nil,h]
 | [],_::m,_,_,h=>by have:=Paired.length h;simp at this
 | _::l,[],_,_,h=>by have:=Paired.length h;simp at this
 | _::l,_::m,_,_,.cons h t=>let ⟨x,y⟩:=Ug t;#[.cons h x,y]
theorem z9.off {o:HO} (x:z9 H R ms ns) (eL:H L=some (.lst ((d0::ds).map V.ref))) (hd:∃k,H d0=some (.dK k)):z9 (upd H L o) R ms ns:=by
 obtain⟨a,b,e1,e2,e3⟩:=x;obtain⟨k,hk⟩:=hd;have nl:∀{c:Addr} {l:List Int},H c=some (.lst (l.map V.int))->c≠L:=λ{c l} e z=>by
  rw[z,eL] at e;have:=HO.lst.inj (Option.some.inj e);cases l with
  | nil=>cases this
  | cons _ _=>rw[yH,yH] at this;injection this with h _;cases h
 refine#[a,b,?_,jq (nl e2) e2,jq (nl e3) e3];rw[jw]
 ·exact e1
 ·intro z;rw[z,eL] at e1;have:=HO.lst.inj (Option.some.inj e1);rw[yH] at this;injection this with h _
  injection h with h
  rw[h,e2] at hk;cases hk
theorem U2.off {M:Ji}{o:HO} (x:U2 H d M) (eL:H L=some (.lst ((d0::ds).map V.ref))) (hd:∃k,H d0=some (.dK k)):U2 (upd H L o) d M:=by
 obtain⟨R1,R2,e,t1,t2⟩:=x;exact#[R1,R2,jq (jX e eL) e,t1.off eL hd,t2.off eL hd]
noncomputable def cs (M:Ji):List Int:=[(Jt (M.pp++M.pq):Int),(Jt (M.np++M.nq):Int)]
noncomputable def sm (M:Ji):Nat:=Jt (M.pp++M.pq)+Jt (M.np++M.nq)
inductive JM (S1 S2:uu) (held:AD):List Ji->Prop
 | one {M:Ji} (h:Vt S1 S2 held M):JM S1 S2 held [M]
 | snoc {Ms:List Ji} {M M':Ji} (h:JM S1 S2 held (Ms++[M])) (n:Uo S1 S2 M M'):JM S1 S2 held (Ms++[M]++[M'])
def VO (H:Hp) (ds:AI) (Ms:List Ji):Prop:=Paired (λd M=>U2 H d M) ds Ms
theorem VO.same {H':Hp} (x:VO H ds Ms) (s:Same H H'):VO H' ds Ms:=ug (λ_ _ h=>h.same s) x
theorem U0.len {M:Ji} (AY:S1.ok) (A2:S2.ok) (h:U0 S1 S2 M):M.pp.length+M.pq.length<=60/\M.np.length+M.nq.length<=60:=by
 have:=AY.h;have:=A2.h;have:=AY.e;have:=A2.e
 rw[h.pp,h.pq,h.np,h.nq];omega
theorem wG {M:Ji} (h:M.pp.length+M.pq.length<=60/\M.np.length+M.nq.length<=60):sm M<=120:=by
 have h1:=cX (M.pp++M.pq);have h2:=cX (M.np++M.nq);rw[yj] at h1 h2;unfold sm;omega
theorem wH {M:Ji} (h:Jt (M.pp++M.pq)<=Jt (M'.pp++M'.pq)/\Jt (M.np++M.nq)<=Jt (M'.np++M'.nq)) (n:cs M≠cs M'):sm M<sm M':=by
 unfold sm;by_cases e1:Jt (M.pp++M.pq)=Jt (M'.pp++M'.pq)
 ·by_cases e2:Jt (M.np++M.nq)=Jt (M'.np++M'.nq)
  ·exact absurd (by unfold cs;rw[e1,e2]) n
  ·omega
 ·omega
def tw (C:Addr):Sp:=λvs H Q _=>E8 λ(bo o1 o2 hl:Addr) (S1 S2:uu) (us:AI) (held:AD)=>A8 (vs=[.ref bo,.ref hl]) (H bo=some (.tup [.ref o1,.ref o2])) (uX H C o1 S1) (uX H C o2 S2) (S1.ok/\S2.ok) (H hl=some (.lst (us.map V.ref))) (KeyAt H us (held.map kI)/\held.length<=8)
 (∀L ds Ms Mp M H',Same H H'->H L=none->H' L=some (.lst (ds.map V.ref))->VO H' ds (Ms++[Mp]++[M])->JM S1 S2 held (Ms++[Mp]++[M])->cs Mp=cs M->Q (.ref L) H')
theorem mr (T:Txt K mg t):j0 P w K mg base 4 "all_rounds" ["both","held"] (tw t.jT):=by
 refine T.mV.ok ["both","held","rounds","many"] ?_;rintro _ H Q E ⟨bo,o1,o2,hl,S1,S2,us,held,rfl,hb,k1,k2,⟨AY,A2⟩,hh,KA,q⟩;refine#[rfl,λAZ A outer s hr=>#[_,(jf (ju 2 (Jb (ja (jo (kF T) (ja (pv 0) (ja (pv 1) jb))) jb))) (jf (ju 3 eU) (jf (lB jQ (Jq (qw hr.units0) (pv 3) (jo (NP T) (ja (jp jF (pv 2) (GP ZB jk)) jb))) (jf (ju 3 (jo (NP T) (ja (jp jF (pv 2) (GP ZB jk)) jb))) (jj (j6 (Jm PySem.F.plainAttrs_list PySem.F.slot_list_append PySem.F.type_list_append j3 (pv 2) (ja (jo (mx T) (ja (pv 0) (ja (jp jF (pv 2) (GP ZB jk)) jb))) jb)))))) (jj (jH (pv 2)))))),?_]];refine zU (λ(L d:Addr) (M:Ji)=>[oR bo,oR hl,oR L,none]) (λL d M H'=>A5 (Same H H') (H L=none) (H' L=some (.lst [.ref d])) (U2 H' d M) (Vt S1 S2 held M)) (λB hB=>#[_,rfl,_,rfl,bo,o1,o2,hl,S1,S2,us,held,rfl,hb,k1,k2,#[AY,A2],hh,KA,λd M H1 s1 hd mk f1=>#[s0,λL hL=>hB L d M _ #[jh s1 hL,Same.nn s1 hL,jc,mk.same (jh (Same.refl H1) hL),f1]]]) ?_;rintro L d M H1 ⟨s1,hL,eL,mk,f1⟩;refine J0 [oR bo,oR hl,oR L,some .non] (λH'=>H'=H1) (λB hB=>hB _ rfl) ?_;rintro H1 rfl;refine JF (λ(v:Option V)=>[oR bo,oR hl,oR L,v]) (λ_ H'=>E4 λ(ds:AI) (Ms:List Ji) (Mp M:Ji)=>A5 (Same H H') (H' L=some (.lst (ds.map V.ref))) (VO H' ds (Ms++[Mp]++[M])) (JM S1 S2 held (Ms++[Mp]++[M])) (cs Mp=cs M)) (λB hB=>?_) ?_
 ·refine#[λm σ H'=>E5 λ(v:V) (ds:AI) (d:Addr) (Ms:List Ji) (M:Ji)=>A7 (σ=[oR bo,oR hl,oR L,some v]) (Same H H') (H' L=some (.lst ((ds++[d]).map V.ref))) (VO H' (ds++[d]) (Ms++[M])) (JM S1 S2 held (Ms++[M])) (U0 S1 S2 M/\ds.length+m<=200) ((v=.non/\m=200)\/∃(a:Addr) (Lz:List Ji) (Mp:Ji),A5 (v=.ref a) (H' a=some (.lst ((cs Mp).map V.int))) (Ms=Lz++[Mp]) (Jt (Mp.pp++Mp.pq)<=Jt (M.pp++M.pq)/\Jt (Mp.np++Mp.nq)<=Jt (M.np++M.nq)) (m=150 - sm Mp)),#[200,_,[],d,[],M,rfl,s1,eL,.cons mk .nil,.one f1,#[f1.fits,yh _],.inl #[rfl,rfl]],?_];rintro m σ H2 ⟨v,ds,d,Ms,M,rfl,s2,CQ,RA,Rd,⟨ft,ldm⟩,hv⟩;have FV:U2 H2 d M:=(Ug RA).2;have ln:=ft.len AY A2;refine#[_,rfl,_,rfl,1,rfl,L,_,-1,.ref d,rfl,rfl,jg.of CQ,by rw[yf];exact UN _ _,d,M,rfl,FV,ln,λD H3 s3 hD eD=>#[D,cs M,rfl,jg.of eD,?_]];have Bb:=Same.trans s2 s3;have sml:=wG ln;rcases hv with ⟨hv,hm⟩|⟨a,Lz,Mp,hv,ea,O5,le,hm⟩
  ·subst hv;have lt:150 - sm M<m:=by omega
   clear hm;refine .inl #[rfl,_,rfl,JI ?_];exact (by
    refine#[λσ' H'=>∃(a d':Addr) (M':Ji),A6 (σ'=[oR bo,oR hl,oR L,oR a]) (Same H H') (H' L=some (.lst ((ds++[d]++[d']).map V.ref))) (VO H' (ds++[d]++[d']) (Ms++[M]++[M'])) (Uo S1 S2 M M') (H' a=some (.lst ((cs M).map V.int))),?_,?_]
    ·rintro σ' H' ⟨a,d',M',rfl,z1,z2,z3,z4,z5⟩;exact#[150 - sm M,lt,.ref a,ds++[d],d',Ms++[M],M',rfl,z1,z2,z3,.snoc Rd z4,#[z4.fits AY A2 ft,by rw[yj];show ds.length+1+_<=200;omega],.inr #[a,Ms,M,rfl,z5,rfl,z4.le AY A2 ft,rfl]]
    refine JF (λ(a:Addr)=>[oR bo,oR hl,oR L,oR a]) (λa H'=>A3 (Same H3 H') (H' a=some (.lst ((cs M).map V.int))) True) (λB hB=>#[_,rfl,1,rfl,L,_,-1,.ref d,rfl,rfl,jg.of (s3 _ _ CQ),by rw[yf];exact UN _ _,d,M,rfl,FV.same s3,ln,λa H4 s4 ha ea=>hB a H4 #[s4,ea,trivial]]) ?_;rintro a H4 ⟨s4,LA,_⟩;have Bj:=Same.trans Bb s4;have CS:=Same.trans s3 s4;have CT:=CS _ _ CQ;refine#[_,rfl,.inl #[rfl,_,jg.of CT],_,rfl,_,rfl,1,rfl,L,_,-1,.ref d,rfl,rfl,jg.of CT,by rw[yf];exact UN _ _,bo,o1,o2,d,S1,S2,M,rfl,Bj _ _ hb,k1.same Bj,k2.same Bj,#[AY,A2],FV.same CS,ft,λd' M' H5 s5 Ct mk' nx=>?_];have Cj:=s5 _ _ CT;have DF:=(RA.same CS).same s5;have EB:=s5 _ _ LA;refine#[L,_,_,rfl,rfl,Cj,by rw[ya,yj];exact yK (show ds.length+1<=1000 by omega) '$',a,d',M',rfl,jM (Same.trans Bj s5) hL,by rw[jc,yf (l₂:=[d'])];rfl,?_,nx,?_]
    ·obtain⟨d0,dr,e0,hk⟩:∃d0 dr,ds++[d]=d0::dr/\∃k,H5 d0=some (.dK k):=by
      cases ds with
      | nil=>exact#[d,[],rfl,let ⟨_,_,e,_,_⟩:=(Ug DF).2;#[_,e]]
      | cons x xs=>cases Ms with
       | nil=>have:=Paired.length DF;simp at this
       | cons _ _=>cases DF with|cons h _=>exact#[x,_,rfl,let ⟨_,_,e,_,_⟩:=h;#[_,e]]
     rw[e0] at Cj;exact uG (ug (λ_ _ h=>h.off Cj hk) DF) (.cons (mk'.off Cj hk) .nil)
    ·rw[jw]
     ·exact EB
     ·intro z;rw[z,Cj] at EB;have:=HO.lst.inj (Option.some.inj EB);unfold cs at this;cases ds with
      | nil=>cases this
      | cons _ _=>rw[List.cons_append,yH,yH] at this;injection this with h _;cases h)
  ·subst hv;refine .inr #[a,cs Mp,rfl,jg.of (s3 _ _ ea),_,rfl,?_];by_cases e:cs Mp=cs M
   ·rw[decide_eq_true e];exact hB _ _ #[ds++[d],Lz,Mp,M,Bb,s3 _ _ CQ,by rw[<-O5];exact RA.same s3,by rw[<-O5];exact Rd,e]
   ·have lt:150 - sm M<m:=by have:=wH le e;omega
    rw[decide_eq_false e];clear hm;refine JI ?_;exact (by
    refine#[λσ' H'=>∃(a d':Addr) (M':Ji),A6 (σ'=[oR bo,oR hl,oR L,oR a]) (Same H H') (H' L=some (.lst ((ds++[d]++[d']).map V.ref))) (VO H' (ds++[d]++[d']) (Ms++[M]++[M'])) (Uo S1 S2 M M') (H' a=some (.lst ((cs M).map V.int))),?_,?_]
    ·rintro σ' H' ⟨a,d',M',rfl,z1,z2,z3,z4,z5⟩;exact#[150 - sm M,lt,.ref a,ds++[d],d',Ms++[M],M',rfl,z1,z2,z3,.snoc Rd z4,#[z4.fits AY A2 ft,by rw[yj];show ds.length+1+_<=200;omega],.inr #[a,Ms,M,rfl,z5,rfl,z4.le AY A2 ft,rfl]]
    refine JF (λ(a:Addr)=>[oR bo,oR hl,oR L,oR a]) (λa H'=>A3 (Same H3 H') (H' a=some (.lst ((cs M).map V.int))) True) (λB hB=>#[_,rfl,1,rfl,L,_,-1,.ref d,rfl,rfl,jg.of (s3 _ _ CQ),by rw[yf];exact UN _ _,d,M,rfl,FV.same s3,ln,λa H4 s4 ha ea=>hB a H4 #[s4,ea,trivial]]) ?_;rintro a H4 ⟨s4,LA,_⟩;have Bj:=Same.trans Bb s4;have CS:=Same.trans s3 s4;have CT:=CS _ _ CQ;refine#[_,rfl,.inl #[rfl,_,jg.of CT],_,rfl,_,rfl,1,rfl,L,_,-1,.ref d,rfl,rfl,jg.of CT,by rw[yf];exact UN _ _,bo,o1,o2,d,S1,S2,M,rfl,Bj _ _ hb,k1.same Bj,k2.same Bj,#[AY,A2],FV.same CS,ft,λd' M' H5 s5 Ct mk' nx=>?_];have Cj:=s5 _ _ CT;have DF:=(RA.same CS).same s5;have EB:=s5 _ _ LA;refine#[L,_,_,rfl,rfl,Cj,by rw[ya,yj];exact yK (show ds.length+1<=1000 by omega) '$',a,d',M',rfl,jM (Same.trans Bj s5) hL,by rw[jc,yf (l₂:=[d'])];rfl,?_,nx,?_]
    ·obtain⟨d0,dr,e0,hk⟩:∃d0 dr,ds++[d]=d0::dr/\∃k,H5 d0=some (.dK k):=by
      cases ds with
      | nil=>exact#[d,[],rfl,let ⟨_,_,e,_,_⟩:=(Ug DF).2;#[_,e]]
      | cons x xs=>cases Ms with
       | nil=>have:=Paired.length DF;simp at this
       | cons _ _=>cases DF with|cons h _=>exact#[x,_,rfl,let ⟨_,_,e,_,_⟩:=h;#[_,e]]
     rw[e0] at Cj;exact uG (ug (λ_ _ h=>h.off Cj hk) DF) (.cons (mk'.off Cj hk) .nil)
    ·rw[jw]
     ·exact EB
     ·intro z;rw[z,Cj] at EB;have:=HO.lst.inj (Option.some.inj EB);unfold cs at this;cases ds with
      | nil=>cases this
      | cons _ _=>rw[List.cons_append,yH,yH] at this;injection this with h _;cases h)
 rintro v H2 ⟨ds,Ms,Mp,M,s2,CQ,RA,Rd,ec⟩;exact#[_,rfl,q L ds Ms Mp M H2 s2 hL CQ RA Rd ec]
variable {P:AS}{w:World}{K:AB}{mg:AE}{base:Heap}{t:Adr}
theorem ui {α β:Type}{F:α->β->Prop}:∀{l:List α} {m:List β} {i:Nat} {a:α} {b:β},Paired F l m->l[i]?=some a->m[i]?=some b->F a b
 | _,_,_,_,_,.nil,h,_=>by simp at h
 | _,_,0,_,_,.cons r _,h1,h2=>by simp at h1 h2;rw[<-h1,<-h2];exact r
 | _,_,i+1,_,_,.cons _ t,h1,h2=>ui (i:=i) t (by simpa using h1) (by simpa using h2)
def vw (ms ns:List Int):Prop:=∀m,ms.count m=ns.count m
def Ji.even (M:Ji):Prop:=vw M.pp M.pq/\vw M.np M.nq
theorem iA (h:∀m∈ms++ns,ms.count m=ns.count m):vw ms ns:=λm=>by
 by_cases hm:m∈ms++ns
 ·exact h m hm
 ·rw[List.count_eq_zero.mpr λh=>hm (Qp _ h),List.count_eq_zero.mpr λh=>hm (yF _ h)]
def wN:Sp:=λvs H Q _=>E3 λ(L:Addr) (ds:AI) (Ms:List Ji)=>A6 (vs=[.ref L]) (H L=some (.lst (ds.map V.ref))) (VO H ds Ms) (∀M∈Ms,M.pp.length+M.pq.length<=60/\M.np.length+M.nq.length<=60) ((∀M∈Ms,M.even)->∀H',Same H H'->Q .non H') ((¬∀M∈Ms,M.even)->∀u r H',Same H H'->H' u=some (.tup (.str "marks"::r))->Q (.ref u) H')
theorem nu (T:Txt K mg t):j0 P w K mg base 1 "first_odd" ["rounds"] wN:=by
 refine T.Nq.ok ["rounds","number","marks","word","here","there","mark"] ?_;rintro _ H Q E ⟨L,ds,Ms,rfl,eL,RA,hl,qN,qM⟩;refine#[rfl,λAZ A outer s hr=>#[_,(jf (j7 jQ (uL rfl rfl T.Jw (ja (pv 0) jb)) (Jv (jt (jl 1) (jt (jl 2) Jc))) (jj (j7 jQ (fb (uR (v:=.ref t.vR) (by rfl) T.al rfl)) (jl 3) (jf (ju 4 (jp jF (uQ (pv 2) (pv 3)) jk)) (jf (ju 5 (jp jF (uQ (pv 2) (pv 3)) jk)) (jj (j7 jQ (jO (jx (Ve rfl) (by rfl) T.uK uI (ja (j4 (vC rfl) (by rfl) T.GB Ga (ja (jK vc (pv 4) (pv 5)) jb)) jb))) (jl 6) (jj (Jo (Jq zG (Jm PySem.F.plainAttrs_list PySem.F.slot_list_count PySem.F.type_list_count vE (pv 4) (ja (pv 6) jb)) (Jm PySem.F.plainAttrs_list PySem.F.slot_list_count PySem.F.type_list_count vE (pv 5) (ja (pv 6) jb))) (jj (jH (Jn (ja JP (ja (pv 1) (ja (pv 3) (ja (pv 6) (ja (Jm PySem.F.plainAttrs_list PySem.F.slot_list_count PySem.F.type_list_count vE (pv 4) (ja (pv 6) jb)) (ja (Jm PySem.F.plainAttrs_list PySem.F.slot_list_count PySem.F.type_list_count vE (pv 5) (ja (pv 6) jb)) jb))))))))) jR))))))))) (jj (jH eU))),?_]];have ld:ds.length=Ms.length:=Paired.length RA;refine Aj (λ(v1 v2 v3 v4 v5 v6:Option V)=>[oR L,v1,v2,v3,v4,v5,v6]) (λ_ _ _ _ _ _ H'=>A3 (Same H H') (∀M∈Ms,M.even) True) (λB hB=>?_) ?_
 ·refine#[_,rfl,L,rfl,#[_,jg.of eL],uC (xs:=ds.map V.ref) (λi σ H'=>E6 λ(v1 v2 v3 v4 v5 v6:Option V)=>A3 (σ=[oR L,v1,v2,v3,v4,v5,v6]) (Same H H') (∀M∈Ms.take i,M.even)) #[_,_,_,_,_,_,rfl,Same.refl H,λM h=>nomatch h] (λi σ H' _ h=>by obtain⟨_,_,_,_,_,_,_,e,_⟩:=h;exact jg.of (e _ _ eL)) ?_ ?_]
  ·rintro i x p σ H2 hx hp ⟨v1,v2,v3,v4,v5,v6,rfl,s2,ev⟩;obtain⟨d,ed,rfl⟩:=jS hx;have hi:i<Ms.length:=by rw[<-ld];exact (yc.mp ed).1
   have em:=yb hi;have mk:U2 H d Ms[i]:=ui RA ed em;have BB:=yB hi;generalize Ms[i]=M at em mk BB
   exists H3,s3,e3,H2,p,hp,.tup [.int (i:Int),.ref d]
   have Bb:=Same.trans s2 s3;refine#[p,_,rfl,jB.of e3,rfl,_,_,rfl,_,_,rfl,rfl,?_];refine#[t.vR,rfl,#[_,T.ZR H3],pZ (xs:=[.str "part",.str "net"]) (λj σ H'=>E4 λ(v3 v4 v5 v6:Option V)=>A3 (σ=[oR L,some (.int i),oR d,v3,v4,v5,v6]) (Same H H') ((0<j->vw M.pp M.pq)/\(1<j->vw M.np M.nq))) #[_,_,_,_,rfl,Bb,λh=>absurd h '$',λh=>absurd h '$'] (λj σ H' _ h=>T.ZR H') ?_ ?_]
   ·rintro j x σ H4 hx ⟨v3,v4,v5,v6,rfl,s4,Hv⟩;obtain⟨R1,R2,O6,t1,t2⟩:=mk.same s4;have hl2:=hl M BB;have:∃(R:Addr) (ms ns:List Int),A5 (z9 H4 R ms ns) (JG H4 d x (some (.ref R))) (ms.length+ns.length<=60) (vw ms ns->(0<j+1->vw M.pp M.pq)/\(1<j+1->vw M.np M.nq)) (M.even->vw ms ns):=by
     match j,hx with
     | 0,hx=>cases hx;exact#[R1,M.pp,M.pq,t1,by rw[<-zL (.ref R1) (.ref R2)];exact JG.k (k:=.inr "part") O6,hl2.1,λh=>#[λ_=>h,λz=>absurd z '$'],λh=>h.1]
     | 1,hx=>cases hx;exact#[R2,M.np,M.nq,t2,by rw[<-ZV (.ref R1) (.ref R2)];exact JG.k (k:=.inr "net") O6,hl2.2,λh=>#[λ_=>Hv.1 '$',λ_=>h],λh=>h.2]
    obtain⟨R,ms,ns,⟨a,b,f1,f2,f3⟩,gd,ll,kY,kN⟩:=this;refine J0 [oR L,some (.int i),oR d,some x,oR a,v5,v6] (λH'=>H'=H4) (λB hB=>#[_,rfl,_,rfl,d,.ref R,rfl,gd,R,_,0,.ref a,rfl,rfl,jg.of f1,rfl,hB _ rfl]) ?_;rintro H4 rfl;refine J0 [oR L,some (.int i),oR d,some x,oR a,oR b,v6] (λH'=>H'=H4) (λB hB=>#[_,rfl,_,rfl,d,.ref R,rfl,gd,R,_,1,.ref b,rfl,rfl,jg.of f1,rfl,hB _ rfl]) ?_;rintro H4 rfl;refine#[_,rfl,_,rfl,a,b,_,_,rfl,rfl,f2,f3,by rw[ya,ya];exact yp ll '$',λp5 SF=>?_];have s5:=jh (o:=.lst (ms.map V.int++ns.map V.int)) (Same.refl H4) SF;have e5:upd H4 p5 (.lst (ms.map V.int++ns.map V.int)) p5=some (.lst (((ms++ns).map Sum.inl).map kV)):=by rw[jc,yf,yf,yq,yq];rfl
    generalize upd H4 p5 (.lst (ms.map V.int++ns.map V.int))=H5 at s5 e5;refine#[p5,(ms++ns).map Sum.inl,rfl,e5,by rw[ya,yj];omega,λS us hS nd mem=>?_];obtain⟨vs,rfl,Dl,BL⟩:=KD nd mem;have lv:vs.length<=60:=by
     have:=ul Dl λa ha=>(BL a).mp ha;rw[yj] at this;omega
    have s6:=jh (o:=.ext (Uj P w S (vs.map Sum.inl))) (Same.refl H5) hS;refine#[S,vs,rfl,jc,by omega,λl Cp BC pm so=>?_];have s7:=jh (o:=.lst (Cp.map V.int)) (Same.refl (upd H5 S (.ext (Uj P w S (vs.map Sum.inl))))) BC;have e7:upd (upd H5 S (.ext (Uj P w S (vs.map Sum.inl)))) l (.lst (Cp.map V.int)) l=some (.lst (Cp.map V.int)):=jc;have Hu:=Same.trans s5 (Same.trans s6 s7);refine#[l,rfl,#[_,jg.of e7],uJ (xs:=Cp.map V.int) (λk σ H'=>∃v6:Option V,A4 (σ=[oR L,some (.int i),oR d,some x,oR a,oR b,v6]) (Same H4 H') (H' l=some (.lst (Cp.map V.int))) (∀m∈Cp.take k,ms.count m=ns.count m)) #[_,rfl,Hu,e7,λm h=>nomatch h] (λk σ H' _ h=>by obtain⟨_,_,_,e,_⟩:=h;exact jg.of e) ?_ ?_]
    ·rintro k y σ H8 hy ⟨SH,rfl,EV,LB,ec⟩;obtain⟨m,ey,rfl⟩:=jS hy;have g2:=EV _ _ f2;have g3:=EV _ _ f3;refine#[_,rfl,.inl #[rfl,_,jg.of g2],_,rfl,a,ms,m,rfl,rfl,g2,_,rfl,.inl #[rfl,_,jg.of g3],_,rfl,b,ns,m,rfl,rfl,g3,?_];refine#[rfl,_,rfl,?_];by_cases h:ms.count m=ns.count m
     ·refine vx (by rw[h]) #[_,rfl,EV,LB,λm' De=>?_];rw[jC ey] at De;rcases yL.mp De with z|z
      ·exact ec m' z
      ·rw[yu.mp z];exact h
     ·rw[decide_eq_false (show ¬(V.int (ms.count m:Nat)=V.int (ns.count m:Nat)) from λz=>h (Int.ofNat.inj (V.int.inj z)))];exact#[_,rfl,_,rfl,_,rfl,_,rfl,.inl #[rfl,_,jg.of g2],_,rfl,a,ms,m,rfl,rfl,g2,_,rfl,.inl #[rfl,_,jg.of g3],_,rfl,b,ns,m,rfl,rfl,g3,(by show 6<=sizeLine;decide),λu hu=>qM (λSI=>h (kN (SI M BB) m)) u _ _ (jh (Same.trans s4 EV) hu) jc]
    ·rintro σ H8 ⟨SH,rfl,EV,_,ec⟩;rw[ya,jN rfl] at ec;exact#[_,_,_,_,rfl,Same.trans s4 EV,kY (iA λm hm=>ec m (pm.mem_iff.mpr ((BL m).mpr hm)))]
   ·rintro σ H4 ⟨v3,v4,v5,v6,rfl,s4,Hv⟩;refine#[_,_,_,_,_,_,rfl,s4,λM' h=>?_];rw[jC em] at h;rcases yL.mp h with z|z
    ·exact ev M' z
    ·rw[yu.mp z];exact#[Hv.1 (by show 0<2;decide),Hv.2 (by show 1<2;decide)]
  ·rintro σ H2 ⟨v1,v2,v3,v4,v5,v6,rfl,s2,ev⟩;rw[ya,ld,jN rfl] at ev;exact hB _ _ _ _ _ _ _ #[s2,ev,trivial]
 rintro v1 v2 v3 v4 v5 v6 H2 ⟨s2,ev,_⟩;exact qN ev _ s2
variable {P:AS}{w:World}{K:AB}{mg:AE}{base:Heap}{t:Adr}
theorem ZP {α:Type}:∀{l m:List α},l.Nodup->(∀a∈l,a∈m)->m.length<=l.length->l.Perm m
 | [],m,_,_,h=>by rw[QY (Nat.le_zero.mp h)]
 | a::l,m,nd,h,hl=>by
  classical
  obtain⟨h1,h2⟩:=y7.mp nd;have ha:=h a (yw ..);have:=ZP (l:=l) (m:=m.erase a) h2 (λb hb=>(List.mem_erase_of_ne (show b≠a from λe=>h1 (by rw[<-e];exact hb))).mpr (h b (yn _ hb))) (by rw[List.length_erase_of_mem ha];rw[yQ] at hl;omega);exact (this.cons a).trans (List.perm_cons_erase ha).symm
structure vB (n:Nat) (p:Nat->Nat):Prop where
 lt:∀i,i<n->p i<n
 inj:∀i,i<n->∀j,j<n->p i=p j->i=j
theorem Ud {α β:Type}{f:α->β}:∀{l:List α},l.Nodup->(∀a∈l,∀b∈l,f a=f b->a=b)->(l.map f).Nodup
 | [],_,_=>Qk
 | a::l,nd,h=>by
  obtain⟨h1,h2⟩:=y7.mp nd;refine y7.mpr #[λz=>?_,Ud h2 λx hx y hy=>h x (yn _ hx) y (yn _ hy)];obtain⟨b,hb,e⟩:=yi.mp z;rw[h b (yn _ hb) a (yw ..) e] at hb;exact h1 hb
theorem vB.perm (b:vB n p):((List.range n).map p).Perm (List.range n) :=
 ZP (Ud Q2 λi hi j hj=>b.inj i (yE.mp hi) j (yE.mp hj)) (λa ha=>by obtain⟨i,hi,rfl⟩:=yi.mp ha;exact yE.mpr (b.lt i (yE.mp hi))) (by rw[ya];exact yh _)
theorem Uu {α:Type} (l:List α) (d:α):(List.range l.length).map (λi=>l.getD i d)=l:=yX (by simp) λi h1 h2=>by simp [h2]
theorem vB.perm_of (b:vB n p) (l1:ms.length=n) (l2:ns.length=n) (h:∀i,i<n->ns[p i]?=ms[i]?):ms.Perm ns:=by
 have e:ms=((List.range n).map p).map λi=>ns.getD i 0:=by
  rw[yq];refine (Uu ms 0).symm.trans ?_;rw[l1];exact yY λi hi=>by show ms.getD i 0=ns.getD (p i) 0;rw[yl,yl,h i (yE.mp hi)]
 have e2:(List.range n).map (λi=>ns.getD i 0)=ns:=by have:=Uu ns 0;rwa [l2] at this
 rw[e];exact (b.perm.map _).trans (by rw[e2])
structure uu.wf (S:uu):Prop where
 wm:∀(i:Nat) x,S.hs[i]?=some x->∃l,S.ws[i]?=some l/\l.length=x.2
 we:∀(i:Nat) l (q:Nat) j,S.ws[i]?=some l->l[q]?=some j->∃e,S.es[j]?=some e/\(i,q)∈e
 ew:∀(j:Nat) e i q,S.es[j]?=some e->(i,q)∈e->∃l,S.ws[i]?=some l/\l[q]?=some j
 ne:∀e∈S.es,e≠[]
structure gV (S1 S2:uu) (p r:Nat->Nat):Prop where
 n:S1.hs.length=S2.hs.length
 m:S1.es.length=S2.es.length
 bp:vB S1.hs.length p
 br:vB S1.es.length r
 hs:∀i,i<S1.hs.length->S2.hs[p i]?=S1.hs[i]?
 es:∀(j:Nat) l1 l2,S1.es[j]?=some l1->S2.es[r j]?=some l2->(l1.map λx=>(p x.1,x.2)).Perm l2
theorem gV.ws (I:gV S1 S2 p r) (w1:S1.wf) (w2:S2.wf) {i:Nat} (hi:i<S1.hs.length) {l:List Nat} (h1:S1.ws[i]?=some l):S2.ws[p i]?=some (l.map r):=by
 have e1:=yb hi;obtain⟨l1,g1,n1⟩:=w1.wm i _ e1;obtain⟨l2,g2,n2⟩:=w2.wm (p i) _ ((I.hs i hi).trans e1);rw[h1] at g1;cases g1;rw[g2];congr 1;refine yX (by rw[ya,n1,n2]) λq q1 q2=>?_;rw[ya] at q2;obtain⟨e,ee,he⟩:=w1.we i l q _ h1 (yb q2);have hj:=(yc.mp ee).1;have EW:r l[q]<S2.es.length:=by rw[<-I.m];exact I.br.lt _ hj
 have e2:=yb EW;have:=(I.es _ _ _ ee e2).mem_iff.mp (yi.mpr #[_,he,rfl]);obtain⟨l',f1,f2⟩:=w2.ew _ _ _ _ e2 this;rw[g2] at f1;cases f1;rw[yR];rw[yb q1] at f2;exact Option.some.inj f2
def mF (n:Nat) (p:Nat->Nat) (held:AD):Prop:=∀x∈held,∃i,i<n/\x.1=(i:Nat)/\x.2=(p i:Nat)
structure NY (S1:uu) (p r:Nat->Nat) (M:Ji):Prop where
 p:∀i,i<S1.hs.length->M.pq[p i]?=M.pp[i]?
 r:∀j,j<S1.es.length->M.nq[r j]?=M.np[j]?
theorem Rk.agr {α:Type}{ks js:List α} (h:Rk ks js ms ns) {i:Nat} (e:js[j]?=ks[i]?):ns[j]?=ms[i]?:=by
 obtain⟨rk,_,_,rfl,rfl⟩:=h;rw[ye,ye,e]
theorem GK {a b:Int}:∀{held:AD},(∀x∈held,x.1=a↔x.2=b)->(a∈held.map (·.1)↔b∈held.map (·.2))/\(held.map (·.1)).idxOf a=(held.map (·.2)).idxOf b
 | [],_=>#[#[λh=>(nomatch h),λh=>(nomatch h)],rfl]
 | x::l,h=>by
  obtain⟨h1,h2⟩:=GK (held:=l) λy hy=>h y (yn _ hy);have hx:=h x (yw ..);rw[yH,yH,yr,yr,Wg,Wg,h2];refine#[or_congr (by rw[eq_comm,hx,eq_comm]) h1,?_];by_cases z:x.1=a
  ·rw[beq_iff_eq.mpr z,beq_iff_eq.mpr (hx.mp z)]
  ·rw[beq_eq_false_iff_ne.mpr z,beq_eq_false_iff_ne.mpr λe=>z (hx.mpr e)]
theorem NU (b:vB n p) (k:mF n p held) {i:Nat} (hi:i<n):u4 (held.map (·.2)) (p i)=u4 (held.map (·.1)) i:=by
 obtain⟨h1,h2⟩:=GK (a:=(i:Int)) (b:=(p i:Int)) (held:=held) λx hx=>by
  obtain⟨j,hj,e1,e2⟩:=k x hx;rw[e1,e2];exact#[λe=>by rw[Int.ofNat.inj e],λe=>by rw[b.inj j hj i hi (Int.ofNat.inj e)]]
 unfold u4;rw[h2];by_cases z:(i:Int)∈held.map (·.1)
 ·rw[if_pos z,if_pos (h1.mp z)]
 ·rw[if_neg z,if_neg λe=>z (h1.mpr e)]
theorem UW (hs:List (Str×Nat)) (held:List Int) (i:Nat):(j9 hs held)[i]?=hs[i]?.map λx=>ao x.1 x.2 (u4 held i):=by
 unfold j9;rw[ye,List.getElem?_zipIdx,Option.map_map];simp [Function.comp_def]
theorem VG {ws:List (List Nat)}{i:Nat}{m:Int}{l:List Nat} (h1:pm[i]?=some m) (h2:ws[i]?=some l):(jZ pm ws nm)[i]?=some (nU m (l.map λn=>nm.getD n 0)):=by
 unfold jZ;rw[ye,Qj (z:=(m,l)) |>.mpr #[h1,h2]]
 rfl
theorem zE {i:Nat}{m:Int}{l:List (Nat×Nat)} (h1:nm[i]?=some m) (h2:es[i]?=some l):(Jk nm es pm)[i]?=some (nr m (VS (l.map λp=>(pm.getD p.1 0,(p.2:Int))))):=by
 unfold Jk;rw[ye,Qj (z:=(m,l)) |>.mpr #[h1,h2]]
 rfl
theorem Vt.agr {M:Ji} (h:Vt S1 S2 held M) (I:gV S1 S2 p r) (k:mF S1.hs.length p held):NY S1 p r M:=by
 refine#[λi hi=>h.1.agr ?_,λj hj=>h.2.agr ?_]
 ·rw[UW,UW,I.hs i hi,NU I.bp k hi]
 ·unfold U5;have EW:r j<S2.es.length:=by rw[<-I.m];exact I.br.lt _ hj
  rw[ye,ye,yb hj,yb EW];have:=(I.es j _ _ (yb hj) (yb EW)).length_eq;rw[ya] at this;simp [this]
theorem Uo.agr {M:Ji} (h:Uo S1 S2 M M') (I:gV S1 S2 p r) (AY:S1.ok) (w1:S1.wf) (w2:S2.wf) (ft:U0 S1 S2 M) (a:NY S1 p r M):NY S1 p r M':=by
 have gp:∀i,i<S1.hs.length->M.pq.getD (p i) 0=M.pp.getD i 0:=λi hi=>by rw[yl,yl,a.p i hi]
 have gr:∀i,i<S1.es.length->M.nq.getD (r i) 0=M.np.getD i 0:=λi hi=>by rw[yl,yl,a.r i hi]
 refine#[λi hi=>h.1.agr ?_,λj hj=>h.2.agr ?_]
 ·have hw:i<S1.ws.length:=by rw[AY.w];exact hi
  have ew:=yb hw;have em:=yb (l:=M.pp) (i:=i) (by rw[ft.pp];exact hi);rw[VG em ew,VG ((a.p i hi).trans em) (I.ws w1 w2 hi ew),yq];congr 2;exact yY λn hn=>gr n ((AY.wl _ (yB hw)).2 n hn)
 ·have EW:r j<S2.es.length:=by rw[<-I.m];exact I.br.lt _ hj
  have ee:=yb hj;have e2:=yb EW;have em:=yb (l:=M.np) (i:=j) (by rw[ft.np];exact hj);rw[zE em ee,zE ((a.r j hj).trans em) e2];congr 2;refine KO.mpr (((I.es j _ _ ee e2).symm.map _).trans ?_);rw[yq];refine .of_eq (yY λx hx=>?_);show (M.pq.getD (p x.1) 0,(x.2:Int))=_;rw[gp _ ((AY.el _ (yB hj)).2 x hx)]
theorem JM.fits (h:JM S1 S2 held Ms) (AY:S1.ok) (A2:S2.ok):∀M∈Ms,U0 S1 S2 M:=by
 induction h with
 | one h=>intro M hM;rw[yu.mp hM];exact h.fits
 | snoc h n ih =>
  intro X hX;rcases yL.mp hX with z|z
  ·exact ih X z
  ·rw[yu.mp z];exact n.fits AY A2 (ih _ (yF _ (yu.mpr rfl)))
theorem JM.agr (h:JM S1 S2 held Ms) (I:gV S1 S2 p r) (k:mF S1.hs.length p held) (AY:S1.ok) (A2:S2.ok) (w1:S1.wf) (w2:S2.wf):∀M∈Ms,NY S1 p r M:=by
 induction h with
 | one h=>intro M hM;rw[yu.mp hM];exact h.agr I k
 | snoc h n ih =>
  intro X hX;rcases yL.mp hX with z|z
  ·exact ih X z
  ·rw[yu.mp z];exact n.agr I AY w1 w2 (h.fits AY A2 _ (yF _ (yu.mpr rfl))) (ih _ (yF _ (yu.mpr rfl)))
theorem NY.even {M:Ji} (a:NY S1 p r M) (I:gV S1 S2 p r) (ft:U0 S1 S2 M):M.even :=
 #[λm=>(I.bp.perm_of ft.pp (by rw[ft.pq,I.n]) a.p).count_eq m,λm=>(I.br.perm_of ft.np (by rw[ft.nq,I.m]) a.r).count_eq m]
variable {P:AS}{w:World}{K:AB}{mg:AE}{base:Heap}{t:Adr}
def pf (a b:List Int):Nat ⊕ Nat->Int|.inl i=>a.getD i 0|.inr i=>b.getD i 0
def ix (n m:Nat):List (Nat ⊕ Nat):=(List.range n).map Sum.inl++(List.range m).map Sum.inr
theorem UR {m i:Nat}:.inl i∈ix n m↔i<n:=by simp [ix]
theorem zA {m i:Nat}:.inr i∈ix n m↔i<m:=by simp [ix]
theorem eV (a b:List Int):(ix a.length b.length).map (pf a b)=a++b:=by
 unfold ix;rw[yf,yq,yq];congr 1
 ·exact Uu a 0
 ·exact Uu b 0
def kf {α:Type} (a b:List α):Nat ⊕ Nat->Option α|.inl i=>a[i]?|.inr i=>b[i]?
theorem Rk.key {α:Type}{ks js:List α} (h:Rk ks js ms ns) {x y:Nat ⊕ Nat} (hx:x∈ix ks.length js.length) (hy:y∈ix ks.length js.length) (e:pf ms ns x=pf ms ns y):kf ks js x=kf ks js y:=by
 obtain⟨rk,inj,_,rfl,rfl⟩:=h;have key:∀{x},x∈ix ks.length js.length->∃k∈ks++js,kf ks js x=some k/\pf (ks.map λk=>(rk k:Int)) (js.map λk=>(rk k:Int)) x=rk k:=λ{x} hx=>by
  cases x with
  | inl i =>
   have hi:=UR.mp hx;refine#[ks[i],Qp _ (yB hi),yb hi,?_];show (ks.map λk=>(rk k:Int)).getD i 0=_;rw[yl,ye,yb hi]
   rfl
  | inr i =>
   have hi:=zA.mp hx;refine#[js[i],yF _ (yB hi),yb hi,?_];show (js.map λk=>(rk k:Int)).getD i 0=_;rw[yl,ye,yb hi]
   rfl
 obtain⟨k,hk,k1,k2⟩:=key hx;obtain⟨j,hj,j1,j2⟩:=key hy;rw[k2,j2] at e;rw[k1,j1,inj k hk j hj (Int.ofNat.inj e)]
theorem some_of {α:Type}{l:List α}{d:α}{i:Nat} (h:i<l.length):l[i]?=some (l.getD i d):=by rw[yl,yb h];rfl
theorem qG {m:Int}{l l':List Int} (h:nU m l=nU m' l'):m=m':=by
 injection (show mL m l=mL m' l' from h) with h _
 exact Sum.inl.inj (Sum.inl.inj h)
theorem Ky:∀{l l':AD},U6 l=U6 l'->l=l'
 | [],[],_=>rfl
 | [],_::_,h=>by injection h
 | _::_,[],h=>by injection h
 | a::l,b::l',h=>by
  injection (show (Sum.inr [Sum.inl a.1,Sum.inl a.2]::U6 l:List (Key ⊕ List Key))=Sum.inr [Sum.inl b.1,Sum.inl b.2]::U6 l' from h) with h1 h2
  rw[Ky h2];injection Sum.inr.inj h1 with h1 h3
  injection h3 with h3 _
  rw[Prod.ext (Sum.inl.inj h1) (Sum.inl.inj h3)]
theorem qq {m:Int}{l:AD} (h:nr m l=nr m' l'):m=m'/\l=l':=by
 injection (show b9 m l=b9 m' l' from h) with h h2
 injection h2 with h2 _
 exact#[Sum.inl.inj (Sum.inl.inj h),Ky (Sum.inr.inj h2)]
theorem ap {x x':Str}{m h h':Int} (e:ao x m h=ao x' m' h'):x=x'/\m=m'/\h=h':=by
 injection (show mK x m h=mK x' m' h' from e) with e1 e
 injection e with e2 e
 injection e with e3 _
 exact#[Sum.inr.inj (Sum.inl.inj e1),Sum.inl.inj (Sum.inl.inj e2),Sum.inl.inj (Sum.inl.inj e3)]
def rC (n m:Nat) (a b c d:List Int):Prop:=∀x∈ix n m,∀y∈ix n m,pf a b x=pf a b y->pf c d x=pf c d y
def sM (S1 S2:uu) (M:Ji):Nat ⊕ Nat->List (Int×Int)
 | .inl j=>(S1.es.getD j []).map λp=>(M.pp.getD p.1 0,(p.2:Int))
 | .inr j=>(S2.es.getD j []).map λp=>(M.pq.getD p.1 0,(p.2:Int))
theorem Uo.fnP {M:Ji} (h:Uo S1 S2 M M') (AY:S1.ok) (A2:S2.ok) (ft:U0 S1 S2 M):rC S1.hs.length S2.hs.length M'.pp M'.pq M.pp M.pq:=by
 have key:∀{x},x∈ix S1.hs.length S2.hs.length->∃l,kf (jZ M.pp S1.ws M.np) (jZ M.pq S2.ws M.nq) x=some (nU (pf M.pp M.pq x) l):=λ{x} hx=>by
  cases x with
  | inl i =>
   have hi:=UR.mp hx;exact#[_,VG (some_of (d:=0) (by rw[ft.pp];exact hi)) (yb (by rw[AY.w];exact hi))]
  | inr i =>
   have hi:=zA.mp hx;exact#[_,VG (some_of (d:=0) (by rw[ft.pq];exact hi)) (yb (by rw[A2.w];exact hi))]
 have l1:(jZ M.pp S1.ws M.np).length=S1.hs.length:=by unfold jZ;rw[ya,yV,ft.pp,AY.w,QO]
 have l2:(jZ M.pq S2.ws M.nq).length=S2.hs.length:=by unfold jZ;rw[ya,yV,ft.pq,A2.w,QO]
 intro x hx y hy e;have:=h.1.key (by rw[l1,l2];exact hx) (by rw[l1,l2];exact hy) e;obtain⟨l,k1⟩:=key hx;obtain⟨l',k2⟩:=key hy;rw[k1,k2] at this;exact qG (Option.some.inj this)
theorem Uo.fnN {M:Ji} (h:Uo S1 S2 M M') (ft:U0 S1 S2 M) {x y:Nat ⊕ Nat} (hx:x∈ix S1.es.length S2.es.length) (hy:y∈ix S1.es.length S2.es.length) (e:pf M'.np M'.nq x=pf M'.np M'.nq y):pf M.np M.nq x=pf M.np M.nq y/\(sM S1 S2 M x).Perm (sM S1 S2 M y):=by
 have key:∀{x},x∈ix S1.es.length S2.es.length->kf (Jk M.np S1.es M.pp) (Jk M.nq S2.es M.pq) x=some (nr (pf M.np M.nq x) (VS (sM S1 S2 M x))):=λ{x} hx=>by
  cases x with
  | inl i =>
   have hi:=UR.mp hx;exact zE (some_of (d:=0) (by rw[ft.np];exact hi)) (some_of (d:=[]) hi)
  | inr i =>
   have hi:=zA.mp hx;exact zE (some_of (d:=0) (by rw[ft.nq];exact hi)) (some_of (d:=[]) hi)
 have l1:(Jk M.np S1.es M.pp).length=S1.es.length:=by unfold Jk;rw[ya,yV,ft.np,QO]
 have l2:(Jk M.nq S2.es M.pq).length=S2.es.length:=by unfold Jk;rw[ya,yV,ft.nq,QO]
 have:=h.2.key (by rw[l1,l2];exact hx) (by rw[l1,l2];exact hy) e;rw[key hx,key hy] at this;obtain⟨a,b⟩:=qq (Option.some.inj this);exact#[a,KO.mp b]
theorem JM.first (h:JM S1 S2 held Ms) (AY:S1.ok) (A2:S2.ok):∀M∈Ms,∃M0,Vt S1 S2 held M0/\rC S1.hs.length S2.hs.length M.pp M.pq M0.pp M0.pq:=by
 induction h with
 | one h=>intro M hM;rw[yu.mp hM];exact#[_,h,λx _ y _ e=>e]
 | snoc h n ih =>
  intro X hX;rcases yL.mp hX with z|z
  ·exact ih X z
  ·rw[yu.mp z];obtain⟨M0,f,g⟩:=ih _ (yF _ (yu.mpr rfl));exact#[M0,f,λx hx y hy e=>g x hx y hy (n.fnP AY A2 (h.fits AY A2 _ (yF _ (yu.mpr rfl))) x hx y hy e)]
theorem JM.last (h:JM S1 S2 held Ms):∀{A:List Ji} {Mp M:Ji},Ms=A++[Mp]++[M]->Uo S1 S2 Mp M:=by
 cases h with
 | one h=>intro A Mp M e;have:=congrArg List.length e;simp at this
 | snoc h n =>
  intro A Mp M e;obtain⟨e1,e2⟩:=List.append_inj' e rfl;obtain⟨_,e3⟩:=List.append_inj' e1 rfl;cases e2;cases e3;exact n
theorem sQ {α β:Type}{h:α->β}{us:List α} (nd:(us.map h).Nodup) {a b:α} (ha:a∈us) (hb:b∈us) (e:h a=h b):a=b:=by
 obtain⟨i,hi,rfl⟩:=yD ha;obtain⟨j,hj,rfl⟩:=yD hb;have pw:=QU.mp (Qx.mp nd);rcases Q9 i j with z|rfl|z
 ·exact absurd e (pw i j hi hj z)
 ·rfl
 ·exact absurd e.symm (pw j i hj hi z)
theorem iu {α:Type}{X:List α}{f g:α->Int} (ec:Jt (X.map f)=Jt (X.map g)) (fn:∀x∈X,∀y∈X,f x=f y->g x=g y):∀x∈X,∀y∈X,g x=g y->f x=f y:=by
 classical
 obtain⟨us,u1,u2,u3⟩:=Ze (X.map f);obtain⟨vs,v1,v2,v3⟩:=Ze (X.map g)
 let h:Int->Int:=λu=>if z:∃x,x∈X/\f x=u then g z.choose else 0
 have hh:∀x∈X,h (f x)=g x:=λx hx=>by
  have z:∃y,y∈X/\f y=f x:=#[x,hx,rfl];show (if z:∃y,y∈X/\f y=f x then g z.choose else 0)=g x;rw[dif_pos z];exact fn _ z.choose_spec.1 x hx z.choose_spec.2
 have nd:(us.map h).Nodup:=by
  have p:vs.Perm (us.map h):=ZP v1 (λa ha=>by
   obtain⟨x,hx,rfl⟩:=yi.mp ((v2 a).mp ha)
   exact yi.mpr #[f x,(u2 _).mpr (yi.mpr #[x,hx,rfl]),hh x hx]) (by rw[ya];omega)
  exact p.nodup_iff.mp v1
 intro x hx y hy e;exact sQ nd ((u2 _).mpr (yi.mpr #[x,hx,rfl])) ((u2 _).mpr (yi.mpr #[y,hy,rfl])) (by rw[hh x hx,hh y hy];exact e)
theorem Uo.stable {M:Ji} (h:Uo S1 S2 M M') (AY:S1.ok) (A2:S2.ok) (ft:U0 S1 S2 M) (ec:cs M=cs M'):rC S1.hs.length S2.hs.length M.pp M.pq M'.pp M'.pq:=by
 have O7:=h.fits AY A2 ft;have e1:=eV M.pp M.pq;have e2:=eV M'.pp M'.pq;rw[ft.pp,ft.pq] at e1;rw[O7.pp,O7.pq] at e2;refine iu ?_ (h.fnP AY A2 ft);rw[e1,e2];injection ec with ec _
 exact (Int.ofNat.inj ec).symm
structure bj (S1 S2:uu) (ps ns:List Nat):Prop where
 pl:ps.length=S1.hs.length
 nl:ns.length=S1.es.length
 pm:ps.Perm (List.range S2.hs.length)
 nm:ns.Perm (List.range S2.es.length)
 hs:∀(i:Nat) k,ps[i]?=some k->S2.hs[k]?=S1.hs[i]?
 es:∀(j:Nat) k l1 l2,ns[j]?=some k->S1.es[j]?=some l1->S2.es[k]?=some l2->(l1.map λx=>(ps.getD x.1 0,x.2)).Perm l2
theorem dB {l:List Int} (nd:l.Nodup) {i:Nat} (h:i<l.length):l.idxOf l[i]=i:=by
 have h2:l.idxOf l[i]<l.length:=y8 (yB h);have e:l[l.idxOf l[i]]=l[i]:=QT h2;exact (List.getElem_inj nd).mp e
theorem zx {l:List Int} (nd:l.Nodup) {i:Nat} (h:i<l.length):l.idxOf (l.getD i 0)=i:=by
 rw[yl,yb h];exact dB nd h
theorem MK (p:ms.Perm ns) (nd:ms.Nodup):(ms.map λm=>ns.idxOf m).Perm (List.range ns.length):=by
 refine (p.map _).trans (.of_eq ?_);refine yX (by simp) λi h1 h2=>?_;rw[yR,List.getElem_range,dB (p.nodup_iff.mp nd)]
theorem gz {l:List Int}{m:Int} (h:m∈l):l.getD (l.idxOf m) 0=m:=by
 rw[yl,yb (y8 h)];exact QT _
theorem Vx (h:vw ms ns):ms.Perm ns:=List.perm_iff_count.mpr h
theorem MG {l:List Int} (nd:l.Nodup) {i:Nat} (hi:i<l.length) (hj:j<l.length) (e:l.getD i 0=l.getD j 0):i=j:=by rw[<-zx nd hi,e,zx nd hj]
theorem lI {Mp M:Ji} (h:JM S1 S2 held (Ms++[Mp]++[M])) (AY:S1.ok) (A2:S2.ok) (w1:S1.wf) (ec:cs Mp=cs M) (ev:M.even) (nd:M.pp.Nodup):bj S1 S2 (M.pp.map λm=>M.pq.idxOf m) (M.np.map λm=>M.nq.idxOf m):=by
 have nx:=h.last rfl;have EC:=h.fits AY A2 Mp (Qp _ (yF _ (yu.mpr rfl)));have ft:=h.fits AY A2 M (yF _ (yu.mpr rfl));have pp:=Vx ev.1;have np:=Vx ev.2;have fn:=nx.fnP AY A2 EC;have st:=nx.stable AY A2 EC ec;have SM:=pp.nodup_iff.mp nd;have SN:M.np.Nodup:=by
  have e1:(List.range M.np.length).map (λi=>M.np.getD i 0)=M.np:=Uu M.np 0;rw[<-e1];refine Ud Q2 λi hi j hj e=>?_;have hi:=yE.mp hi;have hj:=yE.mp hj;rw[ft.np] at hi hj;have pr:=(nx.fnN EC (x:=.inl i) (y:=.inl j) (UR.mpr hi) (UR.mpr hj) e).2;have ei:=some_of (d:=[]) hi;have ej:=some_of (d:=[]) hj;have ne:=w1.ne _ (yk ei);obtain⟨x,hx⟩:=List.exists_mem_of_ne_nil _ ne;have:=pr.mem_iff.mp (yi.mpr #[x,hx,rfl]);obtain⟨y,hy,e⟩:=yi.mp this;have x1:=(AY.el _ (yk ei)).2 x hx;have y1:=(AY.el _ (yk ej)).2 y hy;injection e with e1 e2
  have:=st (.inl y.1) (UR.mpr y1) (.inl x.1) (UR.mpr x1) e1;have z1:=MG nd (by rw[ft.pp];exact y1) (by rw[ft.pp];exact x1) this;have z2:y.2=x.2:=Int.ofNat.inj e2;obtain⟨l,f1,f2⟩:=w1.ew i _ x.1 x.2 ei hx;obtain⟨l',f3,f4⟩:=w1.ew j _ y.1 y.2 ej hy;rw[z1,f1] at f3;cases f3;rw[z2,f2] at f4;exact Option.some.inj f4
 have lq:M.pq.length=S1.hs.length:=by rw[<-pp.length_eq,ft.pp]
 have along:∀i,i<S1.hs.length->M.pq.idxOf (M.pp.getD i 0)<S2.hs.length/\M.pq.getD (M.pq.idxOf (M.pp.getD i 0)) 0=M.pp.getD i 0:=λi hi=>by
  have:M.pp.getD i 0∈M.pq:=pp.mem_iff.mp (yk (some_of (by rw[ft.pp];exact hi)));exact#[by rw[<-ft.pq];exact y8 this,gz this]
 refine#[by rw[ya,ft.pp],by rw[ya,ft.np],by rw[<-ft.pq];exact MK pp nd,by rw[<-ft.nq];exact MK np SN,λi k e=>?_,λj k l1 l2 e e1 e2=>?_]
 ·rw[ye] at e;obtain⟨m,em,rfl⟩:=yz.mp e;have hi:i<S1.hs.length:=by rw[<-ft.pp];exact (yc.mp em).1
  have eg:M.pp.getD i 0=m:=by rw[yl,em];rfl
  obtain⟨a1,a2⟩:=along i hi;rw[eg] at a1 a2;obtain⟨M0,f0,g0⟩:=h.first AY A2 M (yF _ (yu.mpr rfl));have:=g0 (.inl i) (UR.mpr hi) (.inr (M.pq.idxOf m)) (zA.mpr a1) (eg.trans a2.symm);have:=f0.1.key (by rw[Jy,Jy];exact UR.mpr hi) (by rw[Jy,Jy];exact zA.mpr a1) this;have:(j9 S1.hs (held.map (·.1)))[i]?=(j9 S2.hs (held.map (·.2)))[M.pq.idxOf m]?:=this;rw[UW,UW,yb hi,yb a1] at this;obtain⟨x1,x2,_⟩:=ap (Option.some.inj this);rw[yb hi,yb a1,Prod.ext x1 (Int.ofNat.inj x2)]
 ·rw[ye] at e;obtain⟨m,em,rfl⟩:=yz.mp e;have hj:j<S1.es.length:=(yc.mp e1).1;have hk:=(yc.mp e2).1;have eg:M.np.getD j 0=m:=by rw[yl,em];rfl
  have mq:m∈M.nq:=np.mem_iff.mp (yk em);have pr:=(nx.fnN EC (x:=.inl j) (y:=.inr (M.nq.idxOf m)) (UR.mpr hj) (zA.mpr hk) (eg.trans (gz mq).symm)).2;have pr:((S1.es.getD j []).map λp=>(Mp.pp.getD p.1 0,(p.2:Int))).Perm ((S2.es.getD (M.nq.idxOf m) []).map λp=>(Mp.pq.getD p.1 0,(p.2:Int))):=pr;rw[yl,yl,e1,e2] at pr;have pr:(l1.map λp=>(Mp.pp.getD p.1 0,(p.2:Int))).Perm (l2.map λp=>(Mp.pq.getD p.1 0,(p.2:Int))):=pr;have Hw:Mp.pq.Nodup:=by
   rw[<-Uu Mp.pq 0];refine Ud Q2 λa ha b hb e=>?_;have ha:=yE.mp ha;have hb:=yE.mp hb;rw[EC.pq] at ha hb;exact MG SM (by rw[ft.pq];exact ha) (by rw[ft.pq];exact hb) (st (.inr a) (zA.mpr ha) (.inr b) (zA.mpr hb) e)
  have O8:=pr.map λ(x:Int×Int)=>(Mp.pq.idxOf x.1,x.2.toNat);rw[yq,yq] at O8;have SO:=(AY.el _ (yk e1)).2;have FW:=(A2.el _ (yk e2)).2;refine (List.Perm.of_eq ?_).trans (O8.trans (.of_eq ?_))
  ·refine yY λx hx=>?_;have BO:=SO x hx;obtain⟨a1,a2⟩:=along x.1 BO;have:=fn (.inl x.1) (UR.mpr BO) (.inr (M.pq.idxOf (M.pp.getD x.1 0))) (zA.mpr a1) a2.symm;have:Mp.pp.getD x.1 0=Mp.pq.getD (M.pq.idxOf (M.pp.getD x.1 0)) 0:=this;show _=(Mp.pq.idxOf (Mp.pp.getD x.1 0),(x.2:Int).toNat);rw[this,zx Hw (by rw[EC.pq];exact a1),yl,ye,some_of (d:=0) (l:=M.pp) (by rw[ft.pp];exact BO)]
   rfl
  ·refine (yY λx hx=>?_).trans (Wh l2);show (Mp.pq.idxOf (Mp.pq.getD x.1 0),(x.2:Int).toNat)=x;rw[zx Hw (by rw[EC.pq];exact FW x hx)]
   rfl
theorem f9 {m:Int}:∀{l:List Int},1<l.count m->∃i,A3 (i<l.length) (i≠l.idxOf m) (l[i]?=some m)
 | [],h=>by simp at h
 | a::l,h=>by
  by_cases z:a=m
  ·rw[z,List.count_cons_self] at h;have hm:m∈l:=List.count_pos_iff.mp '!';obtain⟨i,hi,e⟩:=yD hm;refine#[i+1,by rw[yQ];omega,?_,by rw[Qu,yb hi,e]];rw[Wg,beq_iff_eq.mpr z];exact Nat.succ_ne_zero _
  ·rw[List.count_cons_of_ne z] at h;obtain⟨i,h1,h2,h3⟩:=f9 h;refine#[i+1,by rw[yQ];omega,?_,by rw[Qu];exact h3];rw[Wg,beq_eq_false_iff_ne.mpr z];exact λe=>h2 (Nat.succ.inj e)
theorem eM {held:List Int}{k:Nat} (h:(n:Int)∈held) (e:u4 held n=u4 held k):n=k:=by
 unfold u4 at e;rw[if_pos h] at e;by_cases z:(k:Int)∈held
 ·rw[if_pos z] at e;have e:held.idxOf (n:Int)=held.idxOf (k:Int):=by omega
  have a:=QT (y8 h);have b:=QT (y8 z);simp only[e] at a;exact Int.ofNat.inj (a.symm.trans b)
 ·rw[if_neg z] at e;omega
structure Hd (n:Nat) (held:AD):Prop where
 nd:(held.map (·.1)).Nodup
 lt:∀x∈held,∃i,i<n/\x.1=(i:Nat)
theorem Hd.le (h:Hd n held):held.length<=n:=by
 have:=ul h.nd (m:=(List.range n).map λ(i:Nat)=>(i:Int)) λa ha=>by
  obtain⟨x,hx,rfl⟩:=yi.mp ha;obtain⟨i,hi,e⟩:=h.lt x hx;exact yi.mpr #[i,yE.mpr hi,e.symm]
 simpa using this
theorem Hd.snoc (h:Hd n held) {i:Nat} (hi:i<n) (hn:(i:Int) ∉ held.map (·.1)) (k:Int):Hd n (held++[((i:Int),k)]):=by
 refine#[?_,λx hx=>?_]
 ·rw[yf];refine Qd.mpr #[h.nd,y7.mpr #[yP,Qk],λa ha b hb e=>?_];have hb:b=(i:Int):=yu.mp hb;rw[e,hb] at ha;exact hn ha
 ·rcases yL.mp hx with z|z
  ·exact h.lt x z
  ·rw[yu.mp z];exact#[i,hi,rfl]
theorem Kr {M:Ji} (h:JM S1 S2 held Ms) (AY:S1.ok) (A2:S2.ok) (hM:M∈Ms) {m:Int} (hc:1<M.pp.count m):M.pp.idxOf m<S1.hs.length/\(M.pp.idxOf m:Int) ∉ held.map (·.1):=by
 have ft:=h.fits AY A2 M hM;have mm:m∈M.pp:=List.count_pos_iff.mp '!';have hp:M.pp.idxOf m<S1.hs.length:=by rw[<-ft.pp];exact y8 mm
 refine#[hp,λBB=>?_];obtain⟨i,i1,i2,i3⟩:=f9 hc;rw[ft.pp] at i1;obtain⟨M0,f0,g0⟩:=h.first AY A2 M hM;have:=g0 (.inl (M.pp.idxOf m)) (UR.mpr hp) (.inl i) (UR.mpr i1) ((gz mm).trans (by show m=M.pp.getD i 0;rw[yl,i3];rfl));have:=f0.1.key (by rw[Jy,Jy];exact UR.mpr hp) (by rw[Jy,Jy];exact UR.mpr i1) this;have:(j9 S1.hs (held.map (·.1)))[M.pp.idxOf m]?=(j9 S1.hs (held.map (·.1)))[i]?:=this;rw[UW,UW,yb hp,yb i1] at this;exact i2 (eM BB (ap (Option.some.inj this)).2.2).symm
def zm (S1 S2:uu) (held:AD):Prop:=∀p r,gV S1 S2 p r->mF S1.hs.length p held->False
theorem d9 {M:Ji} (h:JM S1 S2 held Ms) (AY:S1.ok) (A2:S2.ok) (w1:S1.wf) (w2:S2.wf) (hM:M∈Ms) {m:Int} (hc:1<M.pp.count m) (no:∀(k:Nat),M.pq[k]?=some m->zm S1 S2 (held++[((M.pp.idxOf m:Int),(k:Int))])):zm S1 S2 held:=by
 intro p r I k;have a:=h.agr I k AY A2 w1 w2 M hM;have hp:=(Kr h AY A2 hM hc).1;have mm:m∈M.pp:=List.count_pos_iff.mp '!';have e:=(a.p _ hp).trans ((yb (y8 mm)).trans (congrArg some (QT _)));refine no _ e p r I λx hx=>?_;rcases yL.mp hx with z|z
 ·exact k x z
 ·rw[yu.mp z];exact#[_,hp,rfl,rfl]
theorem sE (h:JM S1 S2 held Ms) (AY:S1.ok) (A2:S2.ok) (w1:S1.wf) (w2:S2.wf) (no:¬∀M∈Ms,M.even):zm S1 S2 held :=
 λp r I k=>no λM hM=>(h.agr I k AY A2 w1 w2 M hM).even I (h.fits AY A2 M hM)
variable {P:AS}{w:World}{K:AB}{mg:AE}{base:Heap}{t:Adr}
theorem vz {α β:Type}{F:α->β->Prop}{l:List α}{m:List β}{b:β} (h:Paired F l (m++[b])):∃l' a,A3 (l=l'++[a]) (Paired F l' m) (F a b):=by
 have ne:l≠[]:=λz=>by have:=Paired.length h;rw[z] at this;simp at this
 have e:=(List.dropLast_concat_getLast ne).symm;rw[e] at h;exact#[_,_,e,(Ug h).1,(Ug h).2]
def uf (n:Nat):V:=.int (n:Nat)
structure G4 (H H':Hp) (S1 S2:uu) (u:Addr):Prop where
 ex:∃(a b:Addr) (ps ns:List Nat),A7 (H' u=some (.tup [.str "same",.ref a,.ref b])) (H a=none) (H b=none) (a≠b) (H' a=some (.lst (ps.map uf))) (H' b=some (.lst (ns.map uf))) (bj S1 S2 ps ns)
theorem G4.trans {H0 H':Hp}{u:Addr} (r:G4 H H' S1 S2 u) (s:Same H0 H):G4 H0 H' S1 S2 u:=by
 obtain⟨a,b,ps,ns,e1,e2,e3,e4,e5,e6,e7⟩:=r.ex;exact#[a,b,ps,ns,e1,Same.nn s e2,Same.nn s e3,e4,e5,e6,e7]
def qR (C:Addr) (d:Nat):Sp:=λvs H Q _=>E8 λ(bo o1 o2 hl:Addr) (S1 S2:uu) (us:AI) (held:AD)=>rz (vs=[.ref bo,.ref hl]) (H bo=some (.tup [.ref o1,.ref o2])) (uX H C o1 S1) (uX H C o2 S2) (A4 S1.ok S2.ok S1.wf S2.wf) (H hl=some (.lst (us.map V.ref))) (KeyAt H us (held.map kI)) (Hd S1.hs.length held/\S1.hs.length<held.length+d)
 (∀u H',Same H H'->G4 H H' S1 S2 u->Q (.ref u) H')
 (∀u z r H',Same H H'->H' u=some (.tup (.str z::r))->z≠"same"->zm S1 S2 held->Q (.ref u) H')
local macro_rules|`(tactic| decide)=>`(tactic| (simp only[Nat.add_eq];omega))
theorem mn (T:Txt K mg t) (d:Nat):j0 P w K mg base (5+d) "alike_with" ["both","held"] (qR t.jT d):=by
 induction d with
 | zero =>
  refine T.zY.ok ["both","held","rounds","odd","marks","mark","shared","least","part","rows","number","told"] ?_;rintro _ H Q E ⟨bo,o1,o2,hl,S1,S2,us,held,rfl,hb,k1,k2,ok,hh,KA,⟨h1,h2⟩,q1,q2⟩;exact absurd h1.le '!'
 | succ d Bh =>
  refine T.zY.ok ["both","held","rounds","odd","marks","mark","shared","least","part","rows","number","told"] ?_;rintro _ H Q E ⟨bo,o1,o2,hl,S1,S2,us,held,rfl,hb,k1,k2,⟨AY,A2,w1,w2⟩,hh,KA,⟨h1,h2⟩,q1,q2⟩;refine#[rfl,λAZ A outer s hr=>#[_,(jf (ju 2 (jo (mr T) (ja (pv 0) (ja (pv 1) jb)))) (jf (ju 3 (jo (nu T) (ja (pv 2) jb))) (jf (Jo (fh (qz (pv 3))) (jj (jH (pv 3))) jR) (jf (ju 4 (uQ (jp jF (pv 2) (GP ZB jk)) JP)) (jf (Uh 6 (N0:=["both","held","rounds","odd","marks",".mark","shared","least","part","rows","number","told"]) (own:=["mark"]) (uO (cl:=[("marks",_)])) (jO (jp jF (pv 4) jk)) (λ_ _ _ _ _=>jl 12) (λ_ _ _ _ _=>eY (Jq ck (Jm PySem.F.plainAttrs_list PySem.F.slot_list_count PySem.F.type_list_count vE (jp jF (pv 4) jk) (ja (pv 12) jb)) jk)) (λ_ _ _ _ _=>(pv 12))) (jf (Jo (Jj (nW (pv 6) (λ_=>rfl))) (jj (jH (Jn (ja JP (ja (jo (NT T) (ja (pv 4) jb)) (ja (jo (NT T) (ja (uQ (jp jF (pv 2) (GP ZB jk)) JP) jb)) jb)))))) jR) (jf (ju 7 (jx K5 (by rfl) T.wA wg (ja (pv 6) jb))) (jf (ju 8 (Jm PySem.F.plainAttrs_list PySem.F.slot_list_index PySem.F.type_list_index VC (jp jF (pv 4) jk) (ja (pv 7) jb))) (jf (ju 9 (Jb jb)) (jf (j7 jQ (uL rfl rfl T.Jw (ja (jp jF (pv 4) jk) jb)) (Jv (jt (jl 10) (jt (jl 5) Jc))) (jj (Jo (Jq mO (pv 5) (pv 7)) (jf (ju 11 (jo Bh (ja (pv 0) (ja (jK vc (pv 1) (Jb (ja (Jn (ja (pv 8) (ja (pv 10) jb))) jb))) jb)))) (jf (Jo (Jq mO (jp jL (pv 11) jk) JP) (jj (jH (pv 11))) jR) (jj (j6 (Jm PySem.F.plainAttrs_list PySem.F.slot_list_append PySem.F.type_list_append j3 (pv 9) (ja (Jn (ja (pv 10) (ja (pv 11) jb))) jb)))))) jR))) (jj (jH (Jn (ja JP (ja (pv 8) (ja (pv 9) jb)))))))))))))))),?_]];have hle:=h1.le;have h8:=AY.h;refine pe (λ(L:Addr) (ds:AI) (Ms:List Ji) (Mp M:Ji)=>[oR bo,oR hl,oR L,none,none,none,none,none,none,none,none,none]) (λL ds Ms Mp M H'=>A6 (Same H H') (H L=none) (H' L=some (.lst (ds.map V.ref))) (VO H' ds (Ms++[Mp]++[M])) (JM S1 S2 held (Ms++[Mp]++[M])) (cs Mp=cs M)) (λB hB=>#[_,rfl,_,rfl,bo,o1,o2,hl,S1,S2,us,held,rfl,hb,k1,k2,#[AY,A2],hh,#[KA,by omega],λL ds Ms Mp M H1 s1 hL eL RA Rd ec=>hB L ds Ms Mp M H1 #[s1,hL,eL,RA,Rd,ec]]) ?_;rintro L ds Ms Mp M H1 ⟨s1,hL,eL,RA,Rd,ec⟩;have fits:=Rd.fits AY A2;refine JF (λ(v:V)=>[oR bo,oR hl,oR L,some v,none,none,none,none,none,none,none,none]) (λv H'=>A3 (Same H1 H') ((v=.non/\∀X∈Ms++[Mp]++[M],X.even)\/∃u r,A3 (v=.ref u) (H' u=some (.tup (.str "marks"::r))) (¬∀X∈Ms++[Mp]++[M],X.even)) True) (λB hB=>#[_,rfl,L,ds,_,rfl,eL,RA,λX hX=>(fits X hX).len AY A2,λev H2 s2=>hB .non H2 #[s2,.inl #[rfl,ev],trivial],λne u r H2 s2 e=>hB (.ref u) H2 #[s2,.inr #[u,r,rfl,e,ne],trivial]]) ?_;rintro v H2 ⟨s2,hv,_⟩;have Bl:=Same.trans s1 s2;rcases hv with ⟨rfl,ev⟩|⟨u,r,rfl,eu,ne⟩
  rotate_left
  ·refine J0 [] (λ_=>False) (λB hB=>#[_,rfl,_,rfl,JI #[_,rfl,q2 u _ r H2 Bl eu (by decide +kernel) (sE Rd AY A2 w1 w2 ne)]]) ?_;exact λH' h=>h.elim
  refine J0 [oR bo,oR hl,oR L,some .non,none,none,none,none,none,none,none,none] (λH'=>H'=H2) (λB hB=>#[_,rfl,_,rfl,hB _ rfl]) ?_;rintro H2 rfl;have hM:M∈Ms++[Mp]++[M]:=yF _ (yu.mpr rfl);have ft:=fits M hM;obtain⟨dr,d0,rfl,_,mk⟩:=vz (RA.same s2);obtain⟨R1,R2,em,⟨a,b,f1,f2,f3⟩,t2⟩:=mk;have CQ:=s2 _ _ eL;have lp:M.pp.length<=8:=by rw[ft.pp];exact AY.h
  have lq:M.pq.length<=8:=by rw[ft.pq];exact A2.h
  refine J0 [oR bo,oR hl,oR L,some .non,oR R1,none,none,none,none,none,none,none] (λH'=>H'=H2) (λB hB=>#[_,rfl,1,rfl,L,_,-1,.ref d0,rfl,rfl,jg.of CQ,by rw[yf];exact UN _ _,d0,.ref R1,rfl,by rw[<-zL (.ref R1) (.ref R2)];exact JG.k (k:=.inr "part") em,hB _ rfl]) ?_;rintro H2 rfl;refine JF (λ(D:Addr)=>[oR bo,oR hl,oR L,some .non,oR R1,none,oR D,none,none,none,none,none]) (λD H'=>A3 (Same H2 H') (H' D=some (.lst ((M.pp.filter λm=>decide ((1:Int)<(M.pp.count m:Nat))).map V.int))) True) (λB hB=>?_) ?_
  ·refine#[_,rfl,R1,_,0,.ref a,rfl,rfl,jg.of f1,rfl,a,rfl,#[_,jg.of f2],Ut (xs:=M.pp.map V.int) (λx=>match x with|.int m=>decide ((1:Int)<(M.pp.count m:Nat))|_=>false) (λx=>x) (jg.of f2) (by rw[ya];exact yp lp '$') (λx hx H' Qy Qn s' hy hn=>?_) λD hD=>?_]
   ·obtain⟨m,De,rfl⟩:=yi.mp hx;exact#[#[_,rfl,rfl],_,rfl,R1,_,0,.ref a,rfl,rfl,jg.of (s' _ _ f1),rfl,.inl #[rfl,_,jg.of (s' _ _ f2)],_,rfl,a,M.pp,m,rfl,rfl,s' _ _ f2,_,1,rfl,rfl,_,rfl,iO (λh=>#[_,rfl,hy (decide_eq_true h)]) λh=>hn (decide_eq_false h)]
   ·refine hB D _ #[jh (Same.refl H2) hD,?_,trivial];rw[jc,List.filter_map,List.map_id']
    rfl
  rintro D H3 ⟨s3,eD,_⟩;have Bb:=Same.trans Bl s3;have LC:=s3 _ _ f1;have LD:=s3 _ _ f2;have LH:=s3 _ _ f3;have DP:∀m,m∈(M.pp.filter λm=>decide ((1:Int)<(M.pp.count m:Nat)))->1<M.pp.count m:=λm hm=>by have:=of_decide_eq_true (QL.mp hm).2;omega
  by_cases hs:(M.pp.filter λm=>decide ((1:Int)<(M.pp.count m:Nat)))=[]
  ·refine J0 [] (λ_=>False) (λB hB=>#[_,rfl,false,.inl #[_,jg.of eD,by rw[hs];rfl],?_]) (λH' h=>h.elim);have nd:M.pp.Nodup:=List.nodup_iff_count.mpr λm=>by
    by_cases hm:m∈M.pp
    ·have:=List.filter_eq_nil_iff.mp hs m hm;rw[decide_eq_true_eq] at this;omega
    ·rw[List.count_eq_zero.mpr hm];exact yT _
   have R:=lI Rd AY A2 w1 ec (ev M hM) nd;have p1:=Vx (ev M hM).1;have p2:=Vx (ev M hM).2;have ln:=ft.len AY A2;refine#[_,rfl,R1,M.pp,M.pq,rfl,#[a,b,LC,LD,LH],λm hm=>p1.mem_iff.mp hm,#[by omega,by omega],λD1 H4 s4 SQ LJ=>?_];have LK:=Same.trans s3 s4;refine#[_,rfl,1,rfl,L,_,-1,.ref d0,rfl,rfl,jg.of (LK _ _ CQ),by rw[yf];exact UN _ _,d0,.ref R2,rfl,by rw[<-ZV (.ref R1) (.ref R2)];exact JG.k (k:=.inr "net") (LK _ _ em),R2,M.np,M.nq,rfl,t2.same LK,λm hm=>p2.mem_iff.mp hm,#[by omega,by omega],λD2 H5 s5 Lb Hn=>#[tf,λu hu=>?_]];have Bj:=Same.trans Bb s4;refine q1 u _ (jh (Same.trans Bj s5) hu) #[D1,D2,_,_,jc,Same.nn Bb SQ,Same.nn Bj Lb,jy LJ Lb,?_,?_,R]
   ·rw[jw (jy (s5 _ _ LJ) hu),s5 _ _ LJ,yq,yq];rfl
   ·rw[jw (jy Hn hu),Hn,yq,yq];rfl
  refine J0 [oR bo,oR hl,oR L,some .non,oR R1,none,oR D,none,none,none,none,none] (λH'=>H'=H3) (λB hB=>#[_,rfl,true,.inl #[_,jg.of eD,by cases e:(M.pp.filter λm=>decide ((1:Int)<(M.pp.count m:Nat))) with|nil=>exact absurd e hs|cons _ _=>rfl],hB _ rfl]) ?_;rintro H3 rfl;refine JF (λ(m:Int)=>[oR bo,oR hl,oR L,some .non,oR R1,none,oR D,some (.int m),none,none,none,none]) (λm H'=>H'=H3/\1<M.pp.count m) (λB hB=>#[_,rfl,D,_,rfl,jg.of eD,List.length_pos_iff.mpr hs,λm hm _=>hB m _ #[rfl,DP m hm]]) ?_;rintro m H3 ⟨rfl,hc⟩;have mm:m∈M.pp:=List.count_pos_iff.mp '!';refine J0 [oR bo,oR hl,oR L,some .non,oR R1,none,oR D,some (.int m),some (.int (M.pp.idxOf m:Nat)),none,none,none] (λH'=>H'=H3) (λB hB=>#[_,rfl,R1,_,0,.ref a,rfl,rfl,jg.of LC,rfl,.inl #[rfl,_,jg.of LD],_,rfl,a,M.pp,m,rfl,rfl,LD,by omega,mm,hB _ rfl]) ?_;rintro H3 rfl;obtain⟨pl,pn⟩:=Kr Rd AY A2 hM hc;generalize ep:M.pp.idxOf m=part at *;refine JF (λ(W:Addr)=>[oR bo,oR hl,oR L,some .non,oR R1,none,oR D,some (.int m),some (.int (part:Nat)),oR W,none,none]) (λW H'=>A3 (Same H3 H') (H3 W=none) (H' W=some (.lst []))) (λB hB=>#[UY,λW hW=>hB W _ #[jh (Same.refl H3) hW,hW,jc]]) ?_;rintro W H4 ⟨s4,hW,eW⟩;refine GR (λ(v5 v10 v11:Option V) (ys:List V)=>[oR bo,oR hl,oR L,some .non,oR R1,v5,oR D,some (.int m),some (.int (part:Nat)),oR W,v10,v11]) (λ_ _ _ ys H'=>A3 (Same H3 H') (H' W=some (.lst ys)) (∀k:Nat,M.pq[k]?=some m->zm S1 S2 (held++[((part:Int),(k:Int))]))) (λB hB=>?_) ?_
  ·refine#[_,rfl,R1,_,1,.ref b,rfl,rfl,jg.of (s4 _ _ LC),rfl,b,rfl,#[_,jg.of (s4 _ _ LH)],uC (xs:=M.pq.map V.int) (λi σ H'=>E4 λ(v5 v10 v11:Option V) (ys:List V)=>A5 (σ=[oR bo,oR hl,oR L,some .non,oR R1,v5,oR D,some (.int m),some (.int (part:Nat)),oR W,v10,v11]) (Same H3 H') (H' W=some (.lst ys)) (ys.length<=i) (∀k:Nat,k<i->M.pq[k]?=some m->zm S1 S2 (held++[((part:Int),(k:Int))]))) #[_,_,_,[],rfl,s4,eW,yh _,λk h=>absurd h (QB _)] (λi σ H' _ h=>by obtain⟨_,_,_,_,_,e,_⟩:=h;exact jg.of (e _ _ LH)) ?_ ?_]
   ·rintro i x p σ H5 hx hp ⟨v5,v10,v11,ys,rfl,s5,FX,ly,no⟩;obtain⟨mk,ek,rfl⟩:=jS hx;have li:i<M.pq.length:=(yc.mp ek).1
    exists H6,s6,e6,H5,p,hp,.tup [.int (i:Int),.int mk]
    have Bm:=Same.trans s5 s6;refine#[p,_,rfl,jB.of e6,rfl,_,_,rfl,_,_,rfl,rfl,?_];refine#[_,rfl,_,rfl,rfl,_,rfl,?_];by_cases Co:mk=m
    rotate_left
    ·refine bX (λz=>Co (V.int.inj z)) #[_,_,_,ys,rfl,Bm,s6 _ _ FX,by omega,λk hk FY=>?_];by_cases z:k=i
     ·rw[z,ek] at FY;exact absurd (Option.some.inj FY) Co
     ·exact no k '!' FY
    subst Co;refine bY rfl ?_;have ED:=Same.trans Bb Bm;refine Vo (λ(u:Addr) (_:Unit)=>[oR bo,oR hl,oR L,some .non,oR R1,some (.int mk),oR D,some (.int mk),some (.int (part:Nat)),oR W,some (.int i),oR u]) (λu _ H'=>A3 (Same H6 H') (G4 H6 H' S1 S2 u\/∃z r,A3 (H' u=some (.tup (.str z::r))) (z≠"same") (zm S1 S2 (held++[((part:Int),(i:Int))]))) True) (λB hB=>#[_,rfl,_,rfl,_,rfl,_,rfl,Uz,λu5 Ll=>#[s0,λl6 O9=>?_]]) ?_
    ·have t1:=jh (o:=.tup [.int (part:Nat),.int (i:Int)]) (Same.refl H6) Ll;have eu:upd H6 u5 (.tup [.int (part:Nat),.int (i:Int)]) u5=some (.tup [.int (part:Nat),.int (i:Int)]):=jc;generalize upd H6 u5 (.tup [.int (part:Nat),.int (i:Int)])=H7 at t1 eu O9
     exists H8,t2,el,H7,l6,O9,.lst [.ref u5]
     have Pa:=Same.trans t1 t2;have SR:=Same.trans ED Pa;have lu:us.length=held.length:=by have:=KA.1;rwa [ya] at this
     refine#[hl,l6,_,_,rfl,rfl,SR _ _ hh,el,by rw[ya];exact yp (show us.length+1<=100 by omega) '$',λl7 SS=>?_];have t3:=jh (o:=.lst (us.map V.ref++[.ref u5])) (Same.refl H8) SS;have e7:upd H8 l7 (.lst (us.map V.ref++[.ref u5])) l7=some (.lst ((us++[u5]).map V.ref)):=by rw[jc,yf];rfl
     generalize upd H8 l7 (.lst (us.map V.ref++[.ref u5]))=H9 at t3 e7;have Hx:=Same.trans Pa t3;have Hy:=Same.trans ED Hx;refine#[bo,o1,o2,l7,S1,S2,us++[u5],held++[((part:Int),(i:Int))],rfl,Hy _ _ hb,k1.same Hy,k2.same Hy,#[AY,A2,w1,w2],e7,?_,#[h1.snoc pl pn _,by rw[yj];show _<held.length+1+d;omega],λu H' s' r=>hB u () H' #[Same.trans Hx s',.inl (r.trans Hx),trivial],λu z r H' s' e ne no=>hB u () H' #[Same.trans Hx s',.inr #[z,r,e,ne,no],trivial]];rw[yf];exact uD (KeyAt.mono' KA Hy) (Same.trans t2 t3 _ _ eu)
    rintro u _ H7 ⟨s7,hu,_⟩;have CU:=Same.trans ED s7;have SV:=Same.trans Bm s7;rcases hu with hu|⟨z,r,eu,zn,nz⟩
    ·refine J0 [] (λ_=>False) (λB hB=>?_) (λH' h=>h.elim);obtain⟨ra,rb,rp,rn,g1,_⟩:=hu.ex;exact#[_,rfl,u,_,0,.str "same",rfl,rfl,jB.of g1,rfl,rfl,_,rfl,bY rfl #[_,rfl,q1 u H7 CU (hu.trans ED)]]
    refine J0 [oR bo,oR hl,oR L,some .non,oR R1,some (.int mk),oR D,some (.int mk),some (.int (part:Nat)),oR W,some (.int i),oR u] (λH'=>H'=H7) (λB hB=>#[_,rfl,u,_,0,.str z,rfl,rfl,jB.of eu,Je (j:=0) rfl,rfl,_,rfl,bX (λq=>zn (V.str.inj q)) (hB _ rfl)]) ?_;rintro H7 rfl;have Pb:=s7 _ _ (s6 _ _ FX);refine#[_,rfl,.inl #[rfl,_,jg.of Pb],_,rfl,_,rfl,Uz,λu8 LL=>?_];have s8:=jh (o:=.tup [.int (i:Int),.ref u]) (Same.refl H7) LL;generalize upd H7 u8 (.tup [.int (i:Int),.ref u])=H8 at s8;refine#[W,_,_,rfl,rfl,s8 _ _ Pb,yK (show ys.length<=100 by omega) '$',_,_,_,ys++[.ref u8],rfl,jM (Same.trans SV s8) hW,jc,by rw[yj];show ys.length+1<=_;omega,λk hk FY=>?_];by_cases z:k=i
    ·rw[z];exact nz
    ·exact no k '!' FY
   ·rintro σ H5 ⟨v5,v10,v11,ys,rfl,s5,FX,ly,no⟩;rw[ya] at no;exact hB _ _ _ ys _ #[s5,FX,λk ek=>no k (yc.mp ek).1 ek]
  rintro v5 v10 v11 ys H5 ⟨s5,FX,no⟩;refine#[_,rfl,_,rfl,tf,λu hu=>q2 u _ _ _ (jh (Same.trans Bb s5) hu) jc (by decide +kernel) (d9 Rd AY A2 w1 w2 hM hc λk ek=>?_)];rw[ep];exact no k ek
variable {P:AS}{w:World}{K:AB}{mg:AE}{base:Heap}{t:Adr}
noncomputable def fP (xs:List Jp) (k:JC):Nat:=UG (xs.map (·.name)) k.1
noncomputable def ci (ys:List JL) (k:JC):Str:=match Jh (j5 ys) (kP k) with|some (.str z)=>z|_=>""
noncomputable def fN (ys:List JL) (k:JC):Nat:=UG (ys.map (·.1)) (ci ys k)
noncomputable def vv (xs:List Jp) (ys:List JL) (ks:List JC):List (List Nat):=(List.range xs.length).map λi=>(ks.filter λk=>decide (fP xs k=i)).map (fN ys)
noncomputable def UQ (xs:List Jp) (ys:List JL) (ks:List JC):List (List (Nat×Nat)):=(List.range ys.length).map λj=>(ks.filter λk=>decide (fN ys k=j)).map λk=>(fP xs k,k.2.toNat)
def hsOf (xs:List Jp):List (Str×Nat):=xs.map λx=>(x.kind,x.many)
noncomputable def ve (xs:List Jp) (ys:List JL) (ks:List JC):uu:=#[hsOf xs,vv xs ys ks,UQ xs ys ks]
theorem cw {α:Type}{l:List α} (nd:l.Nodup) {i:Nat} {a:α} (h:l[i]?=some a):UG l a=i:=by
 have e:=vt (yk h);obtain⟨h1,e1⟩:=yc.mp e;obtain⟨h2,e2⟩:=yc.mp h;exact GE nd h1 h2 (e1.trans e2.symm)
theorem zC {x:Jp}{k:JC} (h:k∈x.pins):∃q:Nat,q<x.many/\k=(x.name,(q:Int)):=by
 obtain⟨q,hq,rfl⟩:=yi.mp h;exact#[q,yE.mp hq,rfl]
theorem gL {x:Jp}{q:Nat} (h:q<x.many):x.pins[q]?=some (x.name,(q:Int)):=by
 unfold Jp.pins vA;rw[ye,QN h]
 rfl
theorem gM (x:Jp):x.pins.length=x.many:=by unfold Jp.pins vA;simp
theorem Gm (nd:(xs.map (·.name)).Nodup) {i:Nat} {x:Jp} (h:xs[i]?=some x) {k:JC} (hk:k∈x.pins):fP xs k=i:=by
 obtain⟨q,_,rfl⟩:=zC hk;exact cw nd (by rw[ye,h];rfl)
theorem M7 (G:um xs ys) (h:ys[j]?=some y) {k:JC} (hk:k∈y.2):Jh (j5 ys) (kP k)=some (.str y.1)/\ci ys k=y.1:=by
 have hm:(kP k,V.str y.1)∈j5 ys:=QH.mpr #[y,yk h,yi.mpr #[k,hk,rfl]];obtain⟨i,hi,e⟩:=yD hm;have:=aX (MS G.nd) (i:=i) (by rw[yb hi,e]);refine#[this,?_];unfold ci;rw[this]
theorem bI (G:um xs ys) (h:ys[j]?=some y) {k:JC} (hk:k∈y.2):fN ys k=j:=by
 unfold fN;rw[(M7 G h hk).2];exact cw G.names2 (by rw[ye,h];rfl)
theorem flt {α β:Type} (F:β->Nat) (B:α->List β):∀(zs:List α) (o:Nat),(∀(i:Nat) z,zs[i]?=some z->∀k∈B z,F k=o+i)->∀(i:Nat) z,zs[i]?=some z->(zs.flatMap B).filter (λk=>decide (F k=o+i))=B z
 | [],_,_,_,_,e=>by simp at e
 | a::zs,o,h,0,z,e=>by
  have e:a=z:=by simpa using e
  rw[QK,Q5,e,Qz.mpr λk hk=>decide_eq_true (h 0 z (by rw[e];rfl) k hk),List.filter_eq_nil_iff.mpr,QM];intro k hk;obtain⟨b,hb,hk⟩:=QH.mp hk;obtain⟨i,hi,rfl⟩:=yD hb;have:=h (i+1) zs[i] (by rw[Qu,yb hi]) k hk;rw[decide_eq_true_eq];omega
 | a::zs,o,h,i+1,z,e=>by
  have e:zs[i]?=some z:=by simpa using e
  have ih:=flt F B zs (o+1) (λi z e k hk=>by have:=h (i+1) z (by rw[Qu];exact e) k hk;omega) i z e;rw[QK,Q5,List.filter_eq_nil_iff.mpr,List.nil_append,<-ih]
  ·congr 1;funext k;congr 2;omega
  ·intro k hk;have:=h 0 a rfl k hk;rw[decide_eq_true_eq];omega
theorem rX {α β:Type}{F:β->Nat}{B:α->List β}{zs:List α} (h:∀(i:Nat) z,zs[i]?=some z->∀k∈B z,F k=i) {i:Nat} {z:α} (e:zs[i]?=some z):(zs.flatMap B).filter (λk=>decide (F k=i))=B z:=by
 have:=flt F B zs 0 (λi z e k hk=>by rw[h i z e k hk,QD]) i z e;rwa [QD] at this
structure uc (ys:List JL) (ks:List JC):Prop where
 pm:ks.Perm (JK ys)
 so:(ks.map kP).Pairwise λa b=>lx b a=false
theorem NW (z:Str) (n:Nat):((vA z n).map kP).Pairwise λa b=>lx b a=false:=by
 unfold vA;rw[yq];refine Qx.mpr (List.pairwise_lt_range.imp λ{a b} h=>?_);show (if (Sum.inr z:Key)=Sum.inr z then (if (Sum.inl (b:Int):Key)=Sum.inl (a:Int) then lx [] [] else V4 (Sum.inl (b:Int)) (Sum.inl (a:Int))) else V4 (Sum.inr z) (Sum.inr z))=false;rw[if_pos rfl];split
 ·rfl
 ·exact decide_eq_false '!'
section
variable {xs:List Jp}{ys:List JL}{ks:List JC}
theorem t8 (G:um xs ys) (S:uc ys ks) {i:Nat} {x:Jp} (h:xs[i]?=some x):ks.filter (λk=>decide (fP xs k=i))=x.pins:=by
 have p:(ks.filter λk=>decide (fP xs k=i)).Perm x.pins:=((S.pm.trans G.pm).filter _).trans (.of_eq (rX (λi z e k hk=>Gm G.names e hk) h));exact (Qt λ_ _ e=>MT e).mp (vI (p.map kP) (S.so.sublist (List.filter_sublist.map kP)) (NW _ _))
theorem dh (G:um xs ys) (S:uc ys ks) (h:ys[j]?=some y):(ks.filter λk=>decide (fN ys k=j)).Perm y.2 :=
 (S.pm.filter _).trans (.of_eq (rX (λi z e k hk=>bI G e hk) h))
theorem GX (G:um xs ys) (S:uc ys ks) {i:Nat} {x:Jp} (h:xs[i]?=some x):(vv xs ys ks)[i]?=some (x.pins.map (fN ys)):=by
 unfold vv;rw[ye,QN (yc.mp h).1,Option.map_some,t8 G S h]
theorem Gk (h:j<ys.length):(UQ xs ys ks)[j]?=some ((ks.filter λk=>decide (fN ys k=j)).map λk=>(fP xs k,k.2.toNat)):=by
 unfold UQ;rw[ye,QN h]
 rfl
theorem ZD:(vv xs ys ks).length=xs.length:=by unfold vv;simp
theorem Zg:(UQ xs ys ks).length=ys.length:=by unfold UQ;simp
theorem cT (S:uc ys ks) {k:JC} (h:k∈ks):∃(j:Nat) (y:JL),ys[j]?=some y/\k∈y.2:=by
 obtain⟨y,hy,hk⟩:=QH.mp (S.pm.mem_iff.mp h);obtain⟨j,hj,rfl⟩:=yD hy;exact#[j,_,yb hj,hk]
theorem G7 (G:um xs ys) (S:uc ys ks) {k:JC} (h:k∈ks):∃(i:Nat) (x:Jp),xs[i]?=some x/\k∈x.pins:=by
 obtain⟨y,hy,hk⟩:=QH.mp (G.pm.mem_iff.mp (S.pm.mem_iff.mp h));obtain⟨j,hj,rfl⟩:=yD hy;exact#[j,_,yb hj,hk]
theorem bU (G:um xs ys) (S:uc ys ks) {i:Nat} {x:Jp} (h:xs[i]?=some x) {k:JC} (hk:k∈x.pins):k∈ks :=
 S.pm.mem_iff.mpr (G.pm.mem_iff.mpr (QH.mpr #[x,yk h,hk]))
theorem oH (G:um xs ys) (S:uc ys ks) {k:JC} (h:k∈ks):fN ys k<ys.length:=by
 obtain⟨j,y,e,hk⟩:=cT S h;rw[bI G e hk];exact (yc.mp e).1
theorem wj (G:um xs ys) (S:uc ys ks) {k:JC} (h:k∈ks):fP xs k<xs.length:=by
 obtain⟨j,y,e,hk⟩:=G7 G S h;rw[Gm G.names e hk];exact (yc.mp e).1
theorem dM (G:um xs ys) (S:uc ys ks):ks.length<64:=by
 rw[S.pm.length_eq];exact G.tl
theorem fF (G:um xs ys) (S:uc ys ks):(ve xs ys ks).ok:=by
 have hl:(hsOf xs).length=xs.length:=by unfold hsOf;rw[ya]
 refine#[by show (hsOf xs).length<=8;rw[hl];exact G.few,by show (vv xs ys ks).length=(hsOf xs).length;rw[hl,ZD],by show (UQ xs ys ks).length<=24;rw[Zg];exact G.few2,λl BC=>?_,λl BC=>?_]
 ·obtain⟨i,hi,e⟩:=yD (show l∈vv xs ys ks from BC);rw[ZD] at hi;have ex:=yb hi;have e2:=GX G S ex;rw[yb (by rw[ZD];exact hi),e] at e2;cases e2;refine#[?_,λn hn=>?_]
  ·rw[ya,gM];exact yp (G.parts _ (yB hi)).m8 '$'
  ·obtain⟨k,hk,rfl⟩:=yi.mp hn;show _<(UQ xs ys ks).length;rw[Zg];exact oH G S (bU G S ex hk)
 ·obtain⟨j,hj,rfl⟩:=yi.mp (show l∈UQ xs ys ks from BC);refine#[?_,λp hp=>?_]
  ·rw[ya];exact yK (QQ _ _) (dM G S)
  ·obtain⟨k,hk,rfl⟩:=yi.mp hp;show fP xs k<(hsOf xs).length;rw[hl];exact wj G S (QL.mp hk).1
theorem fG (G:um xs ys) (S:uc ys ks):(ve xs ys ks).wf:=by
 have key:∀{k:JC} {i q:Nat},k∈ks->fP xs k=i->k.2.toNat=q->∃x,xs[i]?=some x/\q<x.many/\k=(x.name,(q:Int)):=λ{k i q} hk e1 e2=>by
  obtain⟨i',x,ex,hx⟩:=G7 G S hk;have:=Gm G.names ex hx;obtain⟨q',hq,rfl⟩:=zC hx;have z:q'=q:=e2;exact#[x,by rw[<-e1,this];exact ex,by rw[<-z];exact hq,by rw[z]]
 refine#[λi x h=>?_,λi l q j h1 h2=>?_,λj e i q h1 h2=>?_,λe he=>?_]
 ·have h:(hsOf xs)[i]?=some x:=h;unfold hsOf at h;obtain⟨y,ey,rfl⟩:=jS h;exact#[_,GX G S ey,by rw[ya,gM]]
 ·have h1:(vv xs ys ks)[i]?=some l:=h1;have hi:i<xs.length:=by rw[<-ZD (ys:=ys) (ks:=ks)];exact (yc.mp h1).1
  have ex:=yb hi;rw[GX G S ex] at h1;cases h1;have hq:q<xs[i].many:=by have:=(yc.mp h2).1;rwa [ya,gM] at this
  rw[ye,gL hq] at h2;have h2:fN ys (xs[i].name,(q:Int))=j:=Option.some.inj h2;have hk:(xs[i].name,(q:Int))∈xs[i].pins:=yk (gL hq);have hj:j<ys.length:=by rw[<-h2];exact oH G S (bU G S ex hk)
  exact#[_,Gk hj,yi.mpr #[_,QL.mpr #[bU G S ex hk,decide_eq_true h2],by rw[Gm G.names ex hk];rfl]]
 ·have h1:(UQ xs ys ks)[j]?=some e:=h1;have hj:j<ys.length:=by rw[<-Zg (xs:=xs) (ks:=ks)];exact (yc.mp h1).1
  rw[Gk hj] at h1;cases h1;obtain⟨k,hk,ek⟩:=yi.mp h2;obtain⟨k1,k2⟩:=QL.mp hk;injection ek with e1 e2
  obtain⟨x,ex,hq,rfl⟩:=key k1 e1 e2;refine#[_,GX G S ex,?_];rw[ye,gL hq];exact congrArg some (of_decide_eq_true k2)
 ·obtain⟨j,hj,rfl⟩:=yi.mp (show e∈UQ xs ys ks from he);have hj:=yE.mp hj;have ey:=yb hj;have ne:=(G.nets _ (yB hj)).2;intro z;have z:=List.map_eq_nil_iff.mp z;have:=(dh G S ey).length_eq;rw[z] at this;exact ne (QY this.symm)
theorem tm (G:um xs ys) (S:uc ys ks) (h:ys[j]?=some y):∃e,(ve xs ys ks).es[j]?=some e/\e.Perm (y.2.map λk=>(fP xs k,k.2.toNat)) :=
 #[_,Gk (yc.mp h).1,(dh G S h).map _]
end
variable {P:AS}{w:World}{K:AB}{mg:AE}{base:Heap}{t:Adr}
theorem Gg {tv:TE}{a0 a1 a2 a3 a4 a5 a6:Option V}{a:Addr} (hv:∀Q':VK,Q' (.ref a) H->tv [a0,a1,a2,a3,a4,a5,a6] H Q') (ha:H a=some (.dK kvs))
  (q:∀(D:Addr) (vs:AI) (H':Hp),Same H H'->H D=none->H' D=some (.lst (vs.map V.ref))->vs.length=kvs.length->vs.Nodup->(∀v∈vs,A3 (H v=none) (v≠D) (H' v=some (.lst [])))->Q (.ref D) H') :
  fX P w (ZU (dy P w tv) 1 (ZM 7) (λ_ H Q=>Q true H) (tS tU)) [a0,a1,a2,a3,a4,a5,a6] H Q:=by
 refine hv _ #[a,kvs,rfl,ha,λo F=>?_];have back:∀{b},upd H a (Ua a o) b=none->H b=none:=λ{b} hb=>by
  by_cases z:b=a
  ·rw[z,F.e] at hb;cases hb
  ·rwa [jw z] at hb
 refine iw F (λD i ys H'=>∃vs:List Addr,A7 (ys=vs.map V.ref) (vs.length=i) (Same (upd H a (Ua a o)) H') (upd H a (Ua a o) D=none) (H' D=some (.lst ys)) vs.Nodup (∀v∈vs,A3 (upd H a (Ua a o) v=none) (v≠D) (H' v=some (.lst [])))) (λD hD=>#[[],rfl,rfl,jh (Same.refl _) hD,hD,jc,Qk,λv h=>nomatch h]) (λD i ys H' #[vs,h1,h2,h3,h4,h5,h6,h7]=>#[h5,by rw[h1,ya,h2];exact yh _,h3 _ _ F.e]) ?_ ?_
 ·rintro D i kv ys H' Qy Qn DC ⟨vs,rfl,hl,s1,hD,eD,nd,DG⟩ hy hn;refine#[#[_,rfl,rfl],JI #[UY,λb hb=>?_]];have s2:=jh (o:=.lst []) (Same.refl H') hb;have e2:upd H' b (.lst []) b=some (.lst []):=jc;generalize upd H' b (.lst [])=H2 at s2 e2;have nD:b≠D:=λz=>by rw[z,eD] at hb;cases hb
  refine hy _ _ (s2 _ _ eD) #[vs++[b],by rw[yf];rfl,by rw[yj,hl];rfl,jM (Same.trans s1 s2) hD,hD,jc,?_,λv hv=>?_]
  ·refine Qd.mpr #[nd,y7.mpr #[yP,Qk],λx hx y hy e=>?_];obtain⟨_,_,e3⟩:=DG x hx;rw[e,yu.mp hy,hb] at e3;cases e3
  ·rcases yL.mp hv with h|h
   ·obtain⟨g1,g2,g3⟩:=DG v h;exact#[g1,g2,jq g2 (s2 _ _ g3)]
   ·rw[yu.mp h];exact#[Same.nn s1 hb,nD,jq nD e2]
 ·rintro D ys H' hD ⟨vs,rfl,hl,s1,Hm,eD,nd,DG⟩;have ea:=s1 _ _ F.e;have Da:D≠a:=λz=>by rw[z,F.e] at hD;cases hD
  refine#[a,o,kvs,#[ea,F.hm,F.dr,F.hz],q D vs _ (λb u e=>?_) (back hD) (jq Da eD) hl nd λv hv=>?_]
  ·by_cases z:b=a
   ·rw[z,ha] at e;cases e;rw[z];exact jc
   ·rw[jw z];exact s1 _ _ (jq z e)
  ·obtain⟨g1,g2,g3⟩:=DG v hv;have va:v≠a:=λz=>by rw[z,F.e] at g1;cases g1
   exact#[back g1,g2,jq va g3]
theorem uM.trans {o:Addr}{H2:Hp} (a:uM o H H1) (b:uM o H1 H2):uM o H H2:=λx u n e=>b x u n (a x u n e)
theorem uM.of {o:Addr} (a:Same H H1):uM o H H1:=λx u _ e=>a x u e
theorem uM.put {o:Addr}{u:HO}:uM o H (upd H o u):=λx v n e=>by rw[jw n];exact e
theorem uM.nn {o b:Addr}{v:HO} (a:uM o H H1) (n:H1 o=some v) (h:H1 b=none):H b=none:=by
 cases e:H b with
 | none=>rfl
 | some u =>
  by_cases z:b=o
  ·rw[z,n] at h;cases h
  ·rw[a _ _ z e] at h;cases h
theorem rW (h w e:Addr):jY "ends" (.ref e) (jY "wires" (.ref w) (jY "heads" (.ref h) []))=fS h w e:=by kernel_rfl
def Zw (xs:List Jp):List Key:=xs.map λx=>.inr x.name
def Zq (ys:List JL):List Key:=ys.map λy=>.inr y.1
theorem MB {α β:Type} (F:α->Nat) (g:α->β) (n:Nat) (pre:List α) (k:α):((List.range n).map λi=>((pre++[k]).filter λk'=>decide (F k'=i)).map g)=((List.range n).map λi=>(pre.filter λk'=>decide (F k'=i)).map g).set (F k) ((pre.filter λk'=>decide (F k'=F k)).map g++[g k]):=by
 refine yX (by simp) λi h1 h2=>?_;rw[List.getElem_set,yR,yR,List.getElem_range,Q5];split
 ·next e=>rw[<-e,yf];simp
 ·next e=>rw[List.filter_cons_of_neg (by rw[decide_eq_true_eq];exact e)];simp
theorem oC (nd:vs.Nodup) {i:Nat} {v u:Addr} (h1:vs[i]?=some v) (h2:vs[j]?=some u) (n:j≠i):u≠v:=λz=>by
 obtain⟨a,ea⟩:=yc.mp h1;obtain⟨b,eb⟩:=yc.mp h2;exact n (GE nd b a (by rw[ea,eb,z]))
theorem ux.put {ws:List (List Nat)} (W:ux H vs ws) (nd:vs.Nodup) {i:Nat} {v:Addr} {l:List Nat} (h1:vs[i]?=some v) (n:Nat):ux (upd H v (.lst ((l.map λn=>V.int (n:Nat))++[.int (n:Nat)]))) vs (ws.set i (l++[n])):=by
 refine#[by rw[List.length_set];exact W.1,λj u m e1 e2=>?_];by_cases z:j=i
 ·subst z;rw[h1] at e1;cases e1;rw[List.getElem?_set_self (by rw[<-W.1];exact (yc.mp h1).1)] at e2;cases e2;rw[jc,yf]
  rfl
 ·rw[List.getElem?_set_ne (yZ z)] at e2;rw[jw (oC nd h1 e1 z)];exact W.2 j u m e1 e2
theorem ux.off {ws:List (List Nat)} (W:ux H vs ws) {v:Addr} {o:HO} (h:v ∉ vs):ux (upd H v o) vs ws :=
 #[W.1,λj u m e1 e2=>jq (show u≠v from λz=>h (z▸yk e1)) (W.2 j u m e1 e2)]
theorem ux.same {H':Hp}{ws:List (List Nat)} (W:ux H vs ws) (s:Same H H'):ux H' vs ws:=#[W.1,λj u m e1 e2=>s _ _ (W.2 j u m e1 e2)]
theorem Jr.same {H':Hp}{ws:List (List (Nat×Nat))} (W:Jr H vs ws) (s:Same H H'):Jr H' vs ws:=#[W.1,λj u m e1 e2=>let ⟨us,a,b⟩:=W.2 j u m e1 e2;#[us,s _ _ a,KeyAt.mono' b s]]
theorem Jr.off {ws:List (List (Nat×Nat))} (W:Jr H vs ws) {v:Addr} {o:HO} (h:v ∉ vs) (e:H v=some (.lst zs)):Jr (upd H v o) vs ws :=
 #[W.1,λj u m e1 e2=>let ⟨us,a,b⟩:=W.2 j u m e1 e2;#[us,jq (show u≠v from λz=>h (z▸yk e1)) a,b.wr e]]
theorem Jr.put {ws:List (List (Nat×Nat))} (W:Jr H vs ws) (nd:vs.Nodup) {i:Nat} {v u0:Addr} {l:List (Nat×Nat)} {x:Nat×Nat} (h1:vs[i]?=some v) (e:H v=some (.lst (us.map V.ref))) (ka:KeyAt H us (l.map kE)) (eu:H u0=some (.tup ((kE x).map kV))):Jr (upd H v (.lst (us.map V.ref++[.ref u0]))) vs (ws.set i (l++[x])):=by
 refine#[by rw[List.length_set];exact W.1,λj u m e1 e2=>?_];by_cases z:j=i
 ·subst z;rw[h1] at e1;cases e1;rw[List.getElem?_set_self (by rw[<-W.1];exact (yc.mp h1).1)] at e2;cases e2;refine#[us++[u0],by rw[jc,yf];rfl,?_];rw[yf];exact (uD ka eu).wr e
 ·rw[List.getElem?_set_ne (yZ z)] at e2;obtain⟨BH,a,b⟩:=W.2 j u m e1 e2;exact#[BH,jq (oC nd h1 e1 z) a,b.wr e]
structure xt (H H':Hp) (C o dx pd nd hl wl el:Addr) (us vs ls:AI) (xs:List Jp) (ys:List JL):Prop where
 but:uM o H H'
 ho:H' o=some (.ins C dx (fS hl wl el))
 hpd:H' pd=some (.dK (uZ (Zw xs)))
 hnd:H' nd=some (.dK (uZ (Zq ys)))
 hhl:H' hl=some (.lst (us.map V.ref))
 ku:KeyAt H' us ((hsOf xs).map kH)
 hwl:H' wl=some (.lst (vs.map V.ref))
 lv:vs.length=xs.length
 hel:H' el=some (.lst (ls.map V.ref))
 ll:ls.length=ys.length
 ev:∀v∈vs++ls,A5 (H v=none) (H' v=some (.lst [])) (v≠hl) (v≠wl) (v≠el)
 un:(vs++ls).Nodup
def tL (C CD:Addr):Sp:=λvs H Q _=>E8 λ(o dx dr:Addr) (ps ns ls:AI) (xs:List Jp) (ys:List JL)=>A5 (vs=[.ref o,.ref dr]) (H o=some (.ins C dx [])) (Dr H CD dr ps ns ls xs ys) (um xs ys)
 (∀ks H',uM o H H'->uc ys ks->uX H' C o (ve xs ys ks)->Q .non H')
theorem kD (T:Txt K mg t):mE P w K mg base 6 "Sketch" t.jT ["self","drawing"] (tL t.jT t.jG):=by
 refine T.KQ.ok T.iJ ["self","drawing","parts","nets","part","net","pin"] ?_;rintro _ H Q E ⟨o,dx,dr,ps,ns,ls,xs,ys,rfl,ho,D,G,kQ⟩;refine#[rfl,λAZ A outer s hr=>#[_,(jf (ju 2 (jo (Z7 T) (ja (j4 (Gc rfl) (by rfl) T.Uc Us (ja (ud (pv 1)) jb)) jb))) (jf (ju 3 (jo (Z7 T) (ja (j4 (Gc rfl) (by rfl) T.Uc Us (ja (Zx (cc (zV T)) (pv 1)) jb)) jb))) (jf (Vn (pv 0) (j4 (bA rfl) (by rfl) T.Uc Us (ja (eT PySem.F.plainAttrs_dict PySem.F.slot_dict_values PySem.F.type_dict_values dZ (ud (pv 1))) jb)) rfl) (jf (Vn (pv 0) (nK (zH (N0:=["self","drawing","parts","nets",".part","net","pin"]) (own:=["part"]) (uO (cl:=[])) (nM rfl (pv 2)) (λ_ _ _ _ _=>jl 7) (λ_ _ _ _ _=>Jd) (λ_ _ _ _ _=>(Jb jb)))) rfl) (jf (Vn (pv 0) (nK (zH (N0:=["self","drawing","parts","nets","part",".net","pin"]) (own:=["net"]) (uO (cl:=[])) (nM rfl (pv 3)) (λ_ _ _ _ _=>jl 7) (λ_ _ _ _ _=>Jd) (λ_ _ _ _ _=>(Jb jb)))) rfl) (jj (j7 jQ (jO (Zx (cc (VF T)) (pv 1))) (jl 6) (jf (ju 4 (uQ (pv 2) (jp jL (pv 6) jk))) (jf (ju 5 (uQ (pv 3) (nJ (pv 1) (ZY T) (ja (pv 6) jb)))) (jf (j6 (Jm PySem.F.plainAttrs_list PySem.F.slot_list_append PySem.F.type_list_append j3 (jp jF (ud (pv 0)) (pv 4)) (ja (pv 5) jb))) (jj (j6 (Jm PySem.F.plainAttrs_list PySem.F.slot_list_append PySem.F.type_list_append j3 (jp jF (ud (pv 0)) (pv 5)) (ja (Jn (ja (pv 4) (ja (jp jL (pv 6) jk) jb))) jb)))))))))))))),?_]];obtain⟨EE,pl,Pc,kd,jn,kvs,d1,d2,d3,d4,d5,d6⟩:=D.ex;have Fi:(Zw xs).Nodup:=by
  have:Zw xs=(xs.map (·.name)).map Sum.inr:=by unfold Zw;rw[yq];rfl
  rw[this];exact Ud G.names λa _ b _ e=>Sum.inr.inj e
 have Pd:(Zq ys).Nodup:=by
  have:Zq ys=(ys.map (·.1)).map Sum.inr:=by unfold Zq;rw[yq];rfl
  rw[this];exact Ud G.names2 λa _ b _ e=>Sum.inr.inj e
 have lP:(Zw xs).length=xs.length:=by unfold Zw;rw[ya]
 have lN:(Zq ys).length=ys.length:=by unfold Zq;rw[ya]
 have f1:=G.few;have f2:=G.few2;refine JF (λ(pd:Addr)=>[oR o,oR dr,oR pd,none,none,none,none]) (λpd H'=>A3 (Same H H') (H pd=none) (H' pd=some (.dK (uZ (Zw xs))))) (λB hB=>#[_,rfl,dr,_,EE,_,.ref kd,rfl,d1,T.jW,T.US,rfl,kd,kvs,rfl,d5,λl hl=>.k l (Zw xs) rfl (by rw[jc];unfold Zw;rw[<-d6.1,yq];rfl) Fi '!' λD H' s' hD eD=>hB D H' #[Same.trans (jh (Same.refl H) hl) s',Same.nn (jh (Same.refl H) hl) hD,eD]]) ?_;rintro pd H1 ⟨s1,hpd,Pf⟩;refine JF (λ(nd:Addr)=>[oR o,oR dr,oR pd,oR nd,none,none,none]) (λnd H'=>A3 (Same H1 H') (H1 nd=none) (H' nd=some (.dK (uZ (Zq ys))))) (λB hB=>#[_,rfl,dr,EE,_,rfl,s1 _ _ d1,rfl,dr,ps,ns,ls,xs,ys,rfl,D.same s1,G,λZ kz H2 s2 hZ eZ kk=>#[Z,kz,rfl,eZ,λl hl=>.k l (Zq ys) rfl (by rw[jc];unfold Zq;rw[<-kk,yq];rfl) Pd '!' λD H' s' hD eD=>hB D H' #[Same.trans s2 (Same.trans (jh (Same.refl H2) hl) s'),Same.nn (Same.trans s2 (jh (Same.refl H2) hl)) hD,eD]]]) ?_;rintro nd H2 ⟨s2,hnd,end_⟩;have Bl:=Same.trans s1 s2;have lk:kvs.length=xs.length:=by have:=congrArg List.length d6.1;rwa [ya,ya] at this
 have Pg:=d6.same Bl;obtain⟨us,SW,Ph⟩:∃us:List Addr,kvs.map (·.2)=us.map V.ref/\KeyAt H2 us ((hsOf xs).map kH):=by
  have hv:∀kv∈kvs,∃u,kv.2=V.ref u:=λkv hk=>by
   obtain⟨i,hi,rfl⟩:=yD hk;obtain⟨u,e,_⟩:=Pg.2 i _ _ (yb hi) (yb (by rw[<-lk];exact hi));exact#[u,e]
  refine#[kvs.map λkv=>match kv.2 with|.ref u=>u|_=>0,?_,?_,?_]
  ·rw[yq];refine yY λkv hk=>?_;obtain⟨u,e⟩:=hv kv hk;show kv.2=V.ref (match kv.2 with|.ref u=>u|_=>0);rw[e]
  ·unfold hsOf;rw[ya,ya,ya,lk]
  ·intro i u c h1 h2;unfold hsOf at h2;rw[yq,ye] at h2;obtain⟨kv,e1,rfl⟩:=jS h1;obtain⟨x,e2,rfl⟩:=yz.mp h2;obtain⟨u,e,h⟩:=Pg.2 i _ _ e1 e2;rw[e];exact h
 have Bw:=Bl _ _ ho;have LM:=Bl _ _ d5;refine JF (λ(hl:Addr)=>[oR o,oR dr,oR pd,oR nd,none,none,none]) (λhl H'=>A4 (uM o H2 H') (H' o=some (.ins t.jT dx (jY "heads" (.ref hl) []))) (H2 hl=none) (H' hl=some (.lst (us.map V.ref)))) (λB hB=>#[_,rfl,dr,_,EE,_,.ref kd,rfl,Bl _ _ d1,T.jW,T.US,rfl,.inr (.inr (.inl #[rfl,.inl #[_,LM]])),kd,kvs,rfl,rfl,LM,λp hp=>?_]) ?_
 ·have s3:=jh (o:=Kc p kd) (Same.refl H2) hp;have e3:upd H2 p (Kc p kd) p=some (Kc p kd):=jc;refine#[p,kd,kvs,rfl,e3,s3 _ _ LM,λl hl=>?_];have s4:=jh (o:=.lst (kvs.map (·.2))) s3 hl;have e4:upd (upd H2 p (Kc p kd)) l (.lst (kvs.map (·.2))) l=some (.lst (us.map V.ref)):=by rw[jc,SW]
  have no:l≠o:=λz=>by rw[z,s3 _ _ Bw] at hl;cases hl
  exact#[_,rfl,o,_,dx,_,rfl,s4 _ _ Bw,T.uB,T.VE,by decide,hB l _ #[(uM.of s4).trans .put,jc,Same.nn s3 hl,jq no e4]]
 rintro hl H3 ⟨b3,Cr,hhl,Pj⟩;have no:∀{q:Addr} {u:HO},H2 q=some u->(∀C dx fs,u≠.ins C dx fs)->q≠o:=λe n=>jX e Bw (n _ _ _);have ET:∀{q:Addr} {u:HO},H2 q=some u->(∀C dx fs,u≠.ins C dx fs)->H3 q=some u:=λe n=>b3 _ _ (no e n) e;have LN:=ET (s2 _ _ Pf) (by intro _ _ _ z;cases z);have end3:=ET end_ (by intro _ _ _ z;cases z);refine Vo (λ(wl:Addr) (vs:AI)=>[oR o,oR dr,oR pd,oR nd,none,none,none]) (λwl vs H'=>A7 (uM o H3 H') (H' o=some (.ins t.jT dx (jY "wires" (.ref wl) (jY "heads" (.ref hl) [])))) (H3 wl=none) (H' wl=some (.lst (vs.map V.ref))) (vs.length=xs.length) vs.Nodup (∀v∈vs,A3 (H3 v=none) (v≠wl) (H' v=some (.lst [])))) (λB hB=>?_) ?_
 ·unfold u7 lO;refine Gg (λQ' h=>#[_,rfl,h]) LN λD vs H' s' hD eD lv nv hv=>?_;have nD:D≠o:=λz=>by rw[z,Cr] at hD;cases hD
  refine#[_,rfl,o,_,dx,_,rfl,s' _ _ Cr,T.uB,T.U8,(by show (1:Nat)<1000;decide),hB D vs _ #[(uM.of s').trans .put,jc,hD,jq nD eD,by rw[lv,<-ya (f:=(·.1)),vF,lP],nv,λv h=>?_]];obtain⟨g1,g2,g3⟩:=hv v h;exact#[g1,g2,by rw[jw (λz=>by rw[z,Cr] at g1;cases g1)];exact g3]
 rintro wl vs H4 ⟨b4,Hz,hwl,Pk,lv,nv,hv⟩;have LP:=b3.trans b4;have Ho:∀{q:Addr} {u:HO},H2 q=some u->(∀C dx fs,u≠.ins C dx fs)->H4 q=some u:=λe n=>LP _ _ (no e n) e;refine zU (λ(el:Addr) (es:AI) (_:Unit)=>[oR o,oR dr,oR pd,oR nd,none,none,none]) (λel es _ H'=>xt H H' t.jT o dx pd nd hl wl el us vs es xs ys) (λB hB=>?_) ?_
 ·unfold u7 lO;refine Gg (λQ' h=>#[_,rfl,h]) (Ho end_ (by intro _ _ _ z;cases z)) λD es H' s' hD eD le ne he=>?_;have nD:D≠o:=λz=>by rw[z,Hz] at hD;cases hD
  have Pl:uM o H2 (upd H' o (.ins t.jT dx (jY "ends" (.ref D) (jY "wires" (.ref wl) (jY "heads" (.ref hl) []))))):=LP.trans ((uM.of s').trans .put);have DD:∀{q:Addr} {u:HO},H2 q=some u->(∀C dx fs,u≠.ins C dx fs)->upd H' o (.ins t.jT dx (jY "ends" (.ref D) (jY "wires" (.ref wl) (jY "heads" (.ref hl) [])))) q=some u:=λe n=>Pl _ _ (no e n) e;have vo:∀{v},H4 v=none->v≠o:=λ{v} h z=>by rw[z,Hz] at h;cases h
  have Ii:hl≠o:=λz=>by rw[z,Bw] at hhl;cases hhl
  have SX:wl≠o:=λz=>by rw[z,Cr] at hwl;cases hwl
  have FZ:=b4 _ _ Ii Pj;have o3:∀{v},H3 v=none->v≠o:=λ{v} h z=>by rw[z,Cr] at h;cases h
  refine#[_,rfl,o,_,dx,_,rfl,s' _ _ Hz,T.uB,T.UA,(by show (2:Nat)<1000;decide),hB D es () _ #[(uM.of Bl).trans Pl,by rw[jc,rW],DD (s2 _ _ Pf) (by intro _ _ _ z;cases z),DD end_ (by intro _ _ _ z;cases z),jq Ii (s' _ _ FZ),#[Ph.1,λi b k h1 h2=>DD (Ph.2 i b k h1 h2) (by intro _ _ _ z;cases z)],jq SX (s' _ _ Pk),lv,jq nD eD,by rw[le,<-ya (f:=(·.1)),vF,lN],λv h=>?_,?_]]
  ·rcases yL.mp h with h|h
   ·obtain⟨g1,g2,g3⟩:=hv v h;refine#[(uM.of Bl).trans b3 |>.nn Cr g1,jq (o3 g1) (s' _ _ g3),(λz=>by rw[z,Pj] at g1;cases g1),g2,(λz=>by rw[z,hD] at g3;cases g3)]
   ·obtain⟨g1,g2,g3⟩:=he v h;refine#[(uM.of Bl).trans LP |>.nn Hz g1,jq (vo g1) g3,(λz=>by rw[z,FZ] at g1;cases g1),(λz=>by rw[z,Pk] at g1;cases g1),g2]
  ·refine Qd.mpr #[nv,ne,λx hx y hy e=>?_];obtain⟨_,_,g3⟩:=hv x hx;obtain⟨g1,_,_⟩:=he y hy;rw[e,g1] at g3;cases g3
 rintro el es _ H5 S5;have SY:∀{b:Addr} {u:HO},H b=some u->b ∉ vs++es:=λ{b u} e z=>by rw[(S5.ev b z).1] at e;cases e
 have LQ:∀{b:Addr} {u:HO},H b=some u->(∀C dx fs,u≠.ins C dx fs)->b≠o:=λe n=>jX e ho (n _ _ _);have S0:dr≠o:=λz=>by
  rw[z,ho] at d1;have:=HO.ins.inj (Option.some.inj d1);exact absurd this.2.2 (by intro z;cases z)
 have EX:=S5.but _ _ S0 d1;have LR:=S5.but _ _ (LQ d4 (by intro _ _ _ z;cases z)) d4;refine#[_,rfl,dr,EE,_,rfl,EX,rfl,dr,EE,pl,Pc,kd,jn,ys,rfl,EX,LR,G.tl,λl bs kk H6 s6 BC Pm KA pm so=>?_];obtain⟨kp,S3⟩:∃kp:List JC,kk=kp.map kP:=#[kk.map tZ,by
  rw[yq];refine ((yY λk hk=>?_).trans (Wh kk)).symm;obtain⟨x,_,rfl⟩:=yi.mp (pm.mem_iff.mp hk)
  rfl]
 subst S3;have Sr:uc ys kp:=#[qD pm,so];have lb:bs.length=kp.length:=by have:=KA.1;rwa [ya] at this
 have kf:=dM G Sr;have LU:∀v∈vs++es,H6 v=some (.lst []):=λv hv=>s6 _ _ (S5.ev v hv).2;have Bz:∀{b:Addr} {u:HO},H6 b=some u->u≠.lst []->b ∉ vs++es:=λ{b u} e n z=>by rw[LU b z] at e;exact n (Option.some.inj e).symm
 have off:∀{b:Addr},(∀v∈vs++es,v≠b)->b ∉ vs++es:=λ{b} h z=>h b z rfl;have nl:l ∉ vs++es:=off λv hv z=>by have:=(S5.ev v hv).2;rw[z,BC] at this;cases this
 have S4:hl ∉ vs++es:=off λv hv=>(S5.ev v hv).3;have Pn:wl ∉ vs++es:=off λv hv=>(S5.ev v hv).4;have LV:el ∉ vs++es:=off λv hv=>(S5.ev v hv).5;have LW:vs.Nodup:=(Qd.mp S5.un).1;have S6:es.Nodup:=(Qd.mp S5.un).2.1;have Po:∀a∈vs,∀b∈es,a≠b:=(Qd.mp S5.un).2.2;refine#[l,rfl,#[_,jg.of Pm],uJ (xs:=bs.map V.ref) (λi σ H'=>E3 λ(v4 v5 v6:Option V)=>A4 (σ=[oR o,oR dr,oR pd,oR nd,v4,v5,v6]) (∀b u,b ∉ vs++es->H6 b=some u->H' b=some u) (ux H' vs (vv xs ys (kp.take i))) (Jr H' es (UQ xs ys (kp.take i)))) #[_,_,_,rfl,λ_ _ _ e=>e,?_,?_] (λi σ H' _ h=>by obtain⟨_,_,_,_,e,_⟩:=h;exact jg.of (e _ _ nl Pm)) ?_ ?_]
 ·refine#[by rw[ZD];exact S5.lv,λi v l h1 h2=>?_];obtain⟨j,_,e⟩:=yi.mp (yk h2);rw[<-e];exact LU v (Qp _ (yk h1))
 ·refine#[by rw[Zg];exact S5.ll,λi v l h1 h2=>?_];obtain⟨j,_,e⟩:=yi.mp (yk h2);rw[<-e];exact#[[],LU v (yF _ (yk h1)),rfl,λi b k h=>nomatch h]
 ·rintro i x σ H7 hx ⟨v4,v5,v6,rfl,BR,W7,DH⟩;obtain⟨p,ep,rfl⟩:=jS hx;have hi:i<kp.length:=by rw[<-lb];exact (yc.mp ep).1
  have ek:=yb hi;have hk:=yB hi;have tp:H6 p=some (.tup [.str kp[i].1,.int kp[i].2]):=KA.2 i p (kP kp[i]) ep (by rw[ye,ek];rfl);generalize kp[i]=k at ek hk tp;have Pp:=BR _ _ (Bz tp (λz=>nomatch z)) tp;obtain⟨i1,x1,LX,BO⟩:=G7 G Sr hk;obtain⟨j1,y1,HA,I8⟩:=cT Sr hk;have eP:=Gm G.names LX BO;have eN:=bI G HA I8;obtain⟨S7,nv2⟩:=M7 G HA I8;have q0:0<=k.2:=by obtain⟨q,_,rfl⟩:=zC BO;exact Int.natCast_nonneg q
  have kx:k.1=x1.name:=by obtain⟨q,_,rfl⟩:=zC BO;rfl
  have pP:(Zw xs)[i1]?=some (.inr k.1):=by unfold Zw;rw[ye,LX,kx];rfl
  have pN:(Zq ys)[j1]?=some (.inr y1.1):=by unfold Zq;rw[ye,HA];rfl
  have S8:=BR _ _ (Bz (s6 _ _ S5.hpd) (λz=>nomatch z)) (s6 _ _ S5.hpd);have S9:=BR _ _ (Bz (s6 _ _ S5.hnd) (λz=>nomatch z)) (s6 _ _ S5.hnd);have Pq:=BR _ _ (Bz (s6 _ _ EX) (λz=>nomatch z)) (s6 _ _ EX);have Ta:=BR _ _ (Bz (s6 _ _ LR) (λz=>nomatch z)) (s6 _ _ LR);have Tb:=BR _ _ (Bz (s6 _ _ S5.ho) (λz=>nomatch z)) (s6 _ _ S5.ho);have Tc:=BR _ _ Pn (s6 _ _ S5.hwl);have el7:=BR _ _ LV (s6 _ _ S5.hel);refine J0 [oR o,oR dr,oR pd,oR nd,some (.int (i1:Nat)),v5,oR p] (λH'=>H'=H7) (λB hB=>#[_,rfl,_,rfl,p,_,0,.str k.1,rfl,rfl,jB.of Pp,rfl,pd,.int (i1:Nat),rfl,by rw[<-gG Fi pP];exact JG.k (k:=.inr k.1) S8,hB _ rfl]) ?_;rintro H7 rfl;refine J0 [oR o,oR dr,oR pd,oR nd,some (.int (i1:Nat)),some (.int (j1:Nat)),oR p] (λH'=>H'=H7) (λB hB=>#[_,rfl,_,rfl,dr,EE,_,rfl,Pq,rfl,_,rfl,dr,EE,pl,Pc,kd,jn,p,k,j5 ys,.str y1.1,rfl,Pq,Ta,Pp,S7,nd,.int (j1:Nat),rfl,by rw[<-gG Pd pN];exact JG.k (k:=.inr y1.1) S9,hB _ rfl]) ?_;rintro H7 rfl;have Pt:=(yc.mp LX).1;have Pu:=(yc.mp HA).1;have vi:i1<vs.length:=by rw[S5.lv];exact Pt
  have ei:j1<es.length:=by rw[S5.ll];exact Pu
  have ev:=yb vi;have ee:=yb ei;have vm:=yB vi;have em:=yB ei;generalize vs[i1]=v at ev vm;generalize es[j1]=e1 at ee em;have gw:(vv xs ys (kp.take i))[i1]?=some (((kp.take i).filter λk'=>decide (fP xs k'=i1)).map (fN ys)):=by unfold vv;rw[ye,QN Pt];rfl
  have LY:=W7.2 i1 v _ ev gw;have lf:∀(f:JC->Bool),((kp.take i).filter f).length<=64:=λf=>yp (QQ _ _) (yp (List.length_take_le _ _) '!');refine JF (λ(_:Unit)=>[oR o,oR dr,oR pd,oR nd,some (.int (i1:Nat)),some (.int (j1:Nat)),oR p]) (λ_ H'=>A3 (∀b u,b ∉ vs++es->H6 b=some u->H' b=some u) (ux H' vs (vv xs ys (kp.take (i+1)))) (Jr H' es (UQ xs ys (kp.take i)))) (λB hB=>#[_,rfl,o,_,dx,_,.ref wl,rfl,Tb,T.uB,T.U8,rfl,_,rfl,wl,_,(i1:Nat),.ref v,rfl,rfl,jg.of Tc,Je (by rw[ye,ev];rfl),.inl #[rfl,_,jg.of LY],_,rfl,v,_,_,rfl,rfl,LY,by rw[ya,ya];exact yK (lf _) '$',hB () _ #[λb u n e=>?_,?_,?_]]) ?_
  ·rw[jw (λz=>n (by rw[z];exact Qp _ vm))];exact BR _ _ n e
  ·rw[jC ek];have:=W7.put LW (l:=((kp.take i).filter λk'=>decide (fP xs k'=i1)).map (fN ys)) ev j1;have e2:=MB (fP xs) (fN ys) xs.length (kp.take i) k;rw[eP,eN] at e2;unfold vv;rw[e2];exact this
  ·exact DH.off (λz=>Po v vm v z rfl) LY
  rintro _ H8 ⟨HB,W8,CV⟩;have ge:(UQ xs ys (kp.take i))[j1]?=some (((kp.take i).filter λk'=>decide (fN ys k'=j1)).map λk'=>(fP xs k',k'.2.toNat)):=Gk Pu;have Td:=HB _ _ (Bz tp (λz=>nomatch z)) tp;have Te:=HB _ _ (Bz (s6 _ _ S5.ho) (λz=>nomatch z)) (s6 _ _ S5.ho);have LB:=HB _ _ LV (s6 _ _ S5.hel);obtain⟨Bg,g1,g2⟩:=CV.2 j1 e1 _ ee ge;refine#[_,rfl,o,_,dx,_,.ref el,rfl,Te,T.uB,T.UA,rfl,_,rfl,el,_,(j1:Nat),.ref e1,rfl,rfl,jg.of LB,Je (by rw[ye,ee];rfl),.inl #[rfl,_,jg.of g1],_,rfl,_,rfl,p,_,1,.int k.2,rfl,rfl,jB.of Td,rfl,Uz,λu0 Tf=>?_];have s9:=jh (o:=.tup [.int (i1:Nat),.int k.2]) (Same.refl H8) Tf;have e9:upd H8 u0 (.tup [.int (i1:Nat),.int k.2]) u0=some (.tup ((kE (i1,k.2.toNat)).map kV)):=by
   rw[jc];show _=some (HO.tup [V.int (i1:Nat),V.int (k.2.toNat:Nat)]);rw[Int.toNat_of_nonneg q0]
  generalize upd H8 u0 (.tup [.int (i1:Nat),.int k.2])=H9 at s9 e9;have Pw:=s9 _ _ g1;have Tg:Bg.length<=64:=by have:=g2.1;rw[ya,ya] at this;rw[this];exact lf _
  refine#[e1,_,_,rfl,rfl,Pw,by rw[ya];exact yK Tg '$',_,_,_,rfl,λb u n e=>?_,(W8.same s9).off (λz=>Po e1 z e1 em rfl),?_]
  ·rw[jw (λz=>n (by rw[z];exact yF _ em))];exact s9 _ _ (HB _ _ n e)
  ·rw[jC ek];have:=(CV.same s9).put S6 (x:=(i1,k.2.toNat)) ee Pw (KeyAt.mono' g2 s9) e9;have e2:=MB (fN ys) (λk':JC=>(fP xs k',k'.2.toNat)) ys.length (kp.take i) k;rw[eP,eN] at e2;unfold UQ;rw[e2];exact this
 ·rintro σ H7 ⟨v4,v5,v6,rfl,BR,W7,DH⟩;rw[ya,lb,jN rfl] at W7 DH;refine kQ kp H7 (λb u n e=>BR _ _ (SY e) (s6 _ _ (S5.but _ _ n e))) Sr #[dx,hl,wl,el,us,vs,es,BR _ _ (Bz (s6 _ _ S5.ho) (λz=>nomatch z)) (s6 _ _ S5.ho),BR _ _ S4 (s6 _ _ S5.hhl),#[S5.ku.1,λi b k h1 h2=>?_],BR _ _ Pn (s6 _ _ S5.hwl),W7,BR _ _ LV (s6 _ _ S5.hel),DH];have e:=s6 _ _ (S5.ku.2 i b k h1 h2);exact BR _ _ (Bz e (λz=>nomatch z)) e
variable {P:AS}{w:World}{K:AB}{mg:AE}{base:Heap}{t:Adr}
structure Dw (H:Hp) (C o:Addr) (xs:List Jp) (ys:List JL):Prop where
 ex:∃ps ns ls,Dr H C o ps ns ls xs ys
 g:um xs ys
theorem Dw.same {H':Hp}{o:Addr} (d:Dw H C o xs ys) (s:Same H H'):Dw H' C o xs ys:=#[let ⟨ps,ns,ls,h⟩:=d.ex;#[ps,ns,ls,h.same s],d.g]
theorem dW {CD dr:Addr} (D:Dw H CD dr xs ys) {x dx:Addr} (hx:H x=none) (LZ:H dx=none) (ne:dx≠x) (q:∀ks H',Same H H'->uc ys ks->uX H' C x (ve xs ys ks)->Q .non H'):tL C CD [.ref x,.ref dr] (upd (upd H dx (.own x)) x (.ins C dx [])) Q E:=by
 obtain⟨ps,ns,ls,d⟩:=D.ex;have s1:=jh (o:=.own x) (Same.refl H) LZ;have s2:=jh (o:=.ins C dx []) s1 (jq (yZ ne) hx);exact#[x,dx,dr,ps,ns,ls,xs,ys,rfl,jc,d.same s2,D.g,λks H' b sr sk=>q ks H' (λb' u e=>b _ _ (jy e hx) (s2 _ _ e)) sr sk]
def lR (C:Addr):Sp:=λvs H Q _=>E6 λ(o1 o2:Addr) (Dh:List Jp) (EF:List JL) (HC:List Jp) (EY:List JL)=>A5 (vs=[.ref o1,.ref o2]) (Dw H C o1 Dh EF) (Dw H C o2 HC EY) (∀Ca BZ,uc EF Ca->uc EY BZ->∃p r,gV (ve Dh EF Ca) (ve HC EY BZ) p r)
 (∀Ca BZ u H',Same H H'->uc EF Ca->uc EY BZ->G4 H H' (ve Dh EF Ca) (ve HC EY BZ) u->Q (.ref u) H')
theorem i6 (T:Txt K mg t):j0 P w K mg base 15 "alike" ["one","other"] (lR t.jG):=by
 have Bh:=mn (P:=P) (w:=w) (base:=base) T 9;refine T.pJ.ok ["one","other"] ?_;rintro _ H Q E ⟨o1,o2,Dh,EF,HC,EY,rfl,D1,D2,iso,q⟩;refine#[rfl,λAZ A outer s hr=>#[_,(jj (jH (jo Bh (ja (Jn (ja (gK (kD T) (ja (pv 0) jb)) (ja (gK (kD T) (ja (pv 1) jb)) jb))) (ja (Jb jb) jb))))),?_]];refine#[_,rfl,λx1 dx1 BO L0 ne1=>dW D1 BO L0 ne1 λCa H1 s1 EZ Th=>#[rfl,_,rfl,λx2 dx2 Ti L5 ne2=>dW (D2.same s1) Ti L5 ne2 λBZ H2 s2 Fb Tj=>#[rfl,Uz,λu hu=>#[UY,λl hl=>?_]]]];have s3:=jh (o:=.tup [.ref x1,.ref x2]) (Same.refl H2) hu;have e3:upd H2 u (.tup [.ref x1,.ref x2]) u=some (.tup [.ref x1,.ref x2]):=jc;generalize upd H2 u (.tup [.ref x1,.ref x2])=H3 at s3 e3 hl
 exists H4,s4,e4,H3,l,hl,.lst []
 have CS:=Same.trans s3 s4;have Bj:=Same.trans s1 (Same.trans s2 CS);have AY:=fF D1.g EZ;have h8:(ve Dh EF Ca).hs.length<=8:=AY.h;refine#[u,x1,x2,l,_,_,[],[],rfl,s4 _ _ e3,Th.same (Same.trans s2 CS),Tj.same CS,#[AY,fF D2.g Fb,fG D1.g EZ,fG D2.g Fb],e4,#[rfl,λi b k h=>nomatch h],#[#[Qk,λx h=>nomatch h],by show _<0+9;omega],λu' H' s' r=>q Ca BZ u' H' (Same.trans Bj s') EZ Fb (r.trans Bj),λu' z r H' s' e ne no=>?_];obtain⟨p,r',I⟩:=iso Ca BZ EZ Fb;exact (no p r' I λx h=>nomatch h).elim
variable {P:AS}{w:World}{K:AB}{mg:AE}{base:Heap}{t:Adr}
def lS (K:AB):Sp:=λvs H Q _=>E3 λ(a:Addr) (ns:List Int) (k:Nat)=>A3 (vs=[.ref a,.int (k:Nat)]) (jg K H a (ns.map V.int)) (∀c,Q (.int c) H)
theorem V8 (T:Txt K mg t):j0 P w K mg base 1 "_law_cell_at" ["_law_script","_law_k"] (lS K):=by
 refine T.KY.ok ["_law_script","_law_k"] ?_;rintro _ H Q E ⟨a,ns,k,rfl,hq,q⟩;refine#[rfl,λAZ A outer s hr=>#[_,(jf (Jo (Jq wB (pv 1) (jx jU (by rfl) T.ut uo (ja (pv 0) jb))) (jj (jH (jp jF (pv 0) (pv 1)))) jR) (jj (jH jk))),?_]];refine#[_,rfl,_,rfl,a,_,rfl,.inl hq,(k:Nat),_,rfl,rfl,_,rfl,iO (λAX=>?_) λHk=>q 0];rw[ya] at AX;have BV:k<ns.length:=by omega
 exact#[_,rfl,_,rfl,a,_,(k:Nat),.int ns[k],rfl,rfl,hq,Je (by rw[ye,yb BV];rfl),q _]
theorem Ul {i m:Int} (h:0<m):0<=i % m/\i % m<m:=#[Int.emod_nonneg _ '!',Int.emod_lt_of_pos _ h]
def qS:Sp:=λvs H Q _=>∃(c:Int) (n:Nat),A3 (vs=[.int c,.int (n:Nat)]) (n<=24) (∀(D:Addr) (ds:List Int) (H':Hp),Same H H'->H D=none->H' D=some (.lst (ds.map V.int))->ds.length=n->(∀d∈ds,0<=d/\d<24)->Q (.ref D) H')
theorem Zt (T:Txt K mg t):j0 P w K mg base 1 "_law_draws" ["_law_cell","_law_many"] qS:=by
 refine T.Nr.ok ["_law_cell","_law_many","_law_found","_law_rest","_law_k","_law_number"] ?_;rintro _ H Q E ⟨c,n,rfl,hn,q⟩;refine#[rfl,λAZ A outer s hr=>#[_,(jf (ju 2 (Jb jb)) (jf (ju 3 (jK V9 (pv 0) jk)) (jf (j7 jQ (UX rfl T.vq (ja (pv 1) jb)) (jl 4) (jf (ju 5 (jK uF (jK Zu (jK Uy (jK Uy (jK uF (pv 0) jk) (jK Zu jk (pv 4))) jk) jk) jk)) (jf (ju 5 (jK uF (jK Zu (pv 5) (jK Uy (jK V9 (pv 5) jk) jk)) jk)) (jf (ju 5 (jK uF (jK Zu (jK Uy (pv 5) (jK V9 (jK Zu (pv 4) (pv 5)) jk)) jk) jk)) (jf (Jo (sP (Jq mO (jK uF (pv 0) jk) jk) (qI (Jq ck (pv 3) jk))).pt (jf (ju 5 (pv 3)) (jj (ju 3 (jK V9 (pv 3) jk)))) jR) (jj (j6 (Jm PySem.F.plainAttrs_list PySem.F.slot_list_append PySem.F.type_list_append j3 (pv 2) (ja (jK uF (pv 5) jk) jb))))))))) (jj (jH (pv 2)))))),?_]];refine JF (λ(D:Addr)=>[oI c,oI (n:Nat),oR D,none,none,none]) (λD H'=>A3 (Same H H') (H D=none) (H' D=some (.lst []))) (λB hB=>#[UY,λD hD=>hB D _ #[jh (Same.refl H) hD,hD,jc]]) ?_;rintro D H1 ⟨s1,hD,eD⟩;refine J0 [oI c,oI (n:Nat),oR D,oI (c / 2),none,none] (λH'=>H'=H1) (λB hB=>#[_,rfl,c,2,rfl,rfl,#[by decide,by decide],hB _ rfl]) ?_;rintro H1 rfl;refine GR (λ(r:Int) (v4 v5:Option V) (ds:List Int)=>[oI c,oI (n:Nat),oR D,oI r,v4,v5]) (λ_ _ _ ds H'=>A4 (Same H H') (H' D=some (.lst (ds.map V.int))) (ds.length=n) (∀d∈ds,0<=d/\d<24)) (λB hB=>?_) ?_
 ·refine#[_,rfl,n,rfl,by omega,by omega,Zi (lo:=0) (n:=n) (λi σ H'=>E4 λ(r:Int) (v4 v5:Option V) (ds:List Int)=>A5 (σ=[oI c,oI (n:Nat),oR D,oI r,v4,v5]) (Same H H') (H' D=some (.lst (ds.map V.int))) (ds.length=i) (∀d∈ds,0<=d/\d<24)) #[_,_,_,[],rfl,s1,eD,rfl,λd h=>nomatch h] ?_ ?_]
  ·rintro i σ H2 hi ⟨r,v4,v5,ds,rfl,s2,e2,ld,hd⟩;have z0:(0:Int)+(i:Int)=(i:Int):=by omega
   rw[z0];refine JF (λ(x:Int)=>[oI c,oI (n:Nat),oR D,oI r,oI (i:Nat),oI x]) (λx H'=>H'=H2/\0<=x/\x<2147483647) (λB hB=>#[_,rfl,c,2147483647,rfl,rfl,(by show (0:Int)<2147483647;decide),_,rfl,7919,i,rfl,rfl,.inl #[by decide,by decide],_,_,rfl,rfl,_,1,rfl,rfl,_,48271,rfl,rfl,.inr #[by decide,by decide],_,_,rfl,rfl,(by show (0:Int)<2147483647;decide),hB _ _ #[rfl,Ul '$']]) ?_;rintro x H2 ⟨rfl,x0,x1⟩;refine JF (λ(x:Int)=>[oI c,oI (n:Nat),oR D,oI r,oI (i:Nat),oI x]) (λx H'=>H'=H2/\0<=x/\x<2147483647) (λB hB=>#[_,rfl,_,rfl,x,1009,rfl,rfl,#[by decide,by decide],_,69621,rfl,rfl,x,_,rfl,rfl,.inl #[by omega,by omega],_,2147483647,rfl,rfl,(by show (0:Int)<2147483647;decide),hB _ _ #[rfl,Ul '$']]) ?_;rintro y H2 ⟨rfl,y0,y1⟩;refine JF (λ(x:Int)=>[oI c,oI (n:Nat),oR D,oI r,oI (i:Nat),oI x]) (λx H'=>H'=H2/\0<=x/\x<2147483647) (λB hB=>#[_,rfl,_,rfl,_,rfl,(i:Nat),y,rfl,rfl,.inl #[by omega,by omega],_,4001,rfl,rfl,#[by decide,by decide],y,_,rfl,rfl,_,16807,rfl,rfl,.inr #[by decide,by decide],_,2147483629,rfl,rfl,(by show (0:Int)<2147483629;decide),hB _ _ #[rfl,Int.emod_nonneg _ '$',Int.lt_trans (Int.emod_lt_of_pos _ '$') '$']]) ?_;rintro z H2 ⟨rfl,_,_⟩;refine Vo (λ(r x:Int)=>[oI c,oI (n:Nat),oR D,oI r,oI (i:Nat),oI x]) (λ_ _ H'=>H'=H2) (λB hB=>?_) ?_
   ·refine#[_,rfl,c,2,rfl,rfl,(by show (0:Int)<2;decide),rfl,_,rfl,?_];refine km (λ_=>#[_,rfl,r,0,rfl,rfl,_,rfl,km (λ_=>?_) λ_=>hB _ _ _ rfl]) λ_=>hB _ _ _ rfl;refine J0 [oI c,oI (n:Nat),oR D,oI r,oI (i:Nat),oI r] (λH'=>H'=H2) (λB hB=>#[_,rfl,hB _ rfl]) ?_;rintro H2 rfl;exact#[_,rfl,r,24,rfl,rfl,#[by decide,by decide],hB _ _ _ rfl]
   rintro r' x' H2 rfl;refine#[_,rfl,.inl #[rfl,_,jg.of e2],_,rfl,x',24,rfl,rfl,(by show (0:Int)<24;decide),D,_,_,rfl,rfl,e2,Vp (by rw[ya,ld];omega),_,_,_,ds++[x' % 24],rfl,jM s2 hD,by rw[jc,yf];rfl,by rw[yj,ld];rfl,λd h=>?_];rcases yL.mp h with h|h
   ·exact hd d h
   ·rw[yu.mp h];exact Ul '$'
  ·rintro σ H2 ⟨r,v4,v5,ds,rfl,s2,e2,ld,hd⟩;exact hB _ _ _ ds _ #[s2,e2,ld,hd]
 rintro r v4 v5 ds H2 ⟨s2,e2,ld,hd⟩;exact#[_,rfl,q D ds H2 s2 hD e2 ld hd]
variable {P:AS}{w:World}{K:AB}{mg:AE}{base:Heap}{t:Adr}
abbrev uA:=Str×Nat
def JE (rs:List uA):List (Nat×Nat):=rs.zipIdx.flatMap λx=>(List.range x.1.2).map λq=>(x.2,q)
theorem GV (rs:List uA) (x:uA):JE (rs++[x])=JE rs++(List.range x.2).map λq=>(rs.length,q):=by
 unfold JE;rw[List.zipIdx_append,Wc];simp
structure VY (rs:List uA) (nn:List (List (Nat×Nat))):Prop where
 few:rs.length<=6
 k:∀x∈rs,A3 (x.1="r"\/x.1="cap") (1<=x.2) (x.2<=4)
 fewN:nn.length<=6
 ne:∀l∈nn,l≠[]
 pm:nn.flatten.Perm (JE rs)
structure VN (H:Hp) (u:Addr) (rs:List uA) (nn:List (List (Nat×Nat))):Prop where
 ex:∃(pl nl:Addr) (us vs:AI),A5 (H u=some (.tup [.ref pl,.ref nl])) (H pl=some (.lst (us.map V.ref))) (KeyAt H us (rs.map kH)) (H nl=some (.lst (vs.map V.ref))) (Jr H vs nn)
theorem VN.same {H':Hp}{u:Addr}{nn:List (List (Nat×Nat))} (x:VN H u rs nn) (s:Same H H'):VN H' u rs nn:=by
 obtain⟨pl,nl,us,vs,a1,a2,a3,a4,a5⟩:=x.ex;exact#[pl,nl,us,vs,s _ _ a1,s _ _ a2,KeyAt.mono' a3 s,s _ _ a4,a5.same s]
theorem MR {ds:List Int}{k:Nat} (h:k<ds.length):vL (ds.map V.int) (k:Int)=some (.int ds[k]):=Je (by rw[ye,yb h];rfl)
theorem dI {js:List (List Key)} (a:KeyAt H us ks) (b:KeyAt H vs js):KeyAt H (us++vs) (ks++js):=by
 refine#[by rw[yj,yj,a.1,b.1],λi q c h1 h2=>?_];have la:=a.1;by_cases hi:i<us.length
 ·rw[yC hi] at h1;rw[yC '!'] at h2;exact a.2 i q c h1 h2
 ·rw[yG '!'] at h1;rw[yG '!',<-la] at h2;exact b.2 _ q c h1 h2
theorem MA {α:Type}{x:α}:∀{ee:List (List α)} {j:Nat} {l:List α},ee[j]?=some l->(ee.set j (l++[x])).flatten.Perm (ee.flatten++[x])
 | [],_,_,h=>by simp at h
 | a::ee,0,l,h=>by
  have h:a=l:=by simpa using h
  rw[List.set_cons_zero,QX,QX,h,Qh,Qh];exact (List.perm_append_comm).append_left l
 | a::ee,j+1,l,h=>by
  have h:ee[j]?=some l:=by simpa using h
  rw[List.set_cons_succ,QX,QX,Qh];exact (MA h).append_left a
theorem kg {α:Type}:∀ee:List (List α),(ee.filter λl=>!l.isEmpty).flatten=ee.flatten
 | []=>rfl
 | []::ee=>by rw[List.filter_cons_of_neg (by simp),kg ee];rfl
 | (a::l)::ee=>by rw[List.filter_cons_of_pos (by simp),QX,QX,kg ee]
theorem UZ (h:rs.length<=6) (k:∀x∈rs,x.2<=4):(JE rs).length<=24:=by
 have:∀(l:List (uA×Nat)),(∀x∈l,x.1.2<=4)->(l.flatMap λx=>(List.range x.1.2).map λq=>(x.2,q)).length<=4*l.length:=λl=>by
  induction l with
  | nil=>intro _;exact yh _
  | cons a l ih =>
   intro hk;have:=ih λx hx=>hk x (yn _ hx);have:=hk a (yw ..);rw[QK,yj,ya,yW,yQ];omega
 have:=this rs.zipIdx λx hx=>k _ (by
  obtain⟨i,hi,rfl⟩:=yD hx;rw[List.getElem_zipIdx];exact yB _)
 rw[Q6] at this;unfold JE;omega
def rd (K:AB):Sp:=λvs H Q _=>∃(a:Addr) (ns:List Int),A3 (vs=[.ref a]) (jg K H a (ns.map V.int)) (∀u rs nn H',Same H H'->VN H' u rs nn->VY rs nn->Q (.ref u) H')
theorem NR (T:Txt K mg t):j0 P w K mg base 2 "_law_rows" ["_law_script"] (rd K):=by
 refine T.bb.ok ["_law_script","_law_sizes","_law_parts","_law_k","_law_spots","_law_part","_law_many","_law_draws_here","_law_nets","_law_spot"] ?_;rintro _ H Q E ⟨a,ns,rfl,hq,q⟩;refine#[rfl,λAZ A outer s hr=>#[_,(jf (ju 1 (jo (Zt T) (ja (jo (V8 T) (ja (pv 0) (ja jk jb))) (ja jk jb)))) (jf (ju 2 (Jb jb)) (jf (j7 jQ (UX rfl T.vq (ja (jK Uy jk (jK uF (jp jF (pv 1) jk) jk)) jb)) (jl 3) (jj (j6 (Jm PySem.F.plainAttrs_list PySem.F.slot_list_append PySem.F.type_list_append j3 (pv 2) (ja (Jn (ja (jp jF (Jb (ja JP (ja JP jb))) (jK uF (jp jF (pv 1) (pv 3)) jk)) (ja (jK Uy jk (jK uF (jK V9 (jp jF (pv 1) (pv 3)) jk) jk)) jb))) jb))))) (jf (ju 4 (Jb jb)) (jf (j7 jQ (uL rfl rfl T.Jw (ja (pv 2) jb)) (Jv (jt (jl 3) (jt (jl 5) Jc))) (jj (ju 4 (jK vc (pv 4) (Jg (own:=["_law_pin"]) (uO (cl:=[("_law_k",_)])) (UX rfl T.vq (ja (jp jL (pv 5) jk) jb)) (λ_ _ _ _ _=>jl 10) (λ_ _ _ _ _=>Jd) (λ_ _ _ _ _=>(Jn (ja (pv 3) (ja (pv 10) jb))))))))) (jf (ju 6 (jK Uy jk (jK uF (jp jF (pv 1) jk) jk))) (jf (ju 7 (jo (Zt T) (ja (jo (V8 T) (ja (pv 0) (ja jk jb))) (ja (jx jU (by rfl) T.ut uo (ja (pv 4) jb)) jb)))) (jf (Uh 8 (N0:=["_law_script","_law_sizes","_law_parts","._law_k","_law_spots","_law_part","_law_many","_law_draws_here","_law_nets","_law_spot"]) (own:=["_law_k"]) (uO (cl:=[])) (UX rfl T.vq (ja (pv 6) jb)) (λ_ _ _ _ _=>jl 10) (λ_ _ _ _ _=>Jd) (λ_ _ _ _ _=>(Jb jb))) (jf (j7 jQ (uL rfl rfl T.Jw (ja (pv 4) jb)) (Jv (jt (jl 3) (jt (jl 9) Jc))) (jj (j6 (Jm PySem.F.plainAttrs_list PySem.F.slot_list_append PySem.F.type_list_append j3 (jp jF (pv 8) (jK uF (jp jF (pv 7) (pv 3)) (pv 6))) (ja (pv 9) jb))))) (jj (jH (Jn (ja (pv 2) (ja (Jg (own:=["_law_net"]) (uO (cl:=[])) (jO (pv 8)) (λ_ _ _ _ _=>jl 10) (λ_ _ _ _ _=>eY (Jq (eI hr.units0) (pv 10) (Jb jb))) (λ_ _ _ _ _=>(pv 10))) jb)))))))))))))),?_]];refine Vo (λ(S:Addr) (ds:List Int)=>[oR a,oR S,none,none,none,none,none,none,none,none]) (λS ds H'=>A4 (Same H H') (H' S=some (.lst (ds.map V.int))) (ds.length=8) (∀d∈ds,0<=d/\d<24)) (λB hB=>#[_,rfl,a,ns,0,rfl,hq,λc=>#[c,8,rfl,by decide,λS ds H' s' hS eS l h=>hB S ds H' #[s',eS,l,h]]]) ?_;rintro S ds H1 ⟨s1,eS,ld,hd⟩;refine JF (λ(pl:Addr)=>[oR a,oR S,oR pl,none,none,none,none,none,none,none]) (λpl H'=>A3 (Same H1 H') (H1 pl=none) (H' pl=some (.lst []))) (λB hB=>#[UY,λD hD=>hB D _ #[jh (Same.refl H1) hD,hD,jc]]) ?_;rintro pl H2 ⟨s2,Ba,Lf⟩;have b6:6<ds.length:=by omega
 have b7:7<ds.length:=by omega
 obtain⟨n,en,n1,n6⟩:∃n:Nat,(1:Int)+ds[6] % 6=(n:Int)/\1<=n/\n<=6:=#[(1+ds[6] % 6).toNat,by have:=Ul (i:=ds[6]) (m:=6) '$';omega,by have:=Ul (i:=ds[6]) (m:=6) '$';omega,by have:=Ul (i:=ds[6]) (m:=6) '$';omega];refine zU (λ(v3:Option V) (bs:AI) (rs:List uA)=>[oR a,oR S,oR pl,v3,none,none,none,none,none,none]) (λ_ bs rs H'=>A5 (Same H1 H') (H' pl=some (.lst (bs.map V.ref))) (KeyAt H' bs (rs.map kH)) (rs.length=n) (∀x∈rs,A3 (x.1="r"\/x.1="cap") (1<=x.2) (x.2<=4))) (λB hB=>?_) ?_
 ·refine#[_,rfl,S,_,6,.int ds[6],rfl,rfl,jg.of (s2 _ _ eS),MR b6,_,6,rfl,rfl,(by show (0:Int)<6;decide),1,_,rfl,rfl,(n:Nat),congrArg (λz=>[V.int z]) en,by omega,by omega,Zi (lo:=0) (n:=n) (λi σ H'=>E3 λ(v3:Option V) (bs:AI) (rs:List uA)=>A6 (σ=[oR a,oR S,oR pl,v3,none,none,none,none,none,none]) (Same H1 H') (H' pl=some (.lst (bs.map V.ref))) (KeyAt H' bs (rs.map kH)) (rs.length=i) (∀x∈rs,A3 (x.1="r"\/x.1="cap") (1<=x.2) (x.2<=4))) #[_,[],[],rfl,s2,Lf,#[rfl,λi b k h=>nomatch h],rfl,λx h=>nomatch h] ?_ ?_]
  ·rintro i σ H3 hi ⟨v3,bs,rs,rfl,s3,DY,ka,lr,hk⟩;have z0:(0:Int)+(i:Int)=(i:Int):=by omega
   rw[z0];have bi:i<ds.length:=by omega
   have lb:bs.length=i:=by have:=ka.1;rw[ya] at this;omega
   refine#[_,rfl,.inl #[rfl,_,jg.of DY],Uz,λl hl=>?_]
   exists H4,t1,e1,H3,l,hl,.lst [.str "r",.str "cap"]
   have Px:=t1 _ _ (s3 _ _ eS);obtain⟨kd,Hq,ek⟩:∃kd:Str,(kd="r"\/kd="cap")/\vL [V.str "r",V.str "cap"] (ds[i] % 2)=some (.str kd):=by
    have:=Ul (i:=ds[i]) (m:=2) '$';rcases (show ds[i] % 2=0\/ds[i] % 2=1 by omega) with z|z
    ·exact#[_,.inl rfl,by rw[z];rfl]
    ·exact#[_,.inr rfl,by rw[z];rfl]
   obtain⟨pn,Tn,p1,p4⟩:∃pn:Nat,1+ds[i] / 2 % 4=(pn:Int)/\1<=pn/\pn<=4:=#[(1+ds[i] / 2 % 4).toNat,by omega,by omega,by omega];refine#[_,rfl,_,rfl,S,_,(i:Nat),.int ds[i],rfl,rfl,jg.of Px,MR bi,_,2,rfl,rfl,(by show (0:Int)<2;decide),l,_,_,.str kd,rfl,rfl,jg.of e1,ek,_,rfl,_,rfl,S,_,(i:Nat),.int ds[i],rfl,rfl,jg.of Px,MR bi,_,2,rfl,rfl,#[by decide,by decide],_,4,rfl,rfl,(by show (0:Int)<4;decide),1,_,rfl,rfl,Uz,λu hu=>?_];rw[Tn]
   exists H5,t2,e2,H4,u,hu,.tup [.str kd,.int (pn:Nat)],.tup ((kH (kd,pn)).map kV)
   have t3:=Same.trans t1 t2;have CO:=t3 _ _ DY;refine#[pl,_,_,rfl,rfl,CO,Vp (by rw[ya,lb];omega),_,bs++[u],rs++[(kd,pn)],rfl,jM (Same.trans s3 t3) Ba,by rw[jc,yf];rfl,?_,by rw[yj,lr];rfl,λx hx=>?_]
   ·rw[yf];exact (uD (KeyAt.mono' ka t3) e2).wr CO
   ·rcases yL.mp hx with h|h
    ·exact hk x h
    ·rw[yu.mp h];exact#[Hq,p1,p4]
  ·rintro σ H3 ⟨v3,bs,rs,rfl,s3,DY,ka,lr,hk⟩;exact hB _ bs rs _ #[s3,DY,ka,lr,hk]
 rintro v3 bs rs H3 ⟨s3,DY,ka,lr,hk⟩;have lb:bs.length=n:=by have:=ka.1;rw[ya] at this;omega
 refine JF (λ(sp:Addr)=>[oR a,oR S,oR pl,v3,oR sp,none,none,none,none,none]) (λsp H'=>A3 (Same H3 H') (H3 sp=none) (H' sp=some (.lst []))) (λB hB=>#[UY,λD hD=>hB D _ #[jh (Same.refl H3) hD,hD,jc]]) ?_;rintro sp H4 ⟨s4,BG,To⟩;refine GR (λ(v3 v5:Option V) (sp:Addr) (ss:AI)=>[oR a,oR S,oR pl,v3,oR sp,v5,none,none,none,none]) (λ_ _ sp ss H'=>A3 (Same H3 H') (H' sp=some (.lst (ss.map V.ref))) (KeyAt H' ss ((JE rs).map kE))) (λB hB=>?_) ?_
 ·refine#[_,rfl,pl,rfl,#[_,jg.of (s4 _ _ DY)],uC (xs:=bs.map V.ref) (λi σ H'=>E4 λ(v3 v5:Option V) (sp:Addr) (ss:AI)=>A4 (σ=[oR a,oR S,oR pl,v3,oR sp,v5,none,none,none,none]) (Same H3 H') (H' sp=some (.lst (ss.map V.ref))) (KeyAt H' ss ((JE (rs.take i)).map kE))) #[_,_,sp,[],rfl,s4,To,rfl,λi b k h=>nomatch h] (λi σ H' _ h=>by obtain⟨_,_,_,_,_,e,_⟩:=h;exact jg.of (e _ _ DY)) ?_ ?_]
  ·rintro i x p σ H5 hx hp ⟨v3,v5,sp,ss,rfl,s5,e5,k5⟩;obtain⟨u,eu,rfl⟩:=jS hx;have hi:i<rs.length:=by rw[lr,<-lb];exact (yc.mp eu).1
   have er:=yb hi;have BB:=yB hi;have tu:=ka.2 i u (kH rs[i]) eu (by rw[ye,er];rfl);generalize rs[i]=x at er BB tu;obtain⟨_,x1,x4⟩:=hk x BB
   exists H6,s6,e6,H5,p,hp,.tup [.int (i:Int),.ref u]
   have Bm:=Same.trans s5 s6;refine#[p,_,rfl,jB.of e6,rfl,_,_,rfl,_,_,rfl,rfl,?_];refine#[_,rfl,_,rfl,u,_,1,.int (x.2:Nat),rfl,rfl,jB.of (Bm _ _ tu),rfl,(x.2:Nat),rfl,by omega,by omega,zq (lo:=0) (n:=x.2) (λD k ys H'=>A5 (H6 D=none) (Same H6 H') (H' D=some (.lst ys)) (ys.length=k) (∃us:List Addr,ys=us.map V.ref/\KeyAt H' us (((List.range k).map λq=>(i,q)).map kE))) (yp x4 '$') (λD hD=>#[hD,jh (Same.refl H6) hD,jc,rfl,[],rfl,rfl,λi b k h=>nomatch h]) (λD k ys H' h=>by obtain⟨_,_,h1,h2,_⟩:=h;exact#[h1,h2]) ?_ ?_]
   ·rintro D k ys H7 Qy Qn hk7 ⟨hD,s7,eD,ly,HD,rfl,L6⟩ hy;have z0:(0:Int)+(k:Int)=(k:Int):=by omega
    rw[z0];refine#[#[_,rfl,rfl],JI #[_,rfl,_,rfl,Uz,λu8 LL=>?_]]
    exists H8,s8,e8,H7,u8,LL,.tup [.int (i:Int),.int (k:Int)],.tup ((kE (i,k)).map kV)
    have Py:=s8 _ _ eD;refine hy _ _ Py #[hD,jM (Same.trans s7 s8) hD,jc,by rw[yj,ly];rfl,HD++[u8],by rw[yf];rfl,?_];rw[List.range_succ,yf,yf];exact (uD (KeyAt.mono' L6 s8) e8).wr Py
   ·rintro D ys H7 hD ⟨_,s7,eD,ly,HD,rfl,L6⟩;have F0:=Same.trans s6 s7;have l5:ss.length<=24:=by
     have:=k5.1;rw[ya] at this;rw[this];exact UZ (by rw[yI];omega) λy hy=>(hk y (List.mem_of_mem_take hy)).3
    rw[ya] at ly;refine#[sp,D,_,_,rfl,rfl,F0 _ _ e5,eD,Ni (by rw[ya,ya];omega),λp2 Cm=>?_];have s9:=jh (o:=.lst (ss.map V.ref++HD.map V.ref)) (Same.refl H7) Cm;refine#[_,_,p2,ss++HD,rfl,Same.trans (Same.trans s5 F0) s9,by rw[jc,yf],?_];rw[jC er,GV,yI,Qq (y4 hi),yf];exact KeyAt.mono' (dI (KeyAt.mono' k5 F0) L6) s9
  ·rintro σ H5 ⟨v3,v5,sp,ss,rfl,s5,e5,k5⟩;rw[ya,jN '!'] at k5;exact hB _ _ sp ss _ #[s5,e5,k5]
 rintro v3 v5 sp ss H5 ⟨s5,e5,k5⟩;have Pz:=Same.trans s3 s5;have Di:=Same.trans s1 Pz;have ls:ss.length=(JE rs).length:=by have:=k5.1;rwa [ya] at this
 have l24:(JE rs).length<=24:=UZ '!' λy hy=>(hk y hy).3;obtain⟨m,em,m1,m6⟩:∃n:Nat,(1:Int)+ds[7] % 6=(n:Int)/\1<=n/\n<=6:=#[(1+ds[7] % 6).toNat,by have:=Ul (i:=ds[7]) (m:=6) '$';omega,by have:=Ul (i:=ds[7]) (m:=6) '$';omega,by have:=Ul (i:=ds[7]) (m:=6) '$';omega];refine J0 [oR a,oR S,oR pl,v3,oR sp,v5,oI (m:Nat),none,none,none] (λH'=>H'=H5) (λB hB=>#[_,rfl,S,_,7,.int ds[7],rfl,rfl,jg.of (Pz _ _ eS),MR b7,_,6,rfl,rfl,(by show (0:Int)<6;decide),1,_,rfl,rfl,by rw[em];exact hB _ rfl]) ?_;rintro H5 rfl;refine Vo (λ(Z:Addr) (zs:List Int)=>[oR a,oR S,oR pl,v3,oR sp,v5,oI (m:Nat),oR Z,none,none]) (λZ zs H'=>A4 (Same H5 H') (H' Z=some (.lst (zs.map V.int))) (zs.length=ss.length) (∀d∈zs,0<=d/\d<24)) (λB hB=>#[_,rfl,a,ns,1,rfl,Same.seq Di hq,λc=>#[_,rfl,sp,_,rfl,.inl (jg.of e5),c,_,rfl,by rw[ya];omega,λZ zs H' s' hZ eZ l h=>hB Z zs H' #[s',eZ,by rwa [ya] at l,h]]]) ?_;rintro Z zs H6 ⟨s6,eZ,lz,hz⟩;refine Vo (λ(N:Addr) (vs:AI)=>[oR a,oR S,oR pl,v3,oR sp,v5,oI (m:Nat),oR Z,oR N,none]) (λN vs H'=>A5 (Same H6 H') (H' N=some (.lst (vs.map V.ref))) (vs.length=m) vs.Nodup (∀v∈vs,A3 (H6 v=none) (v≠N) (H' v=some (.lst [])))) (λB hB=>?_) ?_
 ·refine#[_,rfl,(m:Nat),rfl,by omega,by omega,zq (lo:=0) (n:=m) (λD k ys H'=>∃vs:List Addr,A7 (ys=vs.map V.ref) (vs.length=k) (Same H6 H') (H6 D=none) (H' D=some (.lst ys)) vs.Nodup (∀v∈vs,A3 (H6 v=none) (v≠D) (H' v=some (.lst [])))) (yp m6 '$') (λD hD=>#[[],rfl,rfl,jh (Same.refl _) hD,hD,jc,Qk,λv h=>nomatch h]) (λD k ys H' h=>by obtain⟨vs,rfl,h2,_,_,h5,_⟩:=h;exact#[h5,by rw[ya,h2]]) ?_ ?_]
  ·rintro D k ys H' Qy Qn Cg ⟨vs,rfl,hl,HE,hD,eD,nd,DG⟩ hy;refine#[#[_,rfl,rfl],JI #[UY,λb hb=>?_]];have HF:=jh (o:=.lst []) (Same.refl H') hb;have e2:upd H' b (.lst []) b=some (.lst []):=jc;generalize upd H' b (.lst [])=H2 at HF e2;have nD:b≠D:=λz=>by rw[z,eD] at hb;cases hb
   refine hy _ _ (HF _ _ eD) #[vs++[b],by rw[yf];rfl,by rw[yj,hl];rfl,jM (Same.trans HE HF) hD,hD,jc,?_,λv hv=>?_]
   ·refine Qd.mpr #[nd,y7.mpr #[yP,Qk],λx hx y hy e=>?_];obtain⟨_,_,e3⟩:=DG x hx;rw[e,yu.mp hy,hb] at e3;cases e3
   ·rcases yL.mp hv with h|h
    ·obtain⟨g1,g2,g3⟩:=DG v h;exact#[g1,g2,jq g2 (HF _ _ g3)]
    ·rw[yu.mp h];exact#[Same.nn HE hb,nD,jq nD e2]
  ·rintro D ys H' hD ⟨vs,rfl,hl,HE,_,eD,nd,DG⟩;exact hB D vs H' #[HE,eD,hl,nd,DG]
 rintro N vs H7 ⟨s7,eN,lv,LW,hv⟩;have nN:N ∉ vs:=λz=>(hv N z).2 rfl;refine zU (λ(v3 v9:Option V) (ee:List (List (Nat×Nat)))=>[oR a,oR S,oR pl,v3,oR sp,v5,oI (m:Nat),oR Z,oR N,v9]) (λ_ _ ee H'=>A5 (Same H6 H') (H' N=some (.lst (vs.map V.ref))) (Jr H' vs ee) (ee.flatten.Perm (JE rs)) True) (λB hB=>?_) ?_
 ·refine#[_,rfl,sp,rfl,#[_,jg.of (s7 _ _ (s6 _ _ e5))],uC (xs:=ss.map V.ref) (λi σ H'=>E3 λ(v3 v9:Option V) (ee:List (List (Nat×Nat)))=>A5 (σ=[oR a,oR S,oR pl,v3,oR sp,v5,oI (m:Nat),oR Z,oR N,v9]) (Same H6 H') (H' N=some (.lst (vs.map V.ref))) (Jr H' vs ee) (ee.flatten.Perm ((JE rs).take i))) #[_,_,List.replicate m [],rfl,s7,eN,#[by rw[lv,List.length_replicate],λi v l h1 h2=>?_],.of_eq (by simp)] (λi σ H' _ h=>by obtain⟨_,_,_,_,e,_⟩:=h;exact jg.of (e _ _ (s6 _ _ e5))) ?_ ?_]
  ·obtain rfl:=(List.mem_replicate.mp (yk h2)).2;exact#[[],(hv v (yk h1)).3,rfl,λi b k h=>nomatch h]
  ·rintro i x p σ H8 hx hp ⟨v3,v9,ee,rfl,s8,EG,CV,pm⟩;obtain⟨u,eu,rfl⟩:=jS hx;have li:i<ss.length:=(yc.mp eu).1;have er:=yb (l:=JE rs) (i:=i) '!';have tu:=k5.2 i u (kE (JE rs)[i]) eu (by rw[ye,er];rfl);generalize (JE rs)[i]=x at er tu
   exists H9,s9,e9,H8,p,hp,.tup [.int (i:Int),.ref u]
   have L7:=Same.trans s8 s9;have zi:i<zs.length:=by omega
   obtain⟨j,ej,jm⟩:∃j:Nat,zs[i] % (m:Int)=(j:Int)/\j<m:=#[(zs[i] % (m:Int)).toNat,by have:=Ul (i:=zs[i]) (m:=(m:Int)) '!';omega,by have:=Ul (i:=zs[i]) (m:=(m:Int)) '!';omega];have jv:j<vs.length:=by omega
   have ev:=yb jv;have vm:=yB jv;generalize vs[j]=v at ev vm;have je:j<ee.length:=by rw[<-CV.1];exact jv
   have el:=yb je;generalize ee[j]=l at el;have E9:=CV.same s9;obtain⟨Tp,g1,g2⟩:=E9.2 j v l ev el;have ll:Tp.length<=24:=by
    have h1:=g2.1;rw[ya] at h1;have h2:=pm.length_eq;rw[yI] at h2;have h3:l.length<=ee.flatten.length:=(Q7 (yk el)).length_le;omega
   refine#[p,_,rfl,jB.of e9,rfl,_,_,rfl,_,_,rfl,rfl,?_];refine#[_,rfl,_,rfl,_,rfl,Z,_,(i:Nat),.int zs[i],rfl,rfl,jg.of (L7 _ _ eZ),MR zi,_,rfl,_,(m:Nat),rfl,rfl,(by show (0:Int)<(m:Int);omega),N,_,(j:Nat),.ref v,rfl,congrArg V.int ej,jg.of (s9 _ _ EG),Je (by rw[ye,ev];rfl),.inl #[rfl,_,jg.of g1],_,rfl,v,_,_,rfl,rfl,g1,by rw[ya];exact yK ll '$',_,_,ee.set j (l++[x]),rfl,jM L7 (hv v vm).1,?_,E9.put LW ev g1 g2 (L7 _ _ (s6 _ _ tu)),?_]
   ·rw[jw (λz=>nN (by rw[z];exact vm))];exact s9 _ _ EG
   ·rw[jC er];exact (MA el).trans (pm.append_right [x])
  ·rintro σ H8 ⟨v3,v9,ee,rfl,s8,EG,CV,pm⟩;rw[ya,jN ls.symm] at pm;exact hB _ _ ee _ #[s8,EG,CV,pm,trivial]
 rintro v3 v9 ee H8 ⟨s8,EG,CV,pm,_⟩;have lee:ee.length=m:=by rw[<-CV.1,lv]
 refine#[_,rfl,_,rfl,N,rfl,#[_,jg.of EG],uh (xs:=vs.map V.ref) (λD i ys H'=>∃ws:List Addr,A5 (Same H8 H') (H8 D=none) (H' D=some (.lst ys)) (ys=ws.map V.ref/\ws.length<=i) (Jr H' ws ((ee.take i).filter λl=>!l.isEmpty))) (by rw[ya,lv];exact yp m6 '$') (λD hD=>#[[],jh (Same.refl H8) hD,hD,jc,#[rfl,yh _],rfl,λi v l h=>nomatch h]) (λD i ys H' h=>by obtain⟨ws,h1,h2,h3,⟨h4,h5⟩,_⟩:=h;exact#[h3,by rw[h4,ya];exact h5,jg.of (h1 _ _ EG)]) ?_ ?_]
 ·rintro D i v ys H9 Qy Qn Tq ⟨ws,s9,hD,eD,⟨rfl,lw⟩,E9⟩ hy hn;obtain⟨b,eb,rfl⟩:=jS Tq;have hi:i<ee.length:=by rw[<-CV.1];exact (yc.mp eb).1
  have HG:=yb hi;generalize ee[i]=l at HG;obtain⟨qs,g1,g2⟩:=CV.2 i b l eb HG;have lq:qs.length=l.length:=by have:=g2.1;rwa [ya] at this
  have nD:b≠D:=λz=>by rw[z,hD] at g1;cases g1
  refine#[#[_,rfl,rfl],_,rfl,UY,λe hE=>?_]
  exists F1,t1,e1,H9,e,hE,.lst []
  have DI:=t1 _ _ eD;have CW:=Same.trans s9 t1;refine#[b,e,_,rfl,rfl,jg.of (CW _ _ g1),jg.of e1,_,rfl,?_];have Tr:(!(qs.map V.ref).isEmpty)=!l.isEmpty:=by
   cases qs with
   | nil=>cases l with|nil=>rfl|cons _ _=>cases lq
   | cons _ _=>cases l with|nil=>cases lq|cons _ _=>rfl
  rw[Tr];have wD:D ∉ ws:=λz=>by
   obtain⟨i',B9,e'⟩:=yD z;have l1:i'<((ee.take i).filter λl=>!l.isEmpty).length:=by rw[<-E9.1];exact B9
   have l2:=yb l1;have nz:=(QL.mp (yk l2)).2;generalize ((ee.take i).filter λl=>!l.isEmpty)[i']=l' at l2 nz;obtain⟨PB,f1,f2⟩:=E9.2 i' D l' (by rw[yb B9,e']) l2;rw[eD] at f1;have f1:=HO.lst.inj (Option.some.inj f1);have f1:ws=PB:=(Qt λ_ _ e=>V.ref.inj e).mp f1;have:D∈PB:=f1▸z;obtain⟨i2,hi2,e2⟩:=yD this;have l3:i2<(l'.map kE).length:=by rw[<-f2.1];exact hi2
   have:=f2.2 i2 D _ (by rw[yb hi2,e2]) (yb l3);rw[eD] at this;cases this
  refine km (λz=>#[_,rfl,hy _ _ DI #[ws++[b],jM CW hD,hD,jc,#[by rw[yf];rfl,by rw[yj];exact QG lw],?_]]) λz=>hn _ #[ws,CW,hD,DI,#[rfl,Nat.le_succ_of_le lw],?_]
  ·rw[jC HG,Q5,List.filter_cons_of_pos (p:=λl:List (Nat×Nat)=>!l.isEmpty) z];have kW:=(E9.same t1).off (o:=.lst (ws.map V.ref++[.ref b])) wD DI;refine#[by rw[yj,yj,kW.1];rfl,λj v l' h1 h2=>?_];by_cases hj:j<ws.length
   ·rw[yC hj] at h1;rw[yC (by rw[<-kW.1];exact hj)] at h2;exact kW.2 j v l' h1 h2
   ·rw[yG '!'] at h1;rw[yG (by rw[<-kW.1];omega),<-kW.1] at h2;have z0:j - ws.length=0:=by have:=(yc.mp h1).1;simp at this;omega
    rw[z0] at h1 h2;cases h1;cases h2;exact#[qs,jq nD (CW _ _ g1),(KeyAt.mono' g2 CW).wr DI]
  ·rw[jC HG,Q5,List.filter_cons_of_neg (p:=λl:List (Nat×Nat)=>!l.isEmpty) (by rw[z];decide),List.filter_nil,QM];exact E9.same t1
 ·rintro D ys H9 hD ⟨ws,s9,_,eD,⟨rfl,lw⟩,E9⟩;rw[ya,jN '!'] at E9;refine#[Uz,λu hu=>?_];have CW:=jh (o:=.tup [.ref pl,.ref D]) (Same.refl H9) hu;have L8:=Same.trans s5 (Same.trans s6 (Same.trans s8 (Same.trans s9 CW)));refine q u rs (ee.filter λl=>!l.isEmpty) _ (Same.trans s1 (Same.trans s3 L8)) #[pl,D,bs,ws,jc,L8 _ _ DY,KeyAt.mono' ka L8,CW _ _ eD,E9.same CW] #[by omega,hk,yp (QQ _ _) '!',λl hl z=>?_,by rw[kg];exact pm];have:=(QL.mp hl).2;rw[z] at this;cases this
variable {P:AS}{w:World}{K:AB}{mg:AE}{base:Heap}{t:Adr}
structure ii (rs:List uA) (nn:List (List (Nat×Nat))) (Bc:List uA) (A1:List (List (Nat×Nat))) (p r:Nat->Nat):Prop where
 n:rs.length=Bc.length
 m:nn.length=A1.length
 bp:vB rs.length p
 br:vB nn.length r
 hs:∀i,i<rs.length->Bc[p i]?=rs[i]?
 es:∀(j:Nat) l1 l2,nn[j]?=some l1->A1[r j]?=some l2->(l1.map λx=>(p x.1,x.2)).Perm l2
theorem gs (xs:List V) (k:Nat):uY xs (some (k:Int)) none=xs.drop k:=by
 unfold uY;rw[HT.sIx_nat,HT.sIx_none,Q4 (by rw[Q0];omega)];by_cases h:k<=xs.length
 ·rw[Qq h]
 ·rw[Nat.min_eq_right '!',List.drop_of_length_le (yh _),List.drop_of_length_le '!']
theorem rP (xs:List V) (k:Nat):uY xs none (some (k:Int))=xs.take k:=by
 unfold uY;rw[HT.sIx_nat,HT.sIx_none,List.drop_zero,Nat.sub_zero];by_cases h:k<=xs.length
 ·rw[Qq h]
 ·rw[Nat.min_eq_right '!',Q4 (yh _),Q4 '!']
theorem iN (os:List Nat) (j i:Nat):(os.take j++[i]++os.drop j).Perm (os++[i]):=by
 have h:=(List.perm_append_comm (l₁:=[i]) (l₂:=os.drop j)).append_left (os.take j);rw[<-Qh,<-Qh,Qo] at h;exact h
theorem MJ (k:Nat):∀os:List Nat,(os.map λn=>((n:Nat):Int)).idxOf (k:Int)=os.idxOf k
 | []=>rfl
 | a::os=>by
  rw[yH,Wg,Wg,MJ k os];by_cases h:a=k
  ·rw[h,beq_self_eq_true,beq_self_eq_true]
  ·rw[beq_eq_false_iff_ne.mpr h,beq_eq_false_iff_ne.mpr (show (a:Int)≠(k:Int) from λe=>h (Int.ofNat.inj e))]
theorem M5 (os:List Nat):os.map uf=(os.map λn=>((n:Nat):Int)).map V.int:=by rw[yq];rfl
theorem Zj (p:os.Perm (List.range n)) {i:Nat} (h:i<n):os.idxOf i<n/\os[os.idxOf i]?=some i:=by
 have hm:i∈os:=p.mem_iff.mpr (yE.mpr h);have l:os.length=n:=by rw[p.length_eq,yW]
 have h1:=y8 hm;exact#[by rw[<-l];exact h1,(yb h1).trans (congrArg some (QT _))]
theorem aq (p:os.Perm (List.range n)):vB n λi=>os.idxOf i :=
 #[λi h=>(Zj p h).1,λi hi j hj e=>by
  have h1:=(Zj p hi).2;have e:os.idxOf i=os.idxOf j:=e;rw[e,(Zj p hj).2] at h1;exact (Option.some.inj h1).symm]
noncomputable def MD (H:Hp) (b:Addr):List Key:=by classical exact if h:∃k:List Key,H b=some (.tup (k.map kV)) then h.choose else []
theorem Zm:∀{a b:Key},kV a=kV b->a=b
 | .inl _,.inl _,h=>by rw[V.int.inj h]
 | .inr _,.inr _,h=>by rw[V.str.inj h]
 | .inl _,.inr _,h=>nomatch h
 | .inr _,.inl _,h=>nomatch h
theorem dk {b:Addr}{k:List Key} (h:H b=some (.tup (k.map kV))):MD H b=k:=by
 have z:∃k:List Key,H b=some (.tup (k.map kV)):=#[k,h];unfold MD;rw[dif_pos z];exact (Qt λ_ _ e=>Zm e).mp (HO.tup.inj (Option.some.inj (z.choose_spec.symm.trans h)))
theorem iR (h:KeyAt H us ks):ks=us.map (MD H)/\∀b∈us,H b=some (.tup ((MD H b).map kV)):=by
 refine#[yX (by rw[ya,h.1]) λi h1 h2=>?_,λb hb=>?_]
 ·have hu:i<us.length:=by rw[h.1];exact h1
  rw[yR,dk (h.2 i _ _ (yb hu) (yb h1))]
 ·obtain⟨i,hi,rfl⟩:=yD hb;have e:=h.2 i _ _ (yb hi) (yb (by rw[<-h.1];exact hi));rw[dk e];exact e
theorem iS (h:∀b∈us,H b=some (.tup ((MD H b).map kV))):KeyAt H us (us.map (MD H)):=by
 refine#[by rw[ya],λi b k h1 h2=>?_];rw[ye,h1] at h2;cases h2;exact h b (yk h1)
theorem dJ {α:Type}{l:List α}{f:α->List Key} (h:KeyAt H us (l.map f)) (a:Nat):KeyAt H ((us.drop a).reverse++us.take a) (((l.drop a).reverse++l.take a).map f):=by
 obtain⟨e,hb⟩:=iR h;have:=iS (H:=H) (us:=(us.drop a).reverse++us.take a) λb hm=>hb b (by
  rcases yL.mp hm with z|z
  ·exact List.mem_of_mem_drop (List.mem_reverse.mp z)
  ·exact List.mem_of_mem_take z)
 have e2:((l.drop a).reverse++l.take a).map f=((us.drop a).reverse++us.take a).map (MD H):=by
  rw[yf,yf,List.map_reverse,List.map_reverse,We,We,List.map_take,List.map_take,e]
 rw[e2];exact this
theorem lK {α:Type} (l:List α) (a:Nat):((l.drop a).reverse++l.take a).Perm l:=by
 have h:=((List.reverse_perm (l.drop a)).append_right (l.take a)).trans List.perm_append_comm;rwa [Qo] at h
theorem Jr.snoc {ws:AI}{nn:List (List (Nat×Nat))} (E:Jr H ws nn) {v:Addr} {l:List (Nat×Nat)} (e:H v=some (.lst (us.map V.ref))) (k:KeyAt H us (l.map kE)):Jr H (ws++[v]) (nn++[l]):=by
 refine#[by rw[yj,yj,E.1];rfl,λj u l' h1 h2=>?_];by_cases hj:j<ws.length
 ·rw[yC hj] at h1;rw[yC (by rw[<-E.1];exact hj)] at h2;exact E.2 j u l' h1 h2
 ·rw[yG '!'] at h1;rw[yG (by rw[<-E.1];omega),<-E.1] at h2;have z0:j - ws.length=0:=by have:=(yc.mp h1).1;simp at this;omega
  rw[z0] at h1 h2;cases h1;cases h2;exact#[us,e,k]
def qX:Sp:=λvs H Q _=>E4 λ(a:Addr) (ds:List Int) (n:Nat) (_:Unit)=>A5 (vs=[.ref a,.int (n:Nat)]) (H a=some (.lst (ds.map V.int))) (n<=ds.length/\n<=24) (∀d∈ds,0<=d/\d<24) (∀(D:Addr) (os:List Nat) (H':Hp),Same H H'->H D=none->H' D=some (.lst (os.map uf))->os.Perm (List.range n)->Q (.ref D) H')
theorem nw (T:Txt K mg t):j0 P w K mg base 1 "_law_order" ["_law_draws_here","_law_many"] qX:=by
 refine T.Nt.ok ["_law_draws_here","_law_many","_law_order_here","_law_k"] ?_;rintro _ H Q E ⟨a,ds,n,_,rfl,ha,⟨h1,h2⟩,hd,q⟩;refine#[rfl,λAZ A outer s hr=>#[_,(jf (ju 2 (Jb jb)) (jf (j7 jQ (UX rfl T.vq (ja (pv 1) jb)) (jl 3) (jj (j6 (Jm PySem.F.plainAttrs_list PySem.F.slot_list_insert PySem.F.type_list_insert dY (pv 2) (ja (jK uF (jp jF (pv 0) (pv 3)) (jK Uy (pv 3) jk)) (ja (pv 3) jb)))))) (jj (jH (pv 2))))),?_]];refine JF (λ(D:Addr)=>[oR a,oI (n:Nat),oR D,none]) (λD H'=>A3 (Same H H') (H D=none) (H' D=some (.lst []))) (λB hB=>#[UY,λD hD=>hB D _ #[jh (Same.refl H) hD,hD,jc]]) ?_;rintro D H1 ⟨s1,hD,eD⟩;refine Vo (λ(v3:Option V) (os:List Nat)=>[oR a,oI (n:Nat),oR D,v3]) (λ_ os H'=>A3 (Same H H') (H' D=some (.lst (os.map uf))) (os.Perm (List.range n))) (λB hB=>?_) ?_
 ·refine#[_,rfl,(n:Nat),rfl,by omega,by omega,Zi (lo:=0) (n:=n) (λi σ H'=>E2 λ(v3:Option V) (os:List Nat)=>A4 (σ=[oR a,oI (n:Nat),oR D,v3]) (Same H H') (H' D=some (.lst (os.map uf))) (os.Perm (List.range i))) #[_,[],rfl,s1,eD,.refl _] ?_ ?_]
  ·rintro i σ H2 hi ⟨v3,os,rfl,s2,e2,pm⟩;have z0:(0:Int)+(i:Int)=(i:Int):=by omega
   rw[z0];have bi:i<ds.length:=by omega
   have m0:=Ul (i:=ds[i]) (m:=(i:Int)+1) '!';have lo:os.length=i:=by rw[pm.length_eq,yW]
   refine#[_,rfl,.inl #[rfl,_,jg.of e2],_,rfl,_,rfl,a,_,(i:Nat),.int ds[i],rfl,rfl,jg.of (s2 _ _ ha),MR bi,_,rfl,(i:Nat),1,rfl,rfl,_,_,rfl,rfl,(by show (0:Int)<(i:Int)+1;omega),_,rfl,D,_,_,_,rfl,rfl,e2,Vp (by rw[ya];omega),m0.1,by omega,?_];generalize (min (ds[i] % ((i:Int)+1)).toNat (os.map uf).length)=j;refine#[_,os.take j++[i]++os.drop j,rfl,jM s2 hD,?_,?_]
   ·rw[jc,yf,yf,List.map_take,We]
    rfl
   ·rw[List.range_succ];exact (iN os j i).trans (pm.append_right [i])
  ·rintro σ H2 ⟨v3,os,rfl,s2,e2,pm⟩;exact hB _ os _ #[s2,e2,pm]
 rintro v3 os H2 ⟨s2,e2,pm⟩;exact#[_,rfl,q D os H2 s2 hD e2 pm]
def lU (K:AB):Sp:=λvs H Q _=>E8 λ(pl nl sc:Addr) (us ws:AI) (rs:List uA) (nn:List (List (Nat×Nat))) (ns:List Int)=>A8 (vs=[.ref pl,.ref nl,.ref sc]) (H pl=some (.lst (us.map V.ref))) (KeyAt H us (rs.map kH)) (H nl=some (.lst (ws.map V.ref))) (Jr H ws nn) (jg K H sc (ns.map V.int)) (VY rs nn) (∀u Bc A1 H' p r,Same H H'->VN H' u Bc A1->ii rs nn Bc A1 p r->Q (.ref u) H')
theorem mw (T:Txt K mg t):j0 P w K mg base 2 "_law_turned" ["_law_parts","_law_nets","_law_script"] (lU K):=by
 refine T.mX.ok ["_law_parts","_law_nets","_law_script","_law_draws_here","_law_order_here","_law_k","_law_others","_law_lines","_law_line","_law_at"] ?_;rintro _ H Q E ⟨pl,nl,sc,us,ws,rs,nn,ns,rfl,Ba,ka,B0,EA,hq,G,q⟩;refine#[rfl,λAZ A outer s hr=>#[_,(jf (ju 3 (jo (Zt T) (ja (jo (V8 T) (ja (pv 2) (ja jk jb))) (ja jk jb)))) (jf (ju 4 (jo (nw T) (ja (pv 3) (ja (jx jU (by rfl) T.ut uo (ja (pv 0) jb)) jb)))) (jf (Uh 6 (N0:=["_law_parts","_law_nets","_law_script","_law_draws_here","_law_order_here","._law_k","_law_others","_law_lines","_law_line","_law_at"]) (own:=["_law_k"]) (uO (cl:=[("_law_parts",_)])) (jO (pv 4)) (λ_ _ _ _ _=>jl 10) (λ_ _ _ _ _=>Jd) (λ_ _ _ _ _=>(jp jF (pv 0) (pv 10)))) (jf (ju 7 (Jb jb)) (jf (j7 jQ (jO (jo (nw T) (ja (Vm ZS (pv 3) (ze jk) zd) (ja (jx jU (by rfl) T.ut uo (ja (pv 1) jb)) jb)))) (jl 5) (jf (qE 8 (own:=["_law_part","_law_pin"]) (uO (cl:=[("_law_order_here",_)])) (jO (jp jF (pv 1) (pv 5))) (λ_ _ _ _ _=>Jv (n:=2) (jt (jl 10) (jt (jl 11) Jc))) (λ_ _ _ _ _=>Jd) (λ_ _ _ _ _=>(Jn (ja (Jm PySem.F.plainAttrs_list PySem.F.slot_list_index PySem.F.type_list_index VC (pv 4) (ja (pv 10) jb)) (ja (pv 11) jb))))) (jf (ju 9 (jK uF (jp jF (pv 3) (jK Uy jk (jK uF (pv 5) jk))) (jK Uy (jx jU (by rfl) T.ut uo (ja (pv 8) jb)) jk))) (jj (j6 (Jm PySem.F.plainAttrs_list PySem.F.slot_list_append PySem.F.type_list_append j3 (pv 7) (ja (jK vc (cp rfl (by rfl) T.Uc (by rfl) T.cg (Vm ZS (pv 8) (ze (pv 9)) zd)) (Vm ZS (pv 8) zd (ze (pv 9)))) jb))))))) (jj (jH (Jn (ja (pv 6) (ja (pv 7) jb)))))))))),?_]];have lu:us.length=rs.length:=by have:=ka.1;rwa [ya] at this
 have lw:ws.length=nn.length:=EA.1;have g6:=G.few;have PD:=G.fewN;refine Vo (λ(Z:Addr) (zs:List Int)=>[oR pl,oR nl,oR sc,oR Z,none,none,none,none,none,none]) (λZ zs H'=>A4 (Same H H') (H' Z=some (.lst (zs.map V.int))) (zs.length=24) (∀d∈zs,0<=d/\d<24)) (λB hB=>#[_,rfl,sc,ns,2,rfl,hq,λc=>#[c,24,rfl,by decide,λS ds H' s' hS eS l h=>hB S ds H' #[s',eS,l,h]]]) ?_;rintro Z zs H1 ⟨s1,eZ,lz,hz⟩;refine Vo (λ(O:Addr) (os:List Nat)=>[oR pl,oR nl,oR sc,oR Z,oR O,none,none,none,none,none]) (λO os H'=>A3 (Same H1 H') (H' O=some (.lst (os.map uf))) (os.Perm (List.range rs.length))) (λB hB=>#[_,rfl,_,rfl,pl,_,rfl,.inl (jg.of (s1 _ _ Ba)),Z,zs,_,(),rfl,eZ,by rw[ya];omega,hz,λO os H' s' hO eO pm=>hB O os H' #[s',eO,by rwa [ya,lu] at pm]]) ?_;rintro O os H2 ⟨s2,eO,pm⟩;have Bl:=Same.trans s1 s2;have lo:os.length=rs.length:=by rw[pm.length_eq,yW]
 have mo:∀k∈os,k<rs.length:=λk hk=>yE.mp (pm.mem_iff.mp hk);refine JF (λ(X:Addr)=>[oR pl,oR nl,oR sc,oR Z,oR O,none,oR X,none,none,none]) (λX H'=>A3 (Same H2 H') (H' X=some (.lst ((os.map λk=>us.getD k 0).map V.ref))) True) (λB hB=>?_) ?_
 ·refine#[_,rfl,O,rfl,#[_,jg.of eO],Ut (xs:=os.map uf) (λ_=>true) (λx=>match x with|.int k=>.ref (us.getD k.toNat 0)|_=>.non) (jg.of eO) (by rw[ya,lo];exact yp g6 '$') (λx hx H' Qy Qn s' hy _=>?_) λD hD=>?_]
  ·obtain⟨k,hk,rfl⟩:=yi.mp hx;have kl:k<us.length:=by rw[lu];exact mo k hk
   exact#[#[_,rfl,rfl],JI #[_,rfl,_,rfl,pl,_,(k:Nat),.ref (us.getD k 0),rfl,rfl,jg.of (s' _ _ (Bl _ _ Ba)),Je (by rw[ye,some_of (d:=0) kl];rfl),hy rfl]]
  ·exact hB D _ #[jh (Same.refl H2) hD,by rw[jc,Qz.mpr (λ_ _=>rfl),yq,yq];rfl,trivial]
 rintro X H3 ⟨s3,eX,_⟩;have BF:=Same.trans s2 s3;have Bb:=Same.trans s1 BF;have kX:KeyAt H3 (os.map λk=>us.getD k 0) ((os.map λk=>rs.getD k ("",0)).map kH):=by
  refine#[by rw[ya,ya,ya],λi b k h1 h2=>?_];rw[ye] at h1;rw[yq,ye] at h2;obtain⟨x,ex,rfl⟩:=yz.mp h1;rw[ex] at h2;cases h2;have xl:=mo x (yk ex);exact Bb _ _ (ka.2 x _ _ (some_of (by rw[lu];exact xl)) (by rw[ye,some_of (l:=rs) (d:=("",0)) xl];rfl))
 refine JF (λ(L:Addr)=>[oR pl,oR nl,oR sc,oR Z,oR O,none,oR X,oR L,none,none]) (λL H'=>A3 (Same H3 H') (H3 L=none) (H' L=some (.lst []))) (λB hB=>#[UY,λD hD=>hB D _ #[jh (Same.refl H3) hD,hD,jc]]) ?_;rintro L H4 ⟨s4,hL,eL⟩;have Bj:=Same.trans Bb s4;refine pe (λ(v5 v8 v9:Option V) (o2:List Nat) (BH:AI)=>[oR pl,oR nl,oR sc,oR Z,oR O,v5,oR X,oR L,v8,v9]) (λ_ _ _ o2 BH H'=>A4 (Same H3 H') (H' L=some (.lst (BH.map V.ref))) (o2.Perm (List.range nn.length)) (∃A1,A3 (Jr H' BH A1) (A1.length=o2.length) (∀(j k:Nat) l l',o2[j]?=some k->nn[k]?=some l->A1[j]?=some l'->(l.map λx=>(os.idxOf x.1,x.2)).Perm l'))) (λB hB=>?_) ?_
 ·refine#[_,rfl,_,rfl,Z,_,rfl,jg.of (s4 _ _ (BF _ _ eZ)),λz6 Ts=>?_];have t1:=jh (o:=.lst (uY (zs.map V.int) (some 6) none)) (Same.refl H4) Ts;have e1:upd H4 z6 (.lst (uY (zs.map V.int) (some 6) none)) z6=some (.lst ((zs.drop 6).map V.int)):=by rw[jc,show (some (6:Int))=some ((6:Nat):Int) from rfl,gs,We]
  generalize upd H4 z6 (.lst (uY (zs.map V.int) (some 6) none))=H5 at t1 e1;refine#[_,rfl,nl,_,rfl,.inl (jg.of (t1 _ _ (Bj _ _ B0))),z6,zs.drop 6,_,(),rfl,e1,by rw[ya,Q0];omega,λd hd=>hz d (List.mem_of_mem_drop hd),λO2 o2 H6 s6 hO2 PH BP=>?_];rw[ya,lw] at BP;have lo2:o2.length=nn.length:=by rw[BP.length_eq,yW]
  have Bm:=Same.trans s4 (Same.trans t1 s6);have HH:=s6 _ _ (t1 _ _ eL);refine#[O2,rfl,#[_,jg.of PH],uJ (xs:=o2.map uf) (λi σ H'=>E5 λ(v5 v8 v9:Option V) (BH:AI) (A1:List (List (Nat×Nat)))=>A7 (σ=[oR pl,oR nl,oR sc,oR Z,oR O,v5,oR X,oR L,v8,v9]) (Same H3 H') (H' O2=some (.lst (o2.map uf))) (H' L=some (.lst (BH.map V.ref))) (Jr H' BH A1/\∀v∈BH,v≠L) (A1.length=i) (∀(j k:Nat) l l',o2[j]?=some k->nn[k]?=some l->A1[j]?=some l'->(l.map λx=>(os.idxOf x.1,x.2)).Perm l')) #[_,_,_,[],[],rfl,Bm,PH,HH,#[#[rfl,λi v l h=>nomatch h],λv h=>nomatch h],rfl,λj k l l' _ _ h=>nomatch h] (λi σ H' _ h=>by obtain⟨_,_,_,_,_,_,_,e,_⟩:=h;exact jg.of e) ?_ ?_]
  ·rintro i x σ H7 hx ⟨v5,v8,v9,BH,A1,rfl,s7,HJ,HK,⟨DH,nL⟩,l7,p7⟩;obtain⟨k,ek,rfl⟩:=jS hx;have kl:k<nn.length:=yE.mp (BP.mem_iff.mp (yk ek));have CU:=Same.trans Bb s7;have Tt:=EA.same CU;have ev:=yb (l:=ws) (i:=k) '!';generalize ws[k]=v at ev;have el:=yb kl;have lm:=yB kl;generalize nn[k]=l at el lm;obtain⟨qs,g1,g2⟩:=Tt.2 k v l ev el;have DZ:qs.length=l.length:=by have:=g2.1;rwa [ya] at this
   have inl:∀x∈l,x.1<rs.length:=λx hx=>by
    obtain⟨y,hy,hq⟩:=QH.mp (G.pm.mem_iff.mp (List.mem_flatten.mpr #[l,lm,hx]));obtain⟨r,_,e⟩:=yi.mp hq;obtain⟨i',B9,e'⟩:=yD hy;rw[<-e,<-e',List.getElem_zipIdx];rw[Q6] at B9;show 0+i'<_;omega
   have ll:l.length<=24:=by
    have h1:l.length<=nn.flatten.length:=(Q7 lm).length_le;have h2:=G.pm.length_eq;have h3:=UZ G.few λx hx=>(G.k x hx).3;omega
   refine Vo (λ(N:Addr) (Bg:AI)=>[oR pl,oR nl,oR sc,oR Z,oR O,oI (k:Nat),oR X,oR L,oR N,v9]) (λN Bg H'=>A3 (Same H7 H') (H' N=some (.lst (Bg.map V.ref))) (KeyAt H' Bg ((l.map λx=>(os.idxOf x.1,x.2)).map kE))) (λB hB=>?_) ?_
   ·refine#[_,rfl,_,rfl,nl,_,(k:Nat),.ref v,rfl,rfl,jg.of (CU _ _ B0),Je (by rw[ye,ev];rfl),v,rfl,#[_,jg.of g1],uh (xs:=qs.map V.ref) (λD i ys H'=>∃Bg:List Addr,A6 (Same H7 H') (H7 D=none) (H' D=some (.lst ys)) (ys=Bg.map V.ref) (Bg.length<=i) (KeyAt H' Bg (((l.take i).map λx=>(os.idxOf x.1,x.2)).map kE))) (Ni (by rw[ya];omega)) (λD hD=>#[[],jh (Same.refl H7) hD,hD,jc,rfl,yh _,rfl,λi b k h=>nomatch h]) (λD i ys H' h=>by obtain⟨Bg,h1,h2,h3,h4,h5,_⟩:=h;exact#[h3,by rw[h4,ya];exact h5,jg.of (h1 _ _ g1)]) ?_ ?_]
    ·rintro D i' y ys H8 Qy Qn Tu ⟨Bg,s8,hD,eD,rfl,l8,k8⟩ hy hn;obtain⟨b,eb,rfl⟩:=jS Tu;have li:i'<l.length:=by rw[<-DZ];exact (yc.mp eb).1
     have ex:=yb li;have xm:=yB li;have tb:=g2.2 i' b (kE l[i']) eb (by rw[ye,ex];rfl);generalize l[i']=x at ex xm tb;have BO:=inl x xm;have PJ:H8 O=some (.lst ((os.map λn=>((n:Nat):Int)).map V.int)):=by rw[<-M5];exact s8 _ _ (s7 _ _ (s3 _ _ eO))
     refine#[b,_,rfl,jB.of (s8 _ _ tb),rfl,_,_,rfl,_,_,rfl,rfl,#[_,rfl,rfl],JI #[_,rfl,.inl #[rfl,_,jg.of PJ],_,rfl,O,_,(x.1:Nat),rfl,rfl,PJ,by rw[ya];omega,yi.mpr #[x.1,pm.mem_iff.mpr (yE.mpr BO),rfl],_,rfl,Uz,λu9 F2=>?_]];rw[MJ]
     exists H9,s9,e9,H8,u9,F2,.tup [.int (os.idxOf x.1:Nat),kV (Sum.inl ((x.2:Nat):Int))],.tup ((kE (os.idxOf x.1,x.2)).map kV)
     have D0:=s9 _ _ eD;refine hy _ _ D0 #[Bg++[u9],jM (Same.trans s8 s9) hD,hD,jc,by rw[yf];rfl,by rw[yj];exact QG l8,?_];rw[jC ex,yf,yf];exact (uD (KeyAt.mono' k8 s9) e9).wr D0
    ·rintro D ys H8 hD ⟨Bg,s8,_,eD,rfl,l8,k8⟩;rw[ya,jN DZ.symm] at k8;exact hB D Bg H8 #[s8,eD,k8]
   rintro N Bg H8 ⟨s8,eN,k8⟩;have l8:Bg.length=l.length:=by have:=k8.1;rwa [ya,ya] at this
   have Tv:=Same.trans BF (Same.trans s7 s8);obtain⟨z1,Tw,z1l⟩:∃z:Nat,(12:Int)+(k:Int) % 12=(z:Int)/\z<24:=#[((12:Int)+(k:Int) % 12).toNat,by omega,by omega];have zb:z1<zs.length:=by omega
   obtain⟨c,ec⟩:∃c:Nat,zs[z1] % (((Bg.map V.ref).length:Int)+1)=(c:Int):=#[(zs[z1] % (((Bg.map V.ref).length:Int)+1)).toNat,by have:=Ul (i:=zs[z1]) (m:=((Bg.map V.ref).length:Int)+1) '!';omega];refine J0 [oR pl,oR nl,oR sc,oR Z,oR O,oI (k:Nat),oR X,oR L,oR N,oI (c:Nat)] (λH'=>H'=H8) (λB hB=>#[_,rfl,_,rfl,(k:Nat),12,rfl,rfl,(by show (0:Int)<12;decide),12,_,rfl,rfl,Z,_,(z1:Nat),.int zs[z1],rfl,congrArg V.int Tw,jg.of (Tv _ _ eZ),MR zb,_,rfl,N,_,rfl,.inl (jg.of eN),_,1,rfl,rfl,_,_,rfl,rfl,(by show (0:Int)<((Bg.map V.ref).length:Int)+1;omega),by rw[ec];exact hB _ rfl]) ?_;rintro H8 rfl;have L9:=s8 _ _ HK;refine#[_,rfl,.inl #[rfl,_,jg.of L9],_,rfl,_,rfl,_,rfl,N,_,rfl,jg.of eN,λw1 Tx=>?_];rw[gs]
   exists H9,t1,f1,H8,w1,Tx,.lst ((Bg.map V.ref).drop c)
   refine#[w1,_,rfl,jg.of f1,λw2 Tz=>?_]
   exists F1,t2,f2,H9,w2,Tz,.lst ((Bg.map V.ref).drop c).reverse
   have Oa:=Same.trans t1 t2;refine#[_,rfl,_,rfl,_,rfl,N,_,rfl,jg.of (Oa _ _ eN),λw3 TB=>?_];rw[rP]
   exists F3,t3,f3,F1,w3,TB,.lst ((Bg.map V.ref).take c)
   refine#[w2,w3,_,_,rfl,rfl,t3 _ _ f2,f3,Ni (by rw[List.length_reverse,Q0,yI,ya];omega),λw4 Ob=>?_];have t4:=jh (o:=.lst (((Bg.map V.ref).drop c).reverse++(Bg.map V.ref).take c)) (Same.refl F3) Ob;have f4:upd F3 w4 (.lst (((Bg.map V.ref).drop c).reverse++(Bg.map V.ref).take c)) w4=some (.lst (((Bg.drop c).reverse++Bg.take c).map V.ref)):=by rw[jc,yf,List.map_reverse,We,List.map_take]
   generalize upd F3 w4 (.lst (((Bg.map V.ref).drop c).reverse++(Bg.map V.ref).take c))=Oc at t4 f4;have Oe:=Same.trans Oa (Same.trans t3 t4);have F4:=Oe _ _ L9;have n4:w4≠L:=λz=>by rw[z,t3 _ _ (Oa _ _ L9)] at Ob;cases Ob
   have EH:=Same.trans s8 Oe;have TC:BH.length=i:=by rw[DH.1,l7]
   have lil:i<o2.length:=(yc.mp ek).1;have kr:=dJ (KeyAt.mono' k8 Oe) c;have E12:=(DH.same EH).snoc f4 kr;have F5:∀u∈BH++[w4],u≠L:=λu hu=>(yL.mp hu).elim (λh=>nL u h) λh=>by rw[yu.mp h];exact n4
   refine#[L,_,_,rfl,rfl,F4,Vp (by rw[ya,TC];omega),_,_,_,BH++[w4],A1++[_],rfl,jM (Same.trans s7 EH) hL,?_,by rw[jc,yf];rfl,#[E12.off (λz=>F5 L z rfl) F4,F5],by rw[yj,l7];rfl,λj k' m m' e1 e2 e3=>?_]
   ·rw[jw (λz=>by rw[z,HK] at HJ;exact absurd (HO.lst.inj (Option.some.inj HJ)) (by
     intro z2;cases o2 with
     | nil=>cases ek
     | cons _ _=>cases BH with
      | nil=>cases z2
      | cons _ _=>injection z2 with z2 _;cases z2))]
    exact EH _ _ HJ
   ·by_cases hj:j<A1.length
    ·rw[yC hj] at e3;exact p7 j k' m m' e1 e2 e3
    ·rw[yG '!'] at e3;have z0:j - A1.length=0:=by have:=(yc.mp e3).1;simp at this;omega
     rw[z0] at e3;cases e3;obtain rfl:j=i:=by omega
     rw[ek] at e1;cases e1;rw[el] at e2;cases e2;exact (lK _ c).symm
  ·rintro σ H7 ⟨v5,v8,v9,BH,A1,rfl,s7,HJ,HK,⟨DH,nL⟩,l7,p7⟩;rw[ya] at l7;exact hB _ _ _ o2 BH _ #[s7,HK,BP,A1,DH,l7,p7]
 rintro v5 v8 v9 o2 BH H5 ⟨s5,Cj,BP,A1,TH,l5,p5⟩;have lo2:o2.length=nn.length:=by rw[BP.length_eq,yW]
 refine#[_,rfl,_,rfl,Uz,λu hu=>?_];have s6:=jh (o:=.tup [.ref X,.ref L]) (Same.refl H5) hu;have Bm:=Same.trans s5 s6;refine q u (os.map λk=>rs.getD k ("",0)) A1 _ (λi=>os.idxOf i) (λj=>o2.idxOf j) (Same.trans Bb Bm) #[X,L,_,BH,jc,Bm _ _ eX,KeyAt.mono' kX Bm,s6 _ _ Cj,TH.same s6] #[by rw[ya,lo],by rw[l5,lo2],aq pm,aq BP,λi hi=>?_,λj l1 l2 e1 e2=>?_]
 ·rw[ye,(Zj pm hi).2,some_of (l:=rs) (d:=("",0)) hi]
  rfl
 ·exact p5 _ _ _ _ (Zj BP (yc.mp e1).1).2 e1 e2
variable {P:AS}{w:World}{K:AB}{mg:AE}{base:Heap}{t:Adr}
def pN (hd:Str) (k:Nat):Str:=hd++Str.ofString (toString (k:Int))
def nN (hd:Str) (k:Nat):Str:=("n":Str)++hd++Str.ofString (toString (k:Int))
def Vu:List Str:=["a","x","y"]
theorem qy:∀hd∈Vu,∀k,k<6->Uv (pN hd k)=true/\(pN hd k).length<=1000:=by decide +kernel
theorem qk:∀hd∈Vu,∀k,k<6->Uv (nN hd k)=true/\(nN hd k).length<=1000:=by decide +kernel
theorem eJ:∀hd∈Vu,∀k,k<6->∀j,j<6->pN hd k=pN hd j->k=j:=by decide +kernel
theorem sC:∀hd∈Vu,∀k,k<6->∀j,j<6->nN hd k=nN hd j->k=j:=by decide +kernel
theorem aw:(Uv "r"=true/\("r":Str).length<=1000)/\Uv "cap"=true/\("cap":Str).length<=1000:=by decide +kernel
def JS (hd:Str) (rs:List uA):List Jp:=rs.zipIdx.map λx=>#[pN hd x.2,x.1.1,x.1.2]
def UU (hd:Str) (q:Nat×Nat):JC:=(pN hd q.1,(q.2:Int))
def ub (hd:Str) (nn:List (List (Nat×Nat))):List JL:=nn.zipIdx.map λx=>(nN hd x.2,x.1.map (UU hd))
theorem mR (i:Nat):(JS hd rs)[i]?=rs[i]?.map λx=>#[pN hd i,x.1,x.2]:=by
 unfold JS;rw[ye,List.getElem?_zipIdx,Option.map_map];simp [Function.comp_def]
theorem cM {nn:List (List (Nat×Nat))} (j:Nat):(ub hd nn)[j]?=nn[j]?.map λl=>(nN hd j,l.map (UU hd)):=by
 unfold ub;rw[ye,List.getElem?_zipIdx,Option.map_map];simp [Function.comp_def]
theorem Vr:(JS hd rs).length=rs.length:=by unfold JS;rw[ya,Q6]
theorem vJ {nn:List (List (Nat×Nat))}:(ub hd nn).length=nn.length:=by unfold ub;rw[ya,Q6]
theorem Ju {x:Nat×Nat}:x∈JE rs↔∃r,rs[x.1]?=some r/\x.2<r.2:=by
 unfold JE;rw[QH];constructor
 ·rintro⟨y,hy,hx⟩;obtain⟨q,hq,rfl⟩:=yi.mp hx;obtain⟨i,hi,rfl⟩:=yD hy;rw[Q6] at hi;rw[List.getElem_zipIdx] at hq ⊢;exact#[_,by show rs[0+i]?=_;rw[QD];exact yb hi,yE.mp hq]
 ·rintro⟨r,hr,hx⟩;exact#[(r,x.1),yk (i:=x.1) (by rw[List.getElem?_zipIdx,hr];simp),yi.mpr #[x.2,yE.mpr hx,rfl]]
theorem gQ (rs:List uA):(JE rs).Nodup:=by
 have:∀n,n<=rs.length->(JE (rs.take n)).Nodup:=λn=>by
  induction n with
  | zero=>intro _;exact Qk
  | succ n ih =>
   intro hn;rw[jC (yb (by omega:n<rs.length)),GV];refine Qd.mpr #[ih '!',Ud Q2 λa _ b _ e=>(Prod.mk.inj e).2,λa ha b hb e=>?_];obtain⟨r,hr,_⟩:=Ju.mp ha;obtain⟨q,_,rfl⟩:=yi.mp hb;have:=(yc.mp hr).1;rw[e] at this;exact QI _ this
 have h:=this rs.length (yh _);rwa [jN rfl] at h
theorem aV:∀(nn:List (List (Nat×Nat))),JK (ub hd nn)=nn.flatten.map (UU hd):=λnn=>by
 have:∀(nn:List (List (Nat×Nat))) (k:Nat),JK ((nn.zipIdx k).map λx=>(nN hd x.2,x.1.map (UU hd)))=nn.flatten.map (UU hd):=λnn=>by
  induction nn with
  | nil=>intro k;rfl
  | cons a nn ih =>
   intro k;rw[List.zipIdx_cons,yH,QX,yf,<-ih (k+1)]
   rfl
 exact this nn 0
theorem aM (rs:List uA):Ue (JS hd rs)=(JE rs).map (UU hd):=by
 unfold Ue JS JE;rw[List.flatMap_map,List.map_flatMap];congr 1;funext x;show vA (pN hd x.2) x.1.2=_;unfold vA;rw[yq]
 rfl
theorem am (hh:hd∈Vu) {nn:List (List (Nat×Nat))} (G:VY rs nn):um (JS hd rs) (ub hd nn):=by
 have g6:=G.few;have PD:=G.fewN;have inj:∀a∈JE rs,∀b∈JE rs,UU hd a=UU hd b->a=b:=λa ha b hb e=>by
  obtain⟨e1,e2⟩:=Prod.mk.inj e;obtain⟨_,ra,_⟩:=Ju.mp ha;obtain⟨_,rb,_⟩:=Ju.mp hb;exact Prod.ext (eJ hd hh _ (by have:=(yc.mp ra).1;omega) _ (by have:=(yc.mp rb).1;omega) e1) (Int.ofNat.inj e2)
 have pm:(JK (ub hd nn)).Perm (Ue (JS hd rs)):=by rw[aV,aM];exact G.pm.map _
 have Hw:(Ue (JS hd rs)).Nodup:=by rw[aM];exact Ud (gQ rs) inj
 refine#[by rw[Vr];omega,λx hx=>?_,?_,by rw[vJ];omega,λy hy=>?_,?_,pm.nodup_iff.mpr Hw,pm,?_]
 ·obtain⟨i,hi,rfl⟩:=yD hx;rw[Vr] at hi;have e:=mR (hd:=hd) (rs:=rs) i;rw[yb (by rw[Vr];exact hi),yb hi] at e;rw[Option.some.inj e];obtain⟨k1,k2,k3⟩:=G.k _ (yB hi);have n1:=qy hd hh i '!';have n2:Uv rs[i].1=true/\rs[i].1.length<=1000:=by
   rcases k1 with z|z
   ·rw[z];exact aw.1
   ·rw[z];exact aw.2
  exact#[n1.1,n2.1,n1.2,n2.2,k2,yp k3 '$']
 ·have:(JS hd rs).map (·.name)=(List.range rs.length).map (pN hd):=yX (by rw[ya,ya,Vr,yW]) λi h1 h2=>by
   rw[ya,Vr] at h1;have e:=mR (hd:=hd) (rs:=rs) i;rw[yb (by rw[Vr];exact h1),yb h1] at e;rw[yR,Option.some.inj e,yR,List.getElem_range]
  rw[this];exact Ud Q2 λa ha b hb=>eJ hd hh a (by have:=yE.mp ha;omega) b (by have:=yE.mp hb;omega)
 ·obtain⟨i,hi,rfl⟩:=yD hy;rw[vJ] at hi;have e:=cM (hd:=hd) (nn:=nn) i;rw[yb (by rw[vJ];exact hi),yb hi] at e;rw[Option.some.inj e];exact#[qk hd hh i '!',λz=>G.ne _ (yB hi) (List.map_eq_nil_iff.mp z)]
 ·have:(ub hd nn).map (·.1)=(List.range nn.length).map (nN hd):=yX (by rw[ya,ya,vJ,yW]) λi h1 h2=>by
   rw[ya,vJ] at h1;have e:=cM (hd:=hd) (nn:=nn) i;rw[yb (by rw[vJ];exact h1),yb h1] at e;rw[yR,Option.some.inj e,yR,List.getElem_range]
  rw[this];exact Ud Q2 λa ha b hb=>sC hd hh a (by have:=yE.mp ha;omega) b (by have:=yE.mp hb;omega)
 ·rw[aV,ya,G.pm.length_eq];exact yK (UZ G.few λx hx=>(G.k x hx).3) '$'
structure Lk (S:uu) (rs:List uA) (nn:List (List (Nat×Nat))):Prop where
 hs:S.hs=rs
 el:S.es.length=nn.length
 es:∀(j:Nat) l e,nn[j]?=some l->S.es[j]?=some e->e.Perm l
theorem mM (hh:hd∈Vu) {nn:List (List (Nat×Nat))} (G:VY rs nn) {ks:List JC} (S:uc (ub hd nn) ks):Lk (ve (JS hd rs) (ub hd nn) ks) rs nn:=by
 have GD:=am hh G;refine#[QW λi=>?_,by show (UQ _ _ _).length=_;rw[Zg,vJ],λj l e h1 h2=>?_]
 ·show (hsOf (JS hd rs))[i]?=_;unfold hsOf;rw[ye,mR,Option.map_map];simp [Function.comp_def]
 ·have ey:(ub hd nn)[j]?=some (nN hd j,l.map (UU hd)):=by rw[cM,h1];rfl
  obtain⟨e',e1,p1⟩:=tm GD S ey;rw[h2] at e1;cases e1;refine p1.trans (.of_eq ?_);rw[yq];refine (yY λq hq=>?_).trans (Wh l);obtain⟨r,er,hq2⟩:=Ju.mp (G.pm.mem_iff.mp (List.mem_flatten.mpr #[l,yk h1,hq]));have:fP (JS hd rs) (UU hd q)=q.1:=cw GD.names (by rw[ye,mR,er];rfl);show (fP (JS hd rs) (UU hd q),((q.2:Nat):Int).toNat)=q;rw[this]
  rfl
theorem r6 {nn:List (List (Nat×Nat))} (L1:Lk S1 rs nn) (L2:Lk S2 Bc A1) (I:ii rs nn Bc A1 p r):gV S1 S2 p r:=by
 have e1:=L1.hs;have e2:=L2.hs;refine#[by rw[e1,e2];exact I.n,by rw[L1.el,L2.el];exact I.m,by rw[e1];exact I.bp,by rw[L1.el];exact I.br,by rw[e1,e2];exact I.hs,λj l1 l2 h1 h2=>?_];have hj:j<nn.length:=by rw[<-L1.el];exact (yc.mp h1).1
 have hk:r j<A1.length:=by rw[<-L2.el];exact (yc.mp h2).1
 have g1:=yb hj;have g2:=yb hk;exact ((L1.es j _ _ g1 h1).map _).trans ((I.es j _ _ g1 g2).trans (L2.es _ _ _ g2 h2).symm)
structure gW (rs:List uA) (nn:List (List (Nat×Nat))) (Bc:List uA) (A1:List (List (Nat×Nat))) (ps ns:List Nat):Prop where
 pl:ps.length=rs.length
 nl:ns.length=nn.length
 pm:ps.Perm (List.range Bc.length)
 nm:ns.Perm (List.range A1.length)
 hs:∀(i:Nat) k,ps[i]?=some k->Bc[k]?=rs[i]?
 es:∀(j:Nat) k l1 l2,ns[j]?=some k->nn[j]?=some l1->A1[k]?=some l2->(l1.map λx=>(ps.getD x.1 0,x.2)).Perm l2
theorem dQ {nn:List (List (Nat×Nat))} (L1:Lk S1 rs nn) (L2:Lk S2 Bc A1) {ps ns:List Nat} (R:bj S1 S2 ps ns):gW rs nn Bc A1 ps ns:=by
 have e1:=L1.hs;have e2:=L2.hs;refine#[by rw[R.pl,e1],by rw[R.nl,L1.el],by rw[<-e2];exact R.pm,by rw[<-L2.el];exact R.nm,λi k h=>by have:=R.hs i k h;rwa [e1,e2] at this,λj k l1 l2 h h1 h2=>?_];have hj:j<S1.es.length:=by rw[L1.el];exact (yc.mp h1).1
 have hk:k<S2.es.length:=by rw[L2.el];exact (yc.mp h2).1
 have g1:=yb hj;have g2:=yb hk;exact ((L1.es j _ _ h1 g1).symm.map _).trans ((R.es j k _ _ h g1 g2).trans (L2.es _ _ _ h2 g2))
def zN (rs:List uA) (nn:List (List (Nat×Nat))) (Bc:List uA) (A1:List (List (Nat×Nat))):Prop:=∃p r,ii rs nn Bc A1 p r
theorem vB.inv (b:vB n p):∃p',vB n p'/\(∀i,i<n->p' (p i)=i)/\∀k,k<n->p (p' k)=k:=by
 classical
 have F6:∀k,k<n->∃i,i<n/\p i=k:=λk hk=>by
  obtain⟨i,hi,e⟩:=yi.mp (b.perm.mem_iff.mpr (yE.mpr hk));exact#[i,yE.mp hi,e]
 let p':Nat->Nat:=λk=>if h:∃i,i<n/\p i=k then h.choose else 0
 have hp:∀k,k<n->p' k<n/\p (p' k)=k:=λk hk=>by
  show (if h:∃i,i<n/\p i=k then h.choose else 0)<n/\p (if h:∃i,i<n/\p i=k then h.choose else 0)=k;rw[dif_pos (F6 k hk)];exact (F6 k hk).choose_spec
 refine#[p',#[λk hk=>(hp k hk).1,λi hi j hj e=>by rw[<-(hp i hi).2,e,(hp j hj).2]],λi hi=>?_,λk hk=>(hp k hk).2];exact b.inj _ (hp _ (b.lt i hi)).1 i hi (hp _ (b.lt i hi)).2
theorem vB.comp {q:Nat->Nat} (a:vB n p) (b:vB n q):vB n λi=>q (p i):=#[λi hi=>b.lt _ (a.lt i hi),λi hi j hj e=>a.inj i hi j hj (b.inj _ (a.lt i hi) _ (a.lt j hj) e)]
theorem zN.symm {nn:List (List (Nat×Nat))} (G:VY rs nn) (h:zN rs nn Bc A1):zN Bc A1 rs nn:=by
 obtain⟨p,r,I⟩:=h;obtain⟨p',bp,p1,p2⟩:=I.bp.inv;obtain⟨r',br,r1,r2⟩:=I.br.inv;refine#[p',r',I.n.symm,I.m.symm,by rw[<-I.n];exact bp,by rw[<-I.m];exact br,λi hi=>?_,λj l1 l2 h1 h2=>?_]
 ·rw[<-I.n] at hi;have:=I.hs (p' i) (bp.lt i hi);rw[p2 i hi] at this;exact this.symm
 ·have hj:j<nn.length:=by rw[I.m];exact (yc.mp h1).1
  have:=I.es (r' j) l2 l1 h2 (by rw[r2 j hj];exact h1);refine (this.symm.map λx:Nat×Nat=>(p' x.1,x.2)).trans (.of_eq ?_);rw[yq];refine (yY λx hx=>?_).trans (Wh l2);obtain⟨q,er,_⟩:=Ju.mp (G.pm.mem_iff.mp (List.mem_flatten.mpr #[l2,yk h2,hx]));show (p' (p x.1),x.2)=x;rw[p1 _ (yc.mp er).1]
theorem zN.trans {B2:List uA}{nn B3:List (List (Nat×Nat))} (h:zN rs nn Bc A1) (h2:zN Bc A1 B2 B3):zN rs nn B2 B3:=by
 obtain⟨p,r,I⟩:=h;obtain⟨p',r',J⟩:=h2;refine#[λi=>p' (p i),λj=>r' (r j),I.n.trans J.n,I.m.trans J.m,I.bp.comp (by have:=J.bp;rwa [<-I.n] at this),I.br.comp (by have:=J.br;rwa [<-I.m] at this),λi hi=>?_,λj l1 l2 h1 h2=>?_]
 ·exact (J.hs (p i) (by rw[<-I.n];exact I.bp.lt i hi)).trans (I.hs i hi)
 ·have hj:=(yc.mp h1).1;have hk:r j<A1.length:=by rw[<-I.m];exact I.br.lt j hj
  have g:=yb hk;refine (List.Perm.of_eq ?_).trans (((I.es j _ _ h1 g).map λx:Nat×Nat=>(p' x.1,x.2)).trans (J.es _ _ _ g h2));rw[yq]
  rfl
theorem zN.good {nn:List (List (Nat×Nat))} (G:VY rs nn) (h:zN rs nn Bc A1):VY Bc A1:=by
 obtain⟨p,r,I⟩:=h;obtain⟨p',bp,p1,p2⟩:=I.bp.inv;obtain⟨r',br,r1,r2⟩:=I.br.inv;refine#[by rw[<-I.n];exact G.few,λx hx=>?_,by rw[<-I.m];exact G.fewN,λl hl z=>?_,?_]
 ·obtain⟨i,hi,rfl⟩:=yD hx;rw[<-I.n] at hi;have:=I.hs (p' i) (bp.lt i hi);rw[p2 i hi,yb (by rw[<-I.n];exact hi)] at this;exact G.k _ (yk this.symm)
 ·obtain⟨j,hj,rfl⟩:=yD hl;rw[<-I.m] at hj;have g:=yb (br.lt j hj);have:=(I.es _ _ _ g (by rw[r2 j hj];exact yb (by rw[<-I.m];exact hj))).length_eq;rw[z,ya] at this;exact G.ne _ (yB (br.lt j hj)) (QY this)
 ·have a1:A1.flatten.Perm ((List.range nn.length).flatMap λj=>A1.getD (r j) []):=by
   have e1:A1=(List.range nn.length).map λj=>A1.getD j []:=by have:=(Uu A1 []).symm;rwa [<-I.m] at this
   have e2:(List.range nn.length).flatMap (λj=>A1.getD (r j) [])=(((List.range nn.length).map r).map λj=>A1.getD j []).flatten:=by rw[yq];rfl
   rw[e2]
   conv=>lhs;rw[e1]
   exact ((I.br.perm.map _).symm).flatten
  have a2:((List.range nn.length).flatMap λj=>A1.getD (r j) []).Perm ((List.range nn.length).flatMap λj=>(nn.getD j []).map λx=>(p x.1,x.2)):=by
   have:∀l:List Nat,(∀j∈l,j<nn.length)->(l.flatMap λj=>A1.getD (r j) []).Perm (l.flatMap λj=>(nn.getD j []).map λx=>(p x.1,x.2)):=λl=>by
    induction l with
    | nil=>intro _;exact .refl _
    | cons a l ih =>
     intro hl;have ha:=hl a (yw ..);rw[QK,QK];exact (I.es a _ _ (some_of (d:=[]) ha) (some_of (d:=[]) (by rw[<-I.m];exact I.br.lt a ha))).symm.append (ih λj hj=>hl j (yn _ hj))
   exact this _ λj hj=>yE.mp hj
  have a3:((List.range nn.length).flatMap λj=>(nn.getD j []).map λx=>(p x.1,x.2))=nn.flatten.map λx=>(p x.1,x.2):=by
   have e1:=Uu nn []
   conv=>rhs;rw[<-e1]
   rw[List.map_flatten,yq]
   rfl
  refine a1.trans (a2.trans ((List.Perm.of_eq a3).trans ((G.pm.map _).trans ?_)));have Ep:((JE rs).map λx:Nat×Nat=>(p x.1,x.2)).Nodup:=Ud (gQ rs) λa ha b hb e=>by
   obtain⟨_,ra,_⟩:=Ju.mp ha;obtain⟨_,rb,_⟩:=Ju.mp hb;obtain⟨e1,e2⟩:=Prod.mk.inj e;exact Prod.ext (I.bp.inj _ (yc.mp ra).1 _ (yc.mp rb).1 e1) e2
  refine ZP Ep (λx hx=>?_) ?_
  ·obtain⟨y,hy,rfl⟩:=yi.mp hx;obtain⟨q,ey,hq⟩:=Ju.mp hy;exact Ju.mpr #[q,by rw[<-ey];exact I.hs _ (yc.mp ey).1,hq]
  ·rw[ya,<-ya (f:=λx:Nat×Nat=>(p' x.1,x.2)) (as:=JE Bc)];refine ul (Ud (gQ Bc) λa ha b hb e=>?_) λx hx=>?_
   ·obtain⟨_,ra,_⟩:=Ju.mp ha;obtain⟨_,rb,_⟩:=Ju.mp hb;obtain⟨e1,e2⟩:=Prod.mk.inj e;exact Prod.ext (bp.inj _ (by rw[I.n];exact (yc.mp ra).1) _ (by rw[I.n];exact (yc.mp rb).1) e1) e2
   ·obtain⟨y,hy,rfl⟩:=yi.mp hx;obtain⟨q,ey,hq⟩:=Ju.mp hy;have hi:y.1<rs.length:=by rw[I.n];exact (yc.mp ey).1
    have:=I.hs (p' y.1) (bp.lt _ hi);rw[p2 _ hi,ey] at this;exact Ju.mpr #[q,this.symm,hq]
variable {P:AS}{w:World}{K:AB}{mg:AE}{base:Heap}{t:Adr}
theorem bC {a:Addr}{xs:List V}{g:TG}{tc:TT}{te:TE}{k:Nat}{σ:St} (Pv:Addr->Nat->List V->Hp->Prop)
  (h0:∀D,H D=none->Pv D 0 [] (upd H D (.lst []))) (hD:∀D i ys H',Pv D i ys H'->H' D=some (.lst ys)/\jg K H' a xs)
  (step:∀D i x p ys H' (Qy:VK) (Qn:Hp->Prop),xs[i]?=some x->H' p=none->Pv D i ys H'->(∀y H4,H4 D=some (.lst ys)->Pv D (i+1) (ys++[y]) (upd H4 D (.lst (ys++[y])))->Qy y H4) ->
   g (.ref p) (σ++List.replicate k none) (upd H' p (.tup [.int i,x])) λσ2 H2=>(∃zs,σ2=σ++zs/\zs.length=k)/\tc σ2 H2 λb H3=>if b=true then te σ2 H3 Qy else Qn H3)
  (hz:∀D i ys H',Pv D i ys H'->ys.length<sizeLine) (q:∀D ys H',H D=none->Pv D xs.length ys H'->Q (.ref D) H'):vM k g tc te σ Q (G0 K a) H:=by
 intro D CA;refine#[λi m ys H'=>m=xs.length - i/\i<=xs.length/\Pv D i ys H',#[xs.length,by simp,yT _,h0 D CA],?_];rintro i m ys H' ⟨rfl,hi,p⟩;obtain⟨e,q1⟩:=hD D i ys H' p;refine#[e,?_];by_cases AX:i<xs.length
 ·refine .inr #[#[xs,xs[i],q1,by simp [AX]],hz D i ys H' p,λx H2 y=>?_];obtain⟨t,x,ht,rfl,rfl,e⟩:=y;exact step D i x t ys H' _ _ (e xs q1) ht p (λy H4 e4 p4=>#[e4,xs.length - (i+1),by omega,rfl,AX,p4])
 ·obtain rfl:i=xs.length:=by omega
  exact .inl #[#[xs,q1,yh _],q D ys H' CA p]
theorem ng:∀hd∈Vu,∀k:Nat,k<6->A3 (hd.length+(Str.ofString (toString (k:Int))).length<=1000) (("n":Str).length+hd.length<=1000) ((("n":Str)++hd).length+(Str.ofString (toString (k:Int))).length<=1000):=λhd hh k hk=>by
 have:∀hd∈Vu,∀k:Nat,k<6->hd.length+(Str.ofString (toString (k:Int))).length<=1000/\("n":Str).length+hd.length<=1000/\(("n":Str)++hd).length+(Str.ofString (toString (k:Int))).length<=1000:=by decide +kernel
 obtain⟨a,b,c⟩:=this hd hh k hk;exact#[a,b,c]
theorem uH.snoc (C:uH H ps xs) {p:Addr} {x:Jp} (h:H p=some (.tup [.str x.name,.str x.kind,.int x.many])):uH H (ps++[p]) (xs++[x]):=by
 refine#[by rw[yj,yj,C.1];rfl,λi q c h1 h2=>?_];have la:=C.1;by_cases hi:i<ps.length
 ·rw[yC hi] at h1;rw[yC '!'] at h2;exact C.2 i q c h1 h2
 ·rw[yG '!'] at h1;rw[yG '!',<-la] at h2;have z:i - ps.length=0:=by have:=(yc.mp h1).1;simp at this;omega
  rw[z] at h1 h2;cases h1;cases h2;exact h
theorem uH.wr (C:uH H ps xs) {o:HO} (e:H D=some (.lst zs)):uH (upd H D o) ps xs:=#[C.1,λi b k h1 h2=>jq (jX (C.2 i b k h1 h2) e) (C.2 i b k h1 h2)]
theorem ro (hd:Str) (rs:List uA) (x:uA):JS hd (rs++[x])=JS hd rs++[#[pN hd rs.length,x.1,x.2]]:=by
 unfold JS;rw[List.zipIdx_append,yf];simp
theorem rq (hd:Str) (nn:List (List (Nat×Nat))) (l:List (Nat×Nat)):ub hd (nn++[l])=ub hd nn++[(nN hd nn.length,l.map (UU hd))]:=by
 unfold ub;rw[List.zipIdx_append,yf];simp
theorem kB {i:Nat} (h:i<6):(i:Int).natAbs.log2<1920:=by
 have:=Nat.log2_le_self i;show Nat.log2 i<1920;omega
def fJ (C:Addr):Sp:=λvs H Q _=>E7 λ(pl nl:Addr) (us ws:AI) (rs:List uA) (nn:List (List (Nat×Nat))) (hd:Str)=>A8 (vs=[.ref pl,.ref nl,.str hd]) (H pl=some (.lst (us.map V.ref))) (KeyAt H us (rs.map kH)) (H nl=some (.lst (ws.map V.ref))) (Jr H ws nn) (VY rs nn) (hd∈Vu) (∀o H',Same H H'->Dw H' C o (JS hd rs) (ub hd nn)->Q (.ref o) H')
theorem kK (T:Txt K mg t):j0 P w K mg base 7 "_law_drawing" ["_law_parts","_law_nets","_law_head"] (fJ t.jG):=by
 refine T.KZ.ok ["_law_parts","_law_nets","_law_head","_law_k","_law_rows_here","_law_lines","_law_net"] ?_;rintro _ H Q E ⟨pl,nl,us,ws,rs,nn,hd,rfl,Ba,ka,B0,EA,G,hh,q⟩;refine#[rfl,λAZ A outer s hr=>#[_,(jf (Uh 4 (N0:=["_law_parts","_law_nets","_law_head","._law_k","_law_rows_here","_law_lines","_law_net"]) (own:=["_law_k","_law_part"]) (uO (cl:=[("_law_head",_)])) (uL rfl rfl T.Jw (ja (pv 0) jb)) (λ_ _ _ _ _=>Jv (n:=2) (jt (jl 7) (jt (jl 8) Jc))) (λ_ _ _ _ _=>Jd) (λ_ _ _ _ _=>(Jn (ja (jK U9 (pv 2) (j4 Vf (by rfl) T.GC Gb (ja (pv 7) jb))) (ja (jp jL (pv 8) jk) (ja (jp jL (pv 8) jk) jb)))))) (jf (ju 5 (Jb jb)) (jf (j7 jQ (uL rfl rfl T.Jw (ja (pv 1) jb)) (Jv (jt (jl 3) (jt (jl 6) Jc))) (jj (j6 (Jm PySem.F.plainAttrs_list PySem.F.slot_list_append PySem.F.type_list_append j3 (pv 5) (ja (Jn (ja (jK U9 (jK U9 JP (pv 2)) (j4 Vf (by rfl) T.GC Gb (ja (pv 3) jb))) (ja (Jg (own:=["_law_part","_law_pin"]) (uO (cl:=[("_law_head",_)])) (jO (pv 6)) (λ_ _ _ _ _=>Jv (n:=2) (jt (jl 7) (jt (jl 8) Jc))) (λ_ _ _ _ _=>Jd) (λ_ _ _ _ _=>(Jn (ja (jK U9 (pv 2) (j4 Vf (by rfl) T.GC Gb (ja (pv 7) jb))) (ja (pv 8) jb))))) jb))) jb))))) (jj (jH (gK (GI T) (ja (pv 4) (ja (pv 5) jb)))))))),?_]];have lu:us.length=rs.length:=by have:=ka.1;rwa [ya] at this
 have lw:ws.length=nn.length:=EA.1;have g6:=G.few;have PD:=G.fewN;refine Vo (λ(A:Addr) (bs:AI)=>[oR pl,oR nl,some (.str hd),none,oR A,none,none]) (λA bs H'=>A3 (Same H H') (H' A=some (.lst (bs.map V.ref))) (uH H' bs (JS hd rs))) (λB hB=>?_) ?_
 ·refine#[_,rfl,pl,rfl,#[_,jg.of Ba],bC (xs:=us.map V.ref) (λD i ys H'=>∃bs:List Addr,A6 (Same H H') (H D=none) (H' D=some (.lst ys)) (ys=bs.map V.ref) (bs.length<=6) (uH H' bs (JS hd (rs.take i)))) (λD hD=>#[[],jh (Same.refl H) hD,hD,jc,rfl,yT _,rfl,λi p x h=>nomatch h]) (λD i ys H' h=>by obtain⟨bs,h1,_,h3,_⟩:=h;exact#[h3,jg.of (h1 _ _ Ba)]) ?_ (λD i ys H' h=>by obtain⟨bs,_,_,_,rfl,l6,_⟩:=h;rw[ya];exact yK l6 '$') ?_]
  ·rintro D i x p ys H1 Qy Qn hx hp ⟨bs,s1,hD,eD,rfl,l6,C⟩ hy;obtain⟨u,eu,rfl⟩:=jS hx;have hi:i<rs.length:=by rw[<-lu];exact (yc.mp eu).1
   have er:=yb hi;have tu:=ka.2 i u (kH rs[i]) eu (by rw[ye,er];rfl);generalize rs[i]=x at er tu
   exists H2,s2,e2,H1,p,hp,.tup [.int (i:Int),.ref u]
   have Bl:=Same.trans s1 s2;obtain⟨n1,_,_⟩:=ng hd hh i '!';refine#[p,_,rfl,jB.of e2,rfl,_,_,rfl,_,_,rfl,rfl,#[_,rfl,rfl],JI #[_,rfl,_,rfl,(i:Int),rfl,kB '!',hd,_,rfl,rfl,yp n1 '$',_,rfl,u,_,0,.str x.1,rfl,rfl,jB.of (Bl _ _ tu),rfl,_,rfl,u,_,1,.int (x.2:Nat),rfl,rfl,jB.of (Bl _ _ tu),rfl,tf,λv hv=>?_]]
   exists H3,s3,e3,H2,v,hv,.tup [.str (hd++Str.ofString (toString (i:Int))),.str x.1,.int (x.2:Nat)],.tup [.str (pN hd i),.str x.1,.int (x.2:Nat)]
   have BF:=Same.trans s2 s3;have BQ:=BF _ _ eD;have lb:bs.length=i:=by rw[C.1,Vr,yI];omega
   refine hy _ _ BQ #[bs++[v],jM (Same.trans s1 BF) hD,hD,jc,by rw[yf];rfl,by rw[yj,lb];show i+1<=6;omega,?_];rw[jC er,ro,yI,Qq (y4 hi)];exact ((C.same BF).snoc e3).wr BQ
  ·rintro D ys H1 hD ⟨bs,s1,_,eD,rfl,l6,C⟩;rw[ya,jN lu.symm] at C;exact hB D bs H1 #[s1,eD,C]
 rintro A bs H1 ⟨s1,eA,CP⟩;refine JF (λ(L:Addr)=>[oR pl,oR nl,some (.str hd),none,oR A,oR L,none]) (λL H'=>A3 (Same H1 H') (H1 L=none) (H' L=some (.lst []))) (λB hB=>#[UY,λD hD=>hB D _ #[jh (Same.refl H1) hD,hD,jc]]) ?_;rintro L H2 ⟨s2,hL,eL⟩;refine GR (λ(v3 v6:Option V) (ns ls:AI)=>[oR pl,oR nl,some (.str hd),v3,oR A,oR L,v6]) (λ_ _ ns ls H'=>A3 (Same H1 H') (H' L=some (.lst (ns.map V.ref))) (J2 H' ns ls (ub hd nn))) (λB hB=>?_) ?_
 ·refine#[_,rfl,nl,rfl,#[_,jg.of (s2 _ _ (s1 _ _ B0))],uC (xs:=ws.map V.ref) (λi σ H'=>E4 λ(v3 v6:Option V) (ns ls:AI)=>A5 (σ=[oR pl,oR nl,some (.str hd),v3,oR A,oR L,v6]) (Same H1 H') (H' L=some (.lst (ns.map V.ref))) (J2 H' ns ls (ub hd (nn.take i))) (∀l∈ls,l≠L)) #[_,_,[],[],rfl,s2,eL,gF,λl h=>nomatch h] (λi σ H' _ h=>by obtain⟨_,_,_,_,_,e,_⟩:=h;exact jg.of (e _ _ (s1 _ _ B0))) ?_ ?_]
  ·rintro i x p σ H3 hx hp ⟨v3,v6,ns,ls,rfl,s3,DV,N3,nL⟩;obtain⟨v,ev,rfl⟩:=jS hx;have hi:i<nn.length:=by rw[<-lw];exact (yc.mp ev).1
   have el:=yb hi;have lm:=yB hi;obtain⟨qs,g1,g2⟩:=EA.2 i v _ ev el;generalize nn[i]=l at el lm g2;have DZ:qs.length=l.length:=by have:=g2.1;rwa [ya] at this
   have ll:l.length<=24:=by
    have h1:l.length<=nn.flatten.length:=(Q7 lm).length_le;have h2:=G.pm.length_eq;have h3:=UZ G.few λx hx=>(G.k x hx).3;omega
   exists H4,s4,e4,H3,p,hp,.tup [.int (i:Int),.ref v]
   have Bj:=Same.trans s1 (Same.trans s3 s4);have CT:=s4 _ _ DV;obtain⟨n1,n2,n3⟩:=ng hd hh i '!';refine#[p,_,rfl,jB.of e4,rfl,_,_,rfl,_,_,rfl,rfl,?_];refine#[_,rfl,.inl #[rfl,_,jg.of CT],_,rfl,_,hd,rfl,rfl,yp n2 '$',_,rfl,(i:Int),rfl,kB '!',_,_,rfl,rfl,yp n3 '$',_,rfl,v,rfl,#[_,jg.of (Bj _ _ g1)],uh (xs:=qs.map V.ref) (λD j ys H'=>∃Bc:List Addr,A6 (Same H4 H') (H4 D=none) (H' D=some (.lst ys)) (ys=Bc.map V.ref) (Bc.length<=j) (JH H' Bc ((l.take j).map (UU hd)))) (Ni (by rw[ya];omega)) (λD hD=>#[[],jh (Same.refl H4) hD,hD,jc,rfl,yh _,gN]) (λD j ys H' h=>by obtain⟨bs,h1,_,h3,rfl,h5,_⟩:=h;exact#[h3,by rw[ya];exact h5,jg.of (h1 _ _ (Bj _ _ g1))]) ?_ ?_]
   ·rintro D j y ys H5 Qy Qn TJ ⟨Bc,s5,hD,eD,rfl,l5,C⟩ hy hn;obtain⟨b,eb,rfl⟩:=jS TJ;have lj:j<l.length:=by rw[<-DZ];exact (yc.mp eb).1
    have ex:=yb lj;have xm:=yB lj;have tb:=g2.2 j b (kE l[j]) eb (by rw[ye,ex];rfl);generalize l[j]=x at ex xm tb;obtain⟨r,er,_⟩:=Ju.mp (G.pm.mem_iff.mp (List.mem_flatten.mpr #[l,lm,xm]));have x6:x.1<6:=by have:=(yc.mp er).1;omega
    obtain⟨m1,_,_⟩:=ng hd hh x.1 x6;have TL:=s5 _ _ (Bj _ _ tb);refine#[b,_,rfl,jB.of TL,rfl,_,_,rfl,_,_,rfl,rfl,#[_,rfl,rfl],JI #[_,rfl,_,rfl,(x.1:Nat),rfl,kB x6,hd,_,rfl,rfl,yp m1 '$',_,rfl,Uz,λu9 F2=>?_]]
    exists H9,s9,e9,H5,u9,F2,.tup [.str (hd++Str.ofString (toString ((x.1:Nat):Int))),kV (Sum.inl ((x.2:Nat):Int))],.tup ((kP (UU hd x)).map kV)
    have D0:=s9 _ _ eD;refine hy _ _ D0 #[Bc++[u9],jM (Same.trans s5 s9) hD,hD,jc,by rw[yf];rfl,by rw[yj];exact QG l5,?_];unfold JH;rw[jC ex,yf,yf];exact (uD (KeyAt.mono' C s9) e9).wr D0
   ·rintro D ys H5 hD ⟨Bc,s5,_,eD,rfl,l5,C⟩;rw[ya,jN DZ.symm] at C;refine#[Uz,λu6 Lm=>?_]
    exists H6,s6,e6,H5,u6,Lm,.tup [.str (("n":Str)++hd++Str.ofString (toString (i:Int))),.ref D],.tup [.str (nN hd i),.ref D]
    have Cq:=Same.trans s5 s6;have Bm:=Same.trans s4 Cq;have HH:=Cq _ _ CT;have nD:D≠L:=λz=>by rw[z,CT] at hD;cases hD
    have F5:∀x∈ls++[D],x≠L:=λx hx=>(yL.mp hx).elim (λh=>nL x h) λh=>by rw[yu.mp h];exact nD
    have N6:=(N3.same Bm).snoc (y:=(nN hd i,l.map (UU hd))) #[e6,Bc,s6 _ _ eD,C.same s6];have TQ:ns.length=i:=by rw[N3.1,vJ,yI];omega
    refine#[L,_,_,rfl,rfl,HH,Vp (by rw[ya,TQ];omega),_,_,ns++[u6],ls++[D],rfl,jM (Same.trans s3 Bm) hL,by rw[jc,yf];rfl,?_,F5];rw[jC el,rq,yI,Qq (y4 hi)];exact N6.wr (λq zs e=>jq (jX e HH) e) λx hx zs e=>by rw[jw (F5 x hx)];exact e
  ·rintro σ H3 ⟨v3,v6,ns,ls,rfl,s3,DV,N3,nL⟩;rw[ya,jN lw.symm] at N3;exact hB _ _ ns ls _ #[s3,DV,N3]
 rintro v3 v6 ns ls H3 ⟨s3,DV,N3⟩;refine#[_,rfl,_,rfl,λo dx ho LZ ne=>?_];have t1:=jh (o:=.own o) (Same.refl H3) LZ;have t2:=jh (o:=.ins t.jG dx []) t1 (jq (yZ ne) ho);have Bb:=Same.trans s1 s3;have GD:=am hh G;exact#[o,dx,A,L,bs,JS hd rs,ns,ls,ub hd nn,rfl,jc,#[t2 _ _ (s3 _ _ eA),(CP.same s3).same t2,t2 _ _ DV,N3.same t2],GD,λBe Bq H' bt dr=>#[rfl,q o H' (λb u e=>bt _ _ (jy (Bb _ _ e) ho) (t2 _ _ (Bb _ _ e))) #[#[_,_,_,dr],GD]]]
variable {P:AS}{w:World}{K:AB}{mg:AE}{base:Heap}{t:Adr}
def Ac (x:Jp):List Key:=[.inr x.name,.inr x.kind,.inl x.many]
def Ad (y:JL):Str×List (List Key):=(y.1,y.2.map kP)
theorem uH.key (C:uH H ps xs):KeyAt H ps (xs.map Ac):=by
 refine#[by rw[ya];exact C.1,λi p k h1 h2=>?_];obtain⟨x,ex,rfl⟩:=jS h2;exact C.2 i p x h1 ex
theorem J2.rows {ns:AI} (N:J2 H ns ls ys):Mc H ns (ys.map Ad):=by
 refine#[by rw[ya];exact N.1,λi p x h1 h2=>?_];obtain⟨y,ey,rfl⟩:=jS h2;obtain⟨l,y',_,PL,na⟩:=N.at_ h1;rw[ey] at PL;cases PL;obtain⟨e,ps,e2,pn⟩:=na;exact#[l,ps,e,e2,pn]
structure zj (H:Hp) (a b:Addr) (xs:List Jp) (ys:List JL):Prop where
 ex:∃us vs ls:List Addr,A4 (H a=some (.lst (us.map V.ref))) (uH H us xs) (H b=some (.lst (vs.map V.ref))) (J2 H vs ls ys)
theorem zj.same {H':Hp}{a b:Addr} (x:zj H a b xs ys) (s:Same H H'):zj H' a b xs ys:=let ⟨us,vs,ls,h1,h2,h3,h4⟩:=x.ex;#[us,vs,ls,s _ _ h1,h2.same s,s _ _ h3,h4.same s]
theorem zj.sames {a b c:Addr} (x:zj H a b xs ys) (y:zj H c d xs ys):gY H a c/\gY H b d:=by
 obtain⟨us,vs,ls,h1,h2,h3,h4⟩:=x.ex;obtain⟨TR,Cp,Bq,g1,g2,g3,g4⟩:=y.ex;exact#[#[us,TR,h1,g1,.inl #[_,h2.key,g2.key]],#[vs,Cp,h3,g3,.inr #[_,h4.rows,g4.rows]]]
def tx (C:Addr):Sp:=λvs H Q _=>E3 λ(o:Addr) (xs:List Jp) (ys:List JL)=>A3 (vs=[.ref o]) (Dw H C o xs ys) (∀D a b H',Same H H'->H' D=some (.lst [.ref a,.ref b])->zj H' a b xs ys->Q (.ref D) H')
theorem NQ (T:Txt K mg t):j0 P w K mg base 1 "_law_deep" ["_law_drawing_here"] (tx t.jG):=by
 refine T.ba.ok ["_law_drawing_here"] ?_;rintro _ H Q E ⟨o,xs,ys,rfl,D,q⟩;refine#[rfl,λAZ A outer s hr=>#[_,(jj (jH (Jb (ja (j4 Vd (by rfl) T.Uc Us (ja (ud (pv 0)) jb)) (ja (Jg (own:=["_law_name","_law_pins"]) (uO (cl:=[])) (jO (ud (pv 0))) (λ_ _ _ _ _=>Jv (n:=2) (jt (jl 1) (jt (jl 2) Jc))) (λ_ _ _ _ _=>Jd) (λ_ _ _ _ _=>(Jn (ja (pv 1) (ja (j4 (zQ (K:=K) rfl) (by rfl) T.Uc Us (ja (pv 2) jb)) jb))))) jb))))),?_]];obtain⟨ps,ns,ls,dr⟩:=D.ex;have f2:=D.g.few2;obtain⟨dx,pl,nl,kd,jn,kvs,ho,Ba,B0,_⟩:=dr.ex;refine#[_,rfl,o,_,dx,_,.ref pl,rfl,ho,T.jW,T.Vl,rfl,pl,_,rfl,.inl (jg.of Ba),λl1 hl1=>?_]
 exists H1,s1,e1,H,l1,hl1,.lst (ps.map V.ref)
 have N1:=dr.N.same s1;refine#[_,rfl,o,_,dx,_,.ref nl,rfl,s1 _ _ ho,T.jW,T.VD,rfl,nl,rfl,#[_,jg.of (s1 _ _ B0)],uh (xs:=ns.map V.ref) (λD i zs H'=>∃Be Bq:List Addr,A6 (Same H1 H') (H1 D=none) (H' D=some (.lst zs)) (zs=Be.map V.ref/\Be.length<=i) (J2 H' Be Bq (ys.take i)) (∀l∈Bq,l≠D)) (by rw[ya,N1.1];exact yp f2 '$') (λD hD=>#[[],[],jh (Same.refl H1) hD,hD,jc,#[rfl,yh _],gF,λl h=>nomatch h]) (λD i zs H' h=>by obtain⟨Be,Bq,h1,_,h3,⟨rfl,h4⟩,_⟩:=h;exact#[h3,by rw[ya];exact h4,jg.of (h1 _ _ (s1 _ _ B0))]) ?_ ?_]
 ·rintro D i v zs H4 Qy Qn hv ⟨Be,Bq,s4,hD,eD,⟨rfl,lz⟩,N4,fr⟩ hy hn;rw[ye] at hv;obtain⟨p,BK,rfl⟩:=yz.mp hv;obtain⟨l,x,_,ex,na⟩:=N1.at_ BK;obtain⟨ep,rs,el,pn⟩:=na.same s4;refine#[p,_,rfl,jB.of ep,rfl,_,_,rfl,_,_,rfl,rfl,#[_,rfl,rfl],JI #[_,rfl,_,rfl,l,_,rfl,.inl (jg.of el),λl5 Dj=>?_]]
  exists H5,s5,e5,H4,l5,Dj,.lst (rs.map V.ref)
  refine#[Uz,λu hu=>?_]
  exists H6,s6,e6,H5,u,hu,.tup [.str x.1,.ref l5]
  have Cq:=Same.trans s5 s6;have BE:=Cq _ _ eD;have nD:l5≠D:=λz=>by rw[z,eD] at Dj;cases Dj
  have PM:∀x∈Bq++[l5],x≠D:=λx hx=>(yL.mp hx).elim (λh=>fr x h) λh=>by rw[yu.mp h];exact nD
  refine hy _ _ BE #[Be++[u],Bq++[l5],jM (Same.trans s4 Cq) hD,hD,jc,#[by rw[yf];rfl,by rw[yj];exact QG lz],?_,PM];rw[jC ex];exact ((N4.same Cq).snoc (y:=x) #[e6,rs,s6 _ _ e5,pn.same Cq]).wr (λq zs e=>jq (jX e BE) e) λl hl zs e=>by rw[jw (PM l hl)];exact e
 ·rintro D zs H4 hD ⟨Be,Bq,s4,_,eD,⟨rfl,lz⟩,N4,fr⟩;rw[ya,jN N1.1.symm] at N4;refine#[Uz,λr Of=>?_];have s5:=jh (o:=.lst [.ref l1,.ref D]) (Same.refl H4) Of;have CY:=Same.trans s4 s5;exact q r l1 D _ (Same.trans s1 CY) jc #[ps,Be,Bq,CY _ _ e1,(dr.C.same s1).same CY,s5 _ _ eD,N4.same s5]
variable {P:AS}{w:World}{K:AB}{mg:AE}{base:Heap}{t:Adr}
theorem pQ:bootBuiltins "range"=some (.type "range"):=by kernel_rfl
def fL:Sp:=λvs H Q _=>E3 λ(a:Addr) (ps:List Nat) (n:Nat)=>A5 (vs=[.ref a,.int (n:Nat)]) (H a=some (.lst (ps.map uf))) (ps.Perm (List.range n)) (n<=24) (∀H',Same H H'->Q (.bl true) H')
theorem kL (T:Txt K mg t):j0 P w K mg base 1 "_law_numbers" ["_law_found","_law_many"] fL:=by
 refine T.K0.ok ["_law_found","_law_many","_law_number"] ?_;rintro _ H Q E ⟨a,ps,n,rfl,ha,pm,hn,q⟩;refine#[rfl,λAZ A outer s hr=>#[_,(jf (Jo (Um (Jj (Jz (jx JV (by rfl) T.Ja j8 (ja (pv 0) (ja (uj (v:=.ty "list") (by rfl) T.Uc Us rfl) jb))))) (uS (Jq zG (jx jU (by rfl) T.ut uo (ja (pv 0) jb)) (pv 1)))).pt (jj (jH vd)) jR) (jf (j7 jQ (jO (pv 0)) (jl 2) (jj (Jo (Um (Jj (Jz (jx JV (by rfl) T.Ja j8 (ja (pv 2) (ja (uj (v:=.ty "int") (by rfl) T.oU oF rfl) jb))))) (uS (Jz (jx JV (by rfl) T.Ja j8 (ja (pv 2) (ja (uj (v:=.ty "bool") (by rfl) T.d7 cU rfl) jb)))))).pt (jj (jH vd)) jR))) (jj (jH (zc (cj hr.units0) (jx K8 (by rfl) T.uK uI (ja (pv 0) jb)) (j4 (bz rfl) (by rfl) T.Uc Us (ja (j4 Nx (by rfl) T.vq pQ (ja (pv 1) jb)) jb))))))),?_]];have lp:ps.length=n:=by rw[pm.length_eq,yW]
 refine J0 [oR a,oI (n:Nat),none] (λH'=>H'=H) (λB hB=>#[_,rfl,.ref a,.ty "list",_,_,true,rfl,.lst ha,.ty _,by kernel_rfl,true,rfl,UE #[_,rfl,a,_,rfl,.inl (jg.of ha),_,rfl,rfl,_,rfl,vx (by rw[ya,lp]) (hB _ rfl)]]) ?_;rintro H rfl;refine JF (λ(v:Option V)=>[oR a,oI (n:Nat),v]) (λ_ H'=>Same H H') (λB hB=>?_) ?_
 ·refine#[_,rfl,a,rfl,#[_,jg.of ha],uJ (xs:=ps.map uf) (λi σ H'=>∃v:Option V,σ=[oR a,oI (n:Nat),v]/\Same H H') #[_,rfl,Same.refl H] (λi σ H' _ h=>by obtain⟨_,_,e⟩:=h;exact jg.of (e _ _ ha)) ?_ ?_]
  ·rintro i x σ H1 hx ⟨v,rfl,s1⟩;obtain⟨k,_,rfl⟩:=jS hx;exact#[_,rfl,.int (k:Nat),.ty "int",_,_,true,rfl,.int _,.ty _,by kernel_rfl,true,rfl,UE #[_,rfl,.int (k:Nat),.ty "bool",_,_,false,rfl,.int _,.ty _,by kernel_rfl,false,rfl,UE #[_,rfl,s1]]]
  ·rintro σ H1 ⟨v,rfl,s1⟩;exact hB _ _ s1
 rintro v H1 s1;refine#[_,rfl,a,ps.map λk=>((k:Nat):Int),rfl,jg.of (by rw[<-M5];exact s1 _ _ ha),by rw[ya];omega,λl Be hl TU so=>?_]
 exists H2,s2,e2,H1,l,hl,.lst (Be.map V.int)
 refine#[_,rfl,n,rfl,λr Of=>?_];have s3:=jh (o:=cR r n) (Same.refl H2) Of;refine#[r,n,rfl,jc,by omega,λl2 hl2=>?_];have s4:=jh (o:=.lst ((List.range n).map λi=>V.int (i:Nat))) s3 hl2;have en:Be=(List.range n).map λi=>((i:Nat):Int):=by
  refine List.Perm.eq_of_pairwise (le:=(·<=·)) (λa b _ _ h1 h2=>Int.le_antisymm h1 h2) so ?_ (TU.trans (pm.map _));exact Qx.mpr (List.pairwise_lt_range.imp λh=>by omega)
 refine#[l,l2,Be,(List.range n).map λi=>((i:Nat):Int),rfl,rfl,jg.of (s4 _ _ e2),jg.of (by rw[jc,yq];rfl),?_];rw[decide_eq_true en];exact q _ (Same.trans s1 (Same.trans s2 s4))
variable {P:AS}{w:World}{K:AB}{mg:AE}{base:Heap}{t:Adr}
def qZ:Sp:=λvs H Q _=>E9 λ(u o1 o2:Addr) (rs:List uA) (nn:List (List (Nat×Nat))) (Bc:List uA) (A1:List (List (Nat×Nat))) (ps ns:List Nat)=>A7 (vs=[.ref u,.ref o1,.ref o2]) (∃a b:Addr,A3 (H u=some (.tup [.str "same",.ref a,.ref b])) (H a=some (.lst (ps.map uf))) (H b=some (.lst (ns.map uf)))) (VN H o1 rs nn) (VN H o2 Bc A1) (VY rs nn/\VY Bc A1) (gW rs nn Bc A1 ps ns) (∀H',Same H H'->Q (.bl true) H')
theorem ny (T:Txt K mg t):j0 P w K mg base 2 "_law_right" ["_law_found","_law_one","_law_other"] qZ:=by
 refine T.Nu.ok ["_law_found","_law_one","_law_other","_law_parts","_law_nets","_law_k","_law_line"] ?_;rintro _ H Q E ⟨u,o1,o2,rs,nn,Bc,A1,ps,ns,rfl,⟨a,b,hu,ha,hb⟩,L1,L2,⟨G1,G2⟩,R,q⟩;refine#[rfl,λAZ A outer s hr=>#[_,(jf (Jo (Um (Jj (Jz (jx JV (by rfl) T.Ja j8 (ja (pv 0) (ja (uj (v:=.ty "tuple") (by rfl) T.vU vS rfl) jb))))) (Um (Jq zG (jx jU (by rfl) T.ut uo (ja (pv 0) jb)) jk) (uS (Jq zG (jp jL (pv 0) jk) JP)))).pt (jj (jH vd)) jR) (jf (sN (Vm tq (pv 0) (ze jk) zd) (Jv (jt (jl 3) (jt (jl 4) Jc)))) (jf (Jo (Um (Jj (Jz (jo (kL T) (ja (pv 3) (ja (jx jU (by rfl) T.ut uo (ja (jp jL (pv 2) jk) jb)) jb))))) (uS (Jj (Jz (jo (kL T) (ja (pv 4) (ja (jx jU (by rfl) T.ut uo (ja (jp jL (pv 2) jk) jb)) jb))))))).pt (jj (jH vd)) jR) (jf (Jo (Jq (kO hr.units) (zH (N0:=["_law_found","_law_one","_law_other","_law_parts","_law_nets","._law_k","_law_line"]) (own:=["_law_k"]) (uO (cl:=[("_law_other",_)])) (jO (pv 3)) (λ_ _ _ _ _=>jl 7) (λ_ _ _ _ _=>Jd) (λ_ _ _ _ _=>(jp jF (jp jL (pv 2) jk) (pv 7)))) (jp jL (pv 1) jk)) (jj (jH vd)) jR) (jf (j7 jQ (uL rfl rfl T.Jw (ja (jp jL (pv 1) jk) jb)) (Jv (jt (jl 5) (jt (jl 6) Jc))) (jj (Jo (Jq (kO hr.units) (jx U4 (by rfl) T.uK uI (ja (Jg (own:=["_law_part","_law_pin"]) (uO (cl:=[("_law_parts",_)])) (jO (pv 6)) (λ_ _ _ _ _=>Jv (n:=2) (jt (jl 7) (jt (jl 8) Jc))) (λ_ _ _ _ _=>Jd) (λ_ _ _ _ _=>(Jn (ja (jp jF (pv 3) (pv 7)) (ja (pv 8) jb))))) jb)) (jx U4 (by rfl) T.uK uI (ja (jp jF (jp jL (pv 2) jk) (jp jF (pv 4) (pv 5))) jb))) (jj (jH vd)) jR))) (jj (jH vd))))))),?_]];obtain⟨PQ,PR,HN,TV,a1,a2,a3,a4,a5⟩:=L1.ex;obtain⟨HL,HM,C3,PU,b1,b2,b3,b4,b5⟩:=L2.ex;have lu1:HN.length=rs.length:=by have:=a3.1;rwa [ya] at this
 have Og:C3.length=Bc.length:=by have:=b3.1;rwa [ya] at this
 have g1:=G1.few;have g2:=G2.few;have g3:=G1.fewN;have g4:=G2.fewN;refine J0 [oR u,oR o1,oR o2,none,none,none,none] (λH'=>H'=H) (λB hB=>#[_,rfl,.ref u,.ty "tuple",_,_,true,rfl,.tup hu,.ty _,by kernel_rfl,true,rfl,UE #[_,rfl,u,_,rfl,.inr (jB.of hu),rfl,_,rfl,vx rfl #[_,rfl,u,_,0,.str "same",rfl,rfl,jB.of hu,rfl,rfl,_,rfl,vx rfl (hB _ rfl)]]]) ?_;rintro H rfl;refine J0 [oR u,oR o1,oR o2,oR a,oR b,none,none] (λH'=>Same H H') (λB hB=>#[_,rfl,1,rfl,u,_,rfl,jB.of hu,(by intro z;exact absurd (show (1:Nat)=0 from z.1) '$'),λp hp=>?_]) ?_
 ·have s1:=jh (o:=.tup (uY [.str "same",.ref a,.ref b] (some 1) none)) (Same.refl H) hp;have e1:upd H p (.tup (uY [.str "same",.ref a,.ref b] (some 1) none)) p=some (.tup [.ref a,.ref b]):=by rw[jc];rfl
  generalize upd H p (.tup (uY [.str "same",.ref a,.ref b] (some 1) none))=H1 at s1 e1;exact#[p,_,rfl,jB.of e1,rfl,_,_,rfl,_,_,rfl,rfl,hB _ s1]
 rintro H1 s1;refine J0 [oR u,oR o1,oR o2,oR a,oR b,none,none] (λH'=>Same H H') (λB hB=>#[_,rfl,_,rfl,o2,_,0,.ref HL,rfl,rfl,jB.of (s1 _ _ b1),rfl,HL,_,rfl,.inl (jg.of (s1 _ _ b2)),a,ps,_,rfl,s1 _ _ ha,by rw[ya,Og];exact R.pm,by rw[ya];omega,λH2 s2=>#[_,rfl,UE #[_,rfl,_,rfl,o2,_,1,.ref HM,rfl,rfl,jB.of (Same.trans s1 s2 _ _ b1),rfl,HM,_,rfl,.inl (jg.of (Same.trans s1 s2 _ _ b4)),b,ns,_,rfl,Same.trans s1 s2 _ _ hb,by rw[ya,b5.1];exact R.nm,by rw[ya,b5.1];omega,λH3 s3=>#[_,rfl,UE (hB _ (Same.trans (Same.trans s1 s2) s3))]]]]) ?_;rintro H2 s2;have mp:∀k∈ps,k<Bc.length:=λk hk=>yE.mp (R.pm.mem_iff.mp hk);have TX:ps.map (λk=>Bc.getD k ("",0))=rs:=by
  refine QW λi=>?_;rw[ye];by_cases hi:i<ps.length
  ·have e:=yb hi;have h1:=R.hs i _ e;rw[e,<-h1,some_of (l:=Bc) (d:=("",0)) (mp _ (yB hi))]
   rfl
  ·rw[QR '!',QR (by rw[<-R.pl];omega)]
   rfl
 refine J0 [oR u,oR o1,oR o2,oR a,oR b,none,none] (λH'=>Same H H') (λB hB=>?_) ?_
 ·refine#[_,rfl,a,rfl,#[_,jg.of (s2 _ _ ha)],Ut (xs:=ps.map uf) (λ_=>true) (λx=>match x with|.int k=>.ref (C3.getD k.toNat 0)|_=>.non) (jg.of (s2 _ _ ha)) (by rw[ya,R.pl];exact yp g1 '$') (λx hx H' Qy Qn s' hy _=>?_) λD hD=>?_]
  ·obtain⟨k,hk,rfl⟩:=yi.mp hx;have kl:k<C3.length:=by rw[Og];exact mp k hk
   have Bl:=Same.trans s2 s';exact#[#[_,rfl,rfl],JI #[_,rfl,o2,_,0,.ref HL,rfl,rfl,jB.of (Bl _ _ b1),rfl,_,rfl,HL,_,(k:Nat),.ref (C3.getD k 0),rfl,rfl,jg.of (Bl _ _ b2),Je (by rw[ye,some_of (d:=0) kl];rfl),hy rfl]]
  ·have s3:=jh (o:=.lst (((ps.map uf).filter λ_=>true).map λx=>match x with|.int k=>.ref (C3.getD k.toNat 0)|_=>.non)) (Same.refl H2) hD;have e3:upd H2 D (.lst (((ps.map uf).filter λ_=>true).map λx=>match x with|.int k=>.ref (C3.getD k.toNat 0)|_=>.non)) D=some (.lst ((ps.map λk=>C3.getD k 0).map V.ref)):=by rw[jc,Qz.mpr (λ_ _=>rfl),yq,yq];rfl
   generalize upd H2 D (.lst (((ps.map uf).filter λ_=>true).map λx=>match x with|.int k=>.ref (C3.getD k.toNat 0)|_=>.non))=H3 at s3 e3;have Bb:=Same.trans s2 s3;refine#[_,rfl,o1,_,0,.ref PQ,rfl,rfl,jB.of (Bb _ _ a1),rfl,D,PQ,_,HN,(ps.map λk=>Bc.getD k ("",0)).map kH,rs.map kH,rfl,rfl,jg.of e3,jg.of (Bb _ _ a2),#[by rw[ya,ya,ya],λi b k h1 h2=>?_],KeyAt.mono' a3 Bb,_,rfl,vx (by rw[TX]) (hB _ Bb)];rw[ye] at h1;rw[yq,ye] at h2;obtain⟨x,ex,rfl⟩:=yz.mp h1;rw[ex] at h2;cases h2;have xl:=mp x (yk ex);exact Bb _ _ (b3.2 x _ _ (some_of (by rw[Og];exact xl)) (by rw[ye,some_of (l:=Bc) (d:=("",0)) xl];rfl))
 rintro H3 s3;refine Vo (λ(v5 v6:Option V)=>[oR u,oR o1,oR o2,oR a,oR b,v5,v6]) (λ_ _ H'=>Same H H') (λB hB=>?_) ?_
 ·refine#[_,rfl,o1,_,1,.ref PR,rfl,rfl,jB.of (s3 _ _ a1),rfl,PR,rfl,#[_,jg.of (s3 _ _ a4)],uC (xs:=TV.map V.ref) (λi σ H'=>E2 λ(v5 v6:Option V)=>σ=[oR u,oR o1,oR o2,oR a,oR b,v5,v6]/\Same H H') #[_,_,rfl,s3] (λi σ H' _ h=>by obtain⟨_,_,_,e⟩:=h;exact jg.of (e _ _ a4)) ?_ ?_]
  ·rintro i x p σ H4 hx hp ⟨v5,v6,rfl,s4⟩;obtain⟨v,ev,rfl⟩:=jS hx;have hi:i<nn.length:=by rw[<-a5.1];exact (yc.mp ev).1
   have el:=yb hi;have lm:=yB hi;obtain⟨qs,q1,q2⟩:=a5.2 i v _ ev el;generalize nn[i]=l at el lm q2;have DZ:qs.length=l.length:=by have:=q2.1;rwa [ya] at this
   have ll:l.length<=24:=by
    have h1:l.length<=nn.flatten.length:=(Q7 lm).length_le;have h2:=G1.pm.length_eq;have h3:=UZ G1.few λx hx=>(G1.k x hx).3;omega
   have li:i<ns.length:=by rw[R.nl];exact hi
   have ek:=yb li;have kl:ns[i]<A1.length:=yE.mp (R.nm.mem_iff.mp (yB li));generalize ns[i]=k at ek kl;have FW:=yb kl;have kw:k<PU.length:=by rw[b5.1];exact kl
   have Oh:=yb kw;generalize A1[k]=l2 at FW;generalize PU[k]=v2 at Oh;obtain⟨TY,r1,r2⟩:=b5.2 k v2 l2 Oh FW;have pr:=R.es i k l l2 ek el FW
   exists H5,s5,e5,H4,p,hp,.tup [.int (i:Int),.ref v]
   have Di:=Same.trans s4 s5;refine#[p,_,rfl,jB.of e5,rfl,_,_,rfl,_,_,rfl,rfl,?_];refine#[_,rfl,v,rfl,#[_,jg.of (Di _ _ q1)],uh (xs:=qs.map V.ref) (λD j ys H'=>∃Bg:List Addr,A6 (Same H5 H') (H5 D=none) (H' D=some (.lst ys)) (ys=Bg.map V.ref) (Bg.length<=j) (KeyAt H' Bg (((l.take j).map λx=>(ps.getD x.1 0,x.2)).map kE))) (Ni (by rw[ya];omega)) (λD hD=>#[[],jh (Same.refl H5) hD,hD,jc,rfl,yh _,rfl,λi b k h=>nomatch h]) (λD j ys H' h=>by obtain⟨Bg,h1,h2,h3,h4,h5,_⟩:=h;exact#[h3,by rw[h4,ya];exact h5,jg.of (h1 _ _ (Di _ _ q1))]) ?_ ?_]
   ·rintro D j y ys H6 Qy Qn TZ ⟨Bg,s6,hD,eD,rfl,l8,k8⟩ hy hn;obtain⟨c,ec,rfl⟩:=jS TZ;have lj:j<l.length:=by rw[<-DZ];exact (yc.mp ec).1
    have ex:=yb lj;have xm:=yB lj;have tb:=q2.2 j c (kE l[j]) ec (by rw[ye,ex];rfl);generalize l[j]=x at ex xm tb;obtain⟨r,er,_⟩:=Ju.mp (G1.pm.mem_iff.mp (List.mem_flatten.mpr #[l,lm,xm]));have BO:x.1<ps.length:=by rw[R.pl];exact (yc.mp er).1
    have ED:=Same.trans Di s6;refine#[c,_,rfl,jB.of (ED _ _ tb),rfl,_,_,rfl,_,_,rfl,rfl,#[_,rfl,rfl],JI #[_,rfl,_,rfl,a,_,(x.1:Nat),.int (ps.getD x.1 0:Nat),rfl,rfl,jg.of (ED _ _ ha),Je (by rw[ye,some_of (d:=0) BO];rfl),_,rfl,Uz,λu9 F2=>?_]]
    exists H9,s9,e9,H6,u9,F2,.tup [.int (ps.getD x.1 0:Nat),kV (Sum.inl ((x.2:Nat):Int))],.tup ((kE (ps.getD x.1 0,x.2)).map kV)
    have D0:=s9 _ _ eD;refine hy _ _ D0 #[Bg++[u9],jM (Same.trans s6 s9) hD,hD,jc,by rw[yf];rfl,by rw[yj];exact QG l8,?_];rw[jC ex,yf,yf];exact (uD (KeyAt.mono' k8 s9) e9).wr D0
   ·rintro D ys H6 hD ⟨Bg,s6,_,eD,rfl,l8,k8⟩;rw[ya,jN DZ.symm] at k8;have PV:∀(m:List (Nat×Nat)),∀k∈m.map kE,sd k=[true,true]:=λm k hk=>by obtain⟨x,_,rfl⟩:=yi.mp hk;rfl
    refine#[D,Bg,_,[true,true],rfl,eD,k8,PV _,(λz=>nomatch z),by rw[ya,ya];omega,λl1 PX Ca hl1 T4 BW T5=>?_]
    exists H7,s7,e7,H6,l1,hl1,.lst (PX.map V.ref)
    have CU:=Same.trans Di (Same.trans s6 s7);refine#[_,rfl,o2,_,1,.ref HM,rfl,rfl,jB.of (CU _ _ b1),rfl,_,rfl,_,rfl,b,_,(i:Nat),.int (k:Nat),rfl,rfl,jg.of (CU _ _ hb),Je (by rw[ye,ek];rfl),HM,_,(k:Nat),.ref v2,rfl,rfl,jg.of (CU _ _ b4),Je (by rw[ye,Oh];rfl),v2,TY,l2.map kE,[true,true],rfl,CU _ _ r1,KeyAt.mono' r2 CU,PV _,(λz=>nomatch z),by rw[ya,<-pr.length_eq,ya];omega,λl3 FO BZ T6 T7 BP Lc=>?_]
    exists H8,s8,e8,H7,l3,T6,.lst (FO.map V.ref)
    have T8:Ca=BZ:=vI (BW.trans ((pr.map kE).trans BP.symm)) T5 Lc;exact#[l1,l3,PX,FO,Ca,BZ,rfl,rfl,jg.of (s8 _ _ e7),jg.of e8,KeyAt.mono' T4 (Same.trans s7 s8),KeyAt.mono' T7 s8,_,rfl,vx T8 #[_,_,rfl,Same.trans CU s8]]
  ·rintro σ H4 ⟨v5,v6,rfl,s4⟩;exact hB _ _ _ s4
 rintro v5 v6 H4 s4;exact q _ s4
variable {P:AS}{w:World}{K:AB}{mg:AE}{base:Heap}{t:Adr}
theorem Za {o1 o2:Addr}{h1 h2:Str}{nn:List (List (Nat×Nat))} (D1:Dw H C o1 (JS h1 rs) (ub h1 nn)) (D2:Dw H C o2 (JS h2 Bc) (ub h2 A1)) (m1:h1∈Vu) (m2:h2∈Vu) (G1:VY rs nn) (G2:VY Bc A1) (A:zN rs nn Bc A1)
  (q:∀u a b ps ns H',Same H H'->H' u=some (.tup [.str "same",.ref a,.ref b])->H a=none->H b=none->a≠b->H' a=some (.lst (List.map uf ps))->H' b=some (.lst (List.map uf ns))->gW rs nn Bc A1 ps ns->Q (.ref u) H'):lR C [.ref o1,.ref o2] H Q E:=by
 refine#[o1,o2,_,_,_,_,rfl,D1,D2,λCa BZ s1 s2=>?_,λCa BZ u H' s' EZ Fb R=>?_]
 ·obtain⟨p,r,I⟩:=A;exact#[p,r,r6 (mM m1 G1 s1) (mM m2 G2 s2) I]
 ·obtain⟨a,b,ps,ns,e1,e2,e3,e4,e5,e6,e7⟩:=R.ex;exact q u a b ps ns H' s' e1 e2 e3 e4 e5 e6 (dQ (mM m1 G1 EZ) (mM m2 G2 Fb) e7)
theorem MM:("a":Str)∈Vu:=yw ..
theorem MN:("x":Str)∈Vu:=yn _ (yw ..)
theorem iM:("y":Str)∈Vu:=yn _ (yn _ (yw ..))
seal lR
def cA (K:AB):Sp:=λvs H Q _=>E2 λ(a:Addr) (sc:List Int)=>A4 (vs=[.ref a]) (jg K H a (sc.map V.int)) (sc.length<=63) (∀H',Q (.bl true) H')
theorem law_fn (T:Txt K mg t):∃fd:FuncData,(∀(s:Shared) (u:Value),BindsTo s fd #[[u],[]] [("_law_script",u)])/\∀base:Heap,K.In base->base.Ns mainGlobals mg->UD P w K mg base (XC P w) 17 t.bL fd ["_law_script"] (cA K):=by
 obtain⟨fd,F,b⟩:=T.wb;refine#[fd,b,λbase _ _=>?_];refine F.okY (N:=["_law_script","_law_one","_law_other","_law_first","_law_second","_law_kept","_law_found","_law_more","_law_third"]) ?_;rintro _ H Q E ⟨a,sc,rfl,ha,hsc,q⟩;refine#[rfl,λAZ A outer s hr=>#[_,(jf (ju 1 (jo (NR T) (ja (pv 0) jb))) (jf (ju 2 (jo (mw T) (ja (jp jL (pv 1) jk) (ja (jp jL (pv 1) jk) (ja (pv 0) jb))))) (jf (ju 3 (jo (kK T) (ja (jp jL (pv 1) jk) (ja (jp jL (pv 1) jk) (ja JP jb))))) (jf (ju 4 (jo (kK T) (ja (jp jL (pv 2) jk) (ja (jp jL (pv 2) jk) (ja JP jb))))) (jf (ju 5 (jK vc (jo (NQ T) (ja (pv 3) jb)) (jo (NQ T) (ja (pv 4) jb)))) (jf (ju 6 (jo (i6 T) (ja (pv 3) (ja (pv 4) jb)))) (jf (Jo (Jj (Jz (jo (ny T) (ja (pv 6) (ja (pv 1) (ja (pv 2) jb)))))) (jj (jH vd)) jR) (jf (j6 (Jm PySem.F.plainAttrs_list PySem.F.slot_list_append PySem.F.type_list_append j3 (jp jL (pv 6) jk) (ja jk jb))) (jf (j6 (eT PySem.F.plainAttrs_list PySem.F.slot_list_clear PySem.F.type_list_clear iY (jp jL (pv 6) jk))) (jf (ju 7 (jo (mw T) (ja (jp jL (pv 1) jk) (ja (jp jL (pv 1) jk) (ja (Vm ZS (pv 0) (ze jk) zd) jb))))) (jf (ju 8 (jo (kK T) (ja (jp jL (pv 7) jk) (ja (jp jL (pv 7) jk) (ja JP jb))))) (jf (Jo (Um (Jj (Jz (jo (ny T) (ja (jo (i6 T) (ja (pv 3) (ja (pv 8) jb))) (ja (pv 1) (ja (pv 7) jb)))))) (uS (Jj (Jz (jo (ny T) (ja (jo (i6 T) (ja (pv 8) (ja (pv 4) jb))) (ja (pv 7) (ja (pv 2) jb)))))))).pt (jj (jH vd)) jR) (jf (Jo (Um (Jj (Jz (jo (ny T) (ja (jo (i6 T) (ja (pv 4) (ja (pv 3) jb))) (ja (pv 2) (ja (pv 1) jb)))))) (uS (Jj (Jz (jo (ny T) (ja (jo (i6 T) (ja (pv 3) (ja (pv 4) jb))) (ja (pv 1) (ja (pv 2) jb)))))))).pt (jj (jH vd)) jR) (jj (jH (zc (eF hr.units) (pv 5) (jK vc (jo (NQ T) (ja (pv 3) jb)) (jo (NQ T) (ja (pv 4) jb))))))))))))))))))),?_]];refine zU (λ(u1:Addr) (rs:List uA) (nn:List (List (Nat×Nat)))=>[oR a,oR u1,none,none,none,none,none,none,none]) (λu1 rs nn H'=>A3 (Same H H') (VN H' u1 rs nn) (VY rs nn)) (λB hB=>#[_,rfl,a,sc,rfl,ha,λu rs nn H' s' L G=>hB u rs nn H' #[s',L,G]]) ?_;rintro u1 rs nn H1 ⟨s1,L1,G1⟩;refine zU (λ(u2:Addr) (B2:List uA) (B3:List (List (Nat×Nat)))=>[oR a,oR u1,oR u2,none,none,none,none,none,none]) (λu2 B2 B3 H'=>A3 (Same H1 H') (VN H' u2 B2 B3) (zN rs nn B2 B3)) (λB hB=>?_) ?_
 ·obtain⟨pl,nl,us,ws,a1,a2,a3,a4,a5⟩:=L1.ex;exact#[_,rfl,u1,_,0,.ref pl,rfl,rfl,jB.of a1,rfl,_,rfl,u1,_,1,.ref nl,rfl,rfl,jB.of a1,rfl,_,rfl,pl,nl,a,us,ws,rs,nn,sc,rfl,a2,a3,a4,a5,Same.seq s1 ha,G1,λu Bc A1 H' p r s' L I=>hB u Bc A1 H' #[s',L,p,r,I]]
 rintro u2 B2 B3 H2 ⟨s2,L2,A12⟩;have G2:=A12.good G1;have L1:=L1.same s2;refine JF (λ(o1:Addr)=>[oR a,oR u1,oR u2,oR o1,none,none,none,none,none]) (λo1 H'=>Same H2 H'/\Dw H' t.jG o1 (JS "a" rs) (ub "a" nn)) (λB hB=>?_) ?_
 ·obtain⟨pl,nl,us,ws,a1,a2,a3,a4,a5⟩:=L1.ex;exact#[_,rfl,u1,_,0,.ref pl,rfl,rfl,jB.of a1,rfl,_,rfl,u1,_,1,.ref nl,rfl,rfl,jB.of a1,rfl,pl,nl,us,ws,rs,nn,"a",rfl,a2,a3,a4,a5,G1,MM,λo H' s' D=>hB o H' #[s',D]]
 rintro o1 H3 ⟨s3,D1⟩;have L1:=L1.same s3;have L2:=L2.same s3;refine JF (λ(o2:Addr)=>[oR a,oR u1,oR u2,oR o1,oR o2,none,none,none,none]) (λo2 H'=>Same H3 H'/\Dw H' t.jG o2 (JS "x" B2) (ub "x" B3)) (λB hB=>?_) ?_
 ·obtain⟨pl,nl,us,ws,a1,a2,a3,a4,a5⟩:=L2.ex;exact#[_,rfl,u2,_,0,.ref pl,rfl,rfl,jB.of a1,rfl,_,rfl,u2,_,1,.ref nl,rfl,rfl,jB.of a1,rfl,pl,nl,us,ws,B2,B3,"x",rfl,a2,a3,a4,a5,G2,MN,λo H' s' D=>hB o H' #[s',D]]
 rintro o2 H4 ⟨s4,D2⟩;have L1:=L1.same s4;have L2:=L2.same s4;have D1:=D1.same s4;have Bj:=Same.trans s1 (Same.trans s2 (Same.trans s3 s4));refine pe (λ(Kp c1 e1 c2 e2:Addr)=>[oR a,oR u1,oR u2,oR o1,oR o2,oR Kp,none,none,none]) (λKp c1 e1 c2 e2 H'=>A4 (Same H4 H') (H' Kp=some (.lst [.ref c1,.ref e1,.ref c2,.ref e2])) (zj H' c1 e1 (JS "a" rs) (ub "a" nn)) (zj H' c2 e2 (JS "x" B2) (ub "x" B3))) (λB hB=>#[_,rfl,o1,_,_,rfl,D1,λK1 c1 e1 H5 s5 h5 d5=>#[_,rfl,o2,_,_,rfl,D2.same s5,λK2 c2 e2 H6 s6 h6 d6=>#[K1,K2,_,_,rfl,rfl,s6 _ _ h5,h6,by show 4<=sizeLine;decide,λKp hK=>hB Kp c1 e1 c2 e2 _ #[jh (Same.trans s5 s6) hK,jc,(d5.same s6).same (jh (Same.refl H6) hK),d6.same (jh (Same.refl H6) hK)]]]]) ?_;rintro Kp c1 e1 c2 e2 H5 ⟨s5,eK,P1,P2⟩;have L1:=L1.same s5;have L2:=L2.same s5;have D1:=D1.same s5;have D2:=D2.same s5;refine pe (λ(u b c:Addr) (ps ns:List Nat)=>[oR a,oR u1,oR u2,oR o1,oR o2,oR Kp,oR u,none,none]) (λu b c ps ns H'=>A8 (Same H5 H') (H' u=some (.tup [.str "same",.ref b,.ref c])) (H5 b=none) (H5 c=none) (b≠c) (H' b=some (.lst (ps.map uf))) (H' c=some (.lst (ns.map uf))) (gW rs nn B2 B3 ps ns)) (λB hB=>#[_,rfl,_,rfl,Za D1 D2 MM MN G1 G2 A12 λu b c ps ns H' s' e h1 h2 h3 h4 h5 R=>hB u b c ps ns H' #[s',e,h1,h2,h3,h4,h5,R]]) ?_;rintro u b c ps ns H6 ⟨s6,eu,T9,Wl,Wm,eb,ec,R⟩;refine J0 [oR a,oR u1,oR u2,oR o1,oR o2,oR Kp,oR u,none,none] (λH'=>Same H6 H') (λB hB=>#[_,rfl,_,rfl,_,rfl,u,u1,u2,rs,nn,B2,B3,ps,ns,rfl,#[b,c,eu,eb,ec],L1.same s6,L2.same s6,#[G1,G2],R,λH' s'=>#[_,rfl,hB _ s']]) ?_;rintro H7 s7;have Oi:=s7 _ _ eu;have Oj:=s7 _ _ eb;have Wn:=s7 _ _ ec;have F0:=Same.trans s6 s7;have Wo:ps.length<=6:=by rw[R.pl];exact G1.few
 refine J0 [oR a,oR u1,oR u2,oR o1,oR o2,oR Kp,oR u,none,none] (λH'=>A3 (Same H5 H') (H' u=some (.tup [.str "same",.ref b,.ref c])) (H' c=some (.lst (ns.map uf)))) (λB hB=>#[_,rfl,u,_,1,.ref b,rfl,rfl,jB.of Oi,rfl,.inl #[rfl,_,jg.of Oj],b,_,_,rfl,rfl,Oj,by rw[ya];exact yK Wo '$',hB _ #[jM F0 T9,jq (jX Oi Oj) Oi,jq (yZ Wm) Wn]]) ?_;rintro H8 ⟨s8,Wq,PY⟩;refine J0 [oR a,oR u1,oR u2,oR o1,oR o2,oR Kp,oR u,none,none] (λH'=>Same H5 H') (λB hB=>#[_,rfl,u,_,2,.ref c,rfl,rfl,jB.of Wq,rfl,.inl #[rfl,_,jg.of PY],c,_,rfl,rfl,PY,hB _ (jM s8 Wl)]) ?_;rintro H9 s9;have L1:=L1.same s9;have L2:=L2.same s9;have D1:=D1.same s9;have D2:=D2.same s9;have P1:=P1.same s9;have P2:=P2.same s9;have eK:=s9 _ _ eK;have Ws:=Same.seq (Same.trans Bj (Same.trans s5 s9)) ha;refine zU (λ(u3:Addr) (D7:List uA) (D8:List (List (Nat×Nat)))=>[oR a,oR u1,oR u2,oR o1,oR o2,oR Kp,oR u,oR u3,none]) (λu3 D7 D8 H'=>A3 (Same H9 H') (VN H' u3 D7 D8) (zN rs nn D7 D8)) (λB hB=>?_) ?_
 ·obtain⟨pl,nl,us,ws,a1,a2,a3,a4,a5⟩:=L1.ex;refine#[_,rfl,u1,_,0,.ref pl,rfl,rfl,jB.of a1,rfl,_,rfl,u1,_,1,.ref nl,rfl,rfl,jB.of a1,rfl,_,rfl,1,rfl,a,_,rfl,Ws,λz hz=>?_];have t1:=jh (o:=.lst (uY (sc.map V.int) (some 1) none)) (Same.refl H9) hz;have f1:upd H9 z (.lst (uY (sc.map V.int) (some 1) none)) z=some (.lst ((sc.drop 1).map V.int)):=by rw[jc,show (some (1:Int))=some ((1:Nat):Int) from rfl,gs,We]
  generalize upd H9 z (.lst (uY (sc.map V.int) (some 1) none))=F1 at t1 f1;exact#[pl,nl,z,us,ws,rs,nn,sc.drop 1,rfl,t1 _ _ a2,KeyAt.mono' a3 t1,t1 _ _ a4,a5.same t1,jg.of f1,G1,λu Bc A1 H' p r s' L I=>hB u Bc A1 H' #[Same.trans t1 s',L,p,r,I]]
 rintro u3 D7 D8 F1 ⟨CW,L3,Ol⟩;have G3:=Ol.good G1;refine JF (λ(o3:Addr)=>[oR a,oR u1,oR u2,oR o1,oR o2,oR Kp,oR u,oR u3,oR o3]) (λo3 H'=>Same F1 H'/\Dw H' t.jG o3 (JS "y" D7) (ub "y" D8)) (λB hB=>?_) ?_
 ·obtain⟨pl,nl,us,ws,a1,a2,a3,a4,a5⟩:=L3.ex;exact#[_,rfl,u3,_,0,.ref pl,rfl,rfl,jB.of a1,rfl,_,rfl,u3,_,1,.ref nl,rfl,rfl,jB.of a1,rfl,pl,nl,us,ws,D7,D8,"y",rfl,a2,a3,a4,a5,G3,iM,λo H' s' D=>hB o H' #[s',D]]
 rintro o3 F3 ⟨PZ,D3⟩;have L3:=L3.same PZ;have EI:=Same.trans CW PZ;have L1:=L1.same EI;have L2:=L2.same EI;have D1:=D1.same EI;have D2:=D2.same EI;have P1:=P1.same EI;have P2:=P2.same EI;have eK:=EI _ _ eK;have R3:=Ol.symm G1;have Wt:=R3.trans A12;refine J0 [oR a,oR u1,oR u2,oR o1,oR o2,oR Kp,oR u,oR u3,oR o3] (λH'=>Same F3 H') (λB hB=>#[_,rfl,_,rfl,Za D1 D3 MM iM G1 G3 Ol λv b c ps ns Oc CZ e _ _ _ e1 e2 R=>#[_,rfl,_,rfl,v,u1,u3,rs,nn,D7,D8,ps,ns,rfl,#[b,c,e,e1,e2],L1.same CZ,L3.same CZ,#[G1,G3],R,λP0 BF=>#[_,rfl,UE #[_,rfl,_,rfl,?_]]]]) ?_
 ·have C0:=Same.trans CZ BF;exact Za (D3.same C0) (D2.same C0) iM MN G3 G2 Wt λv b c ps ns Om Cs e _ _ _ e1 e2 R=>#[_,rfl,_,rfl,v,u3,u2,D7,D8,B2,B3,ps,ns,rfl,#[b,c,e,e1,e2],(L3.same C0).same Cs,(L2.same C0).same Cs,#[G3,G2],R,λOo CY=>#[_,rfl,UE (hB _ (Same.trans C0 (Same.trans Cs CY)))]]
 rintro Oc CZ;have L1:=L1.same CZ;have L2:=L2.same CZ;have D1:=D1.same CZ;have D2:=D2.same CZ;have P1:=P1.same CZ;have P2:=P2.same CZ;have eK:=CZ _ _ eK;refine J0 [oR a,oR u1,oR u2,oR o1,oR o2,oR Kp,oR u,oR u3,oR o3] (λH'=>Same Oc H') (λB hB=>#[_,rfl,_,rfl,Za D2 D1 MN MM G2 G1 (A12.symm G1) λv b c ps ns P0 BF e _ _ _ e1 e2 R=>#[_,rfl,_,rfl,v,u2,u1,B2,B3,rs,nn,ps,ns,rfl,#[b,c,e,e1,e2],L2.same BF,L1.same BF,#[G2,G1],R,λOm Cs=>#[_,rfl,UE #[_,rfl,_,rfl,?_]]]]) ?_
 ·have C0:=Same.trans BF Cs;exact Za (D1.same C0) (D2.same C0) MM MN G1 G2 A12 λv b c ps ns Om Cs e _ _ _ e1 e2 R=>#[_,rfl,_,rfl,v,u1,u2,rs,nn,B2,B3,ps,ns,rfl,#[b,c,e,e1,e2],(L1.same C0).same Cs,(L2.same C0).same Cs,#[G1,G2],R,λOo CY=>#[_,rfl,UE (hB _ (Same.trans C0 (Same.trans Cs CY)))]]
 rintro P0 BF;have D1:=D1.same BF;have D2:=D2.same BF;have P1:=P1.same BF;have P2:=P2.same BF;have eK:=BF _ _ eK;refine#[_,rfl,_,rfl,o1,_,_,rfl,D1,λK1 c3 e3 Om Cs h14 Wu=>#[_,rfl,o2,_,_,rfl,D2.same Cs,λK2 c4 e4 Oo CY h15 EX=>#[K1,K2,_,_,rfl,rfl,CY _ _ h14,h15,by show 4<=sizeLine;decide,λKq hK=>?_]]]
 exists H16,s16,e16,Oo,Kq,hK,.lst ([.ref c3,.ref e3]++[.ref c4,.ref e4]),.lst ([c3,e3,c4,e4].map V.ref)
 have Oq:=Same.trans Cs (Same.trans CY s16);have y1:=(P1.same Oq).sames ((Wu.same CY).same s16);have y2:=(P2.same Oq).sames (EX.same s16);refine#[Kp,Kq,[c1,e1,c2,e2],[c3,e3,c4,e4],rfl,rfl,Oq _ _ eK,e16,#[rfl,λi x y hx hy=>?_],q _]
 match i,hx,hy with
 | 0,hx,hy=>cases hx;cases hy;exact y1.1
 | 1,hx,hy=>cases hx;cases hy;exact y1.2
 | 2,hx,hy=>cases hx;cases hy;exact y2.1
 | 3,hx,hy=>cases hx;cases hy;exact y2.2
 | _+4,hx,_=>simp at hx
variable {P:AS}{w:World}{K:AB}{mg:AE}{base:Heap}{t:Adr}
theorem walk {l:PySem.W.OpenLaw}{q:AS}{loose:AM}{XP:(Str->Option Value)->Heap->Prop}{YP:World->Heap->Prop}{d:DefRec}{K:Params->Frag} (hn:l.most=some 63) (Fp:d.params.defaults=[])
  (hY:∀(w:World) (h:Heap),YP w h->(K w.params).In h)
  (F:∀(w:World) (mg:AE) (fa:Addr) (h:Heap),(K w.params).In h->h.Ns mainGlobals mg->mg d.name=some (.ref fa) ->
   ∃fd:FuncData,(∀(s:Shared) (u:Value),BindsTo s fd #[[u],[]] [("_law_script",u)])/\∀base:Heap,(K w.params).In base->base.Ns mainGlobals mg->UD l.prog w (K w.params) mg base (XC l.prog w) 17 fa fd ["_law_script"] (cA (K w.params))) :
  PySem.W.WalkO q loose XP YP l.row.toRowW d [] (λf vs=>PySem.call f vs) :=
 L2.walk_of (n:=63) (k:=17) (x:="_law_script") (CX:=λw=>XC l.prog w) (sp:=λw=>cA (K w.params)) hn '$' Fp #[λ_=>rfl,by decide,by decide] hY F (λ_ _ a ns hl _ hS=>#[a,ns,rfl,hS,hl,λ_=>rfl]) λw H s e s' z=>by
  obtain⟨_,_,_,_,_,_,_,_,_,q⟩:=z;exact q
end K51
end
open PySem PySem.W PyProof.Rows
set_option maxRecDepth 100000 in
set_option maxHeartbeats 0 in
theorem PySem.Challenge.cw_copperbook_k51_a_drawing_renamed_holds : PySem.Challenge.rw_copperbook_k51_a_drawing_renamed.Holds := by
 w_on;o_law;k_head;(case hw=>w_witness2)
 k_fill
 refine K51.walk (l:=PySem.Challenge.rw_copperbook_k51_a_drawing_renamed) rfl rfl (fun w h Y=>kIn_of Y) ?F
 case F =>
  intro w mg fa h KX G hmg
  have TT:∃t:K51.Adr,K51.Txt (L2.KOf KX) mg t:=by
   dsimp only [L2.KOf]
   open L2 K51 in refine' ⟨⟨_,_,_,_,_,_,_,_,_,_,_,_,_,_,_,_,_,_,_,_,_,_,_,_,_,_,_,_,_,_,_,_,_,_,_,_,_,_,_,_,_,_,_,_,_,_,_,_⟩,⟨mg_of KX G ?_,mg_of KX G ?_,⟨?_,?_,?_,?_⟩,M4 ?_,M4 ?_,M4 ?_,M4 ?_,⟨?_,?_,?_,?_⟩,M4 ?_,M4 ?_,M4 ?_,⟨⟨?_,?_,?_,?_⟩,JR ?_ ?_ ?_⟩,⟨mg_of KX G ?_,JR ?_ ?_ ?_⟩,⟨mg_of KX G ?_,JR ?_ ?_ ?_⟩,⟨mg_of KX G ?_,JR ?_ ?_ ?_⟩,⟨mg_of KX G ?_,JR ?_ ?_ ?_⟩,⟨mg_of KX G ?_,JR ?_ ?_ ?_⟩,⟨mg_of KX G ?_,JR ?_ ?_ ?_⟩,⟨mg_of KX G ?_,JR ?_ ?_ ?_⟩,⟨mg_of KX G ?_,JR ?_ ?_ ?_⟩,⟨mg_of KX G ?_,JR ?_ ?_ ?_⟩,⟨mg_of KX G ?_,JR ?_ ?_ ?_⟩,⟨mg_of KX G ?_,JR ?_ ?_ ?_⟩,⟨mg_of KX G ?_,JR ?_ ?_ ?_⟩,⟨mg_of KX G ?_,JR ?_ ?_ ?_⟩,⟨mg_of KX G ?_,JR ?_ ?_ ?_⟩,⟨mg_of KX G ?_,JR ?_ ?_ ?_⟩,⟨mg_of KX G ?_,JR ?_ ?_ ?_⟩,⟨mg_of KX G ?_,JR ?_ ?_ ?_⟩,⟨mg_of KX G ?_,JR ?_ ?_ ?_⟩,⟨mg_of KX G ?_,JR ?_ ?_ ?_⟩,⟨mg_of KX G ?_,JR ?_ ?_ ?_⟩,⟨mg_of KX G ?_,JR ?_ ?_ ?_⟩,⟨mg_of KX G ?_,JR ?_ ?_ ?_⟩,⟨mg_of KX G ?_,JR ?_ ?_ ?_⟩,⟨⟨?_,?_,?_,?_⟩,JR ?_ ?_ ?_⟩,⟨⟨?_,?_,?_⟩,JR ?_ ?_ ?_⟩,⟨⟨?_,?_,?_⟩,JR ?_ ?_ ?_⟩,⟨⟨?_,?_,?_⟩,JR ?_ ?_ ?_⟩,⟨⟨?_,?_,?_⟩,JR ?_ ?_ ?_⟩,⟨mg_of KX G ?_,JR ?_ ?_ ?_⟩,⟨mg_of KX G ?_,JR ?_ ?_ ?_⟩,⟨mg_of KX G ?_,JR ?_ ?_ ?_⟩,⟨mg_of KX G ?_,JR ?_ ?_ ?_⟩,⟨mg_of KX G ?_,JR ?_ ?_ ?_⟩,⟨mg_of KX G ?_,JR ?_ ?_ ?_⟩,⟨mg_of KX G ?_,JR ?_ ?_ ?_⟩,⟨mg_of KX G ?_,JR ?_ ?_ ?_⟩,⟨mg_of KX G ?_,JR ?_ ?_ ?_⟩,mg_of KX G ?_,⟨_,ak (dV:=.none) ?_ ?_ ?_,fun s u=>.of_eq rfl⟩,mg_none_of KX G ?_,mg_none_of KX G ?_,mg_none_of KX G ?_,mg_none_of KX G ?_,mg_none_of KX G ?_,mg_none_of KX G ?_,mg_none_of KX G ?_,mg_none_of KX G ?_,mg_none_of KX G ?_,mg_none_of KX G ?_,mg_none_of KX G ?_,mg_none_of KX G ?_,mg_none_of KX G ?_,mg_none_of KX G ?_,mg_none_of KX G ?_,mg_of KX G ?_,mg_of KX G ?_,mg_of KX G ?_,mg_of KX G ?_,mg_of KX G ?_,mg_of KX G ?_,mg_of KX G ?_,As ?_ (.cons ⟨_,rfl⟩ (.cons ⟨_,rfl⟩ .nil))⟩⟩
   all_goals
    try dsimp only
    first|k_is|k_exc|exact⟨_,rfl⟩|exact rfl|kernel_rfl|skip
  obtain⟨t,T⟩:=TT
  have e:=hmg.symm.trans T.wq
  cases e
  exact K51.law_fn T
