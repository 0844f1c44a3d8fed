import PyProof.Rows.All
import Wide.All
import OpenK.AllK
import Wide.FinOn
import PyProof.Seq
import PyProof.RangeIter
import PyProof.TupleIter
import PyProof.StrLoop
import PyProof.WalkInts
import PyProof.StationsW
import PyProof.ZipIter
import PyProof.ListNew
import Lean
import PyProof.EqAt
import PyProof.EqKinds
import PyProof.TupleCall
import PyProof.NeKinds
import KE.IntTextLaws
import KE.KIntText
import PyProof.Draws
import PyProof.EnumMake
import PyProof.EnumFor
import PyProof.NsDelKeeps
import PyProof.Rows.StrFit
import PyProof.Rows.SortShellK
import PyProof.DictKinds
import KE.KDictList
import PyProof.DictWalks
import KE.KEqDict
import PyProof.RaisesDict
import PySem.SetOps
import PyProof.FactsAll.set_1
import PyProof.FactsAll.set_2
import PyProof.LongRange
import PyProof.MaxThree
import KE.KDictOf
import PySem.Challenge.RW_copperbook_k11_boards_by_cells
set_option Elab.async false
set_option linter.all false
set_option maxRecDepth 100000
local macro_rules|`(tactic|omega)=>`(tactic|first|lia|omega +splitNatSub)
open PySem.W (CodeHd FnAt InstAt KdlSrc Looks callWith_K callWith_K0 cellsFrom_some codeHdIn codeHd_of_K codeIn emptyDict envX excIn findIn fnOf handedIn hasDictIn hideAll hideAll_get hideAll_none instObj isFn kdl_extend keepIn kia_one kitOne kitx_dict kitx_list kla_fn kla_obj lookIn makesIn methodCall_KW methodObj mroIn of_hideAll plainGet plainGet_of plainOver tabObj takerIn typeIn)
section
open PySem PySem.Spec PyProof.Rows
abbrev sV:=Value→Shared→Prop
abbrev sW:=Unit→Shared→Prop
abbrev sX:=Bool→Shared→Prop
abbrev sY:=Option Value→Shared→Prop
abbrev sZ:=PySem.W.Frag
abbrev tf:=List (Int×Int×Int)
abbrev ti:=List (Int×Int)
abbrev tj:=Str→Option Value
abbrev tq:=List (Addr×Obj)
abbrev tw:=Array Keyed
abbrev tz:=List Value
abbrev tD:=List Addr
abbrev tE:=List (Str×Addr)
abbrev tF:=Array (Int×Value)
abbrev tG:=Array (Option Value)
abbrev tH:=List Str
abbrev tI:=Array Value
abbrev tJ:=List Expr
abbrev tK:=Array (Option Nat)
abbrev tL:=Option Addr
abbrev tM:=Program
abbrev tO:=@PySem.wpAny_bind
abbrev tP:=@PySem.wpAny_pure
end
/- These names keep the theorem's opening from writing out equations that only make the build larger: what is built must stay
   below 64 MiB. They say nothing and are used nowhere. -/
namespace PySem.W.Fast
def tw9297927227560880293:=0
def tw13327734537353877361:=0
def tw6059164701185890859:=0
def tw13549404908443118048:=0
def tw9051822611723658651:=0
def tw431020279730910370:=0
def tw10694915766388093691:=0
def tw5978681616138100377:=0
def tw6552735605649142225:=0
def tw11069026383457739165:=0
def tw4824673445760239888:=0
def tw7220165639637548855:=0
def tw573505615485749257:=0
def tw9208259013626263823:=0
def tw11661317592940816258:=0
def te5983200860459161047:=0
def tw15395649073525459394:=0
def tw5727547229614043789:=0
def tw1445796648534604962:=0
def tw10639974496712677954:=0
def tw7639394984640344919:=0
def tw15131324012583144715:=0
def tw3715832390596432523:=0
def tw3087877000198575954:=0
def tw69307076596902856:=0
def tw17589667369966727985:=0
def tw6324961590561810179:=0
def tw16715387922048930131:=0
def tw16861341081299177356:=0
def tw2462322696891881036:=0
def tw43791146719554932:=0
def tw4018104171844510273:=0
def tw10161914846016373126:=0
def tw15710966579686318837:=0
def tw8337896371776444598:=0
def tw18013542101156635356:=0
def tw2085660122402531014:=0
def tw10313699471822548290:=0
def tw15949443698350742614:=0
def tw12640585737460091578:=0
def tw12621036989142306974:=0
def tw8061104606114663072:=0
def tw687387747471710991:=0
def tw8610970422183296195:=0
def tw13098991614856447932:=0
def tw6213423677127106663:=0
def tw12822800078288002639:=0
def tw16835900138800049676:=0
def tw13866026986323590097:=0
def tw258928521940155599:=0
def tw5090925610624621782:=0
def tw1075519051913054194:=0
def tw16648799637612480859:=0
def tw11331905811786286344:=0
def tw12109564789307835140:=0
def tw17382541582883993351:=0
def tw4065108330689677992:=0
def tw2362996784874795243:=0
def tw14391200759740820424:=0
def tw1181412512168877149:=0
def tw15215217302187671490:=0
def tw7176907914519740110:=0
def tw16273923277066279809:=0
def tw6621253516199466771:=0
def tw2365445913270682606:=0
def tw12813746394567393953:=0
def tw433368504326035844:=0
def tw15779445190318971535:=0
def tw15125898632140584715:=0
def tw1993664208828422385:=0
def tw8197550384586637054:=0
def tw14775276637515288844:=0
def tw16102612505313387757:=0
def tw4565178401022916672:=0
def tw1114216083806287291:=0
def tw6389907674255995037:=0
def tw12938499725400528265:=0
def tw15540504152513700226:=0
def tw6649458779942914168:=0
def tw9812073577896247146:=0
def tw5483681157432962522:=0
def tw14604086717812391975:=0
def tw8957143036975859677:=0
def tw3580162432941718476:=0
def tw1077325104176436935:=0
def tw1016710110083036903:=0
def tw15677444293213474622:=0
def tw6066837204571015378:=0
def tw7625250236171446332:=0
def tw6754032951588555149:=0
def tw9539782697213638465:=0
def tw8145975441289170348:=0
def tw9691504489274101626:=0
def tw13041743819130566348:=0
def tw10354607057113896120:=0
def tw11901417851341013833:=0
def tw6037517045930681449:=0
def tw15577053345113088435:=0
def tw3090027889359354450:=0
def tw12916983109855654071:=0
def tw7670536287608513891:=0
def tw17786260171138465094:=0
def tw17377153208418696643:=0
def tw14997253182889449174:=0
def tw3715164103655144487:=0
def tw6840845837554456785:=0
def tw7066816894915378952:=0
def tw7574303973102447230:=0
def tw17038319015699366488:=0
def tw6074011017492654906:=0
def tw14643523431290707255:=0
def tw7555787956132794651:=0
def tw8341215122539862207:=0
def tw6831450834713976725:=0
def tw2567154397362244504:=0
def tw2956957746869797044:=0
def tw14203288652831065756:=0
def tw14216359664891443734:=0
def tw9319870038755483227:=0
def tw16219221996829640601:=0
def tw7640822722244490608:=0
def tw11830370988289807158:=0
def tw426519647031990768:=0
def tw12129132170904922087:=0
def tw3773676222153970460:=0
def tw5908230335408424046:=0
def tw11735578663983520620:=0
def tw14916282019228549286:=0
def tw282664432213088129:=0
def tw13100861461187209657:=0
def tw18068254300820979567:=0
def tw17398200502637382826:=0
def tw16230934246361482821:=0
end PySem.W.Fast
namespace L2
open PySem
inductive Yi (h:Heap) (D:tD):Value→Prop
 | nil:Yi h D .none
 | cons {b:Addr} {ob:Obj} {us:tI} {c:Value}:b∈D→h.get? b=some ob→ob.data=.fields us→us[2]?=some c→Yi h D c→Yi h D (.ref b)
theorem Yi.kept {h h':Heap}{D D':tD}{v:Value} (n:Yi h D v) (k:∀b∈D,∀o,h.get? b=some o→h'.get? b=some o) (d:∀b∈D,b∈D'):Yi h' D' v:=by
 induction n with
 | nil=>exact .nil
 | cons q1 q2 q3 q4 _ ih=>exact .cons (d _ q1) (k _ q1 _ q2) q3 q4 ih
theorem Yi.small {h:Heap}{D:tD}{v:Value} (n:Yi h D v):∃D',Yi h D' v∧∀b∈D',∃(o:Obj) (us:tI),h.get? b=some o∧o.data=.fields us∧2<us.size:=by
 induction n with
 | nil=>exact⟨[],.nil,fun b hb=>absurd hb (by simp)⟩
 | @cons b ob us c q1 q2 q3 q4 _ ih =>
  obtain⟨D',m,l⟩:=ih
  refine⟨b::D',.cons (by simp) q2 q3 q4 (m.kept (fun _ _ _ e=>e) fun d hd=>List.mem_cons_of_mem _ hd),fun d hd=>?_⟩
  rcases List.mem_cons.mp hd with rfl|hd
  ·exact⟨ob,us,q2,q3,(Array.getElem?_eq_some_iff.mp q4).1⟩
  ·exact l d hd
def gj (A:Around) (h:Heap) (D:tD):Prop:=A.handled=none∨∃ea:Addr,A.handled=some (.ref ea)∧Yi h D (.ref ea)
def Yj (A:Around) (h:Heap):Prop:=∃D,gj A h D
theorem gj.keptD {A:Around}{h h':Heap}{D:tD} (n:gj A h D) (k:∀b∈D,∀o,h.get? b=some o→h'.get? b=some o):gj A h' D:=by
 rcases n with z|⟨ea,h1,h2⟩
 ·exact .inl z
 ·exact .inr ⟨ea,h1,h2.kept k fun _ q=>q⟩
theorem Yj.small {A:Around}{h:Heap} (n:Yj A h):∃D,gj A h D∧∀b∈D,∃(o:Obj) (us:tI),h.get? b=some o∧o.data=.fields us∧2<us.size:=by
 obtain⟨D,n⟩:=n
 rcases n with z|⟨ea,h1,h2⟩
 ·exact⟨[],.inl z,fun b hb=>absurd hb (by simp)⟩
 ·obtain⟨D',m,l⟩:=h2.small
  exact⟨D',.inr ⟨ea,h1,m⟩,l⟩
theorem Yj.but {A:Around}{h h':Heap}{it:Addr} (n:Yj A h) (k:Heap.SameBut it h h') (ne:∃(o:Obj) (us:tI),h.get? it=some o∧o.data=.fields us∧us.size≤2):Yj A h':=by
 obtain⟨D,n,l⟩:=n.small
 refine⟨D,n.keptD fun b hb o e=>(k.2 b fun q=>?_).trans e⟩
 obtain⟨o1,us1,e1,e2,e3⟩:=l b hb
 obtain⟨o2,us2,f1,f2,f3⟩:=ne
 rw [q,f1] at e1;cases e1
 rw [f2] at e2;cases e2
 omega
theorem Ka:entryFor table "proto.unchain"=some Builtin.«proto.unchain»:=entryFor_of_tree (by kernel_rfl)
section
variable {prog:tM}{w:World}{A:Around}{E:sV}{s:Shared}
inductive Zh (h:Heap):Addr→Addr→Prop
 | refl (a:Addr):Zh h a a
 | step {a b o:Addr} {ob:Obj} {us:tI}:h.get? a=some ob→ob.data=.fields us→us[2]?=some (.ref b)→Zh h b o→Zh h a o
theorem Zh.snoc {h:Heap}{a o b:Addr}{ob:Obj}{us:tI} (p:Zh h a o) (h1:h.get? o=some ob) (h2:ob.data=.fields us) (h3:us[2]?=some (.ref b)):Zh h a b:=by
 induction p with
 | refl a=>exact .step h1 h2 h3 (.refl b)
 | step q1 q2 q3 _ ih=>exact .step q1 q2 q3 (ih h1)
def rq (h:Heap) (a o:Addr):Prop:=∃(b:Addr) (ob:Obj) (us:tI),h.get? a=some ob∧ob.data=.fields us∧us[2]?=some (.ref b)∧Zh h b o
theorem Zh.far {h:Heap}{a o b:Addr}{ob:Obj}{us:tI} (p:Zh h a o) (h1:h.get? o=some ob) (h2:ob.data=.fields us) (h3:us[2]?=some (.ref b)):rq h a b:=by
 cases p with
 | refl=>exact⟨b,ob,us,h1,h2,h3,.refl b⟩
 | step q1 q2 q3 p=>exact⟨_,_,_,q1,q2,q3,p.snoc h1 h2 h3⟩
theorem aU {e:Addr}{D:tD}{R:Result→Shared→Prop} (new:e ∉ D) (h:R (.ok (.ret .none)) s) {v:Value} (n:Yi s.heap D v):∀(o slow:Addr) (tg:Bool),v=.ref o→Zh s.heap slow o→(tg=true→rq s.heap slow o) →
  codeAny (model prog w) A (.builtin "proto.unchain" ⟨[.ref e,.ref o,.ref slow,.bool tg],[]⟩) R s:=by
 induction n with
 | nil=>intro o slow tg q;cases q
 | @cons b ob us c q1 q2 q3 q4 m ih =>
  intro o slow tg q p far
  cases q
  refine codeAny_builtin Ka ?_
  unfold Builtin.«proto.unchain»
  dsimp only
  refine tO (wpAny_field q2 q3 (x:=c) q4 ?_)
  cases m with
  | nil=>exact tP h
  | @cons b2 ob2 us2 c2 r1 r2 r3 r4 m2 =>
   have nbe:b2≠e:=fun q=>new (q▸r1)
   rw [if_neg (show ¬((Value.ref b2==Value.none)=true) from Bool.false_ne_true),if_neg (show ¬((Value.ref b2==Value.ref e)=true) by simpa using nbe)]
   by_cases hs:b2=slow
   ·subst hs
    rw [if_pos (by simp)]
    exact tO (wpAny_rule (tP h))
   ·rw [if_neg (show ¬((Value.ref b2==Value.ref slow)=true) by simpa using hs)]
    cases tg with
    | false=>exact tO (tP (tP ⟨Code.quiet_builtin _ (by decide +kernel),ih b2 slow true rfl (p.snoc q2 q3 q4) fun _=>p.far q2 q3 q4⟩))
    | true =>
     obtain⟨b3,ob3,us3,f1,f2,f3,p3⟩:=far rfl
     exact tO (wpAny_field f1 f2 (x:=.ref b3) f3 (tP ⟨Code.quiet_builtin _ (by decide +kernel),ih b2 b3 false rfl (p3.snoc q2 q3 q4) fun z=>by cases z⟩))
theorem dY {α:Type}{Q:α→Shared→Prop}{e:Addr}{oe:Obj}{vs:tI}{D:tD} (hn:gj A s.heap D) (he:s.heap.get? e=some oe) (hd:oe.data=.fields vs) (h2:2<vs.size)
  (new:e ∉ D)
  (h:∀h',(h'=s.heap∧A.handled=none)∨(∃ea,A.handled=some (.ref ea)∧h'=s.heap.update e (Obj.mapFields (·.setIfInBounds 2 (.ref ea))))→Heap.SameBut e s.heap h'→(∃o,h'.get? e=some o∧o.cls=oe.cls)→E (.ref e) { s with heap:=h' }):wpAny (model prog w) A (raiseNew (.ref e):Sem α) Q E s:=by
 unfold raiseNew
 refine tO (wpAny_handled ?_)
 rcases hn with z|⟨ea,z,n⟩
 ·rw [z]
  exact tO (tP (wpAny_throw (h s.heap (.inl ⟨rfl,z⟩) ⟨rfl,fun _ _=>rfl⟩ ⟨oe,he,rfl⟩)))
 ·have ne:ea≠e:=fun q=>by cases n with|cons q1=>exact new (q▸q1)
  rw [z]
  dsimp only
  have hne:(Value.ref ea != Value.ref e)=true:=by
   rw [bne_iff_ne];intro q;exact ne (Value.ref.inj q)
  rw [hne]
  have wf:∀{P:sW},P () { s with heap:=s.heap.update e (Obj.mapFields (·.setIfInBounds 2 (.ref ea))) }→wpAny (model prog w) A (updateField e 2 (.ref ea)) P E s:=fun {P} q=>wpAny_setField he hd h2 q
  refine tO (wpAny_holding (wpAny_runValue (aU new ?_ n ea ea false rfl (.refl ea) fun z=>by cases z)))
  exact tO (wf (wpAny_throw (h _ (.inr ⟨ea,z,rfl⟩) (Heap.SameBut.update ..) ⟨_,Heap.get?_update_self _ he (Obj.isFreed_of_fields (Obj.data_mapFields hd _)),Obj.cls_mapFields ..⟩)))
theorem GU {α:Type}{Q:α→Shared→Prop} (hn:Yj A s.heap) (h:∀h' e,(∀b o,s.heap.get? b=some o→h'.get? b=some o)→(∃o,h'.get? e=some o∧o.cls=.type "StopIteration")→E (.ref e) { s with heap:=h' }) :
  wpAny (model prog w) A (newExc (.type "StopIteration") []>>=fun x=>(raiseNew x:Sem α)) Q E s:=by
 refine tO ?_
 unfold newExc newTuple
 refine tO (wpAny_newObj_type ?_ (by show 0≤sizeLine;decide))
 refine tO (m:=firstArgMember (.type "StopIteration") []) (wpAny_of_eq (a:=Value.none) rfl (wpAny_newObj_type ?_ (by size_fits)))
 generalize hp:s.heap.push _=h1
 have k1:∀b o,s.heap.get? b=some o→h1.get? b=some o:=fun b o e=>hp▸Heap.get?_push_of_some _ e
 have k2:∀ob b o,h1.get? b=some o→(h1.push ob).get? b=some o:=fun ob b o e=>Heap.get?_push_of_some _ e
 obtain⟨D,nD,lD⟩:=hn.small
 refine dY (e:=h1.objs.size) (vs:=_) (D:=D) ((nD.keptD fun b _ o e=>k1 b o e).keptD fun b _ o e=>k2 _ b o e) (Heap.get?_push_size _ rfl) rfl (by show 2<6;decide) (fun q=>?_) fun h' _ sb ex=>h h' _ (fun b o e=>(sb.2 b ?_).trans (k2 _ b o (k1 b o e))) ex
 ·obtain⟨o,_,eo,_⟩:=lD _ q
  exact absurd (Heap.lt_size (k1 _ _ eo)) (Nat.lt_irrefl _)
 ·exact Nat.ne_of_lt (Heap.lt_size (k1 b o e))
theorem z9 {Q:sY}{e:Addr} (ex:∃o,s.heap.get? e=some o∧o.cls=.type "StopIteration") (h:Q none s) :
  wpAny (model prog w) A (do if (←isInstance (.ref e) (.type "StopIteration"))=true then pure (none:Option Value) else throw (.ref e)) Q E s:=by
 obtain⟨o,h1,h2⟩:=ex
 refine tO (wpAny_isInstance (T:="StopIteration") (b:=true) ⟨o,h1,h2⟩ isSubtype_stop ?_)
 exact tP h
theorem NC {it l:Addr}{i:Nat}{items:tI}{Q:sY} (hn:Yj A s.heap) (hit:s.heap.IsListIter it l i) (hl:s.heap.IsList l items) (hx:items[i]?=none)
  (hQ:∀h',Heap.ExtBut it s.heap h'→Q none { s with heap:=h' }):wpAny (model prog w) A (pyNext (.ref it)) Q E s:=by
 obtain⟨o,ho,hc,hd⟩:=id hit
 obtain⟨ol,hol,_,nl,hdl⟩:=hl
 unfold pyNext
 refine tO (wpAny_attempt (wpAny_callSpecial?_slot (name:=Str.ofString "__next__") hit.typeIs slot_listiter_next (wpAny_call_entry slot_listiter_next hit.typeIs entry_listiter_next ?_ (args_listiter_next _))))
 refine (show ∀{R:Fin→Shared→Prop} {F:sV},wpAny (model prog w) A.in1 (field (.ref it) 0>>=_) R F s→wpAny (model prog w) A.in1 (Builtin.«list_iterator.__next__» _) R F s from fun z=>z) (tO (wpAny_field ho hd (x:=.ref l) rfl ?_))
 rw [if_neg (show ¬((Value.ref l==Value.none)=true) from Bool.false_ne_true)]
 refine tO (wpAny_field (i:=1) ho hd (x:=.int i 0) rfl (tO (wpAny_seqItems hol hdl ?_)))
 simp only [Int.toNat_natCast,hx]
 refine tO (wpAny_rule (tO (wpAny_setField ho hd (by simp) ?_)))
 have sb:Heap.SameBut it s.heap (s.heap.update it (Obj.mapFields (·.setIfInBounds 0 .none))):=Heap.SameBut.update ..
 refine GU (A:=A.in1) (s:={ s with heap:=_ }) (hn.but sb ⟨o,_,ho,hd,by simp⟩) fun h' e k ex=>z9 (s:={ s with heap:=h' }) ex (hQ h' fun b o hb q=>k b o ((sb.2 b hb).trans q))
theorem eQ {it l:Addr}{i:Nat}{items:tI}{Q:sY} (hn:Yj A s.heap) (hit:s.heap.IsTupleIter it l i) (hl:s.heap.IsTuple l items) (hx:items[i]?=none)
  (hQ:∀h',Heap.ExtBut it s.heap h'→Q none { s with heap:=h' }):wpAny (model prog w) A (pyNext (.ref it)) Q E s:=by
 obtain⟨o,ho,hc,hd⟩:=id hit
 obtain⟨ol,hol,_,nl,hdl⟩:=hl
 unfold pyNext
 refine tO (wpAny_attempt (wpAny_callSpecial?_slot (name:=Str.ofString "__next__") hit.typeIs F.slot_tuple_iterator_next (wpAny_call_entry F.slot_tuple_iterator_next hit.typeIs F.entry_tuple_iterator_next ?_ (F.args_tuple_iterator_next_1 _))))
 refine (show ∀{R:Fin→Shared→Prop} {F:sV},wpAny (model prog w) A.in1 (field (.ref it) 0>>=_) R F s→wpAny (model prog w) A.in1 (Builtin.«tuple_iterator.__next__» _) R F s from fun z=>z) (tO (wpAny_field ho hd (x:=.ref l) rfl ?_))
 rw [if_neg (show ¬((Value.ref l==Value.none)=true) from Bool.false_ne_true)]
 refine tO (wpAny_field (i:=1) ho hd (x:=.int i 0) rfl (tO (wpAny_seqItems hol hdl ?_)))
 simp only [Int.toNat_natCast,hx]
 refine tO (wpAny_rule (tO (wpAny_setField ho hd (by simp) ?_)))
 have sb:Heap.SameBut it s.heap (s.heap.update it (Obj.mapFields (·.setIfInBounds 0 .none))):=Heap.SameBut.update ..
 refine GU (A:=A.in1) (s:={ s with heap:=_ }) (hn.but sb ⟨o,_,ho,hd,by simp⟩) fun h' e k ex=>z9 (s:={ s with heap:=h' }) ex (hQ h' fun b o hb q=>k b o ((sb.2 b hb).trans q))
theorem dZ {it:Addr}{x left step:Int}{Q:sY} (hn:Yj A s.heap) (hit:IsRangeIter s.heap it x left step) (hleft:left≤0)
  (hQ:∀h',Heap.ExtBut it s.heap h'→Q none { s with heap:=h' }):wpAny (model prog w) A (pyNext (.ref it)) Q E s:=by
 have hT:s.TypeIs (.ref it) "range_iterator":=⟨_,hit,rfl⟩
 unfold pyNext
 refine tO (wpAny_attempt (wpAny_callSpecial?_slot (name:=Str.ofString "__next__") hT F.slot_range_iterator_next (wpAny_call_entry F.slot_range_iterator_next hT F.entry_range_iterator_next ?_ (F.args_range_iterator_next_1 _))))
 refine (show ∀{R:Fin→Shared→Prop} {F:sV},wpAny (model prog w) A.in1 (field (.ref it) 0>>=_) R F s→wpAny (model prog w) A.in1 (Builtin.«range_iterator.__next__» _) R F s from fun z=>z) (tO (wpAny_field hit rfl (x:=rawInt x) rfl ?_))
 refine (show ∀{k:Value→Sem Fin} {R:Fin→Shared→Prop} {F:sV},wpAny (model prog w) A.in1 (k (rawInt left)) R F s→wpAny (model prog w) A.in1 (field (.ref it) 1>>=k) R F s from fun z=>tO (wpAny_field hit rfl (x:=rawInt left) rfl z)) ?_
 refine (show ∀{k:Value→Sem Fin} {R:Fin→Shared→Prop} {F:sV},wpAny (model prog w) A.in1 (k (rawInt step)) R F s→wpAny (model prog w) A.in1 (field (.ref it) 2>>=k) R F s from fun z=>tO (wpAny_field hit rfl (x:=rawInt step) rfl z)) ?_
 refine (show ∀{a b:Sem Fin} {R:Fin→Shared→Prop} {F:sV},wpAny (model prog w) A.in1 a R F s→wpAny (model prog w) A.in1 (if left≤0 then a else b) R F s from fun z=>by rw [if_pos hleft];exact z) ?_
 refine tO (wpAny_rule (tO ?_))
 exact GU (A:=A.in1) hn fun h' e k ex=>z9 (s:={ s with heap:=h' }) ex (hQ h' fun b o _ q=>k b o q)
theorem M9 (I ax:Addr) (hne:ax≠I) (D:tD) (hI:I ∉ D) (items:tI) :
  Walks prog w A I ([I,ax]++D) [I] items.size (fun i v=>items[i]?=some v) (fun i h=>(h.IsListIter I ax i∧h.IsList ax items)∧gj A h D) where
 sub:=fun b hb=>by simp at hb;simp [hb]
 frame:=fun i h h' st k=>⟨⟨st.1.1.at fun o e=>k I (by simp) o e,st.1.2.at fun o e=>k ax (by simp) o e⟩,st.2.keptD fun b hb o e=>k b (by simp [hb]) o e⟩
 item:=fun i s Q E hi st hQ=>by
  refine wpAny_pyNext_list_item st.1.1 st.1.2 (x:=items[i]) (by simp [hi]) fun h' hit' sb=>?_
  refine hQ _ h' s.toks (by simp [hi]) ⟨⟨hit',st.1.2.extBut sb.extBut hne⟩,st.2.keptD fun b hb o e=>(sb.2 b fun q=>hI (q▸hb)).trans e⟩ fun b o hb e=>(sb.2 b fun q=>hb (by simp [q])).trans e
 done:=fun s Q E st hQ=>NC ⟨D,st.2⟩ st.1.1 st.1.2 (by simp) fun h' k=>hQ h' s.toks fun b o hb e=>k b o (fun q=>hb (by simp [q])) e
 self:=fun _ _ _ _ st hQ=>wpAny_pyIter_listiter st.1.1 hQ
theorem pF {l:Addr}{xs:Array (Int×Tok)}{Q:sV} (hn:Yj A s.heap) (hl:s.heap.IsList l (intItems xs)) (hne:0<xs.size)
  (h:∀v h' tk,(intItems xs)[argBest (fun i j=>decide (numAt xs i<numAt xs j)) (xs.size - 1)]?=some v→(∀b o,s.heap.get? b=some o→h'.get? b=some o)→Q v { s with heap:=h',toks:=tk }) :
  wpAny (model prog w) A (call (.builtin "min") [.ref l]) Q E s:=by
 obtain⟨D,nD,lD⟩:=hn.small
 have hlt:∀b∈D,b<s.heap.objs.size:=fun b hb=>let ⟨_,_,e,_⟩:=lD b hb;Heap.lt_size e
 refine call_min_walk (iter_intList hl fun s2 e st hfp hlI=>?_)
 subst e
 have nI:s.heap.objs.size ∉ D:=fun z=>absurd (hlt _ z) (Nat.lt_irrefl _)
 refine⟨_,_,_,_,_,_,_,rfl,M9 (A:=A.in1) s.heap.objs.size l hlI D nI (intItems xs),⟨st,gj.keptD (A:=A.in1) nD fun b _ o e=>Heap.get?_push_of_some _ e⟩,fun b hb=>?_,by simpa [intItems] using hne,CmpOf.ints_lt (numAt xs) (fun _ _=>intItems_at),fun v h' tk hP hk=>?_⟩
 ·rcases List.mem_append.mp hb with z|z
  ·exact hfp b z
  ·rw [Heap.size_push];exact Nat.lt_succ_of_lt (hlt b z)
 ·exact h v h' tk (by simpa [intItems] using hP) (old_kept hk)
end
end L2
namespace L2
open PySem
def fc (h base:Heap) (e:Addr) (cls:Value) (a0:Value×Value) (fl:Value):Prop :=
 ∃oe vs T oT ts,h.get? e=some oe∧(oe.cls=cls∧vs[0]?=some a0.1∧vs[2]?=some a0.2)∧oe.data=.fields vs∧vs[1]?=some (.ref T)∧base.get? T=none∧T≠e∧h.get? T=some oT∧oT.data=.fields ts∧ts[3]?=some fl
structure yO (base:Heap) (l:List Env) (e:Addr) (cls:Value) (a0:Value×Value) (fl:Value) (h h':Heap):Prop where
 st:base.StaysIn h'
 ff:h'.FunFrames base l
 tr:fc h' base e cls a0 fl
 up:h.UpToSlots h'
section
variable {M:Model}{A:Around}{E:sV}{s:Shared}{base:Heap}{env:Env}{outer:List Env}{L e:Addr}{cls:Value}{a0:Value×Value}
theorem Nt {oe:Obj}{vs:tI}{head:Value}{hadNext:Bool}{Q:sW} (hfr:A.frames=some (env::outer)) (hl:s.heap.FunFrames base (env::outer)) (hf:env.frame=some L)
  (he:s.heap.get? e=some oe) (hkb:base.StaysIn s.heap) (hen:base.get? e=none) (hd:oe.data=.fields vs) (hsz:1<vs.size) (h0:vs[0]?=some a0.1) (h2:vs[2]?=some a0.2)
  (h:∀h',yO base (env::outer) e oe.cls a0 (rawInt L) s.heap h'→Q () { s with heap:=h' }) :
  wpAny M A (do let a ←frameOf env;let pl ←entryPlaceOf L hadNext;let b ←EntryCells.newEntry head a .none (rawInt L) .none pl;setField (.ref e) 1 b) Q E s:=by
 have rec1:∀b o,s.heap.get? b=some o→(∀us,o.data≠.fields us)→b≠e:=fun b o hb hn q=>by
  subst q
  rw [he] at hb;cases hb
  exact hn vs hd
 have efr:e ∉ (env::outer).filterMap (·.frame):=fun hm=>by
  obtain⟨_,o,ho,hn⟩:=hl.mem hm
  exact rec1 e o ho hn rfl
 refine tO (wpAny_frameOf_fun hfr hl hf fun g hg=>tO (wpAny_entryPlaceOf fun pl hpl=>?_))
 unfold EntryCells.newEntry newFields
 refine tO (wpAny_newObj_type ?_ (hpl.sizeOk5 _ _ _ _ _))
 generalize ho:(Obj.mk (.type "traceback") none (.fields ([head,.ref L,.none,rawInt L,.none]++(if pl.isEmpty then List.replicate 6 Value.none else pl)).toArray) #[])=ot
 have hoc:ot.data=.fields ([head,.ref L,.none,rawInt L,.none]++(if pl.isEmpty then List.replicate 6 Value.none else pl)).toArray:=by rw [←ho]
 have eg:g.get? e=some oe:=(hg.2.1 e efr).trans he
 have bg:base.StaysIn g:=fun b o hb=>(hg.2.1 b fun hm=>by rw [(hl.mem hm).1] at hb;cases hb).trans (hkb b o hb)
 have nT:g.objs.size≠e:=Nat.ne_of_gt (Heap.lt_size eg)
 have e2:(g.push ot).get? e=some oe:=Heap.get?_push_of_some _ eg
 refine wpAny_setField e2 hd hsz (h _ ?_)
 have d3:=Obj.data_mapFields hd (·.setIfInBounds 1 (Value.ref g.objs.size))
 have e3:=Heap.get?_update_self (Obj.mapFields (·.setIfInBounds 1 (Value.ref g.objs.size))) e2 (Obj.isFreed_of_fields d3)
 have keep:∀b o,b≠e→g.get? b=some o→((g.push ot).update e (Obj.mapFields (·.setIfInBounds 1 (Value.ref g.objs.size)))).get? b=some o:=fun b o hb q=>by
  rw [Heap.get?_update_other _ _ (Ne.symm hb)]
  exact Heap.get?_push_of_some _ q
 have T3:((g.push ot).update e (Obj.mapFields (·.setIfInBounds 1 (Value.ref g.objs.size)))).get? g.objs.size=some ot:=by
  rw [Heap.get?_update_other _ _ (Ne.symm nT)]
  exact Heap.get?_push_size g (by rw [←ho];rfl)
 refine⟨fun b o hb=>keep b o (fun q=>by rw [q,hen] at hb;cases hb) (bg b o hb),hl.of_keeps fun b o hb hn=>?_,⟨_,_,g.objs.size,ot,_,e3,⟨Obj.cls_mapFields _ _,?_,?_⟩,d3,by simp [hsz],bg.fresh,nT,T3,hoc,?_⟩,fun b o hb hn=>?_⟩
 ·obtain⟨sl,q⟩:=hg.2.2 b o hb
  exact⟨_,keep b _ (rec1 b o hb hn) q,rfl⟩
 ·rw [Array.getElem?_setIfInBounds_ne (by decide)];exact h0
 ·rw [Array.getElem?_setIfInBounds_ne (by decide)];exact h2
 ·first|(simp;done)|(rcases hpl with rfl|⟨_,_,_,_,_,_,_,rfl⟩<;>simp)
 ·obtain⟨sl,q⟩:=hg.2.2 b o hb
  exact⟨sl,keep b _ (rec1 b o hb hn) q⟩
theorem mq {l:List Env}{fl:Value}{Q:sW} (hkb:base.StaysIn s.heap) (hl:s.heap.FunFrames base l) (ht:fc s.heap base e cls a0 fl)
  (h:∀h',yO base l e cls a0 .none s.heap h'→(∀b o,s.heap.get? b=some o→(∀us,o.data≠.fields us)→h'.get? b=some o)→Q () { s with heap:=h' }):wpAny M A (setFlight (.ref e) none) Q E s:=by
 obtain⟨oe,vs,T,oT,ts,he,hc,hd,h1,hnT,hTe,hT,hdT,h3⟩:=ht
 have z3:3<ts.size:=(Array.getElem?_eq_some_iff.mp h3).1
 have nrec:∀b o,s.heap.get? b=some o→(∀us,o.data≠.fields us)→T≠b:=fun b o hb hn q=>by
  subst q
  rw [hT] at hb;cases hb
  exact hn ts hdT
 unfold setFlight
 refine tO (wpAny_field he hd h1 ?_)
 rw [if_pos (show (Value.ref T != Value.none)=true by simp)]
 refine wpAny_setField hT hdT z3 (h _ ⟨fun b o hb=>?_,hl.of_keeps fun b o hb hn=>⟨o,?_,rfl⟩,⟨oe,vs,T,_,_,?_,hc,hd,h1,hnT,hTe,Heap.get?_update_self _ hT (Obj.isFreed_of_fields (Obj.data_mapFields hdT _)),Obj.data_mapFields hdT _,by simp [z3]⟩,fun b o hb hn=>⟨o.slots,?_⟩⟩ fun b o hb hn=>?_)
 ·rw [Heap.get?_update_other _ _ (fun q=>by rw [←q,hnT] at hb;cases hb)];exact hkb b o hb
 ·rw [Heap.get?_update_other _ _ (nrec b o hb hn)];exact hb
 ·rw [Heap.get?_update_other _ _ hTe];exact he
 ·rw [Heap.get?_update_other _ _ (nrec b o hb hn)];exact hb
 ·rw [Heap.get?_update_other _ _ (nrec b o hb hn)];exact hb
theorem aE {oe:Obj}{vs:tI}{Q:sW} (hfr:A.frames=some (env::outer)) (hl:s.heap.FunFrames base (env::outer)) (hf:env.frame=some L)
  (he:s.heap.get? e=some oe) (hkb:base.StaysIn s.heap) (hen:base.get? e=none) (hd:oe.data=.fields vs) (h1:vs[1]?=some .none) (h0:vs[0]?=some a0.1) (h2:vs[2]?=some a0.2)
  (h:∀h',yO base (env::outer) e oe.cls a0 (rawInt L) s.heap h'→Q () { s with heap:=h' }):wpAny M A (noteFrame (.ref e) env) Q E s:=by
 unfold noteFrame
 simp only [hf]
 refine tO (wpAny_field he hd h1 ?_)
 rw [if_neg (by decide)]
 exact Nt hfr hl hf he hkb hen hd (Array.getElem?_eq_some_iff.mp h1).1 h0 h2 h
theorem cj {Q:sW} (hfr:A.frames=some (env::outer)) (hl:s.heap.FunFrames base (env::outer)) (hf:env.frame=some L) (ht:fc s.heap base e cls a0 .none) (hkb:base.StaysIn s.heap) (hen:base.get? e=none)
  (h:∀h',yO base (env::outer) e cls a0 (rawInt L) s.heap h'→Q () { s with heap:=h' }):wpAny M A (noteFrame (.ref e) env) Q E s:=by
 obtain⟨oe,vs,T,oT,ts,he,⟨hc,h0,h2⟩,hd,h1,hnT,hTe,hT,hdT,h3⟩:=ht
 subst hc
 have nrec:∀b o,s.heap.get? b=some o→(∀us,o.data≠.fields us)→T≠b:=fun b o hb hn q=>by
  subst q
  rw [hT] at hb;cases hb
  exact hn ts hdT
 unfold noteFrame
 simp only [hf]
 refine tO (wpAny_field he hd h1 ?_)
 rw [if_pos (show (Value.ref T != Value.none)=true by simp)]
 refine tO (wpAny_field hT hdT h3 ?_)
 rw [if_neg (show ¬((Value.none==rawInt L)=true) by simp [rawInt])]
 refine tO (wpAny_setField hT hdT (Array.getElem?_eq_some_iff.mp h3).1 ?_)
 refine Nt (s:={ s with heap:=_ }) hfr (hl.of_keeps fun b o hb hn=>⟨o,by rw [Heap.get?_update_other _ _ (nrec b o hb hn)];exact hb,rfl⟩) hf (by rw [Heap.get?_update_other _ _ hTe];exact he) (fun b o hb=>by
  rw [Heap.get?_update_other _ _ (fun q=>by rw [←q,hnT] at hb;cases hb)];exact hkb b o hb) hen hd (Array.getElem?_eq_some_iff.mp h1).1 h0 h2 fun h' S=>h h' ⟨S.st,S.ff,S.tr,fun b o hb hn=>S.up b o (by rw [Heap.get?_update_other _ _ (nrec b o hb hn)];exact hb) hn⟩
theorem nU {oe:Obj}{vs:tI}{Q:sW} (hfr:A.frames=some (env::outer)) (hl:s.heap.FunFrames base (env::outer)) (hf:env.frame=some L)
  (he:s.heap.get? e=some oe) (hkb:base.StaysIn s.heap) (hen:base.get? e=none) (hd:oe.data=.fields vs) (h1:vs[1]?=some .none) (h0:vs[0]?=some a0.1) (h2:vs[2]?=some a0.2)
  (h:∀h',yO base (env::outer) e oe.cls a0 .none s.heap h'→Q () { s with heap:=h' }):wpAny M A (leaving env (.ref e)) Q E s:=by
 unfold leaving
 refine tO (aE hfr hl hf he hkb hen hd h1 h0 h2 fun h1 S=>mq (s:={ s with heap:=h1 }) S.st S.ff S.tr fun h2 S2 _=>h h2 ⟨S2.st,S2.ff,S2.tr,S.up.trans S2.up⟩)
theorem av {Q:sW} (hfr:A.frames=some (env::outer)) (hl:s.heap.FunFrames base (env::outer)) (hf:env.frame=some L) (ht:fc s.heap base e cls a0 .none) (hkb:base.StaysIn s.heap) (hen:base.get? e=none)
  (h:∀h',yO base (env::outer) e cls a0 .none s.heap h'→Q () { s with heap:=h' }):wpAny M A (leaving env (.ref e)) Q E s:=by
 unfold leaving
 refine tO (cj hfr hl hf ht hkb hen fun h1 S=>mq (s:={ s with heap:=h1 }) S.st S.ff S.tr fun h2 S2 _=>h h2 ⟨S2.st,S2.ff,S2.tr,S.up.trans S2.up⟩)
end
end L2
namespace L2
open PySem
section
variable {prog:tM}{w:World}{A:Around}{E:sV}{s:Shared}{z TI TO i1 i2 l1 l2:Addr}{xs ys:tI}
end
end L2
namespace L2
open PySem PySem.Spec PyProof.Rows
abbrev Key:=Sum Int Str
def zT:Key→Value→Bool
 | .inl k,v=>Value.isInt k v
 | .inr x,v=>Value.isStrOf x v
def rY (w:World):Key→Int
 | .inl k=>hashInt k
 | .inr x=>hashStr w x
theorem Jr:∀{k:Key} {v:Value},zT k v=true→(∃i t,k=Sum.inl i∧v=Value.int i t)∨(∃x t,k=Sum.inr x∧v=Value.str x t)
 | .inl i,v,h=>by
  obtain⟨t,e⟩:=Value.isInt_shape (k:=i) (v:=v) h
  exact .inl ⟨i,t,rfl,e⟩
 | .inr x,v,h=>by
  obtain⟨t,e⟩:=Value.isStrOf_shape (x:=x) (v:=v) h
  exact .inr ⟨x,t,rfl,e⟩
theorem bS (i:Int) (t:Tok):zT (.inl i) (.int i t)=true:=by simp [zT,Value.isInt]
theorem bT (x:Str) (t:Tok):zT (.inr x) (.str x t)=true:=by simp [zT,Value.isStrOf]
theorem oZ (a b:Int):decide ((Sum.inl a:Key)=Sum.inl b)=(a==b):=by
 by_cases e:a=b
 ·subst e;simp
 ·have h:¬(Sum.inl a:Key)=Sum.inl b:=fun q=>e (Sum.inl.inj q)
  rw [decide_eq_false h]
  exact (beq_eq_false_iff_ne.mpr e).symm
theorem o9 (a b:Str):decide ((Sum.inr a:Key)=Sum.inr b)=decide (a=b):=by
 by_cases e:a=b
 ·subst e;simp
 ·have h:¬(Sum.inr a:Key)=Sum.inr b:=fun q=>e (Sum.inr.inj q)
  rw [decide_eq_false h,decide_eq_false e]
theorem o6 (a:Int) (b:Str):decide ((Sum.inl a:Key)=Sum.inr b)=false:=decide_eq_false (fun q=>nomatch q)
theorem o8 (a:Str) (b:Int):decide ((Sum.inr a:Key)=Sum.inl b)=false:=decide_eq_false (fun q=>nomatch q)
def jJ (prog:tM) (w:World):PySem.KeyKind prog w Key where
 is:=zT
 hash:=rY w
 inj:=fun v a b ha hb=>by
  rcases Jr ha with ⟨i,t,rfl,rfl⟩|⟨x,t,rfl,rfl⟩
  ·rcases Jr hb with ⟨j,u,rfl,e⟩|⟨y,u,rfl,e⟩
   ·injection e with e1 _;rw [e1]
   ·exact nomatch e
  ·rcases Jr hb with ⟨j,u,rfl,e⟩|⟨y,u,rfl,e⟩
   ·exact nomatch e
   ·injection e with e1 _;rw [e1]
 byValue:=fun k v h=>by
  rcases Jr h with ⟨i,t,rfl,rfl⟩|⟨x,t,rfl,rfl⟩<;>rfl
 pyHash:=fun hv h=>by
  rcases Jr hv with ⟨i,t,rfl,rfl⟩|⟨x,t,rfl,rfl⟩
  ·exact wpAny_pyHash_int h
  ·exact wpAny_pyHash_str h
 eqBool:=fun hu hv h=>by
  rcases Jr hu with ⟨i,t,rfl,rfl⟩|⟨x,t,rfl,rfl⟩
  ·rcases Jr hv with ⟨j,u,rfl,rfl⟩|⟨y,u,rfl,rfl⟩
   ·rw [oZ] at h;exact wpAny_eqBool_int h
   ·rw [o6] at h;exact SeqAt.EqAt.int_str i t y u _ _ _ _ h
  ·rcases Jr hv with ⟨j,u,rfl,rfl⟩|⟨y,u,rfl,rfl⟩
   ·rw [o8] at h;exact SeqAt.EqAt.str_int x t j u _ _ _ _ h
   ·rw [o9] at h;exact wpAny_eqBool_str h
 «strs»:=fun k x t v h=>by
  rcases Jr h with ⟨i,u,rfl,e⟩|⟨y,u,rfl,e⟩
  ·exact nomatch e
  ·injection e with e1 _
   subst e1
   cases v<;>rfl
theorem nV (prog:tM) (w:World) (i:Int) (t:Tok):(jJ prog w).is (.inl i) (.int i t)=true:=bS i t
theorem nW (prog:tM) (w:World) (x:Str) (t:Tok):(jJ prog w).is (.inr x) (.str x t)=true:=bT x t
end L2
namespace L2
open PySem PySem.Spec PyProof.Rows
inductive V where
 | non|bl (b:Bool)|int (i:Int)|str (x:Str)|byt (b:Array UInt8)|flt (b:UInt64)|ref (a:Addr)|ty (n:String)
 deriving DecidableEq
def jE:V→Value→Prop
 | .non,u=>u=Value.none
 | .bl b,u=>u=Value.bool b
 | .int i,u=>∃t,u=Value.int i t
 | .str x,u=>∃t,u=Value.str x t
 | .byt b,u=>∃t,u=Value.bytes b t
 | .flt b,u=>∃t,u=Value.float b t
 | .ref a,u=>u=Value.ref a
 | .ty n,u=>u=Value.type n
abbrev jB:List V→List Value→Prop:=Paired jE
theorem jB.length {xs:List V}{us:tz} (r:jB xs us):xs.length=us.length:=Paired.length r
theorem jB.get:∀{xs:List V} {us:tz} {i:Nat} {x:V},jB xs us→xs[i]?=some x→∃u,us[i]?=some u∧jE x u
 | _,_,_,_,.nil,e=>by simp at e
 | _,_,0,_,.cons r _,e=>by simp at e;subst e;exact⟨_,rfl,r⟩
 | _,_,i+1,x,.cons _ t,e=>by
  obtain⟨u,h1,h2⟩:=jB.get (i:=i) (x:=x) t (by simpa using e)
  exact⟨u,by simpa using h1,h2⟩
theorem jB.append:∀{xs ys:List V} {us ws:tz},jB xs us→jB ys ws→jB (xs++ys) (us++ws)
 | _,_,_,_,.nil,s=>s
 | _,_,_,_,.cons r t,s=>.cons r (jB.append t s)
theorem jB.take:∀{xs:List V} {us:tz} (n:Nat),jB xs us→jB (xs.take n) (us.take n)
 | _,_,0,_=>.nil
 | _,_,_+1,.nil=>.nil
 | _,_,n+1,.cons r t=>.cons r (jB.take n t)
theorem jB.drop:∀{xs:List V} {us:tz} (n:Nat),jB xs us→jB (xs.drop n) (us.drop n)
 | _,_,0,r=>r
 | _,_,_+1,.nil=>.nil
 | _,_,n+1,.cons _ t=>jB.drop n t
def UU:Option V→Option Value→Prop
 | some v,some u=>jE v u
 | none,none=>True
 | _,_=>False
def KV {κ:Type}:List (κ×V)→List (κ×Value)→Prop:=Paired fun (p:κ×V) (q:κ×Value)=>p.1=q.1∧jE p.2 q.2
def kV:Key→V
 | .inl i=>.int i
 | .inr x=>.str x
inductive HO where
 | lst (xs:List V)
 | tup (xs:List V)
 | dK (kvs:List (Key×V))|dT (kvs:List (List Key×V))
 | set (S:Int→Bool) (n:Nat)
 | ins (C dx:Addr) (fs:List (Str×V))
 | own (x:Addr)
 | xd (fs:List (Str×V))
 | met (f x:Addr)
 | rng (lo hi:Int)
 | frz (o:Obj) (u:HO)
 | tbl (ps:tI)
 | ext (φ:Heap→Prop)
abbrev Hp:=Addr→Option HO
def upd (H:Hp) (a:Addr) (o:HO):Hp:=fun b=>if b=a then some o else H b
theorem je {H:Hp}{a:Addr}{o:HO}:upd H a o a=some o:=by unfold upd;rw [if_pos rfl]
theorem ji {H:Hp}{a b:Addr}{o:HO} (h:b≠a):upd H a o b=H b:=by unfold upd;rw [if_neg h]
theorem jX {H:Hp}{a b:Addr}{o u:HO} (h:H a=some o) (h':H b=some u) (d:o≠u):a≠b:=by
 intro e;subst e;rw [h] at h';exact d (Option.some.inj h')
theorem jq {H:Hp}{a b:Addr}{o:HO} (h:H a=some o) (h':H b=none):a≠b:=by
 intro e;subst e;rw [h] at h';cases h'
section
variable (P:tM) (w:World)
def j3 (H:Hp) (h:Heap) (a:Addr):HO→Prop
 | .lst xs=>xs.length≤sizeLine∧∃(its:tz) (n:Nat),jB xs its∧h.get? a=some { cls:=.type "list",data:=.seq its.toArray n }
 | .tup xs=>xs.length≤sizeLine∧∃its:List Value,jB xs its∧IsTup h a its.toArray
 | .dK kvs=>kvs.length≤sizeLine∧(a==sysModules)=false∧∃vs,KV kvs vs∧h.DictOf (jJ P w) a vs
 | .dT kvs=>kvs.length≤sizeLine∧(a==sysModules)=false∧∃xs:List (List Key×Addr×Value),
   Paired (fun (p:List Key×V) (q:List Key×Addr×Value)=>p.1=q.1∧H q.2.1=some (.tup (p.1.map kV))∧jE p.2 q.2.2) kvs xs ∧
   ∃o es ep,h.get? a=some o∧o.ExactDict∧o.data=.dict es ep∧es.toList=xs.map (entryOfKey (tupleKind (jJ P w)))∧(xs.map (·.1)).Nodup
 | .set S n=>h.SetOf (intKind P w) a S n
 | .ins C dx fs=>H dx=some (.own a)∧fs.length≤1000∧dx≠a∧h.get? a=some (instObj C dx) ∧
   ∃mA,h.Ns1 dx mA∧(∀f,UU (fs.lookup f) (mA f))∧PySem.Within mA (fs.map (·.1))
 | .own _=>∃o,h.get? a=some o
 | .xd fs=>∃mA,h.Ns1 a mA∧∀f,UU (fs.lookup f) (mA f)
 | .rng lo hi=>∃t u v,h.get? a=some { cls:=.type "range",data:=.fields #[.int lo t,.int hi u,.int 1 v] }
 | .frz o u=>h.get? a=some o∧j3 H h a u
 | .tbl ps=>h.get? a=some { cls:=.none,data:=.fields ps }
 | .met f x=>h.get? a=some (methodObj (.ref f) (.ref x))
 | .ext φ=>φ h∧(∃o,h.get? a=some o)∧∀h1 h2:Heap,φ h1→(∀o,h1.get? a=some o→h2.get? a=some o)→φ h2
def Jm (H:Hp) (h:Heap):Prop:=∀a o,H a=some o→j3 P w H h a o
end
section
variable {P:tM}{w:World}{H H':Hp}{h h':Heap}{a:Addr}{o:HO}
theorem j3.lt (x:j3 P w H h a o):a<h.objs.size:=by
 cases o with
 | lst xs=>obtain⟨_,_,_,_,e⟩:=x;exact Heap.lt_size e
 | tup xs=>obtain⟨_,_,_,p⟩:=x;exact p.lt
 | dK kvs=>obtain⟨_,_,_,_,o,_,_,e,_⟩:=x;exact Heap.lt_size e
 | dT kvs=>obtain⟨_,_,_,_,o,_,_,e,_⟩:=x;exact Heap.lt_size e
 | set S n=>obtain⟨o,_,_,_,e,_⟩:=x;exact Heap.lt_size e
 | ins C dx fs=>obtain⟨_,_,_,e,_⟩:=x;exact Heap.lt_size e
 | own y=>obtain⟨_,e⟩:=x;exact Heap.lt_size e
 | xd fs=>obtain⟨_,⟨_,_,_,e,_⟩,_⟩:=x;exact Heap.lt_size e
 | rng lo hi=>obtain⟨_,_,_,e⟩:=x;exact Heap.lt_size e
 | frz ob u=>obtain⟨e,_⟩:=x;exact Heap.lt_size e
 | tbl ps=>exact Heap.lt_size (show h.get? a=some _ from x)
 | met f y=>exact Heap.lt_size (show h.get? a=some _ from x)
 | ext φ=>obtain⟨_,⟨_,e⟩,_⟩:=x;exact Heap.lt_size e
theorem Paired.mapP {α β:Type}{F G:α→β→Prop}:∀{l₁:List α} {l₂:List β},Paired F l₁ l₂→(∀a b,F a b→G a b)→Paired G l₁ l₂
 | _,_,.nil,_=>.nil
 | _,_,.cons r t,f=>.cons (f _ _ r) (Paired.mapP t f)
theorem j3.stay (x:j3 P w H h a o) (k:∀b u,(b=a∨H b=some (.own a))→h.get? b=some u→h'.get? b=some u)
  (ho:∀b,H b=some (.own a)→H' b=some (.own a)) (ht:∀b xs,H b=some (.tup xs)→H' b=some (.tup xs)):j3 P w H' h' a o:=by
 induction o with
 | lst xs=>obtain⟨z,its,n,r,e⟩:=x;exact⟨z,its,n,r,k _ _ (.inl rfl) e⟩
 | tup xs=>obtain⟨z,its,r,ob,e,c⟩:=x;exact⟨z,its,r,ob,k _ _ (.inl rfl) e,c⟩
 | dK kvs=>obtain⟨z,y,vs,r,ob,es,ep,e,c⟩:=x;exact⟨z,y,vs,r,ob,es,ep,k _ _ (.inl rfl) e,c⟩
 | dT kvs =>
  obtain⟨z,y,xs,r,ob,es,ep,e,c⟩:=x
  exact⟨z,y,xs,Paired.mapP r fun p q z=>⟨z.1,ht _ _ z.2.1,z.2.2⟩,ob,es,ep,k _ _ (.inl rfl) e,c⟩
 | set S n=>obtain⟨ob,es,ep,t,e,c⟩:=x;exact⟨ob,es,ep,t,k _ _ (.inl rfl) e,c⟩
 | ins C dx fs =>
  obtain⟨d,z,ne,e,mA,⟨od,es,ep,e2,c⟩,r⟩:=x
  exact⟨ho _ d,z,ne,k _ _ (.inl rfl) e,mA,⟨od,es,ep,k _ _ (.inr d) e2,c⟩,r⟩
 | own y=>obtain⟨ob,e⟩:=x;exact⟨ob,k _ _ (.inl rfl) e⟩
 | xd fs=>obtain⟨mA,⟨od,es,ep,e,c⟩,r⟩:=x;exact⟨mA,⟨od,es,ep,k _ _ (.inl rfl) e,c⟩,r⟩
 | rng lo hi=>obtain⟨t,u,v,e⟩:=x;exact⟨t,u,v,k _ _ (.inl rfl) e⟩
 | frz ob u ih=>obtain⟨e,q⟩:=x;exact⟨k _ _ (.inl rfl) e,ih q⟩
 | tbl ps =>
  have e:h.get? a=some { cls:=.none,data:=.fields ps }:=x
  show h'.get? a=some { cls:=.none,data:=.fields ps }
  exact k a _ (.inl rfl) e
 | met f y =>
  have e:h.get? a=some (methodObj (.ref f) (.ref y)):=x
  show h'.get? a=some (methodObj (.ref f) (.ref y))
  exact k a _ (.inl rfl) e
 | ext φ=>obtain⟨p,⟨o,e⟩,st⟩:=x;exact⟨st _ _ p fun o q=>k _ _ (.inl rfl) q,⟨o,k _ _ (.inl rfl) e⟩,st⟩
theorem Jm.lt (x:Jm P w H h) (e:H a=some o):a<h.objs.size:=(x a o e).lt
theorem Jm.fresh (x:Jm P w H h) (e:h.objs.size≤a):H a=none:=by
 cases q:H a with
 | none=>rfl
 | some u=>exact absurd (Nat.lt_of_lt_of_le (x.lt q) e) (Nat.lt_irrefl _)
theorem Jm.kept (x:Jm P w H h) (k:∀b u,h.get? b=some u→h'.get? b=some u):Jm P w H h':=fun a o e =>
 (x a o e).stay (fun b u _ q=>k b u q) (fun _ q=>q) fun _ _ q=>q
theorem Jm.laid (x:Jm P w H h) (k:∀b u,h.get? b=some u→h'.get? b=some u) (hp:h.objs.size≤a) (new:j3 P w (upd H a o) h' a o):Jm P w (upd H a o) h':=fun b u e=>by
 have hn:=x.fresh hp
 by_cases hb:b=a
 ·subst hb;rw [je] at e;cases e;exact new
 ·rw [ji hb] at e
  exact (x b u e).stay (fun c v _ q=>k c v q) (fun c q=>by rw [ji (jq q hn)];exact q) fun c xs q=>by rw [ji (jq q hn)];exact q
end
def Rd (H:Hp) (a:Addr) (u:HO):Prop:=H a=some u∨∃o,H a=some (.frz o u)
theorem Rd.ok {P:tM}{w:World}{H:Hp}{h:Heap}{a:Addr}{u:HO} (r:Rd H a u) (x:Jm P w H h):j3 P w H h a u:=by
 rcases r with r|⟨o,r⟩
 ·exact x a u r
 ·obtain⟨_,q⟩:=x a _ r
  exact q
def aX:Option HO→Prop
 | some (.lst _)=>True
 | some (.dK _)=>True
 | some (.dT _)=>True
 | some (.set _ _)=>True
 | some (.ins _ _ _)=>True
 | some (.ext _)=>True
 | _=>False
section
variable {P:tM}{w:World}{H:Hp}{h h':Heap}{x e:Addr}{o':HO}
theorem Jm.write (ok:Jm P w H h) (mu:aX (H x)) (he:e=x∨H e=some (.own x)) (k:∀b u,b≠e→h.get? b=some u→h'.get? b=some u) (heo:∃u,h'.get? e=some u)
  (new:j3 P w (upd H x o') h' x o'):Jm P w (upd H x o') h':=fun b u q=>by
 have nown:∀c y,H c=some (.own y)→c≠x:=fun c y r z=>by subst z;rw [r] at mu;exact mu
 have ntup:∀c xs,H c=some (.tup xs)→c≠x:=fun c xs r z=>by subst z;rw [r] at mu;exact mu
 by_cases hb:b=x
 ·subst hb;rw [je] at q;cases q;exact new
 ·rw [ji hb] at q
  by_cases hbe:b=e
  ·have q':H b=some (.own x):=by
    rcases he with z|z
    ·exact absurd (hbe.trans z) hb
    ·rw [hbe];exact z
   rw [q] at q';cases q'
   obtain⟨v,hv⟩:=heo
   exact⟨v,by rw [hbe];exact hv⟩
  ·refine (ok b u q).stay (fun c v hc r=>k c v ?_ r) (fun c r=>by rw [ji (nown c b r)];exact r) fun c xs r=>by rw [ji (ntup c xs r)];exact r
   rcases hc with rfl|hc
   ·exact hbe
   ·rintro rfl
    rcases he with z|z
    ·exact nown c b hc z
    ·rw [hc] at z;cases z;exact hb rfl
end
structure Un (fs ex:tD) (H H':Hp) (h h':Heap):Prop where
 keep:∀b o,h.get? b=some o→H b=none→b ∉ fs→b ∉ ex→h'.get? b=some o
 slot:∀b o,h.get? b=some o→H b=none→b∈fs→b ∉ ex→∃sl,h'.get? b=some { o with slots:=sl }
 free:∀b o,h.get? b=some o→H b=none→b ∉ ex→H' b=none
 there:∀b o,h.get? b=some o→b ∉ ex→∃o',h'.get? b=some o'
 tups:∀b xs,H b=some (.tup xs)→H' b=some (.tup xs)
 frzs:∀b o u,H b=some (.frz o u)→H' b=some (.frz o u)
 tbls:∀b ps,H b=some (.tbl ps)→∃more,H' b=some (.tbl (ps++more))
section
variable {fs fs' ex ex':tD}{H H1 H2:Hp}{h h1 h2 h':Heap}{a x e:Addr}{o:HO}
theorem Un.any (u:Un fs ex H H1 h h1) {b:Addr} {ob:Obj} (q:h.get? b=some ob) (n:H b=none) (hx:b ∉ ex):∃sl,h1.get? b=some { ob with slots:=sl }:=by
 by_cases hb:b∈fs
 ·exact u.slot b ob q n hb hx
 ·exact⟨ob.slots,u.keep b ob q n hb hx⟩
theorem Un.kept (k:∀b u,h.get? b=some u→h'.get? b=some u):Un fs ex H H h h' :=
 ⟨fun b ob q _ _ _=>k b ob q,fun b ob q _ _ _=>⟨ob.slots,k b ob q⟩,fun _ _ _ n _=>n,fun b ob q _=>⟨ob,k b ob q⟩,fun _ _ q=>q,fun _ _ _ q=>q,fun _ ps q=>⟨#[],by rw [q];simp⟩⟩
theorem Un.refl:Un fs ex H H h h:=Un.kept fun _ _ q=>q
theorem Un.laid (k:∀b u,h.get? b=some u→h'.get? b=some u) (hp:h.objs.size≤a) (hn:H a=none):Un fs ex H (upd H a o) h h' where
 keep:=fun b u q _ _ _=>k b u q
 slot:=fun b u q _ _ _=>⟨u.slots,k b u q⟩
 free:=fun b u q n _=>by rw [ji (Nat.ne_of_lt (Nat.lt_of_lt_of_le (Heap.lt_size q) hp))];exact n
 there:=fun b u q _=>⟨u,k b u q⟩
 tups:=fun b xs q=>by rw [ji (jq q hn)];exact q
 frzs:=fun b u xs q=>by rw [ji (jq q hn)];exact q
 tbls:=fun b ps q=>⟨#[],by rw [ji (jq q hn),q];simp⟩
theorem Un.write (mu:aX (H x)) (he:e=x∨H e=some (.own x)) (k:∀b u,b≠e→h.get? b=some u→h'.get? b=some u) (heo:∃u,h'.get? e=some u):Un fs ex H (upd H x o) h h':=by
 have hx:∀b,H b=none→b≠x:=fun b n z=>by subst z;rw [n] at mu;exact mu
 have hb:∀b,H b=none→b≠e:=fun b n z=>by
  subst z
  rcases he with r|r
  ·exact hx b n r
  ·rw [n] at r;cases r
 have hm:∀b u,H b=some u→¬aX (some u)→b≠x:=fun b u q nm z=>by subst z;rw [q] at mu;exact nm mu
 refine⟨fun b u q n _ _=>k b u (hb b n) q,fun b u q n _ _=>⟨u.slots,k b u (hb b n) q⟩,fun b u q n _=>by rw [ji (hx b n)];exact n,fun b u q _=>?_,
  fun b xs q=>by rw [ji (hm b _ q fun z=>z)];exact q,fun b u xs q=>by rw [ji (hm b _ q fun z=>z)];exact q,fun b ps q=>⟨#[],by rw [ji (hm b _ q fun z=>z),q];simp⟩⟩
 by_cases hbe:b=e
 ·subst hbe;exact heo
 ·exact⟨u,k b u hbe q⟩
end
def f6 (h:Heap) (H:Hp):List Addr:=(List.range h.objs.size).filter fun a=>(H a).isSome
def yc (h:Heap) (H:Hp):Heap:=hideAll h (f6 h H)
theorem bM (h:Heap) (H:Hp):(yc h H).objs.size=h.objs.size:=PySem.W.hideAll_size _ _
theorem dq {h:Heap}{H:Hp}{b:Addr}{o:Obj} (e:h.get? b=some o) (n:H b=none):(yc h H).get? b=some o :=
 hideAll_get _ e fun hm=>by
  have q:(H b).isSome=true:=(List.mem_filter.mp hm).2
  rw [n] at q;simp at q
theorem iT {h:Heap}{H:Hp}{b:Addr}{o:Obj} (e:(yc h H).get? b=some o):h.get? b=some o∧H b=none:=by
 have e':h.get? b=some o:=of_hideAll (f6 h H) e
 refine⟨e',?_⟩
 cases q:H b with
 | none=>rfl
 | some x =>
  have hm:b∈f6 h H:=List.mem_filter.mpr ⟨List.mem_range.mpr (Heap.lt_size e'),by simp [q]⟩
  have z:(yc h H).get? b=none:=hideAll_none (f6 h H) hm
  rw [z] at e;cases e
end L2
namespace L2
open PySem PySem.Spec PyProof.Rows
structure Mod (K:sZ) (mg:tj) (base:Heap):Prop where
 kin:K.In base
 glob:base.Ns mainGlobals mg
 blt:∃mb,base.Ns builtinsNs mb∧∀x:Str,x≠"__name__"→mb x=bootBuiltins x
 nolimit:base.NoLimit
structure Cx where
 prog:Program
 w:World
 K:PySem.W.Frag
 mg:Str→Option Value
 base:Heap
 A:Around
 N:List Str
 s₀:Shared
 H₀:Hp
 env:Env
 outer:List Env
 stack:List Env
 ex:List Addr
 fn:Str→Bool
 calm:Bool
 pn:List (Addr×Obj)
 xe:Value→Shared→Prop
def JX (l:List Env):List Addr:=l.filterMap (·.frame)
abbrev Cx.fs (X:Cx):List Addr:=JX X.outer
def og (sc:Scope) (x:Str):Prop:=sc.names.lookup x=some .local∨sc.names.lookup x=some .cell∨sc.names.lookup x=some .free
def aW (sc:Scope) (x:Str):Prop:=sc.names.lookup x=some .local∨sc.names.lookup x=some .cell
def rM (env:Env) (h:Heap) (m:tj) (x:Str) (u:Value):Prop :=
 (env.kindOf x=some .local∧m x=some u)∨((env.kindOf x=some .cell∨env.kindOf x=some .free)∧∃c,env.cells.lookup x=some c∧h.IsCell c (some u))
structure Cx.Ok (X:Cx):Prop where
 mod:Mod X.K X.mg X.base
 kind:X.env.scope.kind=.function
 glob:X.env.globals=mainGlobals
 blt:X.env.builtins=builtinsNs
 above:X.s₀.heap.objs.size≤X.env.locals
 inj:∀x y c,X.env.cells.lookup x=some c→X.env.cells.lookup y=some c→x=y
 has:∀x,(X.env.kindOf x=some .cell∨X.env.kindOf x=some .free)→∃c,X.env.cells.lookup x=some c
 cab:∀x c,X.fn x=true→X.env.cells.lookup x=some c→X.s₀.heap.objs.size≤c
 hd:X.calm=true→X.A.handled=none
 frames:X.A.frames=some X.stack
 stk:X.stack=X.outer∨(X.stack=X.env::X.outer∧X.env.frame=some X.env.locals)
 exf:∀b∈X.ex,b≠X.env.locals∧∀x c,X.env.cells.lookup x=some c→c≠b
 bs:∀b o,X.base.get? b=some o→X.s₀.heap.get? b=some o∧X.H₀ b=none
 bsz:X.base.objs.size≤X.s₀.heap.objs.size
 noex:∀b o,X.base.get? b=some o→b ∉ X.ex
 exfs:∀b∈X.ex,b ∉ X.fs
 funs:X.s₀.heap.FunFrames X.base X.outer
 frf:∀b∈X.fs,X.H₀ b=none
inductive YM (H:Hp):Value→Prop
 | nil:YM H .none
 | cons {b:Addr} {ob:Obj} {us:tI} {u:HO} {c:Value}:H b=some (.frz ob u)→ob.data=.fields us→us[2]?=some c→YM H c→YM H (.ref b)
theorem YM.mono {H H':Hp}{c:Value} (h:YM H c) (k:∀b o u,H b=some (.frz o u)→H' b=some (.frz o u)):YM H' c:=by
 induction h with
 | nil=>exact .nil
 | cons q1 q2 q3 _ ih=>exact .cons (k _ _ _ q1) q2 q3 ih
theorem YM.chn {P:tM}{w:World}{H:Hp}{h:Heap}{c:Value} (n:YM H c) (ok:Jm P w H h):∃D,Yi h D c∧∀b∈D,∃o u,H b=some (.frz o u):=by
 induction n with
 | nil=>exact⟨[],.nil,fun b hb=>absurd hb (by simp)⟩
 | @cons b ob us u c q1 q2 q3 _ ih =>
  obtain⟨D,m,l⟩:=ih
  refine⟨b::D,.cons (by simp) (ok b _ q1).1 q2 q3 (m.kept (fun _ _ _ e=>e) fun d hd=>List.mem_cons_of_mem _ hd),fun d hd=>?_⟩
  rcases List.mem_cons.mp hd with rfl|hd
  ·exact⟨_,_,q1⟩
  ·exact l d hd
def KM (A:Around) (H:Hp):Prop:=A.handled=none∨∃ea:Addr,A.handled=some (.ref ea)∧YM H (.ref ea)
theorem KM.mono {A:Around}{H H':Hp} (h:KM A H) (k:∀b o u,H b=some (.frz o u)→H' b=some (.frz o u)):KM A H':=by
 rcases h with z|⟨ea,h1,h2⟩
 ·exact .inl z
 ·exact .inr ⟨ea,h1,h2.mono k⟩
theorem KM.now {P:tM}{w:World}{A:Around}{H:Hp}{h:Heap} (n:KM A H) (ok:Jm P w H h):Yj A h:=by
 rcases n with z|⟨ea,h1,h2⟩
 ·exact⟨[],.inl z⟩
 ·obtain⟨D,m,_⟩:=h2.chn ok
  exact⟨D,.inr ⟨ea,h1,m⟩⟩
structure jo (X:Cx) (pins:tq) (σ:List (Option V)) (H:Hp) (s:Shared):Prop where
 ok:X.Ok
 os:s.os=X.s₀.os
 bare:AllBare s.gens
 base:Un X.fs X.ex X.H₀ H X.s₀.heap s.heap
 loc:∃m,s.heap.Ns X.env.locals m∧∀(i:Nat) (x:Str) (v:V),X.N[i]?=some x→σ[i]?=some (some v)→og X.env.scope x→∃u,jE v u∧rM X.env s.heap m x u
 cell:∀x c,X.env.cells.lookup x=some c→∃v,s.heap.IsCell c v
 free:H X.env.locals=none
 freeC:∀x c,X.env.cells.lookup x=some c→H c=none
 pin:∀p∈X.pn++pins,s.heap.get? p.1=some p.2∧H p.1=none∧p.1≠X.env.locals∧p.1 ∉ X.fs∧∀v,p.2.data≠.cell v
 hok:Jm X.prog X.w H s.heap
 len:σ.length=X.N.length
 hn:KM X.A H
section
variable {X:Cx}{pins:tq}{σ:List (Option V)}{H H':Hp}{s:Shared}{h':Heap}
theorem Cx.Ok.nofr (ok:X.Ok) {b:Addr} {o:Obj} (e:X.base.get? b=some o):b ∉ X.fs:=fun hb=>by
 have:=(ok.funs.mem hb).1
 rw [e] at this;cases this
theorem jo.bs (I:jo X pins σ H s):∀b o,X.base.get? b=some o→s.heap.get? b=some o∧H b=none:=fun b o e =>
 ⟨I.base.keep b o (I.ok.bs b o e).1 (I.ok.bs b o e).2 (I.ok.nofr e) (I.ok.noex b o e),I.base.free b o (I.ok.bs b o e).1 (I.ok.bs b o e).2 (I.ok.noex b o e)⟩
theorem jo.bk (I:jo X pins σ H s):∀b o,X.base.get? b=some o→s.heap.get? b=some o:=fun b o e=>(I.bs b o e).1
theorem jo.mod (I:jo X pins σ H s):Mod X.K X.mg X.base:=I.ok.mod
theorem jo.kIn (I:jo X pins σ H s):X.K.In s.heap:=I.ok.mod.kin.keeps I.bk
theorem jo.fr (I:jo X pins σ H s):∃m,Fr X.base X.env.locals s.heap m :=
 let ⟨m,hn,_⟩:=I.loc
 ⟨m,hn,I.bk,Nat.le_trans I.ok.bsz I.ok.above⟩
theorem jo.lt (I:jo X pins σ H s):X.env.locals<s.heap.objs.size:=let ⟨_,hn,_⟩:=I.loc;hn.lt
theorem jo.sz (I:jo X pins σ H s):X.s₀.heap.objs.size≤s.heap.objs.size:=Nat.le_trans I.ok.above (Nat.le_of_lt I.lt)
theorem jo.nofs (I:jo X pins σ H s) {a:Addr} (h:s.heap.objs.size≤a):a ∉ X.fs:=fun hb=>by
 obtain⟨_,o,ho,_⟩:=I.ok.funs.mem hb
 exact absurd (Nat.lt_of_lt_of_le (Heap.lt_size ho) (Nat.le_trans I.sz h)) (Nat.lt_irrefl _)
theorem jo.cne (I:jo X pins σ H s):∀x c,X.env.cells.lookup x=some c→c≠X.env.locals:=fun x c e z=>by
 obtain⟨v,o,ho,hd⟩:=I.cell x c e
 obtain⟨m,⟨o',es,ep,ho',hd',_⟩,_⟩:=I.loc
 rw [z,ho'] at ho;cases ho;rw [hd'] at hd;cases hd
theorem jo.funs (I:jo X pins σ H s):s.heap.FunFrames X.base X.outer:=by
 have all:∀(l:List Env),(∀b∈JX l,b∈X.fs)→X.s₀.heap.FunFrames X.base l→s.heap.FunFrames X.base l:=by
  intro l
  induction l with
  | nil=>intro _ _;trivial
  | cons env r ih =>
   intro hs hl
   obtain⟨hk,⟨L,o,hf,hn,ho,hd⟩,hr⟩:=hl
   have hL:L∈X.fs:=hs L (by unfold JX;rw [List.filterMap_cons,hf];exact List.mem_cons_self)
   obtain⟨sl,e⟩:=I.base.slot L o ho (I.ok.frf L hL) hL fun z=>I.ok.exfs L z hL
   exact⟨hk,⟨L,_,hf,hn,e,hd⟩,ih (fun b hb=>hs b (by unfold JX;rw [List.filterMap_cons,hf];exact List.mem_cons_of_mem _ hb)) hr⟩
 exact all X.outer (fun _ hb=>hb) I.ok.funs
theorem jo.stack (I:jo X pins σ H s):s.heap.FunFrames X.base X.stack:=by
 rcases I.ok.stk with e|⟨e,hf⟩
 ·rw [e];exact I.funs
 ·rw [e]
  obtain⟨m,hn,_⟩:=I.loc
  refine .cons (by rw [I.ok.kind];decide) hf hn ?_ I.funs
  exact Heap.get?_none_of_le (Nat.le_trans I.ok.bsz I.ok.above)
theorem jo.stkSub (I:jo X pins σ H s):∀b∈JX X.stack,b∈X.env.locals::X.fs:=fun b hb=>by
 rcases I.ok.stk with e|⟨e,hf⟩
 ·rw [e] at hb;exact List.mem_cons_of_mem _ hb
 ·rw [e] at hb
  unfold JX at hb
  rw [List.filterMap_cons,hf] at hb
  exact hb
theorem jo.stkFree (I:jo X pins σ H s):∀b∈JX X.stack,H b=none:=fun b hb=>by
 rcases List.mem_cons.mp (I.stkSub b hb) with e|hb
 ·rw [e];exact I.free
 ·obtain⟨_,o,ho,_⟩:=I.ok.funs.mem hb
  exact I.base.free b o ho (I.ok.frf b hb) fun z=>I.ok.exfs b z hb
theorem jo.step {g':Array GenState}{t':Nat}{d':Drawn}{ch:tD} (I:jo X pins σ H s)
  (hch:∀b∈ch,(b∈X.ex∨X.s₀.heap.objs.size≤b)∧b≠X.env.locals∧(∀x c,X.env.cells.lookup x=some c→c≠b)∧∀p∈X.pn++pins,p.1≠b)
  (keep:∀b o,b≠X.env.locals→b ∉ X.fs→b ∉ ch→s.heap.get? b=some o→H b=none→h'.get? b=some o)
  (slot:∀b o,b≠X.env.locals→b∈X.fs→b ∉ ch→s.heap.get? b=some o→H b=none→∃sl,h'.get? b=some { o with slots:=sl }) (free:∀b o,b ∉ ch→s.heap.get? b=some o→H b=none→H' b=none)
  (there:∀b o,b ∉ ch→s.heap.get? b=some o→∃o',h'.get? b=some o')
  (tups:∀b xs,H b=some (.tup xs)→H' b=some (.tup xs)) (frzs:∀b o u,H b=some (.frz o u)→H' b=some (.frz o u)) (tbls:∀b ps,H b=some (.tbl ps)→∃more,H' b=some (.tbl (ps++more)))
  (ns:∀m,s.heap.Ns X.env.locals m→h'.Ns X.env.locals m) (hok:Jm X.prog X.w H' h') (hg:AllBare g') :
  jo X pins σ H' { s with heap:=h',gens:=g',drawn:=d',toks:=t' }:=by
 have neL:∀b o,X.s₀.heap.get? b=some o→b≠X.env.locals:=fun b o e=>Nat.ne_of_lt (Nat.lt_of_lt_of_le (Heap.lt_size e) I.ok.above)
 have neC:∀b o,X.s₀.heap.get? b=some o→b ∉ X.ex→b ∉ ch:=fun b o e hx hb=>by
  rcases (hch b hb).1 with z|z
  ·exact hx z
  ·exact absurd (Nat.lt_of_lt_of_le (Heap.lt_size e) z) (Nat.lt_irrefl _)
 have cellK:∀x c,X.env.cells.lookup x=some c→∀v,s.heap.IsCell c v→h'.IsCell c v:=fun x c e v ⟨o,ho,hd⟩=>by
  have nch:c ∉ ch:=fun z=>(hch c z).2.2.1 x c e rfl
  by_cases hc:c∈X.fs
  ·obtain⟨sl,q⟩:=slot c o (I.cne x c e) hc nch ho (I.freeC x c e)
   exact⟨_,q,hd⟩
  ·exact⟨o,keep c o (I.cne x c e) hc nch ho (I.freeC x c e),hd⟩
 refine⟨I.ok,I.os,hg,⟨fun b o e n hb hx=>?_,fun b o e n hb hx=>?_,fun b o e n hx=>?_,fun b o e hx=>?_,fun b xs e=>tups b xs (I.base.tups b xs e),fun b o xs e=>frzs b o xs (I.base.frzs b o xs e),fun b ps e=>?_⟩,?_,fun x c e=>?_,?_,fun x c e=>?_,fun p hp=>?_,hok,I.len,I.hn.mono frzs⟩
 ·exact keep b o (neL b o e) hb (neC b o e hx) (I.base.keep b o e n hb hx) (I.base.free b o e n hx)
 ·obtain⟨sl,e1⟩:=I.base.slot b o e n hb hx
  obtain⟨sl',e2⟩:=slot b _ (neL b o e) hb (neC b o e hx) e1 (I.base.free b o e n hx)
  exact⟨sl',e2⟩
 ·obtain⟨o',e1⟩:=I.base.there b o e hx
  exact free b o' (neC b o e hx) e1 (I.base.free b o e n hx)
 ·obtain⟨o',e1⟩:=I.base.there b o e hx
  exact there b o' (neC b o e hx) e1
 ·obtain⟨m1,e1⟩:=I.base.tbls b ps e
  obtain⟨m2,e2⟩:=tbls b _ e1
  exact⟨m1++m2,by rw [e2,Array.append_assoc]⟩
 ·obtain⟨m,hn,hl⟩:=I.loc
  refine⟨m,ns m hn,fun i x v e1 e2 e3=>?_⟩
  obtain⟨u,r,l⟩:=hl i x v e1 e2 e3
  refine⟨u,r,?_⟩
  rcases l with l|⟨k,c,e,z⟩
  ·exact .inl l
  ·exact .inr ⟨k,c,e,cellK x c e _ z⟩
 ·obtain⟨v,z⟩:=I.cell x c e
  exact⟨v,cellK x c e v z⟩
 ·obtain⟨m,⟨o,_,_,ho,_⟩,_⟩:=I.loc
  exact free _ o (fun z=>(hch _ z).2.1 rfl) ho I.free
 ·obtain⟨v,o,ho,hd⟩:=I.cell x c e
  exact free c o (fun z=>(hch c z).2.2.1 x c e rfl) ho (I.freeC x c e)
 ·obtain⟨e,n,ne,nf,d⟩:=I.pin p hp
  have nch:p.1 ∉ ch:=fun z=>(hch p.1 z).2.2.2 p hp rfl
  exact⟨keep p.1 p.2 ne nf nch e n,free p.1 p.2 nch e n,ne,nf,d⟩
theorem jo.un {t':Nat} (I:jo X pins σ H s) (u:Un X.fs [] H H' s.heap h') (hok:Jm X.prog X.w H' h'):jo X pins σ H' { s with heap:=h',toks:=t' }:=by
 obtain⟨m,⟨o,es,ep,ho,r⟩,_⟩:=id I.loc
 obtain⟨sl,hL⟩:=u.any ho I.free (by simp)
 exact I.step (g':=s.gens) (d':=s.drawn) (ch:=[]) (fun _ z=>nomatch z) (fun b o _ hb _ e n=>u.keep b o e n hb (by simp)) (fun b o _ hb _ e n=>u.slot b o e n hb (by simp)) (fun b o _ e n=>u.free b o e n (by simp)) (fun b o _ e=>u.there b o e (by simp)) u.tups u.frzs u.tbls (fun m' hm=>by
  obtain⟨o',es',ep',ho',r'⟩:=hm
  rw [ho] at ho';cases ho'
  exact⟨_,es',ep',hL,r'⟩) hok I.bare
theorem jo.call {g':Array GenState}{t':Nat}{d':Drawn}{ch:tD} (I:jo X pins σ H s) (u:Un (JX X.stack) ch H H' s.heap h') (hok:Jm X.prog X.w H' h') (hg:AllBare g')
  (hch:∀b∈ch,(b∈X.ex∨X.s₀.heap.objs.size≤b)∧b≠X.env.locals∧(∀x c,X.env.cells.lookup x=some c→c≠b)∧∀p∈X.pn++pins,p.1≠b) :
  jo X pins σ H' { s with heap:=h',gens:=g',drawn:=d',toks:=t' }:=by
 obtain⟨m,⟨o,es,ep,ho,r⟩,_⟩:=id I.loc
 obtain⟨sl,hL⟩:=u.any ho I.free fun z=>(hch _ z).2.1 rfl
 exact I.step (ch:=ch) hch (fun b o hL hb hc e n=>u.keep b o e n (fun z=>(List.mem_cons.mp (I.stkSub b z)).elim hL hb) hc) (fun b o _ _ hc e n=>u.any e n hc) (fun b o hc e n=>u.free b o e n hc) (fun b o hc e=>u.there b o e hc) u.tups u.frzs u.tbls (fun m' hm=>by
  obtain⟨o',es',ep',ho',r'⟩:=hm
  rw [ho] at ho';cases ho'
  exact⟨_,es',ep',hL,r'⟩) hok hg
theorem jo.turned {t':Nat}{it:Addr} (I:jo X pins σ H s) (k:∀b o,b≠it→s.heap.get? b=some o→h'.get? b=some o) (hn:H it=none) (hL:it≠X.env.locals)
  (h1:it∈X.ex∨X.s₀.heap.objs.size≤it) (h2:∀x c,X.env.cells.lookup x=some c→c≠it) (h3:∀p∈X.pn++pins,p.1≠it):jo X pins σ H { s with heap:=h',toks:=t' }:=by
 have nit:∀b u,H b=some u→b≠it:=fun b u e z=>by rw [z,hn] at e;cases e
 refine I.step (g':=s.gens) (d':=s.drawn) (ch:=[it]) (fun b hb=>?_) (fun b o _ _ hc e _=>k b o (fun z=>hc (by simp [z])) e) (fun b o _ _ hc e _=>⟨o.slots,k b o (fun z=>hc (by simp [z])) e⟩) (fun _ _ _ _ n=>n)
  (fun b o hc e=>⟨o,k b o (fun z=>hc (by simp [z])) e⟩) (fun _ _ e=>e) (fun _ _ _ e=>e) (fun b ps e=>⟨#[],by rw [e];simp⟩) (fun m hm=>?_) (fun b u e=>?_) I.bare
 ·have e:b=it:=by simpa using hb
  subst e
  exact⟨h1,hL,h2,h3⟩
 ·obtain⟨o,es,ep,ho,r⟩:=hm
  exact⟨o,es,ep,k _ o (Ne.symm hL) ho,r⟩
 ·refine (I.hok b u e).stay (fun c v hc q=>k c v ?_ q) (fun _ q=>q) fun _ _ q=>q
  rcases hc with z|z
  ·rw [z];exact nit b u e
  ·exact nit c _ z
theorem jo.tok (I:jo X pins σ H s) (t:Nat):jo X pins σ H { s with toks:=t }:=I.un (h':=s.heap) (t':=t) Un.refl I.hok
theorem jo.kept {t':Nat} (I:jo X pins σ H s) (k:∀b u,s.heap.get? b=some u→h'.get? b=some u):jo X pins σ H { s with heap:=h',toks:=t' }:=I.un (Un.kept k) (I.hok.kept k)
theorem jo.laid {a:Addr}{o:HO}{t':Nat} (I:jo X pins σ H s) (k:∀b u,s.heap.get? b=some u→h'.get? b=some u) (hp:s.heap.objs.size≤a) (new:j3 X.prog X.w (upd H a o) h' a o) :
  jo X pins σ (upd H a o) { s with heap:=h',toks:=t' }:=I.un (Un.laid k hp (I.hok.fresh hp)) (I.hok.laid k hp new)
theorem jo.write {x e:Addr}{o:HO}{t':Nat} (I:jo X pins σ H s) (mu:aX (H x)) (he:e=x∨H e=some (.own x)) (k:∀b u,b≠e→s.heap.get? b=some u→h'.get? b=some u) (heo:∃u,h'.get? e=some u)
  (new:j3 X.prog X.w (upd H x o) h' x o):jo X pins σ (upd H x o) { s with heap:=h',toks:=t' }:=I.un (Un.write mu he k heo) (I.hok.write mu he k heo new)
theorem jo.weak {σ':List (Option V)} (I:jo X pins σ H s) (hl:σ'.length=σ.length) (w:∀(i:Nat) v,σ'[i]?=some (some v)→σ[i]?=some (some v)):jo X pins σ' H s :=
 ⟨I.ok,I.os,I.bare,I.base,let ⟨m,hn,hl'⟩:=I.loc;⟨m,hn,fun i x v e1 e2 e3=>hl' i x v e1 (w i v e2) e3⟩,I.cell,I.free,I.freeC,I.pin,I.hok,hl.trans I.len,I.hn⟩
theorem jo.pins_of {pins':tq} (I:jo X pins σ H s) (h:∀p∈pins',s.heap.get? p.1=some p.2∧H p.1=none∧p.1≠X.env.locals∧p.1 ∉ X.fs∧∀v,p.2.data≠.cell v):jo X pins' σ H s :=
 ⟨I.ok,I.os,I.bare,I.base,I.loc,I.cell,I.free,I.freeC,fun p hp=>(List.mem_append.mp hp).elim (fun z=>I.pin p (List.mem_append_left _ z)) (h p),I.hok,I.len,I.hn⟩
theorem Md {N:tH} (hN:N.Nodup) {i j:Nat} {x:Str} (a:N[i]?=some x) (b:N[j]?=some x):i=j:=by
 obtain⟨h1,e1⟩:=List.getElem?_eq_some_iff.mp a
 obtain⟨h2,e2⟩:=List.getElem?_eq_some_iff.mp b
 exact (List.getElem_inj hN).mp (e1.trans e2.symm)
theorem kC {M:Model}{A:Around}{E:sV}{i:Nat}{x:Str}{v:V}{u:Value}{Q:sW} (I:jo X pins σ H s) (hN:X.N.Nodup) (hi:X.N[i]?=some x) (hx:aW X.env.scope x) (r:jE v u)
  (h:∀s',jo X pins (σ.set i (some v)) H s'→(∃a,Heap.SameBut a s.heap s'.heap∧(a=X.env.locals∨X.env.cells.lookup x=some a))→Q () s') (hf:X.fn x=true∨X.env.scope.names.lookup x=some .local:=by first|exact .inl rfl|exact .inr rfl|assumption):wpAny M A (storeName X.env x u) Q E s:=by
 obtain⟨m,hn,hl⟩:=id I.loc
 have hcls:(X.env.scope.kind==.class||(X.env.scope.kind==.module&&X.env.locals != X.env.globals))=false:=by rw [I.ok.kind];rfl
 have hiσ:i<σ.length:=by rw [I.len];exact (List.getElem?_eq_some_iff.mp hi).1
 have cne:=I.cne
 have tracked:∀{a:Addr} {h':Heap},(∃o,s.heap.get? a=some o∧H a=none)→Heap.SameBut a s.heap h'→Jm X.prog X.w H h':=fun {a h'} ha hs b ob e=>by
  obtain⟨_,_,hfree⟩:=ha
  refine (I.hok b ob e).stay (fun c w' hc q=>(hs.2 c ?_).trans q) (fun _ q=>q) fun _ _ q=>q
  rintro rfl
  rcases hc with rfl|hc
  ·rw [hfree] at e;cases e
  ·rw [hfree] at hc;cases hc
 rcases hx with hk|hk
 ·refine wpAny_storeName_local hk hn (fun h' hn' hs=>?_) hcls
  obtain⟨oL,_,_,hoL,_⟩:=id hn
  refine h _ ⟨I.ok,I.os,I.bare,⟨fun b o e n hb hx=>?_,fun b o e n hb hx=>?_,I.base.free,fun b o e hx=>?_,I.base.tups,I.base.frzs,I.base.tbls⟩,⟨_,hn',fun j y v' e1 e2 e3=>?_⟩,fun y c e=>?_,I.free,I.freeC,fun p hp=>?_,tracked ⟨oL,hoL,I.free⟩ hs,by simpa using I.len,I.hn⟩ ⟨_,hs,.inl rfl⟩
  ·exact (hs.2 b (Nat.ne_of_lt (Nat.lt_of_lt_of_le (Heap.lt_size e) I.ok.above))).trans (I.base.keep b o e n hb hx)
  ·obtain⟨sl,e1⟩:=I.base.slot b o e n hb hx
   exact⟨sl,(hs.2 b (Nat.ne_of_lt (Nat.lt_of_lt_of_le (Heap.lt_size e) I.ok.above))).trans e1⟩
  ·obtain⟨o',e1⟩:=I.base.there b o e hx
   exact⟨o',(hs.2 b (Nat.ne_of_lt (Nat.lt_of_lt_of_le (Heap.lt_size e) I.ok.above))).trans e1⟩
  ·by_cases hj:j=i
   ·subst hj
    rw [hi] at e1;cases e1
    rw [List.getElem?_set_self hiσ] at e2
    cases e2
    exact⟨u,r,.inl ⟨hk,by simp⟩⟩
   ·rw [List.getElem?_set_ne (Ne.symm hj)] at e2
    obtain⟨u',r',q⟩:=hl j y v' e1 e2 e3
    refine⟨u',r',?_⟩
    rcases q with ⟨k,e⟩|⟨k,c,e,z⟩
    ·refine .inl ⟨k,?_⟩
     have:y≠x:=fun e=>hj (Md hN e1 (e▸hi))
     simp [this,e]
    ·exact .inr ⟨k,c,e,z.sameBut hs (cne y c e)⟩
  ·obtain⟨w',z⟩:=I.cell y c e
   exact⟨w',z.sameBut hs (cne y c e)⟩
  ·obtain⟨e,n,ne,nf,d⟩:=I.pin p hp
   exact⟨(hs.2 p.1 ne).trans e,n,ne,nf,d⟩
 ·have hfn:X.fn x=true:=by
   rcases hf with z|z
   ·exact z
   ·rw [z] at hk;cases hk
  obtain⟨c,hc⟩:=I.ok.has x (.inl hk)
  obtain⟨w',z⟩:=I.cell x c hc
  refine wpAny_storeName_cell I.ok.kind hk hc z (fun h' hc' hs=>?_)
  obtain⟨oc,hoc,hocd⟩:=id z
  refine h { s with heap:=h' } ⟨I.ok,I.os,I.bare,⟨fun b o e n hb hx=>?_,fun b o e n hb hx=>?_,I.base.free,fun b o e hx=>?_,I.base.tups,I.base.frzs,I.base.tbls⟩,⟨m,hn.sameBut hs (Ne.symm (cne x c hc)),fun j y v' e1 e2 e3=>?_⟩,fun y c' e=>?_,I.free,I.freeC,fun p hp=>?_,tracked ⟨oc,hoc,I.freeC x c hc⟩ hs,by simpa using I.len,I.hn⟩ ⟨c,hs,.inr hc⟩
  ·exact (hs.2 b (Nat.ne_of_lt (Nat.lt_of_lt_of_le (Heap.lt_size e) (I.ok.cab x c hfn hc)))).trans (I.base.keep b o e n hb hx)
  ·obtain⟨sl,e1⟩:=I.base.slot b o e n hb hx
   exact⟨sl,(hs.2 b (Nat.ne_of_lt (Nat.lt_of_lt_of_le (Heap.lt_size e) (I.ok.cab x c hfn hc)))).trans e1⟩
  ·obtain⟨o',e1⟩:=I.base.there b o e hx
   exact⟨o',(hs.2 b (Nat.ne_of_lt (Nat.lt_of_lt_of_le (Heap.lt_size e) (I.ok.cab x c hfn hc)))).trans e1⟩
  ·by_cases hj:j=i
   ·subst hj
    rw [hi] at e1;cases e1
    rw [List.getElem?_set_self hiσ] at e2
    cases e2
    exact⟨u,r,.inr ⟨.inl hk,c,hc,hc'⟩⟩
   ·rw [List.getElem?_set_ne (Ne.symm hj)] at e2
    obtain⟨u',r',q⟩:=hl j y v' e1 e2 e3
    refine⟨u',r',?_⟩
    rcases q with q|⟨k,c',e,z'⟩
    ·exact .inl q
    ·refine .inr ⟨k,c',e,z'.sameBut hs ?_⟩
     rintro rfl
     exact hj (Md hN e1 (I.ok.inj _ _ _ e hc▸hi))
  ·by_cases hcc:c'=c
   ·subst hcc;exact⟨_,hc'⟩
   ·obtain⟨w2,z2⟩:=I.cell y c' e
    exact⟨w2,z2.sameBut hs hcc⟩
  ·obtain⟨e,n,ne,nf,d⟩:=I.pin p hp
   refine⟨(hs.2 p.1 ?_).trans e,n,ne,nf,d⟩
   intro q
   rw [q,hoc] at e
   have q':oc=p.2:=Option.some.inj e
   exact d w' (by rw [←q'];exact hocd)
theorem MZ {M:Model}{A:Around}{E:sV}{i:Nat}{x:Str}{v:V}{u:Value}{Q:sW} (I:jo X pins σ H s) (hN:X.N.Nodup) (hi:X.N[i]?=some x) (hx:aW X.env.scope x) (r:jE v u)
  (h:∀s',jo X pins (σ.set i (some v)) H s'→Q () s') (hf:X.fn x=true∨X.env.scope.names.lookup x=some .local:=by first|exact .inl rfl|exact .inr rfl|assumption):wpAny M A (storeName X.env x u) Q E s :=
 kC I hN hi hx r (fun s' I' _=>h s' I') hf
theorem jo.call' {s':Shared}{ch:tD} (I:jo X pins σ H s) (ho:s'.os=s.os) (u:Un (JX X.stack) ch H H' s.heap s'.heap) (hok:Jm X.prog X.w H' s'.heap) (hg:AllBare s'.gens)
  (hch:∀b∈ch,(b∈X.ex∨X.s₀.heap.objs.size≤b)∧b≠X.env.locals∧(∀x c,X.env.cells.lookup x=some c→c≠b)∧∀p∈X.pn++pins,p.1≠b):jo X pins σ H' s':=by
 obtain⟨h',g',d',t',o'⟩:=s'
 have e:o'=s.os:=ho
 subst e
 exact I.call (g':=g') (t':=t') (d':=d') u hok hg hch
end
abbrev XK:=Value→Option Addr→Hp→Prop
abbrev St:=List (Option V)
abbrev VK:=V→Hp→Prop
abbrev TE:=St→Hp→VK→Prop
abbrev TT:=St→Hp→(Bool→Hp→Prop)→Prop
abbrev TA:=St→Hp→(List V→Hp→Prop)→Prop
structure uP where
 nx:St→Hp→Prop
 rt:VK
 bk:St→Hp→Prop:=fun _ _=>False
 ct:St→Hp→Prop:=fun _ _=>False
abbrev TS:=uP→St→Hp→Prop
def EP (X:Cx) (pins:tq) (σ:St) (Q:VK) (u:Value) (s':Shared):Prop:=∃v H',jo X pins σ H' s'∧jE v u∧Q v H'
def TP (X:Cx) (pins:tq) (σ:St) (Q:Bool→Hp→Prop) (b:Bool) (s':Shared):Prop:=∃H',jo X pins σ H' s'∧Q b H'
def AP (X:Cx) (pins:tq) (σ:St) (Q:List V→Hp→Prop) (us:tz) (s':Shared):Prop:=∃vs H',jo X pins σ H' s'∧jB vs us∧Q vs H'
def SP (X:Cx) (pins:tq) (D:uP) (f:Flow) (s':Shared):Prop :=
 match f with
 | .next=>∃σ' H',jo X pins σ' H' s'∧D.nx σ' H'
 | .brk=>∃σ' H',jo X pins σ' H' s'∧D.bk σ' H'
 | .cont=>∃σ' H',jo X pins σ' H' s'∧D.ct σ' H'
 | .ret u=>∃v σ' H',jo X pins σ' H' s'∧jE v u∧D.rt v H'
def PE (X:Cx) (e:Expr) (t:TE):Prop :=
 ∀(pins:tq) (s:Shared) (σ:St) (H:Hp) (Q:VK),jo X pins σ H s→t σ H Q→wpAny (model X.prog X.w) X.A (eval e X.env) (EP X pins σ Q) X.xe s
def PT (X:Cx) (e:Expr) (t:TT):Prop :=
 ∀(pins:tq) (s:Shared) (σ:St) (H:Hp) (Q:Bool→Hp→Prop),jo X pins σ H s→t σ H Q→wpAny (model X.prog X.w) X.A (isTrue e X.env (eval e X.env)) (TP X pins σ Q) X.xe s
def PW (X:Cx) (e:Expr) (t:TT):Prop :=
 ∀(whole:Sem Value) (pins:tq) (s:Shared) (σ:St) (H:Hp) (Q:Bool→Hp→Prop),jo X pins σ H s→t σ H Q→wpAny (model X.prog X.w) X.A (isTrue e X.env whole) (TP X pins σ Q) X.xe s
theorem PW.pt {X:Cx}{e:Expr}{t:TT} (h:PW X e t):PT X e t:=h _
def PA (X:Cx) (es:tJ) (t:TA):Prop :=
 ∀(pos:Pos) (pins:tq) (s:Shared) (σ:St) (H:Hp) (Q:List V→Hp→Prop),jo X pins σ H s→t σ H Q→wpAny (model X.prog X.w) X.A (spliced (backTo pos (starEach es X.env))) (AP X pins σ Q) X.xe s
def PS (X:Cx) (st:Stmt) (t:TS):Prop :=
 ∀(pins:tq) (s:Shared) (σ:St) (H:Hp) (D:uP),jo X pins σ H s→t D σ H→wpAny (model X.prog X.w) X.A (exec st X.env) (SP X pins D) X.xe s
def YZ (X:Cx) (st:List Stmt) (t:TS):Prop :=
 ∀(pins:tq) (s:Shared) (σ:St) (H:Hp) (D:uP),jo X pins σ H s→t D σ H→wpAny (model X.prog X.w) X.A (execs st X.env) (SP X pins D) X.xe s
theorem jC {α:Type}{t:Sem α}{Q Q':α→Shared→Prop}{M:Model}{A:Around}{E:sV}{s:Shared} (h:wpAny M A t Q E s) (hQ:∀a s,Q a s→Q' a s):wpAny M A t Q' E s:=wpAny_mono h hQ fun _ _ x=>x
end L2
namespace L2
open PySem PySem.Spec PyProof.Rows
section
variable {X:Cx}
theorem sU {a b:Expr}{ta tb:TE} (ha:PE X a ta) (hb:PE X b tb) {pins:tq} {s:Shared} {σ:St} {H:Hp} {R:V→V→Hp→Prop} (I:jo X pins σ H s) (h:ta σ H fun x H1=>tb σ H1 fun y H2=>R x y H2)
  {α:Type} {Q:α→Shared→Prop} {f:Value→Value→Sem α}
  (hf:∀v u s2 x y H2,jo X pins σ H2 s2→jE x v→jE y u→R x y H2→wpAny (model X.prog X.w) X.A (f v u) Q X.xe s2) :
  wpAny (model X.prog X.w) X.A (eval a X.env) (fun v s₁=>wpAny (model X.prog X.w) X.A (eval b X.env) (fun u s₂=>wpAny (model X.prog X.w) X.A (f v u) Q X.xe s₂) X.xe s₁) X.xe s:=by
 refine jC (ha pins s σ H _ I h) fun v s1 ⟨x,H1,I1,r1,q1⟩=>?_
 refine jC (hb pins s1 σ H1 _ I1 q1) fun u s2 ⟨y,H2,I2,r2,q2⟩=>?_
 exact hf v u s2 x y H2 I2 r1 r2 q2
def yf (i:Nat):TE:=fun σ H Q=>∃v,σ[i]?=some (some v)∧Q v H
def tC (v:V):TE:=fun _ H Q=>Q v H
theorem pT {i:Nat}{x:Str}{pos:Pos} (hN:X.N[i]?=some x) (hv:og X.env.scope x) (hd:(x==("__debug__":Str))=false:=by decide) (hcd:(x==("__classdict__":Str))=false:=by decide):PE X (.Name x pos) (yf i):=by
 intro pins s σ H Q I h
 obtain⟨v,e,h⟩:=h
 obtain⟨m,hn,hl⟩:=I.loc
 obtain⟨u,r,l⟩:=hl i x v hN e hv
 have fin:EP X pins σ Q u s:=⟨v,H,I,r,h⟩
 rcases l with ⟨hk,hm⟩|⟨hk,c,hc,hcell⟩
 ·exact wpAny_Name (wpAny_loadName_local I.ok.kind hk hn hm fin) hd
 ·rcases hk with hk|hk
  ·exact wpAny_Name (wpAny_loadName_cell I.ok.kind hk hc hcell fin) hd
  ·exact wpAny_Name (wpAny_loadName_free I.ok.kind hk hc hcell fin hcd) hd
theorem jh {i j pos}:PE X (.Constant (.int i) j pos) (tC (.int i)):=fun _ _ _ H _ I h=>wpAny_Constant_int ⟨.int i,H,I.tok _,⟨_,rfl⟩,h⟩
theorem uj {b j pos}:PE X (.Constant (.bool b) j pos) (tC (.bl b)):=fun _ _ _ H _ I h=>Constant_bool ⟨.bl b,H,I,rfl,h⟩
theorem gX {j pos}:PE X (.Constant .none j pos) (tC .non):=fun _ _ _ H _ I h=>Constant_none ⟨.non,H,I,rfl,h⟩
theorem vJ {x j pos}:PE X (.Constant (.str x) j pos) (tC (.str x)):=fun _ _ _ H _ I h=>Calls.Constant_str ⟨.str x,H,I.tok _,⟨_,rfl⟩,h⟩
def Gl (X:Cx) (x:Str):Prop:=X.env.kindOf x=some .globalImplicit
theorem zU {E:sV}{pins:tq}{s:Shared}{σ:St}{H:Hp}{x:Str}{u:Value}{pos:Pos}{Q:sV} (I:jo X pins σ H s) (hg:Gl X x) (hm:X.mg x=some u) (h:Q u s)
  (hd:(x==("__debug__":Str))=false:=by decide):wpAny (model X.prog X.w) X.A (eval (.Name x pos) X.env) Q E s :=
 Calls.Name_function_global I.ok.kind hg (Calls.loadGlobal_global (by rw [I.ok.glob];exact I.mod.glob.keeps I.bk) hm h) hd
theorem vE {E:sV}{pins:tq}{s:Shared}{σ:St}{H:Hp}{x:Str}{u:Value}{pos:Pos}{Q:sV} (I:jo X pins σ H s) (hg:Gl X x) (hm:X.mg x=none) (hv:bootBuiltins x=some u) (h:Q u s)
  (hn:x≠"__name__":=by decide) (hd:(x==("__debug__":Str))=false:=by decide):wpAny (model X.prog X.w) X.A (eval (.Name x pos) X.env) Q E s:=by
 obtain⟨mb,h1,h2⟩:=I.mod.blt
 exact Calls.Name_function_global I.ok.kind hg (Calls.loadGlobal_builtin (by rw [I.ok.glob];exact I.mod.glob.keeps I.bk) hm (by rw [I.ok.blt];exact h1.keeps I.bk) ((h2 x hn).trans hv) h) hd
theorem Uj {x:Str}{v:V}{u:Value}{pos:Pos} (hg:Gl X x) (hm:X.mg x=some u) (r:jE v u) (hd:(x==("__debug__":Str))=false:=by decide):PE X (.Name x pos) (tC v) :=
 fun _ _ _ H _ I h=>zU I hg hm ⟨v,H,I,r,h⟩ hd
theorem vj {x:Str}{v:V}{u:Value}{pos:Pos} (hg:Gl X x) (hm:X.mg x=none) (hv:bootBuiltins x=some u) (r:jE v u) (hn:x≠"__name__":=by decide) (hd:(x==("__debug__":Str))=false:=by decide):PE X (.Name x pos) (tC v) :=
 fun _ _ _ H _ I h=>vE I hg hm hv ⟨v,H,I,r,h⟩ hn hd
variable {a b:Expr}{ta tb:TE}{pos:Pos}
def PC (X:Cx) (op:CmpOp) (a b:Expr) (t:TE):Prop :=
 ∀(pins:tq) (s:Shared) (σ:St) (H:Hp) (Q:VK),jo X pins σ H s→t σ H Q →
  wpAny (model X.prog X.w) X.A (eval a X.env) (fun v s₁=>wpAny (model X.prog X.w) X.A (eval b X.env) (fun u s₂=>wpAny (model X.prog X.w) X.A (compareOp op v u) (EP X pins σ Q) X.xe s₂) X.xe s₁) X.xe s
theorem Mc (b:Expr) {op:CmpOp} (h:op≠.In) (h2:op≠.NotIn):behindInMarks op b=false:=by
 have e1:(op==CmpOp.In)=false:=by cases op<;>first|rfl|exact absurd rfl h
 have e2:(op==CmpOp.NotIn)=false:=by cases op<;>first|rfl|exact absurd rfl h2
 cases b<;>simp [behindInMarks,e1,e2]
def so (ta:TE):TE:=fun σ H Q=>ta σ H fun x H1=>Q (.bl (decide (x=.non))) H1
theorem jE.none_iff {x:V}{v:Value} (r:jE x v):(v==Value.none)=decide (x=.non):=by
 cases x with
 | non=>cases r;rfl
 | bl _=>cases r;rfl
 | int _=>obtain⟨t,rfl⟩:=r;rfl
 | str _=>obtain⟨t,rfl⟩:=r;rfl
 | byt _=>obtain⟨t,rfl⟩:=r;rfl
 | flt _=>obtain⟨t,rfl⟩:=r;rfl
 | ref _=>cases r;rfl
 | ty _=>cases r;rfl
theorem pP {j pos'} (ha:PE X a ta):PC X .Is a (.Constant .none j pos') (so ta):=by
 intro pins s σ H Q I h
 refine jC (ha pins s σ H _ I h) fun v s1 ⟨x,H1,I1,r1,q1⟩=>?_
 exact Constant_none (is_none_gen ⟨.bl _,H1,I1,by rw [r1.none_iff];rfl,q1⟩)
def tB (t:TE):TT:=fun σ H Q=>t σ H fun x H1=>∃c,x=.bl c∧Q c H1
theorem VH {op:CmpOp}{t:TE} (h:PC X op a b t) (h1:behindInMarks op b=false:=by first|exact Mc _ (by decide) (by decide)|rfl):PE X (.Compare a [op] [b] pos) t:=fun pins s σ H Q I hw=>wpAny_Compare1 (h pins s σ H Q I hw) h1
theorem pY {op:CmpOp}{t:TE} (h:PC X op a b t) (h1:behindInMarks op b=false:=by first|exact Mc _ (by decide) (by decide)|rfl):PT X (.Compare a [op] [b] pos) (tB t):=by
 intro pins s σ H Q I hw
 refine wpAny_isTrue_Compare1 (jC (h pins s σ H _ I hw) fun v s1 h1=>jC h1 fun u s2 h2=>jC h2 fun c s3 ⟨x,H1,I1,r1,q1⟩=>?_) h1
 obtain⟨d,rfl,q⟩:=q1
 cases r1
 exact wpAny_truthy_bool ⟨H1,I1,q⟩
theorem Jc {e:Expr}{t:TE} (h:PE X e t) (he:∀whole,isTrue e X.env whole=(do let v ←whole;standAt e.pos;holding [v] (truthy v)):=by intro _;rfl):PT X e (tB t):=by
 intro pins s σ H Q I hw
 refine isTrue_plain (jC (h pins s σ H _ I hw) fun v s1 ⟨x,H1,I1,r1,q1⟩=>?_) (he _)
 obtain⟨d,rfl,q⟩:=q1
 cases r1
 exact wpAny_truthy_bool ⟨H1,I1,q⟩
variable {tA tB':TT}{rest:tJ}
def si (t u:TT):TT:=fun σ H Q=>t σ H fun c H1=>if c=true then u σ H1 Q else Q false H1
def sR (t u:TT):TT:=fun σ H Q=>t σ H fun c H1=>if c=true then Q true H1 else u σ H1 Q
def qw (t:TT):TT:=fun σ H Q=>t σ H fun c H1=>Q (!c) H1
theorem yC (ha:PT X a tA):PW X (.BoolOp .And [a] pos) tA:=by
 intro wh pins s σ H Q I h
 refine isTrue_and (jC (ha pins s σ H Q I h) fun c s1 e=>?_)
 cases c with
 | true=>exact isTrue_and_nil e
 | false=>exact e
theorem JT (ha:PT X a tA):PW X (.BoolOp .Or [a] pos) tA:=by
 intro wh pins s σ H Q I h
 refine isTrue_or (jC (ha pins s σ H Q I h) fun c s1 e=>?_)
 cases c with
 | false=>exact isTrue_or_nil e
 | true=>exact e
theorem VJ (ha:PT X a tA) (hb:PW X (.BoolOp .And (b::rest) pos) tB'):PW X (.BoolOp .And (a::b::rest) pos) (si tA tB'):=by
 intro wh pins s σ H Q I h
 refine isTrue_and (jC (ha pins s σ H _ I h) fun c s1 ⟨H1,I1,q1⟩=>?_)
 cases c with
 | true=>exact hb wh pins s1 σ H1 Q I1 q1
 | false=>exact⟨H1,I1,q1⟩
theorem uk (ha:PT X a tA) (hb:PW X (.BoolOp .Or (b::rest) pos) tB'):PW X (.BoolOp .Or (a::b::rest) pos) (sR tA tB'):=by
 intro wh pins s σ H Q I h
 refine isTrue_or (jC (ha pins s σ H _ I h) fun c s1 ⟨H1,I1,q1⟩=>?_)
 cases c with
 | true=>exact⟨H1,I1,q1⟩
 | false=>exact hb wh pins s1 σ H1 Q I1 q1
theorem Jg (ha:PT X a tA):PT X (.UnaryOp .Not a pos) (qw tA):=by
 intro pins s σ H Q I h
 exact isTrue_not (ha pins s σ H (fun c H1=>Q (!c) H1) I h)
def rl (ta tb:TE):TE:=fun σ H Q=>ta σ H fun x H1=>∃c,x=.bl c∧if c=true then tb σ H1 Q else Q (.bl false) H1
def ss (ta tb:TE):TE:=fun σ H Q=>ta σ H fun x H1=>∃c,x=.bl c∧if c=true then Q (.bl true) H1 else tb σ H1 Q
def rn (ta:TE):TE:=fun σ H Q=>ta σ H fun x H1=>∃c,x=.bl c∧Q (.bl (!c)) H1
theorem uJ {op}{t:TE} (h:PE X a t):PE X (.BoolOp op [a] pos) t:=fun pins s σ H Q I hw=>BoolOp_one (h pins s σ H Q I hw)
theorem uI (ha:PE X a ta) (hb:PE X (.BoolOp .And (b::rest) pos) tb):PE X (.BoolOp .And (a::b::rest) pos) (rl ta tb):=by
 intro pins s σ H Q I h
 refine BoolOp_and (jC (ha pins s σ H _ I h) fun v s1 ⟨x,H1,I1,r1,q1⟩=>?_)
 obtain⟨c,rfl,q1⟩:=q1
 cases r1
 refine wpAny_truthy_bool ?_
 cases c with
 | true=>exact hb pins s1 σ H1 Q I1 q1
 | false=>exact⟨.bl false,H1,I1,rfl,q1⟩
theorem aF (ha:PE X a ta) (hb:PE X (.BoolOp .Or (b::rest) pos) tb):PE X (.BoolOp .Or (a::b::rest) pos) (ss ta tb):=by
 intro pins s σ H Q I h
 refine BoolOp_or (jC (ha pins s σ H _ I h) fun v s1 ⟨x,H1,I1,r1,q1⟩=>?_)
 obtain⟨c,rfl,q1⟩:=q1
 cases r1
 refine wpAny_truthy_bool ?_
 cases c with
 | false=>exact hb pins s1 σ H1 Q I1 q1
 | true=>exact⟨.bl true,H1,I1,rfl,q1⟩
theorem pS (ha:PE X a ta):PE X (.UnaryOp .Not a pos) (rn ta):=by
 intro pins s σ H Q I h
 refine UnaryOp_ (jC (ha pins s σ H _ I h) fun v s1 ⟨x,H1,I1,r1,q1⟩=>?_)
 obtain⟨c,rfl,q1⟩:=q1
 cases r1
 exact not_of (wpAny_truthy_bool ⟨.bl (!c),H1,I1,rfl,q1⟩)
end
end L2
namespace L2
open PySem PySem.Spec PyProof.Rows
def jD (K:sZ) (H:Hp) (a:Addr) (xs:List V):Prop :=
 Rd H a (.lst xs) ∨
  ∃(o:Obj) (its:tI) (n:Nat),K.lookup a=some o∧o.cls=.type "list"∧o.dict=none∧o.data=.seq its n∧its.size≤sizeLine∧jB xs its.toList
def jw (K:sZ) (H:Hp) (a:Addr) (xs:List V):Prop :=
 Rd H a (.tup xs) ∨
  ∃(o:Obj) (its:tI) (n:Nat),K.lookup a=some o∧o.cls=.type "tuple"∧o.data=.seq its n∧its.size≤sizeLine∧jB xs its.toList
def rN:Value→Option V
 | .none=>some .non
 | .bool b=>some (.bl b)
 | .int i _=>some (.int i)
 | .str x _=>some (.str x)
 | .bytes b _=>some (.byt b)
 | .float b _=>some (.flt b)
 | .ref a=>some (.ref a)
 | .type n=>some (.ty n)
 | _=>none
theorem jE.abs {x:V}{u:Value} (r:jE x u):rN u=some x:=by
 cases x with
 | non=>cases r;rfl
 | bl _=>cases r;rfl
 | int _=>obtain⟨t,rfl⟩:=r;rfl
 | str _=>obtain⟨t,rfl⟩:=r;rfl
 | byt _=>obtain⟨t,rfl⟩:=r;rfl
 | flt _=>obtain⟨t,rfl⟩:=r;rfl
 | ref _=>cases r;rfl
 | ty _=>cases r;rfl
theorem jE.inj {x y:V}{u:Value} (r:jE x u) (q:jE y u):x=y:=Option.some.inj (r.abs.symm.trans q.abs)
theorem jB.inj:∀{xs ys:List V} {us:tz},jB xs us→jB ys us→xs=ys
 | _,_,_,.nil,.nil=>rfl
 | _,_,_,.cons r t,.cons r' t'=>by rw [r.inj r',jB.inj t t']
section
variable {X:Cx}{pins:tq}{σ:St}{H:Hp}{s:Shared}{a:Addr}{xs ys:List V}
theorem jD.of {K:sZ} (h:H a=some (.lst xs)):jD K H a xs:=.inl (.inl h)
theorem jw.of {K:sZ} (h:H a=some (.tup xs)):jw K H a xs:=.inl (.inl h)
theorem jo.list (I:jo X pins σ H s) (h:jD X.K H a xs):∃its:List Value,jB xs its∧PlainL s.heap a its.toArray∧xs.length≤sizeLine:=by
 rcases h with h|⟨o,its,n,hk,hc,hd,hs,hz,r⟩
 ·obtain⟨z,its,n,r,e⟩:=h.ok I.hok
  exact⟨its,r,⟨_,n,e,rfl,rfl,rfl⟩,z⟩
 ·refine⟨its.toList,r,⟨o,n,I.kIn a o hk,hc,hd,by simpa using hs⟩,?_⟩
  have e:=r.length
  simp only [Array.length_toList] at e
  omega
theorem jo.tuple (I:jo X pins σ H s) (h:jw X.K H a xs):∃its:List Value,jB xs its∧IsTup s.heap a its.toArray∧xs.length≤sizeLine:=by
 rcases h with h|⟨o,its,n,hk,hc,hs,hz,r⟩
 ·obtain⟨z,its,r,p⟩:=h.ok I.hok
  exact⟨its,r,p,z⟩
 ·refine⟨its.toList,r,⟨o,I.kIn a o hk,hc,n,by simpa using hs⟩,?_⟩
  have e:=r.length
  simp only [Array.length_toList] at e
  omega
theorem jo.list_inj (I:jo X pins σ H s) (h:jD X.K H a xs) (h':jD X.K H a ys):xs=ys:=by
 obtain⟨its,r,⟨o,n,e,_,_,d⟩,_⟩:=I.list h
 obtain⟨its',r',⟨o',n',e',_,_,d'⟩,_⟩:=I.list h'
 rw [e] at e';cases e'
 rw [d] at d'
 injection d' with d1 _
 have:its=its':=by simpa using congrArg Array.toList d1
 subst this
 exact r.inj r'
theorem jo.tuple_inj (I:jo X pins σ H s) (h:jw X.K H a xs) (h':jw X.K H a ys):xs=ys:=by
 obtain⟨its,r,⟨o,e,_,n,d⟩,_⟩:=I.tuple h
 obtain⟨its',r',⟨o',e',_,n',d'⟩,_⟩:=I.tuple h'
 rw [e] at e';cases e'
 rw [d] at d'
 injection d' with d1 _
 have:its=its':=by simpa using congrArg Array.toList d1
 subst this
 exact r.inj r'
end
section
variable {X:Cx}{pins:tq}{σ:St}{H:Hp}{s:Shared}{E:sV}
end
section
variable {X:Cx}{st:Stmt}{rest:List Stmt}{t u:TS}{e:Expr}{te:TE}{pos:Pos}
def fY:TS:=fun D σ H=>D.nx σ H
def u7 (t u:TS):TS:=fun D σ H=>t { D with nx:=u D } σ H
theorem jP:YZ X [] fY:=fun _ _ σ H _ I h=>wpAny_execs_nil ⟨σ,H,I,h⟩
theorem jj (h1:PS X st t) (h2:YZ X rest u):YZ X (st::rest) (u7 t u):=by
 intro pins s σ H D I h
 refine wpAny_execs_cons (jC (h1 pins s σ H { D with nx:=u D } I h) fun f s1 q=>?_)
 cases f with
 | next =>
  obtain⟨σ',H',I',q⟩:=q
  exact h2 pins s1 σ' H' D I' q
 | ret v=>exact q
 | brk=>exact q
 | cont=>exact q
theorem jm (h1:PS X st t):YZ X [st] t:=by
 intro pins s σ H D I h
 refine wpAny_execs_cons (jC (h1 pins s σ H D I h) fun f s1 q=>?_)
 cases f with
 | next=>exact wpAny_execs_nil q
 | ret v=>exact q
 | brk=>exact q
 | cont=>exact q
theorem jo.quiet {pins:tq}{σ:St}{H:Hp}{s:Shared} (I:jo X pins σ H s):interactive X.env=false:=by simp [interactive,I.ok.kind]
def rm (te:TE):TS:=fun D σ H=>te σ H fun _ H1=>D.nx σ H1
theorem jA (he:PE X e te) (hs:swapsWith e none pos.line X.env=pure false:=by rfl):PS X (.Expr e pos) (rm te):=by
 intro pins s σ H D I h
 exact wpAny_Expr_any (jC (he pins s σ H _ I h) fun v s1 ⟨x,H1,I1,r1,q1⟩=>⟨σ,H1,I1,q1⟩) I.quiet hs
def qx (te:TE):TS:=fun D σ H=>te σ H D.rt
theorem jF (he:PE X e te):PS X (.Return (some e) pos) (qx te):=by
 intro pins s σ H D I h
 exact wpAny_Return_some (jC (he pins s σ H _ I h) fun v s1 ⟨x,H1,I1,r1,q1⟩=>⟨x,σ,H1,I1,r1,q1⟩)
def eP (c:TT) (t u:TS):TS:=fun D σ H=>c σ H fun b H1=>if b=true then t D σ H1 else u D σ H1
theorem jU {c:Expr}{a b:List Stmt}{tc:TT} (hc:PT X c tc) (ha:YZ X a t) (hb:YZ X b u):PS X (.If c a b pos) (eP tc t u):=by
 intro pins s σ H D I h
 refine wpAny_If (jC (hc pins s σ H _ I h) fun d s1 ⟨H1,I1,q1⟩=>?_)
 cases d with
 | true=>exact ha pins s1 σ H1 D I1 q1
 | false=>exact hb pins s1 σ H1 D I1 q1
end
abbrev TG:=V→St→Hp→(St→Hp→Prop)→Prop
abbrev GZ:=List V→St→Hp→(St→Hp→Prop)→Prop
def PG (X:Cx) (target:Expr) (t:TG):Prop :=
 ∀(pins:tq) (s:Shared) (σ:St) (H:Hp) (v:V) (u:Value) (Q:St→Hp→Prop),jo X pins σ H s→jE v u→t v σ H Q →
  wpAny (model X.prog X.w) X.A (assign target X.env u) (fun _ s'=>∃σ' H',jo X pins σ' H' s'∧Q σ' H') X.xe s
def aY (X:Cx) (ts:tJ) (t:GZ):Prop :=
 ∀(pins:tq) (s:Shared) (σ:St) (H:Hp) (vs:List V) (us:tz) (Q:St→Hp→Prop),jo X pins σ H s→jB vs us→t vs σ H Q →
  wpAny (model X.prog X.w) X.A (assignInOrder ((assignEach ts X.env).map (·.2)) us) (fun _ s'=>∃σ' H',jo X pins σ' H' s'∧Q σ' H') X.xe s
section
variable {X:Cx}{pos:Pos}
def gJ (i:Nat):TG:=fun v σ H Q=>Q (σ.set i (some v)) H
theorem jL {i:Nat}{x:Str} (hN:X.N.Nodup) (hi:X.N[i]?=some x) (hx:aW X.env.scope x) (hf:X.fn x=true∨X.env.scope.names.lookup x=some .local:=by first|exact .inl rfl|exact .inr rfl|assumption):PG X (.Name x pos) (gJ i):=by
 intro pins s σ H v u Q I r h
 exact wpAny_assign_Name (MZ I hN hi hx r (fun s' I'=>⟨_,H,I',h⟩) hf)
def rT:GZ:=fun vs σ H Q=>vs=[]∧Q σ H
def qK (t:TG) (u:GZ):GZ:=fun vs σ H Q=>∃v r,vs=v::r∧t v σ H fun σ' H'=>u r σ' H' Q
theorem yA:aY X [] rT:=by
 intro pins s σ H vs us Q I r h
 obtain⟨e,h⟩:=h
 subst e
 cases r
 exact assignInOrder_nil ⟨σ,H,I,h⟩
theorem JH {e:Expr}{es:tJ}{t:TG}{u:GZ} (h1:PG X e t) (h2:aY X es u)
  (hs:(assignEach (e::es) X.env).map (·.2)=assign e X.env::(assignEach es X.env).map (·.2):=by rfl):aY X (e::es) (qK t u):=by
 intro pins s σ H vs us Q I r h
 obtain⟨v,vr,e1,h⟩:=h
 subst e1
 cases r with
 | cons r rr =>
  rw [hs]
  refine assignInOrder_cons (jC (h1 pins s σ H _ _ _ I r h) fun _ s1 ⟨σ1,H1,I1,q1⟩=>?_)
  exact h2 pins s1 σ1 H1 _ _ Q I1 rr q1
def oN (K:sZ) (n:Nat) (t:GZ):TG:=fun v σ H Q=>∃a xs,v=.ref a∧jw K H a xs∧xs.length=n∧t xs σ H Q
theorem gY {es:tJ}{k:Nat}{t:GZ}{n:Nat} (hc:X.calm=true) (h:aY X es t)
  (hn:(assignEach es X.env).length=n:=by rfl) (hst:(assignEach es X.env).findIdx? (·.1)=none:=by rfl):PG X (.Tuple es k pos) (oN X.K n t):=by
 intro pins s σ H v u Q I r hw
 obtain⟨a,xs,e1,hq,hl,hw⟩:=hw
 subst e1
 cases r
 obtain⟨its,rv,ht,hz⟩:=I.tuple hq
 refine assign_Tuple_tuple (I.ok.hd hc) ht (by simp [hn,←hl,rv.length]) hst fun h' hx=>?_
 have I1:jo X pins σ H { s with heap:=h' }:=I.kept (t':=s.toks) fun b o e=>hx b o (Nat.ne_of_lt (Heap.lt_size e)) e
 exact h pins _ σ H xs _ Q I1 (by simpa using rv) hw
def eM (te:TE) (g:TG):TS:=fun D σ H=>te σ H fun x H1=>g x σ H1 D.nx
theorem pX {tg e:Expr}{te:TE}{g:TG} (he:PE X e te) (hg:PG X tg g) (hs:swapsWithSole [tg] e pos.line X.env=pure false:=by rfl) (hw:swappedStores [tg] e X.env=pure none:=by rfl)
  (h1:(assignEach [tg] X.env).map (·.2)=[assign tg X.env]:=by rfl):PS X (.Assign [tg] e pos) (eM te g):=by
 intro pins s σ H D I h
 refine wpAny_Assign_stores (jC (he pins s σ H _ I h) fun v s1 ⟨x,H1,I1,r1,q1⟩=>?_) hs hw
 rw [h1]
 exact jC (hg pins s1 σ H1 x v _ I1 r1 q1) fun _ s2 q=>q
theorem jI {i:Nat}{x:Str}{e:Expr}{te:TE}{pos':Pos} (hN:X.N.Nodup) (hi:X.N[i]?=some x) (hx:aW X.env.scope x) (he:PE X e te) (hs:swapsWith e (some (.Name x pos')) pos.line X.env=pure false:=by rfl) (hf:X.fn x=true∨X.env.scope.names.lookup x=some .local:=by first|exact .inl rfl|exact .inr rfl|assumption) :
  PS X (.Assign [.Name x pos'] e pos) (eM te (gJ i)):=by
 intro pins s σ H D I h
 refine wpAny_Assign_Name (jC (he pins s σ H _ I h) fun v s1 ⟨y,H1,I1,r1,q1⟩=>?_) hs
 exact MZ I1 hN hi hx r1 (fun s2 I2=>⟨_,H1,I2,q1⟩) hf
end
section
variable {X:Cx}{pos:Pos}
end
structure It where
 go:Nat→Hp→Prop
 yld:Nat→Hp→V→Hp→Prop
 stop:Nat→Hp→Prop
def Vs (X:Cx) (pins:tq) (H:Hp) (b:Addr):Prop :=
 H b=none∧b≠X.env.locals∧b ∉ X.fs∧(b∈X.ex∨X.s₀.heap.objs.size≤b)∧(∀x c,X.env.cells.lookup x=some c→c≠b)∧∀p∈X.pn++pins,p.1≠b
theorem jo.fpOk {X:Cx}{pins:tq}{σ:St}{H H':Hp}{s:Shared}{b:Addr} (I:jo X pins σ H s) (hb:s.heap.objs.size≤b) (hn:H' b=none):Vs X pins H' b:=by
 refine⟨hn,Nat.ne_of_gt (Nat.lt_of_lt_of_le I.lt hb),I.nofs hb,.inr (Nat.le_trans I.sz hb),fun x c e z=>?_,fun p hp z=>?_⟩
 ·obtain⟨v,q⟩:=I.cell x c e
  exact absurd (Nat.lt_of_lt_of_le q.lt (by rw [z];exact hb)) (Nat.lt_irrefl _)
 ·exact absurd (Nat.lt_of_lt_of_le (Heap.lt_size (I.pin p hp).1) (by rw [z];exact hb)) (Nat.lt_irrefl _)
structure yP (P:tM) (w:World) (K:sZ) (tg:Expr) (J:It) (fp:tD) (it:Addr) (tn:Nat→Heap→Prop) (nm:Bool):Prop where
 mem:it∈fp
 obj:∀i h,tn i h→∀b∈fp,∃o,h.get? b=some o∧∀v,o.data≠.cell v
 keep:∀i h h',tn i h→(∀b∈fp,∀o,h.get? b=some o→h'.get? b=some o)→tn i h'
 item:∀(X:Cx),X.prog=P→X.w=w→X.K=K→(nm=true→X.calm=true)→∀(i:Nat) (pins:tq) (s:Shared) (σ:St) (H:Hp) (E:sV),jo X pins σ H s→(∀b∈fp,Vs X pins H b)→tn i s.heap→J.go i H →
  wpAny (model P w) X.A (pyNext (.ref it)) (fun r s1=>∃u,r=some u ∧
   wpAny (model P w) X.A (letOwnedTupleGo tg (.ref it) u) (fun _ s2=>∃x H',jo X pins σ H' s2∧jE x u∧J.yld i H x H'∧tn (i+1) s2.heap∧∀b∈fp,H' b=none) E s1) E s
 done:∀(X:Cx),X.prog=P→X.w=w→X.K=K→(nm=true→X.calm=true)→∀(i:Nat) (pins:tq) (s:Shared) (σ:St) (H:Hp) (E:sV),jo X pins σ H s→(∀b∈fp,Vs X pins H b)→tn i s.heap→J.stop i H →
  wpAny (model P w) X.A (pyNext (.ref it)) (fun r s1=>r=none∧jo X pins σ H s1) E s
 self:∀(A:Around) (i:Nat) (s:Shared) (Q:sV) (E:sV),tn i s.heap→Q (.ref it) s→wpAny (model P w) A (pyIter (.ref it)) Q E s
def Vf (X:Cx) (tg:Expr) (J:It) (fp:tD) (it:Addr) (tn:Nat→Heap→Prop):Prop:=∃nm,yP X.prog X.w X.K tg J fp it tn nm∧(nm=true→X.calm=true)
theorem Vf.of {X:Cx}{tg:Expr}{J:It}{fp:tD}{it:Addr}{tn:Nat→Heap→Prop} (T:yP X.prog X.w X.K tg J fp it tn false):Vf X tg J fp it tn:=⟨false,T,fun z=>by cases z⟩
abbrev TI:=St→Hp→(It→Hp→Prop)→Prop
def l8 (X:Cx) (pins:tq) (σ:St) (tg:Expr) (R:It→Hp→Prop) (itv:Value) (s2:Shared):Prop :=
 ∃(it:Addr) (fp:tD) (tn:Nat→Heap→Prop) (J:It) (H':Hp),itv=.ref it∧jo X pins σ H' s2∧Vf X tg J fp it tn∧tn 0 s2.heap∧(∀b∈fp,Vs X pins H' b)∧R J H'
def PI (X:Cx) (tg iter:Expr) (wi:TI):Prop :=
 ∀(pins:tq) (s:Shared) (σ:St) (H:Hp) (R:It→Hp→Prop),jo X pins σ H s→wi σ H R →
  wpAny (model X.prog X.w) X.A (eval iter X.env) (fun v s1=>wpAny (model X.prog X.w) X.A (pyIter v) (l8 X pins σ tg R) X.xe s1) X.xe s
theorem gL {M:Model}{A:Around}{E:sV}{s:Shared}{tg:Expr}{it:Addr}{u:Value}{o:Obj}{n:String}{vs:tI}{Q:sW} (ho:s.heap.get? it=some o) (hc:o.cls=.type n) (hd:o.data=.fields vs)
  (hn:["enumerate","zip","dict_itemiterator","dict_reverseitemiterator","odict_iterator","itertools.zip_longest","itertools.pairwise"].contains n=false) (hQ:Q () s):wpAny M A (letOwnedTupleGo tg (.ref it) u) Q E s:=by
 unfold letOwnedTupleGo
 cases tg<;>first
  | exact tP hQ
  | (cases u<;>first
    | exact tP hQ
    | (refine tO (wpAny_load ho ?_)
       rw [hc,hd]
       show wpAny M A (if (["enumerate","zip","dict_itemiterator","dict_reverseitemiterator","odict_iterator","itertools.zip_longest","itertools.pairwise"].contains n&&vs[0]?==some (rawInt _))=true then _ else _) Q E s
       rw [if_neg (by intro h;rw [hn,Bool.false_and] at h;cases h)]
       exact tP hQ))
def gk (K:sZ) (a:Addr):It :=
 ⟨fun i H=>∃xs x,jD K H a xs∧xs[i]?=some x,fun i H x H'=>H'=H∧∀xs,jD K H a xs→xs[i]?=some x,fun i H=>∃xs,jD K H a xs∧xs.length≤i⟩
def KN (K:sZ) (a:Addr):It :=
 ⟨fun i H=>∃xs x,jw K H a xs∧xs[i]?=some x,fun i H x H'=>H'=H∧∀xs,jw K H a xs→xs[i]?=some x,fun i H=>∃xs,jw K H a xs∧xs.length≤i⟩
def YU (lo:Int) (n:Nat):It:=⟨fun i _=>i<n,fun i H x H'=>H'=H∧x=.int (lo+i),fun i _=>n≤i⟩
theorem kF {P:tM}{w:World}{K:sZ}{tg:Expr} (a it:Addr):yP P w K tg (gk K a) [it] it (fun i h=>h.IsListIter it a i) false where
 mem:=by simp
 obj:=fun i h st b hb=>by
  have e:b=it:=by simpa using hb
  subst e
  obtain⟨o,e,c,d⟩:=st
  exact⟨o,e,fun v z=>by rw [d] at z;cases z⟩
 keep:=fun i h h' st k=>st.at fun o e=>k it (by simp) o e
 item:=by
  intro X hP hw hK hc i pins s σ H E I hf st hg
  subst hP hw hK
  obtain⟨xs,x,hq,hx⟩:=hg
  obtain⟨its,rv,p,hz⟩:=I.list hq
  obtain⟨u,hu,ru⟩:=rv.get hx
  obtain⟨f0,f1,f2,f3,f4,f5⟩:=hf it (by simp)
  refine wpAny_pyNext_list_item st p.isList (x:=u) (by simpa using hu) fun h' st' sb=>?_
  have I1:jo X pins σ H { s with heap:=h' }:=I.turned (t':=s.toks) (fun b o hb e=>(sb.2 b hb).trans e) f0 f1 f3 f4 f5
  obtain⟨o,e,c,d⟩:=id st'
  exact⟨u,rfl,gL (s:={ s with heap:=h' }) e c d (by decide) ⟨x,H,I1,ru,⟨rfl,fun ys hy=>by rw [I.list_inj hy hq];exact hx⟩,st',fun b hb=>(hf b hb).1⟩⟩
 done:=by
  intro X hP hw hK hc i pins s σ H E I hf st hg
  subst hP hw hK
  obtain⟨xs,hq,hx⟩:=hg
  obtain⟨its,rv,p,hz⟩:=I.list hq
  obtain⟨f0,f1,f2,f3,f4,f5⟩:=hf it (by simp)
  have hl:=rv.length
  exact NC (I.hn.now I.hok) st p.isList (by simp;omega) fun h' eb=>⟨rfl,I.turned (t':=s.toks) (fun b o hb e=>eb b o hb e) f0 f1 f3 f4 f5⟩
 self:=fun _ _ _ _ _ st h=>wpAny_pyIter_listiter st h
theorem Gp {P:tM}{w:World}{K:sZ}{tg:Expr} (a it:Addr):yP P w K tg (KN K a) [it] it (fun i h=>h.IsTupleIter it a i) false where
 mem:=by simp
 obj:=fun i h st b hb=>by
  have e:b=it:=by simpa using hb
  subst e
  obtain⟨o,e,c,d⟩:=st
  exact⟨o,e,fun v z=>by rw [d] at z;cases z⟩
 keep:=fun i h h' st k=>st.at fun o e=>k it (by simp) o e
 item:=by
  intro X hP hw hK hc i pins s σ H E I hf st hg
  subst hP hw hK
  obtain⟨xs,x,hq,hx⟩:=hg
  obtain⟨its,rv,p,hz⟩:=I.tuple hq
  obtain⟨u,hu,ru⟩:=rv.get hx
  obtain⟨f0,f1,f2,f3,f4,f5⟩:=hf it (by simp)
  refine wpAny_pyNext_tuple_item st (show s.heap.IsTuple a its.toArray from p) (x:=u) (by simpa using hu) fun h' st' sb=>?_
  have I1:jo X pins σ H { s with heap:=h' }:=I.turned (t':=s.toks) (fun b o hb e=>(sb.2 b hb).trans e) f0 f1 f3 f4 f5
  obtain⟨o,e,c,d⟩:=id st'
  exact⟨u,rfl,gL (s:={ s with heap:=h' }) e c d (by decide) ⟨x,H,I1,ru,⟨rfl,fun ys hy=>by rw [I.tuple_inj hy hq];exact hx⟩,st',fun b hb=>(hf b hb).1⟩⟩
 done:=by
  intro X hP hw hK hc i pins s σ H E I hf st hg
  subst hP hw hK
  obtain⟨xs,hq,hx⟩:=hg
  obtain⟨its,rv,p,hz⟩:=I.tuple hq
  obtain⟨f0,f1,f2,f3,f4,f5⟩:=hf it (by simp)
  have hl:=rv.length
  exact eQ (I.hn.now I.hok) st (show s.heap.IsTuple a its.toArray from p) (by simp;omega) fun h' eb=>⟨rfl,I.turned (t':=s.toks) (fun b o hb e=>eb b o hb e) f0 f1 f3 f4 f5⟩
 self:=fun _ _ _ _ _ st h=>wpAny_pyIter_tupleiter st h
theorem Go {P:tM}{w:World}{K:sZ}{tg:Expr} (it:Addr) (lo:Int) (n:Nat):yP P w K tg (YU lo n) [it] it (fun i h=>IsRangeIter h it (lo+(i:Nat)*1) ((n:Int) - (i:Nat)) 1) false where
 mem:=by simp
 obj:=fun i h st b hb=>by
  have e:b=it:=by simpa using hb
  subst e
  exact⟨_,st,fun v z=>by
   have z':Data.fields _=Data.cell v:=z
   cases z'⟩
 keep:=fun i h h' st k=>k it (by simp) _ st
 item:=by
  intro X hP hw hK hc i pins s σ H E I hf st hg
  subst hP hw hK
  obtain⟨f0,f1,f2,f3,f4,f5⟩:=hf it (by simp)
  refine wpAny_pyNext_range_item st (by have:i<n:=hg;omega) fun h' st' sb=>?_
  obtain⟨tk,htk⟩:∃tk,tk=s.toks+1:=⟨_,rfl⟩
  rw [←htk]
  have I1:jo X pins σ H { s with heap:=h',toks:=tk }:=I.turned (fun b o hb e=>(sb.2 b hb).trans e) f0 f1 f3 f4 f5
  have st2:IsRangeIter h' it (lo+((i+1:Nat):Int)*1) ((n:Int) - ((i+1:Nat):Int)) 1:=by
   rw [show lo+((i+1:Nat):Int)*1=lo+(i:Int)*1+1 by omega,show (n:Int) - ((i+1:Nat):Int)=(n:Int) - (i:Int) - 1 by omega];exact st'
  refine⟨_,rfl,gL (s:={ s with heap:=h',toks:=tk }) (n:="range_iterator") st' rfl rfl (by decide) ⟨.int (lo+i),H,I1,⟨s.toks,?_⟩,⟨rfl,rfl⟩,st2,fun b hb=>(hf b hb).1⟩⟩
  rw [Int.mul_one]
 done:=by
  intro X hP hw hK hc i pins s σ H E I hf st hg
  subst hP hw hK
  obtain⟨f0,f1,f2,f3,f4,f5⟩:=hf it (by simp)
  exact dZ (I.hn.now I.hok) st (by have:n≤i:=hg;omega) fun h' eb=>⟨rfl,I.turned (t':=s.toks) (fun b o hb e=>eb b o hb e) f0 f1 f3 f4 f5⟩
 self:=fun _ _ _ _ _ st h=>wpAny_pyIter_rangeiter st h
end L2
namespace L2
open PySem PySem.Spec PyProof.Rows
section
variable {X:Cx}{tg:Expr}
def qP (K:sZ) (tl:TE):TI:=fun σ H R=>tl σ H fun x H1=>∃a,x=.ref a∧(∃xs,jD K H1 a xs)∧R (gk K a) H1
def rV (K:sZ) (tl:TE):TI:=fun σ H R=>tl σ H fun x H1=>∃a,x=.ref a∧(∃xs,jw K H1 a xs)∧R (KN K a) H1
theorem uK {l:Expr}{tl:TE} (hl:PE X l tl):PI X tg l (qP X.K tl):=by
 intro pins s σ H R I h
 refine jC (hl pins s σ H _ I h) fun v s1 ⟨x,H1,I1,r1,q1⟩=>?_
 obtain⟨a,e,⟨xs,hq⟩,q⟩:=q1
 subst e
 cases r1
 obtain⟨its,rv,p,hz⟩:=I1.list hq
 refine wpAny_pyIter_list p.isList ?_
 refine⟨s1.heap.objs.size,[s1.heap.objs.size],_,_,H1,rfl,I1.kept (t':=s1.toks) fun b o e=>Heap.get?_push_of_some _ e,Vf.of (kF a _),⟨_,Heap.get?_push_size _ rfl,rfl,rfl⟩,fun b hb=>?_,q⟩
 have e:b=s1.heap.objs.size:=by simpa using hb
 subst e
 exact I1.fpOk (Nat.le_refl _) (I1.hok.fresh (Nat.le_refl _))
theorem cr {l:Expr}{tl:TE} (hl:PE X l tl):PI X tg l (rV X.K tl):=by
 intro pins s σ H R I h
 refine jC (hl pins s σ H _ I h) fun v s1 ⟨x,H1,I1,r1,q1⟩=>?_
 obtain⟨a,e,⟨xs,hq⟩,q⟩:=q1
 subst e
 cases r1
 obtain⟨its,rv,p,hz⟩:=I1.tuple hq
 refine wpAny_pyIter_tuple (show s1.heap.IsTuple a its.toArray from p) ?_
 refine⟨s1.heap.objs.size,[s1.heap.objs.size],_,_,H1,rfl,I1.kept (t':=s1.toks) fun b o e=>Heap.get?_push_of_some _ e,Vf.of (Gp a _),⟨_,Heap.get?_push_size _ rfl,rfl,rfl⟩,fun b hb=>?_,q⟩
 have e:b=s1.heap.objs.size:=by simpa using hb
 subst e
 exact I1.fpOk (Nat.le_refl _) (I1.hok.fresh (Nat.le_refl _))
theorem MD {pins:tq}{σ:St}{H:Hp}{s:Shared}{R:It→Hp→Prop}{E:sV}{lo hi:Int}{t u v:Tok}{tk:Nat} (I:jo X pins σ H s) (h1:-(2^62)≤lo) (h2:lo<2^62) (h3:-(2^62)≤hi) (h4:hi<2^62)
  (q:R (YU lo (hi - lo).toNat) H):wpAny (model X.prog X.w) X.A (pyIter (.ref s.heap.objs.size)) (l8 X pins σ tg R) E { s with heap:=s.heap.push { cls:=.type "range",data:=.fields #[.int lo t,.int hi u,.int 1 v] },toks:=tk }:=by
 refine wpAny_pyIter_range (IsRange.new ..) (small_one h1 h2 h3 h4) ?_
 have I1:jo X pins σ H { s with heap:=s.heap.push { cls:=.type "range",data:=.fields #[.int lo t,.int hi u,.int 1 v] },toks:=tk }:=I.kept fun b o e=>Heap.get?_push_of_some _ e
 refine⟨(s.heap.push { cls:=.type "range",data:=.fields #[.int lo t,.int hi u,.int 1 v] }).objs.size,[(s.heap.push { cls:=.type "range",data:=.fields #[.int lo t,.int hi u,.int 1 v] }).objs.size],_,_,H,rfl,
  I1.kept (t':=tk) fun b o e=>Heap.get?_push_of_some _ e,Vf.of (Go _ lo (hi - lo).toNat),?_,fun b hb=>?_,q⟩
 ·have e1:lo+((0:Nat):Int)*1=lo:=by simp
  have e2:(((hi - lo).toNat:Nat):Int) - ((0:Nat):Int)=Builtin.Range.rangeSize lo hi 1:=by rw [rangeSize_one];split<;>omega
  show IsRangeIter _ _ (lo+((0:Nat):Int)*1) ((((hi - lo).toNat:Nat):Int) - ((0:Nat):Int)) 1
  rw [e1,e2]
  exact Heap.get?_push_size _ rfl
 ·have e:b=(s.heap.push { cls:=.type "range",data:=.fields #[.int lo t,.int hi u,.int 1 v] }).objs.size:=by simpa using hb
  subst e
  exact I1.fpOk (Nat.le_refl _) (I1.hok.fresh (Nat.le_refl _))
def qQ (ta:TA):TI:=fun σ H R=>ta σ H fun vs H1=>∃j:Int,vs=[.int j]∧-(2^62)≤j∧j<2^62∧R (YU 0 j.toNat) H1
def qR (ta:TA):TI:=fun σ H R=>ta σ H fun vs H1=>∃i j:Int,vs=[.int i,.int j]∧(-(2^62)≤i∧i<2^62∧-(2^62)≤j∧j<2^62)∧R (YU i (j - i).toNat) H1
theorem zr {a:Expr}{ta:TA}{p pos:Pos} (hg:Gl X "range") (hm:X.mg "range"=none) (ha:PA X [a] ta) (hs:starEach [a] X.env=[(false,eval a X.env)]:=by rfl):PI X tg (.Call (.Name "range" p) [a] [] pos) (qQ ta):=by
 intro pins s σ H R I h
 refine Call_ (vE I hg hm boot_range (PyProof.Rows.callWith_type1 (jC (ha pos pins s σ H _ I h) fun us s1 ⟨vs,H1,I1,r1,q1⟩=>?_) hs rfl))
 obtain⟨j,e,q1,q2,q⟩:=q1
 subst e
 cases r1 with
 | cons r rr =>
  cases rr
  obtain⟨t,rfl⟩:=r
  exact call_range_1 (MD I1 (by omega) (by omega) q1 q2 (by simpa using q))
theorem V3 {a b:Expr}{ta:TA}{p pos:Pos} (hg:Gl X "range") (hm:X.mg "range"=none) (ha:PA X [a,b] ta) (hs:starEach [a,b] X.env=[(false,eval a X.env),(false,eval b X.env)]:=by rfl) (hs2:starEach [b] X.env=[(false,eval b X.env)]:=by rfl) :
  PI X tg (.Call (.Name "range" p) [a,b] [] pos) (qR ta):=by
 intro pins s σ H R I h
 refine Call_ (vE I hg hm boot_range (PyProof.Rows.callWith_type1 (jC (ha pos pins s σ H _ I h) fun us s1 ⟨vs,H1,I1,r1,q1⟩=>?_) (by rw [hs,hs2]) (by rw [hs2];rfl)))
 obtain⟨i,j,e,⟨q1,q2,q3,q4⟩,q⟩:=q1
 subst e
 cases r1 with
 | cons r rr =>
  cases rr with
  | cons r' rr =>
   cases rr
   obtain⟨t,rfl⟩:=r
   obtain⟨t',rfl⟩:=r'
   exact call_range_2 (MD I1 q1 q2 q3 q4 q)
def eO (wi:TI) (g:TG) (tb:TS):TS:=fun D σ H=>wi σ H fun J H1=>∃W:Nat→Nat→St→Hp→Prop,(∃m,W 0 m σ H1)∧∀i m σ H,W i m σ H →
 (J.stop i H∧D.nx σ H)∨(J.go i H∧∃N:St→Hp→Prop,(∀σ' H',N σ' H'→∃m',m'<m∧W (i+1) m' σ' H')∧∀x H',J.yld i H x H'→g x σ H' fun σ2 H2=>tb { D with nx:=N,ct:=N,bk:=D.nx } σ2 H2)
def zt (fp:tD) (h:Heap):List (Addr×Obj):=fp.filterMap fun b=>(h.get? b).map fun o=>(b,o)
theorem Vl {fp:tD}{h:Heap}{b:Addr}{o:Obj} (hb:b∈fp) (e:h.get? b=some o):(b,o)∈zt fp h:=List.mem_filterMap.mpr ⟨b,hb,by rw [e];rfl⟩
theorem ck {fp:tD}{h:Heap}{p:Addr×Obj} (hp:p∈zt fp h):p.1∈fp∧h.get? p.1=some p.2:=by
 obtain⟨b,hb,e⟩:=List.mem_filterMap.mp hp
 cases q:h.get? b with
 | none=>rw [q] at e;cases e
 | some o =>
  rw [q] at e
  have e':(b,o)=p:=Option.some.inj e
  subst e'
  exact⟨hb,q⟩
theorem jo.pinned {pins:tq}{σ:St}{H:Hp}{s:Shared}{fp:tD} (I:jo X pins σ H s) (hf:∀b∈fp,Vs X pins H b) (ho:∀b∈fp,∃o,s.heap.get? b=some o∧∀v,o.data≠.cell v):jo X (pins++zt fp s.heap) σ H s :=
 I.pins_of fun p hp=>(List.mem_append.mp hp).elim (fun z=>I.pin p (List.mem_append_right _ z)) fun z=>by
  obtain⟨hb,e⟩:=ck z
  obtain⟨f0,f1,f2,_⟩:=hf p.1 hb
  obtain⟨o,e',d⟩:=ho p.1 hb
  rw [e] at e';cases e'
  exact⟨e,f0,f1,f2,d⟩
theorem jo.unpinned {pins pl:tq}{σ:St}{H:Hp}{s:Shared} (I:jo X (pins++pl) σ H s):jo X pins σ H s:=I.pins_of fun p hp=>I.pin p (List.mem_append_right _ (List.mem_append_left _ hp))
theorem JJ {iter:Expr}{body:List Stmt}{wi:TI}{g:TG}{tb:TS}{pos:Pos} (hp:PassesOwn (model X.prog X.w) X.A X.env X.xe) (hi:PI X tg iter wi) (hg:PG X tg g) (hb:YZ X body tb)
  (hs:∀x,foldedSetIterable iter X.env x=pure x:=by intro _;rfl):PS X (.For tg iter body [] pos) (eO wi g tb):=by
 intro pins s σ H D I h
 refine wpAny_For (jC (hi pins s σ H _ I h) fun v s1 h1=>jC h1 fun itv s2 h2=>?_) hs
 obtain⟨it,fp,tn,J,H2,e,I2,T,st2,f2,W,⟨m0,w0⟩,turn⟩:=h2
 subst e
 obtain⟨nm,T,hc⟩:=T
 have stat:∀{H':Hp},(∀b∈fp,H' b=none)→∀b∈fp,Vs X pins H' b:=fun hn b hb=>⟨hn b hb,(f2 b hb).2⟩
 refine codeAny_forLoop_any (fun n s'=>∃i σ' H',jo X pins σ' H' s'∧tn i s'.heap∧(∀b∈fp,H' b=none)∧W i n σ' H') ?_ m0 ⟨0,σ,H2,I2,st2,fun b hb=>(f2 b hb).1,w0⟩
 rintro n s3 ⟨i,σ3,H3,I3,st3,fr3,w3⟩
 rcases turn i n σ3 H3 w3 with ⟨stop,qn⟩|⟨go,N,hN,step⟩
 ·refine wpAny_passesOwn hp (jC (T.done X rfl rfl rfl hc i pins s3 σ3 H3 X.xe I3 (stat fr3) st3 stop) fun r s4 ⟨hr,I4⟩=>?_)
  subst hr
  exact wpAny_execs_nil ⟨σ3,H3,I4,qn⟩
 ·refine wpAny_passesOwn hp (jC (T.item X rfl rfl rfl hc i pins s3 σ3 H3 X.xe I3 (stat fr3) st3 go) fun r s4 ⟨u,hr,h4⟩=>?_)
  subst hr
  refine wpAny_passesOwn hp (jC h4 fun _ s5 hh=>?_)
  obtain⟨x,H5,I5,r5,y5,st5,fr5⟩:=hh
  have I5':=I5.pinned (stat fr5) (T.obj _ _ st5)
  refine wpAny_passesOwn hp (jC (hg _ s5 σ3 H5 x u _ I5' r5 (step x H5 y5)) fun _ s6 ⟨σ6,H6,I6,q6⟩=>?_)
  refine wpAny_passesOwn hp (jC (hb _ s6 σ6 H6 _ I6 q6) fun f s7 q7=>?_)
  have again:∀{σ7:St} {H7:Hp},jo X (pins++zt fp s5.heap) σ7 H7 s7→N σ7 H7→∃m,m<n∧∃i σ' H',jo X pins σ' H' s7∧tn i s7.heap∧(∀b∈fp,H' b=none)∧W i m σ' H':=fun {σ7 H7} I7 n7=>by
   obtain⟨m',hm,w7⟩:=hN σ7 H7 n7
   refine⟨m',hm,i+1,σ7,H7,I7.unpinned,T.keep _ _ _ st5 fun b hb o e=>(I7.pin (b,o) (List.mem_append_right _ (List.mem_append_right _ (Vl hb e)))).1,fun b hb=>?_,w7⟩
   obtain⟨o,e,d⟩:=T.obj _ _ st5 b hb
   exact (I7.pin (b,o) (List.mem_append_right _ (List.mem_append_right _ (Vl hb e)))).2.1
  cases f with
  | next=>obtain⟨σ7,H7,I7,n7⟩:=q7;exact again I7 n7
  | cont=>obtain⟨σ7,H7,I7,n7⟩:=q7;exact again I7 n7
  | brk=>obtain⟨σ7,H7,I7,q7⟩:=q7;exact⟨σ7,H7,I7.unpinned,q7⟩
  | ret v=>obtain⟨x7,σ7,H7,I7,r7,q7⟩:=q7;exact⟨x7,σ7,H7,I7.unpinned,r7,q7⟩
end
theorem Ue {K:sZ}{a:Addr}{xs:List V}{g:TG}{tb:TS}{D:uP}{σ:St}{H:Hp} (Pv:Nat→St→Hp→Prop) (h0:Pv 0 σ H) (hl:∀i σ H,i≤xs.length→Pv i σ H→jD K H a xs)
  (hs:∀i x σ H,xs[i]?=some x→Pv i σ H→g x σ H fun σ2 H2=>tb { D with nx:=Pv (i+1),ct:=Pv (i+1),bk:=D.nx } σ2 H2) (hd:∀σ H,Pv xs.length σ H→D.nx σ H) :
  ∃W:Nat→Nat→St→Hp→Prop,(∃m,W 0 m σ H)∧∀i m σ H,W i m σ H →
   ((gk K a).stop i H∧D.nx σ H)∨((gk K a).go i H∧∃N:St→Hp→Prop,(∀σ' H',N σ' H'→∃m',m'<m∧W (i+1) m' σ' H')∧∀x H',(gk K a).yld i H x H'→g x σ H' fun σ2 H2=>tb { D with nx:=N,ct:=N,bk:=D.nx } σ2 H2):=by
 refine⟨fun i m σ H=>m=xs.length - i∧i≤xs.length∧Pv i σ H,⟨xs.length,by simp,Nat.zero_le _,h0⟩,?_⟩
 rintro i m σ H ⟨rfl,hi,p⟩
 have q:=hl i σ H hi p
 by_cases hlt:i<xs.length
 ·refine .inr ⟨⟨xs,xs[i],q,by simp [hlt]⟩,Pv (i+1),fun σ' H' p'=>⟨xs.length - (i+1),by omega,rfl,hlt,p'⟩,fun x H' y=>?_⟩
  obtain⟨e,y⟩:=y
  subst e
  exact hs i x σ _ (y xs q) p
 ·have e:i=xs.length:=by omega
  subst e
  exact .inl ⟨⟨xs,q,Nat.le_refl _⟩,hd σ H p⟩
theorem iA {K:sZ}{a:Addr}{xs:List V}{g:TG}{tb:TS}{D:uP}{σ:St}{H:Hp} (Pv:Nat→St→Hp→Prop) (h0:Pv 0 σ H) (hl:∀i σ H,i≤xs.length→Pv i σ H→jw K H a xs)
  (hs:∀i x σ H,xs[i]?=some x→Pv i σ H→g x σ H fun σ2 H2=>tb { D with nx:=Pv (i+1),ct:=Pv (i+1),bk:=D.nx } σ2 H2) (hd:∀σ H,Pv xs.length σ H→D.nx σ H) :
  ∃W:Nat→Nat→St→Hp→Prop,(∃m,W 0 m σ H)∧∀i m σ H,W i m σ H →
   ((KN K a).stop i H∧D.nx σ H)∨((KN K a).go i H∧∃N:St→Hp→Prop,(∀σ' H',N σ' H'→∃m',m'<m∧W (i+1) m' σ' H')∧∀x H',(KN K a).yld i H x H'→g x σ H' fun σ2 H2=>tb { D with nx:=N,ct:=N,bk:=D.nx } σ2 H2):=by
 refine⟨fun i m σ H=>m=xs.length - i∧i≤xs.length∧Pv i σ H,⟨xs.length,by simp,Nat.zero_le _,h0⟩,?_⟩
 rintro i m σ H ⟨rfl,hi,p⟩
 have q:=hl i σ H hi p
 by_cases hlt:i<xs.length
 ·refine .inr ⟨⟨xs,xs[i],q,by simp [hlt]⟩,Pv (i+1),fun σ' H' p'=>⟨xs.length - (i+1),by omega,rfl,hlt,p'⟩,fun x H' y=>?_⟩
  obtain⟨e,y⟩:=y
  subst e
  exact hs i x σ _ (y xs q) p
 ·have e:i=xs.length:=by omega
  subst e
  exact .inl ⟨⟨xs,q,Nat.le_refl _⟩,hd σ H p⟩
theorem uN {lo:Int}{n:Nat}{g:TG}{tb:TS}{D:uP}{σ:St}{H:Hp} (Pv:Nat→St→Hp→Prop) (h0:Pv 0 σ H)
  (hs:∀i σ H,i<n→Pv i σ H→g (.int (lo+i)) σ H fun σ2 H2=>tb { D with nx:=Pv (i+1),ct:=Pv (i+1),bk:=D.nx } σ2 H2) (hd:∀σ H,Pv n σ H→D.nx σ H) :
  ∃W:Nat→Nat→St→Hp→Prop,(∃m,W 0 m σ H)∧∀i m σ H,W i m σ H →
   ((YU lo n).stop i H∧D.nx σ H)∨((YU lo n).go i H∧∃N:St→Hp→Prop,(∀σ' H',N σ' H'→∃m',m'<m∧W (i+1) m' σ' H')∧∀x H',(YU lo n).yld i H x H'→g x σ H' fun σ2 H2=>tb { D with nx:=N,ct:=N,bk:=D.nx } σ2 H2):=by
 refine⟨fun i m σ H=>m=n - i∧i≤n∧Pv i σ H,⟨n,by simp,Nat.zero_le _,h0⟩,?_⟩
 rintro i m σ H ⟨rfl,hi,p⟩
 by_cases hlt:i<n
 ·refine .inr ⟨hlt,Pv (i+1),fun σ' H' p'=>⟨n - (i+1),by omega,rfl,hlt,p'⟩,fun x H' y=>?_⟩
  obtain⟨e,y⟩:=y
  subst e y
  exact hs i σ _ hlt p
 ·have e:i=n:=by omega
  subst e
  exact .inl ⟨Nat.le_refl _,hd σ H p⟩
end L2
namespace L2
open PySem PySem.Spec PyProof.Rows
abbrev R2:=V→V→Hp→VK→Prop
def ul (X:Cx) (f:Value→Value→Sem Value) (r:R2):Prop :=
 ∀(pins:tq) (s:Shared) (σ:St) (H:Hp) (x y:V) (v u:Value) (Q:VK),jo X pins σ H s→jE x v→jE y u→r x y H Q →
  wpAny (model X.prog X.w) X.A (f v u) (EP X pins σ Q) X.xe s
def ux (X:Cx) (f:Value) (r:List V→Hp→VK→Prop):Prop :=
 ∀(pins:tq) (s:Shared) (σ:St) (H:Hp) (xs:List V) (us:tz) (Q:VK),jo X pins σ H s→jB xs us→r xs H Q →
  wpAny (model X.prog X.w) X.A (call f us) (EP X pins σ Q) X.xe s
def cR (r:R2) (ta tb:TE):TE:=fun σ H Q=>ta σ H fun x H1=>tb σ H1 fun y H2=>r x y H2 Q
def rI (C:Int→Int→Prop) (g:Int→Int→V):R2:=fun x y H Q=>∃i j,x=.int i∧y=.int j∧C i j∧Q (g i j) H
def MC (g:Int→Int→V):R2:=fun x y H Q=>∃i j,x=.int i∧y=.int j∧Q (g i j) H
section
variable {X:Cx}{a b c:Expr}{ta tb tc:TE}{pos:Pos}
theorem c6 (ha:PE X a ta) (hb:PE X b tb) {pins:tq} {s:Shared} {σ:St} {H:Hp} {R:V→V→Hp→Prop} (I:jo X pins σ H s)
  (h:ta σ H fun x H1=>tb σ H1 fun y H2=>R x y H2) {Q:sV} {f:Value→Value→Sem Value}
  (hf:∀v u s2 x y H2,jo X pins σ H2 s2→jE x v→jE y u→R x y H2→wpAny (model X.prog X.w) X.A (f v u) Q X.xe s2) :
  wpAny (model X.prog X.w) X.A (eval a X.env) (fun v s₁=>wpAny (model X.prog X.w) X.A (eval b X.env) (fun u s₂=>wpAny (model X.prog X.w) X.A (f v u) Q X.xe s₂) X.xe s₁) X.xe s:=by
 refine jC (ha pins s σ H _ I h) fun v s1 ⟨x,H1,I1,r1,q1⟩=>?_
 refine jC (hb pins s1 σ H1 _ I1 q1) fun u s2 ⟨y,H2,I2,r2,q2⟩=>?_
 exact hf v u s2 x y H2 I2 r1 r2 q2
theorem jr {op:Operator}{r:R2} (ho:ul X (binaryOp op) r) (ha:PE X a ta) (hb:PE X b tb):PE X (.BinOp a op b pos) (cR r ta tb):=by
 intro pins s σ H Q I h
 exact wpAny_BinOp (c6 ha hb I h fun v u s2 x y H2 I2 rx ry q=>ho pins s2 σ H2 x y v u Q I2 rx ry q)
theorem fP {f:Value→Value→Sem Value}{C:Int→Int→Prop}{g:Int→Int→Int}
  (rule:∀(i j:Int) (t u:Tok) (s:Shared) (Q:sV) (E:sV),C i j→Q (.int (g i j) s.toks) { s with toks:=s.toks+1 }→wpAny (model X.prog X.w) X.A (f (.int i t) (.int j u)) Q E s) :
  ul X f (rI C fun i j=>.int (g i j)):=by
 intro pins s σ H x y v u Q I rx ry h
 obtain⟨i,j,rfl,rfl,hc,q⟩:=h
 obtain⟨t,rfl⟩:=rx
 obtain⟨t',rfl⟩:=ry
 exact rule i j t t' s _ _ hc ⟨.int (g i j),H,I.tok _,⟨_,rfl⟩,q⟩
theorem pI {f:Value→Value→Sem Value}{g:Int→Int→Int}
  (rule:∀(i j:Int) (t u:Tok) (s:Shared) (Q:sV) (E:sV),Q (.int (g i j) s.toks) { s with toks:=s.toks+1 }→wpAny (model X.prog X.w) X.A (f (.int i t) (.int j u)) Q E s) :
  ul X f (MC fun i j=>.int (g i j)):=by
 intro pins s σ H x y v u Q I rx ry h
 obtain⟨i,j,rfl,rfl,q⟩:=h
 obtain⟨t,rfl⟩:=rx
 obtain⟨t',rfl⟩:=ry
 exact rule i j t t' s _ _ ⟨.int (g i j),H,I.tok _,⟨_,rfl⟩,q⟩
theorem dJ {f:Value→Value→Sem Value}{g:Int→Int→Bool}
  (rule:∀(i j:Int) (t u:Tok) (s:Shared) (Q:sV) (E:sV),Q (.bool (g i j)) s→wpAny (model X.prog X.w) X.A (f (.int i t) (.int j u)) Q E s) :
  ul X f (MC fun i j=>.bl (g i j)):=by
 intro pins s σ H x y v u Q I rx ry h
 obtain⟨i,j,rfl,rfl,q⟩:=h
 obtain⟨t,rfl⟩:=rx
 obtain⟨t',rfl⟩:=ry
 exact rule i j t t' s _ _ ⟨.bl (g i j),H,I,rfl,q⟩
def rG (i j:Int):Prop:=0<j∧j<1073741824
def rH (i j:Int):Prop:=0≤j∧j≤1000000∧i.natAbs<2^64
def NY (i j:Int):Prop:=(-(2^64)<i∧i<2^64)∨(-(2^64)<j∧j<2^64)
theorem NY.ok {i j:Int} (h:NY i j):IntMulOk i j:=by
 rcases h with ⟨h1,h2⟩|⟨h1,h2⟩
 ·exact .of_left (intBits_le_64 h1 h2)
 ·exact .of_right (intBits_le_64 h1 h2)
theorem jZ:ul X (binaryOp .Add) (MC fun i j=>.int (i+j)):=pI fun _ _ _ _ _ _ _ q=>add_int q
theorem jQ:ul X (binaryOp .Sub) (MC fun i j=>.int (i - j)):=pI fun _ _ _ _ _ _ _ q=>sub_int q
theorem VF:ul X (binaryOp .Mult) (rI NY fun i j=>.int (i*j)):=fP fun _ _ _ _ _ _ _ hc q=>mul_int q hc.ok
theorem JB:ul X (binaryOp .FloorDiv) (rI rG fun i j=>.int (i / j)):=fP fun i j _ _ _ _ _ hc q=>by
 have h1:(0:Int)<j:=hc.1
 have h2:j<1073741824:=hc.2
 exact floordiv_int (by omega) (by rw [Int.fdiv_eq_ediv_of_nonneg i (by omega)];exact q) (.inl (PyProof.noPylong_small (by omega)))
theorem JC:ul X (binaryOp .Mod) (rI (fun _ j=>0<j) fun i j=>.int (i % j)):=fP fun i j _ _ _ _ _ hc q=>by
 have h1:(0:Int)<j:=hc
 exact mod_int' (by omega) (by rw [Int.fmod_eq_emod_of_nonneg i (by omega)];exact q)
theorem cq:ul X (binaryOp .Pow) (rI rH fun i j=>.int (i^j.toNat)):=fP fun _ _ _ _ _ _ _ hc q=>pow_int_small hc.1 hc.2.1 hc.2.2 q
end
def eB:V→V→Bool
 | .non,.non=>true|.non,.int _=>true|.int _,.non=>true|.non,.bl _=>true|.bl _,.non=>true|.non,.str _=>true|.str _,.non=>true
 | .int _,.int _=>true|.bl _,.bl _=>true|.str _,.str _=>true|.byt _,.byt _=>true
 | .int _,.str _=>true|.str _,.int _=>true|.bl _,.str _=>true|.str _,.bl _=>true
 | _,_=>false
def sF:R2:=fun x y H Q=>eB x y=true∧Q (.bl (decide (x=y))) H
def sI:R2:=fun x y H Q=>eB x y=true∧Q (.bl (!decide (x=y))) H
theorem Nn {i j:Int}:decide (V.int i=V.int j)=(i==j):=by
 rw [Bool.eq_iff_iff]
 simp
theorem bp {i j:Bool}:decide (V.bl i=V.bl j)=(i==j):=by
 rw [Bool.eq_iff_iff]
 simp
theorem No {i j:Str}:decide (V.str i=V.str j)=(i==j):=by
 rw [Bool.eq_iff_iff]
 simp
theorem Nm {i j:Array UInt8}:decide (V.byt i=V.byt j)=(i.toList==j.toList):=by
 rw [Bool.eq_iff_iff]
 cases i
 cases j
 simp
section
variable {X:Cx}{a b c:Expr}{ta tb tc:TE}{pos:Pos}
theorem j0 {pins:tq}{σ:St}{H:Hp}{s:Shared}{Q:VK}{k k':Bool} (I:jo X pins σ H s) (q:Q (.bl k) H) (e:k=k'):EP X pins σ Q (.bool k') s:=by
 subst e
 exact⟨.bl k,H,I,rfl,q⟩
theorem j9:ul X (compareOp .Eq) sF:=by
 intro pins s σ H x y v u Q I rx ry h
 obtain⟨hs,q⟩:=h
 cases x with
 | non =>
  cases rx
  cases y with
  | non=>cases ry;exact PySem.EqNone.eq_none_none (j0 I q (by simp))
  | bl j=>cases ry;exact PySem.EqNone.eq_none_bool (j0 I q (by simp))
  | int j=>obtain⟨t',rfl⟩:=ry;exact PySem.EqNone.eq_none_int (j0 I q (by simp))
  | str j=>obtain⟨t',rfl⟩:=ry;exact PySem.EqNone.eq_none_str (j0 I q (by simp))
  | _=>exact absurd (show false=true from hs) Bool.false_ne_true
 | bl i =>
  cases rx
  cases y with
  | non=>cases ry;exact PySem.EqNone.eq_bool_none (j0 I q (by simp))
  | bl j=>cases ry;exact eq_bool (j0 I q bp)
  | str j=>obtain⟨t',rfl⟩:=ry;exact PySem.EqMixed.eq_bool_str (j0 I q (by simp))
  | _=>exact absurd (show false=true from hs) Bool.false_ne_true
 | int i =>
  obtain⟨t,rfl⟩:=rx
  cases y with
  | non=>cases ry;exact PySem.EqNone.eq_int_none (j0 I q (by simp))
  | int j=>obtain⟨t',rfl⟩:=ry;exact eq_int (j0 I q Nn)
  | str j=>obtain⟨t',rfl⟩:=ry;exact PySem.EqMixed.eq_int_str (j0 I q (by simp))
  | _=>exact absurd (show false=true from hs) Bool.false_ne_true
 | str i =>
  obtain⟨t,rfl⟩:=rx
  cases y with
  | non=>cases ry;exact PySem.EqNone.eq_str_none (j0 I q (by simp))
  | bl j=>cases ry;exact PySem.EqMixed.eq_str_bool (j0 I q (by simp))
  | int j=>obtain⟨t',rfl⟩:=ry;exact PySem.EqMixed.eq_str_int (j0 I q (by simp))
  | str j=>obtain⟨t',rfl⟩:=ry;exact eq_str (j0 I q No)
  | _=>exact absurd (show false=true from hs) Bool.false_ne_true
 | byt i =>
  obtain⟨t,rfl⟩:=rx
  cases y with
  | byt j=>obtain⟨t',rfl⟩:=ry;exact PySem.W.eq_bytes (j0 I q Nm)
  | _=>exact absurd (show false=true from hs) Bool.false_ne_true
 | _=>cases y<;>exact absurd (show false=true from hs) Bool.false_ne_true
theorem gW:ul X (compareOp .NotEq) sI:=by
 intro pins s σ H x y v u Q I rx ry h
 obtain⟨hs,q⟩:=h
 cases x with
 | non =>
  cases rx
  cases y with
  | non=>cases ry;exact PySem.EqNone.ne_none_none (j0 I q (by simp))
  | bl j=>cases ry;exact PySem.EqNone.ne_none_bool (j0 I q (by simp))
  | int j=>obtain⟨t',rfl⟩:=ry;exact PySem.EqNone.ne_none_int (j0 I q (by simp))
  | str j=>obtain⟨t',rfl⟩:=ry;exact PySem.EqNone.ne_none_str (j0 I q (by simp))
  | _=>exact absurd (show false=true from hs) Bool.false_ne_true
 | bl i =>
  cases rx
  cases y with
  | non=>cases ry;exact PySem.EqNone.ne_bool_none (j0 I q (by simp))
  | bl j=>cases ry;exact ne_bool (j0 I q (congrArg not bp))
  | str j=>obtain⟨t',rfl⟩:=ry;exact PySem.EqMixed.ne_bool_str (j0 I q (by simp))
  | _=>exact absurd (show false=true from hs) Bool.false_ne_true
 | int i =>
  obtain⟨t,rfl⟩:=rx
  cases y with
  | non=>cases ry;exact PySem.EqNone.ne_int_none (j0 I q (by simp))
  | int j=>obtain⟨t',rfl⟩:=ry;exact ne_int (j0 I q (congrArg not Nn))
  | str j=>obtain⟨t',rfl⟩:=ry;exact PySem.EqMixed.ne_int_str (j0 I q (by simp))
  | _=>exact absurd (show false=true from hs) Bool.false_ne_true
 | str i =>
  obtain⟨t,rfl⟩:=rx
  cases y with
  | non=>cases ry;exact PySem.EqNone.ne_str_none (j0 I q (by simp))
  | bl j=>cases ry;exact PySem.EqMixed.ne_str_bool (j0 I q (by simp))
  | int j=>obtain⟨t',rfl⟩:=ry;exact PySem.EqMixed.ne_str_int (j0 I q (by simp))
  | str j=>obtain⟨t',rfl⟩:=ry;exact ne_str (j0 I q (congrArg not No))
  | _=>exact absurd (show false=true from hs) Bool.false_ne_true
 | byt i =>
  obtain⟨t,rfl⟩:=rx
  cases y with
  | byt j=>obtain⟨t',rfl⟩:=ry;exact PySem.W.ne_bytes (j0 I q (congrArg not Nm))
  | _=>exact absurd (show false=true from hs) Bool.false_ne_true
 | _=>cases y<;>exact absurd (show false=true from hs) Bool.false_ne_true
theorem U2:ul X (compareOp .Lt) (MC fun i j=>.bl (decide (i<j))):=dJ fun _ _ _ _ _ _ _ q=>lt_int q
theorem y6:ul X (compareOp .LtE) (MC fun i j=>.bl (decide (i≤j))):=dJ fun _ _ _ _ _ _ _ q=>le_int q
theorem fQ:ul X (compareOp .Gt) (MC fun i j=>.bl (decide (j<i))):=dJ fun _ _ _ _ _ _ _ q=>gt_int q
theorem jy (b:Expr) {op:CmpOp} (h:op≠.In:=by decide) (h2:op≠.NotIn:=by decide):behindInMarks op b=false:=by
 have e1:(op==CmpOp.In)=false:=by cases op<;>first|rfl|exact absurd rfl h
 have e2:(op==CmpOp.NotIn)=false:=by cases op<;>first|rfl|exact absurd rfl h2
 cases b<;>simp [behindInMarks,e1,e2]
theorem JP {op:CmpOp}{r:R2} (ho:ul X (compareOp op) r) (ha:PE X a ta) (hb:PE X b tb) (hm:behindInMarks op b=false):PE X (.Compare a [op] [b] pos) (cR r ta tb):=by
 intro pins s σ H Q I h
 exact wpAny_Compare1 (c6 ha hb I h fun v u s2 x y H2 I2 rx ry q=>ho pins s2 σ H2 x y v u Q I2 rx ry q) hm
def fZ (t:TE):TT:=fun σ H Q=>t σ H fun x H'=>∃k,x=.bl k∧Q k H'
theorem jH {op:CmpOp}{r:R2} (ho:ul X (compareOp op) r) (ha:PE X a ta) (hb:PE X b tb) (hm:behindInMarks op b=false):PT X (.Compare a [op] [b] pos) (fZ (cR r ta tb)):=by
 intro pins s σ H Q I h
 refine wpAny_isTrue_Compare1 (jC (ha pins s σ H _ I h) fun v s1 ⟨x,H1,I1,r1,q1⟩=>jC (hb pins s1 σ H1 _ I1 q1) fun u s2 ⟨y,H2,I2,r2,q2⟩ =>
  jC (ho pins s2 σ H2 x y v u _ I2 r1 r2 q2) fun c s3 ⟨z,H3,I3,r3,k,e,q3⟩=>?_) hm
 subst e
 cases r3
 exact wpAny_truthy_bool ⟨H3,I3,q3⟩
def cQ (r r':R2) (ta tb tc:TE):TE:=fun σ H Q=>ta σ H fun x H1=>tb σ H1 fun y H2=>r x y H2 fun z H3=>∃k,z=.bl k ∧
 (if k=true then tc σ H3 fun w' H4=>r' y w' H4 Q else Q (.bl false) H3)
theorem y8 {op op':CmpOp}{r r':R2} (ho:ul X (compareOp op) r) (ho':ul X (compareOp op') r') (ha:PE X a ta) (hb:PE X b tb) (hc:PE X c tc)
  (hm:lastMarks [op,op'] [b,c]=false:=by with_unfolding_all rfl):PE X (.Compare a [op,op'] [b,c] pos) (cQ r r' ta tb tc):=by
 intro pins s σ H Q I h
 refine Compare_chain (jC (ha pins s σ H _ I h) fun v s1 ⟨x,H1,I1,r1,q1⟩=>chain_link (jC (hb pins s1 σ H1 _ I1 q1) fun u s2 ⟨y,H2,I2,r2,q2⟩ =>
  jC (ho pins s2 σ H2 x y v u _ I2 r1 r2 q2) fun d s3 ⟨z,H3,I3,r3,k,e,q3⟩=>?_)) hm
 subst e
 cases r3
 refine wpAny_truthy_bool ?_
 cases k with
 | false=>exact ite_ff ⟨.bl false,H3,I3,rfl,q3⟩
 | true=>exact ite_tt (chain_last (jC (hc pins s3 σ H3 _ I3 q3) fun w' s4 ⟨z',H4,I4,r4,q4⟩=>ho' pins s4 σ H4 y z' u w' Q I4 r2 r4 q4))
theorem MA {op op':CmpOp}{r r':R2} (ho:ul X (compareOp op) r) (ho':ul X (compareOp op') r') (ha:PE X a ta) (hb:PE X b tb) (hc:PE X c tc)
  (hm:lastMarks [op,op'] [b,c]=false:=by with_unfolding_all rfl):PT X (.Compare a [op,op'] [b,c] pos) (fZ (cQ r r' ta tb tc)):=by
 intro pins s σ H Q I h
 refine isTrue_chain (jC (ha pins s σ H _ I h) fun v s1 ⟨x,H1,I1,r1,q1⟩=>test_link (jC (hb pins s1 σ H1 _ I1 q1) fun u s2 ⟨y,H2,I2,r2,q2⟩ =>
  jC (ho pins s2 σ H2 x y v u _ I2 r1 r2 q2) fun d s3 ⟨z,H3,I3,r3,k,e,q3⟩=>?_)) hm
 subst e
 cases r3
 refine wpAny_truthy_bool ?_
 cases k with
 | false =>
  obtain⟨k',e',q'⟩:=q3
  cases e'
  exact ite_ff ⟨H3,I3,q'⟩
 | true =>
  refine ite_tt (test_last (jC (hc pins s3 σ H3 _ I3 q3) fun w' s4 ⟨z',H4,I4,r4,q4⟩=>jC (ho' pins s4 σ H4 y z' u w' _ I4 r2 r4 q4) fun d' s5 hh=>?_))
  obtain⟨z2,H5,I5,r5,k2,e2,q5⟩:=hh
  subst e2
  cases r5
  exact wpAny_truthy_bool ⟨H5,I5,q5⟩
theorem mT:(sizeLine:Nat)<2^63:=by rw [sizeLine_eq];decide
theorem Uk {x:V}{us:tz} (r:jB [x] us):∃u,us=[u]∧jE x u:=by
 cases r with
 | cons r1 r2=>cases r2;exact⟨_,rfl,r1⟩
theorem Ky {x y:V}{us:tz} (r:jB [x,y] us):∃u w',us=[u,w']∧jE x u∧jE y w':=by
 cases r with
 | cons r1 r2 =>
  cases r2 with
  | cons r3 r4=>cases r4;exact⟨_,_,rfl,r1,r3⟩
theorem K5:ux X (.builtin "abs") (fun xs H Q=>∃i,xs=[.int i]∧Q (.int (if i<0 then -i else i)) H):=by
 intro pins s σ H xs us Q I r h
 obtain⟨i,rfl,q⟩:=h
 obtain⟨u,rfl,t,rfl⟩:=Uk r
 exact call_abs_int fun u tk=>⟨.int (if i<0 then -i else i),H,I.tok _,⟨_,rfl⟩,q⟩
theorem G4 (hc:X.calm=true):ux X (.builtin "min") (fun xs H Q=>∃i j,xs=[.int i,.int j]∧Q (.int (if j<i then j else i)) H):=by
 intro pins s σ H xs us Q I r h
 obtain⟨i,j,rfl,q⟩:=h
 obtain⟨u,w',rfl,⟨t,rfl⟩,⟨t',rfl⟩⟩:=Ky r
 refine min_two_ints (I.ok.hd hc) fun h' tk k=>⟨_,H,I.kept k,?_,q⟩
 by_cases hj:j<i
 ·rw [if_pos hj,if_pos hj];exact⟨_,rfl⟩
 ·rw [if_neg hj,if_neg hj];exact⟨_,rfl⟩
theorem bc:ux X (.type "int") (fun xs H Q=>(∃i,xs=[.int i]∧Q (.int i) H)∨∃k,xs=[.bl k]∧Q (.int (if k then 1 else 0)) H):=by
 intro pins s σ H xs us Q I r h
 rcases h with ⟨i,rfl,q⟩|⟨k,rfl,q⟩
 ·obtain⟨u,rfl,t,rfl⟩:=Uk r
  exact call_int_int ⟨.int i,H,I,⟨_,rfl⟩,q⟩
 ·obtain⟨u,rfl,r1⟩:=Uk r
  cases r1
  exact call_int_bool ⟨.int (if k then 1 else 0),H,I.tok _,⟨_,rfl⟩,q⟩
end
end L2
namespace L2
open PySem PySem.Spec PyProof.Rows
structure ZR (h:Heap) (x dx C:Addr) (mA:tj):Prop where
 obj:h.get? x=some (instObj C dx)
 ns:h.Ns1 dx mA
 ne:dx≠x
theorem b8 {h:Heap}{dx:Addr}{mA:tj} (n:h.Ns1 dx mA):∃od,h.get? dx=some od∧∀name,lookIn name od=some (mA name):=by
 obtain⟨o,es,ep,ho,hd,hk,_,hm⟩:=n
 refine⟨o,ho,fun name=>?_⟩
 have e:=hm name
 unfold nsFind findBy at e
 rw [←Array.find?_toList] at e
 unfold lookIn
 rw [hd]
 dsimp only
 split
 ·rename_i y q
  rw [q] at e
  exact congrArg some e
 ·rename_i q
  rw [q] at e
  have a:es.toList.any (·.refKey)=false:=by
   rw [List.any_eq_false]
   intro y hy
   obtain⟨z,t,hkey⟩:=hk y (Array.mem_toList_iff.mp hy)
   simp [DictEntry.refKey,hkey]
  have a':¬es.toList.any (·.refKey)=true:=by rw [a];exact Bool.false_ne_true
  rw [if_neg a']
  exact congrArg some e
theorem ZR.look {h:Heap}{x dx C:Addr}{mA:tj} (I:ZR h x dx C mA):∃od,InstAt h x (instObj C dx) C (some od)∧∀name,lookIn name od=some (mA name) :=
 let ⟨od,ho,hl⟩:=b8 I.ns
 ⟨od,⟨I.obj,rfl,rfl,ho⟩,hl⟩
section
variable {prog:tM}{w:World}{A:Around}{E:sV}{s:Shared}{K:sZ}{x dx C f:Addr}{mA:tj}{name:Str}{v:Value}
theorem iJ {expr:Bool}{Q:sV} (X:K.In s.heap) (I:ZR s.heap x dx C mA) (hg:plainGet K C name=true) (hh:hasDictIn K C=true)
  (ha:findIn K (.ref C) name=some none) (hv:mA name=some v) (hv':handedIn v=true) (h:Q v { s with toks:=s.toks+1 }) :
  wpAny (model prog w) A (getAttr (.ref x) name expr) Q E s:=by
 obtain⟨od,J,hl⟩:=I.look
 exact PySem.W.get_value X J (plainGet_of hg).1 (PySem.W.findObj_own hh ha rfl (by rw [hl,hv])) hv' h
theorem dj {pl:Sem Bool}{Q:Value×List Value→Shared→Prop} (X:K.In s.heap) (I:ZR s.heap x dx C mA) (hg:plainGet K C name=true)
  (hf:findIn K (.ref C) name=some (some (.ref f))) (ht:isFn K (.ref f)=true) (hv:mA name=none) (h:Q (.ref f,[.ref x]) s) :
  wpAny (model prog w) A (getMethod (.ref x) name pl) Q E s:=by
 obtain⟨od,J,hl⟩:=I.look
 exact PySem.W.method_fn X J (plainGet_of hg).1 (plainGet_of hg).2 hf (beq_iff_eq.mp ht) (by show (lookIn name od).map (·.isSome)=some false;rw [hl,hv];rfl) h
theorem lA {ns:tH}{Q:sW} (X:K.In s.heap) (I:ZR s.heap x dx C mA)
  (hs:findIn K (.ref C) "__setattr__"=some (some (.builtin "object.__setattr__"))) (hp:plainOver K C=true) (ht:takerIn K C name=some none) (hh:hasDictIn K C=true)
  (hw:PySem.Within mA ns) (hsz:ns.length≤sizeLine)
  (h:∀h',ZR h' x dx C (fun y=>if y=name then some v else mA y)→Heap.SameBut dx s.heap h'→Q () { s with heap:=h',toks:=s.toks+2 }) :
  wpAny (model prog w) A (setAttr (.ref x) name v) Q E s:=by
 obtain⟨od,J,hl⟩:=I.look
 refine PySem.W.set_plain X J hs (PySem.W.osa_open (s:={ s with toks:=s.toks+1 }) (r:=none) X J hp ht fun b=>?_)
 obtain⟨cd,hc,hd'⟩:=PySem.W.any_some hh
 have hx:s.heap.get? x=some ⟨.ref C,some dx,.plain,#[]⟩:=I.obj
 refine tO (tP (tO (tO (wpAny_loadPart hx (tO (Looks.here (s:={ s with toks:=s.toks+1 }) (PySem.W.looks_clsIn X hc) ?_))))))
 rw [hd']
 refine tP (a:=some dx) (tO (tP (tO ?_)))
 refine wpAny_nsSet1 (s:={ s with toks:=s.toks+1 }) I.ns fun h' hn2 hs2=>?_
 obtain⟨oD,esD,epD,hoD,hdD,hcD⟩:=hn2.count (PySem.Within.cons name v hw)
 refine tO (wpAny_lookBehind hoD (by rw [hdD];exact pastItsLine_dict (Nat.le_trans hcD (by rw [List.length_cons];omega))) ?_)
 exact tP (h _ ⟨(hs2.2 _ (Ne.symm I.ne)).trans I.obj,hn2,I.ne⟩ hs2)
theorem dC {R:Result→Shared→Prop}{vs:tz}{kw:List (Str×Value)} (X:K.In s.heap) (hm:makesIn K C=true)
  (hi:findIn K (.ref C) "__init__"=some (some (.ref f))) (hf:typeIn K (.ref f)=some (.type "function"))
  (h:codeAny (model prog w) (A.under (.builtin "type.__call__" ⟨.ref C::vs,kw⟩)) (.call (.ref f) ⟨.ref (s.heap.objs.size+1)::vs,kw⟩) (PySem.W.InitBack (s.heap.objs.size+1) R)
   { s with heap:=(s.heap.push emptyDict).push (instObj C s.heap.objs.size) }) :
  codeAny (model prog w) A (.call (.ref C) ⟨vs,kw⟩) R s:=by
 obtain⟨hh,g,d,t,os⟩:=s
 exact PySem.W.make_core (PySem.W.makes_of X hm) (PySem.W.looks_findIn X hi) (fun self=>PySem.W.bind_fn X self hf) (.inl rfl) h
end
def Js (f:Str) (v:V):List (Str×V)→List (Str×V)
 | []=>[(f,v)]
 | (g,x)::r=>if g=f then (g,v)::r else (g,x)::Js f v r
theorem Zy (f g:Str) (v:V):∀fs:List (Str×V),(Js f v fs).lookup g=if g=f then some v else fs.lookup g
 | []=>by
  show List.lookup g [(f,v)]=_
  by_cases h:g=f
  ·have hb:(g==f)=true:=beq_iff_eq.mpr h
   simp only [List.lookup,hb,if_pos h]
  ·have hb:(g==f)=false:=beq_eq_false_iff_ne.mpr h
   simp only [List.lookup,hb,if_neg h]
 | (k,x)::r=>by
  have ih:=Zy f g v r
  rw [show Js f v ((k,x)::r)=(if k=f then (k,v)::r else (k,x)::Js f v r) from rfl]
  by_cases hk:k=f
  ·rw [if_pos hk]
   by_cases h:g=k
   ·have hb:(g==k)=true:=beq_iff_eq.mpr h
    simp only [List.lookup,hb,if_pos (h.trans hk)]
   ·have hb:(g==k)=false:=beq_eq_false_iff_ne.mpr h
    simp only [List.lookup,hb,if_neg (fun e:g=f=>h (e.trans hk.symm))]
  ·rw [if_neg hk]
   by_cases h:g=k
   ·have hb:(g==k)=true:=beq_iff_eq.mpr h
    simp only [List.lookup,hb,if_neg (fun e:g=f=>hk (h.symm.trans e))]
   ·have hb:(g==k)=false:=beq_eq_false_iff_ne.mpr h
    simp only [List.lookup,hb]
    exact ih
theorem zm (f:Str) (v:V):∀fs:List (Str×V),f∈(Js f v fs).map (·.1)∧∀g,g∈fs.map (·.1)→g∈(Js f v fs).map (·.1)
 | []=>⟨by simp [Js],fun g h=>by simp at h⟩
 | (k,x)::r=>by
  obtain⟨i1,i2⟩:=zm f v r
  rw [show Js f v ((k,x)::r)=(if k=f then (k,v)::r else (k,x)::Js f v r) from rfl]
  by_cases hk:k=f
  ·rw [if_pos hk]
   subst hk
   exact⟨by simp,fun g h=>by simpa using h⟩
  ·rw [if_neg hk]
   refine⟨?_,fun g h=>?_⟩
   ·rw [List.map_cons]
    exact List.mem_cons_of_mem _ i1
   ·rw [List.map_cons] at h ⊢
    rcases List.mem_cons.mp h with e|e
    ·exact List.mem_cons.mpr (.inl e)
    ·exact List.mem_cons_of_mem _ (i2 g e)
theorem Zx (f:Str) (v:V):∀fs:List (Str×V),(Js f v fs).length≤fs.length+1
 | []=>by simp [Js]
 | (k,x)::r=>by
  have ih:=Zx f v r
  rw [show Js f v ((k,x)::r)=(if k=f then (k,v)::r else (k,x)::Js f v r) from rfl]
  by_cases hk:k=f
  ·rw [if_pos hk,List.length_cons,List.length_cons];omega
  ·rw [if_neg hk,List.length_cons,List.length_cons];omega
theorem UU.some_of {v:V}{o:Option Value} (r:UU (some v) o):∃u,o=some u∧jE v u:=by
 cases o with
 | none=>exact (show False from r).elim
 | some u=>exact⟨u,rfl,r⟩
theorem UU.none_of {o:Option Value} (r:UU none o):o=none:=by
 cases o with
 | none=>rfl
 | some u=>exact (show False from r).elim
theorem bE {v:V}{u:Value} (r:jE v u):handedIn u=true:=by
 cases v with
 | non=>cases (show u=Value.none from r);rfl
 | bl b=>cases (show u=Value.bool b from r);rfl
 | int i=>obtain⟨t,e⟩:=(show ∃t,u=Value.int i t from r);cases e;rfl
 | str x=>obtain⟨t,e⟩:=(show ∃t,u=Value.str x t from r);cases e;rfl
 | byt b=>obtain⟨t,e⟩:=(show ∃t,u=Value.bytes b t from r);cases e;rfl
 | flt b=>obtain⟨t,e⟩:=(show ∃t,u=Value.float b t from r);cases e;rfl
 | ref a=>cases (show u=Value.ref a from r);rfl
 | ty n=>cases (show u=Value.type n from r);rfl
section
variable {P:tM}{w:World}{H H':Hp}{h h':Heap}{a C dx:Addr}{fs fs':List (Str×V)}
theorem zP (hok:Jm P w H h) (e:H a=some (.ins C dx fs)):∃mA,ZR h a dx C mA∧(∀f,UU (fs.lookup f) (mA f))∧PySem.Within mA (fs.map (·.1))∧fs.length≤1000∧H dx=some (.own a):=by
 obtain⟨d,z,ne,ob,mA,n,r,q⟩:=(show j3 P w H h a (.ins C dx fs) from hok a _ e)
 exact⟨mA,⟨ob,n,ne⟩,r,q,z,d⟩
end
structure vw (K:sZ) (C:Addr):Prop where
 pg:plainGet K C Str.empty=true
 hd:hasDictIn K C=true
 po:plainOver K C=true
 sa:findIn K (.ref C) "__setattr__"=some (some (.builtin "object.__setattr__"))
theorem vw.get {K:sZ}{C:Addr} (c:vw K C) (f:Str):plainGet K C f=true:=c.pg
def Jf (K:sZ) (C:Addr) (f:Str):Prop:=findIn K (.ref C) f=some none
theorem Jf.taker {K:sZ}{C:Addr}{f:Str} (n:Jf K C f):takerIn K C f=some none:=by
 unfold takerIn
 rw [show findIn K (.ref C) f=some none from n]
 rfl
structure Jw (K:sZ) (C:Addr) (m:Str) (f:Addr):Prop where
 at_:findIn K (.ref C) m=some (some (.ref f))
 fn:isFn K (.ref f)=true
 kp:keepIn K (.ref f)=true
section
variable {X:Cx}{pins:tq}{σ:St}{H:Hp}{s:Shared}{a C dx:Addr}{fs:List (Str×V)}{f:Str}{v:V}{A:Around}{E:sV}
theorem am {b:Bool}{Q:sV} (I:jo X pins σ H s) (e:H a=some (.ins C dx fs)) (c:vw X.K C) (n:Jf X.K C f) (l:fs.lookup f=some v)
  (h:∀u s',jo X pins σ H s'→jE v u→Q u s'):wpAny (model X.prog X.w) A (getAttr (.ref a) f b) Q E s:=by
 obtain⟨mA,O,r,_,_,_⟩:=zP I.hok e
 obtain⟨u,hu,ru⟩:=UU.some_of (v:=v) (o:=mA f) (by rw [←l];exact r f)
 exact iJ I.kIn O (c.get f) c.hd n hu (bE ru) (h u _ (I.tok _) ru)
theorem Vi {m:Str}{g:Addr}{pl:Sem Bool}{Q:Value×List Value→Shared→Prop} (I:jo X pins σ H s) (e:H a=some (.ins C dx fs)) (c:vw X.K C) (k:Jw X.K C m g) (l:fs.lookup m=none)
  (h:Q (.ref g,[.ref a]) s):wpAny (model X.prog X.w) A (getMethod (.ref a) m pl) Q E s:=by
 obtain⟨mA,O,r,_,_,_⟩:=zP I.hok e
 have hn:mA m=none:=UU.none_of (by rw [←l];exact r m)
 exact dj I.kIn O (c.get m) k.at_ k.fn hn h
theorem aM {y:V}{u:Value}{Q:sW} (I:jo X pins σ H s) (e:H a=some (.ins C dx fs)) (c:vw X.K C) (n:Jf X.K C f) (hl:fs.length<1000) (ry:jE y u)
  (h:∀s',jo X pins σ (upd H a (.ins C dx (Js f y fs))) s'→Q () s'):wpAny (model X.prog X.w) A (setAttr (.ref a) f u) Q E s:=by
 obtain⟨mA,O,r,wi,_,ho⟩:=zP I.hok e
 have hz:(fs.map (·.1)).length≤sizeLine:=by rw [List.length_map,sizeLine_eq];omega
 refine lA I.kIn O c.sa c.po n.taker c.hd wi hz fun h' O' sb=>h _ ?_
 have hd:∃o,h'.get? dx=some o:=let ⟨o,_,_,e',_⟩:=O'.ns;⟨o,e'⟩
 refine I.write (x:=a) (e:=dx) (by rw [e];exact True.intro) (.inr ho) (fun b q hb z=>(sb.2 b hb).trans z) hd ?_
 refine⟨by rw [ji O.ne];exact ho,?_,O.ne,O'.obj,_,O'.ns,fun g=>?_,fun g hg=>?_⟩
 ·have:=Zx f y fs;omega
 ·show UU ((Js f y fs).lookup g) (if g=f then some u else mA g)
  rw [Zy]
  by_cases q:g=f
  ·rw [if_pos q,if_pos q];exact ry
  ·rw [if_neg q,if_neg q];exact r g
 ·by_cases q:g=f
  ·rw [q];exact (zm f y fs).1
  ·refine (zm f y fs).2 g (wi g fun z=>hg ?_)
   show (if g=f then some u else mA g)=none
   rw [if_neg q];exact z
theorem jo.made (I:jo X pins σ H s):jo X pins σ (upd (upd H s.heap.objs.size (.own (s.heap.objs.size+1))) (s.heap.objs.size+1) (.ins C s.heap.objs.size []))
  { s with heap:=(s.heap.push emptyDict).push (instObj C s.heap.objs.size) }:=by
 have e1:(s.heap.push emptyDict).get? s.heap.objs.size=some emptyDict:=Heap.get?_push_size s.heap rfl
 have e2:((s.heap.push emptyDict).push (instObj C s.heap.objs.size)).get? (s.heap.objs.size+1)=some (instObj C s.heap.objs.size):=by
  have:=Heap.get?_push_size (s.heap.push emptyDict) (o:=instObj C s.heap.objs.size) rfl
  rwa [Heap.size_push] at this
 have e3:(s.heap.push emptyDict).Ns s.heap.objs.size (fun _=>none):=⟨emptyDict,#[],_,e1,rfl,(fun e he=>absurd he (by simp)),fun _=>rfl⟩
 have I1:=I.laid (a:=s.heap.objs.size) (o:=.own (s.heap.objs.size+1)) (h':=s.heap.push emptyDict) (t':=s.toks) (fun b u q=>Heap.get?_push_of_some _ q) (Nat.le_refl _) ⟨_,e1⟩
 refine I1.laid (a:=s.heap.objs.size+1) (o:=.ins C s.heap.objs.size []) (t':=s.toks) (fun b u q=>Heap.get?_push_of_some _ q) (Nat.le_of_eq (Heap.size_push _ _)) ?_
 have ne:s.heap.objs.size≠s.heap.objs.size+1:=Nat.ne_of_lt (Nat.lt_succ_self _)
 refine⟨by rw [ji ne,je],Nat.zero_le _,ne,e2,fun _=>none,(Heap.Ns1.of_empty e3).at fun o q=>Heap.get?_push_of_some _ q,fun _=>True.intro,fun y hy=>absurd rfl hy⟩
theorem il {prog:tM}{w:World}{env:Env}{e:Expr}{f:Str}{pos:Pos}{s:Shared}{Q:sV} (hb:attributeBase e f env (eval e env)=eval e env)
  (h:wpAny (model prog w) A (eval e env) (fun o s₁=>wpAny (model prog w) A (getAttr o f true) Q E s₁) E s):wpAny (model prog w) A (eval (.Attribute e f pos) env) Q E s :=
 Attribute_any_ h (by rw [arm_eval_Attribute,hb])
end
def eN (K:sZ) (ta:TE) (f:Str):TE:=fun σ H Q=>ta σ H fun x H1=>∃a C dx fs v,x=.ref a∧H1 a=some (.ins C dx fs)∧vw K C∧Jf K C f∧fs.lookup f=some v∧Q v H1
def sf (K:sZ) (ta tv:TE) (f:Str):TS:=fun D σ H=>tv σ H fun y H1=>ta σ H1 fun x H2=>∃a C dx fs,x=.ref a∧H2 a=some (.ins C dx fs)∧vw K C∧Jf K C f∧fs.length<1000 ∧
 D.nx σ (upd H2 a (.ins C dx (Js f y fs)))
section
variable {X:Cx}{o e value:Expr}{f:Str}{pos pos' tpos:Pos}{ta tv:TE}
theorem jv (he:PE X e ta) (hb:attributeBase e f X.env (eval e X.env)=eval e X.env):PE X (.Attribute e f pos) (eN X.K ta f):=by
 intro pins s σ H Q I h
 refine il hb (jC (he pins s σ H _ I h) fun u s1 hh=>?_)
 obtain⟨x,H1,I1,rx,a,C,dx,fs,v,ex,ea,c,n,l,q⟩:=hh
 subst ex
 obtain rfl:u=Value.ref a:=rx
 exact am I1 ea c n l fun u' s2 I2 ru=>⟨v,H1,I2,ru,q⟩
theorem JS (ha:PE X o ta) (hv:PE X value tv) (hs:swapsWith value (some (.Attribute o f pos')) pos.line X.env=pure false):PS X (.Assign [.Attribute o f pos'] value pos) (sf X.K ta tv f):=by
 intro pins s σ H D I h
 refine plainObj_wpAny_Assign_Attribute (jC (hv pins s σ H _ I h) fun u s1 ⟨y,H1,I1,ry,q⟩=>jC (ha pins s1 σ H1 _ I1 q) fun ov s2 hh=>?_) hs
 obtain⟨x,H2,I2,rx,a,C,dx,fs,ex,ea,c,n,l,q2⟩:=hh
 subst ex
 obtain rfl:ov=Value.ref a:=rx
 exact aM I2 ea c n l ry fun s3 I3=>⟨σ,_,I3,q2⟩
theorem qA {pl:Sem Bool}{m:Str}{apos:Pos}{args:tJ}{pins:tq}{s:Shared}{σ:St}{H:Hp}{Q:sV}{te:TE} (he:PE X e te) (I:jo X pins σ H s)
  (h:te σ H fun x H1=>∃a C dx fs g,x=.ref a∧H1 a=some (.ins C dx fs)∧vw X.K C∧Jw X.K C m g∧fs.lookup m=none ∧
   ∀s1,jo X pins σ H1 s1→wpAny (model X.prog X.w) X.A (callWith pos (.ref g) [.ref a] (backTo pos (starEach args X.env)) (backToKw pos (keywordEach [] X.env))) Q X.xe s1)
  (ht:eval (.Call (.Attribute e m apos) args [] pos) X.env=(do
   let ov ←eval e X.env
   standAt apos.atName
   let (f,first) ←holding [ov] (getMethod ov m pl)
   callWith pos f first (backTo pos (starEach args X.env)) (backToKw pos (keywordEach [] X.env)))) :
  wpAny (model X.prog X.w) X.A (eval (.Call (.Attribute e m apos) args [] pos) X.env) Q X.xe s:=by
 refine methodCall_KW (pl:=pl) (jC (he pins s σ H _ I h) fun u s1 hh=>?_) ht
 obtain⟨x,H1,I1,rx,a,C,dx,fs,g,ex,ea,c,k,l,q⟩:=hh
 subst ex
 obtain rfl:u=Value.ref a:=rx
 exact Vi I1 ea c k l (q s1 I1)
end
section
variable {X:Cx}{pins:tq}{σ:St}{H:Hp}{s:Shared}{A:Around}{E:sV}{Q:sV}{c:Value}{b:Bool}
inductive vf (K:sZ) (H:Hp):V→Value→Prop where
 | non:vf K H .non (.type "NoneType")
 | bl (x:Bool):vf K H (.bl x) (.type "bool")
 | int (i:Int):vf K H (.int i) (.type "int")
 | str (x:Str):vf K H (.str x) (.type "str")
 | flt (x:UInt64):vf K H (.flt x) (.type "float")
 | lst {a:Addr} {xs:List V} (e:H a=some (.lst xs)):vf K H (.ref a) (.type "list")
 | frz {a:Addr} {o:Obj} {xs:List V} (e:H a=some (.frz o (.lst xs))):vf K H (.ref a) (.type "list")
 | tup {a:Addr} {xs:List V} (e:H a=some (.tup xs)):vf K H (.ref a) (.type "tuple")
 | dK {a:Addr} {kvs:List (Key×V)} (e:H a=some (.dK kvs)):vf K H (.ref a) (.type "dict")
 | dT {a:Addr} {kvs:List (List Key×V)} (e:H a=some (.dT kvs)):vf K H (.ref a) (.type "dict")
 | ins {a C dx:Addr} {fs:List (Str×V)} (e:H a=some (.ins C dx fs)) (cl:vw K C) (ha:findIn K (.ref C) "__class__"=some (some (.builtin "object.__class__")))
   (hn:PySem.W.specialIn K (.builtin "object.__class__") "__get__"=some (some (.builtin "getset_descriptor.__get__"))) (htk:PySem.W.takesIn K (.builtin "object.__class__")=some true)
   (hm:mroIn K C (.type "object")=some true):vf K H (.ref a) (.ref C)
theorem bP {x:V}{u t:Value} (I:jo X pins σ H s) (rx:jE x u) (ty:vf X.K H x t) (e:kitOne X.K t c=some b) (h:∀tk,Q (.bool b) { s with toks:=tk }) :
  wpAny (model X.prog X.w) A (call (.builtin "isinstance") [u,c]) Q E s:=by
 cases ty with
 | non=>cases (show u=Value.none from rx);exact kia_one PySem.W.kitx_none I.kIn True.intro e (fun z=>nomatch z) h
 | bl y=>cases (show u=Value.bool y from rx);exact kia_one PySem.W.kitx_bool I.kIn True.intro e (fun z=>nomatch z) h
 | int i=>obtain⟨t,q⟩:=(show ∃t,u=Value.int i t from rx);cases q;exact kia_one PySem.W.kitx_int I.kIn True.intro e (fun z=>nomatch z) h
 | str y=>obtain⟨t,q⟩:=(show ∃t,u=Value.str y t from rx);cases q;exact kia_one PySem.W.kitx_str I.kIn True.intro e (fun z=>nomatch z) h
 | flt y=>obtain⟨t,q⟩:=(show ∃t,u=Value.float y t from rx);cases q;exact kia_one PySem.W.kitx_float I.kIn True.intro e (fun z=>nomatch z) h
 | @lst a xs ea =>
  cases (show u=Value.ref a from rx)
  obtain⟨_,_,n,_,h1⟩:=(show j3 X.prog X.w H s.heap a (.lst xs) from I.hok a _ ea)
  exact kia_one kitx_list I.kIn ⟨_,h1,rfl⟩ e (fun z=>nomatch z) h
 | @frz a ob xs ea =>
  cases (show u=Value.ref a from rx)
  obtain⟨_,_,_,n,_,h1⟩:=(show j3 X.prog X.w H s.heap a (.frz ob (.lst xs)) from I.hok a _ ea)
  exact kia_one kitx_list I.kIn ⟨_,h1,rfl⟩ e (fun z=>nomatch z) h
 | @tup a xs ea =>
  cases (show u=Value.ref a from rx)
  obtain⟨_,_,_,p⟩:=(show j3 X.prog X.w H s.heap a (.tup xs) from I.hok a _ ea)
  obtain⟨o,h1,h2,_⟩:=p
  exact kia_one PySem.W.kitx_tuple I.kIn ⟨o,h1,h2⟩ e (fun z=>nomatch z) h
 | @dK a kvs ea =>
  cases (show u=Value.ref a from rx)
  obtain⟨_,_,vs,_,p⟩:=(show j3 X.prog X.w H s.heap a (.dK kvs) from I.hok a _ ea)
  obtain⟨o,es,ep,h1,h2,_⟩:=p
  exact kia_one kitx_dict I.kIn ⟨o,h1,h2.1⟩ e (fun z=>nomatch z) h
 | @dT a kvs ea =>
  cases (show u=Value.ref a from rx)
  obtain⟨_,_,xs,_,o,es,ep,h1,h2,_⟩:=(show j3 X.prog X.w H s.heap a (.dT kvs) from I.hok a _ ea)
  exact kia_one kitx_dict I.kIn ⟨o,h1,h2.1⟩ e (fun z=>nomatch z) h
 | @ins a C dx fs ea cl ha hn htk hm =>
  cases (show u=Value.ref a from rx)
  obtain⟨mA,O,_⟩:=zP I.hok ea
  obtain⟨od,J,_⟩:=O.look
  exact kia_one (PySem.W.kitx_own (cl.get _) cl.hd ha hn htk hm) I.kIn J e (fun z=>nomatch z) h
end
end L2
namespace L2
open PySem PySem.Spec PyProof.Rows
structure Ji (c:Bool) (k:Nat) (A:Around):Prop where
 hd:c=true→A.handled=none
 dp:A.depth+3*k+5<recursionLimit
 un:A.units+16*k+200<cLine
abbrev Ur:=Ji true
theorem Ji.mono {c c':Bool}{j k:Nat}{A:Around} (r:Ji c k A) (h:j≤k) (hc:c'=true→c=true:=by decide):Ji c' j A:=⟨fun z=>r.hd (hc z),by have:=r.dp;omega,by have:=r.un;omega⟩
theorem Ji.m {c c':Bool}{j k:Nat}{A:Around} (r:Ji c k A) (h:j≤k:=by decide) (hc:c'=true→c=true:=by decide):Ji c' j A:=r.mono h hc
theorem Ji.deeper {c:Bool}{k:Nat}{A:Around} (r:Ji c (k+1) A) (env:Env):Ji c k (A.deeper env) :=
 ⟨r.hd,by have:=r.dp;show A.depth+1+3*k+5<_;omega,by have:=r.un;show A.units+3+16*k+200<_;omega⟩
theorem aB {A:Around}{C:Addr}{us:tz}{kw:List (Str×Value)}:(A.under (.builtin "type.__call__" ⟨.ref C::us,kw⟩)).depth=A.depth+1:=by
 first|rfl|simp [Around.under,Code.weight,Code.isCreation,Code.isGuard,Code.isCaller,Code.frames,Code.isFrame,guardIds]
theorem aC {A:Around}{C:Addr}{us:tz}{kw:List (Str×Value)}:(A.under (.builtin "type.__call__" ⟨.ref C::us,kw⟩)).units=A.units+1:=by
 first|rfl|simp [Around.under,Code.cUnits,Code.frames,Code.isFrame]
theorem Ji.make {c:Bool}{k:Nat}{A:Around} (r:Ji c (k+1) A) (C:Addr) (us:tz) (kw:List (Str×Value)):Ji c k (A.under (.builtin "type.__call__" ⟨.ref C::us,kw⟩)) :=
 ⟨r.hd,by have:=r.dp;rw [aB];omega,by have:=r.un;rw [aC];omega⟩
theorem Ji.depth {c:Bool}{k:Nat}{A:Around} (r:Ji c k A):A.depth<recursionLimit:=by have:=r.dp;omega
theorem Ji.units {c:Bool}{k:Nat}{A:Around} (r:Ji c k A):A.units+64<cLine:=by have:=r.un;omega
theorem Ji.units0 {c:Bool}{k:Nat}{A:Around} (r:Ji c k A):A.units<cLine:=by have:=r.un;omega
def aT:TA:=fun _ H Q=>Q [] H
def Yg (ta:TE) (tr:TA):TA:=fun σ H Q=>ta σ H fun x H1=>tr σ H1 fun xs H2=>Q (x::xs) H2
section
variable {X:Cx}{e:Expr}{es:tJ}{te:TE}{t:TA}{pos:Pos}
theorem jf:PA X [] aT:=fun _ _ _ _ H Q I h=>Calls.spliced_nil ⟨[],H,I,.nil,h⟩
theorem ja (ha:PE X e te) (hr:PA X es t) (hs:starEach (e::es) X.env=(false,eval e X.env)::starEach es X.env:=by rfl):PA X (e::es) (Yg te t):=by
 intro pos pins s σ H Q I h
 rw [hs]
 show wpAny _ _ (spliced ((false,eval e X.env)::backTo pos (starEach es X.env))) _ _ s
 refine Calls.spliced_cons (jC (ha pins s σ H _ I h) fun u s1 ⟨x,H1,I1,r1,q1⟩=>?_)
 exact jC (hr pos pins s1 σ H1 _ I1 q1) fun us s2 ⟨xs,H2,I2,r2,q2⟩=>⟨x::xs,H2,I2,.cons r1 r2,q2⟩
def sv (t:TA):TE:=fun σ H Q=>t σ H fun xs H1=>xs.length≤sizeLine∧∀p,H1 p=none→Q (.ref p) (upd H1 p (.tup xs))
def sr (t:TA):TE:=fun σ H Q=>t σ H fun xs H1=>xs.length≤sizeLine∧∀p,H1 p=none→Q (.ref p) (upd H1 p (.lst xs))
theorem jS {x1} (h:PA X es t):PE X (.Tuple es x1 pos) (sv t):=by
 intro pins s σ H Q I hq
 refine wpAny_Tuple_spliced (jC (h pos pins s σ H _ I hq) fun us s1 ⟨xs,H1,I1,r,z,q⟩=>⟨by rw [←r.length];exact z,?_⟩)
 have hf:H1 s1.heap.objs.size=none:=I1.hok.fresh (Nat.le_refl _)
 refine⟨.ref s1.heap.objs.size,upd H1 s1.heap.objs.size (.tup xs),I1.laid (t':=s1.toks) (fun b u e=>Heap.get?_push_of_some _ e) (Nat.le_refl _) ?_,rfl,q _ hf⟩
 exact⟨z,us,r,⟨_,Heap.get?_push_size _ rfl,rfl,_,rfl⟩⟩
theorem ug (h:PA X es t):PE X (.List es pos) (sr t):=by
 intro pins s σ H Q I hq
 refine wpAny_List_spliced (jC (h pos pins s σ H _ I hq) fun us s1 ⟨xs,H1,I1,r,z,q⟩=>⟨by rw [←r.length];exact z,?_⟩)
 have hf:H1 s1.heap.objs.size=none:=I1.hok.fresh (Nat.le_refl _)
 refine⟨.ref s1.heap.objs.size,upd H1 s1.heap.objs.size (.lst xs),I1.laid (t':=s1.toks) (fun b u e=>Heap.get?_push_of_some _ e) (Nat.le_refl _) ?_,rfl,q _ hf⟩
 exact⟨z,us,0,r,Heap.get?_push_size _ rfl⟩
end
abbrev Sp:=List V→Hp→VK→XK→Prop
abbrev Z9:=List Env→Hp→Shared→XK→Value→Shared→Prop
structure V9 (P:tM) (w:World) (K:sZ) (mg:tj) (base:Heap) (A:Around) (outer:List Env) (s:Shared) (H:Hp):Prop where
 frames:A.frames=some outer
 mod:Mod K mg base
 bs:∀b o,base.get? b=some o→s.heap.get? b=some o∧H b=none
 bsz:base.objs.size≤s.heap.objs.size
 funs:s.heap.FunFrames base outer
 frf:∀b∈JX outer,H b=none
 hok:Jm P w H s.heap
 bare:AllBare s.gens
 hn:KM A H
def CE (outer:List Env) (P:tM) (w:World) (H:Hp) (s:Shared) (Q:VK) (u:Value) (s':Shared):Prop :=
 ∃v H',s'.os=s.os∧AllBare s'.gens∧Un (JX outer) [] H H' s.heap s'.heap∧Jm P w H' s'.heap∧jE v u∧Q v H'
def CR (CX:Z9) (outer:List Env) (P:tM) (w:World) (H:Hp) (s:Shared) (Q:VK) (E:XK) (r:Result) (s':Shared):Prop :=
 match r with
 | .ok (.ret u)=>CE outer P w H s Q u s'
 | .ok _=>False
 | .error e=>CX outer H s E e s'
structure uQ (P:tM) (w:World) (K:sZ) (mg:tj) (base:Heap) (CX:Z9) (k:Nat) (f:Addr) (fd:FuncData) (ps:tH) (sp:Sp) (c:Bool:=true):Prop where
 len:∀vs H Q E,sp vs H Q E→vs.length=ps.length
 run:∀(A:Around) (outer:List Env) (s:Shared) (H:Hp) (args:Args) (us:tz) (vs:List V) (Q:VK) (E:XK),Ji c k A→V9 P w K mg base A outer s H→BindsTo s fd args (ps.zip us)→jB vs us→sp vs H Q E →
  codeAny (model P w) A (.call (.ref f) args) (CR CX outer P w H s Q E) s
theorem V9.make {P:tM}{w:World}{K:sZ}{mg:tj}{base:Heap}{A:Around}{outer:List Env}{s:Shared}{H:Hp} (e:V9 P w K mg base A outer s H) (C:Addr) (us:tz) (kw:List (Str×Value)) :
  V9 P w K mg base (A.under (.builtin "type.__call__" ⟨.ref C::us,kw⟩)) outer s H:=⟨by first|exact e.frames|(simpa [Around.under,Code.envs,Code.isFrame,pushEnvs] using e.frames),e.mod,e.bs,e.bsz,e.funs,e.frf,e.hok,e.bare,e.hn⟩
section
variable {X:Cx}{pins:tq}{σ:St}{H:Hp}{s s':Shared}
theorem jo.env0 (I:jo X pins σ H s):V9 X.prog X.w X.K X.mg X.base X.A X.stack s H :=
 ⟨I.ok.frames,I.ok.mod,I.bs,Nat.le_trans I.ok.bsz I.sz,I.stack,I.stkFree,I.hok,I.bare,I.hn⟩
theorem jo.after {Q:VK}{u:Value} (I:jo X pins σ H s) (h:CE X.stack X.prog X.w H s Q u s'):EP X pins σ Q u s':=by
 obtain⟨v,H',os,bare,un,hok,r,q⟩:=h
 obtain⟨hh,g,d,t,os'⟩:=s'
 obtain rfl:os'=s.os:=os
 exact⟨v,H',I.call (h':=hh) (g':=g) (d':=d) (t':=t) (ch:=[]) un hok bare (fun b z=>absurd z (by simp)),r,q⟩
end
def aR (sp:Sp) (dvs:List V) (E:XK) (t:TA):TE:=fun σ H Q=>t σ H fun vs H1=>sp (vs++dvs) H1 Q E
def Kx (C:Addr) (m:Str) (sp:Sp) (dvs:List V) (E:XK) (ta:TE) (t:TA):TE:=fun σ H Q=>ta σ H fun x H1=>∃a dx fs,x=.ref a∧H1 a=some (.ins C dx fs)∧fs.lookup m=none ∧
 t σ H1 fun vs H2=>sp (x::(vs++dvs)) H2 Q E
def Kw (C:Addr) (sp:Sp) (dvs:List V) (E:XK) (t:TA):TE:=fun σ H Q=>t σ H fun vs H1=>∀x dx,H1 x=none→H1 dx=none→dx≠x →
 sp (.ref x::(vs++dvs)) (upd (upd H1 dx (.own x)) x (.ins C dx [])) (fun v H2=>v=.non∧Q (.ref x) H2) E
def ju (K:sZ) (fd:FuncData) (ps:tH) (ds:tz):Prop :=
 ∀(s:Shared) (us:tz),K.In s.heap→(us++ds).length=ps.length→BindsTo s fd ⟨us,[]⟩ (ps.zip (us++ds))
theorem ju.all {K:sZ}{fd:FuncData}{ps:tH} (h:∀us:List Value,us.length=ps.length→bindArgs fd ⟨us,[]⟩=pure (ps.zip us)):ju K fd ps []:=fun s us _ hl=>by
 rw [List.append_nil] at hl ⊢
 exact .of_eq (h us hl)
def uz (CX:Z9) (X:Cx) (E:XK):Prop:=∀(pins:tq) (σ:St) (H:Hp) (s:Shared) (e:Value) (s':Shared),jo X pins σ H s→CX X.stack H s E e s'→X.xe e s'
section
variable {X:Cx}{CX:Z9}{k:Nat}{f C:Addr}{fd:FuncData}{ps:tH}{sp:Sp}{dvs:List V}{ds:tz}{E:XK}{x m:Str}{p pos apos:Pos}{e o:Expr}{es:tJ}{ta:TE}{t:TA}
theorem Ga {pins:tq}{σ:St}{H:Hp}{s:Shared}{Q:VK}{us:tz}{vs:List V}{cm:Bool} (F:uQ X.prog X.w X.K X.mg X.base CX k f fd ps sp cm) (hr:Ji cm k X.A) (hb:ju X.K fd ps ds) (hd:jB dvs ds) (hx:uz CX X E)
  (I:jo X pins σ H s) (r:jB vs us) (h:sp (vs++dvs) H Q E):wpAny (model X.prog X.w) X.A (call (.ref f) us) (EP X pins σ Q) X.xe s:=by
 have r2:jB (vs++dvs) (us++ds):=r.append hd
 have hl:(us++ds).length=ps.length:=by rw [←r2.length];exact F.len _ _ _ _ h
 refine wpAny_call (codeAny_mono (F.run X.A X.stack s H ⟨us,[]⟩ (us++ds) (vs++dvs) Q E hr I.env0 (hb s us I.kIn hl) r2 h) fun r s' hq=>?_)
 cases r with
 | error e=>exact hx pins σ H s e s' I hq
 | ok fl =>
  cases fl with
  | ret u=>exact I.after hq
  | next=>exact False.elim hq
  | brk=>exact False.elim hq
  | cont=>exact False.elim hq
theorem iY {cm:Bool} (F:uQ X.prog X.w X.K X.mg X.base CX k f fd ps sp cm) (hr:Ji cm k X.A) (hg:Gl X x) (hm:X.mg x=some (.ref f)) (hk:keepIn X.K (.ref f)=true) (hb:ju X.K fd ps ds) (hd:jB dvs ds) (hx:uz CX X E)
  (ha:PA X (e::es) t) (hdb:(x==("__debug__":Str))=false:=by decide) (he:starEach (e::es) X.env=(false,eval e X.env)::starEach es X.env:=by rfl) (hpl:(backTo pos (starEach es X.env)).any (·.1)=false:=by rfl) :
  PE X (.Call (.Name x p) (e::es) [] pos) (aR sp dvs E t):=by
 intro pins s σ H Q I h
 refine wpAny_Call_Name_kw (zU I hg hm ?_ hdb)
 refine callWith_K (h₀:=X.base) I.ok.mod.kin hk (jC (ha pos pins s σ H _ I h) fun us s1 ⟨vs,H1,I1,r,q⟩=>⟨I1.kIn,?_⟩) he hpl
 exact Ga F hr hb hd hx I1 r q
theorem NM {pl:Sem Bool} (he:PE X o ta) (c:vw X.K C) (hm:Jw X.K C m f) {cm:Bool} (F:uQ X.prog X.w X.K X.mg X.base CX k f fd ps sp cm) (hr:Ji cm k X.A) (hb:ju X.K fd ps ds) (hd:jB dvs ds) (hx:uz CX X E) (ha:PA X (e::es) t)
  (hst:starEach (e::es) X.env=(false,eval e X.env)::starEach es X.env:=by rfl) (hpl:(backTo pos (starEach es X.env)).any (·.1)=false:=by rfl)
  (ht:eval (.Call (.Attribute o m apos) (e::es) [] pos) X.env=(do
   let ov ←eval o X.env
   standAt apos.atName
   let (f,first) ←holding [ov] (getMethod ov m pl)
   callWith pos f first (backTo pos (starEach (e::es) X.env)) (backToKw pos (keywordEach [] X.env))):=by rfl) :
  PE X (.Call (.Attribute o m apos) (e::es) [] pos) (Kx C m sp dvs E ta t):=by
 intro pins s σ H Q I h
 refine methodCall_KW (pl:=pl) (jC (he pins s σ H _ I h) fun u s1 hh=>?_) ht
 obtain⟨x,H1,I1,rx,a,dx,fs,ex,ea,l,q⟩:=hh
 subst ex
 obtain rfl:u=Value.ref a:=rx
 refine Vi I1 ea c hm l ?_
 refine callWith_K (first:=[.ref a]) (h₀:=X.base) I.ok.mod.kin hm.kp (jC (ha pos pins s1 σ H1 _ I1 q) fun us s2 ⟨vs,H2,I2,r,q2⟩=>⟨I2.kIn,?_⟩) hst hpl
 exact Ga (us:=.ref a::us) (vs:=.ref a::vs) F hr hb hd hx I2 (.cons rfl r) q2
structure Mk (K:sZ) (C f:Addr):Prop where
 makes:makesIn K C=true
 init:findIn K (.ref C) "__init__"=some (some (.ref f))
 fn:isFn K (.ref f)=true
 kp:keepIn K (.ref C)=true
theorem eh {pins:tq}{σ:St}{H:Hp}{s:Shared}{Q:VK}{us:tz}{vs:List V} (M:Mk X.K C f) (F:uQ X.prog X.w X.K X.mg X.base CX k f fd ps sp) (hr:Ur (k+1) X.A) (hb:ju X.K fd ps ds) (hd:jB dvs ds)
  (hx:uz CX X E) (I:jo X pins σ H s) (r:jB vs us)
  (h:∀x dx,H x=none→H dx=none→dx≠x→sp (.ref x::(vs++dvs)) (upd (upd H dx (.own x)) x (.ins C dx [])) (fun v H2=>v=.non∧Q (.ref x) H2) E) :
  wpAny (model X.prog X.w) X.A (call (.ref C) us) (EP X pins σ Q) X.xe s:=by
 have hq:=h (s.heap.objs.size+1) s.heap.objs.size (I.hok.fresh (Nat.le_succ _)) (I.hok.fresh (Nat.le_refl _)) (Nat.ne_of_lt (Nat.lt_succ_self _))
 have I2:=jo.made (C:=C) I
 have r2:jB (V.ref (s.heap.objs.size+1)::(vs++dvs)) (Value.ref (s.heap.objs.size+1)::(us++ds)):=.cons rfl (r.append hd)
 have hl:(Value.ref (s.heap.objs.size+1)::us++ds).length=ps.length:=by
  have e:=r2.length
  rw [F.len _ _ _ _ hq] at e
  exact e.symm
 refine wpAny_call (dC (f:=f) I.kIn M.makes M.init (beq_iff_eq.mp M.fn) (codeAny_mono (F.run _ X.stack _ _ ⟨Value.ref (s.heap.objs.size+1)::us,[]⟩ (Value.ref (s.heap.objs.size+1)::(us++ds)) _ _ E (hr.make C us [])
  (I2.env0.make C us []) (hb _ (Value.ref (s.heap.objs.size+1)::us) I2.kIn hl) r2 hq) fun r s' hq'=>?_))
 cases r with
 | error e=>exact hx pins σ _ _ e s' I2 hq'
 | ok fl =>
  cases fl with
  | ret u =>
   obtain⟨v,H',I3,rv,ev,q3⟩:=I2.after hq'
   subst ev
   exact⟨rv,⟨V.ref (s.heap.objs.size+1),H',I3,rfl,q3⟩⟩
  | next=>exact False.elim hq'
  | brk=>exact False.elim hq'
  | cont=>exact False.elim hq'
theorem NL (M:Mk X.K C f) (F:uQ X.prog X.w X.K X.mg X.base CX k f fd ps sp) (hr:Ur (k+1) X.A) (hg:Gl X x) (hm:X.mg x=some (.ref C)) (hb:ju X.K fd ps ds) (hd:jB dvs ds) (hx:uz CX X E)
  (ha:PA X (e::es) t) (hdb:(x==("__debug__":Str))=false:=by decide) (he:starEach (e::es) X.env=(false,eval e X.env)::starEach es X.env:=by rfl) (hpl:(backTo pos (starEach es X.env)).any (·.1)=false:=by rfl) :
  PE X (.Call (.Name x p) (e::es) [] pos) (Kw C sp dvs E t):=by
 intro pins s σ H Q I h
 refine wpAny_Call_Name_kw (zU I hg hm ?_ hdb)
 refine callWith_K (h₀:=X.base) I.ok.mod.kin M.kp (jC (ha pos pins s σ H _ I h) fun us s1 ⟨vs,H1,I1,r,q⟩=>⟨I1.kIn,?_⟩) he hpl
 exact eh M F hr hb hd hx I1 r q
end
section
variable {X:Cx}{CX:Z9}{k:Nat}{f C:Addr}{fd:FuncData}{ps ks:tH}{sp:Sp}{E:XK}{x m:Str}{p pos apos kpos:Pos}{e o:Expr}{es:tJ}{kws:List Keyword}{te ta:TE}{t tk:TA}{nm:Option Str}
variable {g:List Value→List Value→List Value}{gV:List V→List V→List V}
end
structure jt (N P:tH) (sc:Scope):Prop where
 kind:sc.kind=.function
 co:sc.isCoroutine=false
 gen:sc.isGenerator=false
 nd:N.Nodup
 pre:N.take P.length=P
 par:∀x∈P,sc.names.lookup x=some .local∨sc.names.lookup x=some .cell
 nofree:∀y∈sc.names,y.2≠.free
theorem jY {N P:tH}{sc:Scope} (a:sc.kind=.function:=by rfl) (b:sc.isCoroutine=false:=by rfl) (c:sc.isGenerator=false:=by rfl) (d:N.Nodup:=by decide +kernel) (e:N.take P.length=P:=by rfl) (f:∀x∈P,sc.names.lookup x=some .local∨sc.names.lookup x=some .cell:=by decide +kernel) (g:∀y∈sc.names,y.2≠.free:=by decide +kernel):jt N P sc:=⟨a,b,c,d,e,f,g⟩
theorem G3 {kindOf:Str→Option NameKind}{x:Str}:∀{binds:List (Str×Value)} {m:tj},(∀v,(x,v) ∉ binds)→bindL kindOf binds m x=m x
 | [],_,_=>rfl
 | (n,v)::r,m,h=>by
  unfold bindL
  rw [G3 fun w hw=>h w (List.mem_cons_of_mem _ hw)]
  split
  ·have:x≠n:=by rintro rfl;exact h v List.mem_cons_self
   simp [this]
  ·rfl
theorem G1 {kindOf:Str→Option NameKind}{x:Str}:∀{binds:List (Str×Value)} {m:tj},(∀v,(x,v) ∉ binds)→bindC kindOf binds m x=m x
 | [],_,_=>rfl
 | (n,v)::r,m,h=>by
  unfold bindC
  rw [G1 fun w hw=>h w (List.mem_cons_of_mem _ hw)]
  split
  ·rfl
  ·have:x≠n:=by rintro rfl;exact h v List.mem_cons_self
   simp [this]
theorem G2 {kindOf:Str→Option NameKind}{x:Str}{v:Value}:∀{P:tH} {vs:tz} {i:Nat} {m:tj},P.Nodup→P[i]?=some x→vs[i]?=some v→kindOf x=some .local →
  bindL kindOf (P.zip vs) m x=some v
 | [],_,_,_,_,h,_,_=>by simp at h
 | _::_,[],_,_,_,_,h,_=>by simp at h
 | p::P,w::vs,0,m,nd,h1,h2,hk=>by
  simp at h1 h2;subst h1;subst h2
  show bindL kindOf ((p,w)::P.zip vs) m p=_
  unfold bindL
  rw [G3 fun v hv=>(List.nodup_cons.mp nd).1 (List.of_mem_zip hv).1,if_pos hk]
  simp
 | p::P,w::vs,i+1,m,nd,h1,h2,hk=>by
  show bindL kindOf ((p,w)::P.zip vs) m x=_
  unfold bindL
  exact G2 (i:=i) (List.nodup_cons.mp nd).2 (by simpa using h1) (by simpa using h2) hk
theorem G0 {kindOf:Str→Option NameKind}{x:Str}{v:Value}:∀{P:tH} {vs:tz} {i:Nat} {m:tj},P.Nodup→P[i]?=some x→vs[i]?=some v→kindOf x≠some .local →
  bindC kindOf (P.zip vs) m x=some v
 | [],_,_,_,_,h,_,_=>by simp at h
 | _::_,[],_,_,_,_,h,_=>by simp at h
 | p::P,w::vs,0,m,nd,h1,h2,hk=>by
  simp at h1 h2;subst h1;subst h2
  show bindC kindOf ((p,w)::P.zip vs) m p=_
  unfold bindC
  rw [G1 fun v hv=>(List.nodup_cons.mp nd).1 (List.of_mem_zip hv).1,if_neg hk]
  simp
 | p::P,w::vs,i+1,m,nd,h1,h2,hk=>by
  show bindC kindOf ((p,w)::P.zip vs) m x=_
  unfold bindC
  exact G0 (i:=i) (List.nodup_cons.mp nd).2 (by simpa using h1) (by simpa using h2) hk
def start (N:tH) (vs:List V):St:=vs.map some++List.replicate (N.length - vs.length) none
def yS (CX:Z9) (P:tM) (w:World) (K:sZ) (mg:tj) (base:Heap) (N:tH) (qual:Str) (scope:Scope) (f:Addr) (cd:Value) (A:Around) (outer:List Env) (s:Shared) (H:Hp) (E:XK) (c:Bool:=true):Cx where
 prog:=P
 w:=w
 K:=K
 mg:=mg
 base:=base
 A:=A.deeper (envOfC qual scope s.heap.objs.size f cd)
 N:=N
 s₀:=s
 H₀:=H
 env:=envOfC qual scope s.heap.objs.size f cd
 outer:=outer
 stack:=envOfC qual scope s.heap.objs.size f cd::outer
 ex:=[]
 calm:=c
 fn:=fun _=>true
 pn:=[]
 xe:=fun e s'=>wpAny (model P w) (A.deeper (envOfC qual scope s.heap.objs.size f cd)) (leaving (envOfC qual scope s.heap.objs.size f cd) e) (fun _ s''=>CX outer H s E e s'') (fun e' s''=>CX outer H s E e' s'') s'
theorem K8 {sc:Scope}{n:Nat}{x:Str} (h:sc.names.lookup x=some .cell):∃c,(cellsFrom n sc.names []).lookup x=some c:=by
 have q:=cellsFrom_some sc.names n [] (.inl h)
 exact Option.isSome_iff_exists.mp q
theorem bO {CX:Z9}{P:tM}{w:World}{K:sZ}{mg:tj}{base:Heap}{N ps:tH}{qual:Str}{scope:Scope}{f:Addr}{cd:Value}{A:Around}{outer:List Env}{s s1:Shared}{H:Hp}{E:XK}{us:tz}{vs:List V}
  {c:Bool} (S:jt N ps scope) (hd:c=true→A.handled=none) (e0:V9 P w K mg base A outer s H) (hl:vs.length=ps.length) (r:jB vs us)
  (x:InCallC s s.heap.objs.size (bindL (envOfC qual scope s.heap.objs.size f cd).kindOf (ps.zip us) fun _=>none) (cellsFrom (s.heap.objs.size+1) scope.names []) (bindC (envOfC qual scope s.heap.objs.size f cd).kindOf (ps.zip us) fun _=>none) s1) :
  jo (yS CX P w K mg base N qual scope f cd A outer s H E c) [] (start N vs) H s1:=by
 have hpl:ps.length≤N.length:=by have:=congrArg List.length S.pre;rw [List.length_take] at this;omega
 obtain⟨h1,tk,rfl,hk⟩:=x.done
 have noA:∀b:Addr,b ∉ (yS CX P w K mg base N qual scope f cd A outer s H E c).ex:=fun b z=>absurd (show b∈([]:tD) from z) (by simp)
 refine⟨⟨e0.mod,S.kind,rfl,rfl,Nat.le_refl _,fun y z c h1 h2=>?_,fun y hy=>?_,fun y c' _ h=>?_,hd,Around.frames_deeper e0.frames,.inr ⟨rfl,rfl⟩,fun b z=>absurd z (noA b),e0.bs,e0.bsz,fun b _ _=>noA b,fun b z=>absurd z (noA b),e0.funs,e0.frf⟩,
  rfl,e0.bare,Un.kept hk,⟨_,x.toInCall.ns,fun i y v h1 h2 h3=>?_⟩,fun y c h=>⟨_,x.cell y c h⟩,e0.hok.fresh (Nat.le_refl _),fun y c h=>?_,fun p hp=>absurd (show p∈([]:tq) from hp) (by simp),e0.hok.kept hk,?_,e0.hn⟩
 ·exact name_of_addr x.apart (PySem.mem_of_lookup h1) (PySem.mem_of_lookup h2)
 ·have hy:scope.names.lookup y=some .cell∨scope.names.lookup y=some .free:=hy
  rcases hy with hy|hy
  ·exact K8 hy
  ·exact absurd rfl (S.nofree _ (PySem.mem_of_lookup hy))
 ·exact Nat.le_of_lt (x.above y c' (PySem.mem_of_lookup h))
 ·have hi:i<vs.length:=by
   unfold start at h2
   by_cases hi:i<vs.length
   ·exact hi
   ·rw [List.getElem?_append_right (by simpa using hi)] at h2
    rw [List.getElem?_replicate] at h2
    split at h2<;>cases h2
  have ha:vs[i]?=some v:=by
   unfold start at h2
   rw [List.getElem?_append_left (by simpa using hi),List.getElem?_map] at h2
   cases e:vs[i]? with
   | none=>rw [e] at h2;cases h2
   | some a=>rw [e] at h2;cases h2;rfl
  obtain⟨u,hu,rv⟩:=r.get ha
  have hp:ps[i]?=some y:=by
   rw [←S.pre,List.getElem?_take_of_lt (by omega)];exact h1
  have ndP:ps.Nodup:=by rw [←S.pre];exact S.nd.sublist (List.take_sublist _ _)
  refine⟨u,rv,?_⟩
  rcases S.par y (List.mem_of_getElem? hp) with k|k
  ·exact .inl ⟨k,G2 ndP hp hu k⟩
  ·obtain⟨c,e⟩:=K8 (n:=s.heap.objs.size+1) k
   refine .inr ⟨.inl k,c,e,?_⟩
   have q:=x.cell y c e
   rw [G0 ndP hp hu (by show scope.names.lookup y≠_;rw [k];decide)] at q
   exact q
 ·exact e0.hok.fresh (Nat.le_of_lt (x.above y c (PySem.mem_of_lookup h)))
 ·unfold start
  show _=N.length
  rw [List.length_append,List.length_map,List.length_replicate]
  omega
theorem aj {CX:Z9}{P:tM}{w:World}{K:sZ}{mg:tj}{base:Heap}{k:Nat}{f:Addr}{name qual:Str}{params:Arguments}{body:List Stmt}{scope:Scope}{dV kV doc pm cdv ct oc:Value}{an od:tL}
  {osl:tG} {N ps:tH} {sp:Sp} {c:Bool} (lk:K.lookup f=some ⟨oc,od,.func (fnOf name qual params body scope dV kV doc pm an cdv ct),osl⟩) (hcd:codeIn K cdv qual=true) (S:jt N ps scope)
  (len:∀vs H Q E,sp vs H Q E→vs.length=ps.length)
  (hbody:∀(A:Around) (outer:List Env) (s:Shared) (H:Hp) (vs:List V) (Q:VK) (E:XK),Ji c k (A.deeper (envOfC qual scope s.heap.objs.size f cdv))→sp vs H Q E →
   ∃t,YZ (yS CX P w K mg base N qual scope f cdv A outer s H E c) body t∧t { nx:=fun _ H'=>Q .non H',rt:=Q } (start N vs) H) :
  uQ P w K mg base CX (k+1) f (fnOf name qual params body scope dV kV doc pm an cdv ct) ps sp c:=by
 refine⟨len,fun A outer s H args us vs Q E hr e0 hb r hsp=>?_⟩
 have hl:=len _ _ _ _ hsp
 have KX:K.In s.heap:=e0.mod.kin.keeps fun b o e=>(e0.bs b o e).1
 have lim:s.heap.NoLimit:=e0.mod.nolimit.keeps fun b o e=>(e0.bs b o e).1
 have hkind:∀y∈ps.zip us,scope.names.lookup y.1=some .local∨(scope.names.lookup y.1=some .cell∧((cellsFrom (s.heap.objs.size+1) scope.names []).lookup y.1).isSome=true):=fun ⟨n,v⟩ hy=>by
  rcases S.par n (List.of_mem_zip hy).1 with q|q
  ·exact .inl q
  ·exact .inr ⟨q,cellsFrom_some _ _ _ (.inl q)⟩
 refine codeAny_call_function hr.depth (KX _ _ lk) rfl S.co S.gen rfl (PySem.W.codeRec_of KX hcd) (hb _ _ _ _ ?_)
 refine wpAny_newFunctionEnv_cells S.kind hkind fun env he s1 x=>?_
 subst he
 refine⟨lim.keeps x.toInCall.keep,codeAny_func ?_⟩
 obtain⟨t,ht,hq⟩:=hbody A outer s H vs Q E (hr.deeper _) hsp
 have I:jo (yS CX P w K mg base N qual scope f cdv A outer s H E c) [] (start N vs) H s1:=bO S hr.hd e0 hl r x
 refine wpAny_mono (ht [] s1 (start N vs) H _ I hq) (fun fl s' hs=>?_) fun e s' hs=>hs
 have fin:∀{σ':St} {H':Hp} {v:V} {u:Value},jo (yS CX P w K mg base N qual scope f cdv A outer s H E c) [] σ' H' s'→jE v u→Q v H'→CE outer P w H s Q u s' :=
  fun {σ' H' v u} J rv q=>⟨v,H',J.os,J.bare,J.base,J.hok,rv,q⟩
 cases fl with
 | ret u =>
  obtain⟨v,σ',H',J,rv,q⟩:=hs
  exact fin J rv q
 | next =>
  obtain⟨σ',H',J,q⟩:=hs
  exact fin (v:=V.non) (u:=Value.none) J rfl q
 | brk =>
  obtain⟨_,_,_,q⟩:=hs
  exact False.elim q
 | cont =>
  obtain⟨_,_,_,q⟩:=hs
  exact False.elim q
end L2
namespace L2
open PySem PySem.Spec PyProof.Rows
section
variable {X:Cx}{x:Str}{p pos:Pos}{e:Expr}{es:tJ}{t:TA}{id T:String}{r:List V→Hp→VK→Prop}
def rF (r:List V→Hp→VK→Prop) (t:TA):TE:=fun σ H Q=>t σ H fun vs H1=>r vs H1 Q
theorem jO (hc:ux X (.builtin id) r) (hg:Gl X x) (hm:X.mg x=none) (hv:bootBuiltins x=some (.builtin id)) (ha:PA X (e::es) t) (hn:x≠"__name__":=by decide) (hdb:(x==("__debug__":Str))=false:=by decide)
  (he:starEach (e::es) X.env=(false,eval e X.env)::starEach es X.env:=by rfl) (hpl:(backTo pos (starEach es X.env)).any (·.1)=false:=by rfl):PE X (.Call (.Name x p) (e::es) [] pos) (rF r t):=by
 intro pins s σ H Q I h
 refine wpAny_Call_Name_kw (vE I hg hm hv ?_ hn hdb)
 exact PyProof.Rows.callWith_builtin1 (jC (ha pos pins s σ H _ I h) fun us s1 ⟨vs,H1,I1,r1,q1⟩=>hc pins s1 σ H1 vs us Q I1 r1 q1) he hpl
theorem UO (hc:ux X (.type T) r) (hg:Gl X x) (hm:X.mg x=none) (hv:bootBuiltins x=some (.type T)) (ha:PA X (e::es) t) (hn:x≠"__name__":=by decide) (hdb:(x==("__debug__":Str))=false:=by decide)
  (he:starEach (e::es) X.env=(false,eval e X.env)::starEach es X.env:=by rfl) (hpl:(backTo pos (starEach es X.env)).any (·.1)=false:=by rfl):PE X (.Call (.Name x p) (e::es) [] pos) (rF r t):=by
 intro pins s σ H Q I h
 refine wpAny_Call_Name_kw (vE I hg hm hv ?_ hn hdb)
 exact PyProof.Rows.callWith_type1 (jC (ha pos pins s σ H _ I h) fun us s1 ⟨vs,H1,I1,r1,q1⟩=>hc pins s1 σ H1 vs us Q I1 r1 q1) he hpl
end
end L2
namespace HT
open PySem PyProof.Rows
section
open PySem.SeqAt
open PySem.AutoSeq1 (wpAny_loadPart')
open PySem.MeetsSeq PySem.MeetsSeq2 PySem.MeetsSeq3
end
section
variable {prog:tM}{w:World}{A:Around}{E:sV}{s:Shared}
theorem cat_tup {t b:Addr}{vs ws:tz}{Q:sV} (ht:IsTup s.heap t vs.toArray) (hb:IsTup s.heap b ws.toArray) (hv:vs≠[])
  (h1:ws=[]→Q (.ref t) s) (h2:ws≠[]→Q (.ref s.heap.objs.size) { s with heap:=s.heap.push { cls:=.type "tuple",data:=.seq (vs++ws).toArray } })
  (hsz:vs.length+ws.length≤sizeLine):wpAny (model prog w) A (binaryOp .Add (.ref t) (.ref b)) Q E s:=by
 obtain⟨⟨cls,dd,data,sl⟩,ho,hc,n,hd⟩:=id ht
 obtain⟨⟨cls2,dd2,data2,sl2⟩,ho2,hc2,n2,hd2⟩:=id hb
 simp only at hc hd hc2 hd2
 subst hc hd hc2 hd2
 have e:vs.toArray++ws.toArray=(vs++ws).toArray:=by simp
 by_cases hw:ws=[]
 ·exact concat_meets ⟨_,ho,rfl⟩ ⟨_,ho2,rfl⟩ noFill_tuple_add seq_tuple_add PySem.F.slot_tuple_add PySem.F.entry_tuple_add (PySem.F.args_tuple_add_2 _ _)
   (tuple_addW1 t b vs.toArray ws.toArray n n2 dd dd2 sl sl2 (by simpa using hv) (by simp [hw])) ⟨ho,ho2,h1 hw⟩
 ·refine concat_meets ⟨_,ho,rfl⟩ ⟨_,ho2,rfl⟩ noFill_tuple_add seq_tuple_add PySem.F.slot_tuple_add PySem.F.entry_tuple_add (PySem.F.args_tuple_add_2 _ _)
   (tuple_addW2 t b vs.toArray ws.toArray n n2 dd dd2 sl sl2 (by simpa using hv) (by simpa using hw) (by rw [List.size_toArray,List.size_toArray];exact hsz)) ⟨ho,ho2,?_⟩
  rw [e]
  exact h2 hw
def sIx (n d:Nat):Option Int→Nat
 | none=>d
 | some v=>if v<0 then (v+(n:Int)).toNat else min v.toNat n
theorem sIx_none (n d:Nat):sIx n d none=d:=rfl
theorem sIx_nat (n d k:Nat):sIx n d (some (k:Int))=min k n:=by
 show (if (k:Int)<0 then ((k:Int)+(n:Int)).toNat else min (k:Int).toNat n)=min k n
 rw [if_neg (by omega),Int.toNat_natCast]
theorem qe (n d:Nat) (hd:d≤n) (o:Option Int):sIx n d o≤n:=by
 cases o with
 | none=>exact hd
 | some v =>
  show (if v<0 then (v+(n:Int)).toNat else min v.toNat n)≤n
  by_cases hv:v<0
  ·rw [if_pos hv];omega
  ·rw [if_neg hv];exact Nat.min_le_right _ _
theorem Nl (v:Int) (n d:Nat):(if v<0 then max (v+(n:Int)) 0 else min v (n:Int))=((sIx n d (some v):Nat):Int):=by
 show (if v<0 then max (v+(n:Int)) 0 else min v (n:Int))=(((if v<0 then (v+(n:Int)).toNat else min v.toNat n):Nat):Int)
 by_cases hv:v<0
 ·simp only [if_pos hv];omega
 ·simp only [if_neg hv];omega
theorem aa (lo hi:Option Int) (n:Nat):Builtin.Slice.sliceAdjust lo hi 1 (n:Int)=(((sIx n 0 lo:Nat):Int),((sIx n n hi:Nat):Int)):=by
 have h1:¬((1:Int)<0):=by omega
 unfold Builtin.Slice.sliceAdjust
 simp only [h1,if_false]
 refine Prod.ext ?_ ?_
 ·cases lo with
  | none=>rfl
  | some v=>exact Nl v n 0
 ·cases hi with
  | none=>rfl
  | some v=>exact Nl v n n
theorem aH (i j:Nat):Builtin.Slice.slicePlaces (i:Int) (j:Int) 1=j - i:=by
 unfold Builtin.Slice.slicePlaces
 have h1:(1:Int) > 0:=by omega
 simp only [h1,if_true,Int.ediv_one]
 split<;>omega
theorem Gj {v:Value}{o:Option Int}{Q:Option Int→Shared→Prop} (p:IsPart v o) (h:Q o s):wpAny (model prog w) A (Builtin.Slice.slicePartIndex v) Q E s:=by
 cases p with
 | none=>exact slicePart_none h
 | int i t=>exact slicePart_int h
theorem VP {sl:Addr}{vl vu:Value}{lo hi:Option Int}{n:Nat}{Q:Int×Int×Nat→Shared→Prop} (hs:s.heap.IsSliceOf sl vl vu .none) (pl:IsPart vl lo) (pu:IsPart vu hi)
  (h:Q (((sIx n 0 lo:Nat):Int),1,sIx n n hi - sIx n 0 lo) s):wpAny (model prog w) A (Builtin.Slice.sliceApplied (.ref sl) (pure (n:Int))) Q E s:=by
 obtain⟨os,hos,hcs,hds⟩:=id hs
 unfold Builtin.Slice.sliceApplied Builtin.Slice.sliceFields
 refine tO (tO (wpAny_field hos hds (x:=vl) rfl (tO (wpAny_field hos hds (x:=vu) rfl (tO (wpAny_field hos hds (x:=.none) rfl (tP ?_)))))))
 refine tO (slicePart_none ?_)
 show wpAny _ _ (if ((1:Int)==0)=true then _ else _) _ _ s
 rw [if_neg (by decide)]
 refine tO (Gj pl (tO (Gj pu (tO (tP ?_)))))
 show wpAny _ _ (match Builtin.Slice.sliceAdjust lo hi 1 (n:Int) with|(lo,hi)=>pure (lo,(1:Int),Builtin.Slice.slicePlaces lo hi 1)) _ _ s
 rw [aa lo hi n]
 show wpAny _ _ (pure (((sIx n 0 lo:Nat):Int),(1:Int),Builtin.Slice.slicePlaces ((sIx n 0 lo:Nat):Int) ((sIx n n hi:Nat):Int) 1)) _ _ s
 rw [aH]
 exact tP h
theorem dR (xs:tI) (i k:Nat):((List.range k).filterMap fun (m:Nat)=>xs[((i:Int)+(m:Int)*1).toNat]?).toArray=((xs.toList.drop i).take k).toArray:=by
 have e:(fun (m:Nat)=>xs[((i:Int)+(m:Int)*1).toNat]?)=fun m=>xs[i+m]?:=by
  funext m
  have:((i:Int)+(m:Int)*1).toNat=i+m:=by omega
  rw [this]
 rw [e]
 have:=pick_run xs i k
 rw [List.filterMap_map] at this
 have e2:((fun x=>xs[x]?)∘fun x=>i+x)=fun m=>xs[i+m]?:=rfl
 rw [e2] at this
 rw [this]
theorem getItem_tuple_cut {t sl:Addr}{items:tI}{vl vu:Value}{lo hi:Option Int}{Q:sV} (ht:IsTup s.heap t items) (hs:s.heap.IsSliceOf sl vl vu .none) (pl:IsPart vl lo) (pu:IsPart vu hi)
  (hw:¬(sIx items.size 0 lo=0∧sIx items.size items.size hi=items.size))
  (h:Q (.ref s.heap.objs.size) { s with heap:=s.heap.push { cls:=.type "tuple",data:=.seq ((items.toList.drop (sIx items.size 0 lo)).take (sIx items.size items.size hi - sIx items.size 0 lo)).toArray } })
  (hsz:items.size≤sizeLine):wpAny (model prog w) A (getItem (.ref t) (.ref sl)) Q E s:=by
 have htake:sizeOk (.seq ((items.toList.drop (sIx items.size 0 lo)).take (sIx items.size items.size hi - sIx items.size 0 lo)).toArray):=by
  show ((items.toList.drop (sIx items.size 0 lo)).take (sIx items.size items.size hi - sIx items.size 0 lo)).toArray.size≤sizeLine
  rw [List.size_toArray,List.length_take,List.length_drop,Array.length_toList]
  omega
 have hj:sIx items.size items.size hi≤items.size:=qe _ _ (Nat.le_refl _) hi
 obtain⟨os,hos,hcs,hds⟩:=id hs
 have hTs:s.TypeIs (.ref sl) "slice":=⟨os,hos,hcs⟩
 unfold getItem
 try with_reducible refine wpAny_holding ?_
 first|refine tO (tP ?_)|skip
 refine tO (wpAny_sequenceKey ht.typeIs (by decide) ?_)
 refine tO (wpAny_callSpecial?_slot (name:=Str.ofString "__getitem__") ht.typeIs PyProof.Rows.slot_tuple_getitem
  (wpAny_call_entry PyProof.Rows.slot_tuple_getitem ht.typeIs entry_tuple_getitem ?_ (args_tuple_getitem _ _)))
 show wpAny _ _ (Builtin.Tuple.tupleItemsOf (.ref t)>>=_) _ _ s
 refine tO (tupleItemsOf_ ht ?_)
 refine tO (wpAny_typeOf hTs ?_)
 rw [if_pos (by decide)]
 refine tO (VP hs pl pu ?_)
 have hno:¬((((sIx items.size 0 lo:Nat):Int)==0&&(1:Int)==1&&(sIx items.size items.size hi - sIx items.size 0 lo)==items.size)=true):=by
  intro q
  rw [Bool.and_eq_true,Bool.and_eq_true] at q
  have q1:((sIx items.size 0 lo:Nat):Int)=0:=eq_of_beq q.1.1
  have q2:sIx items.size items.size hi - sIx items.size 0 lo=items.size:=eq_of_beq q.2
  exact hw ⟨by omega,by omega⟩
 show wpAny _ _ (if (((sIx items.size 0 lo:Nat):Int)==0&&(1:Int)==1&&(sIx items.size items.size hi - sIx items.size 0 lo)==items.size)=true then _ else _) _ _ s
 rw [if_neg hno,dR]
 first
  | exact tO (m:=Builtin.Tuple.tupleExact _) (wpAny_newObj_type (tP ⟨_,rfl,tP h⟩) htake)
  | exact tO (m:=Builtin.Tuple.tupleExact _) (wpAny_newObj_type (tO (tP (tP ⟨_,rfl,tP h⟩))) htake)
  | exact tO (tO (m:=Builtin.Tuple.tupleExact _) (wpAny_newObj_type (tP (tP ⟨_,rfl,tP h⟩)) htake))
  | exact tO (tO (m:=Builtin.Tuple.tupleExact _) (wpAny_newObj_type (tP ⟨_,rfl,tP h⟩) htake))
end
end HT
namespace L2
open PySem PySem.Spec PyProof.Rows
abbrev TO:=St→Hp→(Option Int→Hp→Prop)→Prop
def PO (X:Cx) (e:Option Expr) (t:TO):Prop :=
 ∀(pins:tq) (s:Shared) (σ:St) (H:Hp) (Q:Option Int→Hp→Prop),jo X pins σ H s→t σ H Q →
  wpAny (model X.prog X.w) X.A (evalPart e X.env) (fun u s'=>∃o H',jo X pins σ H' s'∧IsPart u o∧Q o H') X.xe s
def lP:TO:=fun _ H Q=>Q none H
def ro (t:TE):TO:=fun σ H Q=>t σ H fun x H1=>∃i,x=.int i∧Q (some i) H1
theorem gM {ns:List Int}:∀{us:tz},jB (ns.map V.int) us→IntsAre us ns:=by
 induction ns with
 | nil=>intro us r;rw [List.map_nil] at r;cases r;exact .nil
 | cons n ns ih =>
  intro us r
  rw [List.map_cons] at r
  cases r with
  | cons r1 r2 =>
   obtain⟨t,e⟩:=r1
   subst e
   exact .cons n t (ih r2)
section
variable {X:Cx}{e:Expr}{te:TE}{lo hi:Option Expr}{tl th:TO}{pos p2:Pos}
theorem GK:PO X none lP:=by
 intro pins s σ H Q I h
 rw [evalPart_none]
 exact tP ⟨none,H,I,.none,h⟩
theorem yB (h:PE X e te):PO X (some e) (ro te):=by
 intro pins s σ H Q I hw
 rw [evalPart_some]
 refine jC (h pins s σ H _ I hw) fun u s1 ⟨x,H1,I1,r1,q1⟩=>?_
 obtain⟨i,rfl,q⟩:=q1
 obtain⟨t,rfl⟩:=r1
 exact⟨some i,H1,I1,.int i t,q⟩
def fb (X:Cx) (r:V→Option Int→Option Int→Hp→VK→Prop):Prop :=
 ∀(pins:tq) (s:Shared) (σ:St) (H:Hp) (x:V) (v vl vu:Value) (lo hi:Option Int) (sl:Addr) (Q:VK),jo X pins σ H s→jE x v→s.heap.IsSliceOf sl vl vu .none→IsPart vl lo→IsPart vu hi→r x lo hi H Q →
  ∃T id,typeLookup (.type T) "__getitem__"=pure (some (.builtin id))∧s.TypeIs v T∧wpAny (model X.prog X.w) X.A (getItem v (.ref sl)) (EP X pins σ Q) X.xe s
def sS (r:V→Option Int→Option Int→Hp→VK→Prop) (te:TE) (tl th:TO):TE:=fun σ H Q=>te σ H fun x H1=>tl σ H1 fun l H2=>th σ H2 fun u H3=>r x l u H3 Q
theorem Ya {r:V→Option Int→Option Int→Hp→VK→Prop} (hr:fb X r) (he:PE X e te) (hl:PO X lo tl) (hu:PO X hi th):PE X (.Subscript e (.Slice lo hi none p2) pos) (sS r te tl th):=by
 intro pins s σ H Q I h
 refine Subscript_ (jC (he pins s σ H _ I h) fun v s1 ⟨x,H1,I1,r1,q1⟩=>?_)
 refine wpAny_Slice (jC (hl pins s1 σ H1 _ I1 q1) fun vl s2 ⟨l,H2,I2,pl,q2⟩=>jC (hu pins s2 σ H2 _ I2 q2) fun vu s3 ⟨u,H3,I3,pu,q3⟩=>?_)
 rw [evalPart_none]
 refine tP ?_
 have I4:jo X pins σ H3 { s3 with heap:=s3.heap.push { cls:=.type "slice",data:=.fields #[vl,vu,.none] } }:=I3.kept (t':=s3.toks) fun b ob q=>Heap.get?_push_of_some _ q
 obtain⟨T,id,hT,ht,hg⟩:=hr pins { s3 with heap:=s3.heap.push { cls:=.type "slice",data:=.fields #[vl,vu,.none] } } σ H3 x v vl vu l u s3.heap.objs.size Q I4 r1 (Heap.IsSliceOf.new ..) pl pu q3
 show wpAny (model X.prog X.w) X.A (subscriptTail e (.Slice lo hi none p2) v (.ref s3.heap.objs.size)) (EP X pins σ Q) X.xe { s3 with heap:=s3.heap.push { cls:=.type "slice",data:=.fields #[vl,vu,.none] } }
 exact tail_any (ops:=[.ref s3.heap.objs.size,v]) ht hT hg (by with_unfolding_all rfl)
def uR (xs:List V) (lo hi:Option Int):List V:=(xs.drop (HT.sIx xs.length 0 lo)).take (HT.sIx xs.length xs.length hi - HT.sIx xs.length 0 lo)
theorem Zi (xs:List V) (lo hi:Option Int):(uR xs lo hi).length≤xs.length:=by
 unfold uR
 rw [List.length_take,List.length_drop]
 omega
def se (K:sZ):V→Option Int→Option Int→Hp→VK→Prop:=fun x lo hi H Q=>∃a xs,x=.ref a∧jw K H a xs ∧
 ¬(HT.sIx xs.length 0 lo=0∧HT.sIx xs.length xs.length hi=xs.length)∧∀p,H p=none→Q (.ref p) (upd H p (.tup (uR xs lo hi)))
theorem qi:fb X (se X.K):=by
 intro pins s σ H x v vl vu lo hi sl Q I rx hs pl pu h
 obtain⟨a,xs,rfl,hx,hw,q⟩:=h
 cases rx
 obtain⟨its,r,ht,hz⟩:=I.tuple hx
 have hlen:its.toArray.size=xs.length:=by rw [List.size_toArray];exact r.length.symm
 refine⟨"tuple",_,PyProof.Rows.slot_tuple_getitem.lookup,ht.typeIs,?_⟩
 refine HT.getItem_tuple_cut ht hs pl pu (by rw [hlen];exact hw) ?_ (by rw [hlen];exact hz)
 rw [hlen]
 refine⟨.ref s.heap.objs.size,_,I.laid (t':=s.toks) (o:=.tup (uR xs lo hi)) (fun b ob q=>Heap.get?_push_of_some _ q) (Nat.le_refl _) ?_,rfl,q _ (I.hok.fresh (Nat.le_refl _))⟩
 exact⟨Nat.le_trans (Zi xs lo hi) hz,_,(r.drop (HT.sIx xs.length 0 lo)).take (HT.sIx xs.length xs.length hi - HT.sIx xs.length 0 lo),IsTup.new _ _⟩
def fU (K:sZ):R2:=fun x y H Q=>∃a b xs ys,x=.ref a∧y=.ref b∧jw K H a xs∧jw K H b ys∧xs≠[]∧xs.length+ys.length≤sizeLine ∧
 (ys=[]→Q (.ref a) H)∧(ys≠[]→∀p,H p=none→Q (.ref p) (upd H p (.tup (xs++ys))))
theorem jB.nil_iff {xs:List V}{us:tz} (r:jB xs us):us=[]↔xs=[]:=by
 cases r with
 | nil=>simp
 | cons _ _=>simp
theorem NK:ul X (binaryOp .Add) (fU X.K):=by
 intro pins s σ H x y v u Q I rx ry h
 obtain⟨a,b,xs,ys,rfl,rfl,ha,hb,hx,hz,q1,q2⟩:=h
 cases rx
 cases ry
 obtain⟨its,r1,p1,_⟩:=I.tuple ha
 obtain⟨its2,r2,p2,_⟩:=I.tuple hb
 refine HT.cat_tup p1 p2 (fun z=>hx (r1.nil_iff.mp z)) (fun z=>⟨.ref a,H,I,rfl,q1 (r2.nil_iff.mp z)⟩) (fun z=>?_) (by rw [←r1.length,←r2.length];exact hz)
 refine⟨.ref s.heap.objs.size,_,I.laid (t':=s.toks) (o:=.tup (xs++ys)) (fun b ob q=>Heap.get?_push_of_some _ q) (Nat.le_refl _) ?_,rfl,q2 (fun w=>z (r2.nil_iff.mpr w)) _ (I.hok.fresh (Nat.le_refl _))⟩
 exact⟨by rw [List.length_append];exact hz,_,r1.append r2,IsTup.new _ _⟩
end
end L2
namespace L2
open PySem PySem.Spec PyProof.Rows
def Nz (n:Nat) (i:Int):Option Nat:=if 0≤i then (if i<n then some i.toNat else none) else if -(n:Int)≤i then some (i+n).toNat else none
def K1 {α:Type} (xs:List α) (i:Int):Option α:=(Nz xs.length i).bind fun j=>xs[j]?
theorem iL {n:Nat}{i:Int}{j:Nat} (h:Nz n i=some j):seqIndex? i n=some j∧j<n∧-(n:Int)≤i∧i<n:=by
 unfold Nz at h
 by_cases h0:0≤i
 ·rw [if_pos h0] at h
  by_cases h1:i<n
  ·rw [if_pos h1] at h
   have e:i.toNat=j:=Option.some.inj h
   exact⟨by rw [seqIndex_of h0 h1,e],by omega,by omega,h1⟩
  ·rw [if_neg h1] at h;cases h
 ·rw [if_neg h0] at h
  by_cases h1:-(n:Int)≤i
  ·rw [if_pos h1] at h
   have e:(i+n).toNat=j:=Option.some.inj h
   exact⟨by rw [seqIndex_neg (by omega) h1,e],by omega,h1,by omega⟩
  ·rw [if_neg h1] at h;cases h
theorem Ng {α:Type}{xs:List α}{i:Int}{v:α} (h:K1 xs i=some v):∃j,seqIndex? i xs.length=some j∧xs[j]?=some v∧j<xs.length∧-(xs.length:Int)≤i∧i<xs.length:=by
 unfold K1 at h
 cases e:Nz xs.length i with
 | none=>rw [e] at h;cases h
 | some j =>
  rw [e] at h
  obtain⟨h1,h2,h3,h4⟩:=iL e
  exact⟨j,h1,h,h2,h3,h4⟩
theorem Nh {α:Type}{xs:List α}{j:Nat}{v:α} (h:xs[j]?=some v):K1 xs (j:Int)=some v:=by
 have hj:j<xs.length:=(List.getElem?_eq_some_iff.mp h).1
 have e:Nz xs.length (j:Int)=some j:=by
  unfold Nz
  rw [if_pos (by omega),if_pos (by omega)];simp
 unfold K1;rw [e];exact h
def ie (b:Expr):Prop:=∀o i,subscripted b false o i=operate [o,i] (getItem o i)
def eY (X:Cx) (r:R2):Prop :=
 ∀(value slice:Expr) (pins:tq) (s:Shared) (σ:St) (H:Hp) (x y:V) (v u:Value) (Q:VK),jo X pins σ H s→jE x v→jE y u→r x y H Q →
  subscripted slice false v u=operate [v,u] (getItem v u)→wpAny (model X.prog X.w) X.A (subscriptTail value slice v u) (EP X pins σ Q) X.xe s
def l5 (X:Cx) (id:String) (r:V→List V→Hp→VK→Prop):Prop :=
 ∀(pins:tq) (s:Shared) (σ:St) (H:Hp) (x:V) (xs:List V) (v:Value) (us:tz) (Q:VK),jo X pins σ H s→jE x v→jB xs us→r x xs H Q →
  wpAny (model X.prog X.w) X.A (call (.builtin id) (v::us)) (EP X pins σ Q) X.xe s
section
variable {X:Cx}{a b:Expr}{ta tb:TE}{pos:Pos}
theorem jN {r:R2} (hr:eY X r) (ha:PE X a ta) (hb:PE X b tb) (hs:ie b):PE X (.Subscript a b pos) (cR r ta tb):=by
 intro pins s σ H Q I h
 exact Subscript_ (c6 ha hb I h fun v u s2 x y H2 I2 rx ry q=>hr a b pins s2 σ H2 x y v u Q I2 rx ry q (hs _ _))
def r0 (K:sZ):R2:=fun x y H Q=>∃p xs i v,x=.ref p∧y=.int i∧jD K H p xs∧K1 xs i=some v∧Q v H
def dX (K:sZ):R2:=fun x y H Q=>∃p xs i v,x=.ref p∧y=.int i∧jw K H p xs∧K1 xs i=some v∧Q v H
theorem iM:eY X (r0 X.K):=by
 intro value slice pins s σ H x y v u Q I rx ry h hs
 obtain⟨p,xs,i,z,rfl,rfl,hq,he,q⟩:=h
 cases rx
 obtain⟨t,rfl⟩:=ry
 obtain⟨its,r,pl,hz⟩:=I.list hq
 obtain⟨j,h1,h2,h3,h4,h5⟩:=Ng he
 obtain⟨w,ew,rw'⟩:=r.get h2
 have hl:=r.length
 have hn:=mT
 have fin:EP X pins σ Q w s:=⟨z,H,I,rw',q⟩
 by_cases h0:0≤i
 ·have hj:i.toNat=j:=by
   rw [seqIndex_of h0 h5] at h1
   exact Option.some.inj h1
  exact item_listR pl.isList h0 (by omega) (by rw [hj];simpa using ew) fin hs
 ·have hj:(i+(its.toArray.size:Int)).toNat=j:=by
   rw [seqIndex_neg (by omega) h4] at h1
   rw [List.size_toArray,←hl]
   exact Option.some.inj h1
  exact subscriptTail_builtinR (x:=w) pl.isList.typeIs slot_list_getitem.lookup
   (wpAny_getItem_list_neg (Q:=fun r s'=>r=w∧EP X pins σ Q r s') pl.isList (by omega) (by rw [List.size_toArray]<;>omega) (by omega) (by rw [hj];simpa using ew) ⟨rfl,fin⟩) hs
theorem jG:eY X (dX X.K):=by
 intro value slice pins s σ H x y v u Q I rx ry h hs
 obtain⟨p,xs,i,z,rfl,rfl,hq,he,q⟩:=h
 cases rx
 obtain⟨t,rfl⟩:=ry
 obtain⟨its,r,pl,hz⟩:=I.tuple hq
 obtain⟨j,h1,h2,h3,h4,h5⟩:=Ng he
 obtain⟨w,ew,rw'⟩:=r.get h2
 have hl:=r.length
 have hn:=mT
 have fin:EP X pins σ Q w s:=⟨z,H,I,rw',q⟩
 exact subscriptTail_builtinR (x:=w) pl.typeIs slot_tuple_getitem.lookup
  (getItem_tuple (j:=j) (Q:=fun r s'=>r=w∧EP X pins σ Q r s') pl (by omega) (by omega) (by rw [List.size_toArray,←hl];exact h1) (by simpa using ew) ⟨rfl,fin⟩) hs
theorem MP (lo hi:Option Int) (n:Nat):(sliceBounds lo hi none n).1=((HT.sIx n 0 lo:Nat):Int)∧(sliceBounds lo hi none n).2.1=((HT.sIx n n hi:Nat):Int)∧(sliceBounds lo hi none n).2.2=1:=by
 refine⟨?_,?_,rfl⟩
 ·cases lo with
  | none=>simp [sliceBounds,HT.sIx]
  | some i =>
   simp only [sliceBounds,HT.sIx,Option.getD_none,show (1:Int) > 0 by decide,if_true]
   by_cases h:i<0
   ·simp only [h,if_true]<;>omega
   ·simp only [h,if_false]<;>omega
 ·cases hi with
  | none=>simp [sliceBounds,HT.sIx]
  | some i =>
   simp only [sliceBounds,HT.sIx,Option.getD_none,show (1:Int) > 0 by decide,if_true]
   by_cases h:i<0
   ·simp only [h,if_true]<;>omega
   ·simp only [h,if_false]<;>omega
theorem Kn (its:tz) (lo hi:Option Int):slicePick its.toArray lo hi none=((its.drop (HT.sIx its.length 0 lo)).take (HT.sIx its.length its.length hi - HT.sIx its.length 0 lo)).toArray:=by
 obtain⟨h1,h2,h3⟩:=MP lo hi its.toArray.size
 unfold slicePick
 rw [h1,h2,h3]
 simp only [sliceRange_one,pick_run,List.size_toArray]<;>rfl
def r9 (K:sZ):V→Option Int→Option Int→Hp→VK→Prop:=fun x lo hi H Q=>∃a xs,x=.ref a∧jD K H a xs∧∀p,H p=none→Q (.ref p) (upd H p (.lst (uR xs lo hi)))
theorem GT:fb X (r9 X.K):=by
 intro pins s σ H x v vl vu lo hi sl Q I rx hs pl pu h
 obtain⟨a,xs,rfl,hx,q⟩:=h
 cases rx
 obtain⟨its,r,ht,hz⟩:=I.list hx
 have hlen:=r.length
 refine⟨"list",_,slot_list_getitem.lookup,ht.isList.typeIs,?_⟩
 refine wpAny_getItem_list_slice ht.isList hs pl pu .none (by simp) ?_ (by rw [List.size_toArray]<;>omega)
 rw [Kn,←hlen]
 refine⟨.ref s.heap.objs.size,_,I.laid (t':=s.toks) (o:=.lst (uR xs lo hi)) (fun b ob q=>Heap.get?_push_of_some _ q) (Nat.le_refl _) ?_,rfl,q _ (I.hok.fresh (Nat.le_refl _))⟩
 exact⟨Nat.le_trans (Zi xs lo hi) hz,_,0,(r.drop (HT.sIx xs.length 0 lo)).take (HT.sIx xs.length xs.length hi - HT.sIx xs.length 0 lo),Heap.get?_push_size _ rfl⟩
def VY:V→Bool
 | .non=>true
 | .bl _=>true
 | .int _=>true
 | .str _=>true
 | _=>false
def ke:V→V→Bool
 | .non,.non=>true
 | .bl a,.bl b=>a==b
 | .bl a,.int b=>(if a then 1 else 0)==b
 | .int a,.bl b=>a==(if b then 1 else 0)
 | .int a,.int b=>a==b
 | .str a,.str b=>a==b
 | _,_=>false
theorem oB {A:Around}{s:Shared}{y x:V}{u v:Value} (ry:jE y u) (rx:jE x v) (fy:VY y=true) (fx:VY x=true):SeqAt.EqAt A s u v (ke y x):=by
 cases y with
 | non =>
  cases ry
  cases x with
  | non=>cases rx;exact SeqAt.EqAt.same _
  | bl b=>cases rx;exact SeqAt.EqAt.none_bool b
  | int b=>obtain⟨t,rfl⟩:=rx;exact SeqAt.EqAt.none_int b t
  | str b=>obtain⟨t,rfl⟩:=rx;exact SeqAt.EqAt.none_str b t
  | _=>exact absurd (show false=true from fx) Bool.false_ne_true
 | bl a =>
  cases ry
  cases x with
  | non=>cases rx;exact SeqAt.EqAt.bool_none a
  | bl b=>cases rx;exact SeqAt.EqAt.bool_bool a b
  | int b=>obtain⟨t,rfl⟩:=rx;exact SeqAt.EqAt.bool_int a b t
  | str b=>obtain⟨t,rfl⟩:=rx;exact SeqAt.EqAt.bool_str a b t
  | _=>exact absurd (show false=true from fx) Bool.false_ne_true
 | int a =>
  obtain⟨t',rfl⟩:=ry
  cases x with
  | non=>cases rx;exact SeqAt.EqAt.int_none a t'
  | bl b=>cases rx;exact SeqAt.EqAt.int_bool a t' b
  | int b=>obtain⟨t,rfl⟩:=rx;exact SeqAt.EqAt.int_int a t' b t
  | str b=>obtain⟨t,rfl⟩:=rx;exact SeqAt.EqAt.int_str a t' b t
  | _=>exact absurd (show false=true from fx) Bool.false_ne_true
 | str a =>
  obtain⟨t',rfl⟩:=ry
  cases x with
  | non=>cases rx;exact SeqAt.EqAt.str_none a t'
  | bl b=>cases rx;exact SeqAt.EqAt.str_bool a t' b
  | int b=>obtain⟨t,rfl⟩:=rx;exact SeqAt.EqAt.str_int a t' b t
  | str b=>obtain⟨t,rfl⟩:=rx;exact SeqAt.EqAt.str_str a t' b t
  | _=>exact absurd (show false=true from fx) Bool.false_ne_true
 | _=>exact absurd (show false=true from fy) Bool.false_ne_true
def gv (x:V) (u:Value):Bool:=match u with
 | .none=>ke .non x
 | .bool b=>ke (.bl b) x
 | .int i _=>ke (.int i) x
 | .str z _=>ke (.str z) x
 | _=>false
theorem bA {x y:V}{u:Value} (r:jE y u) (f:VY y=true):gv x u=ke y x:=by
 cases y with
 | non=>cases r;rfl
 | bl b=>cases r;rfl
 | int i=>obtain⟨t,rfl⟩:=r;rfl
 | str z=>obtain⟨t,rfl⟩:=r;rfl
 | _=>exact absurd (show false=true from f) Bool.false_ne_true
theorem Gu {x:V}:∀{xs:List V} {us:tz},jB xs us→xs.all VY=true→us.any (gv x)=xs.any fun y=>ke y x
 | _,_,.nil,_=>rfl
 | y::xs,u::us,.cons r t,f=>by
  rw [List.all_cons,Bool.and_eq_true] at f
  rw [List.any_cons,List.any_cons,bA r f.1,Gu t f.2]
theorem ZX {A:Around}{s:Shared}{x:V}{v:Value} (rx:jE x v) (fx:VY x=true):∀{xs:List V} {us:tz},jB xs us→xs.all VY=true→∀u∈us,SeqAt.EqAt A s u v (gv x u)
 | _,_,.nil,_=>fun u hu=>by cases hu
 | y::xs,u::us,.cons r t,f=>fun u' hu=>by
  rw [List.all_cons,Bool.and_eq_true] at f
  rcases List.mem_cons.mp hu with rfl|hu
  ·rw [bA r f.1];exact oB r rx f.1 fx
  ·exact ZX rx fx t f.2 u' hu
def ft (x:V) (xs:List V):Bool:=xs.any fun y=>ke y x
def sG (K:sZ) (neg:Bool):R2:=fun x y H Q=>∃p xs,y=.ref p∧(jD K H p xs∨jw K H p xs)∧VY x=true∧xs.all VY=true∧Q (.bl (if neg then !ft x xs else ft x xs)) H
theorem Mr:ul X (compareOp .NotIn) (sG X.K true):=by
 intro pins s σ H x y v u Q I rx ry h
 obtain⟨p,xs,rfl,hq,fx,fs,q⟩:=h
 cases ry
 rcases hq with hq|hq
 ·obtain⟨its,r,pl,hz⟩:=I.list hq
  refine SeqAt.notIn_listAt (gv x) pl.isList (fun w hw=>ZX rx fx r fs w (by simpa using hw)) ⟨.bl _,H,I,rfl,?_⟩
  rw [show its.toArray.any (gv x)=its.any (gv x) by simp,Gu r fs]
  exact q
 ·obtain⟨its,r,pl,hz⟩:=I.tuple hq
  refine SeqAt.notIn_tupleAt (gv x) pl (fun w hw=>ZX rx fx r fs w (by simpa using hw)) ⟨.bl _,H,I,rfl,?_⟩
  rw [show its.toArray.any (gv x)=its.any (gv x) by simp,Gu r fs]
  exact q
theorem UW:ux X (.builtin "len") (fun xs H Q=>∃p ys,xs=[.ref p]∧(jD X.K H p ys∨jw X.K H p ys)∧Q (.int ys.length) H):=by
 intro pins s σ H xs us Q I r h
 obtain⟨p,ys,rfl,hq,q⟩:=h
 obtain⟨u,rfl,rx⟩:=Uk r
 cases rx
 have hn:=mT
 rcases hq with hq|hq
 ·obtain⟨its,r',pl,hz⟩:=I.list hq
  have hlen:=r'.length
  exact Calls.call_len_list pl.isList (by simp only [List.size_toArray]<;>omega) ⟨.int ys.length,H,I.tok _,⟨s.toks+1,by rw [List.size_toArray,hlen]⟩,q⟩
 ·obtain⟨its,r',pl,hz⟩:=I.tuple hq
  have hlen:=r'.length
  exact len_tuple pl (by simp only [List.size_toArray]<;>omega) ⟨.int ys.length,H,I.tok _,⟨s.toks+1,by rw [List.size_toArray,hlen]⟩,q⟩
theorem K6:ux X (.type "list") (fun xs H Q=>∃p ys,xs=[.ref p]∧(jD X.K H p ys∨jw X.K H p ys)∧∀l,H l=none→Q (.ref l) (upd H l (.lst ys))):=by
 intro pins s σ H xs us Q I r h
 obtain⟨p,ys,rfl,hq,q⟩:=h
 obtain⟨u,rfl,rx⟩:=Uk r
 cases rx
 have fin:∀(its:tz),jB ys its→ys.length≤sizeLine→∀(h':Heap) (c':Nat),(∀b o',s.heap.get? b=some o'→h'.get? b=some o') →
   h'.get? s.heap.objs.size=some { cls:=.type "list",dict:=none,data:=.seq its.toArray c',slots:=#[] }→EP X pins σ Q (.ref s.heap.objs.size) { s with heap:=h' }:=fun its r' hz h' c' kp e =>
  ⟨.ref s.heap.objs.size,_,I.laid (t':=s.toks) kp (Nat.le_refl _) (show j3 X.prog X.w _ h' _ (.lst ys) from⟨hz,its,c',r',e⟩),rfl,q _ (I.hok.fresh (Nat.le_refl _))⟩
 rcases hq with hq|hq
 ·obtain⟨its,r',pl,hz⟩:=I.list hq
  have hlen:=r'.length
  obtain⟨o,ho,hc,n,hd⟩:=pl.isList
  exact call_list_seq p (.inl rfl) ho hc hd (fun h' c' kp e=>fin its r' hz h' c' kp e) (by simp only [List.size_toArray]<;>omega)
 ·obtain⟨its,r',pl,hz⟩:=I.tuple hq
  have hlen:=r'.length
  obtain⟨o,ho,hc,n,hd⟩:=pl
  exact call_list_seq p (.inr rfl) ho hc hd (fun h' c' kp e=>fin its r' hz h' c' kp e) (by simp only [List.size_toArray]<;>omega)
theorem k6:ux X (.type "tuple") (fun xs H Q=>∃p ys,xs=[.ref p]∧((jD X.K H p ys∧∀l,H l=none→Q (.ref l) (upd H l (.tup ys)))∨(jw X.K H p ys∧Q (.ref p) H))):=by
 intro pins s σ H xs us Q I r h
 obtain⟨p,ys,rfl,h⟩:=h
 obtain⟨u,rfl,rx⟩:=Uk r
 cases rx
 rcases h with ⟨hq,q⟩|⟨hq,q⟩
 ·obtain⟨its,r',pl,hz⟩:=I.list hq
  have hlen:=r'.length
  refine call_tuple_list pl.isList (fun h' kp=>?_) (by simp only [List.size_toArray]<;>omega)
  have I1:jo X pins σ H { s with heap:=h' }:=I.kept (t':=s.toks) kp
  have I2:jo X pins σ (upd H h'.objs.size (.tup ys)) { s with heap:=h'.push { cls:=.type "tuple",data:=.seq its.toArray } } :=
   I1.laid (t':=s.toks) (fun b o e=>Heap.get?_push_of_some _ e) (Nat.le_refl _) (show j3 X.prog X.w _ _ _ (.tup ys) from⟨hz,its,r',IsTup.new _ _⟩)
  exact⟨.ref h'.objs.size,_,I2,rfl,q _ (I1.hok.fresh (Nat.le_refl _))⟩
 ·obtain⟨its,r',pl,hz⟩:=I.tuple hq
  exact call_tuple_same pl ⟨.ref p,H,I,rfl,q⟩
def qy (K:sZ) (T:String) (x:V) (H:Hp):Prop:=match x with
 | .str _=>T="str"
 | .int _=>T="int"
 | .ref p=>(T="list"∧∃xs,jD K H p xs)∨(T="tuple"∧∃o,K.lookup p=some o∧o.cls=.type "tuple"∧o.dict=none) ∨
   (T="dict"∧((∃kvs,H p=some (.dK kvs))∨∃kvs,H p=some (.dT kvs)))∨(T="set"∧∃S n,H p=some (.set S n))
 | _=>False
theorem cX {pins:tq}{σ:St}{H:Hp}{s:Shared}{T:String}{x:V}{v:Value} (I:jo X pins σ H s) (r:jE x v) (ty:qy X.K T x H) :
  s.TypeIs v T∧∀a,v=.ref a→∃ob,s.heap.get? a=some ob∧ob.dict=none:=by
 cases x with
 | str z =>
  obtain⟨t,rfl⟩:=r
  cases (show T="str" from ty)
  exact⟨typeIs_str s z t,fun _ e=>nomatch e⟩
 | int i =>
  obtain⟨t,rfl⟩:=r
  cases (show T="int" from ty)
  exact⟨typeIs_int s i t,fun _ e=>nomatch e⟩
 | ref p =>
  cases r
  rcases ty with ⟨rfl,xs,hq⟩|⟨rfl,o,hk,hc,hd⟩|⟨rfl,hk⟩|⟨rfl,S,n,hk⟩
  ·obtain⟨its,_,pl,_⟩:=I.list hq
   refine⟨pl.isList.typeIs,fun a e=>?_⟩
   cases e
   obtain⟨o,n,e,c,hd,_⟩:=pl
   exact⟨o,e,hd⟩
  ·refine⟨⟨o,I.kIn p o hk,hc⟩,fun a e=>?_⟩
   cases e
   exact⟨o,I.kIn _ o hk,hd⟩
  ·have z:∃o,s.heap.get? p=some o∧o.ExactDict:=by
    rcases hk with ⟨kvs,hk⟩|⟨kvs,hk⟩
    ·obtain⟨_,_,_,_,o,_,_,e,ex,_⟩:=I.hok p _ hk
     exact⟨o,e,ex⟩
    ·obtain⟨_,_,_,_,o,_,_,e,ex,_⟩:=I.hok p _ hk
     exact⟨o,e,ex⟩
   obtain⟨o,e,ex⟩:=z
   refine⟨⟨o,e,ex.1⟩,fun a e2=>?_⟩
   cases e2
   exact⟨o,e,ex.2.1⟩
  ·obtain⟨o,_,_,_,e,ex,_⟩:=I.hok p _ hk
   refine⟨⟨o,e,ex.1⟩,fun a e2=>?_⟩
   cases e2
   exact⟨o,e,ex.2.1⟩
 | _=>exact False.elim ty
def sj (K:sZ) (T:String) (r:V→List V→Hp→VK→Prop) (to:TE):TE:=fun σ H Q=>to σ H fun x H1=>qy K T x H1∧r x [] H1 Q
def sP (K:sZ) (T:String) (r:V→List V→Hp→VK→Prop) (to:TE) (t:TA):TE:=fun σ H Q=>to σ H fun x H1=>qy K T x H1∧t σ H1 fun xs H2=>r x xs H2 Q
variable {o e:Expr}{es:tJ}{to:TE}{t:TA}{name:Str}{apos cpos:Pos}{T id:String}{r:V→List V→Hp→VK→Prop}
theorem pQ (pa:PlainAttrs T) (slot:Slot T name id) (hty:typeOf (.builtin id)=pure (.type "method_descriptor")) (hm:l5 X id r) (ho:PE X o to)
  (hbase:attributeBase o name X.env (eval o X.env)=eval o X.env:=by rfl) (hline:(apos.endLine==cpos.line)=true:=by rfl):PE X (.Call (.Attribute o name apos) [] [] cpos) (sj X.K T r to):=by
 intro pins s σ H Q I h
 refine wpAny_Call_method0_late hbase hline (jC (ho pins s σ H _ I h) fun v s1 hh=>?_)
 obtain⟨x,H1,I1,r1,ty,q1⟩:=hh
 obtain⟨h1,h2⟩:=cX I1 r1 ty
 exact⟨T,id,pa,slot,hty,h1,h2,Calls.callWith_builtin rfl (PySem.evalArgs_none (hm pins s1 σ H1 x [] v [] Q I1 r1 .nil q1))⟩
theorem vv (pa:PlainAttrs T) (slot:Slot T name id) (hty:typeOf (.builtin id)=pure (.type "method_descriptor")) (hm:l5 X id r) (ho:PE X o to) (ha:PA X (e::es) t)
  (hbase:attributeBase o name X.env (eval o X.env)=eval o X.env:=by rfl)
  (hfew:((backTo cpos (starEach (e::es) X.env)).all (fun x=>!x.1)&&(backToKw cpos (keywordEach [] X.env)).all (fun x=>x.1.isSome)
   && decide ((e::es).length+([]:List Keyword).length+(if ([]:List Keyword).isEmpty then 0 else 1)<30))=true:=by rfl)
  (hline:(apos.endLine==cpos.line)=true:=by rfl) (hs:starEach (e::es) X.env=(false,eval e X.env)::starEach es X.env:=by rfl) (hplain:(backTo cpos (starEach es X.env)).any (·.1)=false:=by rfl) :
  PE X (.Call (.Attribute o name apos) (e::es) [] cpos) (sP X.K T r to t):=by
 intro pins s σ H Q I h
 refine wpAny_Call_method_late hbase hfew hline rfl (jC (ho pins s σ H _ I h) fun v s1 hh=>?_)
 obtain⟨x,H1,I1,r1,ty,q1⟩:=hh
 obtain⟨h1,h2⟩:=cX I1 r1 ty
 refine⟨T,id,pa,slot,hty,h1,h2,?_⟩
 have hA:=ha cpos pins s1 σ H1 _ I1 q1
 rw [hs] at hA ⊢
 refine Calls.callWith_builtin (by show (false||(backTo cpos (starEach es X.env)).any (·.1))=false;rw [hplain]<;>rfl) (Calls.evalArgs_plain ?_)
 exact jC hA fun us s2 ⟨vs,H2,I2,r2,q2⟩=>hm pins s2 σ H2 x vs v us Q I2 r1 r2 q2
end
end L2
namespace L2
open PySem PySem.Spec PyProof.Rows
def eZ (X:Cx) (id:String) (r:V→List V→Hp→VK→Prop):Prop :=
 ∀(pins:tq) (s:Shared) (σ:St) (H:Hp) (x:V) (xs:List V) (v:Value) (us:tz) (Q:VK),jo X pins σ H s→jE x v→jB xs us→r x xs H Q →
  wpAny (model X.prog X.w) X.A (call (.builtin id) (v::us)) (EP X pins σ Q) X.xe s
theorem jB.one:∀{x:V} {us:tz},jB [x] us→∃u,us=[u]∧jE x u
 | _,_,.cons r .nil=>⟨_,rfl,r⟩
theorem jB.zero:∀{us:tz},jB [] us→us=[]
 | _,.nil=>rfl
theorem jB.dropLast {xs:List V}{us:tz} (h:jB xs us):jB xs.dropLast us.dropLast:=by
 induction h with
 | nil=>exact .nil
 | cons r t ih =>
  cases t with
  | nil=>exact .nil
  | cons q t'=>exact .cons r ih
theorem ai {α:Type} (l:List α):l.eraseIdx (l.length - 1)=l.dropLast:=by
 induction l with
 | nil=>rfl
 | cons a r ih =>
  cases r with
  | nil=>rfl
  | cons b r =>
   have e:(a::b::r).length - 1=((b::r).length - 1)+1:=by
    have h1:(a::b::r).length=r.length+2:=rfl
    have h2:(b::r).length=r.length+1:=rfl
    omega
   rw [e,List.eraseIdx_cons_succ,ih]
   all_goals rfl
section
variable {X:Cx}{pins:tq}{σ:St}{H:Hp}{s:Shared}{l b:Addr}{xs ys zs:List V}
theorem jo.lset {its its':tz}{n:Nat}{f:Array Value→Array Value}{t':Nat} (I:jo X pins σ H s) (hH:H l=some (.lst xs))
  (e:s.heap.get? l=some { cls:=.type "list",data:=.seq its.toArray n }) (hf:f its.toArray=its'.toArray) (hv:jB ys its') (hz:ys.length≤sizeLine) :
  jo X pins σ (upd H l (.lst ys)) { s with heap:=s.heap.update l (Obj.mapSeq f),toks:=t' }:=by
 have q:=PySem.IsL.update e f
 rw [hf] at q
 refine I.write (x:=l) (e:=l) (by rw [hH];exact trivial) (.inl rfl) (fun b' u hb hu=>(Heap.get?_update_other s.heap (Obj.mapSeq f) (Ne.symm hb)).trans hu) ⟨_,q⟩ ?_
 exact⟨hz,its',_,hv,q⟩
theorem jo.lnew {its:tz}{t':Nat} (I:jo X pins σ H s) (hv:jB ys its) (hz:ys.length≤sizeLine) :
  jo X pins σ (upd H s.heap.objs.size (.lst ys)) { s with heap:=s.heap.push { cls:=.type "list",data:=.seq its.toArray },toks:=t' } :=
 I.laid (fun _ _ q=>Heap.get?_push_of_some _ q) (Nat.le_refl _) ⟨hz,its,0,hv,Heap.get?_push_size _ rfl⟩
theorem jo.fresh (I:jo X pins σ H s):H s.heap.objs.size=none:=I.hok.fresh (Nat.le_refl _)
theorem jo.lstM (I:jo X pins σ H s) (hH:H l=some (.lst xs)):xs.length≤sizeLine∧∃(its:tz) (n:Nat),jB xs its∧xs.length=its.length∧s.heap.get? l=some { cls:=.type "list",data:=.seq its.toArray n }:=by
 obtain⟨z,its,n,r,e⟩:=I.hok l _ hH
 exact⟨z,its,n,r,r.length,e⟩
theorem dI {n:Nat} (h:n≤sizeLine):Builtin.List.listTooLong n=false:=by
 unfold Builtin.List.listTooLong
 exact decide_eq_false (by omega)
end
section
variable {X:Cx}
def lg:V→List V→Hp→VK→Prop:=fun x vs H Q=>∃l xs y,x=.ref l∧vs=[y]∧H l=some (.lst xs)∧xs.length<sizeLine∧Q .non (upd H l (.lst (xs++[y])))
theorem vF:eZ X "list.append" lg:=by
 intro pins s σ H x vs v us Q I rx rv h
 obtain⟨l,xs,y,rfl,rfl,hH,hz,q⟩:=h
 cases rx
 obtain⟨u,rfl,ru⟩:=rv.one
 obtain⟨z,its,n,r,hl,e⟩:=I.lstM hH
 refine call_meets F.slot_list_append ⟨_,e,rfl⟩ F.entry_list_append (F.args_list_append_2 _ _) (PySem.list_append l its.toArray n u (by rw [List.size_toArray];omega)) ⟨e,?_⟩
 refine⟨.non,_,I.lset (its':=its++[u]) hH e (by simp) (r.append (.cons ru .nil)) ?_,rfl,q⟩
 rw [List.length_append,List.length_singleton]
 omega
def lj:V→List V→Hp→VK→Prop:=fun x vs H Q=>∃l b xs zs,x=.ref l∧vs=[.ref b]∧H l=some (.lst xs)∧H b=some (.lst zs)∧xs.length+zs.length≤sizeLine∧Q .non (upd H l (.lst (xs++zs)))
theorem kl:eZ X "list.extend" lj:=by
 intro pins s σ H x vs v us Q I rx rv h
 obtain⟨l,b,xs,zs,rfl,rfl,hH,hB,hz,q⟩:=h
 cases rx
 obtain⟨u,rfl,ru⟩:=rv.one
 cases ru
 obtain⟨z,its,n,r,hl,e⟩:=I.lstM hH
 obtain⟨z2,its2,n2,r2,hl2,e2⟩:=I.lstM hB
 have hsz:its.toArray.size+its2.toArray.size≤sizeLine:=by rw [List.size_toArray,List.size_toArray];omega
 have hlong:¬(!its.toArray.isEmpty&&Builtin.List.listTooLong (its.toArray.size+its2.toArray.size))=true:=by
  rw [dI hsz,Bool.and_false]
  exact Bool.false_ne_true
 refine call_meets F.slot_list_extend ⟨_,e,rfl⟩ F.entry_list_extend (F.args_list_extend_2 _ _)
  (AutoSeq1.list_extend_list_list_0 l its.toArray n b its2.toArray n2 hlong (by rw [List.size_toArray];omega) (by omega)) ⟨e,e2,?_⟩
 refine⟨.non,_,I.lset (its':=its++its2) hH e (by simp) (r.append r2) ?_,rfl,q⟩
 rw [List.length_append]
 omega
def r6:V→List V→Hp→VK→Prop:=fun x vs H Q=>∃l xs y,x=.ref l∧vs=[]∧H l=some (.lst xs)∧xs[xs.length - 1]?=some y∧Q y (upd H l (.lst xs.dropLast))
theorem sE:eZ X "list.pop" r6:=by
 intro pins s σ H x vs v us Q I rx rv h
 obtain⟨l,xs,y,rfl,rfl,hH,hy,q⟩:=h
 cases rx
 have hus:=rv.zero
 subst hus
 obtain⟨z,its,n,r,hl,e⟩:=I.lstM hH
 obtain⟨u,hu,ru⟩:=r.get hy
 have hy':its.toArray[its.toArray.size - 1]?=some u:=by
  show its.toArray[its.length - 1]?=some u
  rw [←Array.getElem?_toList,←hl]
  exact hu
 refine call_meets F.slot_list_pop ⟨_,e,rfl⟩ F.entry_list_pop (F.args_list_pop_1 _) (MeetsSeq.list_pop_last l its.toArray n u hy' (by rw [List.size_toArray];omega)) ⟨e,?_⟩
 refine⟨y,_,I.lset (its':=its.dropLast) hH e ?_ r.dropLast ?_,ru,q⟩
 ·show its.toArray.eraseIdxIfInBounds (its.toArray.size - 1)=its.dropLast.toArray
  rw [List.size_toArray,List.eraseIdxIfInBounds_toArray,ai]
 ·rw [List.length_dropLast]
  omega
def p9:V→List V→Hp→VK→Prop:=fun x vs H Q=>∃l xs,x=.ref l∧vs=[]∧H l=some (.lst xs)∧Q .non (upd H l (.lst []))
theorem dE:eZ X "list.clear" p9:=by
 intro pins s σ H x vs v us Q I rx rv h
 obtain⟨l,xs,rfl,rfl,hH,q⟩:=h
 cases rx
 have hus:=rv.zero
 subst hus
 obtain⟨z,its,n,r,hl,e⟩:=I.lstM hH
 refine call_meets F.slot_list_clear ⟨_,e,rfl⟩ F.entry_list_clear (F.args_list_clear_1 _) (AutoSeq1.list_clear_list_0 l its.toArray n (by rw [List.size_toArray];omega)) ⟨e,?_⟩
 exact⟨.non,_,I.lset (its':=[]) (ys:=[]) hH e rfl .nil (Nat.zero_le _),rfl,q⟩
def rZ:R2:=fun x y H Q=>∃l b xs zs,x=.ref l∧y=.ref b∧H l=some (.lst xs)∧H b=some (.lst zs)∧xs.length+zs.length≤sizeLine∧∀p,H p=none→Q (.ref p) (upd H p (.lst (xs++zs)))
theorem pJ:ul X (binaryOp .Add) rZ:=by
 intro pins s σ H x y v u Q I rx ry h
 obtain⟨l,b,xs,zs,rfl,rfl,hH,hB,hz,q⟩:=h
 cases rx
 cases ry
 obtain⟨z,its,n,r,hl,e⟩:=I.lstM hH
 obtain⟨z2,its2,n2,r2,hl2,e2⟩:=I.lstM hB
 refine PySem.P.add_list e e2 ?_ (by rw [List.size_toArray,List.size_toArray];omega)
 have ea:its.toArray++its2.toArray=(its++its2).toArray:=by simp
 rw [ea]
 exact⟨.ref _,_,I.lnew (t':=s.toks) (r.append r2) (by rw [List.length_append];omega),rfl,q _ I.fresh⟩
end
section
variable {prog:tM}{w:World}{A:Around}{E:sV}{s:Shared}
end
section
variable {X:Cx}
end
end L2
namespace Att
open PySem PySem.W PySem.Calls PyProof.Rows
theorem gN {P:Params}{h:Heap}:∀(ns:List Int) (vs:tz),WellAll P h vs (ns.map WData.int)→IntsAre vs ns:=by
 intro ns
 induction ns with
 | nil =>
  intro vs w
  rw [List.map_nil] at w
  cases w
  exact .nil
 | cons n ns ih =>
  intro vs w
  rw [List.map_cons] at w
  cases w with
  | cons a b =>
   cases a
   exact .cons _ _ (ih _ b)
theorem cE {l:OpenLaw}{n:Nat} (hn:l.most=some n) {P:Params} {h:Heap} {args:List WData} {vals:tz}
  (hpre:l.row.toRowW.claim.pre args=true) (hwl:WellAll P h vals args) :
  ∃a vs ns,vals=[Value.ref a]∧args=[WData.list (ns.map WData.int)]∧h.get? a=some { cls:=.type "list",data:=.seq vs.toArray }∧IntsAre vs ns∧ns.length≤n:=by
 have hsh:WShape.hasAll [] args [.list .int]=true:=(pre_splitW hpre).1
 have hc:l.pre.holds [] { args:=args }=true:=(pre_splitW hpre).2
 obtain⟨d,r,rfl,h1,h2⟩:=hasAllW_cons hsh
 obtain rfl:=hasAllW_nil h2
 obtain⟨xs,rfl,h3⟩:=hasW_list h1
 obtain⟨ns,rfl⟩:=items_int h3
 have hlen:ns.length≤n:=by
  unfold OpenLaw.pre at hc
  have h4:(WTm.not (.lt (.lit (.int (n:Int))) (.len (.arg 0)))).holds [] { args:=[.list (ns.map .int)] }=true:=by
   have h4:=(holds_andW hc).1
   rw [hn] at h4
   exact h4
  have h5:=condW_of h4 (w_not (w_lt w_lit (w_len_list (w_arg rfl))))
  rw [List.length_map] at h5
  refine Nat.le_of_not_lt fun q=>?_
  have q':(n:Int)<((ns.length:Nat):Int):=by omega
  first
   | (rw [decide_eq_true q'] at h5;exact absurd h5 (by decide))
   | (simp at h5;omega)
 cases hwl with
 | cons w1 w2 =>
  cases w2
  cases w1 with
  | list ho hall=>exact⟨_,_,ns,rfl,rfl,ho,gN ns _ hall,hlen⟩
theorem cw (l:OpenLaw) (args:List WData):l.row.toRowW.claim.post args (.bool true) args=true :=
 postW_of (r:=l.row.toRowW) (X:=(true==true))
  (show WShape.has [] (.bool true) .bool=true by first|rfl|decide|simp [WShape.has,WShape.arms,WShape.armsAll])
  (show (WTm.eq .res (.lit (.bool true))).value [] { args:=args,res:=some (.bool true),after:=args }=some (.bool (true==true)) from w_eq_bool (w_res rfl) w_lit) rfl
theorem attach_call {l:OpenLaw}{n:Nat}{q:tM}{loose:tH}{XP:(Str→Option Value)→Heap→Prop}{YP:World→Heap→Prop}{d:DefRec}
  (hn:l.most=some n) (hdf:d.params.defaults=[])
  (call:∀(w:World) (s₀ s₁:Shared) (mg mb:tj) (fa:Addr) (o:Obj) (pm cd doc:Value) (a:Addr) (vs:tz) (ns:List Int),
   Ground q loose [] XP w s₀ mg mb s₁.heap→YP w s₁.heap →
   s₁.heap.get? fa=some o→o.data=.func (docDef d.name d.params d.body d.scope pm cd doc)→s₁.heap.CodeRec cd d.name→mg d.name=some (.ref fa) →
   s₁.heap.get? a=some { cls:=.type "list",data:=.seq vs.toArray }→IntsAre vs ns→ns.length≤n→s₁.gens=#[] →
   codeAny (model l.prog w) callerA (.call (.ref fa) ⟨[.ref a],[]⟩) (fun r s'=>r=.ok (.ret (.bool true))∧OldK s₁.heap s'.heap∧s'.os=s₁.os∧AllBare s'.gens) s₁) :
  WalkO q loose XP YP l.row.toRowW d [] (fun f vs=>PySem.call f vs):=by
 intro w s₀ s₁ mg mb G Y fa o pm cd doc dV kV ho hd hcd hD hmg hg args vals as hpre hlay hrd hwl hlo
 obtain rfl:dV=.none:=Dflts.none hD hdf
 obtain rfl:kV=.none:=Dflts.noKw hD
 obtain⟨a,vs,ns,rfl,rfl,hobj,hints,hlen⟩:=cE hn hpre hwl
 refine enter_call (codeAny_mono (call w s₀ s₁ mg mb fa o pm cd doc a vs ns G Y ho (fd_plain hd) hcd hmg hobj hints hlen hg) fun r s' hq=>?_)
 obtain⟨rfl,h2,h3,h4⟩:=hq
 exact⟨.inl ⟨.bool true,.bool true,[],rfl,fun _=>rfl,.bool true,cw l _,fun _=>⟨List.Pairwise.nil,fun _ hm=>(nomatch hm)⟩⟩,h2,h3,h4⟩
section
variable {prog:tM}{w:World}{A:Around}{E:sV}{s:Shared}{K:Frag}
end
end Att
namespace L2
open PySem PySem.Spec PyProof.Rows
theorem kG:∀{vs:tz} {ns:List Int},IntsAre vs ns→jB (ns.map V.int) vs
 | _,_,.nil=>.nil
 | _,_,.cons n t h=>.cons ⟨t,rfl⟩ (kG h)
end L2
namespace L2
open PySem PySem.Spec PyProof.Rows
abbrev KOf {K:sZ}{h:Heap} (_:K.In h):PySem.W.Frag:=K
end L2
namespace L2
open PySem PySem.Spec PyProof.Rows
def jR (s:Stmt) (j:Nat):Stmt:=match s with
 | .ClassDef _ _ _ body _ _ _ _ _ _ _=>body.getD j (.Pass ⟨0,0,0,0⟩)
 | _=>.Pass ⟨0,0,0,0⟩
def Jp (s:Stmt):Arguments:=match s with
 | .FunctionDef _ a _ _ _ _ _ _ _ _=>a
 | _=>{ posonlyargs:=[],args:=[],vararg:=none,kwonlyargs:=[],kw_defaults:=[],kwarg:=none,defaults:=[] }
def Jb (s:Stmt):List Stmt:=match s with
 | .FunctionDef _ _ b _ _ _ _ _ _ _=>b
 | _=>[]
def jp (s:Stmt):Scope:=match s with
 | .FunctionDef _ _ _ _ _ _ sc _ _ _=>sc
 | _=>{ kind:=.function,names:=[],isGenerator:=false,isCoroutine:=false }
structure Jh (K:sZ) (x qual:Str) (st:Stmt) (f:Addr) (fd:FuncData):Prop where
 ex:∃(oc:Value) (od:tL) (kV doc pm:Value) (an:tL) (cdv ct:Value) (osl:tG),
  fd=fnOf x qual (Jp st) (Jb st) (jp st) .none kV doc pm an cdv ct∧K.lookup f=some ⟨oc,od,.func fd,osl⟩∧codeIn K cdv qual=true
 kp:keepIn K (.ref f)=true
section
variable {P:tM}{w:World}{K:sZ}{mg:tj}{base:Heap}
theorem Jh.binds {x qual:Str}{st:Stmt}{f:Addr}{fd:FuncData}{ps:tH} (F:Jh K x qual st f fd)
  (h:∀(kV doc pm:Value) (an:tL) (cdv ct:Value) (us:tz),us.length=ps.length→bindArgs (fnOf x qual (Jp st) (Jb st) (jp st) .none kV doc pm an cdv ct) ⟨us,[]⟩=pure (ps.zip us)):ju K fd ps []:=by
 obtain⟨oc,od,kV,doc,pm,an,cdv,ct,osl,rfl,lk,hcd⟩:=F.ex
 exact .all (h kV doc pm an cdv ct)
theorem mB {x qual:Str}{st:Stmt}{f:Addr}{oc:Value}{od an:tL}{osl:tG}{kV doc pm cdv ct:Value} (l:K.lookup f=some ⟨oc,od,.func (fnOf x qual (Jp st) (Jb st) (jp st) .none kV doc pm an cdv ct),osl⟩)
  (c:codeIn K cdv qual=true) (k:keepIn K (.ref f)=true):Jh K x qual st f (fnOf x qual (Jp st) (Jb st) (jp st) .none kV doc pm an cdv ct):=⟨⟨oc,od,kV,doc,pm,an,cdv,ct,osl,rfl,l,c⟩,k⟩
end
theorem UY {A:Around}{k:Nat} (hr:Ur k A):A.units+1<cLine:=Nat.lt_of_le_of_lt (Nat.add_le_add_left (by decide:1≤64) _) hr.units
section
variable {X:Cx}
theorem pv (i:Nat) {x:Str} {pos:Pos} (hN:X.N[i]?=some x:=by rfl) (hv:og X.env.scope x:=by first|exact Or.inl rfl|exact Or.inr (Or.inl rfl)|exact Or.inr (Or.inr rfl)) (hd:(x==("__debug__":Str))=false:=by decide)
  (hcd:(x==("__classdict__":Str))=false:=by decide):PE X (.Name x pos) (yf i):=pT hN hv hd hcd
end
theorem Jx {A B:Prop} (h:B):if false=true then A else B:=by
 rw [if_neg Bool.false_ne_true]
 exact h
theorem JU {A B:Prop} (h:A):if true=true then A else B:=by
 rw [if_pos rfl]
 exact h
theorem zR {c A B:Prop} [Decidable c] (hc:c) (h:B):if (!decide c)=true then A else B:=by
 rw [decide_eq_true hc]
 exact Jx h
def jg (H H':Hp):Prop:=∀b o,H b=some o→H' b=some o
theorem jg.refl (H:Hp):jg H H:=fun _ _ h=>h
theorem jg.trans {H H1 H2:Hp} (a:jg H H1) (b:jg H1 H2):jg H H2:=fun c o h=>b c o (a c o h)
theorem jg.seq {K:sZ}{H H':Hp}{a:Addr}{xs:List V} (e:jg H H') (h:jD K H a xs):jD K H' a xs:=by
 rcases h with (h|⟨o,h⟩)|h
 ·exact .inl (.inl (e _ _ h))
 ·exact .inl (.inr ⟨o,e _ _ h⟩)
 ·exact .inr h
end L2
namespace L2
open PySem PySem.Spec PyProof.Rows
theorem j3.there {P:tM}{w:World}{H:Hp}{h:Heap}{a:Addr}{o:HO} (x:j3 P w H h a o):∃u,h.get? a=some u:=by
 cases o with
 | lst xs=>obtain⟨_,_,_,_,e⟩:=x;exact⟨_,e⟩
 | tup xs=>obtain⟨_,_,_,ob,e,_⟩:=x;exact⟨_,e⟩
 | dK kvs=>obtain⟨_,_,_,_,ob,_,_,e,_⟩:=x;exact⟨_,e⟩
 | dT kvs=>obtain⟨_,_,_,_,ob,_,_,e,_⟩:=x;exact⟨_,e⟩
 | set S n=>obtain⟨ob,_,_,_,e,_⟩:=x;exact⟨_,e⟩
 | ins C dx fs=>obtain⟨_,_,_,e,_⟩:=x;exact⟨_,e⟩
 | own y=>exact x
 | xd fs=>obtain⟨_,⟨_,_,_,e,_⟩,_⟩:=x;exact⟨_,e⟩
 | rng lo hi=>obtain⟨_,_,_,e⟩:=x;exact⟨_,e⟩
 | frz ob u=>obtain⟨e,_⟩:=x;exact⟨_,e⟩
 | tbl ps=>exact⟨_,(show h.get? a=some _ from x)⟩
 | met f y=>exact⟨_,(show h.get? a=some _ from x)⟩
 | ext φ=>obtain⟨_,e,_⟩:=x;exact e
theorem Jm.free_of {P:tM}{w:World}{H:Hp}{h:Heap}{a:Addr} (x:Jm P w H h) (e:h.get? a=none):H a=none:=by
 cases q:H a with
 | none=>rfl
 | some o=>obtain⟨u,z⟩:=(x a o q).there;rw [e] at z;cases z
structure yM (h0 h:Heap) (H:Hp) (e C:Addr):Prop where
 ex:∃oe vs T oT ts,∃a0:Value×Value,h.get? e=some oe∧oe.cls=.ref C∧vs[0]?=some a0.1∧oe.data=.fields vs∧vs[1]?=some (.ref T)∧T≠e∧h.get? T=some oT∧oT.data=.fields ts∧ts[3]?=some .none∧h0.get? T=none∧H T=none∧vs[2]?=some a0.2∧YM H a0.2
 new:h0.get? e=none
 free:H e=none
def XC (P:tM) (w:World):Z9:=fun outer H s E e s'=>∃(ea C:Addr) (H':Hp),e=.ref ea∧s'.os=s.os∧AllBare s'.gens∧Un (JX outer) [] H H' s.heap s'.heap∧Jm P w H' s'.heap∧yM s.heap s'.heap H' ea C∧E (.ref C) none H'
theorem Un.late {fs ex ch:tD}{H H':Hp}{h h1 h2:Heap} (u:Un fs ex H H' h h1) (fresh:∀b∈ch,h.get? b=none)
  (k:∀b o,b ∉ fs→b ∉ ch→h1.get? b=some o→h2.get? b=some o) (ks:∀b o,b∈fs→h1.get? b=some o→∃sl,h2.get? b=some { o with slots:=sl }):Un fs ex H H' h h2:=by
 have nch:∀b o,h.get? b=some o→b ∉ ch:=fun b o q z=>by have:=fresh b z;rw [q] at this;cases this
 refine⟨fun b o q n hb hx=>k b o hb (nch b o q) (u.keep b o q n hb hx),fun b o q n hb hx=>?_,u.free,fun b o q hx=>?_,u.tups,u.frzs,u.tbls⟩
 ·obtain⟨sl,e1⟩:=u.slot b o q n hb hx
  obtain⟨sl',e2⟩:=ks b _ hb e1
  exact⟨sl',e2⟩
 ·obtain⟨o',e1⟩:=u.there b o q hx
  by_cases hb:b∈fs
  ·obtain⟨sl,e2⟩:=ks b o' hb e1
   exact⟨_,e2⟩
  ·exact⟨o',k b o' hb (nch b o q) e1⟩
section
variable {X:Cx}{pins:tq}{σ:St}{H H':Hp}{s s':Shared}{ea C:Addr}{a0:Value×Value}{h':Heap}{ch:tD}
theorem kg (I:jo X pins σ H s) (hst:X.stack=X.env::X.outer) (os:s'.os=s.os) (bare:AllBare s'.gens) (un:Un (JX X.stack) [] H H' s.heap s'.heap) (hok:Jm X.prog X.w H' s'.heap)
  (hch:∀b∈ch,s.heap.get? b=none∧H' b=none) (hea:ea∈ch) (hcx:YM H' a0.2) (L:yO (hideAll s'.heap (ch++JX X.stack)) (X.env::X.outer) ea (.ref C) a0 .none s'.heap h') :
  jo X pins σ H' { s' with heap:=h' }∧yM s.heap h' H' ea C:=by
 have I1:jo X pins σ H' s':=I.call' (ch:=[]) os un hok bare (fun b z=>absurd z (by simp))
 obtain⟨st,ff,tr,up⟩:=L
 have FF:s'.heap.FunFrames X.base X.stack:=I1.stack
 have keep:∀b o,b ∉ JX X.stack→b ∉ ch→s'.heap.get? b=some o→h'.get? b=some o:=fun b o hb hc e=>st b o (hideAll_get _ e fun z=>(List.mem_append.mp z).elim hc hb)
 have slots:∀b o,b∈JX X.stack→s'.heap.get? b=some o→∃sl,h'.get? b=some { o with slots:=sl }:=fun b o hb e=>by
  obtain⟨_,o',ho',hd⟩:=FF.mem hb
  rw [e] at ho';cases ho'
  exact up b o e hd
 have un2:Un (JX X.stack) [] H H' s.heap h':=un.late (ch:=ch) (fun b hb=>(hch b hb).1) keep slots
 have free:∀b,H' b≠none→b ∉ JX X.stack∧b ∉ ch:=fun b n=>⟨fun z=>n (I1.stkFree b z),fun z=>n (hch b z).2⟩
 have hok2:Jm X.prog X.w H' h':=fun b o e=>(hok b o e).stay (fun c u hc q=>by
  have n:H' c≠none:=by
   rcases hc with z|z
   ·rw [z,e];simp
   ·rw [z];simp
  exact keep c u (free c n).1 (free c n).2 q) (fun _ q=>q) fun _ _ q=>q
 refine⟨I.call' (s':={ s' with heap:=h' }) (ch:=[]) os un2 hok2 bare (fun b z=>absurd z (by simp)),⟨?_,(hch ea hea).1,(hch ea hea).2⟩⟩
 obtain⟨oe,vs,T,oT,ts,e1,⟨e2,e3,c3⟩,e4,e5,e6,e7,e8,e9,e10⟩:=tr
 have hT:s.heap.get? T=none∧H' T=none:=by
  cases q:s'.heap.get? T with
  | none =>
   refine⟨?_,hok.free_of q⟩
   cases q2:s.heap.get? T with
   | none=>rfl
   | some o=>obtain⟨o',z⟩:=un.there T o q2 (by simp);rw [q] at z;cases z
  | some o =>
   by_cases hc:T∈ch
   ·exact hch T hc
   ·by_cases hf:T∈JX X.stack
    ·have hf2:T∈JX (X.env::X.outer):=hst▸hf
     obtain⟨_,o',ho',hd⟩:=ff.mem hf2
     rw [e8] at ho';cases ho'
     exact absurd e9 (hd ts)
    ·rw [hideAll_get _ q fun z=>(List.mem_append.mp z).elim hc hf] at e6
     cases e6
 exact⟨oe,vs,T,oT,ts,a0,e1,e2,e3,e4,e5,e7,e8,e9,e10,hT.1,hT.2,c3,hcx⟩
theorem gI (I:jo X pins σ H' s') (hst:X.stack=X.env::X.outer) (ch:tD):s'.heap.FunFrames (hideAll s'.heap (ch++JX X.stack)) (X.env::X.outer):=by
 have FF:s'.heap.FunFrames X.base X.stack:=I.stack
 rw [←hst]
 exact PySem.W.funFrames_hide FF fun env he a hf=>List.mem_append_right _ (List.mem_filterMap.mpr ⟨env,he,hf⟩)
theorem dB (I:jo X pins σ H s) (hst:X.stack=X.env::X.outer) (hf:X.env.frame=some X.env.locals) (os:s'.os=s.os) (bare:AllBare s'.gens) (un:Un (JX X.stack) [] H H' s.heap s'.heap) (hok:Jm X.prog X.w H' s'.heap)
  (fl:yM s.heap s'.heap H' ea C) {M:Model} {E:sV} {Q:sW} (h:∀h',jo X pins σ H' { s' with heap:=h' }→yM s.heap h' H' ea C→Q () { s' with heap:=h' }) :
  wpAny M X.A (leaving X.env (.ref ea)) Q E s':=by
 have I1:jo X pins σ H' s':=I.call' (ch:=[]) os un hok bare (fun b z=>absurd z (by simp))
 obtain⟨oe,vs,T,oT,ts,a0,e1,e2,e3,e4,e5,e7,e8,e9,e10,e11,e12,c3,cx⟩:=fl.ex
 have hfr:X.A.frames=some (X.env::X.outer):=by rw [←hst];exact I.ok.frames
 refine av (base:=hideAll s'.heap ([ea,T]++JX X.stack)) (cls:=.ref C) (a0:=a0) hfr (gI I1 hst [ea,T]) hf
  ⟨oe,vs,T,oT,ts,e1,⟨e2,e3,c3⟩,e4,e5,hideAll_none _ (by simp),e7,e8,e9,e10⟩ (fun b o q=>of_hideAll _ q) (hideAll_none _ (by simp)) fun h' L=>?_
 obtain⟨J,F⟩:=kg (ch:=[ea,T]) I hst os bare un hok (fun b hb=>by
  rcases List.mem_cons.mp hb with rfl|hb
  ·exact⟨fl.new,fl.free⟩
  ·obtain rfl:b=T:=by simpa using hb
   exact⟨e11,e12⟩) (by simp) cx L
 exact h h' J F
theorem au (I:jo X pins σ H s) (hst:X.stack=X.env::X.outer) (hf:X.env.frame=some X.env.locals) {h1:Heap} {args:tz} (hm:Heap.MadeExcOf s.heap h1 ea (.ref C) args)
  {M:Model} {E:sV} {Q:sW} (h:∀h',jo X pins σ H { s with heap:=h' }→yM s.heap h' H ea C→Q () { s with heap:=h' }) :
  wpAny M X.A (leaving X.env (.ref ea)) Q E { s with heap:=h1 }:=by
 have I1:jo X pins σ H { s with heap:=h1 }:=I.kept (t':=s.toks) hm.keeps
 obtain⟨t,e1,e2,e3⟩:=hm.there
 have hfr:X.A.frames=some (X.env::X.outer):=by rw [←hst];exact I.ok.frames
 refine nU (s:={ s with heap:=h1 }) (base:=hideAll h1 ([ea]++JX X.stack)) (a0:=(.ref t,.none)) hfr (gI I1 hst [ea]) hf e1 (fun b o q=>of_hideAll _ q)
  (hideAll_none _ (by simp)) rfl rfl rfl rfl fun h' L=>?_
 obtain⟨J,F⟩:=kg (ch:=[ea]) (s':={ s with heap:=h1 }) I hst rfl I.bare (Un.kept hm.keeps) I1.hok (fun b hb=>by
  obtain rfl:b=ea:=by simpa using hb
  exact⟨hm.new,I.hok.free_of hm.new⟩) (by simp) .nil L
 exact h h' J F
end
def aZ (X:Cx) (E:XK):Prop:=∀(pins:tq) (σ:St) (H:Hp) (s:Shared) (ea C:Addr) (h':Heap) (args:tz),jo X pins σ H s→Heap.MadeExcOf s.heap h' ea (.ref C) args→E (.ref C) none H→X.xe (.ref ea) { s with heap:=h' }
section
variable {P:tM}{w:World}{K:sZ}{mg:tj}{base:Heap}{N ps:tH}{qual:Str}{scope:Scope}{f:Addr}{cd:Value}{A:Around}{outer:List Env}{s:Shared}{H:Hp}{E:XK}
abbrev Y5 (P:tM) (w:World) (K:sZ) (mg:tj) (base:Heap) (N:tH) (qual:Str) (scope:Scope) (f:Addr) (cd:Value) (A:Around) (outer:List Env) (s:Shared) (H:Hp) (E:XK) (c:Bool:=true):Cx :=
 yS (XC P w) P w K mg base N qual scope f cd A outer s H E c
theorem Zt {c:Bool}{pins:tq}{σ:St}{H1 H':Hp}{s1:Shared}{h':Heap}{ea C:Addr} (I:jo (Y5 P w K mg base N qual scope f cd A outer s H E c) pins σ H1 s1) (F:yM s1.heap h' H' ea C):yM s.heap h' H' ea C:=by
 have z:∀b,s1.heap.get? b=none→s.heap.get? b=none:=fun b q=>by
  cases q2:s.heap.get? b with
  | none=>rfl
  | some o=>obtain⟨o',e⟩:=I.base.there b o q2 (by simp [yS]);rw [q] at e;cases e
 obtain⟨oe,vs,T,oT,ts,a0,e1,e2,e3,e4,e5,e7,e8,e9,e10,e11,e12,c3,cx⟩:=F.ex
 exact⟨⟨oe,vs,T,oT,ts,a0,e1,e2,e3,e4,e5,e7,e8,e9,e10,z _ e11,e12,c3,cx⟩,z _ F.new,F.free⟩
theorem jk {c:Bool}:uz (XC P w) (Y5 P w K mg base N qual scope f cd A outer s H E c) E:=by
 intro pins σ H1 s1 e s' I h
 obtain⟨ea,C',H',rfl,os,bare,un,hok,fl,q⟩:=h
 refine dB I rfl rfl os bare un hok fl fun h' J F=>?_
 exact⟨ea,C',H',rfl,J.os,J.bare,J.base,J.hok,Zt I F,q⟩
theorem J0 {c:Bool}:aZ (Y5 P w K mg base N qual scope f cd A outer s H E c) E:=by
 intro pins σ H1 s1 ea C h1 args I hm q
 refine au I rfl rfl hm fun h' J F=>?_
 exact⟨ea,C,H1,rfl,J.os,J.bare,J.base,J.hok,Zt I F,q⟩
theorem Jq {c:Bool}:PassesOwn (model P w) (Y5 P w K mg base N qual scope f cd A outer s H E c).A (Y5 P w K mg base N qual scope f cd A outer s H E c).env (Y5 P w K mg base N qual scope f cd A outer s H E c).xe:=PassesOwn.leaving
theorem Jh.okX {x:Str}{st:Stmt}{fd:FuncData}{k:Nat}{sp:Sp}{c:Bool} (F:Jh K x qual st f fd) (S:jt N ps (jp st)) (len:∀vs H Q E,sp vs H Q E→vs.length=ps.length)
  (hbody:∀(cdv:Value) (A:Around) (outer:List Env) (s:Shared) (H:Hp) (vs:List V) (Q:VK) (E:XK),Ji c k (A.deeper (envOfC qual (jp st) s.heap.objs.size f cdv))→sp vs H Q E →
   ∃t,YZ (Y5 P w K mg base N qual (jp st) f cdv A outer s H E c) (Jb st) t∧t { nx:=fun _ H'=>Q .non H',rt:=Q } (start N vs) H):uQ P w K mg base (XC P w) (k+1) f fd ps sp c:=by
 obtain⟨oc,od,kV,doc,pm,an,cdv,ct,osl,rfl,lk,hcd⟩:=F.ex
 exact aj lk hcd S len fun A outer s H vs Q E hr hsp=>hbody cdv A outer s H vs Q E hr hsp
end
theorem iz {K:sZ}{h:Heap}{C:Addr}{bmB:tz}{newId:String} (X:K.In h) (q:excIn K C bmB newId=true) :
  ∃nm qn N bs bm hdct sn sub ab col dd k0 k1 k2 k3 k5 mN,h.get? C=some (excClassObj nm qn C N bs bm hdct sn sub ab col dd k0 k1 k2 k3 k5 newId)∧h.Ns N mN∧mN "__init__"=none∧OwnTail h bmB bm:=by
 unfold excIn at q
 split at q
 ·rename_i dd cd sl ho
  split at q
  ·rename_i C' bm k0 k1 k2 k3 n k5 hm hs
   simp only [Bool.and_eq_true,beq_iff_eq,Bool.not_eq_true'] at q
   obtain⟨⟨⟨⟨⟨e1,e2⟩,hdel⟩,ht⟩,hok⟩,hni⟩:=q
   subst e1 e2
   obtain⟨nm,bs,mro,ns,qn,hd,sn,sub,ab,col,del⟩:=cd
   dsimp only at hm hdel hok hni
   subst hm hdel
   obtain⟨l⟩:=sl
   have hs':l=[k0,k1,k2,k3,some (.builtin n),k5]:=hs
   subst hs'
   exact⟨nm,qn,ns,bs,bm,hd,sn,sub,ab,col,dd,k0,k1,k2,k3,k5,_,X _ _ ho,.of_isNs (PySem.W.isNs_of_in X hok),PySem.W.nsMap_none_of_in X hok hni,PySem.W.tail_of_in X ht⟩
  ·cases q
 ·cases q
abbrev sC:List Value:=[.type "ValueError",.type "Exception",.type "BaseException",.type "object"]
structure eX (K:sZ) (mg:tj) (x:Str) (C:Addr):Prop where
 mg:mg x=some (.ref C)
 ex:excIn K C sC "ValueError.__new__"=true
def cS (C:Addr) (ta:TA) (E:XK):TS:=fun _ σ H=>ta σ H fun vs H1=>vs.length≤sizeLine∧E (.ref C) none H1
theorem uE {X:Cx}{E:XK}{x:Str}{C:Addr}{e:Expr}{es:tJ}{ta:TA}{np cpos pos:Pos} (hT:aZ X E) (hc:X.calm=true) (R:eX X.K X.mg x C) (hg:Gl X x) (ha:PA X (e::es) ta)
  (hd:(x==("__debug__":Str))=false:=by decide) (he:starEach (e::es) X.env=(false,eval e X.env)::starEach es X.env:=by rfl) (hpl:(backTo cpos (starEach es X.env)).any (·.1)=false:=by rfl) :
  PS X (.Raise (some (.Call (.Name x np) (e::es) [] cpos)) none pos) (cS C ta E):=by
 intro pins s σ H D I h
 obtain⟨nm,qn,N,bs,bm,hdct,sn,sub,ab,col,dd,k0,k1,k2,k3,k5,mN,hC,hN,hni,T⟩:=iz I.ok.mod.kin R.ex
 refine wpAny_Raise_call_subU (C:=C) (nm:=nm) (q:=qn) (N:=N) (bs:=bs) (bm:=bm) (hdct:=hdct) (sn:=sn) (sub:=sub) (ab:=ab) (col:=col) (dd:=dd) (k0:=k0) (k1:=k1) (k2:=k2) (k3:=k3) (k5:=k5)
  PySem.F.excBase_ValueError (by decide +kernel) PySem.F.excBase_ValueError (mN:=mN) (T.hasType (by decide +kernel)) (I.ok.hd hc) (by rw [he];show (false||(backTo cpos (starEach es X.env)).any (·.1))=false;rw [hpl];rfl) hni
  (zU I hg R.mg ⟨rfl,?_⟩ hd)
 have ha':=ha cpos pins s σ H _ I h
 rw [he] at ha' ⊢
 refine Calls.evalArgs_plain (jC ha' fun us s1 hh=>?_)
 obtain⟨vs,H1,I1,r,hl,q⟩:=hh
 refine⟨rfl,by rw [←r.length];exact hl,I1.bk _ _ hC,hN.keeps I1.bk,T.keeps I1.bk,fun h' ea hm=>?_⟩
 exact hT pins σ H1 s1 ea C h' us I1 hm q
end L2
namespace L2
open PySem PySem.Spec PyProof.Rows
theorem ah {prog:tM}{w:World}{A:Around}{R:Result→Shared→Prop}{s:Shared}{elt tg iter:Expr}{ifs:tJ}{scope:Scope}{pos:Pos}{it acc:Value}{env:Env} (J:Nat→Shared→Prop)
  (turn:∀n s,J n s→wpAny (model prog w) A (pyNext it) (fun r s1=>match r with
   | none=>R (.ok .next) s1
   | some v=>wpAny (model prog w) A (letOwnedTupleGo tg it v) (fun _ s2=>wpAny (model prog w) A (assign tg env v) (fun _ s3 =>
     wpAny (model prog w) A (forIn ifs true fun c r=>if r=true then do let ok ←isTrue c env (eval c env);pure (ForInStep.yield ok) else pure (ForInStep.yield r)) (fun ok s4 =>
      if ok=true then wpAny (model prog w) A (eval elt env) (fun x s5=>wpAny (model prog w) A (call (.builtin "list.append") [acc,x]) (fun _ s6=>∃m,m<n∧J m s6) (fun _ _=>False) s5) (fun _ _=>False) s4
      else ∃m,m<n∧J m s4) (fun _ _=>False) s3) (fun _ _=>False) s2) (fun _ _=>False) s1) (fun _ _=>False) s)
  (n:Nat) (h:J n s):codeAny (model prog w) A (.compLoop (.ListComp elt [⟨tg,iter,ifs,0⟩] scope pos) 0 it acc env) R s:=by
 refine codeAny_loop rfl J (fun n s hJ=>?_) n h
 show wpAny _ A ((compTurn (.ListComp elt [⟨tg,iter,ifs,0⟩] scope pos) 0 it acc env).onRaise _) _ _ s
 refine wpAny_noted (wpAny_noRaise ?_)
 rw [compTurn_list]
 refine tO (wpAny_standAt (tO (jC (turn n s hJ) fun r s1 h1=>?_)))
 cases r with
 | none=>exact tP h1
 | some v =>
  refine tO (jC h1 fun _ s2 h2=>tO (jC h2 fun _ s3 h3=>tO (jC h3 fun ok s4 h4=>?_)))
  cases ok with
  | false=>exact tP ⟨rfl,h4⟩
  | true=>exact tO (tO (jC h4 fun x s5 h5=>tO (jC h5 fun _ s6 h6=>tP (tP ⟨rfl,h6⟩))))
abbrev Cx.blk (X:Cx) (scope:Scope) (cl:tE) (C:Addr) (own:tH) (s:Shared) (H:Hp) (fp:tD) (pins:tq):Cx :=
 { X with N:=X.N++own,env:=compEnvC scope cl C X.env,s₀:=s,H₀:=H,outer:=X.stack,ex:=fp,fn:=fun _=>false,pn:=X.pn++pins,xe:=fun _ _=>False }
theorem zn {env:Env}{x:Str}:∀{names:List (Str×NameKind)},(names.map fun (n,k)=>if (k==NameKind.free&&env.scope.kind==.function&&env.kindOf n==some .cell) then (n,NameKind.cell) else (n,k)).lookup x =
  (names.lookup x).map fun k=>if (k==NameKind.free&&env.scope.kind==.function&&env.kindOf x==some .cell) then NameKind.cell else k
 | []=>rfl
 | (n,k)::r=>by
  have ih:=@zn env x r
  rw [List.map_cons]
  show List.lookup x ((if (k==NameKind.free&&env.scope.kind==.function&&env.kindOf n==some .cell)=true then (n,NameKind.cell) else (n,k))::_)=_
  have e:(if (k==NameKind.free&&env.scope.kind==.function&&env.kindOf n==some .cell)=true then (n,NameKind.cell) else (n,k))=(n,if (k==NameKind.free&&env.scope.kind==.function&&env.kindOf n==some .cell)=true then NameKind.cell else k):=by
   split<;>rfl
  rw [e]
  cases q:x==n with
  | true =>
   obtain rfl:x=n:=by simpa using q
   simp [List.lookup_cons]
  | false=>simp only [List.lookup_cons,q];exact ih
structure UK (X:Cx) (scope:Scope) (cl:tE):Prop where
 clos:closureFor scope X.env=pure cl
 kind:scope.kind=.function
 nocell:∀y∈scope.names,y.2≠.cell
 names:∀y∈scope.names,y.2=.local→scope.names.lookup y.1=some .local
 sub:∀x c,cl.lookup x=some c→X.env.cells.lookup x=some c
 has:∀x,scope.names.lookup x=some .free→∃c,cl.lookup x=some c
 apart:∀x∈X.N,scope.names.lookup x≠some .local
 outer:∀x,scope.names.lookup x=some .free→X.env.kindOf x=some .cell∨X.env.kindOf x=some .free
theorem JV {α β:Type} [BEq α] [LawfulBEq α] {l:List (α×β)} {x:α} {b:β} (h:l.lookup x=some b):(x,b)∈l:=by
 induction l with
 | nil=>simp at h
 | cons p r ih =>
  obtain⟨a,c⟩:=p
  rw [List.lookup_cons] at h
  split at h
  ·rename_i q
   obtain rfl:x=a:=by simpa using q
   cases h;exact .head _
  ·exact .tail _ (ih h)
section
variable {X:Cx}{scope:Scope}{cl:tE}{own:tH}{pins:tq}{σ:St}{H2 H3:Hp}{s2:Shared}{fp:tD}{C:Addr}{h1:Heap}
theorem MW {b:Addr} (I2:jo X pins σ H2 s2) (n1:b≠X.env.locals) (n2:b ∉ X.fs):b ∉ JX X.stack:=fun z=>(List.mem_cons.mp (I2.stkSub b z)).elim n1 n2
theorem ou (S:UK X scope cl) (I2:jo X pins σ H2 s2) (f2:∀b∈fp,Vs X pins H2 b) (hlt:∀b∈fp,b<s2.heap.objs.size) (hC:s2.heap.objs.size≤C) {m:tj} (hns:h1.Ns C m)
  (keep:∀b o,s2.heap.get? b=some o→h1.get? b=some o) (hH:∀b o,s2.heap.get? b=some o→H2 b=none→H3 b=none) (un:Un (JX X.stack) fp H2 H3 s2.heap h1) (hok:Jm X.prog X.w H3 h1) (hCf:H3 C=none) {tk:Nat} :
  jo (X.blk scope cl C own s2 H2 fp pins) [] (σ++List.replicate own.length none) H3 { s2 with heap:=h1,toks:=tk }:=by
 have neC:∀b o,s2.heap.get? b=some o→b≠C:=fun b o e=>Nat.ne_of_lt (Nat.lt_of_lt_of_le (Heap.lt_size e) hC)
 have kof:∀x,(compEnvC scope cl C X.env).kindOf x=(scope.names.lookup x).map fun k=>if (k==NameKind.free&&X.env.scope.kind==.function&&X.env.kindOf x==some .cell) then NameKind.cell else k:=fun x=>zn
 have isfree:∀x,((compEnvC scope cl C X.env).kindOf x=some .cell∨(compEnvC scope cl C X.env).kindOf x=some .free)→scope.names.lookup x=some .free:=fun x hx=>by
  rw [kof x] at hx
  cases q:scope.names.lookup x with
  | none=>rw [q] at hx;rcases hx with z|z<;>cases z
  | some k =>
   rw [q] at hx
   have nc:=S.nocell _ (JV q)
   cases k<;>simp_all
 refine⟨⟨I2.ok.mod,S.kind,I2.ok.glob,I2.ok.blt,hC,fun x y c e1 e2=>I2.ok.inj x y c (S.sub x c e1) (S.sub y c e2),fun x hx=>S.has x (isfree x hx),fun x c z _=>(by cases z),I2.ok.hd,I2.ok.frames,.inl rfl,
  fun b hb=>⟨Nat.ne_of_lt (Nat.lt_of_lt_of_le (hlt b hb) hC),fun x c e=>(f2 b hb).2.2.2.2.1 x c (S.sub x c e)⟩,fun b o e=>⟨(I2.bs b o e).1,(I2.bs b o e).2⟩,Nat.le_trans I2.ok.bsz I2.sz,fun b o e hb=>?_,fun b hb=>MW I2 (f2 b hb).2.1 (f2 b hb).2.2.1,I2.stack,I2.stkFree⟩,
  rfl,I2.bare,un,⟨m,hns,fun i x v e1 e2 e3=>?_⟩,fun x c e=>?_,hCf,fun x c e=>?_,fun p hp=>?_,hok,?_,I2.hn.mono un.frzs⟩
 ·rcases (f2 b hb).2.2.2.1 with z|z
  ·exact I2.ok.noex b o e z
  ·exact absurd (Nat.lt_of_lt_of_le (Nat.lt_of_lt_of_le (Heap.lt_size e) I2.ok.bsz) z) (Nat.lt_irrefl _)
 ·
  have hi:i<σ.length:=by
   apply Classical.byContradiction
   intro hn
   rw [List.getElem?_append_right (by omega),List.getElem?_replicate] at e2
   split at e2<;>cases e2
  rw [List.getElem?_append_left hi] at e2
  have uW:i<X.N.length:=by rw [←I2.len];exact hi
  have e1':X.N[i]?=some x:=by rw [←List.getElem?_append_left (l₂:=own) uW];exact e1
  have hx:x∈X.N:=List.mem_of_getElem? e1'
  have e3':(compEnvC scope cl C X.env).kindOf x=some .local∨(compEnvC scope cl C X.env).kindOf x=some .cell∨(compEnvC scope cl C X.env).kindOf x=some .free:=e3
  have nl:(compEnvC scope cl C X.env).kindOf x≠some .local:=fun z=>by
   rw [kof x] at z
   cases q:scope.names.lookup x with
   | none=>rw [q] at z;cases z
   | some k =>
    rw [q,Option.map_some] at z
    have na:=S.apart x hx
    rw [q] at na
    cases k<;>first
     | exact na rfl
     | (have z':=Option.some.inj z;split at z'<;>cases z')
  have hcf:(compEnvC scope cl C X.env).kindOf x=some .cell∨(compEnvC scope cl C X.env).kindOf x=some .free:=e3'.resolve_left nl
  obtain⟨c,hc⟩:=S.has x (isfree x hcf)
  obtain⟨m0,hn0,hl0⟩:=I2.loc
  have hcX:=S.sub x c hc
  have ho:=S.outer x (isfree x hcf)
  obtain⟨u,r,l⟩:=hl0 i x v e1' e2 (.inr ho)
  refine⟨u,r,.inr ⟨hcf,c,hc,?_⟩⟩
  rcases l with ⟨z,_⟩|⟨_,c',hc',oc,hoc,hdc⟩
  ·rcases ho with y|y<;>(rw [y] at z;cases z)
  ·rw [hcX] at hc'
   cases hc'
   exact⟨oc,keep _ _ hoc,hdc⟩
 ·obtain⟨v,⟨oc,hoc,hdc⟩⟩:=I2.cell x c (S.sub x c e)
  exact⟨v,oc,keep _ _ hoc,hdc⟩
 ·obtain⟨v,⟨oc,hoc,hdc⟩⟩:=I2.cell x c (S.sub x c e)
  exact hH c oc hoc (I2.freeC x c (S.sub x c e))
 ·obtain⟨q1,q2,q3,q4,q5⟩:=I2.pin p (by simpa using hp)
  exact⟨keep _ _ q1,hH _ _ q1 q2,neC _ _ q1,MW I2 q3 q4,q5⟩
 ·show (σ++List.replicate own.length none).length=(X.N++own).length
  rw [List.length_append,List.length_append,List.length_replicate,I2.len]
theorem ip (I2:jo X pins σ H2 s2) (f2:∀b∈fp,Vs X pins H2 b) (hC:s2.heap.objs.size≤C) {pl:tq} {σ':St} {s4:Shared} {h':Heap} (I4:jo (X.blk scope cl C own s2 H2 fp pins) pl σ' H3 s4) (sb:Heap.SameBut C s4.heap h') :
  jo X pins σ H3 { s4 with heap:=h' }:=by
 have un:Un (JX X.stack) fp H2 H3 s2.heap s4.heap:=I4.base
 have nC:s2.heap.get? C=none:=Heap.get?_none_of_le hC
 have CF:C ∉ JX X.stack:=fun z=>by
  obtain⟨_,o,ho,_⟩:=I2.stack.mem z
  rw [nC] at ho;cases ho
 have un2:Un (JX X.stack) fp H2 H3 s2.heap h':=un.late (ch:=[C]) (fun b hb=>by
  obtain rfl:b=C:=by simpa using hb
  exact nC) (fun b o _ hb e=>(sb.2 b (by simpa using hb)).trans e) fun b o hb e=>⟨o.slots,(sb.2 b fun z=>CF (z▸hb)).trans e⟩
 have hf:H3 C=none:=I4.free
 have hok:Jm X.prog X.w H3 h':=fun b o e=>(I4.hok b o e).stay (fun c u hc q=>(sb.2 c fun z=>by
  subst z
  rcases hc with z|z
  ·rw [z,e] at hf;cases hf
  ·rw [z] at hf;cases hf).trans q) (fun _ q=>q) fun _ _ q=>q
 exact I2.call' (s':={ s4 with heap:=h' }) (ch:=fp) I4.os un2 hok I4.bare fun b hb=>⟨(f2 b hb).2.2.2.1,(f2 b hb).2.1,(f2 b hb).2.2.2.2.1,(f2 b hb).2.2.2.2.2⟩
end
def PF (X:Cx) (ifs:tJ) (t:TT):Prop :=
 ∀(pins:tq) (s:Shared) (σ:St) (H:Hp) (Q:Bool→Hp→Prop),jo X pins σ H s→t σ H Q →
  wpAny (model X.prog X.w) X.A (forIn ifs true fun c r=>if r=true then do let ok ←isTrue c X.env (eval c X.env);pure (ForInStep.yield ok) else pure (ForInStep.yield r)) (TP X pins σ Q) X.xe s
theorem yz {X:Cx}:PF X [] (fun _ H Q=>Q true H):=fun _ _ _ H _ I h=>wpAny_tests_nil ⟨H,I,h⟩
theorem Mu {X:Cx}{c:Expr}{t:TT} (h:PT X c t):PF X [c] t:=fun pins s σ H Q I q=>wpAny_tests_one (h pins s σ H Q I q)
def yR (k:Nat) (g:TG) (tc:TT) (te:TE) (σ:St) (Q:VK):It→Hp→Prop:=fun J H1=>∀D,H1 D=none→∃W:Nat→Nat→List V→Hp→Prop,(∃m,W 0 m [] (upd H1 D (.lst [])))∧∀i m ys H,W i m ys H →
 H D=some (.lst ys)∧((J.stop i H∧Q (.ref D) H)∨(J.go i H∧ys.length<sizeLine∧∀x H',J.yld i H x H'→g x (σ++List.replicate k none) H' fun σ2 H2=>(∃zs,σ2=σ++zs∧zs.length=k)∧tc σ2 H2 fun b H3 =>
  if b=true then te σ2 H3 fun y H4=>H4 D=some (.lst ys)∧∃m',m'<m∧W (i+1) m' (ys++[y]) (upd H4 D (.lst (ys++[y]))) else ∃m',m'<m∧W (i+1) m' ys H3))
def aS (wi:TI) (k:Nat) (g:TG) (tc:TT) (te:TE):TE:=fun σ H Q=>wi σ H (yR k g tc te σ Q)
section
variable {X:Cx}{tg elt iter:Expr}{ifs:tJ}{scope:Scope}{cl:tE}{own:tH}{wi:TI}{g:TG}{tc:TT}{te:TE}{pos:Pos}
theorem G6 {p2:Pos}{use:Option (Value→Sem Unit)}{QV:sV}{pins:tq}{s:Shared}{σ:St}{H:Hp}{Q:VK} (S:UK X scope cl) (hi:PI X tg iter wi)
  (hg:∀C s H fp pins,PG (X.blk scope cl C own s H fp pins) tg g) (ht:∀C s H fp pins,PF (X.blk scope cl C own s H fp pins) ifs tc) (he:∀C s H fp pins,PE (X.blk scope cl C own s H fp pins) elt te)
  (hs:∀x,foldedSetIterable iter X.env x=pure x) (I:jo X pins σ H s) (h:aS wi own.length g tc te σ H Q)
  (fin:∀D C s2 H2 H3 s4,jo X pins σ H2 s2→s2.heap.objs.size≤C→H3 C=none→(∃m,s4.heap.Ns C m)→(∀h',Heap.SameBut C s4.heap h'→jo X pins σ H3 { s4 with heap:=h' })→Q (.ref D) H3→compPost (model X.prog X.w) X.A X.xe use QV (.ref D) C (.ok .next) s4) :
  wpAny (model X.prog X.w) X.A (comprehension (.ListComp elt [⟨tg,iter,ifs,0⟩] scope pos) scope X.env p2 (newList []) false (eval iter X.env) use) QV X.xe s:=by
 refine wpAny_comprehension_free (use:=use) rfl hs S.clos S.kind S.names (jC (hi pins s σ H _ I h) fun v s1 h1=>jC h1 fun itv s2 h2=>?_)
 obtain⟨it,fp,tn,J,H2,e,I2,T,st2,f2,R⟩:=h2
 subst e
 obtain⟨nm,T,hc⟩:=T
 refine wpAny_newObj_type (wpAny_newFunctionEnv S.nocell (by intro y hy;simp at hy) (fun h1 hns hsb=>?_) S.kind)
 dsimp only at hns hsb ⊢
 have hlt:∀b∈fp,b<s2.heap.objs.size:=fun b hb=>by
  obtain⟨o,ho,_⟩:=T.obj 0 _ st2 b hb
  exact Heap.lt_size ho
 generalize hp:s2.heap.push { cls:=.type "list",dict:=none,data:=.seq ([]:tz).toArray }=hl at hns hsb ⊢
 have hC:hl.objs.size=s2.heap.objs.size+1:=by rw [←hp,Heap.size_push]
 have hCle:s2.heap.objs.size≤hl.objs.size:=by rw [hC];exact Nat.le_succ _
 have hDC:s2.heap.objs.size≠hl.objs.size:=by rw [hC];exact Nat.ne_of_lt (Nat.lt_succ_self _)
 have old:∀b o,hl.get? b=some o→h1.get? b=some o:=fun b o e=>hsb.extBut b o (Nat.ne_of_lt (Heap.lt_size e)) (Heap.get?_push_of_some _ e)
 have old2:∀b o,s2.heap.get? b=some o→h1.get? b=some o:=fun b o e=>old b o (hp▸Heap.get?_push_of_some _ e)
 have Dn:H2 s2.heap.objs.size=none:=I2.fresh
 have Cn:H2 hl.objs.size=none:=I2.hok.fresh hCle
 obtain⟨W,⟨m0,w0⟩,step⟩:=R s2.heap.objs.size Dn
 have hobj:h1.get? s2.heap.objs.size=some { cls:=.type "list",data:=.seq ([]:tz).toArray }:=old _ _ (hp▸Heap.get?_push_size _ rfl)
 have I3:jo (X.blk scope cl hl.objs.size own s2 H2 fp pins) [] (σ++List.replicate own.length none) (upd H2 s2.heap.objs.size (.lst [])) { s2 with heap:=h1,toks:=s2.toks+([]:List (Str×Value)).length } :=
  ou S I2 f2 hlt hCle hns old2 (fun b o e n=>by rw [ji (Nat.ne_of_lt (Heap.lt_size e))];exact n) (Un.laid old2 (Nat.le_refl _) Dn) (I2.hok.laid old2 (Nat.le_refl _) (show j3 X.prog X.w (upd H2 s2.heap.objs.size (.lst [])) h1 s2.heap.objs.size (.lst []) from⟨Nat.zero_le _,[],0,.nil,hobj⟩)) (by rw [ji (Ne.symm hDC)];exact Cn)
 have fpn:∀b∈fp,upd H2 s2.heap.objs.size (.lst []) b=none:=fun b hb=>by rw [ji (Nat.ne_of_lt (hlt b hb))];exact (f2 b hb).1
 have stat:∀{H':Hp},(∀b∈fp,H' b=none)→∀b∈fp,Vs (X.blk scope cl hl.objs.size own s2 H2 fp pins) [] H' b:=fun hn b hb =>
  ⟨hn b hb,Nat.ne_of_lt (Nat.lt_of_lt_of_le (hlt b hb) hCle),MW I2 (f2 b hb).2.1 (f2 b hb).2.2.1,.inl hb,fun x c e=>(f2 b hb).2.2.2.2.1 x c (S.sub x c e),fun p hp=>(f2 b hb).2.2.2.2.2 p (by simpa using hp)⟩
 have loop:∀s3:Shared,s3={ s2 with heap:=h1,toks:=s2.toks+([]:List (Str×Value)).length } →
   codeAny (model X.prog X.w) X.A (.compLoop (.ListComp elt [⟨tg,iter,ifs,0⟩] scope pos) 0 (.ref it) (.ref s2.heap.objs.size) (compEnvC scope cl hl.objs.size X.env)) (compPost (model X.prog X.w) X.A X.xe use QV (.ref s2.heap.objs.size) hl.objs.size) s3:=by
  rintro s3 rfl
  refine ah (fun n s'=>∃i ys H',jo (X.blk scope cl hl.objs.size own s2 H2 fp pins) [] (σ++List.replicate own.length none) H' s'∧tn i s'.heap∧(∀b∈fp,H' b=none)∧W i n ys H') ?_ m0
   ⟨0,[],_,I3,T.keep 0 _ _ st2 (fun b _ o e=>old2 b o e),fpn,w0⟩
  rintro n s3 ⟨i,ys,H3,J3,st3,fr3,w3⟩
  obtain⟨hD,⟨stop,q⟩|⟨go,hlen,turn⟩⟩:=step i n ys H3 w3
  ·refine jC (T.done (X.blk scope cl hl.objs.size own s2 H2 fp pins) rfl rfl rfl hc i [] s3 _ H3 _ J3 (stat fr3) st3 stop) fun r s4 ⟨hr,J4⟩=>?_
   subst hr
   obtain⟨m4,hn4,_⟩:=J4.loc
   exact fin _ _ s2 H2 H3 s4 I2 hCle J4.free ⟨m4,hn4⟩ (fun h' sb=>ip I2 f2 hCle J4 sb) q
  ·refine jC (T.item (X.blk scope cl hl.objs.size own s2 H2 fp pins) rfl rfl rfl hc i [] s3 _ H3 _ J3 (stat fr3) st3 go) fun r s4 ⟨u,hr,h4⟩=>?_
   subst hr
   refine jC h4 fun _ s5 hh=>?_
   obtain⟨x,H5,J5,r5,y5,st5,fr5⟩:=hh
   have J5':=J5.pinned (stat fr5) (T.obj _ _ st5)
   refine jC (hg _ _ _ _ _ _ s5 _ H5 x u _ J5' r5 (turn x H5 y5)) fun _ s6 hh=>?_
   obtain⟨σ6,H6,J6,⟨ts,e6,hts⟩,q6⟩:=hh
   subst e6
   refine jC (ht _ _ _ _ _ _ s6 _ H6 _ J6 q6) fun ok s7 ⟨H7,J7,q7⟩=>?_
   have again:∀{s8:Shared} {H8:Hp} {zs:List V},jo (X.blk scope cl hl.objs.size own s2 H2 fp pins) ([]++zt fp s5.heap) (σ++ts) H8 s8→(∃m',m'<n∧W (i+1) m' zs H8) →
     ∃m,m<n∧∃i ys H',jo (X.blk scope cl hl.objs.size own s2 H2 fp pins) [] (σ++List.replicate own.length none) H' s8∧tn i s8.heap∧(∀b∈fp,H' b=none)∧W i m ys H':=fun {s8 H8 zs} J8 ⟨m',hm,w8⟩=>by
    refine⟨m',hm,i+1,zs,H8,?_,T.keep _ _ _ st5 fun b hb o e=>(J8.pin (b,o) (List.mem_append_right _ (List.mem_append_right _ (Vl hb e)))).1,fun b hb=>?_,w8⟩
    ·refine J8.unpinned.weak (by rw [List.length_append,List.length_append,List.length_replicate,hts]) fun j v ej=>?_
     by_cases hj:j<σ.length
     ·rw [List.getElem?_append_left hj] at ej ⊢
      exact ej
     ·rw [List.getElem?_append_right (by omega),List.getElem?_replicate] at ej
      split at ej<;>cases ej
    ·obtain⟨o,e,d⟩:=T.obj _ _ st5 b hb
     exact (J8.pin (b,o) (List.mem_append_right _ (List.mem_append_right _ (Vl hb e)))).2.1
   cases ok with
   | false=>exact again J7 q7
   | true =>
    refine jC (he _ _ _ _ _ _ s7 _ H7 _ J7 q7) fun z s8 hh=>?_
    obtain⟨y,H8,J8,r8,hD8,q8⟩:=hh
    refine jC (vF _ s8 _ H8 (.ref s2.heap.objs.size) [y] _ [z] (fun _ H9=>∃m',m'<n∧W (i+1) m' (ys++[y]) H9) J8 rfl (.cons r8 .nil) ⟨_,ys,y,rfl,rfl,hD8,hlen,q8⟩) fun _ s9 ⟨_,H9,J9,_,q9⟩=>again J9 q9
 exact codeAny_compStart_list (loop _ rfl) (T.self _ 0 _ _ _ (T.keep 0 _ _ st2 fun b _ o e=>old2 b o e) (loop _ rfl))
theorem vk (S:UK X scope cl) (hi:PI X tg iter wi)
  (hg:∀C s H fp pins,PG (X.blk scope cl C own s H fp pins) tg g) (ht:∀C s H fp pins,PF (X.blk scope cl C own s H fp pins) ifs tc) (he:∀C s H fp pins,PE (X.blk scope cl C own s H fp pins) elt te)
  (hs:∀x,foldedSetIterable iter X.env x=pure x:=by intro _;rfl):PE X (.ListComp elt [⟨tg,iter,ifs,0⟩] scope pos) (aS wi own.length g tc te):=by
 intro pins s σ H Q I h
 rw [eval_ListComp]
 exact G6 (use:=none) (QV:=EP X pins σ Q) S hi hg ht he hs I h fun D C s2 H2 H3 s4 _ _ _ hn inv q=>hn.elim fun m hn=>⟨m,hn,fun h' sb=>⟨.ref D,H3,inv h' sb,rfl,q⟩⟩
theorem jo.let_go {pins:tq}{σ σ2:St}{H H2:Hp}{s s2:Shared}{C:Addr}{h':Heap} (I:jo X pins σ H s) (I2:jo X pins σ2 H2 s2) (hC:s2.heap.objs.size≤C) (hf:H C=none) (sb:Heap.SameBut C s.heap h'):jo X pins σ H { s with heap:=h' }:=by
 have nC:s2.heap.get? C=none:=Heap.get?_none_of_le hC
 have CF:C ∉ JX X.stack:=fun z=>by
  obtain⟨_,o,ho,_⟩:=I2.stack.mem z
  rw [nC] at ho;cases ho
 have off:∀b o,s2.heap.get? b=some o→b≠C:=fun b o e z=>by rw [z,nC] at e;cases e
 have un:Un (JX X.stack) [C] H H s.heap h':=⟨fun b o q _ _ hx=>(sb.2 b fun z=>hx (by simp [z])).trans q,fun b o q _ hb _=>⟨o.slots,(sb.2 b fun z=>CF (z▸hb)).trans q⟩,fun _ _ _ n _=>n,fun b o q hx=>⟨o,(sb.2 b fun z=>hx (by simp [z])).trans q⟩,fun _ _ q=>q,fun _ _ _ q=>q,fun b ps q=>⟨#[],by rw [Array.append_empty];exact q⟩⟩
 have hok:Jm X.prog X.w H h':=fun b o e=>(I.hok b o e).stay (fun c u hc q=>(sb.2 c fun z=>by
  subst z
  rcases hc with z|z
  ·rw [z,e] at hf;cases hf
  ·rw [z] at hf;cases hf).trans q) (fun _ q=>q) fun _ _ q=>q
 refine I.call' (s':={ s with heap:=h' }) (ch:=[C]) rfl un hok I.bare fun b hb=>?_
 obtain rfl:b=C:=by simpa using hb
 obtain⟨_,hn,_⟩:=I2.loc
 obtain⟨_,_,_,hL,_⟩:=hn
 refine⟨.inr (Nat.le_trans I2.sz hC),fun z=>off _ _ hL z.symm,fun x c e=>?_,fun p hp=>off _ _ (I2.pin p hp).1⟩
 obtain⟨_,_,hc,_⟩:=I2.cell x c e
 exact off _ _ hc
theorem gZ {i:Nat}{x:Str}{pos' spos:Pos} (hN:X.N.Nodup) (hix:X.N[i]?=some x) (hx:aW X.env.scope x) (S:UK X scope cl) (hi:PI X tg iter wi)
  (hg:∀C s H fp pins,PG (X.blk scope cl C own s H fp pins) tg g) (ht:∀C s H fp pins,PF (X.blk scope cl C own s H fp pins) ifs tc) (he:∀C s H fp pins,PE (X.blk scope cl C own s H fp pins) elt te)
  (hs:∀x,foldedSetIterable iter X.env x=pure x:=by intro _;rfl) (hsw:swapsWith (.ListComp elt [⟨tg,iter,ifs,0⟩] scope pos) (some (.Name x pos')) spos.line X.env=pure true:=by rfl)
  (hf:X.fn x=true∨X.env.scope.names.lookup x=some .local:=by first|exact .inl rfl|exact .inr rfl|assumption) :
  PS X (.Assign [.Name x pos'] (.ListComp elt [⟨tg,iter,ifs,0⟩] scope pos) spos) (eM (aS wi own.length g tc te) (gJ i)):=by
 intro pins s σ H D I h
 rw [exec_Assign_Name_used _ _ _ _ hsw]
 refine tO (wpAny_standAt (tO ?_))
 show wpAny _ X.A (do let _ ←comprehension (.ListComp elt [⟨tg,iter,ifs,0⟩] scope pos) scope X.env _ (newList []) false (eval iter X.env) (some (assign (.Name x pos') X.env))) _ _ s
 refine tO (wpAny_mono (G6 (pos:=pos) (use:=some (assign (.Name x pos') X.env)) (QV:=fun _ s'=>SP X pins D .next s') S hi hg ht he hs I h fun Da C s2 H2 H3 s4 I2 hC hfree hn inv q=>?_) (fun _ s' hq=>tP (tP hq)) fun _ _ e=>e)
 obtain⟨m,hn⟩:=hn
 have I4:jo X pins σ H3 s4:=inv s4.heap (Heap.SameBut.refl _ _)
 have nC:s2.heap.get? C=none:=Heap.get?_none_of_le hC
 refine wpAny_assign_Name (kC I4 hN hix hx (show jE (.ref Da) (.ref Da) from rfl) (fun s5 I5 ⟨a,sb,ha⟩=>⟨m,hn.sameBut sb ?_,fun h' sb'=>⟨_,H3,I5.let_go I2 hC hfree sb',q⟩⟩) hf)
 rintro rfl
 rcases ha with z|z
 ·obtain⟨_,hn2,_⟩:=I2.loc
  obtain⟨_,_,_,hL,_⟩:=hn2
  rw [←z,nC] at hL;cases hL
 ·obtain⟨_,_,hc,_⟩:=I2.cell x _ z
  rw [nC] at hc;cases hc
end
end L2
namespace L2
open PySem PySem.Spec PyProof.Rows
theorem jo.track {X:Cx}{pins:tq}{σ:St}{H:Hp}{s:Shared}{a:Addr}{o:HO} (I:jo X pins σ H s) (hn:H a=none) (h0:X.s₀.heap.get? a=none) (hL:a≠X.env.locals)
  (hc:∀x c,X.env.cells.lookup x=some c→c≠a) (hp:∀p∈X.pn++pins,p.1≠a) (new:j3 X.prog X.w (upd H a o) s.heap a o):jo X pins σ (upd H a o) s:=by
 have ne:∀b u,H b=some u→b≠a:=fun b u e z=>by rw [z,hn] at e;cases e
 refine⟨I.ok,I.os,I.bare,⟨I.base.keep,I.base.slot,fun b u e n hx=>?_,I.base.there,fun b xs e=>?_,fun b u v e=>?_,fun b ps e=>?_⟩,I.loc,I.cell,?_,fun x c e=>?_,fun p h=>?_,fun b u e=>?_,I.len,I.hn.mono fun b u v e=>by rw [ji (ne b _ e)];exact e⟩
 ·rw [ji (fun z=>by rw [z,h0] at e;cases e)];exact I.base.free b u e n hx
 ·have q:=I.base.tups b xs e
  rw [ji (ne b _ q)];exact q
 ·have q:=I.base.frzs b u v e
  rw [ji (ne b _ q)];exact q
 ·obtain⟨m,q⟩:=I.base.tbls b ps e
  exact⟨m,by rw [ji (ne b _ q)];exact q⟩
 ·rw [ji (Ne.symm hL)];exact I.free
 ·rw [ji (hc x c e)];exact I.freeC x c e
 ·obtain⟨q1,q2,q3⟩:=I.pin p h
  exact⟨q1,by rw [ji (hp p h)];exact q2,q3⟩
 ·by_cases hb:b=a
  ·subst hb;rw [je] at e;cases e;exact new
  ·rw [ji hb] at e
   exact (I.hok b u e).stay (fun _ _ _ q=>q) (fun c q=>by rw [ji (ne c _ q)];exact q) fun c xs q=>by rw [ji (ne c _ q)];exact q
section
variable {X:Cx}{k:Nat}{f:Addr}{fd:FuncData}{ps:tH}{sp:Sp}{E:St→XK}{x:Str}{p pos:Pos}{e:Expr}{es:tJ}{t:TA}
end
section
variable {X:Cx}{pins pl:tq}{σ:St}{H:Hp}{s:Shared}{E:sV}
end
section
variable {X:Cx}{body:List Stmt}{b0:Stmt}{suite:List Stmt}{cn n:Str}{np hpos pos:Pos}{C0:Addr}{i:Nat}{tb:(St→XK)→TS}{th:TS}
end
end L2
namespace L2
open PySem PySem.Spec PyProof.Rows
section
variable {P:tM}{w:World}{K:sZ}{mg:tj}{base:Heap}{k:Nat}{x m:Str}{C:Addr}{ps:tH}{sp:Sp}
structure uy (P:tM) (w:World) (K:sZ) (mg:tj) (base:Heap) (k:Nat) (x:Str) (ps:tH) (sp:Sp) (c:Bool:=true):Prop where
 ex:∃f fd,uQ P w K mg base (XC P w) k f fd ps sp c∧ju K fd ps []∧keepIn K (.ref f)=true∧mg x=some (.ref f)
structure gh (P:tM) (w:World) (K:sZ) (mg:tj) (base:Heap) (k:Nat) (x:Str) (C:Addr) (ps:tH) (sp:Sp):Prop where
 ex:∃f fd,Mk K C f∧uQ P w K mg base (XC P w) k f fd ps sp∧ju K fd ps []∧mg x=some (.ref C)
structure Ju (P:tM) (w:World) (K:sZ) (mg:tj) (base:Heap) (k:Nat) (C:Addr) (m:Str) (ps:tH) (sp:Sp):Prop where
 cl:vw K C
 ex:∃f fd,Jw K C m f∧uQ P w K mg base (XC P w) k f fd ps sp∧ju K fd ps []
end
section
variable {X:Cx}{k:Nat}{x m:Str}{C:Addr}{ps:tH}{sp:Sp}{E:XK}{p pos apos:Pos}{e o:Expr}{es:tJ}{ta:TE}{t:TA}
theorem jx {cm:Bool} (G:uy X.prog X.w X.K X.mg X.base k x ps sp cm) (hr:Ji cm k X.A) (hx:uz (XC X.prog X.w) X E) (hg:Gl X x) (ha:PA X (e::es) t)
  (hdb:(x==("__debug__":Str))=false:=by decide) (he:starEach (e::es) X.env=(false,eval e X.env)::starEach es X.env:=by rfl) (hpl:(backTo pos (starEach es X.env)).any (·.1)=false:=by rfl) :
  PE X (.Call (.Name x p) (e::es) [] pos) (aR sp [] E t):=by
 obtain⟨f,fd,F,b,kp,mgx⟩:=G.ex
 exact iY F hr hg mgx kp b .nil hx ha hdb he hpl
theorem vm (G:gh X.prog X.w X.K X.mg X.base k x C ps sp) (hr:Ur (k+1) X.A) (hx:uz (XC X.prog X.w) X E) (hg:Gl X x) (ha:PA X (e::es) t)
  (hdb:(x==("__debug__":Str))=false:=by decide) (he:starEach (e::es) X.env=(false,eval e X.env)::starEach es X.env:=by rfl) (hpl:(backTo pos (starEach es X.env)).any (·.1)=false:=by rfl) :
  PE X (.Call (.Name x p) (e::es) [] pos) (Kw C sp [] E t):=by
 obtain⟨f,fd,M,F,b,mgx⟩:=G.ex
 exact NL M F hr hg mgx b .nil hx ha hdb he hpl
theorem jz {pl:Sem Bool} (ho:PE X o ta) (G:Ju X.prog X.w X.K X.mg X.base k C m ps sp) (hr:Ur k X.A) (hx:uz (XC X.prog X.w) X E) (ha:PA X (e::es) t)
  (hst:starEach (e::es) X.env=(false,eval e X.env)::starEach es X.env:=by rfl) (hpl:(backTo pos (starEach es X.env)).any (·.1)=false:=by rfl)
  (ht:eval (.Call (.Attribute o m apos) (e::es) [] pos) X.env=(do
   let ov ←eval o X.env
   standAt apos.atName
   let (f,first) ←holding [ov] (getMethod ov m pl)
   callWith pos f first (backTo pos (starEach (e::es) X.env)) (backToKw pos (keywordEach [] X.env))):=by rfl) :
  PE X (.Call (.Attribute o m apos) (e::es) [] pos) (Kx C m sp [] E ta t):=by
 obtain⟨f,fd,M,F,b⟩:=G.ex
 exact NM ho G.cl M F hr b .nil hx ha hst hpl ht
def VL (C:Addr) (m:Str) (sp:Sp) (E:XK):V→Hp→VK→Prop:=fun x H Q=>∃a dx fs,x=.ref a∧H a=some (.ins C dx fs)∧fs.lookup m=none∧sp [x] H Q E
def KQ (X:Cx) (m:Str) (r:V→Hp→VK→Prop):Prop:=∀(pins:tq) (s:Shared) (σ:St) (H:Hp) (x:V) (u:Value) (Q:VK) (pl:Sem Bool) (pos:Pos),jo X pins σ H s→jE x u→r x H Q →
 wpAny (model X.prog X.w) X.A (holding [u] (getMethod u m pl)) (fun fm s1=>wpAny (model X.prog X.w) X.A (callWith pos fm.1 fm.2 (backTo pos (starEach [] X.env)) (backToKw pos (keywordEach [] X.env))) (EP X pins σ Q) X.xe s1) X.xe s
theorem vq (G:Ju X.prog X.w X.K X.mg X.base k C m ps sp) (hr:Ur k X.A) (hx:uz (XC X.prog X.w) X E):KQ X m (VL C m sp E):=by
 intro pins s σ H x u Q pl pos I r h
 obtain⟨f,fd,M,F,b⟩:=G.ex
 obtain⟨a,dx,fs,rfl,ea,l,q⟩:=h
 obtain rfl:u=Value.ref a:=r
 refine wpAny_holding (Vi I ea G.cl M l ?_)
 exact callWith_K0 (first:=[.ref a]) I.kIn M.kp (Ga (us:=[.ref a]) (vs:=[.ref a]) F hr b .nil hx I (.cons rfl .nil) q)
theorem KQ.or {r r':V→Hp→VK→Prop} (h:KQ X m r) (h':KQ X m r'):KQ X m (fun x H Q=>r x H Q∨r' x H Q):=by
 intro pins s σ H x u Q pl pos I rr hw
 rcases hw with z|z
 ·exact h pins s σ H x u Q pl pos I rr z
 ·exact h' pins s σ H x u Q pl pos I rr z
def sQ (r:V→Hp→VK→Prop) (ta:TE):TE:=fun σ H Q=>ta σ H fun x H1=>r x H1 Q
theorem uO {pl:Sem Bool}{r:V→Hp→VK→Prop} (hr:KQ X m r) (ho:PE X o ta)
  (ht:eval (.Call (.Attribute o m apos) [] [] pos) X.env=(do
   let ov ←eval o X.env
   standAt apos.atName
   let (f,first) ←holding [ov] (getMethod ov m pl)
   callWith pos f first (backTo pos (starEach [] X.env)) (backToKw pos (keywordEach [] X.env))):=by rfl):PE X (.Call (.Attribute o m apos) [] [] pos) (sQ r ta):=by
 intro pins s σ H Q I h
 rw [ht]
 refine tO (jC (ho pins s σ H _ I h) fun u s1 ⟨x,H1,I1,rx,q⟩=>tO (wpAny_standAt (tO ?_)))
 exact hr pins s1 σ H1 x u Q pl pos I1 rx q
end
inductive Kz:V→Value→Prop where
 | ty (n:String):Kz (.ty n) (.type n)
 | ref (a:Addr):Kz (.ref a) (.ref a)
theorem Kz.val {c:V}{cv u:Value} (h:Kz c cv) (r:jE c u):u=cv:=by cases h<;>exact r
section
variable {X:Cx}
theorem UD:ux X (.builtin "isinstance") (fun xs H Q=>∃x c t cv b,xs=[x,c]∧vf X.K H x t∧Kz c cv∧kitOne X.K t cv=some b∧Q (.bl b) H):=by
 intro pins s σ H xs us Q I r h
 obtain⟨x,c,t,cv,b,rfl,ty,hc,e,q⟩:=h
 obtain⟨u,w,rfl,ru,rc⟩:=Ky r
 obtain rfl:=hc.val rc
 exact bP I ru ty e fun tk=>⟨.bl b,H,I.tok tk,rfl,q⟩
end
def aV (K:sZ) (a b:Addr):It :=
 ⟨fun i H=>∃xs ys x y,jD K H a xs∧jD K H b ys∧xs[i]?=some x∧ys[i]?=some y,
  fun i H v H'=>∃p x y,H p=none∧v=.ref p∧H'=upd H p (.tup [x,y])∧∀xs ys,jD K H a xs→jD K H b ys→xs[i]?=some x∧ys[i]?=some y,
  fun i H=>∃xs ys,jD K H a xs∧jD K H b ys∧(xs.length≤i∨ys.length≤i)⟩
theorem jo.turnedL {X:Cx}{pins:tq}{σ:St}{H:Hp}{s:Shared}{h':Heap}{t':Nat}{ch:tD} (I:jo X pins σ H s) (fp:∀c∈ch,Vs X pins H c) (keep:∀c o,c ∉ ch→s.heap.get? c=some o→h'.get? c=some o) :
  jo X pins σ H { s with heap:=h',toks:=t' }:=by
 have nfp:∀c o,H c=some o→c ∉ ch:=fun c o e hc=>by have:=(fp c hc).1;rw [e] at this;cases this
 refine I.step (g':=s.gens) (d':=s.drawn) (ch:=ch) (fun c hc=>⟨(fp c hc).2.2.2.1,(fp c hc).2.1,(fp c hc).2.2.2.2.1,(fp c hc).2.2.2.2.2⟩)
  (fun c o _ _ hc e _=>keep c o hc e) (fun c o _ _ hc e _=>⟨o.slots,keep c o hc e⟩) (fun _ _ _ _ n=>n) (fun c o hc e=>⟨o,keep c o hc e⟩) (fun _ _ e=>e) (fun _ _ _ e=>e) (fun c ps e=>⟨#[],by rw [e];simp⟩) (fun m hm=>?_) (fun c o e=>?_) I.bare
 ·obtain⟨o,es,ep,ho,r⟩:=hm
  exact⟨o,es,ep,keep _ o (fun hc=>(fp _ hc).2.1 rfl) ho,r⟩
 ·refine (I.hok c o e).stay (fun d u hd q=>keep d u ?_ q) (fun _ q=>q) fun _ _ q=>q
  rcases hd with z|z
  ·rw [z];exact nfp c o e
  ·exact nfp d _ z
theorem eR {P:tM}{w:World}{K:sZ}{elts:tJ}{kk:Nat}{tpos:Pos} (z TI TO i1 i2 l1 l2:Addr) (D:ZipApart z TI TO i1 i2 l1 l2) :
  yP P w K (.Tuple elts kk tpos) (aV K l1 l2) [z,TI,TO,i1,i2] z (fun i h=>IsZip h z TI TO .none∧IsPair h TI (.ref i1) (.ref i2)∧(∃a b,IsPair h TO a b)∧h.IsListIter i1 l1 i∧h.IsListIter i2 l2 i) true where
 mem:=by simp
 obj:=fun i h st b hb=>by
  obtain⟨q1,q2,⟨_,_,q3⟩,⟨o4,q4,_,d4⟩,⟨o5,q5,_,d5⟩⟩:=st
  simp only [List.mem_cons,List.not_mem_nil,or_false] at hb
  rcases hb with rfl|rfl|rfl|rfl|rfl
  ·exact⟨_,q1,fun v e=>by cases e⟩
  ·exact⟨_,q2,fun v e=>by cases e⟩
  ·exact⟨_,q3,fun v e=>by cases e⟩
  ·exact⟨_,q4,fun v e=>by rw [d4] at e;cases e⟩
  ·exact⟨_,q5,fun v e=>by rw [d5] at e;cases e⟩
 keep:=fun i h h' st k=>by
  obtain⟨q1,q2,⟨a,b,q3⟩,q4,q5⟩:=st
  exact⟨k z (by simp) _ q1,k TI (by simp) _ q2,⟨a,b,k TO (by simp) _ q3⟩,q4.at fun o e=>k i1 (by simp) o e,q5.at fun o e=>k i2 (by simp) o e⟩
 item:=by
  intro X hP hw hK hc i pins s σ H E I hf st hg
  subst hP hw hK
  obtain⟨xs,ys,x,y,hx,hy,ex,ey⟩:=hg
  obtain⟨its,rv,p,_⟩:=I.list hx
  obtain⟨jts,rw',p',_⟩:=I.list hy
  obtain⟨u,hu,ru⟩:=rv.get ex
  obtain⟨v,hv,rv'⟩:=rw'.get ey
  obtain⟨q1,q2,⟨a,b,q3⟩,q4,q5⟩:=st
  refine wpAny_pyNext_zip_item D q1 q2 q3 q4 q5 p.isList p'.isList (x:=u) (y:=v) (by simpa using hu) (by simpa using hv) fun h1 z1 z2 z3 z4 z5 z6 z7=>?_
  refine⟨_,rfl,wpAny_letOwnedTupleGo_zip (s:={ s with heap:=h1 }) z1 fun h2 z1' sb=>?_⟩
  have fz:=hf z (by simp)
  have fO:=hf TO (by simp)
  have f1:=hf i1 (by simp)
  have f2:=hf i2 (by simp)
  have keep:∀c o,c ∉ [z,TO,i1,i2]→s.heap.get? c=some o→h2.get? c=some o:=fun c o hc e=>by
   simp only [List.mem_cons,List.not_mem_nil,or_false,not_or] at hc
   exact (sb.2 c hc.1).trans (z7 c o hc.1 hc.2.1 hc.2.2.1 hc.2.2.2 e)
  have hlt:∀{c o},s.heap.get? c=some o→c≠s.heap.objs.size:=fun e=>Nat.ne_of_lt (Heap.lt_size e)
  have g4:=q4
  have g5:=q5
  obtain⟨o4,e4,_,_⟩:=g4
  obtain⟨o5,e5,_,_⟩:=g5
  have fp:∀c∈[z,TO,i1,i2],Vs X pins H c:=fun c hc=>by
   simp only [List.mem_cons,List.not_mem_nil,or_false] at hc
   rcases hc with rfl|rfl|rfl|rfl
   ·exact fz
   ·exact fO
   ·exact f1
   ·exact f2
  have I1:jo X pins σ H { s with heap:=h2 }:=I.turnedL (t':=s.toks) fp keep
  have hp:H s.heap.objs.size=none:=I.fresh
  have tp:h2.get? s.heap.objs.size=some { cls:=.type "tuple",data:=.seq #[u,v] }:=(sb.2 _ (Ne.symm (hlt q1))).trans z5
  have I2:jo X pins σ (upd H s.heap.objs.size (.tup [x,y])) { s with heap:=h2 }:=I1.track hp (Heap.get?_none_of_le I.sz) (Nat.ne_of_gt I.lt)
   (fun n c e zz=>by obtain⟨v0,o0,h0,_⟩:=I.cell n c e;exact hlt h0 zz) (fun q hq zz=>hlt (I.pin q hq).1 zz) ⟨by show 2≤sizeLine;decide,[u,v],.cons ru (.cons rv' .nil),_,tp,rfl,_,rfl⟩
  refine⟨.ref s.heap.objs.size,_,I2,rfl,⟨_,x,y,hp,rfl,rfl,fun xs' ys' hx' hy'=>?_⟩,⟨z1',?_,⟨u,v,(sb.2 _ D.TOz).trans z2⟩,z3.extBut sb.extBut D.i1z,z4.extBut sb.extBut D.i2z⟩,fun c hc=>?_⟩
  ·rw [I.list_inj hx' hx,I.list_inj hy' hy];exact⟨ex,ey⟩
  ·exact (sb.2 _ D.TIz).trans (z7 _ _ D.TIz D.TITO D.TIi1 D.TIi2 q2)
  ·have hcn:=(hf c hc).1
   rw [ji ?_]
   ·exact hcn
   ·simp only [List.mem_cons,List.not_mem_nil,or_false] at hc
    rcases hc with rfl|rfl|rfl|rfl|rfl
    ·exact hlt q1
    ·exact hlt q2
    ·exact hlt q3
    ·exact hlt e4
    ·exact hlt e5
 done:=by
  intro X hP hw hK hc i pins s σ H E I hf st hg
  subst hP hw hK
  obtain⟨xs,ys,hx,hy,hend⟩:=hg
  obtain⟨its,rv,p,_⟩:=I.list hx
  obtain⟨jts,rw',p',_⟩:=I.list hy
  obtain⟨q1,q2,⟨a,b,q3⟩,q4,q5⟩:=st
  have hl:=rv.length
  have hl':=rw'.length
  refine wpAny_pyNext_zip_end (I.ok.hd (hc rfl)) D q1 q2 q3 q4 q5 p.isList p'.isList (by simp;omega) fun h1 k=>⟨rfl,?_⟩
  refine I.turnedL (t':=s.toks) (ch:=[z,TO,i1,i2]) (fun c hc=>hf c ?_) fun c o hc e=>?_
  ·simp only [List.mem_cons,List.not_mem_nil,or_false] at hc ⊢
   rcases hc with h|h|h|h<;>simp [h]
  ·simp only [List.mem_cons,List.not_mem_nil,or_false,not_or] at hc
   exact k c o hc.1 hc.2.1 hc.2.2.1 hc.2.2.2 e
 self:=fun _ _ _ _ _ st h=>wpAny_pyIter_zip st.1 h
section
variable {X:Cx}{elts:tJ}{kk:Nat}{tpos:Pos}
def rW (K:sZ) (ta:TA):TI:=fun σ H R=>ta σ H fun vs H1=>∃a b,vs=[.ref a,.ref b]∧(∃xs,jD K H1 a xs)∧(∃ys,jD K H1 b ys)∧R (aV K a b) H1
theorem pV {a b:Expr}{ta:TA}{p pos:Pos} (hcm:X.calm=true) (hg:Gl X "zip") (hm:X.mg "zip"=none) (ha:PA X [a,b] ta) (hs:starEach [a,b] X.env=[(false,eval a X.env),(false,eval b X.env)]:=by rfl) (hs2:starEach [b] X.env=[(false,eval b X.env)]:=by rfl) :
  PI X (.Tuple elts kk tpos) (.Call (.Name "zip" p) [a,b] [] pos) (rW X.K ta):=by
 intro pins s σ H R I h
 refine Call_ (vE I hg hm boot_zip (PyProof.Rows.callWith_type1 (jC (ha pos pins s σ H _ I h) fun us s1 ⟨vs,H1,I1,r1,q1⟩=>?_) (by rw [hs,hs2]) (by rw [hs2];rfl)))
 obtain⟨l1,l2,e,⟨xs,hx⟩,⟨ys,hy⟩,q⟩:=q1
 subst e
 obtain⟨u,v,rfl,ru,rv⟩:=Ky r1
 cases ru
 cases rv
 obtain⟨its,_,p1,_⟩:=I1.list hx
 obtain⟨jts,_,p2,_⟩:=I1.list hy
 have a1:l1<s1.heap.objs.size:=by obtain⟨_,e,_⟩:=p1.isList;exact Heap.lt_size e
 have a2:l2<s1.heap.objs.size:=by obtain⟨_,e,_⟩:=p2.isList;exact Heap.lt_size e
 refine call_zip_2 p1.isList p2.isList fun h' z1 z2 z3 z4 z5 z6 k=>wpAny_pyIter_zip (s:={ s1 with heap:=h' }) z1 ?_
 have I2:jo X pins σ H1 { s1 with heap:=h' }:=I1.kept (t':=s1.toks) k
 refine⟨s1.heap.objs.size+4,[s1.heap.objs.size+4,s1.heap.objs.size+2,s1.heap.objs.size+3,s1.heap.objs.size,s1.heap.objs.size+1],_,_,H1,rfl,I2,⟨true,eR _ _ _ _ _ l1 l2 (zipApart_new a1 a2),fun _=>hcm⟩,⟨z1,z2,⟨_,_,z3⟩,z4,z5⟩,fun c hc=>?_,q⟩
 have le:s1.heap.objs.size≤c:=by
  simp only [List.mem_cons,List.not_mem_nil,or_false] at hc
  rcases hc with rfl|rfl|rfl|rfl|rfl<;>omega
 exact I1.fpOk le (I1.hok.fresh le)
end
section
variable {X:Cx}{tg:Expr}
theorem iB {K:sZ}{a b:Addr}{xs ys:List V}{g:TG}{tb:TS}{D:uP}{σ:St}{H:Hp} (Pv:Nat→St→Hp→Prop) (h0:Pv 0 σ H) (hl:∀i σ H,i≤(xs.zip ys).length→Pv i σ H→jD K H a xs∧jD K H b ys)
  (hs:∀i x y p σ H,(xs.zip ys)[i]?=some (x,y)→H p=none→Pv i σ H→g (.ref p) σ (upd H p (.tup [x,y])) fun σ2 H2=>tb { D with nx:=Pv (i+1),ct:=Pv (i+1),bk:=D.nx } σ2 H2) (hd:∀σ H,Pv (xs.zip ys).length σ H→D.nx σ H) :
  ∃W:Nat→Nat→St→Hp→Prop,(∃m,W 0 m σ H)∧∀i m σ H,W i m σ H →
   ((aV K a b).stop i H∧D.nx σ H)∨((aV K a b).go i H∧∃N:St→Hp→Prop,(∀σ' H',N σ' H'→∃m',m'<m∧W (i+1) m' σ' H')∧∀x H',(aV K a b).yld i H x H'→g x σ H' fun σ2 H2=>tb { D with nx:=N,ct:=N,bk:=D.nx } σ2 H2):=by
 refine⟨fun i m σ H=>m=(xs.zip ys).length - i∧i≤(xs.zip ys).length∧Pv i σ H,⟨(xs.zip ys).length,by simp,Nat.zero_le _,h0⟩,?_⟩
 rintro i m σ H ⟨rfl,hi,p⟩
 obtain⟨qa,qb⟩:=hl i σ H hi p
 have hz:(xs.zip ys).length=min xs.length ys.length:=List.length_zip
 by_cases hlt:i<(xs.zip ys).length
 ·have h1:i<xs.length:=by omega
  have h2:i<ys.length:=by omega
  refine .inr ⟨⟨xs,ys,xs[i],ys[i],qa,qb,by simp [h1],by simp [h2]⟩,Pv (i+1),fun σ' H' p'=>⟨(xs.zip ys).length - (i+1),by omega,rfl,hlt,p'⟩,fun v H' yy=>?_⟩
  obtain⟨t,x,y,ht,rfl,rfl,e⟩:=yy
  obtain⟨ex,ey⟩:=e xs ys qa qb
  exact hs i x y t σ H (by simp [List.getElem?_zip_eq_some,ex,ey]) ht p
 ·obtain rfl:i=(xs.zip ys).length:=by omega
  exact .inl ⟨⟨xs,ys,qa,qb,by omega⟩,hd σ H p⟩
end
end L2
namespace L2
open PySem PySem.Spec PyProof.Rows
theorem fi:bootBuiltins "int"=some (.type "int"):=by decide +kernel
theorem a7:bootBuiltins "bool"=some (.type "bool"):=by decide +kernel
theorem K2:bootBuiltins "list"=some (.type "list"):=by decide +kernel
theorem Gv:bootBuiltins "tuple"=some (.type "tuple"):=by decide +kernel
theorem a8:bootBuiltins "dict"=some (.type "dict"):=by decide +kernel
theorem uc:bootBuiltins "isinstance"=some (.builtin "isinstance"):=by decide +kernel
theorem Vg:bootBuiltins "min"=some (.builtin "min"):=by decide +kernel
theorem fj:bootBuiltins "max"=some (.builtin "max"):=by decide +kernel
theorem fh:bootBuiltins "abs"=some (.builtin "abs"):=by decide +kernel
theorem Kr:bootBuiltins "len"=some (.builtin "len"):=by decide +kernel
theorem pO {X:Cx}:uz (XC X.prog X.w) X (fun _ _ _=>False):=by
 intro pins σ H s e s' I h
 obtain⟨_,_,_,_,_,_,_,_,_,q⟩:=h
 exact q.elim
section
variable {X:Cx}{tg:Expr}
def rU (K:sZ) (tl:TE):TI:=fun σ H R=>tl σ H fun x H1=>∃a,x=.ref a∧(((∃xs,jD K H1 a xs)∧R (gk K a) H1)∨((∃xs,jw K H1 a xs)∧R (KN K a) H1))
theorem pU {l:Expr}{tl:TE} (hl:PE X l tl):PI X tg l (rU X.K tl):=by
 intro pins s σ H R I h
 refine jC (hl pins s σ H _ I h) fun v s1 ⟨x,H1,I1,r1,q1⟩=>?_
 obtain⟨a,e,⟨⟨xs,hq⟩,q⟩|⟨⟨xs,hq⟩,q⟩⟩:=q1
 all_goals
  subst e
  cases r1
 ·obtain⟨its,rv,p,hz⟩:=I1.list hq
  refine wpAny_pyIter_list p.isList ?_
  refine⟨s1.heap.objs.size,[s1.heap.objs.size],_,_,H1,rfl,I1.kept (t':=s1.toks) fun b o e=>Heap.get?_push_of_some _ e,Vf.of (kF a _),⟨_,Heap.get?_push_size _ rfl,rfl,rfl⟩,fun b hb=>?_,q⟩
  obtain rfl:b=s1.heap.objs.size:=by simpa using hb
  exact I1.fpOk (Nat.le_refl _) (I1.hok.fresh (Nat.le_refl _))
 ·obtain⟨its,rv,p,hz⟩:=I1.tuple hq
  refine wpAny_pyIter_tuple (show s1.heap.IsTuple a its.toArray from p) ?_
  refine⟨s1.heap.objs.size,[s1.heap.objs.size],_,_,H1,rfl,I1.kept (t':=s1.toks) fun b o e=>Heap.get?_push_of_some _ e,Vf.of (Gp a _),⟨_,Heap.get?_push_size _ rfl,rfl,rfl⟩,fun b hb=>?_,q⟩
  obtain rfl:b=s1.heap.objs.size:=by simpa using hb
  exact I1.fpOk (Nat.le_refl _) (I1.hok.fresh (Nat.le_refl _))
end
section
variable {X:Cx}
theorem uV:ux X (.builtin "min") (fun xs H Q=>∃(p:Addr) (ns:List Int),xs=[.ref p]∧jD X.K H p (ns.map V.int)∧0<ns.length∧∀M,M∈ns→(∀a∈ns,M≤a)→Q (.int M) H):=by
 intro pins s σ H xs us Q I r h
 obtain⟨p,ns,rfl,hq,hne,q⟩:=h
 obtain⟨u,rfl,ru⟩:=Uk r
 cases ru
 obtain⟨its,rv,pl,_⟩:=I.list hq
 have hi:=gM rv
 obtain⟨zs,e⟩:=hi.allInts.items
 have hns:ns=zs.toList.map (·.1):=by rw [←hi.numsOf,←nums_intItems,←e]
 have hsz:0<zs.size:=by rw [hns,List.length_map,Array.length_toList] at hne;exact hne
 have hl:s.heap.IsList p (intItems zs):=e▸pl.isList
 refine pF (I.hn.now I.hok) hl hsz fun v h' tk hv hk=>?_
 obtain⟨t,rfl⟩:=intItems_at hv
 obtain⟨h1,h2⟩:=argBest_lt (numAt zs) (zs.size - 1)
 refine⟨.int _,H,I.kept hk,⟨t,rfl⟩,q _ ?_ fun a ha=>?_⟩
 ·rw [hns,numAt_eq];exact getD_mem (by rw [List.length_map,Array.length_toList];omega)
 ·rw [hns] at ha
  obtain⟨j,hj,rfl⟩:=mem_getD ha
  rw [List.length_map,Array.length_toList] at hj
  rw [←numAt_eq];exact h2 j (by omega)
theorem dM {a b:Str}{e:Expr}{te:TE}{p1 p2 p3 p4:Pos}{k1 k2:Nat} (ha:a.length≤1000) (hb:b.length≤1000) (he:PE X e te) :
  PE X (.JoinedStr [.Constant (.str a) k1 p1,.FormattedValue e (-1) none p2,.Constant (.str b) k2 p3] p4) (fun σ H Q=>te σ H fun x H1=>∃n,x=.int n∧n.natAbs.log2<1920∧∀z,Q (.str z) H1):=by
 intro pins s σ H Q I h
 refine JoinedStr_many (joinParts_cons (Calls.Constant_str ?_))
 have l0:(Str.empty++a).length≤1000:=by rw [strLen_append];show 0+a.length≤1000;omega
 refine⟨Nat.le_trans l0 (by decide),joinParts_cons (FormattedValue_plain (jC (he pins _ σ H _ (I.tok _) h) fun v s1 hh=>?_))⟩
 obtain⟨x,H1,I1,r1,n,ex,hd,q⟩:=hh
 subst ex
 obtain⟨t,rfl⟩:=r1
 have l1:(PySem.Str.ofString (toString n)).length≤1921:=int_text_len_1921 hd
 refine formatField_int_small hd ⟨?_,joinParts_cons (Calls.Constant_str ⟨?_,joinParts_nil ⟨.str _,H1,(I1.tok _),⟨_,rfl⟩,q _⟩ ?_⟩)⟩
 all_goals
  have hz:(3921:Nat)≤sizeLine:=by decide
  refine Nat.le_trans ?_ hz
  have e1:=strLen_append (Str.empty++a) (PySem.Str.ofString (toString n))
  have e2:=strLen_append (Str.empty++a++PySem.Str.ofString (toString n)) b
  omega
end
theorem bj {X:Cx}{scope:Scope}{N:tH} (hN:X.N=N) (hk:scope.kind=.function) (h1:(scope.names.all fun y=>y.2 != .free&&y.2 != .cell)=true) (h2:(scope.names.all fun y=>y.2 != .local||scope.names.lookup y.1==some .local)=true)
  (h3:(N.all fun x=>scope.names.lookup x != some .local)=true):UK X scope [] where
 clos:=closureFor_none fun y hy=>by
  have:=List.all_eq_true.mp h1 y hy
  simp only [Bool.and_eq_true,bne_iff_ne] at this
  exact this.1
 kind:=hk
 nocell:=fun y hy=>by
  have:=List.all_eq_true.mp h1 y hy
  simp only [Bool.and_eq_true,bne_iff_ne] at this
  exact this.2
 names:=fun y hy e=>by
  have:=List.all_eq_true.mp h2 y hy
  rw [e] at this
  simpa using this
 sub:=fun x c e=>by cases e
 has:=fun x e=>by
  have:=List.all_eq_true.mp h1 _ (JV e)
  simp at this
 apart:=fun x hx=>by
  have:=List.all_eq_true.mp h3 x (hN▸hx)
  simpa using this
 outer:=fun x e=>by
  have:=List.all_eq_true.mp h1 _ (JV e)
  simp at this
theorem Vx {X:Cx}{scope:Scope}{N:tH}{n:Str}{a:Addr} (hN:X.N=N) (hk:scope.kind=.function) (hcl:closureFor scope X.env=pure [(n,a)]) (hsub:X.env.cells.lookup n=some a) (hout:X.env.kindOf n=some .cell)
  (h1:(scope.names.all fun y=>y.2 != .cell&&(y.2 != .free||y.1==n))=true) (h2:(scope.names.all fun y=>y.2 != .local||scope.names.lookup y.1==some .local)=true)
  (h3:(N.all fun x=>scope.names.lookup x != some .local)=true):UK X scope [(n,a)] where
 clos:=hcl
 kind:=hk
 nocell:=fun y hy=>by
  have:=List.all_eq_true.mp h1 y hy
  simp only [Bool.and_eq_true,bne_iff_ne] at this
  exact this.1
 names:=fun y hy e=>by
  have:=List.all_eq_true.mp h2 y hy
  rw [e] at this
  simpa using this
 sub:=fun x c e=>by
  rw [List.lookup_cons] at e
  split at e
  ·rename_i q
   obtain rfl:x=n:=by simpa using q
   cases e;exact hsub
  ·cases e
 has:=fun x e=>by
  have:=List.all_eq_true.mp h1 _ (JV e)
  simp at this
  exact⟨a,by rw [this];simp [List.lookup_cons]⟩
 apart:=fun x hx=>by
  have:=List.all_eq_true.mp h3 x (hN▸hx)
  simpa using this
 outer:=fun x e=>by
  have:=List.all_eq_true.mp h1 _ (JV e)
  simp at this
  exact .inl (this▸hout)
end L2
namespace L2
open PySem PySem.Spec PyProof.Rows PySem.W
section
variable {prog:tM}{w:World}{A:Around}{E:sV}{s:Shared}{K:sZ}{x C:Addr}
end
section
variable {K:sZ}{x C:Addr}
end
section
variable {X:Cx}
theorem yD:∀{cs:tD} {us:tz},jB (cs.map V.ref) us→us=cs.map Value.ref
 | [],_,.nil=>rfl
 | _::_,_,.cons r t=>by cases r;rw [yD t];rfl
theorem zS {K:sZ} (h:X.K=K):eY X (dX K):=by
 subst h;exact jG
end
end L2
namespace L2
open PySem PySem.Spec PyProof.Rows PySem.W
section
variable {X:Cx}
end
end L2
namespace L2
open PySem PySem.Spec PyProof.Rows PySem.W
section
variable {X:Cx}{tg:Expr}
end
end L2
namespace L2
open PySem PySem.Spec PyProof.Rows PySem.W
section
variable {X:Cx}{e:Expr}{te:TE}{pos p2 q1 q2:Pos}{j1 j2:Nat}
end
end L2
namespace L2
open PySem PySem.Spec PyProof.Rows PySem.W
section
variable {X:Cx}
end
section
variable {X:Cx}
end
end L2
namespace Wd
open PySem L2 PySem.NumText PySem.W
def Lg (n:Int):Prop:=n.natAbs.log2<1920
theorem qW {n:Int} (h:n.natAbs<10^42):Lg n:=by
 unfold Lg
 by_cases z:n.natAbs=0
 ·rw [z];decide
 ·refine (Nat.log2_lt z).mpr (Nat.lt_of_lt_of_le h ?_)
  exact Nat.le_trans (show (10:Nat)^42≤2^200 by decide) (Nat.pow_le_pow_right (by decide) (by decide))
end Wd
namespace L2
open PySem PySem.Spec PyProof.Rows
theorem m9 {H H':Hp}{D:Addr}{o:HO} (hD:H D=none) (s:jg H H'):jg H (upd H' D o):=fun b u e=>by rw [ji (jq e hD)];exact s b u e
end L2
namespace L2
open PySem PySem.Spec PyProof.Rows PySem.W
theorem K0 {α:Type} [DecidableEq α] (d:α) (xs ys:List α):((List.range (min xs.length ys.length)).all (fun j=>decide (xs.getD j d=ys.getD j d))&&xs.length==ys.length)=decide (xs=ys):=by
 rw [Bool.eq_iff_iff,Bool.and_eq_true,List.all_eq_true,decide_eq_true_iff,beq_iff_eq]
 constructor
 ·rintro⟨h,hl⟩
  refine List.ext_getElem hl fun j h1 h2=>?_
  have:=of_decide_eq_true (h j (List.mem_range.mpr (by omega)))
  rwa [List.getD_eq_getElem?_getD,List.getD_eq_getElem?_getD,List.getElem?_eq_getElem h1,List.getElem?_eq_getElem h2] at this
 ·rintro rfl
  exact⟨fun j _=>decide_eq_true rfl,rfl⟩
structure KY (K:sZ) (H:Hp) (ps:tD) (nss:List (List Int)):Prop where
 len:ps.length=nss.length
 at_:∀(i:Nat) (p:Addr) (ns:List Int),ps[i]?=some p→nss[i]?=some ns→jw K H p (ns.map V.int)
theorem jg.sqT {K:sZ}{H H':Hp}{a:Addr}{xs:List V} (e:jg H H') (h:jw K H a xs):jw K H' a xs:=by
 rcases h with (h|⟨o,h⟩)|h
 ·exact .inl (.inl (e _ _ h))
 ·exact .inl (.inr ⟨o,e _ _ h⟩)
 ·exact .inr h
section
variable {X:Cx}{pins:tq}{σ:St}{H:Hp}{s:Shared}
theorem Y7 {A:Around}{its its2:tz}{ns ms:List Int} (r1:jB (ns.map V.int) its) (r2:jB (ms.map V.int) its2) (j:Nat) (h1:j<its.toArray.size) (h2:j<its2.toArray.size) :
  SeqAt.EqAt A s its.toArray[j] its2.toArray[j] (decide (ns.getD j 0=ms.getD j 0)):=by
 have l1:=r1.length
 have l2:=r2.length
 rw [List.length_map] at l1 l2
 rw [List.size_toArray] at h1 h2
 have g1:j<ns.length:=by omega
 have g2:j<ms.length:=by omega
 obtain⟨u,hu,ru⟩:=r1.get (i:=j) (x:=V.int ns[j]) (by simp [g1])
 obtain⟨v,hv,rv⟩:=r2.get (i:=j) (x:=V.int ms[j]) (by simp [g2])
 obtain⟨t,rfl⟩:=ru
 obtain⟨t2,rfl⟩:=rv
 have e1:its.toArray[j]=.int ns[j] t:=by
  rw [List.getElem_toArray]
  exact Option.some.inj ((List.getElem?_eq_getElem h1).symm.trans hu)
 have e2:its2.toArray[j]=.int ms[j] t2:=by
  rw [List.getElem_toArray]
  exact Option.some.inj ((List.getElem?_eq_getElem h2).symm.trans hv)
 rw [e1,e2]
 have e3:(ns[j]==ms[j])=decide (ns.getD j 0=ms.getD j 0):=by
  rw [List.getD_eq_getElem?_getD,List.getD_eq_getElem?_getD,List.getElem?_eq_getElem g1,List.getElem?_eq_getElem g2]
  rw [Bool.eq_iff_iff,beq_iff_eq,decide_eq_true_iff];rfl
 rw [←e3]
 exact SeqAt.EqAt.int_int _ _ _ _
theorem zN {its its2:tz}{ns ms:List Int} (r1:jB (ns.map V.int) its) (r2:jB (ms.map V.int) its2) :
  ((List.range (min its.toArray.size its2.toArray.size)).all (fun j=>decide (ns.getD j 0=ms.getD j 0))&&its.toArray.size==its2.toArray.size)=decide (ns=ms):=by
 have l1:=r1.length
 have l2:=r2.length
 rw [List.length_map] at l1 l2
 rw [List.size_toArray,List.size_toArray,←l1,←l2]
 exact K0 0 ns ms
theorem df (I:jo X pins σ H s) {A:Around} {a b:Addr} {ns ms:List Int} (hu:A.units<cLine) (ha:jw X.K H a (ns.map V.int)) (hb:jw X.K H b (ms.map V.int)):SeqAt.EqAt A s (.ref a) (.ref b) (decide (ns=ms)):=by
 by_cases hab:a=b
 ·subst hab
  have e:=I.tuple_inj ha hb
  have e2:ns=ms:=(List.map_inj_right (f:=V.int) fun x y h=>V.int.inj h).mp e
  rw [decide_eq_true e2]
  exact SeqAt.EqAt.same _
 ·obtain⟨its,r1,p1,_⟩:=I.tuple ha
  obtain⟨its2,r2,p2,_⟩:=I.tuple hb
  rw [←zN r1 r2]
  exact SeqAt.EqAt.of_refs hab (SeqAt.RcAt.tuples p1 p2 hu fun j h1 h2=>Y7 r1 r2 j h1 h2)
theorem pL (hu:X.A.units<cLine):ul X (compareOp .NotEq) (fun x y H Q=>∃(a b:Addr) (ns ms:List Int),x=.ref a∧y=.ref b∧jw X.K H a (ns.map V.int)∧jw X.K H b (ms.map V.int)∧Q (.bl (!decide (ns=ms))) H):=by
 intro pins s σ H x y v u Q I rx ry h
 obtain⟨a,b,ns,ms,rfl,rfl,ha,hb,q⟩:=h
 cases rx
 cases ry
 obtain⟨its,r1,p1,_⟩:=I.tuple ha
 obtain⟨its2,r2,p2,_⟩:=I.tuple hb
 rw [←zN r1 r2] at q
 exact EqBoolInt.of_rcne (SeqAt.RcNeAt.tuples p1 p2 hu fun j h1 h2=>Y7 r1 r2 j h1 h2) ⟨.bl _,H,I,rfl,q⟩
theorem bz (I:jo X pins σ H s) {A:Around} {its its2:tz} {ps qs:tD} {nss mss:List (List Int)} (hu:A.units<cLine) (T1:KY X.K H ps nss) (T2:KY X.K H qs mss) (r1:jB (ps.map V.ref) its) (r2:jB (qs.map V.ref) its2) (j:Nat) (h1:j<its.toArray.size) (h2:j<its2.toArray.size) :
  SeqAt.EqAt A s its.toArray[j] its2.toArray[j] (decide (nss.getD j []=mss.getD j [])):=by
 have e1:=yD r1
 have e2:=yD r2
 subst e1 e2
 rw [List.size_toArray,List.length_map] at h1 h2
 have g1:j<nss.length:=by rw [←T1.len];exact h1
 have g2:j<mss.length:=by rw [←T2.len];exact h2
 rw [List.getElem_toArray,List.getElem_toArray,List.getElem_map,List.getElem_map,List.getD_eq_getElem?_getD,List.getD_eq_getElem?_getD,List.getElem?_eq_getElem g1,List.getElem?_eq_getElem g2]
 exact df I hu (T1.at_ j _ _ (List.getElem?_eq_getElem h1) (List.getElem?_eq_getElem g1)) (T2.at_ j _ _ (List.getElem?_eq_getElem h2) (List.getElem?_eq_getElem g2))
theorem ay {its its2:tz}{ps qs:tD}{nss mss:List (List Int)} (l1:ps.length=nss.length) (l2:qs.length=mss.length) (r1:jB (ps.map V.ref) its) (r2:jB (qs.map V.ref) its2) (hz:its.toArray.size=its2.toArray.size) :
  (List.range its.toArray.size).all (fun j=>decide (nss.getD j []=mss.getD j []))=decide (nss=mss):=by
 have e1:=r1.length
 have e2:=r2.length
 rw [List.length_map] at e1 e2
 rw [List.size_toArray] at hz ⊢
 rw [List.size_toArray] at hz
 rw [←K0 [] nss mss,show min nss.length mss.length=its.length by omega,show (nss.length==mss.length)=true by rw [beq_iff_eq];omega,Bool.and_true]
theorem zW (hu:X.A.units+64<cLine):ul X (compareOp .NotEq) (fun x y H Q=>∃a b ps qs nss mss,x=.ref a∧y=.ref b∧jD X.K H a (ps.map V.ref)∧jD X.K H b (qs.map V.ref)∧KY X.K H ps nss∧KY X.K H qs mss∧Q (.bl (!decide (nss=mss))) H):=by
 intro pins s σ H x y v u Q I rx ry h
 obtain⟨a,b,ps,qs,nss,mss,rfl,rfl,ha,hb,T1,T2,q⟩:=h
 cases rx
 cases ry
 obtain⟨its,r1,p1,_⟩:=I.list ha
 obtain⟨its2,r2,p2,_⟩:=I.list hb
 have hu1:X.A.units<cLine:=by omega
 have hu2:X.A.in1.units<cLine:=by show X.A.units+1<cLine;omega
 by_cases hz:its.toArray.size=its2.toArray.size
 ·rw [←ay T1.len T2.len r1 r2 hz] at q
  exact EqBoolInt.of_rcne (SeqAt.RcNeAt.lists p1.isList p2.isList hz hu1 fun j h1 h2=>bz I hu2 T1 T2 r1 r2 j h1 h2) ⟨.bl _,H,I,rfl,q⟩
 ·have hne:nss≠mss:=fun e=>by
   have e1:=r1.length
   have e2:=r2.length
   rw [List.length_map] at e1 e2
   rw [List.size_toArray,List.size_toArray] at hz
   have:=T1.len
   have:=T2.len
   rw [e] at *
   omega
  rw [decide_eq_false hne] at q
  exact EqBoolInt.of_rcne (SeqAt.RcNeAt.lists_lengths p1.isList p2.isList (bne_iff_ne.mpr hz) hu1) ⟨.bl true,H,I,rfl,q⟩
def gg (x:V):Prop:=(∃n,x=.int n∧n.natAbs.log2<1920)∨∃z,x=.str z∧z.length≤2000
theorem mt {prog:tM}{w:World}{A:Around}{E:sV}{Q:sV}{x:V}{v:Value} (r:jE x v) (F:gg x) (k:∀(y:Str) (t:Tok) (tk:Nat),y.length≤2000→Q (.str y t) { s with toks:=tk }):wpAny (model prog w) A (formatField v Str.empty) Q E s:=by
 rcases F with ⟨n,rfl,hd⟩|⟨z,rfl,hz⟩
 ·obtain⟨t,rfl⟩:=r
  exact formatField_int_small hd (k _ _ _ (Nat.le_trans (int_text_len_1921 hd) (by decide)))
 ·obtain⟨t,rfl⟩:=r
  exact formatField_str (fun t' tk=>k _ _ _ hz) (Nat.le_trans hz (by decide))
end
theorem gr {K:sZ}{a:Addr}{xs:List V}{g:TG}{tc:TT}{te:TE}{k:Nat}{σ:St}{H:Hp}{Q:VK} (p:V→Bool) (f:V→V) (hl:jw K H a xs) (hz:xs.length≤sizeLine)
  (step:∀x∈xs,∀(H':Hp) (Qy:VK) (Qn:Hp→Prop),jg H H'→(p x=true→∀H'',jg H' H''→Qy (f x) H'')→(p x=false→∀H'',jg H' H''→Qn H'')→g x (σ++List.replicate k none) H' fun σ2 H2=>(∃zs,σ2=σ++zs∧zs.length=k)∧tc σ2 H2 fun b H3=>if b=true then te σ2 H3 Qy else Qn H3)
  (q:∀D H',H D=none→jg H H'→H' D=some (.lst ((xs.filter p).map f))→Q (.ref D) H'):yR k g tc te σ Q (KN K a) H:=by
 intro D hD
 refine⟨fun i m ys H'=>m=xs.length - i∧i≤xs.length∧ys=((xs.take i).filter p).map f∧jg H H'∧H' D=some (.lst ys),⟨xs.length,by simp,Nat.zero_le _,by simp,m9 hD (jg.refl H),je⟩,?_⟩
 rintro i m ys H' ⟨rfl,hi,rfl,sm,eD⟩
 refine⟨eD,?_⟩
 have q1:jw K H' a xs:=sm.sqT hl
 by_cases hlt:i<xs.length
 ·refine .inr ⟨⟨xs,xs[i],q1,by simp [hlt]⟩,?_,fun x H2 y=>?_⟩
  ·have:=List.length_filter_le p (xs.take i)
   rw [List.length_map]
   simp only [List.length_take] at this
   omega
  ·obtain⟨rfl,y⟩:=y
   have hx:xs[i]?=some x:=y xs q1
   have et:(xs.take (i+1)).filter p=(xs.take i).filter p++(if p x then [x] else []):=take_succ_filter p xs i x hx
   refine step x (List.mem_of_getElem? hx) _ _ _ sm (fun hp H4 s4=>⟨s4 _ _ eD,xs.length - (i+1),by omega,rfl,hlt,?_,m9 hD (jg.trans sm s4),je⟩) fun hp H4 s4=>⟨xs.length - (i+1),by omega,rfl,hlt,?_,jg.trans sm s4,s4 _ _ eD⟩
   ·rw [et,hp];simp
   ·rw [et,hp];simp
 ·obtain rfl:i=xs.length:=by omega
  refine .inl ⟨⟨xs,q1,Nat.le_refl _⟩,?_⟩
  rw [List.take_length] at eD
  exact q D H' hD sm eD
theorem ag {lo:Int}{n:Nat}{g:TG}{tc:TT}{te:TE}{k:Nat}{σ:St}{H:Hp}{Q:VK} (Pv:Addr→Nat→List V→Hp→Prop) (hn:n≤sizeLine)
  (h0:∀D,H D=none→Pv D 0 [] (upd H D (.lst []))) (hD:∀D i ys H',Pv D i ys H'→H' D=some (.lst ys)∧ys.length=i)
  (step:∀D i ys H' (Qy:VK) (Qn:Hp→Prop),i<n→Pv D i ys H'→(∀y H4,H4 D=some (.lst ys)→Pv D (i+1) (ys++[y]) (upd H4 D (.lst (ys++[y])))→Qy y H4) →
   g (.int (lo+i)) (σ++List.replicate k none) H' fun σ2 H2=>(∃zs,σ2=σ++zs∧zs.length=k)∧tc σ2 H2 fun b H3=>if b=true then te σ2 H3 Qy else Qn H3)
  (q:∀D ys H',H D=none→Pv D n ys H'→Q (.ref D) H'):yR k g tc te σ Q (YU lo n) H:=by
 intro D hDn
 refine⟨fun i m ys H'=>m=n - i∧i≤n∧Pv D i ys H',⟨n,by simp,Nat.zero_le _,h0 D hDn⟩,?_⟩
 rintro i m ys H' ⟨rfl,hi,p⟩
 obtain⟨e,hl⟩:=hD D i ys H' p
 refine⟨e,?_⟩
 by_cases hlt:i<n
 ·refine .inr ⟨hlt,by omega,fun x H2 y=>?_⟩
  obtain⟨rfl,rfl⟩:=y
  exact step D i ys H2 _ _ hlt p fun y H4 e4 p4=>⟨e4,n - (i+1),by omega,rfl,hlt,p4⟩
 ·obtain rfl:i=n:=by omega
  exact .inl ⟨Nat.le_refl _,q D ys H' hDn p⟩
theorem Y4 {K:sZ}{a:Addr}{xs:List V}{g:TG}{tc:TT}{te:TE}{k:Nat}{σ:St}{H:Hp}{Q:VK} (Pv:Addr→Nat→List V→Hp→Prop) (hz:xs.length≤sizeLine)
  (h0:∀D,H D=none→Pv D 0 [] (upd H D (.lst []))) (hD:∀D i ys H',Pv D i ys H'→H' D=some (.lst ys)∧ys.length≤i∧jD K H' a xs)
  (step:∀D i x ys H' (Qy:VK) (Qn:Hp→Prop),xs[i]?=some x→Pv D i ys H'→(∀y H4,H4 D=some (.lst ys)→Pv D (i+1) (ys++[y]) (upd H4 D (.lst (ys++[y])))→Qy y H4)→(∀H4,Pv D (i+1) ys H4→Qn H4) →
   g x (σ++List.replicate k none) H' fun σ2 H2=>(∃zs,σ2=σ++zs∧zs.length=k)∧tc σ2 H2 fun b H3=>if b=true then te σ2 H3 Qy else Qn H3)
  (q:∀D ys H',H D=none→Pv D xs.length ys H'→Q (.ref D) H'):yR k g tc te σ Q (gk K a) H:=by
 intro D hDn
 refine⟨fun i m ys H'=>m=xs.length - i∧i≤xs.length∧Pv D i ys H',⟨xs.length,by simp,Nat.zero_le _,h0 D hDn⟩,?_⟩
 rintro i m ys H' ⟨rfl,hi,p⟩
 obtain⟨e,hl,q1⟩:=hD D i ys H' p
 refine⟨e,?_⟩
 by_cases hlt:i<xs.length
 ·refine .inr ⟨⟨xs,xs[i],q1,by simp [hlt]⟩,by omega,fun x H2 y=>?_⟩
  obtain⟨rfl,y⟩:=y
  exact step D i x ys H2 _ _ (y xs q1) p (fun y H4 e4 p4=>⟨e4,xs.length - (i+1),by omega,rfl,hlt,p4⟩) fun H4 p4=>⟨xs.length - (i+1),by omega,rfl,hlt,p4⟩
 ·obtain rfl:i=xs.length:=by omega
  exact .inl ⟨⟨xs,q1,Nat.le_refl _⟩,q D ys H' hDn p⟩
section
variable {X:Cx}{K:sZ}
end
end L2
namespace Wd
open PySem L2 PySem.NumText PySem.W
end Wd
namespace L2
open PySem PySem.Spec PyProof.Rows
section
variable {M:Model}{A:Around}{E:sV}{s:Shared}{base:Heap}{env:Env}{outer:List Env}{L e:Addr}{cls:Value}{a0:Value×Value}
end
section
variable {X:Cx}{pins:tq}{σ:St}{H H':Hp}{s s':Shared}{ea C:Addr}{a0:Value×Value}{h':Heap}{ch fp:tD}
end
section
variable {P:tM}{w:World}{K:sZ}{mg:tj}{base:Heap}{N ps:tH}{qual:Str}{scope:Scope}{f:Addr}{cd:Value}{A:Around}{outer:List Env}{s:Shared}{H:Hp}{E:XK}
end
section
variable {X:Cx}{scope:Scope}{cl:tE}{own:tH}{pins pn pl:tq}{σ:St}{H H2:Hp}{s s2:Shared}{fp:tD}{C:Addr}{xe:sV}
end
section
variable {X:Cx}{tg elt iter:Expr}{ifs:tJ}{scope:Scope}{cl:tE}{own:tH}{wi:TI}{g:TG}{tc:TT}{te:TE}{pos:Pos}
end
end L2
namespace L2
open PySem PySem.Spec PyProof.Rows
section
variable {prog:tM}{w:World}{A:Around}{E:sV}{s:Shared}{z TI TO i1 i2 i3 l1 l2 l3:Addr}{xs ys zs:tI}{k:Nat}
end
section
variable {X:Cx}{elts:tJ}{kk:Nat}{tpos:Pos}
end
end L2
namespace L2
open PySem PySem.Spec PyProof.Rows
section
variable {X:Cx}{body:List Stmt}{b0:Stmt}{suite:List Stmt}{cn:Str}{np hpos pos:Pos}{C0:Addr}{tb:XK→TS}{th:TS}
end
section
variable {prog:tM}{w:World}{A:Around}{E:sV}{s:Shared}
theorem pE {l:Addr}{xs:Array (Int×Tok)}{Q:sV} (hn:Yj A s.heap) (hl:s.heap.IsList l (intItems xs)) (hne:0<xs.size)
  (h:∀v h' tk,(intItems xs)[argBest (fun i j=>decide (numAt xs i > numAt xs j)) (xs.size - 1)]?=some v→(∀b o,s.heap.get? b=some o→h'.get? b=some o)→Q v { s with heap:=h',toks:=tk }) :
  wpAny (model prog w) A (call (.builtin "max") [.ref l]) Q E s:=by
 obtain⟨D,nD,lD⟩:=hn.small
 have hlt:∀b∈D,b<s.heap.objs.size:=fun b hb=>let ⟨_,_,e,_⟩:=lD b hb;Heap.lt_size e
 refine call_max_walk (iter_intList hl fun s2 e st hfp hlI=>?_)
 subst e
 have nI:s.heap.objs.size ∉ D:=fun z=>absurd (hlt _ z) (Nat.lt_irrefl _)
 refine⟨_,_,_,_,_,_,_,rfl,M9 (A:=A.in1) s.heap.objs.size l hlI D nI (intItems xs),⟨st,gj.keptD (A:=A.in1) nD fun b _ o e=>Heap.get?_push_of_some _ e⟩,fun b hb=>?_,by simpa [intItems] using hne,CmpOf.ints_gt (numAt xs) (fun _ _=>intItems_at),fun v h' tk hP hk=>?_⟩
 ·rcases List.mem_append.mp hb with z|z
  ·exact hfp b z
  ·rw [Heap.size_push];exact Nat.lt_succ_of_lt (hlt b z)
 ·exact h v h' tk (by simpa [intItems] using hP) (old_kept hk)
end
section
variable {X:Cx}
theorem Yk:ux X (.builtin "max") (fun xs H Q=>∃(p:Addr) (ns:List Int),xs=[.ref p]∧jD X.K H p (ns.map V.int)∧0<ns.length∧∀M,M∈ns→(∀a∈ns,a≤M)→Q (.int M) H):=by
 intro pins s σ H xs us Q I r h
 obtain⟨p,ns,rfl,hq,hne,q⟩:=h
 obtain⟨u,rfl,ru⟩:=Uk r
 cases ru
 obtain⟨its,rv,pl,_⟩:=I.list hq
 have hi:=gM rv
 obtain⟨zs,e⟩:=hi.allInts.items
 have hns:ns=zs.toList.map (·.1):=by rw [←hi.numsOf,←nums_intItems,←e]
 have hsz:0<zs.size:=by rw [hns,List.length_map,Array.length_toList] at hne;exact hne
 have hl:s.heap.IsList p (intItems zs):=e▸pl.isList
 refine pE (I.hn.now I.hok) hl hsz fun v h' tk hv hk=>?_
 obtain⟨t,rfl⟩:=intItems_at hv
 obtain⟨h1,h2⟩:=argBest_gt (numAt zs) (zs.size - 1)
 refine⟨.int _,H,I.kept hk,⟨t,rfl⟩,q _ ?_ fun a ha=>?_⟩
 ·rw [hns,numAt_eq];exact getD_mem (by rw [List.length_map,Array.length_toList];omega)
 ·rw [hns] at ha
  obtain⟨j,hj,rfl⟩:=mem_getD ha
  rw [List.length_map,Array.length_toList] at hj
  rw [←numAt_eq];exact h2 j (by omega)
end
end L2
namespace L2
open PySem PySem.Spec PyProof.Rows
section
variable {X:Cx}{scope:Scope}{cl:tE}{own N0:tH}{pins:tq}{σ:St}{H2 H3:Hp}{s2:Shared}{fp:tD}{C:Addr}{h1:Heap}
end
section
variable {X:Cx}{tg elt iter:Expr}{ifs:tJ}{scope:Scope}{cl:tE}{own N0:tH}{wi:TI}{g:TG}{tc:TT}{te:TE}{pos:Pos}
end
end L2
namespace L2
open PySem PySem.Spec PyProof.Rows
section
variable {κ:Type} [DecidableEq κ]
def uo (kvs:List (κ×V)) (k:κ):Option V:=(kvs.find? fun kv=>decide (kv.1=k)).map (·.2)
def Je (kvs:List (κ×V)) (k:κ) (v:V):List (κ×V) :=
 if (kvs.any fun kv=>decide (kv.1=k))=true then kvs.map (fun kv=>if kv.1=k then (kv.1,v) else kv) else kvs++[(k,v)]
def uS (kvs:List (κ×V)) (k:κ):List (κ×V):=kvs.filter fun kv=>decide (kv.1≠k)
theorem Z8 {p:κ×V}{r:List (κ×V)}{k:κ} (e:p.1=k):uo (p::r) k=some p.2:=by simp [uo,List.find?_cons,e]
theorem Z7 {p:κ×V}{r:List (κ×V)}{k:κ} (e:¬p.1=k):uo (p::r) k=uo r k:=by simp [uo,List.find?_cons,e]
theorem UJ (k:κ):∀kvs:List (κ×V),(kvs.any fun kv=>decide (kv.1=k))=(uo kvs k).isSome
 | []=>rfl
 | p::r=>by
  rw [List.any_cons]
  by_cases e:p.1=k
  ·simp only [Z8 e,decide_eq_true e,Bool.true_or,Option.isSome_some]
  ·rw [Z7 e,decide_eq_false e,Bool.false_or];exact UJ k r
theorem vp (kvs:List (κ×V)) (k:κ) (v:V):(Je kvs k v).length≤kvs.length+1:=by
 unfold Je
 split
 ·rw [List.length_map];omega
 ·rw [List.length_append,List.length_cons,List.length_nil];omega
theorem dS {kvs:List (κ×V)}{k:κ} (v:V) (h:uo kvs k=none):Je kvs k v=kvs++[(k,v)]:=by
 unfold Je
 rw [UJ,h]
 exact if_neg (by decide)
theorem UU.isSome_eq {o:Option V}{u:Option Value} (r:UU o u):o.isSome=u.isSome:=by
 cases o with
 | none=>cases u with
  | none=>rfl
  | some _=>exact (show False from r).elim
 | some _=>cases u with
  | none=>exact (show False from r).elim
  | some _=>rfl
theorem KV.val {kvs:List (κ×V)}{vs:List (κ×Value)} (r:KV kvs vs) (k:κ):UU (uo kvs k) (valueAt vs k):=by
 unfold KV at r
 induction r with
 | nil=>exact True.intro
 | @cons p q ps qs h t ih =>
  obtain⟨h1,h2⟩:=h
  by_cases e:p.1=k
  ·have e':q.1=k:=h1.symm.trans e
   have b:valueAt (q::qs) k=some q.2:=by simp [valueAt,List.find?_cons,e']
   rw [Z8 e,b];exact h2
  ·have e':¬q.1=k:=fun z=>e (h1.trans z)
   have b:valueAt (q::qs) k=valueAt qs k:=by simp [valueAt,List.find?_cons,e']
   rw [Z7 e,b];exact ih
theorem KV.any {kvs:List (κ×V)}{vs:List (κ×Value)} (r:KV kvs vs) (k:κ):(kvs.any fun kv=>decide (kv.1=k))=vs.any fun kv=>decide (kv.1=k):=by
 unfold KV at r
 induction r with
 | nil=>rfl
 | cons h t ih=>rw [List.any_cons,List.any_cons,ih,h.1]
theorem KV.repl {kvs:List (κ×V)}{vs:List (κ×Value)} (r:KV kvs vs) (k:κ) {y:V} {u:Value} (ry:jE y u) :
  KV (kvs.map fun kv=>if kv.1=k then (kv.1,y) else kv) (vs.map fun kv=>if kv.1=k then (kv.1,u) else kv):=by
 unfold KV at r ⊢
 induction r with
 | nil=>exact .nil
 | @cons p q ps qs h t ih =>
  rw [List.map_cons,List.map_cons]
  refine .cons ?_ ih
  obtain⟨h1,h2⟩:=h
  by_cases e:p.1=k
  ·rw [if_pos e,if_pos (h1.symm.trans e)];exact⟨h1,ry⟩
  ·rw [if_neg e,if_neg (fun z=>e (h1.trans z))];exact⟨h1,h2⟩
theorem KV.put {kvs:List (κ×V)}{vs:List (κ×Value)} (r:KV kvs vs) (k:κ) {y:V} {u:Value} (ry:jE y u):KV (Je kvs k y) (stored vs k u):=by
 unfold Je stored
 rw [r.any k]
 by_cases e:(vs.any fun kv=>decide (kv.1=k))=true
 ·rw [if_pos e,if_pos e];exact r.repl k ry
 ·rw [if_neg e,if_neg e];exact Paired.snoc r ⟨rfl,ry⟩
theorem KV.length {kvs:List (κ×V)}{vs:List (κ×Value)} (r:KV kvs vs):kvs.length=vs.length:=Paired.length r
end
theorem aq {P:tM}{w:World}{k:Key}{u:Value} (r:jE (kV k) u):(jJ P w).is k u=true:=by
 cases k with
 | inl i=>obtain⟨t,e⟩:=(show ∃t,u=Value.int i t from r);subst e;exact nV P w i t
 | inr x=>obtain⟨t,e⟩:=(show ∃t,u=Value.str x t from r);subst e;exact nW P w x t
theorem ki {P:tM}{w:World}:∀{ks:List Key} {us:tz},jB (ks.map kV) us→ItemsAre (jJ P w) ks us
 | [],_,r=>by rw [List.map_nil] at r;cases r;exact .nil
 | k::ks,_,r=>by
  rw [List.map_cons] at r
  cases r with
  | cons h t=>exact .cons (aq h) (ki t)
abbrev KT (H:Hp):List (List Key×V)→List (List Key×Addr×Value)→Prop:=Paired fun p q=>p.1=q.1∧H q.2.1=some (.tup (p.1.map kV))∧jE p.2 q.2.2
theorem KT.val {H:Hp}{kvs:List (List Key×V)}{xs:List (List Key×Addr×Value)} (r:KT H kvs xs) (k:List Key):UU (uo kvs k) ((atKey xs k).map (·.2)):=by
 induction r with
 | nil=>exact True.intro
 | @cons p q ps qs h t ih =>
  obtain⟨h1,_,h2⟩:=h
  by_cases e:p.1=k
  ·have e':q.1=k:=h1.symm.trans e
   have b:atKey (q::qs) k=some q.2:=by simp [atKey,List.find?_cons,e']
   rw [Z8 e,b];exact h2
  ·have e':¬q.1=k:=fun z=>e (h1.trans z)
   have b:atKey (q::qs) k=atKey qs k:=by simp [atKey,List.find?_cons,e']
   rw [Z7 e,b];exact ih
theorem KT.repl {H:Hp}{kvs:List (List Key×V)}{xs:List (List Key×Addr×Value)} (r:KT H kvs xs) (k:List Key) {y:V} {u:Value} (ry:jE y u) :
  KT H (kvs.map fun kv=>if kv.1=k then (kv.1,y) else kv) (xs.map (putAt k u)):=by
 induction r with
 | nil=>exact .nil
 | @cons p q ps qs h t ih =>
  rw [List.map_cons,List.map_cons]
  refine .cons ?_ ih
  obtain⟨h1,h2,h3⟩:=h
  unfold putAt
  by_cases e:p.1=k
  ·rw [if_pos e,if_pos (h1.symm.trans e)];exact⟨h1,h2,ry⟩
  ·rw [if_neg e,if_neg (fun z=>e (h1.trans z))];exact⟨h1,h2,h3⟩
theorem KT.put {H:Hp}{kvs:List (List Key×V)}{xs:List (List Key×Addr×Value)} (r:KT H kvs xs) (k:List Key) {b:Addr} {y:V} {u:Value} (hb:H b=some (.tup (k.map kV))) (ry:jE y u) :
  KT H (Je kvs k y) (storedH xs k b u):=by
 have e:(kvs.any fun kv=>decide (kv.1=k))=(atKey xs k).isSome:=by
  rw [UJ,(r.val k).isSome_eq,Option.isSome_map]
 unfold Je storedH
 rw [e]
 by_cases q:(atKey xs k).isSome=true
 ·rw [if_pos q,if_pos q];exact r.repl k ry
 ·rw [if_neg q,if_neg q];exact Paired.snoc r ⟨rfl,hb,ry⟩
theorem KT.keeps {H H':Hp}{kvs:List (List Key×V)}{xs:List (List Key×Addr×Value)} (r:KT H kvs xs) (ht:∀b ys,H b=some (.tup ys)→H' b=some (.tup ys)):KT H' kvs xs :=
 Paired.mapP r fun _ _ z=>⟨z.1,ht _ _ z.2.1,z.2.2⟩
section
variable {P:tM}{w:World}{H:Hp}{h:Heap}{a:Addr}
theorem fV {u:HO} (ok:Jm P w H h) (e:Rd H a u):j3 P w H h a u:=e.ok ok
theorem fo {kvs:List (Key×V)} (ok:Jm P w H h) (e:Rd H a (.dK kvs)):kvs.length≤sizeLine∧(a==sysModules)=false∧∃vs,KV kvs vs∧h.DictOf (jJ P w) a vs :=
 show j3 P w H h a (.dK kvs) from fV ok e
theorem qH {kvs:List (Key×V)} (ok:Jm P w H h) (e:H a=some (.dK kvs)):kvs.length≤sizeLine∧(a==sysModules)=false∧∃vs,KV kvs vs∧h.DictOf (jJ P w) a vs:=fo ok (.inl e)
theorem yr {ks:List Key} (ok:Jm P w H h) (e:H a=some (.tup (ks.map kV))):(tupleKind (jJ P w)).is h ks a:=by
 obtain⟨_,its,r,o,h1,h2,n,h3⟩:=(show j3 P w H h a (.tup (ks.map kV)) from ok a _ e)
 exact⟨o,its.toArray,n,h1,h2,h3,by simpa using ki r⟩
theorem fq {kvs:List (List Key×V)} (ok:Jm P w H h) (e:Rd H a (.dT kvs)):kvs.length≤sizeLine∧(a==sysModules)=false ∧
  ∃xs,KT H kvs xs∧h.DictOfH (tupleKind (jJ P w)) a xs:=by
 obtain⟨z,y,xs,r,o,es,ep,h1,h2,h3,h4,h5⟩:=(show j3 P w H h a (.dT kvs) from fV ok e)
 refine⟨z,y,xs,r,o,es,ep,h1,h2,h3,h4,fun x hx=>?_,h5⟩
 have all:∀{l:List (List Key×V)} {m:List (List Key×Addr×Value)},KT H l m→∀x∈m,(tupleKind (jJ P w)).is h x.1 x.2.1:=by
  intro l m q
  induction q with
  | nil=>intro x hx;exact nomatch hx
  | @cons p q ps qs hq t ih =>
   intro x hx
   rcases List.mem_cons.mp hx with e|hx
   ·subst e
    exact yr ok (by rw [←hq.1];exact hq.2.1)
   ·exact ih x hx
 exact all r x hx
theorem Vh {kvs:List (List Key×V)} (ok:Jm P w H h) (e:H a=some (.dT kvs)):kvs.length≤sizeLine∧(a==sysModules)=false ∧
  ∃xs,KT H kvs xs∧h.DictOfH (tupleKind (jJ P w)) a xs:=fq ok (.inl e)
end
def Vr (H:Hp) (a:Addr) (y:V) (r:Option V):Prop :=
 (∃kvs k,Rd H a (.dK kvs)∧y=kV k∧r=uo kvs k)∨∃kvs k b,Rd H a (.dT kvs)∧y=.ref b∧H b=some (.tup (k.map kV))∧r=uo kvs k
def YN (H:Hp) (a:Addr) (y v:V) (H':Hp):Prop :=
 (∃kvs k,H a=some (.dK kvs)∧y=kV k∧kvs.length<sizeLine∧H'=upd H a (.dK (Je kvs k v))) ∨
 ∃kvs k b,H a=some (.dT kvs)∧y=.ref b∧H b=some (.tup (k.map kV))∧kvs.length<sizeLine∧H'=upd H a (.dT (Je kvs k v))
theorem Vr.t {H:Hp}{a b:Addr}{kvs:List (List Key×V)}{k:List Key} (e:H a=some (.dT kvs)) (eb:H b=some (.tup (k.map kV))):Vr H a (.ref b) (uo kvs k):=.inr ⟨kvs,k,b,.inl e,rfl,eb,rfl⟩
theorem YN.t {H:Hp}{a b:Addr}{kvs:List (List Key×V)}{k:List Key}{v:V} (e:H a=some (.dT kvs)) (eb:H b=some (.tup (k.map kV))) (hl:kvs.length<sizeLine) :
  YN H a (.ref b) v (upd H a (.dT (Je kvs k v))):=.inr ⟨kvs,k,b,e,rfl,eb,hl,rfl⟩
section
variable {X:Cx}{pins:tq}{σ:St}{H:Hp}{s:Shared}{a:Addr}{y v:V}{u r:Value}{o:Option V}{A:Around}{E:sV}
theorem jo.big (I:jo X pins σ H s):sysModules<s.heap.objs.size:=by
 have h:mainGlobals<s.heap.objs.size:=(I.mod.glob.keeps I.bk).lt
 exact Nat.lt_trans (by decide) h
theorem rQ {Q:sV} (hu:A.units+1<cLine) (I:jo X pins σ H s) (g:Vr H a y o) (ry:jE y u) (h:∀s',jo X pins σ H s'→Q (.bool o.isSome) s') :
  wpAny (model X.prog X.w) A (compareOp .In u (.ref a)) Q E s:=by
 rcases g with ⟨kvs,k,e,ey,l⟩|⟨kvs,k,b,e,ey,eb,l⟩
 ·subst ey
  obtain⟨z,hd,vs,rel,dd⟩:=fo I.hok e
  refine wpAny_in_of (aq ry) hd dd.mapOf ?_
  rw [←(rel.val k).isSome_eq,←l]
  exact h _ (I.tok _)
 ·subst ey
  cases (show u=Value.ref b from ry)
  obtain⟨z,hd,xs,rel,dd⟩:=fq I.hok e
  refine wpAny_in_heap (tupleKind_room_in1 hu) (yr I.hok eb) hd dd ?_
  have q:=(rel.val k).isSome_eq
  rw [Option.isSome_map] at q
  rw [←q,←l]
  exact h _ (I.tok _)
theorem Gx {h':Heap}{t':Nat}{ob:HO} (I:jo X pins σ H s) (mu:aX (H a)) (hs:Heap.SameBut a s.heap h') (he:∃q,h'.get? a=some q) (new:j3 X.prog X.w (upd H a ob) h' a ob) :
  jo X pins σ (upd H a ob) { s with heap:=h',toks:=t' } :=
 I.write (x:=a) (e:=a) mu (.inl rfl) (fun b q hb z=>(hs.2 b hb).trans z) he new
theorem oA {P:tM}{w:World}{H':Hp}{h':Heap}{kvs:List (Key×V)}{vs:List (Key×Value)} (z:kvs.length≤sizeLine) (hd:(a==sysModules)=false) (rel:KV kvs vs) (dd:h'.DictOf (jJ P w) a vs) :
  j3 P w H' h' a (.dK kvs):=⟨z,hd,vs,rel,dd⟩
theorem bo {H':Hp}{Q:sW} (hu:A.units+1<cLine) (I:jo X pins σ H s) (g:YN H a y v H') (ry:jE y u) (rv:jE v r) (h:∀s',jo X pins σ H' s'→Q () s') :
  wpAny (model X.prog X.w) A (setItem (.ref a) u r) Q E s:=by
 rcases g with ⟨kvs,k,e,ey,l,eH⟩|⟨kvs,k,b,e,ey,eb,l,eH⟩
 ·subst ey eH
  obtain⟨z,hd,vs,rel,dd⟩:=qH I.hok e
  have hz:vs.length≤sizeLine:=by rw [←rel.length];exact z
  have hl:(Je kvs k v).length≤sizeLine:=by have:=vp kvs k v;omega
  refine wpAny_setItem_pairs (hsz:=hz) (aq ry) dd fun h' dd' hs=>h _ ?_
  have he:∃q,h'.get? a=some q:=let ⟨q,_,_,hq,_⟩:=dd';⟨q,hq⟩
  exact Gx I (by rw [e];exact True.intro) hs he (oA hl hd (rel.put k rv) dd')
 ·subst ey eH
  cases (show u=Value.ref b from ry)
  obtain⟨z,hd,xs,rel,dd⟩:=Vh I.hok e
  have hz:xs.length≤sizeLine:=by rw [←Paired.length rel];exact z
  have hl:(Je kvs k v).length≤sizeLine:=by have:=vp kvs k v;omega
  refine wpAny_setItem_heap (hsz:=hz) (tupleKind_room_in1 hu) (yr I.hok eb) dd fun h' dd' hs=>h _ ?_
  obtain⟨q,es,ep,hq,h2,h3,h4,_,h5⟩:=dd'
  refine Gx I (by rw [e];exact True.intro) hs ⟨q,hq⟩ ⟨hl,hd,_,(rel.put k eb rv).keeps fun c ys ec=>?_,q,es,ep,hq,h2,h3,h4,h5⟩
  rw [ji (jX ec e (fun z=>nomatch z))]
  exact ec
end
section
variable {X:Cx}{pins:tq}{σ:St}{H:Hp}{s:Shared}{a:Addr}{kvs:List (Key×V)}{k:Key}{u:Value}{A:Around}{E:sV}
end
def sk (ty td:TE):TE:=fun σ H Q=>ty σ H fun y H1=>td σ H1 fun x H2=>∃a o,x=.ref a∧Vr H2 a y o∧Q (.bl o.isSome) H2
def rh (td ty tv:TE):TS:=fun D σ H=>tv σ H fun v H1=>td σ H1 fun x H2=>ty σ H2 fun y H3=>∃a H4,x=.ref a∧YN H3 a y v H4∧D.nx σ H4
section
variable {X:Cx}{o i e value:Expr}{pos pos' tpos:Pos}{td ty tv:TE}
theorem VG (hu:X.A.units+1<cLine) (hi:PE X i ty) (ho:PE X o td):PC X .In i o (sk ty td):=by
 intro pins s σ H Q I h
 refine jC (hi pins s σ H _ I h) fun iv s1 ⟨y,H1,I1,ry,q1⟩=>jC (ho pins s1 σ H1 _ I1 q1) fun u s2 hh=>?_
 obtain⟨x,H2,I2,rx,a,ov,ex,g,q2⟩:=hh
 subst ex
 obtain rfl:u=Value.ref a:=rx
 exact rQ hu I2 g ry fun s3 I3=>⟨.bl ov.isSome,H2,I3,rfl,q2⟩
theorem zX (hu:X.A.units+1<cLine) (ho:PE X o td) (hi:PE X i ty) (hv:PE X value tv) (hs:swapsWith value (some (.Subscript o i pos')) pos.line X.env=pure false) :
  PS X (.Assign [.Subscript o i pos'] value pos) (rh td ty tv):=by
 intro pins s σ H D I h
 refine wpAny_Assign_Subscript (jC (hv pins s σ H _ I h) fun r s1 ⟨v,H1,I1,rv,q1⟩=>jC (ho pins s1 σ H1 _ I1 q1) fun u s2 ⟨x,H2,I2,rx,q2⟩=>jC (hi pins s2 σ H2 _ I2 q2) fun iv s3 hh=>?_) hs
 obtain⟨y,H3,I3,ry,a,H4,ex,g,q3⟩:=hh
 subst ex
 obtain rfl:u=Value.ref a:=rx
 exact bo hu I3 g ry rv fun s4 I4=>⟨σ,H4,I4,q3⟩
end
theorem mi {P:tM}{w:World}{H:Hp} (h:Heap) (hb:sysModules<h.objs.size):j3 P w H (h.push { cls:=.type "dict",data:=.dict #[] }) h.objs.size (.dT []) :=
 ⟨Nat.zero_le _,beq_eq_false_iff_ne.mpr (Ne.symm (Nat.ne_of_lt hb)),[],.nil,_,#[],0,Heap.get?_push_size _ rfl,⟨rfl,rfl,rfl⟩,rfl,rfl,List.nodup_nil⟩
def qv:TE:=fun _ H Q=>∀p,H p=none→Q (.ref p) (upd H p (.dT []))
section
variable {X:Cx}{pos:Pos}
theorem y9:PE X (.Dict [] [] pos) qv:=fun pins s σ H Q I h =>
 wpAny_Dict_empty ⟨.ref s.heap.objs.size,_,I.laid (a:=s.heap.objs.size) (o:=.dT []) (t':=s.toks) (fun _ _ q=>Heap.get?_push_of_some _ q) (Nat.le_refl _) (mi s.heap I.big),rfl,h _ (I.hok.fresh (Nat.le_refl _))⟩
end
section
variable {X:Cx}{pins:tq}{σ:St}{H:Hp}{s:Shared}{a:Addr}{y d:V}{u r:Value}{o:Option V}{A:Around}{E:sV}
end
section
variable {X:Cx}{o e f:Expr}{apos cpos:Pos}{td ty tx:TE}
end
section
variable {X:Cx}{pins:tq}{σ:St}{H:Hp}{s:Shared}{a:Addr}{kvs:List (Key×V)}{A:Around}{E:sV}
end
section
variable {X:Cx}{pins:tq}{σ:St}{H:Hp}{s:Shared}{a:Addr}{y:V}{u:Value}{A:Around}{E:sV}
end
section
variable {κ:Type} [DecidableEq κ]
end
end L2
namespace L2
open PySem PySem.Spec PyProof.Rows
section
variable {X:Cx}{elts:tJ}{kk:Nat}{tpos:Pos}
end
end L2
namespace L2
open PySem PySem.Spec PyProof.Rows
section
variable {X:Cx}{body:List Stmt}{b0:Stmt}{suite:List Stmt}{cn n:Str}{np hpos pos:Pos}{C0:Addr}{i:Nat}{tb:(St→XK)→TS}{th:TS}
end
end L2
namespace L2
open PySem PySem.Spec PyProof.Rows
section
variable {prog:tM}{w:World}{A:Around}{E:sV}{env:Env}
variable {nm q:Str}{C N:Addr}{bs bm:tz}{hdct:Bool}{sn:tH}{sub:tz}{ab:Bool}{col:Option Bool}{dd:tL}{k0 k1 k2 k3 k5:Option Value}{newId:String}
end
section
variable {P:tM}{w:World}{K:sZ}{mg:tj}{base:Heap}{N ps:tH}{qual:Str}{scope:Scope}{f:Addr}{cd:Value}{A:Around}{outer:List Env}{s:Shared}{H:Hp}{E:XK}
end
section
variable {X:Cx}{pins:tq}{σ:St}{H:Hp}{s:Shared}
end
section
variable {X:Cx}{body:List Stmt}{b0:Stmt}{suite:List Stmt}{cn:Str}{np hpos pos:Pos}{C0:Addr}{tb:XK→TS}{th:TS}
end
end L2
namespace L2
open PySem PySem.Spec PyProof.Rows
structure yN (K:sZ) (x qual:Str) (st:Stmt) (f:Addr) (fd:FuncData):Prop where
 ex:∃(oc:Value) (od:tL) (dV kV doc pm:Value) (an:tL) (cdv ct:Value) (osl:tG),
  fd=fnOf x qual (Jp st) (Jb st) (jp st) dV kV doc pm an cdv ct∧K.lookup f=some ⟨oc,od,.func fd,osl⟩∧codeIn K cdv qual=true
 kp:keepIn K (.ref f)=true
section
variable {P:tM}{w:World}{K:sZ}{mg:tj}{base:Heap}
theorem yN.okX {x qual:Str}{st:Stmt}{f:Addr}{fd:FuncData}{N ps:tH}{k:Nat}{sp:Sp}{c:Bool} (F:yN K x qual st f fd) (S:jt N ps (jp st)) (len:∀vs H Q E,sp vs H Q E→vs.length=ps.length)
  (hbody:∀(cdv:Value) (A:Around) (outer:List Env) (s:Shared) (H:Hp) (vs:List V) (Q:VK) (E:XK),Ji c k (A.deeper (envOfC qual (jp st) s.heap.objs.size f cdv))→sp vs H Q E →
   ∃t,YZ (Y5 P w K mg base N qual (jp st) f cdv A outer s H E c) (Jb st) t∧t { nx:=fun _ H'=>Q .non H',rt:=Q } (start N vs) H):uQ P w K mg base (XC P w) (k+1) f fd ps sp c:=by
 obtain⟨oc,od,dV,kV,doc,pm,an,cdv,ct,osl,rfl,lk,hcd⟩:=F.ex
 exact aj lk hcd S len fun A outer s H vs Q E hr hsp=>hbody cdv A outer s H vs Q E hr hsp
theorem om {fd:FuncData}{ps:tH}{D:Addr}{od:Obj}{items:tI}{n:Nat} (hf:fd.defaults=.ref D) (dl:K.lookup D=some od) (hd:od.data=.seq items n)
  (h:∀us:List Value,us.length=ps.length→∃k:Option (Array Value)→Sem (List (Str×Value)),bindArgs fd ⟨us,[]⟩=seqItems? fd.defaults>>=k∧k (some items)=pure (ps.zip us)):ju K fd ps []:=by
 intro s us KX hl
 rw [List.append_nil] at hl ⊢
 obtain⟨k,h1,h2⟩:=h us hl
 exact BindsTo.of_defaults hf (KX D od dl) hd h1 h2
theorem iD {x qual:Str}{st:Stmt}{f:Addr}{oc:Value}{od an:tL}{osl:tG}{dV kV doc pm cdv ct:Value} (l:K.lookup f=some ⟨oc,od,.func (fnOf x qual (Jp st) (Jb st) (jp st) dV kV doc pm an cdv ct),osl⟩)
  (c:codeIn K cdv qual=true) (k:keepIn K (.ref f)=true):yN K x qual st f (fnOf x qual (Jp st) (Jb st) (jp st) dV kV doc pm an cdv ct):=⟨⟨oc,od,dV,kV,doc,pm,an,cdv,ct,osl,rfl,l,c⟩,k⟩
end
section
variable {X:Cx}
theorem dN {a b c d:Str}{e1 e2 e3:Expr}{t1 t2 t3:TE}{p1 p2 p3 p4 p5 p6 p7 p8:Pos}{k1 k2 k3 k4:Nat} (ha:a.length≤1000) (hb:b.length≤1000) (hc:c.length≤1000) (hd:d.length≤1000) (he1:PE X e1 t1) (he2:PE X e2 t2) (he3:PE X e3 t3) :
  PE X (.JoinedStr [.Constant (.str a) k1 p1,.FormattedValue e1 (-1) none p2,.Constant (.str b) k2 p3,.FormattedValue e2 (-1) none p4,.Constant (.str c) k3 p5,.FormattedValue e3 (-1) none p6,.Constant (.str d) k4 p7] p8) (fun σ H Q=>t1 σ H fun x H1=>gg x∧t2 σ H1 fun y H2=>gg y∧t3 σ H2 fun u H3=>gg u∧∀z,Q (.str z) H3):=by
 intro pins s σ H Q I h
 refine JoinedStr_many (joinParts_cons (Calls.Constant_str ?_))
 have hz:(12000:Nat)≤sizeLine:=by decide
 have l0:(Str.empty++a).length≤1000:=by rw [strLen_append];show 0+a.length≤1000;omega
 refine⟨Nat.le_trans l0 (by decide),joinParts_cons (FormattedValue_plain (jC (he1 pins _ σ H _ (I.tok _) h) fun v s1 hh=>?_))⟩
 obtain⟨x,H1,I1,r1,F1,q1⟩:=hh
 refine mt r1 F1 fun y t tk ly=>?_
 have m1:=strLen_append (Str.empty++a) y
 refine⟨by omega,joinParts_cons (Calls.Constant_str ?_)⟩
 have m2:=strLen_append (Str.empty++a++y) b
 refine⟨by omega,joinParts_cons (FormattedValue_plain (jC (he2 pins _ σ H1 _ ((I1.tok _).tok _) q1) fun v s2 hh=>?_))⟩
 obtain⟨x2,H2,I2,r2,F2,q2⟩:=hh
 refine mt r2 F2 fun y2 t2 tk2 ly2=>?_
 have m3:=strLen_append (Str.empty++a++y++b) y2
 refine⟨by omega,joinParts_cons (Calls.Constant_str ?_)⟩
 have m4:=strLen_append (Str.empty++a++y++b++y2) c
 refine⟨by omega,joinParts_cons (FormattedValue_plain (jC (he3 pins _ σ H2 _ ((I2.tok _).tok _) q2) fun v s3 hh=>?_))⟩
 obtain⟨x3,H3,I3,r3,F3,q3⟩:=hh
 refine mt r3 F3 fun y3 t3 tk3 ly3=>?_
 have m5:=strLen_append (Str.empty++a++y++b++y2++c) y3
 refine⟨by omega,joinParts_cons (Calls.Constant_str ?_)⟩
 have m6:=strLen_append (Str.empty++a++y++b++y2++c++y3) d
 exact⟨by omega,joinParts_nil ⟨.str _,H3,((I3.tok _).tok _),⟨_,rfl⟩,q3 _⟩ (by omega)⟩
end
section
variable {X:Cx}
end
end L2
set_option maxHeartbeats 4000000
namespace L2
open PySem Builtin Builtin.Str
section
variable {X:Cx}
end
end L2
namespace TS
open PySem PyProof.Rows L2
def gP:L2.Key→L2.Key→Bool
 | .inl a,.inl b=>decide (a<b)
 | .inr a,.inr b=>decide (a.cps.toList<b.cps.toList)
 | .inl _,.inr _=>true
 | .inr _,.inl _=>false
def lx:List L2.Key→List L2.Key→Bool
 | [],[]=>false
 | [],_::_=>true
 | _::_,[]=>false
 | a::r,b::q=>if a=b then lx r q else gP a b
theorem iN (a:L2.Key):gP a a=false:=by
 cases a with
 | inl n=>exact decide_eq_false (Int.lt_irrefl n)
 | inr x=>exact decide_eq_false (List.lt_irrefl _)
theorem bR {a b c:L2.Key} (h1:gP a b=true) (h2:gP b c=true):gP a c=true:=by
 cases a with
 | inl n=>cases b with
  | inl m=>cases c with
   | inl k=>exact decide_eq_true (Int.lt_trans (of_decide_eq_true h1) (of_decide_eq_true h2))
   | inr k=>rfl
  | inr m=>cases c with
   | inl k=>cases h2
   | inr k=>rfl
 | inr n=>cases b with
  | inl m=>cases h1
  | inr m=>cases c with
   | inl k=>cases h2
   | inr k=>exact decide_eq_true (List.lt_trans (of_decide_eq_true h1) (of_decide_eq_true h2))
theorem aQ {x y:Str} (h:x.cps.toList=y.cps.toList):x=y:=Str.ext' (Array.toList_inj.mp h)
theorem iO {a b:L2.Key} (h1:gP a b=false) (h2:gP b a=false):a=b:=by
 cases a with
 | inl n=>cases b with
  | inl m =>
   have:=of_decide_eq_false h1
   have:=of_decide_eq_false h2
   congr 1;omega
  | inr m=>cases h1
 | inr n=>cases b with
  | inl m=>cases h2
  | inr m=>exact congrArg Sum.inr (aQ (List.le_antisymm (List.not_lt.mp (of_decide_eq_false h2)) (List.not_lt.mp (of_decide_eq_false h1))))
theorem oY {a b:L2.Key} (h:gP a b=true):a≠b:=fun e=>by rw [e,iN] at h;cases h
theorem mW:∀a:List L2.Key,lx a a=false
 | []=>rfl
 | a::r=>by unfold lx;rw [if_pos rfl];exact mW r
theorem gR:∀{a b:List L2.Key},lx a b=false→lx b a=false→a=b
 | [],[],_,_=>rfl
 | [],_::_,h,_=>by cases h
 | _::_,[],_,h=>by cases h
 | a::r,b::q,h1,h2=>by
  unfold lx at h1 h2
  by_cases e:a=b
  ·rw [if_pos e] at h1
   rw [if_pos e.symm] at h2
   rw [e,gR h1 h2]
  ·rw [if_neg e] at h1
   rw [if_neg (fun z=>e z.symm)] at h2
   exact absurd (iO h1 h2) e
theorem ZW:∀{a b c:List L2.Key},lx a b=true→lx b c=true→lx a c=true
 | [],[],_,h,_=>by cases h
 | [],_::_,[],_,h=>by cases h
 | [],_::_,_::_,_,_=>rfl
 | _::_,[],_,h,_=>by cases h
 | _::_,_::_,[],_,h=>by cases h
 | a::r,b::q,c::p,h1,h2=>by
  unfold lx at h1 h2 ⊢
  by_cases e1:a=b
  ·subst e1
   rw [if_pos rfl] at h1
   by_cases e2:a=c
   ·rw [if_pos e2] at h2 ⊢;exact ZW h1 h2
   ·rw [if_neg e2] at h2 ⊢;exact h2
  ·rw [if_neg e1] at h1
   by_cases e2:b=c
   ·subst e2;rw [if_neg e1];exact h1
   ·rw [if_neg e2] at h2
    have h3:=bR h1 h2
    rw [if_neg (oY h3)];exact h3
theorem pi {a b c:List L2.Key} (h:lx a c=true):lx a b=true∨lx b c=true:=by
 cases h1:lx a b
 ·right
  cases h2:lx b a
  ·rw [←gR h1 h2];exact h
  ·exact ZW h2 h
 ·exact .inl rfl
def kind (kc:Value→List L2.Key):KeyKind where
 α:=List L2.Key
 blt:=lx
 irrefl:=mW
 trans:=fun _ _ _=>ZW
 negTrans:=fun _ _ _=>pi
 total:=fun _ _=>gR
 keyOf:=fun v=>some (kc v)
 dflt:=[]
def YV:L2.Key→Value→Prop
 | .inl n,v=>∃t,v=.int n t
 | .inr x,v=>∃t,v=.str x t
inductive UT:List L2.Key→List Value→Prop
 | nil:UT [] []
 | cons {k v ks vs}:YV k v→UT ks vs→UT (k::ks) (v::vs)
def sd (ks:List L2.Key):List Bool:=ks.map Sum.isLeft
theorem dy (f:Bool) (x y:Value):keyLt' (tuples' f) x y=(do
  let p ←Builtin.List.listItems x
  let q ←Builtin.List.listItems y
  for ((u,v),i) in (p.toList.zip q.toList).zipIdx do
   if !(←eqBool u v) then return ←oneLt' (f&&i==0) u v
  return p.size<q.size):=rfl
section
variable {prog:tM}{w:World}{A:Around}{E:sV}{s:Shared}
theorem iU (f:Bool) {a b:Int} {t u:Tok} {Q:sX} (h:Q (decide (a<b)) s):wpAny (model prog w) A (oneLt' f (.int a t) (.int b u)) Q E s:=by
 cases f with
 | true=>exact oneLt_int h
 | false =>
  rw [oneLt'_eq]
  rw [if_neg Bool.false_ne_true]
  exact tO (richCompare_gives (op:=.Lt) (typeIs_int s a t) (typeIs_int s b u) F.slot_int_lt F.entry_int_lt (F.args_int_lt_2 _ _) (gives_int_lt a b t u) (fun z=>nomatch z) (wpAny_truthy_bool h))
theorem iW (f:Bool) {a b:Str} {t u:Tok} {Q:sX} (h:Q (decide (a.cps.toList<b.cps.toList)) s):wpAny (model prog w) A (oneLt' f (.str a t) (.str b u)) Q E s:=by
 cases f with
 | true=>exact oneLt_str h
 | false =>
  rw [oneLt'_eq]
  rw [if_neg Bool.false_ne_true]
  exact tO (richCompare_gives (op:=.Lt) (typeIs_str s a t) (typeIs_str s b u) F.slot_str_lt F.entry_str_lt (F.args_str_lt_2 _ _) (gives_str_lt a b t u) (fun z=>nomatch z) (wpAny_truthy_bool h))
theorem oC {c d:L2.Key}{u v:Value} (hs:c.isLeft=d.isLeft) (hc:YV c u) (hd:YV d v) {Q:sX} (h:Q (decide (c=d)) s):wpAny (model prog w) A (eqBool u v) Q E s:=by
 cases c with
 | inl n=>cases d with
  | inl m =>
   obtain⟨t,rfl⟩:=hc
   obtain⟨t',rfl⟩:=hd
   refine wpAny_eqBool_int ?_
   rw [show (n==m)=decide ((Sum.inl n:L2.Key)=Sum.inl m) by rw [Bool.eq_iff_iff,beq_iff_eq,decide_eq_true_iff];exact⟨fun e=>e▸rfl,fun e=>Sum.inl.inj e⟩]
   exact h
  | inr m=>cases hs
 | inr n=>cases d with
  | inl m=>cases hs
  | inr m =>
   obtain⟨t,rfl⟩:=hc
   obtain⟨t',rfl⟩:=hd
   refine wpAny_eqBool_str ?_
   rw [show decide (n=m)=decide ((Sum.inr n:L2.Key)=Sum.inr m) by rw [Bool.eq_iff_iff,decide_eq_true_iff,decide_eq_true_iff];exact⟨fun e=>e▸rfl,fun e=>Sum.inr.inj e⟩]
   exact h
theorem iV (f:Bool) {c d:L2.Key} {u v:Value} (hs:c.isLeft=d.isLeft) (hc:YV c u) (hd:YV d v) {Q:sX} (h:Q (gP c d) s):wpAny (model prog w) A (oneLt' f u v) Q E s:=by
 cases c with
 | inl n=>cases d with
  | inl m =>
   obtain⟨t,rfl⟩:=hc
   obtain⟨t',rfl⟩:=hd
   exact iU f h
  | inr m=>cases hs
 | inr n=>cases d with
  | inl m=>cases hs
  | inr m =>
   obtain⟨t,rfl⟩:=hc
   obtain⟨t',rfl⟩:=hd
   exact iW f h
theorem mQ (f:Bool):∀{cs ds:List L2.Key} {ps qs:tz} (k:Nat),sd cs=sd ds→UT cs ps→UT ds qs→∀{R:Option Bool×Unit→Shared→Prop},(cs≠ds→R (some (lx cs ds),()) s)→(cs=ds→R (none,()) s) →
  wpAny (model prog w) A (forIn ((ps.zip qs).zipIdx k) ((none,()):Option Bool×Unit) fun x _ =>
   match x with
   | ((u,v),i)=>do
    let r ←eqBool u v
    if (!r)=true then do
      let r ←oneLt' (f&&i==0) u v
      pure (ForInStep.done (some r,()))
     else pure (ForInStep.yield (none,()))) R E s
 | [],[],_,_,k,_,.nil,.nil,R,_,h=>by
  show wpAny _ _ (forIn [] _ _) _ _ _
  rw [List.forIn_nil];exact tP (h rfl)
 | [],_::_,_,_,_,hs,_,_,_,_,_=>by cases hs
 | _::_,[],_,_,_,hs,_,_,_,_,_=>by cases hs
 | c::cs,d::ds,_,_,k,hs,.cons hc hcs,.cons hd hds,R,h1,h2=>by
  obtain⟨e1,e2⟩:=List.cons.inj hs
  rw [List.zip_cons_cons,List.zipIdx_cons,List.forIn_cons]
  refine tO (tO (oC e1 hc hd ?_))
  by_cases e:c=d
  ·rw [decide_eq_true e]
   refine tP (mQ f (k+1) e2 hcs hds (fun n=>?_) fun z=>h2 (by rw [e,z]))
   have:=h1 (fun z=>n (List.cons.inj z).2)
   unfold lx at this
   rw [if_pos e] at this
   exact this
  ·rw [decide_eq_false e]
   refine tO (iV _ e1 hc hd (tP (tP ?_)))
   have:=h1 (fun z=>e (List.cons.inj z).1)
   unfold lx at this
   rw [if_neg e] at this
   exact this
theorem UT.len {cs:List L2.Key}{ps:tz} (h:UT cs ps):ps.length=cs.length:=by
 induction h with
 | nil=>rfl
 | cons _ _ ih=>rw [List.length_cons,List.length_cons,ih]
theorem o7 (f:Bool) {a b:Addr} {o o':Obj} {ps qs:tz} {n m:Nat} {cs ds:List L2.Key} (ha:s.heap.get? a=some o) (hd:o.data=.seq ps.toArray n) (hb:s.heap.get? b=some o') (hd':o'.data=.seq qs.toArray m)
  (hs:sd cs=sd ds) (hc:UT cs ps) (hq:UT ds qs) {Q:sX} (h:Q (lx cs ds) s):wpAny (model prog w) A (keyLt' (tuples' f) (.ref a) (.ref b)) Q E s:=by
 rw [dy]
 refine tO (listItems_at ha hd ?_)
 refine tO (listItems_at hb hd' ?_)
 refine tO (mQ f 0 hs hc hq (fun _=>tP h) fun e=>tP ?_)
 have l1:=hc.len
 have l2:=hq.len
 rw [e] at l1 h
 rw [mW] at h
 rw [show decide (ps.toArray.size<qs.toArray.size)=false by rw [List.size_toArray,List.size_toArray];exact decide_eq_false (by omega)]
 exact h
variable {f:Bool}{z:tw}{o:KeyKind}
def kv (o:KeyKind) (p:Keyed):o.α:=(o.keyOf p.1).getD o.dflt
def Uu (prog:tM) (w:World) (A:Around) (s:Shared) (f:Bool) (o:KeyKind) (z:tw):Prop:=∀(E:sV) (p q:Keyed) (Q:sX),p∈z.toList→q∈z.toList→Q (o.blt (kv o p) (kv o q)) s→wpAny (model prog w) A (keyLt' (tuples' f) p.1 q.1) Q E s
end
end TS
namespace TS
open PySem PyProof.Rows L2
section
variable {prog:tM}{w:World}{A:Around}{E:sV}{s:Shared}
theorem GE {α β:Type}{g:α→Sem β}{r:α→β}{M:Model}:∀{l:List α} {R:List β→Shared→Prop},(∀x∈l,∀R:β→Shared→Prop,R (r x) s→wpAny M A (g x) R E s)→R (l.map r) s→wpAny M A (l.mapM g) R E s
 | [],R,_,h=>by rw [List.mapM_nil];exact tP h
 | a::l,R,f,h=>by
  rw [List.mapM_cons]
  exact tO (f a (List.mem_cons_self ..) _ (tO (GE (fun x hx=>f x (List.mem_cons_of_mem _ hx)) (tP h))))
def TupAt (h:Heap) (v:Value) (ks:List L2.Key):Prop:=∃a ob vs n,v=.ref a∧h.get? a=some ob∧ob.cls=.type "tuple"∧ob.data=.seq vs.toArray n∧UT ks vs
theorem dg (v:Value):firstOfTuple' v=(do
  if (←typeOf v) != .type "tuple" then return none
  return (←Builtin.List.listItems v)[0]?):=rfl
theorem lR {k:L2.Key}{v:Value} (h:YV k v) {R:sV} (q:R (.type (if k.isLeft then "int" else "str")) s):wpAny (model prog w) A (typeOf v) R E s:=by
 cases k with
 | inl n=>obtain⟨t,rfl⟩:=h;exact wpAny_typeOf (typeIs_int s n t) q
 | inr x=>obtain⟨t,rfl⟩:=h;exact wpAny_typeOf (typeIs_str s x t) q
theorem dz {kc:Value→List L2.Key}{vs:tz}{d:List Bool} (h2:2≤vs.length) (ht:∀v∈vs,TupAt s.heap v (kc v)) (hs:∀v∈vs,sd (kc v)=d) (hd:d≠[]) {R:SortKind→Shared→Prop} (q:R (tuples' true) s):wpAny (model prog w) A (keyKind' vs.toArray) R E s:=by
 have fx:∃fv:Value→Value,∀v∈vs,∃k r,kc v=k::r∧k.isLeft=d.headD true∧YV k (fv v)∧∀R:Option Value→Shared→Prop,R (some (fv v)) s→wpAny (model prog w) A (firstOfTuple' v) R E s:=by
  have one:∀v∈vs,∃x:Value,∃k r,kc v=k::r∧k.isLeft=d.headD true∧YV k x∧∀R:Option Value→Shared→Prop,R (some x) s→wpAny (model prog w) A (firstOfTuple' v) R E s:=fun v hv=>by
   obtain⟨a,ob,us,n,rfl,ho,hc,hda,hk⟩:=ht v hv
   have e:=hs _ hv
   cases hkc:kc (.ref a) with
   | nil=>rw [hkc] at e;exact absurd e.symm hd
   | cons k r =>
    rw [hkc] at hk e
    cases hk with
    | @cons _ x _ xs hx hxs =>
     refine⟨x,k,r,rfl,by rw [←e];rfl,hx,fun R hR=>?_⟩
     rw [dg]
     refine tO (wpAny_typeOf (T:="tuple") ⟨ob,ho,hc⟩ ?_)
     rw [if_neg (by decide)]
     exact tO (listItems_at ho hda (tP hR))
  refine⟨fun v=>if hv:v∈vs then (one v hv).choose else .none,fun v hv=>?_⟩
  simp only [dif_pos hv]
  exact (one v hv).choose_spec
 obtain⟨fv,hfv⟩:=fx
 rw [keyKind'_eq,List.mapM_toArray,←bind_pure_comp]
 refine tO (tO (GE (r:=fun v=>some (fv v)) (fun v hv R hR=>by obtain⟨_,_,_,_,_,f⟩:=hfv v hv;exact f R hR) (tP ?_)))
 rw [if_pos (by simp)]
 refine tO (wpAny_rule (tO ?_))
 rw [show (vs.map fun v=>some (fv v)).toArray.filterMap id=(vs.map fv).toArray by simp [List.filterMap_map,Function.comp_def]]
 rw [oneTypeOnly'_eq,List.mapM_toArray,←bind_pure_comp]
 refine tO (tO (GE (r:=fun _=>Value.type (if d.headD true then "int" else "str")) (fun x hx R hR=>?_) (tP ?_)))
 ·obtain⟨v,hv,rfl⟩:=List.mem_map.mp hx
  obtain⟨k,r,_,e,hk,_⟩:=hfv v hv
  rw [←e] at hR
  exact lR hk hR
 ·match vs,h2 with
  | a::b::r,_ =>
   have e0:((List.map fv (a::b::r)).map fun _=>Value.type (if d.headD true then "int" else "str")).toArray[0]?=some (Value.type (if d.headD true then "int" else "str")):=by simp
   rw [e0]
   have ea:(((List.map fv (a::b::r)).map fun _=>Value.type (if d.headD true then "int" else "str")).toArray.all fun x=>x==Value.type (if d.headD true then "int" else "str"))=true:=by
    simp only [List.all_toArray,List.all_map,List.all_eq_true]
    intro _ _
    cases d.headD true<;>rfl
   show wpAny _ _ (pure (if (((List.map fv (a::b::r)).map fun _=>Value.type (if d.headD true then "int" else "str")).toArray.all fun x=>x==Value.type (if d.headD true then "int" else "str"))=true then some (Value.type (if d.headD true then "int" else "str")) else none)) _ _ _
   rw [if_pos ea]
   refine tP (tP ?_)
   have en:((some (Value.type (if d.headD true then "int" else "str"))).any fun x=>x != Value.type "tuple")=true:=by cases d.headD true<;>rfl
   rw [en]
   exact q
theorem TupAt.upd {h:Heap}{v:Value}{ks:List L2.Key} (t:TupAt h v ks) {a:Addr} {g:Array Value→Array Value} {ob:Obj} (ho:h.get? a=some ob) (hc:ob.cls=.type "list"):TupAt (h.update a (Obj.mapSeq g)) v ks:=by
 obtain⟨b,o2,us,n,rfl,e,c,dt,k⟩:=t
 have ne:a≠b:=fun z=>by
  rw [z,e] at ho
  cases ho
  rw [c] at hc
  exact absurd hc (by decide)
 exact⟨b,o2,us,n,rfl,(Heap.get?_update_other _ _ ne).trans e,c,dt,k⟩
theorem TupAt.push {h:Heap}{v:Value}{ks:List L2.Key} (t:TupAt h v ks) (ob:Obj):TupAt (h.push ob) v ks:=by
 obtain⟨b,o2,us,n,rfl,e,c,dt,k⟩:=t
 exact⟨b,o2,us,n,rfl,Heap.get?_push_of_some _ e,c,dt,k⟩
theorem kj {vs:tz}{p:Keyed} (h:p∈(pairsOf vs).toList):p.1=p.2∧p.1∈vs:=mem_zip_self (pairsOf_toList vs▸h)
theorem pM {kc:Value→List L2.Key}{vs:tz}{d:List Bool} (ht:∀v∈vs,TupAt s.heap v (kc v)) (hs:∀v∈vs,sd (kc v)=d) (f:Bool):Uu prog w A s f (kind kc) (pairsOf vs):=fun E p q Q hp hq h=>by
 have m1:=(kj hp).2
 have m2:=(kj hq).2
 have h1:Q (lx (kc p.1) (kc q.1)) s:=h
 obtain⟨a,o1,us,n,e1,ho,_,hd,hk⟩:=ht _ m1
 obtain⟨b,o2,ws,m,e2,ho2,_,hd2,hk2⟩:=ht _ m2
 rw [e1,e2] at h1
 rw [e1] at hk
 rw [e2] at hk2
 have s1:=(hs _ m1).trans (hs _ m2).symm
 rw [e1,e2] at s1
 rw [e1,e2]
 exact o7 f ho hd ho2 hd2 s1 hk hk2 h1
end
end TS
namespace TS
open PySem PyProof.Rows L2
def VZ:Bool→Keyed→Array Keyed→Nat→Nat→Nat→StateT SortSt Sem (Option Nat):=sortPriv% PySem.Builtin.gallop
def K3 (lf:Bool) (ky:Keyed) (xs:tw) (bs i:Nat):StateT SortSt Sem (Option Bool):=do
 let x ←elem' xs (bs+i)
 if lf then lt' x ky else return (←lt' ky x).map (!·)
theorem oQ (lf:Bool) (ky:Keyed) (xs:tw) (bs n hi0:Nat):VZ lf ky xs bs n hi0=(do
  let mut la:=0
  let mut of:=1
  let mut l:=0
  let mut h:=0
  let some r ←K3 lf ky xs bs hi0|return none
  if r then
   let mx:=n - hi0
   for _ in [0:n] do
    if of≥mx then break
    let some m ←K3 lf ky xs bs (hi0+of)|return none
    if !m then break
    la:=of
    of:=2*of+1
   l:=hi0+la+1
   h:=hi0+min of mx
  else
   let mx:=hi0+1
   for _ in [0:n] do
    if of≥mx then break
    let some m ←K3 lf ky xs bs (hi0 - of)|return none
    if m then break
    la:=of
    of:=2*of+1
   l:=hi0+1 - min of mx
   h:=hi0 - la
  for _ in [0:n] do
   if l≥h then break
   let m:=l+(h - l) / 2
   let some v ←K3 lf ky xs bs m|return none
   if v then l:=m+1 else h:=m
  return some h):=rfl
section
variable {prog:tM}{w:World}{A:Around}{E:sV}{s:Shared}{f:Bool}{z:tw}{o:KeyKind}
def oP (lf:Bool) (ky:Keyed) (xs:tw) (bs n l0 h0:Nat):StateT SortSt Sem (Option Nat):=do
 let mut l:=l0
 let mut h:=h0
 for _ in [0:n] do
  if l≥h then break
  let m:=l+(h - l) / 2
  let some v ←K3 lf ky xs bs m|return none
  if v then l:=m+1 else h:=m
 return some h
theorem kh {st:SortSt}{lf:Bool}{ky:Keyed}{xs:tw}{bs n l0 h0:Nat}{B:Nat→Bool}{Q:Option Nat→SortSt→Prop} (hb:∀i,i<n→∀R:Option Bool→SortSt→Prop,R (some (B i)) st→wpS (model prog w) A E s (K3 lf ky xs bs i) R st)
  (anti:∀i j,i≤j→j<n→B j=true→B i=true) (anti2:∀i j,i≤j→j<n→B i=false→B j=false) (lh:l0≤h0) (hn:h0≤n) (bl:∀i,i<l0→B i=true) (bh:∀i,h0≤i→i<n→B i=false)
  (q:∀k,k≤n→(∀i,i<k→B i=true)→(∀i,k≤i→i<n→B i=false)→Q (some k) st):wpS (model prog w) A E s (oP lf ky xs bs n l0 h0) Q st:=by
 refine wpS_bind (wpS_mono (wpS_forRange (I:=fun i c y=>y=st∧∃l h,c=(none,l,h)∧l≤h∧h≤n∧h - l≤n - i∧(∀g,g<l→B g=true)∧∀g,h≤g→g<n→B g=false) (Q:=fun c y=>y=st∧∃h,c=(none,h,h)∧h≤n∧(∀g,g<h→B g=true)∧∀g,h≤g→g<n→B g=false) (fun i c y i1 i2 hy=>?_) (fun c y hy=>?_) ⟨rfl,l0,h0,rfl,lh,hn,by omega,bl,bh⟩) fun c y hy=>?_)
 ·obtain⟨rfl,l,h,rfl,h1,h2,h3,h4,h5⟩:=hy
  show wpS _ _ _ _ (if l≥h then _ else _) _ _
  rcases Nat.lt_or_ge l h with hlh|hlh
  ·rw [if_neg (by omega)]
   have hm:l+(h - l) / 2<n:=by omega
   refine wpS_bind (hb _ hm _ ?_)
   show wpS _ _ _ _ (if B (l+(h - l) / 2)=true then _ else _) _ _
   cases hv:B (l+(h - l) / 2) with
   | true=>rw [if_pos rfl];exact wpS_pure ⟨rfl,l+(h - l) / 2+1,h,rfl,by omega,h2,by omega,fun g hg=>anti g (l+(h - l) / 2) (by omega) hm hv,h5⟩
   | false=>rw [if_neg Bool.false_ne_true];exact wpS_pure ⟨rfl,l,l+(h - l) / 2,rfl,by omega,by omega,by omega,h4,fun g g1 g2=>anti2 _ g g1 g2 hv⟩
  ·rw [if_pos hlh]
   obtain rfl:l=h:=by omega
   exact wpS_pure ⟨rfl,l,rfl,h2,h4,h5⟩
 ·obtain⟨rfl,l,h,rfl,h1,h2,h3,h4,h5⟩:=hy
  obtain rfl:l=h:=by omega
  exact⟨rfl,l,rfl,h2,h4,h5⟩
 ·obtain⟨rfl,h,rfl,h2,h4,h5⟩:=hy
  exact wpS_pure (q h h2 h4 h5)
theorem bD {st:SortSt}{lf:Bool}{ky:Keyed}{xs:tw}{bs n hi0:Nat}{B:Nat→Bool}{Q:Option Nat→SortSt→Prop} (hb:∀i,i<n→∀R:Option Bool→SortSt→Prop,R (some (B i)) st→wpS (model prog w) A E s (K3 lf ky xs bs i) R st)
  (anti:∀i j,i≤j→j<n→B j=true→B i=true) (hh:hi0<n) (q:∀k,k≤n→(∀i,i<k→B i=true)→(∀i,k≤i→i<n→B i=false)→Q (some k) st):wpS (model prog w) A E s (VZ lf ky xs bs n hi0) Q st:=by
 have anti2:∀i j,i≤j→j<n→B i=false→B j=false:=fun i j hij hj hi=>by
  cases hj2:B j with
  | false=>rfl
  | true=>rw [anti i j hij hj hj2] at hi;cases hi
 rw [oQ]
 refine wpS_bind (hb hi0 hh _ ?_)
 cases hr:B hi0 with
 | true =>
  refine wpS_bind (wpS_mono (wpS_forRange (I:=fun i c y=>y=st∧∃la k,c=(none,la,k)∧la<k∧i+1≤k∧(hi0+la<n→B (hi0+la)=true)∧hi0+la<n) (Q:=fun c y=>y=st∧∃la k,c=(none,la,k)∧la<k∧hi0+la<n∧B (hi0+la)=true∧(n - hi0≤k∨(hi0+k<n∧B (hi0+k)=false))) (fun i c y i1 i2 hy=>?_) (fun c y hy=>?_) ⟨rfl,0,1,rfl,by omega,by omega,fun _=>hr,by omega⟩) fun c y hy=>?_)
  ·obtain⟨rfl,la,k,rfl,h1,h2,h3,h4⟩:=hy
   show wpS _ _ _ _ (if k≥n - hi0 then _ else _) _ _
   rcases Nat.lt_or_ge k (n - hi0) with hk|hk
   ·rw [if_neg (by omega)]
    refine wpS_bind (hb (hi0+k) (by omega) _ ?_)
    show wpS _ _ _ _ (if (!B (hi0+k))=true then _ else _) _ _
    cases hv:B (hi0+k) with
    | true=>exact wpS_pure ⟨rfl,k,2*k+1,rfl,by omega,by omega,fun _=>hv,by omega⟩
    | false=>exact wpS_pure ⟨rfl,la,k,rfl,h1,h4,h3 h4,.inr ⟨by omega,hv⟩⟩
   ·rw [if_pos hk]
    exact wpS_pure ⟨rfl,la,k,rfl,h1,h4,h3 h4,.inl hk⟩
  ·obtain⟨rfl,la,k,rfl,h1,h2,h3,h4⟩:=hy
   exact⟨rfl,la,k,rfl,h1,h4,h3 h4,.inl (by omega)⟩
  ·obtain⟨rfl,la,k,rfl,h1,h4,h3,h5⟩:=hy
   refine kh (l0:=hi0+la+1) (h0:=hi0+min k (n - hi0)) hb anti anti2 ?_ ?_ (fun i hi=>anti i _ (by omega) h4 h3) (fun i h6 h7=>?_) q
   ·rcases h5 with h5|h5
    ·rw [Nat.min_eq_right h5];omega
    ·rw [Nat.min_eq_left (by omega)];omega
   ·omega
   ·rcases h5 with h5|h5
    ·rw [Nat.min_eq_right h5] at h6;omega
    ·rw [Nat.min_eq_left (by omega)] at h6;exact anti2 _ i h6 h7 h5.2
 | false =>
  refine wpS_bind (wpS_mono (wpS_forRange (I:=fun i c y=>y=st∧∃la k,c=(none,la,k)∧la<k∧i+1≤k∧la≤hi0∧B (hi0 - la)=false) (Q:=fun c y=>y=st∧∃la k,c=(none,la,k)∧la<k∧la≤hi0∧B (hi0 - la)=false∧(hi0+1≤k∨(k≤hi0∧B (hi0 - k)=true))) (fun i c y i1 i2 hy=>?_) (fun c y hy=>?_) ⟨rfl,0,1,rfl,by omega,by omega,by omega,hr⟩) fun c y hy=>?_)
  ·obtain⟨rfl,la,k,rfl,h1,h2,h3,h4⟩:=hy
   show wpS _ _ _ _ (if k≥hi0+1 then _ else _) _ _
   rcases Nat.lt_or_ge k (hi0+1) with hk|hk
   ·rw [if_neg (by omega)]
    refine wpS_bind (hb (hi0 - k) (by omega) _ ?_)
    show wpS _ _ _ _ (if B (hi0 - k)=true then _ else _) _ _
    cases hv:B (hi0 - k) with
    | true=>rw [if_pos rfl];exact wpS_pure ⟨rfl,la,k,rfl,h1,h3,h4,.inr ⟨by omega,hv⟩⟩
    | false=>rw [if_neg Bool.false_ne_true];exact wpS_pure ⟨rfl,k,2*k+1,rfl,by omega,by omega,by omega,hv⟩
   ·rw [if_pos hk]
    exact wpS_pure ⟨rfl,la,k,rfl,h1,h3,h4,.inl hk⟩
  ·obtain⟨rfl,la,k,rfl,h1,h2,h3,h4⟩:=hy
   exact⟨rfl,la,k,rfl,h1,h3,h4,.inl (by omega)⟩
  ·obtain⟨rfl,la,k,rfl,h1,h3,h4,h5⟩:=hy
   refine kh (l0:=hi0+1 - min k (hi0+1)) (h0:=hi0 - la) hb anti anti2 ?_ (by omega) (fun i hi=>?_) (fun i h6 h7=>anti2 _ i h6 h7 h4) q
   ·rcases h5 with h5|h5
    ·rw [Nat.min_eq_right h5];omega
    ·rw [Nat.min_eq_left (by omega)];omega
   ·rcases h5 with h5|h5
    ·rw [Nat.min_eq_right h5] at hi;omega
    ·rw [Nat.min_eq_left (by omega)] at hi;exact anti i (hi0 - k) (by omega) (by omega) h5.2
end
end TS
namespace TS
open PySem PyProof.Rows L2
def fE:Array Keyed→Array Keyed→StateT SortSt Sem (Array Keyed):=sortPriv% PySem.Builtin.mergeLo
def fD:Array Keyed→Array Keyed→StateT SortSt Sem (Array Keyed):=sortPriv% PySem.Builtin.mergeHi
def Z3:Nat→StateT SortSt Sem Unit:=sortPriv% PySem.Builtin.setMinGallop
def vV (a b out:tw) (i j:Nat):Array Keyed:=out++a.extract i a.size++b.extract j b.size
def gs (a b out:tw) (i j:Nat):Array Keyed:=out++b.extract j b.size++a.extract i a.size
theorem pC (a b:tw):fE a b=(do
  liftM (rule "list.sort.merge-lo")
  let tt:=a.size+b.size
  let mut out:Array Keyed:=#[←elem' b 0]
  let mut i:=0
  let mut j:=1
  if j==b.size then return vV a b out i j
  if i+1==a.size then return gs a b out i j
  let mut mg:=gallopOf (←get)
  for _ in [0:tt] do
   let mut ca:=0
   let mut cb:=0
   for _ in [0:tt] do
    let some bw ←lt' (←elem' b j) (←elem' a i)|return vV a b out i j
    if bw then
     out:=out.push (←elem' b j);j:=j+1;cb:=cb+1;ca:=0
     if j==b.size then return vV a b out i j
     if cb≥mg then break
    else
     out:=out.push (←elem' a i);i:=i+1;ca:=ca+1;cb:=0
     if i+1==a.size then return gs a b out i j
     if ca≥mg then break
   liftM (rule "list.sort.gallop")
   mg:=mg+1
   for _ in [0:tt] do
    if mg > 1 then mg:=mg - 1
    Z3 mg
    let some k ←VZ false (←elem' b j) a i (a.size - i) 0|return vV a b out i j
    ca:=k
    if k > 0 then
     out:=out++a.extract i (i+k);i:=i+k
     if i+1==a.size then return gs a b out i j
     if i==a.size then return vV a b out i j
    out:=out.push (←elem' b j);j:=j+1
    if j==b.size then return vV a b out i j
    let some k ←VZ true (←elem' a i) b j (b.size - j) 0|return vV a b out i j
    cb:=k
    if k > 0 then
     out:=out++b.extract j (j+k);j:=j+k
     if j==b.size then return vV a b out i j
    out:=out.push (←elem' a i);i:=i+1
    if i+1==a.size then return gs a b out i j
    if ca<7&&cb<7 then break
   mg:=mg+1
   Z3 mg
  unsupported "internal:list.sort.merge-bound"):=rfl
section
variable {prog:tM}{w:World}{A:Around}{E:sV}{s:Shared}{f:Bool}{z:tw}{o:KeyKind}
structure Sm (x y:SortSt):Prop where
 ar:arrOf y=arrOf x
 kd:kindOf y=kindOf x
 fl:failedOf y=failedOf x
 pd:pendingOf y=pendingOf x
theorem Sm.refl (x:SortSt):Sm x x:=⟨rfl,rfl,rfl,rfl⟩
def JI (o:KeyKind) (p q:Keyed):Prop:=o.kle (kv o p) (kv o q)
def Up (o:KeyKind) (l:List Keyed):Prop:=l.Pairwise (JI o)
theorem JY {p q r:Keyed} (h1:JI o p q) (h2:JI o q r):JI o p r:=KeyOrd.kle_trans h1 h2
theorem gQ {st:SortSt}{p q:Keyed}{Q:Option Bool→SortSt→Prop} (O:Uu prog w A s f o z) (kd:kindOf st=tuples' f) (hp:p∈z.toList) (hq:q∈z.toList) (h:Q (some (o.blt (kv o p) (kv o q))) st):wpS (model prog w) A E s (lt' p q) Q st:=by
 rw [lt'_eq]
 refine wpS_bind (wpS_get ?_)
 rw [kd]
 exact wpS_bind (wpS_lift (wpAny_attempt (O _ p q _ hp hq ⟨rfl,wpS_pure h⟩)))
theorem JD {st:SortSt}{xs:tw}{i:Nat}{Q:Keyed→SortSt→Prop} (hi:i<xs.size) (h:Q xs[i] st):wpS (model prog w) A E s (elem' xs i) Q st:=by
 rw [elem'_eq,getElem?_pos xs i hi]
 exact wpS_pure h
theorem uB {xs:tw}{i:Nat} (hi:i<xs.size):xs[i]∈xs.toList:=Array.getElem_mem_toList hi
theorem Up.at_ {xs:tw} (u:Up o xs.toList) {i j:Nat} (hij:i≤j) (hj:j<xs.size):JI o (xs[i]'(Nat.lt_of_le_of_lt hij hj)) xs[j]:=by
 rcases Nat.lt_or_ge i j with h|h
 ·have:=(List.pairwise_iff_getElem.mp u) i j (by simpa using Nat.lt_of_le_of_lt hij hj) (by simpa using hj) h
  simpa using this
 ·obtain rfl:i=j:=by omega
  exact KeyOrd.kle_refl _
theorem ZT {st:SortSt}{ky:Keyed}{xs:tw}{bs n h0:Nat}{Q:Option Nat→SortSt→Prop} (O:Uu prog w A s f o z) (kd:kindOf st=tuples' f) (hx:∀p∈xs.toList,p∈z.toList) (hk:ky∈z.toList) (hn:bs+n≤xs.size) (hh:h0<n) (up:∀i j (hij:i≤j) (hj:bs+j<xs.size),j<n→JI o (xs[bs+i]'(by omega)) xs[bs+j])
  (q:∀k,k≤n→(∀i (hi:bs+i<xs.size),i<k→o.klt (kv o xs[bs+i]) (kv o ky))→(∀i (hi:bs+i<xs.size),k≤i→i<n→JI o ky xs[bs+i])→Q (some k) st):wpS (model prog w) A E s (VZ true ky xs bs n h0) Q st:=by
 refine bD (B:=fun i=>if hi:bs+i<xs.size then o.blt (kv o xs[bs+i]) (kv o ky) else false) (fun i hi R hR=>?_) (fun i j hij hj h=>?_) hh fun k hk1 h1 h2=>q k hk1 (fun i hi hik=>?_) (fun i hi hik hin=>?_)
 ·rw [dif_pos (by omega)] at hR
  refine wpS_bind (JD (by omega) ?_)
  rw [if_pos rfl]
  exact gQ O kd (hx _ (uB _)) hk hR
 ·have hj2:bs+j<xs.size:=by omega
  have uW:bs+i<xs.size:=by omega
  simp only [dif_pos hj2,dif_pos uW] at h ⊢
  exact KeyOrd.klt_of_kle_of_klt (up i j hij hj2 hj) h
 ·have:=h1 i hik
  rw [dif_pos hi] at this
  exact this
 ·have:=h2 i hik hin
  rw [dif_pos hi] at this
  exact this
theorem zj {st:SortSt}{ky:Keyed}{xs:tw}{bs n h0:Nat}{Q:Option Nat→SortSt→Prop} (O:Uu prog w A s f o z) (kd:kindOf st=tuples' f) (hx:∀p∈xs.toList,p∈z.toList) (hk:ky∈z.toList) (hn:bs+n≤xs.size) (hh:h0<n) (up:∀i j (hij:i≤j) (hj:bs+j<xs.size),j<n→JI o (xs[bs+i]'(by omega)) xs[bs+j])
  (q:∀k,k≤n→(∀i (hi:bs+i<xs.size),i<k→JI o xs[bs+i] ky)→(∀i (hi:bs+i<xs.size),k≤i→i<n→o.klt (kv o ky) (kv o xs[bs+i]))→Q (some k) st):wpS (model prog w) A E s (VZ false ky xs bs n h0) Q st:=by
 refine bD (B:=fun i=>if hi:bs+i<xs.size then !o.blt (kv o ky) (kv o xs[bs+i]) else false) (fun i hi R hR=>?_) (fun i j hij hj h=>?_) hh fun k hk1 h1 h2=>q k hk1 (fun i hi hik=>?_) (fun i hi hik hin=>?_)
 ·rw [dif_pos (by omega)] at hR
  refine wpS_bind (JD (by omega) ?_)
  rw [if_neg Bool.false_ne_true]
  exact wpS_bind (gQ O kd hk (hx _ (uB _)) (wpS_pure hR))
 ·have hj2:bs+j<xs.size:=by omega
  have uW:bs+i<xs.size:=by omega
  simp only [dif_pos hj2,dif_pos uW,Bool.not_eq_true'] at h ⊢
  exact KeyOrd.kle_trans (up i j hij hj2 hj) h
 ·have:=h1 i hik
  rw [dif_pos hi,Bool.not_eq_true'] at this
  exact this
 ·have:=h2 i hik hin
  rw [dif_pos hi,Bool.not_eq_false'] at this
  exact this
structure ML (o:KeyKind) (a b out:tw) (i j:Nat):Prop where
 pm:(out.toList++(a.toList.drop i++b.toList.drop j)).Perm (a.toList++b.toList)
 up:Up o out.toList
 le:∀p∈out.toList,∀q∈a.toList.drop i++b.toList.drop j,JI o p q
theorem ML.mvA {a b out:tw}{i j k:Nat} (m:ML o a b out i j) (ua:Up o a.toList) (hk:i+k≤a.size) (h:∀p∈(a.toList.drop i).take k,∀q∈b.toList.drop j,JI o p q):ML o a b (out++a.extract i (i+k)) (i+k) j:=by
 have e:(out++a.extract i (i+k)).toList=out.toList++(a.toList.drop i).take k:=by
  rw [Array.toList_append,Array.toList_extract,List.extract_eq_drop_take,Nat.add_sub_cancel_left]
 have e2:a.toList.drop i=(a.toList.drop i).take k++a.toList.drop (i+k):=by rw [←List.drop_drop,List.take_append_drop]
 have ud:Up o (a.toList.drop i):=ua.drop
 refine⟨?_,?_,?_⟩
 ·rw [e,List.append_assoc,←List.append_assoc (List.take _ _),←e2];exact m.pm
 ·rw [e]
  refine List.pairwise_append.mpr ⟨m.up,ud.take,fun p hp q hq=>m.le p hp q (List.mem_append_left _ (List.mem_of_mem_take hq))⟩
 ·rw [e]
  intro p hp q hq
  rcases List.mem_append.mp hp with hp|hp
  ·rcases List.mem_append.mp hq with hq|hq
   ·exact m.le p hp q (List.mem_append_left _ (by rw [e2];exact List.mem_append_right _ hq))
   ·exact m.le p hp q (List.mem_append_right _ hq)
  ·rcases List.mem_append.mp hq with hq|hq
   ·rw [e2] at ud
    exact (List.pairwise_append.mp ud).2.2 p hp q hq
   ·exact h p hp q hq
theorem ML.mvB {a b out:tw}{i j k:Nat} (m:ML o a b out i j) (ub:Up o b.toList) (hk:j+k≤b.size) (h:∀p∈(b.toList.drop j).take k,∀q∈a.toList.drop i,JI o p q):ML o a b (out++b.extract j (j+k)) i (j+k):=by
 have e:(out++b.extract j (j+k)).toList=out.toList++(b.toList.drop j).take k:=by
  rw [Array.toList_append,Array.toList_extract,List.extract_eq_drop_take,Nat.add_sub_cancel_left]
 have e2:b.toList.drop j=(b.toList.drop j).take k++b.toList.drop (j+k):=by rw [←List.drop_drop,List.take_append_drop]
 have ud:Up o (b.toList.drop j):=ub.drop
 refine⟨?_,?_,?_⟩
 ·rw [e]
  refine List.Perm.trans ?_ m.pm
  rw [List.append_assoc]
  refine List.Perm.append_left _ ?_
  conv=>rhs;rw [e2]
  exact (List.perm_append_comm_assoc _ _ _)
 ·rw [e]
  refine List.pairwise_append.mpr ⟨m.up,ud.take,fun p hp q hq=>m.le p hp q (List.mem_append_right _ (List.mem_of_mem_take hq))⟩
 ·rw [e]
  intro p hp q hq
  rcases List.mem_append.mp hp with hp|hp
  ·rcases List.mem_append.mp hq with hq|hq
   ·exact m.le p hp q (List.mem_append_left _ hq)
   ·exact m.le p hp q (List.mem_append_right _ (by rw [e2];exact List.mem_append_right _ hq))
  ·rcases List.mem_append.mp hq with hq|hq
   ·exact h p hp q hq
   ·rw [e2] at ud
    exact (List.pairwise_append.mp ud).2.2 p hp q hq
theorem oE {xs:tw}{i:Nat} (hi:i<xs.size):xs.extract i (i+1)=#[xs[i]]:=by
 apply Array.toList_inj.mp
 rw [Array.toList_extract,List.extract_eq_drop_take,Nat.add_sub_cancel_left,List.drop_eq_getElem_cons (by simpa using hi)]
 simp
theorem Yc {out xs:tw}{i:Nat} (hi:i<xs.size):out.push xs[i]=out++xs.extract i (i+1):=by
 rw [oE hi,Array.push_eq_append]
theorem vg {xs:tw}{i:Nat}{p:Keyed} (h:p∈xs.toList.drop i):∃k,∃hk:i+k<xs.size,p=xs[i+k]:=by
 obtain⟨k,hk,e⟩:=List.mem_iff_getElem.mp h
 rw [List.length_drop,Array.length_toList] at hk
 refine⟨k,by omega,?_⟩
 rw [←e,List.getElem_drop,Array.getElem_toList]
theorem VD {xs:tw}{i n:Nat}{p:Keyed} (h:p∈(xs.toList.drop i).take n):∃k,∃hk:i+k<xs.size,k<n∧p=xs[i+k]:=by
 obtain⟨k,hk,e⟩:=List.mem_iff_getElem.mp h
 rw [List.length_take,List.length_drop,Array.length_toList] at hk
 refine⟨k,by omega,by omega,?_⟩
 rw [←e,List.getElem_take,List.getElem_drop,Array.getElem_toList]
structure Mg (o:KeyKind) (a b m:tw):Prop where
 pm:m.toList.Perm (a.toList++b.toList)
 up:Up o m.toList
theorem ML.endA {a b out:tw}{i j:Nat} (m:ML o a b out i j) (ua:Up o a.toList) (ub:Up o b.toList) (h:j=b.size∨i=a.size):Mg o a b (vV a b out i j):=by
 have e:(vV a b out i j).toList=out.toList++(a.toList.drop i++b.toList.drop j):=by
  unfold vV
  rw [Array.toList_append,Array.toList_append,Array.toList_extract,Array.toList_extract,List.extract_eq_drop_take,List.extract_eq_drop_take,List.append_assoc]
  congr 2<;>exact List.take_of_length_le (by simp)
 have z0:a.toList.drop i=[]∨b.toList.drop j=[]:=by
  rcases h with h|h
  ·exact .inr (List.drop_eq_nil_of_le (by simp [h]))
  ·exact .inl (List.drop_eq_nil_of_le (by simp [h]))
 refine⟨by rw [e];exact m.pm,?_⟩
 rw [e]
 refine List.pairwise_append.mpr ⟨m.up,?_,m.le⟩
 rcases z0 with z0|z0<;>rw [z0]
 ·exact ub.drop
 ·rw [List.append_nil];exact ua.drop
theorem ML.endB {a b out:tw}{i j:Nat} (m:ML o a b out i j) (ub:Up o b.toList) (h:i+1=a.size) (hl:∀p∈b.toList,∀hi:i<a.size,JI o p a[i]):Mg o a b (gs a b out i j):=by
 have hi:i<a.size:=by omega
 have e1:a.toList.drop i=[a[i]]:=by
  rw [List.drop_eq_getElem_cons (by simpa using hi),List.drop_eq_nil_of_le (by simp;omega)];simp
 have e:(gs a b out i j).toList=out.toList++(b.toList.drop j++a.toList.drop i):=by
  unfold gs
  rw [Array.toList_append,Array.toList_append,Array.toList_extract,Array.toList_extract,List.extract_eq_drop_take,List.extract_eq_drop_take,List.append_assoc]
  congr 2<;>exact List.take_of_length_le (by simp)
 refine⟨?_,?_⟩
 ·rw [e]
  exact List.Perm.trans (List.Perm.append_left _ List.perm_append_comm) m.pm
 ·rw [e]
  refine List.pairwise_append.mpr ⟨m.up,List.pairwise_append.mpr ⟨ub.drop,by rw [e1];exact List.pairwise_singleton _ _,fun p hp q hq=>?_⟩,fun p hp q hq=>m.le p hp q ?_⟩
  ·rw [e1,List.mem_singleton] at hq
   rw [hq]
   exact hl p (List.mem_of_mem_drop hp) hi
  ·rcases List.mem_append.mp hq with hq|hq
   ·exact List.mem_append_right _ hq
   ·exact List.mem_append_left _ hq
end
end TS
namespace TS
open PySem PyProof.Rows L2
abbrev LS:=Option (Array Keyed)×Array Keyed×Nat×Nat×Nat×Nat×Nat
def ph (a b:tw) (i mg ca cb:Nat) (out:tw) (j:Nat):StateT SortSt Sem (ForInStep LS):=do
 let x ←elem' a i
 if (i+1+1==a.size)=true then pure (.done (some (gs a b (out.push x) (i+1) j),out.push x,i+1,j,mg,ca,cb))
 else if (decide (ca<7)&&decide (cb<7))=true then pure (.done (none,out.push x,i+1,j,mg,ca,cb))
 else pure (.yield (none,out.push x,i+1,j,mg,ca,cb))
def pf (a b:tw) (j mg ca cb:Nat) (out:tw) (i:Nat):StateT SortSt Sem (ForInStep LS):=do
 let x ←elem' b j
 if (j+1==b.size)=true then pure (.done (some (vV a b (out.push x) i (j+1)),out.push x,i,j+1,mg,ca,cb))
 else
  let y ←elem' a i
  let some k ←VZ true y b (j+1) (b.size - (j+1)) 0|pure (.done (some (vV a b (out.push x) i (j+1)),out.push x,i,j+1,mg,ca,cb))
  if k > 0 then
   if (j+1+k==b.size)=true then pure (.done (some (vV a b (out.push x++b.extract (j+1) (j+1+k)) i (j+1+k)),out.push x++b.extract (j+1) (j+1+k),i,j+1+k,mg,ca,k))
   else ph a b i mg ca k (out.push x++b.extract (j+1) (j+1+k)) (j+1+k)
  else ph a b i mg ca k (out.push x) (j+1)
def pe (a b out:tw) (i j ca cb mg:Nat):StateT SortSt Sem (ForInStep LS):=do
 Z3 mg
 let x ←elem' b j
 let some k ←VZ false x a i (a.size - i) 0|pure (.done (some (vV a b out i j),out,i,j,mg,ca,cb))
 if k > 0 then
  if (i+k+1==a.size)=true then pure (.done (some (gs a b (out++a.extract i (i+k)) (i+k) j),out++a.extract i (i+k),i+k,j,mg,k,cb))
  else if (i+k==a.size)=true then pure (.done (some (vV a b (out++a.extract i (i+k)) (i+k) j),out++a.extract i (i+k),i+k,j,mg,k,cb))
  else pf a b j mg k cb (out++a.extract i (i+k)) (i+k)
 else pf a b j mg k cb out i
section
variable {prog:tM}{w:World}{A:Around}{E:sV}{s:Shared}{f:Bool}{z:tw}{o:KeyKind}
structure LI (o:KeyKind) (a b:tw) (st:SortSt) (t:Nat) (out:tw) (i j:Nat) (y:SortSt):Prop where
 sm:Sm st y
 ml:ML o a b out i j
 hi:i+1<a.size
 hj:j<b.size
 tt:t≤i+j
def lZ (o:KeyKind) (a b:tw) (st:SortSt) (t:Nat) (c:LS) (y:SortSt):Prop:=(∃m,c.1=some m∧Sm st y∧Mg o a b m)∨(c.1=none∧LI o a b st t c.2.1 c.2.2.1 c.2.2.2.1 y)
def N6 (o:KeyKind) (a b:tw) (st:SortSt) (t:Nat):ForInStep LS→SortSt→Prop:=fun r y=>match r with|.done c=>lZ o a b st t c y|.yield c=>c.1=none∧LI o a b st t c.2.1 c.2.2.1 c.2.2.2.1 y
structure Y1 (o:KeyKind) (f:Bool) (z a b:tw) (st:SortSt):Prop where
 kd:kindOf st=tuples' f
 ma:∀p∈a.toList,p∈z.toList
 mb:∀p∈b.toList,p∈z.toList
 ua:Up o a.toList
 ub:Up o b.toList
 hl:∀p∈b.toList,∀hi:a.size - 1<a.size,JI o p a[a.size - 1]
 h0:∀p∈a.toList,∀hi:0<b.size,JI o b[0] p
theorem Sm.trans {x y u:SortSt} (h:Sm x y) (g:Sm y u):Sm x u:=⟨g.ar.trans h.ar,g.kd.trans h.kd,g.fl.trans h.fl,g.pd.trans h.pd⟩
theorem Y1.last {a b:tw}{st:SortSt} (T:Y1 o f z a b st) {i:Nat} (h:i+1=a.size):∀p∈b.toList,∀hi:i<a.size,JI o p a[i]:=fun p hp hi=>by
 have e:a.size - 1=i:=by omega
 have:=T.hl p hp (by omega)
 simp only [e] at this
 exact this
theorem b7 {a b:tw}{st y:SortSt}{t i j mg ca cb:Nat}{out:tw} (T:Y1 o f z a b st) (sm:Sm st y) (ml:ML o a b out i j) (hi:i+1<a.size) (hj:j<b.size) (tt:t≤i+j+1) (h:∀q∈b.toList.drop j,JI o a[i] q) :
  wpS (model prog w) A E s (ph a b i mg ca cb out j) (N6 o a b st t) y:=by
 refine wpS_bind (JD (by omega) ?_)
 have m2:ML o a b (out.push a[i]) (i+1) j:=by
  rw [Yc (by omega)]
  refine ml.mvA T.ua (by omega) fun p hp q hq=>?_
  obtain⟨k,hk,k1,rfl⟩:=VD hp
  obtain rfl:k=0:=by omega
  exact h q hq
 rcases Nat.lt_or_ge (i+1+1) a.size with h1|h1
 ·rw [if_neg (by rw [beq_iff_eq];omega)]
  have li:LI o a b st t (out.push a[i]) (i+1) j y:=⟨sm,m2,h1,hj,by omega⟩
  split
  ·exact wpS_pure (.inr ⟨rfl,li⟩)
  ·exact wpS_pure ⟨rfl,li⟩
 ·rw [if_pos (by rw [beq_iff_eq];omega)]
  exact wpS_pure (.inl ⟨_,rfl,sm,m2.endB T.ub (by omega) (T.last (by omega))⟩)
theorem Np {xs:tw}{j k:Nat}{q:Keyed} (h:q∈xs.toList.drop (j+k)):∃g,∃hg:j+g<xs.size,k≤g∧q=xs[j+g]:=by
 obtain⟨g,hg,rfl⟩:=vg h
 exact⟨k+g,by omega,by omega,by congr 1;omega⟩
theorem bZ {a b:tw}{st y:SortSt}{t i j mg ca cb:Nat}{out:tw} (O:Uu prog w A s f o z) (T:Y1 o f z a b st) (sm:Sm st y) (ml:ML o a b out i j) (hi:i+1<a.size) (hj:j<b.size) (tt:t≤i+j) (h:∀q∈a.toList.drop i,JI o b[j] q) :
  wpS (model prog w) A E s (pf a b j mg ca cb out i) (N6 o a b st t) y:=by
 refine wpS_bind (JD hj ?_)
 have m2:ML o a b (out.push b[j]) i (j+1):=by
  rw [Yc hj]
  refine ml.mvB T.ub (by omega) fun p hp q hq=>?_
  obtain⟨k,hk,k1,rfl⟩:=VD hp
  obtain rfl:k=0:=by omega
  exact h q hq
 rcases Nat.lt_or_ge (j+1) b.size with h1|h1
 ·rw [if_neg (by rw [beq_iff_eq];omega)]
  refine wpS_bind (JD (by omega) (wpS_bind (ZT O (sm.kd.trans T.kd) T.mb (T.ma _ (uB _)) (by omega) (by omega) (fun g k hgk hk _=>T.ub.at_ (by omega) hk) fun k hk less rest=>?_)))
  show wpS _ _ _ _ (if k > 0 then _ else _) _ _
  have rest2:∀q∈b.toList.drop (j+1+k),JI o a[i] q:=fun q hq=>by
   obtain⟨g,hg,hkg,rfl⟩:=Np hq
   exact rest g hg hkg (by omega)
  rcases Nat.lt_or_ge 0 k with h2|h2
  ·rw [if_pos h2]
   have m3:ML o a b (out.push b[j]++b.extract (j+1) (j+1+k)) i (j+1+k):=m2.mvB T.ub (by omega) fun p hp q hq=>by
    obtain⟨g,hg,g1,rfl⟩:=VD hp
    obtain⟨g',hg',rfl⟩:=vg hq
    exact JY (KeyOrd.kle_of_klt (less g hg g1)) (T.ua.at_ (by omega) hg')
   rcases Nat.lt_or_ge (j+1+k) b.size with h3|h3
   ·rw [if_neg (by rw [beq_iff_eq];omega)]
    exact b7 T sm m3 hi h3 (by omega) rest2
   ·rw [if_pos (by rw [beq_iff_eq];omega)]
    exact wpS_pure (.inl ⟨_,rfl,sm,m3.endA T.ua T.ub (.inl (by omega))⟩)
  ·rw [if_neg (by omega)]
   obtain rfl:k=0:=by omega
   exact b7 T sm m2 hi h1 (by omega) rest2
 ·rw [if_pos (by rw [beq_iff_eq];omega)]
  exact wpS_pure (.inl ⟨_,rfl,sm,m2.endA T.ua T.ub (.inl (by omega))⟩)
theorem zY {y:SortSt}{mg:Nat}{Q:Unit→SortSt→Prop} (h:∀y',Sm y y'→Q () y'):wpS (model prog w) A E s (Z3 mg) Q y:=wpS_modify (h _ ⟨rfl,rfl,rfl,rfl⟩)
theorem bY {a b:tw}{st y:SortSt}{t i j mg ca cb:Nat}{out:tw} (O:Uu prog w A s f o z) (T:Y1 o f z a b st) (li:LI o a b st t out i j y) :
  wpS (model prog w) A E s (pe a b out i j ca cb mg) (N6 o a b st t) y:=by
 obtain⟨sm0,ml,hi,hj,tt⟩:=li
 refine wpS_bind (zY fun y' s'=>?_)
 have sm:=sm0.trans s'
 refine wpS_bind (JD hj (wpS_bind (zj O (sm.kd.trans T.kd) T.ma (T.mb _ (uB _)) (by omega) (by omega) (fun g k hgk hk _=>T.ua.at_ (by omega) hk) fun k hk less rest=>?_)))
 show wpS _ _ _ _ (if k > 0 then _ else _) _ _
 have rest2:∀q∈a.toList.drop (i+k),JI o b[j] q:=fun q hq=>by
  obtain⟨g,hg,hkg,rfl⟩:=Np hq
  exact KeyOrd.kle_of_klt (rest g hg hkg (by omega))
 rcases Nat.lt_or_ge 0 k with h2|h2
 ·rw [if_pos h2]
  have m2:ML o a b (out++a.extract i (i+k)) (i+k) j:=ml.mvA T.ua (by omega) fun p hp q hq=>by
   obtain⟨g,hg,g1,rfl⟩:=VD hp
   obtain⟨g',hg',rfl⟩:=vg hq
   exact JY (less g hg g1) (T.ub.at_ (by omega) hg')
  rcases Nat.lt_or_ge (i+k+1) a.size with h3|h3
  ·rw [if_neg (by rw [beq_iff_eq];omega),if_neg (by rw [beq_iff_eq];omega)]
   exact bZ O T sm m2 h3 hj (by omega) rest2
  ·rcases Nat.lt_or_ge a.size (i+k+1) with h4|h4
   ·rw [if_neg (by rw [beq_iff_eq];omega),if_pos (by rw [beq_iff_eq];omega)]
    exact wpS_pure (.inl ⟨_,rfl,sm,m2.endA T.ua T.ub (.inr (by omega))⟩)
   ·rw [if_pos (by rw [beq_iff_eq];omega)]
    exact wpS_pure (.inl ⟨_,rfl,sm,m2.endB T.ub (by omega) (T.last (by omega))⟩)
 ·rw [if_neg (by omega)]
  obtain rfl:k=0:=by omega
  exact bZ O T sm ml hi hj tt rest2
theorem fR {α β γ δ ε:Type}{G:α×β×γ×δ×ε→Prop} (h:∀a b c d e,G (a,b,c,d,e)):∀x,G x:=fun (a,b,c,d,e)=>h a b c d e
theorem fS {α β γ δ ε ζ:Type}{G:α×β×γ×δ×ε×ζ→Prop} (h:∀a b c d e f,G (a,b,c,d,e,f)):∀x,G x:=fun (a,b,c,d,e,f)=>h a b c d e f
theorem fT {α β γ δ ε ζ η:Type}{G:α×β×γ×δ×ε×ζ×η→Prop} (h:∀a b c d e f g,G (a,b,c,d,e,f,g)):∀x,G x:=fun (a,b,c,d,e,f,g)=>h a b c d e f g
theorem pD {st:SortSt}{a b:tw}{Q:Array Keyed→SortSt→Prop} (O:Uu prog w A s f o z) (T:Y1 o f z a b st) (ha:0<a.size) (hb:0<b.size) (q:∀m y,Sm st y→Mg o a b m→Q m y):wpS (model prog w) A E s (fE a b) Q st:=by
 rw [pC]
 refine wpS_bind (wpS_lift (wpAny_rule ⟨rfl,wpS_bind (JD hb ?_)⟩))
 have m1:ML o a b #[b[0]] 0 1:=by
  refine⟨?_,List.pairwise_singleton _ _,fun p hp q hq=>?_⟩
  ·have e:b.toList=b[0]::b.toList.drop 1:=by
    have:=List.drop_eq_getElem_cons (l:=b.toList) (i:=0) (by simpa using hb)
    simpa using this
   show (b[0]::(a.toList++b.toList.drop 1)).Perm _
   conv=>rhs;rw [e]
   exact List.perm_middle.symm
  ·obtain rfl:=List.mem_singleton.mp hp
   rcases List.mem_append.mp hq with hq|hq
   ·exact T.h0 q hq hb
   ·obtain⟨k,hk,rfl⟩:=vg hq
    exact T.ub.at_ (Nat.zero_le _) hk
 rcases Nat.lt_or_ge 1 b.size with hb2|hb2
 rotate_left
 ·rw [if_pos (by rw [beq_iff_eq];omega)]
  exact wpS_pure (q _ _ (Sm.refl _) (m1.endA T.ua T.ub (.inl (by omega))))
 rw [if_neg (by rw [beq_iff_eq];omega)]
 rcases Nat.lt_or_ge 1 a.size with ha2|ha2
 rotate_left
 ·rw [if_pos (by rw [beq_iff_eq];omega)]
  exact wpS_pure (q _ _ (Sm.refl _) (m1.endB T.ub (by omega) (T.last (by omega))))
 rw [if_neg (by rw [beq_iff_eq];omega)]
 refine wpS_bind (wpS_get (wpS_bind (wpS_mono (wpS_forRange (I:=fun x c y=>c.1=none∧LI o a b st (1+x) c.2.1 c.2.2.1 c.2.2.2.1 y) (Q:=fun c y=>∃m,c.1=some m∧Sm st y∧Mg o a b m) (fun x c y _ _ hy=>?_) (fun c y hy=>?_) ⟨rfl,Sm.refl _,m1,by show 0+1<_;omega,hb2,by show 1+0≤0+1;omega⟩) fun c y hy=>?_)))
 ·revert c
  refine fR fun c1 out i j mg=>?_
  intro hy
  obtain⟨e1,li⟩:=hy
  refine wpS_bind (wpS_mono (wpS_forRange (I:=fun x' c y=>c.1=none∧LI o a b st (1+x+x') c.2.1 c.2.2.1 c.2.2.2.1 y) (Q:=fun c y=>(∃m,c.1=some m∧Sm st y∧Mg o a b m)∨(c.1=none∧LI o a b st (1+x+1) c.2.1 c.2.2.1 c.2.2.2.1 y)) (fun x' c y _ _ hy=>?_) (fun c y hy=>?_) ⟨rfl,li⟩) fun c y hy=>?_)
  ·revert c
   refine fS fun c1 out i j ca cb=>?_
   intro hy
   obtain⟨e1,sm,ml,hi,hj,tt⟩:=hy
   change i+1<a.size at hi
   change j<b.size at hj
   change 1+x+x'≤i+j at tt
   change ML o a b out i j at ml
   refine wpS_bind (JD hj (wpS_bind (JD (show i<a.size by omega) (wpS_bind (gQ O (sm.kd.trans T.kd) (T.mb _ (uB _)) (T.ma _ (uB _)) ?_)))))
   show wpS _ _ _ _ (if o.blt (kv o b[j]) (kv o a[i])=true then _ else _) _ _
   cases hv:o.blt (kv o b[j]) (kv o a[i]) with
   | true =>
    rw [if_pos rfl]
    refine wpS_bind (JD hj ?_)
    have m2:ML o a b (out.push b[j]) i (j+1):=by
     rw [Yc hj]
     refine ml.mvB T.ub (by omega) fun p hp q hq=>?_
     obtain⟨k,hk,k1,rfl⟩:=VD hp
     obtain rfl:k=0:=by omega
     obtain⟨g,hg,rfl⟩:=vg hq
     exact JY (KeyOrd.kle_of_klt hv) (T.ua.at_ (by omega) hg)
    show wpS _ _ _ _ (if (j+1==b.size)=true then _ else _) _ _
    rcases Nat.lt_or_ge (j+1) b.size with h1|h1
    ·rw [if_neg (by rw [beq_iff_eq];omega)]
     have li:∀t,t≤i+(j+1)→LI o a b st t (out.push b[j]) i (j+1) y:=fun t ht=>⟨sm,m2,hi,h1,ht⟩
     show wpS _ _ _ _ (if cb+1≥mg then _ else _) _ _
     split
     ·exact wpS_pure (.inr ⟨rfl,li _ (by omega)⟩)
     ·exact wpS_pure ⟨rfl,li _ (by omega)⟩
    ·rw [if_pos (by rw [beq_iff_eq];omega)]
     exact wpS_pure (.inl ⟨_,rfl,sm,m2.endA T.ua T.ub (.inl (by omega))⟩)
   | false =>
    rw [if_neg Bool.false_ne_true]
    refine wpS_bind (JD (show i<a.size by omega) ?_)
    have m2:ML o a b (out.push a[i]) (i+1) j:=by
     rw [Yc (show i<a.size by omega)]
     refine ml.mvA T.ua (by omega) fun p hp q hq=>?_
     obtain⟨k,hk,k1,rfl⟩:=VD hp
     obtain rfl:k=0:=by omega
     obtain⟨g,hg,rfl⟩:=vg hq
     exact JY (show JI o a[i] b[j] from hv) (T.ub.at_ (by omega) hg)
    show wpS _ _ _ _ (if (i+1+1==a.size)=true then _ else _) _ _
    rcases Nat.lt_or_ge (i+1+1) a.size with h1|h1
    ·rw [if_neg (by rw [beq_iff_eq];omega)]
     have li:∀t,t≤i+1+j→LI o a b st t (out.push a[i]) (i+1) j y:=fun t ht=>⟨sm,m2,h1,hj,ht⟩
     show wpS _ _ _ _ (if ca+1≥mg then _ else _) _ _
     split
     ·exact wpS_pure (.inr ⟨rfl,li _ (by omega)⟩)
     ·exact wpS_pure ⟨rfl,li _ (by omega)⟩
    ·rw [if_pos (by rw [beq_iff_eq];omega)]
     exact wpS_pure (.inl ⟨_,rfl,sm,m2.endB T.ub (by omega) (T.last (by omega))⟩)
  ·obtain⟨e1,li⟩:=hy
   have h1:=li.hi
   have h2:=li.hj
   exact .inr ⟨e1,li.sm,li.ml,li.hi,li.hj,Nat.le_trans (by omega) li.tt⟩
  ·revert c
   refine fS fun c1 out i j ca cb=>?_
   intro hy
   rcases hy with ⟨m,rfl,sm,mm⟩|⟨rfl,li⟩
   ·exact wpS_pure ⟨m,rfl,sm,mm⟩
   ·refine wpS_bind (wpS_lift (wpAny_rule ⟨rfl,wpS_bind (wpS_mono (wpS_forRange (I:=fun x' c y=>c.1=none∧LI o a b st (1+x+1) c.2.1 c.2.2.1 c.2.2.2.1 y) (Q:=lZ o a b st (1+x+1)) (fun x' c y _ _ hy=>?_) (fun c y hy=>.inr hy) ⟨rfl,li⟩) fun c y hy=>?_)⟩))
    ·revert c
     refine fT fun c1 out i j mg ca cb=>?_
     intro hy
     obtain⟨e1,li⟩:=hy
     show wpS _ _ _ _ (if mg > 1 then pe a b out i j ca cb (mg - 1) else pe a b out i j ca cb mg) _ _
     change LI o a b st (1+x+1) out i j y at li
     split
     ·exact wpS_mono (bY O T li) fun r y h=>by cases r<;>exact h
     ·exact wpS_mono (bY O T li) fun r y h=>by cases r<;>exact h
    ·revert c
     refine fT fun c1 out i j mg ca cb=>?_
     intro hy
     rcases hy with ⟨m,rfl,sm,mm⟩|⟨rfl,li⟩
     ·exact wpS_pure ⟨m,rfl,sm,mm⟩
     ·exact wpS_bind (zY fun y' s'=>wpS_pure ⟨rfl,li.sm.trans s',li.ml,li.hi,li.hj,by have:=li.tt;omega⟩)
 ·obtain⟨e1,li⟩:=hy
  have h1:=li.hi
  have h2:=li.hj
  have h3:=li.tt
  omega
 ·revert c
  refine fR fun c1 out i j mg=>?_
  intro hy
  obtain⟨m,rfl,sm,mm⟩:=hy
  exact wpS_pure (q m y sm mm)
end
end TS
namespace TS
open PySem PyProof.Rows L2
def vW (a b out:tw) (m n:Nat):Array Keyed:=a.extract 0 m++b.extract 0 n++out.reverse
def gu (a b out:tw) (m n:Nat):Array Keyed:=b.extract 0 n++a.extract 0 m++out.reverse
theorem pA (a b:tw):fD a b=(do
  liftM (rule "list.sort.merge-hi")
  let tt:=a.size+b.size
  let mut m:=a.size - 1
  let mut n:=b.size
  let mut out:Array Keyed:=#[←elem' a m]
  if m==0 then return vW a b out m n
  if n==1 then return gu a b out m n
  let mut mg:=gallopOf (←get)
  for _ in [0:tt] do
   let mut ca:=0
   let mut cb:=0
   for _ in [0:tt] do
    let some aw ←lt' (←elem' b (n - 1)) (←elem' a (m - 1))|return vW a b out m n
    if aw then
     m:=m - 1;out:=out.push (←elem' a m);ca:=ca+1;cb:=0
     if m==0 then return vW a b out m n
     if ca≥mg then break
    else
     n:=n - 1;out:=out.push (←elem' b n);cb:=cb+1;ca:=0
     if n==1 then return gu a b out m n
     if cb≥mg then break
   liftM (rule "list.sort.gallop")
   mg:=mg+1
   for _ in [0:tt] do
    if mg > 1 then mg:=mg - 1
    Z3 mg
    let some g ←VZ false (←elem' b (n - 1)) a 0 m (m - 1)|return vW a b out m n
    let k:=m - g
    ca:=k
    if k > 0 then
     out:=out++(a.extract g m).reverse;m:=g
     if m==0 then return vW a b out m n
    n:=n - 1;out:=out.push (←elem' b n)
    if n==1 then return gu a b out m n
    let some g ←VZ true (←elem' a (m - 1)) b 0 n (n - 1)|return vW a b out m n
    let k:=n - g
    cb:=k
    if k > 0 then
     out:=out++(b.extract g n).reverse;n:=g
     if n==1 then return gu a b out m n
     if n==0 then return vW a b out m n
    m:=m - 1;out:=out.push (←elem' a m)
    if m==0 then return vW a b out m n
    if ca<7&&cb<7 then break
   mg:=mg+1
   Z3 mg
  unsupported "internal:list.sort.merge-bound"):=rfl
abbrev HS:=Option (Array Keyed)×Nat×Nat×Array Keyed×Nat×Nat×Nat
def oV (a b:tw) (m mg ca cb:Nat) (out:tw) (n:Nat):StateT SortSt Sem (ForInStep HS):=do
 let x ←elem' a (m - 1)
 if (m - 1==0)=true then pure (.done (some (vW a b (out.push x) (m - 1) n),m - 1,n,out.push x,mg,ca,cb))
 else if (decide (ca<7)&&decide (cb<7))=true then pure (.done (none,m - 1,n,out.push x,mg,ca,cb))
 else pure (.yield (none,m - 1,n,out.push x,mg,ca,cb))
def uW (a b:tw) (n mg ca cb:Nat) (out:tw) (m:Nat):StateT SortSt Sem (ForInStep HS):=do
 let x ←elem' b (n - 1)
 if (n - 1==1)=true then pure (.done (some (gu a b (out.push x) m (n - 1)),m,n - 1,out.push x,mg,ca,cb))
 else
  let y ←elem' a (m - 1)
  let some g ←VZ true y b 0 (n - 1) (n - 1 - 1)|pure (.done (some (vW a b (out.push x) m (n - 1)),m,n - 1,out.push x,mg,ca,cb))
  if n - 1 - g > 0 then
   if (g==1)=true then pure (.done (some (gu a b (out.push x++(b.extract g (n - 1)).reverse) m g),m,g,out.push x++(b.extract g (n - 1)).reverse,mg,ca,n - 1 - g))
   else if (g==0)=true then pure (.done (some (vW a b (out.push x++(b.extract g (n - 1)).reverse) m g),m,g,out.push x++(b.extract g (n - 1)).reverse,mg,ca,n - 1 - g))
   else oV a b m mg ca (n - 1 - g) (out.push x++(b.extract g (n - 1)).reverse) g
  else oV a b m mg ca (n - 1 - g) (out.push x) (n - 1)
def bI (a b out:tw) (m n ca cb mg:Nat):StateT SortSt Sem (ForInStep HS):=do
 Z3 mg
 let x ←elem' b (n - 1)
 let some g ←VZ false x a 0 m (m - 1)|pure (.done (some (vW a b out m n),m,n,out,mg,ca,cb))
 if m - g > 0 then
  if (g==0)=true then pure (.done (some (vW a b (out++(a.extract g m).reverse) g n),g,n,out++(a.extract g m).reverse,mg,m - g,cb))
  else uW a b n mg (m - g) cb (out++(a.extract g m).reverse) g
 else uW a b n mg (m - g) cb out m
section
variable {prog:tM}{w:World}{A:Around}{E:sV}{s:Shared}{f:Bool}{z:tw}{o:KeyKind}
structure MH (o:KeyKind) (a b out:tw) (m n:Nat):Prop where
 pm:((a.toList.take m++b.toList.take n)++out.toList.reverse).Perm (a.toList++b.toList)
 up:Up o out.toList.reverse
 le:∀p∈a.toList.take m++b.toList.take n,∀q∈out.toList,JI o p q
theorem Vp {out xs:tw}{g m:Nat}:(out++(xs.extract g m).reverse).toList.reverse=(xs.toList.take m).drop g++out.toList.reverse:=by
 rw [Array.toList_append,Array.toList_reverse,Array.toList_extract,List.reverse_append,List.reverse_reverse,List.extract_eq_drop_take,←List.drop_take]
theorem M8 {l:List Keyed}{g m:Nat} (h:g≤m):l.take m=l.take g++(l.take m).drop g:=by
 have:=(List.take_append_drop g (l.take m)).symm
 rwa [List.take_take,Nat.min_eq_left h] at this
theorem MH.mvA {a b out:tw}{m n g:Nat} (x:MH o a b out m n) (ua:Up o a.toList) (hg:g≤m) (h:∀p∈(a.toList.take m).drop g,∀q∈b.toList.take n,JI o q p):MH o a b (out++(a.extract g m).reverse) g n:=by
 have ut:Up o (a.toList.take m):=ua.take
 have e2:=M8 (l:=a.toList) hg
 have mo:∀q,q∈(out++(a.extract g m).reverse).toList↔q∈(a.toList.take m).drop g∨q∈out.toList:=fun q=>by
  rw [←List.mem_reverse,Vp,List.mem_append,List.mem_reverse]
 refine⟨?_,?_,fun p hp q hq=>?_⟩
 ·rw [Vp]
  refine List.Perm.trans ?_ x.pm
  rw [←List.append_assoc]
  refine List.Perm.append_right _ ?_
  conv=>rhs;rw [e2]
  rw [List.append_assoc,List.append_assoc]
  exact List.Perm.append_left _ List.perm_append_comm
 ·rw [Vp]
  refine List.pairwise_append.mpr ⟨ut.drop,x.up,fun p hp q hq=>x.le p (List.mem_append_left _ (List.mem_of_mem_drop hp)) q (List.mem_reverse.mp hq)⟩
 ·rcases (mo q).mp hq with hq|hq
  ·rcases List.mem_append.mp hp with hp|hp
   ·rw [e2] at ut
    exact (List.pairwise_append.mp ut).2.2 p hp q hq
   ·exact h q hq p hp
  ·refine x.le p ?_ q hq
   rcases List.mem_append.mp hp with hp|hp
   ·exact List.mem_append_left _ (by rw [e2];exact List.mem_append_left _ hp)
   ·exact List.mem_append_right _ hp
theorem MH.mvB {a b out:tw}{m n g:Nat} (x:MH o a b out m n) (ub:Up o b.toList) (hg:g≤n) (h:∀p∈(b.toList.take n).drop g,∀q∈a.toList.take m,JI o q p):MH o a b (out++(b.extract g n).reverse) m g:=by
 have ut:Up o (b.toList.take n):=ub.take
 have e2:=M8 (l:=b.toList) hg
 have mo:∀q,q∈(out++(b.extract g n).reverse).toList↔q∈(b.toList.take n).drop g∨q∈out.toList:=fun q=>by
  rw [←List.mem_reverse,Vp,List.mem_append,List.mem_reverse]
 refine⟨?_,?_,fun p hp q hq=>?_⟩
 ·rw [Vp]
  refine List.Perm.trans ?_ x.pm
  rw [←List.append_assoc]
  refine List.Perm.append_right _ ?_
  conv=>rhs;rw [e2]
  rw [List.append_assoc]
 ·rw [Vp]
  refine List.pairwise_append.mpr ⟨ut.drop,x.up,fun p hp q hq=>x.le p (List.mem_append_right _ (List.mem_of_mem_drop hp)) q (List.mem_reverse.mp hq)⟩
 ·rcases (mo q).mp hq with hq|hq
  ·rcases List.mem_append.mp hp with hp|hp
   ·exact h q hq p hp
   ·rw [e2] at ut
    exact (List.pairwise_append.mp ut).2.2 p hp q hq
  ·refine x.le p ?_ q hq
   rcases List.mem_append.mp hp with hp|hp
   ·exact List.mem_append_left _ hp
   ·exact List.mem_append_right _ (by rw [e2];exact List.mem_append_left _ hp)
theorem gB {xs:tw}{m:Nat}:(xs.extract 0 m).toList=xs.toList.take m:=by
 rw [Array.toList_extract,List.extract_eq_drop_take,List.drop_zero,Nat.sub_zero]
theorem MH.endC {a b out:tw}{m n:Nat} (x:MH o a b out m n) (ua:Up o a.toList) (ub:Up o b.toList) (h:m=0∨n=0):Mg o a b (vW a b out m n):=by
 have e:(vW a b out m n).toList=(a.toList.take m++b.toList.take n)++out.toList.reverse:=by
  unfold vW
  rw [Array.toList_append,Array.toList_append,gB,gB,Array.toList_reverse]
 refine⟨by rw [e];exact x.pm,?_⟩
 rw [e]
 refine List.pairwise_append.mpr ⟨?_,x.up,fun p hp q hq=>x.le p hp q (List.mem_reverse.mp hq)⟩
 rcases h with rfl|rfl
 ·rw [List.take_zero,List.nil_append];exact ub.take
 ·rw [List.take_zero,List.append_nil];exact ua.take
theorem MH.endD {a b out:tw}{m n:Nat} (x:MH o a b out m n) (ua:Up o a.toList) (hn:n=1) (hb:0<b.size) (h0:∀p∈a.toList,JI o b[0] p):Mg o a b (gu a b out m n):=by
 have e1:b.toList.take n=[b[0]]:=by
  rw [hn,List.take_one]
  have:b.toList.head?=some b[0]:=by rw [List.head?_eq_getElem?];simp [hb]
  rw [this];rfl
 have e:(gu a b out m n).toList=(b.toList.take n++a.toList.take m)++out.toList.reverse:=by
  unfold gu
  rw [Array.toList_append,Array.toList_append,gB,gB,Array.toList_reverse]
 refine⟨?_,?_⟩
 ·rw [e]
  exact List.Perm.trans (List.Perm.append_right _ List.perm_append_comm) x.pm
 ·rw [e]
  refine List.pairwise_append.mpr ⟨List.pairwise_append.mpr ⟨by rw [e1];exact List.pairwise_singleton _ _,ua.take,fun p hp q hq=>?_⟩,x.up,fun p hp q hq=>x.le p ?_ q (List.mem_reverse.mp hq)⟩
  ·rw [e1,List.mem_singleton] at hp
   rw [hp]
   exact h0 q (List.mem_of_mem_take hq)
  ·rcases List.mem_append.mp hp with hp|hp
   ·exact List.mem_append_right _ hp
   ·exact List.mem_append_left _ hp
theorem Yd {out xs:tw}{m:Nat} (h1:1≤m) (hm:m≤xs.size):out.push (xs[m - 1]'(by omega))=out++(xs.extract (m - 1) m).reverse:=by
 have:=oE (xs:=xs) (i:=m - 1) (by omega)
 rw [show m - 1+1=m by omega] at this
 rw [this,Array.push_eq_append]
 rfl
theorem yt {xs:tw}{g m:Nat}{p:Keyed} (h:p∈(xs.toList.take m).drop g):∃k,∃hk:k<xs.size,g≤k∧k<m∧p=xs[k]:=by
 obtain⟨k,hk,e⟩:=List.mem_iff_getElem.mp h
 rw [List.length_drop,List.length_take,Array.length_toList] at hk
 refine⟨g+k,by omega,by omega,by omega,?_⟩
 rw [←e,List.getElem_drop,List.getElem_take,Array.getElem_toList]
theorem yW {xs:tw}{m:Nat}{p:Keyed} (h:p∈xs.toList.take m):∃k,∃hk:k<xs.size,k<m∧p=xs[k]:=by
 obtain⟨k,hk,e⟩:=List.mem_iff_getElem.mp h
 rw [List.length_take,Array.length_toList] at hk
 refine⟨k,by omega,by omega,?_⟩
 rw [←e,List.getElem_take,Array.getElem_toList]
structure HI (o:KeyKind) (a b:tw) (st:SortSt) (t:Nat) (out:tw) (m n:Nat) (y:SortSt):Prop where
 sm:Sm st y
 mh:MH o a b out m n
 m1:1≤m
 ma:m≤a.size
 n2:2≤n
 nb:n≤b.size
 tt:m+n+t≤a.size+b.size
def lW (o:KeyKind) (a b:tw) (st:SortSt) (t:Nat) (c:HS) (y:SortSt):Prop:=(∃r,c.1=some r∧Sm st y∧Mg o a b r)∨(c.1=none∧HI o a b st t c.2.2.2.1 c.2.1 c.2.2.1 y)
def N5 (o:KeyKind) (a b:tw) (st:SortSt) (t:Nat):ForInStep HS→SortSt→Prop:=fun r y=>match r with|.done c=>lW o a b st t c y|.yield c=>c.1=none∧HI o a b st t c.2.2.2.1 c.2.1 c.2.2.1 y
theorem bL {a b:tw}{st y:SortSt}{t m n mg ca cb:Nat}{out:tw} (T:Y1 o f z a b st) (sm:Sm st y) (mh:MH o a b out m n) (m1:1≤m) (ma:m≤a.size) (n2:2≤n) (nb:n≤b.size) (tt:m+n+t≤a.size+b.size+1) (h:∀q∈b.toList.take n,∀hm:m - 1<a.size,JI o q a[m - 1]) :
  wpS (model prog w) A E s (oV a b m mg ca cb out n) (N5 o a b st t) y:=by
 refine wpS_bind (JD (show m - 1<a.size by omega) ?_)
 have m2:MH o a b (out.push a[m - 1]) (m - 1) n:=by
  rw [Yd m1 ma]
  refine mh.mvA T.ua (by omega) fun p hp q hq=>?_
  obtain⟨k,hk,k1,k2,rfl⟩:=yt hp
  obtain rfl:k=m - 1:=by omega
  exact h q hq hk
 rcases Nat.lt_or_ge 0 (m - 1) with h1|h1
 ·rw [if_neg (by rw [beq_iff_eq];omega)]
  have hi:HI o a b st t (out.push a[m - 1]) (m - 1) n y:=⟨sm,m2,h1,by omega,n2,nb,by omega⟩
  split
  ·exact wpS_pure (.inr ⟨rfl,hi⟩)
  ·exact wpS_pure ⟨rfl,hi⟩
 ·rw [if_pos (by rw [beq_iff_eq];omega)]
  exact wpS_pure (.inl ⟨_,rfl,sm,m2.endC T.ua T.ub (.inl (by omega))⟩)
theorem bK {a b:tw}{st y:SortSt}{t m n mg ca cb:Nat}{out:tw} (O:Uu prog w A s f o z) (T:Y1 o f z a b st) (sm:Sm st y) (mh:MH o a b out m n) (m1:1≤m) (ma:m≤a.size) (n2:2≤n) (nb:n≤b.size) (tt:m+n+t≤a.size+b.size) (h:∀q∈a.toList.take m,∀hn:n - 1<b.size,JI o q b[n - 1]) :
  wpS (model prog w) A E s (uW a b n mg ca cb out m) (N5 o a b st t) y:=by
 refine wpS_bind (JD (show n - 1<b.size by omega) ?_)
 have m2:MH o a b (out.push b[n - 1]) m (n - 1):=by
  rw [Yd (by omega) nb]
  refine mh.mvB T.ub (by omega) fun p hp q hq=>?_
  obtain⟨k,hk,k1,k2,rfl⟩:=yt hp
  obtain rfl:k=n - 1:=by omega
  exact h q hq hk
 have h0:∀p∈a.toList,JI o b[0] p:=fun p hp=>T.h0 p hp (by omega)
 rcases Nat.lt_or_ge 1 (n - 1) with h1|h1
 ·rw [if_neg (by rw [beq_iff_eq];omega)]
  refine wpS_bind (JD (show m - 1<a.size by omega) (wpS_bind (ZT O (sm.kd.trans T.kd) T.mb (T.ma _ (uB _)) (by omega) (by omega) (fun g k hgk hk _=>T.ub.at_ (by omega) hk) fun g hg less rest=>?_)))
  simp only [Nat.zero_add] at less rest
  show wpS _ _ _ _ (if n - 1 - g > 0 then _ else _) _ _
  have below:∀q∈b.toList.take g,∀hm:m - 1<a.size,JI o q a[m - 1]:=fun q hq hm=>by
   obtain⟨k,hk,k1,rfl⟩:=yW hq
   exact KeyOrd.kle_of_klt (less k hk k1)
  rcases Nat.lt_or_ge g (n - 1) with h2|h2
  ·rw [if_pos (by omega)]
   have m3:MH o a b (out.push b[n - 1]++(b.extract g (n - 1)).reverse) m g:=m2.mvB T.ub (by omega) fun p hp q hq=>by
    obtain⟨k,hk,k1,k2,rfl⟩:=yt hp
    obtain⟨k',hk',k3,rfl⟩:=yW hq
    exact JY (T.ua.at_ (by omega) (show m - 1<a.size by omega)) (rest k hk k1 (by omega))
   rcases Nat.lt_or_ge 1 g with h3|h3
   ·rw [if_neg (by rw [beq_iff_eq];omega),if_neg (by rw [beq_iff_eq];omega)]
    exact bL T sm m3 m1 ma h3 (by omega) (by omega) below
   ·rcases Nat.lt_or_ge 0 g with h4|h4
    ·rw [if_pos (by rw [beq_iff_eq];omega)]
     exact wpS_pure (.inl ⟨_,rfl,sm,m3.endD T.ua (by omega) (by omega) h0⟩)
    ·rw [if_neg (by rw [beq_iff_eq];omega),if_pos (by rw [beq_iff_eq];omega)]
     exact wpS_pure (.inl ⟨_,rfl,sm,m3.endC T.ua T.ub (.inr (by omega))⟩)
  ·rw [if_neg (by omega)]
   obtain rfl:g=n - 1:=by omega
   exact bL T sm m2 m1 ma h1 (by omega) (by omega) below
 ·rw [if_pos (by rw [beq_iff_eq];omega)]
  exact wpS_pure (.inl ⟨_,rfl,sm,m2.endD T.ua (by omega) (by omega) h0⟩)
theorem bJ {a b:tw}{st y:SortSt}{t m n mg ca cb:Nat}{out:tw} (O:Uu prog w A s f o z) (T:Y1 o f z a b st) (hi:HI o a b st t out m n y) :
  wpS (model prog w) A E s (bI a b out m n ca cb mg) (N5 o a b st t) y:=by
 obtain⟨sm0,mh,m1,ma,n2,nb,tt⟩:=hi
 refine wpS_bind (zY fun y' s'=>?_)
 have sm:=sm0.trans s'
 refine wpS_bind (JD (show n - 1<b.size by omega) (wpS_bind (zj O (sm.kd.trans T.kd) T.ma (T.mb _ (uB _)) (by omega) (by omega) (fun g k hgk hk _=>T.ua.at_ (by omega) hk) fun g hg less rest=>?_)))
 simp only [Nat.zero_add] at less rest
 show wpS _ _ _ _ (if m - g > 0 then _ else _) _ _
 have below:∀q∈a.toList.take g,∀hn:n - 1<b.size,JI o q b[n - 1]:=fun q hq hn=>by
  obtain⟨k,hk,k1,rfl⟩:=yW hq
  exact less k hk k1
 rcases Nat.lt_or_ge g m with h2|h2
 ·rw [if_pos (by omega)]
  have m2:MH o a b (out++(a.extract g m).reverse) g n:=mh.mvA T.ua (by omega) fun p hp q hq=>by
   obtain⟨k,hk,k1,k2,rfl⟩:=yt hp
   obtain⟨k',hk',k3,rfl⟩:=yW hq
   exact JY (T.ub.at_ (by omega) (show n - 1<b.size by omega)) (KeyOrd.kle_of_klt (rest k hk k1 (by omega)))
  rcases Nat.lt_or_ge 0 g with h3|h3
  ·rw [if_neg (by rw [beq_iff_eq];omega)]
   exact bK O T sm m2 h3 (by omega) n2 nb (by omega) below
  ·rw [if_pos (by rw [beq_iff_eq];omega)]
   exact wpS_pure (.inl ⟨_,rfl,sm,m2.endC T.ua T.ub (.inl (by omega))⟩)
 ·rw [if_neg (by omega)]
  obtain rfl:g=m:=by omega
  exact bK O T sm mh m1 ma n2 nb tt below
theorem pB {st:SortSt}{a b:tw}{Q:Array Keyed→SortSt→Prop} (O:Uu prog w A s f o z) (T:Y1 o f z a b st) (ha:0<a.size) (hb:0<b.size) (q:∀m y,Sm st y→Mg o a b m→Q m y):wpS (model prog w) A E s (fD a b) Q st:=by
 rw [pA]
 have ha1:a.size - 1<a.size:=by omega
 have h0:∀p∈a.toList,JI o b[0] p:=fun p hp=>T.h0 p hp hb
 refine wpS_bind (wpS_lift (wpAny_rule ⟨rfl,wpS_bind (JD ha1 ?_)⟩))
 have m1:MH o a b #[a[a.size - 1]] (a.size - 1) b.size:=by
  have e:a.toList=a.toList.take (a.size - 1)++[a[a.size - 1]]:=by
   have:=(List.take_append_drop (a.size - 1) a.toList).symm
   rw [List.drop_eq_getElem_cons (by simpa using ha1),List.drop_eq_nil_of_le (by simp;omega)] at this
   simpa using this
  have eb:b.toList.take b.size=b.toList:=List.take_of_length_le (by simp)
  refine⟨?_,List.pairwise_singleton _ _,fun p hp q hq=>?_⟩
  ·rw [eb]
   show ((a.toList.take (a.size - 1)++b.toList)++[a[a.size - 1]]).Perm _
   conv=>rhs;rw [e]
   rw [List.append_assoc,List.append_assoc]
   exact List.Perm.append_left _ List.perm_append_comm
  ·obtain rfl:=List.mem_singleton.mp hq
   rcases List.mem_append.mp hp with hp|hp
   ·obtain⟨k,hk,k1,rfl⟩:=yW hp
    exact T.ua.at_ (by omega) ha1
   ·exact T.hl p (List.mem_of_mem_take hp) ha1
 rcases Nat.lt_or_ge 1 a.size with ha2|ha2
 rotate_left
 ·rw [if_pos (by rw [beq_iff_eq];omega)]
  exact wpS_pure (q _ _ (Sm.refl _) (m1.endC T.ua T.ub (.inl (by omega))))
 rw [if_neg (by rw [beq_iff_eq];omega)]
 rcases Nat.lt_or_ge 1 b.size with hb2|hb2
 rotate_left
 ·rw [if_pos (by rw [beq_iff_eq];omega)]
  exact wpS_pure (q _ _ (Sm.refl _) (m1.endD T.ua (by omega) hb h0))
 rw [if_neg (by rw [beq_iff_eq];omega)]
 refine wpS_bind (wpS_get (wpS_bind (wpS_mono (wpS_forRange (I:=fun x c y=>c.1=none∧HI o a b st (1+x) c.2.2.2.1 c.2.1 c.2.2.1 y) (Q:=fun c y=>∃m,c.1=some m∧Sm st y∧Mg o a b m) (fun x c y _ _ hy=>?_) (fun c y hy=>?_) ⟨rfl,Sm.refl _,m1,by show 1≤a.size - 1;omega,by show a.size - 1≤_;omega,hb2,Nat.le_refl _,by show a.size - 1+b.size+(1+0)≤_;omega⟩) fun c y hy=>?_)))
 ·revert c
  refine fR fun c1 m n out mg=>?_
  intro hy
  obtain⟨e1,li⟩:=hy
  refine wpS_bind (wpS_mono (wpS_forRange (I:=fun x' c y=>c.1=none∧HI o a b st (1+x+x') c.2.2.2.1 c.2.1 c.2.2.1 y) (Q:=fun c y=>(∃m,c.1=some m∧Sm st y∧Mg o a b m)∨(c.1=none∧HI o a b st (1+x+1) c.2.2.2.1 c.2.1 c.2.2.1 y)) (fun x' c y _ _ hy=>?_) (fun c y hy=>?_) ⟨rfl,li⟩) fun c y hy=>?_)
  ·revert c
   refine fS fun c1 m n out ca cb=>?_
   intro hy
   obtain⟨e1,sm,mh,m1,ma,n2,nb,tt⟩:=hy
   change 1≤m at m1
   change m≤a.size at ma
   change 2≤n at n2
   change n≤b.size at nb
   change m+n+(1+x+x')≤a.size+b.size at tt
   change MH o a b out m n at mh
   refine wpS_bind (JD (show n - 1<b.size by omega) (wpS_bind (JD (show m - 1<a.size by omega) (wpS_bind (gQ O (sm.kd.trans T.kd) (T.mb _ (uB _)) (T.ma _ (uB _)) ?_)))))
   show wpS _ _ _ _ (if o.blt (kv o (b[n - 1]'(by omega))) (kv o (a[m - 1]'(by omega)))=true then _ else _) _ _
   cases hv:o.blt (kv o (b[n - 1]'(by omega))) (kv o (a[m - 1]'(by omega))) with
   | true =>
    rw [if_pos rfl]
    refine wpS_bind (JD (show m - 1<a.size by omega) ?_)
    have m2:MH o a b (out.push (a[m - 1]'(by omega))) (m - 1) n:=by
     rw [Yd m1 ma]
     refine mh.mvA T.ua (by omega) fun p hp q hq=>?_
     obtain⟨k,hk,k1,k2,rfl⟩:=yt hp
     obtain rfl:k=m - 1:=by omega
     obtain⟨g,hg,g1,rfl⟩:=yW hq
     exact JY (T.ub.at_ (show g≤n - 1 by omega) (show n - 1<b.size by omega)) (KeyOrd.kle_of_klt hv)
    show wpS _ _ _ _ (if (m - 1==0)=true then _ else _) _ _
    rcases Nat.lt_or_ge 0 (m - 1) with h1|h1
    ·rw [if_neg (by rw [beq_iff_eq];omega)]
     have li:∀t,m - 1+n+t≤a.size+b.size→HI o a b st t (out.push (a[m - 1]'(by omega))) (m - 1) n y:=fun t ht=>⟨sm,m2,h1,by omega,n2,nb,ht⟩
     show wpS _ _ _ _ (if ca+1≥mg then _ else _) _ _
     split
     ·exact wpS_pure (.inr ⟨rfl,li _ (by omega)⟩)
     ·exact wpS_pure ⟨rfl,li _ (by omega)⟩
    ·rw [if_pos (by rw [beq_iff_eq];omega)]
     exact wpS_pure (.inl ⟨_,rfl,sm,m2.endC T.ua T.ub (.inl (by omega))⟩)
   | false =>
    rw [if_neg Bool.false_ne_true]
    refine wpS_bind (JD (show n - 1<b.size by omega) ?_)
    have m2:MH o a b (out.push (b[n - 1]'(by omega))) m (n - 1):=by
     rw [Yd (show 1≤n by omega) nb]
     refine mh.mvB T.ub (by omega) fun p hp q hq=>?_
     obtain⟨k,hk,k1,k2,rfl⟩:=yt hp
     obtain rfl:k=n - 1:=by omega
     obtain⟨g,hg,g1,rfl⟩:=yW hq
     exact JY (T.ua.at_ (show g≤m - 1 by omega) (show m - 1<a.size by omega)) hv
    show wpS _ _ _ _ (if (n - 1==1)=true then _ else _) _ _
    rcases Nat.lt_or_ge 1 (n - 1) with h1|h1
    ·rw [if_neg (by rw [beq_iff_eq];omega)]
     have li:∀t,m+(n - 1)+t≤a.size+b.size→HI o a b st t (out.push (b[n - 1]'(by omega))) m (n - 1) y:=fun t ht=>⟨sm,m2,m1,ma,h1,by omega,ht⟩
     show wpS _ _ _ _ (if cb+1≥mg then _ else _) _ _
     split
     ·exact wpS_pure (.inr ⟨rfl,li _ (by omega)⟩)
     ·exact wpS_pure ⟨rfl,li _ (by omega)⟩
    ·rw [if_pos (by rw [beq_iff_eq];omega)]
     exact wpS_pure (.inl ⟨_,rfl,sm,m2.endD T.ua (by omega) hb h0⟩)
  ·obtain⟨e1,li⟩:=hy
   exact .inr ⟨e1,li.sm,li.mh,li.m1,li.ma,li.n2,li.nb,Nat.le_trans (by omega) li.tt⟩
  ·revert c
   refine fS fun c1 m n out ca cb=>?_
   intro hy
   rcases hy with ⟨m,rfl,sm,mm⟩|⟨rfl,li⟩
   ·exact wpS_pure ⟨m,rfl,sm,mm⟩
   ·refine wpS_bind (wpS_lift (wpAny_rule ⟨rfl,wpS_bind (wpS_mono (wpS_forRange (I:=fun x' c y=>c.1=none∧HI o a b st (1+x+1) c.2.2.2.1 c.2.1 c.2.2.1 y) (Q:=lW o a b st (1+x+1)) (fun x' c y _ _ hy=>?_) (fun c y hy=>.inr hy) ⟨rfl,li⟩) fun c y hy=>?_)⟩))
    ·revert c
     refine fT fun c1 m n out mg ca cb=>?_
     intro hy
     obtain⟨e1,li⟩:=hy
     show wpS _ _ _ _ (if mg > 1 then bI a b out m n ca cb (mg - 1) else bI a b out m n ca cb mg) _ _
     change HI o a b st (1+x+1) out m n y at li
     split
     ·exact wpS_mono (bJ O T li) fun r y h=>by cases r<;>exact h
     ·exact wpS_mono (bJ O T li) fun r y h=>by cases r<;>exact h
    ·revert c
     refine fT fun c1 m n out mg ca cb=>?_
     intro hy
     rcases hy with ⟨m,rfl,sm,mm⟩|⟨rfl,li⟩
     ·exact wpS_pure ⟨m,rfl,sm,mm⟩
     ·exact wpS_bind (zY fun y' s'=>wpS_pure ⟨rfl,li.sm.trans s',li.mh,li.m1,li.ma,li.n2,li.nb,by have:=li.tt;omega⟩)
 ·obtain⟨e1,li⟩:=hy
  have h1:=li.m1
  have h2:=li.n2
  have h3:=li.tt
  omega
 ·revert c
  refine fR fun c1 m n out mg=>?_
  intro hy
  obtain⟨m,rfl,sm,mm⟩:=hy
  exact wpS_pure (q m y sm mm)
end
end TS
namespace TS
open PySem PyProof.Rows L2
theorem pj (i:Nat):mergeAt' i=(do
  let t ←get
  let (some (sa,na,pw),some (sb,nb,_)):=((pendingOf t)[i]?,(pendingOf t)[i+1]?)|unsupported "internal:list.sort.pending"
  set (setPending t (((pendingOf t).setIfInBounds i (sa,na+nb,pw)).eraseIdxIfInBounds (i+1)))
  let some k ←VZ false (←elem' (arrOf t) sb) (arrOf t) sa na 0|return false
  let (sa,na):=(sa+k,na - k)
  if na==0 then return true
  let some nb ←VZ true (←elem' (arrOf t) (sa+na - 1)) (arrOf t) sb nb (nb - 1)|return false
  if nb==0 then return true
  let x:=(arrOf t).extract sa sb
  let y:=(arrOf t).extract sb (sb+nb)
  let m ←if na≤nb then fE x y else fD x y
  modify fun t=>setArr t (m.toList.zipIdx.foldl (fun u (p,j)=>u.setIfInBounds (sa+j) p) (arrOf t))
  return (failedOf (←get)).isNone):=rfl
def jW (xs:tw) (lo n:Nat):List Keyed:=(xs.toList.drop lo).take n
theorem NT {xs:tw}{lo n:Nat}:(xs.extract lo (lo+n)).toList=jW xs lo n:=by
 rw [Array.toList_extract,List.extract_eq_drop_take,Nat.add_sub_cancel_left];rfl
theorem UR (xs:tw) (lo k n:Nat) (h:k≤n):jW xs lo n=jW xs lo k++jW xs (lo+k) (n - k):=by
 unfold jW
 have:=(List.take_append_drop k ((xs.toList.drop lo).take n)).symm
 rw [List.take_take,Nat.min_eq_left h,List.drop_take,List.drop_drop] at this
 exact this
theorem Vq {xs:tw}{lo n:Nat}{p:Keyed} (h:p∈jW xs lo n):∃k,∃hk:lo+k<xs.size,k<n∧p=xs[lo+k]:=VD h
theorem NU {xs:tw}{lo n:Nat}{p:Keyed} (h:p∈jW xs lo n):p∈xs.toList:=List.mem_of_mem_drop (List.mem_of_mem_take h)
theorem lu {xs:tw}{lo n:Nat} (h:lo+n≤xs.size):(jW xs lo n).length=n:=by
 unfold jW
 rw [List.length_take,List.length_drop,Array.length_toList];omega
theorem zZ {xs:tw}{lo n i:Nat} (h:i<(jW xs lo n).length) (h2:lo+i<xs.size):(jW xs lo n)[i]=xs[lo+i]:=by
 simp only [jW,List.getElem_take,List.getElem_drop,Array.getElem_toList]
section
variable {prog:tM}{w:World}{A:Around}{E:sV}{s:Shared}{f:Bool}{z:tw}{o:KeyKind}
theorem Gi {xs:tw}{lo n:Nat} (u:Up o (jW xs lo n)) {i j:Nat} (hij:i≤j) (hj:j<n) (h:lo+j<xs.size):JI o (xs[lo+i]'(by omega)) xs[lo+j]:=by
 rcases Nat.lt_or_ge i j with hl|hl
 ·have hlen:lo+j<xs.size→j<(jW xs lo n).length:=fun h=>by unfold jW;rw [List.length_take,List.length_drop,Array.length_toList];omega
  have:=(List.pairwise_iff_getElem.mp u) i j (by have:=hlen h;omega) (hlen h) hl
  rw [zZ _ (by omega),zZ _ h] at this
  exact this
 ·obtain rfl:i=j:=by omega
  exact KeyOrd.kle_refl _
theorem mw:∀(l:List Keyed) (xs:tw) (at_ k:Nat),at_+k+l.length≤xs.size→((l.zipIdx k).foldl (fun (u:tw) (x:Keyed×Nat)=>match x with|(p,j)=>u.setIfInBounds (at_+j) p) xs).toList=xs.toList.take (at_+k)++l++xs.toList.drop (at_+k+l.length)
 | [],xs,at_,k,_=>by
  show xs.toList=_
  rw [List.append_nil,List.length_nil,Nat.add_zero,List.take_append_drop]
 | p::r,xs,at_,k,h=>by
  rw [List.length_cons] at h
  rw [List.zipIdx_cons,List.foldl_cons]
  have e1:(xs.setIfInBounds (at_+k) p).toList=xs.toList.set (at_+k) p:=Array.toList_setIfInBounds ..
  have hl:at_+k<xs.toList.length:=by rw [Array.length_toList];omega
  have e2:=List.set_eq_take_append_cons_drop (l:=xs.toList) (i:=at_+k) (a:=p)
  rw [if_pos hl] at e2
  have ih:=mw r (xs.setIfInBounds (at_+k) p) at_ (k+1) (by rw [Array.size_setIfInBounds];omega)
  refine ih.trans ?_
  have lt:(xs.toList.take (at_+k)).length=at_+k:=by rw [List.length_take];omega
  have t1:(xs.toList.set (at_+k) p).take (at_+(k+1))=xs.toList.take (at_+k)++[p]:=by
   rw [e2,List.take_append,lt,show at_+(k+1) - (at_+k)=1 by omega,List.take_of_length_le (by rw [lt];omega)]
   rfl
  have t2:(xs.toList.set (at_+k) p).drop (at_+(k+1)+r.length)=xs.toList.drop (at_+k+(r.length+1)):=by
   rw [List.drop_set_of_lt (by omega)]
   congr 1;omega
  rw [e1,t1,t2,List.length_cons]
  simp
theorem ld {xs ys:tw}{at_:Nat}{m:List Keyed} (h:at_+m.length≤xs.size) (e:ys.toList=xs.toList.take at_++m++xs.toList.drop (at_+m.length)) :
  (∀k n,k+n≤at_→jW ys k n=jW xs k n)∧(∀k n,at_+m.length≤k→jW ys k n=jW xs k n)∧jW ys at_ m.length=m:=by
 have lt:(xs.toList.take at_).length=at_:=by rw [List.length_take,Array.length_toList];omega
 refine⟨fun k n hk=>?_,fun k n hk=>?_,?_⟩
 ·unfold jW
  rw [e,List.append_assoc,List.drop_append_of_le_length (by rw [lt];omega),List.take_append_of_le_length (by rw [List.length_drop,lt];omega),List.drop_take,List.take_take,Nat.min_eq_left (by omega)]
 ·unfold jW
  rw [e,List.drop_append,List.length_append,lt,List.drop_eq_nil_of_le (by rw [List.length_append,lt];exact hk),List.nil_append,List.drop_drop]
  congr 2;omega
 ·unfold jW
  rw [e,List.append_assoc,List.drop_append,lt,List.drop_eq_nil_of_le (by rw [lt];omega),List.nil_append,Nat.sub_self,List.drop_zero,List.take_left']
  rfl
structure Gd (f:Bool) (z:tw) (y:SortSt):Prop where
 pm:(arrOf y).Perm z
 kd:kindOf y=tuples' f
 fl:failedOf y=none
theorem Gd.sz {y:SortSt} (g:Gd f z y):(arrOf y).size=z.size:=g.pm.size_eq
theorem Gd.mem {y:SortSt} (g:Gd f z y):∀p∈(arrOf y).toList,p∈z.toList:=fun p hp=>(Array.perm_iff_toList_perm.mp g.pm).mem_iff.mp hp
theorem aG {l1 l2:List (Nat×Nat×Nat)}{x y v:Nat×Nat×Nat}{ps:Array (Nat×Nat×Nat)} (h:ps.toList=l1++x::y::l2):((ps.setIfInBounds l1.length v).eraseIdxIfInBounds (l1.length+1)).toList=l1++v::l2:=by
 rw [Array.toList_eraseIdxIfInBounds,Array.toList_setIfInBounds,h]
 induction l1 generalizing ps with
 | nil=>rfl
 | cons a r ih=>exact congrArg (a::·) (ih (ps:=(r++x::y::l2).toArray) rfl)
theorem i5 {l1 l2:List (Nat×Nat×Nat)}{x y:Nat×Nat×Nat}{ps:Array (Nat×Nat×Nat)} (h:ps.toList=l1++x::y::l2):ps[l1.length]?=some x∧ps[l1.length+1]?=some y:=by
 rw [←Array.getElem?_toList,←Array.getElem?_toList,h]
 constructor
 ·simp
 ·rw [List.getElem?_append_right (by omega)];simp
theorem eS {a1 a2 b1 b2 m:List Keyed} (ua:Up o (a1++a2)) (ub:Up o (b1++b2)) (um:Up o m) (pm:m.Perm (a2++b1)) (h1:∀p∈a1,∀q∈b1++b2,JI o p q) (h2:∀p∈a2,∀q∈b2,JI o p q):Up o (a1++m++b2):=by
 obtain⟨u1,_,c1⟩:=List.pairwise_append.mp ua
 obtain⟨_,u2,c2⟩:=List.pairwise_append.mp ub
 refine List.pairwise_append.mpr ⟨List.pairwise_append.mpr ⟨u1,um,fun p hp q hq=>?_⟩,u2,fun p hp q hq=>?_⟩
 ·rcases List.mem_append.mp (pm.mem_iff.mp hq) with hq|hq
  ·exact c1 p hp q hq
  ·exact h1 p hp q (List.mem_append_left _ hq)
 ·rcases List.mem_append.mp hp with hp|hp
  ·exact h1 p hp q (List.mem_append_right _ hq)
  ·rcases List.mem_append.mp (pm.mem_iff.mp hp) with hp|hp
   ·exact h2 p hp q hq
   ·exact c2 p hp q hq
theorem qg {v y:SortSt}{Q:PUnit→SortSt→Prop} (h:Q ⟨⟩ v):wpS (model prog w) A E s (set v:StateT SortSt Sem PUnit) Q y:=wpS_modify (f:=fun _=>v) h
theorem pq {st:SortSt}{l1 l2:List (Nat×Nat×Nat)}{sa na pa sb nb pb:Nat}{Q:Bool→SortSt→Prop} (O:Uu prog w A s f o z) (g:Gd f z st) (hp:(pendingOf st).toList=l1++(sa,na,pa)::(sb,nb,pb)::l2) (hsb:sb=sa+na) (n1:1≤na) (n2:1≤nb) (hsz:sb+nb≤z.size) (u1:Up o (jW (arrOf st) sa na)) (u2:Up o (jW (arrOf st) sb nb))
  (q:∀y,Gd f z y→(pendingOf y).toList=l1++(sa,na+nb,pa)::l2→Up o (jW (arrOf y) sa (na+nb))→(∀k n,k+n≤sa→jW (arrOf y) k n=jW (arrOf st) k n)→(∀k n,sb+nb≤k→jW (arrOf y) k n=jW (arrOf st) k n)→Q true y):wpS (model prog w) A E s (mergeAt' l1.length) Q st:=by
 have gz:=g.sz
 have gm:=g.mem
 generalize hxs:arrOf st=xs at gz gm u1 u2 q
 obtain⟨p1,p2⟩:=i5 hp
 rw [pj]
 refine wpS_bind (wpS_get ?_)
 rw [p1,p2,hxs]
 have hP:=aG (v:=(sa,na+nb,pa)) hp
 show wpS _ _ _ _ ((set (setPending st (((pendingOf st).setIfInBounds l1.length (sa,na+nb,pa)).eraseIdxIfInBounds (l1.length+1))):StateT SortSt Sem PUnit)>>=_) _ _
 generalize hps:((pendingOf st).setIfInBounds l1.length (sa,na+nb,pa)).eraseIdxIfInBounds (l1.length+1)=ps at hP
 refine wpS_bind (qg ?_)
 have g1:Gd f z (setPending st ps):=⟨g.pm,g.kd,g.fl⟩
 have hsb2:sb<xs.size:=by omega
 have eu:∀y:SortSt,arrOf y=xs→Up o (jW xs sa (na+nb))→Gd f z y→(pendingOf y).toList=l1++(sa,na+nb,pa)::l2→Q true y:=fun y ey u gy py=>q y gy py (by rw [ey];exact u) (fun k n _=>by rw [ey]) (fun k n _=>by rw [ey])
 have whole:jW xs sa (na+nb)=jW xs sa na++jW xs sb nb:=by
  have:=UR xs sa na (na+nb) (by omega)
  rw [this,show na+nb - na=nb by omega,←hsb]
 refine wpS_bind (JD hsb2 (wpS_bind (zj O g1.kd gm (gm _ (uB _)) (by omega) (by omega) (fun i j hij hj hjn=>Gi u1 hij hjn hj) fun k hk less rest=>?_)))
 have b0:∀q∈jW xs sb nb,JI o xs[sb] q:=fun q hq=>by
  obtain⟨j,hj,j1,rfl⟩:=Vq hq
  exact Gi u2 (i:=0) (Nat.zero_le _) j1 hj
 have a1b:∀p∈jW xs sa k,∀q∈jW xs sb nb,JI o p q:=fun p hp q hq=>by
  obtain⟨j,hj,j1,rfl⟩:=Vq hp
  exact JY (less j hj j1) (b0 q hq)
 have ea:=UR xs sa k na hk
 show wpS _ _ _ _ (if (na - k==0)=true then _ else _) _ _
 rcases Nat.lt_or_ge k na with hkn|hkn
 rotate_left
 ·rw [if_pos (by rw [beq_iff_eq];omega)]
  obtain rfl:k=na:=by omega
  refine wpS_pure (eu _ hxs ?_ g1 hP)
  rw [whole]
  exact List.pairwise_append.mpr ⟨u1,u2,a1b⟩
 rw [if_neg (by rw [beq_iff_eq];omega)]
 have hla:sa+k+(na - k) - 1<xs.size:=by omega
 have eix:sa+k+(na - k) - 1=sa+(na - 1):=by omega
 refine wpS_bind (JD hla (wpS_bind (ZT O g1.kd gm (gm _ (uB _)) (by omega) (by omega) (fun i j hij hj hjn=>Gi u2 hij hjn hj) fun nb' hnb less2 rest2=>?_)))
 simp only [eix] at less2 rest2
 have eb:=UR xs sb nb' nb hnb
 have a2b2:∀p∈jW xs (sa+k) (na - k),∀q∈jW xs (sb+nb') (nb - nb'),JI o p q:=fun p hp q hq=>by
  obtain⟨i,hi,i1,rfl⟩:=Vq hp
  obtain⟨j,hj,j1,rfl⟩:=Vq hq
  have h1:=Gi u1 (i:=k+i) (j:=na - 1) (by omega) (by omega) (by omega)
  have h2:=rest2 (nb'+j) (by omega) (by omega) (by omega)
  have e1:sa+(k+i)=sa+k+i:=by omega
  have e2:sb+(nb'+j)=sb+nb'+j:=by omega
  simp only [e1] at h1
  simp only [e2] at h2
  exact JY h1 h2
 show wpS _ _ _ _ (if (nb'==0)=true then _ else _) _ _
 rcases Nat.eq_zero_or_pos nb' with h0|h0
 ·subst h0
  rw [if_pos (by rw [beq_iff_eq])]
  refine wpS_pure (eu _ hxs ?_ g1 hP)
  rw [whole]
  refine List.pairwise_append.mpr ⟨u1,u2,fun p hp q hq=>?_⟩
  rw [ea] at hp
  rcases List.mem_append.mp hp with hp|hp
  ·exact a1b p hp q hq
  ·exact a2b2 p hp q hq
 rw [if_neg (by rw [beq_iff_eq];omega)]
 have ex:(xs.extract (sa+k) sb).toList=jW xs (sa+k) (na - k):=by
  rw [show sb=sa+k+(na - k) by omega];exact NT
 have ey:(xs.extract sb (sb+nb')).toList=jW xs sb nb':=NT
 have sx:(xs.extract (sa+k) sb).size=na - k:=by rw [Array.size_extract];omega
 have sy:(xs.extract sb (sb+nb')).size=nb':=by rw [Array.size_extract];omega
 have T:Y1 o f z (xs.extract (sa+k) sb) (xs.extract sb (sb+nb')) (setPending st ps):=by
  refine⟨g1.kd,fun p hp=>?_,fun p hp=>?_,?_,?_,fun p hp hi=>?_,fun p hp hi=>?_⟩
  ·rw [ex] at hp;exact gm p (NU hp)
  ·rw [ey] at hp;exact gm p (NU hp)
  ·rw [ex];rw [ea] at u1;exact (List.pairwise_append.mp u1).2.1
  ·rw [ey];rw [eb] at u2;exact (List.pairwise_append.mp u2).1
  ·rw [ey] at hp
   obtain⟨j,hj,j1,rfl⟩:=Vq hp
   have h:=KeyOrd.kle_of_klt (less2 j hj j1)
   rw [Array.getElem_extract]
   have e1:sa+k+((xs.extract (sa+k) sb).size - 1)=sa+(na - 1):=by rw [sx];omega
   simp only [e1]
   exact h
  ·rw [ex] at hp
   obtain⟨j,hj,j1,rfl⟩:=Vq hp
   rw [Array.getElem_extract]
   have h:=KeyOrd.kle_of_klt (rest (k+j) (by omega) (by omega) (by omega))
   have e1:sa+(k+j)=sa+k+j:=by omega
   simp only [e1] at h
   exact h
 have fin:∀m y,Sm (setPending st ps) y→Mg o (xs.extract (sa+k) sb) (xs.extract sb (sb+nb')) m→wpS (model prog w) A E s (do
   modify fun t=>setArr t (m.toList.zipIdx.foldl (fun u (p,j)=>u.setIfInBounds (sa+k+j) p) (arrOf t))
   return (failedOf (←get)).isNone) Q y:=fun m y sm mg=>by
  have ya:arrOf y=xs:=sm.ar.trans hxs
  have ml:m.toList.length=na - k+nb':=by
   have:=mg.pm.length_eq
   rw [List.length_append,Array.length_toList,Array.length_toList,Array.length_toList,sx,sy] at this
   rw [Array.length_toList];exact this
  refine wpS_bind (wpS_modify (wpS_bind (wpS_get (wpS_pure ?_))))
  have e:=mw m.toList xs (sa+k) 0 (by omega)
  rw [Nat.add_zero] at e
  show Q (failedOf y).isNone (setArr y (m.toList.zipIdx.foldl (fun u (p,j)=>u.setIfInBounds (sa+k+j) p) (arrOf y)))
  rw [ya,sm.fl,show failedOf (setPending st ps)=none from g.fl]
  generalize m.toList.zipIdx.foldl (fun (u:tw) (x:Keyed×Nat)=>match x with|(p,j)=>u.setIfInBounds (sa+k+j) p) xs=ys at e
  obtain⟨lo,hi,mid⟩:=ld (by omega) e
  have ends:sa+k+m.toList.length=sb+nb':=by omega
  have pmM:m.toList.Perm (jW xs (sa+k) (na - k)++jW xs sb nb'):=by rw [←ex,←ey];exact mg.pm
  refine q (setArr y ys) ⟨?_,sm.kd.trans g1.kd,sm.fl.trans g1.fl⟩ ((congrArg Array.toList sm.pd).trans hP) ?_ (fun k' n hk'=>lo k' n (by omega)) (fun k' n hk'=>hi k' n (by omega))
  ·show ys.Perm z
   refine Array.Perm.trans (Array.perm_iff_toList_perm.mpr ?_) (hxs▸g.pm)
   rw [e]
   have e3:xs.toList=xs.toList.take (sa+k)++(jW xs (sa+k) (na - k)++jW xs sb nb')++xs.toList.drop (sa+k+m.toList.length):=by
    have h1:=(List.take_append_drop (sa+k) xs.toList).symm
    have h2:=(List.take_append_drop m.toList.length (xs.toList.drop (sa+k))).symm
    rw [List.drop_drop] at h2
    have h3:(xs.toList.drop (sa+k)).take m.toList.length=jW xs (sa+k) (na - k)++jW xs sb nb':=by
     have:=UR xs (sa+k) (na - k) (na - k+nb') (by omega)
     rw [show na - k+nb' - (na - k)=nb' by omega,show sa+k+(na - k)=sb by omega] at this
     rw [ml];exact this
    rw [h3] at h2
    rw [h2,←List.append_assoc] at h1
    exact h1
   conv=>rhs;rw [e3]
   exact List.Perm.append_right _ (List.Perm.append_left _ pmM)
  ·show Up o (jW ys sa (na+nb))
   have s1:=UR ys sa k (na+nb) (by omega)
   have s2:=UR ys (sa+k) m.toList.length (na+nb - k) (by omega)
   rw [s1,s2,mid,lo sa k (by omega),hi _ _ (by omega),ends,show na+nb - k - m.toList.length=nb - nb' by omega,←List.append_assoc]
   refine eS (a2:=jW xs (sa+k) (na - k)) (b1:=jW xs sb nb') (by rw [←ea];exact u1) (by rw [←eb];exact u2) mg.up pmM (fun p hp q hq=>a1b p hp q (by rw [eb];exact hq)) a2b2
 show wpS _ _ _ _ (if na - k≤nb' then fE (xs.extract (sa+k) sb) (xs.extract sb (sb+nb'))>>=_ else fD (xs.extract (sa+k) sb) (xs.extract sb (sb+nb'))>>=_) _ _
 split
 ·exact wpS_bind (pD O T (by omega) (by omega) fin)
 ·exact wpS_bind (pB O T (by omega) (by omega) fin)
end
end TS
namespace TS
open PySem PyProof.Rows L2
def a9 (lo a n:Nat):StateT SortSt Sem AscSt :=
 forIn [a:n] ((none,a):AscSt) fun _ c=>do
  let some r ←ltAt' (lo+c.2) (lo+c.2 - 1)|pure (.done (some none,c.2))
  if r then pure (.done (none,c.2)) else pure (.yield (none,c.2+1))
def Ks (lo a n:Nat):StateT SortSt Sem DescSt :=
 forIn [a:n] ((none,a,0):DescSt) fun _ c=>do
  let some r ←ltAt' (lo+c.2.1) (lo+c.2.1 - 1)|pure (.done (some none,c.2.1,c.2.2))
  if r then
   if c.2.2 > 0 then
    reverseSlice' (lo+c.2.1 - (c.2.2+1)) (lo+c.2.1)
    pure (.yield (none,c.2.1+1,0))
   else pure (.yield (none,c.2.1+1,0))
  else
   let some r ←ltAt' (lo+c.2.1 - 1) (lo+c.2.1)|pure (.done (some none,c.2.1,c.2.2))
   if r then pure (.done (none,c.2.1,c.2.2)) else pure (.yield (none,c.2.1+1,c.2.2+1))
section
variable {prog:tM}{w:World}{A:Around}{E:sV}{s:Shared}{f:Bool}{z:tw}{o:KeyKind}
theorem mV {st:SortSt}{i j:Nat}{Q:Option Bool→SortSt→Prop} (O:Uu prog w A s f o z) (g:Gd f z st) (hi:i<z.size) (hj:j<z.size) (h:Q (some (o.blt (KK o (arrOf st) i) (KK o (arrOf st) j))) st):wpS (model prog w) A E s (ltAt' i j) Q st:=by
 have kk:∀{k} (hk:k<(arrOf st).size),KK o (arrOf st) k=kv o (arrOf st)[k]:=fun {k} hk=>by unfold KK;rw [getElem?_pos (arrOf st) k hk];rfl
 have h1:i<(arrOf st).size:=g.sz▸hi
 have h2:j<(arrOf st).size:=g.sz▸hj
 rw [kk h1,kk h2] at h
 rw [ltAt'_eq]
 exact wpS_bind (wpS_get (wpS_bind (JD h1 (wpS_bind (JD h2 (gQ O g.kd (g.mem _ (uB h1)) (g.mem _ (uB h2)) h))))))
structure Rn (f:Bool) (z:tw) (x:SortSt) (lo:Nat) (y:SortSt):Prop where
 gd:Gd f z y
 pd:pendingOf y=pendingOf x
 low:∀k,k<lo→(arrOf y)[k]?=(arrOf x)[k]?
theorem Rn.refl {x:SortSt} (g:Gd f z x) (lo:Nat):Rn f z x lo x:=⟨g,rfl,fun _ _=>rfl⟩
theorem Rn.mir {x y:SortSt}{lo i j:Nat} (r:Rn f z x lo y) (hi:lo≤i) (hj:j≤z.size):Rn f z x lo (setArr y (mirror (arrOf y) i j ((j - i) / 2))):=by
 refine⟨⟨(mirror_perm _ _ _ _).trans r.gd.pm,r.gd.kd,r.gd.fl⟩,r.pd,fun k hk=>?_⟩
 show (mirror (arrOf y) i j ((j - i) / 2))[k]?=_
 rw [getElem?_mirror_all (by rw [r.gd.sz];exact hj),if_neg (by omega)]
 exact r.low k hk
def SU (o:KeyKind) (xs:tw) (lo m:Nat):Prop:=∀i j,i≤j→j<m→o.kle (KK o xs (lo+i)) (KK o xs (lo+j))
def SD (o:KeyKind) (xs:tw) (lo m:Nat):Prop:=∀i j,i≤j→j<m→o.kle (KK o xs (lo+j)) (KK o xs (lo+i))
theorem SU.more {xs:tw}{lo i:Nat} (u:SU o xs lo i) (h:1≤i) (hl:o.kle (KK o xs (lo+(i - 1))) (KK o xs (lo+i))):SU o xs lo (i+1):=fun g k hgk hk=>by
 rcases Nat.lt_or_ge k i with hki|hki
 ·exact u g k hgk hki
 ·obtain rfl:k=i:=by omega
  rcases Nat.lt_or_ge g k with hg|hg
  ·exact KeyOrd.kle_trans (u g (k - 1) (by omega) (by omega)) hl
  ·obtain rfl:g=k:=by omega
   exact KeyOrd.kle_refl _
theorem SD.more {xs ys:tw}{lo i:Nat} (hk:∀k,KK o ys k=KK o xs k) (u:SD o xs lo i) (h:1≤i) (hl:o.kle (KK o xs (lo+i)) (KK o xs (lo+(i - 1)))):SD o ys lo (i+1):=fun g k hgk hk2=>by
 rw [hk,hk]
 rcases Nat.lt_or_ge k i with hki|hki
 ·exact u g k hgk hki
 ·obtain rfl:k=i:=by omega
  rcases Nat.lt_or_ge g k with hg|hg
  ·exact KeyOrd.kle_trans hl (u g (k - 1) (by omega) (by omega))
  ·obtain rfl:g=k:=by omega
   exact KeyOrd.kle_refl _
theorem ba {x st:SortSt}{lo a n:Nat}{Q:AscSt→SortSt→Prop} (O:Uu prog w A s f o z) (hn:lo+n≤z.size) (ha:1≤a) (han:a≤n) (r:Rn f z x lo st) (u:SU o (arrOf st) lo a)
  (q:∀m,a≤m→m≤n→SU o (arrOf st) lo m→(m=n∨o.klt (KK o (arrOf st) (lo+m)) (KK o (arrOf st) (lo+(m - 1))))→Q (none,m) st):wpS (model prog w) A E s (a9 lo a n) Q st:=by
 refine wpS_forRange (I:=fun i c y=>y=st∧c=(none,i)∧SU o (arrOf st) lo i) (fun i c y h1 h2 hy=>?_) (fun c y hy=>?_) ⟨rfl,rfl,u⟩
 ·obtain⟨rfl,rfl,up⟩:=hy
  refine wpS_bind (mV O r.gd (show lo+i<_ by omega) (show lo+i - 1<_ by omega) ?_)
  show wpS _ _ _ _ (if o.blt (KK o (arrOf y) (lo+i)) (KK o (arrOf y) (lo+i - 1))=true then _ else _) _ _
  rw [show lo+i - 1=lo+(i - 1) by omega]
  cases hl:o.blt (KK o (arrOf y) (lo+i)) (KK o (arrOf y) (lo+(i - 1))) with
  | true=>rw [if_pos rfl];exact wpS_pure (q i h1 (by omega) up (.inr hl))
  | false=>rw [if_neg Bool.false_ne_true];exact wpS_pure ⟨rfl,rfl,up.more (by omega) hl⟩
 ·obtain⟨rfl,rfl,up⟩:=hy
  have e:max a n=n:=by omega
  rw [e] at up ⊢
  exact q n han (Nat.le_refl _) up (.inl rfl)
def lV (k:AscSt→StateT SortSt Sem (Option Nat)):Prop:=∀m,k (none,m)=pure (some m)
theorem Nj {k:AscSt→StateT SortSt Sem (Option Nat)} (hk:lV k) {x st:SortSt} {lo a n:Nat} {Q:Option Nat→SortSt→Prop} (O:Uu prog w A s f o z) (hn:lo+n≤z.size) (ha:1≤a) (han:a≤n) (r:Rn f z x lo st) (d:SD o (arrOf st) lo a)
  (q:∀m y,Rn f z x lo y→1≤m→m≤n→SU o (arrOf y) lo m→Q (some m) y):wpS (model prog w) A E s (reverseSlice' lo (lo+a)>>=fun _=>a9 lo a n>>=k) Q st:=by
 have hz:lo+a≤(arrOf st).size:=by rw [r.gd.sz];omega
 have r2:=r.mir (i:=lo) (j:=lo+a) (Nat.le_refl _) (by omega)
 refine wpS_bind (wpS_reverse (wpS_bind (ba O hn ha han r2 (fun i j hij hj=>?_) fun m h1 h2 up _=>by rw [hk];exact wpS_pure (q m _ r2 (by omega) h2 up))))
 show o.kle (KK o (mirror (arrOf st) lo (lo+a) _) (lo+i)) (KK o (mirror (arrOf st) lo (lo+a) _) (lo+j))
 rw [KK_mirror hz,KK_mirror hz,if_pos ⟨by omega,by omega⟩,if_pos ⟨by omega,by omega⟩]
 have:=d (a - 1 - j) (a - 1 - i) (by omega) (by omega)
 rw [show lo+(lo+a) - 1 - (lo+i)=lo+(a - 1 - i) by omega,show lo+(lo+a) - 1 - (lo+j)=lo+(a - 1 - j) by omega]
 exact this
theorem c7 {x st:SortSt}{lo a n:Nat}{Q:DescSt→SortSt→Prop} (O:Uu prog w A s f o z) (hn:lo+n≤z.size) (ha:1≤a) (han:a≤n) (r:Rn f z x lo st) (d:SD o (arrOf st) lo a)
  (q:∀m e y,Rn f z x lo y→a≤m→m≤n→SD o (arrOf y) lo m→e+1≤m→(∀i,lo+m - (e+1)≤i→i<lo+m→KK o (arrOf y) i=KK o (arrOf y) (lo+m - 1))→Q (none,m,e) y):wpS (model prog w) A E s (Ks lo a n) Q st:=by
 refine wpS_forRange (I:=fun i c y=>∃e,c=(none,i,e)∧Rn f z x lo y∧SD o (arrOf y) lo i∧e+1≤i∧∀k,lo+i - (e+1)≤k→k<lo+i→KK o (arrOf y) k=KK o (arrOf y) (lo+i - 1)) (fun i c y h1 h2 hy=>?_) (fun c y hy=>?_) ⟨0,rfl,r,d,by omega,fun k p1 p2=>congrArg _ (by omega)⟩
 ·obtain⟨e,rfl,r2,dn,he,eqs⟩:=hy
  have hz:lo+i≤(arrOf y).size:=by rw [r2.gd.sz];omega
  refine wpS_bind (mV O r2.gd (show lo+i<_ by omega) (show lo+i - 1<_ by omega) ?_)
  show wpS _ _ _ _ (if o.blt (KK o (arrOf y) (lo+i)) (KK o (arrOf y) (lo+i - 1))=true then _ else _) _ _
  have ei:lo+i - 1=lo+(i - 1):=by omega
  cases hl:o.blt (KK o (arrOf y) (lo+i)) (KK o (arrOf y) (lo+i - 1)) with
  | true =>
   rw [if_pos rfl]
   have hle:o.kle (KK o (arrOf y) (lo+i)) (KK o (arrOf y) (lo+(i - 1))):=by rw [←ei];exact KeyOrd.kle_of_klt (O:=o.toKeyOrd) hl
   show wpS _ _ _ _ (if e > 0 then _ else _) _ _
   by_cases h0:e > 0
   ·rw [if_pos h0]
    exact wpS_bind (wpS_reverse (wpS_pure ⟨0,rfl,r2.mir (show lo≤lo+i - (e+1) by omega) (show lo+i≤_ by omega),SD.more (KK_mirror_equal hz eqs) dn (by omega) hle,by omega,fun k p1 p2=>congrArg _ (by omega)⟩))
   ·rw [if_neg h0]
    exact wpS_pure ⟨0,rfl,r2,SD.more (fun _=>rfl) dn (by omega) hle,by omega,fun k p1 p2=>congrArg _ (by omega)⟩
  | false =>
   rw [if_neg Bool.false_ne_true]
   refine wpS_bind (mV O r2.gd (show lo+i - 1<_ by omega) (show lo+i<_ by omega) ?_)
   show wpS _ _ _ _ (if o.blt (KK o (arrOf y) (lo+i - 1)) (KK o (arrOf y) (lo+i))=true then _ else _) _ _
   cases hg:o.blt (KK o (arrOf y) (lo+i - 1)) (KK o (arrOf y) (lo+i)) with
   | true=>rw [if_pos rfl];exact wpS_pure (q i e y r2 h1 (by omega) dn he eqs)
   | false =>
    rw [if_neg Bool.false_ne_true]
    have same:KK o (arrOf y) (lo+i)=KK o (arrOf y) (lo+i - 1):=o.total _ _ hl hg
    refine wpS_pure ⟨e+1,rfl,r2,SD.more (fun _=>rfl) dn (by omega) (by rw [←ei];exact hg),by omega,fun k p1 p2=>?_⟩
    rw [show lo+(i+1) - 1=lo+i by omega]
    rcases Nat.lt_or_ge k (lo+i) with hk|hk
    ·rw [same];exact eqs k (by omega) hk
    ·exact congrArg _ (by omega)
 ·obtain⟨e,rfl,r2,dn,he,eqs⟩:=hy
  have em:max a n=n:=by omega
  rw [em] at dn he eqs ⊢
  exact q n e y r2 han (Nat.le_refl _) dn he eqs
def qE (lo n:Nat) (k:DescSt→StateT SortSt Sem (Option Nat)):Prop:=∃k1,lV k1∧∀m e,k (none,m,e)=if e > 0 then reverseSlice' (lo+m - (e+1)) (lo+m)>>=fun _=>reverseSlice' lo (lo+m)>>=fun _=>a9 lo m n>>=k1 else reverseSlice' lo (lo+m)>>=fun _=>a9 lo m n>>=k1
theorem K4 {k2:DescSt→StateT SortSt Sem (Option Nat)}{x st:SortSt}{lo a n:Nat}{Q:Option Nat→SortSt→Prop} (hk:qE lo n k2) (O:Uu prog w A s f o z) (hn:lo+n≤z.size) (han:a+1≤n) (r:Rn f z x lo st) (d:SD o (arrOf st) lo (a+1))
  (q:∀m y,Rn f z x lo y→1≤m→m≤n→SU o (arrOf y) lo m→Q (some m) y):wpS (model prog w) A E s (liftM (rule "list.sort.descending-run")>>=fun _=>Ks lo (a+1) n>>=k2) Q st:=by
 obtain⟨k1,hk1,hk2⟩:=hk
 refine wpS_bind (wpS_lift (wpAny_rule ⟨rfl,wpS_bind (c7 O hn (by omega) han r d fun m e y r2 h1 h2 dn he eqs=>?_)⟩))
 have hz:lo+m≤(arrOf y).size:=by rw [r2.gd.sz];omega
 rw [hk2]
 by_cases h0:e > 0
 ·rw [if_pos h0]
  refine wpS_bind (wpS_reverse (Nj hk1 (a:=m) O hn (by omega) h2 (r2.mir (show lo≤lo+m - (e+1) by omega) (show lo+m≤_ by omega)) (fun i j hij hj=>?_) q))
  have ek:=KK_mirror_equal hz eqs
  show o.kle (KK o (mirror (arrOf y) (lo+m - (e+1)) (lo+m) _) (lo+j)) (KK o (mirror (arrOf y) (lo+m - (e+1)) (lo+m) _) (lo+i))
  rw [ek,ek]
  exact dn i j hij hj
 ·rw [if_neg h0]
  exact Nj hk1 (a:=m) O hn (by omega) h2 r2 dn q
theorem ox {st:SortSt}{lo n:Nat}{Q:Option Nat→SortSt→Prop} (O:Uu prog w A s f o z) (hn:lo+n≤z.size) (h1:1≤n) (g:Gd f z st)
  (q:∀m y,Rn f z st lo y→1≤m→m≤n→SU o (arrOf y) lo m→Q (some m) y):wpS (model prog w) A E s (countRun' lo n) Q st:=by
 rw [countRun'_eq]
 show wpS _ _ _ _ (a9 lo 1 n>>=_) _ _
 have r:=Rn.refl g lo
 refine wpS_bind (ba O hn (Nat.le_refl 1) h1 r (fun i j hij hj=>?_) fun m m1 m2 up last=>?_)
 ·obtain rfl:i=j:=by omega
  exact KeyOrd.kle_refl _
 show wpS _ _ _ _ (if (m==n)=true then _ else _) _ _
 rcases Nat.lt_or_ge m n with hmn|hmn
 ·rw [if_neg (by rw [beq_iff_eq];omega)]
  have hl:=last.resolve_left (by omega)
  show wpS _ _ _ _ (if m > 1 then _ else _) _ _
  rcases Nat.lt_or_ge 1 m with hm|hm
  ·rw [if_pos hm]
   refine wpS_bind (mV O g (show lo<_ by omega) (show lo+m - 1<_ by omega) ?_)
   show wpS _ _ _ _ (if o.blt (KK o (arrOf st) lo) (KK o (arrOf st) (lo+m - 1))=true then _ else _) _ _
   cases hr:o.blt (KK o (arrOf st) lo) (KK o (arrOf st) (lo+m - 1)) with
   | true=>rw [if_pos rfl];exact wpS_pure (q m st r m1 m2 up)
   | false =>
    rw [if_neg Bool.false_ne_true]
    have hz:lo+m≤(arrOf st).size:=by rw [g.sz];omega
    have eqs:∀k,lo≤k→k<lo+m→KK o (arrOf st) k=KK o (arrOf st) (lo+m - 1):=fun k k1 k2=>by
     have a1:=up (k - lo) (m - 1) (by omega) (by omega)
     have a2:=up 0 (k - lo) (by omega) (by omega)
     rw [show lo+(k - lo)=k by omega,show lo+(m - 1)=lo+m - 1 by omega] at a1
     rw [show lo+(k - lo)=k by omega,Nat.add_zero] at a2
     exact KeyOrd.kle_antisymm a1 (KeyOrd.kle_trans hr a2)
    have ek:=KK_mirror_equal hz eqs
    refine wpS_bind (wpS_reverse ?_)
    show wpS _ _ _ _ (liftM (rule "list.sort.descending-run")>>=fun _=>Ks lo (m+1) n>>=_) _ _
    refine K4 ⟨_,fun _=>rfl,fun _ _=>rfl⟩ O hn (by omega) (r.mir (Nat.le_refl _) (by omega)) (SD.more (xs:=arrOf st) ek (fun i j hij hj=>?_) m1 (KeyOrd.kle_of_klt hl)) q
    rw [eqs (lo+i) (by omega) (by omega),eqs (lo+j) (by omega) (by omega)]
    exact KeyOrd.kle_refl _
  ·rw [if_neg (by omega)]
   obtain rfl:m=1:=by omega
   show wpS _ _ _ _ (liftM (rule "list.sort.descending-run")>>=fun _=>Ks lo (1+1) n>>=_) _ _
   refine K4 ⟨_,fun _=>rfl,fun _ _=>rfl⟩ O hn (by omega) r (SD.more (xs:=arrOf st) (fun _=>rfl) (fun i j hij hj=>?_) m1 (KeyOrd.kle_of_klt hl)) q
   obtain rfl:i=j:=by omega
   exact KeyOrd.kle_refl _
 ·rw [if_pos (by rw [beq_iff_eq];omega)]
  exact wpS_pure (q m st r m1 m2 up)
theorem oh {x st:SortSt}{lo n a:Nat}{Q:Bool→SortSt→Prop} (O:Uu prog w A s f o z) (hn:lo+n≤z.size) (han:a≤n) (r:Rn f z x lo st) (u:SU o (arrOf st) lo a)
  (q:∀y,Rn f z x lo y→SU o (arrOf y) lo n→Q true y):wpS (model prog w) A E s (binarySort' lo n a) Q st:=by
 rw [binarySort'_eq]
 refine wpS_bind (wpS_mono (wpS_forRange (I:=fun k c y=>c=(none,())∧Rn f z x lo y∧SU o (arrOf y) lo (min k n)) (Q:=fun c y=>c=(none,())∧Rn f z x lo y∧SU o (arrOf y) lo n) (fun k c y k1 k2 hy=>?_) (fun c y hy=>?_) ⟨rfl,r,fun i j hij hj=>?_⟩) fun c y hy=>?_)
 ·obtain⟨rfl,b2,up⟩:=hy
  rw [Nat.min_eq_left (by omega)] at up
  have hk:lo+k<z.size:=by omega
  refine wpS_bind (wpS_mono (wpS_forRange (I:=fun i c y'=>y'=y∧∃l r,c=(none,l,r)∧l≤r∧r≤k∧r - l≤k - i∧(∀g,g<l→o.kle (KK o (arrOf y) (lo+g)) (KK o (arrOf y) (lo+k)))∧∀g,r≤g→g<k→o.klt (KK o (arrOf y) (lo+k)) (KK o (arrOf y) (lo+g)))
   (Q:=fun c y'=>y'=y∧∃l r,c=(none,l,r)∧l≤k∧(∀g,g<l→o.kle (KK o (arrOf y) (lo+g)) (KK o (arrOf y) (lo+k)))∧∀g,l≤g→g<k→o.klt (KK o (arrOf y) (lo+k)) (KK o (arrOf y) (lo+g))) (fun i c y' i1 i2 hy=>?_) (fun c y' hy=>?_) ⟨rfl,0,k,rfl,by omega,by omega,by omega,fun g hg=>absurd hg (by omega),fun g p1 p2=>absurd p1 (by omega)⟩) fun c y' hy=>?_)
  ·obtain⟨rfl,l,r',rfl,lr,rk,fu,lw,hw⟩:=hy
   show wpS _ _ _ _ (if l≥r' then _ else _) _ _
   rcases Nat.lt_or_ge l r' with hlr|hlr
   ·rw [if_neg (by omega)]
    refine wpS_bind (mV O b2.gd hk (show lo+(l+r') / 2<_ by omega) ?_)
    show wpS _ _ _ _ (if o.blt (KK o (arrOf y') (lo+k)) (KK o (arrOf y') (lo+(l+r') / 2))=true then _ else _) _ _
    cases hl:o.blt (KK o (arrOf y') (lo+k)) (KK o (arrOf y') (lo+(l+r') / 2)) with
    | true=>rw [if_pos rfl];exact wpS_pure ⟨rfl,l,(l+r') / 2,rfl,by omega,by omega,by omega,lw,fun g p1 p2=>KeyOrd.klt_of_klt_of_kle hl (up _ _ p1 p2)⟩
    | false=>rw [if_neg Bool.false_ne_true];exact wpS_pure ⟨rfl,(l+r') / 2+1,r',rfl,by omega,by omega,by omega,fun g p1=>KeyOrd.kle_trans (up g ((l+r') / 2) (by omega) (by omega)) hl,hw⟩
   ·rw [if_pos hlr]
    obtain rfl:l=r':=by omega
    exact wpS_pure ⟨rfl,l,l,rfl,rk,lw,hw⟩
  ·obtain⟨rfl,l,r',rfl,lr,rk,fu,lw,hw⟩:=hy
   obtain rfl:l=r':=by omega
   exact⟨rfl,l,l,rfl,rk,lw,hw⟩
  ·obtain⟨rfl,l,r',rfl,lk,lw,hw⟩:=hy
   show wpS _ _ _ _ (moveDown' (lo+k) (lo+l)>>=fun _=>pure (ForInStep.yield (none,()))) _ _
   rw [moveDown'_eq]
   have hz:lo+k<(arrOf y').size:=by rw [b2.gd.sz];exact hk
   refine wpS_bind (wpS_modify (wpS_pure ⟨rfl,⟨⟨(bubble_perm _ _ _).trans b2.gd.pm,b2.gd.kd,b2.gd.fl⟩,b2.pd,fun g hg=>?_⟩,fun i j hij hj=>?_⟩))
   ·show (bubble (arrOf y') (lo+k) (lo+k - (lo+l)))[g]?=_
    rw [getElem?_bubble hz _ (by omega),if_neg (by omega),if_neg (by omega)]
    exact b2.low g hg
   ·have kb:=fun g=>KK_bubble (κ:=o) hz (show lo+k - (lo+l)≤lo+k by omega) g
    rw [show lo+k - (lo+k - (lo+l))=lo+l by omega] at kb
    show o.kle (KK o (bubble (arrOf y') (lo+k) (lo+k - (lo+l))) (lo+i)) (KK o (bubble (arrOf y') (lo+k) (lo+k - (lo+l))) (lo+j))
    rw [kb,kb]
    rw [Nat.min_eq_left (by omega)] at hj
    have dec:∀g,lo+g - 1=lo+(g - 1)∨g=0:=fun g=>by omega
    split
    ·split
     ·exact KeyOrd.kle_refl _
     ·split
      ·rw [show lo+j - 1=lo+(j - 1) by omega]
       exact KeyOrd.kle_of_klt (hw _ (by omega) (by omega))
      ·exact absurd hij (by omega)
    ·split
     ·split
      ·exact absurd hij (by omega)
      ·split
       ·rw [show lo+i - 1=lo+(i - 1) by omega,show lo+j - 1=lo+(j - 1) by omega]
        exact up _ _ (by omega) (by omega)
       ·exact absurd hij (by omega)
     ·split
      ·exact lw _ (by omega)
      ·split
       ·rw [show lo+j - 1=lo+(j - 1) by omega]
        exact up _ _ (by omega) (by omega)
       ·exact up _ _ (by omega) (by omega)
 ·obtain⟨rfl,b2,up⟩:=hy
  rw [Nat.min_eq_right (by omega)] at up
  exact⟨rfl,b2,up⟩
 ·rcases Nat.eq_zero_or_pos a with h0|h0
  ·obtain rfl:i=j:=by omega
   exact KeyOrd.kle_refl _
  ·exact u i j hij (by omega)
 ·obtain⟨rfl,b2,up⟩:=hy
  exact wpS_pure (q y b2 up)
end
end TS
namespace TS
open PySem PyProof.Rows L2
def Ut (o:KeyKind) (xs:tw):List (Nat×Nat)→Nat→Nat→Prop
 | [],lo,hi=>lo=hi
 | (a,n)::r,lo,hi=>a=lo∧1≤n∧Up o (jW xs lo n)∧Ut o xs r (lo+n) hi
def pr (t:Nat×Nat×Nat):Nat×Nat:=(t.1,t.2.1)
def u6 (y:SortSt):List (Nat×Nat):=(pendingOf y).toList.map pr
section
variable {prog:tM}{w:World}{A:Around}{E:sV}{s:Shared}{f:Bool}{z:tw}{o:KeyKind}
theorem Ut.le {xs:tw}:∀{l:List (Nat×Nat)} {lo hi:Nat},Ut o xs l lo hi→lo+l.length≤hi
 | [],lo,hi,h=>Nat.le_of_eq h
 | (a,n)::r,lo,hi,⟨_,h1,_,h2⟩=>by
  have:=h2.le
  rw [List.length_cons];omega
theorem Ut.congr {xs ys:tw}:∀{l:List (Nat×Nat)} {lo hi:Nat},Ut o xs l lo hi→(∀k n,lo≤k→k+n≤hi→jW ys k n=jW xs k n)→Ut o ys l lo hi
 | [],lo,hi,h,_=>h
 | (a,n)::r,lo,hi,⟨h0,h1,u,h2⟩,e=>by
  have:=h2.le
  exact⟨h0,h1,by rw [e lo n (Nat.le_refl _) (by omega)];exact u,h2.congr fun k m hk hm=>e k m (by omega) hm⟩
theorem Ut.app {xs:tw}:∀{l1 l2:List (Nat×Nat)} {lo hi:Nat},Ut o xs (l1++l2) lo hi→∃mid,Ut o xs l1 lo mid∧Ut o xs l2 mid hi
 | [],l2,lo,hi,h=>⟨lo,rfl,h⟩
 | (a,n)::r,l2,lo,hi,⟨h0,h1,u,h2⟩=>by
  obtain⟨mid,c1,c2⟩:=Ut.app h2
  exact⟨mid,⟨h0,h1,u,c1⟩,c2⟩
theorem Ut.join {xs:tw}:∀{l1 l2:List (Nat×Nat)} {lo mid hi:Nat},Ut o xs l1 lo mid→Ut o xs l2 mid hi→Ut o xs (l1++l2) lo hi
 | [],l2,lo,mid,hi,h,c=>by obtain rfl:lo=mid:=h;exact c
 | (a,n)::r,l2,lo,mid,hi,⟨h0,h1,u,h2⟩,c=>⟨h0,h1,u,h2.join c⟩
theorem NG {st:SortSt}{i hi:Nat}{Q:Bool→SortSt→Prop} (O:Uu prog w A s f o z) (g:Gd f z st) (c:Ut o (arrOf st) (u6 st) 0 hi) (hh:hi≤z.size) (uW:i+1<(pendingOf st).size)
  (q:∀y,Gd f z y→Ut o (arrOf y) (u6 y) 0 hi→(pendingOf y).size+1=(pendingOf st).size→(∀k n,hi≤k→jW (arrOf y) k n=jW (arrOf st) k n)→Q true y):wpS (model prog w) A E s (mergeAt' i) Q st:=by
 obtain⟨l1,x1,x2,l2,hl,h1⟩:∃l1 x1 x2 l2,(pendingOf st).toList=l1++x1::x2::l2∧l1.length=i:=by
  have h1:i+1<(pendingOf st).toList.length:=by rw [Array.length_toList];exact uW
  refine⟨(pendingOf st).toList.take i,(pendingOf st).toList[i],(pendingOf st).toList[i+1],(pendingOf st).toList.drop (i+2),?_,by rw [List.length_take];omega⟩
  have e:=(List.take_append_drop i (pendingOf st).toList).symm
  rw [List.drop_eq_getElem_cons (by omega),List.drop_eq_getElem_cons h1] at e
  exact e
 obtain⟨sa,na,pa⟩:=x1
 obtain⟨sb,nb,pb⟩:=x2
 have er:u6 st=l1.map pr++(sa,na)::(sb,nb)::l2.map pr:=by
  unfold u6
  rw [hl,List.map_append,List.map_cons,List.map_cons];rfl
 rw [er] at c
 obtain⟨mid,c1,h2,n1,u1,h3,n2,u2,c2⟩:=c.app
 subst h2
 subst h3
 have l3:=c2.le
 rw [←h1]
 refine pq O g hl rfl n1 n2 (by omega) u1 u2 fun y gy py up low high=>q y gy ?_ ?_ fun k n hk=>high k n (by omega)
 ·have ey:u6 y=l1.map pr++(sa,na+nb)::l2.map pr:=by
   unfold u6
   rw [py,List.map_append,List.map_cons];rfl
  rw [ey]
  refine Ut.join (c1.congr fun k n _ hk=>low k n hk) ⟨rfl,by omega,up,?_⟩
  rw [←Nat.add_assoc]
  exact c2.congr fun k n hk _=>high k n hk
 ·have e1:=congrArg List.length py
  have e2:=congrArg List.length hl
  simp only [Array.length_toList,List.length_append,List.length_cons] at e1 e2
  omega
theorem lv {xs ys:tw}{k n lo:Nat} (h:∀i,i<lo→ys[i]?=xs[i]?) (hk:k+n≤lo):jW ys k n=jW xs k n:=by
 apply List.ext_getElem?
 intro i
 unfold jW
 rw [List.getElem?_take,List.getElem?_take]
 split
 ·rw [List.getElem?_drop,List.getElem?_drop,Array.getElem?_toList,Array.getElem?_toList]
  exact h _ (by omega)
 ·rfl
theorem SU.up {xs:tw}{lo m:Nat} (u:SU o xs lo m) (h:lo+m≤xs.size):Up o (jW xs lo m):=by
 have kk:∀{k} (hk:k<xs.size),KK o xs k=kv o xs[k]:=fun {k} hk=>by unfold KK;rw [getElem?_pos xs k hk];rfl
 refine List.pairwise_iff_getElem.mpr fun i j hi hj hij=>?_
 rw [lu h] at hi hj
 rw [zZ _ (by omega),zZ _ (by omega)]
 have:=u i j (by omega) hj
 rw [kk (by omega),kk (by omega)] at this
 exact this
theorem dP {ps:Array (Nat×Nat×Nat)}{i pw:Nat}:(ps.modify i fun (t:Nat×Nat×Nat)=>match t with|(a,n,_)=>(a,n,pw)).toList.map pr=ps.toList.map pr:=by
 apply List.ext_getElem?
 intro k
 rw [List.getElem?_map,List.getElem?_map,Array.getElem?_toList,Array.getElem?_toList,Array.getElem?_modify]
 split
 ·cases ps[k]? with
  | none=>rfl
  | some t=>rfl
 ·rfl
structure Bt (o:KeyKind) (f:Bool) (z:tw) (lo:Nat) (y:SortSt):Prop where
 gd:Gd f z y
 cv:Ut o (arrOf y) (u6 y) 0 lo
def aA (n pw:Nat):StateT SortSt Sem (Option Unit×Unit) :=
 forIn [0:n] ((none,()):Option Unit×Unit) fun _ _=>do
  let p:=pendingOf (←get)
  let some (_,_,older):=(if p.size > 1 then p[p.size - 2]? else none)|pure (.done (none,()))
  if older≤pw then pure (.done (none,()))
  else
   if !(←mergeAt' (p.size - 2)) then pure (.done (some (),())) else pure (.yield (none,()))
theorem mX {st:SortSt}{n pw lo m:Nat}{Q:Option Unit×Unit→SortSt→Prop} (O:Uu prog w A s f o z) (b:Bt o f z lo st) (hl:lo≤z.size) (u:Up o (jW (arrOf st) lo m)) (q:∀y,Bt o f z lo y→Up o (jW (arrOf y) lo m)→Q (none,()) y):wpS (model prog w) A E s (aA n pw) Q st:=by
 refine wpS_forRange (I:=fun _ c y=>c=(none,())∧Bt o f z lo y∧Up o (jW (arrOf y) lo m)) (fun i c y _ _ hy=>?_) (fun c y hy=>?_) ⟨rfl,b,u⟩
 ·obtain⟨rfl,b1,u1⟩:=hy
  refine wpS_bind (wpS_get ?_)
  dsimp only
  rcases Nat.lt_or_ge 1 (pendingOf y).size with h1|h1
  ·rw [if_pos h1,getElem?_pos (pendingOf y) _ (show (pendingOf y).size - 2<_ by omega)]
   show wpS _ _ _ _ (if _≤pw then _ else _) _ _
   split
   ·exact wpS_pure (q y b1 u1)
   ·refine wpS_bind (NG O b1.gd b1.cv hl (by omega) fun y2 g2 c2 _ uW=>?_)
    exact wpS_pure ⟨rfl,⟨g2,c2⟩,by rw [uW lo m (Nat.le_refl _)];exact u1⟩
  ·rw [if_neg (by omega)]
   exact wpS_pure (q y b1 u1)
 ·obtain⟨rfl,b1,u1⟩:=hy
  exact q y b1 u1
theorem Bt.add {lo m:Nat}{y:SortSt} (b:Bt o f z lo y) (u:Up o (jW (arrOf y) lo m)) (hm:1≤m):Bt o f z (lo+m) (setPending y ((pendingOf y).push (lo,m,0))):=by
 refine⟨⟨b.gd.pm,b.gd.kd,b.gd.fl⟩,?_⟩
 have e:u6 (setPending y ((pendingOf y).push (lo,m,0)))=u6 y++[(lo,m)]:=by
  show ((pendingOf y).push (lo,m,0)).toList.map pr=_
  rw [Array.toList_push,List.map_append];rfl
 show Ut o (arrOf y) (u6 (setPending y ((pendingOf y).push (lo,m,0)))) 0 (lo+m)
 rw [e]
 exact b.cv.join ⟨rfl,hm,u,rfl⟩
theorem Bt.mod {lo i pw:Nat}{y:SortSt} (b:Bt o f z lo y):Bt o f z lo (setPending y ((pendingOf y).modify i fun (t:Nat×Nat×Nat)=>match t with|(a,n,_)=>(a,n,pw))):=by
 refine⟨⟨b.gd.pm,b.gd.kd,b.gd.fl⟩,?_⟩
 show Ut o (arrOf y) (((pendingOf y).modify i fun (t:Nat×Nat×Nat)=>match t with|(a,n,_)=>(a,n,pw)).toList.map pr) 0 lo
 rw [dP]
 exact b.cv
theorem Bt.run {lo:Nat}{x y:SortSt} (b:Bt o f z lo x) (r:Rn f z x lo y):Bt o f z lo y:=by
 refine⟨r.gd,?_⟩
 have e:u6 y=u6 x:=by unfold u6;rw [r.pd]
 rw [e]
 exact b.cv.congr fun k n _ hk=>lv r.low hk
theorem lC {st:SortSt}{Q:Unit→SortSt→Prop} (O:Uu prog w A s f o z) (g:Gd f z st) (p0:pendingOf st=#[]) (h2:2≤z.size)
  (q:∀y,Gd f z y→Up o (arrOf y).toList→Q () y):wpS (model prog w) A E s sortRuns' Q st:=by
 rw [sortRuns'_eq]
 refine wpS_bind (wpS_get ?_)
 simp only [g.sz]
 generalize minRun' z.size z.size 0=mr
 have b0:Bt o f z 0 st:=⟨g,by unfold u6;rw [p0];rfl⟩
 refine wpS_bind (wpS_mono (wpS_forRange (I:=fun i c y=>c.1=none∧c.2≤z.size∧i≤c.2∧Bt o f z c.2 y) (Q:=fun c y=>c=(none,z.size)∧Bt o f z z.size y) (fun i c y _ hi hy=>?_) (fun c y hy=>?_) ⟨rfl,Nat.zero_le _,Nat.le_refl _,b0⟩) fun c y hy=>?_)
 ·obtain⟨c1,lo⟩:=c
  obtain⟨e1,hl,hil,b⟩:=hy
  change c1=none at e1
  change lo≤z.size at hl
  change i≤lo at hil
  change Bt o f z lo y at b
  subst e1
  show wpS _ _ _ _ (if lo≥z.size then _ else _) _ _
  rcases Nat.lt_or_ge lo z.size with hlo|hlo
  ·rw [if_neg (by omega)]
   refine wpS_bind (ox O (show lo+(z.size - lo)≤_ by omega) (by omega) b.gd fun m y1 r1 m1 m2 su=>?_)
   have tail:∀(y2:SortSt) (k:Nat),Bt o f z lo y2→Up o (jW (arrOf y2) lo k)→1≤k→lo+k≤z.size→∀c:Option Unit×Nat,c=(none,lo+k)→c.1=none∧c.2≤z.size∧i+1≤c.2∧Bt o f z c.2 (setPending y2 ((pendingOf y2).push (lo,k,0))):=fun y2 k b2 u2 k1 k2 c hc=>by
    subst hc
    exact⟨rfl,k2,by show i+1≤lo+k;omega,b2.add u2 k1⟩
   show wpS _ _ _ _ (if m<mr then _ else _) _ _
   have rest:∀(y2:SortSt) (k:Nat),Rn f z y lo y2→SU o (arrOf y2) lo k→1≤k→lo+k≤z.size→Bt o f z lo y2∧Up o (jW (arrOf y2) lo k):=fun y2 k r2 su2 k1 k2=>⟨b.run r2,su2.up (by rw [r2.gd.sz];exact k2)⟩
   split
   ·refine wpS_bind (wpS_lift (wpAny_rule ⟨rfl,wpS_bind (oh (x:=y) O (show lo+min (z.size - lo) mr≤_ by omega) (by omega) r1 su fun y2 r2 su2=>?_)⟩))
    obtain⟨b2,u2⟩:=rest y2 _ r2 su2 (by omega) (by omega)
    refine wpS_bind (wpS_get ?_)
    cases hb:(pendingOf y2).back? with
    | none=>exact wpS_bind (wpS_modify (wpS_pure (tail y2 _ b2 u2 (by omega) (by omega) _ rfl)))
    | some t =>
     obtain⟨s1,n1,p1⟩:=t
     show wpS _ _ _ _ (aA z.size _>>=_) _ _
     refine wpS_bind (mX O b2 hl u2 fun y3 b3 u3=>?_)
     exact wpS_bind (wpS_modify (wpS_bind (wpS_modify (wpS_pure (tail _ _ b3.mod u3 (by omega) (by omega) _ rfl)))))
   ·obtain⟨b2,u2⟩:=rest y1 _ r1 su m1 (by omega)
    refine wpS_bind (wpS_get ?_)
    cases hb:(pendingOf y1).back? with
    | none=>exact wpS_bind (wpS_modify (wpS_pure (tail y1 _ b2 u2 m1 (by omega) _ rfl)))
    | some t =>
     obtain⟨s1,n1,p1⟩:=t
     show wpS _ _ _ _ (aA z.size _>>=_) _ _
     refine wpS_bind (mX O b2 hl u2 fun y3 b3 u3=>?_)
     exact wpS_bind (wpS_modify (wpS_bind (wpS_modify (wpS_pure (tail _ _ b3.mod u3 m1 (by omega) _ rfl)))))
  ·rw [if_pos hlo]
   obtain rfl:lo=z.size:=by omega
   exact wpS_pure ⟨rfl,b⟩
 ·obtain⟨c1,lo⟩:=c
  obtain⟨e1,hl,hil,b⟩:=hy
  change c1=none at e1
  change lo≤z.size at hl
  change max 0 z.size≤lo at hil
  change Bt o f z lo y at b
  obtain rfl:lo=z.size:=by omega
  subst e1
  exact⟨rfl,b⟩
 ·obtain⟨rfl,b⟩:=hy
  have len:∀y',Bt o f z z.size y'→(pendingOf y').size≤z.size:=fun y' b'=>by
   have:=b'.cv.le
   unfold u6 at this
   rw [List.length_map,Array.length_toList] at this
   omega
  refine wpS_bind (wpS_mono (wpS_forRange (I:=fun i c y=>c=(none,())∧Bt o f z z.size y∧((pendingOf y).size≤1∨(pendingOf y).size+i≤z.size)) (Q:=fun c y=>c=(none,())∧Bt o f z z.size y∧(pendingOf y).size≤1) (fun i c y _ _ hy=>?_) (fun c y hy=>?_) ⟨rfl,b,.inr (by have:=len y b;omega)⟩) fun c y hy=>?_)
  ·obtain⟨rfl,b1,hp⟩:=hy
   refine wpS_bind (wpS_get ?_)
   show wpS _ _ _ _ (if (pendingOf y).size≤1 then _ else _) _ _
   rcases Nat.lt_or_ge 1 (pendingOf y).size with h1|h1
   ·rw [if_neg (by omega)]
    have fin:∀k,k+1<(pendingOf y).size→∀{R:Bool→SortSt→Prop},(∀y2,Bt o f z z.size y2→(pendingOf y2).size+1=(pendingOf y).size→R true y2)→wpS (model prog w) A E s (mergeAt' k) R y:=fun k hk R hR=>NG O b1.gd b1.cv (Nat.le_refl _) hk fun y2 g2 c2 e2 _=>hR y2 ⟨g2,c2⟩ e2
    refine wpS_bind (fin _ ?_ fun y2 b2 e2=>wpS_pure ⟨rfl,b2,.inr (by omega)⟩)
    have hi:∀bb:Bool,(if bb=true then (pendingOf y).size - 2 - 1 else (pendingOf y).size - 2)+1<(pendingOf y).size:=fun bb=>by
     cases bb
     ·rw [if_neg Bool.false_ne_true];omega
     ·rw [if_pos rfl];omega
    exact hi _
   ·rw [if_pos h1]
    exact wpS_pure ⟨rfl,b1,h1⟩
  ·obtain⟨rfl,b1,hp⟩:=hy
   exact⟨rfl,b1,by omega⟩
  ·obtain⟨rfl,b1,hp⟩:=hy
   refine wpS_pure (q y b1.gd ?_)
   have cv:=b1.cv
   have hlen:(u6 y).length≤1:=by unfold u6;rw [List.length_map,Array.length_toList];exact hp
   match hr:u6 y,hlen with
   | [],_ =>
    rw [hr] at cv
    have:(0:Nat)=z.size:=cv
    omega
   | [(a,n)],_ =>
    rw [hr] at cv
    obtain⟨_,_,u,e⟩:=cv
    have e2:0+n=z.size:=e
    have e3:jW (arrOf y) 0 n=(arrOf y).toList:=by
     unfold jW
     rw [List.drop_zero]
     exact List.take_of_length_le (by rw [Array.length_toList,b1.gd.sz];omega)
    rw [e3] at u
    exact u
end
end TS
namespace TS
open PySem PyProof.Rows L2
def yg (h:Heap) (d:Addr) (es:Array DictEntry) (ep:Nat):Prop:=∃ob,h.get? d=some ob∧ob.ExactDict∧ob.data=.dict es ep
theorem yg.typeIs {s:Shared}{d:Addr}{es:Array DictEntry}{ep:Nat} (x:yg s.heap d es ep):s.TypeIs (.ref d) "dict":=by
 obtain⟨ob,e,c,_⟩:=x
 exact⟨ob,e,c.1⟩
section
variable {prog:tM}{w:World}{A:Around}{E:sV}{s:Shared}{d t:Addr}{es:Array DictEntry}{ep i:Nat}
theorem mO {Q:sV} (hd:(d==sysModules)=false) (x:yg s.heap d es ep)
  (q:Q (.ref s.heap.objs.size) { s with heap:=s.heap.push { cls:=.type "dict_keyiterator",data:=.fields #[.ref d,.int 0 0,.int es.size 0,.int ep 0] } }):wpAny (model prog w) A (pyIter (.ref d)) Q E s:=by
 have ty:=x.typeIs
 obtain⟨ob,e,c,dt⟩:=x
 refine wpAny_pyIter_slot ty F.slot_dict_iter (wpAny_call_entry F.slot_dict_iter ty F.entry_dict_iter (tO ?_) (F.args_dict_iter_1 _))
 refine tO (wpAny_notOrdered_dict ty ?_)
 show wpAny _ _ (pure (Value.ref d)) _ _ s
 refine tP ?_
 show wpAny _ _ (Builtin.Dict.showsAll d>>=_) _ _ s
 unfold Builtin.Dict.showsAll
 rw [if_neg (by rw [hd];decide)]
 refine tO (tP (tO (wpAny_dictEntries e dt (tO (wpAny_dictEpoch e dt ?_)))))
 exact tO (wpAny_newObj_type (tP ⟨_,rfl,"dict_keyiterator",_,⟨_,Heap.get?_push_size _ rfl,rfl⟩,F.slot_dict_keyiterator_next.lookup,q⟩))
theorem Ma {Q:sY} (k:s.heap.IsKeyIter t d i es.size ep) (x:yg s.heap d es ep) (hi:i<es.size)
  (q:∀h',h'.IsKeyIter t d (i+1) es.size ep→Heap.SameBut t s.heap h'→Q (some es[i].key) { s with heap:=h' }):wpAny (model prog w) A (pyNext (.ref t)) Q E s:=by
 have ty:=k.typeIs
 obtain⟨oi,e,c,dt⟩:=id k
 obtain⟨ob,e2,_,dt2⟩:=x
 refine tO (wpAny_attempt (wpAny_callSpecial?_slot (name:=Str.ofString "__next__") ty F.slot_dict_keyiterator_next (wpAny_call_entry F.slot_dict_keyiterator_next ty F.entry_dict_keyiterator_next (tO (tP (tO (tO ?_)))) (F.args_dict_keyiterator_next_1 _))))
 refine tO (wpAny_typeNameOfWhole_keyiter ty (tP (tO (wpAny_fieldsOf e dt ?_))))
 rw [show Builtin.Dict_items.ownsTuple "dict_keyiterator"=false by decide]
 show wpAny _ _ (if (Value.ref d==Value.none)=true then _ else _) _ _ s
 rw [if_neg (fun z=>Bool.false_ne_true z)]
 refine tO (tP (tO (wpAny_dictEntries e2 dt2 ?_)))
 rw [if_neg (by simp)]
 refine tO (tP (tO (wpAny_dictEpoch e2 dt2 ?_)))
 rw [if_neg (by simp)]
 refine tP ?_
 simp only [show ¬((i:Int)<0) by omega,if_false,Int.toNat_natCast,Array.getElem?_eq_getElem hi]
 refine tO (tO (wpAny_typeNameOfWhole_keyiter ty (tP (tO (wpAny_isOneOf_keyiter ty ?_)))))
 show wpAny _ _ (setField (.ref t) 1 (rawInt ((i:Int)+1))>>=_) _ _ s
 refine tO (wpAny_setField e dt (by simp) ?_)
 have k2:(s.heap.update t (Obj.mapFields (·.setIfInBounds 1 (rawInt ((i:Int)+1))))).IsKeyIter t d (i+1) es.size ep:=⟨_,Heap.get?_update_self _ e (Obj.isFreed_of_fields (Obj.data_mapFields dt _)),(Obj.cls_mapFields ..).trans c,by rw [Obj.data_mapFields dt];simp [rawInt]⟩
 refine tO (wpAny_holding (tO (wpAny_isOneOf_keyiter (s:={ s with heap:=s.heap.update t (Obj.mapFields (·.setIfInBounds 1 (rawInt ((i:Int)+1)))) }) k2.typeIs ?_)))
 show wpAny _ _ (pure es[i].key) _ _ _
 exact tP (tP ⟨_,rfl,tP (q _ k2 (Heap.SameBut.update ..))⟩)
theorem MY {Q:sY} (hh:A.handled=none) (k:s.heap.IsKeyIter t d i es.size ep) (x:yg s.heap d es ep) (hi:es.size≤i)
  (q:∀h',Heap.ExtBut t s.heap h'→Q none { s with heap:=h' }):wpAny (model prog w) A (pyNext (.ref t)) Q E s:=by
 have ty:=k.typeIs
 obtain⟨oi,e,c,dt⟩:=id k
 obtain⟨ob,e2,_,dt2⟩:=x
 refine tO (wpAny_attempt (wpAny_callSpecial?_slot (name:=Str.ofString "__next__") ty F.slot_dict_keyiterator_next (wpAny_call_entry F.slot_dict_keyiterator_next ty F.entry_dict_keyiterator_next (tO (tP (tO (tO ?_)))) (F.args_dict_keyiterator_next_1 _))))
 refine tO (wpAny_typeNameOfWhole_keyiter ty (tP (tO (wpAny_fieldsOf e dt ?_))))
 rw [show Builtin.Dict_items.ownsTuple "dict_keyiterator"=false by decide]
 show wpAny _ _ (if (Value.ref d==Value.none)=true then _ else _) _ _ s
 rw [if_neg (fun z=>Bool.false_ne_true z)]
 refine tO (tP (tO (wpAny_dictEntries e2 dt2 ?_)))
 rw [if_neg (by simp)]
 refine tO (tP (tO (wpAny_dictEpoch e2 dt2 ?_)))
 rw [if_neg (by simp)]
 refine tP ?_
 simp only [show ¬((i:Int)<0) by omega,if_false,Int.toNat_natCast,Array.getElem?_eq_none hi]
 refine tO (tO (wpAny_typeNameOfWhole_keyiter ty (tP ?_)))
 show wpAny _ _ (setField (.ref t) 0 .none>>=_) _ _ s
 refine tO (wpAny_setField e dt (by simp) ?_)
 show wpAny _ _ (newExc (.type "StopIteration") []>>=_) _ _ _
 refine tO ?_
 simp only [newExc,newTuple]
 refine tO (wpAny_newObj_type (tO (m:=firstArgMember _ _) (wpAny_of_eq (a:=Value.none) (by simp only [firstArgMember];rfl) (wpAny_newObj_type ?_ (by size_fits)))) (by size_fits))
 simp only [raiseNew]
 refine tO (wpAny_handled ?_)
 rw [show A.in1.handled=none from hh]
 refine tO (tP (wpAny_throw ?_))
 exact tO (wpAny_isInstance (T:="StopIteration") (b:=true) ⟨_,Heap.get?_push_size _ rfl,rfl⟩ isSubtype_stop (tP (q _ (((Heap.SameBut.update ..).extBut.push _).push _))))
theorem yg.keep {h h':Heap} (x:yg h d es ep) (k:∀o,h.get? d=some o→h'.get? d=some o):yg h' d es ep:=by
 obtain⟨ob,e,c⟩:=x
 exact⟨ob,k _ e,c⟩
theorem lN (hd:(d==sysModules)=false):KdlSrc prog w "dict" d d es.size (fun i v=>∃hi:i<es.size,v=es[i].key) (fun h=>yg h d es ep) where
 type:=fun _ x=>x.typeIs
 there:=fun _ x=>by obtain⟨ob,e,_⟩:=x;exact⟨Heap.lt_size e,Heap.lt_size e⟩
 keep:=fun _ _ x k=>x.keep fun o e=>k d (.inl rfl) o e
 notList:=by decide
 notTuple:=by decide
 hint:=fun _ _ _ _ x q=>PySem.W.kdl_hint_dict x.typeIs q
 iter:=fun A s hh x=>by
  have hlt:d<s.heap.objs.size:=by obtain⟨ob,e,_⟩:=x;exact Heap.lt_size e
  refine⟨{ cls:=.type "dict_keyiterator",data:=.fields #[.ref d,.int 0 0,.int es.size 0,.int ep 0] },fun i h=>h.IsKeyIter s.heap.objs.size d i es.size ep∧yg h d es ep,fun E Q q=>mO hd x q,?_,⟨_,Heap.get?_push_size _ rfl,rfl,rfl⟩,x.keep fun o e=>Heap.get?_push_of_some _ e⟩
  refine⟨fun b hb=>by simp at hb;simp [hb],fun i h h' st k=>⟨?_,st.2.keep fun o e=>k d (by simp) o e⟩,fun i s' Q E hi st q=>?_,fun s' Q E st q=>?_,fun i s' Q E st q=>wpAny_pyIter_keyiter st.1 q⟩
  ·obtain⟨ob,e,r⟩:=st.1
   exact⟨ob,k _ (by simp) ob e,r⟩
  ·refine Ma st.1 st.2 hi fun h' k' sb=>q _ h' s'.toks ⟨hi,rfl⟩ ⟨k',st.2.keep fun o e=>sb.extBut d o (Nat.ne_of_lt hlt) e⟩ fun b o hb e=>sb.extBut b o (fun z=>hb (by simp [z])) e
  ·refine MY hh st.1 st.2 (Nat.le_refl _) fun h' eb=>q h' s'.toks fun b o hb e=>eb b o (fun z=>hb (by simp [z])) e
theorem lq {Q:sV} (hh:A.handled=none) (hd:(d==sysModules)=false) (x:yg s.heap d es ep) (hn:es.size≤sizeLine)
  (q:∀h' tk acc c,(∀b o,s.heap.get? b=some o→h'.get? b=some o)→h'.get? s.heap.objs.size=some { cls:=.type "list",dict:=none,data:=.seq acc c,slots:=#[] }→ItemsOf (fun i v=>∃hi:i<es.size,v=es[i].key) acc es.size→Q (.ref s.heap.objs.size) { s with heap:=h',toks:=tk }) :
  wpAny (model prog w) A (runValue (.builtin "proto.collect" ⟨[.ref d],[]⟩)) Q E s:=by
 have hlt:d<s.heap.objs.size:=by obtain⟨ob,e,_⟩:=x;exact Heap.lt_size e
 have ne:s.heap.objs.size≠d:=Nat.ne_of_gt hlt
 refine wpAny_runValue (codeAny_builtin F.entry_proto_collect ?_)
 rw [Around.under_plainId F.plain_proto_collect _]
 refine tO (m:=newList []) (wpAny_newObj_type (tP ⟨plainId_quiet F.plain_list_iadd _,codeAny_builtin F.entry_list_iadd ?_⟩))
 rw [Around.under_plainId F.plain_list_iadd _]
 have x2:yg (s.heap.push { cls:=.type "list",data:=.seq ([]:tz).toArray }) d es ep:=x.keep fun o e=>Heap.get?_push_of_some _ e
 exact kdl_extend (s:={ s with heap:=s.heap.push { cls:=.type "list",data:=.seq ([]:tz).toArray } }) (R:=fun r s'=>match r with|.ok (.ret v)=>Q v s'|.ok _=>False|.error e=>E e s') (lN (es:=es) (ep:=ep) hd) hh x2 _ ne ne (.ref s.heap.objs.size) 0 (Heap.get?_push_size _ rfl)
  (fun h' tk acc c kp e items=>q h' tk acc c (fun b o hb=>kp b o (Nat.ne_of_lt (Heap.lt_size hb)) (Heap.get?_push_of_some _ hb)) e items) hn
theorem nK {Q:List Value→Shared→Prop} (hh:A.handled=none) (hd:(d==sysModules)=false) (x:yg s.heap d es ep) (hn:es.size≤sizeLine)
  (q:∀h' tk,(∀b o,s.heap.get? b=some o→h'.get? b=some o)→s.heap.objs.size<h'.objs.size→Q (es.toList.map (·.key)) { s with heap:=h',toks:=tk }):wpAny (model prog w) A (collect (.ref d)) Q E s:=by
 refine tO (lq hh hd x hn fun h' tk acc c kp e items=>?_)
 show wpAny _ A (load s.heap.objs.size>>=_) _ _ _
 refine tO (wpAny_load e (tP ?_))
 have ea:acc.toList=es.toList.map (·.key):=by
  apply List.ext_getElem?
  intro k
  rw [List.getElem?_map,Array.getElem?_toList,Array.getElem?_toList]
  rcases Nat.lt_or_ge k es.size with hk|hk
  ·have h1:k<acc.size:=by rw [items.1];exact hk
   rw [getElem?_pos es k hk,getElem?_pos acc k h1]
   obtain⟨_,e2⟩:=items.2 k acc[k] (getElem?_pos acc k h1)
   rw [e2];rfl
  ·rw [getElem?_neg es k (by omega),getElem?_neg acc k (by rw [items.1];omega)];rfl
 rw [ea]
 exact q h' tk kp (Heap.lt_size e)
end
end TS
namespace TS
open PySem PyProof.Rows L2
section
variable {prog:tM}{w:World}{A:Around}{E:sV}{s:Shared}
theorem TupAt.keep {h h':Heap}{v:Value}{ks:List L2.Key} (t:TupAt h v ks) (k:∀b o,h.get? b=some o→h'.get? b=some o):TupAt h' v ks:=by
 obtain⟨b,o2,us,n,rfl,e,r⟩:=t
 exact⟨b,o2,us,n,rfl,k _ _ e,r⟩
theorem pN {kc:Value→List L2.Key}{vs:tz}{y:tw} (pm:y.Perm (pairsOf vs)) (up:Up (kind kc) y.toList) :
  ∃out:List Value,(y.map (·.2))=out.toArray∧out.Perm vs∧out.Pairwise fun u v=>lx (kc v) (kc u)=false:=by
 have pl:y.toList.Perm (vs.zip vs):=pairsOf_toList vs▸Array.perm_iff_toList_perm.mp pm
 have hm:∀p∈y.toList,p.1=p.2:=fun p hp=>(mem_zip_self (pl.mem_iff.mp hp)).1
 refine⟨y.toList.map (·.2),by rw [←Array.toList_map,Array.toArray_toList],?_,?_⟩
 ·have:=pl.map Prod.snd
  rwa [List.map_snd_zip (Nat.le_refl _)] at this
 ·refine List.pairwise_map.mpr (up.imp_of_mem fun {p q} hp hq h=>?_)
  rw [←hm p hp,←hm q hq]
  exact h
theorem dU {α:Type}{R:α→α→Prop}{l:List α} (h:l.length<2):l.Pairwise R:=by
 cases l with
 | nil=>exact List.Pairwise.nil
 | cons v l =>
  cases l with
  | nil=>exact List.pairwise_singleton _ _
  | cons u l=>exact absurd h (by simp)
theorem eE {a:Addr}{vs:tz}{n:Nat}{P:Fin→Shared→Prop}{kc:Value→List L2.Key}{d:List Bool} (ho:s.heap.get? a=some (seqObj "list" vs.toArray n)) (ht:∀v∈vs,TupAt s.heap v (kc v)) (hs:∀v∈vs,sd (kc v)=d) (hd:d≠[]) (hl:vs.length≤sizeLine)
  (q:∀out:List Value,out.Perm vs→(out.Pairwise fun u v=>lx (kc v) (kc u)=false)→P (.done (.ret .none)) { s with heap:=sortedHeap s.heap a vs out.toArray }):wpAny (model prog w) A (Builtin.«list.sort» ⟨[.ref a],[]⟩) P E s:=by
 rw [list_sort_plain]
 refine tO (listItems_at ho rfl (tO (listUpdate_at ho rfl ?_ (by rw [List.size_toArray];exact hl))))
 have g1:=get?_update_seq ho (fun _=>#[])
 refine tO (seqEpoch_at g1 rfl (tO (wpAny_newTuple (tO (wpAny_newList (wpAny_holding ?_))))))
 have g2:(((s.heap.update a (Obj.mapSeq fun _=>#[])).push (seqObj "tuple" vs.toArray 0)).push (seqObj "list" #[] 0)).get? a=_:=Heap.get?_push_of_some _ (Heap.get?_push_of_some _ g1)
 have ht2:∀v∈vs,TupAt (((s.heap.update a (Obj.mapSeq fun _=>#[])).push (seqObj "tuple" vs.toArray 0)).push (seqObj "list" #[] 0)) v (kc v):=fun v hv=>(((ht v hv).upd ho rfl).push _).push _
 have room:∀y:Array Keyed,y.Perm (pairsOf vs)→(y.map (·.2)).size≤sizeLine+1:=fun y hy=>by
  rw [Array.size_map,hy.size_eq,pairsOf_size];omega
 have fin:∀y:SortSt,(arrOf y).Perm (pairsOf vs)→Up (kind kc) (arrOf y).toList→P (.done (.ret .none)) { s with heap:=sortedHeap s.heap a vs ((arrOf y).map (·.2)) }:=fun y pm up=>by
  obtain⟨out,e,p,w⟩:=pN pm up
  rw [e];exact q out p w
 rcases Nat.lt_or_ge vs.length 2 with h2|h2
 ·rw [if_pos (by simpa using h2),if_pos (by simpa using h2)]
  refine tO (tP ?_)
  dsimp only
  rw [StateT.run_pure]
  refine tO (tP (tO (seqEpoch_at g2 rfl (tO (listUpdate_at g2 rfl ?_ (hsz2:=room _ (Array.Perm.refl _)))))))
  simp only [bne_self_eq_false,Bool.false_eq_true,if_false]
  refine tP (fin (SortSt.mk' general' (pairsOf vs) #[] 7 none) (Array.Perm.refl _) ?_)
  show Up _ (pairsOf vs).toList
  rw [pairsOf_toList]
  exact dU (by rw [List.length_zip,Nat.min_self];exact h2)
 ·rw [if_neg (by simpa using h2),if_neg (by simpa using h2)]
  refine tO (dz h2 ht2 hs hd ?_)
  refine tO (wpAny_mono (lC (o:=kind kc) (z:=pairsOf vs) (f:=true) (st:=SortSt.mk' (tuples' true) (vs.toArray.zip vs.toArray) #[] 7 none) (Q:=fun _ y=>Gd true (pairsOf vs) y∧Up (kind kc) (arrOf y).toList) (pM ht2 hs true) ⟨Array.Perm.refl _,rfl,rfl⟩ rfl (by rw [pairsOf_size];exact h2) fun y p1 p2=>⟨p1,p2⟩) ?_ fun _ _ e=>e)
  rintro⟨⟨⟩,y⟩ s2 ⟨rfl,gd,up⟩
  refine tO (seqEpoch_at g2 rfl (tO (listUpdate_at g2 rfl ?_ (hsz2:=room _ gd.pm))))
  rw [gd.fl]
  simp only [bne_self_eq_false,Bool.false_eq_true,if_false]
  exact tP (fin y gd.pm up)
theorem Ko {h:Heap}{a:Addr}{vs:tz}{n:Nat}{out:tI} (ho:h.get? a=some (seqObj "list" vs.toArray n)):∃c,(sortedHeap h a vs out).get? a=some (seqObj "list" out c)∧∀b o,b≠a→h.get? b=some o→(sortedHeap h a vs out).get? b=some o:=by
 have g1:=get?_update_seq ho (fun _=>#[])
 have g2:(((h.update a (Obj.mapSeq fun _=>#[])).push (seqObj "tuple" vs.toArray 0)).push (seqObj "list" #[] 0)).get? a=_:=Heap.get?_push_of_some _ (Heap.get?_push_of_some _ g1)
 have g3:=get?_update_seq g2 (fun _=>out)
 refine⟨_,g3,fun b o hb e=>?_⟩
 exact (Heap.get?_update_other _ _ (Ne.symm hb)).trans (Heap.get?_push_of_some _ (Heap.get?_push_of_some _ ((Heap.get?_update_other _ _ (Ne.symm hb)).trans e)))
theorem zM {x:Value}{vs:tz}{kc:Value→List L2.Key}{d:List Bool}{Q:sV} (hc:∀R:List Value→Shared→Prop,(∀h' tk,(∀b o,s.heap.get? b=some o→h'.get? b=some o)→s.heap.objs.size<h'.objs.size→R vs { s with heap:=h',toks:=tk })→wpAny (model prog w) A.in1 (collect x) R E s)
  (ht:∀v∈vs,TupAt s.heap v (kc v)) (hs:∀v∈vs,sd (kc v)=d) (hd:d≠[]) (hl:vs.length≤sizeLine)
  (q:∀(h':Heap) (tk c:Nat) (p:Addr) (out:tz),(∀b o,s.heap.get? b=some o→h'.get? b=some o)→s.heap.objs.size≤p→h'.get? p=some (seqObj "list" out.toArray c)→out.Perm vs→(out.Pairwise fun u v=>lx (kc v) (kc u)=false)→Q (.ref p) { s with heap:=h',toks:=tk }) :
  wpAny (model prog w) A (call (.builtin "sorted") [x]) Q E s:=by
 refine Calls.call_function_entry kind_sorted plain_sorted entry_sorted (args_sorted1 _) ?_
 refine tO (m:=checkCount "sorted" 1 1 _) (tP ?_)
 refine tO (hc _ fun h' tk kp lt=>?_)
 refine tO (wpAny_newList ?_)
 have e1:(h'.push (seqObj "list" vs.toArray 0)).get? h'.objs.size=some (seqObj "list" vs.toArray 0):=Heap.get?_push_size _ rfl
 have kp2:∀b o,s.heap.get? b=some o→(h'.push (seqObj "list" vs.toArray 0)).get? b=some o:=fun b o e=>Heap.get?_push_of_some _ (kp b o e)
 refine tO (wpAny_holding (wpAny_call_entry slot_list_sort ⟨_,e1,rfl⟩ entry_list_sort (eE e1 (fun v hv=>(ht v hv).keep kp2) hs hd hl fun out pm up=>⟨_,rfl,tP ⟨_,rfl,?_⟩⟩) (args_list_sort _)))
 obtain⟨c,g1,g2⟩:=Ko (out:=out.toArray) e1
 exact q _ tk c _ out (fun b o e=>g2 b o (Nat.ne_of_lt (Nat.lt_trans (Heap.lt_size e) lt)) (kp2 b o e)) (Nat.le_of_lt lt) g1 pm up
end
end TS
namespace L2
open PySem PyProof.Rows TS
def f7:V→Key|.int n=>.inl n|.str x=>.inr x|_=>.inl 0
theorem qz (k:Key):f7 (kV k)=k:=by cases k<;>rfl
def jM (H:Hp) (bs:tD) (ks:List (List Key)):Prop:=bs.length=ks.length∧∀(i:Nat) (b:Addr) (k:List Key),bs[i]?=some b→ks[i]?=some k→H b=some (.tup (k.map kV))
def u4 (H:Hp):Value→List Key
 | .ref b=>match H b with|some (.tup ys)=>ys.map f7|_=>[]
 | _=>[]
theorem uY {H:Hp}{b:Addr}{k:List Key} (e:H b=some (.tup (k.map kV))):u4 H (.ref b)=k:=by
 show (match H b with|some (.tup ys)=>ys.map f7|_=>[])=k
 rw [e]
 show (k.map kV).map f7=k
 rw [List.map_map]
 exact (List.map_congr_left fun x _=>qz x).trans (List.map_id _)
theorem mP:∀{ks:List Key} {us:tz},jB (ks.map kV) us→UT ks us
 | [],_,h=>by rw [List.map_nil] at h;cases h;exact .nil
 | k::ks,_,h=>by
  rw [List.map_cons] at h
  cases h with
  | cons r t =>
   refine .cons ?_ (mP t)
   cases k with
   | inl n=>exact r
   | inr x=>exact r
theorem Z6 {P:tM}{w:World}{H:Hp}{h:Heap}{b:Addr}{k:List Key} (ok:Jm P w H h) (e:H b=some (.tup (k.map kV))):TS.TupAt h (.ref b) k:=by
 obtain⟨_,its,r,o,h1,h2,n,h3⟩:=(show j3 P w H h b (.tup (k.map kV)) from ok b _ e)
 exact⟨b,o,its,n,rfl,h1,h2,h3,mP r⟩
def KZ:Value→Addr|.ref b=>b|_=>0
theorem ZV {H:Hp}{vs out:tz}{ks:List (List Key)} (hv:∀v∈vs,∃(b:Addr) (k:List Key),v=.ref b∧H b=some (.tup (k.map kV))) (hk:vs.map (u4 H)=ks) (pm:out.Perm vs) (up:out.Pairwise fun u v=>lx (u4 H v) (u4 H u)=false) :
  jB ((out.map KZ).map V.ref) out∧jM H (out.map KZ) (out.map (u4 H))∧(out.map (u4 H)).Perm ks∧(out.map (u4 H)).Pairwise fun a b=>lx b a=false:=by
 have ho:∀v∈out,∃(b:Addr) (k:List Key),v=.ref b∧H b=some (.tup (k.map kV)):=fun v h=>hv v (pm.mem_iff.mp h)
 refine⟨?_,⟨by rw [List.length_map,List.length_map],fun i b k h1 h2=>?_⟩,hk▸pm.map _,List.pairwise_map.mpr up⟩
 ·clear pm up hk
  induction out with
  | nil=>exact .nil
  | cons v r ih =>
   obtain⟨b,k,rfl,_⟩:=ho v (List.mem_cons_self ..)
   exact .cons rfl (ih fun u hu=>ho u (List.mem_cons_of_mem _ hu))
 ·rw [List.getElem?_map] at h1 h2
  obtain⟨v,e1,rfl⟩:=Option.map_eq_some_iff.mp h1
  rw [e1] at h2
  cases h2
  obtain⟨b,k,rfl,e⟩:=ho v (List.mem_of_getElem? e1)
  rw [uY e]
  exact e
theorem JW {α β:Type}{F:α→β→Prop}:∀{l:List α} {m:List β} {y:β},Paired F l m→y∈m→∃x∈l,F x y
 | _,_,_,.nil,h=>by cases h
 | _,_,y,.cons r t,h=>by
  rcases List.mem_cons.mp h with rfl|h
  ·exact⟨_,List.mem_cons_self ..,r⟩
  ·obtain⟨x,hx,hf⟩:=JW t h
   exact⟨x,List.mem_cons_of_mem _ hx,hf⟩
theorem uD {α β γ:Type}{F:α→β→Prop}{g:α→γ}{g':β→γ}:∀{l:List α} {m:List β},Paired F l m→(∀x y,F x y→g' y=g x)→l.map g=m.map g'
 | _,_,.nil,_=>rfl
 | _,_,.cons r t,h=>by rw [List.map_cons,List.map_cons,h _ _ r,uD t h]
section
variable {X:Cx}
theorem UX (hc:X.calm=true):ux X (.builtin "sorted") (fun xs H Q=>∃p kvs d,xs=[.ref p]∧H p=some (.dT kvs)∧(∀kv∈kvs,sd kv.1=d)∧d≠[] ∧
  ∀l bs ks,H l=none→jM H bs ks→ks.Perm (kvs.map (·.1))→(ks.Pairwise fun a b=>lx b a=false)→Q (.ref l) (upd H l (.lst (bs.map V.ref)))):=by
 intro pins s σ H xs us Q I r h
 obtain⟨p,kvs,d,rfl,e,hs,hd,q⟩:=h
 obtain⟨u,rfl,ru⟩:=Uk r
 cases ru
 obtain⟨hl,hm,ys,kt,ob,es,ep,h1,h2,h3,h4,h5,h6⟩:=Vh I.hok e
 have hv:∀v∈es.toList.map (·.key),∃(b:Addr) (k:List Key),v=.ref b∧H b=some (.tup (k.map kV))∧k∈kvs.map (·.1):=fun v hv=>by
  rw [h4,List.map_map] at hv
  obtain⟨y,hy,rfl⟩:=List.mem_map.mp hv
  obtain⟨x,hx,e2,e3,_⟩:=JW kt hy
  exact⟨y.2.1,x.1,rfl,e3,List.mem_map.mpr ⟨x,hx,rfl⟩⟩
 have hk:(es.toList.map (·.key)).map (u4 H)=kvs.map (·.1):=by
  rw [h4,List.map_map,List.map_map]
  exact (uD kt fun x y hxy=>uY hxy.2.1).symm
 have hks:∀v∈es.toList.map (·.key),sd (u4 H v)=d:=fun v hv'=>by
  obtain⟨b,k,rfl,e1,hm⟩:=hv v hv'
  obtain⟨kv,h7,rfl⟩:=List.mem_map.mp hm
  rw [uY e1]
  exact hs kv h7
 have hlen:es.size=kvs.length:=by
  have:=congrArg List.length h4
  rw [Array.length_toList,List.length_map] at this
  rw [this,Paired.length kt]
 refine zM (kc:=u4 H) (fun R hR=>nK (A:=X.A.in1) (I.ok.hd hc) hm ⟨ob,h1,h2,h3⟩ (by rw [hlen];exact hl) hR) (fun v hv'=>?_) hks hd (by rw [List.length_map,Array.length_toList,hlen];exact hl) fun h' tk c p' out kp hp e' pm up=>?_
 ·obtain⟨b,k,rfl,e1,_⟩:=hv v hv'
  rw [uY e1]
  exact Z6 I.hok e1
 ·obtain⟨rv,ka,pm2,up2⟩:=ZV (fun v h=>by obtain⟨b,k,e1,e2,_⟩:=hv v h;exact⟨b,k,e1,e2⟩) hk pm up
  refine⟨.ref p',_,I.laid (t':=tk) (o:=.lst ((out.map KZ).map V.ref)) kp hp ⟨?_,out,c,rv,e'⟩,rfl,q p' _ _ (I.hok.fresh hp) ka pm2 up2⟩
  rw [List.length_map,List.length_map,pm.length_eq,List.length_map,Array.length_toList,hlen]
  exact hl
end
end L2
namespace L2
open PySem PySem.Spec PyProof.Rows
section
variable {X:Cx}{pins:tq}{σ:St}{H:Hp}{s:Shared}
end
end L2
namespace TS
open PySem PyProof.Rows L2
section
variable {prog:tM}{w:World}{A:Around}{E:sV}{s:Shared}
theorem Zs {β:Type}{M:Model}{A:Around}{E:sV}{s:Shared}{g:Nat→β→Sem (ForInStep β)} (I:Nat→β→Prop) {Q:β→Shared→Prop} (n:Nat)
  (step:∀i c,i<n→I i c→wpAny M A (g i c) (fun r s'=>s'=s∧match r with|.done c'=>Q c' s|.yield c'=>I (i+1) c') E s) (fin:∀c,I n c→Q c s):∀(k i:Nat) (c:β),i+k=n→I i c→wpAny M A (forIn (List.range' i k 1) c g) Q E s
 | 0,i,c,h,hi=>by
  rw [List.range'_zero,List.forIn_nil]
  obtain rfl:i=n:=by omega
  exact tP (fin c hi)
 | k+1,i,c,h,hi=>by
  rw [List.range'_succ,List.forIn_cons]
  refine tO (wpAny_mono (step i c (by omega) hi) (fun r s' hr=>?_) fun _ _ e=>e)
  obtain⟨rfl,hr⟩:=hr
  cases r with
  | done c'=>exact tP hr
  | yield c'=>exact Zs I n step fin k (i+1) c' (by omega) hr
theorem mz {β:Type}{M:Model}{g:Nat→β→Sem (ForInStep β)} (I:Nat→β→Prop) {Q:β→Shared→Prop} {n:Nat} {c:β}
  (step:∀i c,i<n→I i c→wpAny M A (g i c) (fun r s'=>s'=s∧match r with|.done c'=>Q c' s|.yield c'=>I (i+1) c') E s) (fin:∀c,I n c→Q c s) (h0:I 0 c):wpAny M A (forIn [0:n] c g) Q E s:=by
 rw [Std.Legacy.Range.forIn_eq_forIn_range']
 have hsz:([0:n]:Std.Legacy.Range).size=n:=by simp [Std.Legacy.Range.size]
 show wpAny M A (forIn (List.range' 0 ([0:n]:Std.Legacy.Range).size 1) c g) Q E s
 rw [hsz]
 exact Zs I n step fin n 0 c (by omega) h0
variable {K:Type} [DecidableEq K] {knd:HeapKind prog w K}
theorem NR {id:String}{a b:Addr}{xs ys:List (K×Addr×Value)}{Q:sX} (hu:knd.room A) (ha:(a==sysModules)=false) (hb:(b==sysModules)=false) (h1:s.heap.DictOfH knd a xs) (h2:s.heap.DictOfH knd b ys) (tx:∀x∈xs,x.2.2=.bool true) (ty:∀y∈ys,y.2.2=.bool true)
  (q:Q (decide (xs.length=ys.length)&&xs.all fun x=>ys.any fun y=>decide (y.1=x.1)) s):wpAny (model prog w) A (Builtin.Dict.samePairs id a b) Q E s:=by
 obtain⟨oa,ea,epa,e1,_,d1,l1,i1,n1⟩:=h1
 obtain⟨ob,eb,epb,e2,_,d2,l2,i2,n2⟩:=h2
 have s1:ea.size=xs.length:=by have:=congrArg List.length l1;simpa using this
 have s2:eb.size=ys.length:=by have:=congrArg List.length l2;simpa using this
 unfold Builtin.Dict.samePairs Builtin.Dict.showsAll
 rw [ha,hb]
 refine tO (tP (tO (tP (tO (wpAny_dictEntries e1 d1 (tO (wpAny_dictEntries e2 d2 ?_)))))))
 rcases Nat.decEq xs.length ys.length with hn|hn
 ·rw [if_pos (by rw [s1,s2];simpa using hn)]
  rw [decide_eq_false hn,Bool.false_and] at q
  exact tO (wpAny_rule (tP q))
 rw [if_neg (by rw [s1,s2];simpa using hn)]
 rw [decide_eq_true hn,Bool.true_and] at q
 refine tO (wpAny_dictEpoch e1 d1 (tO (mz (n:=ea.size) (I:=fun i c=>c=(none,())∧(xs.take i).all (fun x=>ys.any fun y=>decide (y.1=x.1))=true) (fun i c hi hc=>?_) (fun c hc=>?_) ⟨rfl,rfl⟩)))
 ·obtain⟨rfl,hall⟩:=hc
  have uW:i<xs.length:=by omega
  have ee:ea[i]?=some (entryOfKey knd xs[i]):=by
   rw [←Array.getElem?_toList,l1,List.getElem?_map,List.getElem?_eq_getElem uW];rfl
  refine tO (wpAny_dictEntries e1 d1 ?_)
  rw [ee]
  have hx:xs[i]∈xs:=List.getElem_mem uW
  refine tO (wpAny_holding (tO (wpAny_dictFind_heap hu (i1 _ hx) e2 d2 l2 i2 n2 (fun none=>?_) fun j p hj=>?_)))
  ·refine tP ?_
   rw [if_pos (by decide)]
   refine tP ⟨rfl,?_⟩
   have hf:(xs.all fun x=>ys.any fun y=>decide (y.1=x.1))=false:=by
    refine Bool.eq_false_iff.mpr fun z=>?_
    have:=List.all_eq_true.mp z _ hx
    obtain⟨y,hy,e⟩:=List.any_eq_true.mp this
    obtain⟨j,hj,e3⟩:=List.mem_iff_getElem.mp hy
    refine none j y.2 ?_
    rw [List.getElem?_eq_getElem hj,e3,←of_decide_eq_true e]
   rw [hf] at q
   exact tP q
  ·have hj2:eb[j]?=some (entryOfKey knd (xs[i].1,p)):=by
    rw [←Array.getElem?_toList,l2,List.getElem?_map,hj];rfl
   refine tO (wpAny_dictEntries e2 d2 ?_)
   rw [hj2]
   have hy:(xs[i].1,p)∈ys:=List.mem_of_getElem? hj
   show wpAny _ _ (holding [_] (eqBool xs[i].2.2 p.2)) _ _ _
   rw [tx _ hx,show p.2=.bool true from ty _ hy]
   refine wpAny_holding (SeqAt.EqAt.bool_bool true true prog w _ _ ?_)
   rw [if_neg (by decide)]
   refine tO (wpAny_dictEpoch e1 d1 ?_)
   rw [if_neg (by simp)]
   refine tP ⟨rfl,rfl,?_⟩
   rw [List.take_succ,List.getElem?_eq_getElem uW,List.all_append,hall,Bool.true_and]
   show ([xs[i]].all _)=true
   rw [List.all_cons,List.all_nil,Bool.and_true]
   exact List.any_eq_true.mpr ⟨_,hy,decide_eq_true rfl⟩
 ·obtain⟨rfl,hall⟩:=hc
  rw [s1,List.take_of_length_le (Nat.le_refl _)] at hall
  rw [hall] at q
  exact tP q
end
end TS
namespace L2
open PySem PyProof.Rows TS
def Jl (kvs mvs:List (List Key×V)):Bool:=decide (kvs.length=mvs.length)&&(kvs.map (·.1)).all fun k=>(mvs.map (·.1)).any fun k'=>decide (k'=k)
section
variable {X:Cx}
theorem cp (hu:X.A.units+64<cLine):ul X (compareOp .Eq) (fun x y H Q=>∃(a b:Addr) (kvs mvs:List (List Key×V)),x=.ref a∧y=.ref b∧H a=some (.dT kvs)∧H b=some (.dT mvs)∧(∀kv∈kvs,kv.2=.bl true)∧(∀kv∈mvs,kv.2=.bl true)∧Q (.bl (Jl kvs mvs)) H):=by
 intro pins s σ H x y v u Q I rx ry h
 obtain⟨a,b,kvs,mvs,rfl,rfl,ha,hb,tk,tm,q⟩:=h
 cases rx
 cases ry
 obtain⟨_,na,xs,k1,d1⟩:=Vh I.hok ha
 obtain⟨_,nb,ys,k2,d2⟩:=Vh I.hok hb
 have t1:s.TypeIs (.ref a) "dict":=by obtain⟨ob,es,ep,e,c,_⟩:=d1;exact⟨ob,e,c.1⟩
 have t2:s.TypeIs (.ref b) "dict":=by obtain⟨ob,es,ep,e,c,_⟩:=d2;exact⟨ob,e,c.1⟩
 have tx:∀x∈xs,x.2.2=.bool true:=fun x hx=>by
  obtain⟨kv,hkv,_,_,r⟩:=JW k1 hx
  rw [tk kv hkv] at r
  exact r
 have ty:∀x∈ys,x.2.2=.bool true:=fun x hx=>by
  obtain⟨kv,hkv,_,_,r⟩:=JW k2 hx
  rw [tm kv hkv] at r
  exact r
 have m1:kvs.map (·.1)=xs.map (·.1):=uD k1 fun x y h=>h.1.symm
 have m2:mvs.map (·.1)=ys.map (·.1):=uD k2 fun x y h=>h.1.symm
 have es:Jl kvs mvs=(decide (xs.length=ys.length)&&xs.all fun x=>ys.any fun y=>decide (y.1=x.1)):=by
  unfold Jl
  rw [m1,m2,Paired.length k1,Paired.length k2,List.all_map]
  congr 1
  refine List.all_congr rfl fun x=>?_
  show (List.any (ys.map (·.1)) _)=_
  rw [List.any_map];rfl
 rw [es] at q
 refine wpAny_richCompare_same_room (op:=.Eq) t1 t2 PySem.F.slot_dict_eq (wpAny_call_entry PySem.F.slot_dict_eq t1 PySem.F.entry_dict_eq (tO ?_) (PySem.F.args_dict_eq_2 _ _)) (by omega)
 refine tO (wpAny_notOrdered_dict t1 ?_)
 show wpAny _ _ (pure (Value.ref a,Value.ref b)) _ _ s
 refine tP (tO (wpAny_isInstance (T:="dict") t2 PySem.F.sub_dict_dict ?_))
 rw [if_neg (by decide)]
 refine tO (tP (tO (tP (tO (NR (tupleKind_room_in1 (by omega)) na nb d1 d2 tx ty ?_)))))
 refine tP ⟨_,rfl,fun z=>(nomatch z),.bl _,H,I,?_,q⟩
 show Value.bool _=Value.bool _
 cases (decide (xs.length=ys.length)&&xs.all fun x=>ys.any fun y=>decide (y.1=x.1))<;>rfl
end
end L2
namespace TS
open PySem PyProof.Rows L2
theorem gx {K V:Type} [DecidableEq K]:∀{xs:List (K×V)} {j:Nat} {k:K} {p:V},(xs.map (·.1)).Nodup→xs[j]?=some (k,p)→xs.eraseIdx j=xs.filter fun x=>decide (x.1≠k)
 | [],j,k,p,_,h=>by simp at h
 | x::r,0,k,p,n,h=>by
  cases h
  have hn:=(List.nodup_cons.mp n).1
  rw [List.eraseIdx_cons_zero,List.filter_cons_of_neg (by simp)]
  refine (List.filter_eq_self.mpr fun y hy=>?_).symm
  have:y.1≠k:=fun e=>hn (List.mem_map.mpr ⟨y,hy,e⟩)
  simpa using this
 | x::r,j+1,k,p,n,h=>by
  obtain⟨hn,n2⟩:=List.nodup_cons.mp n
  rw [List.getElem?_cons_succ] at h
  have hx:x.1≠k:=fun e=>hn (List.mem_map.mpr ⟨(k,p),List.mem_of_getElem? h,e.symm⟩)
  rw [List.eraseIdx_cons_succ,List.filter_cons_of_pos (by simpa using hx),gx n2 h]
theorem kf {α β:Type} (g:α→β):∀(l:List α) (j:Nat),(l.map g).eraseIdx j=(l.eraseIdx j).map g
 | [],j=>rfl
 | a::r,0=>rfl
 | a::r,j+1=>congrArg (g a::·) (kf g r j)
section
variable {prog:tM}{w:World}{A:Around}{E:sV}{s:Shared}{K:Type} [DecidableEq K] {knd:HeapKind prog w K}
theorem lQ {d a:Addr}{xs:List (K×Addr×Value)}{k:K}{Q:Option DictEntry→Shared→Prop} (hu:knd.room A) (hkey:knd.is s.heap k a) (hm:s.heap.DictOfH knd d xs) (hsz:xs.length≤sizeLine)
  (none:(∀x∈xs,x.1≠k)→∀tk,Q none { s with toks:=tk }) (some:∀e h' tk,(∃x∈xs,e.val=x.2.2)→h'.DictOfH knd d (xs.filter fun x=>decide (x.1≠k))→Heap.SameBut d s.heap h'→Q (some e) { s with heap:=h',toks:=tk }):wpAny (model prog w) A (Builtin.Dict.takeOut d (.ref a)) Q E s:=by
 obtain⟨ob,es,ep,ho,hc,hd,he,his,hn⟩:=hm
 refine wpAny_holding (tO (knd.pyHash hu hkey (tO (wpAny_dictFind_heap (s:={ s with toks:=s.toks+knd.draws k }) hu hkey ho hd he his hn (fun no=>?_) fun j p hj=>?_))))
 ·refine tP (none (fun x hx e=>?_) _)
  obtain⟨j,hj,e2⟩:=List.mem_iff_getElem.mp hx
  exact no j x.2 (by rw [List.getElem?_eq_getElem hj,e2,←e])
 ·have hz:es.size≤sizeLine:=by
   have:=congrArg List.length he
   rw [Array.length_toList,List.length_map] at this
   omega
  refine tO (wpAny_dictEntries (s:={ s with toks:=s.toks+knd.draws k }) ho hd ?_)
  have hj2:es[j]?=Option.some (entryOfKey knd (k,p)):=by
   rw [←Array.getElem?_toList,he,List.getElem?_map,hj];rfl
  rw [hj2]
  refine tO (wpAny_updateDictKeys (s:={ s with toks:=s.toks+knd.draws k }) ho hd ?_ hz (by rw [←Array.length_toList,Array.toList_eraseIdxIfInBounds,List.length_eraseIdx,Array.length_toList];split<;>omega))
  refine tP (some _ _ _ ⟨_,List.mem_of_getElem? hj,rfl⟩ ⟨_,_,ep+1,Heap.get?_update_self _ ho (Obj.isFreed_of_dict (Obj.data_mapDictKeys hd _)),hc.mapDictKeys _,Obj.data_mapDictKeys hd _,?_,fun x hx=>?_,?_⟩ (Heap.SameBut.update ..))
  ·rw [Array.toList_eraseIdxIfInBounds,he,←gx hn hj,kf]
  ·exact knd.keeps (his x (List.mem_filter.mp hx).1) ho hd (Heap.SameBut.update ..)
  ·exact (List.filter_sublist.map _).nodup hn
end
end TS
namespace L2
open PySem PyProof.Rows TS
theorem KT.dropped {H:Hp}{kvs:List (List Key×V)}{xs:List (List Key×Addr×Value)} (r:KT H kvs xs) (k:List Key):KT H (uS kvs k) (xs.filter fun x=>decide (x.1≠k)):=by
 unfold KT at *
 induction r with
 | nil=>exact .nil
 | @cons p q ps qs h t ih =>
  unfold uS at ih ⊢
  by_cases e:p.1=k
  ·rw [List.filter_cons_of_neg (by simpa using e),List.filter_cons_of_neg (by rw [←h.1];simpa using e)]
   exact ih
  ·rw [List.filter_cons_of_pos (by simpa using e),List.filter_cons_of_pos (by rw [←h.1];simpa using e)]
   exact .cons h ih
section
variable {X:Cx}
def rg:V→List V→Hp→VK→Prop:=fun x vs H Q=>∃(a b:Addr) (kvs:List (List Key×V)) (k:List Key),x=.ref a∧vs=[.ref b,.non]∧H a=some (.dT kvs)∧H b=some (.tup (k.map kV))∧∀v,Q v (upd H a (.dT (uS kvs k)))
theorem zV (hu:X.A.units+64<cLine):l5 X "dict.pop" rg:=by
 intro pins s σ H x vs v us Q I rx rv h
 obtain⟨a,b,kvs,k,rfl,rfl,ea,eb,q⟩:=h
 cases rx
 cases rv with
 | cons r1 t=>cases t with
  | cons r2 t=>cases t with
   | nil =>
 cases r1
 obtain rfl:=(show _=Value.none from r2)
 obtain⟨z,hd,xs,rel,dd⟩:=Vh I.hok ea
 have ty:s.TypeIs (.ref a) "dict":=dd.typeIs
 have hz:xs.length≤sizeLine:=by rw [←Paired.length rel];exact z
 have same:(∀x∈xs,x.1≠k)→upd H a (.dT (uS kvs k))=H:=fun no=>by
  have e:uS kvs k=kvs:=List.filter_eq_self.mpr fun kv hkv=>by
   have:kv.1≠k:=fun e=>by
    have hm:kv.1∈kvs.map (·.1):=List.mem_map.mpr ⟨kv,hkv,rfl⟩
    rw [uD rel fun x y h=>h.1.symm] at hm
    obtain⟨x,hx,e2⟩:=List.mem_map.mp hm
    exact no x hx (e2.trans e)
   simpa using this
  rw [e]
  funext c
  by_cases hc:c=a
  ·rw [hc,je,ea]
  ·rw [ji hc]
 refine wpAny_call_entry PySem.F.slot_dict_pop ty PySem.F.entry_dict_pop (tO (tO (wpAny_notOrdered_dict ty ?_))) (PySem.F.args_dict_pop_3 _ _ _)
 show wpAny _ _ (pure (a,Value.ref b,some Value.none)) _ _ s
 refine tP ?_
 simp only [show (keyPart (Value.ref b)).isSome=false from rfl,Bool.false_eq_true,if_false]
 obtain⟨ob,es,ep,ho,hc,hdd,he,_⟩:=id dd
 have no_:(∀x∈xs,x.1≠k)→∀tk,EP X pins σ Q .none { s with toks:=tk }:=fun no tk=>⟨.non,H,I.tok _,rfl,same no▸q .non⟩
 refine tO (wpAny_dictEntries ho hdd (tO (tP ?_)))
 cases hE:es.isEmpty with
 | true =>
  have hx:xs=[]:=by
   have h1:es.size=0:=by simpa [Array.isEmpty] using hE
   have:=congrArg List.length he
   rw [Array.length_toList,List.length_map,h1] at this
   exact List.eq_nil_of_length_eq_zero this.symm
  rw [if_pos rfl]
  refine tO (wpAny_rule (tO (tP ?_)))
  rw [if_pos (show (none:Option DictEntry).isNone=true from rfl)]
  exact tO (wpAny_missedRemoval_other hd (tO (wpAny_rule (tP ⟨_,rfl,no_ (by rw [hx];simp) s.toks⟩))))
 | false =>
  rw [if_neg Bool.false_ne_true]
  refine tO (lQ (tupleKind_room_in1 (by omega)) (yr I.hok eb) dd hz (fun no tk=>?_) fun e h' tk hv dd' hs=>?_)
  ·rw [if_pos (show (none:Option DictEntry).isNone=true from rfl)]
   exact tO (wpAny_missedRemoval_other hd (tO (wpAny_rule (tP ⟨_,rfl,no_ no tk⟩))))
  ·rw [if_neg (show ¬(some e).isNone=true from Bool.false_ne_true)]
   obtain⟨x,hx,ev⟩:=hv
   obtain⟨kv,_,_,_,rv⟩:=JW rel hx
   rw [←ev] at rv
   refine tO (wpAny_letGo (tP ⟨_,rfl,kv.2,_,?_,rv,q kv.2⟩))
   obtain⟨o2,es2,ep2,hq,h2,h3,h4,_,h5⟩:=dd'
   refine Gx I (by rw [ea];exact True.intro) hs ⟨o2,hq⟩ ⟨Nat.le_trans (List.length_filter_le _ _) z,hd,_,(rel.dropped k).keeps fun c ys ec=>?_,o2,es2,ep2,hq,h2,h3,h4,h5⟩
   rw [ji (jX ec ea (fun z=>nomatch z))]
   exact ec
end
end L2
namespace L2
open PySem PySem.Spec PyProof.Rows
section
variable {P:tM}{w:World}{K:sZ}{mg:tj}{base:Heap}
end
section
variable {X:Cx}{k:Nat}{m:Str}{C:Addr}{ps:tH}{sp:Sp}{E:XK}
end
end L2
namespace L2
open PySem PyProof.Rows
section
variable {X:Cx}
end
end L2
namespace L2
open PySem PySem.Spec PyProof.Rows
theorem Mq {X:Cx}{K:sZ} (h:X.K=K):ul X (binaryOp .Add) (fU K):=h▸NK
section
variable {X:Cx}{k:Nat}{x m:Str}{C:Addr}{ps:tH}{sp:Sp}{E:St→XK}{p pos apos:Pos}{e o:Expr}{es:tJ}{ta:TE}{t:TA}
end
end L2
namespace L2
open PySem PySem.Spec PyProof.Rows TS
section
variable {X:Cx}
theorem Y3:ux X (.builtin "sorted") (fun xs H Q=>∃p bs ks d,xs=[.ref p]∧H p=some (.lst (bs.map V.ref))∧jM H bs ks∧(∀k∈ks,sd k=d)∧d≠[] ∧
  ∀l bs' ks',H l=none→jM H bs' ks'→ks'.Perm ks→(ks'.Pairwise fun a b=>lx b a=false)→Q (.ref l) (upd H l (.lst (bs'.map V.ref)))):=by
 intro pins s σ H xs us Q I r h
 obtain⟨p,bs,ks,d,rfl,e,ka,hs,hd,q⟩:=h
 obtain⟨u,rfl,ru⟩:=Uk r
 cases ru
 obtain⟨its,rv,pl,hz⟩:=I.list (jD.of e)
 obtain rfl:=yD rv
 have hv:∀v∈bs.map Value.ref,∃(b:Addr) (k:List Key),v=.ref b∧H b=some (.tup (k.map kV))∧k∈ks:=fun v hv=>by
  obtain⟨b,hb,rfl⟩:=List.mem_map.mp hv
  obtain⟨i,hi,eb⟩:=List.getElem_of_mem hb
  have uW:i<ks.length:=by rw [←ka.1];exact hi
  exact⟨b,ks[i],rfl,ka.2 i b ks[i] (by rw [List.getElem?_eq_getElem hi,eb]) (List.getElem?_eq_getElem uW),List.getElem_mem uW⟩
 have hk:(bs.map Value.ref).map (u4 H)=ks:=by
  refine List.ext_getElem (by rw [List.length_map,List.length_map,ka.1]) fun i h1 h2=>?_
  rw [List.getElem_map,List.getElem_map]
  have hb:i<bs.length:=by simpa using h1
  exact uY (ka.2 i bs[i] ks[i] (List.getElem?_eq_getElem hb) (List.getElem?_eq_getElem h2))
 have hks:∀v∈bs.map Value.ref,sd (u4 H v)=d:=fun v hv'=>by
  obtain⟨b,k,rfl,e1,hm⟩:=hv v hv'
  rw [uY e1]
  exact hs k hm
 have hlen:(bs.map Value.ref).length≤sizeLine:=by
  have:=hz
  simpa using this
 refine zM (kc:=u4 H) (fun R hR=>collect_list (A:=X.A.in1) pl.isList (hR _ s.toks (fun b o e=>?_) ?_) hlen) (fun v hv'=>?_) hks hd hlen fun h' tk c p' out kp hp e' pm up=>?_
 ·exact (Heap.get?_update_other _ _ (Nat.ne_of_gt (Heap.lt_size e))).trans (Heap.get?_push_of_some _ e)
 ·show s.heap.objs.size<((s.heap.push _).update _ _).objs.size
  simp [Heap.update,Heap.push]
 ·obtain⟨b,k,rfl,e1,_⟩:=hv v hv'
  rw [uY e1]
  exact Z6 I.hok e1
 ·obtain⟨rv,ka,pm2,up2⟩:=ZV (fun v h=>by obtain⟨b,k,e1,e2,_⟩:=hv v h;exact⟨b,k,e1,e2⟩) hk pm up
  refine⟨.ref p',_,I.laid (t':=tk) (o:=.lst ((out.map KZ).map V.ref)) kp hp ⟨?_,out,c,rv,e'⟩,rfl,q p' _ _ (I.hok.fresh hp) ka pm2 up2⟩
  rw [List.length_map,List.length_map,pm.length_eq]
  exact hlen
theorem pK (hu:X.A.units<cLine):ul X (compareOp .Eq) (fun x y H Q=>∃(a b:Addr) (ns ms:List Int),x=.ref a∧y=.ref b∧jw X.K H a (ns.map V.int)∧jw X.K H b (ms.map V.int)∧Q (.bl (decide (ns=ms))) H):=by
 intro pins s σ H x y v u Q I rx ry h
 obtain⟨a,b,ns,ms,rfl,rfl,ha,hb,q⟩:=h
 cases rx
 cases ry
 obtain⟨its,r1,p1,_⟩:=I.tuple ha
 obtain⟨its2,r2,p2,_⟩:=I.tuple hb
 rw [←zN r1 r2] at q
 exact EqBoolInt.of_rc (SeqAt.RcAt.tuples p1 p2 hu fun j h1 h2=>Y7 r1 r2 j h1 h2) ⟨.bl _,H,I,rfl,q⟩
open Classical in
end
end L2
namespace L2
open PySem PySem.Spec PyProof.Rows
end L2
namespace L2
open PySem PySem.Spec PyProof.Rows TS
section
variable {X:Cx}{pos:Pos}
end
section
variable {X:Cx}{pins:tq}{σ:St}{H:Hp}{s:Shared}
open Classical in
end
end L2
namespace STb
open PySem SetTable
def sm:Nat→Nat
 | 0=>0
 | n+1=>5*sm n+1
theorem Gk (m:Nat):∀n,sm (n+m)=5^n*sm m+sm n
 | 0=>by simp [sm]
 | n+1=>by
  have e:n+1+m=(n+m)+1:=by omega
  rw [e]
  show 5*sm (n+m)+1=5^(n+1)*sm m+(5*sm n+1)
  rw [Gk m n,Nat.pow_succ,Nat.mul_add,Nat.mul_comm (5^n) 5,Nat.mul_assoc]
  omega
theorem mn (n:Nat):5^n % 4=1:=by
 induction n with
 | zero=>rfl
 | succ n ih=>rw [Nat.pow_succ];omega
theorem MQ:∀k,∃d,sm (2^k)=2^k*(2*d+1)
 | 0=>⟨0,rfl⟩
 | k+1=>by
  obtain⟨d,hd⟩:=MQ k
  have e:2^(k+1)=2^k+2^k:=by rw [Nat.pow_succ];omega
  have h4:=mn (2^k)
  obtain⟨q,hq⟩:∃q,5^(2^k)=4*q+1:=⟨5^(2^k) / 4,by omega⟩
  refine⟨2*d*q+d+q,?_⟩
  rw [e,Gk,hd,hq]
  have:(4*q+1)*(2^k*(2*d+1))+2^k*(2*d+1)=2^k*((4*q+2)*(2*d+1)):=by
   rw [←Nat.mul_assoc,Nat.mul_comm (4*q+1),Nat.mul_assoc,←Nat.mul_add]
   congr 1
   rw [show (4*q+2)=(4*q+1)+1 by omega,Nat.add_mul (4*q+1) 1,Nat.one_mul]
  rw [this,←Nat.two_mul,Nat.mul_comm 2 (2^k),Nat.mul_assoc]
  congr 1
  have:(4*q+2)*(2*d+1)=2*((2*q+1)*(2*d+1)):=by rw [←Nat.mul_assoc];congr 1;omega
  rw [this]
  congr 1
  rw [Nat.add_mul,Nat.mul_add,Nat.one_mul,show 2*q*(2*d)=2*(2*d*q) by rw [Nat.mul_assoc,Nat.mul_comm q (2*d)]]
  omega
theorem cG:∀(k b:Nat),∃n,n<2^k∧sm n % 2^k=b % 2^k
 | 0,b=>⟨0,by decide,by simp [Nat.mod_one]⟩
 | k+1,b=>by
  obtain⟨n,hn,he⟩:=cG k b
  have e:2^(k+1)=2^k+2^k:=by rw [Nat.pow_succ];omega
  have hp:0<2^k:=Nat.pow_pos (by decide)
  obtain⟨d,hd⟩:=MQ k
  by_cases h:sm n % 2^(k+1)=b % 2^(k+1)
  ·exact⟨n,by omega,h⟩
  ·refine⟨n+2^k,by omega,?_⟩
   obtain⟨c,hc⟩:∃c,5^n=2*c+1:=⟨5^n / 2,by have:=mn n;omega⟩
   have e1:sm (n+2^k)=sm n+2^k+2^(k+1)*(2*c*d+c+d):=by
    rw [Gk,hd,hc,←Nat.mul_assoc,Nat.mul_comm (2*c+1),Nat.mul_assoc]
    have:(2*c+1)*(2*d+1)=2*(2*c*d+c+d)+1:=by
     rw [Nat.add_mul,Nat.mul_add,Nat.one_mul,show 2*c*(2*d)=2*(2*c*d) by rw [Nat.mul_left_comm]]
     omega
    rw [this,Nat.mul_add,Nat.mul_one,←Nat.mul_assoc,←Nat.pow_succ]
    show 2^(k+1)*_+2^k+sm n=_
    omega
   rw [e1,Nat.add_mul_mod_self_left]
   have d1:=Nat.div_add_mod (sm n) (2^(k+1))
   have d2:=Nat.div_add_mod b (2^(k+1))
   have m1:=Nat.mod_lt (sm n) (show 0<2^(k+1) by omega)
   have m2:=Nat.mod_lt b (show 0<2^(k+1) by omega)
   have q1:sm n % 2^(k+1) % 2^k=sm n % 2^k:=Nat.mod_mod_of_dvd _ ⟨2,by rw [Nat.pow_succ]⟩
   have q2:b % 2^(k+1) % 2^k=b % 2^k:=Nat.mod_mod_of_dvd _ ⟨2,by rw [Nat.pow_succ]⟩
   rw [Nat.add_mod]
   generalize sm n % 2^(k+1)=x at *
   generalize b % 2^(k+1)=y at *
   rw [e] at *
   generalize 2^k=p at *
   have hx:x % p=y % p:=by omega
   have px:x % p=if x<p then x else x - p:=by
    split
    ·exact Nat.mod_eq_of_lt ‹_›
    ·rw [Nat.mod_eq_sub_mod (by omega),Nat.mod_eq_of_lt (by omega)]
   have py:y % p=if y<p then y else y - p:=by
    split
    ·exact Nat.mod_eq_of_lt ‹_›
    ·rw [Nat.mod_eq_sub_mod (by omega),Nat.mod_eq_of_lt (by omega)]
   have pp:p % (p+p)=p:=Nat.mod_eq_of_lt (by omega)
   rw [pp]
   rw [px,py] at hx
   by_cases h1:x<p
   ·rw [Nat.mod_eq_of_lt (by omega)]
    split at hx<;>split at hx<;>omega
   ·rw [Nat.mod_eq_sub_mod (by omega),Nat.mod_eq_of_lt (by omega)]
    split at hx<;>split at hx<;>omega
def Fm (mask i:Nat):Nat:=(i*5+1) % (mask+1)
def zk (mask:Nat) (a:Nat):Nat→Nat
 | 0=>a
 | n+1=>Fm mask (zk mask a n)
theorem gO {mask k:Nat} (hm:mask+1=2^k) (a:Nat) (ha:a≤mask):∀n,zk mask a n=(5^n*a+sm n) % 2^k
 | 0=>by
  show a=(5^0*a+0) % 2^k
  rw [Nat.pow_zero,Nat.one_mul,Nat.add_zero,Nat.mod_eq_of_lt (by omega)]
 | n+1=>by
  show (zk mask a n*5+1) % (mask+1)=(5^(n+1)*a+(5*sm n+1)) % 2^k
  rw [gO hm a ha n,hm,Nat.add_mod,Nat.mod_mul_mod,←Nat.add_mod]
  congr 1
  rw [Nat.add_mul,Nat.pow_succ,Nat.mul_comm (5^n*a) 5,Nat.mul_comm (5^n) 5,Nat.mul_assoc]
  omega
theorem GD (mask a m:Nat):∀n,zk mask (zk mask a m) n=zk mask a (m+n)
 | 0=>rfl
 | n+1=>by show Fm mask _=Fm mask _;rw [GD mask a m n];rfl
theorem Ny {mask k:Nat} (hm:mask+1=2^k) {a b:Nat} (ha:a≤mask) (hb:b≤mask):∃n,n≤mask∧zk mask a n=b:=by
 have z:∀c,c≤mask→∃n,n<2^k∧zk mask 0 n=c:=fun c hc=>by
  obtain⟨n,h1,h2⟩:=cG k c
  refine⟨n,h1,?_⟩
  rw [gO hm 0 (Nat.zero_le _),Nat.mul_zero,Nat.zero_add,h2,Nat.mod_eq_of_lt (by omega)]
 have per:∀n,zk mask 0 (n+2^k)=zk mask 0 n:=fun n=>by
  obtain⟨d,hd⟩:=MQ k
  rw [gO hm 0 (Nat.zero_le _),gO hm 0 (Nat.zero_le _),Nat.mul_zero,Nat.zero_add,Nat.mul_zero,Nat.zero_add,Gk,hd,←Nat.mul_assoc,Nat.mul_comm (5^n),Nat.mul_assoc,Nat.add_comm,Nat.add_mul_mod_self_left]
 obtain⟨m,m1,rfl⟩:=z a ha
 obtain⟨m',m2,rfl⟩:=z b hb
 by_cases h:m≤m'
 ·exact⟨m' - m,by omega,by rw [GD];congr 1;omega⟩
 ·refine⟨m'+2^k - m,by omega,?_⟩
  rw [GD,←per m']
  congr 1
  omega
def UV (mask:Nat) (p:Probe):Probe :=
 if p.more > 0 then { p with j:=p.j+1,more:=p.more - 1 } else { p with j:=(leap mask p.i p.perturb).1,more:=runEnd mask (leap mask p.i p.perturb).1 - (leap mask p.i p.perturb).1,i:=(leap mask p.i p.perturb).1,perturb:=(leap mask p.i p.perturb).2 }
theorem a5 (t:SetTable) (p:Probe):t.advance p=UV t.mask p:=by
 unfold SetTable.advance UV
 split<;>rfl
def sO (mask:Nat) (h:Int):Probe:={ j:=bits h % (mask+1),more:=runEnd mask (bits h % (mask+1)) - bits h % (mask+1),i:=bits h % (mask+1),perturb:=bits h,dummy:=none }
def jK (mask:Nat) (h:Int):Nat→Probe
 | 0=>sO mask h
 | n+1=>UV mask (jK mask h n)
def lp (mask:Nat) (h:Int):Nat→Nat×Nat
 | 0=>(bits h % (mask+1),bits h)
 | m+1=>leap mask (lp mask h m).1 (lp mask h m).2
def gp (mask:Nat) (x:Nat×Nat):Probe:={ j:=x.1,more:=runEnd mask x.1 - x.1,i:=x.1,perturb:=x.2,dummy:=none }
theorem GL {mask:Nat}{h:Int}{n:Nat}{x:Nat×Nat} (e:jK mask h n=gp mask x):∀d,d≤runEnd mask x.1 - x.1→jK mask h (n+d)={ gp mask x with j:=x.1+d,more:=runEnd mask x.1 - x.1 - d }
 | 0,_=>e
 | d+1,hd=>by
  show UV mask (jK mask h (n+d))=_
  rw [GL e d (by omega)]
  unfold UV
  rw [if_pos (by show runEnd mask x.1 - x.1 - d > 0;omega)]
  simp only [gp,Probe.mk.injEq,true_and,and_true]
  omega
theorem cC (mask i:Nat):runEnd mask i - i≤9:=by unfold runEnd;split<;>omega
theorem MB (mask:Nat) (h:Int):∀m,∃n,n≤10*m∧jK mask h n=gp mask (lp mask h m)
 | 0=>⟨0,Nat.le_refl _,rfl⟩
 | m+1=>by
  obtain⟨n,hn,e⟩:=MB mask h m
  have hr:=cC mask (lp mask h m).1
  refine⟨n+(runEnd mask (lp mask h m).1 - (lp mask h m).1)+1,by omega,?_⟩
  show UV mask (jK mask h (n+(runEnd mask (lp mask h m).1 - (lp mask h m).1)))=_
  rw [GL e _ (Nat.le_refl _)]
  unfold UV
  rw [if_neg (by show ¬(runEnd mask (lp mask h m).1 - (lp mask h m).1 - (runEnd mask (lp mask h m).1 - (lp mask h m).1) > 0);omega)]
  rfl
theorem NF (mask:Nat) (h:Int):∀m,(lp mask h m).2=bits h / 32^m
 | 0=>by show bits h=_;rw [Nat.pow_zero,Nat.div_one]
 | m+1=>by
  show (lp mask h m).2 / 32=_
  rw [NF mask h m,Nat.div_div_eq_div_mul,Nat.pow_succ]
theorem io (h:Int):bits h<2^64:=by
 unfold bits
 have h1:=Int.emod_nonneg h (show ((2:Int)^64)≠0 by decide)
 have h2:=Int.emod_lt_of_pos h (show (0:Int)<2^64 by decide)
 omega
theorem fC (mask:Nat) (h:Int):∀m,(lp mask h m).1≤mask
 | 0=>Nat.le_of_lt_succ (Nat.mod_lt _ (Nat.succ_pos _))
 | m+1=>Nat.le_of_lt_succ (Nat.mod_lt _ (Nat.succ_pos _))
theorem iR (mask:Nat) (h:Int) (m:Nat):(lp mask h (13+m)).2=0:=by
 rw [NF]
 refine Nat.div_eq_of_lt (Nat.lt_of_lt_of_le (io h) ?_)
 exact Nat.le_trans (by decide:2^64≤32^13) (Nat.pow_le_pow_right (by decide) (by omega))
theorem az (mask:Nat) (h:Int):∀m,(lp mask h (13+m)).1=zk mask (lp mask h 13).1 m
 | 0=>rfl
 | m+1=>by
  show (leap mask (lp mask h (13+m)).1 (lp mask h (13+m)).2).1=Fm mask _
  rw [iR,az mask h m]
  rfl
theorem i9 {mask k:Nat} (hm:mask+1=2^k) (h:Int) {b:Nat} (hb:b≤mask):∃n,n<10*turns mask∧(jK mask h n).j=b:=by
 obtain⟨m,m1,e⟩:=Ny hm (fC mask h 13) hb
 obtain⟨n,n1,e2⟩:=MB mask h (13+m)
 refine⟨n,by unfold turns;omega,?_⟩
 rw [e2]
 show (lp mask h (13+m)).1=b
 rw [az,e]
theorem zu (mask:Nat) (h:Int):∀n,(jK mask h n).dummy=none
 | 0=>rfl
 | n+1=>by
  show (UV mask (jK mask h n)).dummy=none
  unfold UV
  split
  ·exact zu mask h n
  ·exact zu mask h n
end STb
namespace STb
open PySem SetTable
theorem pZ {mask:Nat}{h:Int} (n:Nat):(jK mask h n).j+(jK mask h n).more≤mask:=by
 have run:∀i,i≤mask→i+(runEnd mask i - i)≤mask:=fun i hi=>by unfold runEnd;split<;>omega
 induction n with
 | zero=>exact run _ (Nat.le_of_lt_succ (Nat.mod_lt _ (Nat.succ_pos _)))
 | succ n ih =>
  show (UV mask (jK mask h n)).j+(UV mask (jK mask h n)).more≤mask
  unfold UV
  split
  ·show (jK mask h n).j+1+((jK mask h n).more - 1)≤mask
   omega
  ·exact run _ (Nat.le_of_lt_succ (Nat.mod_lt _ (Nat.succ_pos _)))
theorem aI {mask:Nat}{h:Int} (n:Nat):(jK mask h n).j≤mask:=by have:=pZ (mask:=mask) (h:=h) n;omega
def vU (xs:Array Nat):Prop:=∀i k,i<k→k<xs.size→xs.getD i 0<xs.getD k 0
theorem iI {xs:Array Nat}{i:Nat} (h:i<xs.size) (a b:Nat):xs.getD i a=xs.getD i b:=by simp [Array.getD,h]
theorem vU.le {xs:Array Nat} (R:vU xs) {i k:Nat} (h:i≤k) (hk:k<xs.size):xs.getD i 0≤xs.getD k 0:=by
 rcases Nat.lt_or_eq_of_le h with h|h
 ·exact Nat.le_of_lt (R i k h hk)
 ·rw [h];exact Nat.le_refl _
theorem ZS {xs:Array Nat}{j:Nat} (R:vU xs):∀(fuel lo hi:Nat),lo≤hi→hi≤xs.size→hi - lo≤fuel→(∀i,i<lo→xs.getD i 0<j)→(∀i,hi≤i→i<xs.size→j≤xs.getD i 0) →
  below.go xs j fuel lo hi≤xs.size∧(∀i,i<below.go xs j fuel lo hi→xs.getD i 0<j)∧∀i,below.go xs j fuel lo hi≤i→i<xs.size→j≤xs.getD i 0
 | 0,lo,hi,h1,h2,h3,h4,h5=>by
  obtain rfl:lo=hi:=by omega
  exact⟨h2,h4,h5⟩
 | fuel+1,lo,hi,h1,h2,h3,h4,h5=>by
  unfold below.go
  split
  ·rename_i hlt
   have m1:(lo+hi) / 2<hi:=by omega
   have m2:lo≤(lo+hi) / 2:=by omega
   generalize (lo+hi) / 2=mid at m1 m2
   dsimp only
   rw [iI (by omega) j 0]
   split
   ·rename_i hm
    exact ZS R fuel (mid+1) hi (by omega) h2 (by omega) (fun i uW=>Nat.lt_of_le_of_lt (R.le (show i≤mid by omega) (by omega)) hm) h5
   ·rename_i hm
    exact ZS R fuel lo mid m2 (by omega) (by omega) h4 fun i h6 h7=>Nat.le_trans (by omega) (R.le h6 h7)
  ·obtain rfl:lo=hi:=by omega
   exact⟨h2,h4,h5⟩
theorem Vw {xs:Array Nat} (R:vU xs) (j:Nat):below xs j≤xs.size∧(∀i,i<below xs j→xs.getD i 0<j)∧∀i,below xs j≤i→i<xs.size→j≤xs.getD i 0 :=
 ZS R _ _ _ (Nat.zero_le _) (Nat.le_refl _) (Nat.le_refl _) (fun i h=>absurd h (Nat.not_lt_zero i)) fun i h1 h2=>by omega
def At (xs:Array Nat) (i j:Nat):Prop:=i<xs.size∧xs.getD i 0=j
def u8 (xs:Array Nat) (j:Nat):Prop:=∃i,At xs i j
theorem At.uniq {xs:Array Nat} (R:vU xs) {i k j:Nat} (a:At xs i j) (b:At xs k j):i=k:=by
 rcases Nat.lt_trichotomy i k with h|h|h
 ·have:=R i k h b.1
  rw [a.2,b.2] at this
  omega
 ·exact h
 ·have:=R k i h a.1
  rw [a.2,b.2] at this
  omega
theorem VB {xs:Array Nat}{i j:Nat}:(xs[i]?=some j)↔At xs i j:=by
 unfold At
 constructor
 ·intro h
  obtain⟨h1,h2⟩:=Array.getElem?_eq_some_iff.mp h
  exact⟨h1,by simp [Array.getD,h1,h2]⟩
 ·rintro⟨h1,h2⟩
  rw [Array.getElem?_eq_some_iff]
  exact⟨h1,by simpa [Array.getD,h1] using h2⟩
theorem zL {t:SetTable} (R:vU t.place) {i j:Nat} (a:At t.place i j):t.slot j=.live i:=by
 obtain⟨b1,b2,b3⟩:=Vw R j
 have e:below t.place j=i:=by
  rcases Nat.lt_trichotomy i (below t.place j) with h|h|h
  ·have:=b2 i h
   rw [a.2] at this
   omega
  ·exact h.symm
  ·have h1:=b3 (below t.place j) (Nat.le_refl _) (by have:=a.1;omega)
   have h2:=R (below t.place j) i h a.1
   rw [a.2] at h2
   omega
 unfold SetTable.slot
 rw [e]
 dsimp only
 rw [VB.mpr a,if_pos (by simp)]
theorem aN {t:SetTable} (R:vU t.place) (dm:t.dummies=#[]) {j:Nat} (n:¬u8 t.place j):t.slot j=.empty:=by
 unfold SetTable.slot
 dsimp only
 rw [if_neg (fun z=>n ⟨_,VB.mp (by simpa using z)⟩),dm]
 rfl
theorem uX {α:Type} (xs:Array α) {p:Nat} (hp:p≤xs.size) (x:α):(insertAt xs p x).size=xs.size+1:=by
 unfold insertAt
 simp
 omega
theorem getElem?_insertAt {α:Type} (xs:Array α) {p:Nat} (hp:p≤xs.size) (x:α) (i:Nat):(insertAt xs p x)[i]?=if i<p then xs[i]? else if i=p then some x else xs[i - 1]?:=by
 unfold insertAt
 rw [Array.getElem?_append,Array.size_push,Array.size_extract]
 have e:min p xs.size - 0=p:=by omega
 rw [e,Array.getElem?_push,Array.size_extract,e]
 by_cases h1:i<p
 ·rw [if_pos (by omega),if_neg (by omega),if_pos h1,Array.getElem?_extract,if_pos (by omega),Nat.zero_add]
 ·rw [if_neg h1]
  by_cases h2:i=p
  ·rw [if_pos (by omega),if_pos h2,if_pos h2]
  ·rw [if_neg (by omega),if_neg h2,Array.getElem?_extract]
   have e2:p+(i - (p+1))=i - 1:=by omega
   rw [e2]
   by_cases h3:i - 1<xs.size
   ·rw [if_pos (by omega)]
   ·rw [if_neg (by omega),Array.getElem?_eq_none (by omega)]
theorem VA (xs:Array Nat) (i:Nat):xs.getD i 0=(xs[i]?).getD 0:=by
 rw [Array.getD_getElem?]
 rfl
theorem mI {xs:Array Nat}{p:Nat} (hp:p≤xs.size) (x i:Nat):(insertAt xs p x).getD i 0=if i<p then xs.getD i 0 else if i=p then x else xs.getD (i - 1) 0:=by
 rw [VA,getElem?_insertAt xs hp,VA,VA]
 split
 ·rfl
 ·split<;>rfl
theorem lm {xs:Array Nat} (R:vU xs) {j:Nat} (n:¬u8 xs j):vU (insertAt xs (below xs j) j):=by
 obtain⟨b1,b2,b3⟩:=Vw R j
 intro i k hik hk
 rw [uX xs b1] at hk
 rw [mI b1,mI b1]
 have up:∀m,below xs j≤m→m<xs.size→j<xs.getD m 0:=fun m h1 h2=>by
  rcases Nat.lt_or_eq_of_le (b3 m h1 h2) with h|h
  ·exact h
  ·exact absurd ⟨m,h2,h.symm⟩ n
 by_cases h1:i<below xs j
 ·rw [if_pos h1]
  by_cases h2:k<below xs j
  ·rw [if_pos h2];exact R i k hik (by omega)
  ·rw [if_neg h2]
   by_cases h3:k=below xs j
   ·rw [if_pos h3];exact b2 i h1
   ·rw [if_neg h3];exact R i (k - 1) (by omega) (by omega)
 ·rw [if_neg h1,if_neg (show ¬k<below xs j by omega),if_neg (show ¬k=below xs j by omega)]
  by_cases h3:i=below xs j
  ·rw [if_pos h3];exact up (k - 1) (by omega) (by omega)
  ·rw [if_neg h3];exact R (i - 1) (k - 1) (by omega) (by omega)
theorem Y2 {xs:Array Nat}{p:Nat} (hp:p≤xs.size) {x i j:Nat}:At (insertAt xs p x) i j↔if i<p then At xs i j else if i=p then x=j else At xs (i - 1) j∧0<i:=by
 rw [←VB,getElem?_insertAt xs hp]
 split
 ·exact VB
 ·split
  ·simp
  ·rw [VB]
   exact⟨fun h=>⟨h,by omega⟩,fun h=>h.1⟩
theorem NX {xs:Array Nat}{p:Nat} (hp:p≤xs.size) {x j:Nat}:u8 (insertAt xs p x) j↔u8 xs j∨j=x:=by
 constructor
 ·rintro⟨i,h⟩
  rw [Y2 hp] at h
  split at h
  ·exact .inl ⟨i,h⟩
  ·split at h
   ·exact .inr h.symm
   ·exact .inl ⟨i - 1,h.1⟩
 ·rintro (⟨i,h⟩|rfl)
  ·by_cases h1:i<p
   ·exact⟨i,(Y2 hp).mpr (by rw [if_pos h1];exact h)⟩
   ·exact⟨i+1,(Y2 hp).mpr (by rw [if_neg (by omega),if_neg (by omega)];exact⟨h,by omega⟩)⟩
  ·exact⟨p,(Y2 hp).mpr (by rw [if_neg (by omega),if_pos rfl])⟩
structure Ua (t:SetTable) (hs:Nat→Int) (n:Nat):Prop where
 size:t.place.size=n
 ris:vU t.place
 le:∀j,u8 t.place j→j≤t.mask
 dm:t.dummies=#[]
 pw:∃k,t.mask+1=2^k
 room:n≤t.mask
 reach:∀i j,At t.place i j→∃m,(jK t.mask (hs i) m).j=j∧∀m',m'<m→u8 t.place (jK t.mask (hs i) m').j
theorem Mw:∀(n:Nat) (f:Nat→Nat),(∀j,j≤n→∃i,i<n∧f i=j)→False
 | 0,f,h=>by obtain⟨i,hi,_⟩:=h 0 (Nat.le_refl _);omega
 | n+1,f,h=>by
  obtain⟨i0,h0,e0⟩:=h (n+1) (Nat.le_refl _)
  refine Mw n (fun i=>if i=i0 then f n else f i) fun j hj=>?_
  obtain⟨i,hi,e⟩:=h j (by omega)
  have ne:i≠i0:=fun z=>by rw [z,e0] at e;omega
  by_cases hn:i=n
  ·refine⟨i0,by omega,?_⟩
   show (if i0=i0 then f n else f i0)=j
   rw [if_pos rfl,←hn];exact e
  ·refine⟨i,by omega,?_⟩
   show (if i=i0 then f n else f i)=j
   rw [if_neg ne];exact e
theorem Ua.free {t:SetTable}{hs:Nat→Int}{n:Nat} (T:Ua t hs n):∃j,j≤t.mask∧¬u8 t.place j:=by
 refine Classical.byContradiction fun z=>?_
 refine Mw t.mask (fun i=>t.place.getD i 0) fun j hj=>?_
 have h1:u8 t.place j:=Classical.byContradiction fun q=>z ⟨j,hj,q⟩
 obtain⟨i,h2,h3⟩:=h1
 exact⟨i,by have:=T.room;have:=T.size;omega,h3⟩
def l9 (t:SetTable) (hs:Nat→Int) (h:Int) (m:Nat):Prop:=¬u8 t.place (jK t.mask h m).j∨∃i,At t.place i (jK t.mask h m).j∧hs i=h
theorem Mz {t:SetTable}{hs:Nat→Int}{n:Nat} (T:Ua t hs n) {h:Int}:∀(d fuel m:Nat),d<fuel→l9 t hs h (m+d)→(∀d',d'<d→¬l9 t hs h (m+d')) →
  (¬u8 t.place (jK t.mask h (m+d)).j∧SetTable.probe.go t hs h fuel (jK t.mask h m)=some (.empty (jK t.mask h (m+d)).j none)) ∨
  ∃i,At t.place i (jK t.mask h (m+d)).j∧hs i=h∧SetTable.probe.go t hs h fuel (jK t.mask h m)=some (.candidate (jK t.mask h (m+d)).j i (jK t.mask h (m+d+1)))
 | 0,fuel+1,m,_,hst,_=>by
  rcases hst with hst|⟨i,ha,hh⟩
  ·refine .inl ⟨hst,?_⟩
   rw [SetTable.probe.go]
   rw [show m+0=m from rfl] at hst ⊢
   rw [aN T.ris T.dm hst]
   show some (Met.empty _ (jK t.mask h m).dummy)=_
   rw [zu]
  ·refine .inr ⟨i,ha,hh,?_⟩
   rw [SetTable.probe.go]
   rw [show m+0=m from rfl] at ha ⊢
   rw [zL T.ris ha]
   dsimp only
   rw [if_pos (by rw [hh];exact beq_self_eq_true _),a5]
   rfl
 | d+1,fuel+1,m,hf,hst,hno=>by
  have h0:=hno 0 (by omega)
  have ht:u8 t.place (jK t.mask h m).j:=Classical.byContradiction fun z=>h0 (.inl z)
  obtain⟨i,ha⟩:=ht
  have hne:hs i≠h:=fun z=>h0 (.inr ⟨i,ha,z⟩)
  have e:m+1+d=m+(d+1):=by omega
  have ih:=Mz T d fuel (m+1) (by omega) (by rw [e];exact hst) fun d' hd'=>by
   have:=hno (d'+1) (by omega)
   rwa [show m+(d'+1)=m+1+d' by omega] at this
  rw [e] at ih
  have go:SetTable.probe.go t hs h (fuel+1) (jK t.mask h m)=SetTable.probe.go t hs h fuel (jK t.mask h (m+1)):=by
   rw [SetTable.probe.go,zL T.ris ha]
   dsimp only
   rw [if_neg (by simpa using hne),a5]
   rfl
  rw [go]
  exact ih
theorem qV {p:Nat→Prop}:∀(n:Nat),p n→∃m,m≤n∧p m∧∀k,k<m→¬p k:=by
 intro n
 induction n using Nat.strongRecOn with
 | _ n ih =>
  intro h
  by_cases z:∃k,k<n∧p k
  ·obtain⟨k,hk,pk⟩:=z
   obtain⟨m,h1,h2,h3⟩:=ih k hk pk
   exact⟨m,by omega,h2,h3⟩
  ·exact⟨n,Nat.le_refl _,h,fun k hk pk=>z ⟨k,hk,pk⟩⟩
theorem Ua.probe {t:SetTable}{hs:Nat→Int}{n:Nat} (T:Ua t hs n) (h:Int) {m:Nat} (ahead:∀m',m'<m→u8 t.place (jK t.mask h m').j):∃m2,m≤m2∧m2<10*turns t.mask∧(∀m',m≤m'→m'<m2→u8 t.place (jK t.mask h m').j∧∀i,At t.place i (jK t.mask h m').j→hs i≠h) ∧
  ((¬u8 t.place (jK t.mask h m2).j∧t.probe hs h (jK t.mask h m)=some (.empty (jK t.mask h m2).j none)) ∨
   ∃i,At t.place i (jK t.mask h m2).j∧hs i=h∧t.probe hs h (jK t.mask h m)=some (.candidate (jK t.mask h m2).j i (jK t.mask h (m2+1)))):=by
 obtain⟨b,hb,nb⟩:=T.free
 obtain⟨k,hk⟩:=T.pw
 obtain⟨nb',h1,e1⟩:=i9 hk h hb
 have hm:m≤nb':=Classical.byContradiction fun z=>nb (by rw [←e1];exact ahead nb' (by omega))
 obtain⟨d,hd,hs1,hs2⟩:=qV (p:=fun d=>l9 t hs h (m+d)) (nb' - m) (.inl (by rw [show m+(nb' - m)=nb' by omega,e1];exact nb))
 refine⟨m+d,by omega,by omega,fun m' g1 g2=>?_,Mz T d _ m (by omega) hs1 hs2⟩
 have:=hs2 (m' - m) (by omega)
 rw [show m+(m' - m)=m' by omega] at this
 refine⟨Classical.byContradiction fun z=>this (.inl z),fun i ha z=>this (.inr ⟨i,ha,z⟩)⟩
end STb
namespace STb
open PySem SetTable
def yi (owner:tK) (j:Nat):Prop:=(owner.getD j (some 0)).isNone=true
theorem Nv {owner:tK}{mask:Nat}{h:Int}{mb:Nat} (nb:yi owner (lp mask h mb).1):∀(fuel m n:Nat),mb<m+fuel→m≤mb→jK mask h n=gp mask (lp mask h m)→(∀n',n'<n→¬yi owner (jK mask h n').j) →
  ∃n2,layClean.free mask owner fuel (lp mask h m).1 (lp mask h m).2=some (jK mask h n2).j∧yi owner (jK mask h n2).j∧∀n',n'<n2→¬yi owner (jK mask h n').j
 | 0,m,n,hf,hm,_,_=>absurd hf (by omega)
 | fuel+1,m,n,hf,hm,hn,ahead=>by
  have run:=GL hn
  have ge:(lp mask h m).1≤runEnd mask (lp mask h m).1:=by unfold runEnd;split<;>omega
  have jd:∀d,d≤runEnd mask (lp mask h m).1 - (lp mask h m).1→(jK mask h (n+d)).j=(lp mask h m).1+d:=fun d hd=>by rw [run d hd]
  rw [layClean.free]
  cases e:(List.range (runEnd mask (lp mask h m).1+1 - (lp mask h m).1)).find? fun k=>(owner.getD ((lp mask h m).1+k) (some 0)).isNone with
  | some k =>
   obtain⟨h1,as,bs,h2,h3⟩:=List.find?_eq_some_iff_append.mp e
   have hk:k∈List.range (runEnd mask (lp mask h m).1+1 - (lp mask h m).1):=by rw [h2];simp
   rw [List.mem_range] at hk
   have hlen:as.length=k:=by
    have h4:(List.range (runEnd mask (lp mask h m).1+1 - (lp mask h m).1))[as.length]?=some k:=by rw [h2];simp
    have h5:as.length<(List.range (runEnd mask (lp mask h m).1+1 - (lp mask h m).1)).length:=(List.getElem?_eq_some_iff.mp h4).1
    rw [List.length_range] at h5
    rw [List.getElem?_range h5] at h4
    exact Option.some.inj h4
   refine⟨n+k,?_,?_,fun n' hn'=>?_⟩
   ·rw [jd k (by omega)]
   ·rw [jd k (by omega)];exact h1
   ·by_cases hl:n'<n
    ·exact ahead n' hl
    ·obtain⟨d,rfl⟩:∃d,n'=n+d:=⟨n' - n,by omega⟩
     rw [jd d (by omega)]
     intro z
     have hd:d∈as:=by
      have h5:d<(List.range (runEnd mask (lp mask h m).1+1 - (lp mask h m).1)).length:=by rw [List.length_range];omega
      have h6:(List.range (runEnd mask (lp mask h m).1+1 - (lp mask h m).1))[d]?=some d:=List.getElem?_range (by rw [List.length_range] at h5;exact h5)
      rw [h2,List.getElem?_append_left (by omega)] at h6
      exact List.mem_of_getElem? h6
     have:=h3 d hd
     rw [z] at this
     cases this
  | none =>
   dsimp only
   have none':=List.find?_eq_none.mp e
   have hall:∀d,d≤runEnd mask (lp mask h m).1 - (lp mask h m).1→¬yi owner ((lp mask h m).1+d):=fun d hd=>none' d (List.mem_range.mpr (by omega))
   have hlt:m<mb:=by
    rcases Nat.lt_or_eq_of_le hm with h1|h1
    ·exact h1
    ·have:=hall 0 (Nat.zero_le _)
     rw [Nat.add_zero,h1] at this
     exact absurd nb this
   refine Nv nb fuel (m+1) (n+(runEnd mask (lp mask h m).1 - (lp mask h m).1)+1) (by omega) (by omega) ?_ fun n' hn'=>?_
   ·show UV mask (jK mask h (n+(runEnd mask (lp mask h m).1 - (lp mask h m).1)))=_
    rw [run _ (Nat.le_refl _)]
    unfold UV
    rw [if_neg (by show ¬(runEnd mask (lp mask h m).1 - (lp mask h m).1 - (runEnd mask (lp mask h m).1 - (lp mask h m).1) > 0);omega)]
    rfl
   ·by_cases hl:n'<n
    ·exact ahead n' hl
    ·obtain⟨d,rfl⟩:∃d,n'=n+d:=⟨n' - n,by omega⟩
     rw [jd d (by omega)]
     exact hall d (by omega)
theorem iC {owner:tK}{mask k:Nat} (hm:mask+1=2^k) (h:Int) {b:Nat} (hb:b≤mask) (nb:yi owner b):∃n2,layClean.free mask owner (turns mask) (bits h % (mask+1)) (bits h)=some (jK mask h n2).j∧yi owner (jK mask h n2).j∧∀n',n'<n2→¬yi owner (jK mask h n').j:=by
 obtain⟨m,m1,e⟩:=Ny hm (fC mask h 13) hb
 exact Nv (mb:=13+m) (by rw [az,e];exact nb) (turns mask) 0 0 (by unfold turns;omega) (by omega) rfl fun n' h=>absurd h (Nat.not_lt_zero _)
structure ym (mask:Nat) (hs:Nat→Int) (owner:tK) (r:Nat):Prop where
 size:owner.size=mask+1
 val:∀(j k:Nat),owner[j]?=some (some k)→k<r
 ex:∀k:Nat,k<r→∃j:Nat,owner[j]?=some (some k)
 uq:∀(j j' k:Nat),owner[j]?=some (some k)→owner[j']?=some (some k)→j=j'
 reach:∀(j k:Nat),owner[j]?=some (some k)→∃n,(jK mask (hs k) n).j=j∧∀n',n'<n→∃k':Nat,owner[(jK mask (hs k) n').j]?=some (some k')
theorem Nr {owner:tK}{j:Nat} (hj:j<owner.size):yi owner j↔owner[j]?=some none:=by
 unfold yi
 rw [Array.getElem?_eq_getElem hj]
 simp only [Array.getD,hj,dite_true]
 show (owner[j]).isNone=true↔some owner[j]=some none
 generalize owner[j]=x
 cases x<;>simp
theorem NJ {owner:tK}{j:Nat} (hj:j<owner.size) (h:¬yi owner j):∃k,owner[j]?=some (some k):=by
 rw [Nr hj,Array.getElem?_eq_getElem hj] at h
 rw [Array.getElem?_eq_getElem hj]
 cases e:owner[j] with
 | none=>rw [e] at h;exact absurd rfl h
 | some k=>exact⟨k,rfl⟩
theorem ym.free {mask:Nat}{hs:Nat→Int}{owner:tK}{r:Nat} (O:ym mask hs owner r) (hr:r≤mask):∃j,j≤mask∧yi owner j:=by
 refine Classical.byContradiction fun z=>?_
 refine Mw mask (fun i=>if h:i<r then Classical.choose (O.ex i h) else 0) fun j hj=>?_
 have hne:¬yi owner j:=fun q=>z ⟨j,hj,q⟩
 obtain⟨k,hk⟩:=NJ (by rw [O.size];omega) hne
 have hkr:=O.val j k hk
 refine⟨k,by omega,?_⟩
 show (if h:k<r then Classical.choose (O.ex k h) else 0)=j
 rw [dif_pos hkr]
 exact O.uq _ _ k (Classical.choose_spec (O.ex k hkr)) hk
theorem ym.step {mask p:Nat}{hs:Nat→Int}{owner:tK}{r:Nat} (hm:mask+1=2^p) (O:ym mask hs owner r) (hr:r≤mask):∃j,layClean.free mask owner (turns mask) (bits (hs r) % (mask+1)) (bits (hs r))=some j∧ym mask hs (owner.setIfInBounds j (some r)) (r+1):=by
 obtain⟨b,hb,nb⟩:=O.free hr
 obtain⟨n2,e1,e2,e3⟩:=iC hm (hs r) hb nb
 refine⟨_,e1,?_⟩
 have hj:(jK mask (hs r) n2).j<owner.size:=by rw [O.size];have:=aI (mask:=mask) (h:=hs r) n2;omega
 have ej:=(Nr hj).mp e2
 generalize hjj:(jK mask (hs r) n2).j=j at hj ej
 have get:∀i:Nat,(owner.setIfInBounds j (some r))[i]?=if i=j then some (some r) else owner[i]?:=fun i=>by
  rw [Array.getElem?_setIfInBounds]
  by_cases h:j=i
  ·subst h
   rw [if_pos rfl,if_pos hj,if_pos rfl]
  ·rw [if_neg h,if_neg (fun z=>h z.symm)]
 have keep:∀(i k:Nat),owner[i]?=some (some k)→(owner.setIfInBounds j (some r))[i]?=some (some k):=fun i k h=>by
  rw [get,if_neg (fun z=>by rw [z,ej] at h;cases h)]
  exact h
 refine⟨by rw [Array.size_setIfInBounds];exact O.size,fun i k h=>?_,fun k hk=>?_,fun i i' k h h'=>?_,fun i k h=>?_⟩
 ·rw [get] at h
  split at h
  ·cases h;omega
  ·have:=O.val i k h;omega
 ·by_cases h:k=r
  ·exact⟨j,by rw [get,if_pos rfl,h]⟩
  ·obtain⟨i,hi⟩:=O.ex k (by omega)
   exact⟨i,keep i k hi⟩
 ·rw [get] at h h'
  split at h
  ·cases h
   split at h'
   ·rename_i a b;rw [a,b]
   ·have:=O.val i' r h';omega
  ·split at h'
   ·cases h';have:=O.val i r h;omega
   ·exact O.uq i i' k h h'
 ·rw [get] at h
  split at h
  ·rename_i e
   cases h
   refine⟨n2,by rw [hjj,e],fun n' hn'=>?_⟩
   obtain⟨k',hk'⟩:=NJ (by rw [O.size];have:=aI (mask:=mask) (h:=hs r) n';omega) (e3 n' hn')
   exact⟨k',keep _ _ hk'⟩
  ·obtain⟨n,a1,a2⟩:=O.reach i k h
   refine⟨n,a1,fun n' hn'=>?_⟩
   obtain⟨k',hk'⟩:=a2 n' hn'
   exact⟨k',keep _ _ hk'⟩
theorem ym.start (mask:Nat) (hs:Nat→Int):ym mask hs (Array.replicate (mask+1) none) 0:=by
 have no:∀(j k:Nat),(Array.replicate (mask+1) (none:Option Nat))[j]?=some (some k)→False:=fun j k h=>by
  rw [Array.getElem?_replicate] at h
  split at h<;>cases h
 exact⟨by simp,fun j k h=>(no j k h).elim,fun k h=>absurd h (Nat.not_lt_zero _),fun j j' k h=>(no j k h).elim,fun j k h=>(no j k h).elim⟩
end STb
namespace STb
open PySem SetTable
theorem mR {mask p:Nat}{hs:Nat→Int} (hm:mask+1=2^p) {f:Option (Array (Option Nat)×Nat)→Int→Option (Array (Option Nat)×Nat)}
  (hf:∀owner k h,f (some (owner,k)) h=(layClean.free mask owner (turns mask) (bits h % (mask+1)) (bits h)).bind fun j=>some (owner.setIfInBounds j (some k),k+1)) :
  ∀(l:List Int) (r:Nat) (owner:tK),(∀i h,l[i]?=some h→hs (r+i)=h)→r+l.length≤mask+1→ym mask hs owner r→∃owner',l.foldl f (some (owner,r))=some (owner',r+l.length)∧ym mask hs owner' (r+l.length)
 | [],r,owner,_,_,O=>⟨owner,rfl,O⟩
 | h::l,r,owner,hh,hr,O=>by
  have h0:=hh 0 h rfl
  rw [Nat.add_zero] at h0
  rw [List.length_cons] at hr
  obtain⟨j,e,O'⟩:=O.step hm (by omega)
  rw [h0] at e
  obtain⟨o2,e2,O2⟩:=mR hm hf l (r+1) _ (fun i x hx=>by
   have:=hh (i+1) x hx
   rwa [show r+(i+1)=r+1+i by omega] at this) (by omega) O'
  refine⟨o2,?_,by rw [List.length_cons,show r+(l.length+1)=r+1+l.length by omega];exact O2⟩
  rw [List.foldl_cons,hf,e,List.length_cons,show r+(l.length+1)=r+1+l.length by omega]
  exact e2
theorem nS {mask p:Nat} (hm:mask+1=2^p) (hashes:Array Int) (hn:hashes.size≤mask+1):∃owner,layClean mask hashes=some owner∧ym mask (fun i=>hashes.getD i 0) owner hashes.size:=by
 unfold layClean
 obtain⟨o,e,O⟩:=mR (hs:=fun i=>hashes.getD i 0) hm (f:=fun acc h=>do
  let (owner,k) ←acc
  let j ←layClean.free mask owner (turns mask) (bits h % (mask+1)) (bits h)
  pure (owner.setIfInBounds j (some k),k+1)) (fun owner k h=>rfl) hashes.toList 0 (Array.replicate (mask+1) none) (fun i h hi=>by
   rw [Nat.zero_add]
   rw [Array.getElem?_toList] at hi
   obtain⟨h1,h2⟩:=Array.getElem?_eq_some_iff.mp hi
   simp [Array.getD,h1,h2]) (by rw [Array.length_toList];omega) (ym.start mask _)
 rw [Nat.zero_add,Array.length_toList] at e O
 refine⟨o,?_,O⟩
 rw [←Array.foldl_toList,e]
 rfl
def Ug (mask:Nat) (owner:tK):List (Nat×Nat):=(List.range (mask+1)).filterMap fun j=>(owner.getD j none).map (j,·)
theorem VC {mask:Nat}{hs:Nat→Int}{owner:tK}{n:Nat} (O:ym mask hs owner n) {j k:Nat}:(j,k)∈Ug mask owner↔owner[j]?=some (some k):=by
 unfold Ug
 rw [List.mem_filterMap]
 constructor
 ·rintro⟨a,ha,e⟩
  obtain⟨x,e1,e2⟩:=Option.map_eq_some_iff.mp e
  cases e2
  rw [List.mem_range] at ha
  have hs:j<owner.size:=by rw [O.size];exact ha
  rw [Array.getElem?_eq_getElem hs]
  simp only [Array.getD,hs,dite_true] at e1
  rw [←e1];rfl
 ·intro h
  obtain⟨h1,h2⟩:=Array.getElem?_eq_some_iff.mp h
  refine⟨j,List.mem_range.mpr (by rw [←O.size];exact h1),?_⟩
  simp only [Array.getD,h1,dite_true]
  show Option.map _ owner[j]=_
  rw [h2];rfl
theorem NE (mask:Nat) (owner:tK):(Ug mask owner).Pairwise fun a b=>a.1<b.1:=by
 unfold Ug
 refine List.Pairwise.filterMap _ (fun a a' h b hb b' hb'=>?_) List.pairwise_lt_range
 obtain⟨x,_,rfl⟩:=Option.map_eq_some_iff.mp hb
 obtain⟨x',_,rfl⟩:=Option.map_eq_some_iff.mp hb'
 exact h
theorem bW {mask:Nat}{hs:Nat→Int}{owner:tK}{n:Nat} (O:ym mask hs owner n):((Ug mask owner).map (·.2)).Perm (List.range n):=by
 refine (List.perm_ext_iff_of_nodup ?_ List.nodup_range).mpr fun k=>?_
 ·refine List.pairwise_map.mpr ((NE mask owner).imp_of_mem fun {a b} ha hb h e=>?_)
  have h1:=(VC O).mp (show (a.1,a.2)∈Ug mask owner from ha)
  have h2:=(VC O).mp (show (b.1,b.2)∈Ug mask owner from hb)
  rw [e] at h1
  have:=O.uq _ _ _ h1 h2
  omega
 ·rw [List.mem_map,List.mem_range]
  constructor
  ·rintro⟨⟨j,k'⟩,h,rfl⟩
   exact O.val j k' ((VC O).mp h)
  ·intro hk
   obtain⟨j,hj⟩:=O.ex k hk
   exact⟨(j,k),(VC O).mpr hj,rfl⟩
theorem ND {l:List (Nat×Nat)}{i j:Nat} (a:At (l.map (·.1)).toArray i j):∃k,l[i]?=some (j,k):=by
 have:=VB.mpr a
 rw [List.getElem?_toArray,List.getElem?_map] at this
 obtain⟨x,h1,h2⟩:=Option.map_eq_some_iff.mp this
 exact⟨x.2,by rw [h1,←h2]⟩
theorem ij {l:List (Nat×Nat)}{i j k:Nat} (h:l[i]?=some (j,k)):At (l.map (·.1)).toArray i j:=by
 refine VB.mp ?_
 rw [List.getElem?_toArray,List.getElem?_map,h];rfl
theorem d9 {l:List (Nat×Nat)} (h:l.Pairwise fun a b=>a.1<b.1):vU (l.map (·.1)).toArray:=by
 intro i k hik hk
 rw [List.size_toArray,List.length_map] at hk
 rw [VA,VA,List.getElem?_toArray,List.getElem?_toArray,List.getElem?_map,List.getElem?_map,List.getElem?_eq_getElem (by omega),List.getElem?_eq_getElem hk]
 exact List.pairwise_iff_getElem.mp h i k (by omega) hk hik
theorem zq {α:Type}{es:Array α}:∀{l:List Nat},(∀k∈l,k<es.size)→∀i:Nat,(l.filterMap (fun k:Nat=>es[k]?))[i]?=(l[i]?).bind (fun k:Nat=>es[k]?)
 | [],_,i=>by simp
 | k::l,h,i=>by
  have hk:=h k (List.mem_cons_self ..)
  have e:es[k]?=some es[k]:=Array.getElem?_eq_getElem hk
  rw [List.filterMap_cons,e]
  dsimp only
  cases i with
  | zero=>simp [e]
  | succ i =>
   rw [List.getElem?_cons_succ,List.getElem?_cons_succ]
   exact zq (fun k hk=>h k (List.mem_cons_of_mem _ hk)) i
structure rL (mask n:Nat) (hashes:Array Int) (place:Array Nat) (order:Array Nat):Prop where
 size:place.size=n
 ris:vU place
 le:∀j,u8 place j→j≤mask
 perm:order.toList.Perm (List.range n)
 reach:∀i j,At place i j→∃k,order[i]?=some k∧∃m,(jK mask (hashes.getD k 0) m).j=j∧∀m',m'<m→u8 place (jK mask (hashes.getD k 0) m').j
theorem iP {mask p:Nat} (hm:mask+1=2^p) (hashes:Array Int) (hn:hashes.size≤mask+1) (finger moves:Nat) (led plain:Bool) :
  ∃place order,laid mask finger moves led plain hashes=some ({ mask,place,dummies:=#[],finger,led,moves,plain },order)∧rL mask hashes.size hashes place order:=by
 obtain⟨owner,e,O⟩:=nS hm hashes hn
 have lp:=bW O
 have mem:∀j k,(j,k)∈Ug mask owner↔owner[j]?=some (some k):=fun j k=>VC O
 have tk:∀j,u8 ((Ug mask owner).map (·.1)).toArray j↔∃k:Nat,owner[j]?=some (some k):=fun j=>by
  constructor
  ·rintro⟨i,a⟩
   obtain⟨k,hk⟩:=ND a
   exact⟨k,(mem j k).mp (List.mem_of_getElem? hk)⟩
  ·rintro⟨k,hk⟩
   obtain⟨i,hi,ei⟩:=List.getElem_of_mem ((mem j k).mpr hk)
   exact⟨i,ij (k:=k) (by rw [List.getElem?_eq_getElem hi,ei])⟩
 refine⟨((Ug mask owner).map (·.1)).toArray,((Ug mask owner).map (·.2)).toArray,?_,?_,d9 (NE mask owner),fun j hj=>?_,lp,fun i j a=>?_⟩
 ·unfold laid
  rw [e]
  rfl
 ·have:=lp.length_eq
  rw [List.length_map,List.length_range] at this
  rw [List.size_toArray,List.length_map,this]
 ·obtain⟨k,hk⟩:=(tk j).mp hj
  have:=(Array.getElem?_eq_some_iff.mp hk).1
  rw [O.size] at this
  omega
 ·obtain⟨k,hk⟩:=ND a
  obtain⟨m,h1,h2⟩:=O.reach j k ((mem j k).mp (List.mem_of_getElem? hk))
  refine⟨k,by rw [List.getElem?_toArray,List.getElem?_map,hk];rfl,m,h1,fun m' hm'=>?_⟩
  exact (tk _).mpr (h2 m' hm')
theorem zK (n:Nat):∀(fuel q:Nat),n<2^(q+fuel)→∃k,sizeAbove.go n fuel (2^q)=2^k∧q≤k∧n<2^k∧(k=q∨2^k≤2*n)
 | 0,q,h=>⟨q,rfl,Nat.le_refl _,h,.inl rfl⟩
 | fuel+1,q,h=>by
  rw [sizeAbove.go]
  split
  ·rename_i hle
   obtain⟨k,h1,h2,h3,h4⟩:=zK n fuel (q+1) (by rw [show q+1+fuel=q+(fuel+1) by omega];exact h)
   refine⟨k,by rw [←h1,Nat.pow_succ],by omega,h3,.inr ?_⟩
   rcases h4 with h4|h4
   ·rw [h4,Nat.pow_succ];omega
   ·exact h4
  ·rename_i hlt
   exact⟨q,rfl,Nat.le_refl _,by omega,.inl rfl⟩
theorem MO {n:Nat} (h:n<2^60):∃k,sizeAbove n=2^k∧3≤k∧n<2^k∧(k=3∨2^k≤2*n):=by
 have:=zK n 64 3 (Nat.lt_of_lt_of_le h (Nat.pow_le_pow_right (by decide) (by decide)))
 exact this
end STb
namespace STb
open PySem PySem.Spec PyProof.Rows L2 SetTable
section
variable {P:tM}{w:World}{A:Around}{E:sV}{s:Shared}
abbrev tk (P:tM) (w:World):HeapKind P w (List Key):=tupleKind (jJ P w)
theorem ap {ks:List Key}{vs:tz} (h:ItemsAre (jJ P w) ks vs):∀v∈vs,v.scannable=true:=by
 induction h with
 | nil=>intro v hv;cases hv
 | cons h1 _ ih =>
  intro v hv
  rcases List.mem_cons.mp hv with rfl|hv
  ·rcases Jr h1 with ⟨i,t,_,rfl⟩|⟨x,t,_,rfl⟩<;>rfl
  ·exact ih v hv
theorem dk {k:List Key}{a:Addr}{Q:sX} (hk:(tk P w).is s.heap k a) (h:∀b,Q b s):wpAny (model P w) A (hashByValue 8 (.ref a)) Q E s:=by
 have hk:IsTupleKey (jJ P w) s.heap k a:=hk
 have hT:=hk.typeIs
 obtain⟨o,items,n,ho,_,hd,hi⟩:=hk
 unfold hashByValue
 refine tO (wpAny_specialOf hT PySem.F.slot_tuple_hash.lookup ?_)
 show wpAny _ _ (seqItems? (.ref a)>>=_) _ _ s
 refine tO (wpAny_seqItems ho hd ?_)
 refine tO ?_
 show wpAny _ _ (forIn items _ _) _ _ s
 rw [←Array.forIn_toList]
 refine wpAny_forIn_list _ (fun rest r s'=>r.1=none∧s'=s∧∀v∈rest,v.scannable=true) _ ?_ ?_ _ _ ⟨rfl,rfl,ap hi⟩
 ·rintro v rest r s' ⟨hr,rfl,hall⟩
  rw [hashByValue_scannable _ (hall v List.mem_cons_self)]
  refine tO (tP ?_)
  cases plainKind v with
  | true =>
   simp only [Bool.not_true,Bool.false_eq_true,if_false]
   exact tP ⟨rfl,rfl,fun u hu'=>hall u (List.mem_cons_of_mem _ hu')⟩
  | false =>
   simp only [Bool.not_false,if_true]
   first|exact tP (tP (h _))|exact tO (tP (tP (h _)))|exact tP (h _)
 ·rintro⟨r1,r2⟩ s' ⟨hr,rfl,_⟩
  simp only at hr
  subst hr
  exact tP (h _)
def YT (k:List Key):Prop:=∀x∈k,∃i,x=Sum.inl i
theorem nR {ks:List Key}{vs:tz} (h:ItemsAre (jJ P w) ks vs) (hi:YT ks):∀v∈vs,v.scannable=true∧plainKind v=true:=by
 induction h with
 | nil=>intro v hv;cases hv
 | cons h1 _ ih =>
  intro v hv
  rcases List.mem_cons.mp hv with rfl|hv
  ·obtain⟨i,e0⟩:=hi _ List.mem_cons_self
   rcases Jr h1 with ⟨i,t,_,rfl⟩|⟨x,t,e,rfl⟩
   ·exact⟨rfl,rfl⟩
   ·rw [e0] at e;cases e
  ·exact ih (fun x hx=>hi x (List.mem_cons_of_mem _ hx)) v hv
theorem bF {k:List Key}{a:Addr}{Q:sX} (hk:(tk P w).is s.heap k a) (h:∀b,(YT k→b=true)→Q b s):wpAny (model P w) A (hashByValue 8 (.ref a)) Q E s:=by
 by_cases hz:YT k
 ·have h:=h true fun _=>rfl
  have hk:IsTupleKey (jJ P w) s.heap k a:=hk
  have hT:=hk.typeIs
  obtain⟨o,items,n,ho,_,hd,hi⟩:=hk
  unfold hashByValue
  refine tO (wpAny_specialOf hT PySem.F.slot_tuple_hash.lookup ?_)
  show wpAny _ _ (seqItems? (.ref a)>>=_) _ _ s
  refine tO (wpAny_seqItems ho hd ?_)
  refine tO ?_
  show wpAny _ _ (forIn items _ _) _ _ s
  rw [←Array.forIn_toList]
  refine wpAny_forIn_list _ (fun rest r s'=>r.1=none∧s'=s∧∀v∈rest,v.scannable=true∧plainKind v=true) _ ?_ ?_ _ _ ⟨rfl,rfl,nR hi hz⟩
  ·rintro v rest r s' ⟨hr,rfl,hall⟩
   rw [hashByValue_scannable _ (hall v List.mem_cons_self).1,(hall v List.mem_cons_self).2]
   refine tO (tP ?_)
   simp only [Bool.not_true,Bool.false_eq_true,if_false]
   exact tP ⟨rfl,rfl,fun u hu'=>hall u (List.mem_cons_of_mem _ hu')⟩
  ·rintro⟨r1,r2⟩ s' ⟨hr,rfl,_⟩
   simp only at hr
   subst hr
   exact tP h
 ·exact dk hk fun b=>h b fun z=>absurd z hz
theorem eK (n:Nat) {v:Value} (h:carriedByValue v=true):ofAClassStatement n v=pure false:=by
 cases v with
 | ref a=>cases h
 | _=>first|rfl|(unfold ofAClassStatement;rfl)
theorem MX {k:List Key}{a:Addr}{Q:sX} (hk:(tk P w).is s.heap k a) (h:Q false s):wpAny (model P w) A (ofAClassStatement 8 (.ref a)) Q E s:=by
 have hk:IsTupleKey (jJ P w) s.heap k a:=hk
 have hT:=hk.typeIs
 obtain⟨o,items,n,ho,_,hd,hi⟩:=hk
 unfold ofAClassStatement
 refine tO (wpAny_typeOf hT ?_)
 dsimp only
 rw [if_pos (show (("tuple":String)=="tuple")=true by decide)]
 refine tO (tP ?_)
 simp only [Bool.not_true,Bool.false_eq_true,if_false]
 refine tO (wpAny_seqItems ho hd ?_)
 dsimp only
 refine tO ?_
 rw [←Array.forIn_toList]
 refine wpAny_forIn_list _ (fun rest r s'=>r.1=none∧s'=s∧∀v∈rest,carriedByValue v=true) _ ?_ ?_ _ _ ⟨rfl,rfl,hi.byValue⟩
 ·rintro v rest r s' ⟨hr,rfl,hall⟩
  rw [eK _ (hall v List.mem_cons_self)]
  refine tO (tP ?_)
  simp only [Bool.false_eq_true,if_false]
  exact tP ⟨rfl,rfl,fun u hu'=>hall u (List.mem_cons_of_mem _ hu')⟩
 ·rintro⟨r1,r2⟩ s' ⟨hr,rfl,_⟩
  simp only at hr
  subst hr
  exact tP h
theorem eC {k:List Key}{a:Addr}{stored:tz}{Q:sX} (hk:(tk P w).is s.heap k a) (hst:∀v∈stored,∃k' b,v=.ref b∧(tk P w).is s.heap k' b) (h:Q false s):wpAny (model P w) A (searchCouldBeSeen (.ref a) stored) Q E s:=by
 unfold searchCouldBeSeen
 refine tO ?_
 refine wpAny_forIn_list _ (fun rest r s'=>s'=s∧r.1=none∧∀v∈rest,∃k' b,v=.ref b∧(tk P w).is s.heap k' b) _ ?_ ?_ _ _ ⟨rfl,rfl,hst⟩
 ·rintro x rest r s' ⟨rfl,hr,hall⟩
  obtain⟨k',b,rfl,hb⟩:=hall x List.mem_cons_self
  have hall':∀v∈rest,∃k' b,v=.ref b∧(tk P w).is s'.heap k' b:=fun v hv=>hall v (List.mem_cons_of_mem _ hv)
  dsimp only
  split
  ·exact tP ⟨rfl,rfl,hall'⟩
  ·refine tO ((tk P w).quiet hk ?_)
   simp only [Bool.not_true,Bool.false_eq_true,if_false]
   refine tO ((tk P w).quiet hb ?_)
   simp only [Bool.not_true,Bool.false_eq_true,if_false]
   refine tO (MX hk ?_)
   simp only [Bool.false_eq_true,if_false]
   refine tO (MX hb ?_)
   simp only [Bool.false_eq_true,if_false]
   exact tP ⟨rfl,rfl,hall'⟩
 ·rintro⟨r1,r2⟩ s' ⟨rfl,hr,_⟩
  simp only at hr
  subst hr
  exact tP h
end
end STb
namespace STb
open PySem PySem.Spec PyProof.Rows L2 SetTable
section
variable {P:tM}{w:World}{A:Around}{E:sV}{s:Shared}
def Us (es:tF) (i:Nat):Int:=(es[i]?.map (·.1)).getD 0
theorem Ua.fits {t:SetTable}{hs:Nat→Int}{n:Nat} (T:Ua t hs n):t.fits n=true:=by
 unfold SetTable.fits SetTable.fill
 rw [T.dm,T.size]
 have:=T.room
 simp
 exact this
theorem Ua.odd {t:SetTable}{hs:Nat→Int}{n:Nat} (T:Ua t hs n) (h1:1≤n∨1≤t.mask):t.gaveWay=false:=by
 unfold SetTable.gaveWay
 obtain⟨k,hk⟩:=T.pw
 have:=T.room
 cases k with
 | zero=>simp at hk;omega
 | succ k =>
  rw [Nat.pow_succ] at hk
  have:t.mask % 2=1:=by omega
  rw [this];rfl
structure Nf (P:tM) (w:World) (h:Heap) (a:Addr) (o:Obj) (es:tF) (ep:Nat) (t:SetTable) (xs:List (List Key×Addr)):Prop where
 get:h.get? a=some o
 ex:o.ExactSet
 data:o.data=.set es ep t
 ent:es.toList=xs.map fun x=>((tk P w).hash x.1,Value.ref x.2)
 tb:Ua t (Us es) es.size
 msk:7≤t.mask∧t.mask≤9000
 load:es.size*5<t.mask*3
 is:∀x∈xs,(tk P w).is h x.1 x.2
 nd:(xs.map (·.1)).Nodup
theorem Nf.at {h:Heap}{a:Addr}{o:Obj}{es:tF}{ep:Nat}{t:SetTable}{xs:List (List Key×Addr)} (I:Nf P w h a o es ep t xs) (i:Nat):es[i]?=(xs[i]?).map fun x=>((tk P w).hash x.1,Value.ref x.2):=by
 rw [←Array.getElem?_toList,I.ent,List.getElem?_map]
theorem ZK {a b:Addr}{o:Obj}{es:tF}{ep:Nat}{t:SetTable}{xs:List (List Key×Addr)}{k:List Key}{Q:SetFound→Shared→Prop} (hu:A.units<cLine) (I:Nf P w s.heap a o es ep t xs) (hk:(tk P w).is s.heap k b)
  (q1:k∈xs.map (·.1)→Q (.there none) s) (q2:k ∉ xs.map (·.1)→∀n,¬u8 t.place (jK t.mask ((tk P w).hash k) n).j→(∀m',m'<n→u8 t.place (jK t.mask ((tk P w).hash k) m').j)→Q (.free (jK t.mask ((tk P w).hash k) n).j false) s) :
  ∀(fuel m:Nat) (stand:Option Probe),10*turns t.mask - m<fuel→stand.getD (t.probeStart ((tk P w).hash k))=jK t.mask ((tk P w).hash k) m →
   (∀m',m'<m→u8 t.place (jK t.mask ((tk P w).hash k) m').j∧∀i,At t.place i (jK t.mask ((tk P w).hash k) m').j→∀x,xs[i]?=some x→x.1≠k) →
   wpAny (model P w) A (setSearchFrom a (.ref b) ((tk P w).hash k) true fuel stand) Q E s
 | 0,m,stand,hf,_,_=>absurd hf (by omega)
 | fuel+1,m,stand,hf,hst,ahead=>by
  have T:=I.tb
  obtain⟨m2,g1,g2,g3,g4⟩:=T.probe ((tk P w).hash k) (m:=m) fun m' h=>(ahead m' h).1
  unfold setSearchFrom
  refine tO (wpAny_setState_of I.get I.data T.fits ?_)
  dsimp only
  rw [T.odd (.inr (by have:=I.msk.1;omega))]
  simp only [Bool.false_eq_true,if_false]
  rw [hst]
  have lenx:es.size=xs.length:=by rw [←Array.length_toList,I.ent,List.length_map]
  have hsx:∀i x,xs[i]?=some x→Us es i=(tk P w).hash x.1:=fun i x hx=>by unfold Us;rw [I.at,hx];rfl
  rcases g4 with ⟨ne,e⟩|⟨i,ha,hh,e⟩
  ·split
   ·rename_i met heq
    have heq':t.probe (Us es) ((tk P w).hash k) (jK t.mask ((tk P w).hash k) m)=some met:=heq
    rw [e] at heq'
    cases heq'
    dsimp only
    refine tP (q2 (fun hin=>?_) m2 ne fun m' hm'=>?_)
    ·obtain⟨x,hx,rfl⟩:=List.mem_map.mp hin
     obtain⟨i0,hi0,ei0⟩:=List.getElem_of_mem hx
     have ex:xs[i0]?=some x:=by rw [List.getElem?_eq_getElem hi0,ei0]
     have hat:At t.place i0 (t.place.getD i0 0):=⟨by rw [T.size,lenx];exact hi0,rfl⟩
     obtain⟨m0,r1,r2⟩:=T.reach i0 _ hat
     rw [hsx i0 x ex] at r1 r2
     rw [←r1] at hat
     have h0:m0<m2:=by
      rcases Nat.lt_trichotomy m0 m2 with h|h|h
      ·exact h
      ·exact absurd ⟨i0,h▸hat⟩ ne
      ·exact absurd (r2 m2 h) ne
     by_cases h1:m0<m
     ·exact (ahead m0 h1).2 i0 hat x ex rfl
     ·exact (g3 m0 (by omega) h0).2 i0 hat (hsx i0 x ex)
    ·by_cases h1:m'<m
     ·exact (ahead m' h1).1
     ·exact (g3 m' (by omega) hm').1
   ·rename_i heq
    exact absurd e (heq _)
  ·have hi:i<xs.length:=by rw [←lenx,←T.size];exact ha.1
   have ex:=List.getElem?_eq_getElem hi
   generalize xs[i]=x at ex
   have hx:x∈xs:=List.mem_of_getElem? ex
   have hes:es[i]?=some ((tk P w).hash x.1,Value.ref x.2):=by rw [I.at,ex];rfl
   have hst:∀v∈List.map (fun x=>x.snd) (Array.filter (fun x=>x.fst==(tk P w).hash k) es).toList,∃k' b,v=.ref b∧(tk P w).is s.heap k' b:=fun v hv=>by
    obtain⟨y,hy,rfl⟩:=List.mem_map.mp hv
    have hy2:y∈es.toList:=by
     rw [Array.toList_filter] at hy
     exact (List.mem_filter.mp hy).1
    rw [I.ent] at hy2
    obtain⟨z,hz,rfl⟩:=List.mem_map.mp hy2
    exact⟨z.1,z.2,rfl,I.is z hz⟩
   split
   ·rename_i met heq
    have heq':t.probe (Us es) ((tk P w).hash k) (jK t.mask ((tk P w).hash k) m)=some met:=heq
    rw [e] at heq'
    cases heq'
    dsimp only
    split
    all_goals (first|(refine tO (eC hk hst ?_);simp only [Bool.false_eq_true,if_false])|skip)
    all_goals
     rw [hes]
     dsimp only
     refine tO (wpAny_holding ((tk P w).eqBool hu (I.is x hx) hk ?_))
     refine tO (wpAny_setState_of I.get I.data T.fits ?_)
     dsimp only
     by_cases hxk:x.1=k
     ·rw [decide_eq_true hxk,if_pos (show (true&&true)=true from rfl)]
      exact tP (q1 (List.mem_map.mpr ⟨x,hx,hxk⟩))
     ·rw [decide_eq_false hxk,if_neg (by decide)]
      have hsm:t.sameMemory t.moves t.mask=some true:=by unfold SetTable.sameMemory;rw [if_pos (beq_self_eq_true _)]
      rw [hsm]
      dsimp only
      rw [if_pos rfl,zL T.ris ha]
      dsimp only
      rw [hes]
      dsimp only
      refine tO (wpAny_isSame_ref_self ?_)
      refine tO (tP ?_)
      rw [if_pos rfl]
      dsimp only
      rw [if_neg (by decide)]
      refine ZK hu I hk q1 q2 fuel (m2+1) _ (by omega) rfl fun m' hm'=>?_
      by_cases h1:m'<m
      ·exact ahead m' h1
      ·by_cases h2:m'<m2
       ·obtain⟨g5,g6⟩:=g3 m' (by omega) h2
        exact⟨g5,fun i' hi' x' hx' z=>g6 i' hi' (by rw [hsx i' x' hx',z])⟩
       ·obtain rfl:m'=m2:=by omega
        refine⟨⟨i,ha⟩,fun i' hi' x' hx' z=>?_⟩
        rw [hi'.uniq T.ris ha,ex] at hx'
        cases hx'
        exact hxk z
   ·rename_i heq
    exact absurd e (heq _)
end
end STb
namespace STb
open PySem PySem.Spec PyProof.Rows L2 SetTable
section
variable {P:tM}{w:World}{A:Around}{E:sV}{s:Shared}
theorem Ua.put {t:SetTable}{es:tF} (T:Ua t (Us es) es.size) {h:Int} {v:Value} {n:Nat} (hr:es.size+1≤t.mask) (ne:¬u8 t.place (jK t.mask h n).j) (ahead:∀m',m'<n→u8 t.place (jK t.mask h m').j) :
  Ua (t.put (jK t.mask h n).j).1 (Us (insertAt es (t.put (jK t.mask h n).j).2 (h,v))) (insertAt es (t.put (jK t.mask h n).j).2 (h,v)).size∧(t.put (jK t.mask h n).j).2≤es.size∧(t.put (jK t.mask h n).j).1.mask=t.mask:=by
 obtain⟨b1,b2,b3⟩:=Vw T.ris (jK t.mask h n).j
 have hjm:=aI (mask:=t.mask) (h:=h) n
 have hp:(t.put (jK t.mask h n).j).2=below t.place (jK t.mask h n).j:=rfl
 have hpl:(t.put (jK t.mask h n).j).1.place=insertAt t.place (below t.place (jK t.mask h n).j) (jK t.mask h n).j:=rfl
 have hmk:(t.put (jK t.mask h n).j).1.mask=t.mask:=rfl
 have b1':below t.place (jK t.mask h n).j≤es.size:=by rw [←T.size];exact b1
 have hdm:(t.put (jK t.mask h n).j).1.dummies=#[]:=by
  show (if has t.dummies _ then eraseAt t.dummies _ else t.dummies)=#[]
  rw [T.dm];rfl
 have hs:∀i,Us (insertAt es (below t.place (jK t.mask h n).j) (h,v)) i=if i<below t.place (jK t.mask h n).j then Us es i else if i=below t.place (jK t.mask h n).j then h else Us es (i - 1):=fun i=>by
  unfold Us
  rw [getElem?_insertAt es b1']
  split
  ·rfl
  ·split<;>rfl
 refine⟨⟨?_,?_,fun j hj=>?_,hdm,T.pw,?_,fun i j a=>?_⟩,b1',hmk⟩
 ·rw [hpl,hp,uX _ b1,uX _ b1',T.size]
 ·rw [hpl];exact lm T.ris ne
 ·rw [hpl,NX b1] at hj
  rcases hj with hj|rfl
  ·exact T.le j hj
  ·exact hjm
 ·rw [hp,uX _ b1',hmk];exact hr
 ·rw [hpl,Y2 b1] at a
  rw [hp,hs,hmk,hpl]
  have up:∀{j'},u8 t.place j'→u8 (insertAt t.place (below t.place (jK t.mask h n).j) (jK t.mask h n).j) j':=fun q=>(NX b1).mpr (.inl q)
  split at a
  ·rename_i hlt
   rw [if_pos hlt]
   obtain⟨m,r1,r2⟩:=T.reach i j a
   exact⟨m,r1,fun m' h'=>up (r2 m' h')⟩
  ·rename_i hlt
   rw [if_neg hlt]
   split at a
   ·rename_i he
    rw [if_pos he]
    exact⟨n,a,fun m' h'=>up (ahead m' h')⟩
   ·rename_i he
    rw [if_neg he]
    obtain⟨m,r1,r2⟩:=T.reach (i - 1) j a.1
    exact⟨m,r1,fun m' h'=>up (r2 m' h')⟩
theorem cz {α:Type} (es:Array α):(List.range es.size).filterMap (fun k:Nat=>es[k]?)=es.toList:=by
 refine List.ext_getElem? fun i=>?_
 rw [zq (fun k hk=>List.mem_range.mp hk)]
 by_cases h:i<es.size
 ·rw [List.getElem?_range h,Array.getElem?_toList];rfl
 ·have h1:(List.range es.size)[i]?=none:=List.getElem?_eq_none (by rw [List.length_range];omega)
  have h2:es.toList[i]?=none:=List.getElem?_eq_none (by rw [Array.length_toList];omega)
  rw [h1,h2];rfl
theorem d8 {t:SetTable}{es:tF} (h1:1≤es.size) (h2:es.size≤1000) :
  ∃t' order,t.relaid (es.map (·.1)) (grown es.size)=some (t',order)∧(order.filterMap (fun k:Nat=>es[k]?)).toList.Perm es.toList∧(order.filterMap (fun k:Nat=>es[k]?)).size=es.size∧Ua t' (Us (order.filterMap (fun k:Nat=>es[k]?))) (order.filterMap (fun k:Nat=>es[k]?)).size∧7≤t'.mask∧t'.mask≤9000∧4*es.size≤t'.mask∧t'.led=t.led∧sizeAbove (grown es.size)≤9000∧t'.plain=t.plain:=by
 have hg:grown es.size=es.size*4:=by unfold grown;rw [if_neg (by omega)]
 obtain⟨k,e1,k3,k4,k5⟩:=MO (n:=grown es.size) (by rw [hg];exact Nat.lt_of_le_of_lt (show es.size*4≤4000 by omega) (by decide))
 have hle:2^k≤8000:=by
  rcases k5 with rfl|k5
  ·decide
  ·rw [hg] at k5;omega
 have h8:8≤2^k:=Nat.le_trans (by decide:8≤2^3) (Nat.pow_le_pow_right (by decide) k3)
 have hm:2^k - 1+1=2^k:=by omega
 rw [hg] at k4
 obtain⟨place,order,e2,La⟩:=iP hm (es.map (·.1)) (by rw [Array.size_map];omega) t.finger (t.movedTo (2^k - 1)) t.led t.plain
 rw [Array.size_map] at La
 have hord:∀x∈order.toList,x<es.size:=fun x hx=>List.mem_range.mp (La.perm.mem_iff.mp hx)
 have tl:(order.filterMap (fun k:Nat=>es[k]?)).toList=order.toList.filterMap (fun k:Nat=>es[k]?):=Array.toList_filterMap
 have pm:(order.filterMap (fun k:Nat=>es[k]?)).toList.Perm es.toList:=by
  rw [tl,←cz es]
  exact La.perm.filterMap _
 have sz:(order.filterMap (fun k:Nat=>es[k]?)).size=es.size:=by rw [←Array.length_toList,pm.length_eq,Array.length_toList]
 refine⟨{ mask:=2^k - 1,place:=place,dummies:=#[],finger:=t.finger,led:=t.led,moves:=t.movedTo (2^k - 1),plain:=t.plain },order,by unfold relaid;rw [e1];exact e2,pm,sz,⟨by rw [sz];exact La.size,La.ris,La.le,rfl,⟨k,hm⟩,by rw [sz];show es.size≤2^k - 1;omega,fun i j a=>?_⟩,by show 7≤2^k - 1;omega,by show 2^k - 1≤9000;omega,by show 4*es.size≤2^k - 1;omega,rfl,by rw [e1];omega,rfl⟩
 obtain⟨x,o1,m,r1,r2⟩:=La.reach i j a
 have hx:x<es.size:=hord x (by rw [←Array.getElem?_toList] at o1;exact List.mem_of_getElem? o1)
 have hh:Us (order.filterMap (fun k:Nat=>es[k]?)) i=(es.map (·.1)).getD x 0:=by
  unfold Us
  rw [←Array.getElem?_toList,tl,zq hord,Array.getElem?_toList,o1]
  show (Option.map _ es[x]?).getD 0=_
  rw [Array.getElem?_eq_getElem hx]
  simp [Array.getD,hx]
 rw [hh]
 exact⟨m,r1,r2⟩
end
end STb
namespace STb
open PySem PySem.Spec PyProof.Rows L2 SetTable
section
variable {P:tM}{w:World}{A:Around}{E:sV}{s:Shared}
theorem ZU {h h':Heap}{k:List Key}{b a:Addr}{o:Obj}{es:tF}{ep:Nat}{t:SetTable} (x:(tk P w).is h k b) (ho:h.get? a=some o) (hd:o.data=.set es ep t) (hs:Heap.SameBut a h h'):(tk P w).is h' k b:=by
 obtain⟨o',items,n,ho',hc,hd',hi⟩:=x
 have hne:b≠a:=by
  rintro rfl
  obtain rfl:o'=o:=Option.some.inj (ho'.symm.trans ho)
  rw [hd] at hd';exact nomatch hd'
 exact⟨o',items,n,(hs.2 b hne).trans ho',hc,hd',hi⟩
theorem Gn {α:Type} (xs:Array α) {p:Nat} (hp:p≤xs.size) (x:α):(insertAt xs p x).toList=xs.toList.take p++x::xs.toList.drop p:=by
 refine List.ext_getElem? fun i=>?_
 rw [Array.getElem?_toList,getElem?_insertAt xs hp,List.getElem?_append,List.length_take,Array.length_toList]
 have e:min p xs.size=p:=by omega
 rw [e]
 split
 ·rw [List.getElem?_take_of_lt (by assumption),Array.getElem?_toList]
 ·split
  ·rename_i h;subst h;simp
  ·rename_i h1 h2
   obtain⟨d,rfl⟩:∃d,i=p+d+1:=⟨i - p - 1,by omega⟩
   rw [show p+d+1 - p=d+1 by omega,List.getElem?_cons_succ,List.getElem?_drop,Array.getElem?_toList]
   rfl
theorem dQ {α β:Type}{f:α→β}{l l':List β} (p:l.Perm l'):∀xs:List α,l'=xs.map f→∃xs':List α,xs'.Perm xs∧l=xs'.map f:=by
 induction p with
 | nil=>intro xs h;exact⟨xs,.refl _,h⟩
 | cons x _ ih =>
  intro xs h
  cases xs with
  | nil=>cases h
  | cons y ys =>
   rw [List.map_cons] at h
   injection h with h1 h2
   obtain⟨zs,q,e⟩:=ih ys h2
   exact⟨y::zs,q.cons y,by rw [List.map_cons,←h1,e]⟩
 | swap x y l =>
  intro xs h
  match xs,h with
  | [],h=>cases h
  | [_],h=>cases h
  | u::v::zs,h =>
   rw [List.map_cons,List.map_cons] at h
   injection h with h1 h
   injection h with h2 h3
   exact⟨v::u::zs,List.Perm.swap u v zs,by rw [List.map_cons,List.map_cons,h1,h2,h3]⟩
 | trans _ _ ih1 ih2 =>
  intro xs h
  obtain⟨ys,q,e⟩:=ih2 xs h
  obtain⟨zs,q2,e2⟩:=ih1 ys e
  exact⟨zs,q2.trans q,e2⟩
theorem kB {h:Heap}{a:Addr}{o:Obj}{es:tF}{ep:Nat}{t:SetTable} (ho:h.get? a=some o) (hd:o.data=.set es ep t) (es':tF) (t':SetTable):(h.update a (Obj.putSet es' t')).get? a=some { o with data:=.set es' (ep+1) t' }:=by
 have:=Heap.get?_update_self (Obj.putSet es' t') ho (by rw [putSet_of es' t' hd];rfl)
 rw [putSet_of es' t' hd] at this;exact this
theorem ig {a b:Addr}{o:Obj}{es:tF}{ep:Nat}{t:SetTable}{xs:List (List Key×Addr)}{k:List Key}{Q:sX} (hu:A.units<cLine) (I:Nf P w s.heap a o es ep t xs) (hk:(tk P w).is s.heap k b) (hn:xs.length≤990)
  (q1:k∈xs.map (·.1)→Q false s) (q2:k ∉ xs.map (·.1)→∀h' o' es' ep' t' xs',Nf P w h' a o' es' ep' t' xs'→xs'.Perm ((k,b)::xs)→Heap.SameBut a s.heap h'→t'.led=t.led→(YT k→t.plain=true→t'.plain=true)→Q true { s with heap:=h' }) :
  wpAny (model P w) A (setAddHashed a (.ref b) ((tk P w).hash k)) Q E s:=by
 have lenx:es.size=xs.length:=by rw [←Array.length_toList,I.ent,List.length_map]
 unfold setAddHashed setAddHashedIn
 refine wpAny_holding (tO (wpAny_setState_of I.get I.data I.tb.fits ?_))
 dsimp only
 rw [show byScan (Value.ref b) es=false from rfl]
 simp only [Bool.false_eq_true,if_false]
 unfold setSearch
 refine tO (ZK hu I hk (fun hin=>?_) (fun hni n ne ahead=>?_) 100000 0 none (by have:=I.msk.2;unfold turns;omega) rfl (fun m' h=>absurd h (Nat.not_lt_zero _)))
 ·dsimp only
  exact tP (q1 hin)
 ·dsimp only
  refine tO (wpAny_setState_of I.get I.data I.tb.fits ?_)
  dsimp only
  have hload:=I.load
  have hmsk:=I.msk
  obtain⟨T1,hp,hmk⟩:=I.tb.put (v:=Value.ref b) (by omega) ne ahead
  have hpl:(t.put (jK t.mask ((tk P w).hash k) n).j).1.led=t.led:=rfl
  have hpp:(t.put (jK t.mask ((tk P w).hash k) n).j).1.plain=t.plain:=rfl
  generalize (t.put (jK t.mask ((tk P w).hash k) n).j).1=t1 at T1 hmk hpl hpp ⊢
  generalize (t.put (jK t.mask ((tk P w).hash k) n).j).2=p at T1 hp ⊢
  have ent1:(insertAt es p ((tk P w).hash k,Value.ref b)).toList=(xs.take p++(k,b)::xs.drop p).map fun x=>((tk P w).hash x.1,Value.ref x.2):=by
   rw [Gn es hp,I.ent,List.map_append,List.map_cons,List.map_take,List.map_drop]
  have pm1:(xs.take p++(k,b)::xs.drop p).Perm ((k,b)::xs):=by
   refine List.perm_middle.trans ?_
   rw [List.take_append_drop]
  have sz1:(insertAt es p ((tk P w).hash k,Value.ref b)).size=es.size+1:=uX es hp _
  generalize insertAt es p ((tk P w).hash k,Value.ref b)=es1 at T1 ent1 sz1 ⊢
  generalize xs.take p++(k,b)::xs.drop p=xs1 at ent1 pm1
  have tail:∀t2:SetTable,Ua t2 (Us es1) es1.size→t2.mask=t.mask→t2.led=t.led→(YT k→t.plain=true→t2.plain=true)→wpAny (model P w) A (do
    storeSet a es1 t2
    if (!false&&t2.tooFull)=true then do
      setRelay a (grown (es.size+1))
      pure true
     else pure true) Q E s:=fun t2 T2 m2 l2 p2=>by
   refine tO (wpAny_storeSet_of I.get I.data ?_ (by rw [sz1];exact Nat.le_trans (show _≤1000 by omega) (by decide)))
   have g1:=kB I.get I.data es1 t2
   have sb1:=Heap.SameBut.update s.heap a (Obj.putSet es1 t2)
   have is1:∀x∈xs1,(tk P w).is (s.heap.update a (Obj.putSet es1 t2)) x.1 x.2:=fun x hx=>by
    rcases List.mem_cons.mp (pm1.mem_iff.mp hx) with rfl|hx
    ·exact ZU hk I.get I.data sb1
    ·exact ZU (I.is x hx) I.get I.data sb1
   have nd1:(xs1.map (·.1)).Nodup:=((pm1.map (·.1)).nodup_iff).mpr (List.nodup_cons.mpr ⟨hni,I.nd⟩)
   generalize s.heap.update a (Obj.putSet es1 t2)=h1 at g1 sb1 is1 ⊢
   cases hf:t2.tooFull with
   | false =>
    rw [if_neg (by decide)]
    refine tP (q2 hni h1 _ es1 (ep+1) t2 xs1 ⟨g1,I.ex,rfl,ent1,T2,by rw [m2];exact hmsk,?_,is1,nd1⟩ pm1 sb1 l2 p2)
    unfold SetTable.tooFull SetTable.fill at hf
    rw [T2.size,T2.dm] at hf
    have:=of_decide_eq_false hf
    simp at this
    omega
   | true =>
    rw [if_pos (by rfl)]
    obtain⟨t3,order,e3,pm3,sz3,T3,k7,k9,k4,l3,ks,p3⟩:=d8 (t:=t2) (es:=es1) (by omega) (by omega)
    unfold setRelay
    refine tO (tO (wpAny_setState_of (s:={ s with heap:=h1 }) g1 rfl T2.fits ?_))
    dsimp only
    rw [sz1] at e3 ks
    rw [if_neg (by have:(9000:Nat)≤sizeLine:=by decide
                   omega),e3]
    refine tO (wpAny_of_eq (show _=pure (order.filterMap (fun k:Nat=>es1[k]?),t3) from ?_) ?_)
    ·show (if ((order.filterMap (fun k:Nat=>es1[k]?)).size != es1.size)=true then _ else pure (order.filterMap (fun k:Nat=>es1[k]?),t3))=_
     rw [if_neg (by rw [sz3];simp)]
    obtain⟨xs3,px,uH⟩:=dQ pm3 xs1 ent1
    dsimp only
    refine wpAny_storeSet_of (s:={ s with heap:=h1 }) g1 rfl (tP ?_) (by rw [sz3,sz1];exact Nat.le_trans (show _≤1000 by omega) (by decide))
    have sb2:=Heap.SameBut.update h1 a (Obj.putSet (order.filterMap (fun k:Nat=>es1[k]?)) t3)
    refine q2 hni _ _ _ (ep+1+1) t3 xs3 ⟨kB g1 rfl _ t3,I.ex,rfl,uH,T3,⟨k7,k9⟩,by rw [sz3];omega,fun x hx=>ZU (is1 x (px.mem_iff.mp hx)) g1 rfl sb2,((px.map (·.1)).nodup_iff).mpr nd1⟩ (px.trans pm1) (sb1.trans sb2) (l3.trans l2) fun z1 z2=>p3.trans (p2 z1 z2)
  split
  ·refine tO (bF hk fun bv hbv=>?_)
   cases bv with
   | true=>exact tail t1 T1 hmk hpl fun _ z=>hpp.trans z
   | false=>exact tail { t1 with plain:=false } ⟨T1.size,T1.ris,T1.le,T1.dm,T1.pw,T1.room,T1.reach⟩ hmk hpl fun z=>Bool.noConfusion (hbv z)
  ·refine tO (tP ?_)
   exact tail t1 T1 hmk hpl fun _ z=>hpp.trans z
end
end STb
namespace STb
open PySem PySem.Spec PyProof.Rows L2 SetTable
section
variable {P:tM}{w:World}
theorem yq {h h':Heap}{k:List Key}{b:Addr} (x:(tk P w).is h k b) (e:∀o,h.get? b=some o→h'.get? b=some o):(tk P w).is h' k b:=by
 obtain⟨o',items,m',ho,hc,hd,hi⟩:=x
 exact⟨o',items,m',e _ ho,hc,hd,hi⟩
def Mt (P:tM) (w:World) (S:Addr) (n:Nat) (val:Nat→List Key) (adr:Nat→Addr) (led:Bool) (i:Nat) (h:Heap):Prop :=
 ∃o es ep t xs,Nf P w h S o es ep t xs∧(t.led=led∧((∀j,j<n→YT (val j))→t.plain=true))∧xs.length≤i∧(∀x∈xs,∃j,j<n∧x.2=adr j)∧∀k,k∈xs.map (·.1)↔∃j,j<i∧val j=k
theorem Mt.keep {S:Addr}{n:Nat}{val:Nat→List Key}{adr:Nat→Addr}{led:Bool}{i:Nat}{h h':Heap} (m:Mt P w S n val adr led i h) (hS:∀o,h.get? S=some o→h'.get? S=some o) (hj:∀j,j<n→∀o,h.get? (adr j)=some o→h'.get? (adr j)=some o):Mt P w S n val adr led i h':=by
 obtain⟨o,es,ep,t,xs,I,l1,l2,l3,l4⟩:=m
 refine⟨o,es,ep,t,xs,⟨hS _ I.get,I.ex,I.data,I.ent,I.tb,I.msk,I.load,fun x hx=>?_,I.nd⟩,l1,l2,l3,l4⟩
 obtain⟨j,h1,h2⟩:=l3 x hx
 exact yq (I.is x hx) (by rw [h2];exact hj j h1)
variable {A:Around}{R:Result→Shared→Prop}{It:Addr}{fp wr:tD}{G:Array GenState→Array GenState→Prop}{n:Nat}{Pr:Nat→Value→Prop}{St:Nat→Shared→Prop}
theorem mU (W:WalksS P w A.in1 It fp wr G n Pr St) (hu:A.in1.units<cLine) (S:Addr) (hSf:S ∉ fp) (val:Nat→List Key) (adr:Nat→Addr) (led:Bool) (hval:∀i v,Pr i v→v=.ref (adr i)) (hb:n≤990) (ha:∀j,j<n→adr j ∉ wr∧adr j≠S) :
  ∀(d i:Nat) (s:Shared),n - i=d→i≤n→St i s→(∀j,j<n→(tk P w).is s.heap (val j) (adr j))→Mt P w S n val adr led i s.heap→(∀s',Moved (S::wr) G s s'→Mt P w S n val adr led n s'.heap→R (.ok (.ret .none)) s') →
   codeAny (model P w) A (.builtin "set.update.loop" ⟨[.ref S,.ref It],[]⟩) R s
 | 0,i,s,hd,hi,st,ks,m,hR=>by
  obtain rfl:i=n:=by omega
  refine codeAny_builtin PyProof.Rows.F.entry_set_update_loop ?_
  rw [Around.under_plainId PyProof.Rows.F.plain_set_update_loop _]
  refine tO (W.done s _ _ st fun s' mv=>tP (hR s' (mv.mono fun b hb=>List.mem_cons_of_mem _ hb) ?_))
  exact m.keep (fun o e=>mv.heap S o (fun z=>hSf (W.sub _ z)) e) fun j hj o e=>mv.heap _ o (ha j hj).1 e
 | d+1,i,s,hd,hi,st,ks,m,hR=>by
  have hlt:i<n:=by omega
  refine codeAny_builtin PyProof.Rows.F.entry_set_update_loop ?_
  rw [Around.under_plainId PyProof.Rows.F.plain_set_update_loop _]
  refine tO (W.item i s _ _ hlt st fun v s' hP st' mv=>?_)
  obtain rfl:=hval i v hP
  have ks':∀j,j<n→(tk P w).is s'.heap (val j) (adr j):=fun j hj=>yq (ks j hj) fun o e=>mv.heap _ o (ha j hj).1 e
  obtain⟨o,es,ep,t,xs,I,l1,l2,l3,l4⟩:=m.keep (h':=s'.heap) (fun o e=>mv.heap S o (fun z=>hSf (W.sub _ z)) e) fun j hj o e=>mv.heap _ o (ha j hj).1 e
  have hup:∀b∈wr,b∈S::wr:=fun b hb=>List.mem_cons_of_mem _ hb
  refine tO (wpAny_holding ?_)
  unfold setAdd
  refine wpAny_holding (tO ((tk P w).pyHash hu (ks' i hlt) ?_))
  have go:∀h':Heap,Heap.SameBut S s'.heap h'→Mt P w S n val adr led (i+1) h'→codeAny (model P w) A (.builtin "set.update.loop" ⟨[.ref S,.ref It],[]⟩) R { s' with heap:=h',toks:=s'.toks+(tk P w).draws (val i) }:=fun h' sb m'=>by
   refine mU W hu S hSf val adr led hval hb ha d (i+1) _ (by omega) hlt (W.frame _ s' _ _ st' (Nat.le_add_right _ _) fun b hb o e=>?_) (fun j hj=>yq (ks' j hj) fun o e=>?_) m' fun s2 mv2 m2=>hR s2 (Moved.trans W.gtrans ((mv.mono hup).then_heap (Nat.le_add_right _ _) fun b o hb e=>?_) mv2) m2
   ·rw [sb.2 b (fun z:b=S=>hSf (by rw [←z];exact hb))];exact e
   ·rw [sb.2 _ (ha j hj).2];exact e
   ·rw [sb.2 b (fun z:b=S=>hb (by rw [z];exact List.mem_cons_self))];exact e
  refine ig (s:={ s' with toks:=s'.toks+(tk P w).draws (val i) }) hu I (ks' i hlt) (by omega) (fun hin=>?_) (fun hni h' o' es' ep' t' xs' I' pm sb hl hp=>?_)
  ·refine tP ⟨plainId_quiet PyProof.Rows.F.plain_set_update_loop _,go s'.heap (Heap.SameBut.refl S s'.heap) ⟨o,es,ep,t,xs,I,l1,by omega,l3,fun k=>?_⟩⟩
   rw [l4 k]
   constructor
   ·rintro⟨j,h1,h2⟩;exact⟨j,by omega,h2⟩
   ·rintro⟨j,h1,h2⟩
    by_cases e:j=i
    ·subst e;rw [←h2];exact (l4 _).mp hin
    ·exact⟨j,by omega,h2⟩
  ·refine tP ⟨plainId_quiet PyProof.Rows.F.plain_set_update_loop _,go h' sb ⟨o',es',ep',t',xs',I',⟨hl.trans l1.1,fun z=>hp (z i hlt) (l1.2 z)⟩,?_,fun x hx=>?_,fun k=>?_⟩⟩
   ·rw [pm.length_eq,List.length_cons];omega
   ·rcases List.mem_cons.mp (pm.mem_iff.mp hx) with rfl|hx
    ·exact⟨i,hlt,rfl⟩
    ·exact l3 x hx
   ·rw [(pm.map (·.1)).mem_iff,List.map_cons,List.mem_cons,l4 k]
    constructor
    ·rintro (rfl|⟨j,h1,h2⟩)
     ·exact⟨i,by omega,rfl⟩
     ·exact⟨j,by omega,h2⟩
    ·rintro⟨j,h1,h2⟩
     by_cases e:j=i
     ·subst e;exact .inl h2.symm
     ·exact .inr ⟨j,by omega,h2⟩
end
end STb
namespace STb
open PySem PySem.Spec PyProof.Rows L2 SetTable
section
variable {P:tM}{w:World}{A:Around}{E:sV}{s:Shared}
abbrev yZ (led:Bool):Obj:={ cls:=.type "set",dict:=none,data:=.set #[] 0 (.fresh 0 0 led) }
theorem pG {h:Heap}{S n:Nat}{val:Nat→List Key}{adr:Nat→Addr}{led:Bool} (e:h.get? S=some (yZ led)):Mt P w S n val adr led 0 h:=by
 refine⟨_,#[],0,_,[],⟨e,⟨rfl,rfl,rfl⟩,rfl,rfl,⟨rfl,fun i k _ hk=>absurd hk (by simp [SetTable.fresh]),fun j hj=>?_,rfl,⟨3,rfl⟩,by show 0≤7;omega,fun i j a=>?_⟩,by show 7≤7∧7≤9000;omega,by show 0*5<7*3;omega,(fun x hx=>by cases hx),List.nodup_nil⟩,⟨rfl,fun _=>rfl⟩,Nat.le_refl _,(fun x hx=>by cases hx),fun k=>⟨(fun h=>by cases h),(fun ⟨j,h,_⟩=>by omega)⟩⟩
 ·obtain⟨i,hi,_⟩:=hj
  exact absurd hi (by simp [SetTable.fresh])
 ·exact absurd a.1 (by simp [SetTable.fresh])
theorem Gw (a:Value) {Q₁:sV}
  (h:Q₁ (.ref s.heap.objs.size) { s with heap:=s.heap.push (yZ (!w.params.followText "set-order")) }) :
  codeAny (model P w) A (.call (.builtin "set.__new__") ⟨[.type "set",a],[]⟩) (wants Q₁ E) s:=by
 refine codeAny_of_tree ?_
 show wpAny _ A.in1 (do checkBuiltinCall "set.__new__" ⟨[.type "set",a],[]⟩;again (.builtin "set.__new__" ⟨[.type "set",a],[]⟩)) _ _ s
 refine tO (wpAny_of_eq (PySem.F.newCall_set_1 a) (tP ⟨plainId_quiet PySem.F.plain_set_new _,codeAny_builtin PySem.F.entry_set_new ?_⟩))
 rw [Around.under_plainId PySem.F.plain_set_new _]
 unfold Builtin.«set.__new__» Builtin.Frozenset.newClass
 have hsub:=sub_set_self
 obtain⟨hp,g,d,tk,os⟩:=s
 dsimp only
 wp_walk
 refine wpAny_askSetting (tP ?_)
 dsimp only
 simp only [newObj]
 refine tO (wpAny_alloc (tP ?_))
 exact tP h
theorem kZ {l:Addr}{items:tI}{val:Nat→List Key}{adr:Nat→Addr}{Q:sV} (hh:A.handled=none) (hu:A.units+8<cLine) (hl:s.heap.IsList l items) (hit:∀(i:Nat) v,items[i]?=some v→v=.ref (adr i)) (his:∀j,j<items.size→(tk P w).is s.heap (val j) (adr j)) (hb:items.size≤990)
  (h:∀(h':Heap) (tok:Nat) (led:Bool),led=(!w.params.followText "set-order")→Mt P w s.heap.objs.size items.size val adr led items.size h'→(∀b o,b<s.heap.objs.size→s.heap.get? b=some o→h'.get? b=some o)→s.heap.objs.size<h'.objs.size→Q (.ref s.heap.objs.size) { s with heap:=h',toks:=tok }) :
  wpAny (model P w) A (call (.type "set") [.ref l]) Q E s:=by
 obtain⟨c,tl,hm⟩:=PySem.F.called_set.mro
 have hm1:=PySem.F.called_set.made
 have hm2:=PySem.F.called_set.sub
 refine wpAny_call (codeAny_of_tree ?_)
 show wpAny _ _ (callAny (.type "set") _) _ _ _
 refine tP ⟨Code.quiet_builtin _ (by decide +kernel),codeAny_builtin PySem.F.entry_type_call ?_⟩
 rw [Around.under_plain (weight_type_call_type "set" [.ref l] []) rfl]
 have g1:=PySem.F.called_set.notType
 have g2:=PySem.F.called_set.canCreate
 have g3:=PySem.F.typeCall_set_1 (.ref l)
 repeat (any_goals (first|assumption|wp_step))
 refine codeAny_mono (Gw (.ref l) (E:=E) (Q₁:=fun v s1=>∃led:Bool,led=(!w.params.followText "set-order")∧v=.ref s.heap.objs.size∧s1={ s with heap:=s.heap.push (yZ led) }) ⟨_,rfl,rfl,rfl⟩) fun r s1 hr=>?_
 cases r with
 | error e=>exact hr
 | ok f1 =>
  cases f1 with
  | ret v =>
   obtain⟨led,hled,rfl,rfl⟩:=hr
   have e1:(s.heap.push (yZ led)).get? s.heap.objs.size=some (yZ led):=Heap.get?_push_size _ rfl
   have ty:Shared.TypeIs { s with heap:=s.heap.push (yZ led) } (.ref s.heap.objs.size) "set":=⟨_,e1,rfl⟩
   have g4:=PySem.F.called_set.init.lookup
   have g5:=PySem.F.called_set.init.bind (.ref s.heap.objs.size)
   repeat (any_goals (first|assumption|wp_step))
   refine codeAny_mono (codeAny_call_builtin (R:=wants (fun r s2=>r=.none∧∃h' tok,s2={ s with heap:=h',toks:=tok }∧Mt P w s.heap.objs.size items.size val adr led items.size h'∧(∀b o,b<s.heap.objs.size→s.heap.get? b=some o→h'.get? b=some o)) E) PySem.F.called_set.init.plain F.entry_set_init (check_set_init_1 ty ?_)) fun r2 s2 hr2=>?_
   ·obtain⟨ol,hol,hcl,nl,hdl⟩:=hl
    obtain⟨o1,o2,o3,o4⟩:=ol
    simp only at hcl hdl
    subst hcl;subst hdl
    have hol2:(s.heap.push (yZ led)).get? l=some { cls:=.type "list",dict:=o2,data:=.seq items nl,slots:=o4 }:=Heap.get?_push_of_some _ hol
    have g6:=PySem.F.sub_list_set
    have g7:=PySem.F.sub_list_frozenset
    have g8:(Value.type "list"==Value.type "dict")=false:=by decide
    have hl1:(s.heap.push (yZ led)).IsList l items:=⟨_,hol2,rfl,nl,rfl⟩
    unfold Builtin.«set.__init__» noKeywords Builtin.Frozenset.updateFrom
    generalize hPI:pyIter=PI
    wp_walk
    subst hPI
    refine wpAny_pyIter_list hl1 (tO (wpAny_runValue ?_))
    have hlS:l<s.heap.objs.size:=Heap.lt_size hol
    have hsp:(s.heap.push (yZ led)).objs.size=s.heap.objs.size+1:=Heap.size_push ..
    have a1:∀j,j<items.size→adr j<s.heap.objs.size:=fun j hj=>by
     obtain⟨oj,_,_,hoj,_⟩:=his j hj
     exact Heap.lt_size hoj
    refine mU ((Walks.list (by simp [hh]) _ l (by rw [hsp];exact Nat.ne_of_lt (Nat.lt_succ_of_lt hlS)) items).toS) ?hu s.heap.objs.size ?hS val adr led hit hb (fun j hj=>?hA) (items.size - 0) 0 _ (by omega) (Nat.zero_le _) ⟨⟨_,Heap.get?_push_size _ rfl,rfl,rfl⟩,(hl1.push _)⟩ (fun j hj=>?hI) (pG (Heap.get?_push_of_some _ e1)) ?hR
    case hu=>show A.units+1+1+1<cLine;omega
    case hS=>rw [hsp];simp only [List.mem_cons,List.not_mem_nil,or_false,not_or];exact⟨Nat.ne_of_lt (Nat.lt_succ_self _),Nat.ne_of_gt hlS⟩
    case hA=>have:=a1 j hj;rw [hsp];simp only [List.mem_cons,List.not_mem_nil,or_false];exact⟨Nat.ne_of_lt (Nat.lt_succ_of_lt this),Nat.ne_of_lt this⟩
    case hI=>exact yq (his j hj) fun o e=>Heap.get?_push_of_some _ (Heap.get?_push_of_some _ e)
    case hR =>
     intro s' mv m'
     obtain⟨h',g',d',tk',os'⟩:=s'
     have eg:g'=s.gens:=mv.gens
     have ed:d'=s.drawn:=mv.drawn
     have eo:os'=s.os:=mv.os
     subst eg;subst ed;subst eo
     refine tP (tP ⟨rfl,h',tk',rfl,m',fun b o hb e=>?_⟩)
     refine mv.heap b o ?_ (Heap.get?_push_of_some _ (Heap.get?_push_of_some _ e))
     rw [hsp];simp only [List.mem_cons,List.not_mem_nil,or_false,not_or];exact⟨Nat.ne_of_lt hb,Nat.ne_of_lt (Nat.lt_succ_of_lt hb)⟩
   ·cases r2 with
    | error e=>exact hr2
    | ok f2 =>
     cases f2 with
     | ret r =>
      obtain⟨rfl,h',tok,rfl,m',keep⟩:=hr2
      repeat (any_goals (first|assumption|wp_step))
      have m2:=m'
      obtain⟨o',_,_,_,_,I',_⟩:=m2
      exact h h' tok led hled m' keep (Heap.lt_size I'.get)
     | _=>exact hr2.elim
  | _=>exact hr.elim
end
end STb
namespace L2
open PySem PySem.Spec PyProof.Rows TS STb
def Y0 (P:tM) (w:World) (S:Addr) (us:List (List Key×Addr)) (led:Bool) (h:Heap):Prop :=
 ∃o es ep t,h.get? S=some o∧o.ExactSet∧o.data=.set es ep t∧es.toList=us.map (fun x=>((tk P w).hash x.1,Value.ref x.2))∧Ua t (Us es) es.size∧t.led=led∧led=(!w.params.followText "set-order")∧((∀x∈us,YT x.1)→t.plain=true)
theorem Y0.keep {P:tM}{w:World}{S:Addr}{us:List (List Key×Addr)}{led:Bool}{h h':Heap} (x:Y0 P w S us led h) (k:∀o,h.get? S=some o→h'.get? S=some o):Y0 P w S us led h':=by
 obtain⟨o,es,ep,t,e,r⟩:=x
 exact⟨o,es,ep,t,k _ e,r⟩
section
variable {X:Cx}
theorem be (hc:X.calm=true) (hu:X.A.units+64<cLine):ux X (.type "set") (fun xs H Q=>∃p bs ks,xs=[.ref p]∧H p=some (.lst (bs.map V.ref))∧jM H bs ks∧ks.length≤990 ∧
  ∀S us led,H S=none→(us.map (·.1)).Nodup→(∀k,k∈us.map (·.1)↔k∈ks)→(∀x∈us,H x.2=some (.tup (x.1.map kV)))→Q (.ref S) (upd H S (.ext (Y0 X.prog X.w S us led)))):=by
 intro pins s σ H xs us Q I r h
 obtain⟨p,bs,ks,rfl,e,ka,hn,q⟩:=h
 obtain⟨u,rfl,ru⟩:=Uk r
 cases ru
 obtain⟨its,rv,pl,hz⟩:=I.list (jD.of e)
 obtain rfl:=yD rv
 have lb:bs.length=ks.length:=ka.1
 have at_:∀j,j<bs.length→∃b k,bs[j]?=some b∧ks[j]?=some k∧bs.getD j 0=b∧ks.getD j []=k∧H b=some (.tup (k.map kV)):=fun j hj=>by
  have h1:=List.getElem?_eq_getElem hj
  have h2:=List.getElem?_eq_getElem (show j<ks.length by omega)
  exact⟨_,_,h1,h2,by rw [List.getD_eq_getElem?_getD,h1];rfl,by rw [List.getD_eq_getElem?_getD,h2];rfl,ka.2 j _ _ h1 h2⟩
 have sz:(bs.map Value.ref).toArray.size=bs.length:=by simp
 refine kZ (val:=fun j=>ks.getD j []) (adr:=fun j=>bs.getD j 0) (I.ok.hd hc) (by omega) pl.isList (fun i v hv=>?_) (fun j hj=>?_) (by rw [sz];omega) fun h' tok led hled m keep hlt=>?_
 ·rw [List.getElem?_toArray,List.getElem?_map] at hv
  obtain⟨b,h1,h2⟩:=Option.map_eq_some_iff.mp hv
  rw [←h2]
  show Value.ref b=Value.ref (bs.getD i 0)
  rw [List.getD_eq_getElem?_getD,h1];rfl
 ·rw [sz] at hj
  obtain⟨b,k,_,_,e1,e2,e3⟩:=at_ j hj
  show (tk X.prog X.w).is s.heap (ks.getD j []) (bs.getD j 0)
  rw [e1,e2]
  exact yr I.hok e3
 ·rw [sz] at m
  obtain⟨o,es,ep,t,us,J,l1,l2,l3,l4⟩:=m
  have fresh:=I.hok.fresh (Nat.le_refl s.heap.objs.size)
  refine⟨.ref s.heap.objs.size,_,I.laid (a:=s.heap.objs.size) (o:=.ext (Y0 X.prog X.w s.heap.objs.size us led)) (t':=tok) (fun b u hb=>keep b u (Heap.lt_size hb) hb) (Nat.le_refl _) ⟨⟨o,es,ep,t,J.get,J.ex,J.data,J.ent,J.tb,l1.1,hled,fun z=>l1.2 fun j hj=>(by obtain⟨x,hx,e⟩:=List.mem_map.mp ((l4 _).mpr ⟨j,hj,rfl⟩);have:=z x hx;rw [e] at this;exact this)⟩,⟨o,J.get⟩,fun h1 h2 x k=>x.keep k⟩,rfl,q _ us led fresh J.nd (fun k=>?_) fun x hx=>?_⟩
  ·rw [l4 k]
   constructor
   ·rintro⟨j,hj,rfl⟩
    obtain⟨b,k,_,h2,_,e2,_⟩:=at_ j hj
    show ks.getD j []∈ks
    rw [e2];exact List.mem_of_getElem? h2
   ·intro hk
    obtain⟨j,hj,ej⟩:=List.getElem_of_mem hk
    exact⟨j,by omega,by show ks.getD j []=k;rw [List.getD_eq_getElem?_getD,List.getElem?_eq_getElem hj,ej];rfl⟩
  ·obtain⟨j,hj,ej⟩:=l3 x hx
   obtain⟨b,k,_,_,e1,e2,e3⟩:=at_ j hj
   have ej:x.2=b:=ej.trans e1
   have i1:=J.is x hx
   have i2:(tk X.prog X.w).is h' k b:=yq (yr I.hok e3) fun ob he=>keep _ _ (Heap.lt_size he) he
   rw [ej] at i1
   rw [ej,(tk X.prog X.w).inj i1 i2]
   exact e3
end
end L2
namespace L2
open PySem PySem.Spec PyProof.Rows
def yL (c:Addr) (qual:Str):HO:=.ext fun h=>h.CodeRec (.ref c) qual
def YW (f:Addr) (qual:Str) (params:Arguments) (body:Expr) (scope:Scope) (cl:tE) (c:Addr):HO :=
 .ext fun h=>∃pm ct,h.get? f=some (kla_obj "<lambda>" qual params body scope cl pm c ct)
def Ua (H:Hp) (P:Addr) (pos:Pos) (qual:Str):Prop :=
 ∃ps,H P=some (.tbl ps)∧TriplesOk ps.toList∧(codeAmong pos ps.toList=none∨∃c,codeAmong pos ps.toList=some (.ref c)∧H c=some (yL c qual))
def N9 (P:Addr) (H H':Hp):Prop:=∀b u,b≠P→H b=some u→H' b=some u
def Sm (H H':Hp):Prop:=(∀b u,(∀ps,u≠.tbl ps)→H b=some u→H' b=some u)∧∀b ps,H b=some (.tbl ps)→∃ps',H' b=some (.tbl ps')
theorem Sm.none {H H':Hp} (a:Sm H H') {b:Addr} (n:H' b=none):H b=none:=by
 cases e:H b with
 | none=>rfl
 | some u =>
  by_cases h:∃ps,u=.tbl ps
  ·obtain⟨ps,rfl⟩:=h
   obtain⟨_,z⟩:=a.2 b ps e
   rw [n] at z;cases z
  ·have z:=a.1 b u (fun ps q=>h ⟨ps,q⟩) e
   rw [n] at z;cases z
theorem N9.sm {P:Addr}{H H':Hp}{ps ps':tI} (a:N9 P H H') (h:H P=some (.tbl ps)) (h':H' P=some (.tbl ps')):Sm H H' :=
 ⟨fun b u n e=>a b u (fun z=>by rw [z,h] at e;exact n _ (Option.some.inj e).symm) e,fun b qs e=>by
  by_cases z:b=P
  ·exact⟨ps',z▸h'⟩
  ·exact⟨qs,a b _ z e⟩⟩
theorem Ua.same {P:Addr}{H H':Hp}{pos:Pos}{qual:Str} (t:Ua H P pos qual) (a:jg H H'):Ua H' P pos qual:=by
 obtain⟨qs,e,tr,k⟩:=t
 refine⟨qs,a _ _ e,tr,?_⟩
 rcases k with k|⟨c,k,hc⟩
 ·exact .inl k
 ·exact .inr ⟨c,k,a _ _ hc⟩
def yK (mg:tj) (base:Heap):Prop :=
 ∃bm ob,mg "__builtins__"=some (.ref bm)∧bm≠builtinsNs∧base.get? bm=some ob∧ob.cls=.type "module"∧ob.dict=some builtinsNs∧ob.data=.plain
def sq (P:Addr) (qual:Str) (params:Arguments) (body:Expr) (scope:Scope) (cl:tE) (pos:Pos):TE:=fun _ H Q =>
 Ua H P pos qual∧∀c f H',N9 P H H'→Ua H' P pos qual→H f=none→H' f=some (YW f qual params body scope cl c)→H' c=some (yL c qual)→Q (.ref f) H'
section
variable {X:Cx}{params:Arguments}{body:Expr}{scope:Scope}{pos:Pos}{cl:tE}{c0 P:Addr}
theorem c9 {Pr:tM}{w:World}{H:Hp}{h:Heap}{c:Addr}{qual:Str} (r:h.CodeRec (.ref c) qual):j3 Pr w H h c (yL c qual):=by
 obtain⟨c',o,vs,t,e,g,r'⟩:=id r
 cases e
 refine⟨r,⟨o,g⟩,fun h1 h2 z k=>?_⟩
 obtain⟨c',o,vs,t,e,g,r'⟩:=z
 cases e
 exact⟨_,o,vs,t,rfl,k _ g,r'⟩
theorem NA {Pr:tM}{w:World}{H:Hp}{h:Heap}{f c:Addr}{qual:Str}{pm ct:Value} (e:h.get? f=some (kla_obj "<lambda>" qual params body scope cl pm c ct)):j3 Pr w H h f (YW f qual params body scope cl c) :=
 ⟨⟨pm,ct,e⟩,⟨_,e⟩,fun h1 h2 ⟨pm,ct,z⟩ k=>⟨pm,ct,k _ z⟩⟩
theorem pR (hdef:defaultsOf params X.env=([],[])) (hcl:closureFor scope X.env=pure cl) (hcode:X.env.code=.ref c0) (C:codeHdIn X.K c0 P=true) (hB:yK X.mg X.base) :
  PE X (.Lambda params body scope pos) (sq P (X.env.qual++"<lambda>") params body scope cl pos):=by
 intro pins s σ H Q I h
 obtain⟨⟨ps,hP,ht,hcase⟩,q⟩:=h
 refine PySem.W.kla_eval hdef ?_
 have hg:s.heap.Ns mainGlobals X.mg:=I.mod.glob.keeps I.bk
 have CH:CodeHd s.heap c0 P:=codeHd_of_K I.kIn C
 have hPo:s.heap.get? P=some (tabObj ps):=I.hok P _ hP
 have inb:∀b o,X.base.get? b=some o→b≠P:=fun b o e z=>by
  have:=(I.bs b o e).2
  rw [z,hP] at this;cases this
 obtain⟨bm,ob,b1,b2,b3,b4,b5,b6⟩:=hB
 have hgP:mainGlobals≠P:=by
  obtain⟨o,es,ep,e,_⟩:=I.mod.glob
  exact inb _ _ e
 have hne:bm≠mainGlobals:=fun z=>by
  obtain⟨o,es,ep,e,hd,_⟩:=I.mod.glob
  rw [z,e] at b3;cases b3;rw [hd] at b6;cases b6
 have hb:s.heap.BuiltinsAt X.mg P:=⟨bm,ob,b1,b2,hne,inb _ _ b3,I.bk _ _ b3,b4,b5,b6⟩
 rcases hcase with hnf|⟨c,hf,hc⟩
 ·refine PySem.W.kla_makeFunction (mg:=X.mg) hcl I.ok.glob hg hcode CH hPo ht hnf hgP hb fun c ctv h' tk hx hge hlt hrec htb=>?_
  have hfn:H h'.objs.size=none:=I.hok.fresh (Nat.le_trans hge (Nat.le_of_lt hlt))
  have hcn:H c=none:=I.hok.fresh hge
  have ncP:c≠P:=fun z=>by rw [z,hP] at hcn;cases hcn
  have nfP:h'.objs.size≠P:=fun z=>by rw [z,hP] at hfn;cases hfn
  have nfc:h'.objs.size≠c:=Nat.ne_of_gt hlt
  generalize hps:ps++#[rawInt pos.line,rawInt pos.col,.ref c]=ps2 at htb
  generalize hH:upd (upd (upd H P (.tbl ps2)) c (yL c (X.env.qual++"<lambda>"))) h'.objs.size (YW h'.objs.size (X.env.qual++"<lambda>") params body scope cl c)=H2
  have e1:H2 h'.objs.size=some (YW h'.objs.size (X.env.qual++"<lambda>") params body scope cl c):=by rw [←hH,je]
  have e2:H2 c=some (yL c (X.env.qual++"<lambda>")):=by rw [←hH,ji (Ne.symm nfc),je]
  have e3:H2 P=some (.tbl ps2):=by rw [←hH,ji (Ne.symm nfP),ji (Ne.symm ncP),je]
  have e4:∀b,b≠P→b≠c→b≠h'.objs.size→H2 b=H b:=fun b n1 n2 n3=>by rw [←hH,ji n3,ji n2,ji n1]
  have off:N9 P H H2:=fun b u n e=>by rw [e4 b n (jq e hcn) (jq e hfn)];exact e
  have kp:∀b o,b≠P→s.heap.get? b=some o→(h'.push (kla_obj "<lambda>" (X.env.qual++"<lambda>") params body scope cl ((X.mg "__name__").getD .none) c ctv)).get? b=some o:=fun b o n e=>Heap.get?_push_of_some _ (hx b o n e)
  have low:∀b o,s.heap.get? b=some o→b≠c∧b≠h'.objs.size:=fun b o e=>⟨Nat.ne_of_lt (Nat.lt_of_lt_of_le (Heap.lt_size e) hge),Nat.ne_of_lt (Nat.lt_trans (Nat.lt_of_lt_of_le (Heap.lt_size e) hge) hlt)⟩
  have un:Un X.fs [] H H2 s.heap (h'.push (kla_obj "<lambda>" (X.env.qual++"<lambda>") params body scope cl ((X.mg "__name__").getD .none) c ctv)):=by
   refine⟨fun b o e n _ _=>kp b o (fun z=>by rw [z,hP] at n;cases n) e,fun b o e n _ _=>⟨o.slots,kp b o (fun z=>by rw [z,hP] at n;cases n) e⟩,fun b o e n _=>?_,fun b o e _=>?_,fun b xs e=>off b _ (fun z=>by rw [z,hP] at e;cases e) e,fun b o u e=>off b _ (fun z=>by rw [z,hP] at e;cases e) e,fun b qs e=>?_⟩
   ·rw [e4 b (fun z=>by rw [z,hP] at n;cases n) (low b o e).1 (low b o e).2];exact n
   ·by_cases z:b=P
    ·exact⟨_,Heap.get?_push_of_some _ (z▸htb)⟩
    ·exact⟨o,kp b o z e⟩
   ·by_cases z:b=P
    ·rw [z,hP] at e;cases e
     exact⟨#[rawInt pos.line,rawInt pos.col,.ref c],by rw [z,e3,hps]⟩
    ·exact⟨#[],by rw [off b _ z e];simp⟩
  have hok:Jm X.prog X.w H2 (h'.push (kla_obj "<lambda>" (X.env.qual++"<lambda>") params body scope cl ((X.mg "__name__").getD .none) c ctv)):=fun b o e=>by
   by_cases z1:b=h'.objs.size
   ·subst z1
    rw [e1] at e;cases e
    exact NA (Heap.get?_push_size _ rfl)
   ·by_cases z2:b=c
    ·subst z2
     rw [e2] at e;cases e
     exact c9 (hrec.push _)
    ·by_cases z3:b=P
     ·subst z3
      rw [e3] at e;cases e
      exact (show _=_ from Heap.get?_push_of_some _ htb)
     ·rw [e4 b z3 z2 z1] at e
      refine (I.hok b o e).stay (fun d u hd g=>kp d u (fun z=>?_) g) (fun d g=>off d _ (fun z=>by rw [z,hP] at g;cases g) g) fun d xs g=>off d _ (fun z=>by rw [z,hP] at g;cases g) g
      rcases hd with w1|w1
      ·exact z3 (w1▸z)
      ·rw [z,hP] at w1;cases w1
  refine⟨.ref h'.objs.size,H2,I.un un hok,rfl,q c _ H2 off ⟨ps2,e3,?_,.inr ⟨c,?_,e2⟩⟩ hfn e1 e2⟩
  ·rw [←hps]
   have:(ps++#[rawInt pos.line,rawInt pos.col,Value.ref c]).toList=ps.toList++[rawInt pos.line,rawInt pos.col,.ref c]:=by simp
   rw [this];exact TriplesOk_snoc _ _ _ _ ht
  ·rw [←hps]
   have:(ps++#[rawInt pos.line,rawInt pos.col,Value.ref c]).toList=ps.toList++[rawInt pos.line,rawInt pos.col,.ref c]:=by simp
   rw [this];exact codeAmong_snoc _ ht hnf
 ·refine PySem.W.kla_makeFunctionHit (mg:=X.mg) hcl I.ok.glob hg hcode CH hPo ht hf hb fun ctv h' tk hk hsz=>?_
  have hfn:H h'.objs.size=none:=I.hok.fresh hsz
  have nf:∀{b:Addr} {u:HO},H b=some u→b≠h'.objs.size:=fun e=>jq e hfn
  have J:=I.laid (a:=h'.objs.size) (o:=YW h'.objs.size (X.env.qual++"<lambda>") params body scope cl c) (t':=tk) (h':=h'.push (kla_obj "<lambda>" (X.env.qual++"<lambda>") params body scope cl ((X.mg "__name__").getD .none) c ctv))
   (fun b u e=>Heap.get?_push_of_some _ (hk b u e)) hsz (NA (Heap.get?_push_size _ rfl))
  refine⟨.ref h'.objs.size,_,J,rfl,q c _ _ (fun b u _ e=>by rw [ji (nf e)];exact e) ⟨ps,by rw [ji (nf hP)];exact hP,ht,.inr ⟨c,hf,by rw [ji (nf hc)];exact hc⟩⟩ hfn je (by rw [ji (nf hc)];exact hc)⟩
end
end L2
namespace L2
open PySem PySem.Spec PyProof.Rows
end L2
namespace L2
open PySem PySem.Spec PyProof.Rows
abbrev lU (c:Addr) (o:Obj):HO:=.frz o (.ext fun h=>h.get? c=some o)
def qB (o:Obj) (v:V):Prop:=∃u,jE v u∧o.data=.cell (some u)
def rJ (H:Hp) (c:Addr) (v:V):Prop:=∃o,H c=some (lU c o)∧qB o v
section
variable {X:Cx}{k:Nat}{f C:Addr}{fd:FuncData}{ps:tH}{sp:Sp}{x m:Str}{p pos apos:Pos}{e o:Expr}{es:tJ}{ta:TE}{t:TA}{i:Nat}{y:Str}{c:Addr}
def Calls (P:tM) (w:World) (K:sZ) (mg:tj) (base:Heap) (k:Nat) (f:Addr) (sp:Sp):Prop :=
 ∀(A:Around) (outer:List Env) (s:Shared) (H:Hp) (us:tz) (vs:List V) (Q:VK),Ur k A→V9 P w K mg base A outer s H→jB vs us→sp vs H Q (fun _ _ _=>False) →
  codeAny (model P w) A (.call (.ref f) ⟨us,[]⟩) (CR (XC P w) outer P w H s Q (fun _ _ _=>False)) s
def yk (H:Hp) (f:Addr):Prop:=∃qual params body scope cl c,H f=some (YW f qual params body scope cl c)
theorem yk.at {P:tM}{w:World}{H:Hp}{h:Heap}{f:Addr} (x:yk H f) (ok:Jm P w H h):FnAt f h:=by
 obtain⟨qual,params,body,scope,cl,c,e⟩:=x
 obtain⟨⟨pm,ct,z⟩,_⟩:=ok _ _ e
 exact⟨_,_,_,_,z⟩
def cP (P:tM) (w:World) (K:sZ) (mg:tj) (base:Heap) (k:Nat) (ta:TE) (t:TA):TE:=fun σ H Q=>ta σ H fun x H1=>∃f,x=.ref f∧yk H1 f∧t σ H1 fun vs H2=>yk H2 f ∧
 ∃sp,Calls P w K mg base k f sp∧sp vs H2 Q (fun _ _ _=>False)
theorem dL (hf:PE X (.Name x p) ta) (hr:Ur k X.A) (ha:PA X (e::es) t)
  (he:starEach (e::es) X.env=(false,eval e X.env)::starEach es X.env:=by rfl) (hpl:(backTo pos (starEach es X.env)).any (·.1)=false:=by rfl) :
  PE X (.Call (.Name x p) (e::es) [] pos) (cP X.prog X.w X.K X.mg X.base k ta t):=by
 intro pins s σ H Q I h
 refine wpAny_Call_Name_kw (jC (hf pins s σ H _ I h) fun u s1 hh=>?_)
 obtain⟨v,H1,I1,rv,f,ev,hF,q⟩:=hh
 subst ev
 obtain rfl:u=Value.ref f:=rv
 refine PySem.W.callWith_F (first:=[]) (hF.at I1.hok) (jC (ha pos pins s1 σ H1 _ I1 q) fun us s2 ⟨vs,H2,I2,r,hF2,sp,C,q2⟩=>⟨hF2.at I2.hok,?_⟩) he hpl
 refine wpAny_call (codeAny_mono (C X.A X.stack s2 H2 us vs Q hr I2.env0 r q2) fun r s' hq=>?_)
 cases r with
 | error e =>
  obtain⟨_,_,_,_,_,_,_,_,_,z⟩:=hq
  exact z.elim
 | ok fl =>
  cases fl with
  | ret u=>exact I2.after hq
  | next=>exact False.elim hq
  | brk=>exact False.elim hq
  | cont=>exact False.elim hq
end
def VQ (H:Hp) (cl:tE):Hp:=fun b=>if b∈cl.map (·.2) then none else H b
def ME (H H':Hp) (cl:tE):Hp:=fun b=>if b∈cl.map (·.2) then H b else H' b
theorem J2 {H:Hp}{cl:tE}{b:Addr} (n:b ∉ cl.map (·.2)):VQ H cl b=H b:=if_neg n
theorem GW {H:Hp}{cl:tE}{b:Addr} (n:b∈cl.map (·.2)):VQ H cl b=none:=if_pos n
theorem UP {H H':Hp}{cl:tE}{b:Addr} (n:b ∉ cl.map (·.2)):ME H H' cl b=H' b:=if_neg n
theorem GM {H H':Hp}{cl:tE}{b:Addr} (n:b∈cl.map (·.2)):ME H H' cl b=H b:=if_pos n
theorem d7 {H:Hp}{cl:tE}{p:Addr}{o:HO} (z:∀q∈cl,upd (VQ H cl) p o q.2=none):ME H (upd (VQ H cl) p o) cl=upd H p o:=by
 funext b
 by_cases e:b∈cl.map (·.2)
 ·rw [GM e]
  obtain⟨q,hq,rfl⟩:=List.mem_map.mp e
  have n:q.2≠p:=fun n=>by have:=z q hq;rw [n,je] at this;cases this
  rw [ji n]
 ·rw [UP e]
  by_cases n:b=p
  ·rw [n,je,je]
  ·rw [ji n,ji n,J2 e]
structure KP (N ps:tH) (scope:Scope) (cl:tE):Prop where
 kind:scope.kind=.function
 co:scope.isCoroutine=false
 gen:scope.isGenerator=false
 nocell:∀y∈scope.names,y.2≠.cell
 nd:ps.Nodup
 N:N=ps++cl.map (·.1)
 par:∀x∈ps,scope.names.lookup x=some .local
 fre:∀q∈cl,scope.names.lookup q.1=some .free∧cl.lookup q.1=some q.2
 has:∀x,scope.names.lookup x=some .free→∃c,cl.lookup x=some c
 inj:∀x y c,cl.lookup x=some c→cl.lookup y=some c→x=y
theorem bU {ps:tH}{scope:Scope} (h1:scope.kind=.function) (h2:scope.isCoroutine=false) (h3:scope.isGenerator=false) (h4:(scope.names.all fun y=>y.2 != .cell&&y.2 != .free)=true) (h5:ps.Nodup)
  (h6:(ps.all fun x=>scope.names.lookup x==some .local)=true):KP ps ps scope [] :=
 ⟨h1,h2,h3,fun y hy=>by
   have:=List.all_eq_true.mp h4 y hy
   simp only [Bool.and_eq_true,bne_iff_ne] at this
   exact this.1,h5,by simp,fun x hx=>by simpa using List.all_eq_true.mp h6 x hx,fun q hq=>absurd hq (by simp),fun x e=>by
   have:=List.all_eq_true.mp h4 _ (JV e)
   simp at this,fun x y c e=>by simp at e⟩
def oy (P:tM) (w:World) (K:sZ) (mg:tj) (base:Heap) (N:tH) (qual:Str) (scope:Scope) (f c:Addr) (cl:tE) (A:Around) (outer:List Env) (s:Shared) (H:Hp):Cx where
 prog:=P
 w:=w
 K:=K
 mg:=mg
 base:=base
 A:=A.deeper (envX qual scope s.heap.objs.size f (.ref c) cl)
 N:=N
 s₀:=s
 H₀:=H
 env:=envX qual scope s.heap.objs.size f (.ref c) cl
 outer:=outer
 stack:=envX qual scope s.heap.objs.size f (.ref c) cl::outer
 ex:=[]
 calm:=true
 fn:=fun _=>false
 pn:=[]
 xe:=fun _ _=>False
theorem yI {x:Str}{u:Value}:∀{ps:tH} {us:tz} {i:Nat},ps.Nodup→ps[i]?=some x→us[i]?=some u→(ps.zip us).reverse.lookup x=some u
 | [],_,_,_,h,_=>by simp at h
 | _::_,[],_,_,_,h=>by simp at h
 | p::ps,v::us,0,nd,h1,h2=>by
  simp at h1 h2;subst h1;subst h2
  have:(ps.zip us).reverse.lookup p=none:=by
   cases e:(ps.zip us).reverse.lookup p with
   | none=>rfl
   | some w=>exact absurd (List.of_mem_zip (List.mem_reverse.mp (JV e))).1 (List.nodup_cons.mp nd).1
  rw [List.zip_cons_cons,List.reverse_cons,List.lookup_append,this];simp
 | p::ps,v::us,i+1,nd,h1,h2=>by
  have:=yI (ps:=ps) (us:=us) (i:=i) (List.nodup_cons.mp nd).2 (by simpa using h1) (by simpa using h2)
  rw [List.zip_cons_cons,List.reverse_cons,List.lookup_append,this];simp
theorem y7 {α β:Type}{F:α→β→Prop}:∀{l₁:List α} {l₂:List β} {i:Nat} {a:α},Paired F l₁ l₂→l₁[i]?=some a→∃b,l₂[i]?=some b∧F a b
 | _,_,_,_,.nil,e=>by simp at e
 | _,_,0,_,.cons r _,e=>by simp at e;subst e;exact⟨_,rfl,r⟩
 | _,_,i+1,a,.cons _ t,e=>by
  obtain⟨u,h1,h2⟩:=y7 (i:=i) (a:=a) t (by simpa using e)
  exact⟨u,by simpa using h1,h2⟩
section
variable {P:tM}{w:World}{K:sZ}{mg:tj}{base:Heap}{N ps:tH}{qual:Str}{params:Arguments}{body:Expr}{scope:Scope}{cl:tE}{cvs:List V}{f c:Addr}{k:Nat}
 {A:Around} {outer:List Env} {s:Shared} {H:Hp} {us:tz} {vs:List V} {Q:VK} {E:XK}
theorem dA (S:KP N ps scope cl) (hb:∀(pm ct:Value) (us:tz),us.length=ps.length→bindArgs (kla_fn "<lambda>" qual params body scope cl pm (.ref c) ct) ⟨us,[]⟩=pure (ps.zip us))
  (hr:Ur (k+1) A) (e0:V9 P w K mg base A outer s H) (r:jB vs us) (hl:vs.length=ps.length) (hf:H f=some (YW f qual params body scope cl c)) (hc:H c=some (yL c qual))
  (hcs:Paired (fun (p:Str×Addr) v=>rJ H p.2 v) cl cvs)
  (hbody:Ur k (A.deeper (envX qual scope s.heap.objs.size f (.ref c) cl))→∃te,PE (oy P w K mg base N qual scope f c cl A outer s (VQ H cl)) body te ∧
   te (vs.map some++cvs.map some) (VQ H cl) (fun r H'=>(∀p∈cl,H' p.2=none)→Q r (ME H H' cl))) :
  codeAny (model P w) A (.call (.ref f) ⟨us,[]⟩) (CR (XC P w) outer P w H s Q E) s:=by
 obtain⟨⟨pm,ct,ho⟩,_⟩:=e0.hok f _ hf
 have hcd:s.heap.CodeRec (.ref c) qual:=(e0.hok c _ hc).1
 have lim:s.heap.NoLimit:=e0.mod.nolimit.keeps fun b o e=>(e0.bs b o e).1
 have frz:∀b∈cl.map (·.2),∃ob u,H b=some (lU b ob)∧s.heap.get? b=some ob∧ob.data=.cell (some u):=fun b hb=>by
  obtain⟨p,hp,rfl⟩:=List.mem_map.mp hb
  obtain⟨i,hi,e⟩:=List.getElem_of_mem hp
  obtain⟨v,_,ob,e1,u,_,e2⟩:=y7 (i:=i) (a:=p) hcs (by rw [List.getElem?_eq_getElem hi,e])
  exact⟨ob,u,e1,(e0.hok _ _ e1).1,e2⟩
 have nin:∀{b:Addr},H b=none→b ∉ cl.map (·.2):=fun n hb=>by
  obtain⟨_,_,e,_⟩:=frz _ hb
  rw [n] at e;cases e
 have nin2:∀{b:Addr} {u:HO},H b=some u→(∀o z,u≠.frz o z)→b ∉ cl.map (·.2):=fun e n hb=>by
  obtain⟨_,_,e',_⟩:=frz _ hb
  rw [e] at e';exact n _ _ (Option.some.inj e')
 have e1:V9 P w K mg base A outer s (VQ H cl):=by
  refine⟨e0.frames,e0.mod,fun b o e=>⟨(e0.bs b o e).1,?_⟩,e0.bsz,e0.funs,fun b hb=>?_,fun b o e=>?_,e0.bare,.inl (hr.hd rfl)⟩
  ·have n:=(e0.bs b o e).2
   rw [J2 (nin n)];exact n
  ·have n:=e0.frf b hb
   rw [J2 (nin n)];exact n
  ·by_cases z:b∈cl.map (·.2)
   ·rw [GW z] at e;cases e
   ·rw [J2 z] at e
    exact (e0.hok b o e).stay (fun _ _ _ q=>q) (fun d g=>by rw [J2 (nin2 g (by intro o u z;cases z))];exact g) fun d xs g=>by rw [J2 (nin2 g (by intro o u z;cases z))];exact g
 have hlu:us.length=ps.length:=by rw [←r.length];exact hl
 refine PySem.W.kla_callFunE hr.depth ho rfl S.co S.gen rfl hcd ?_
 rw [hb pm ct us hlu]
 refine tP (wpAny_newFunctionEnv S.nocell (fun y hy=>S.par _ (List.of_mem_zip hy).1) (fun h₁ hns hsb=>⟨lim.fresh _ hsb,?_⟩) S.kind)
 have hk₁:∀b o,s.heap.get? b=some o→h₁.get? b=some o:=fun b o e=>hsb.extBut b o (Nat.ne_of_lt (Heap.lt_size e)) (Heap.get?_push_of_some _ e)
 obtain⟨te,ht,hq⟩:=hbody (hr.deeper _)
 have hcl:∀x d,cl.lookup x=some d→d∈cl.map (·.2):=fun x d e=>List.mem_map.mpr ⟨_,JV e,rfl⟩
 have kof:∀x,(envX qual scope s.heap.objs.size f (.ref c) cl).kindOf x=scope.names.lookup x:=fun _=>rfl
 have I:jo (oy P w K mg base N qual scope f c cl A outer s (VQ H cl)) [] (vs.map some++cvs.map some) (VQ H cl) { s with heap:=h₁,toks:=s.toks+(ps.zip us).length }:=by
  have noA:∀b:Addr,b ∉ (oy P w K mg base N qual scope f c cl A outer s (VQ H cl)).ex:=fun b z=>absurd (show b∈([]:tD) from z) (by simp)
  refine⟨⟨e1.mod,S.kind,rfl,rfl,Nat.le_refl _,S.inj,fun x hx=>S.has x ?_,fun x d z=>(by cases z),fun _=>hr.hd rfl,Around.frames_deeper e1.frames,.inr ⟨rfl,rfl⟩,fun b z=>absurd z (noA b),e1.bs,e1.bsz,fun b _ _=>noA b,fun b z=>absurd z (noA b),e1.funs,e1.frf⟩,
   rfl,e1.bare,Un.kept hk₁,⟨_,hns,fun i x v h1 h2 h3=>?_⟩,fun x d e=>?_,e1.hok.fresh (Nat.le_refl _),fun x d e=>GW (hcl x d e),fun p hp=>absurd (show p∈([]:tq) from hp) (by simp),e1.hok.kept hk₁,?_,e1.hn⟩
  ·rcases hx with z|z
   ·exact absurd rfl (S.nocell _ (JV (show scope.names.lookup x=some .cell from z)))
   ·exact z
  ·have h1':(ps++cl.map (·.1))[i]?=some x:=by rw [←S.N];exact h1
   by_cases hi:i<vs.length
   ·rw [List.getElem?_append_left (by rw [List.length_map];exact hi),List.getElem?_map] at h2
    cases ev:vs[i]? with
    | none=>rw [ev] at h2;cases h2
    | some v' =>
     rw [ev] at h2;cases h2
     obtain⟨u,hu,rv⟩:=r.get ev
     rw [List.getElem?_append_left (by omega)] at h1'
     exact⟨u,rv,.inl ⟨S.par x (List.mem_of_getElem? h1'),yI S.nd h1' hu⟩⟩
   ·rw [List.getElem?_append_right (by rw [List.length_map];omega),List.getElem?_map,List.length_map] at h2
    rw [List.getElem?_append_right (by omega),List.getElem?_map,←hl] at h1'
    obtain⟨p,ep,rfl⟩:=Option.map_eq_some_iff.mp h1'
    obtain⟨v',ev,ob,g1,u,g2,g3⟩:=y7 hcs ep
    rw [ev] at h2;cases h2
    obtain⟨k1,k2⟩:=S.fre p (List.mem_of_getElem? ep)
    exact⟨u,g2,.inr ⟨.inr k1,p.2,k2,ob,hk₁ _ _ (e0.hok _ _ g1).1,g3⟩⟩
  ·obtain⟨ob,u,_,g,d2⟩:=frz d (hcl x d e)
   exact⟨_,ob,hk₁ _ _ g,d2⟩
  ·show (vs.map some++cvs.map some).length=N.length
   have lc:cl.length=cvs.length:=Paired.length hcs
   rw [S.N,List.length_append,List.length_append,List.length_map,List.length_map,List.length_map,hl,lc]
 refine PySem.W.kla_codeExpr (wpAny_mono (ht [] _ _ _ _ I hq) (fun u s' hs=>?_) fun _ _ z=>z.elim)
 obtain⟨v,H',J,rv,q⟩:=hs
 have jc:∀b∈cl.map (·.2),H' b=none:=fun b hb=>by
  obtain⟨p,hp,rfl⟩:=List.mem_map.mp hb
  exact J.freeC p.1 p.2 (S.fre p hp).2
 have jb:Un (JX outer) [] (VQ H cl) H' s.heap s'.heap:=J.base
 have nj:∀{b:Addr} {u:HO},H' b=some u→b ∉ cl.map (·.2):=fun e hb=>by rw [jc _ hb] at e;cases e
 refine⟨v,ME H H' cl,J.os,J.bare,?_,fun b o e=>?_,rv,q fun p hp=>jc _ (List.mem_map_of_mem hp)⟩
 ·refine⟨fun b o e n hb hx=>jb.keep b o e (by rw [J2 (nin n)];exact n) hb hx,fun b o e n hb hx=>jb.slot b o e (by rw [J2 (nin n)];exact n) hb hx,fun b o e n hx=>?_,fun b o e hx=>jb.there b o e hx,fun b xs e=>?_,fun b o z e=>?_,fun b qs e=>?_⟩
  ·rw [UP (nin n)];exact jb.free b o e (by rw [J2 (nin n)];exact n) hx
  ·have n:=nin2 e (by intro o u z;cases z)
   rw [UP n];exact jb.tups b xs (by rw [J2 n];exact e)
  ·by_cases n:b∈cl.map (·.2)
   ·rw [GM n];exact e
   ·rw [UP n];exact jb.frzs b o z (by rw [J2 n];exact e)
  ·have n:=nin2 e (by intro o u z;cases z)
   rw [UP n];exact jb.tbls b qs (by rw [J2 n];exact e)
 ·by_cases n:b∈cl.map (·.2)
  ·rw [GM n] at e
   obtain⟨ob,u,g1,g2,g3⟩:=frz b n
   rw [g1] at e;cases e
   have g4:s'.heap.get? b=some ob:=jb.keep b ob g2 (GW n) (fun z=>by rw [e0.frf b z] at g1;cases g1) (by simp)
   exact⟨g4,g4,⟨_,g4⟩,fun h1 h2 a k=>k _ a⟩
  ·rw [UP n] at e
   exact (J.hok b o e).stay (fun _ _ _ g=>g) (fun d g=>by rw [UP (nj g)];exact g) fun d xs g=>by rw [UP (nj g)];exact g
end
end L2
namespace L2
open PySem PySem.Spec PyProof.Rows
structure ZO (K:sZ) (x qual:Str) (st:Stmt) (f:Addr) (fd:FuncData) (c P:Addr):Prop where
 ex:∃(oc:Value) (od:tL) (kV doc pm:Value) (an:tL) (ct:Value) (osl:tG),
  fd=fnOf x qual (Jp st) (Jb st) (jp st) .none kV doc pm an (.ref c) ct∧K.lookup f=some ⟨oc,od,.func fd,osl⟩∧codeIn K (.ref c) qual=true
 kp:keepIn K (.ref f)=true
 hd:codeHdIn K c P=true
section
variable {P:tM}{w:World}{K:sZ}{mg:tj}{base:Heap}{N ps:tH}{x qual:Str}{st:Stmt}{f c Pl:Addr}{fd:FuncData}
theorem ZO.okX {k:Nat}{sp:Sp}{cm:Bool} (F:ZO K x qual st f fd c Pl) (S:jt N ps (jp st)) (len:∀vs H Q E,sp vs H Q E→vs.length=ps.length)
  (hbody:∀(A:Around) (outer:List Env) (s:Shared) (H:Hp) (vs:List V) (Q:VK) (E:XK),Ji cm k (A.deeper (envOfC qual (jp st) s.heap.objs.size f (.ref c)))→sp vs H Q E →
   ∃t,YZ (Y5 P w K mg base N qual (jp st) f (.ref c) A outer s H E cm) (Jb st) t∧t { nx:=fun _ H'=>Q .non H',rt:=Q } (start N vs) H):uQ P w K mg base (XC P w) (k+1) f fd ps sp cm:=by
 obtain⟨oc,od,kV,doc,pm,an,ct,osl,rfl,lk,hcd⟩:=F.ex
 exact aj lk hcd S len fun A outer s H vs Q E hr hsp=>hbody A outer s H vs Q E hr hsp
theorem ZO.binds (F:ZO K x qual st f fd c Pl)
  (h:∀(kV doc pm:Value) (an:tL) (cdv ct:Value) (us:tz),us.length=ps.length→bindArgs (fnOf x qual (Jp st) (Jb st) (jp st) .none kV doc pm an cdv ct) ⟨us,[]⟩=pure (ps.zip us)):ju K fd ps []:=by
 obtain⟨oc,od,kV,doc,pm,an,ct,osl,rfl,lk,hcd⟩:=F.ex
 exact .all (h kV doc pm an _ ct)
theorem Nw {oc:Value}{od an:tL}{osl:tG}{kV doc pm ct:Value} (l:K.lookup f=some ⟨oc,od,.func (fnOf x qual (Jp st) (Jb st) (jp st) .none kV doc pm an (.ref c) ct),osl⟩)
  (h:codeIn K (.ref c) qual=true) (k:keepIn K (.ref f)=true) (d:codeHdIn K c Pl=true):ZO K x qual st f (fnOf x qual (Jp st) (Jb st) (jp st) .none kV doc pm an (.ref c) ct) c Pl:=⟨⟨oc,od,kV,doc,pm,an,ct,osl,rfl,l,h⟩,k,d⟩
end
theorem bV {P:tM}{w:World}{K:sZ}{mg mb:tj}{k:Nat}{fa a:Addr}{fd:FuncData}{x:Str}{sp:Sp}{s₁:Shared}{vs:tz}{ns:List Int}{tabs:tD}
  (KX:K.In s₁.heap) (hns:s₁.heap.Ns mainGlobals mg) (hb:s₁.heap.Ns builtinsNs mb) (hbb:∀x:Str,x≠"__name__"→mb x=bootBuiltins x) (hlim:s₁.heap.NoLimit) (hg:s₁.gens=#[]) (hBM:yK mg s₁.heap)
  (hT:∀p∈tabs,isCodeTable s₁.heap p∧s₁.heap.get? p=some (tabObj #[])∧K.lookup p=none)
  (ha:s₁.heap.get? a=some { cls:=.type "list",data:=.seq vs.toArray }) (hi:IntsAre vs ns) (hl:ns.length≤sizeLine) (hr:Ur k callerA)
  (F:∀base:Heap,K.In base→base.Ns mainGlobals mg→yK mg base→uQ P w K mg base (XC P w) k fa fd [x] sp) (hbind:∀(s:Shared) (u:Value),BindsTo s fd ⟨[u],[]⟩ [(x,u)])
  (hsp:∀H:Hp,jD K H a (ns.map V.int)→(∀p∈tabs,H p=some (.tbl #[]))→sp [.ref a] H (fun v _=>v=.bl true) fun _ _ _=>False) :
  codeAny (model P w) callerA (.call (.ref fa) ⟨[.ref a],[]⟩) (fun r s'=>r=.ok (.ret (.bool true))∧OldK s₁.heap s'.heap∧s'.os=s₁.os∧AllBare s'.gens) s₁:=by
 have rv:=kG hi
 have lenV:=hi.length
 have core:∀H:Hp,jD K H a (ns.map V.int)→Jm P w H s₁.heap→(∀b u,H b=some u→(b∈tabs∧u=.tbl #[])∨(b=a∧K.lookup a=none∧∃o xs,u=.frz o (.lst xs)))→(∀p∈tabs,H p=some (.tbl #[])) →
   codeAny (model P w) callerA (.call (.ref fa) ⟨[.ref a],[]⟩) (fun r s'=>r=.ok (.ret (.bool true))∧OldK s₁.heap s'.heap∧s'.os=s₁.os∧AllBare s'.gens) s₁:=by
  intro H hS hok hA hTb
  have base_of:∀{b:Addr} {o:Obj},s₁.heap.get? b=some o→H b=none→(yc s₁.heap H).get? b=some o:=fun e n=>dq e n
  have noA:∀{b:Addr} {o:Obj},s₁.heap.get? b=some o→(∀qs,o.data≠.fields qs)→(∀xs n,o.data≠.seq xs n)→H b=none:=fun {b o} e d1 d2=>by
   cases q:H b with
   | none=>rfl
   | some u =>
    rcases hA b u q with ⟨z,_⟩|⟨z,_⟩
    ·rw [(hT b z).2.1] at e;cases e;exact absurd rfl (d1 _)
    ·subst z;rw [ha] at e;cases e;exact absurd rfl (d2 _ _)
  have nsK:∀{b:Addr} {m:tj},s₁.heap.Ns b m→(yc s₁.heap H).Ns b m:=fun {b m} ⟨o,es,ep,e,d,r⟩=>⟨o,es,ep,base_of e (noA e (fun qs z=>by rw [d] at z;cases z) fun xs n z=>by rw [d] at z;cases z),d,r⟩
  have hKb:K.In (yc s₁.heap H):=fun b o e=>base_of (KX b o e) (by
   cases q:H b with
   | none=>rfl
   | some u =>
    rcases hA b u q with ⟨z,_⟩|⟨z,z2,_⟩
    ·rw [(hT b z).2.2] at e;cases e
    ·subst z;rw [z2] at e;cases e)
  have hBb:yK mg (yc s₁.heap H):=by
   obtain⟨bm,ob,b1,b2,b3,b4,b5,b6⟩:=hBM
   exact⟨bm,ob,b1,b2,base_of b3 (noA b3 (fun qs z=>by rw [b6] at z;cases z) fun xs n z=>by rw [b6] at z;cases z),b4,b5,b6⟩
  have hM:Mod K mg (yc s₁.heap H):=⟨hKb,nsK hns,⟨mb,nsK hb,hbb⟩,let ⟨mc,h1,h2⟩:=hlim;⟨mc,nsK h1,h2⟩⟩
  have e0:V9 P w K mg (yc s₁.heap H) callerA [] s₁ H:=⟨rfl,hM,fun b o e=>iT e,Nat.le_of_eq (bM _ _),trivial,fun b hb=>absurd (show b∈([]:tD) from hb) (by simp),hok,.of_eq hg,.inl rfl⟩
  refine codeAny_mono ((F _ hKb (nsK hns) hBb).run callerA [] s₁ H ⟨[.ref a],[]⟩ [.ref a] [.ref a] _ _ hr e0 (hbind s₁ (.ref a)) (.cons rfl .nil) (hsp H hS hTb)) fun r s' h=>?_
  cases r with
  | error e =>
   obtain⟨_,_,_,_,_,_,_,_,_,z⟩:=h
   exact z.elim
  | ok fl =>
   cases fl with
   | next=>exact False.elim h
   | brk=>exact False.elim h
   | cont=>exact False.elim h
   | ret u =>
    obtain⟨v,H',os,bare,un,hok',r',q⟩:=h
    have q':v=.bl true:=q
    subst q'
    obtain rfl:u=Value.bool true:=r'
    refine⟨rfl,⟨fun b o e=>?_,fun b o e=>un.there b o e (by simp)⟩,os,bare⟩
    cases q:H b with
    | none=>exact .inl (un.keep b o e q (by intro z;exact absurd (show b∈([]:tD) from z) (by simp)) (by simp))
    | some u =>
     rcases hA b u q with ⟨z,rfl⟩|⟨z,_,ob,xs,rfl⟩
     ·obtain⟨more,z2⟩:=un.tbls b _ q
      have z3:s'.heap.get? b=some (tabObj (#[]++more)):=hok' b _ z2
      rw [(hT b z).2.1] at e;cases e
      exact .inr (.inl ⟨(hT b z).1,rfl,#[],more,rfl,z3⟩)
     ·have z2:=un.frzs b ob _ q
      obtain⟨e1,_⟩:=hok b _ q
      obtain⟨e2,_⟩:=hok' b _ z2
      rw [e] at e1;cases e1
      exact .inl e2
 have at':a ∉ tabs:=fun z=>by
  have:=(hT a z).2.1
  rw [ha] at this;cases this
 cases hk:K.lookup a with
 | some o =>
  have e:=KX a o hk
  rw [ha] at e
  cases e
  refine core (fun b=>if b∈tabs then some (.tbl #[]) else none) (.inr ⟨_,vs.toArray,_,hk,rfl,rfl,rfl,by rw [List.size_toArray,lenV];exact hl,by simpa using rv⟩) (fun b u z=>?_) (fun b u z=>?_) fun p hp=>if_pos hp
  ·by_cases hb:b∈tabs
   ·have z':=(if_pos hb).symm.trans z
    cases z'
    exact (hT b hb).2.1
   ·have z':=(if_neg hb).symm.trans z
    cases z'
  ·by_cases hb:b∈tabs
   ·have z':=(if_pos hb).symm.trans z
    cases z'
    exact .inl ⟨hb,rfl⟩
   ·have z':=(if_neg hb).symm.trans z
    cases z'
 | none =>
  have eH:∀b,b≠a→(fun b=>if b=a then some (HO.frz { cls:=.type "list",data:=.seq vs.toArray } (.lst (ns.map V.int))) else if b∈tabs then some (HO.tbl #[]) else none) b=if b∈tabs then some (HO.tbl #[]) else none:=fun b n=>if_neg n
  refine core (fun b=>if b=a then some (.frz { cls:=.type "list",data:=.seq vs.toArray } (.lst (ns.map V.int))) else if b∈tabs then some (.tbl #[]) else none) (.inl (.inr ⟨{ cls:=.type "list",data:=.seq vs.toArray },if_pos rfl⟩)) (fun b u z=>?_) (fun b u z=>?_) fun p hp=>?_
  ·by_cases hb:b=a
   ·have z':=(if_pos hb).symm.trans z
    cases z'
    subst hb
    exact⟨ha,by rw [List.length_map];exact hl,vs,_,rv,ha⟩
   ·replace z:=(eH b hb).symm.trans z
    by_cases hb2:b∈tabs
    ·rw [if_pos hb2] at z;cases z
     exact (hT b hb2).2.1
    ·rw [if_neg hb2] at z;cases z
  ·by_cases hb:b=a
   ·have z':=(if_pos hb).symm.trans z
    cases z'
    exact .inr ⟨hb,hk,_,_,rfl⟩
   ·replace z:=(eH b hb).symm.trans z
    by_cases hb2:b∈tabs
    ·rw [if_pos hb2] at z;cases z
     exact .inl ⟨hb2,rfl⟩
    ·rw [if_neg hb2] at z;cases z
  ·have n:p≠a:=fun z=>at' (z▸hp)
   exact (eH p n).trans (if_pos hp)
theorem walk_ofT {l:PySem.W.OpenLaw}{n k:Nat}{q:tM}{loose:tH}{XP:(Str→Option Value)→Heap→Prop}{YP:World→Heap→Prop}{d:DefRec}{K:Params→PySem.W.Frag}{sp:PySem.W.Frag→List Addr→Sp}{x:Str}
  (hn:l.most=some n) (hn2:n≤sizeLine) (hdf:d.params.defaults=[]) (hr:Ur k callerA)
  (hY:∀(w:World) (h:Heap),YP w h→(K w.params).In h)
  (F:∀(w:World) (mg:tj) (fa:Addr) (h:Heap),YP w h→(K w.params).In h→h.Ns mainGlobals mg→mg d.name=some (.ref fa) →
   ∃(fd:FuncData) (tabs:tD),(∀(s:Shared) (u:Value),BindsTo s fd ⟨[u],[]⟩ [(x,u)])∧(∀p∈tabs,isCodeTable h p∧h.get? p=some (tabObj #[])∧(K w.params).lookup p=none) ∧
    ∀base:Heap,(K w.params).In base→base.Ns mainGlobals mg→yK mg base→uQ l.prog w (K w.params) mg base (XC l.prog w) k fa fd [x] (sp (K w.params) tabs))
  (hsp:∀(K:sZ) (tabs:tD) (H:Hp) (a:Addr) (ns:List Int),ns.length≤n→jD K H a (ns.map V.int)→(∀p∈tabs,H p=some (.tbl #[]))→sp K tabs [.ref a] H (fun v _=>v=.bl true) fun _ _ _=>False) :
  PySem.W.WalkO q loose XP YP l.row.toRowW d [] (fun f vs=>PySem.call f vs):=by
 refine Att.attach_call hn hdf fun w s₀ s₁ mg mb fa o pm cd doc a vs ns G Y ho hd hcd hmg hobj hints hlen hg=>?_
 have KX:=hY w _ Y
 obtain⟨fd,tabs,hb,hT,hF⟩:=F w mg fa _ Y KX G.T.g hmg
 exact bV KX G.T.g G.T.b G.T.builtins G.T.nolimit hg G.T.bmain hT hobj hints (Nat.le_trans hlen hn2) hr hF hb (fun H hS hTb=>hsp _ tabs H a ns hlen hS hTb)
end L2
namespace L2
open PySem PySem.Spec PyProof.Rows
section
variable {X:Cx}
end
end L2
namespace L2
open PySem PySem.Spec PyProof.Rows
section
variable {X:Cx}{k:Nat}{x:Str}{p pos:Pos}{e:Expr}{es:tJ}{ta:TE}{t:TA}
theorem NO {K:sZ}{es:tJ}{j:Nat}{t:GZ}{n:Nat} (hK:X.K=K) (hc:X.calm=true) (h:aY X es t)
  (hn:(assignEach es X.env).length=n:=by rfl) (hst:(assignEach es X.env).findIdx? (·.1)=none:=by rfl):PG X (.Tuple es j pos) (oN K n t):=by
 subst hK;exact gY hc h hn hst
theorem kx {P:tM}{w:World}{K:sZ}{mg:tj}{base:Heap} (h1:X.prog=P) (h2:X.w=w) (h3:X.K=K) (h4:X.mg=mg) (h5:X.base=base) (hf:PE X (.Name x p) ta) (hr:Ur k X.A) (ha:PA X (e::es) t)
  (he:starEach (e::es) X.env=(false,eval e X.env)::starEach es X.env:=by rfl) (hpl:(backTo pos (starEach es X.env)).any (·.1)=false:=by rfl) :
  PE X (.Call (.Name x p) (e::es) [] pos) (cP P w K mg base k ta t):=by
 subst h1 h2 h3 h4 h5;exact dL hf hr ha he hpl
end
end L2
namespace STb
open PySem PySem.Spec PyProof.Rows L2 SetTable TS
theorem Gy:entryFor table "set.__iter__"=some Builtin.«frozenset.__iter__» :=
 entryFor_alias (id':="frozenset.__iter__") (by kernel_rfl) rfl (by decide +kernel) (by kernel_rfl)
theorem vI:Manifest.owners.lookup (String.ofList ['r','o','t','a','r','e','t','i','_','t','e','s'].reverse)=some Manifest.sig_set_iterator:=by kernel_rfl
theorem Jd:Slot "set_iterator" "__next__" "set_iterator.__next__" :=
 .of (owner:="set_iterator") (n:="__next__") (by rw [typeLookup_type,builtinLookup_eq_fast];kernel_rfl) (by decide +kernel) (by decide +kernel) (by decide +kernel)
  (by first|exact .inl (by decide +kernel)|exact .inr (by decide +kernel)) (by rw [isSubtype_type];kernel_rfl)
theorem Ul:entryFor table "set_iterator.__next__"=some Builtin.«set_iterator.__next__»:=entryFor_of_tree (by kernel_rfl)
theorem Ub (a:Value):argsOk "set_iterator.__next__" ⟨[a],[]⟩:=by
 unfold argsOk;rw [signature?_of (id:="set_iterator.__next__") (n:=['_','_','t','x','e','n','_','_']) (o:=['r','o','t','a','r','e','t','i','_','t','e','s']) (by kernel_rfl) vI];kernel_rfl
theorem Ux:Slot "set_iterator" "__iter__" "set_iterator.__iter__" :=
 .of (owner:="set_iterator") (n:="__iter__") (by rw [typeLookup_type,builtinLookup_eq_fast];kernel_rfl) (by decide +kernel) (by decide +kernel) (by decide +kernel)
  (by first|exact .inl (by decide +kernel)|exact .inr (by decide +kernel)) (by rw [isSubtype_type];kernel_rfl)
theorem VU:entryFor table "set_iterator.__iter__"=some Builtin.«dict_keyiterator.__iter__» :=
 entryFor_alias (id':="dict_keyiterator.__iter__") (by kernel_rfl) rfl (by decide +kernel) (by kernel_rfl)
theorem Vv (a:Value):argsOk "set_iterator.__iter__" ⟨[a],[]⟩:=by
 unfold argsOk;rw [signature?_of (id:="set_iterator.__iter__") (n:=['_','_','r','e','t','i','_','_']) (o:=['r','o','t','a','r','e','t','i','_','t','e','s']) (by kernel_rfl) vI];kernel_rfl
theorem gA {α:Type}:∀(l:List α) (i:Nat) (h:i<l.length),(l[i]::l.eraseIdx i).Perm l
 | a::l,0,_=>List.Perm.refl _
 | a::l,i+1,h=>by
  have hl:i<l.length:=by simpa using h
  have:=gA l i hl
  rw [List.getElem_cons_succ,List.eraseIdx_cons_succ]
  exact (List.Perm.swap a l[i] _).trans (this.cons a)
theorem NQ {α:Type} (next:Nat→Nat):∀(fuel k:Nat) (left:List α) (out:Array α),left.length=fuel→(pickOrder.go next fuel k left out).toList.Perm (out.toList++left)
 | 0,k,left,out,h=>by
  have:left=[]:=List.length_eq_zero_iff.mp h
  subst this
  unfold pickOrder.go
  rw [List.append_nil]
 | fuel+1,k,left,out,h=>by
  have hlt:next k % left.length<left.length:=Nat.mod_lt _ (by omega)
  unfold pickOrder.go
  rw [List.getElem?_eq_getElem hlt]
  refine (NQ next fuel (k+1) _ _ (by rw [List.length_eraseIdx_of_lt hlt];omega)).trans ?_
  rw [Array.toList_push,List.append_assoc]
  refine List.Perm.append_left _ ?_
  exact gA _ _ hlt
theorem cu {α:Type} (next:Nat→Nat) (xs:Array α):(pickOrder next xs).toList.Perm xs.toList:=by
 have:=NQ next xs.size 0 xs.toList #[] rfl
 rw [show (#[]:Array α).toList++xs.toList=xs.toList from rfl] at this
 exact this
def u5 (w:World) (S ep:Nat) (es:tF):Array (Int×Value):=if w.params.followText "set-order" then pickOrder (w.params.setOrder S ep) es else es
theorem Ms (w:World) (S ep:Nat) (es:tF):(u5 w S ep es).toList.Perm es.toList:=by
 unfold u5
 split
 ·exact cu _ _
 ·exact List.Perm.refl _
theorem UH (w:World) (S ep:Nat) (es:tF):(u5 w S ep es).size=es.size:=by
 rw [←Array.length_toList,(Ms w S ep es).length_eq,Array.length_toList]
def Wk (w:World) (h:Heap) (S:Addr) (es:tF) (ep:Nat) (t:SetTable):Prop :=
 ∃o,h.get? S=some o∧o.ExactSet∧o.data=.set es ep t∧t.fits es.size=true∧vU t.place∧t.place.size=es.size∧t.led=(!w.params.followText "set-order")∧t.plain=true
theorem Wk.keep {w:World}{h h':Heap}{S:Addr}{es:tF}{ep:Nat}{t:SetTable} (x:Wk w h S es ep t) (k:∀o,h.get? S=some o→h'.get? S=some o):Wk w h' S es ep t:=by
 obtain⟨o,e,r⟩:=x
 exact⟨o,k _ e,r⟩
theorem Wk.typeIs {w:World}{s:Shared}{S:Addr}{es:tF}{ep:Nat}{t:SetTable} (x:Wk w s.heap S es ep t):s.TypeIs (.ref S) "set":=by
 obtain⟨o,e,c,_⟩:=x
 exact⟨o,e,c.1⟩
def Wi (w:World) (h:Heap) (it S i n ep:Nat) (t:SetTable):Prop :=
 ∃o slot,h.get? it=some o∧o.cls=.type "set_iterator"∧o.data=.fields #[.int (slot:Nat) 0,.int (i:Nat) 0,.ref S,.int (n:Nat) 0,.int (ep:Nat) 0]∧(w.params.followText "set-order"=false→below t.place slot=i)
theorem Wi.typeIs {w:World}{s:Shared}{it S i n ep:Nat}{t:SetTable} (x:Wi w s.heap it S i n ep t):s.TypeIs (.ref it) "set_iterator":=by
 obtain⟨o,slot,e,c,_⟩:=x
 exact⟨o,e,c⟩
theorem ad {xs:Array Nat} (R:vU xs) {i:Nat} (h:i<xs.size):below xs (xs.getD i 0+1)=i+1:=by
 obtain⟨h1,h2,h3⟩:=Vw R (xs.getD i 0+1)
 rcases Nat.lt_trichotomy (below xs (xs.getD i 0+1)) (i+1) with z|z|z
 ·have:=h3 i (by omega) h
  omega
 ·exact z
 ·have:=h2 (i+1) z
  have:=R i (i+1) (by omega) (by omega)
  omega
theorem ae {xs:Array Nat} (R:vU xs):below xs 0=0:=by
 obtain⟨h1,h2,h3⟩:=Vw R 0
 rcases Nat.eq_zero_or_pos (below xs 0) with z|z
 ·exact z
 ·have:=h2 0 z
  omega
section
variable {prog:tM}{w:World}{A:Around}{E:sV}{s:Shared}{S t it:Addr}{es:tF}{ep i:Nat}{tb:SetTable}
theorem zO {Q:sX} (q:Q (w.params.followText "set-order") s):wpAny (model prog w) A setsByText Q E s:=by
 unfold setsByText
 exact tO (wpAny_askSetting (tP q))
theorem eT {Q:sX} (x:Wk w s.heap S es ep tb) (q:Q false s):wpAny (model prog w) A (setDrawn S) Q E s:=by
 obtain⟨o,e,_,d,f,_,_,_,p⟩:=x
 unfold setDrawn
 refine tO (wpAny_setState_of e d f (tO (zO (tP ?_))))
 have:(!w.params.followText "set-order"&&(!tb.plain&&decide (es.size > 1)))=false:=by rw [p];simp
 exact this.symm▸q
theorem eU {Q:Nat→Shared→Prop} (x:Wk w s.heap S es ep tb) (q:Q ep s):wpAny (model prog w) A (setEpoch S) Q E s:=by
 obtain⟨o,e,_,d,f,_⟩:=x
 unfold setEpoch
 exact tO (wpAny_setState_of e d f (tP q))
theorem Yh {Q:Array (Int×Value)→Shared→Prop} (x:Wk w s.heap S es ep tb) (q:Q es s):wpAny (model prog w) A (setEntries S) Q E s:=by
 obtain⟨o,e,_,d,f,_⟩:=x
 exact wpAny_setEntries_of e d f q
theorem dw {Q:sV} (x:Wk w s.heap S es ep tb)
  (q:Q (.ref s.heap.objs.size) { s with heap:=s.heap.push { cls:=.type "set_iterator",data:=.fields #[.int (0:Nat) 0,.int (0:Nat) 0,.ref S,.int es.size 0,.int ep 0] } }):wpAny (model prog w) A (pyIter (.ref S)) Q E s:=by
 have ty:=x.typeIs
 refine wpAny_pyIter_slot ty PySem.F.slot_set_iter (wpAny_call_entry PySem.F.slot_set_iter ty Gy ?_ (PySem.F.args_set_iter_1 _))
 unfold Builtin.«frozenset.__iter__»
 refine tO (m:=Builtin.Frozenset.slot0 "__iter__" _) (wpAny_of_eq (a:=S) rfl ?_)
 refine tO (m:=Builtin.Frozenset.sizeOf S) (tO (Yh x (tP ?_)))
 refine tO (eT x ?_)
 rw [if_neg (by decide)]
 refine tO (tP (tO (eU x ?_)))
 exact tO (wpAny_newObj_type (tP ⟨_,rfl,"set_iterator",_,⟨_,Heap.get?_push_size _ rfl,rfl⟩,Jd.lookup,q⟩))
theorem Mb {Q:Option (Value×Nat)→Shared→Prop}{slot:Nat} (x:Wk w s.heap S es ep tb) (hs:w.params.followText "set-order"=false→below tb.place slot=i)
  (q1:∀hi:i<es.size,∀slot',(w.params.followText "set-order"=false→below tb.place slot'=i+1)→Q (some (((u5 w S ep es)[i]'(by rw [UH];exact hi)).2,slot')) s) (q2:es.size≤i→Q none s):wpAny (model prog w) A (setNext S slot i ep) Q E s:=by
 have x0:=x
 obtain⟨o,e,_,d,f,R,pz,l,p⟩:=x
 unfold setNext
 refine tO (wpAny_setState_of e d f (tO (zO ?_)))
 cases hb:w.params.followText "set-order" with
 | true =>
  rw [if_pos rfl]
  dsimp only
  rw [if_neg (by simp)]
  refine tO ?_
  unfold setWalk
  refine tO (wpAny_setState_of e d f (tO (zO ?_)))
  rw [hb,if_pos rfl]
  refine tO (wpAny_askSetting (tP (tP ?_)))
  have eo:u5 w S ep es=pickOrder (w.params.setOrder S ep) es:=by unfold u5;rw [if_pos hb]
  show Q (Option.map (fun e=>(e.2,slot)) (pickOrder (w.params.setOrder S ep) es)[i]?) s
  rw [←eo]
  rcases Nat.lt_or_ge i es.size with hi|hi
  ·rw [Array.getElem?_eq_getElem (by rw [UH];exact hi)]
   exact q1 hi slot fun z=>by rw [hb] at z;cases z
  ·rw [Array.getElem?_eq_none (by rw [UH];exact hi)]
   exact q2 hi
 | false =>
  rw [if_neg (by decide)]
  dsimp only
  refine wpAny_ite_split (fun z=>absurd (show (!tb.plain&&decide (es.size > 1))=true from z) (by rw [p];simp)) fun _=>?_
  have eo:u5 w S ep es=es:=by unfold u5;rw [if_neg (by rw [hb];decide)]
  refine tO ?_
  refine wpAny_ite_split (M:=model prog w) (fun z=>absurd (show (!tb.led&&!es.isEmpty)=true from z) (by rw [l,hb];simp)) fun _=>tP ?_
  rw [hs hb]
  refine tP ?_
  rcases Nat.lt_or_ge i es.size with hi|hi
  ·have h1:=q1 hi (tb.place.getD i 0+1) fun _=>ad R (by rw [pz];exact hi)
   have h2:i<tb.place.size:=by rw [pz];exact hi
   rw [show (u5 w S ep es)[i]'(by rw [UH];exact hi)=es[i] by simp only [eo]] at h1
   rw [Array.getElem?_eq_getElem hi,Array.getElem?_eq_getElem h2]
   rw [show tb.place.getD i 0=tb.place[i] by simp [Array.getD,h2]] at h1
   exact h1
  ·rw [Array.getElem?_eq_none hi]
   exact q2 hi
theorem dH {Q:sY} (k:Wi w s.heap it S i es.size ep tb) (x:Wk w s.heap S es ep tb) (hi:i<es.size)
  (q:∀h',Wi w h' it S (i+1) es.size ep tb→Heap.SameBut it s.heap h'→Q (some ((u5 w S ep es)[i]'(by rw [UH];exact hi)).2) { s with heap:=h' }):wpAny (model prog w) A (pyNext (.ref it)) Q E s:=by
 have ty:=k.typeIs
 obtain⟨oi,slot,e,c,dt,hs⟩:=id k
 refine tO (wpAny_attempt (wpAny_callSpecial?_slot (name:=Str.ofString "__next__") ty Jd (wpAny_call_entry Jd ty Ul ?_ (Ub _))))
 unfold Builtin.«set_iterator.__next__»
 refine tO (m:=slotArgs "__next__" 0 _) (wpAny_of_eq (a:=(Value.ref it,[])) rfl (tO (wpAny_fieldsOf e dt ?_)))
 dsimp only
 refine tO (Yh x ?_)
 rw [if_neg (by simp)]
 refine tO (Mb (i:=i) x (by simpa using hs) (fun hi' slot' hs'=>?_) fun z=>absurd hi (by omega))
 show wpAny _ _ (setField (.ref it) 0 (rawInt (slot':Nat))>>=fun _=>setField (.ref it) 1 (rawInt ((i:Int)+1))>>=fun _=>ret _) _ _ s
 refine tO (wpAny_setField e dt (by simp) ?_)
 have g1:=Heap.get?_update_self (Obj.mapFields (·.setIfInBounds 0 (rawInt (slot':Nat)))) e (Obj.isFreed_of_fields (Obj.data_mapFields dt _))
 have d1:(Obj.mapFields (·.setIfInBounds 0 (rawInt (slot':Nat))) oi).data=.fields #[.int (slot':Nat) 0,.int (i:Nat) 0,.ref S,.int es.size 0,.int ep 0]:=by rw [Obj.data_mapFields dt];simp [rawInt]
 have c1:(Obj.mapFields (·.setIfInBounds 0 (rawInt (slot':Nat))) oi).cls=.type "set_iterator":=(Obj.cls_mapFields ..).trans c
 have sb1:=Heap.SameBut.update s.heap it (Obj.mapFields (·.setIfInBounds 0 (rawInt (slot':Nat))))
 generalize s.heap.update it (Obj.mapFields (·.setIfInBounds 0 (rawInt (slot':Nat))))=h1 at g1 sb1 ⊢
 generalize Obj.mapFields (·.setIfInBounds 0 (rawInt (slot':Nat))) oi=o1 at g1 d1 c1
 refine tO (wpAny_setField (s:={ s with heap:=h1 }) g1 d1 (by simp) ?_)
 have g2:=Heap.get?_update_self (Obj.mapFields (·.setIfInBounds 1 (rawInt ((i:Int)+1)))) g1 (Obj.isFreed_of_fields (Obj.data_mapFields d1 _))
 refine tP ⟨_,rfl,tP (q _ ⟨_,slot',g2,(Obj.cls_mapFields ..).trans c1,by rw [Obj.data_mapFields d1];simp [rawInt],hs'⟩ (sb1.trans (Heap.SameBut.update ..)))⟩
theorem eL {Q:sY} (hh:A.handled=none) (k:Wi w s.heap it S i es.size ep tb) (x:Wk w s.heap S es ep tb) (hi:es.size≤i)
  (q:∀h',Heap.ExtBut it s.heap h'→Q none { s with heap:=h' }):wpAny (model prog w) A (pyNext (.ref it)) Q E s:=by
 have ty:=k.typeIs
 obtain⟨oi,slot,e,c,dt,hs⟩:=id k
 refine tO (wpAny_attempt (wpAny_callSpecial?_slot (name:=Str.ofString "__next__") ty Jd (wpAny_call_entry Jd ty Ul ?_ (Ub _))))
 unfold Builtin.«set_iterator.__next__»
 refine tO (m:=slotArgs "__next__" 0 _) (wpAny_of_eq (a:=(Value.ref it,[])) rfl (tO (wpAny_fieldsOf e dt ?_)))
 dsimp only
 refine tO (Yh x ?_)
 rw [if_neg (by simp)]
 refine tO (Mb (i:=i) x (by simpa using hs) (fun hi' slot' hs'=>absurd hi (by omega)) fun z=>?_)
 show wpAny _ _ (setField (.ref it) 2 .none>>=_) _ _ s
 refine tO (wpAny_setField e dt (by simp) ?_)
 show wpAny _ _ (newExc (.type "StopIteration") []>>=_) _ _ _
 refine tO ?_
 simp only [newExc,newTuple]
 refine tO (wpAny_newObj_type (tO (m:=firstArgMember _ _) (wpAny_of_eq (a:=Value.none) (by simp only [firstArgMember];rfl) (wpAny_newObj_type ?_ (by size_fits)))) (by size_fits))
 simp only [raiseNew]
 refine tO (wpAny_handled ?_)
 rw [show A.in1.handled=none from hh]
 refine tO (tP (wpAny_throw ?_))
 exact tO (wpAny_isInstance (T:="StopIteration") (b:=true) ⟨_,Heap.get?_push_size _ rfl,rfl⟩ isSubtype_stop (tP (q _ (((Heap.SameBut.update ..).extBut.push _).push _))))
theorem bQ {Q:sV} (k:Wi w s.heap it S i es.size ep tb) (q:Q (.ref it) s):wpAny (model prog w) A (pyIter (.ref it)) Q E s:=by
 refine wpAny_pyIter_slot k.typeIs Ux (wpAny_call_entry Ux k.typeIs VU ?_ (Vv _))
 show wpAny _ _ (ret (.ref it)) _ _ s
 exact tP ⟨_,rfl,"set_iterator",_,k.typeIs,Jd.lookup,q⟩
theorem du {Q:sX} (hT:s.TypeIs (.ref S) "set") (h:Q false s):wpAny (model prog w) A (Builtin.List.listLengthHint (.ref S)) Q E s:=by
 unfold Builtin.List.listLengthHint
 refine tO (wpAny_specialOf hT PySem.F.slot_set_len.lookup ?_)
 generalize hid:("set.__len__":String)=id0
 wp_delta
 rw [show splitId id0=some ("set","__len__") from by subst hid;decide +kernel]
 subst hid
 refine tO (wpAny_isInstance (T:="set") (b:=true) hT (by rw [isSubtype_type];kernel_rfl) ?_)
 refine wpAny_ite_split (fun hab=>absurd hab (by decide)) (fun _=>?_)
 refine wpAny_ite_split (fun _=>?_) (fun hab=>absurd (by decide +kernel) hab)
 refine tO (wpAny_typeOf hT ?_)
 exact tP h
theorem lO:KdlSrc prog w "set" S S es.size (fun i v=>∃hi:i<(u5 w S ep es).size,v=(u5 w S ep es)[i].2) (fun h=>Wk w h S es ep tb) where
 type:=fun _ x=>x.typeIs
 there:=fun _ x=>by obtain⟨ob,e,_⟩:=x;exact⟨Heap.lt_size e,Heap.lt_size e⟩
 keep:=fun _ _ x k=>x.keep fun o e=>k S (.inl rfl) o e
 notList:=by decide
 notTuple:=by decide
 hint:=fun _ _ _ _ x q=>du x.typeIs q
 iter:=fun A s hh x=>by
  have hlt:S<s.heap.objs.size:=by obtain⟨ob,e,_⟩:=x;exact Heap.lt_size e
  have hR:vU tb.place:=by obtain⟨_,_,_,_,_,R,_⟩:=x;exact R
  refine⟨{ cls:=.type "set_iterator",data:=.fields #[.int (0:Nat) 0,.int (0:Nat) 0,.ref S,.int es.size 0,.int ep 0] },fun i h=>Wi w h s.heap.objs.size S i es.size ep tb∧Wk w h S es ep tb,fun E Q q=>dw x q,?_,⟨_,0,Heap.get?_push_size _ rfl,rfl,rfl,fun _=>ae hR⟩,x.keep fun o e=>Heap.get?_push_of_some _ e⟩
  refine⟨fun b hb=>by simp at hb;simp [hb],fun i h h' st k=>⟨?_,st.2.keep fun o e=>k S (by simp) o e⟩,fun i s' Q E hi st q=>?_,fun s' Q E st q=>?_,fun i s' Q E st q=>bQ st.1 q⟩
  ·obtain⟨ob,slot,e,r⟩:=st.1
   exact⟨ob,slot,k _ (by simp) ob e,r⟩
  ·refine dH st.1 st.2 hi fun h' k' sb=>q _ h' s'.toks ⟨by rw [UH];exact hi,rfl⟩ ⟨k',st.2.keep fun o e=>sb.extBut S o (Nat.ne_of_lt hlt) e⟩ fun b o hb e=>sb.extBut b o (fun z=>hb (by simp [z])) e
  ·refine eL hh st.1 st.2 (Nat.le_refl _) fun h' eb=>q h' s'.toks fun b o hb e=>eb b o (fun z=>hb (by simp [z])) e
theorem ls {Q:sV} (hh:A.handled=none) (x:Wk w s.heap S es ep tb) (hn:es.size≤sizeLine)
  (q:∀h' tk acc c,(∀b o,s.heap.get? b=some o→h'.get? b=some o)→h'.get? s.heap.objs.size=some { cls:=.type "list",dict:=none,data:=.seq acc c,slots:=#[] }→ItemsOf (fun i v=>∃hi:i<(u5 w S ep es).size,v=(u5 w S ep es)[i].2) acc es.size→Q (.ref s.heap.objs.size) { s with heap:=h',toks:=tk }) :
  wpAny (model prog w) A (runValue (.builtin "proto.collect" ⟨[.ref S],[]⟩)) Q E s:=by
 have hlt:S<s.heap.objs.size:=by obtain⟨ob,e,_⟩:=x;exact Heap.lt_size e
 have ne:s.heap.objs.size≠S:=Nat.ne_of_gt hlt
 refine wpAny_runValue (codeAny_builtin F.entry_proto_collect ?_)
 rw [Around.under_plainId F.plain_proto_collect _]
 refine tO (m:=newList []) (wpAny_newObj_type (tP ⟨plainId_quiet F.plain_list_iadd _,codeAny_builtin F.entry_list_iadd ?_⟩))
 rw [Around.under_plainId F.plain_list_iadd _]
 have x2:Wk w (s.heap.push { cls:=.type "list",data:=.seq ([]:tz).toArray }) S es ep tb:=x.keep fun o e=>Heap.get?_push_of_some _ e
 exact kdl_extend (s:={ s with heap:=s.heap.push { cls:=.type "list",data:=.seq ([]:tz).toArray } }) (R:=fun r s'=>match r with|.ok (.ret v)=>Q v s'|.ok _=>False|.error e=>E e s') (lO (es:=es) (ep:=ep) (tb:=tb)) hh x2 _ ne ne (.ref s.heap.objs.size) 0 (Heap.get?_push_size _ rfl)
  (fun h' tk acc c kp e items=>q h' tk acc c (fun b o hb=>kp b o (Nat.ne_of_lt (Heap.lt_size hb)) (Heap.get?_push_of_some _ hb)) e items) hn
theorem nL {Q:List Value→Shared→Prop} (hh:A.handled=none) (x:Wk w s.heap S es ep tb) (hn:es.size≤sizeLine)
  (q:∀h' tk,(∀b o,s.heap.get? b=some o→h'.get? b=some o)→s.heap.objs.size<h'.objs.size→Q ((u5 w S ep es).toList.map (·.2)) { s with heap:=h',toks:=tk }):wpAny (model prog w) A (collect (.ref S)) Q E s:=by
 refine tO (ls hh x hn fun h' tk acc c kp e items=>?_)
 show wpAny _ A (load s.heap.objs.size>>=_) _ _ _
 refine tO (wpAny_load e (tP ?_))
 have oz:=UH w S ep es
 generalize u5 w S ep es=os at items oz q
 have ea:acc.toList=os.toList.map (·.2):=by
  apply List.ext_getElem?
  intro k
  rw [List.getElem?_map,Array.getElem?_toList,Array.getElem?_toList]
  rcases Nat.lt_or_ge k os.size with hk|hk
  ·have h1:k<acc.size:=by rw [items.1,←oz];exact hk
   rw [getElem?_pos os k hk,getElem?_pos acc k h1]
   obtain⟨_,e2⟩:=items.2 k acc[k] (getElem?_pos acc k h1)
   rw [e2];rfl
  ·rw [getElem?_neg os k (by omega),getElem?_neg acc k (by rw [items.1];omega)];rfl
 rw [ea]
 exact q h' tk kp (Heap.lt_size e)
end
end STb
namespace L2
open PySem PySem.Spec PyProof.Rows TS STb
section
variable {X:Cx}
theorem K7 (hc:X.calm=true):ux X (.builtin "sorted") (fun xs H Q=>∃S us led d,xs=[.ref S]∧H S=some (.ext (Y0 X.prog X.w S us led))∧(∀x∈us,H x.2=some (.tup (x.1.map kV)))∧(∀x∈us,YT x.1∧sd x.1=d)∧d≠[]∧us.length≤1000000 ∧
  ∀l bs' ks',H l=none→jM H bs' ks'→ks'.Perm (us.map (·.1))→(ks'.Pairwise fun a b=>lx b a=false)→Q (.ref l) (upd H l (.lst (bs'.map V.ref)))):=by
 intro pins s σ H xs us Q I r h
 obtain⟨S,vs,led,d,rfl,e,ht,hi,hd,hn,q⟩:=h
 obtain⟨u,rfl,ru⟩:=Uk r
 cases ru
 obtain⟨⟨o,es,ep,t,h1,h2,h3,h4,h5,h6,h7,h8⟩,_⟩:=(show j3 X.prog X.w H s.heap S (.ext (Y0 X.prog X.w S vs led)) from I.hok S _ e)
 have sz:es.size=vs.length:=by rw [←Array.length_toList,h4,List.length_map]
 have x:Wk X.w s.heap S es ep t:=⟨o,h1,h2,h3,h5.fits,h5.ris,h5.size,h6.trans h7,h8 fun x hx=>(hi x hx).1⟩
 have pm0:((u5 X.w S ep es).toList.map (·.2)).Perm (vs.map fun x=>Value.ref x.2):=by
  have:=(Ms X.w S ep es).map (·.2)
  rw [h4,List.map_map] at this
  exact this
 generalize hos:(u5 X.w S ep es).toList.map (·.2)=os at pm0
 have hv:∀v∈os,∃x∈vs,v=.ref x.2∧H x.2=some (.tup (x.1.map kV)):=fun v hv=>by
  obtain⟨x,hx,rfl⟩:=List.mem_map.mp (pm0.mem_iff.mp hv)
  exact⟨x,hx,rfl,ht x hx⟩
 have hks:∀v∈os,sd (u4 H v)=d:=fun v hv'=>by
  obtain⟨x,hx,rfl,e1⟩:=hv v hv'
  rw [uY e1]
  exact (hi x hx).2
 have hline:(1000000:Nat)≤sizeLine:=by decide
 have hlen:os.length≤sizeLine:=by
  rw [pm0.length_eq,List.length_map];omega
 refine zM (kc:=u4 H) (fun R hR=>nL (A:=X.A.in1) (I.ok.hd hc) x (by rw [sz];omega) fun h' tk kp lt=>hos▸hR h' tk kp lt) (fun v hv'=>?_) hks hd hlen fun h' tk c p' out kp hp e' pm up=>?_
 ·obtain⟨x,hx,rfl,e1⟩:=hv v hv'
  rw [uY e1]
  exact Z6 I.hok e1
 ·obtain⟨rv,ka,pm2,up2⟩:=ZV (fun v h=>by obtain⟨x,hx,e1,e2⟩:=hv v h;exact⟨x.2,x.1,e1,e2⟩) rfl pm up
  have pk:(os.map (u4 H)).Perm (vs.map (·.1)):=by
   have:=pm0.map (u4 H)
   rw [List.map_map,List.map_congr_left (g:=fun x=>x.1) (f:=u4 H∘fun x=>Value.ref x.2) fun x hx=>uY (ht x hx)] at this
   exact this
  refine⟨.ref p',_,I.laid (t':=tk) (o:=.lst ((out.map KZ).map V.ref)) kp hp ⟨?_,out,c,rv,e'⟩,rfl,q p' _ _ (I.hok.fresh hp) ka (pm2.trans pk) up2⟩
  rw [List.length_map,List.length_map,pm.length_eq]
  exact hlen
end
end L2
namespace L2
open PySem PySem.Spec PyProof.Rows
theorem cV {P:tM}{w:World}{K:sZ}{tg:Expr} (it:Addr) (lo:Int) (n:Nat):yP P w K tg (YU lo n) [it] it (fun i h=>IsLongIter h it (lo+(i:Nat)) ((n:Int) - (i:Nat)) 1) true where
 mem:=by simp
 obj:=fun i h st b hb=>by
  have e:b=it:=by simpa using hb
  subst e
  exact⟨_,st,fun v z=>by
   have z':Data.fields _=Data.cell v:=z
   cases z'⟩
 keep:=fun i h h' st k=>k it (by simp) _ st
 item:=by
  intro X hP hw hK hc i pins s σ H E I hf st hg
  subst hP hw hK
  obtain⟨f0,f1,f2,f3,f4,f5⟩:=hf it (by simp)
  refine wpAny_pyNext_long_item st (by have:i<n:=hg;omega) fun h' st' sb=>?_
  obtain⟨tk,htk⟩:∃tk,tk=s.toks+1:=⟨_,rfl⟩
  rw [←htk]
  have I1:jo X pins σ H { s with heap:=h',toks:=tk }:=I.turned (fun b o hb e=>(sb.2 b hb).trans e) f0 f1 f3 f4 f5
  have st2:IsLongIter h' it (lo+((i+1:Nat):Int)) ((n:Int) - ((i+1:Nat):Int)) 1:=by
   rw [show lo+((i+1:Nat):Int)=lo+(i:Int)+1 by omega,show (n:Int) - ((i+1:Nat):Int)=(n:Int) - (i:Int) - 1 by omega];exact st'
  exact⟨_,rfl,gL (s:={ s with heap:=h',toks:=tk }) (n:="longrange_iterator") st' rfl rfl (by decide) ⟨.int (lo+i),H,I1,⟨s.toks,rfl⟩,⟨rfl,rfl⟩,st2,fun b hb=>(hf b hb).1⟩⟩
 done:=by
  intro X hP hw hK hc i pins s σ H E I hf st hg
  subst hP hw hK
  obtain⟨f0,f1,f2,f3,f4,f5⟩:=hf it (by simp)
  exact wpAny_pyNext_long_end (I.ok.hd (hc rfl)) st (by have:n≤i:=hg;omega) fun h' eb=>⟨rfl,I.turned (t':=s.toks) (fun b o hb e=>eb b o hb e) f0 f1 f3 f4 f5⟩
 self:=fun _ _ _ _ _ st h=>wpAny_pyIter_longiter st h
section
variable {X:Cx}{tg:Expr}
theorem cA (hc:X.calm=true) {pins:tq} {σ:St} {H:Hp} {s:Shared} {R:It→Hp→Prop} {E:sV} {lo hi:Int} {t u v:Tok} {tk:Nat} (I:jo X pins σ H s)
  (q:R (YU lo (hi - lo).toNat) H):wpAny (model X.prog X.w) X.A (pyIter (.ref s.heap.objs.size)) (l8 X pins σ tg R) E { s with heap:=s.heap.push { cls:=.type "range",data:=.fields #[.int lo t,.int hi u,.int 1 v] },toks:=tk }:=by
 have I1:jo X pins σ H { s with heap:=s.heap.push { cls:=.type "range",data:=.fields #[.int lo t,.int hi u,.int 1 v] },toks:=tk }:=I.kept fun b o e=>Heap.get?_push_of_some _ e
 have e2:(((hi - lo).toNat:Nat):Int) - ((0:Nat):Int)=Builtin.Range.rangeSize lo hi 1:=by rw [rangeSize_one];split<;>omega
 cases hs:Builtin.Range.small lo hi 1 with
 | true =>
  refine wpAny_pyIter_range (IsRange.new ..) hs ?_
  refine⟨(s.heap.push { cls:=.type "range",data:=.fields #[.int lo t,.int hi u,.int 1 v] }).objs.size,[(s.heap.push { cls:=.type "range",data:=.fields #[.int lo t,.int hi u,.int 1 v] }).objs.size],_,_,H,rfl,
   I1.kept (t':=tk) fun b o e=>Heap.get?_push_of_some _ e,Vf.of (Go _ lo (hi - lo).toNat),?_,fun b hb=>?_,q⟩
  ·have e1:lo+((0:Nat):Int)*1=lo:=by simp
   show IsRangeIter _ _ (lo+((0:Nat):Int)*1) ((((hi - lo).toNat:Nat):Int) - ((0:Nat):Int)) 1
   rw [e1,e2]
   exact Heap.get?_push_size _ rfl
  ·have e:b=(s.heap.push { cls:=.type "range",data:=.fields #[.int lo t,.int hi u,.int 1 v] }).objs.size:=by simpa using hb
   subst e
   exact I1.fpOk (Nat.le_refl _) (I1.hok.fresh (Nat.le_refl _))
 | false =>
  refine wpAny_pyIter_longrange (IsRange.new ..) hs ?_
  refine⟨(s.heap.push { cls:=.type "range",data:=.fields #[.int lo t,.int hi u,.int 1 v] }).objs.size,[(s.heap.push { cls:=.type "range",data:=.fields #[.int lo t,.int hi u,.int 1 v] }).objs.size],_,_,H,rfl,
   I1.kept (t':=tk) fun b o e=>Heap.get?_push_of_some _ e,⟨true,cV _ lo (hi - lo).toNat,fun _=>hc⟩,?_,fun b hb=>?_,q⟩
  ·have e1:lo+((0:Nat):Int)=lo:=by simp
   show IsLongIter _ _ (lo+((0:Nat):Int)) ((((hi - lo).toNat:Nat):Int) - ((0:Nat):Int)) 1
   rw [e1,e2]
   exact Heap.get?_push_size _ rfl
  ·have e:b=(s.heap.push { cls:=.type "range",data:=.fields #[.int lo t,.int hi u,.int 1 v] }).objs.size:=by simpa using hb
   subst e
   exact I1.fpOk (Nat.le_refl _) (I1.hok.fresh (Nat.le_refl _))
def qS (ta:TA):TI:=fun σ H R=>ta σ H fun vs H1=>∃i j:Int,vs=[.int i,.int j]∧R (YU i (j - i).toNat) H1
theorem kz (hc:X.calm=true) {a b:Expr} {ta:TA} {p pos:Pos} (hg:Gl X "range") (hm:X.mg "range"=none) (ha:PA X [a,b] ta) (hs:starEach [a,b] X.env=[(false,eval a X.env),(false,eval b X.env)]:=by rfl) (hs2:starEach [b] X.env=[(false,eval b X.env)]:=by rfl) :
  PI X tg (.Call (.Name "range" p) [a,b] [] pos) (qS ta):=by
 intro pins s σ H R I h
 refine Call_ (vE I hg hm boot_range (PyProof.Rows.callWith_type1 (jC (ha pos pins s σ H _ I h) fun us s1 ⟨vs,H1,I1,r1,q1⟩=>?_) (by rw [hs,hs2]) (by rw [hs2];rfl)))
 obtain⟨i,j,e,q⟩:=q1
 subst e
 cases r1 with
 | cons r rr =>
  cases rr with
  | cons r' rr =>
   cases rr
   obtain⟨t,rfl⟩:=r
   obtain⟨t',rfl⟩:=r'
   exact call_range_2 (cA hc I1 q)
end
end L2
namespace L2
open PySem PySem.Spec PyProof.Rows
section
variable {prog:tM}{w:World}{A:Around}{E:sV}{s:Shared}{z TI TO i1 i2 l1 l2:Addr}{xs ys:tI}{k:Nat}
theorem ZY {it t:Addr}{i:Nat}{items:tI}{x:Value}{Q:sV} (hit:s.heap.IsTupleIter it t i) (ht:s.heap.IsTuple t items) (hx:items[i]?=some x)
  (hQ:∀h',h'.IsTupleIter it t (i+1)→Heap.SameBut it s.heap h'→Q x { s with heap:=h' }):wpAny (model prog w) A (Builtin.SmallTypes.nextOf (.ref it)) Q E s:=by
 obtain⟨o,ho,hc,hd⟩:=id hit
 obtain⟨ol,hol,_,nl,hdl⟩:=ht
 unfold Builtin.SmallTypes.nextOf
 refine tO (wpAny_callSpecial?_slot (name:=Str.ofString "__next__") hit.typeIs F.slot_tuple_iterator_next (wpAny_call_entry F.slot_tuple_iterator_next hit.typeIs F.entry_tuple_iterator_next ?_ (F.args_tuple_iterator_next_1 _)))
 show wpAny _ _ (field (.ref it) 0>>=_) _ _ s
 refine tO (wpAny_field ho hd (x:=.ref t) rfl ?_)
 show wpAny _ _ (if (Value.ref t==Value.none)=true then _ else _) _ _ s
 rw [if_neg (show ¬((Value.ref t==Value.none)=true) from Bool.false_ne_true)]
 show wpAny _ _ (field (.ref it) 1>>=_) _ _ s
 refine tO (wpAny_field ho hd (x:=.int i 0) rfl ?_)
 show wpAny _ _ (seqItems? (.ref t)>>=_) _ _ s
 refine tO (wpAny_seqItems hol hdl ?_)
 simp only [Int.toNat_natCast,hx]
 refine tO (wpAny_setField ho hd (by simp) (tP ⟨x,rfl,tP (hQ _ ?_ (Heap.SameBut.update ..))⟩))
 exact⟨_,Heap.get?_update_self _ ho (Obj.isFreed_of_fields (Obj.data_mapFields hd _)),(Obj.cls_mapFields ..).trans hc,by rw [Obj.data_mapFields hd];simp [rawInt]⟩
theorem iS {it t:Addr}{i:Nat}{items:tI}{Q:sV} (hh:A.handled=none) (hit:s.heap.IsTupleIter it t i) (ht:s.heap.IsTuple t items) (hx:items[i]?=none)
  (hE:∀h' e,Heap.ExtBut it s.heap h'→(∃o,h'.get? e=some o∧o.cls=.type "StopIteration")→E (.ref e) { s with heap:=h' }):wpAny (model prog w) A (Builtin.SmallTypes.nextOf (.ref it)) Q E s:=by
 obtain⟨o,ho,hc,hd⟩:=id hit
 obtain⟨ol,hol,_,nl,hdl⟩:=ht
 unfold Builtin.SmallTypes.nextOf
 refine tO (wpAny_callSpecial?_slot (name:=Str.ofString "__next__") hit.typeIs F.slot_tuple_iterator_next (wpAny_call_entry F.slot_tuple_iterator_next hit.typeIs F.entry_tuple_iterator_next ?_ (F.args_tuple_iterator_next_1 _)))
 show wpAny _ _ (field (.ref it) 0>>=_) _ _ s
 refine tO (wpAny_field ho hd (x:=.ref t) rfl ?_)
 show wpAny _ _ (if (Value.ref t==Value.none)=true then _ else _) _ _ s
 rw [if_neg (show ¬((Value.ref t==Value.none)=true) from Bool.false_ne_true)]
 show wpAny _ _ (field (.ref it) 1>>=_) _ _ s
 refine tO (wpAny_field ho hd (x:=.int i 0) rfl ?_)
 show wpAny _ _ (seqItems? (.ref t)>>=_) _ _ s
 refine tO (wpAny_seqItems hol hdl ?_)
 simp only [Int.toNat_natCast,hx]
 refine tO (wpAny_rule (tO (wpAny_setField ho hd (by simp) ?_)))
 show wpAny _ _ (newExc (.type "StopIteration") []>>=_) _ _ _
 refine tO ?_
 simp only [newExc,newTuple]
 refine tO (wpAny_newObj_type ?_ (by size_fits))
 refine tO (m:=firstArgMember _ _) (wpAny_of_eq (a:=Value.none) (by first|rfl|(simp only [firstArgMember];rfl)) ?_)
 refine wpAny_newObj_type ?_ (by size_fits)
 simp only [raiseNew]
 refine tO (wpAny_handled ?_)
 first|rw [show A.in1.handled=none from hh]|rw [hh]
 refine tO (tP (wpAny_throw ?_))
 exact hE _ _ (((Heap.SameBut.update ..).extBut.push _).push _) ⟨_,Heap.get?_push_size _ rfl,rfl⟩
theorem GX {M:Model}{vs:tI}{j:Nat}{x:Value}{Q:sW} (h:s.heap.get? TO=some { cls:=.type "tuple",data:=.seq vs }) (hv:vs.size=2)
  (k:∀h',h'.get? TO=some { cls:=.type "tuple",data:=.seq (vs.setIfInBounds j x) }→Heap.SameBut TO s.heap h'→Q () { s with heap:=h' }):wpAny M A (updateSeq TO fun v=>v.setIfInBounds j x) Q E s:=by
 refine wpAny_updateSeq h rfl (k _ ?_ (Heap.SameBut.update ..)) (by rw [hv];decide) (by rw [Array.size_setIfInBounds,hv];decide)
 have e:=Heap.get?_update_self (Obj.mapSeq fun v=>v.setIfInBounds j x) h rfl
 rw [e]
 simp [Obj.mapSeq]
theorem Tup.ext {h h':Heap}{b l:Addr}{xs:tI} (x:h.IsTuple l xs) (e:Heap.ExtBut b h h') (n:l≠b):h'.IsTuple l xs:=by
 obtain⟨o,ho,r⟩:=x
 exact⟨o,e _ _ n ho,r⟩
theorem cY (D:ZipApart z TI TO i1 i2 l1 l2) (hz:IsZip s.heap z TI TO .none) (hT:IsPair s.heap TI (.ref i1) (.ref i2)) {a b:Value} (hO:IsPair s.heap TO a b) (h1:s.heap.IsTupleIter i1 l1 k) (h2:s.heap.IsTupleIter i2 l2 k)
  (hl1:s.heap.IsTuple l1 xs) (hl2:s.heap.IsTuple l2 ys) {x y:Value} (hx:xs[k]?=some x) (hy:ys[k]?=some y) {Q:sY}
  (hQ:∀h',IsZip h' z TI TO (rawInt s.heap.objs.size)→IsPair h' TO x y→h'.IsTupleIter i1 l1 (k+1)→h'.IsTupleIter i2 l2 (k+1)→IsPair h' s.heap.objs.size x y→(∀c o,c≠z→c≠TO→c≠i1→c≠i2→s.heap.get? c=some o→h'.get? c=some o)→Q (some (.ref s.heap.objs.size)) { s with heap:=h' }) :
  wpAny (model prog w) A (pyNext (.ref z)) Q E s:=by
 have ht:s.TypeIs (.ref z) "zip":=⟨_,hz,rfl⟩
 unfold pyNext
 refine tO (wpAny_attempt (wpAny_callSpecial?_slot (name:=Str.ofString "__next__") ht F.slot_zip_next (wpAny_call_entry F.slot_zip_next ht F.entry_zip_next ?_ (F.args_zip_next_1 _))))
 unfold Builtin.«zip.__next__»
 refine tO (wpAny_of_eq (a:=(.ref z,[])) rfl ?_)
 refine tO (wpAny_field (i:=2) hz rfl (x:=.bool false) rfl ?_)
 refine tO (wpAny_field (i:=3) hz rfl (x:=.ref TI) rfl (tO (wpAny_seqItems hT rfl ?_)))
 refine tO ?_
 unfold Builtin.SmallTypes.ownedTupleIsFree
 refine tO (wpAny_field (i:=0) hz rfl (x:=.none) rfl (tP ?_))
 simp only [if_true]
 refine tO (wpAny_rule (tO (wpAny_field (i:=4) hz rfl (x:=.ref TO) rfl ?_)))
 refine tO (wpAny_setField_rec hz (by simp) fun g0 z0 k0=>?_)
 simp only [List.zipIdx_cons,List.zipIdx_nil,List.forIn_cons,List.forIn_nil]
 refine tO (tO (tO (wpAny_onRaise ?_)))
 show wpAny _ _ (Builtin.SmallTypes.nextOf (.ref i1)>>=_) _ _ _
 refine tO (ZY (s:={ s with heap:=g0 }) (h1.extBut k0.extBut D.i1z) (Tup.ext hl1 k0.extBut D.l1z) hx fun g1 d1 k1=>tP ?_)
 dsimp only
 have o1:IsPair g1 TO a b:=(k1.2 TO D.TOi1).trans ((k0.2 TO D.TOz).trans hO)
 refine tO (wpAny_seqItems o1 rfl ?_)
 dsimp only
 refine tO (GX (s:={ s with heap:=g1 }) o1 rfl fun g2 o2 k2=>tO (wpAny_letGo (tP ?_)))
 dsimp only
 refine tO (tO (wpAny_onRaise ?_))
 show wpAny _ _ (Builtin.SmallTypes.nextOf (.ref i2)>>=_) _ _ _
 have e2:g2.IsTupleIter i2 l2 k:=((h2.extBut k0.extBut D.i2z).extBut k1.extBut (Ne.symm D.i12)).extBut k2.extBut (Ne.symm D.TOi2)
 have f2:g2.IsTuple l2 ys:=Tup.ext (Tup.ext (Tup.ext hl2 k0.extBut D.l2z) k1.extBut D.l2i1) k2.extBut D.l2TO
 refine tO (ZY (s:={ s with heap:=g2 }) e2 f2 hy fun g3 d2 k3=>tP ?_)
 dsimp only
 have o3:=(k3.2 TO D.TOi2).trans o2
 refine tO (wpAny_seqItems o3 rfl ?_)
 dsimp only
 refine tO (GX (s:={ s with heap:=g3 }) o3 rfl fun g4 o4 k4=>tO (wpAny_letGo (tP ?_)))
 dsimp only
 refine tP ?_
 dsimp only
 refine tO (wpAny_seqItems o4 rfl ?_)
 dsimp only
 have o4':IsPair g4 TO x y:=o4
 have hsz:g4.objs.size=s.heap.objs.size:=by rw [k4.1,k3.1,k2.1,k1.1,k0.1]
 refine tO (wpAny_newTuple (s:={ s with heap:=g4 }) ?_ (by show 2≤sizeLine;decide))
 have z4:g4.get? z=some { cls:=.type "zip",data:=.fields #[.ellipsis,.bool false,.bool false,.ref TI,.ref TO] } :=
  (k4.2 z (Ne.symm D.TOz)).trans ((k3.2 z (Ne.symm D.i2z)).trans ((k2.2 z (Ne.symm D.TOz)).trans ((k1.2 z (Ne.symm D.i1z)).trans z0)))
 have psh:∀ob c u,g4.get? c=some u→(g4.push ob).get? c=some u:=fun ob c u e=>Heap.get?_push_of_some _ e
 have nT:g4.objs.size≠z:=Nat.ne_of_gt (Heap.lt_size z4)
 have tN:(g4.push { cls:=.type "tuple",data:=.seq #[x,y] }).get? g4.objs.size=some { cls:=.type "tuple",data:=.seq #[x,y] }:=Heap.get?_push_size g4 rfl
 unfold Builtin.SmallTypes.ownedTupleHandOut
 refine tO (tO (wpAny_setField_rec (psh _ _ _ z4) (by simp) fun g7 z7 k7=>wpAny_setField_rec z7 (by simp) fun g8 z8 k8=>?_))
 refine tP ⟨_,rfl,tP ?_⟩
 rw [hsz] at z8
 rw [hsz] at *
 have up:∀c o,c≠z→c≠TO→c≠i1→c≠i2→s.heap.get? c=some o→g4.get? c=some o:=fun c o n1 n2 n3 n4 e =>
  (k4.2 c n2).trans ((k3.2 c n4).trans ((k2.2 c n2).trans ((k1.2 c n3).trans ((k0.2 c n1).trans e))))
 have to8:∀c o,c≠z→g4.get? c=some o→g8.get? c=some o:=fun c o n e=>(k8.2 c n).trans ((k7.2 c n).trans (psh _ c o e))
 refine hQ g8 z8 (to8 _ _ D.TOz o4') ?_ ?_ ?_ fun c o n1 n2 n3 n4 e=>to8 c o n1 (up c o n1 n2 n3 n4 e)
 ·exact (((d1.extBut k2.extBut (Ne.symm D.TOi1)).extBut k3.extBut D.i12).extBut k4.extBut (Ne.symm D.TOi1)).at fun o e=>to8 _ _ D.i1z e
 ·exact (d2.extBut k4.extBut (Ne.symm D.TOi2)).at fun o e=>to8 _ _ D.i2z e
 ·exact (k8.2 _ nT).trans ((k7.2 _ nT).trans tN)
theorem eV (hh:A.handled=none) (D:ZipApart z TI TO i1 i2 l1 l2) (hz:IsZip s.heap z TI TO .none) (hT:IsPair s.heap TI (.ref i1) (.ref i2)) {a b:Value} (hO:IsPair s.heap TO a b) (h1:s.heap.IsTupleIter i1 l1 k) (h2:s.heap.IsTupleIter i2 l2 k)
  (hl1:s.heap.IsTuple l1 xs) (hl2:s.heap.IsTuple l2 ys) {x:Value} (hx:xs[k]?=some x) (hy:ys[k]?=none) {Q:sY}
  (hQ:∀h',(∀c o,c≠z→c≠TO→c≠i1→c≠i2→s.heap.get? c=some o→h'.get? c=some o)→Q none { s with heap:=h' }):wpAny (model prog w) A (pyNext (.ref z)) Q E s:=by
 have ht:s.TypeIs (.ref z) "zip":=⟨_,hz,rfl⟩
 unfold pyNext
 refine tO (wpAny_attempt (wpAny_callSpecial?_slot (name:=Str.ofString "__next__") ht F.slot_zip_next (wpAny_call_entry F.slot_zip_next ht F.entry_zip_next ?_ (F.args_zip_next_1 _))))
 unfold Builtin.«zip.__next__»
 refine tO (wpAny_of_eq (a:=(.ref z,[])) rfl ?_)
 refine tO (wpAny_field (i:=2) hz rfl (x:=.bool false) rfl ?_)
 refine tO (wpAny_field (i:=3) hz rfl (x:=.ref TI) rfl (tO (wpAny_seqItems hT rfl ?_)))
 refine tO ?_
 unfold Builtin.SmallTypes.ownedTupleIsFree
 refine tO (wpAny_field (i:=0) hz rfl (x:=.none) rfl (tP ?_))
 simp only [if_true]
 refine tO (wpAny_rule (tO (wpAny_field (i:=4) hz rfl (x:=.ref TO) rfl ?_)))
 refine tO (wpAny_setField_rec hz (by simp) fun g0 z0 k0=>?_)
 simp only [List.zipIdx_cons,List.zipIdx_nil,List.forIn_cons,List.forIn_nil]
 refine tO (tO (tO (wpAny_onRaise ?_)))
 show wpAny _ _ (Builtin.SmallTypes.nextOf (.ref i1)>>=_) _ _ _
 refine tO (ZY (s:={ s with heap:=g0 }) (h1.extBut k0.extBut D.i1z) (Tup.ext hl1 k0.extBut D.l1z) hx fun g1 d1 k1=>tP ?_)
 dsimp only
 have o1:IsPair g1 TO a b:=(k1.2 TO D.TOi1).trans ((k0.2 TO D.TOz).trans hO)
 refine tO (wpAny_seqItems o1 rfl ?_)
 dsimp only
 refine tO (GX (s:={ s with heap:=g1 }) o1 rfl fun g2 o2 k2=>tO (wpAny_letGo (tP ?_)))
 dsimp only
 refine tO (tO (wpAny_onRaise ?_))
 show wpAny _ _ (Builtin.SmallTypes.nextOf (.ref i2)>>=_) _ _ _
 have e2:g2.IsTupleIter i2 l2 k:=((h2.extBut k0.extBut D.i2z).extBut k1.extBut (Ne.symm D.i12)).extBut k2.extBut (Ne.symm D.TOi2)
 have f2:g2.IsTuple l2 ys:=Tup.ext (Tup.ext (Tup.ext hl2 k0.extBut D.l2z) k1.extBut D.l2i1) k2.extBut D.l2TO
 refine tO (iS (s:={ s with heap:=g2 }) hh e2 f2 hy fun g3 e k3 he=>?_)
 have z3:g3.get? z=some { cls:=.type "zip",data:=.fields #[.ellipsis,.bool false,.bool false,.ref TI,.ref TO] }:=k3 z _ (Ne.symm D.i2z) ((k2.2 z (Ne.symm D.TOz)).trans ((k1.2 z (Ne.symm D.i1z)).trans z0))
 obtain⟨oe,he1,he2⟩:=he
 refine wpAny_setField_rec (s:={ s with heap:=g3 }) z3 (by simp) fun g4 z4 k4=>?_
 have nez:e≠z:=fun q=>by rw [q,z3] at he1;cases he1;injection he2 with he3;exact absurd he3 (by decide)
 exact z9 (s:={ s with heap:=g4 }) ⟨oe,(k4.2 e nez).trans he1,he2⟩ (hQ g4 fun c o n1 n2 n3 n4 q=>(k4.2 c n1).trans (k3 c o n4 ((k2.2 c n2).trans ((k1.2 c n3).trans ((k0.2 c n1).trans q)))))
theorem bf {Q:sV} (hl1:s.heap.IsTuple l1 xs) (hl2:s.heap.IsTuple l2 ys)
  (h:∀h',IsZip h' (s.heap.objs.size+4) (s.heap.objs.size+2) (s.heap.objs.size+3) .none→IsPair h' (s.heap.objs.size+2) (.ref s.heap.objs.size) (.ref (s.heap.objs.size+1))→IsPair h' (s.heap.objs.size+3) .none .none →
   h'.IsTupleIter s.heap.objs.size l1 0→h'.IsTupleIter (s.heap.objs.size+1) l2 0→(∀c o,s.heap.get? c=some o→h'.get? c=some o)→Q (.ref (s.heap.objs.size+4)) { s with heap:=h' }) :
  wpAny (model prog w) A (call (.type "zip") [.ref l1,.ref l2]) Q E s:=by
 refine callType_newIn F.called_zip (by decide) (F.typeCall_zip_2 _ _) (F.newCall_zip_2 _ _) (fun obj=>F.args_object_init_3 obj _ _) F.entry_zip_new (MeetsIn.of_wp (S:=fun A R s=>wpAny (model prog w) A.in1 (Builtin.«zip.__new__» ⟨[.type "zip",.ref l1,.ref l2],[]⟩) (fun fin s'=>∃v,fin=.done (.ret v)∧R (.ok (.ret v)) s') (fun e s'=>R (.error e) s') s) fun _ _ _ h=>h) ?_
 unfold Builtin.«zip.__new__»
 refine tO (wpAny_of_eq (a:=(.type "zip",[.ref l1,.ref l2])) (by first|rfl|kernel_rfl) ?_)
 dsimp only
 rw [if_neg (by decide)]
 unfold Builtin.SmallTypes.iterAll
 simp only [List.forIn_cons,List.forIn_nil]
 refine tO (tO (tO (tO (wpAny_holding (wpAny_pyIter_tuple hl1 (tP ?_))))))
 dsimp only
 refine tO (tO (wpAny_holding (wpAny_pyIter_tuple (s:={ s with heap:=_ }) (hl2.push _) (tP ?_))))
 dsimp only
 refine tP (tP ?_)
 refine tO (wpAny_newTuple (s:={ s with heap:=_ }) ?_ (by show 2≤sizeLine;decide))
 refine tO (wpAny_newTuple (s:={ s with heap:=_ }) ?_ (by show 2≤sizeLine;decide))
 unfold Builtin.SmallTypes.newRecord Builtin.SmallTypes.ownedTupleFields
 dsimp only
 refine tO ?_
 refine wpAny_newObj_type ?_ ?_
 rotate_left
 ·first|decide|size_fits
 refine tP ⟨_,rfl,?_⟩
 simp only [Heap.size_push]
 have g:∀{hh:Heap} {ob ob2:Obj} {c:Addr},hh.get? c=some ob→(hh.push ob2).get? c=some ob:=fun e=>Heap.get?_push_of_some _ e
 have zz:∀(hh:Heap) (ob:Obj) (n:Nat),hh.objs.size=n→ob.isFreed=false→(hh.push ob).get? n=some ob:=fun hh ob n e f=>e▸Heap.get?_push_size hh f
 refine⟨⟨_,zz _ _ _ (by simp only [Heap.size_push]) rfl,rfl⟩,h _ (zz _ _ _ (by simp only [Heap.size_push]) rfl) (g (g (zz _ _ _ (by simp only [Heap.size_push]) rfl))) (g (zz _ _ _ (by simp only [Heap.size_push]) rfl)) ⟨_,g (g (g (g (zz _ _ _ rfl rfl)))),rfl,rfl⟩ ⟨_,g (g (g (zz _ _ _ (by simp only [Heap.size_push]) rfl))),rfl,rfl⟩ fun c o e=>g (g (g (g (g e))))⟩
end
def KO (K:sZ) (a b:Addr):It :=
 ⟨fun i H=>∃xs ys x y,jw K H a xs∧jw K H b ys∧xs[i]?=some x∧ys[i]?=some y,
  fun i H v H'=>∃p x y,H p=none∧v=.ref p∧H'=upd H p (.tup [x,y])∧∀xs ys,jw K H a xs→jw K H b ys→xs[i]?=some x∧ys[i]?=some y,
  fun i H=>∃xs ys x,jw K H a xs∧jw K H b ys∧xs[i]?=some x∧ys.length≤i⟩
theorem cW {P:tM}{w:World}{K:sZ}{elts:tJ}{kk:Nat}{tpos:Pos} (z TI TO i1 i2 l1 l2:Addr) (D:ZipApart z TI TO i1 i2 l1 l2) :
  yP P w K (.Tuple elts kk tpos) (KO K l1 l2) [z,TI,TO,i1,i2] z (fun i h=>IsZip h z TI TO .none∧IsPair h TI (.ref i1) (.ref i2)∧(∃a b,IsPair h TO a b)∧h.IsTupleIter i1 l1 i∧h.IsTupleIter i2 l2 i) true where
 mem:=by simp
 obj:=fun i h st b hb=>by
  obtain⟨q1,q2,⟨_,_,q3⟩,⟨o4,q4,_,d4⟩,⟨o5,q5,_,d5⟩⟩:=st
  simp only [List.mem_cons,List.not_mem_nil,or_false] at hb
  rcases hb with rfl|rfl|rfl|rfl|rfl
  ·exact⟨_,q1,fun v e=>by cases e⟩
  ·exact⟨_,q2,fun v e=>by cases e⟩
  ·exact⟨_,q3,fun v e=>by cases e⟩
  ·exact⟨_,q4,fun v e=>by rw [d4] at e;cases e⟩
  ·exact⟨_,q5,fun v e=>by rw [d5] at e;cases e⟩
 keep:=fun i h h' st k=>by
  obtain⟨q1,q2,⟨a,b,q3⟩,q4,q5⟩:=st
  exact⟨k z (by simp) _ q1,k TI (by simp) _ q2,⟨a,b,k TO (by simp) _ q3⟩,q4.at fun o e=>k i1 (by simp) o e,q5.at fun o e=>k i2 (by simp) o e⟩
 item:=by
  intro X hP hw hK hc i pins s σ H E I hf st hg
  subst hP hw hK
  obtain⟨xs,ys,x,y,hx,hy,ex,ey⟩:=hg
  obtain⟨its,rv,p,_⟩:=I.tuple hx
  obtain⟨jts,rw',p',_⟩:=I.tuple hy
  obtain⟨u,hu,ru⟩:=rv.get ex
  obtain⟨v,hv,rv'⟩:=rw'.get ey
  obtain⟨q1,q2,⟨a,b,q3⟩,q4,q5⟩:=st
  refine cY D q1 q2 q3 q4 q5 (show s.heap.IsTuple l1 its.toArray from p) (show s.heap.IsTuple l2 jts.toArray from p') (x:=u) (y:=v) (by simpa using hu) (by simpa using hv) fun h1 z1 z2 z3 z4 z5 z7=>?_
  refine⟨_,rfl,wpAny_letOwnedTupleGo_zip (s:={ s with heap:=h1 }) z1 fun h2 z1' sb=>?_⟩
  have keep:∀c o,c ∉ [z,TO,i1,i2]→s.heap.get? c=some o→h2.get? c=some o:=fun c o hc e=>by
   simp only [List.mem_cons,List.not_mem_nil,or_false,not_or] at hc
   exact (sb.2 c hc.1).trans (z7 c o hc.1 hc.2.1 hc.2.2.1 hc.2.2.2 e)
  have hlt:∀{c o},s.heap.get? c=some o→c≠s.heap.objs.size:=fun e=>Nat.ne_of_lt (Heap.lt_size e)
  have g4:=q4
  have g5:=q5
  obtain⟨o4,e4,_,_⟩:=g4
  obtain⟨o5,e5,_,_⟩:=g5
  have I1:jo X pins σ H { s with heap:=h2 }:=I.turnedL (t':=s.toks) (fun c hc=>hf c (by
   simp only [List.mem_cons,List.not_mem_nil,or_false] at hc ⊢
   rcases hc with h|h|h|h<;>simp [h])) keep
  have hp:H s.heap.objs.size=none:=I.fresh
  have tp:h2.get? s.heap.objs.size=some { cls:=.type "tuple",data:=.seq #[u,v] }:=(sb.2 _ (Ne.symm (hlt q1))).trans z5
  have I2:jo X pins σ (upd H s.heap.objs.size (.tup [x,y])) { s with heap:=h2 }:=I1.track hp (Heap.get?_none_of_le I.sz) (Nat.ne_of_gt I.lt)
   (fun n c e zz=>by obtain⟨v0,o0,h0,_⟩:=I.cell n c e;exact hlt h0 zz) (fun q hq zz=>hlt (I.pin q hq).1 zz) ⟨by show 2≤sizeLine;decide,[u,v],.cons ru (.cons rv' .nil),_,tp,rfl,_,rfl⟩
  refine⟨.ref s.heap.objs.size,_,I2,rfl,⟨_,x,y,hp,rfl,rfl,fun xs' ys' hx' hy'=>?_⟩,⟨z1',?_,⟨u,v,(sb.2 _ D.TOz).trans z2⟩,z3.extBut sb.extBut D.i1z,z4.extBut sb.extBut D.i2z⟩,fun c hc=>?_⟩
  ·rw [I.tuple_inj hx' hx,I.tuple_inj hy' hy];exact⟨ex,ey⟩
  ·exact (sb.2 _ D.TIz).trans (z7 _ _ D.TIz D.TITO D.TIi1 D.TIi2 q2)
  ·have hcn:=(hf c hc).1
   rw [ji ?_]
   ·exact hcn
   ·simp only [List.mem_cons,List.not_mem_nil,or_false] at hc
    rcases hc with rfl|rfl|rfl|rfl|rfl
    ·exact hlt q1
    ·exact hlt q2
    ·exact hlt q3
    ·exact hlt e4
    ·exact hlt e5
 done:=by
  intro X hP hw hK hc i pins s σ H E I hf st hg
  subst hP hw hK
  obtain⟨xs,ys,x,hx,hy,ex,hend⟩:=hg
  obtain⟨its,rv,p,_⟩:=I.tuple hx
  obtain⟨jts,rw',p',_⟩:=I.tuple hy
  obtain⟨u,hu,ru⟩:=rv.get ex
  obtain⟨q1,q2,⟨a,b,q3⟩,q4,q5⟩:=st
  have hl':=rw'.length
  refine eV (I.ok.hd (hc rfl)) D q1 q2 q3 q4 q5 (show s.heap.IsTuple l1 its.toArray from p) (show s.heap.IsTuple l2 jts.toArray from p') (x:=u) (by simpa using hu) (by simp;omega) fun h1 k=>⟨rfl,?_⟩
  refine I.turnedL (t':=s.toks) (ch:=[z,TO,i1,i2]) (fun c hc=>hf c ?_) fun c o hc e=>?_
  ·simp only [List.mem_cons,List.not_mem_nil,or_false] at hc ⊢
   rcases hc with h|h|h|h<;>simp [h]
  ·simp only [List.mem_cons,List.not_mem_nil,or_false,not_or] at hc
   exact k c o hc.1 hc.2.1 hc.2.2.1 hc.2.2.2 e
 self:=fun _ _ _ _ _ st h=>wpAny_pyIter_zip st.1 h
section
variable {X:Cx}{elts:tJ}{kk:Nat}{tpos:Pos}
def qT (K:sZ) (ta:TA):TI:=fun σ H R=>ta σ H fun vs H1=>∃a b,vs=[.ref a,.ref b]∧(∃xs,jw K H1 a xs)∧(∃ys,jw K H1 b ys)∧R (KO K a b) H1
theorem i6 {a b:Expr}{ta:TA}{p pos:Pos} (hcm:X.calm=true) (hg:Gl X "zip") (hm:X.mg "zip"=none) (ha:PA X [a,b] ta) (hs:starEach [a,b] X.env=[(false,eval a X.env),(false,eval b X.env)]:=by rfl) (hs2:starEach [b] X.env=[(false,eval b X.env)]:=by rfl) :
  PI X (.Tuple elts kk tpos) (.Call (.Name "zip" p) [a,b] [] pos) (qT X.K ta):=by
 intro pins s σ H R I h
 refine Call_ (vE I hg hm boot_zip (PyProof.Rows.callWith_type1 (jC (ha pos pins s σ H _ I h) fun us s1 ⟨vs,H1,I1,r1,q1⟩=>?_) (by rw [hs,hs2]) (by rw [hs2];rfl)))
 obtain⟨l1,l2,e,⟨xs,hx⟩,⟨ys,hy⟩,q⟩:=q1
 subst e
 obtain⟨u,v,rfl,ru,rv⟩:=Ky r1
 cases ru
 cases rv
 obtain⟨its,_,p1,_⟩:=I1.tuple hx
 obtain⟨jts,_,p2,_⟩:=I1.tuple hy
 have t1:s1.heap.IsTuple l1 its.toArray:=p1
 have t2:s1.heap.IsTuple l2 jts.toArray:=p2
 have a1:l1<s1.heap.objs.size:=by obtain⟨_,e,_⟩:=t1;exact Heap.lt_size e
 have a2:l2<s1.heap.objs.size:=by obtain⟨_,e,_⟩:=t2;exact Heap.lt_size e
 refine bf t1 t2 fun h' z1 z2 z3 z4 z5 k=>wpAny_pyIter_zip (s:={ s1 with heap:=h' }) z1 ?_
 have I2:jo X pins σ H1 { s1 with heap:=h' }:=I1.kept (t':=s1.toks) k
 refine⟨s1.heap.objs.size+4,[s1.heap.objs.size+4,s1.heap.objs.size+2,s1.heap.objs.size+3,s1.heap.objs.size,s1.heap.objs.size+1],_,_,H1,rfl,I2,⟨true,cW _ _ _ _ _ l1 l2 (zipApart_new a1 a2),fun _=>hcm⟩,⟨z1,z2,⟨_,_,z3⟩,z4,z5⟩,fun c hc=>?_,q⟩
 have le:s1.heap.objs.size≤c:=by
  simp only [List.mem_cons,List.not_mem_nil,or_false] at hc
  rcases hc with rfl|rfl|rfl|rfl|rfl<;>omega
 exact I1.fpOk le (I1.hok.fresh le)
end
theorem dh {K:sZ}{a b:Addr}{xs ys:List V}{g:TG}{tb:TS}{D:uP}{σ:St}{H:Hp} (Pv:Nat→St→Hp→Prop) (hlen:ys.length<xs.length) (h0:Pv 0 σ H) (hl:∀i σ H,i≤ys.length→Pv i σ H→jw K H a xs∧jw K H b ys)
  (hs:∀i x y p σ H,xs[i]?=some x→ys[i]?=some y→H p=none→Pv i σ H→g (.ref p) σ (upd H p (.tup [x,y])) fun σ2 H2=>tb { D with nx:=Pv (i+1),ct:=Pv (i+1),bk:=D.nx } σ2 H2) (hd:∀σ H,Pv ys.length σ H→D.nx σ H) :
  ∃W:Nat→Nat→St→Hp→Prop,(∃m,W 0 m σ H)∧∀i m σ H,W i m σ H →
   ((KO K a b).stop i H∧D.nx σ H)∨((KO K a b).go i H∧∃N:St→Hp→Prop,(∀σ' H',N σ' H'→∃m',m'<m∧W (i+1) m' σ' H')∧∀x H',(KO K a b).yld i H x H'→g x σ H' fun σ2 H2=>tb { D with nx:=N,ct:=N,bk:=D.nx } σ2 H2):=by
 refine⟨fun i m σ H=>m=ys.length - i∧i≤ys.length∧Pv i σ H,⟨ys.length,by simp,Nat.zero_le _,h0⟩,?_⟩
 rintro i m σ H ⟨rfl,hi,p⟩
 obtain⟨qa,qb⟩:=hl i σ H hi p
 have h1:i<xs.length:=by omega
 by_cases hlt:i<ys.length
 ·refine .inr ⟨⟨xs,ys,xs[i],ys[i],qa,qb,by simp [h1],by simp [hlt]⟩,Pv (i+1),fun σ' H' p'=>⟨ys.length - (i+1),by omega,rfl,hlt,p'⟩,fun v H' yy=>?_⟩
  obtain⟨t,x,y,ht,rfl,rfl,hxy⟩:=yy
  obtain⟨ex,ey⟩:=hxy xs ys qa qb
  exact hs i x y t σ H ex ey ht p
 ·obtain rfl:i=ys.length:=by omega
  exact .inl ⟨⟨xs,ys,xs[ys.length],qa,qb,by simp [h1],Nat.le_refl _⟩,hd σ H p⟩
section
variable {prog:tM}{w:World}{A:Around}{E:sV}{s:Shared}
theorem a6 (a b c d:Value):argsOk "min" ⟨[a,b,c,d],[]⟩:=by unfold argsOk;kernel_rfl
theorem dD {a b c d:Value}{Q:sV}
  (h:wpAny (model prog w) A.in1 (pyIter (.ref s.heap.objs.size)) (fun it s2=>∃I fp wr n P St bt,it=.ref I∧Walks prog w A.in1 I fp wr n P St∧St 0 s2.heap∧(∀b∈fp,b<s2.heap.objs.size)∧0<n∧CmpOf prog w A.in1 .Lt P bt ∧
   ∀v h' tk,P (argBest bt (n - 1)) v→(∀b o,b ∉ wr→s2.heap.get? b=some o→h'.get? b=some o)→Q v { s2 with heap:=h',toks:=tk }) E
   { s with heap:=s.heap.push { cls:=.type "tuple",data:=.seq #[a,b,c,d] } }) :
  wpAny (model prog w) A (call (.builtin "min") [a,b,c,d]) Q E s:=by
 have hname:(toString "min"++toString ".loop":String)="min.loop":=by decide
 refine call_function_tree PySem.F.kind_min PySem.F.plain_min PySem.F.entry_min (a6 _ _ _ _) ?_
 show wpAny _ A.in1 (Builtin.Builtins.bindParams "min" ["key","default"] 0 ⟨[],[]⟩>>=_) _ _ s
 refine tO (wpAny_of_eq (show Builtin.Builtins.bindParams "min" ["key","default"] 0 ⟨[],[]⟩=pure [none,none] from rfl) ?_)
 show wpAny _ A.in1 (newTuple [a,b,c,d]>>=_) _ _ s
 refine tO (wpAny_newObj_type ?_)
 refine tO (wpAny_mono h (fun it s2 h2=>?_) fun _ _ e=>e)
 obtain⟨I,fp,wr,n,P,St,bt,rfl,W,hst,hfp,hn,hcmp,hQ⟩:=h2
 refine tO (wpAny_newObj_type ?_)
 have hSf:s2.heap.objs.size ∉ fp:=fun hm=>Nat.lt_irrefl _ (hfp _ hm)
 rw [hname]
 refine tP ⟨plainId_quiet PySem.F.plain_min_loop _,codeAny_min_loop_first W bt hcmp s2.heap.objs.size hSf hn (W.frame _ _ _ hst fun b _ o e=>Heap.get?_push_of_some _ e) (Heap.get?_push_size _ rfl) fun v h' tk hP hk=>?_⟩
 exact hQ v h' tk hP fun b o hbw e=>hk b o hbw (Nat.ne_of_lt (Heap.lt_size e)) (Heap.get?_push_of_some _ e)
end
section
variable {X:Cx}
theorem G5 (hc:X.calm=true):ux X (.builtin "min") (fun xs H Q=>∃a b c d:Int,xs=[.int a,.int b,.int c,.int d]∧∀M,M∈[a,b,c,d]→(∀x∈[a,b,c,d],M≤x)→Q (.int M) H):=by
 intro pins s σ H xs us Q I r h
 obtain⟨a,b,c,d,rfl,q⟩:=h
 cases r with
 | cons r1 r=>cases r with
  | cons r2 r=>cases r with
   | cons r3 r=>cases r with
    | cons r4 r =>
     cases r
     obtain⟨t1,rfl⟩:=r1
     obtain⟨t2,rfl⟩:=r2
     obtain⟨t3,rfl⟩:=r3
     obtain⟨t4,rfl⟩:=r4
     have hT:(s.heap.push { cls:=.type "tuple",data:=.seq #[.int a t1,.int b t2,.int c t3,.int d t4] }).IsTuple s.heap.objs.size (intItems #[(a,t1),(b,t2),(c,t3),(d,t4)]):=⟨_,Heap.get?_push_size _ rfl,rfl,0,by simp [intItems]⟩
     obtain⟨zs,hzs⟩:∃zs,zs=#[(a,t1),(b,t2),(c,t3),(d,t4)]:=⟨_,rfl⟩
     have hns:[a,b,c,d]=zs.toList.map (·.1):=by rw [hzs];rfl
     have hsz:zs.size=4:=by rw [hzs];rfl
     rw [←hzs] at hT
     refine dD (wpAny_pyIter_tuple hT ?_)
     have hsp:(s.heap.push { cls:=.type "tuple",data:=.seq #[.int a t1,.int b t2,.int c t3,.int d t4] }).objs.size=s.heap.objs.size+1:=Heap.size_push ..
     refine⟨_,[_,s.heap.objs.size],[_],_,_,_,_,rfl,Walks.tuple (A:=X.A.in1) (I.ok.hd hc) _ s.heap.objs.size (by rw [hsp];exact Nat.ne_of_lt (Nat.lt_succ_self _)) (intItems zs),⟨⟨_,Heap.get?_push_size _ rfl,rfl,rfl⟩,hT.push _⟩,fun x hx=>?_,by simp [intItems,hsz],CmpOf.ints_lt (numAt zs) (fun _ _=>intItems_at),fun v h' tk hv hk=>?_⟩
     ·simp only [List.mem_cons,List.not_mem_nil,or_false] at hx
      show x<((s.heap.push _).push _).objs.size
      rw [Heap.size_push,hsp]
      rcases hx with rfl|rfl
      ·rw [hsp];exact Nat.lt_succ_self _
      ·exact Nat.lt_succ_of_lt (Nat.lt_succ_self _)
     ·have hv:(intItems zs)[argBest (fun i j=>decide (numAt zs i<numAt zs j)) (zs.size - 1)]?=some v:=by simpa [intItems] using hv
      obtain⟨t,rfl⟩:=intItems_at hv
      obtain⟨h1,h2⟩:=argBest_lt (numAt zs) (zs.size - 1)
      refine⟨.int _,H,I.kept fun b o e=>hk b o (fun hm=>?_) (Heap.get?_push_of_some _ (Heap.get?_push_of_some _ e)),⟨t,rfl⟩,q _ ?_ fun x hx=>?_⟩
      ·rw [List.mem_singleton.mp hm,hsp] at e
       exact absurd (show s.heap.objs.size+1<s.heap.objs.size from Heap.lt_size e) (by omega)
      ·rw [hns,numAt_eq];exact getD_mem (by rw [List.length_map,Array.length_toList];omega)
      ·rw [hns] at hx
       obtain⟨j,hj,rfl⟩:=mem_getD hx
       rw [List.length_map,Array.length_toList] at hj
       rw [←numAt_eq];exact h2 j (by omega)
end
section
variable {X:Cx}{e:Expr}{f:Str}{pos:Pos}{ta:TE}
theorem iZ {K:sZ} (hK:X.K=K) (he:PE X e ta) (hb:attributeBase e f X.env (eval e X.env)=eval e X.env):PE X (.Attribute e f pos) (eN K ta f):=hK▸jv he hb
end
end L2
namespace L2
open PySem PySem.Spec PyProof.Rows
section
variable {prog:tM}{w:World}{A:Around}{E:sV}{s:Shared}
open HT in
theorem bn {t sl:Addr}{items:tI}{vl vu:Value}{lo hi:Option Int}{Q:sV} (ht:IsTup s.heap t items) (hs:s.heap.IsSliceOf sl vl vu .none) (pl:IsPart vl lo) (pu:IsPart vu hi)
  (h1:sIx items.size 0 lo=0) (h2:sIx items.size items.size hi=items.size) (h:Q (.ref t) s):wpAny (model prog w) A (getItem (.ref t) (.ref sl)) Q E s:=by
 obtain⟨os,hos,hcs,hds⟩:=id hs
 have hTs:s.TypeIs (.ref sl) "slice":=⟨os,hos,hcs⟩
 unfold getItem
 try with_reducible refine wpAny_holding ?_
 first|refine tO (tP ?_)|skip
 refine tO (wpAny_sequenceKey ht.typeIs (by decide) ?_)
 refine tO (wpAny_callSpecial?_slot (name:=Str.ofString "__getitem__") ht.typeIs PyProof.Rows.slot_tuple_getitem
  (wpAny_call_entry PyProof.Rows.slot_tuple_getitem ht.typeIs entry_tuple_getitem ?_ (args_tuple_getitem _ _)))
 show wpAny _ _ (Builtin.Tuple.tupleItemsOf (.ref t)>>=_) _ _ s
 refine tO (tupleItemsOf_ ht ?_)
 refine tO (wpAny_typeOf hTs ?_)
 rw [if_pos (by decide)]
 refine tO (VP hs pl pu ?_)
 show wpAny _ _ (if (((sIx items.size 0 lo:Nat):Int)==0&&(1:Int)==1&&(sIx items.size items.size hi - sIx items.size 0 lo)==items.size)=true then _ else _) _ _ s
 rw [if_pos (by rw [h1,h2];simp)]
 refine tO (m:=Builtin.Tuple.tupleIsExact (.ref t)) ?_
 unfold Builtin.Tuple.tupleIsExact
 refine tO (wpAny_typeOf ht.typeIs (tP ?_))
 rw [if_pos (by decide)]
 first
  | exact tO (wpAny_rule (tP ⟨_,rfl,tP h⟩))
  | exact tO (wpAny_rule (tO (tP (tP ⟨_,rfl,tP h⟩))))
end
section
variable {X:Cx}
def qd (K:sZ):V→Option Int→Option Int→Hp→VK→Prop:=fun x lo hi H Q=>∃a xs,x=.ref a∧jw K H a xs ∧
 ((HT.sIx xs.length 0 lo=0∧HT.sIx xs.length xs.length hi=xs.length)→Q (.ref a) H)∧(¬(HT.sIx xs.length 0 lo=0∧HT.sIx xs.length xs.length hi=xs.length)→∀p,H p=none→Q (.ref p) (upd H p (.tup (uR xs lo hi))))
theorem lB:fb X (qd X.K):=by
 intro pins s σ H x v vl vu lo hi sl Q I rx hs pl pu h
 obtain⟨a,xs,rfl,hx,q1,q2⟩:=h
 by_cases hw:HT.sIx xs.length 0 lo=0∧HT.sIx xs.length xs.length hi=xs.length
 ·cases rx
  obtain⟨its,r,ht,hz⟩:=I.tuple hx
  have hlen:its.toArray.size=xs.length:=by rw [List.size_toArray];exact r.length.symm
  refine⟨"tuple",_,PyProof.Rows.slot_tuple_getitem.lookup,ht.typeIs,?_⟩
  exact bn ht hs pl pu (by rw [hlen];exact hw.1) (by rw [hlen];exact hw.2) ⟨.ref a,H,I,rfl,q1 hw⟩
 ·exact qi pins s σ H (.ref a) v vl vu lo hi sl Q I rx hs pl pu ⟨a,xs,rfl,hx,hw,q2 hw⟩
end
end L2
namespace L2
open PySem PyProof PyProof.Rows
section
variable {prog:tM}{w:World}{A:Around}{E:sV}{s:Shared}
end
section
variable {X:Cx}
end
end L2
namespace L2
open PySem PySem.Spec PyProof.Rows
section
variable {P:tM}{w:World}{K:sZ}{mg:tj}{base:Heap}
theorem oq {fd:FuncData}{ps:tH}{D:Addr}{od:Obj}{items:tI}{n:Nat}{v:Value} (hf:fd.defaults=.ref D) (dl:K.lookup D=some od) (hd:od.data=.seq items n)
  (h:∀us:List Value,us.length+1=ps.length→∃k:Option (Array Value)→Sem (List (Str×Value)),bindArgs fd ⟨us,[]⟩=seqItems? fd.defaults>>=k∧k (some items)=pure (ps.zip (us++[v]))):ju K fd ps [v]:=fun s us KX hl=>by
 rw [List.length_append] at hl
 obtain⟨k,h1,h2⟩:=h us hl
 exact BindsTo.of_defaults hf (KX D od dl) hd h1 h2
structure vx (P:tM) (w:World) (K:sZ) (mg:tj) (base:Heap) (k:Nat) (C:Addr) (m:Str) (ps:tH) (dv:V) (sp:Sp):Prop where
 cl:vw K C
 ex:∃f fd u,Jw K C m f∧uQ P w K mg base (XC P w) k f fd ps sp∧ju K fd ps []∧ju K fd ps [u]∧jE dv u
structure gi (P:tM) (w:World) (K:sZ) (mg:tj) (base:Heap) (k:Nat) (x:Str) (C:Addr) (ps:tH) (dv:V) (sp:Sp):Prop where
 ex:∃f fd u,Mk K C f∧uQ P w K mg base (XC P w) k f fd ps sp∧ju K fd ps []∧ju K fd ps [u]∧jE dv u∧mg x=some (.ref C)
theorem vx.m {k:Nat}{C:Addr}{m:Str}{ps:tH}{dv:V}{sp:Sp} (G:vx P w K mg base k C m ps dv sp):Ju P w K mg base k C m ps sp:=let ⟨f,fd,_,h1,h2,h3,_⟩:=G.ex;⟨G.cl,f,fd,h1,h2,h3⟩
theorem gi.c {k:Nat}{x:Str}{C:Addr}{ps:tH}{dv:V}{sp:Sp} (G:gi P w K mg base k x C ps dv sp):gh P w K mg base k x C ps sp:=let ⟨f,fd,_,h1,h2,h3,_,_,h4⟩:=G.ex;⟨f,fd,h1,h2,h3,h4⟩
end
section
variable {X:Cx}{k:Nat}{x m:Str}{C:Addr}{ps:tH}{sp:Sp}{dv:V}{E:XK}{p pos apos:Pos}{e o:Expr}{es:tJ}{ta:TE}{t:TA}
theorem dO (G:gi X.prog X.w X.K X.mg X.base k x C ps dv sp) (hr:Ur (k+1) X.A) (hx:uz (XC X.prog X.w) X E) (hg:Gl X x) (ha:PA X (e::es) t) (hdb:(x==("__debug__":Str))=false:=by decide) (he:starEach (e::es) X.env=(false,eval e X.env)::starEach es X.env:=by rfl)
  (hpl:(backTo pos (starEach es X.env)).any (·.1)=false:=by rfl):PE X (.Call (.Name x p) (e::es) [] pos) (Kw C sp [dv] E t):=by
 obtain⟨f,fd,u,M,F,_,b,r,g⟩:=G.ex
 exact NL M F hr hg g b (.cons r .nil) hx ha hdb he hpl
theorem Z1 {pl:Sem Bool} (ho:PE X o ta) (G:vx X.prog X.w X.K X.mg X.base k C m ps dv sp) (hr:Ur k X.A) (hx:uz (XC X.prog X.w) X E) (ha:PA X (e::es) t) (hst:starEach (e::es) X.env=(false,eval e X.env)::starEach es X.env:=by rfl) (hpl:(backTo pos (starEach es X.env)).any (·.1)=false:=by rfl)
  (ht:eval (.Call (.Attribute o m apos) (e::es) [] pos) X.env=(do
   let ov ←eval o X.env
   standAt apos.atName
   let (f,first) ←holding [ov] (getMethod ov m pl)
   callWith pos f first (backTo pos (starEach (e::es) X.env)) (backToKw pos (keywordEach [] X.env))):=by rfl):PE X (.Call (.Attribute o m apos) (e::es) [] pos) (Kx C m sp [dv] E ta t):=by
 obtain⟨f,fd,u,M,F,_,b,r⟩:=G.ex
 exact NM ho G.cl M F hr b (.cons r .nil) hx ha hst hpl ht
def qc (C:Addr) (m:Str) (dv:V) (sp:Sp) (E:XK):V→Hp→VK→Prop:=fun x H Q=>∃a dx fs,x=.ref a∧H a=some (.ins C dx fs)∧fs.lookup m=none∧sp [x,dv] H Q E
theorem fG (G:vx X.prog X.w X.K X.mg X.base k C m ps dv sp) (hr:Ur k X.A) (hx:uz (XC X.prog X.w) X E):KQ X m (qc C m dv sp E):=by
 rintro pins s σ H x u Q pl pos I r ⟨a,dx,fs,rfl,ea,l,q⟩
 obtain⟨f,fd,ud,M,F,_,b,rd⟩:=G.ex
 obtain rfl:u=Value.ref a:=r
 exact wpAny_holding (Vi I ea G.cl M l (callWith_K0 (first:=[.ref a]) I.kIn M.kp (Ga (us:=[.ref a]) (vs:=[.ref a]) (dvs:=[dv]) F hr b (.cons rd .nil) hx I (.cons rfl .nil) q)))
end
end L2
namespace TS
open PySem PyProof.Rows L2
section
variable {prog:tM}{w:World}{A:Around}{E:sV}{s:Shared}
theorem iw {id:String}{d:Addr}{o:Obj}{es:Array DictEntry}{ep:Nat}{Q:Array DictEntry→Shared→Prop} (ho:s.heap.get? d=some o) (hd:o.data=.dict es ep) (hk:∀e∈es.toList,∃a,e.key=.ref a∧s.TypeIs (.ref a) "tuple")
  (hn:∀e∈es.toList,¬(es.filter (·.hash==e.hash)).size > 1) (q:Q es s):wpAny (model prog w) A (Builtin.Dict.entriesForEmpty id d) Q E s:=by
 unfold Builtin.Dict.entriesForEmpty
 refine tO (wpAny_dictEntries ho hd (tO ?_))
 rw [←Array.forIn_toList]
 refine wpAny_forIn_list _ (fun rest _ s'=>s'=s∧∀e∈rest,e∈es.toList) _ ?_ ?_ _ _ ⟨rfl,fun e h=>h⟩
 ·rintro x rest b s' ⟨rfl,hr⟩
  have hx:=hr x (List.mem_cons_self ..)
  obtain⟨a,ea,ty⟩:=hk x hx
  refine tO ?_
  rw [ea]
  refine tO (wpAny_specialOf ty F.slot_tuple_eq.lookup (tP ?_))
  rw [show (some (Value.builtin "tuple.__eq__")==some (Value.builtin "object.__eq__"))=false by decide,if_pos (by decide),if_neg (hn x hx)]
  exact tP ⟨rfl,fun e he=>hr e (List.mem_cons_of_mem _ he)⟩
 ·rintro b s' ⟨rfl,_⟩
  exact tP q
theorem ce {nm:String}{d o:Addr}{od oo:Obj}{es:Array DictEntry}{epd epo:Nat}{Q:sW} (ne:d≠o) (hoS:(o==sysModules)=false) (hod:s.heap.get? d=some od) (hdd:od.data=.dict #[] epd) (hoo:s.heap.get? o=some oo) (hdo:oo.data=.dict es epo)
  (hk:∀e∈es.toList,∃a,e.key=.ref a∧s.TypeIs (.ref a) "tuple") (hn:∀e∈es.toList,¬(es.filter (·.hash==e.hash)).size > 1) (hz:es.size≤sizeLine)
  (q0:es=#[]→Q () s) (q:Q () { s with heap:=s.heap.update d (Obj.mapDictKeys fun _=>es) }):wpAny (model prog w) A (Builtin.Dict.mergeDict nm d o) Q E s:=by
 unfold Builtin.Dict.mergeDict Builtin.Dict.showsAll
 rw [if_neg (by simpa using ne),if_neg (by rw [hoS];exact Bool.false_ne_true)]
 refine tO (tP (tO (wpAny_dictEntries hoo hdo ?_)))
 dsimp only
 by_cases h0:es=#[]
 ·rw [if_neg (by subst h0;simp)]
  refine tO (wpAny_dictEpoch hoo hdo (tO (wpAny_dictEntries hoo hdo (tO ?_))))
  subst h0
  rw [Std.Legacy.Range.forIn_eq_forIn_range']
  simp only [Std.Legacy.Range.size,Nat.sub_zero,Nat.add_sub_cancel,Nat.div_one]
  exact tP (tP (q0 rfl))
 ·obtain⟨x,hx⟩:∃x,x∈es.toList:=by
   cases e:es.toList with
   | nil=>exact absurd (Array.toList_eq_nil_iff.mp e) h0
   | cons x r=>exact⟨x,List.mem_cons_self ..⟩
  have nf:(decide (es.size≤8)&&es.all fun e=>(keyPart e.key).isSome)=false:=by
   rw [Bool.and_eq_false_iff]
   right
   rw [Bool.eq_false_iff]
   intro z
   rw [←Array.all_toList,List.all_eq_true] at z
   have:=z x hx
   obtain⟨a,ea,_⟩:=hk x hx
   rw [ea] at this
   cases this
  rw [nf,if_pos (by decide)]
  refine tO (wpAny_dictEntries hod hdd ?_)
  rw [if_pos (by decide)]
  refine tO (iw hoo hdo hk hn ?_)
  rw [if_pos (by simpa using h0)]
  exact tO (wpAny_updateDictKeysTo hod hdd (tP q) (by show es.size≤_;omega))
theorem da {K:Type} [DecidableEq K] {knd:KeyKind prog w K} {o:Addr} {xs:List (List K×Addr×Value)} {Q:sV} (hoS:(o==sysModules)=false) (hd:s.heap.DictOfH (tupleKind knd) o xs) (hz:xs.length≤sizeLine) (nd:(xs.map fun x=>(tupleKind knd).hash x.1).Nodup)
  (q:∀h',(∀b u,s.heap.get? b=some u→h'.get? b=some u)→h'.DictOfH (tupleKind knd) s.heap.objs.size xs→Q (.ref s.heap.objs.size) { s with heap:=h' }):wpAny (model prog w) A (call (.type "dict") [.ref o]) Q E s:=by
 obtain⟨oo,es,ep,e1,c1,d1,l1,i1,n1⟩:=id hd
 refine callType_codes (Q₁:=fun obj s₁=>obj=.ref s.heap.objs.size∧s₁={ s with heap:=s.heap.push { cls:=.type "dict",data:=.dict #[] } }) F.kt_called_dict (F.kt_typeCall_dict_1 _) F.entry_dict_init (kt_code_dict_new _ ⟨rfl,rfl⟩) ?_
 rintro obj s₁ ⟨rfl,rfl⟩
 have enew:(s.heap.push { cls:=.type "dict",data:=.dict #[] }).get? s.heap.objs.size=some { cls:=.type "dict",data:=.dict #[] }:=Heap.get?_push_size _ rfl
 have eo:(s.heap.push { cls:=.type "dict",data:=.dict #[] }).get? o=some oo:=Heap.get?_push_of_some _ e1
 have ne:s.heap.objs.size≠o:=fun e=>absurd (Heap.lt_size e1) (by rw [e];exact Nat.lt_irrefl _)
 have tn:Shared.TypeIs { s with heap:=s.heap.push { cls:=.type "dict",data:=.dict #[] } } (.ref s.heap.objs.size) "dict":=⟨_,enew,rfl⟩
 have to:Shared.TypeIs { s with heap:=s.heap.push { cls:=.type "dict",data:=.dict #[] } } (.ref o) "dict":=⟨_,eo,c1.1⟩
 refine⟨tn,F.args_dict_init_2 _ _,?_⟩
 unfold Builtin.«dict.__init__»
 refine tO ?_
 unfold Builtin.Dict.selfAndRest
 refine tO (wpAny_notOrdered_dict tn ?_)
 show wpAny _ _ (pure (s.heap.objs.size,[Value.ref o])) _ _ _
 refine tP ?_
 show wpAny _ _ (Builtin.Dict.updateFrom "dict.__init__" s.heap.objs.size (.ref o) [] .none) _ _ _
 unfold Builtin.Dict.updateFrom
 refine tO (wpAny_typeOf to ?_)
 rw [if_neg (by decide)]
 refine tO ?_
 unfold Builtin.Dict.merge
 refine tO ?_
 unfold Builtin.Dict.readDirectly
 refine tO (wpAny_isInstance to isSubtype_dict_dict ?_)
 simp only [Bool.not_true,Bool.false_eq_true,if_false]
 refine tO (wpAny_specialOf to F.slot_dict_iter.lookup (tP ?_))
 simp only [beq_self_eq_true,if_true]
 refine tO (tP ?_)
 have szx:es.size=xs.length:=size_of_entries l1
 have keep:∀b u,s.heap.get? b=some u→(s.heap.push { cls:=.type "dict",data:=.dict #[] }).get? b=some u:=fun b u e=>Heap.get?_push_of_some _ e
 have tup:∀e∈es.toList,∃a,e.key=.ref a∧Shared.TypeIs { s with heap:=s.heap.push { cls:=.type "dict",data:=.dict #[] } } (.ref a) "tuple":=fun e he=>by
  rw [l1] at he
  obtain⟨x,hx,rfl⟩:=List.mem_map.mp he
  obtain⟨ot,its,n,g1,g2,_⟩:=i1 x hx
  exact⟨x.2.1,rfl,ot,keep _ _ g1,g2⟩
 have one:∀e∈es.toList,¬(es.filter (·.hash==e.hash)).size > 1:=fun e he=>by
  rw [←Array.length_toList,Array.toList_filter,l1]
  rw [l1] at he
  obtain⟨x,hx,rfl⟩:=List.mem_map.mp he
  rw [List.filter_map,List.length_map]
  have:∀ys:List (List K×Addr×Value),(ys.map fun x=>(tupleKind knd).hash x.1).Nodup→(ys.filter ((fun y:DictEntry=>y.hash==(entryOfKey (tupleKind knd) x).hash)∘entryOfKey (tupleKind knd))).length≤1:=by
   intro ys
   induction ys with
   | nil=>intro _;exact Nat.zero_le _
   | cons y r ih =>
    intro n
    obtain⟨n1,n2⟩:=List.nodup_cons.mp n
    rw [List.filter_cons]
    split
    ·rename_i hy
     have hy:(tupleKind knd).hash y.1=(tupleKind knd).hash x.1:=beq_iff_eq.mp hy
     rw [List.filter_eq_nil_iff.mpr ?_]
     ·exact Nat.le_refl _
     ·intro z hz hz2
      have hz2:(tupleKind knd).hash z.1=(tupleKind knd).hash x.1:=beq_iff_eq.mp hz2
      exact n1 (List.mem_map.mpr ⟨z,hz,hz2.trans hy.symm⟩)
    ·exact ih n2
  exact Nat.not_lt.mpr (this xs nd)
 refine ce ne hoS enew rfl eo d1 tup one (by omega) (fun h0=>?_) ?_
 ·have x0:xs=[]:=List.length_eq_zero_iff.mp (by rw [←szx,h0];rfl)
  subst x0
  refine tO (tP (tP ⟨rfl,q _ keep ⟨_,_,_,enew,⟨rfl,rfl,rfl⟩,rfl,rfl,fun x hx=>(by cases hx),List.nodup_nil⟩⟩))
 ·have k2:∀b u,s.heap.get? b=some u→((s.heap.push { cls:=.type "dict",data:=.dict #[] }).update s.heap.objs.size (Obj.mapDictKeys fun _=>es)).get? b=some u:=fun b u e=>by
   rw [(Heap.SameBut.update ..).2 b (Nat.ne_of_lt (Heap.lt_size e))];exact keep b u e
  refine tO (tP (tP ⟨rfl,q _ k2 ⟨_,es,1,Heap.get?_update_self _ enew (Obj.isFreed_of_dict (Obj.data_mapDictKeys rfl _)),⟨rfl,rfl,rfl⟩,Obj.data_mapDictKeys rfl _,l1,fun x hx=>?_,n1⟩⟩))
  obtain⟨ot,its,n,g1,g2,g3⟩:=i1 x hx
  exact⟨ot,its,n,k2 _ _ g1,g2,g3⟩
end
end TS
namespace L2
open PySem PySem.Spec PyProof.Rows TS
def yj (a:Addr) (o:Obj):HO:=.ext fun h=>h.get? a=some o
def lT (P:tM) (w:World) (o:Obj) (xs:List (List Key×Addr×Value)):Prop:=∃es ep,o.ExactDict∧o.data=.dict es ep∧es.toList=xs.map (entryOfKey (tupleKind (jJ P w)))∧(xs.map (·.1)).Nodup
def lX (a:Addr) (o:Obj) (xs:List (List Key×Addr×Value)):It:=⟨fun i H=>H a=some (yj a o)∧i<xs.length,fun i H x H'=>H'=H∧∃y,xs[i]?=some y∧x=.ref y.2.1,fun i H=>H a=some (yj a o)∧xs.length≤i⟩
theorem Gz {P:tM}{w:World}{H:Hp}{h:Heap}{a:Addr}{o:Obj} (ok:Jm P w H h) (e:H a=some (yj a o)):h.get? a=some o:=(show j3 P w H h a (yj a o) from ok a _ e).1
theorem cU {P:tM}{w:World}{K:sZ}{tg:Expr} (a it:Addr) (o:Obj) (xs:List (List Key×Addr×Value)) {es:Array DictEntry} {ep:Nat} (ex:o.ExactDict) (hd:o.data=.dict es ep) (he:es.toList=xs.map (entryOfKey (tupleKind (jJ P w)))) :
  yP P w K tg (lX a o xs) [it] it (fun i h=>h.IsKeyIter it a i es.size ep) true where
 mem:=by simp
 obj:=fun i h st b hb=>by
  obtain rfl:b=it:=by simpa using hb
  obtain⟨o,e,c,d⟩:=st
  exact⟨o,e,fun v z=>by rw [d] at z;cases z⟩
 keep:=fun i h h' st k=>by
  obtain⟨o,e,r⟩:=st
  exact⟨o,k it (by simp) o e,r⟩
 item:=by
  intro X hP hw hK hc i pins s σ H E I hf st hg
  subst hP hw hK
  obtain⟨ea,hi⟩:=hg
  have sz:=size_of_entries he
  have uW:i<es.size:=by omega
  obtain⟨f0,f1,f2,f3,f4,f5⟩:=hf it (by simp)
  refine Ma st ⟨o,Gz I.hok ea,ex,hd⟩ uW fun h' st' sb=>?_
  have I1:jo X pins σ H { s with heap:=h' }:=I.turned (t':=s.toks) (fun b o hb e=>(sb.2 b hb).trans e) f0 f1 f3 f4 f5
  obtain⟨oi,e,c,d⟩:=id st'
  have ey:es[i]?=some (entryOfKey (tupleKind (jJ X.prog X.w)) xs[i]):=by rw [entry_at he,List.getElem?_eq_getElem hi];rfl
  have ek:es[i].key=.ref xs[i].2.1:=by
   have:=(List.getElem?_eq_some_iff.mp (by rw [Array.getElem?_toList];exact ey)).2
   rw [Array.getElem_toList] at this
   rw [this];rfl
  exact⟨_,rfl,gL (s:={ s with heap:=h' }) e c d (by decide) ⟨.ref xs[i].2.1,H,I1,ek,⟨rfl,xs[i],List.getElem?_eq_getElem hi,rfl⟩,st',fun b hb=>(hf b hb).1⟩⟩
 done:=by
  intro X hP hw hK hc i pins s σ H E I hf st hg
  subst hP hw hK
  obtain⟨ea,hi⟩:=hg
  have sz:=size_of_entries he
  obtain⟨f0,f1,f2,f3,f4,f5⟩:=hf it (by simp)
  exact MY (I.ok.hd (hc rfl)) st ⟨o,Gz I.hok ea,ex,hd⟩ (by omega) fun h' eb=>⟨rfl,I.turned (t':=s.toks) (fun b o hb e=>eb b o hb e) f0 f1 f3 f4 f5⟩
 self:=fun _ _ _ _ _ st h=>wpAny_pyIter_keyiter st h
section
variable {X:Cx}{tg:Expr}
def qO (P:tM) (w:World) (te:TE):TI:=fun σ H R=>te σ H fun x H1=>∃a kvs,x=.ref a∧H1 a=some (.dT kvs)∧∀o xs,kvs.length≤sizeLine→(a==sysModules)=false→KT H1 kvs xs→lT P w o xs→R (lX a o xs) (upd H1 a (yj a o))
theorem Mv {l:Expr}{tl:TE} (hc:X.calm=true) (hl:PE X l tl):PI X tg l (qO X.prog X.w tl):=by
 intro pins s σ H R I h
 refine jC (hl pins s σ H _ I h) fun v s1 hh=>?_
 obtain⟨x,H1,I1,r1,a,kvs,e,ha,q⟩:=hh
 subst e
 cases r1
 obtain⟨z,hm,xs,kt,o,es,ep,h1,h2,h3,h4,h5,h6⟩:=Vh I1.hok ha
 refine mO hm ⟨o,h1,h2,h3⟩ ?_
 have I2:jo X pins σ (upd H1 a (yj a o)) { s1 with heap:=s1.heap,toks:=s1.toks }:=I1.write (x:=a) (e:=a) (h':=s1.heap) (t':=s1.toks) (by rw [ha];exact True.intro) (.inl rfl) (fun b u _ e=>e) ⟨o,h1⟩ ⟨h1,⟨o,h1⟩,fun g1 g2 x k=>k _ x⟩
 have I3:jo X pins σ (upd H1 a (yj a o)) { s1 with heap:=s1.heap.push { cls:=.type "dict_keyiterator",data:=.fields #[.ref a,.int 0 0,.int es.size 0,.int ep 0] } }:=I2.kept (t':=s1.toks) fun b o e=>Heap.get?_push_of_some _ e
 refine⟨s1.heap.objs.size,[s1.heap.objs.size],_,_,_,rfl,I3,⟨true,cU a _ o xs h2 h3 h4,fun _=>hc⟩,⟨_,Heap.get?_push_size _ rfl,rfl,rfl⟩,fun b hb=>?_,q o xs z hm kt ⟨es,ep,h2,h3,h4,h6⟩⟩
 obtain rfl:b=s1.heap.objs.size:=by simpa using hb
 exact I2.fpOk (Nat.le_refl _) (I2.hok.fresh (Nat.le_refl _))
def rp (P:tM) (w:World) (t:TE):TE:=fun σ H Q=>t σ H fun v H'=>∃a o kvs xs,H' a=some (yj a o)∧(a==sysModules)=false∧KT H' kvs xs∧lT P w o xs∧kvs.length≤sizeLine∧Q v (upd H' a (.dT kvs))
theorem NN {e:Expr}{t:TE} (h:PE X e t):PE X e (rp X.prog X.w t):=by
 intro pins s σ H Q I q
 refine jC (h pins s σ H _ I q) fun v s1 hh=>?_
 obtain⟨x,H1,I1,r1,a,o,kvs,xs,ha,hm,kt,⟨es,ep,h2,h3,h4,h6⟩,hz,q⟩:=hh
 have g:=Gz I1.hok ha
 have I2:jo X pins σ (upd H1 a (.dT kvs)) { s1 with heap:=s1.heap,toks:=s1.toks }:=I1.write (x:=a) (e:=a) (h':=s1.heap) (t':=s1.toks) (by rw [ha];exact True.intro) (.inl rfl) (fun b u _ e=>e) ⟨o,g⟩ ⟨hz,hm,xs,Paired.mapP kt fun x y r=>⟨r.1,?_,r.2.2⟩,o,es,ep,g,h2,h3,h4,h6⟩
 ·exact⟨x,_,I2,r1,q⟩
 ·rw [ji (jX r.2.1 ha (fun z=>nomatch z))];exact r.2.1
theorem gq:ux X (.type "dict") (fun xs H Q=>∃p kvs,xs=[.ref p]∧H p=some (.dT kvs)∧(kvs.map fun kv=>(tupleKind (jJ X.prog X.w)).hash kv.1).Nodup∧∀l,H l=none→Q (.ref l) (upd H l (.dT kvs))):=by
 intro pins s σ H xs us Q I r h
 obtain⟨p,kvs,rfl,e,nd,q⟩:=h
 obtain⟨u,rfl,ru⟩:=Uk r
 cases ru
 obtain⟨z,hm,ys,kt,d⟩:=Vh I.hok e
 have m1:kvs.map (fun kv=>(tupleKind (jJ X.prog X.w)).hash kv.1)=ys.map fun x=>(tupleKind (jJ X.prog X.w)).hash x.1:=uD kt fun x y h=>by rw [h.1]
 refine da hm d (by rw [←Paired.length kt];exact z) (by rw [←m1];exact nd) fun h' keep d'=>?_
 have fresh:=I.hok.fresh (Nat.le_refl s.heap.objs.size)
 obtain⟨o,es,ep,g1,g2,g3,g4,g5,g6⟩:=d'
 have big:(s.heap.objs.size==sysModules)=false:=by
  have:=(mi (P:=X.prog) (w:=X.w) (H:=H) s.heap I.big).2.1
  exact this
 exact⟨.ref s.heap.objs.size,_,I.laid (a:=s.heap.objs.size) (o:=.dT kvs) (t':=s.toks) keep (Nat.le_refl _) ⟨z,big,ys,Paired.mapP kt fun x y r=>⟨r.1,by rw [ji (jq r.2.1 fresh)];exact r.2.1,r.2.2⟩,o,es,ep,g1,g2,g3,g4,g6⟩,rfl,q _ fresh⟩
end
end L2
namespace L2
open PySem PyProof.Rows TS
def YS (kvs:List (List Key×V)):Prop:=∀kv∈kvs,∀c∈kv.1,∃n,c=Sum.inl n
theorem Nq {P P':tM}{w w':World}{h:Heap}{a:Addr}{xs:List (List Key×Addr×Value)} (hi:∀x∈xs,∀c∈x.1,∃n,c=Sum.inl n) (d:h.DictOfH (tupleKind (jJ P w)) a xs):h.DictOfH (tupleKind (jJ P' w')) a xs:=by
 obtain⟨o,es,ep,h1,h2,h3,h4,h5,h6⟩:=d
 refine⟨o,es,ep,h1,h2,h3,h4.trans (List.map_congr_left fun x hx=>?_),fun x hx=>?_,h6⟩
 ·show (⟨tupleKeyHash (jJ P w) x.1,_,_⟩:DictEntry)=⟨tupleKeyHash (jJ P' w') x.1,_,_⟩
  have:x.1.map (jJ P w).hash=x.1.map (jJ P' w').hash:=List.map_congr_left fun c hc=>by
   obtain⟨n,rfl⟩:=hi x hx c hc
   rfl
  unfold tupleKeyHash
  rw [this]
 ·obtain⟨o,its,n,g1,g2,g3,g4⟩:=h5 x hx
  refine⟨o,its,n,g1,g2,g3,?_⟩
  clear g1 g3 h5 h4
  revert g4
  generalize its.toList=l
  generalize x.1=ks
  intro g4
  induction g4 with
  | nil=>exact .nil
  | cons e t ih=>exact .cons e ih
section
variable {X:Cx}{pins:tq}{σ:St}{H:Hp}{s:Shared}
theorem Nu (I:jo X pins σ H s) {A:Around} {a b:Addr} {kvs mvs:List (List Key×V)} (hu:A.units+8<cLine) (ha:H a=some (.dT kvs)) (hb:H b=some (.dT mvs)) (tk:∀kv∈kvs,kv.2=.bl true) (tm:∀kv∈mvs,kv.2=.bl true) (ik:YS kvs) (im:YS mvs) (hab:a≠b) :
  SeqAt.EqAt A s (.ref a) (.ref b) (Jl kvs mvs):=by
 refine SeqAt.EqAt.of_refs hab fun prog w E Q q=>?_
 obtain⟨_,na,xs,k1,d1⟩:=Vh I.hok ha
 obtain⟨_,nb,ys,k2,d2⟩:=Vh I.hok hb
 have t1:s.TypeIs (.ref a) "dict":=by obtain⟨ob,es,ep,e,c,_⟩:=d1;exact⟨ob,e,c.1⟩
 have t2:s.TypeIs (.ref b) "dict":=by obtain⟨ob,es,ep,e,c,_⟩:=d2;exact⟨ob,e,c.1⟩
 have tx:∀x∈xs,x.2.2=.bool true:=fun x hx=>by
  obtain⟨kv,hkv,_,_,r⟩:=JW k1 hx
  rw [tk kv hkv] at r
  exact r
 have ty:∀x∈ys,x.2.2=.bool true:=fun x hx=>by
  obtain⟨kv,hkv,_,_,r⟩:=JW k2 hx
  rw [tm kv hkv] at r
  exact r
 have ix:∀x∈xs,∀c∈x.1,∃n,c=Sum.inl n:=fun x hx=>by
  obtain⟨kv,hkv,e,_⟩:=JW k1 hx
  rw [←e];exact ik kv hkv
 have iy:∀x∈ys,∀c∈x.1,∃n,c=Sum.inl n:=fun x hx=>by
  obtain⟨kv,hkv,e,_⟩:=JW k2 hx
  rw [←e];exact im kv hkv
 have m1:kvs.map (·.1)=xs.map (·.1):=uD k1 fun x y h=>h.1.symm
 have m2:mvs.map (·.1)=ys.map (·.1):=uD k2 fun x y h=>h.1.symm
 have es:Jl kvs mvs=(decide (xs.length=ys.length)&&xs.all fun x=>ys.any fun y=>decide (y.1=x.1)):=by
  unfold Jl
  rw [m1,m2,Paired.length k1,Paired.length k2,List.all_map]
  congr 1
  refine List.all_congr rfl fun x=>?_
  show (List.any (ys.map (·.1)) _)=_
  rw [List.any_map];rfl
 rw [es] at q
 refine wpAny_richCompare_same_room (op:=.Eq) t1 t2 PySem.F.slot_dict_eq (wpAny_call_entry PySem.F.slot_dict_eq t1 PySem.F.entry_dict_eq (tO ?_) (PySem.F.args_dict_eq_2 _ _)) (by omega)
 refine tO (wpAny_notOrdered_dict t1 ?_)
 show wpAny _ _ (pure (Value.ref a,Value.ref b)) _ _ s
 refine tP (tO (wpAny_isInstance (T:="dict") t2 PySem.F.sub_dict_dict ?_))
 rw [if_neg (by decide)]
 refine tO (tP (tO (tP (tO (NR (tupleKind_room_in1 (by omega)) na nb (Nq (P':=prog) (w':=w) ix d1) (Nq (P':=prog) (w':=w) iy d2) tx ty ?_)))))
 refine tP ⟨_,rfl,fun z=>(nomatch z),?_⟩
 cases h:(decide (xs.length=ys.length)&&xs.all fun x=>ys.any fun y=>decide (y.1=x.1))<;>rw [h] at q<;>exact q
theorem iX (hu:X.A.units+64<cLine):ul X (compareOp .Eq) (fun x y H Q=>∃(p q a1 a2 b1 b2:Addr) (n1 n2 m1 m2:List (List Key×V)),x=.ref p∧y=.ref q∧jw X.K H p [.ref a1,.ref a2]∧jw X.K H q [.ref b1,.ref b2]∧H a1=some (.dT n1)∧H a2=some (.dT n2)∧H b1=some (.dT m1)∧H b2=some (.dT m2) ∧
  (∀kv∈n1,kv.2=.bl true)∧(∀kv∈n2,kv.2=.bl true)∧(∀kv∈m1,kv.2=.bl true)∧(∀kv∈m2,kv.2=.bl true)∧YS n1∧YS n2∧YS m1∧YS m2∧a1≠b1∧a2≠b2∧Q (.bl (Jl n1 m1&&Jl n2 m2)) H):=by
 intro pins s σ H x y v u Q I rx ry h
 obtain⟨p,q,a1,a2,b1,b2,n1,n2,m1,m2,rfl,rfl,hp,hq,l1,l2,l3,l4,t1,t2,t3,t4,i1,i2,i3,i4,d1,d2,k⟩:=h
 cases rx
 cases ry
 obtain⟨its,r1,p1,_⟩:=I.tuple hp
 obtain⟨its2,r2,p2,_⟩:=I.tuple hq
 obtain rfl:its=[.ref a1,.ref a2]:=by
  cases r1 with
  | cons x t=>cases t with
   | cons y t=>cases t with
    | nil=>cases x;cases y;rfl
 obtain rfl:its2=[.ref b1,.ref b2]:=by
  cases r2 with
  | cons x t=>cases t with
   | cons y t=>cases t with
    | nil=>cases x;cases y;rfl
 have hu1:X.A.units<cLine:=by omega
 have hu2:X.A.in1.units+8<cLine:=by show X.A.units+1+8<cLine;omega
 have key:∀(m:Nat) (g1:m<#[Value.ref a1,Value.ref a2].size) (g2:m<#[Value.ref b1,Value.ref b2].size),SeqAt.EqAt X.A.in1 s #[Value.ref a1,Value.ref a2][m] #[Value.ref b1,Value.ref b2][m] ((fun m=>if m=0 then Jl n1 m1 else Jl n2 m2) m):=fun m g1 g2=>by
  match m,g1,g2 with
  | 0,_,_=>exact Nu I hu2 l1 l3 t1 t3 i1 i3 d1
  | 1,_,_=>exact Nu I hu2 l2 l4 t2 t4 i2 i4 d2
 refine EqBoolInt.of_rc (SeqAt.RcAt.tuples p1 p2 hu1 key) ⟨.bl _,H,I,rfl,?_⟩
 have ev:((List.range 2).all (fun m=>if m=0 then Jl n1 m1 else Jl n2 m2)&&(2==2))=(Jl n1 m1&&Jl n2 m2):=by
  show ((Jl n1 m1)&&((Jl n2 m2)&&true)&&true)=_
  cases Jl n1 m1<;>cases Jl n2 m2<;>rfl
 rw [←ev] at k
 exact k
end
end L2
namespace K11
open PySem L2 Wd
def Jk (i:Nat):Stmt:=PySem.Challenge.pw_copperbook_k11_boards_by_cells.main.body.getD i (.Pass ⟨0,0,0,0⟩)
abbrev Gc:Stmt:=Jk 7
theorem Na:jt ["value"] ["value"] (jp Gc):=jY
abbrev zx:Stmt:=jR (Jk 12) 0
theorem Kk:jt ["self","wide","high","layers"] ["self","wide","high","layers"] (jp zx):=jY
abbrev Yz:Stmt:=jR (Jk 12) 10
theorem GO:jt ["self","z"] ["self","z"] (jp Yz):=jY
abbrev YC:Stmt:=jR (Jk 12) 11
theorem GR:jt ["self"] ["self"] (jp YC):=jY
abbrev U5:Stmt:=jR (Jk 12) 12
theorem Kj:jt ["self"] ["self"] (jp U5):=jY
abbrev Ve:Stmt:=jR (Jk 12) 7
theorem zH:jt ["self","x","y","z"] ["self","x","y","z"] (jp Ve):=jY
abbrev ZC:Stmt:=jR (Jk 12) 1
theorem MJ:jt ["self","shape","z"] ["self","shape","z"] (jp ZC):=jY
abbrev YA:Stmt:=jR (Jk 12) 2
theorem GP:jt ["self","shape","z"] ["self","shape","z"] (jp YA):=jY
abbrev ZD:Stmt:=jR (Jk 12) 3
theorem zI:jt ["self","cells","cell"] ["self","cells"] (jp ZD):=jY
abbrev zA:Stmt:=jR (Jk 12) 4
theorem YF:jt ["self","cells","cell"] ["self","cells"] (jp zA):=jY
abbrev YB:Stmt:=jR (Jk 12) 5
theorem GQ:jt ["self","x","y"] ["self","x","y"] (jp YB):=jY
abbrev zy:Stmt:=jR (Jk 12) 6
theorem Kl:jt ["self","x","y"] ["self","x","y"] (jp zy):=jY
abbrev VN:Stmt:=jR (Jk 12) 8
theorem Zg:jt ["self","x","y"] ["self","x","y"] (jp VN):=jY
abbrev V5:Stmt:=jR (Jk 12) 9
theorem Z4:jt ["self","other"] ["self","other"] (jp V5):=jY
abbrev V4:Stmt:=jR (Jk 12) 15
theorem UI:jt ["self","wide","high","place","other","hole"] ["self","wide","high","place"] (jp V4):=jY
abbrev Vd:Stmt:=jR (Jk 12) 16
theorem zG:jt ["self","z"] ["self","z"] (jp Vd):=jY
abbrev vM:Stmt:=jR (Jk 12) 17
theorem YL:jt ["self","x","y"] ["self","x","y"] (jp vM):=jY
abbrev VM:Stmt:=jR (Jk 12) 18
theorem Zf:jt ["self","cell"] ["self","cell"] (jp VM):=jY
abbrev va:Stmt:=jR (Jk 12) 19
theorem Yf:jt ["self","x","y"] ["self","x","y"] (jp va):=jY
abbrev vN:Stmt:=jR (Jk 12) 20
theorem ve:jt ["self","cells","cell"] ["self","cells"] (jp vN):=jY
abbrev vb:Stmt:=jR (Jk 12) 21
theorem U6:jt ["self","shape","z","box"] ["self","shape","z"] (jp vb):=jY
abbrev yF:Stmt:=Jk 13
theorem Gh:jt ["measure","most"] ["measure","most"] (jp yF):=jY
abbrev zw:Stmt:=jR (Jk 18) 0
theorem Ki:jt ["self","x","y","wide","high"] ["self","x","y","wide","high"] (jp zw):=jY
abbrev Yy:Stmt:=jR (Jk 18) 1
theorem GN:jt ["self"] ["self"] (jp Yy):=jY
abbrev ZB:Stmt:=jR (Jk 18) 2
theorem MI:jt ["self"] ["self"] (jp ZB):=jY
abbrev ZF:Stmt:=jR (Jk 19) 0
theorem MM:jt ["self","corners","width"] ["self","corners","width"] (jp ZF):=jY
abbrev zC:Stmt:=jR (Jk 19) 1
theorem Jv:jt ["self","half","places","one","other","x","y","wide","high"] ["self"] (jp zC):=jY
abbrev Gb:Stmt:=jR (Jk 19) 2
theorem u0:jt ["self","half","across","down","wide","high"] ["self"] (jp Gb):=jY
abbrev zB:Stmt:=jR (Jk 20) 0
theorem Km:jt ["self","x","y","wide","high","thick"] ["self","x","y","wide","high","thick"] (jp zB):=jY
abbrev YD:Stmt:=jR (Jk 20) 1
theorem yG:jt ["self","places"] ["self"] (jp YD):=jY
abbrev ZE:Stmt:=jR (Jk 20) 2
theorem MK:jt ["self"] ["self"] (jp ZE):=jY
abbrev Uq:Stmt:=jR (Jk 20) 3
theorem uh:jt ["self","place","across","down"] ["self","place"] (jp Uq):=jY
abbrev zF:Stmt:=Jk 21
theorem YG:jt ["numbers","number"] ["numbers"] (jp zF):=jY
abbrev V6:Stmt:=Jk 22
theorem Z5:jt ["numbers"] ["numbers"] (jp V6):=jY
abbrev yE:Stmt:=Jk 23
theorem u9:jt ["corners","corner","one","other"] ["corners"] (jp yE):=jY
abbrev zD:Stmt:=Jk 24
theorem vT:jt ["x","y","wide","high","places","column"] ["x","y","wide","high"] (jp zD):=jY
abbrev YE:Stmt:=Jk 26
theorem GS:jt ["_law_script","_law_k"] ["_law_script","_law_k"] (jp YE):=jY
abbrev ZI:Stmt:=Jk 27
theorem VO:jt ["_law_cell","_law_k","_law_number"] ["_law_cell","_law_k"] (jp ZI):=jY
abbrev ZH:Stmt:=Jk 28
theorem uM:jt ["_law_script","_law_cell","_law_rest","_law_found","_law_k"] ["_law_script"] (jp ZH):=jY
abbrev ZG:Stmt:=Jk 29
theorem uL:jt ["_law_draw","_law_size","_law_x","_law_y","_law_z","_law_wide","_law_high"] ["_law_draw","_law_size"] (jp ZG):=jY
abbrev ZJ:Stmt:=Jk 30
theorem MN:jt ["_law_form","_law_x","_law_y","_law_wide","_law_high"] ["_law_form","_law_x","_law_y","_law_wide","_law_high"] (jp ZJ):=jY
abbrev zE:Stmt:=Jk 31
theorem JR:jt ["_law_form","_law_x","_law_y","_law_z","_law_wide","_law_high","_law_found","_law_k","_law_across","_law_down","_law_edge","_law_there"] ["_law_form","_law_x","_law_y","_law_z","_law_wide","_law_high"] (jp zE):=jY
abbrev Ge:Stmt:=Jk 32
theorem Jt:jt ["_law_board","_law_table","_law_holes","_law_draw","_law_size","_law_x","_law_y","_law_z","_law_wide","_law_high","_law_deed","_law_form","_law_cells","_law_handed","_law_cell"] ["_law_board","_law_table","_law_holes","_law_draw","_law_size"] (jp Ge):=jY
abbrev Gf:Stmt:=Jk 33
theorem Nb:jt ["_law_board","_law_deed","_law_shape_here","_law_z","_law_left_out"] ["_law_board","_law_deed","_law_shape_here","_law_z","_law_left_out"] (jp Gf):=jY
abbrev MG:Stmt:=Jk 34
theorem cD:jt ["_law_found","_law_due"] ["_law_found","_law_due"] (jp MG):=jY
abbrev Gg:Stmt:=Jk 35
theorem JZ:jt ["_law_board","_law_table","_law_holes","_law_size","_law_turn","_law_found","_law_some","_law_z","_law_x","_law_y"] ["_law_board","_law_table","_law_holes","_law_size"] (jp Gg):=jY
abbrev aL:Stmt:=Jk 36
theorem Uh:jt ["_law_script","_law_cell","_law_size","_law_board","_law_table","_law_holes","_law_draw","_law_other","_law_twin","_law_before"] ["_law_script"] (jp aL):=jY
structure Adr where
 jl:Addr
 Ja:Addr
 Jz:Addr
 j6:Addr
 gD:Addr
 za:Addr
 Ym:Addr
 Yp:Addr
 Y9:Addr
 vO:Addr
 j8:Addr
 vY:Addr
 Zk:Addr
 Yn:Addr
 Zl:Addr
 zd:Addr
 Yo:Addr
 zb:Addr
 Vz:Addr
 VW:Addr
 VV:Addr
 vX:Addr
 vC:Addr
 Vy:Addr
 U7:Addr
 vD:Addr
 U8:Addr
 yo:Addr
 Y8:Addr
 Yl:Addr
 Zj:Addr
 Zn:Addr
 zf:Addr
 gC:Addr
 ze:Addr
 Yq:Addr
 Zm:Addr
 Um:Addr
 zi:Addr
 VX:Addr
 yn:Addr
 zg:Addr
 Yr:Addr
 Zq:Addr
 Zp:Addr
 Zo:Addr
 Zr:Addr
 zh:Addr
 gF:Addr
 gG:Addr
 mj:Addr
 gH:Addr
 gE:Addr
 kX:Addr
 JM:Addr
 vz:Addr
 UL:Addr
 M7:Tok
 M0:Tok
 GV:Tok
 Gm:Tok
 yQ:Addr
structure Txt (K:sZ) (mg:tj) (t:Adr):Prop where
 iF:mg "Board"=some (.ref t.jl)
 iE:mg "Block"=some (.ref t.Ja)
 oO:mg "Line"=some (.ref t.Jz)
 iG:mg "Frame"=some (.ref t.j6)
 js:vw K t.jl
 uw:Jf K t.jl "wide"
 uv:Jf K t.jl "high"
 JN:Jf K t.jl "layers"
 Jo:Jf K t.jl "copper"
 Jy:Jf K t.jl "drilled"
 JG:vw K t.Ja
 yX:Jf K t.Ja "x"
 yY:Jf K t.Ja "y"
 vQ:Jf K t.Ja "wide"
 vP:Jf K t.Ja "high"
 JK:vw K t.Jz
 JO:Jf K t.Jz "corners"
 JQ:Jf K t.Jz "width"
 j5:vw K t.j6
 Vn:Jf K t.j6 "x"
 Vo:Jf K t.j6 "y"
 UA:Jf K t.j6 "wide"
 Uz:Jf K t.j6 "high"
 yu:Jf K t.j6 "thick"
 ak:mg "is_whole"=some (.ref t.gD)
 hV:Mk K t.jl t.za
 kR:Jw K t.jl "cells" t.Ym
 kU:Jw K t.jl "holes" t.Yp
 KR:Jw K t.jl "copy" t.Y9
 Ze:Jw K t.jl "is_copper" t.vY
 nE:Jw K t.jl "lay" t.Zk
 kS:Jw K t.jl "clear" t.Yn
 nF:Jw K t.jl "put" t.Zl
 KU:Jw K t.jl "take" t.zd
 kT:Jw K t.jl "drill" t.Yo
 KS:Jw K t.jl "plug" t.zb
 ZQ:Jw K t.jl "has_hole" t.Vz
 gn:Jw K t.jl "same_as" t.VW
 gl:Jw K t.jl "redrawn" t.VV
 Zd:Jw K t.jl "has_layer" t.vX
 YX:Jw K t.jl "has_square" t.vC
 ZP:Jw K t.jl "has_cell" t.Vy
 YJ:Jw K t.jl "need_square" t.U7
 YY:Jw K t.jl "need_cells" t.vD
 YK:Jw K t.jl "shape_cells" t.U8
 GC:mg "need_measure"=some (.ref t.yo)
 f9:Mk K t.Ja t.Y8
 kP:Jw K t.Ja "cells" t.Yl
 nB:Jw K t.Ja "box" t.Zj
 lY:Mk K t.Jz t.Zn
 KW:Jw K t.Jz "cells" t.zf
 N7:Jw K t.Jz "box" t.gC
 h9:Mk K t.j6 t.ze
 kW:Jw K t.j6 "cells" t.Yq
 nG:Jw K t.j6 "box" t.Zm
 VT:Jw K t.j6 "steps_from_edge" t.Um
 mH:mg "need_whole"=some (.ref t.zi)
 gK:mg "need_from_one"=some (.ref t.VX)
 GB:mg "need_corners"=some (.ref t.yn)
 mG:mg "box_places"=some (.ref t.zg)
 GA:mg "_law_cell_at"=some (.ref t.Yr)
 mE:mg "_law_mixed"=some (.ref t.Zq)
 mD:mg "_law_draws"=some (.ref t.Zp)
 mC:mg "_law_block"=some (.ref t.Zo)
 mF:mg "_law_shape"=some (.ref t.Zr)
 Kb:mg "_law_places"=some (.ref t.zh)
 nO:mg "_law_done"=some (.ref t.gF)
 nP:mg "_law_laid"=some (.ref t.gG)
 bC:mg "_law_is"=some (.ref t.mj)
 nQ:mg "_law_same"=some (.ref t.gH)
 qL:mg "law"=some (.ref t.gE)
 lS:mg "CopperError"=some (.ref t.kX)
 rC:mg "NoShape"=some (.ref t.JM)
 rA:mg "NoBoard"=some (.ref t.vz)
 rB:mg "NoPlace"=some (.ref t.UL)
 br:eX K mg "NoBoard" t.vz
 Y6:eX K mg "NoPlace" t.UL
 UM:eX K mg "NoShape" t.JM
 uf:mg "isinstance"=none
 fJ:mg "int"=none
 cg:mg "bool"=none
 m7:mg "list"=none
 GF:mg "tuple"=none
 Ku:mg "len"=none
 Ui:mg "range"=none
 Vm:mg "min"=none
 fM:mg "max"=none
 fN:mg "zip"=none
 UG:mg "sorted"=none
 qX:mg "set"=none
 fI:mg "abs"=none
 ci:mg "dict"=none
 Zv:mg "MOST_WIDE"=some (.int 12 t.M7)
 Zu:mg "MOST_HIGH"=some (.int 12 t.M0)
 Ys:mg "MOST_LAYERS"=some (.int 3 t.GV)
 yp:mg "MOST_CORNERS"=some (.int 40 t.Gm)
 di:mg "WIDTHS"=some (.ref t.yQ)
 N1:∃fd,Jh K "is_whole" "is_whole" Gc t.gD fd∧ju K fd ["value"] []
 KC:∃fd,yN K "__init__" "Board.__init__" zx t.za fd∧ju K fd ["self","wide","high","layers"] []∧∃u,ju K fd ["self","wide","high","layers"] [u]∧jE (.int 1) u
 kI:∃fd,yN K "cells" "Board.cells" Yz t.Ym fd∧ju K fd ["self","z"] []∧∃u,ju K fd ["self","z"] [u]∧jE .non u
 kL:∃fd,Jh K "holes" "Board.holes" YC t.Yp fd∧ju K fd ["self"] []
 KB:∃fd,ZO K "copy" "Board.copy" U5 t.Y9 fd t.vO t.j8∧ju K fd ["self"] []
 Zc:∃fd,yN K "is_copper" "Board.is_copper" Ve t.vY fd∧ju K fd ["self","x","y","z"] []∧∃u,ju K fd ["self","x","y","z"] [u]∧jE (.int 0) u
 nk:∃fd,yN K "lay" "Board.lay" ZC t.Zk fd∧ju K fd ["self","shape","z"] []∧∃u,ju K fd ["self","shape","z"] [u]∧jE (.int 0) u
 kJ:∃fd,yN K "clear" "Board.clear" YA t.Yn fd∧ju K fd ["self","shape","z"] []∧∃u,ju K fd ["self","shape","z"] [u]∧jE (.int 0) u
 nq:∃fd,Jh K "put" "Board.put" ZD t.Zl fd∧ju K fd ["self","cells"] []
 KF:∃fd,Jh K "take" "Board.take" zA t.zd fd∧ju K fd ["self","cells"] []
 kK:∃fd,Jh K "drill" "Board.drill" YB t.Yo fd∧ju K fd ["self","x","y"] []
 KD:∃fd,Jh K "plug" "Board.plug" zy t.zb fd∧ju K fd ["self","x","y"] []
 ZN:∃fd,Jh K "has_hole" "Board.has_hole" VN t.Vz fd∧ju K fd ["self","x","y"] []
 gb:∃fd,Jh K "same_as" "Board.same_as" V5 t.VW fd∧ju K fd ["self","other"] []
 ga:∃fd,Jh K "redrawn" "Board.redrawn" V4 t.VV fd∧ju K fd ["self","wide","high","place"] []
 Zb:∃fd,Jh K "has_layer" "Board.has_layer" Vd t.vX fd∧ju K fd ["self","z"] []
 YO:∃fd,Jh K "has_square" "Board.has_square" vM t.vC fd∧ju K fd ["self","x","y"] []
 ZM:∃fd,Jh K "has_cell" "Board.has_cell" VM t.Vy fd∧ju K fd ["self","cell"] []
 YH:∃fd,Jh K "need_square" "Board.need_square" va t.U7 fd∧ju K fd ["self","x","y"] []
 YQ:∃fd,Jh K "need_cells" "Board.need_cells" vN t.vD fd∧ju K fd ["self","cells"] []
 YI:∃fd,Jh K "shape_cells" "Board.shape_cells" vb t.U8 fd∧ju K fd ["self","shape","z"] []
 Gr:∃fd,Jh K "need_measure" "need_measure" yF t.yo fd∧ju K fd ["measure","most"] []
 KA:∃fd,Jh K "__init__" "Block.__init__" zw t.Y8 fd∧ju K fd ["self","x","y","wide","high"] []
 kH:∃fd,Jh K "cells" "Block.cells" Yy t.Yl fd∧ju K fd ["self"] []
 ni:∃fd,Jh K "box" "Block.box" ZB t.Zj fd∧ju K fd ["self"] []
 nv:∃fd,Jh K "__init__" "Line.__init__" ZF t.Zn fd∧ju K fd ["self","corners","width"] []
 KH:∃fd,Jh K "cells" "Line.cells" zC t.zf fd∧ju K fd ["self"] []
 NZ:∃fd,Jh K "box" "Line.box" Gb t.gC fd∧ju K fd ["self"] []
 KG:∃fd,Jh K "__init__" "Frame.__init__" zB t.ze fd∧ju K fd ["self","x","y","wide","high","thick"] []
 kM:∃fd,Jh K "cells" "Frame.cells" YD t.Yq fd∧ju K fd ["self"] []
 nu:∃fd,Jh K "box" "Frame.box" ZE t.Zm fd∧ju K fd ["self"] []
 VS:∃fd,Jh K "steps_from_edge" "Frame.steps_from_edge" Uq t.Um fd∧ju K fd ["self","place"] []
 KL:∃fd,Jh K "need_whole" "need_whole" zF t.zi fd∧ju K fd ["numbers"] []
 gc:∃fd,Jh K "need_from_one" "need_from_one" V6 t.VX fd∧ju K fd ["numbers"] []
 Gq:∃fd,Jh K "need_corners" "need_corners" yE t.yn fd∧ju K fd ["corners"] []
 KI:∃fd,Jh K "box_places" "box_places" zD t.zg fd∧ju K fd ["x","y","wide","high"] []
 kO:∃fd,Jh K "_law_cell_at" "_law_cell_at" YE t.Yr fd∧ju K fd ["_law_script","_law_k"] []
 nz:∃fd,Jh K "_law_mixed" "_law_mixed" ZI t.Zq fd∧ju K fd ["_law_cell","_law_k"] []
 ny:∃fd,Jh K "_law_draws" "_law_draws" ZH t.Zp fd∧ju K fd ["_law_script"] []
 nw:∃fd,Jh K "_law_block" "_law_block" ZG t.Zo fd∧ju K fd ["_law_draw","_law_size"] []
 nA:∃fd,Jh K "_law_shape" "_law_shape" ZJ t.Zr fd∧ju K fd ["_law_form","_law_x","_law_y","_law_wide","_law_high"] []
 KJ:∃fd,Jh K "_law_places" "_law_places" zE t.zh fd∧ju K fd ["_law_form","_law_x","_law_y","_law_z","_law_wide","_law_high"] []
 N2:∃fd,Jh K "_law_done" "_law_done" Ge t.gF fd∧ju K fd ["_law_board","_law_table","_law_holes","_law_draw","_law_size"] []
 N3:∃fd,Jh K "_law_laid" "_law_laid" Gf t.gG fd∧ju K fd ["_law_board","_law_deed","_law_shape_here","_law_z","_law_left_out"] []
 cZ:∃fd,Jh K "_law_is" "_law_is" MG t.mj fd∧ju K fd ["_law_found","_law_due"] []
 N4:∃fd,Jh K "_law_same" "_law_same" Gg t.gH fd∧ju K fd ["_law_board","_law_table","_law_holes","_law_size"] []
 qD:∃fd,Jh K "law" "law" aL t.gE fd∧∀(s:Shared) (u:Value),BindsTo s fd ⟨[u],[]⟩ [("_law_script",u)]
 Yu:codeHdIn K t.vO t.j8=true
 Kc:K.lookup t.j8=none
 dW:∀H,jw K H t.yQ [.int 1,.int 3]
section
variable {K:sZ}{x q a:Str}{st:Stmt}{f c p D C:Addr}{oc kV dc pm cd ct u tt:Value}{od an dd:tL}{sl ds:tG}{ps:tH}{v:V}{n:Nat}
theorem Va (h:findIn K (.ref C) a=some none):Jf K C a:=h
theorem JF (l:K.lookup f=some ⟨oc,od,.func (fnOf x q (Jp st) (Jb st) (jp st) .none kV dc pm an cd ct),sl⟩) (e:codeIn K cd q=true) (k:keepIn K (.ref f)=true)
  (h:∀(kV doc pm:Value) (an:tL) (cdv ct:Value) (us:tz),us.length=ps.length→bindArgs (fnOf x q (Jp st) (Jb st) (jp st) .none kV doc pm an cdv ct) ⟨us,[]⟩=pure (ps.zip us):=by first|(exact fun _ _ _ _ _ _ us hl=>match us,hl with|[_],_=>rfl)|(exact fun _ _ _ _ _ _ us hl=>match us,hl with|[_,_],_=>rfl)|(exact fun _ _ _ _ _ _ us hl=>match us,hl with|[_,_,_],_=>rfl)|(exact fun _ _ _ _ _ _ us hl=>match us,hl with|[_,_,_,_],_=>rfl)|(exact fun _ _ _ _ _ _ us hl=>match us,hl with|[_,_,_,_,_],_=>rfl)|(exact fun _ _ _ _ _ _ us hl=>match us,hl with|[_,_,_,_,_,_],_=>rfl)):∃fd,Jh K x q st f fd∧ju K fd ps [] :=
 ⟨_,mB l e k,(mB l e k).binds h⟩
theorem sD (l:K.lookup f=some ⟨oc,od,.func (fnOf x q (Jp st) (Jb st) (jp st) .none kV dc pm an (.ref c) ct),sl⟩) (e:codeIn K (.ref c) q=true) (k:keepIn K (.ref f)=true)
  {k1:Value} {k2:tL} {kv:tI} {k4:tG} (ko:K.lookup c=some ⟨k1,k2,.fields kv,k4⟩) (kp:kv[11]?=some (.ref p)) (g:codeHdIn K c p=true)
  (h:∀(kV doc pm:Value) (an:tL) (cdv ct:Value) (us:tz),us.length=ps.length→bindArgs (fnOf x q (Jp st) (Jb st) (jp st) .none kV doc pm an cdv ct) ⟨us,[]⟩=pure (ps.zip us):=by first|(exact fun _ _ _ _ _ _ us hl=>match us,hl with|[_],_=>rfl)|(exact fun _ _ _ _ _ _ us hl=>match us,hl with|[_,_],_=>rfl)|(exact fun _ _ _ _ _ _ us hl=>match us,hl with|[_,_,_],_=>rfl)|(exact fun _ _ _ _ _ _ us hl=>match us,hl with|[_,_,_,_],_=>rfl)|(exact fun _ _ _ _ _ _ us hl=>match us,hl with|[_,_,_,_,_],_=>rfl)|(exact fun _ _ _ _ _ _ us hl=>match us,hl with|[_,_,_,_,_,_],_=>rfl)):∃fd,ZO K x q st f fd c p∧ju K fd ps [] :=
 ⟨_,Nw l e k g,(Nw l e k g).binds h⟩
theorem bB (l:K.lookup f=some ⟨oc,od,.func (fnOf x q (Jp st) (Jb st) (jp st) (.ref D) kV dc pm an cd ct),sl⟩) (e:codeIn K cd q=true) (k:keepIn K (.ref f)=true) (dl:K.lookup D=some ⟨tt,dd,.seq [u].toArray n,ds⟩) (r:jE v u)
  (h1:∀us:List Value,us.length=ps.length→∃k:Option (Array Value)→Sem (List (Str×Value)),bindArgs (fnOf x q (Jp st) (Jb st) (jp st) (.ref D) kV dc pm an cd ct) ⟨us,[]⟩=seqItems? (.ref D)>>=k∧k (some [u].toArray)=pure (ps.zip us):=by first|(exact fun us hl=>match us,hl with|[_],_=>⟨_,rfl,rfl⟩)|(exact fun us hl=>match us,hl with|[_,_],_=>⟨_,rfl,rfl⟩)|(exact fun us hl=>match us,hl with|[_,_,_],_=>⟨_,rfl,rfl⟩)|(exact fun us hl=>match us,hl with|[_,_,_,_],_=>⟨_,rfl,rfl⟩)|(exact fun us hl=>match us,hl with|[_,_,_,_,_],_=>⟨_,rfl,rfl⟩)|(exact fun us hl=>match us,hl with|[_,_,_,_,_,_],_=>⟨_,rfl,rfl⟩))
  (h2:∀us:List Value,us.length+1=ps.length→∃k:Option (Array Value)→Sem (List (Str×Value)),bindArgs (fnOf x q (Jp st) (Jb st) (jp st) (.ref D) kV dc pm an cd ct) ⟨us,[]⟩=seqItems? (.ref D)>>=k∧k (some [u].toArray)=pure (ps.zip (us++[u])):=by first|(exact fun us hl=>match us,hl with|[_],_=>⟨_,rfl,rfl⟩)|(exact fun us hl=>match us,hl with|[_,_],_=>⟨_,rfl,rfl⟩)|(exact fun us hl=>match us,hl with|[_,_,_],_=>⟨_,rfl,rfl⟩)|(exact fun us hl=>match us,hl with|[_,_,_,_],_=>⟨_,rfl,rfl⟩)|(exact fun us hl=>match us,hl with|[_,_,_,_,_],_=>⟨_,rfl,rfl⟩)|(exact fun us hl=>match us,hl with|[_,_,_,_,_,_],_=>⟨_,rfl,rfl⟩)) :
  ∃fd,yN K x q st f fd∧ju K fd ps []∧∃u,ju K fd ps [u]∧jE v u :=
 ⟨_,iD l e k,om rfl dl rfl h1,u,oq rfl dl rfl h2,r⟩
theorem sA {w:V}{u':Value} (l:K.lookup f=some ⟨.type "tuple",dd,.seq [u,u'].toArray n,ds⟩) (h:2≤sizeLine) (r:jE v u) (r':jE w u'):∀H,jw K H f [v,w] :=
 fun H=>.inr ⟨_,_,_,l,rfl,rfl,h,.cons r (.cons r' .nil)⟩
end
def Zw:V→Bool|.int _=>true|.bl _=>true|_=>false
def ue:V→Bool|.int _=>true|_=>false
def Yt:V→Bool|.int i=>decide (1≤i)|_=>false
theorem Nx:∀{xs:List V},xs.all ue=true→∃ns:List Int,xs=ns.map V.int
 | [],_=>⟨[],rfl⟩
 | .int i::r,h=>by
  rw [List.all_cons,Bool.and_eq_true] at h
  obtain⟨ns,e⟩:=Nx h.2
  exact⟨i::ns,by rw [e];rfl⟩
 | .non::_,h=>by simp [ue] at h
 | .bl _::_,h=>by simp [ue] at h
 | .str _::_,h=>by simp [ue] at h
 | .byt _::_,h=>by simp [ue] at h
 | .flt _::_,h=>by simp [ue] at h
 | .ref _::_,h=>by simp [ue] at h
 | .ty _::_,h=>by simp [ue] at h
theorem iH {v:V} (h:Yt v=true):ue v=true:=by cases v<;>simp_all [Yt,ue]
theorem ii {p q:V→Bool} (f:∀v,p v=true→q v=true) {xs:List V} (h:xs.all p=true):xs.all q=true:=List.all_eq_true.mpr fun v hv=>f v (List.all_eq_true.mp h v hv)
theorem uU {b:Bool}{A B:Prop} (h1:b=false→A) (h2:b=true→B):if (!b)=true then A else B:=by
 cases b
 ·exact (if_pos (show (!false)=true from rfl))▸h1 rfl
 ·rw [if_neg (by decide)];exact h2 rfl
theorem JE {c A B:Prop} [Decidable c] (h1:c→A) (h2:¬c→B):if decide c=true then A else B:=by
 by_cases h:c
 ·rw [if_pos (decide_eq_true h)];exact h1 h
 ·rw [if_neg (by simp [h])];exact h2 h
theorem jn {p:Addr}{H H':Hp}{o:HO} (x:jg H H') (hp:H' p=none):jg H (L2.upd H' p o):=fun b u e=>by
 have:=x b u e
 rw [ji (jq this hp)];exact this
theorem mS {n:Int} (h0:0≤n) (h1:n<1000):Lg n:=by
 have h:n.natAbs<1000:=by omega
 exact qW (Nat.lt_trans h (by decide))
abbrev j4:=List (List Key×V)
def fB (w h l:Int) (c d:Addr):List (Str×V):=[("wide",.int w),("high",.int h),("layers",.int l),("copper",.ref c),("drilled",.ref d)]
theorem oF (w h l:Int) (c d:Addr):Js "drilled" (.ref d) (Js "copper" (.ref c) (Js "layers" (.int l) (Js "high" (.int h) (Js "wide" (.int w) []))))=fB w h l c d:=by kernel_rfl
def ZA (m:Int) (most:Int):Prop:=1≤m∧m≤most
def gS (v:V) (most:Int):Prop:=match v with|.int m=>ZA m most|_=>False
def inB (x w:Int):Bool:=decide (0≤x)&&decide (x<w)
section
variable {P:tM}{w:World}{K:sZ}{mg:tj}{base:Heap}{t:Adr}
def yJ (H:Hp):V→Prop|.int _=>True|.bl _=>True|.str _=>True|.non=>True|.ref p=>∃xs,H p=some (.tup xs)|_=>False
theorem yJ.ofN {H:Hp}{v:V} (h:Zw v=true):yJ H v:=by cases v<;>first|trivial|cases h
def kA:Sp:=fun vs H Q _=>∃v,vs=[v]∧yJ H v∧Q (.bl (ue v)) H
theorem Uw (T:Txt K mg t):uy P w K mg base 1 "is_whole" ["value"] kA:=by
 obtain⟨fd,F,b⟩:=T.N1
 refine⟨_,fd,F.okX Na (fun vs H Q E h=>?_) (fun cdv A outer s H vs Q E hr h=>?_),b,F.kp,T.ak⟩
 ·obtain⟨v,rfl,_⟩:=h
  rfl
 ·obtain⟨v,rfl,hv,k⟩:=h
  refine⟨_,(jm (jF (uI (jO UD (by rfl) T.uf uc (ja (pv 0) (ja (vj (v:=.ty "int") (by rfl) T.fJ fi rfl) jf))) (uJ (pS (jO UD (by rfl) T.uf uc (ja (pv 0) (ja (vj (v:=.ty "bool") (by rfl) T.cg a7 rfl) jf)))))))),?_⟩
  cases v with
  | int i=>exact⟨_,rfl,.int i,.ty "int",_,_,true,rfl,.int i,.ty _,by kernel_rfl,true,rfl,JU ⟨_,rfl,.int i,.ty "bool",_,_,false,rfl,.int i,.ty _,by kernel_rfl,false,rfl,k⟩⟩
  | bl x=>exact⟨_,rfl,.bl x,.ty "int",_,_,true,rfl,.bl x,.ty _,by kernel_rfl,true,rfl,JU ⟨_,rfl,.bl x,.ty "bool",_,_,true,rfl,.bl x,.ty _,by kernel_rfl,true,rfl,k⟩⟩
  | str x=>exact⟨_,rfl,.str x,.ty "int",_,_,false,rfl,.str x,.ty _,by kernel_rfl,false,rfl,Jx k⟩
  | non=>exact⟨_,rfl,.non,.ty "int",_,_,false,rfl,.non,.ty _,by kernel_rfl,false,rfl,Jx k⟩
  | ref p =>
   obtain⟨xs,e⟩:=hv
   exact⟨_,rfl,.ref p,.ty "int",_,_,false,rfl,.tup e,.ty _,by kernel_rfl,false,rfl,Jx k⟩
  | _=>cases hv
def qj (K:sZ):Sp:=fun vs H Q _=>∃(a:Addr) (ns:List Int) (k:Int),vs=[.ref a,.int k]∧jD K H a (ns.map V.int)∧0≤k∧k<1000∧ns.length≤63∧Q (.int (ns.getD k.toNat 0)) H
theorem yx (T:Txt K mg t):uy P w K mg base 1 "_law_cell_at" ["_law_script","_law_k"] (qj K):=by
 obtain⟨fd,F,b⟩:=T.kO
 refine⟨_,fd,F.okX GS (fun vs H Q E h=>?_) (fun cdv A outer s H vs Q E hr h=>?_),b,F.kp,T.GA⟩
 ·obtain⟨a,ns,k,rfl,_⟩:=h
  rfl
 ·obtain⟨a,ns,k,rfl,hq,h0,h1,hl,q⟩:=h
  refine⟨_,(jj (jU (jH U2 (pv 1) (jO UW (by rfl) T.Ku Kr (ja (pv 0) jf)) (jy _)) (jm (jF (jN iM (pv 0) (pv 1) (fun _ _=>rfl)))) jP)
   (jm (jF jh))),?_⟩
  refine⟨_,rfl,_,rfl,a,_,rfl,.inl hq,k,_,rfl,rfl,_,rfl,JE (fun hlt=>?_) fun hge=>?_⟩
  ·rw [List.length_map] at hlt
   have e:((k.toNat:Nat):Int)=k:=by omega
   refine⟨_,rfl,_,rfl,a,_,k,.int (ns.getD k.toNat 0),rfl,rfl,hq,?_,q⟩
   have hlt2:k.toNat<ns.length:=by omega
   have hz:(ns.map V.int)[k.toNat]?=some (V.int (ns.getD k.toNat 0)):=by
    rw [List.getElem?_map,List.getD_eq_getElem?_getD,List.getElem?_eq_getElem hlt2];rfl
   have hz2:=Nh hz
   rwa [e] at hz2
  ·rw [List.length_map] at hge
   have e:ns.getD k.toNat 0=0:=by rw [List.getD_eq_getElem?_getD,List.getElem?_eq_none (by omega)];rfl
   rw [e] at q
   exact q
def Kq (C:Addr):Sp:=fun vs H Q E=>∃(v:V) (most:Int),vs=[v,.int most]∧yJ H v∧(gS v most→Q .non H)∧(¬gS v most→E (.ref C) none H)
theorem gU (T:Txt K mg t):uy P w K mg base 2 "need_measure" ["measure","most"] (Kq t.vz):=by
 obtain⟨fd,F,b⟩:=T.Gr
 have G_is_whole:=Uw (P:=P) (w:=w) (base:=base) T
 refine⟨_,fd,F.okX Gh (fun vs H Q E h=>?_) (fun cdv A outer s H vs Q E hr h=>?_),b,F.kp,T.GC⟩
 ·obtain⟨v,most,rfl,_⟩:=h
  rfl
 ·obtain⟨v,most,rfl,hv,q,e⟩:=h
  refine⟨_,(jm (jU (uk (Jg (Jc (jx G_is_whole hr.m jk (by rfl) (ja (pv 0) jf)))) (JT (Jg (MA y6 y6 jh (pv 0) (pv 1))))).pt (jm (uE J0 rfl T.br rfl (ja (dN (by decide) (by decide) (by decide) (by decide) (Uj (v:=.int 12) (by rfl) T.Zv ⟨_,rfl⟩) (Uj (v:=.int 12) (by rfl) T.Zu ⟨_,rfl⟩) (Uj (v:=.int 3) (by rfl) T.Ys ⟨_,rfl⟩)) jf))) jP)),?_⟩
  have l12:gg (.int 12):=.inl ⟨12,rfl,mS (by decide) (by decide)⟩
  have l3:gg (.int 3):=.inl ⟨3,rfl,mS (by decide) (by decide)⟩
  have bad:¬gS v most→(gg (.int 12)∧gg (.int 12)∧gg (.int 3)∧∀z:Str,1≤sizeLine∧E (.ref t.vz) none H):=fun n=>⟨l12,l12,l3,fun z=>⟨by decide,e n⟩⟩
  refine⟨_,rfl,v,rfl,hv,ue v,rfl,uU (fun hf=>bad fun z=>?_) fun ht=>?_⟩
  ·cases v<;>first|exact z|cases hf
  ·cases v with
   | int m =>
    refine⟨_,rfl,1,m,rfl,rfl,_,rfl,JE (fun h1=>⟨_,rfl,m,most,rfl,rfl,_,rfl,uU (fun h2=>bad fun z=>of_decide_eq_false h2 z.2) fun h2=>q ⟨h1,of_decide_eq_true h2⟩⟩) fun h1=>⟨_,rfl,JU (bad fun z=>h1 z.1)⟩⟩
   | _=>cases ht
def lE (C NB:Addr):Sp:=fun vs H Q E=>∃(o dx:Addr) (m1 m2 m3:V),vs=[.ref o,m1,m2,m3]∧H o=some (.ins C dx [])∧yJ H m1∧yJ H m2∧yJ H m3 ∧
 (∀w h l:Int,m1=.int w→m2=.int h→m3=.int l→ZA w 12→ZA h 12→ZA l 3→∀c d H',(∀b u,b≠o→H b=some u→H' b=some u)→H' o=some (.ins C dx (fB w h l c d))→H' c=some (.dT [])→H' d=some (.dT [])→H c=none→H d=none→c≠d→c≠o→d≠o→Q .non H')∧(¬(gS m1 12∧gS m2 12∧gS m3 3)→E (.ref NB) none H)
theorem Yv (T:Txt K mg t):gi P w K mg base 3 "Board" t.jl ["self","wide","high","layers"] (.int 1) (lE t.jl t.vz):=by
 obtain⟨fd,F,b,u,bu,ru⟩:=T.KC
 have G_need_measure:=gU (P:=P) (w:=w) (base:=base) T
 refine⟨_,fd,u,T.hV,F.okX Kk (fun vs H Q E h=>?_) (fun cdv A outer s H vs Q E hr h=>?_),b,bu,ru,T.iF⟩
 ·obtain⟨o,dx,m1,m2,m3,rfl,_⟩:=h
  rfl
 ·obtain⟨o,dx,m1,m2,m3,rfl,ho,a1,a2,a3,kQ,kE⟩:=h
  refine⟨_,(jj (jA (jx G_need_measure hr.m jk (by rfl) (ja (pv 1) (ja (Uj (v:=.int 12) (by rfl) T.Zv ⟨_,rfl⟩) jf))))
   (jj (jA (jx G_need_measure hr.m jk (by rfl) (ja (pv 2) (ja (Uj (v:=.int 12) (by rfl) T.Zu ⟨_,rfl⟩) jf))))
   (jj (jA (jx G_need_measure hr.m jk (by rfl) (ja (pv 3) (ja (Uj (v:=.int 3) (by rfl) T.Ys ⟨_,rfl⟩) jf))))
   (jj (JS (pv 0) (pv 1) rfl)
   (jj (JS (pv 0) (pv 2) rfl)
   (jj (JS (pv 0) (pv 3) rfl)
   (jj (JS (pv 0) y9 rfl)
   (jm (JS (pv 0) y9 rfl))))))))),?_⟩
  refine⟨_,rfl,m1,12,rfl,a1,fun g1=>?_,fun n=>kE fun z=>n z.1⟩
  refine⟨_,rfl,m2,12,rfl,a2,fun g2=>?_,fun n=>kE fun z=>n z.2.1⟩
  refine⟨_,rfl,m3,3,rfl,a3,fun g3=>?_,fun n=>kE fun z=>n z.2.2⟩
  obtain⟨w1,rfl⟩:∃n,m1=.int n:=by cases m1<;>first|exact⟨_,rfl⟩|cases g1
  obtain⟨w2,rfl⟩:∃n,m2=.int n:=by cases m2<;>first|exact⟨_,rfl⟩|cases g2
  obtain⟨w3,rfl⟩:∃n,m3=.int n:=by cases m3<;>first|exact⟨_,rfl⟩|cases g3
  refine⟨_,rfl,_,rfl,o,_,dx,_,rfl,ho,T.js,T.uw,(by decide),?_⟩
  refine⟨_,rfl,_,rfl,o,_,dx,_,rfl,je,T.js,T.uv,Nat.le_of_ble_eq_true (by kernel_rfl),?_⟩
  refine⟨_,rfl,_,rfl,o,_,dx,_,rfl,je,T.js,T.JN,Nat.le_of_ble_eq_true (by kernel_rfl),?_⟩
  intro c hc
  have nco:c≠o:=fun z=>by rw [z,je] at hc;cases hc
  have Hc:H c=none:=by rw [ji nco,ji nco,ji nco] at hc;exact hc
  refine⟨_,rfl,o,_,dx,_,rfl,by rw [ji (Ne.symm nco)];exact je,T.js,T.Jo,Nat.le_of_ble_eq_true (by kernel_rfl),?_⟩
  intro d hd
  have ndo:d≠o:=fun z=>by rw [z,je] at hd;cases hd
  have ndc:d≠c:=fun z=>by rw [z,ji nco,je] at hd;cases hd
  have Hd:H d=none:=by rw [ji ndo,ji ndc,ji ndo,ji ndo,ji ndo] at hd;exact hd
  refine⟨_,rfl,o,_,dx,_,rfl,by rw [ji (Ne.symm ndo)];exact je,T.js,T.Jy,Nat.le_of_ble_eq_true (by kernel_rfl),?_⟩
  refine kQ w1 w2 w3 rfl rfl rfl g1 g2 g3 c d _ (fun b u hb e=>?_) ?_ ?_ ?_ Hc Hd (Ne.symm ndc) nco ndo
  ·rw [ji hb,ji (jq e Hd),ji hb,ji (jq e Hc),ji hb,ji hb,ji hb];exact e
  ·rw [je,oF]
  ·rw [ji nco,ji (Ne.symm ndc),ji nco];exact je
  ·rw [ji ndo];exact je
end
end K11
namespace K11
open PySem L2 Wd
abbrev oR (a:Addr):Option V:=some (.ref a)
abbrev oI (n:Int):Option V:=some (.int n)
theorem MF:0≤sizeLine:=by decide
theorem fW:1≤sizeLine:=by decide
theorem UQ:2≤sizeLine:=by decide
theorem vL:3≤sizeLine:=by decide
theorem qf:4≤sizeLine:=by decide
theorem sJ:5≤sizeLine:=by decide
theorem yU {wi:TI}{g:TG}{tb:TS}{D:uP}{σ:St}{H:Hp} (h:∀C,(∀J H1,eO (fun _ H Q=>Q J H) g tb D σ H1→C J H1)→wi σ H C):eO wi g tb D σ H:=h _ fun _ _ x=>x
theorem Jn {K:sZ}{i:Nat}{f:Str}{σ:St}{H:Hp}{Q:VK}{o C dx:Addr}{fs:List (Str×V)} (v:V) (e:H o=some (.ins C dx fs)) (c:vw K C) (n:Jf K C f) (q:Q v H) (e0:σ[i]?=some (oR o):=by rfl) (l:fs.lookup f=some v:=by kernel_rfl):eN K (yf i) f σ H Q:=⟨_,e0,o,C,dx,fs,v,rfl,e,c,n,l,q⟩
theorem Jj {K:sZ}{i:Nat}{j:Int}{σ:St}{H:Hp}{Q:VK}{p:Addr}{xs:List V} (v:V) (e:jw K H p xs) (q:Q v H) (e0:σ[i]?=some (oR p):=by rfl) (a:K1 xs j=some v:=by first|rfl|exact Nh rfl):cR (dX K) (yf i) (tC (.int j)) σ H Q:=⟨_,e0,p,xs,j,v,rfl,rfl,e,a,q⟩
theorem jT {C:Addr}{m:Str}{sp:Sp}{dvs:List V}{E:XK}{i:Nat}{t:TA}{σ:St}{H:Hp}{Q:VK}{o dx:Addr}{fs:List (Str×V)} (e:H o=some (.ins C dx fs)) (q:t σ H fun vs H2=>sp (.ref o::(vs++dvs)) H2 Q E) (e0:σ[i]?=some (oR o):=by rfl) (l:fs.lookup m=none:=by rfl):Kx C m sp dvs E (yf i) t σ H Q:=⟨_,e0,o,dx,fs,rfl,e,l,q⟩
section
variable {P:tM}{w:World}{K:sZ}{mg:tj}{base:Heap}{t:Adr}
def Nc (C:Addr):Sp:=fun vs H Q _=>∃(o dx c d:Addr) (w h l x y:Int),vs=[.ref o,.int x,.int y]∧H o=some (.ins C dx (fB w h l c d))∧Q (.bl (inB x w&&inB y h)) H
theorem ui (T:Txt K mg t):Ju P w K mg base 2 t.jl "has_square" ["self","x","y"] (Nc t.jl):=by
 obtain⟨fd,F,b⟩:=T.YO
 have G_is_whole:=Uw (P:=P) (w:=w) (base:=base) T
 refine⟨T.js,_,fd,T.YX,F.okX YL (fun vs H Q E h=>?_) (fun cdv A outer s H vs Q E hr h=>?_),b⟩
 ·obtain⟨o,dx,c,d,w,h,l,x,y,rfl,_⟩:=h
  rfl
 ·obtain⟨o,dx,c,d,w,h,l,x,y,rfl,ho,q⟩:=h
  refine⟨_,(jm (jF (uI (jx G_is_whole hr.m jk (by rfl) (ja (pv 1) jf)) (uI (jx G_is_whole hr.m jk (by rfl) (ja (pv 2) jf)) (uI (y8 y6 U2 jh (pv 1) (jv (pv 0) rfl)) (uJ (y8 y6 U2 jh (pv 2) (jv (pv 0) rfl)))))))),?_⟩
  refine⟨_,rfl,.int x,rfl,trivial,true,rfl,JU ⟨_,rfl,.int y,rfl,trivial,true,rfl,JU ?_⟩⟩
  have fin:∀b:Bool,(inB x w&&inB y h)=b→Q (.bl b) H:=fun b e=>e▸q
  refine⟨_,rfl,0,x,rfl,rfl,_,rfl,JE (fun h1=>Jn (.int w) ho T.js T.uw ⟨x,w,rfl,rfl,_,rfl,JE (fun h2=>?_) fun h2=>fin _ (by simp [inB,h2])⟩) fun h1=>⟨_,rfl,Jx (fin _ (by simp [inB,h1]))⟩⟩
  refine⟨_,rfl,0,y,rfl,rfl,_,rfl,JE (fun h3=>Jn (.int h) ho T.js T.uv ⟨y,h,rfl,rfl,fin _ (by simp [inB,h1,h2,h3])⟩) fun h3=>fin _ (by simp [inB,h3])⟩
def aO (C:Addr):Sp:=fun vs H Q _=>∃(o dx c d:Addr) (w h l z:Int),vs=[.ref o,.int z]∧H o=some (.ins C dx (fB w h l c d))∧Q (.bl (inB z l)) H
theorem vG (T:Txt K mg t):Ju P w K mg base 2 t.jl "has_layer" ["self","z"] (aO t.jl):=by
 obtain⟨fd,F,b⟩:=T.Zb
 have G_is_whole:=Uw (P:=P) (w:=w) (base:=base) T
 refine⟨T.js,_,fd,T.Zd,F.okX zG (fun vs H Q E h=>?_) (fun cdv A outer s H vs Q E hr h=>?_),b⟩
 ·obtain⟨o,dx,c,d,w,h,l,z,rfl,_⟩:=h
  rfl
 ·obtain⟨o,dx,c,d,w,h,l,z,rfl,ho,q⟩:=h
  refine⟨_,(jm (jF (uI (jx G_is_whole hr.m jk (by rfl) (ja (pv 1) jf)) (uJ (y8 y6 U2 jh (pv 1) (jv (pv 0) rfl)))))),?_⟩
  have fin:∀b:Bool,inB z l=b→Q (.bl b) H:=fun b e=>e▸q
  refine⟨_,rfl,.int z,rfl,trivial,true,rfl,JU ?_⟩
  refine⟨_,rfl,0,z,rfl,rfl,_,rfl,JE (fun h1=>Jn (.int l) ho T.js T.JN ⟨z,l,rfl,rfl,fin _ (by simp [inB,h1])⟩) fun h1=>fin _ (by simp [inB,h1])⟩
def cK (C:Addr):Sp:=fun vs H Q _=>∃(o dx c d p:Addr) (w h l x y z:Int),vs=[.ref o,.ref p]∧H o=some (.ins C dx (fB w h l c d))∧H p=some (.tup [.int x,.int y,.int z])∧Q (.bl (inB x w&&inB y h&&inB z l)) H
theorem Vb (T:Txt K mg t):Ju P w K mg base 3 t.jl "has_cell" ["self","cell"] (cK t.jl):=by
 obtain⟨fd,F,b⟩:=T.ZM
 have G_Board_has_square:=ui (P:=P) (w:=w) (base:=base) T
 have G_Board_has_layer:=vG (P:=P) (w:=w) (base:=base) T
 refine⟨T.js,_,fd,T.ZP,F.okX Zf (fun vs H Q E h=>?_) (fun cdv A outer s H vs Q E hr h=>?_),b⟩
 ·obtain⟨o,dx,c,d,p,w,h,l,x,y,z,rfl,_⟩:=h
  rfl
 ·obtain⟨o,dx,c,d,p,w,h,l,x,y,z,rfl,ho,hp,q⟩:=h
  refine⟨_,(jj (jU (uk (Jg (Jc (jO UD (by rfl) T.uf uc (ja (pv 1) (ja (vj (v:=.ty "tuple") (by rfl) T.GF Gv rfl) jf))))) (JT (jH gW (jO UW (by rfl) T.Ku Kr (ja (pv 1) jf)) jh (jy _)))).pt (jm (jF uj)) jP)
   (jm (jF (uI (jz (pv 0) G_Board_has_square hr.m jk (ja (jN jG (pv 1) jh (fun _ _=>rfl)) (ja (jN jG (pv 1) jh (fun _ _=>rfl)) jf))) (uJ (jz (pv 0) G_Board_has_layer hr.m jk (ja (jN jG (pv 1) jh (fun _ _=>rfl)) jf))))))),?_⟩
  have S:jw K H p [.int x,.int y,.int z]:=jw.of hp
  refine⟨_,rfl,.ref p,.ty "tuple",_,_,true,rfl,.tup hp,.ty _,by kernel_rfl,true,rfl,Jx ?_⟩
  refine⟨_,rfl,p,_,rfl,.inr S,rfl,_,rfl,uU (fun z=>absurd (of_decide_eq_false z rfl) (fun z=>z)) fun _=>?_⟩
  have fin:∀b:Bool,(inB x w&&inB y h&&inB z l)=b→Q (.bl b) H:=fun b e=>e▸q
  refine jT ho (Jj (.int x) S (Jj (.int y) S ⟨o,dx,c,d,w,h,l,x,y,rfl,ho,_,rfl,?_⟩))
  cases h1:(inB x w&&inB y h) with
  | false=>exact Jx (fin _ (by rw [h1];rfl))
  | true=>exact JU (jT ho (Jj (.int z) S ⟨o,dx,c,d,w,h,l,z,rfl,ho,fin _ (by rw [h1];rfl)⟩))
def aP (C:Addr):Sp:=fun vs H Q _=>∃(o dx c d:Addr) (w h l x y z:Int) (cs:j4),vs=[.ref o,.int x,.int y,.int z]∧H o=some (.ins C dx (fB w h l c d))∧H c=some (.dT cs) ∧
 ∀H',jg H H'→Q (.bl (inB x w&&inB y h&&inB z l&&(uo cs [.inl x,.inl y,.inl z]).isSome)) H'
theorem vH (T:Txt K mg t):vx P w K mg base 4 t.jl "is_copper" ["self","x","y","z"] (.int 0) (aP t.jl):=by
 obtain⟨fd,F,b,u,bu,ru⟩:=T.Zc
 have G_Board_has_cell:=Vb (P:=P) (w:=w) (base:=base) T
 refine⟨T.js,_,fd,u,T.Ze,F.okX zH (fun vs H Q E h=>?_) (fun cdv A outer s H vs Q E hr h=>?_),b,bu,ru⟩
 ·obtain⟨o,dx,c,d,w,h,l,x,y,z,cs,rfl,_⟩:=h
  rfl
 ·obtain⟨o,dx,c,d,w,h,l,x,y,z,cs,rfl,ho,hc,q⟩:=h
  refine⟨_,(jm (jF (uI (jz (pv 0) G_Board_has_cell hr.m jk (ja (jS (ja (pv 1) (ja (pv 2) (ja (pv 3) jf)))) jf)) (uJ (VH (VG (UY hr) (jS (ja (pv 1) (ja (pv 2) (ja (pv 3) jf)))) (jv (pv 0) rfl))))))),?_⟩
  refine jT ho ⟨_,rfl,_,rfl,_,rfl,vL,fun p hp=>?_⟩
  have s1:jg H (upd H p (.tup [.int x,.int y,.int z])):=jn (jg.refl H) hp
  refine⟨o,dx,c,d,p,w,h,l,x,y,z,rfl,s1 _ _ ho,je,_,rfl,?_⟩
  cases h1:(inB x w&&inB y h&&inB z l) with
  | false=>exact Jx (by have:=q _ s1;rw [h1] at this;exact this)
  | true =>
   refine JU ⟨_,rfl,_,rfl,_,rfl,vL,fun p2 hp2=>?_⟩
   have s2:=jn (o:=.tup [.int x,.int y,.int z]) s1 hp2
   refine Jn (.ref c) (s2 _ _ ho) T.js T.Jo ⟨c,_,rfl,Vr.t (k:=[.inl x,.inl y,.inl z]) (s2 _ _ hc) je,?_⟩
   have:=q _ s2
   rw [h1,Bool.true_and] at this
   exact this
def cL (C:Addr):Sp:=fun vs H Q _=>∃(o dx c d:Addr) (w h l x y:Int) (ds:j4),vs=[.ref o,.int x,.int y]∧H o=some (.ins C dx (fB w h l c d))∧H d=some (.dT ds) ∧
 ∀H',jg H H'→Q (.bl (inB x w&&inB y h&&(uo ds [.inl x,.inl y]).isSome)) H'
theorem Vc (T:Txt K mg t):Ju P w K mg base 3 t.jl "has_hole" ["self","x","y"] (cL t.jl):=by
 obtain⟨fd,F,b⟩:=T.ZN
 have G_Board_has_square:=ui (P:=P) (w:=w) (base:=base) T
 refine⟨T.js,_,fd,T.ZQ,F.okX Zg (fun vs H Q E h=>?_) (fun cdv A outer s H vs Q E hr h=>?_),b⟩
 ·obtain⟨o,dx,c,d,w,h,l,x,y,ds,rfl,_⟩:=h
  rfl
 ·obtain⟨o,dx,c,d,w,h,l,x,y,ds,rfl,ho,hd,q⟩:=h
  refine⟨_,(jm (jF (uI (jz (pv 0) G_Board_has_square hr.m jk (ja (pv 1) (ja (pv 2) jf))) (uJ (VH (VG (UY hr) (jS (ja (pv 1) (ja (pv 2) jf))) (jv (pv 0) rfl))))))),?_⟩
  refine jT ho ⟨_,rfl,_,rfl,o,dx,c,d,w,h,l,x,y,rfl,ho,_,rfl,?_⟩
  cases h1:(inB x w&&inB y h) with
  | false=>exact Jx (by have:=q _ (jg.refl H);rw [h1] at this;exact this)
  | true =>
   refine JU ⟨_,rfl,_,rfl,UQ,fun p2 hp2=>?_⟩
   have s2:=jn (o:=.tup [.int x,.int y]) (jg.refl H) hp2
   refine Jn (.ref d) (s2 _ _ ho) T.js T.Jy ⟨d,_,rfl,Vr.t (k:=[.inl x,.inl y]) (s2 _ _ hd) je,?_⟩
   have:=q _ s2
   rw [h1,Bool.true_and] at this
   exact this
end
end K11
namespace K11
open PySem L2 Wd
theorem UC:bootBuiltins "sorted"=some (.builtin "sorted"):=by decide +kernel
def jV (H:Hp) (ps:tD) (cl:tf):Prop:=ps.length=cl.length∧∀(i:Nat) (p:Addr) (c:Int×Int×Int),ps[i]?=some p→cl[i]?=some c→H p=some (.tup [.int c.1,.int c.2.1,.int c.2.2])
theorem jV.same {H H':Hp}{ps:tD}{cl:tf} (C:jV H ps cl) (s:jg H H'):jV H' ps cl:=⟨C.1,fun i p c h1 h2=>s _ _ (C.2 i p c h1 h2)⟩
def k3 (c:Int×Int×Int):List Key:=[.inl c.1,.inl c.2.1,.inl c.2.2]
def j7 (cs:j4) (cl:tf):j4:=cl.foldl (fun t c=>Je t (k3 c) (.bl true)) cs
theorem Ye (cl:tf):∀cs:j4,(j7 cs cl).length≤cs.length+cl.length:=by
 induction cl with
 | nil=>intro cs;exact Nat.le_refl _
 | cons c r ih =>
  intro cs
  have h1:=ih (Je cs (k3 c) (.bl true))
  have h2:=vp cs (k3 c) (.bl true)
  show (j7 (Je cs (k3 c) (.bl true)) r).length≤_
  rw [List.length_cons];omega
theorem n9 (cs:j4) (cl:tf) (c:Int×Int×Int):j7 cs (cl++[c])=Je (j7 cs cl) (k3 c) (.bl true):=by
 unfold j7;rw [List.foldl_append];rfl
def Uo (w h l:Int) (c:Int×Int×Int):Bool:=inB c.1 w&&inB c.2.1 h&&inB c.2.2 l
section
variable {P:tM}{w:World}{K:sZ}{mg:tj}{base:Heap}{t:Adr}
def MU (C NP:Addr):Sp:=fun vs H Q E=>∃(o dx c d:Addr) (w h l x y:Int),vs=[.ref o,.int x,.int y]∧H o=some (.ins C dx (fB w h l c d))∧((inB x w&&inB y h)=true→Q .non H)∧((inB x w&&inB y h)=false→E (.ref NP) none H)
theorem UZ (T:Txt K mg t):Ju P w K mg base 3 t.jl "need_square" ["self","x","y"] (MU t.jl t.UL):=by
 obtain⟨fd,F,b⟩:=T.YH
 have G_Board_has_square:=ui (P:=P) (w:=w) (base:=base) T
 refine⟨T.js,_,fd,T.YJ,F.okX Yf (fun vs H Q E h=>?_) (fun cdv A outer s H vs Q E hr h=>?_),b⟩
 ·obtain⟨o,dx,c,d,w,h,l,x,y,rfl,_⟩:=h
  rfl
 ·obtain⟨o,dx,c,d,w,h,l,x,y,rfl,ho,q,e⟩:=h
  refine⟨_,(jm (jU (Jg (Jc (jz (pv 0) G_Board_has_square hr.m jk (ja (pv 1) (ja (pv 2) jf))))) (jm (uE J0 rfl T.Y6 rfl (ja vJ jf))) jP)),?_⟩
  exact jT ho ⟨_,rfl,_,rfl,o,dx,c,d,w,h,l,x,y,rfl,ho,_,rfl,uU (fun hf=>⟨by show 1≤sizeLine;decide,e hf⟩) fun ht=>q ht⟩
def cM (C NP:Addr):Sp:=fun vs H Q E=>∃(o dx c d a:Addr) (ps:tD) (cl:tf) (w h l:Int),vs=[.ref o,.ref a]∧H o=some (.ins C dx (fB w h l c d))∧H a=some (.lst (ps.map V.ref))∧jV H ps cl∧(cl.all (Uo w h l)=true→Q .non H)∧(cl.all (Uo w h l)=false→E (.ref NP) none H)
theorem U9 (T:Txt K mg t):Ju P w K mg base 4 t.jl "need_cells" ["self","cells"] (cM t.jl t.UL):=by
 obtain⟨fd,F,b⟩:=T.YQ
 have G_Board_has_cell:=Vb (P:=P) (w:=w) (base:=base) T
 refine⟨T.js,_,fd,T.YY,F.okX ve (fun vs H Q E h=>?_) (fun cdv A outer s H vs Q E hr h=>?_),b⟩
 ·obtain⟨o,dx,c,d,a,ps,cl,w,h,l,rfl,_⟩:=h
  rfl
 ·obtain⟨o,dx,c,d,a,ps,cl,w,h,l,rfl,ho,ha,hp,q,e⟩:=h
  refine⟨_,(jm (JJ Jq (uK (pv 1)) (jL (i:=2) ve.nd rfl (Or.inl rfl)) (jm (jU (Jg (Jc (jz (pv 0) G_Board_has_cell hr.m jk (ja (pv 2) jf)))) (jm (uE J0 rfl T.Y6 rfl (ja vJ jf))) jP)))),?_⟩
  refine yU fun X0 k0=>⟨_,rfl,a,rfl,⟨_,jD.of ha⟩,k0 _ _ (Ue (xs:=ps.map V.ref) (fun i σ H2=>(∃v,σ=[oR o,oR a,v])∧H=H2∧(cl.take i).all (Uo w h l)=true) ⟨⟨_,rfl⟩,rfl,by simp⟩ (fun i σ H2 _ ⟨_,e,_⟩=>e▸jD.of ha) ?_ ?_)⟩
  ·rintro i v σ H2 hx ⟨⟨u,rfl⟩,rfl,hall⟩
   rw [List.getElem?_map] at hx
   obtain⟨p,e1,rfl⟩:=Option.map_eq_some_iff.mp hx
   have hi:i<cl.length:=by rw [←hp.1];exact (List.getElem?_eq_some_iff.mp e1).1
   have e2:=List.getElem?_eq_getElem hi
   refine jT ho ⟨_,rfl,o,dx,c,d,p,w,h,l,cl[i].1,cl[i].2.1,cl[i].2.2,rfl,ho,hp.2 i p _ e1 e2,_,rfl,uU (fun hf=>⟨by show 1≤sizeLine;decide,e ?_⟩) fun ht=>⟨⟨_,rfl⟩,rfl,?_⟩⟩
   ·exact Bool.eq_false_iff.mpr fun z=>by
     have:=List.all_eq_true.mp z _ (List.getElem_mem hi)
     unfold Uo at this;rw [this] at hf;cases hf
   ·rw [List.take_add_one,e2,List.all_append,hall]
    simpa [Uo] using ht
  ·rintro σ H2 ⟨⟨u,rfl⟩,rfl,hall⟩
   rw [List.length_map,hp.1,List.take_length] at hall
   exact q hall
def qt (C NP:Addr):Sp:=fun vs H Q E=>∃(o dx c d a:Addr) (ps:tD) (cl:tf) (w h l:Int) (cs:j4),vs=[.ref o,.ref a]∧H o=some (.ins C dx (fB w h l c d))∧H a=some (.lst (ps.map V.ref))∧jV H ps cl∧H c=some (.dT cs)∧cs.length+cl.length≤1000 ∧
 (cl.all (Uo w h l)=true→Q .non (upd H c (.dT (j7 cs cl))))∧(cl.all (Uo w h l)=false→E (.ref NP) none H)
theorem U0 (T:Txt K mg t):Ju P w K mg base 5 t.jl "put" ["self","cells"] (qt t.jl t.UL):=by
 obtain⟨fd,F,b⟩:=T.nq
 have G_Board_need_cells:=U9 (P:=P) (w:=w) (base:=base) T
 refine⟨T.js,_,fd,T.nF,F.okX zI (fun vs H Q E h=>?_) (fun cdv A outer s H vs Q E hr h=>?_),b⟩
 ·obtain⟨o,dx,c,d,a,ps,cl,w,h,l,cs,rfl,_⟩:=h
  rfl
 ·obtain⟨o,dx,c,d,a,ps,cl,w,h,l,cs,rfl,ho,ha,hp,hc,hl,q,e⟩:=h
  refine⟨_,(jj (jA (jz (pv 0) G_Board_need_cells hr.m jk (ja (pv 1) jf)))
   (jm (JJ Jq (uK (pv 1)) (jL (i:=2) zI.nd rfl (Or.inl rfl)) (jm (zX (UY hr) (jv (pv 0) rfl) (pv 2) uj rfl))))),?_⟩
  refine jT ho ⟨_,rfl,o,dx,c,d,a,ps,cl,w,h,l,rfl,ho,ha,hp,fun hb=>?_,e⟩
  have nac:a≠c:=jX ha hc (by intro z;cases z)
  have noc:o≠c:=jX ho hc (by intro z;cases z)
  refine⟨_,rfl,a,rfl,⟨_,jD.of ha⟩,Ue (xs:=ps.map V.ref) (fun i σ H2=>∃v,σ=[oR o,oR a,v]∧H2=upd H c (.dT (j7 cs (cl.take i)))) ⟨_,rfl,?_⟩ (fun i σ H2 _ ⟨_,_,e⟩=>?_) ?_ ?_⟩
  ·funext x
   by_cases e:x=c
   ·rw [e,je,hc];rfl
   ·rw [ji e]
  ·subst e
   exact jD.of (by rw [ji nac];exact ha)
  ·rintro i v σ H2 hx ⟨u,rfl,rfl⟩
   rw [List.getElem?_map] at hx
   obtain⟨p,e1,rfl⟩:=Option.map_eq_some_iff.mp hx
   have hi:i<cl.length:=by rw [←hp.1];exact (List.getElem?_eq_some_iff.mp e1).1
   have e2:=List.getElem?_eq_getElem hi
   have e3:=hp.2 i p _ e1 e2
   have npc:p≠c:=jX e3 hc (by intro z;cases z)
   have hlen:=Ye (cl.take i) cs
   rw [List.length_take] at hlen
   refine⟨_,rfl,o,_,dx,_,.ref c,rfl,by rw [ji noc];exact ho,T.js,T.Jo,rfl,_,rfl,c,_,rfl,YN.t (kvs:=j7 cs (cl.take i)) (k:=k3 cl[i]) je (by rw [ji npc];exact e3) (Nat.lt_of_le_of_lt (show _≤1000 by omega) (by decide)),_,rfl,?_⟩
   funext x
   rw [List.take_succ,e2,show (some cl[i]).toList=[cl[i]] from rfl,n9]
   by_cases e:x=c
   ·rw [e,je,je]
   ·rw [ji e,ji e,ji e]
  ·rintro σ H2 ⟨u,rfl,rfl⟩
   rw [List.length_map,hp.1,List.take_of_length_le (Nat.le_refl _)]
   exact q hb
def JA (cs:j4) (cl:tf):j4:=cl.foldl (fun t c=>uS t (k3 c)) cs
theorem mf (cs:j4) (cl:tf) (c:Int×Int×Int):JA cs (cl++[c])=uS (JA cs cl) (k3 c):=by
 unfold JA;rw [List.foldl_append];rfl
def qu (C:Addr):Sp:=fun vs H Q _=>∃(o dx c d a:Addr) (ps:tD) (cl:tf) (w h l:Int) (cs:j4),vs=[.ref o,.ref a]∧H o=some (.ins C dx (fB w h l c d))∧H a=some (.lst (ps.map V.ref))∧jV H ps cl∧H c=some (.dT cs)∧cl.all (Uo w h l)=true ∧
 Q .non (upd H c (.dT (JA cs cl)))
theorem vR (T:Txt K mg t):Ju P w K mg base 5 t.jl "take" ["self","cells"] (qu t.jl):=by
 obtain⟨fd,F,b⟩:=T.KF
 have G_Board_need_cells:=U9 (P:=P) (w:=w) (base:=base) T
 refine⟨T.js,_,fd,T.KU,F.okX YF (fun vs H Q E h=>?_) (fun cdv A outer s H vs Q E hr h=>?_),b⟩
 ·obtain⟨o,dx,c,d,a,ps,cl,w,h,l,cs,rfl,_⟩:=h
  rfl
 ·obtain⟨o,dx,c,d,a,ps,cl,w,h,l,cs,rfl,ho,ha,hp,hc,hb,q⟩:=h
  refine⟨_,(jj (jA (jz (pv 0) G_Board_need_cells hr.m jk (ja (pv 1) jf)))
   (jm (JJ Jq (uK (pv 1)) (jL (i:=2) YF.nd rfl (Or.inl rfl)) (jm (jA (vv PySem.F.plainAttrs_dict PySem.F.slot_dict_pop PySem.F.type_dict_pop (zV hr.units) (jv (pv 0) rfl) (ja (pv 2) (ja gX jf)))))))),?_⟩
  refine jT ho ⟨_,rfl,o,dx,c,d,a,ps,cl,w,h,l,rfl,ho,ha,hp,fun _=>?_,fun z=>absurd hb (by rw [z];decide)⟩
  have nac:a≠c:=jX ha hc (by intro z;cases z)
  have noc:o≠c:=jX ho hc (by intro z;cases z)
  refine⟨_,rfl,a,rfl,⟨_,jD.of ha⟩,Ue (xs:=ps.map V.ref) (fun i σ H2=>∃v,σ=[oR o,oR a,v]∧H2=upd H c (.dT (JA cs (cl.take i)))) ⟨_,rfl,?_⟩ (fun i σ H2 _ ⟨_,_,e⟩=>?_) ?_ ?_⟩
  ·funext x
   by_cases e:x=c
   ·rw [e,je,hc];rfl
   ·rw [ji e]
  ·subst e
   exact jD.of (by rw [ji nac];exact ha)
  ·rintro i v σ H2 hx ⟨u,rfl,rfl⟩
   rw [List.getElem?_map] at hx
   obtain⟨p,e1,rfl⟩:=Option.map_eq_some_iff.mp hx
   have hi:i<cl.length:=by rw [←hp.1];exact (List.getElem?_eq_some_iff.mp e1).1
   have e2:=List.getElem?_eq_getElem hi
   have e3:=hp.2 i p _ e1 e2
   have npc:p≠c:=jX e3 hc (by intro z;cases z)
   refine⟨_,rfl,o,_,dx,_,.ref c,rfl,by rw [ji noc];exact ho,T.js,T.Jo,rfl,.inr (.inr (.inl ⟨rfl,.inr ⟨_,je⟩⟩)),_,rfl,c,p,JA cs (cl.take i),k3 cl[i],rfl,rfl,je,by rw [ji npc];exact e3,fun v=>⟨_,rfl,?_⟩⟩
   funext x
   rw [List.take_succ,e2,show (some cl[i]).toList=[cl[i]] from rfl,mf]
   by_cases e:x=c
   ·rw [e,je,je]
   ·rw [ji e,ji e,ji e]
  ·rintro σ H2 ⟨u,rfl,rfl⟩
   rw [List.length_map,hp.1,List.take_of_length_le (Nat.le_refl _)]
   exact q
def lH (C NP:Addr):Sp:=fun vs H Q E=>∃(o dx c d:Addr) (w h l x y:Int) (ds:j4),vs=[.ref o,.int x,.int y]∧H o=some (.ins C dx (fB w h l c d))∧H d=some (.dT ds)∧ds.length≤1000 ∧
 ((inB x w&&inB y h)=true→∀p,H p=none→Q .non (upd (upd H p (.tup [.int x,.int y])) d (.dT (Je ds [.inl x,.inl y] (.bl true)))))∧((inB x w&&inB y h)=false→E (.ref NP) none H)
theorem vi (T:Txt K mg t):Ju P w K mg base 4 t.jl "drill" ["self","x","y"] (lH t.jl t.UL):=by
 obtain⟨fd,F,b⟩:=T.kK
 have G_Board_need_square:=UZ (P:=P) (w:=w) (base:=base) T
 refine⟨T.js,_,fd,T.kT,F.okX GQ (fun vs H Q E h=>?_) (fun cdv A outer s H vs Q E hr h=>?_),b⟩
 ·obtain⟨o,dx,c,d,w,h,l,x,y,ds,rfl,_⟩:=h
  rfl
 ·obtain⟨o,dx,c,d,w,h,l,x,y,ds,rfl,ho,hd,hl,q,e⟩:=h
  refine⟨_,(jj (jA (jz (pv 0) G_Board_need_square hr.m jk (ja (pv 1) (ja (pv 2) jf))))
   (jm (zX (UY hr) (jv (pv 0) rfl) (jS (ja (pv 1) (ja (pv 2) jf))) uj rfl))),?_⟩
  refine jT ho ⟨_,rfl,_,rfl,o,dx,c,d,w,h,l,x,y,rfl,ho,fun hb=>?_,e⟩
  refine⟨_,rfl,o,_,dx,_,.ref d,rfl,ho,T.js,T.Jy,rfl,_,rfl,_,rfl,UQ,fun p hp=>?_⟩
  have ndp:d≠p:=jq hd hp
  exact⟨d,_,rfl,YN.t (k:=[.inl x,.inl y]) (by rw [ji ndp];exact hd) je (Nat.lt_of_le_of_lt hl (by decide)),q hb p hp⟩
def qr (C:Addr):Sp:=fun vs H Q _=>∃(o dx c d:Addr) (w h l x y:Int) (ds:j4),vs=[.ref o,.int x,.int y]∧H o=some (.ins C dx (fB w h l c d))∧(inB x w&&inB y h)=true∧H d=some (.dT ds) ∧
 ∀p,H p=none→Q .non (upd (upd H p (.tup [.int x,.int y])) d (.dT (uS ds [.inl x,.inl y])))
theorem Yw (T:Txt K mg t):Ju P w K mg base 4 t.jl "plug" ["self","x","y"] (qr t.jl):=by
 obtain⟨fd,F,b⟩:=T.KD
 have G_Board_need_square:=UZ (P:=P) (w:=w) (base:=base) T
 refine⟨T.js,_,fd,T.KS,F.okX Kl (fun vs H Q E h=>?_) (fun cdv A outer s H vs Q E hr h=>?_),b⟩
 ·obtain⟨o,dx,c,d,w,h,l,x,y,ds,rfl,_⟩:=h
  rfl
 ·obtain⟨o,dx,c,d,w,h,l,x,y,ds,rfl,ho,hb,hd,q⟩:=h
  refine⟨_,(jj (jA (jz (pv 0) G_Board_need_square hr.m jk (ja (pv 1) (ja (pv 2) jf))))
   (jm (jA (vv PySem.F.plainAttrs_dict PySem.F.slot_dict_pop PySem.F.type_dict_pop (zV hr.units) (jv (pv 0) rfl) (ja (jS (ja (pv 1) (ja (pv 2) jf))) (ja gX jf)))))),?_⟩
  refine jT ho ⟨_,rfl,_,rfl,o,dx,c,d,w,h,l,x,y,rfl,ho,fun _=>?_,fun z=>absurd hb (by rw [z];decide)⟩
  refine⟨_,rfl,o,_,dx,_,.ref d,rfl,ho,T.js,T.Jy,rfl,.inr (.inr (.inl ⟨rfl,.inr ⟨_,hd⟩⟩)),_,rfl,_,rfl,UQ,fun p hp=>?_⟩
  have ndp:d≠p:=jq hd hp
  exact⟨d,p,ds,[.inl x,.inl y],rfl,rfl,by rw [ji ndp];exact hd,je,fun v=>q p hp⟩
end
end K11
namespace K11
open PySem L2 Wd TS
theorem jM.same {H H':Hp}{bs:tD}{ks:List (List Key)} (k:jM H bs ks) (s:jg H H'):jM H' bs ks:=⟨k.1,fun i p c h1 h2=>s _ _ (k.2 i p c h1 h2)⟩
theorem jM.snoc {H:Hp}{ps:tD}{ks:List (List Key)}{p:Addr}{k:List Key} (C:jM H ps ks) (hp:H p=some (.tup (k.map kV))):jM H (ps++[p]) (ks++[k]):=⟨by rw [List.length_append,List.length_append,C.1];rfl,fun i q d h1 h2=>by
 by_cases h:i<ps.length
 ·rw [List.getElem?_append_left h] at h1
  rw [List.getElem?_append_left (C.1▸h)] at h2
  exact C.2 i q d h1 h2
 ·rw [List.getElem?_append_right (by omega)] at h1
  rw [List.getElem?_append_right (by rw [←C.1];omega),←C.1] at h2
  generalize i - ps.length=m at h1 h2
  cases m with
  | zero=>cases h1;cases h2;exact hp
  | succ m=>cases h1⟩
theorem jM.wr {H:Hp}{D:Addr}{ps:tD}{ks:List (List Key)}{u u':HO} (C:jM H ps ks) (hD:H D=some u) (n:∀xs,u≠.tup xs):jM (upd H D u') ps ks:=⟨C.1,fun i q d h1 h2=>by
 have e:=C.2 i q d h1 h2
 rw [ji (jX e hD (fun z=>n _ z.symm))];exact e⟩
theorem ku {α β:Type}{r:α→β→Prop}:∀{l:List α} {m:List β} {i:Nat} {x:α} {y:β},Paired r l m→l[i]?=some x→m[i]?=some y→r x y
 | _,_,i,x,y,.nil,h,_=>by cases h
 | _,_,0,x,y,.cons h t,h1,h2=>by cases h1;cases h2;exact h
 | _,_,i+1,x,y,.cons h t,h1,h2=>ku (i:=i) t h1 h2
section
variable {P:tM}{w:World}{K:sZ}{mg:tj}{base:Heap}{t:Adr}
theorem G7 {P:tM}{w:World}{g:TG}{tc:TT}{te:TE}{k:Nat}{σ:St}{H:Hp}{Q:VK}{a:Addr}{kvs:j4}{o:Obj}{xs:List (List Key×Addr×Value)} (f:List Key→Bool) (hz:kvs.length≤sizeLine) (kt:KT H kvs xs) (ea:H a=some (yj a o))
  (hg:∀(r:Addr) (kv:List Key×V) (H':Hp) (Qy:VK) (Qn:Hp→Prop),kv∈kvs→jg H H'→H' r=some (.tup (kv.1.map kV))→(f kv.1=true→Qy (.ref r) H')→(f kv.1=false→Qn H')→g (.ref r) (σ++List.replicate k none) H' fun σ2 H2=>(∃zs,σ2=σ++zs∧zs.length=k)∧tc σ2 H2 fun b H3=>if b=true then te σ2 H3 Qy else Qn H3)
  (q:∀D rs H',jg H H'→H D=none→H' D=some (.lst (rs.map V.ref))→jM H' rs ((kvs.map (·.1)).filter f)→Q (.ref D) H'):yR k g tc te σ Q (lX a o xs) H:=by
 have hl:kvs.length=xs.length:=Paired.length kt
 intro D hD
 refine⟨fun i m ys H'=>m=xs.length - i∧i≤xs.length∧jg H H'∧H' D=some (.lst ys)∧ys.length≤i∧∃rs:List Addr,ys=rs.map V.ref∧jM H' rs (((kvs.map (·.1)).take i).filter f),⟨xs.length,by simp,Nat.zero_le _,jn (jg.refl H) hD,je,Nat.le_refl _,[],rfl,rfl,fun i p c h=>by cases h⟩,?_⟩
 rintro i m ys H' ⟨rfl,hi,s',eD,hy,rs,rfl,C⟩
 refine⟨eD,?_⟩
 by_cases hlt:i<xs.length
 ·refine .inr ⟨⟨s' _ _ ea,hlt⟩,Nat.lt_of_le_of_lt hy (by omega),?_⟩
  rintro x H'' ⟨rfl,y,hy1,rfl⟩
  have hik:i<kvs.length:=by omega
  obtain⟨e1,e2,e3⟩:kvs[i].1=y.1∧H y.2.1=some (.tup (kvs[i].1.map kV))∧jE kvs[i].2 y.2.2:=by
   have:=ku kt (List.getElem?_eq_getElem hik) hy1
   exact this
  have hk:(kvs.map (·.1))[i]?=some kvs[i].1:=by rw [List.getElem?_map,List.getElem?_eq_getElem hik];rfl
  have tk:∀b:Bool,f kvs[i].1=b→((kvs.map (·.1)).take (i+1)).filter f=((kvs.map (·.1)).take i).filter f++(if b=true then [kvs[i].1] else []):=fun b hb=>by
   rw [List.take_add_one,hk,List.filter_append]
   congr 1
   cases b<;>simp [hb]
  refine hg y.2.1 kvs[i] H'' _ _ (List.getElem_mem hik) s' (s' _ _ e2) (fun hb=>?_) fun hb=>?_
  ·refine⟨eD,xs.length - (i+1),by omega,rfl,hlt,fun b u e=>?_,je,by rw [List.length_append];exact Nat.succ_le_succ hy,rs++[y.2.1],by rw [List.map_append];rfl,?_⟩
   ·rw [ji (jq e hD)];exact s' b u e
   ·rw [tk true hb,if_pos rfl]
    exact jM.wr (jM.snoc C (s' _ _ e2)) eD (by intro xs z;cases z)
  ·refine⟨xs.length - (i+1),by omega,rfl,hlt,s',eD,by omega,rs,rfl,?_⟩
   rw [tk false hb,if_neg (by decide),List.append_nil]
   exact C
 ·obtain rfl:i=xs.length:=by omega
  rw [List.take_of_length_le (by rw [List.length_map];omega)] at C
  exact .inl ⟨⟨s' _ _ ea,Nat.le_refl _⟩,q D rs H' s' hD eD C⟩
def eF (C:Addr):Sp:=fun vs H Q _=>∃(o dx c d:Addr) (w h l:Int) (cs:j4),vs=[.ref o,.non]∧H o=some (.ins C dx (fB w h l c d))∧H c=some (.dT cs)∧(∀kv∈cs,sd kv.1=[true,true,true]) ∧
 ∀p bs ks,H p=none→jM H bs ks→ks.Perm (cs.map (·.1))→(ks.Pairwise fun a b=>lx b a=false)→Q (.ref p) (upd H p (.lst (bs.map V.ref)))
def kr (z:Int) (k:List Key):Bool:=decide (k[2]?=some (Sum.inl z))
theorem Mp (z:Int) (a:Int×Int×Int):kr z (k3 a)=decide (a.2.2=z):=by
 unfold kr k3
 rw [decide_eq_decide]
 constructor
 ·intro h
  injection h with h
  injection h
 ·intro h
  rw [←h];rfl
def eG (C:Addr):Sp:=fun vs H Q _=>∃(o dx c d:Addr) (w h l z:Int) (cs:j4),vs=[.ref o,.int z]∧H o=some (.ins C dx (fB w h l c d))∧H c=some (.dT cs)∧(∀kv∈cs,∃a,kv.1=k3 a) ∧
 ∀p bs ks H',jg H H'→H p=none→H' p=some (.lst (bs.map V.ref))→jM H' bs ks→ks.Perm (if inB z l=true then (cs.map (·.1)).filter (kr z) else [])→(ks.Pairwise fun a b=>lx b a=false)→Q (.ref p) H'
def lF (C:Addr):Sp:=fun vs H Q E=>eF C vs H Q E∨eG C vs H Q E
theorem yv (T:Txt K mg t):vx P w K mg base 3 t.jl "cells" ["self","z"] .non (lF t.jl):=by
 obtain⟨fd,F,b,u,bu,ru⟩:=T.kI
 have G_Board_has_layer:=vG (P:=P) (w:=w) (base:=base) T
 refine⟨T.js,_,fd,u,T.kR,F.okX GO (fun vs H Q E h=>?_) (fun cdv A outer s H vs Q E hr h=>?_),b,bu,ru⟩
 ·rcases h with ⟨o,dx,c,d,w,h,l,cs,rfl,_⟩|⟨o,dx,c,d,w,h,l,z,cs,rfl,_⟩<;>rfl
 ·refine⟨_,(jj (jU (pY (pP (pv 1))) (jm (jF (jO (UX rfl) (by rfl) T.UG UC (ja (jv (pv 0) rfl) jf)))) jP)
   (jj (jU (Jg (Jc (jz (pv 0) G_Board_has_layer hr.m jk (ja (pv 1) jf)))) (jm (jF (ug jf))) jP)
   (jm (jF (jO Y3 (by rfl) T.UG UC (ja (NN (vk (own:=["cell"]) (Vx (n:="z") (N:=["self","z"]) rfl (by rfl) (by rfl) rfl (by rfl) (by decide +kernel) (by decide +kernel) (by decide +kernel)) (Mv rfl (jv (pv 0) rfl)) (fun _ _ _ _ _=>jL (i:=2) (by show (["self","z","cell"]:tH).Nodup;decide +kernel) rfl (Or.inl rfl)) (fun _ _ _ _ _=>Mu (jH j9 (jN (zS (K:=K) rfl) (pv 2) jh (fun _ _=>rfl)) (pv 1) (jy _))) (fun _ _ _ _ _=>(pv 2)))) jf)))))),?_⟩
  rcases h with ⟨o,dx,c,d,w',h,l,cs,rfl,ho,hc,hs,q⟩|⟨o,dx,c,d,w',h,l,z,cs,rfl,ho,hc,hs,q1⟩
  ·exact⟨_,rfl,_,rfl,JU (Jn (.ref c) ho T.js T.Jo ⟨c,cs,_,rfl,hc,hs,by decide,fun p bs ks hp ka pm up=>q p bs ks hp ka pm up⟩)⟩
  ·refine⟨_,rfl,_,rfl,Jx (jT ho ⟨_,rfl,o,dx,c,d,w',h,l,z,rfl,ho,_,rfl,?_⟩)⟩
   refine uU (fun hf=>⟨MF,fun p hp=>q1 p [] [] _ (jn (jg.refl H) hp) hp je ⟨rfl,fun i p c h=>by cases h⟩ (by rw [hf,if_neg (by decide)]) List.Pairwise.nil⟩) fun ht=>?_
   refine⟨_,rfl,o,_,dx,_,.ref c,rfl,ho,T.js,T.Jo,rfl,c,cs,rfl,hc,fun ob xs hz hm kt dr=>?_⟩
   have n1:∀{b:Addr} {ts:List V},H b=some (.tup ts)→b≠c:=fun e=>jX e hc (fun z=>nomatch z)
   have kt1:KT (upd H c (yj c ob)) cs xs:=Paired.mapP kt fun x y r=>⟨r.1,by rw [ji (n1 r.2.1)];exact r.2.1,r.2.2⟩
   refine G7 (P:=P) (w:=w) (kr z) hz kt1 je (fun r kv H' Qy Qn hkv s' er kY kN=>?_) fun D rs H' s' hD eD ka=>?_
   ·obtain⟨a,ha⟩:=hs kv hkv
    rw [ha] at er kY kN
    rw [Mp] at kY kN
    refine⟨⟨_,rfl,rfl⟩,Jj (.int a.2.2) (jw.of er) ⟨_,rfl,rfl,_,rfl,JE (fun hh=>⟨_,rfl,kY ?_⟩) fun hh=>kN ?_⟩⟩
    ·exact decide_eq_true (V.int.inj hh)
    ·exact decide_eq_false fun z=>hh (by rw [z])
   ·have nDc:D≠c:=fun z=>by rw [z,je] at hD;cases hD
    have HD:H D=none:=by rw [ji nDc] at hD;exact hD
    have ec:=s' _ _ (je (H:=H) (a:=c) (o:=yj c ob))
    have nt:∀{b:Addr} {ts:List V},H' b=some (.tup ts)→b≠c:=fun e=>jX e ec (fun z=>nomatch z)
    have kt2:KT H' cs xs:=Paired.mapP kt1 fun x y r=>⟨r.1,s' _ _ r.2.1,r.2.2⟩
    have S2:jg H (upd H' c (.dT cs)):=fun b u e=>by
     by_cases hb:b=c
     ·rw [hb,je,←e,hb,hc]
     ·rw [ji hb];exact s' _ _ (by rw [ji hb];exact e)
    refine⟨c,ob,cs,xs,ec,hm,kt2,dr,hz,D,rs,_,[true,true,true],rfl,by rw [ji nDc];exact eD,jM.wr ka ec (fun xs z=>nomatch z),fun k hk=>?_,(fun z=>by cases z),fun l' bs' ks' hl' ka' pm up=>q1 l' bs' ks' _ (jn S2 hl') ?_ je (jM.same ka' (jn (jg.refl _) hl')) (by rw [ht,if_pos rfl];exact pm) up⟩
    ·obtain⟨kv,hkv,rfl⟩:=List.mem_map.mp (List.mem_filter.mp hk).1
     obtain⟨a,ha⟩:=hs kv hkv
     rw [ha];rfl
    ·cases e:H l' with
     | none=>rfl
     | some u=>rw [S2 _ _ e] at hl';cases hl'
def lJ (C:Addr):Sp:=fun vs H Q _=>∃(o dx c d:Addr) (w h l:Int) (ds:j4),vs=[.ref o]∧H o=some (.ins C dx (fB w h l c d))∧H d=some (.dT ds)∧(∀kv∈ds,sd kv.1=[true,true]) ∧
 ∀p bs ks,H p=none→jM H bs ks→ks.Perm (ds.map (·.1))→(ks.Pairwise fun a b=>lx b a=false)→Q (.ref p) (upd H p (.lst (bs.map V.ref)))
theorem yw (T:Txt K mg t):Ju P w K mg base 1 t.jl "holes" ["self"] (lJ t.jl):=by
 obtain⟨fd,F,b⟩:=T.kL
 refine⟨T.js,_,fd,T.kU,F.okX GR (fun vs H Q E h=>?_) (fun cdv A outer s H vs Q E hr h=>?_),b⟩
 ·obtain⟨o,dx,c,d,w,h,l,cs,rfl,_⟩:=h
  rfl
 ·obtain⟨o,dx,c,d,w,h,l,ds,rfl,ho,hc,hs,q⟩:=h
  refine⟨_,(jm (jF (jO (UX rfl) (by rfl) T.UG UC (ja (jv (pv 0) rfl) jf)))),?_⟩
  exact Jn (.ref d) ho T.js T.Jy ⟨d,ds,_,rfl,hc,hs,by decide,fun p bs ks hp ka pm up=>q p bs ks hp ka pm up⟩
end
end K11
namespace K11
open PySem L2 Wd TS
theorem J1 {a b:TS}{D:uP}{σ:St}{H:Hp} (R:St→Hp→Prop) (h1:∀B:TS,(∀σ H,R σ H→B D σ H)→u7 a B D σ H) (h2:∀σ H,R σ H→b D σ H):u7 a b D σ H:=h1 b h2
theorem ZL {a b:TS}{D:uP}{σ:St}{H:Hp} (s:St) (I:Hp→Prop) (h1:∀B:TS,(∀H,I H→B D s H)→u7 a B D σ H) (h2:∀H,I H→b D s H):u7 a b D σ H:=h1 b h2
theorem zJ {a b:TS}{D:uP}{σ:St}{H:Hp}{α:Type} (s:α→St) (I:α→Hp→Prop) (h1:∀B:TS,(∀x H,I x H→B D (s x) H)→u7 a B D σ H) (h2:∀x H,I x H→b D (s x) H):u7 a b D σ H:=h1 b h2
theorem sL {a b:TS}{D:uP}{σ:St}{H:Hp}{α β:Type} (s:α→β→St) (I:α→β→Hp→Prop) (h1:∀B:TS,(∀x y H,I x y H→B D (s x y) H)→u7 a B D σ H) (h2:∀x y H,I x y H→b D (s x y) H):u7 a b D σ H:=h1 b h2
theorem cF {a b:TS}{D:uP}{σ:St}{H:Hp}{α β γ:Type} (s:α→β→γ→St) (I:α→β→γ→Hp→Prop) (h1:∀B:TS,(∀x y z H,I x y z H→B D (s x y z) H)→u7 a B D σ H) (h2:∀x y z H,I x y z H→b D (s x y z) H):u7 a b D σ H:=h1 b h2
theorem NV {a b:TS}{D:uP}{σ:St}{H:Hp}{α β γ δ:Type} (s:α→β→γ→δ→St) (I:α→β→γ→δ→Hp→Prop) (h1:∀B:TS,(∀x y z u H,I x y z u H→B D (s x y z u) H)→u7 a B D σ H) (h2:∀x y z u H,I x y z u H→b D (s x y z u) H):u7 a b D σ H:=h1 b h2
theorem sM {a b:TS}{D:uP}{σ:St}{H:Hp}{α β γ δ ε:Type} (s:α→β→γ→δ→ε→St) (I:α→β→γ→δ→ε→Hp→Prop) (h1:∀B:TS,(∀x y z u v H,I x y z u v H→B D (s x y z u v) H)→u7 a B D σ H) (h2:∀x y z u v H,I x y z u v H→b D (s x y z u v) H):u7 a b D σ H:=h1 b h2
theorem uH {α:Type}{p q r:α→Prop}{G:Prop} (h:∃a,p a∧q a∧r a) (k:∀a,p a→q a→r a→G):G:=let ⟨a,x,y,z⟩:=h;k a x y z
theorem qU {b:Bool}{X Y:Prop} (e:b=true) (h:X):if b=true then X else Y:=by rw [if_pos e];exact h
theorem sN {a b:TS}{D:uP}{σ:St}{H:Hp}{α:Type} (s:α→α→α→α→α→α→St) (I:α→α→α→α→α→α→Hp→Prop) (h1:∀B:TS,(∀x y z u v w H,I x y z u v w H→B D (s x y z u v w) H)→u7 a B D σ H) (h2:∀x y z u v w H,I x y z u v w H→b D (s x y z u v w) H):u7 a b D σ H:=h1 b h2
theorem UE {i:Nat}{x:V}{σ:St}{H:Hp}{Q:St→Hp→Prop} (h:Q (σ.set i (some x)) H):gJ i x σ H Q:=h
theorem V8:∀{a b:List (List Key)},a.Perm b→(a.Pairwise fun x y=>lx y x=false)→(b.Pairwise fun x y=>lx y x=false)→a=b
 | [],b,p,_,_=>(List.nil_perm.mp p).symm
 | x::a,b,p,ha,hb=>by
  cases b with
  | nil=>exact absurd (List.perm_nil.mp p) (by simp)
  | cons y b =>
   obtain⟨h1,ha2⟩:=List.pairwise_cons.mp ha
   obtain⟨h2,hb2⟩:=List.pairwise_cons.mp hb
   have e:x=y:=by
    rcases List.mem_cons.mp (p.mem_iff.mp (List.mem_cons_self ..)) with e|hx
    ·exact e
    ·rcases List.mem_cons.mp (p.mem_iff.mpr (List.mem_cons_self ..)) with e|hy
     ·exact e.symm
     ·exact gR (h2 x hx) (h1 y hy)
   subst e
   rw [V8 (List.perm_cons x |>.mp p) ha2 hb2]
theorem Uf {a b:Int×Int×Int} (h:k3 a=k3 b):a=b:=by
 obtain⟨x,y,z⟩:=a
 obtain⟨u,v,r⟩:=b
 unfold k3 at h
 injection h with e1 h
 injection h with e2 h
 injection h with e3 _
 injection e1 with e1
 injection e2 with e2
 injection e3 with e3
 simp only at e1 e2 e3
 rw [e1,e2,e3]
def l7 (c:Addr) (H H':Hp):Prop:=∀b u,b≠c→H b=some u→H' b=some u
def sT:Key→Int|.inl n=>n|.inr _=>0
theorem eA {cs cs':j4} (p:(cs.map (·.1)).Perm (cs'.map (·.1))):Jl cs cs'=true:=by
 unfold Jl
 have hl:=p.length_eq
 rw [List.length_map,List.length_map] at hl
 rw [decide_eq_true hl,Bool.true_and,List.all_eq_true]
 intro k hk
 exact List.any_eq_true.mpr ⟨k,p.mem_iff.mp hk,decide_eq_true rfl⟩
theorem jV.of_key {H:Hp}{ps:tD}{cl:tf} (k:jM H ps (cl.map k3)):jV H ps cl:=⟨by rw [k.1,List.length_map],fun i p c h1 h2=>k.2 i p (k3 c) h1 (by rw [List.getElem?_map,h2];rfl)⟩
def k2 (p:Int×Int):List Key:=[.inl p.1,.inl p.2]
theorem uA {a b:Int×Int} (h:k2 a=k2 b):a=b:=by
 obtain⟨x,y⟩:=a
 obtain⟨u,v⟩:=b
 unfold k2 at h
 injection h with e1 h
 injection h with e2 _
 injection e1 with e1
 injection e2 with e2
 simp only at e1 e2
 rw [e1,e2]
theorem zQ {cl:tf}:∀k∈cl.map k3,∀c∈k,∃n,c=Sum.inl n:=fun k hk c hc=>by
 obtain⟨x,_,rfl⟩:=List.mem_map.mp hk
 unfold k3 at hc
 simp only [List.mem_cons,List.not_mem_nil,or_false] at hc
 rcases hc with h|h|h<;>exact⟨_,h⟩
theorem ao {hl:ti}:∀k∈hl.map k2,∀c∈k,∃n,c=Sum.inl n:=fun k hk c hc=>by
 obtain⟨x,_,rfl⟩:=List.mem_map.mp hk
 unfold k2 at hc
 simp only [List.mem_cons,List.not_mem_nil,or_false] at hc
 rcases hc with h|h<;>exact⟨_,h⟩
theorem V0 {ks ms:List (List Key)} (p:ks.Perm ms) (hi:∀k∈ms,∀c∈k,∃n,c=Sum.inl n):∀k∈ks,∀c∈k,∃n,c=Sum.inl n:=fun k hk=>hi k (p.mem_iff.mp hk)
theorem sK {cl:tf}:∀k∈cl.map k3,sd k=[true,true,true]:=fun k hk=>by
 obtain⟨x,_,rfl⟩:=List.mem_map.mp hk;rfl
theorem rE {hl:ti}:∀k∈hl.map k2,sd k=[true,true]:=fun k hk=>by
 obtain⟨x,_,rfl⟩:=List.mem_map.mp hk;rfl
theorem Yb {α β:Type}{f:α→β} (hf:∀a b,f a=f b→a=b):∀{l m:List α},(l.map f).Perm (m.map f)→l.Perm m:=by
 intro l m p
 induction l generalizing m with
 | nil =>
  have:=p.length_eq
  rw [List.length_map,List.length_map] at this
  exact (List.eq_nil_of_length_eq_zero this.symm)▸List.Perm.refl _
 | cons a l ih =>
  have ha:f a∈m.map f:=p.mem_iff.mp (by simp)
  obtain⟨b,hb,e⟩:=List.mem_map.mp ha
  obtain rfl:=hf _ _ e
  obtain⟨m1,m2,rfl⟩:=List.append_of_mem hb
  have q:(l.map f).Perm ((m1++m2).map f):=by
   rw [List.map_cons,List.map_append,List.map_cons] at p
   rw [List.map_append]
   exact (p.trans List.perm_middle).cons_inv
  exact ((ih q).cons b).trans List.perm_middle.symm
theorem n8 {α:Type} [DecidableEq α]:∀{l m:List α},l.Nodup→(∀x∈l,x∈m)→m.length≤l.length→l.Perm m:=by
 intro l
 induction l with
 | nil=>intro m _ _ h;exact (List.eq_nil_of_length_eq_zero (Nat.le_zero.mp h))▸List.Perm.refl _
 | cons a l ih =>
  intro m nd hs hl
  have ha:=hs a (by simp)
  have nd':=List.nodup_cons.mp nd
  have q:=ih (m:=m.erase a) nd'.2 (fun x hx=>(List.mem_erase_of_ne (fun z:x=a=>nd'.1 (z▸hx))).mpr (hs x (by simp [hx]))) (by rw [List.length_erase_of_mem ha];simp at hl;omega)
  exact (q.cons a).trans (List.perm_cons_erase ha).symm
theorem V7 {cs cs':j4} (n:(cs.map (·.1)).Nodup):Jl cs cs'=true↔(cs.map (·.1)).Perm (cs'.map (·.1)):=by
 constructor
 ·intro h
  unfold Jl at h
  rw [Bool.and_eq_true] at h
  have hl:=of_decide_eq_true h.1
  refine n8 n (fun k hk=>?_) (by rw [List.length_map,List.length_map];omega)
  obtain⟨k',h1,h2⟩:=List.any_eq_true.mp (List.all_eq_true.mp h.2 k hk)
  rw [←of_decide_eq_true h2];exact h1
 ·exact eA
structure Bx (C:Addr) (H:Hp) (o dx c d:Addr) (w h l:Nat) (cl:tf) (hl:ti):Prop where
 eo:H o=some (.ins C dx (fB w h l c d))
 ec:∃cs,H c=some (.dT cs)∧(∀kv∈cs,kv.2=.bl true)∧(cs.map (·.1)).Perm (cl.map k3)
 ed:∃ds,H d=some (.dT ds)∧(∀kv∈ds,kv.2=.bl true)∧(ds.map (·.1)).Perm (hl.map k2)
 ne:c≠d
theorem Bx.same {C:Addr}{H H':Hp}{o dx c d:Addr}{w h l:Nat}{cl:tf}{hl:ti} (B:Bx C H o dx c d w h l cl hl) (s:jg H H'):Bx C H' o dx c d w h l cl hl :=
 ⟨s _ _ B.eo,let ⟨cs,e,r⟩:=B.ec;⟨cs,s _ _ e,r⟩,let ⟨ds,e,r⟩:=B.ed;⟨ds,s _ _ e,r⟩,B.ne⟩
theorem Bx.sm {C:Addr}{H H':Hp}{o dx c d:Addr}{w h l:Nat}{cl:tf}{hl:ti} (B:Bx C H o dx c d w h l cl hl) (s:Sm H H'):Bx C H' o dx c d w h l cl hl :=
 ⟨s.1 _ _ (by intro ps z;cases z) B.eo,let ⟨cs,e,r⟩:=B.ec;⟨cs,s.1 _ _ (by intro ps z;cases z) e,r⟩,let ⟨ds,e,r⟩:=B.ed;⟨ds,s.1 _ _ (by intro ps z;cases z) e,r⟩,B.ne⟩
structure Ct (w h l:Nat) (cl:tf) (hl:ti):Prop where
 sw:1≤w∧w≤12
 sh:1≤h∧h≤12
 sl:1≤l∧l≤3
 nc:cl.Nodup
 nh:hl.Nodup
 ic:∀c∈cl,Uo w h l c=true
 ih:∀p∈hl,(inB p.1 w&&inB p.2 h)=true
 lc:cl.length≤450
 lh:hl.length≤150
theorem UN {w h l:Int}{c:Int×Int×Int}:Uo w h l c=true↔(0≤c.1∧c.1<w)∧(0≤c.2.1∧c.2.1<h)∧(0≤c.2.2∧c.2.2<l):=by
 unfold Uo inB;simp [and_assoc]
theorem uT {w h:Int}{p:Int×Int}:(inB p.1 w&&inB p.2 h)=true↔(0≤p.1∧p.1<w)∧(0≤p.2∧p.2<h):=by
 unfold inB;simp [and_assoc]
def g3 (g:Int×Int→Int×Int) (c:Int×Int×Int):Int×Int×Int:=((g (c.1,c.2.1)).1,(g (c.1,c.2.1)).2,c.2.2)
structure c5 (g:Int×Int→Int×Int) (w h w' h':Nat):Prop where
 on:∀p,(inB p.1 w&&inB p.2 h)=true→(inB (g p).1 w'&&inB (g p).2 h')=true
 inj:∀p q,g p=g q→p=q
theorem oM {g:Int×Int→Int×Int} (hg:∀p q,g p=g q→p=q) (a b:Int×Int×Int) (e:g3 g a=g3 g b):a=b:=by
 unfold g3 at e
 injection e with e1 e2
 injection e2 with e2 e3
 have:=hg _ _ (Prod.ext e1 e2)
 injection this with a1 a2
 exact Prod.ext a1 (Prod.ext a2 e3)
theorem qJ {g:Int×Int→Int×Int}{w h w' h' l:Nat} (L:c5 g w h w' h') {c:Int×Int×Int} (hc:Uo w h l c=true):Uo w' h' l (g3 g c)=true:=by
 rw [UN] at hc ⊢
 have:=uT.mp (L.on (c.1,c.2.1) (uT.mpr ⟨hc.1,hc.2.1⟩))
 exact⟨this.1,this.2,hc.2.2⟩
theorem uC {α β:Type}{f:α→β} (hf:∀a b,f a=f b→a=b) {l:List α} (n:l.Nodup):(l.map f).Nodup:=List.Pairwise.map f (fun a b h e=>h (hf a b e)) n
theorem aK {cs:j4}{k:List Key} (hk:k∈cs.map (·.1)):((Je cs k (.bl true)).map (·.1))=cs.map (·.1):=by
 have:(uo cs k).isSome=true:=by
  rw [←UJ]
  obtain⟨x,hx,e2⟩:=List.mem_map.mp hk
  exact List.any_eq_true.mpr ⟨x,hx,decide_eq_true e2⟩
 unfold Je
 rw [if_pos (by rw [UJ];exact this),List.map_map]
 refine List.map_congr_left fun x _=>?_
 show (if x.1=k then (x.1,V.bl true) else x).1=x.1
 split<;>rfl
theorem ye {cs:j4}{k:List Key} (hk:k ∉ cs.map (·.1)):((Je cs k (.bl true)).map (·.1))=cs.map (·.1)++[k]:=by
 have:uo cs k=none:=by
  cases e:uo cs k with
  | none=>rfl
  | some v =>
   have h1:(cs.any fun x=>decide (x.1=k))=true:=by rw [UJ,e];rfl
   obtain⟨x,hx,e2⟩:=List.any_eq_true.mp h1
   exact absurd (List.mem_map.mpr ⟨x,hx,of_decide_eq_true e2⟩) hk
 rw [dS _ this,List.map_append];rfl
theorem vo {cs:j4}{k:List Key} (h:∀kv∈cs,kv.2=.bl true):∀kv∈Je cs k (.bl true),kv.2=.bl true:=fun kv hkv=>by
 unfold Je at hkv
 split at hkv
 ·obtain⟨x,hx,rfl⟩:=List.mem_map.mp hkv
  split
  ·rfl
  ·exact h x hx
 ·rcases List.mem_append.mp hkv with hkv|hkv
  ·exact h kv hkv
  ·rw [List.mem_singleton.mp hkv]
theorem db {cs:j4}{k:List Key}:((uS cs k).map (·.1))=(cs.map (·.1)).filter fun x=>decide (x≠k):=by
 unfold uS
 rw [List.filter_map]
 congr 1
theorem vB {cs:j4}{k:List Key} (h:∀kv∈cs,kv.2=.bl true):∀kv∈uS cs k,kv.2=.bl true:=fun kv hkv=>h kv (List.mem_filter.mp hkv).1
def yb {α:Type} [DecidableEq α] (l:List α) (a:α):List α:=if a∈l then l else l++[a]
def yT {α:Type} [DecidableEq α] (l:List α) (a:α):List α:=l.filter fun x=>decide (x≠a)
theorem VI {α:Type} [DecidableEq α] {f:α→List Key} (hf:∀a b,f a=f b→a=b) {cs:j4} {l:List α} {a:α} (p:(cs.map (·.1)).Perm (l.map f)):((Je cs (f a) (.bl true)).map (·.1)).Perm ((yb l a).map f):=by
 unfold yb
 have e:f a∈cs.map (·.1)↔a∈l:=by
  rw [p.mem_iff,List.mem_map]
  exact⟨fun ⟨b,hb,e⟩=>hf _ _ e▸hb,fun h=>⟨a,h,rfl⟩⟩
 by_cases ha:a∈l
 ·rw [if_pos ha,aK (e.mpr ha)];exact p
 ·rw [if_neg ha,ye (fun z=>ha (e.mp z)),List.map_append]
  exact List.Perm.append p (List.Perm.refl _)
theorem vA {α:Type} [DecidableEq α] {f:α→List Key} (hf:∀a b,f a=f b→a=b) {cs:j4} {l:List α} {a:α} (p:(cs.map (·.1)).Perm (l.map f)):((uS cs (f a)).map (·.1)).Perm ((yT l a).map f):=by
 rw [db]
 refine (p.filter _).trans ?_
 unfold yT
 rw [List.filter_map]
 refine List.Perm.of_eq (congrArg (List.map f) (List.filter_congr fun x _=>?_))
 show decide (f x≠f a)=decide (x≠a)
 rw [decide_eq_decide]
 exact⟨fun h e=>h (by rw [e]),fun h e=>h (hf _ _ e)⟩
theorem yd:∀(cl:tf) (cs:j4),(∀kv∈cs,kv.2=.bl true)→(cs.map (·.1)++cl.map k3).Nodup→((j7 cs cl).map (·.1))=cs.map (·.1)++cl.map k3∧∀kv∈j7 cs cl,kv.2=.bl true
 | [],cs,hv,_=>⟨by simp [j7],hv⟩
 | c::r,cs,hv,n=>by
  have hk:k3 c ∉ cs.map (·.1):=fun z=>(List.nodup_append.mp n).2.2 _ z _ (by simp) rfl
  have e:(Je cs (k3 c) (.bl true)).map (·.1)=cs.map (·.1)++[k3 c]:=by exact ye hk
  have:=yd r (Je cs (k3 c) (.bl true)) (vo hv) (by rw [e];simpa using n)
  rw [e] at this
  exact⟨by show (j7 (Je cs (k3 c) (.bl true)) r).map (·.1)=_;rw [this.1];simp,this.2⟩
theorem G8 {K:sZ}{α:Type}{g:TG}{tc:TT}{te:TE}{k:Nat}{σ:St}{H:Hp}{Q:VK}{a:Addr}{ps:tD}{xs:List α} (key key':α→List Key) (hz:xs.length≤sizeLine) (ha:H a=some (.lst (ps.map V.ref))) (C:jM H ps (xs.map key))
  (hg:∀(r:Addr) (x:α) (H':Hp) (Qy:VK) (Qn:Hp→Prop),x∈xs→jg H H'→H' r=some (.tup ((key x).map kV))→(∀p H2,jg H' H2→H2 p=some (.tup ((key' x).map kV))→Qy (.ref p) H2)→g (.ref r) (σ++List.replicate k none) H' fun σ2 H2=>(∃zs,σ2=σ++zs∧zs.length=k)∧tc σ2 H2 fun b H3=>if b=true then te σ2 H3 Qy else Qn H3)
  (q:∀D rs H',jg H H'→H D=none→H' D=some (.lst (rs.map V.ref))→jM H' rs (xs.map key')→Q (.ref D) H'):yR k g tc te σ Q (gk K a) H:=by
 have hl:ps.length=xs.length:=by rw [C.1,List.length_map]
 refine Y4 (xs:=ps.map V.ref) (fun D i ys H'=>H D=none∧jg H H'∧H' D=some (.lst ys)∧ys.length≤i∧∃rs:List Addr,ys=rs.map V.ref∧jM H' rs ((xs.take i).map key')) (by rw [List.length_map,hl];exact hz) (fun D hD=>⟨hD,jn (jg.refl _) hD,je,Nat.le_refl _,[],rfl,⟨rfl,fun i p c h=>by cases h⟩⟩) (fun D i ys H' hv=>⟨hv.2.2.1,hv.2.2.2.1,jD.of (hv.2.1 _ _ ha)⟩) ?_ ?_
 ·rintro D i v ys H' Qy Qn hx ⟨d1,d2,d3,d4,rs,rfl,C'⟩ hy hn
  rw [List.getElem?_map] at hx
  obtain⟨r,hx1,rfl⟩:=Option.map_eq_some_iff.mp hx
  have hi:i<xs.length:=by rw [←hl];exact (List.getElem?_eq_some_iff.mp hx1).1
  have hs:=List.getElem?_eq_getElem hi
  have er:=d2 _ _ (C.2 i r _ hx1 (by rw [List.getElem?_map,hs];rfl))
  refine hg r xs[i] H' Qy Qn (List.getElem_mem hi) d2 er fun p H2 s2 ep=>?_
  have d3':=s2 _ _ d3
  refine hy _ _ d3' ⟨d1,fun b u e=>?_,je,by rw [List.length_append];exact Nat.succ_le_succ d4,rs++[p],by rw [List.map_append];rfl,?_⟩
  ·rw [ji (jq e d1)];exact s2 _ _ (d2 _ _ e)
  ·rw [List.take_add_one,hs,List.map_append]
   exact jM.wr (jM.snoc (jM.same C' s2) ep) d3' (by intro xs z;cases z)
 ·rintro D ys H3 hD ⟨d1,d2,d3,d4,rs,rfl,C'⟩
  rw [List.length_map,hl,List.take_length] at C'
  exact q D rs H3 d2 d1 d3 C'
end K11
namespace K11
open PySem L2 Wd TS
section
variable {P:tM}{w:World}{K:sZ}{mg:tj}{base:Heap}{t:Adr}
def eJ (C:Addr):Sp:=fun vs H Q _=>∃(o dx c d o2 dx2 c2 d2:Addr) (w h l w2 h2 l2:Nat) (cl cl2:tf) (hl hl2:ti),vs=[.ref o,.ref o2]∧Bx C H o dx c d w h l cl hl∧Bx C H o2 dx2 c2 d2 w2 h2 l2 cl2 hl2∧cl.Nodup∧hl.Nodup ∧
 ∀b H',jg H H'→(b=true↔(w=w2∧h=h2∧l=l2)∧cl.Perm cl2∧hl.Perm hl2)→Q (.bl b) H'
theorem Z0 (T:Txt K mg t):Ju P w K mg base 1 t.jl "same_as" ["self","other"] (eJ t.jl):=by
 obtain⟨fd,F,b⟩:=T.gb
 refine⟨T.js,_,fd,T.gn,F.okX Z4 (fun vs H Q E h=>?_) (fun cdv A outer s H vs Q E hr h=>?_),b⟩
 ·obtain⟨o,dx,c,d,o2,dx2,c2,d2,w,h,l,w2,h2,l2,cl,cl2,hl,hl2,rfl,_⟩:=h
  rfl
 ·obtain⟨o,dx,c,d,o2,dx2,c2,d2,w,h,l,w2,h2,l2,cl,cl2,hl,hl2,rfl,B,B2,nc,nh,q⟩:=h
  refine⟨_,(jj (jU (jH (pL hr.units0) (jS (ja (jv (pv 0) rfl) (ja (jv (pv 0) rfl) (ja (jv (pv 0) rfl) jf)))) (jS (ja (jv (pv 1) rfl) (ja (jv (pv 1) rfl) (ja (jv (pv 1) rfl) jf)))) (jy _)) (jm (jF uj)) jP)
   (jm (jF (uI (JP (cp hr.units) (jv (pv 0) rfl) (jv (pv 1) rfl) (jy _)) (uJ (JP (cp hr.units) (jv (pv 0) rfl) (jv (pv 1) rfl) (jy _))))))),?_⟩
  have s0:=jg.refl H
  refine⟨_,rfl,o,_,dx,_,.int w,rfl,B.eo,T.js,T.uw,rfl,_,rfl,o,_,dx,_,.int h,rfl,B.eo,T.js,T.uv,rfl,_,rfl,o,_,dx,_,.int l,rfl,B.eo,T.js,T.JN,rfl,vL,fun p1 hp1=>?_⟩
  have s1:=jn (o:=.tup [.int w,.int h,.int l]) s0 hp1
  have B1:=B2.same s1
  refine⟨_,rfl,o2,_,dx2,_,.int w2,rfl,B1.eo,T.js,T.uw,rfl,_,rfl,o2,_,dx2,_,.int h2,rfl,B1.eo,T.js,T.uv,rfl,_,rfl,o2,_,dx2,_,.int l2,rfl,B1.eo,T.js,T.JN,rfl,vL,fun p2 hp2=>?_⟩
  have s2:=jn (o:=.tup [.int w2,.int h2,.int l2]) s1 hp2
  have n12:p1≠p2:=fun z=>by rw [←z,je] at hp2;cases hp2
  refine⟨p1,p2,[(w:Int),h,l],[(w2:Int),h2,l2],rfl,rfl,jw.of (by rw [ji n12];exact je),jw.of je,_,rfl,uU (fun z=>q false _ s2 ⟨fun e=>(by cases e),fun ⟨⟨e1,e2,e3⟩,_⟩=>absurd (by rw [e1,e2,e3]) (of_decide_eq_false z)⟩) fun z=>?_⟩
  have ez:w=w2∧h=h2∧l=l2:=by
   have:=of_decide_eq_true z
   injection this with e1 e
   injection e with e2 e
   injection e with e3 _
   omega
  have C1:=B.same s2
  have C2:=B2.same s2
  obtain⟨cs,hc,t1,p1'⟩:=C1.ec
  obtain⟨ds,hd,t2,p2'⟩:=C1.ed
  obtain⟨cs2,hc2,t3,p3'⟩:=C2.ec
  obtain⟨ds2,hd2,t4,p4'⟩:=C2.ed
  have i1:Jl cs cs2=true↔cl.Perm cl2:=(V7 (p1'.nodup_iff.mpr (uC (fun a b=>Uf) nc))).trans ⟨fun h=>Yb (fun a b=>Uf) ((p1'.symm.trans h).trans p3'),fun h=>(p1'.trans (h.map k3)).trans p3'.symm⟩
  have i2:Jl ds ds2=true↔hl.Perm hl2:=(V7 (p2'.nodup_iff.mpr (uC (fun a b=>uA) nh))).trans ⟨fun h=>Yb (fun a b=>uA) ((p2'.symm.trans h).trans p4'),fun h=>(p2'.trans (h.map k2)).trans p4'.symm⟩
  refine⟨_,rfl,o,_,dx,_,.ref c,rfl,C1.eo,T.js,T.Jo,rfl,_,rfl,o2,_,dx2,_,.ref c2,rfl,C2.eo,T.js,T.Jo,rfl,c,c2,cs,cs2,rfl,rfl,hc,hc2,t1,t3,_,rfl,?_⟩
  cases e1:Jl cs cs2 with
  | false=>exact Jx (q _ _ s2 ⟨fun e=>(by cases e),fun ⟨_,h,_⟩=>(by rw [i1.mpr h] at e1;cases e1)⟩)
  | true=>exact JU (Jn (.ref d) C1.eo T.js T.Jy (Jn (.ref d2) C2.eo T.js T.Jy ⟨d,d2,ds,ds2,rfl,rfl,hd,hd2,t2,t4,q _ _ s2 ⟨fun e=>⟨ez,i1.mp e1,i2.mp e⟩,fun ⟨_,_,h⟩=>i2.mpr h⟩⟩))
end
end K11
namespace K11
open PySem L2 Wd TS
def Kt (st:Stmt):Arguments×Expr×Scope×Pos:=match Jb st with
 | [_,.Return (some (.Call _ [_,_,.Lambda a b sc p] _ _)) _]=>(a,b,sc,p)
 | [.Return (some (.Call _ [_,_,.Lambda a b sc p] _ _)) _]=>(a,b,sc,p)
 | _=>({ posonlyargs:=[],args:=[],vararg:=none,kwonlyargs:=[],kw_defaults:=[],kwarg:=none,defaults:=[] },.Name "" ⟨0,0,0,0⟩,{ kind:=.function,names:=[],isGenerator:=false,isCoroutine:=false },⟨0,0,0,0⟩)
abbrev qC:Str:="Board.copy"++".<locals>."++"<lambda>"
section
variable {P:tM}{w:World}{K:sZ}{mg:tj}{base:Heap}{t:Adr}
def rj (f c:Addr) (q:Str) (st:Stmt):Sp:=fun vs H Q _=>∃(x y:Int),vs=[.int x,.int y]∧H f=some (YW f q (Kt st).1 (Kt st).2.1 (Kt st).2.2.1 [] c)∧H c=some (yL c q) ∧
 ∀p,H p=none→Q (.ref p) (upd H p (.tup [.int x,.int y]))
theorem iq (T:Txt K mg t) (f c:Addr):Calls P w K mg base 2 f (rj f c qC U5):=by
 intro A outer s H us vs Q hr e0 r h
 obtain⟨x,y,rfl,hf,hc,q⟩:=h
 refine dA (k:=1) (bU (ps:=["x","y"]) rfl rfl rfl (by decide +kernel) (by decide +kernel) rfl) (fun pm ct us hl=>match us,hl with|[_,_],_=>rfl) hr e0 r rfl hf hc .nil fun hr2=>?_
 refine⟨_,(jS (ja (pv 0) (ja (pv 1) jf))),?_⟩
 refine⟨_,rfl,_,rfl,UQ,fun p hp z=>?_⟩
 rw [d7 z]
 rw [J2 (by simp)] at hp
 exact q p hp
end
end K11
namespace K11
open PySem L2 Wd TS
theorem none_of {H H':Hp} (s:jg H H') {b:Addr} (n:H' b=none):H b=none:=by
 cases e:H b with
 | none=>rfl
 | some u=>rw [s _ _ e] at n;cases n
theorem Zz {α:Type}{f:α→List Key}{ks:List (List Key)}{l:List α} (p:ks.Perm (l.map f)):∃l':List α,ks=l'.map f∧l'.Perm l:=by
 induction l generalizing ks with
 | nil=>exact⟨[],by rw [List.perm_nil.mp p];rfl,List.Perm.refl _⟩
 | cons a l ih =>
  have ha:f a∈ks:=p.mem_iff.mpr (by simp)
  obtain⟨k1,k2,rfl⟩:=List.append_of_mem ha
  have q:(k1++k2).Perm (l.map f):=(List.perm_middle.symm.trans p).cons_inv
  obtain⟨l',e,pl⟩:=ih q
  obtain⟨l1,l2,rfl,rfl,rfl⟩:=List.map_eq_append_iff.mp e.symm
  exact⟨l1++a::l2,by simp,List.perm_middle.trans (pl.cons a)⟩
def U4 (ds:j4) (hl:ti):j4:=hl.foldl (fun t p=>Je t (k2 p) (.bl true)) ds
theorem aJ (ds:j4) (hl:ti) (p:Int×Int):U4 ds (hl++[p])=Je (U4 ds hl) (k2 p) (.bl true):=by
 unfold U4;rw [List.foldl_append];rfl
theorem g9:∀(hl:ti) (ds:j4),(∀kv∈ds,kv.2=.bl true)→(ds.map (·.1)++hl.map k2).Nodup→((U4 ds hl).map (·.1))=ds.map (·.1)++hl.map k2∧∀kv∈U4 ds hl,kv.2=.bl true
 | [],ds,hv,_=>⟨by simp [U4],hv⟩
 | c::r,ds,hv,n=>by
  have hk:k2 c ∉ ds.map (·.1):=fun z=>(List.nodup_append.mp n).2.2 _ z _ (by simp) rfl
  have e:(Je ds (k2 c) (.bl true)).map (·.1)=ds.map (·.1)++[k2 c]:=by exact ye hk
  have:=g9 r (Je ds (k2 c) (.bl true)) (vo hv) (by rw [e];simpa using n)
  rw [e] at this
  exact⟨by show (U4 (Je ds (k2 c) (.bl true)) r).map (·.1)=_;rw [this.1];simp,this.2⟩
theorem cy (hl:ti):∀ds:j4,(U4 ds hl).length≤ds.length+hl.length:=by
 induction hl with
 | nil=>intro cs;exact Nat.le_refl _
 | cons c r ih =>
  intro cs
  have h1:=ih (Je cs (k2 c) (.bl true))
  have h2:=vp cs (k2 c) (.bl true)
  show (U4 (Je cs (k2 c) (.bl true)) r).length≤_
  rw [List.length_cons];omega
section
variable {P:tM}{w:World}{K:sZ}{mg:tj}{base:Heap}{t:Adr}
def ia (P:tM) (w:World) (K:sZ) (mg:tj) (base:Heap) (H:Hp) (f:Addr) (g:Int×Int→Int×Int):Prop :=
 yk H f∧∃sp,Calls P w K mg base 2 f sp∧∀H' x y Q,jg H H'→(∀p,H' p=none→Q (.ref p) (upd H' p (.tup [.int (g (x,y)).1,.int (g (x,y)).2])))→sp [.int x,.int y] H' Q (fun _ _ _=>False)
theorem yk.same {H H':Hp}{f:Addr} (x:yk H f) (s:jg H H'):yk H' f:=let ⟨a,b,c,d,e,g,h⟩:=x;⟨a,b,c,d,e,g,s _ _ h⟩
def cO (P:tM) (w:World) (K:sZ) (mg:tj) (base:Heap) (C:Addr):Sp:=fun vs H Q _=>∃(o dx c d f:Addr) (w0 h0 l w' h':Nat) (cl:tf) (hl:ti) (g:Int×Int→Int×Int),vs=[.ref o,.int w',.int h',.ref f]∧Bx C H o dx c d w0 h0 l cl hl∧Ct w0 h0 l cl hl∧(1≤w'∧w'≤12)∧(1≤h'∧h'≤12) ∧
 c5 g w0 h0 w' h'∧ia P w K mg base H f g∧∀o2 dx2 c2 d2 H',jg H H'→H o2=none→H c2=none→H d2=none→Bx C H' o2 dx2 c2 d2 w' h' l (cl.map (g3 g)) (hl.map g)→Q (.ref o2) H'
theorem ZZ (T:Txt K mg t):Ju P w K mg base 6 t.jl "redrawn" ["self","wide","high","place"] (cO P w K mg base t.jl):=by
 obtain⟨fd,F,b⟩:=T.ga
 have G_Board:=Yv (P:=P) (w:=w) (base:=base) T
 have G_Board_put:=U0 (P:=P) (w:=w) (base:=base) T
 have G_Board_drill:=vi (P:=P) (w:=w) (base:=base) T
 have G_Board_cells:=yv (P:=P) (w:=w) (base:=base) T
 have G_Board_holes:=yw (P:=P) (w:=w) (base:=base) T
 refine⟨T.js,_,fd,T.gl,F.okX UI (fun vs H Q E h=>?_) (fun cdv A outer s H vs Q E hr h=>?_),b⟩
 ·obtain⟨o,dx,c,d,f,w0,h0,l,w',h',cl,hl,g,rfl,_⟩:=h
  rfl
 ·obtain⟨o,dx,c,d,f,w0,h0,l,w',h',cl,hl,g,rfl,B,Cc,bw,bh,L,⟨hF,sp,hC,hsp⟩,q⟩:=h
  refine⟨_,(jj (jI (i:=4) UI.nd rfl (Or.inl rfl) (vm G_Board.c hr.m jk (by rfl) (ja (pv 1) (ja (pv 2) (ja (jv (pv 0) rfl) jf)))))
   (jj (jA (jz (pv 4) G_Board_put hr.m jk (ja (vk (own:=["x","y","z"]) (Vx (n:="place") (N:=["self","wide","high","place","other","hole"]) rfl (by rfl) (by rfl) rfl (by rfl) (by decide +kernel) (by decide +kernel) (by decide +kernel)) (uK (uO (fG G_Board_cells hr.m jk) (pv 0))) (fun _ _ _ _ _=>NO (K:=K) (n:=3) rfl rfl (JH (jL (i:=6) (by show (["self","wide","high","place","other","hole","x","y","z"]:tH).Nodup;decide +kernel) rfl (Or.inl rfl)) (JH (jL (i:=7) (by show (["self","wide","high","place","other","hole","x","y","z"]:tH).Nodup;decide +kernel) rfl (Or.inl rfl)) (JH (jL (i:=8) (by show (["self","wide","high","place","other","hole","x","y","z"]:tH).Nodup;decide +kernel) rfl (Or.inl rfl)) yA)))) (fun _ _ _ _ _=>yz) (fun _ _ _ _ _=>(jr (Mq (K:=K) rfl) (kx (k:=2) (P:=P) (w:=w) (K:=K) (mg:=mg) (base:=base) rfl rfl rfl rfl rfl (pv 3) hr.m (ja (pv 6) (ja (pv 7) jf))) (jS (ja (pv 8) jf))))) jf)))
   (jj (JJ Jq (uK (vk (own:=["x","y"]) (Vx (n:="place") (N:=["self","wide","high","place","other","hole"]) rfl (by rfl) (by rfl) rfl (by rfl) (by decide +kernel) (by decide +kernel) (by decide +kernel)) (uK (uO (vq G_Board_holes hr.m jk) (pv 0))) (fun _ _ _ _ _=>NO (K:=K) (n:=2) rfl rfl (JH (jL (i:=6) (by show (["self","wide","high","place","other","hole","x","y"]:tH).Nodup;decide +kernel) rfl (Or.inl rfl)) (JH (jL (i:=7) (by show (["self","wide","high","place","other","hole","x","y"]:tH).Nodup;decide +kernel) rfl (Or.inl rfl)) yA))) (fun _ _ _ _ _=>yz) (fun _ _ _ _ _=>(kx (k:=2) (P:=P) (w:=w) (K:=K) (mg:=mg) (base:=base) rfl rfl rfl rfl rfl (pv 3) hr.m (ja (pv 6) (ja (pv 7) jf)))))) (jL (i:=5) UI.nd rfl (Or.inl rfl)) (jm (jA (jz (pv 4) G_Board_drill hr.m jk (ja (jN jG (pv 5) jh (fun _ _=>rfl)) (ja (jN jG (pv 5) jh (fun _ _=>rfl)) jf))))))
   (jm (jF (pv 4)))))),?_⟩
  refine⟨_,rfl,_,rfl,Jn (.int l) B.eo T.js T.JN (fun o2 dx2 ho2 hdx2 ndo=>?_)⟩
  refine⟨o2,dx2,.int w',.int h',.int l,rfl,je,trivial,trivial,trivial,fun w1 h1 l1 g1 g2 g3' _ _ _ c2 d2 H1 fr1 eo ec ed nc nd ncd nco ndo2=>?_,fun n=>absurd ⟨(⟨by omega,by omega⟩:ZA w' 12),(⟨by omega,by omega⟩:ZA h' 12),(⟨by have:=Cc.sl;omega,by have:=Cc.sl;omega⟩:ZA l 3)⟩ n⟩
  cases g1;cases g2;cases g3'
  refine⟨rfl,?_⟩
  refine UE ?_
  dsimp only
  have s1:jg H H1:=fun b u e=>fr1 b u (jq e ho2) (by rw [ji (jq e ho2),ji (jq e hdx2)];exact e)
  have nc1:H c2=none:=by
   rw [ji nco,ji (fun z=>by rw [z,je] at nc;cases nc)] at nc;exact nc
  have nd1:H d2=none:=by
   rw [ji ndo2,ji (fun z=>by rw [z,je] at nd;cases nd)] at nd;exact nd
  have B1:=B.same s1
  have F1:=yk.same hF s1
  have sz:cl.length≤sizeLine:=Nat.le_trans Cc.lc (by decide)
  have szh:hl.length≤sizeLine:=Nat.le_trans Cc.lh (by decide)
  refine uH B1.ec fun cs hcs tcs pcs=>?_
  refine J1 (fun σ H'=>σ=[oR o,oI w',oI h',oR f,oR o2,none]∧l7 c2 H1 H'∧∃cs2,H' c2=some (.dT cs2)∧(∀kv∈cs2,kv.2=.bl true)∧(cs2.map (·.1)).Perm ((cl.map (g3 g)).map k3)) (fun R nx=>?_) ?_
  ·refine⟨_,rfl,o2,dx2,_,rfl,eo,rfl,_,rfl,o,dx,_,rfl,B1.eo,rfl,.inl ⟨o,dx,c,d,w0,h0,l,cs,rfl,B1.eo,hcs,fun kv hkv=>sK _ (pcs.mem_iff.mp (List.mem_map_of_mem hkv)),fun r bs ks hr1 ka pm up=>?_⟩⟩
   obtain⟨cl1,rfl,pcl⟩:=Zz (pm.trans pcs)
   have s2:=jn (o:=.lst (bs.map V.ref)) (jg.refl H1) hr1
   have er:upd H1 r (.lst (bs.map V.ref)) r=some (.lst (bs.map V.ref)):=je
   generalize upd H1 r (.lst (bs.map V.ref))=H2 at s2 er ⊢
   refine⟨r,rfl,⟨_,jD.of er⟩,G8 (xs:=cl1) k3 (fun c=>k3 (g3 g c)) (by rw [pcl.length_eq];exact sz) er (jM.same ka s2) (fun r x H3 Qy Qn hx s3 er3 hy=>?_) fun D rs H3 s3 hD eD kD=>?_⟩
   ·have s13:=jg.trans s2 s3
    have s03:=jg.trans s1 s13
    refine⟨r,_,rfl,jw.of er3,rfl,_,_,rfl,_,_,rfl,_,_,rfl,rfl,⟨_,rfl,rfl⟩,JU ⟨_,rfl,f,rfl,yk.same F1 s13,_,rfl,_,rfl,yk.same F1 s13,sp,hC,hsp H3 x.1 x.2.1 _ s03 fun p hp=>?_⟩⟩
    have s4:=jn (o:=.tup [.int (g (x.1,x.2.1)).1,.int (g (x.1,x.2.1)).2]) (jg.refl H3) hp
    have ep:upd H3 p (.tup [.int (g (x.1,x.2.1)).1,.int (g (x.1,x.2.1)).2]) p=some (.tup [.int (g (x.1,x.2.1)).1,.int (g (x.1,x.2.1)).2]):=je
    generalize upd H3 p (.tup [.int (g (x.1,x.2.1)).1,.int (g (x.1,x.2.1)).2])=H4 at s4 ep ⊢
    refine⟨_,rfl,fW,fun p3 hp3=>?_⟩
    have s5:=jn (o:=.tup [.int x.2.2]) (jg.refl H4) hp3
    have e5:upd H4 p3 (.tup [.int x.2.2]) p3=some (.tup [.int x.2.2]):=je
    show ∃_,_
    refine⟨p,p3,_,_,rfl,rfl,jw.of (s5 _ _ ep),jw.of e5,by simp,vL,fun z=>(by cases z),fun _ p4 hp4=>hy p4 _ (jg.trans s4 (jg.trans s5 (jn (jg.refl _) hp4))) je⟩
   ·have s13:=jg.trans s2 s3
    have pp:(cl1.map (g3 g)).Perm (cl.map (g3 g)):=pcl.map _
    have hcl:jV H3 rs (cl1.map (g3 g)):=jV.of_key (by rw [List.map_map];exact kD)
    have nd1':(cl1.map (g3 g)).Nodup:=uC (oM L.inj) (pcl.nodup_iff.mpr Cc.nc)
    have all:(cl1.map (g3 g)).all (Uo w' h' l)=true:=List.all_eq_true.mpr fun c hc=>by
     obtain⟨x,hx,rfl⟩:=List.mem_map.mp hc
     exact qJ L (Cc.ic x (pcl.mem_iff.mp hx))
    have ec3:=s13 _ _ ec
    refine⟨o2,dx2,c2,d2,D,rs,cl1.map (g3 g),w',h',l,[],rfl,s13 _ _ eo,eD,hcl,ec3,?_,fun _=>nx _ _ ⟨rfl,fun b u n e=>?_,_,je,?_,?_⟩,fun z=>absurd all (by rw [z];decide)⟩
    ·rw [List.length_map,pcl.length_eq]
     have:=Cc.lc
     show 0+_≤1000
     omega
    ·rw [ji n];exact s13 _ _ e
    ·exact (yd (cl1.map (g3 g)) [] (fun kv h=>absurd h (by simp)) (by simpa using uC (fun a b=>Uf) nd1')).2
    ·rw [(yd (cl1.map (g3 g)) [] (fun kv h=>absurd h (by simp)) (by simpa using uC (fun a b=>Uf) nd1')).1]
     exact pp.map k3
  ·rintro σ H2 ⟨rfl,off2,cs2,hc2,tc2,pc2⟩
   have dc:d2≠c2:=Ne.symm ncd
   have noc:∀{b:Addr} {u:HO},H b=some u→b≠c2:=fun e=>jq e nc1
   have s02:jg H H2:=fun b u e=>off2 b u (noc e) (s1 _ _ e)
   have B2:=B.same s02
   have eo2:H2 o2=_:=off2 _ _ (Ne.symm nco) eo
   have ed2:H2 d2=_:=off2 _ _ dc ed
   refine uH B2.ed fun ds hds tds pds=>?_
   refine J1 (fun σ H'=>(∃v,σ=[oR o,oI w',oI h',oR f,oR o2,v])∧l7 d2 H2 H'∧∃ds2,H' d2=some (.dT ds2)∧(∀kv∈ds2,kv.2=.bl true)∧(ds2.map (·.1)).Perm ((hl.map g).map k2)) (fun R nx=>?_) ?_
   ·refine⟨_,rfl,o,dx,_,rfl,B2.eo,rfl,o,dx,c,d,w0,h0,l,ds,rfl,B2.eo,hds,fun kv hkv=>rE _ (pds.mem_iff.mp (List.mem_map_of_mem hkv)),fun r bs ks hr1 ka pm up=>?_⟩
    obtain⟨hl1,rfl,phl⟩:=Zz (pm.trans pds)
    have s3:=jn (o:=.lst (bs.map V.ref)) (jg.refl H2) hr1
    have er:upd H2 r (.lst (bs.map V.ref)) r=some (.lst (bs.map V.ref)):=je
    generalize upd H2 r (.lst (bs.map V.ref))=H3 at s3 er ⊢
    refine⟨r,rfl,⟨_,jD.of er⟩,G8 (xs:=hl1) k2 (fun c=>k2 (g c)) (by rw [phl.length_eq];exact szh) er (jM.same ka s3) (fun r x H4 Qy Qn hx s4 er4 hy=>?_) fun D rs H4 s4 hD eD kD=>?_⟩
    ·have s04:=jg.trans s02 (jg.trans s3 s4)
     exact⟨r,_,rfl,jw.of er4,rfl,_,_,rfl,_,_,rfl,rfl,⟨_,rfl,rfl⟩,JU ⟨_,rfl,f,rfl,yk.same hF s04,_,rfl,_,rfl,yk.same hF s04,sp,hC,hsp H4 x.1 x.2 _ s04 fun p hp=>hy p _ (jn (jg.refl _) hp) je⟩⟩
    ·have s24:=jg.trans s3 s4
     have ed4:=s24 _ _ ed2
     have kD':jM H4 rs ((hl1.map g).map k2):=by rw [List.map_map];exact kD
     have nd1':(hl1.map g).Nodup:=uC L.inj (phl.nodup_iff.mpr Cc.nh)
     have on:∀p∈hl1.map g,(inB p.1 w'&&inB p.2 h')=true:=fun p hp=>by
      obtain⟨x,hx,rfl⟩:=List.mem_map.mp hp
      exact L.on x (Cc.ih x (phl.mem_iff.mp hx))
     have ln:(hl1.map g).length≤150:=by rw [List.length_map,phl.length_eq];exact Cc.lh
     have pp:(hl1.map g).Perm (hl.map g):=phl.map _
     generalize hl1.map g=hl2 at kD' nd1' on ln pp
     have lrs:rs.length=hl2.length:=by rw [kD'.1,List.length_map]
     have Dd:D≠d2:=jX eD ed4 (by intro z;cases z)
     refine⟨D,rfl,⟨_,jD.of eD⟩,Ue (xs:=rs.map V.ref) (fun i σ H'=>(∃v,σ=[oR o,oI w',oI h',oR f,oR o2,v])∧l7 d2 H4 H'∧H' d2=some (.dT (U4 [] (hl2.take i)))) ⟨⟨_,rfl⟩,fun b u _ e=>e,ed4⟩ (fun i σ H' _ ⟨_,f,_⟩=>jD.of (f _ _ Dd eD)) ?_ ?_⟩
     ·rintro i v σ H5 hx ⟨⟨v5,rfl⟩,f5,e5⟩
      rw [List.getElem?_map] at hx
      obtain⟨p,hx1,rfl⟩:=Option.map_eq_some_iff.mp hx
      have hi:i<hl2.length:=by rw [←lrs];exact (List.getElem?_eq_some_iff.mp hx1).1
      have hs:=List.getElem?_eq_getElem hi
      have ep:=kD'.2 i p _ hx1 (by rw [List.getElem?_map,hs];rfl)
      have pd:p≠d2:=jX ep ed4 (by intro z;cases z)
      have S:jw K H5 p [.int hl2[i].1,.int hl2[i].2]:=jw.of (f5 _ _ pd ep)
      have eo5:H5 o2=_:=f5 _ _ (Ne.symm ndo2) (s24 _ _ eo2)
      have hln:=cy (hl2.take i) []
      rw [List.length_take] at hln
      refine jT eo5 (Jj (.int hl2[i].1) S (Jj (.int hl2[i].2) S ⟨o2,dx2,c2,d2,w',h',l,hl2[i].1,hl2[i].2,_,rfl,eo5,e5,(by simp at hln;omega),fun _ q hq=>⟨⟨_,rfl⟩,fun b u n e=>?_,?_⟩,fun z=>absurd (on _ (List.getElem_mem hi)) (by rw [z];decide)⟩))
      ·rw [ji n,ji (jq (f5 _ _ n e) hq)];exact f5 _ _ n e
      ·rw [je,List.take_add_one,hs]
       show _=some (HO.dT (U4 [] (hl2.take i++[hl2[i]])))
       rw [aJ];rfl
     ·rintro σ H5 ⟨⟨v5,rfl⟩,f5,e5⟩
      rw [List.length_map,lrs,List.take_length] at e5
      have kk:=g9 hl2 [] (fun kv h=>absurd h (by simp)) (by simpa using uC (fun a b=>uA) nd1')
      refine nx _ _ ⟨⟨_,rfl⟩,fun b u n e=>f5 b u n (s24 _ _ e),_,e5,kk.2,?_⟩
      rw [kk.1]
      exact pp.map k2
   ·rintro σ H3 ⟨⟨v,rfl⟩,f3,ds2,e3,td3,pd3⟩
    have s03:jg H H3:=fun b u e=>f3 b u (jq e nd1) (s02 _ _ e)
    exact⟨_,rfl,q o2 dx2 c2 d2 H3 s03 ho2 nc1 nd1 ⟨f3 _ _ (Ne.symm ndo2) eo2,⟨cs2,f3 _ _ ncd hc2,tc2,pc2⟩,⟨ds2,e3,td3,pd3⟩,ncd⟩⟩
end
end K11
namespace K11
open PySem L2 Wd TS
def Gs (t:Adr) (H:Hp):Prop:=Ua H t.j8 (Kt U5).2.2.2 qC
theorem qI (cl:tf):cl.map (g3 id)=cl:=by
 rw [show g3 id=id from funext fun c=>rfl,List.map_id]
theorem iQ (w h:Nat):c5 id w h w h:=⟨fun p hp=>hp,fun p q e=>e⟩
section
variable {P:tM}{w:World}{K:sZ}{mg:tj}{base:Heap}{t:Adr}
def qk (t:Adr):Sp:=fun vs H Q _=>∃(o dx c d:Addr) (w h l:Nat) (cl:tf) (hl:ti),vs=[.ref o]∧Bx t.jl H o dx c d w h l cl hl∧Ct w h l cl hl∧Gs t H ∧
 ∀o2 dx2 c2 d2 H',Sm H H'→Gs t H'→H o2=none→H c2=none→H d2=none→Bx t.jl H' o2 dx2 c2 d2 w h l cl hl→Q (.ref o2) H'
theorem Ke (T:Txt K mg t) (hB:yK mg base):Ju P w K mg base 7 t.jl "copy" ["self"] (qk t):=by
 obtain⟨fd,F,b⟩:=T.KB
 have G_Board_redrawn:=ZZ (P:=P) (w:=w) (base:=base) T
 refine⟨T.js,_,fd,T.KR,F.okX Kj (fun vs H Q E h=>?_) (fun A outer s H vs Q E hr h=>?_),b⟩
 ·obtain⟨o,dx,c,d,w,h,l,cl,hl,rfl,_⟩:=h
  rfl
 ·obtain⟨o,dx,c,d,w',h',l,cl,hl,rfl,B,Cc,tb,q⟩:=h
  refine⟨_,(jm (jF (jz (pv 0) G_Board_redrawn hr.m jk (ja (jv (pv 0) rfl) (ja (jv (pv 0) rfl) (ja (pR (cl:=[]) (c0:=t.vO) (P:=t.j8) rfl (by rfl) rfl T.Yu hB) jf)))))),?_⟩
  refine jT B.eo (Jn (.int w') B.eo T.js T.uw (Jn (.int h') B.eo T.js T.uv ⟨tb,fun cc f H1 off tb1 hf ef ecc=>?_⟩))
  obtain⟨ps,hP,_⟩:=id tb
  obtain⟨ps1,hP1,_⟩:=id tb1
  have sm1:Sm H H1:=off.sm hP hP1
  refine⟨o,dx,c,d,f,w',h',l,w',h',cl,hl,id,rfl,B.sm sm1,Cc,Cc.sw,Cc.sh,iQ w' h',⟨⟨_,_,_,_,_,_,ef⟩,_,iq T f cc,fun H' x y Q s3 k=>⟨x,y,rfl,s3 _ _ ef,s3 _ _ ecc,k⟩⟩,fun o2 dx2 c2 d2 H' s3 n1 n2 n3 B2=>?_⟩
  rw [qI,List.map_id] at B2
  exact q o2 dx2 c2 d2 H' ⟨fun b u n e=>s3 _ _ (sm1.1 b u n e),fun b ps e=>let ⟨ps',e'⟩:=sm1.2 b ps e;⟨ps',s3 _ _ e'⟩⟩ (tb1.same s3) (sm1.none n1) (sm1.none n2) (sm1.none n3) B2
end
end K11
namespace K11
open PySem L2 Wd TS
structure ur (K:sZ) (H:Hp) (ps:tD) (cs:List (V×V)):Prop where
 len:ps.length=cs.length
 at_:∀(i:Nat) (p:Addr) (c:V×V),ps[i]?=some p→cs[i]?=some c→H p=some (.tup [c.1,c.2])
theorem ur.same {K:sZ}{H H':Hp}{ps:tD}{cs:List (V×V)} (C:ur K H ps cs) (s:jg H H'):ur K H' ps cs:=⟨C.len,fun i p c h1 h2=>s _ _ (C.at_ i p c h1 h2)⟩
def rX (cs:List (V×V)):Prop:=∀(i:Nat) (x y:V×V),cs[i]?=some x→cs[i+1]?=some y→x.1=y.1∨x.2=y.2
def wC (c:V×V):Bool:=ue c.1&&ue c.2
def nC (c:V×V):Bool:=Zw c.1&&Zw c.2
def Vt (cs:List (V×V)):Prop:=1≤cs.length∧cs.length≤40∧cs.all wC=true∧rX cs
theorem mM {x y:V} (hx:ue x=true) (hy:ue y=true):eB x y=true:=by
 cases x with
 | int i =>
  cases y with
  | int j=>rfl
  | _=>exact absurd hy Bool.false_ne_true
 | _=>exact absurd hx Bool.false_ne_true
theorem rP (xs:List V):uR xs (some 1) none=xs.drop 1:=by
 unfold uR
 rw [show (some (1:Int))=some ((1:Nat):Int) from rfl,HT.sIx_nat,HT.sIx_none]
 cases xs with
 | nil=>rfl
 | cons x r =>
  have e:min 1 (x::r).length=1:=by simp
  rw [e]
  exact List.take_of_length_le (by simp)
def eW (o:Addr) (H H':Hp):Prop:=∀b u,b≠o→H b=some u→H' b=some u
def fK (x y w h:V):List (Str×V):=[("x",x),("y",y),("wide",w),("high",h)]
def fF (x y w h k:V):List (Str×V):=[("x",x),("y",y),("wide",w),("high",h),("thick",k)]
def fL (c w:V):List (Str×V):=[("corners",c),("width",w)]
theorem oH (x y w h:V):Js "high" h (Js "wide" w (Js "y" y (Js "x" x [])))=fK x y w h:=by kernel_rfl
theorem oG (x y w h k:V):Js "thick" k (Js "high" h (Js "wide" w (Js "y" y (Js "x" x []))))=fF x y w h k:=by kernel_rfl
theorem oJ (c w:V):Js "width" w (Js "corners" c [])=fL c w:=by kernel_rfl
def zv (q:Int×Int):V×V:=(.int q.1,.int q.2)
def Me (v:V):Prop:=v=.int 1∨v=.int 3
theorem oX (n:Int):ft (.int n) [.int 1,.int 3]=true↔Me (.int n):=by
 unfold ft Me
 simp only [List.any_cons,List.any_nil,Bool.or_false,Bool.or_eq_true,V.int.injEq]
 constructor
 ·rintro (h|h)
  ·exact .inl (of_decide_eq_true h).symm
  ·exact .inr (of_decide_eq_true h).symm
 ·rintro (rfl|rfl)
  ·exact .inl (by decide)
  ·exact .inr (by decide)
theorem zo {H H1:Hp}{o dx:Addr}{i:HO} (s:jg H H1) (ho:H1 o=none) (hdx:H1 dx=none):jg H (L2.upd (L2.upd H1 dx (.own o)) o i):=fun b u e=>by
 have e1:=s b u e
 rw [ji (jq e1 ho),ji (jq e1 hdx)];exact e1
theorem yV {H H1 H':Hp}{o dx:Addr}{i:HO} (s:jg H H1) (ho:H1 o=none) (hdx:H1 dx=none) (k:eW o (L2.upd (L2.upd H1 dx (.own o)) o i) H'):jg H H':=fun b u e =>
 k b u (jq (s b u e) ho) (zo s ho hdx b u e)
section
variable {P:tM}{w:World}{K:sZ}{mg:tj}{base:Heap}{t:Adr}
def Nd (K:sZ) (C:Addr):Sp:=fun vs H Q E=>∃a xs,vs=[.ref a]∧(jD K H a xs∨jw K H a xs)∧xs.all Zw=true∧(xs.all ue=true→Q .non H)∧(xs.all ue=false→E (.ref C) none H)
theorem UB (T:Txt K mg t):uy P w K mg base 2 "need_whole" ["numbers"] (Nd K t.JM):=by
 obtain⟨fd,F,b⟩:=T.KL
 have G_is_whole:=Uw (P:=P) (w:=w) (base:=base) T
 refine⟨_,fd,F.okX YG (fun vs H Q E h=>?_) (fun cdv A outer s H vs Q E hr h=>?_),b,F.kp,T.mH⟩
 ·obtain⟨a,xs,rfl,_⟩:=h
  rfl
 ·obtain⟨a,xs,rfl,hq,hN,kQ,kE⟩:=h
  refine⟨_,(jm (JJ Jq (pU (pv 0)) (jL (i:=1) YG.nd rfl (Or.inl rfl)) (jm (jU (Jg (Jc (jx G_is_whole hr.m jk (by rfl) (ja (pv 1) jf)))) (jm (uE J0 rfl T.UM rfl (ja vJ jf))) jP)))),?_⟩
  have turn:∀(bk:St→Hp→Prop) (rt:VK) (i:Nat) (x:V) (σ:St) (H2:Hp),xs[i]?=some x→(∃v,σ=[oR a,v]∧H2=H∧(xs.take i).all ue=true) →
    gJ 1 x σ H2 fun σ2 H3=>eP (qw (tB (aR kA [] E (Yg (yf 1) aT)))) (cS t.JM (Yg (tC (.str "a shape's numbers are whole numbers")) aT) E) fY { nx:=fun σ H2=>∃v,σ=[oR a,v]∧H2=H∧(xs.take (i+1)).all ue=true,rt:=rt,bk:=bk,ct:=fun σ H2=>∃v,σ=[oR a,v]∧H2=H∧(xs.take (i+1)).all ue=true } σ2 H3:=by
   rintro bk rt i x σ H2 hx ⟨v,rfl,rfl,hw⟩
   have hm:x∈xs:=List.mem_of_getElem? hx
   refine⟨x,rfl,x,rfl,yJ.ofN (List.all_eq_true.mp hN x hm),_,rfl,uU (fun hf=>⟨by show 1≤sizeLine;decide,kE ?_⟩) fun ht=>⟨_,rfl,rfl,?_⟩⟩
   ·exact Bool.eq_false_iff.mpr fun z=>by rw [List.all_eq_true.mp z x hm] at hf;cases hf
   ·rw [List.take_add_one,hx,List.all_append,hw];simp [ht]
  rcases hq with hq|hq
  ·refine⟨_,rfl,a,rfl,.inl ⟨⟨xs,hq⟩,Ue (xs:=xs) (fun i σ H2=>∃v,σ=[oR a,v]∧H2=H∧(xs.take i).all ue=true) ⟨_,rfl,rfl,by simp⟩ (fun i σ H2 _ ⟨_,_,e,_⟩=>e▸hq) (fun i x σ H2 hx hp=>turn _ _ i x σ H2 hx hp) ?_⟩⟩
   rintro σ H2 ⟨v,rfl,rfl,hw⟩
   exact kQ (by simpa using hw)
  ·refine⟨_,rfl,a,rfl,.inr ⟨⟨xs,hq⟩,iA (xs:=xs) (fun i σ H2=>∃v,σ=[oR a,v]∧H2=H∧(xs.take i).all ue=true) ⟨_,rfl,rfl,by simp⟩ (fun i σ H2 _ ⟨_,_,e,_⟩=>e▸hq) (fun i x σ H2 hx hp=>turn _ _ i x σ H2 hx hp) ?_⟩⟩
   rintro σ H2 ⟨v,rfl,rfl,hw⟩
   exact kQ (by simpa using hw)
def cN (K:sZ) (C:Addr):Sp:=fun vs H Q E=>∃a xs,vs=[.ref a]∧jD K H a xs∧xs≠[]∧xs.all Zw=true∧(xs.all Yt=true→Q .non H)∧(xs.all Yt=false→E (.ref C) none H)
theorem VE (T:Txt K mg t):uy P w K mg base 3 "need_from_one" ["numbers"] (cN K t.JM):=by
 obtain⟨fd,F,b⟩:=T.gc
 have G_need_whole:=UB (P:=P) (w:=w) (base:=base) T
 refine⟨_,fd,F.okX Z5 (fun vs H Q E h=>?_) (fun cdv A outer s H vs Q E hr h=>?_),b,F.kp,T.gK⟩
 ·obtain⟨a,xs,rfl,_⟩:=h
  rfl
 ·obtain⟨a,xs,rfl,hq,hne,hN,kQ,kE⟩:=h
  refine⟨_,(jj (jA (jx G_need_whole hr.m jk (by rfl) (ja (pv 0) jf)))
   (jm (jU (jH U2 (jO uV (by rfl) T.Vm Vg (ja (pv 0) jf)) jh (jy _)) (jm (uE J0 rfl T.UM rfl (ja vJ jf))) jP))),?_⟩
  refine⟨_,rfl,a,xs,rfl,.inl hq,hN,fun hw=>?_,fun hw=>kE (Bool.eq_false_iff.mpr fun z=>?_)⟩
  ·obtain⟨ns,rfl⟩:=Nx hw
   refine⟨_,rfl,a,ns,rfl,hq,by cases ns<;>simp_all,fun M hM hmin=>⟨M,1,rfl,rfl,_,rfl,JE (fun hlt=>⟨by show 1≤sizeLine;decide,kE ?_⟩) fun hge=>kQ ?_⟩⟩
   ·refine Bool.eq_false_iff.mpr fun z=>?_
    have:=List.all_eq_true.mp z (.int M) (List.mem_map_of_mem hM)
    simp only [Yt,decide_eq_true_eq] at this
    omega
   ·refine List.all_eq_true.mpr fun v hv=>?_
    obtain⟨n,hn,rfl⟩:=List.mem_map.mp hv
    have:=hmin n hn
    simp only [Yt,decide_eq_true_eq]
    omega
  ·rw [ii (fun v=>iH) z] at hw;cases hw
def Kp (K:sZ) (C:Addr):Sp:=fun vs H Q E=>∃(a:Addr) (ps:tD) (cs:List (V×V)),vs=[.ref a]∧H a=some (.lst (ps.map V.ref))∧ur K H ps cs∧cs.all nC=true∧cs.length≤100 ∧
 (Vt cs→∀H',jg H H'→Q .non H')∧(¬Vt cs→∀H',jg H H'→E (.ref C) none H')
theorem gT (T:Txt K mg t):uy P w K mg base 3 "need_corners" ["corners"] (Kp K t.JM):=by
 obtain⟨fd,F,b⟩:=T.Gq
 have G_need_whole:=UB (P:=P) (w:=w) (base:=base) T
 refine⟨_,fd,F.okX u9 (fun vs H Q E h=>?_) (fun cdv A outer s H vs Q E hr h=>?_),b,F.kp,T.GB⟩
 ·obtain⟨a,ps,cs,rfl,_⟩:=h
  rfl
 ·obtain⟨a,ps,cs,rfl,ha,C,hN,h100,kQ,kE⟩:=h
  refine⟨_,(jj (jU (uk (Jg (Jc (jO UD (by rfl) T.uf uc (ja (pv 0) (ja (vj (v:=.ty "list") (by rfl) T.m7 K2 rfl) jf))))) (JT (Jg (MA y6 y6 jh (jO UW (by rfl) T.Ku Kr (ja (pv 0) jf)) (Uj (v:=.int 40) (by rfl) T.yp ⟨_,rfl⟩))))).pt (jm (uE J0 rfl T.UM rfl (ja (dM (by decide) (by decide) (Uj (v:=.int 40) (by rfl) T.yp ⟨_,rfl⟩)) jf))) jP)
   (jj (JJ Jq (uK (pv 0)) (jL (i:=1) u9.nd rfl (Or.inl rfl)) (jj (jU (uk (Jg (Jc (jO UD (by rfl) T.uf uc (ja (pv 1) (ja (vj (v:=.ty "tuple") (by rfl) T.GF Gv rfl) jf))))) (JT (jH gW (jO UW (by rfl) T.Ku Kr (ja (pv 1) jf)) jh (jy _)))).pt (jm (uE J0 rfl T.UM rfl (ja vJ jf))) jP)
   (jm (jA (jx G_need_whole hr.m jk (by rfl) (ja (pv 1) jf))))))
   (jm (JJ Jq (pV rfl rfl T.fN (ja (pv 0) (ja (Ya GT (pv 0) (yB jh) GK) jf))) (gY rfl (JH (jL (i:=2) u9.nd rfl (Or.inl rfl)) (JH (jL (i:=3) u9.nd rfl (Or.inl rfl)) yA))) (jm (jU (VJ (jH gW (jN jG (pv 2) jh (fun _ _=>rfl)) (jN jG (pv 3) jh (fun _ _=>rfl)) (jy _)) (yC (jH gW (jN jG (pv 2) jh (fun _ _=>rfl)) (jN jG (pv 3) jh (fun _ _=>rfl)) (jy _)))).pt (jm (uE J0 rfl T.UM rfl (ja vJ jf))) jP)))))),?_⟩
  have hl:(ps.map V.ref).length=cs.length:=by rw [List.length_map,C.len]
  have bad:∀H',¬Vt cs→jg H H'→(1≤sizeLine∧E (.ref t.JM) none H'):=fun H' hb hs=>⟨by decide,kE hb H' hs⟩
  refine⟨_,rfl,.ref a,.ty "list",_,_,true,rfl,.lst ha,.ty _,by kernel_rfl,true,rfl,Jx ?_⟩
  refine⟨_,rfl,a,_,rfl,.inl (jD.of ha),1,_,rfl,rfl,_,rfl,?_⟩
  rw [hl]
  refine JE (fun h1=>?_) fun h1=>?_
  ·refine⟨_,40,rfl,rfl,_,rfl,?_⟩
   refine uU (fun h40=>?_) fun h40=>?_
   ·exact⟨40,rfl,by decide,fun z=>bad H (fun g=>by have:=g.2.1;simp at h40;omega) (jg.refl H)⟩
   ·have h1:1≤cs.length:=by omega
    have h40:cs.length≤40:=by simp at h40;omega
    refine⟨_,rfl,a,rfl,⟨_,jD.of ha⟩,Ue (xs:=ps.map V.ref) (fun i σ H2=>∃v,σ=[oR a,v,none,none]∧H=H2∧(cs.take i).all wC=true) ⟨_,rfl,rfl,by simp⟩ (fun i σ H2 _ ⟨_,_,e,_⟩=>e▸jD.of ha) ?_ ?_⟩
    ·
     rintro i x σ H2 hx ⟨v,rfl,rfl,hw⟩
     rw [List.getElem?_map] at hx
     obtain⟨p,hp,rfl⟩:=Option.map_eq_some_iff.mp hx
     have hi:i<cs.length:=by rw [←C.len];exact (List.getElem?_eq_some_iff.mp hp).1
     obtain⟨c,hc⟩:∃c,cs[i]?=some c:=⟨cs[i],List.getElem?_eq_getElem hi⟩
     have ht:=C.at_ i p c hp hc
     have hm:c∈cs:=List.mem_of_getElem? hc
     have hn:Zw c.1=true∧Zw c.2=true:=by have:=List.all_eq_true.mp hN c hm;simpa [nC] using this
     refine⟨_,rfl,.ref p,.ty "tuple",_,_,true,rfl,.tup ht,.ty _,by kernel_rfl,true,rfl,Jx ?_⟩
     refine⟨_,rfl,p,_,rfl,.inr (jw.of ht),rfl,_,rfl,zR rfl ?_⟩
     refine⟨_,rfl,p,[c.1,c.2],rfl,.inr (jw.of ht),by simp [hn.1,hn.2],fun hw2=>⟨_,rfl,rfl,?_⟩,fun hw2=>kE (fun g=>?_) H (jg.refl H)⟩
     ·rw [List.take_add_one,hc,List.all_append,hw]
      simpa [wC] using hw2
     ·have:=List.all_eq_true.mp g.2.2.1 c hm
      simp [wC] at this
      simp [this] at hw2
    ·
     rintro σ H2 ⟨v,rfl,rfl,hw⟩
     rw [hl,List.take_length] at hw
     refine⟨_,rfl,_,rfl,1,rfl,a,_,rfl,jD.of ha,fun q hq=>?_⟩
     have e1:uR (ps.map V.ref) (some 1) none=(ps.map V.ref).drop 1:=rP _
     have sm:jg H (upd H q (.lst (uR (ps.map V.ref) (some 1) none))):=jn (jg.refl H) hq
     refine⟨a,q,rfl,⟨_,jD.of (sm _ _ ha)⟩,⟨_,jD.of je⟩,iB (xs:=ps.map V.ref) (ys:=uR (ps.map V.ref) (some 1) none)
      (fun i σ H2=>∃v1 v2 v3,σ=[oR a,v1,v2,v3]∧jg (upd H q (.lst (uR (ps.map V.ref) (some 1) none))) H2∧∀(j:Nat) (x y:V×V),j<i→cs[j]?=some x→cs[j+1]?=some y→x.1=y.1∨x.2=y.2) ?_ ?_ ?_ ?_⟩
     ·exact⟨_,_,_,rfl,jg.refl _,fun j _ _ hj=>absurd hj (by omega)⟩
     ·rintro i σ H2 _ ⟨_,_,_,_,s2,_⟩
      exact⟨jD.of (s2 _ _ (sm _ _ ha)),jD.of (s2 _ _ je)⟩
     ·rintro i x y r σ H2 hxy hr2 ⟨v1,v2,v3,rfl,s2,hin⟩
      rw [List.getElem?_zip_eq_some,e1,List.getElem?_drop,List.getElem?_map,List.getElem?_map] at hxy
      obtain⟨hx,hy⟩:=hxy
      obtain⟨p1,hp1,rfl⟩:=Option.map_eq_some_iff.mp hx
      obtain⟨p2,hp2,rfl⟩:=Option.map_eq_some_iff.mp hy
      rw [Nat.add_comm] at hp2
      have bI:i<cs.length:=by rw [←C.len];exact (List.getElem?_eq_some_iff.mp hp1).1
      have uW:i+1<cs.length:=by rw [←C.len];exact (List.getElem?_eq_some_iff.mp hp2).1
      obtain⟨c1,hc1⟩:∃c,cs[i]?=some c:=⟨cs[i],List.getElem?_eq_getElem bI⟩
      obtain⟨c2,hc2⟩:∃c,cs[i+1]?=some c:=⟨cs[i+1],List.getElem?_eq_getElem uW⟩
      have s3:jg H (upd H2 r (.tup [.ref p1,.ref p2])):=jn (jg.trans sm s2) hr2
      have t1:=s3 _ _ (C.at_ i p1 c1 hp1 hc1)
      have t2:=s3 _ _ (C.at_ (i+1) p2 c2 hp2 hc2)
      have w1:ue c1.1=true∧ue c1.2=true:=by have:=List.all_eq_true.mp hw c1 (List.mem_of_getElem? hc1);simpa [wC] using this
      have w2:ue c2.1=true∧ue c2.2=true:=by have:=List.all_eq_true.mp hw c2 (List.mem_of_getElem? hc2);simpa [wC] using this
      refine⟨r,_,rfl,jw.of je,rfl,_,_,rfl,_,_,rfl,rfl,?_⟩
      have s4:jg (upd H q (.lst (uR (ps.map V.ref) (some 1) none))) (upd H2 r (.tup [.ref p1,.ref p2])):=jn s2 hr2
      have go:(c1.1=c2.1∨c1.2=c2.2)→∃u1 u2 u3,[some (V.ref a),v1,oR p1,oR p2]=[oR a,u1,u2,u3]∧jg (upd H q (.lst (uR (ps.map V.ref) (some 1) none))) (upd H2 r (.tup [.ref p1,.ref p2])) ∧
        ∀(j:Nat) (x y:V×V),j<i+1→cs[j]?=some x→cs[j+1]?=some y→x.1=y.1∨x.2=y.2:=fun g=>⟨v1,_,_,rfl,s4,fun j x y hj hx' hy'=>by
       by_cases h:j=i
       ·subst h
        rw [hc1] at hx';rw [hc2] at hy'
        cases hx';cases hy'
        exact g
       ·exact hin j x y (by omega) hx' hy'⟩
      refine⟨_,rfl,p1,_,0,c1.1,rfl,rfl,jw.of t1,rfl,_,rfl,p2,_,0,c2.1,rfl,rfl,jw.of t2,rfl,mM w1.1 w2.1,_,rfl,?_⟩
      refine uU (fun d1=>?_) fun d1=>Jx (go (.inl (of_decide_eq_true d1)))
      refine⟨_,rfl,p1,_,1,c1.2,rfl,rfl,jw.of t1,rfl,_,rfl,p2,_,1,c2.2,rfl,rfl,jw.of t2,rfl,mM w1.2 w2.2,_,rfl,?_⟩
      refine uU (fun d2=>⟨by show 1≤sizeLine;decide,kE (fun g=>?_) _ s3⟩) fun d2=>go (.inr (of_decide_eq_true d2))
      rcases g.2.2.2 i c1 c2 hc1 hc2 with z|z
      ·exact absurd (decide_eq_true z) (by rw [d1];decide)
      ·exact absurd (decide_eq_true z) (by rw [d2];decide)
     ·rintro σ H2 ⟨v1,v2,v3,rfl,s2,hin⟩
      refine kQ ⟨h1,h40,hw,fun i x y hx hy=>hin i x y ?_ hx hy⟩ H2 (jg.trans sm s2)
      have:=(List.getElem?_eq_some_iff.mp hy).1
      rw [e1,List.length_zip,List.length_drop,hl]
      omega
  ·exact⟨_,rfl,JU ⟨40,rfl,by decide,fun z=>bad H (fun g=>by have:=g.1;simp at h1;omega) (jg.refl H)⟩⟩
def NW (C NS:Addr):Sp:=fun vs H Q E=>∃o dx x y wd hg,vs=[.ref o,x,y,wd,hg]∧H o=some (.ins C dx [])∧[x,y,wd,hg].all Zw=true ∧
 ([x,y].all ue=true→[wd,hg].all Yt=true→∀H',eW o H H'→H' o=some (.ins C dx (fK x y wd hg))→Q .non H')∧(¬([x,y].all ue=true∧[wd,hg].all Yt=true)→∀H',jg H H'→E (.ref NS) none H')
theorem Kd (T:Txt K mg t):gh P w K mg base 4 "Block" t.Ja ["self","x","y","wide","high"] (NW t.Ja t.JM):=by
 obtain⟨fd,F,b⟩:=T.KA
 have G_need_whole:=UB (P:=P) (w:=w) (base:=base) T
 have G_need_from_one:=VE (P:=P) (w:=w) (base:=base) T
 refine⟨_,fd,T.f9,F.okX Ki (fun vs H Q E h=>?_) (fun cdv A outer s H vs Q E hr h=>?_),b,T.iE⟩
 ·obtain⟨o,dx,x,y,wd,hg,rfl,_⟩:=h
  rfl
 ·obtain⟨o,dx,x,y,wd,hg,rfl,ho,hN,kQ,kE⟩:=h
  simp only [List.all_cons,List.all_nil,Bool.and_true,Bool.and_eq_true] at hN
  refine⟨_,(jj (jA (jx G_need_whole hr.m jk (by rfl) (ja (ug (ja (pv 1) (ja (pv 2) jf))) jf)))
   (jj (jA (jx G_need_from_one hr.m jk (by rfl) (ja (ug (ja (pv 3) (ja (pv 4) jf))) jf)))
   (jj (JS (pv 0) (pv 1) rfl)
   (jj (JS (pv 0) (pv 2) rfl)
   (jj (JS (pv 0) (pv 3) rfl)
   (jm (JS (pv 0) (pv 4) rfl))))))),?_⟩
  refine⟨_,rfl,_,rfl,UQ,fun l hl=>⟨l,[x,y],rfl,.inl (jD.of je),by simp [hN],fun hw=>?_,fun hw=>kE (fun g=>by rw [g.1] at hw;cases hw) _ (jn (jg.refl H) hl)⟩⟩
  refine⟨_,rfl,_,rfl,UQ,fun l2 hl2=>⟨l2,[wd,hg],rfl,jD.of je,by simp,by simp [hN],fun hw2=>?_,fun hw2=>kE (fun g=>by rw [g.2] at hw2;cases hw2) _ (jn (jn (jg.refl H) hl) hl2)⟩⟩
  have s2:jg H (upd (upd H l (.lst [x,y])) l2 (.lst [wd,hg])):=jn (jn (jg.refl H) hl) hl2
  refine⟨_,rfl,_,rfl,o,_,dx,_,rfl,s2 _ _ ho,T.JG,T.yX,(by decide),?_⟩
  refine⟨_,rfl,_,rfl,o,_,dx,_,rfl,je,T.JG,T.yY,Nat.le_of_ble_eq_true (by kernel_rfl),?_⟩
  refine⟨_,rfl,_,rfl,o,_,dx,_,rfl,je,T.JG,T.vQ,Nat.le_of_ble_eq_true (by kernel_rfl),?_⟩
  refine⟨_,rfl,_,rfl,o,_,dx,_,rfl,je,T.JG,T.vP,Nat.le_of_ble_eq_true (by kernel_rfl),?_⟩
  refine kQ hw hw2 _ (fun c u hc e=>?_) ?_
  ·rw [ji hc,ji hc,ji hc,ji hc];exact s2 _ _ e
  ·rw [je,oH]
def lI (C NS:Addr):Sp:=fun vs H Q E=>∃o dx x y wd hg k,vs=[.ref o,x,y,wd,hg,k]∧H o=some (.ins C dx [])∧[x,y,wd,hg,k].all Zw=true ∧
 ([x,y].all ue=true→[wd,hg,k].all Yt=true→∀H',eW o H H'→H' o=some (.ins C dx (fF x y wd hg k))→Q .non H')∧(¬([x,y].all ue=true∧[wd,hg,k].all Yt=true)→∀H',jg H H'→E (.ref NS) none H')
theorem Kf (T:Txt K mg t):gh P w K mg base 4 "Frame" t.j6 ["self","x","y","wide","high","thick"] (lI t.j6 t.JM):=by
 obtain⟨fd,F,b⟩:=T.KG
 have G_need_whole:=UB (P:=P) (w:=w) (base:=base) T
 have G_need_from_one:=VE (P:=P) (w:=w) (base:=base) T
 refine⟨_,fd,T.h9,F.okX Km (fun vs H Q E h=>?_) (fun cdv A outer s H vs Q E hr h=>?_),b,T.iG⟩
 ·obtain⟨o,dx,x,y,wd,hg,k,rfl,_⟩:=h
  rfl
 ·obtain⟨o,dx,x,y,wd,hg,k,rfl,ho,hN,kQ,kE⟩:=h
  simp only [List.all_cons,List.all_nil,Bool.and_true,Bool.and_eq_true] at hN
  refine⟨_,(jj (jA (jx G_need_whole hr.m jk (by rfl) (ja (ug (ja (pv 1) (ja (pv 2) jf))) jf)))
   (jj (jA (jx G_need_from_one hr.m jk (by rfl) (ja (ug (ja (pv 3) (ja (pv 4) (ja (pv 5) jf)))) jf)))
   (jj (JS (pv 0) (pv 1) rfl)
   (jj (JS (pv 0) (pv 2) rfl)
   (jj (JS (pv 0) (pv 3) rfl)
   (jj (JS (pv 0) (pv 4) rfl)
   (jm (JS (pv 0) (pv 5) rfl)))))))),?_⟩
  refine⟨_,rfl,_,rfl,UQ,fun l hl=>⟨l,[x,y],rfl,.inl (jD.of je),by simp [hN],fun hw=>?_,fun hw=>kE (fun g=>by rw [g.1] at hw;cases hw) _ (jn (jg.refl H) hl)⟩⟩
  refine⟨_,rfl,_,rfl,_,rfl,vL,fun l2 hl2=>⟨l2,[wd,hg,k],rfl,jD.of je,by simp,by simp [hN],fun hw2=>?_,fun hw2=>kE (fun g=>by rw [g.2] at hw2;cases hw2) _ (jn (jn (jg.refl H) hl) hl2)⟩⟩
  have s2:jg H (upd (upd H l (.lst [x,y])) l2 (.lst [wd,hg,k])):=jn (jn (jg.refl H) hl) hl2
  refine⟨_,rfl,_,rfl,o,_,dx,_,rfl,s2 _ _ ho,T.j5,T.Vn,(by decide),?_⟩
  refine⟨_,rfl,_,rfl,o,_,dx,_,rfl,je,T.j5,T.Vo,Nat.le_of_ble_eq_true (by kernel_rfl),?_⟩
  refine⟨_,rfl,_,rfl,o,_,dx,_,rfl,je,T.j5,T.UA,Nat.le_of_ble_eq_true (by kernel_rfl),?_⟩
  refine⟨_,rfl,_,rfl,o,_,dx,_,rfl,je,T.j5,T.Uz,Nat.le_of_ble_eq_true (by kernel_rfl),?_⟩
  refine⟨_,rfl,_,rfl,o,_,dx,_,rfl,je,T.j5,T.yu,Nat.le_of_ble_eq_true (by kernel_rfl),?_⟩
  refine kQ hw hw2 _ (fun c u hc e=>?_) ?_
  ·rw [ji hc,ji hc,ji hc,ji hc,ji hc];exact s2 _ _ e
  ·rw [je,oG]
def qo (K:sZ) (C NS:Addr):Sp:=fun vs H Q E=>∃(o:Addr) (dx:Addr) (a:Addr) (ps:tD) (cs:List (V×V)) (wd:V),vs=[.ref o,.ref a,wd]∧H o=some (.ins C dx [])∧H a=some (.lst (ps.map V.ref))∧ur K H ps cs∧cs.all nC=true∧cs.length≤100∧Zw wd=true ∧
 (Vt cs→Me wd→∀p H',eW o H H'→H' p=some (.tup (ps.map V.ref))→H' o=some (.ins C dx (fL (.ref p) wd))→Q .non H')∧(¬(Vt cs∧Me wd)→∀H',jg H H'→E (.ref NS) none H')
theorem Mj (T:Txt K mg t):gh P w K mg base 4 "Line" t.Jz ["self","corners","width"] (qo K t.Jz t.JM):=by
 obtain⟨fd,F,b⟩:=T.nv
 have G_need_corners:=gT (P:=P) (w:=w) (base:=base) T
 have G_is_whole:=Uw (P:=P) (w:=w) (base:=base) T
 refine⟨_,fd,T.lY,F.okX MM (fun vs H Q E h=>?_) (fun cdv A outer s H vs Q E hr h=>?_),b,T.oO⟩
 ·obtain⟨o,dx,a,ps,cs,wd,rfl,_⟩:=h
  rfl
 ·obtain⟨o,dx,a,ps,cs,wd,rfl,ho,ha,C,hN,h100,hwd,kQ,kE⟩:=h
  refine⟨_,(jj (jA (jx G_need_corners hr.m jk (by rfl) (ja (pv 1) jf)))
   (jj (jU (uk (Jg (Jc (jx G_is_whole hr.m jk (by rfl) (ja (pv 2) jf)))) (JT (jH Mr (pv 2) (Uj (v:=.ref t.yQ) (by rfl) T.di rfl) (by with_unfolding_all rfl)))).pt (jm (uE J0 rfl T.UM rfl (ja vJ jf))) jP)
   (jj (JS (pv 0) (UO k6 (by rfl) T.GF Gv (ja (pv 1) jf)) rfl)
   (jm (JS (pv 0) (pv 2) rfl))))),?_⟩
  refine⟨_,rfl,a,ps,cs,rfl,ha,C,hN,h100,fun g H1 s1=>?_,fun g H1 s1=>kE (fun z=>g z.1) H1 s1⟩
  refine⟨_,rfl,wd,rfl,yJ.ofN hwd,_,rfl,uU (fun hf=>⟨by show 1≤sizeLine;decide,kE (fun z=>?_) H1 s1⟩) fun ht=>?_⟩
  ·rcases z.2 with rfl|rfl<;>cases hf
  ·cases wd with
   | int n =>
    refine⟨_,rfl,t.yQ,[.int 1,.int 3],rfl,.inr (T.dW _),rfl,rfl,_,rfl,uU (fun hf=>⟨by show 1≤sizeLine;decide,kE (fun z=>?_) H1 s1⟩) fun hi=>?_⟩
    ·rw [(oX n).mpr z.2] at hf;cases hf
    ·have h13:Me (.int n):=(oX n).mp hi
     refine⟨_,rfl,a,_,rfl,.inl ⟨jD.of (s1 _ _ ha),fun p hp=>?_⟩⟩
     have s2:jg H (upd H1 p (.tup (ps.map V.ref))):=jn s1 hp
     have nop:p≠o:=fun z=>by rw [z,s1 _ _ ho] at hp;cases hp
     refine⟨_,rfl,o,_,dx,_,rfl,s2 _ _ ho,T.JK,T.JO,(by decide),?_⟩
     refine⟨_,rfl,_,rfl,o,_,dx,_,rfl,je,T.JK,T.JQ,Nat.le_of_ble_eq_true (by kernel_rfl),?_⟩
     refine kQ g h13 p _ (fun c u hc e=>?_) ?_ ?_
     ·rw [ji hc,ji hc];exact s2 _ _ e
     ·rw [ji nop,ji nop];exact je
     ·rw [je,oJ]
   | _=>cases ht
end
end K11
namespace K11
open PySem L2 Wd TS STb
theorem qG:bootBuiltins "set"=some (.type "set"):=by decide +kernel
def nr (p q:Int×Int):Prop:=(p.1=q.1∧-12≤q.2 - p.2∧q.2 - p.2≤12)∨(p.2=q.2∧-12≤q.1 - p.1∧q.1 - p.1≤12)
def inl:List (Int×Int)→Prop
 | p::q::r=>nr p q∧inl (q::r)
 | _=>True
def vK (x y:Int) (wd hg:Nat):List (Int×Int):=(List.range wd).flatMap fun (i:Nat)=>(List.range hg).map fun (j:Nat)=>(x+(i:Int),y+(j:Int))
theorem Z2 (x y:Int) (n hg:Nat):vK x y (n+1) hg=vK x y n hg++(List.range hg).map fun (j:Nat)=>(x+(n:Int),y+(j:Int)):=by
 unfold vK
 rw [List.range_succ,List.flatMap_append]
 simp
theorem vn (x y:Int) (hg:Nat):∀n,(vK x y n hg).length=n*hg
 | 0=>by simp [vK]
 | n+1=>by rw [Z2,List.length_append,vn x y hg n,List.length_map,List.length_range,Nat.add_mul,Nat.one_mul]
def JL (H:Hp) (ps:tD) (pl:ti):Prop:=ps.length=pl.length∧∀(i:Nat) (p:Addr) (c:Int×Int),ps[i]?=some p→pl[i]?=some c→H p=some (.tup [.int c.1,.int c.2])
theorem JL.nil {H:Hp}:JL H [] []:=⟨rfl,fun i p c h=>by cases h⟩
theorem JL.same {H H':Hp}{ps:tD}{pl:ti} (C:JL H ps pl) (s:jg H H'):JL H' ps pl:=⟨C.1,fun i p c h1 h2=>s _ _ (C.2 i p c h1 h2)⟩
theorem JL.app {H:Hp}{ps qs:tD}{cl dl:ti} (C:JL H ps cl) (D:JL H qs dl):JL H (ps++qs) (cl++dl):=⟨by rw [List.length_append,List.length_append,C.1,D.1],fun i q d h1 h2=>by
 by_cases h:i<ps.length
 ·rw [List.getElem?_append_left h] at h1
  rw [List.getElem?_append_left (C.1▸h)] at h2
  exact C.2 i q d h1 h2
 ·rw [List.getElem?_append_right (by omega)] at h1
  rw [List.getElem?_append_right (by rw [←C.1];omega),←C.1] at h2
  exact D.2 _ q d h1 h2⟩
theorem JL.one {H:Hp}{p:Addr}{c:Int×Int} (h:H p=some (.tup [.int c.1,.int c.2])):JL H [p] [c]:=⟨rfl,fun i q d h1 h2=>by
 cases i with
 | zero=>cases h1;cases h2;exact h
 | succ j=>cases h1⟩
theorem JL.wr {H:Hp}{D:Addr}{ps:tD}{pl:ti}{ys ys':List V} (C:JL H ps pl) (hD:H D=some (.lst ys)):JL (upd H D (.lst ys')) ps pl:=⟨C.1,fun i q d h1 h2=>by
 have e:=C.2 i q d h1 h2
 rw [ji (jX e hD (by intro z;cases z))];exact e⟩
section
variable {P:tM}{w:World}{K:sZ}{mg:tj}{base:Heap}{t:Adr}
def eI:Sp:=fun vs H Q _=>∃(x y:Int) (wd hg:Nat),vs=[.int x,.int y,.int wd,.int hg]∧wd≤15∧hg≤15∧∀D ps H',jg H H'→H D=none→H' D=some (.lst (ps.map V.ref))→JL H' ps (vK x y wd hg)→Q (.ref D) H'
theorem vS (T:Txt K mg t):uy P w K mg base 1 "box_places" ["x","y","wide","high"] eI:=by
 obtain⟨fd,F,b⟩:=T.KI
 refine⟨_,fd,F.okX vT (fun vs H Q E h=>?_) (fun cdv A outer s H vs Q E hr h=>?_),b,F.kp,T.mG⟩
 ·obtain⟨x,y,wd,hg,rfl,_⟩:=h
  rfl
 ·obtain⟨x,y,wd,hg,rfl,w1,h1,q⟩:=h
  refine⟨_,(jj (jI (i:=4) vT.nd rfl (Or.inl rfl) (ug jf))
   (jj (JJ Jq (kz rfl rfl T.Ui (ja (pv 0) (ja (jr jZ (pv 0) (pv 2)) jf))) (jL (i:=5) vT.nd rfl (Or.inr rfl)) (jm (jA (vv PySem.F.plainAttrs_list PySem.F.slot_list_extend PySem.F.type_list_extend kl (pv 4) (ja (vk (own:=["row"]) (Vx (n:="column") (N:=["x","y","wide","high","places","column"]) rfl (by rfl) (by rfl) rfl (by rfl) (by decide +kernel) (by decide +kernel) (by decide +kernel)) (kz rfl rfl T.Ui (ja (pv 1) (ja (jr jZ (pv 1) (pv 3)) jf))) (fun _ _ _ _ _=>jL (i:=6) (by show (["x","y","wide","high","places","column","row"]:tH).Nodup;decide +kernel) rfl (Or.inl rfl)) (fun _ _ _ _ _=>yz) (fun _ _ _ _ _=>(jS (ja (pv 5) (ja (pv 6) jf))))) jf)))))
   (jm (jF (pv 4))))),?_⟩
  refine⟨MF,fun D hD=>?_⟩
  have s0:=jn (o:=.lst []) (jg.refl H) hD
  have n1:(x+(wd:Int) - x).toNat=wd:=by omega
  have n2:(y+(hg:Int) - y).toNat=hg:=by omega
  refine⟨_,rfl,_,rfl,_,rfl,x,(wd:Int),rfl,rfl,x,x+(wd:Int),rfl,uN (fun i σ H2=>∃(v:Option V) (ps:tD),σ=[oI x,oI y,oI wd,oI hg,oR D,v]∧jg H H2∧H2 D=some (.lst (ps.map V.ref))∧JL H2 ps (vK x y i hg)) ⟨_,[],rfl,s0,je,JL.nil⟩ ?_ ?_⟩
  ·rintro i σ H2 hi ⟨v,ps,rfl,s2,e2,C2⟩
   rw [n1] at hi
   refine⟨_,rfl,.inl ⟨rfl,_,jD.of e2⟩,_,rfl,_,rfl,_,rfl,y,(hg:Int),rfl,rfl,y,y+(hg:Int),rfl,ag (fun D2 j ys H'=>∃qs:List Addr,ys=qs.map V.ref∧H2 D2=none∧jg H2 H'∧H' D2=some (.lst ys)∧ys.length=j∧JL H' qs ((List.range j).map fun (j:Nat)=>(x+(i:Int),y+(j:Int)))) (by rw [n2];exact Nat.le_trans h1 (by decide)) (fun D2 hD2=>⟨[],rfl,hD2,jn (jg.refl _) hD2,je,rfl,JL.nil⟩) (fun D2 j ys H' ⟨qs,_,_,_,e,l,_⟩=>⟨e,l⟩) ?_ ?_⟩
   ·rintro D2 j ys H' Qy Qn hj ⟨qs,rfl,d1,d2,d3,d4,d5⟩ hy
    refine⟨⟨_,rfl,rfl⟩,JU ⟨_,rfl,_,rfl,UQ,fun p hp=>?_⟩⟩
    have npD:p≠D2:=fun z=>by rw [z,d3] at hp;cases hp
    have sp:=jn (o:=.tup [.int (x+(i:Int)),.int (y+(j:Int))]) (jg.refl H') hp
    refine hy _ _ (by rw [ji (Ne.symm npD)];exact d3) ⟨qs++[p],by rw [List.map_append];rfl,d1,fun b u e=>?_,je,by rw [List.length_append,d4];rfl,?_⟩
    ·have:=d2 b u e
     rw [ji (jq e d1),ji (jq this hp)];exact this
    ·rw [List.range_succ,List.map_append]
     exact ((d5.same sp).app (JL.one (c:=(x+(i:Int),y+(j:Int))) je)).wr (sp _ _ d3)
   ·rintro D2 ys H' hD2 ⟨qs,rfl,d1,d2,d3,d4,d5⟩
    rw [n2] at d4 d5
    have eD:=d2 _ _ e2
    have l1:=C2.1
    rw [vn] at l1
    have l2:i*hg≤15*15:=Nat.mul_le_mul (by omega) h1
    refine⟨D,D2,_,_,rfl,rfl,eD,d3,?_,_,ps++qs,rfl,fun b u e=>?_,by rw [je,List.map_append],?_⟩
    ·rw [d4,List.length_map,l1]
     exact Nat.le_trans (show _≤1000 by omega) (by decide)
    ·rw [ji (jq e hD)]
     exact d2 _ _ (s2 _ _ e)
    ·rw [Z2]
     exact ((C2.same d2).app d5).wr eD
  ·rintro σ H2 ⟨v,ps,rfl,s2,e2,C2⟩
   rw [n1] at C2
   exact⟨_,rfl,q D ps H2 s2 hD e2 C2⟩
def MR (C:Addr):Sp:=fun vs H Q _=>∃(o dx:Addr) (x y:Int) (wd hg:Nat),vs=[.ref o]∧H o=some (.ins C dx (fK (.int x) (.int y) (.int wd) (.int hg)))∧wd≤15∧hg≤15∧∀D ps H',jg H H'→H D=none→H' D=some (.lst (ps.map V.ref))→JL H' ps (vK x y wd hg)→Q (.ref D) H'
theorem GG (T:Txt K mg t):Ju P w K mg base 2 t.Ja "cells" ["self"] (MR t.Ja):=by
 obtain⟨fd,F,b⟩:=T.kH
 have G_box_places:=vS (P:=P) (w:=w) (base:=base) T
 refine⟨T.JG,_,fd,T.kP,F.okX GN (fun vs H Q E h=>?_) (fun cdv A outer s H vs Q E hr h=>?_),b⟩
 ·obtain⟨o,dx,x,y,wd,hg,rfl,_⟩:=h
  rfl
 ·obtain⟨o,dx,x,y,wd,hg,rfl,ho,w1,h1,q⟩:=h
  refine⟨_,(jm (jF (jx G_box_places hr.m jk (by rfl) (ja (jv (pv 0) rfl) (ja (jv (pv 0) rfl) (ja (jv (pv 0) rfl) (ja (jv (pv 0) rfl) jf))))))),?_⟩
  refine⟨_,rfl,o,_,dx,_,.int x,rfl,ho,T.JG,T.yX,by kernel_rfl,?_⟩
  refine Jn (.int y) ho T.JG T.yY ?_
  refine Jn (.int wd) ho T.JG T.vQ ?_
  exact Jn (.int hg) ho T.JG T.vP ⟨x,y,wd,hg,rfl,w1,h1,q⟩
def G9 (x y wd hg:Int) (q:Int×Int):Int:=min (min (q.1 - x) (wd - 1 - (q.1 - x))) (min (q.2 - y) (hg - 1 - (q.2 - y)))
def lM (C:Addr):Sp:=fun vs H Q _=>∃(o dx p:Addr) (x y wd hg k:Int) (q:Int×Int),vs=[.ref o,.ref p]∧H o=some (.ins C dx (fF (.int x) (.int y) (.int wd) (.int hg) (.int k)))∧H p=some (.tup [.int q.1,.int q.2])∧Q (.int (G9 x y wd hg q)) H
theorem GJ (T:Txt K mg t):Ju P w K mg base 1 t.j6 "steps_from_edge" ["self","place"] (lM t.j6):=by
 obtain⟨fd,F,b⟩:=T.VS
 refine⟨T.j5,_,fd,T.VT,F.okX uh (fun vs H Q E h=>?_) (fun cdv A outer s H vs Q E hr h=>?_),b⟩
 ·obtain⟨o,dx,p,x,y,wd,hg,k,q,rfl,_⟩:=h
  rfl
 ·obtain⟨o,dx,p,x,y,wd,hg,k,q,rfl,ho,hp,kq⟩:=h
  refine⟨_,(jj (jI (i:=2) uh.nd rfl (Or.inl rfl) (jr jQ (jN jG (pv 1) jh (fun _ _=>rfl)) (jv (pv 0) rfl)))
   (jj (jI (i:=3) uh.nd rfl (Or.inl rfl) (jr jQ (jN jG (pv 1) jh (fun _ _=>rfl)) (jv (pv 0) rfl)))
   (jm (jF (jO (G5 rfl) (by rfl) T.Vm Vg (ja (pv 2) (ja (jr jQ (jr jQ (jv (pv 0) rfl) jh) (pv 2)) (ja (pv 3) (ja (jr jQ (jr jQ (jv (pv 0) rfl) jh) (pv 3)) jf))))))))),?_⟩
  refine Jj (.int q.1) (jw.of hp) (Jn (.int x) ho T.j5 T.Vn ⟨q.1,x,rfl,rfl,?_⟩)
  refine Jj (.int q.2) (jw.of hp) (Jn (.int y) ho T.j5 T.Vo ⟨q.2,y,rfl,rfl,?_⟩)
  refine⟨_,rfl,_,rfl,o,_,dx,_,.int wd,rfl,ho,T.j5,T.UA,by kernel_rfl,wd,1,rfl,rfl,_,rfl,wd - 1,q.1 - x,rfl,rfl,_,rfl,_,rfl,o,_,dx,_,.int hg,rfl,ho,T.j5,T.Uz,by kernel_rfl,hg,1,rfl,rfl,_,rfl,hg - 1,q.2 - y,rfl,rfl,_,_,_,_,rfl,fun M hM hm=>?_⟩
  have e:M=G9 x y wd hg q:=by
   have m1:=hm (q.1 - x) (by simp)
   have m2:=hm (wd - 1 - (q.1 - x)) (by simp)
   have m3:=hm (q.2 - y) (by simp)
   have m4:=hm (hg - 1 - (q.2 - y)) (by simp)
   simp only [List.mem_cons,List.not_mem_nil,or_false] at hM
   exact Int.le_antisymm (Int.le_min.mpr ⟨Int.le_min.mpr ⟨m1,m2⟩,Int.le_min.mpr ⟨m3,m4⟩⟩) (hM.elim (fun z=>z▸Int.le_trans (Int.min_le_left ..) (Int.min_le_left ..)) fun z=>z.elim (fun z=>z▸Int.le_trans (Int.min_le_left ..) (Int.min_le_right ..)) fun z=>z.elim (fun z=>z▸Int.le_trans (Int.min_le_right ..) (Int.min_le_left ..)) fun z=>z▸Int.le_trans (Int.min_le_right ..) (Int.min_le_right ..))
  rw [e]
  exact kq
end
theorem af {K:sZ}{g:TG}{tc:TT}{te:TE}{k:Nat}{σ:St}{H:Hp}{Q:VK}{a:Addr}{ps:tD}{cl:ti} (f:Int×Int→Bool) (hz:cl.length≤sizeLine) (ha:H a=some (.lst (ps.map V.ref))) (C:JL H ps cl)
  (hg:∀(r:Addr) (c:Int×Int) (H':Hp) (Qy:VK) (Qn:Hp→Prop),jg H H'→H' r=some (.tup [.int c.1,.int c.2])→(f c=true→∀H2,jg H' H2→Qy (.ref r) H2)→(f c=false→∀H2,jg H' H2→Qn H2)→g (.ref r) (σ++List.replicate k none) H' fun σ2 H2=>(∃zs,σ2=σ++zs∧zs.length=k)∧tc σ2 H2 fun b H3=>if b=true then te σ2 H3 Qy else Qn H3)
  (q:∀D rs H',jg H H'→H D=none→H' D=some (.lst (rs.map V.ref))→JL H' rs (cl.filter f)→Q (.ref D) H'):yR k g tc te σ Q (gk K a) H:=by
 refine Y4 (xs:=ps.map V.ref) (fun D i ys H'=>H D=none∧jg H H'∧H' D=some (.lst ys)∧ys.length≤i∧∃rs:List Addr,ys=rs.map V.ref∧JL H' rs ((cl.take i).filter f)) (by rw [List.length_map,C.1];exact hz) (fun D hD=>⟨hD,jn (jg.refl _) hD,je,Nat.le_refl _,[],rfl,⟨rfl,fun i p c h=>by cases h⟩⟩) (fun D i ys H' hv=>⟨hv.2.2.1,hv.2.2.2.1,jD.of (hv.2.1 _ _ ha)⟩) ?_ ?_
 ·rintro D i v ys H' Qy Qn hx ⟨d1,d2,d3,d4,rs,rfl,C'⟩ hy hn
  rw [List.getElem?_map] at hx
  obtain⟨r,hx1,rfl⟩:=Option.map_eq_some_iff.mp hx
  have hi:i<cl.length:=by rw [←C.1];exact (List.getElem?_eq_some_iff.mp hx1).1
  have hs:=List.getElem?_eq_getElem hi
  have er:=d2 _ _ (C.2 i r _ hx1 hs)
  have tk:∀b:Bool,f cl[i]=b→(cl.take (i+1)).filter f=(cl.take i).filter f++(if b=true then [cl[i]] else []):=fun b hb=>by
   rw [List.take_add_one,hs,List.filter_append]
   congr 1
   cases b<;>simp [hb]
  generalize cl[i]=cc at er tk
  refine hg r cc H' Qy Qn d2 er (fun hb H2 s2=>?_) fun hb H2 s2=>?_
  ·have d3':=s2 _ _ d3
   refine hy _ _ d3' ⟨d1,fun b u e=>?_,je,by rw [List.length_append];exact Nat.succ_le_succ d4,rs++[r],by rw [List.map_append];rfl,?_⟩
   ·rw [ji (jq e d1)];exact s2 _ _ (d2 _ _ e)
   ·rw [tk true hb,if_pos rfl]
    exact ((C'.same s2).app (JL.one (s2 _ _ er))).wr d3'
  ·refine hn _ ⟨d1,jg.trans d2 s2,s2 _ _ d3,by omega,rs,rfl,?_⟩
   rw [tk false hb,if_neg (by decide),List.append_nil]
   exact C'.same s2
 ·rintro D ys H3 hD ⟨d1,d2,d3,d4,rs,rfl,C'⟩
  rw [List.length_map,C.1,List.take_length] at C'
  exact q D rs H3 d2 d1 d3 C'
section
variable {P:tM}{w:World}{K:sZ}{mg:tj}{base:Heap}{t:Adr}
def MS (C:Addr):Sp:=fun vs H Q _=>∃(o dx:Addr) (x y k:Int) (wd hg:Nat),vs=[.ref o]∧H o=some (.ins C dx (fF (.int x) (.int y) (.int wd) (.int hg) (.int k)))∧wd≤15∧hg≤15∧∀D ps H',jg H H'→H D=none→H' D=some (.lst (ps.map V.ref))→JL H' ps ((vK x y wd hg).filter fun q=>decide (G9 x y wd hg q<k))→Q (.ref D) H'
theorem GI (T:Txt K mg t):Ju P w K mg base 2 t.j6 "cells" ["self"] (MS t.j6):=by
 obtain⟨fd,F,b⟩:=T.kM
 have G_box_places:=vS (P:=P) (w:=w) (base:=base) T
 have G_Frame_steps_from_edge:=GJ (P:=P) (w:=w) (base:=base) T
 refine⟨T.j5,_,fd,T.kW,F.okX yG (fun vs H Q E h=>?_) (fun cdv A outer s H vs Q E hr h=>?_),b⟩
 ·obtain⟨o,dx,x,y,k,wd,hg,rfl,_⟩:=h
  rfl
 ·obtain⟨o,dx,x,y,k,wd,hg,rfl,ho,w1,h1,q⟩:=h
  refine⟨_,(jj (jI (i:=1) yG.nd rfl (Or.inl rfl) (jx G_box_places hr.m jk (by rfl) (ja (jv (pv 0) rfl) (ja (jv (pv 0) rfl) (ja (jv (pv 0) rfl) (ja (jv (pv 0) rfl) jf))))))
   (jm (jF (vk (own:=["place"]) (Vx (n:="self") (N:=["self","places"]) rfl (by rfl) (by rfl) rfl (by rfl) (by decide +kernel) (by decide +kernel) (by decide +kernel)) (uK (pv 1)) (fun _ _ _ _ _=>jL (i:=2) (by show (["self","places","place"]:tH).Nodup;decide +kernel) rfl (Or.inl rfl)) (fun _ _ _ _ _=>Mu (jH U2 (jz (pv 0) G_Frame_steps_from_edge hr.m pO (ja (pv 2) jf)) (iZ (K:=K) rfl (pv 0) rfl) (jy _))) (fun _ _ _ _ _=>(pv 2)))))),?_⟩
  refine⟨_,rfl,o,_,dx,_,.int x,rfl,ho,T.j5,T.Vn,by kernel_rfl,?_⟩
  refine Jn (.int y) ho T.j5 T.Vo ?_
  refine Jn (.int wd) ho T.j5 T.UA ?_
  refine Jn (.int hg) ho T.j5 T.Uz ⟨x,y,wd,hg,rfl,w1,h1,fun D ps H1 s1 _ e1 C1=>?_⟩
  have l2:wd*hg≤15*15:=Nat.mul_le_mul w1 h1
  refine⟨_,rfl,D,rfl,⟨_,jD.of e1⟩,af (fun q=>decide (G9 x y wd hg q<k)) (by rw [vn];exact Nat.le_trans l2 (by decide)) e1 C1 (fun r c H' Qy Qn s' er kY kN=>?_) fun D2 rs H' s' hD2 e2 C2=>q D2 rs H' (jg.trans s1 s') (by cases z:H D2 with|none=>rfl|some u=>rw [s1 _ _ z] at hD2;cases hD2) e2 C2⟩
  have ho':=s' _ _ (s1 _ _ ho)
  refine⟨⟨_,rfl,rfl⟩,_,rfl,o,dx,_,rfl,ho',by kernel_rfl,_,rfl,o,dx,r,x,y,wd,hg,k,c,rfl,ho',er,Jn (.int k) ho' T.j5 T.yu ⟨_,_,rfl,rfl,_,rfl,?_⟩⟩
  exact JE (fun h=>⟨_,rfl,kY (decide_eq_true h) H' (jg.refl H')⟩) fun h=>kN (decide_eq_false h) H' (jg.refl H')
end
end K11
namespace K11
open PySem L2 Wd TS STb
def bx (wd:Int) (a b:Int×Int):List (Int×Int):=vK ((if b.1<a.1 then b.1 else a.1) - wd / 2) ((if b.2<a.2 then b.2 else a.2) - wd / 2) ((if a.1 - b.1<0 then -(a.1 - b.1) else a.1 - b.1)+wd).toNat ((if a.2 - b.2<0 then -(a.2 - b.2) else a.2 - b.2)+wd).toNat
def Ni (wd:Int) (zs:List ((Int×Int)×(Int×Int))):List (Int×Int):=zs.flatMap fun z=>bx wd z.1 z.2
def VR (q0:Int×Int) (r:ti):List ((Int×Int)×(Int×Int)):=(q0::q0::r).zip (q0::r)
def bX (wd:Int) (q0:Int×Int) (r:ti):List (Int×Int):=Ni wd (VR q0 r)
def rK (wd:Int) (q0:Int×Int) (r:ti) (ks:List (List Key)):Prop:=(ks.Pairwise fun a b=>lx b a=false)∧ks.Nodup∧∀k,k∈ks↔k∈(bX wd q0 r).map k2
theorem mL:∀{l:ti} {i:Nat} {a b:Int×Int},inl l→l[i]?=some a→l[i+1]?=some b→nr a b
 | [],i,a,b,_,h1,_=>by cases h1
 | [x],i,a,b,_,_,h2=>by cases h2
 | x::y::l,0,a,b,h,h1,h2=>by cases h1;cases h2;exact h.1
 | x::y::l,i+1,a,b,h,h1,h2=>mL (l:=y::l) (i:=i) h.2 h1 h2
theorem qY {q0:Int×Int}{r:ti}{i:Nat}{a b:Int×Int} (h:inl (q0::r)) (h1:(q0::q0::r)[i]?=some a) (h2:(q0::r)[i]?=some b):nr a b:=by
 cases i with
 | zero=>cases h1;cases h2;exact .inl ⟨rfl,by omega,by omega⟩
 | succ i=>exact mL h h1 h2
theorem rz {wd d:Int} (hw:wd=1∨wd=3):∃W:Nat,((if d<0 then -d else d)+wd)=(W:Int)∧(d=0→W≤3)∧(d≤12→-12≤d→W≤15):=by
 have h0:0≤wd∧wd≤3:=by omega
 rcases Int.lt_or_le d 0 with g|g
 ·rw [if_pos g]
  exact⟨(-d+wd).toNat,(Int.toNat_of_nonneg (by omega)).symm,fun _=>by omega,fun _ _=>by omega⟩
 ·rw [if_neg (Int.not_lt.mpr g)]
  exact⟨(d+wd).toNat,(Int.toNat_of_nonneg (by omega)).symm,fun _=>by omega,fun _ _=>by omega⟩
theorem rO {wd:Int}{a b:Int×Int} (hw:wd=1∨wd=3) (h:nr a b) :
  ∃W G:Nat,((if a.1 - b.1<0 then -(a.1 - b.1) else a.1 - b.1)+wd)=(W:Int)∧((if a.2 - b.2<0 then -(a.2 - b.2) else a.2 - b.2)+wd)=(G:Int)∧W≤15∧G≤15∧W*G≤45:=by
 obtain⟨W,hW,w1,w2⟩:=rz (d:=a.1 - b.1) hw
 obtain⟨G,hG,g1,g2⟩:=rz (d:=a.2 - b.2) hw
 refine⟨W,G,hW,hG,?_⟩
 rcases h with ⟨h1,h2,h3⟩|⟨h1,h2,h3⟩
 ·have w3:=w1 (by omega)
  have g3:=g2 (by omega) (by omega)
  exact⟨Nat.le_trans w3 (by decide),g3,Nat.mul_le_mul w3 g3⟩
 ·have w3:=w2 (by omega) (by omega)
  have g3:=g1 (by omega)
  exact⟨w3,Nat.le_trans g3 (by decide),Nat.mul_le_mul w3 g3⟩
theorem me {K:sZ}{H:Hp}{p0:Addr}{ps:tD}{q0:Int×Int}{r:ti} (C:ur K H (p0::ps) ((q0::r).map zv)) {i:Nat} {p:Addr} {q:Int×Int} (h1:(p0::ps)[i]?=some p) (h2:(q0::r)[i]?=some q):H p=some (.tup [.int q.1,.int q.2]) :=
 C.at_ i p (zv q) h1 (by rw [List.getElem?_map,h2];rfl)
theorem ir {K:sZ}{H:Hp}{p0:Addr}{ps:tD}{q0:Int×Int}{r:ti} (C:ur K H (p0::ps) ((q0::r).map zv)) {i:Nat} {p:Addr} {q:Int×Int} (h1:(p0::p0::ps)[i]?=some p) (h2:(q0::q0::r)[i]?=some q):H p=some (.tup [.int q.1,.int q.2]):=by
 cases i with
 | zero=>cases h1;cases h2;exact me C (i:=0) rfl rfl
 | succ i=>exact me C h1 h2
theorem qh {K:sZ}{H:Hp}{p p0:Addr}{ps:tD}{Q:VK} (h:H p=some (.tup ((p0::ps).map V.ref))) (hQ:∀a1 Hc,jg H Hc→Hc a1=some (.tup [V.ref p0])→Q (.ref a1) Hc):qd K (.ref p) none (some 1) H Q:=by
 have e0:∀n:Nat,HT.sIx (n+1) 0 none=0:=fun n=>rfl
 have e1:∀n:Nat,HT.sIx (n+1) (n+1) (some 1)=1:=fun n=>by
  simp [HT.sIx]
  try omega
 refine⟨p,_,rfl,jw.of h,fun hw=>?_,fun hw p1 hp1=>?_⟩
 ·have:=hw.2
  rw [show ((p0::ps).map V.ref).length=ps.length+1 by simp,e1] at this
  have:ps=[]:=List.length_eq_zero_iff.mp (by omega)
  subst this
  exact hQ p H (jg.refl H) h
 ·have e:uR ((p0::ps).map V.ref) none (some 1)=[V.ref p0]:=by
   unfold uR
   rw [show ((p0::ps).map V.ref).length=ps.length+1 by simp,e0,e1]
   rfl
  rw [e]
  exact hQ p1 _ (jn (jg.refl H) hp1) je
theorem JL.keys {H:Hp}{ps:tD}{pl:ti} (C:JL H ps pl):jM H ps (pl.map k2):=⟨by rw [C.1,List.length_map],fun i b k h1 h2=>by
 rw [List.getElem?_map] at h2
 obtain⟨q,e,rfl⟩:=Option.map_eq_some_iff.mp h2
 exact C.2 i b q h1 e⟩
theorem qF {x y W G W' G':Int} (h1:W=W') (h2:G=G'):[V.int x,V.int y,V.int W,V.int G]=[V.int x,V.int y,V.int W',V.int G']:=by rw [h1,h2]
section
variable {P:tM}{w:World}{K:sZ}{mg:tj}{base:Heap}{t:Adr}
def MT (K:sZ) (C:Addr):Sp:=fun vs H Q _=>∃(o dx p p0:Addr) (wd:Int) (ps:tD) (q0:Int×Int) (r:ti),vs=[.ref o]∧H o=some (.ins C dx (fL (.ref p) (.int wd)))∧H p=some (.tup ((p0::ps).map V.ref))∧ur K H (p0::ps) ((q0::r).map zv)∧(wd=1∨wd=3)∧r.length≤5∧inl (q0::r) ∧
 ∀D bs ks H',jg H H'→H D=none→H' D=some (.lst (bs.map V.ref))→jM H' bs ks→rK wd q0 r ks→Q (.ref D) H'
theorem Kg (T:Txt K mg t):Ju P w K mg base 2 t.Jz "cells" ["self"] (MT K t.Jz):=by
 obtain⟨fd,F,b⟩:=T.KH
 have G_box_places:=vS (P:=P) (w:=w) (base:=base) T
 refine⟨T.JK,_,fd,T.KW,F.okX Jv (fun vs H Q E h=>?_) (fun cdv A outer s H vs Q E hr h=>?_),b⟩
 ·obtain⟨o,dx,p,p0,wd,ps,q0,r,rfl,_⟩:=h
  rfl
 ·obtain⟨o,dx,p,p0,wd,ps,q0,r,rfl,ho,hp,C,hw,hl,hin,q⟩:=h
  refine⟨_,(jj (jI (i:=1) Jv.nd rfl (Or.inl rfl) (jr JB (jv (pv 0) rfl) jh))
   (jj (jI (i:=2) Jv.nd rfl (Or.inl rfl) (ug jf))
   (jj (JJ Jq (i6 rfl rfl T.fN (ja (jr NK (Ya lB (jv (pv 0) rfl) GK (yB jh)) (jv (pv 0) rfl)) (ja (jv (pv 0) rfl) jf))) (gY rfl (JH (jL (i:=3) Jv.nd rfl (Or.inl rfl)) (JH (jL (i:=4) Jv.nd rfl (Or.inl rfl)) yA))) (jj (jI (i:=5) Jv.nd rfl (Or.inl rfl) (jr jQ (jO (G4 rfl) (by rfl) T.Vm Vg (ja (jN jG (pv 3) jh (fun _ _=>rfl)) (ja (jN jG (pv 4) jh (fun _ _=>rfl)) jf))) (pv 1)))
   (jj (jI (i:=6) Jv.nd rfl (Or.inl rfl) (jr jQ (jO (G4 rfl) (by rfl) T.Vm Vg (ja (jN jG (pv 3) jh (fun _ _=>rfl)) (ja (jN jG (pv 4) jh (fun _ _=>rfl)) jf))) (pv 1)))
   (jj (jI (i:=7) Jv.nd rfl (Or.inl rfl) (jr jZ (jO K5 (by rfl) T.fI fh (ja (jr jQ (jN jG (pv 3) jh (fun _ _=>rfl)) (jN jG (pv 4) jh (fun _ _=>rfl))) jf)) (jv (pv 0) rfl)))
   (jj (jI (i:=8) Jv.nd rfl (Or.inl rfl) (jr jZ (jO K5 (by rfl) T.fI fh (ja (jr jQ (jN jG (pv 3) jh (fun _ _=>rfl)) (jN jG (pv 4) jh (fun _ _=>rfl))) jf)) (jv (pv 0) rfl)))
   (jm (jA (vv PySem.F.plainAttrs_list PySem.F.slot_list_extend PySem.F.type_list_extend kl (pv 2) (ja (jx G_box_places hr.m jk (by rfl) (ja (pv 5) (ja (pv 6) (ja (pv 7) (ja (pv 8) jf))))) jf)))))))))
   (jm (jF (jO (K7 rfl) (by rfl) T.UG UC (ja (UO (be rfl hr.units) (by rfl) T.qX qG (ja (pv 2) jf)) jf))))))),?_⟩
  dsimp only [Y5,yS]
  refine⟨_,rfl,o,_,dx,_,.int wd,rfl,ho,T.JK,T.JQ,by kernel_rfl,wd,2,rfl,rfl,⟨by decide,by decide⟩,?_⟩
  refine⟨MF,fun D hD=>?_⟩
  have s1:=jn (o:=.lst []) (jg.refl H) hD
  have eD1:upd H D (.lst []) D=some (.lst []):=je
  generalize upd H D (.lst [])=H1 at s1 eD1
  refine⟨_,rfl,o,_,dx,_,.ref p,rfl,s1 _ _ ho,T.JK,T.JO,by kernel_rfl,1,rfl,qh (s1 _ _ hp) fun a1 Hc sc ec=>?_⟩
  have s2:=jg.trans s1 sc
  have lenp:(p0::ps).length=(q0::r).length:=by have:=C.len;rw [List.length_map] at this;exact this
  refine Jn (.ref p) (s2 _ _ ho) T.JK T.JO ⟨a1,p,_,_,rfl,rfl,jw.of ec,jw.of (s2 _ _ hp),(fun z=>by cases z),?_,(fun z=>by cases z),fun _ pc hpc=>?_⟩
  ·rw [List.length_map,lenp]
   exact Nat.le_trans (show _≤100 by simp;omega) (by decide)
  have s3:=jn (o:=.tup ([V.ref p0]++(p0::ps).map V.ref)) s2 hpc
  have ex:upd Hc pc (.tup ([V.ref p0]++(p0::ps).map V.ref)) pc=some (.tup ((p0::p0::ps).map V.ref)):=je
  have eD3:upd Hc pc (.tup ([V.ref p0]++(p0::ps).map V.ref)) D=some (.lst []):=by
   have:=sc _ _ eD1
   rw [ji (jq this hpc)];exact this
  generalize upd Hc pc (.tup ([V.ref p0]++(p0::ps).map V.ref))=H3 at s3 ex eD3
  have nD:∀{b u},H b=some u→b≠D:=fun e=>jq e hD
  refine Jn (.ref p) (s3 _ _ ho) T.JK T.JO ⟨pc,p,rfl,⟨_,jw.of ex⟩,⟨_,jw.of (s3 _ _ hp)⟩,dh (xs:=(p0::p0::ps).map V.ref) (ys:=(p0::ps).map V.ref)
   (fun i σ H2=>∃(v3 v4 v5 v6 v7 v8:Option V) (as:tD),σ=[oR o,some (.int (wd / 2)),oR D,v3,v4,v5,v6,v7,v8]∧jg H H2∧H2 pc=some (.tup ((p0::p0::ps).map V.ref))∧H2 D=some (.lst (as.map V.ref))∧as.length≤45*i∧JL H2 as (Ni wd ((VR q0 r).take i))) (by simp) ⟨_,_,_,_,_,_,[],rfl,s3,ex,eD3,Nat.zero_le _,JL.nil⟩ ?_ ?_ ?_⟩
  ·rintro i σ H2 _ ⟨_,_,_,_,_,_,as,rfl,s4,e4,_⟩
   exact⟨jw.of e4,jw.of (s4 _ _ hp)⟩
  ·rintro i x y pz σ H2 hx hy hpz ⟨v3,v4,v5,v6,v7,v8,as,rfl,s4,e4,eD,la,C4⟩
   rw [List.getElem?_map] at hx hy
   obtain⟨pa,ha,rfl⟩:=Option.map_eq_some_iff.mp hx
   obtain⟨pb,hb,rfl⟩:=Option.map_eq_some_iff.mp hy
   have hi:i<(q0::r).length:=by rw [←lenp];exact (List.getElem?_eq_some_iff.mp hb).1
   obtain⟨qb,hqb⟩:∃qb,(q0::r)[i]?=some qb:=⟨_,List.getElem?_eq_getElem hi⟩
   obtain⟨qa,hqa⟩:∃qa,(q0::q0::r)[i]?=some qa:=⟨_,List.getElem?_eq_getElem (by rw [List.length_cons];omega)⟩
   have ea0:=s4 _ _ (ir C ha hqa)
   have eb0:=s4 _ _ (me C hb hqb)
   obtain⟨W,G,hW,hG,w13,g13,ar⟩:=rO hw (qY hin hqa hqb)
   have s5:=jn (o:=.tup [V.ref pa,V.ref pb]) (jg.refl H2) hpz
   have ez:upd H2 pz (.tup [V.ref pa,V.ref pb]) pz=some (.tup [V.ref pa,V.ref pb]):=je
   generalize upd H2 pz (.tup [V.ref pa,V.ref pb])=H5 at s5 ez
   have ea:=s5 _ _ ea0
   have eb:=s5 _ _ eb0
   have ho5:=s5 _ _ (s4 _ _ ho)
   have bxe:Ni wd ((VR q0 r).take (i+1))=Ni wd ((VR q0 r).take i)++vK ((if qb.1<qa.1 then qb.1 else qa.1) - wd / 2) ((if qb.2<qa.2 then qb.2 else qa.2) - wd / 2) W G:=by
    have hz:(VR q0 r)[i]?=some (qa,qb):=by unfold VR;rw [List.getElem?_zip_eq_some];exact⟨hqa,hqb⟩
    unfold Ni
    rw [List.take_add_one,hz,List.flatMap_append]
    simp only [Option.toList_some,List.flatMap_cons,List.flatMap_nil,List.append_nil]
    congr 1
    unfold bx
    rw [hW,hG]
    rfl
   refine⟨pz,_,rfl,jw.of ez,rfl,_,_,rfl,_,_,rfl,rfl,?_⟩
   refine Jj (.int qa.1) (jw.of ea) (Jj (.int qb.1) (jw.of eb) ⟨_,_,rfl,_,rfl,_,_,rfl,rfl,?_⟩)
   refine Jj (.int qa.2) (jw.of ea) (Jj (.int qb.2) (jw.of eb) ⟨_,_,rfl,_,rfl,_,_,rfl,rfl,?_⟩)
   refine Jj (.int qa.1) (jw.of ea) (Jj (.int qb.1) (jw.of eb) ⟨_,_,rfl,rfl,_,rfl,Jn (.int wd) ho5 T.JK T.JQ ⟨_,_,rfl,rfl,?_⟩⟩)
   refine Jj (.int qa.2) (jw.of ea) (Jj (.int qb.2) (jw.of eb) ⟨_,_,rfl,rfl,_,rfl,Jn (.int wd) ho5 T.JK T.JQ ⟨_,_,rfl,rfl,?_⟩⟩)
   refine⟨_,rfl,.inl ⟨rfl,_,jD.of (s5 _ _ eD)⟩,_,rfl,_,rfl,_,rfl,_,rfl,_,_,W,G,qF hW hG,w13,g13,fun D2 bs2 H6 s6 _ e6 C6=>?_⟩
   have eD6:=s6 _ _ (s5 _ _ eD)
   have l6:bs2.length≤45:=by rw [C6.1,vn];exact ar
   have hi6:i<6:=by rw [List.length_cons] at hi;omega
   refine⟨D,D2,_,_,rfl,rfl,eD6,e6,?_,_,_,_,_,_,_,as++bs2,rfl,fun b u e=>?_,?_,by rw [je,List.map_append],?_,?_⟩
   ·rw [List.length_map,List.length_map]
    exact Nat.le_trans (show _≤1000 by omega) (by decide)
   ·rw [ji (nD e)]
    exact s6 _ _ (s5 _ _ (s4 _ _ e))
   ·have:=s6 _ _ (s5 _ _ e4)
    rw [ji (jX this eD6 (by intro z;cases z))];exact this
   ·rw [List.length_append];omega
   ·rw [bxe]
    exact (((C4.same s5).same s6).app C6).wr eD6
  ·rintro σ H2 ⟨v3,v4,v5,v6,v7,v8,as,rfl,s4,e4,eD,la,C4⟩
   have full:(VR q0 r).take ((p0::ps).map V.ref).length=VR q0 r:=List.take_of_length_le (by unfold VR;rw [List.length_zip,List.length_map,lenp];exact Nat.min_le_right _ _)
   rw [full] at C4
   have C4:JL H2 as (bX wd q0 r):=C4
   have ll:((p0::ps).map V.ref).length≤6:=by rw [List.length_map,lenp,List.length_cons];omega
   refine⟨_,rfl,D,as,_,rfl,eD,C4.keys,?_,fun S us led hS nd mem lk=>?_⟩
   ·rw [List.length_map,←C4.1];omega
   have form:∀x∈us,∃c,x.1=k2 c:=fun x hx=>by
    have:=(mem x.1).mp (List.mem_map_of_mem hx)
    obtain⟨c,_,e⟩:=List.mem_map.mp this
    exact⟨c,e.symm⟩
   have s7:jg H2 (upd H2 S (.ext (Y0 P w S us led))):=jn (jg.refl H2) hS
   refine⟨S,us,led,sd (k2 (0,0)),rfl,je,fun x hx=>s7 _ _ (lk x hx),fun x hx=>?_,by decide,?_,fun l bs' ks' hl' ka pm up=>q l bs' ks' _ (jg.trans (jg.trans s4 s7) (jn (jg.refl _) hl')) (by cases z:H l with|none=>rfl|some u=>exact absurd (hl'.symm.trans (jg.trans s4 s7 _ _ z)) (fun y=>by cases y)) je (jM.same ka (jn (jg.refl _) hl')) ⟨up,pm.nodup_iff.mpr nd,fun k=>pm.mem_iff.trans (mem k)⟩⟩
   ·obtain⟨c,e⟩:=form x hx
    rw [e]
    exact⟨fun y hy=>by
     simp only [k2,List.mem_cons,List.not_mem_nil,or_false] at hy
     rcases hy with rfl|rfl<;>exact⟨_,rfl⟩,rfl⟩
   ·have h1:(us.map (·.1)).length≤((bX wd q0 r).map k2).length:=List.Nodup.length_le_of_subset nd fun k hk=>(mem k).mp hk
    rw [List.length_map,List.length_map,←C4.1] at h1
    omega
end
end K11
namespace K11
open PySem L2 Wd TS STb
theorem vh {x y:Int}{wd hg:Nat}{q:Int×Int}:q∈vK x y wd hg↔x≤q.1∧q.1<x+wd∧y≤q.2∧q.2<y+hg:=by
 unfold vK
 rw [List.mem_flatMap]
 constructor
 ·rintro⟨i,hi,h⟩
  obtain⟨j,hj,rfl⟩:=List.mem_map.mp h
  rw [List.mem_range] at hi hj
  dsimp only
  omega
 ·rintro⟨h1,h2,h3,h4⟩
  refine⟨(q.1 - x).toNat,List.mem_range.mpr (by omega),List.mem_map.mpr ⟨(q.2 - y).toNat,List.mem_range.mpr (by omega),?_⟩⟩
  exact Prod.ext (by dsimp only;omega) (by dsimp only;omega)
def YR (x y wd hg:Int) (q:Int×Int):Prop:=x≤q.1∧q.1<x+wd∧y≤q.2∧q.2<y+hg
def yl (wd:Int) (a b q:Int×Int):Prop:=min a.1 b.1 - wd / 2≤q.1∧q.1≤max a.1 b.1+wd / 2∧min a.2 b.2 - wd / 2≤q.2∧q.2≤max a.2 b.2+wd / 2
theorem fk {a b e wd q:Int} (h2:e+e+1=wd) (e0:0≤e):((if b<a then b else a) - e≤q∧q<(if b<a then b else a) - e+(((if a - b<0 then -(a - b) else a - b)+wd).toNat:Int))↔(min a b - e≤q∧q≤max a b+e):=by
 rcases Int.lt_or_le b a with g|g
 ·rw [if_pos g,if_neg (by omega),Int.min_eq_right (Int.le_of_lt g),Int.max_eq_left (Int.le_of_lt g),Int.toNat_of_nonneg (by omega)]
  omega
 ·rw [if_neg (by omega),Int.min_eq_left g,Int.max_eq_right g]
  rcases Int.lt_or_le a b with k|k
  ·rw [if_pos (by omega),Int.toNat_of_nonneg (by omega)]
   omega
  ·rw [if_neg (by omega),Int.toNat_of_nonneg (by omega)]
   omega
theorem b9 {wd:Int}{a b q:Int×Int} (hw:wd=1∨wd=3):q∈bx wd a b↔yl wd a b q:=by
 have h2:wd / 2+wd / 2+1=wd∧0≤wd / 2:=by rcases hw with rfl|rfl<;>decide
 have u:=fk (a:=a.1) (b:=b.1) (q:=q.1) h2.1 h2.2
 have v:=fk (a:=a.2) (b:=b.2) (q:=q.2) h2.1 h2.2
 exact vh.trans ⟨fun h=>have m:=u.mp ⟨h.1,h.2.1⟩;⟨m.1,m.2,v.mp h.2.2⟩,fun h=>have m:=u.mpr ⟨h.1,h.2.1⟩;⟨m.1,m.2,v.mpr h.2.2⟩⟩
theorem yl.le {wd:Int}{a b q:Int×Int} (h1:a.1≤b.1) (h2:a.2≤b.2):yl wd a b q↔a.1 - wd / 2≤q.1∧q.1≤b.1+wd / 2∧a.2 - wd / 2≤q.2∧q.2≤b.2+wd / 2:=by
 unfold yl
 rw [Int.min_eq_left h1,Int.max_eq_right h1,Int.min_eq_left h2,Int.max_eq_right h2]
theorem yl.ge {wd:Int}{a b q:Int×Int} (h1:b.1≤a.1) (h2:a.2≤b.2):yl wd a b q↔b.1 - wd / 2≤q.1∧q.1≤a.1+wd / 2∧a.2 - wd / 2≤q.2∧q.2≤b.2+wd / 2:=by
 unfold yl
 rw [Int.min_eq_right h1,Int.max_eq_left h1,Int.min_eq_left h2,Int.max_eq_right h2]
def oS (H:Hp):V→V|.ref p=>(match H p with|some (.tup (a::_))=>a|_=>.non)|v=>v
def oU (H:Hp):V→V|.ref p=>(match H p with|some (.tup (_::b::_))=>b|_=>.non)|v=>v
theorem bG {H:Hp}{p:Addr}{a b:V} (h:H p=some (.tup [a,b])):oS H (.ref p)=a:=by show (match H p with|some (.tup (a::_))=>a|_=>V.non)=a;rw [h]
theorem bH {H:Hp}{p:Addr}{a b:V} (h:H p=some (.tup [a,b])):oU H (.ref p)=b:=by show (match H p with|some (.tup (_::b::_))=>b|_=>V.non)=b;rw [h]
theorem mJ {H:Hp}:∀{ps:tD} {qs:ti},JL H ps qs→(ps.map V.ref).map (oS H)=(qs.map (·.1)).map V.int∧(ps.map V.ref).map (oU H)=(qs.map (·.2)).map V.int
 | [],[],_=>⟨rfl,rfl⟩
 | [],_::_,C=>by cases C.1
 | _::_,[],C=>by cases C.1
 | p::ps,c::qs,C=>by
  have h:=C.2 0 p c rfl rfl
  have ih:=mJ (ps:=ps) (qs:=qs) ⟨Nat.succ.inj C.1,fun i p c h1 h2=>C.2 (i+1) p c h1 h2⟩
  simp only [List.map_cons]
  rw [bG h,bH h,ih.1,ih.2]
  exact⟨rfl,rfl⟩
theorem i8 {H:Hp}{ps:tD}{qs:ti} (C:JL H ps qs):∀x∈ps.map V.ref,∃q u v,x=.ref q∧H q=some (.tup [u,v]):=fun x hx=>by
 obtain⟨p,hp,rfl⟩:=List.mem_map.mp hx
 obtain⟨i,hi,rfl⟩:=List.getElem_of_mem hp
 have h2:i<qs.length:=by rw [←C.1];exact hi
 exact⟨_,_,_,rfl,C.2 i _ _ (List.getElem?_eq_getElem hi) (List.getElem?_eq_getElem h2)⟩
theorem iu {K:sZ}{H:Hp}{ps:tD}{qs:ti} (C:ur K H ps (qs.map zv)):JL H ps qs:=⟨by rw [C.len,List.length_map],fun i p c h1 h2=>C.at_ i p (zv c) h1 (by rw [List.getElem?_map,h2];rfl)⟩
section
variable {P:tM}{w:World}{K:sZ}{mg:tj}{base:Heap}{t:Adr}
def cI (C:Addr):Sp:=fun vs H Q _=>∃(o dx:Addr) (x y wd hg:Int),vs=[.ref o]∧H o=some (.ins C dx (fK (.int x) (.int y) (.int wd) (.int hg)))∧∀p H',jg H H'→H' p=some (.tup [.int x,.int y,.int wd,.int hg])→Q (.ref p) H'
theorem Mf (T:Txt K mg t):Ju P w K mg base 1 t.Ja "box" ["self"] (cI t.Ja):=by
 obtain⟨fd,F,b⟩:=T.ni
 refine⟨T.JG,_,fd,T.nB,F.okX MI (fun vs H Q E h=>?_) (fun cdv A outer s H vs Q E hr h=>?_),b⟩
 ·obtain⟨o,dx,x,y,wd,hg,rfl,_⟩:=h
  rfl
 ·obtain⟨o,dx,x,y,wd,hg,rfl,ho,q⟩:=h
  refine⟨_,(jm (jF (jS (ja (jv (pv 0) rfl) (ja (jv (pv 0) rfl) (ja (jv (pv 0) rfl) (ja (jv (pv 0) rfl) jf))))))),?_⟩
  refine⟨_,rfl,o,_,dx,_,.int x,rfl,ho,T.JG,T.yX,by kernel_rfl,?_⟩
  refine Jn (.int y) ho T.JG T.yY ?_
  refine Jn (.int wd) ho T.JG T.vQ ?_
  refine Jn (.int hg) ho T.JG T.vP ⟨qf,fun p hp=>q p _ (jn (jg.refl H) hp) je⟩
def cH (C:Addr):Sp:=fun vs H Q _=>∃(o dx:Addr) (x y wd hg k:Int),vs=[.ref o]∧H o=some (.ins C dx (fF (.int x) (.int y) (.int wd) (.int hg) (.int k)))∧∀p H',jg H H'→H' p=some (.tup [.int x,.int y,.int wd,.int hg])→Q (.ref p) H'
theorem Mi (T:Txt K mg t):Ju P w K mg base 1 t.j6 "box" ["self"] (cH t.j6):=by
 obtain⟨fd,F,b⟩:=T.nu
 refine⟨T.j5,_,fd,T.nG,F.okX MK (fun vs H Q E h=>?_) (fun cdv A outer s H vs Q E hr h=>?_),b⟩
 ·obtain⟨o,dx,x,y,wd,hg,k,rfl,_⟩:=h
  rfl
 ·obtain⟨o,dx,x,y,wd,hg,k,rfl,ho,q⟩:=h
  refine⟨_,(jm (jF (jS (ja (jv (pv 0) rfl) (ja (jv (pv 0) rfl) (ja (jv (pv 0) rfl) (ja (jv (pv 0) rfl) jf))))))),?_⟩
  refine⟨_,rfl,o,_,dx,_,.int x,rfl,ho,T.j5,T.Vn,by kernel_rfl,?_⟩
  refine Jn (.int y) ho T.j5 T.Vo ?_
  refine Jn (.int wd) ho T.j5 T.UA ?_
  refine Jn (.int hg) ho T.j5 T.Uz ⟨qf,fun p hp=>q p _ (jn (jg.refl H) hp) je⟩
def aD (l:List Int) (m:Int):Prop:=m∈l∧∀a∈l,m≤a
def pH (l:List Int) (m:Int):Prop:=m∈l∧∀a∈l,a≤m
theorem cf {l:List Int}{a b:Int} (x:aD l a) (y:aD l b):a=b:=by have:=x.2 b y.1;have:=y.2 a x.1;omega
def cJ (C:Addr):Sp:=fun vs H Q _=>∃(o dx p:Addr) (n:Int) (ps:tD) (qs:ti),vs=[.ref o]∧H o=some (.ins C dx (fL (.ref p) (.int n)))∧H p=some (.tup (ps.map V.ref))∧JL H ps qs∧0<qs.length∧qs.length≤6 ∧
 ∀p mx Mx my My H',jg H H'→aD (qs.map (·.1)) mx→pH (qs.map (·.1)) Mx→aD (qs.map (·.2)) my→pH (qs.map (·.2)) My→H' p=some (.tup [.int (mx - n / 2),.int (my - n / 2),.int (Mx - mx+n),.int (My - my+n)])→Q (.ref p) H'
theorem nX (T:Txt K mg t):Ju P w K mg base 1 t.Jz "box" ["self"] (cJ t.Jz):=by
 obtain⟨fd,F,b⟩:=T.NZ
 refine⟨T.JK,_,fd,T.N7,F.okX u0 (fun vs H Q E h=>?_) (fun cdv A outer s H vs Q E hr h=>?_),b⟩
 ·obtain⟨o,dx,p,n,ps,qs,rfl,_⟩:=h
  rfl
 ·obtain⟨o,dx,p,n,ps,qs,rfl,ho,hp,C,h0,h6,q⟩:=h
  refine⟨_,(jj (jI (i:=1) u0.nd rfl (Or.inl rfl) (jr JB (jv (pv 0) rfl) jh))
   (jj (gZ (i:=2) u0.nd rfl (Or.inl rfl) (own:=["corner"]) (bj (N:=["self","half","across","down","wide","high"]) rfl (by rfl) (by decide +kernel) (by decide +kernel) (by decide +kernel)) (cr (jv (pv 0) rfl)) (fun _ _ _ _ _=>jL (i:=6) (by show (["self","half","across","down","wide","high","corner"]:tH).Nodup;decide +kernel) rfl (Or.inl rfl)) (fun _ _ _ _ _=>yz) (fun _ _ _ _ _=>(jN (zS (K:=K) rfl) (pv 6) jh (fun _ _=>rfl))))
   (jj (gZ (i:=3) u0.nd rfl (Or.inl rfl) (own:=["corner"]) (bj (N:=["self","half","across","down","wide","high"]) rfl (by rfl) (by decide +kernel) (by decide +kernel) (by decide +kernel)) (cr (jv (pv 0) rfl)) (fun _ _ _ _ _=>jL (i:=6) (by show (["self","half","across","down","wide","high","corner"]:tH).Nodup;decide +kernel) rfl (Or.inl rfl)) (fun _ _ _ _ _=>yz) (fun _ _ _ _ _=>(jN (zS (K:=K) rfl) (pv 6) jh (fun _ _=>rfl))))
   (jj (jI (i:=4) u0.nd rfl (Or.inl rfl) (jr jZ (jr jQ (jO Yk (by rfl) T.fM fj (ja (pv 2) jf)) (jO uV (by rfl) T.Vm Vg (ja (pv 2) jf))) (jv (pv 0) rfl)))
   (jj (jI (i:=5) u0.nd rfl (Or.inl rfl) (jr jZ (jr jQ (jO Yk (by rfl) T.fM fj (ja (pv 3) jf)) (jO uV (by rfl) T.Vm Vg (ja (pv 3) jf))) (jv (pv 0) rfl)))
   (jm (jF (jS (ja (jr jQ (jO uV (by rfl) T.Vm Vg (ja (pv 2) jf)) (pv 1)) (ja (jr jQ (jO uV (by rfl) T.Vm Vg (ja (pv 3) jf)) (pv 1)) (ja (pv 4) (ja (pv 5) jf)))))))))))),?_⟩
  have mem:=i8 C
  have zl:(ps.map V.ref).length≤sizeLine:=by rw [List.length_map,C.1];exact Nat.le_trans h6 (by decide)
  refine⟨_,rfl,o,_,dx,_,.int n,rfl,ho,T.JK,T.JQ,by kernel_rfl,n,2,rfl,rfl,⟨by decide,by decide⟩,?_⟩
  refine⟨_,rfl,o,_,dx,_,.ref p,rfl,ho,T.JK,T.JO,by kernel_rfl,p,rfl,⟨_,jw.of hp⟩,gr (xs:=ps.map V.ref) (fun _=>true) (oS H) (jw.of hp) zl (fun x hx H' Qy Qn s' hy _=>?_) fun D1 H1 hD1 s1 e1=>?_⟩
  ·obtain⟨q1,u,v,rfl,hq1⟩:=mem x hx
   refine⟨⟨_,rfl,rfl⟩,JU (Jj u (jw.of (s' _ _ hq1)) ?_)⟩
   have:=hy rfl H' (jg.refl H')
   rwa [bG hq1] at this
  rw [List.filter_eq_self.mpr (fun _ _=>rfl),(mJ C).1] at e1
  refine⟨_,rfl,o,_,dx,_,.ref p,rfl,s1 _ _ ho,T.JK,T.JO,by kernel_rfl,p,rfl,⟨_,jw.of (s1 _ _ hp)⟩,gr (xs:=ps.map V.ref) (fun _=>true) (oU H) (jw.of (s1 _ _ hp)) zl (fun x hx H' Qy Qn s' hy _=>?_) fun D2 H2 hD2 s2 e2=>?_⟩
  ·obtain⟨q1,u,v,rfl,hq1⟩:=mem x hx
   refine⟨⟨_,rfl,rfl⟩,JU (Jj v (jw.of (s' _ _ (s1 _ _ hq1))) ?_)⟩
   have:=hy rfl H' (jg.refl H')
   rwa [bH hq1] at this
  rw [List.filter_eq_self.mpr (fun _ _=>rfl),(mJ C).2] at e2
  have e1':=s2 _ _ e1
  have sH:=jg.trans s1 s2
  have ho2:=sH _ _ ho
  have l1:0<(qs.map (·.1)).length:=by rw [List.length_map];exact h0
  have l2:0<(qs.map (·.2)).length:=by rw [List.length_map];exact h0
  refine⟨_,rfl,D1,_,rfl,jD.of e1',l1,fun M1 m1 m1'=>⟨_,rfl,D1,_,rfl,jD.of e1',l1,fun M2 m2 m2'=>⟨M1,M2,rfl,rfl,Jn (.int n) ho2 T.JK T.JQ ⟨_,n,rfl,rfl,?_⟩⟩⟩⟩
  refine⟨_,rfl,D2,_,rfl,jD.of e2,l2,fun M3 m3 m3'=>⟨_,rfl,D2,_,rfl,jD.of e2,l2,fun M4 m4 m4'=>⟨M3,M4,rfl,rfl,Jn (.int n) ho2 T.JK T.JQ ⟨_,n,rfl,rfl,?_⟩⟩⟩⟩
  refine⟨_,rfl,D1,_,rfl,jD.of e1',l1,fun M5 m5 m5'=>⟨_,rfl,M5,_,rfl,rfl,_,rfl,D2,_,rfl,jD.of e2,l2,fun M6 m6 m6'=>⟨_,rfl,M6,_,rfl,rfl,_,rfl,_,rfl,qf,fun r hr=>?_⟩⟩⟩
  have g5:M5=M2:=cf ⟨m5,m5'⟩ ⟨m2,m2'⟩
  have g6:M6=M4:=cf ⟨m6,m6'⟩ ⟨m4,m4'⟩
  refine q r M2 M1 M4 M3 _ (jn sH hr) ⟨m2,m2'⟩ ⟨m1,m1'⟩ ⟨m4,m4'⟩ ⟨m3,m3'⟩ ?_
  rw [je,g5,g6]
structure sB (n:Int) (qs:ti) (x y wd hg:Int):Prop where
 x0:∃c∈qs,c.1=x+n / 2
 x1:∃c∈qs,c.1=x+wd - n+n / 2
 y0:∃c∈qs,c.2=y+n / 2
 y1:∃c∈qs,c.2=y+hg - n+n / 2
 al:∀c∈qs,(x+n / 2≤c.1∧c.1≤x+wd - n+n / 2)∧y+n / 2≤c.2∧c.2≤y+hg - n+n / 2
inductive vy (K:sZ) (t:Adr) (H:Hp) (r:Addr) (x y:Int) (wd hg:Nat) (In:Int×Int→Prop):Prop
 | block (dx:Addr):H r=some (.ins t.Ja dx (fK (.int x) (.int y) (.int wd) (.int hg)))→(∀q,In q↔YR x y wd hg q)→vy K t H r x y wd hg In
 | frame (dx:Addr):H r=some (.ins t.j6 dx (fF (.int x) (.int y) (.int wd) (.int hg) (.int 1)))→(∀q,In q↔YR x y wd hg q∧G9 x y wd hg q<1)→vy K t H r x y wd hg In
 | line (dx p p0:Addr) (n:Int) (ps:tD) (q0:Int×Int) (rr:ti):H r=some (.ins t.Jz dx (fL (.ref p) (.int n)))→H p=some (.tup ((p0::ps).map V.ref))→ur K H (p0::ps) ((q0::rr).map zv)→(n=1∨n=3)→rr.length≤5→inl (q0::rr)→(∀q,In q↔∃z∈VR q0 rr,yl n z.1 z.2 q)→sB n (q0::rr) x y wd hg→vy K t H r x y wd hg In
theorem vy.same {H H':Hp}{r:Addr}{x y:Int}{wd hg:Nat}{In:Int×Int→Prop} (h:vy K t H r x y wd hg In) (s:jg H H'):vy K t H' r x y wd hg In:=by
 cases h with
 | block dx e i=>exact .block dx (s _ _ e) i
 | frame dx e i=>exact .frame dx (s _ _ e) i
 | line dx p p0 n ps q0 rr e ep C h1 h2 h3 i b=>exact .line dx p p0 n ps q0 rr (s _ _ e) (s _ _ ep) (C.same s) h1 h2 h3 i b
theorem m8 (x y:Int) (hg:Nat):∀wd,(vK x y wd hg).Nodup
 | 0=>List.nodup_nil
 | n+1=>by
  rw [Z2]
  refine List.nodup_append.mpr ⟨m8 x y hg n,?_,fun a ha b hb e=>?_⟩
  ·refine List.pairwise_map.mpr (List.nodup_range.imp fun {i j} hij e=>hij ?_)
   injection e with _ e
   omega
  ·obtain⟨j,hj,rfl⟩:=List.mem_map.mp hb
   have:=vh.mp ha
   rw [e] at this
   simp only at this
   omega
theorem ow {H:Hp}{r:Addr}{x y:Int}{wd hg:Nat}{In:Int×Int→Prop}{E:XK}{Q:VK} (h:vy K t H r x y wd hg In) (q:∀p H',jg H H'→H' p=some (.tup [.int x,.int y,.int wd,.int hg])→Q (.ref p) H') :
  VL t.Ja "box" (cI t.Ja) E (.ref r) H Q∨VL t.j6 "box" (cH t.j6) E (.ref r) H Q∨VL t.Jz "box" (cJ t.Jz) E (.ref r) H Q:=by
 cases h with
 | block dx e i=>exact .inl ⟨r,dx,_,rfl,e,by kernel_rfl,r,dx,x,y,wd,hg,rfl,e,q⟩
 | frame dx e i=>exact .inr (.inl ⟨r,dx,_,rfl,e,by kernel_rfl,r,dx,x,y,wd,hg,1,rfl,e,q⟩)
 | line dx p p0 n ps q0 rr e ep C h1 h2 h3 i b =>
  refine .inr (.inr ⟨r,dx,_,rfl,e,by kernel_rfl,r,dx,p,n,p0::ps,q0::rr,rfl,e,ep,iu C,by simp,by simp;omega,fun p' mx Mx my My H' s' a1 a2 a3 a4 ep'=>q p' H' s' ?_⟩)
  have fk:mx=x+n / 2:=by
   obtain⟨c,hc,ec⟩:=b.x0
   obtain⟨c',hc',ec'⟩:=List.mem_map.mp a1.1
   have:=a1.2 c.1 (List.mem_map_of_mem hc)
   have:=(b.al c' hc').1.1
   omega
  have bx2:Mx=x+wd - n+n / 2:=by
   obtain⟨c,hc,ec⟩:=b.x1
   obtain⟨c',hc',ec'⟩:=List.mem_map.mp a2.1
   have:=a2.2 c.1 (List.mem_map_of_mem hc)
   have:=(b.al c' hc').1.2
   omega
  have by1:my=y+n / 2:=by
   obtain⟨c,hc,ec⟩:=b.y0
   obtain⟨c',hc',ec'⟩:=List.mem_map.mp a3.1
   have:=a3.2 c.2 (List.mem_map_of_mem hc)
   have:=(b.al c' hc').2.1
   omega
  have by2:My=y+hg - n+n / 2:=by
   obtain⟨c,hc,ec⟩:=b.y1
   obtain⟨c',hc',ec'⟩:=List.mem_map.mp a4.1
   have:=a4.2 c.2 (List.mem_map_of_mem hc)
   have:=(b.al c' hc').2.2
   omega
  rw [ep',fk,bx2,by1,by2]
  congr 2
  rw [show x+n / 2 - n / 2=x by omega,show y+n / 2 - n / 2=y by omega,show x+(wd:Int) - n+n / 2 - (x+n / 2)+n=wd by omega,show y+(hg:Int) - n+n / 2 - (y+n / 2)+n=hg by omega]
theorem c8 {H:Hp}{r:Addr}{x y:Int}{wd hg:Nat}{In:Int×Int→Prop}{E:XK}{Q:VK} (h:vy K t H r x y wd hg In) (w1:wd≤12) (h1:hg≤12) (q:∀D bs pl H',jg H H'→H D=none→H' D=some (.lst (bs.map V.ref))→JL H' bs pl→pl.Nodup→(∀q,q∈pl↔In q)→Q (.ref D) H') :
  VL t.Ja "cells" (MR t.Ja) E (.ref r) H Q∨VL t.j6 "cells" (MS t.j6) E (.ref r) H Q∨VL t.Jz "cells" (MT K t.Jz) E (.ref r) H Q:=by
 cases h with
 | block dx e i=>exact .inl ⟨r,dx,_,rfl,e,by kernel_rfl,r,dx,x,y,wd,hg,rfl,e,by omega,by omega,fun D ps H' s' d' e' C=>q D ps _ H' s' d' e' C (m8 ..) fun p=>vh.trans (i p).symm⟩
 | frame dx e i=>exact .inr (.inl ⟨r,dx,_,rfl,e,by kernel_rfl,r,dx,x,y,1,wd,hg,rfl,e,by omega,by omega,fun D ps H' s' d' e' C=>q D ps _ H' s' d' e' C ((m8 ..).filter _) fun p=>by rw [List.mem_filter,vh,decide_eq_true_eq];exact (i p).symm⟩)
 | line dx p p0 n ps q0 rr e ep C h1 h2 h3 i b =>
  refine .inr (.inr ⟨r,dx,_,rfl,e,by kernel_rfl,r,dx,p,p0,n,ps,q0,rr,rfl,e,ep,C,h1,h2,h3,fun D bs ks H' s' d' e' ka ln=>?_⟩)
  obtain⟨pl,rfl⟩:∃pl:List (Int×Int),ks=pl.map k2:=by
   have form:∀k∈ks,∃q,k=k2 q:=fun k hk=>by
    obtain⟨q,_,e⟩:=List.mem_map.mp ((ln.2.2 k).mp hk)
    exact⟨q,e.symm⟩
   clear ln ka
   induction ks with
   | nil=>exact⟨[],rfl⟩
   | cons k r ih =>
    obtain⟨q,rfl⟩:=form k (List.mem_cons_self ..)
    obtain⟨pl,e⟩:=ih fun k hk=>form k (List.mem_cons_of_mem _ hk)
    exact⟨q::pl,by rw [e];rfl⟩
  refine q D bs pl H' s' d' e' ⟨by rw [ka.1,List.length_map],fun j p c g1 g2=>ka.2 j p (k2 c) g1 (by rw [List.getElem?_map,g2];rfl)⟩ ((List.pairwise_map.mp ln.2.1).imp fun {a b} hab e=>hab (by rw [e])) fun c=>?_
  have m1:c∈pl↔c∈bX n q0 rr:=by
   have:=ln.2.2 (k2 c)
   rw [List.mem_map,List.mem_map] at this
   exact⟨fun hq=>by obtain⟨c',hc,e⟩:=this.mp ⟨c,hq,rfl⟩;rw [←uA e];exact hc,fun hq=>by obtain⟨c',hc,e⟩:=this.mpr ⟨c,hq,rfl⟩;rw [←uA e];exact hc⟩
  rw [m1,i c]
  unfold bX Ni
  rw [List.mem_flatMap]
  exact⟨fun ⟨z,hz,m⟩=>⟨z,hz,(b9 h1).mp m⟩,fun ⟨z,hz,m⟩=>⟨z,hz,(b9 h1).mpr m⟩⟩
end
end K11
namespace K11
open PySem L2 Wd TS STb
theorem jV.nil {H:Hp}:jV H [] []:=⟨rfl,fun i p c h=>by cases h⟩
theorem jV.snoc {H:Hp}{ps:tD}{cl:tf}{p:Addr}{c:Int×Int×Int} (C:jV H ps cl) (hp:H p=some (.tup [.int c.1,.int c.2.1,.int c.2.2])):jV H (ps++[p]) (cl++[c]):=⟨by rw [List.length_append,List.length_append,C.1];rfl,fun i q d h1 h2=>by
 by_cases h:i<ps.length
 ·rw [List.getElem?_append_left h] at h1
  rw [List.getElem?_append_left (C.1▸h)] at h2
  exact C.2 i q d h1 h2
 ·rw [List.getElem?_append_right (by omega)] at h1
  rw [List.getElem?_append_right (by rw [←C.1];omega),←C.1] at h2
  generalize i - ps.length=m at h1 h2
  cases m with
  | zero=>cases h1;cases h2;exact hp
  | succ m=>cases h1⟩
theorem jV.wr {H:Hp}{D:Addr}{ps:tD}{cl:tf}{ys ys':List V} (C:jV H ps cl) (hD:H D=some (.lst ys)):jV (upd H D (.lst ys')) ps cl:=⟨C.1,fun i q d h1 h2=>by
 have e:=C.2 i q d h1 h2
 rw [ji (jX e hD (by intro z;cases z))];exact e⟩
section
variable {P:tM}{w:World}{K:sZ}{mg:tj}{base:Heap}{t:Adr}
theorem vy.inB {H:Hp}{r:Addr}{x y:Int}{wd hg:Nat}{In:Int×Int→Prop} (h:vy K t H r x y wd hg In) {q:Int×Int} (hq:In q):YR x y wd hg q:=by
 cases h with
 | block dx e i=>exact (i q).mp hq
 | frame dx e i=>exact ((i q).mp hq).1
 | line dx p p0 n ps q0 rr e ep C h1 h2 h3 i b =>
  obtain⟨z,hz,m⟩:=(i q).mp hq
  have hz2:z.1∈q0::rr∧z.2∈q0::rr:=by
   have:=List.of_mem_zip hz
   refine⟨?_,this.2⟩
   rcases List.mem_cons.mp this.1 with e|e
   ·rw [e];exact List.mem_cons_self ..
   ·exact e
  have a1:=b.al _ hz2.1
  have a2:=b.al _ hz2.2
  have e2:n / 2+n / 2+1=n:=by rcases h1 with rfl|rfl<;>decide
  have k1:x+n / 2≤min z.1.1 z.2.1:=Int.le_min.mpr ⟨a1.1.1,a2.1.1⟩
  have k2:max z.1.1 z.2.1≤x+wd - n+n / 2:=Int.max_le.mpr ⟨a1.1.2,a2.1.2⟩
  have k3:y+n / 2≤min z.1.2 z.2.2:=Int.le_min.mpr ⟨a1.2.1,a2.2.1⟩
  have k4:max z.1.2 z.2.2≤y+hg - n+n / 2:=Int.max_le.mpr ⟨a1.2.2,a2.2.2⟩
  obtain⟨m1,m2,m3,m4⟩:=m
  generalize min z.1.1 z.2.1=A at k1 m1
  generalize max z.1.1 z.2.1=B at k2 m2
  generalize min z.1.2 z.2.2=C at k3 m3
  generalize max z.1.2 z.2.2=D at k4 m4
  exact⟨by omega,by omega,by omega,by omega⟩
theorem vy.len {H:Hp}{r:Addr}{x y:Int}{wd hg:Nat}{In:Int×Int→Prop} (h:vy K t H r x y wd hg In) {pl:ti} (nd:pl.Nodup) (m:∀q,q∈pl↔In q) (w1:wd≤12) (h1:hg≤12):pl.length≤144:=by
 have:=List.Nodup.length_le_of_subset nd fun q hq=>vh.mpr (h.inB ((m q).mp hq))
 rw [vn] at this
 exact Nat.le_trans this (Nat.mul_le_mul w1 h1)
def zl (z:Int) (pl:ti):List (Int×Int×Int):=pl.map fun q=>(q.1,q.2,z)
def MV (K:sZ) (t:Adr):Sp:=fun vs H Q _=>∃(o dx c d r:Addr) (w h l wd hg:Nat) (x y z:Int) (In:Int×Int→Prop),vs=[.ref o,.ref r,.int z]∧H o=some (.ins t.jl dx (fB w h l c d))∧vy K t H r x y wd hg In∧1≤wd∧1≤hg∧0≤x∧x+wd≤w∧0≤y∧y+hg≤h∧w≤12∧h≤12 ∧
 ∀D ps pl H',jg H H'→H' D=some (.lst (ps.map V.ref))→jV H' ps (zl z pl)→pl.Nodup→(∀q,q∈pl↔In q)→Q (.ref D) H'
theorem U1 (T:Txt K mg t):Ju P w K mg base 3 t.jl "shape_cells" ["self","shape","z"] (MV K t):=by
 obtain⟨fd,F,b⟩:=T.YI
 have G_Block_box:=Mf (P:=P) (w:=w) (base:=base) T
 have G_Frame_box:=Mi (P:=P) (w:=w) (base:=base) T
 have G_Line_box:=nX (P:=P) (w:=w) (base:=base) T
 have G_Block_cells:=GG (P:=P) (w:=w) (base:=base) T
 have G_Frame_cells:=GI (P:=P) (w:=w) (base:=base) T
 have G_Line_cells:=Kg (P:=P) (w:=w) (base:=base) T
 have G_Board_has_square:=ui (P:=P) (w:=w) (base:=base) T
 refine⟨T.js,_,fd,T.YK,F.okX U6 (fun vs H Q E h=>?_) (fun cdv A outer s H vs Q E hr h=>?_),b⟩
 ·obtain⟨o,dx,c,d,r,w,h,l,wd,hg,x,y,z,In,rfl,_⟩:=h
  rfl
 ·obtain⟨o,dx,c,d,r,w,h,l,wd,hg,x,y,z,In,rfl,ho,hs,w1,h1,x0,xw,y0,yh,w12,h12,q⟩:=h
  refine⟨_,(jj (jI (i:=3) U6.nd rfl (Or.inl rfl) (uO ((vq G_Block_box hr.m jk).or ((vq G_Frame_box hr.m jk).or (vq G_Line_box hr.m jk))) (pv 1)))
   (jj (jU (uk (Jg (Jc (jz (pv 0) G_Board_has_square hr.m jk (ja (jN jG (pv 3) jh (fun _ _=>rfl)) (ja (jN jG (pv 3) jh (fun _ _=>rfl)) jf))))) (JT (Jg (Jc (jz (pv 0) G_Board_has_square hr.m jk (ja (jr jQ (jr jZ (jN jG (pv 3) jh (fun _ _=>rfl)) (jN jG (pv 3) jh (fun _ _=>rfl))) jh) (ja (jr jQ (jr jZ (jN jG (pv 3) jh (fun _ _=>rfl)) (jN jG (pv 3) jh (fun _ _=>rfl))) jh) jf))))))).pt (jm (uE J0 rfl T.Y6 rfl (ja vJ jf))) jP)
   (jm (jF (vk (own:=["place"]) (Vx (n:="z") (N:=["self","shape","z","box"]) rfl (by rfl) (by rfl) rfl (by rfl) (by decide +kernel) (by decide +kernel) (by decide +kernel)) (uK (uO ((vq G_Block_cells hr.m jk).or ((vq G_Frame_cells hr.m jk).or (vq G_Line_cells hr.m jk))) (pv 1))) (fun _ _ _ _ _=>jL (i:=4) (by show (["self","shape","z","box","place"]:tH).Nodup;decide +kernel) rfl (Or.inl rfl)) (fun _ _ _ _ _=>yz) (fun _ _ _ _ _=>(jr (Mq (K:=K) rfl) (pv 4) (jS (ja (pv 2) jf))))))))),?_⟩
  refine⟨_,rfl,ow hs fun p H1 s1 ep=>?_⟩
  have S:jw K H1 p [.int x,.int y,.int wd,.int hg]:=jw.of ep
  have a1:(inB x (w:Int)&&inB y (h:Int))=true:=uT (p:=(x,y)).mpr ⟨⟨x0,by omega⟩,y0,by omega⟩
  have a2:(inB (x+(wd:Int) - 1) (w:Int)&&inB (y+(hg:Int) - 1) (h:Int))=true:=uT (p:=(x+(wd:Int) - 1,y+(hg:Int) - 1)).mpr ⟨⟨by dsimp only;omega,by dsimp only;omega⟩,by dsimp only;omega,by dsimp only;omega⟩
  refine UE ?_
  dsimp only
  refine jT (s1 _ _ ho) (Jj (.int x) S (Jj (.int y) S ⟨o,dx,c,d,w,h,l,x,y,rfl,s1 _ _ ho,_,rfl,uU (fun hf=>absurd a1 (by rw [hf];decide)) fun _=>?_⟩))
  refine jT (s1 _ _ ho) (Jj (.int x) S (Jj (.int wd) S ⟨x,(wd:Int),rfl,rfl,_,1,rfl,rfl,Jj (.int y) S (Jj (.int hg) S ⟨y,(hg:Int),rfl,rfl,_,1,rfl,rfl,o,dx,c,d,w,h,l,x+(wd:Int) - 1,y+(hg:Int) - 1,rfl,s1 _ _ ho,_,rfl,uU (fun hf=>absurd a2 (by rw [hf];decide)) fun _=>?_⟩)⟩))
  refine⟨_,rfl,c8 (hs.same s1) (by omega) (by omega) fun D ps pl H2 s2 hD eD CP nd mem=>?_⟩
  have lp:pl.length≤144:=hs.len nd mem (by omega) (by omega)
  refine⟨D,rfl,⟨_,jD.of eD⟩,Y4 (xs:=ps.map V.ref) (fun D2 i ys H'=>∃qs:List Addr,ys=qs.map V.ref∧H2 D2=none∧jg H2 H'∧H' D2=some (.lst ys)∧ys.length≤i∧jV H' qs (zl z (pl.take i))) (by rw [List.length_map,CP.1];exact Nat.le_trans lp (by decide)) (fun D2 hD2=>⟨[],rfl,hD2,jn (jg.refl _) hD2,je,Nat.le_refl _,jV.nil⟩) (fun D2 i ys H' ⟨qs,_,_,d2,e,l,_⟩=>⟨e,l,jD.of (d2 _ _ eD)⟩) ?_ ?_⟩
  ·rintro D2 i v ys H' Qy Qn hi ⟨qs,rfl,d1,d2,d3,d4,d5⟩ hy _
   rw [List.getElem?_map] at hi
   obtain⟨p2,hp2,rfl⟩:=Option.map_eq_some_iff.mp hi
   have hlt:i<pl.length:=by rw [←CP.1];exact (List.getElem?_eq_some_iff.mp hp2).1
   have eq2:=List.getElem?_eq_getElem hlt
   have ep3:=d2 _ _ (CP.2 i p2 _ hp2 eq2)
   have etk:pl.take (i+1)=pl.take i++[pl[i]]:=by rw [List.take_succ,eq2];rfl
   rw [etk] at hy
   generalize pl[i]=qq at ep3 hy
   refine⟨⟨_,rfl,rfl⟩,JU ⟨_,rfl,_,rfl,fW,fun t1 ht1=>?_⟩⟩
   refine⟨p2,t1,[.int qq.1,.int qq.2],[.int z],rfl,rfl,jw.of (by rw [ji (jq ep3 ht1)];exact ep3),jw.of je,by simp,vL,(fun z=>by cases z),fun _ p3 hp3=>?_⟩
   have n1:D2≠t1:=jq d3 ht1
   have st:=jn (o:=.tup [.int z]) (jg.refl H') ht1
   have d3':upd H' t1 (.tup [.int z]) D2=some (.lst (qs.map V.ref)):=by rw [ji n1];exact d3
   have n2:D2≠p3:=jq d3' hp3
   have st2:=jn (o:=.tup ([.int qq.1,.int qq.2]++[.int z])) (jg.refl (upd H' t1 (.tup [.int z]))) hp3
   refine hy _ _ (by rw [ji n2];exact d3') ⟨qs++[p3],by rw [List.map_append];rfl,d1,fun b u e=>?_,je,by rw [List.length_append];exact Nat.succ_le_succ d4,?_⟩
   ·have e3:=d2 b u e
    have e4:upd H' t1 (.tup [.int z]) b=some u:=by rw [ji (jq e3 ht1)];exact e3
    rw [ji (jq e d1),ji (jq e4 hp3)];exact e4
   ·unfold zl
    rw [List.map_append]
    exact (((d5.same st).same st2).snoc (c:=(qq.1,qq.2,z)) je).wr (st2 _ _ d3')
  ·rintro D2 ys H' hD2 ⟨qs,rfl,d1,d2,d3,d4,d5⟩
   rw [List.length_map,CP.1,List.take_length] at d5
   exact q D2 qs pl H' (jg.trans s1 (jg.trans s2 d2)) d3 d5 nd mem
theorem f8 {H:Hp}{r:Addr}{x y z:Int}{wd hg w h l:Nat}{In:Int×Int→Prop}{pl:ti} (hs:vy K t H r x y wd hg In) (x0:0≤x) (xw:x+wd≤w) (y0:0≤y) (yh:y+hg≤h) (z0:0≤z) (zz:z<l) (mem:∀q,q∈pl↔In q):(zl z pl).all (Uo w h l)=true:=List.all_eq_true.mpr fun c hc=>by
 obtain⟨q,hq,rfl⟩:=List.mem_map.mp hc
 have:=hs.inB ((mem q).mp hq)
 unfold YR at this
 exact UN.mpr ⟨⟨by dsimp only;omega,by dsimp only;omega⟩,⟨by dsimp only;omega,by dsimp only;omega⟩,z0,zz⟩
def fX (K:sZ) (t:Adr) (f:j4→List (Int×Int×Int)→j4):Sp:=fun vs H Q _=>∃(o dx c d r:Addr) (w h l wd hg:Nat) (x y z:Int) (In:Int×Int→Prop) (cs:j4),vs=[.ref o,.ref r,.int z]∧H o=some (.ins t.jl dx (fB w h l c d))∧vy K t H r x y wd hg In∧1≤wd∧1≤hg∧0≤x∧x+wd≤w∧0≤y∧y+hg≤h∧w≤12∧h≤12∧0≤z∧z<l∧H c=some (.dT cs)∧cs.length≤800 ∧
 ∀pl H',jg H H'→pl.Nodup→(∀q,q∈pl↔In q)→Q .non (upd H' c (.dT (f cs (zl z pl))))
theorem Mh (T:Txt K mg t):vx P w K mg base 6 t.jl "lay" ["self","shape","z"] (.int 0) (fX K t j7):=by
 obtain⟨fd,F,b,u,bu,ru⟩:=T.nk
 have G_Board_put:=U0 (P:=P) (w:=w) (base:=base) T
 have G_Board_shape_cells:=U1 (P:=P) (w:=w) (base:=base) T
 refine⟨T.js,_,fd,u,T.nE,F.okX MJ (fun vs H Q E h=>?_) (fun cdv A outer s H vs Q E hr h=>?_),b,bu,ru⟩
 ·obtain⟨o,dx,c,d,r,w,h,l,wd,hg,x,y,z,In,cs,rfl,_⟩:=h
  rfl
 ·obtain⟨o,dx,c,d,r,w,h,l,wd,hg,x,y,z,In,cs,rfl,ho,hs,w1,h1,x0,xw,y0,yh,w12,h12,z0,zz,hc,lc,q⟩:=h
  refine⟨_,(jm (jA (jz (pv 0) G_Board_put hr.m jk (ja (jz (pv 0) G_Board_shape_cells hr.m jk (ja (pv 1) (ja (pv 2) jf))) jf)))),?_⟩
  refine jT ho (jT ho ⟨_,rfl,_,rfl,o,dx,c,d,r,w,h,l,wd,hg,x,y,z,In,rfl,ho,hs,w1,h1,x0,xw,y0,yh,w12,h12,fun D ps pl H' s' eD CD nd mem=>⟨o,dx,c,d,D,ps,zl z pl,w,h,l,cs,rfl,s' _ _ ho,eD,CD,s' _ _ hc,?_,fun _=>q pl H' s' nd mem,fun g=>absurd (f8 hs x0 xw y0 yh z0 zz mem) (by rw [g];decide)⟩⟩)
  have:=hs.len nd mem (by omega) (by omega)
  unfold zl
  rw [List.length_map];omega
theorem GH (T:Txt K mg t):vx P w K mg base 6 t.jl "clear" ["self","shape","z"] (.int 0) (fX K t JA):=by
 obtain⟨fd,F,b,u,bu,ru⟩:=T.kJ
 have G_Board_take:=vR (P:=P) (w:=w) (base:=base) T
 have G_Board_shape_cells:=U1 (P:=P) (w:=w) (base:=base) T
 refine⟨T.js,_,fd,u,T.kS,F.okX GP (fun vs H Q E h=>?_) (fun cdv A outer s H vs Q E hr h=>?_),b,bu,ru⟩
 ·obtain⟨o,dx,c,d,r,w,h,l,wd,hg,x,y,z,In,cs,rfl,_⟩:=h
  rfl
 ·obtain⟨o,dx,c,d,r,w,h,l,wd,hg,x,y,z,In,cs,rfl,ho,hs,w1,h1,x0,xw,y0,yh,w12,h12,z0,zz,hc,lc,q⟩:=h
  refine⟨_,(jm (jA (jz (pv 0) G_Board_take hr.m jk (ja (jz (pv 0) G_Board_shape_cells hr.m jk (ja (pv 1) (ja (pv 2) jf))) jf)))),?_⟩
  exact jT ho (jT ho ⟨_,rfl,_,rfl,o,dx,c,d,r,w,h,l,wd,hg,x,y,z,In,rfl,ho,hs,w1,h1,x0,xw,y0,yh,w12,h12,fun D ps pl H' s' eD CD nd mem=>⟨o,dx,c,d,D,ps,zl z pl,w,h,l,cs,rfl,s' _ _ ho,eD,CD,s' _ _ hc,f8 hs x0 xw y0 yh z0 zz mem,q pl H' s' nd mem⟩⟩)
end
end K11
namespace K11
open PySem L2 Wd TS STb
def fH (c k:Int):Int:=(c % 2147483647+7919*k+1)*48271 % 2147483647
def rD (n:Int):Int:=n*(n / 1009+69621) % 2147483647
theorem zp (a:Int) {n:Nat} (h:1≤n):∃X:Nat,a % (n:Int)=X∧X<n:=by
 have h1:=Int.emod_nonneg a (show (n:Int)≠0 by omega)
 have h2:=Int.emod_lt_of_pos a (show (0:Int)<n by omega)
 exact⟨(a % (n:Int)).toNat,by omega,by omega⟩
theorem uu {tt:TT}{A B:TS}{D:uP}{σ:St}{H:Hp} (C:Prop) (h1:∀K:Bool→Hp→Prop,(∀b,(b=true↔C)→K b H)→tt σ H K) (h2:C→A D σ H) (h3:¬C→B D σ H):eP tt A B D σ H:=h1 _ fun b hb=>by
 cases b with
 | false=>exact Jx (h3 fun z=>Bool.noConfusion (hb.mpr z))
 | true=>exact JU (h2 (hb.mp rfl))
section
variable {P:tM}{w:World}{K:sZ}{mg:tj}{base:Heap}{t:Adr}
def lK:Sp:=fun vs H Q _=>∃c k:Int,vs=[.int c,.int k]∧∀r,Q (.int r) H
theorem Mn (T:Txt K mg t):uy P w K mg base 1 "_law_mixed" ["_law_cell","_law_k"] lK:=by
 obtain⟨fd,F,b⟩:=T.nz
 refine⟨_,fd,F.okX VO (fun vs H Q E h=>?_) (fun cdv A outer s H vs Q E hr h=>?_),b,F.kp,T.mE⟩
 ·obtain⟨c,k,rfl,_⟩:=h
  rfl
 ·obtain⟨c,k,rfl,q⟩:=h
  refine⟨_,(jj (jI (i:=2) VO.nd rfl (Or.inl rfl) (jr JC (jr VF (jr jZ (jr jZ (jr JC (pv 0) jh) (jr VF jh (pv 1))) jh) jh) jh))
   (jj (jI (i:=2) VO.nd rfl (Or.inl rfl) (jr JC (jr VF (pv 2) (jr jZ (jr JB (pv 2) jh) jh)) jh))
   (jm (jF (jr JC (jr VF (jr JC (jr jZ (pv 2) (jr VF jh (pv 1))) jh) (jr jZ (jr JB (pv 2) jh) jh)) jh))))),?_⟩
  have pos:(0:Int)<2147483647:=by decide
  have bd:∀a:Int,-(2^64)<a % 2147483647∧a % 2147483647<2^64:=fun a=>by omega
  refine⟨_,rfl,c,2147483647,rfl,rfl,pos,_,rfl,7919,k,rfl,rfl,.inl ⟨by decide,by decide⟩,_,_,rfl,rfl,_,1,rfl,rfl,_,48271,rfl,rfl,.inr ⟨by decide,by decide⟩,_,2147483647,rfl,rfl,pos,?_⟩
  refine UE ?_
  dsimp only
  have b1:-(2^64)<fH c k∧fH c k<2^64:=bd _
  show u7 _ _ _ ([oI c,oI k,some (.int (fH c k))]) H
  generalize fH c k=n1 at b1 ⊢
  refine⟨_,rfl,_,rfl,_,1009,rfl,rfl,⟨by decide,by decide⟩,_,69621,rfl,rfl,_,_,rfl,rfl,.inl b1,_,2147483647,rfl,rfl,pos,?_⟩
  refine UE ?_
  dsimp only
  show qx _ _ ([oI c,oI k,some (.int (rD n1))]) H
  generalize rD n1=n2
  exact⟨_,rfl,_,rfl,104729,k,rfl,rfl,.inl ⟨by decide,by decide⟩,_,_,rfl,rfl,_,2147483647,rfl,rfl,pos,_,rfl,_,2003,rfl,rfl,⟨by decide,by decide⟩,_,16807,rfl,rfl,_,_,rfl,rfl,.inl (bd _),_,2147483647,rfl,rfl,pos,q _⟩
def lG (K:sZ):Sp:=fun vs H Q _=>∃(a:Addr) (ns:List Int),vs=[.ref a]∧jD K H a (ns.map V.int)∧ns.length≤63∧∀(D:Addr) (ms:List Int) (H':Hp),jg H H'→H D=none→H' D=some (.lst (ms.map V.int))→Q (.ref D) H'
theorem Mm (T:Txt K mg t):uy P w K mg base 2 "_law_draws" ["_law_script"] (lG K):=by
 obtain⟨fd,F,b⟩:=T.ny
 have G_law_cell_at:=yx (P:=P) (w:=w) (base:=base) T
 have G_law_mixed:=Mn (P:=P) (w:=w) (base:=base) T
 refine⟨_,fd,F.okX uM (fun vs H Q E h=>?_) (fun cdv A outer s H vs Q E hr h=>?_),b,F.kp,T.mD⟩
 ·obtain⟨a,ns,rfl,_⟩:=h
  rfl
 ·obtain⟨a,ns,rfl,hS,hl,q⟩:=h
  refine⟨_,(jj (jI (i:=1) uM.nd rfl (Or.inl rfl) (jr JB (jx G_law_cell_at hr.m jk (by rfl) (ja (pv 0) (ja jh jf))) jh))
   (jj (jI (i:=2) uM.nd rfl (Or.inl rfl) (pv 1))
   (jj (jI (i:=3) uM.nd rfl (Or.inl rfl) (ug jf))
   (jj (JJ Jq (zr rfl T.Ui (ja jh jf)) (jL (i:=4) uM.nd rfl (Or.inl rfl)) (jm (jU (uk (jH j9 (jr JC (jx G_law_cell_at hr.m jk (by rfl) (ja (pv 0) (ja jh jf))) jh) jh (jy _)) (JT (jH j9 (pv 2) jh (jy _)))).pt (jm (jA (vv PySem.F.plainAttrs_list PySem.F.slot_list_append PySem.F.type_list_append vF (pv 3) (ja (jx G_law_mixed hr.m jk (by rfl) (ja (pv 1) (ja (pv 4) jf))) jf)))) (jj (jA (vv PySem.F.plainAttrs_list PySem.F.slot_list_append PySem.F.type_list_append vF (pv 3) (ja (jr JC (pv 2) (jr cq jh jh)) jf)))
   (jm (jI (i:=2) uM.nd rfl (Or.inl rfl) (jr JB (pv 2) (jr cq jh jh))))))))
   (jm (jF (jr pJ (Ya GT (pv 3) GK (yB (jr JC (jx G_law_cell_at hr.m jk (by rfl) (ja (pv 0) (ja jh jf))) jh))) (Ya GT (pv 0) (yB jh) (yB jh))))))))),?_⟩
  have p8:(0:Int)<(10:Int)^(8:Int).toNat∧(10:Int)^(8:Int).toNat<1073741824:=by decide
  refine J1 (fun σ H'=>∃c:Int,σ=[oR a,oI c,none,none,none]∧H=H') (fun B hB=>?_) ?_
  ·exact⟨_,rfl,a,ns,1,rfl,hS,by decide,by decide,hl,_,2,rfl,rfl,⟨by decide,by decide⟩,hB _ _ ⟨_,rfl,rfl⟩⟩
  rintro σ H1 ⟨c,rfl,rfl⟩
  refine⟨_,rfl,?_⟩
  refine UE ?_
  dsimp only
  refine⟨MF,fun D hD=>?_⟩
  refine UE ?_
  dsimp only
  refine J1 (fun σ H'=>∃(v2 v4:Option V) (ms:List Int),σ=[oR a,oI c,v2,oR D,v4]∧jg H H'∧H' D=some (.lst (ms.map V.int))∧ms.length≤40) (fun B hB=>?_) ?_
  ·refine yU fun X0 k0=>⟨40,rfl,by decide,by decide,k0 _ _ (uN (fun i σ H'=>∃(re:Int) (v4:Option V) (ms:List Int),σ=[oR a,oI c,oI re,oR D,v4]∧jg H H'∧H' D=some (.lst (ms.map V.int))∧ms.length≤i) ⟨c,_,[],rfl,jn (jg.refl H) hD,je,Nat.le_refl _⟩ ?_ ?_)⟩
   ·rintro i σ H2 hi ⟨re,v4,ms,rfl,s2,e2,l2⟩
    have hi:i<40:=hi
    have put:∀m:Int,jg H (upd H2 D (.lst (ms.map V.int++[.int m])))∧upd H2 D (.lst (ms.map V.int++[.int m])) D=some (.lst ((ms++[m]).map V.int))∧(ms++[m]).length≤i+1:=fun m=>⟨fun b u e=>by rw [ji (jq e hD)];exact s2 _ _ e,by rw [je,List.map_append];rfl,by rw [List.length_append];exact Nat.succ_le_succ l2⟩
    have lz:(ms.map V.int).length<sizeLine:=by rw [List.length_map];exact Nat.lt_of_lt_of_le (show _<100 by omega) (by decide)
    refine uu ((ns.getD (1:Int).toNat 0) % 2=1∨re=0) (fun N hN=>⟨_,rfl,a,ns,1,rfl,s2.seq hS,by decide,by decide,hl,_,2,rfl,rfl,(by show (0:Int)<2;decide),rfl,_,rfl,JE (fun g=>hN true ⟨fun _=>.inl (V.int.inj g),fun _=>rfl⟩) fun g=>⟨_,rfl,rfl,_,rfl,hN _ ?_⟩⟩) (fun _=>⟨_,rfl,.inl ⟨rfl,_,jD.of e2⟩,_,rfl,_,rfl,c,_,rfl,fun r=>⟨D,_,.int r,rfl,rfl,e2,lz,re,_,ms++[r],rfl,(put r).1,(put r).2.1,(put r).2.2⟩⟩) (fun _=>⟨_,rfl,.inl ⟨rfl,_,jD.of e2⟩,_,rfl,10,8,rfl,rfl,⟨by decide,by decide,by decide⟩,re,_,rfl,rfl,p8.1,D,_,.int (re % (10:Int)^(8:Int).toNat),rfl,rfl,e2,lz,⟨_,rfl,10,8,rfl,rfl,⟨by decide,by decide,by decide⟩,re,_,rfl,rfl,p8,_,_,ms++[re % (10:Int)^(8:Int).toNat],rfl,(put _).1,(put _).2.1,(put _).2.2⟩⟩)
    rw [decide_eq_true_eq]
    exact⟨fun z=>.inr (V.int.inj z),fun z=>z.elim (fun z=>absurd (congrArg V.int z) g) fun z=>by rw [z]⟩
   ·rintro σ H2 ⟨re,v4,ms,rfl,s2,e2,l2⟩
    exact hB _ _ ⟨_,_,ms,rfl,s2,e2,l2⟩
  rintro σ H2 ⟨v2,v4,ms,rfl,s2,e2,l2⟩
  have cut:∀(ks:List Int) (lo hi:Option Int),∃ks':List Int,uR (ks.map V.int) lo hi=ks'.map V.int∧ks'.length≤ks.length:=fun ks lo hi=>by
   refine⟨(ks.drop (HT.sIx (ks.map V.int).length 0 lo)).take (HT.sIx (ks.map V.int).length (ks.map V.int).length hi - HT.sIx (ks.map V.int).length 0 lo),?_,?_⟩
   ·unfold uR
    rw [List.map_take,List.map_drop]
   ·rw [List.length_take,List.length_drop];omega
  obtain⟨k1,c1,l1⟩:=cut ms none (some ((ns.getD (2:Int).toNat 0) % 41))
  obtain⟨k2',c2,l2'⟩:=cut ns (some 3) (some 23)
  refine⟨_,rfl,_,rfl,a,ns,2,rfl,s2.seq hS,by decide,by decide,hl,_,41,rfl,rfl,(by show (0:Int)<41;decide),_,rfl,D,_,rfl,jD.of e2,fun p1 hp1=>?_⟩
  rw [c1]
  have s3:=jn (o:=.lst (k1.map V.int)) (jg.refl H2) hp1
  have e3:upd H2 p1 (.lst (k1.map V.int)) p1=some (.lst (k1.map V.int)):=je
  generalize upd H2 p1 (.lst (k1.map V.int))=H3 at s3 e3
  refine⟨_,rfl,3,rfl,23,rfl,a,_,rfl,(jg.trans s2 s3).seq hS,fun p2 hp2=>?_⟩
  rw [c2]
  have s4:=jn (o:=.lst (k2'.map V.int)) (jg.refl H3) hp2
  refine⟨p1,p2,_,_,rfl,rfl,s4 _ _ e3,je,?_,fun p3 hp3=>q p3 (k1++k2') _ (jn (jg.trans s2 (jg.trans s3 s4)) hp3) (none_of (jg.trans s2 (jg.trans s3 s4)) hp3) (by rw [je,List.map_append])⟩
  rw [List.length_map,List.length_map]
  exact Nat.le_trans (show _≤200 by omega) (by decide)
def ri (K:sZ):Sp:=fun vs H Q _=>∃(dr:Int) (p:Addr) (w h l:Nat),vs=[.int dr,.ref p]∧H p=some (.tup [.int w,.int h,.int l])∧1≤w∧1≤h∧1≤l∧∀(r:Addr) (x y z wd hg:Nat) H',jg H H'→z<l→1≤wd→1≤hg→x+wd≤w→y+hg≤h→H' r=some (.tup [.int x,.int y,.int z,.int wd,.int hg])→Q (.ref r) H'
theorem Ml (T:Txt K mg t):uy P w K mg base 1 "_law_block" ["_law_draw","_law_size"] (ri K):=by
 obtain⟨fd,F,b⟩:=T.nw
 refine⟨_,fd,F.okX uL (fun vs H Q E h=>?_) (fun cdv A outer s H vs Q E hr h=>?_),b,F.kp,T.mC⟩
 ·obtain⟨dr,p,w,h,l,rfl,_⟩:=h
  rfl
 ·obtain⟨dr,p,w,h,l,rfl,hp,w1,h1,l1,q⟩:=h
  refine⟨_,(jj (jI (i:=2) uL.nd rfl (Or.inl rfl) (jr JC (jr JB (pv 0) jh) (jN jG (pv 1) jh (fun _ _=>rfl))))
   (jj (jI (i:=3) uL.nd rfl (Or.inl rfl) (jr JC (jr JB (pv 0) jh) (jN jG (pv 1) jh (fun _ _=>rfl))))
   (jj (jI (i:=4) uL.nd rfl (Or.inl rfl) (jr JC (jr JB (pv 0) jh) (jN jG (pv 1) jh (fun _ _=>rfl))))
   (jj (jI (i:=5) uL.nd rfl (Or.inl rfl) (jr jZ jh (jr JC (jr JB (pv 0) jh) (jr jQ (jN jG (pv 1) jh (fun _ _=>rfl)) (pv 2)))))
   (jj (jI (i:=6) uL.nd rfl (Or.inl rfl) (jr jZ jh (jr JC (jr JB (pv 0) jh) (jr jQ (jN jG (pv 1) jh (fun _ _=>rfl)) (pv 3)))))
   (jm (jF (jS (ja (pv 2) (ja (pv 3) (ja (pv 4) (ja (pv 5) (ja (pv 6) jf))))))))))))),?_⟩
  have S:jw K H p [.int w,.int h,.int l]:=jw.of hp
  refine J1 (fun σ H'=>∃X:Nat,X<w∧σ=[oI dr,oR p,oI X,none,none,none,none]∧H=H') (fun B hB=>?_) ?_
  ·obtain⟨X,e,hX⟩:=zp (dr / 6) w1
   exact⟨_,rfl,dr,6,rfl,rfl,⟨by decide,by decide⟩,Jj (.int w) S ⟨dr / 6,(w:Int),rfl,rfl,(by show (0:Int)<w;omega),hB _ _ ⟨X,hX,by rw [←e];rfl,rfl⟩⟩⟩
  rintro σ H1 ⟨X,hX,rfl,rfl⟩
  refine J1 (fun σ H'=>∃Y:Nat,Y<h∧σ=[oI dr,oR p,oI X,oI Y,none,none,none]∧H=H') (fun B hB=>?_) ?_
  ·obtain⟨Y,e,hY⟩:=zp (dr / 72) h1
   exact⟨_,rfl,dr,72,rfl,rfl,⟨by decide,by decide⟩,Jj (.int h) S ⟨dr / 72,(h:Int),rfl,rfl,(by show (0:Int)<h;omega),hB _ _ ⟨Y,hY,by rw [←e];rfl,rfl⟩⟩⟩
  rintro σ H1 ⟨Y,hY,rfl,rfl⟩
  refine J1 (fun σ H'=>∃Z:Nat,Z<l∧σ=[oI dr,oR p,oI X,oI Y,oI Z,none,none]∧H=H') (fun B hB=>?_) ?_
  ·obtain⟨Z,e,hZ⟩:=zp (dr / 864) l1
   exact⟨_,rfl,dr,864,rfl,rfl,⟨by decide,by decide⟩,Jj (.int l) S ⟨dr / 864,(l:Int),rfl,rfl,(by show (0:Int)<l;omega),hB _ _ ⟨Z,hZ,by rw [←e];rfl,rfl⟩⟩⟩
  rintro σ H1 ⟨Z,hZ,rfl,rfl⟩
  refine J1 (fun σ H'=>∃U:Nat,1≤U∧X+U≤w∧σ=[oI dr,oR p,oI X,oI Y,oI Z,oI U,none]∧H=H') (fun B hB=>?_) ?_
  ·obtain⟨U,e,hU⟩:=zp (dr / 2592) (n:=w - X) (by omega)
   rw [show ((w - X:Nat):Int)=(w:Int) - X by omega] at e
   exact⟨_,rfl,dr,2592,rfl,rfl,⟨by decide,by decide⟩,Jj (.int w) S ⟨_,rfl,(w:Int),(X:Int),rfl,rfl,dr / 2592,(w:Int) - X,rfl,rfl,(by show (0:Int)<(w:Int) - X;omega),1,_,rfl,rfl,hB _ _ ⟨1+U,by omega,by omega,by rw [show ((1+U:Nat):Int)=1+(U:Int) by omega,←e];rfl,rfl⟩⟩⟩
  rintro σ H1 ⟨U,hU1,hU2,rfl,rfl⟩
  refine J1 (fun σ H'=>∃V':Nat,1≤V'∧Y+V'≤h∧σ=[oI dr,oR p,oI X,oI Y,oI Z,oI U,oI V']∧H=H') (fun B hB=>?_) ?_
  ·obtain⟨U',e,hU'⟩:=zp (dr / 31104) (n:=h - Y) (by omega)
   rw [show ((h - Y:Nat):Int)=(h:Int) - Y by omega] at e
   exact⟨_,rfl,dr,31104,rfl,rfl,⟨by decide,by decide⟩,Jj (.int h) S ⟨_,rfl,(h:Int),(Y:Int),rfl,rfl,dr / 31104,(h:Int) - Y,rfl,rfl,(by show (0:Int)<(h:Int) - Y;omega),1,_,rfl,rfl,hB _ _ ⟨1+U',by omega,by omega,by rw [show ((1+U':Nat):Int)=1+(U':Int) by omega,←e];rfl,rfl⟩⟩⟩
  rintro σ H1 ⟨V',hV1,hV2,rfl,rfl⟩
  exact⟨_,rfl,_,rfl,_,rfl,_,rfl,_,rfl,sJ,fun r hr=>q r X Y Z U V' _ (jn (jg.refl H) hr) hZ hU1 hV1 hU2 hV2 je⟩
def Vu (f:Int) (x y:Int) (wd hg:Nat) (q:Int×Int):Prop:=YR x y wd hg q∧(f=0∨(f=1∧G9 x y wd hg q<1)∨(f=2∧(q.2=y∨q.1=x+wd - 1))∨(f=3∧(q.2<y+3∨wd<3∨hg<3)))
def lL (K:sZ) (t:Adr):Sp:=fun vs H Q _=>∃(f x y:Int) (wd hg:Nat),vs=[.int f,.int x,.int y,.int wd,.int hg]∧0≤f∧f<4∧1≤wd∧1≤hg∧wd≤12∧hg≤12∧∀r wd' hg' In H',jg H H'→1≤wd'→wd'≤wd→1≤hg'→hg'≤hg→vy K t H' r x y wd' hg' In→(∀q,In q↔Vu f x y wd hg q)→Q (.ref r) H'
theorem Vu.two {x y:Int}{wd hg:Nat}{q:Int×Int}:Vu 2 x y wd hg q↔YR x y wd hg q∧(q.2=y∨q.1=x+wd - 1):=⟨fun h=>⟨h.1,h.2.elim (fun z=>absurd z (by decide)) fun z=>z.elim (fun z=>absurd z.1 (by decide)) fun z=>z.elim And.right fun z=>absurd z.1 (by decide)⟩,fun h=>⟨h.1,.inr (.inr (.inl ⟨rfl,h.2⟩))⟩⟩
theorem Vu.tri {x y:Int}{wd hg:Nat}{q:Int×Int} (h1:¬wd<3) (h2:¬hg<3):Vu 3 x y wd hg q↔YR x y wd hg q∧q.2<y+3:=⟨fun h=>⟨h.1,h.2.elim (fun z=>absurd z (by decide)) fun z=>z.elim (fun z=>absurd z.1 (by decide)) fun z=>z.elim (fun z=>absurd z.1 (by decide)) fun z=>z.2.resolve_right fun z=>z.elim h1 h2⟩,fun h=>⟨h.1,.inr (.inr (.inr ⟨rfl,.inl h.2⟩))⟩⟩
theorem Mo (T:Txt K mg t):uy P w K mg base 6 "_law_shape" ["_law_form","_law_x","_law_y","_law_wide","_law_high"] (lL K t):=by
 obtain⟨fd,F,b⟩:=T.nA
 have G_Block:=Kd (P:=P) (w:=w) (base:=base) T
 have G_Frame:=Kf (P:=P) (w:=w) (base:=base) T
 have G_Line:=Mj (P:=P) (w:=w) (base:=base) T
 refine⟨_,fd,F.okX MN (fun vs H Q E h=>?_) (fun cdv A outer s H vs Q E hr h=>?_),b,F.kp,T.mF⟩
 ·obtain⟨f,x,y,wd,hg,rfl,_⟩:=h
  rfl
 ·obtain⟨f,x,y,wd,hg,rfl,f0,f4,w1,h1,w12,h12,q⟩:=h
  refine⟨_,(jj (jU (jH j9 (pv 0) jh (jy _)) (jm (jF (vm G_Frame hr.m jk (by rfl) (ja (pv 1) (ja (pv 2) (ja (pv 3) (ja (pv 4) (ja jh jf)))))))) jP)
   (jj (jU (jH j9 (pv 0) jh (jy _)) (jm (jF (vm G_Line hr.m jk (by rfl) (ja (ug (ja (jS (ja (pv 1) (ja (pv 2) jf))) (ja (jS (ja (jr jQ (jr jZ (pv 1) (pv 3)) jh) (ja (pv 2) jf))) (ja (jS (ja (jr jQ (jr jZ (pv 1) (pv 3)) jh) (ja (jr jQ (jr jZ (pv 2) (pv 4)) jh) jf))) jf)))) (ja jh jf))))) jP)
   (jj (jU (VJ (jH j9 (pv 0) jh (jy _)) (VJ (jH fQ (pv 3) jh (jy _)) (yC (jH fQ (pv 4) jh (jy _))))).pt (jm (jF (vm G_Line hr.m jk (by rfl) (ja (ug (ja (jS (ja (jr jQ (jr jZ (pv 1) (pv 3)) jh) (ja (jr jZ (pv 2) jh) jf))) (ja (jS (ja (jr jZ (pv 1) jh) (ja (jr jZ (pv 2) jh) jf))) jf))) (ja jh jf))))) jP)
   (jm (jF (vm G_Block hr.m jk (by rfl) (ja (pv 1) (ja (pv 2) (ja (pv 3) (ja (pv 4) jf)))))))))),?_⟩
  have e1:(1:Int) / 2=0:=by decide
  have e3:(3:Int) / 2=1:=by decide
  have gw:[V.int (wd:Int),V.int (hg:Int)].all Yt=true:=by
   show (decide (1≤(wd:Int))&&(decide (1≤(hg:Int))&&true))=true
   rw [decide_eq_true (show 1≤(wd:Int) by omega),decide_eq_true (show 1≤(hg:Int) by omega)];rfl
  have gf:[V.int (wd:Int),V.int (hg:Int),V.int 1].all Yt=true:=by
   show (decide (1≤(wd:Int))&&(decide (1≤(hg:Int))&&(decide (1≤(1:Int))&&true)))=true
   rw [decide_eq_true (show 1≤(wd:Int) by omega),decide_eq_true (show 1≤(hg:Int) by omega)];rfl
  have blk:(∀q,YR x y wd hg q→Vu f x y wd hg q)→∀(E:XK),Kw t.Ja (NW t.Ja t.JM) [] E (Yg (yf 1) (Yg (yf 2) (Yg (yf 3) (Yg (yf 4) aT)))) [oI f,oI x,oI y,oI wd,oI hg] H Q:=fun hin E=>⟨_,rfl,_,rfl,_,rfl,_,rfl,fun o dx ho hdx hne=>⟨o,dx,.int x,.int y,.int wd,.int hg,rfl,je,rfl,fun _ _ H' k e=>⟨rfl,q o wd hg _ H' (yV (jg.refl H) ho hdx k) w1 (Nat.le_refl _) h1 (Nat.le_refl _) (.block dx e fun _=>Iff.rfl) fun c=>⟨hin c,fun z=>z.1⟩⟩,fun ng=>absurd ⟨rfl,gw⟩ ng⟩⟩
  refine⟨_,rfl,rfl,_,rfl,JE (fun k1=>?_) fun k1=>⟨_,rfl,rfl,_,rfl,JE (fun k2=>?_) fun k2=>?_⟩⟩
  ·obtain rfl:f=1:=V.int.inj k1
   exact⟨_,rfl,_,rfl,_,rfl,_,rfl,fun o dx ho hdx hne=>⟨o,dx,.int x,.int y,.int wd,.int hg,.int 1,rfl,je,rfl,fun _ _ H' k e=>⟨rfl,q o wd hg _ H' (yV (jg.refl H) ho hdx k) w1 (Nat.le_refl _) h1 (Nat.le_refl _) (.frame dx e fun _=>Iff.rfl) fun c=>⟨fun z=>⟨z.1,.inr (.inl ⟨rfl,z.2⟩)⟩,fun z=>⟨z.1,by rcases z.2 with g|g|g|g<;>first|exact g.2|(exfalso;revert g;first|(intro g;exact absurd g (by decide))|(rintro⟨g,_⟩;exact absurd g (by decide)))⟩⟩⟩,fun ng=>absurd ⟨rfl,gf⟩ ng⟩⟩
  ·obtain rfl:f=2:=V.int.inj k2
   refine⟨_,rfl,_,rfl,UQ,fun t1 ht1=>?_⟩
   have s1:=jn (o:=.tup [.int x,.int y]) (jg.refl H) ht1
   have f1:upd H t1 (.tup [.int x,.int y]) t1=some (.tup [.int x,.int y]):=je
   generalize upd H t1 (.tup [.int x,.int y])=H1 at s1 f1 ⊢
   refine⟨_,rfl,_,rfl,x,wd,rfl,rfl,_,1,rfl,rfl,_,rfl,UQ,fun t2 ht2=>?_⟩
   have s2:=jn (o:=.tup [.int (x+wd - 1),.int y]) (jg.refl H1) ht2
   have f2:upd H1 t2 (.tup [.int (x+wd - 1),.int y]) t2=some (.tup [.int (x+wd - 1),.int y]):=je
   generalize upd H1 t2 (.tup [.int (x+wd - 1),.int y])=H2 at s2 f2 ⊢
   refine⟨_,rfl,_,rfl,x,wd,rfl,rfl,_,1,rfl,rfl,_,rfl,_,rfl,y,hg,rfl,rfl,_,1,rfl,rfl,UQ,fun t3 ht3=>?_⟩
   have s3:=jn (o:=.tup [.int (x+wd - 1),.int (y+hg - 1)]) (jg.refl H2) ht3
   have f3:upd H2 t3 (.tup [.int (x+wd - 1),.int (y+hg - 1)]) t3=some (.tup [.int (x+wd - 1),.int (y+hg - 1)]):=je
   generalize upd H2 t3 (.tup [.int (x+wd - 1),.int (y+hg - 1)])=H3 at s3 f3 ⊢
   refine⟨vL,fun D hD=>fun o dx ho hdx hne=>?_⟩
   have s4:=jn (o:=.lst [.ref t1,.ref t2,.ref t3]) (jg.refl H3) hD
   have eD:upd H3 D (.lst [.ref t1,.ref t2,.ref t3]) D=some (.lst [.ref t1,.ref t2,.ref t3]):=je
   generalize upd H3 D (.lst [.ref t1,.ref t2,.ref t3])=H5 at s4 eD ho hdx ⊢
   have f1:=s4 _ _ (s3 _ _ (s2 _ _ f1))
   have f2:=s4 _ _ (s3 _ _ f2)
   have f3:=s4 _ _ f3
   have s05:jg H H5:=jg.trans s1 (jg.trans s2 (jg.trans s3 s4))
   have sm:jg H5 (upd (upd H5 dx (.own o)) o (.ins t.Jz dx [])):=zo (jg.refl H5) ho hdx
   have C:ur K H5 [t1,t2,t3] ([(x,y),(x+wd - 1,y),(x+wd - 1,y+hg - 1)].map zv):=by
    refine⟨rfl,fun i p c g1 g2=>?_⟩
    match i with
    | 0=>cases g1;cases g2;exact f1
    | 1=>cases g1;cases g2;exact f2
    | 2=>cases g1;cases g2;exact f3
    | i+3=>cases g1
   have g:Vt ([(x,y),(x+wd - 1,y),(x+wd - 1,y+hg - 1)].map zv):=by
    refine⟨by simp,by simp,rfl,fun i a b g1 g2=>?_⟩
    match i with
    | 0=>cases g1;cases g2;exact .inr rfl
    | 1=>cases g1;cases g2;exact .inl rfl
    | i+2=>cases g2
   refine⟨o,dx,D,[t1,t2,t3],_,.int 1,rfl,je,sm _ _ eD,C.same sm,rfl,by simp,rfl,fun _ _ p' H' kk ep eo=>⟨rfl,?_⟩,fun ng=>absurd ⟨g,.inl rfl⟩ ng⟩
   have sH:jg H5 H':=yV (jg.refl H5) ho hdx kk
   refine q o wd hg _ H' (jg.trans s05 sH) w1 (Nat.le_refl _) h1 (Nat.le_refl _) (.line dx p' t1 1 [t2,t3] (x,y) [(x+wd - 1,y),(x+wd - 1,y+hg - 1)] eo ep (C.same sH) (.inl rfl) (by simp) ⟨.inr ⟨rfl,by dsimp only;omega,by dsimp only;omega⟩,.inl ⟨rfl,by dsimp only;omega,by dsimp only;omega⟩,trivial⟩ (fun _=>Iff.rfl) ⟨⟨(x,y),by simp,by rw [e1];dsimp only;omega⟩,⟨(x+wd - 1,y),by simp,by rw [e1];dsimp only;omega⟩,⟨(x,y),by simp,by rw [e1];dsimp only;omega⟩,⟨(x+wd - 1,y+hg - 1),by simp,by rw [e1];dsimp only;omega⟩,fun c hc=>?_⟩) fun c=>⟨fun z=>?_,fun z=>?_⟩
   ·rw [e1]
    simp only [List.mem_cons,List.not_mem_nil,or_false] at hc
    rcases hc with rfl|rfl|rfl<;>dsimp only<;>omega
   ·obtain⟨z,hz,m⟩:=z
    rw [Vu.two]
    simp only [VR,List.zip_cons_cons,List.zip_nil_right,List.zip_nil_left,List.mem_cons,List.not_mem_nil,or_false] at hz
    rcases hz with rfl|rfl|rfl<;>rw [yl.le (by dsimp only;omega) (by dsimp only;omega),e1] at m<;>dsimp only at m<;>exact⟨⟨by omega,by omega,by omega,by omega⟩,by omega⟩
   ·rw [Vu.two] at z
    obtain⟨⟨z1,z2,z3,z4⟩,zc⟩:=z
    by_cases hc:c.2=y
    ·refine⟨((x,y),(x+wd - 1,y)),by simp [VR],?_⟩
     rw [yl.le (by dsimp only;omega) (by exact Int.le_refl _),e1]
     exact⟨by dsimp only;omega,by dsimp only;omega,by dsimp only;omega,by dsimp only;omega⟩
    ·refine⟨((x+wd - 1,y),(x+wd - 1,y+hg - 1)),by simp [VR],?_⟩
     rw [yl.le (by exact Int.le_refl _) (by dsimp only;omega),e1]
     exact⟨by dsimp only;omega,by dsimp only;omega,by dsimp only;omega,by dsimp only;omega⟩
  ·have fin:(wd<3∨hg<3∨f≠3)→∀c,YR x y wd hg c→Vu f x y wd hg c:=fun hh c hc=>⟨hc,by
    have n1:f≠1:=fun z=>k1 (by rw [z])
    have n2:f≠2:=fun z=>k2 (by rw [z])
    by_cases hf:f=0
    ·exact .inl hf
    ·exact .inr (.inr (.inr ⟨by omega,by omega⟩))⟩
   refine⟨_,rfl,rfl,_,rfl,JE (fun k3=>⟨_,rfl,(wd:Int),2,rfl,rfl,_,rfl,JE (fun k4=>⟨_,rfl,(hg:Int),2,rfl,rfl,_,rfl,JE (fun k5=>?_) fun k5=>?_⟩) fun k4=>?_⟩) fun k3=>?_⟩
   ·obtain rfl:f=3:=V.int.inj k3
    refine⟨_,rfl,_,rfl,x,wd,rfl,rfl,_,2,rfl,rfl,_,rfl,y,1,rfl,rfl,UQ,fun t1 ht1=>?_⟩
    have s1:=jn (o:=.tup [.int (x+wd - 2),.int (y+1)]) (jg.refl H) ht1
    have f1:upd H t1 (.tup [.int (x+wd - 2),.int (y+1)]) t1=some (.tup [.int (x+wd - 2),.int (y+1)]):=je
    generalize upd H t1 (.tup [.int (x+wd - 2),.int (y+1)])=H1 at s1 f1 ⊢
    refine⟨_,rfl,x,1,rfl,rfl,_,rfl,y,1,rfl,rfl,UQ,fun t2 ht2=>?_⟩
    have s2:=jn (o:=.tup [.int (x+1),.int (y+1)]) (jg.refl H1) ht2
    have f2:upd H1 t2 (.tup [.int (x+1),.int (y+1)]) t2=some (.tup [.int (x+1),.int (y+1)]):=je
    generalize upd H1 t2 (.tup [.int (x+1),.int (y+1)])=H2 at s2 f2 ⊢
    refine⟨UQ,fun D hD=>fun o dx ho hdx hne=>?_⟩
    have s4:=jn (o:=.lst [.ref t1,.ref t2]) (jg.refl H2) hD
    have eD:upd H2 D (.lst [.ref t1,.ref t2]) D=some (.lst [.ref t1,.ref t2]):=je
    generalize upd H2 D (.lst [.ref t1,.ref t2])=H5 at s4 eD ho hdx ⊢
    have f1:=s4 _ _ (s2 _ _ f1)
    have f2:=s4 _ _ f2
    have s05:jg H H5:=jg.trans s1 (jg.trans s2 s4)
    have sm:jg H5 (upd (upd H5 dx (.own o)) o (.ins t.Jz dx [])):=zo (jg.refl H5) ho hdx
    have C:ur K H5 [t1,t2] ([(x+wd - 2,y+1),(x+1,y+1)].map zv):=by
     refine⟨rfl,fun i p c g1 g2=>?_⟩
     match i with
     | 0=>cases g1;cases g2;exact f1
     | 1=>cases g1;cases g2;exact f2
     | i+2=>cases g1
    have g:Vt ([(x+wd - 2,y+1),(x+1,y+1)].map zv):=by
     refine⟨by simp,by simp,rfl,fun i a b g1 g2=>?_⟩
     match i with
     | 0=>cases g1;cases g2;exact .inr rfl
     | i+1=>cases g2
    refine⟨o,dx,D,[t1,t2],_,.int 3,rfl,je,sm _ _ eD,C.same sm,rfl,by simp,rfl,fun _ _ p' H' kk ep eo=>⟨rfl,?_⟩,fun ng=>absurd ⟨g,.inr rfl⟩ ng⟩
    have sH:jg H5 H':=yV (jg.refl H5) ho hdx kk
    refine q o wd 3 _ H' (jg.trans s05 sH) w1 (Nat.le_refl _) (by omega) (by omega) (.line dx p' t1 3 [t2] (x+wd - 2,y+1) [(x+1,y+1)] eo ep (C.same sH) (.inr rfl) (by simp) ⟨.inr ⟨rfl,by dsimp only;omega,by dsimp only;omega⟩,trivial⟩ (fun _=>Iff.rfl) ⟨⟨(x+1,y+1),by simp,by rw [e3]⟩,⟨(x+wd - 2,y+1),by simp,by rw [e3];dsimp only;omega⟩,⟨(x+1,y+1),by simp,by rw [e3]⟩,⟨(x+1,y+1),by simp,by rw [e3];dsimp only;omega⟩,fun c hc=>?_⟩) fun c=>⟨fun z=>?_,fun z=>?_⟩
    ·rw [e3]
     simp only [List.mem_cons,List.not_mem_nil,or_false] at hc
     rcases hc with rfl|rfl<;>dsimp only<;>omega
    ·obtain⟨z,hz,m⟩:=z
     rw [Vu.tri (by omega) (by omega)]
     simp only [VR,List.zip_cons_cons,List.zip_nil_right,List.zip_nil_left,List.mem_cons,List.not_mem_nil,or_false] at hz
     rcases hz with rfl|rfl<;>rw [yl.ge (by dsimp only;omega) (by exact Int.le_refl _),e3] at m<;>dsimp only at m<;>exact⟨⟨by omega,by omega,by omega,by omega⟩,by omega⟩
    ·rw [Vu.tri (by omega) (by omega)] at z
     obtain⟨⟨z1,z2,z3,z4⟩,zc⟩:=z
     refine⟨((x+wd - 2,y+1),(x+1,y+1)),by simp [VR],?_⟩
     rw [yl.ge (by dsimp only;omega) (by exact Int.le_refl _),e3]
     exact⟨by dsimp only;omega,by dsimp only;omega,by dsimp only;omega,by dsimp only;omega⟩
   ·exact blk (fin (by omega)) _
   ·exact blk (fin (by omega)) _
   ·exact blk (fin (.inr (.inr fun z=>k3 (by rw [z])))) _
def GY (f:Int) (wd hg a b:Nat):Prop:=f=0∨(f=1∧(a=0∨b=0∨a+1=wd∨b+1=hg))∨(f=2∧(b=0∨a+1=wd))∨(f=3∧(b<3∨wd<3∨hg<3))
instance (f:Int) (wd hg a b:Nat):Decidable (GY f wd hg a b):=by unfold GY;infer_instance
def K9 (f:Int) (wd hg:Nat) (k:Nat):Bool:=decide (GY f wd hg (k % wd) (k / wd))
def Yx (f x y z:Int) (wd hg:Nat) (i:Nat):List (Int×Int×Int):=((List.range i).filter (K9 f wd hg)).map fun (k:Nat)=>(x+((k % wd:Nat):Int),y+((k / wd:Nat):Int),z)
theorem pW {f x y z:Int}{wd hg:Nat} (w1:1≤wd) {i:Nat}:(Yx f x y z wd hg i).Nodup:=by
 refine List.pairwise_map.mpr ((List.nodup_range.filter _).imp fun {k k'} hk e=>hk ?_)
 injection e with e1 e
 injection e with e2 _
 have h1:k % wd=k' % wd:=by omega
 have h2:k / wd=k' / wd:=by omega
 rw [←Nat.div_add_mod k wd,←Nat.div_add_mod k' wd,h1,h2]
theorem rR {x y:Int}{wd hg a b:Nat} (ha:a<wd) (hb:b<hg):(a=0∨b=0∨a+1=wd∨b+1=hg)↔G9 x y wd hg (x+(a:Int),y+(b:Int))<1:=by
 have m:∀p q:Int,min p q<1↔p<1∨q<1:=fun p q=>by omega
 unfold G9
 rw [m,m,m]
 dsimp only
 rw [show x+(a:Int) - x=a by omega,show y+(b:Int) - y=b by omega]
 omega
theorem i7 {f x y z:Int}{wd hg:Nat} (w1:1≤wd) (f0:0≤f) (f4:f<4) (c:Int×Int×Int):c∈Yx f x y z wd hg (wd*hg)↔Vu f x y wd hg (c.1,c.2.1)∧c.2.2=z:=by
 have cond:∀a b:Nat,a<wd→b<hg→(GY f wd hg a b↔Vu f x y wd hg (x+(a:Int),y+(b:Int))):=fun a b ha hb=>(or_congr Iff.rfl (or_congr (and_congr Iff.rfl (rR ha hb)) (or_congr (and_congr Iff.rfl (or_congr (by dsimp only;omega) (by dsimp only;omega))) (and_congr Iff.rfl (or_congr (by dsimp only;omega) Iff.rfl))))).trans ⟨fun z=>⟨⟨by dsimp only;omega,by dsimp only;omega,by dsimp only;omega,by dsimp only;omega⟩,z⟩,And.right⟩
 unfold Yx
 rw [List.mem_map]
 constructor
 ·rintro⟨k,hk,rfl⟩
  obtain⟨hk1,hk2⟩:=List.mem_filter.mp hk
  rw [List.mem_range] at hk1
  exact⟨(cond _ _ (Nat.mod_lt _ (by omega)) (Nat.div_lt_of_lt_mul hk1)).mp (of_decide_eq_true hk2),rfl⟩
 ·rintro⟨h,rfl⟩
  have hb:=h.1
  unfold YR at hb
  dsimp only at hb
  obtain⟨a,ha⟩:∃a:Nat,c.1=x+(a:Int):=⟨(c.1 - x).toNat,by omega⟩
  obtain⟨b,hb2⟩:∃b:Nat,c.2.1=y+(b:Int):=⟨(c.2.1 - y).toNat,by omega⟩
  have ha':a<wd:=by omega
  have hb':b<hg:=by omega
  have e1:(b*wd+a) % wd=a:=by rw [Nat.mul_comm,Nat.mul_add_mod,Nat.mod_eq_of_lt ha']
  have e2:(b*wd+a) / wd=b:=by rw [Nat.mul_comm,Nat.mul_add_div (by omega),Nat.div_eq_of_lt ha',Nat.add_zero]
  refine⟨b*wd+a,List.mem_filter.mpr ⟨List.mem_range.mpr ?_,?_⟩,?_⟩
  ·have:b*wd+a<(b+1)*wd:=by rw [Nat.succ_mul];omega
   have h2:(b+1)*wd≤hg*wd:=Nat.mul_le_mul_right _ hb'
   rw [Nat.mul_comm wd hg];omega
  ·unfold K9
   rw [e1,e2]
   refine decide_eq_true ((cond a b ha' hb').mpr ?_)
   rw [←ha,←hb2];exact h
  ·rw [e1,e2,←ha,←hb2]
def qp:Sp:=fun vs H Q _=>∃(f x y z:Int) (wd hg:Nat),vs=[.int f,.int x,.int y,.int z,.int wd,.int hg]∧0≤f∧f<4∧1≤wd∧1≤hg∧wd≤12∧hg≤12∧∀D ps cl H',jg H H'→H D=none→H' D=some (.lst (ps.map V.ref))→jV H' ps cl→cl.Nodup→cl.length≤144→(∀c,c∈cl↔Vu f x y wd hg (c.1,c.2.1)∧c.2.2=z)→Q (.ref D) H'
theorem Kh (T:Txt K mg t):uy P w K mg base 1 "_law_places" ["_law_form","_law_x","_law_y","_law_z","_law_wide","_law_high"] qp:=by
 obtain⟨fd,F,b⟩:=T.KJ
 refine⟨_,fd,F.okX JR (fun vs H Q E h=>?_) (fun cdv A outer s H vs Q E hr h=>?_),b,F.kp,T.Kb⟩
 ·obtain⟨f,x,y,z,wd,hg,rfl,_⟩:=h
  rfl
 ·obtain⟨f,x,y,z,wd,hg,rfl,f0,f4,w1,h1,w12,h12,q⟩:=h
  refine⟨_,(jj (jI (i:=6) JR.nd rfl (Or.inl rfl) (ug jf))
   (jj (JJ Jq (zr rfl T.Ui (ja (jr VF (pv 4) (pv 5)) jf)) (jL (i:=7) JR.nd rfl (Or.inl rfl)) (jj (jI (i:=8) JR.nd rfl (Or.inl rfl) (jr JC (pv 7) (pv 4)))
   (jj (jI (i:=9) JR.nd rfl (Or.inl rfl) (jr JB (pv 7) (pv 4)))
   (jj (jI (i:=10) JR.nd rfl (Or.inl rfl) (JP j9 (jO (G5 rfl) (by rfl) T.Vm Vg (ja (pv 8) (ja (pv 9) (ja (jr jQ (jr jQ (pv 4) jh) (pv 8)) (ja (jr jQ (jr jQ (pv 5) jh) (pv 9)) jf))))) jh (jy _)))
   (jj (jI (i:=11) JR.nd rfl (Or.inl rfl) (aF (JP j9 (pv 0) jh (jy _)) (aF (uI (JP j9 (pv 0) jh (jy _)) (uJ (pv 10))) (uJ (uI (JP j9 (pv 0) jh (jy _)) (uJ (aF (JP j9 (pv 9) jh (jy _)) (uJ (JP j9 (pv 8) (jr jQ (pv 4) jh) (jy _))))))))))
   (jm (jU (uk (Jc (pv 11)) (JT (VJ (jH j9 (pv 0) jh (jy _)) (yC (uk (jH U2 (pv 9) jh (jy _)) (uk (jH U2 (pv 4) jh (jy _)) (JT (jH U2 (pv 5) jh (jy _))))).pt)).pt)).pt (jm (jA (vv PySem.F.plainAttrs_list PySem.F.slot_list_append PySem.F.type_list_append vF (pv 6) (ja (jS (ja (jr jZ (pv 1) (pv 8)) (ja (jr jZ (pv 2) (pv 9)) (ja (pv 3) jf)))) jf)))) jP)))))))
   (jm (jF (pv 6))))),?_⟩
  have key:∀(k:Nat),(0+(k:Int)) % (wd:Int)=((k % wd:Nat):Int)∧(0+(k:Int)) / (wd:Int)=((k / wd:Nat):Int):=fun k=>⟨by simp,by simp⟩
  refine⟨MF,fun D hD=>?_⟩
  have nn:((wd:Int)*(hg:Int)).toNat=wd*hg:=by rw [←Int.natCast_mul,Int.toNat_natCast]
  have n144:wd*hg≤144:=Nat.mul_le_mul w12 h12
  refine⟨_,rfl,_,rfl,(wd:Int),(hg:Int),rfl,rfl,.inl ⟨by omega,by omega⟩,_,rfl,by rw [←Int.natCast_mul];omega,by rw [←Int.natCast_mul];omega,uN (fun i σ H'=>∃(v7 v8 v9 v10 v11:Option V) (as:tD),σ=[oI f,oI x,oI y,oI z,oI wd,oI hg,oR D,v7,v8,v9,v10,v11]∧jg H H'∧H' D=some (.lst (as.map V.ref))∧jV H' as (Yx f x y z wd hg i)) ⟨_,_,_,_,_,[],rfl,jn (jg.refl H) hD,je,jV.nil⟩ ?_ ?_⟩
  ·rintro i σ H2 hi ⟨v7,v8,v9,v10,v11,as,rfl,s2,e2,C2⟩
   rw [nn] at hi
   have la:as.length≤144:=by
    rw [C2.1]
    unfold Yx
    rw [List.length_map]
    have:=List.length_filter_le (K9 f wd hg) (List.range i)
    rw [List.length_range] at this
    omega
   obtain⟨km,kd⟩:=key i
   have a1:i % wd<wd:=Nat.mod_lt _ (by omega)
   have b1:i / wd<hg:=Nat.div_lt_of_lt_mul hi
   refine J1 (fun σ H'=>σ=[oI f,oI x,oI y,oI z,oI wd,oI hg,oR D,some (.int (0+(i:Int))),some (.int ((i % wd:Nat):Int)),v9,v10,v11]∧H2=H') (fun B hB=>?_) ?_
   ·exact⟨_,rfl,_,rfl,_,(wd:Int),rfl,rfl,(by show (0:Int)<wd;omega),hB _ _ ⟨by rw [←km];rfl,rfl⟩⟩
   rintro σ H3 ⟨rfl,rfl⟩
   refine J1 (fun σ H'=>σ=[oI f,oI x,oI y,oI z,oI wd,oI hg,oR D,some (.int (0+(i:Int))),some (.int ((i % wd:Nat):Int)),some (.int ((i / wd:Nat):Int)),v10,v11]∧H2=H') (fun B hB=>?_) ?_
   ·exact⟨_,rfl,_,rfl,_,(wd:Int),rfl,rfl,⟨by omega,by omega⟩,hB _ _ ⟨by rw [←kd];rfl,rfl⟩⟩
   rintro σ H3 ⟨rfl,rfl⟩
   have cn:K9 f wd hg i=decide (GY f wd hg (i % wd) (i / wd)):=rfl
   have plS:K9 f wd hg i=true→Yx f x y z wd hg (i+1)=Yx f x y z wd hg i++[(x+((i % wd:Nat):Int),y+((i / wd:Nat):Int),z)]:=fun h=>by
    unfold Yx
    rw [List.range_succ,List.filter_append,List.map_append]
    simp [h]
   have plN:K9 f wd hg i=false→Yx f x y z wd hg (i+1)=Yx f x y z wd hg i:=fun h=>by
    unfold Yx
    rw [List.range_succ,List.filter_append,List.map_append]
    simp [h]
   generalize i % wd=a at a1 cn plS
   generalize i / wd=b at b1 cn plS
   refine J1 (fun σ H'=>∃e:Bool,(e=true↔(a=0∨b=0∨a+1=wd∨b+1=hg))∧σ=[oI f,oI x,oI y,oI z,oI wd,oI hg,oR D,some (.int (0+(i:Int))),oI a,oI b,some (.bl e),v11]∧H2=H') (fun B hB=>?_) ?_
   ·refine⟨_,rfl,_,rfl,_,rfl,(wd:Int),1,rfl,rfl,_,rfl,_,_,rfl,rfl,_,rfl,(hg:Int),1,rfl,rfl,_,rfl,_,_,rfl,rfl,(a:Int),(b:Int),(wd:Int) - 1 - a,(hg:Int) - 1 - b,rfl,fun M hM hm=>⟨rfl,hB _ _ ⟨_,?_,rfl,rfl⟩⟩⟩
    rw [decide_eq_true_eq]
    have m1:=hm a (by simp)
    have m2:=hm b (by simp)
    have m3:=hm ((wd:Int) - 1 - a) (by simp)
    have m4:=hm ((hg:Int) - 1 - b) (by simp)
    simp only [List.mem_cons,List.not_mem_nil,or_false] at hM
    constructor
    ·intro h0
     have h0:M=0:=V.int.inj h0
     rcases hM with h|h|h|h
     ·exact .inl (by omega)
     ·exact .inr (.inl (by omega))
     ·exact .inr (.inr (.inl (by omega)))
     ·exact .inr (.inr (.inr (by omega)))
    ·intro h0
     have g:0≤M:=by rcases hM with h|h|h|h<;>omega
     rw [show M=0 by rcases h0 with h|h|h|h<;>omega]
   rintro σ H3 ⟨e,he,rfl,rfl⟩
   refine J1 (fun σ H'=>∃th:Bool,(th=true↔(f=0∨(f=1∧e=true)∨(f=2∧(b=0∨a+1=wd))))∧σ=[oI f,oI x,oI y,oI z,oI wd,oI hg,oR D,some (.int (0+(i:Int))),oI a,oI b,some (.bl e),some (.bl th)]∧H2=H') (fun B hB=>?_) ?_
   ·refine⟨_,rfl,rfl,_,rfl,JE (fun g0=>hB _ _ ⟨true,⟨fun _=>.inl (V.int.inj g0),fun _=>rfl⟩,rfl,rfl⟩) fun g0=>?_⟩
    have n0:f≠0:=fun z=>g0 (by rw [z])
    refine⟨_,rfl,rfl,_,rfl,JE (fun g1=>⟨_,rfl,e,rfl,?_⟩) fun g1=>⟨false,rfl,Jx ⟨_,rfl,rfl,_,rfl,JE (fun g2=>⟨_,rfl,rfl,_,rfl,JE (fun g3=>hB _ _ ⟨true,⟨fun _=>.inr (.inr ⟨V.int.inj g2,.inl (by have:=V.int.inj g3;omega)⟩),fun _=>rfl⟩,rfl,rfl⟩) fun g3=>⟨_,rfl,_,rfl,(wd:Int),1,rfl,rfl,rfl,hB _ _ ⟨_,?_,rfl,rfl⟩⟩⟩) fun g2=>hB _ _ ⟨false,?_,rfl,rfl⟩⟩⟩⟩
    ·have f1:f=1:=V.int.inj g1
     cases e with
     | true=>exact JU (hB _ _ ⟨true,⟨fun _=>.inr (.inl ⟨f1,rfl⟩),fun _=>rfl⟩,rfl,rfl⟩)
     | false =>
      refine Jx ⟨_,rfl,rfl,_,rfl,JE (fun g2=>absurd ((V.int.inj g1).symm.trans (V.int.inj g2)) (by decide)) fun g2=>hB _ _ ⟨false,⟨fun z=>(by cases z),fun z=>?_⟩,rfl,rfl⟩⟩
      rcases z with z|z|z
      ·exact absurd z n0
      ·cases z.2
      ·exact absurd (f1.symm.trans z.1) (by decide)
    ·have n1:f≠1:=fun z=>g1 (by rw [z])
     have f2:f=2:=V.int.inj g2
     have nb:b≠0:=fun z=>g3 (by rw [z];rfl)
     rw [decide_eq_true_eq]
     constructor
     ·intro h0
      have:=V.int.inj h0
      exact .inr (.inr ⟨f2,.inr (by omega)⟩)
     ·rintro (z|z|z)
      ·exact absurd z n0
      ·exact absurd z.1 n1
      ·rw [show (a:Int)=(wd:Int) - 1 by rcases z.2 with z|z<;>omega]
    ·have n1:f≠1:=fun z=>g1 (by rw [z])
     have n2:f≠2:=fun z=>g2 (by rw [z])
     refine⟨fun z=>(by cases z),?_⟩
     rintro (z|z|z)
     ·exact absurd z n0
     ·exact absurd z.1 n1
     ·exact absurd z.1 n2
   rintro σ H3 ⟨th,hth,rfl,rfl⟩
   have tc:(f=0∨(f=1∧e=true)∨(f=2∧(b=0∨a+1=wd)))→GY f wd hg a b:=fun z=>by
    rcases z with z|z|z
    ·exact .inl z
    ·exact .inr (.inl ⟨z.1,he.mp z.2⟩)
    ·exact .inr (.inr (.inl z))
   refine uu (GY f wd hg a b) (fun N hN=>?_) (fun hc=>?_) fun hc=>?_
   ·refine⟨_,rfl,th,rfl,?_⟩
    cases th with
    | true=>exact JU (hN true ⟨fun _=>tc (hth.mp rfl),fun _=>rfl⟩)
    | false =>
     have nt:¬(f=0∨(f=1∧e=true)∨(f=2∧(b=0∨a+1=wd))):=fun z=>Bool.noConfusion (hth.mpr z)
     have c3:GY f wd hg a b↔(f=3∧(b<3∨wd<3∨hg<3)):=⟨fun z=>by
      rcases z with z|z|z|z
      ·exact absurd (.inl z) nt
      ·exact absurd (.inr (.inl ⟨z.1,he.mpr z.2⟩)) nt
      ·exact absurd (.inr (.inr z)) nt
      ·exact z,fun z=>.inr (.inr (.inr z))⟩
     refine Jx ⟨_,rfl,rfl,_,rfl,JE (fun g3=>⟨_,rfl,(b:Int),3,rfl,rfl,_,rfl,JE (fun g4=>hN true ⟨fun _=>c3.mpr ⟨V.int.inj g3,.inl (by omega)⟩,fun _=>rfl⟩) fun g4=>⟨_,rfl,(wd:Int),3,rfl,rfl,_,rfl,JE (fun g5=>hN true ⟨fun _=>c3.mpr ⟨V.int.inj g3,.inr (.inl (by omega))⟩,fun _=>rfl⟩) fun g5=>⟨_,rfl,(hg:Int),3,rfl,rfl,_,rfl,hN _ ?_⟩⟩⟩) fun g3=>hN false ⟨fun z=>(by cases z),fun z=>absurd (c3.mp z).1 fun z2=>g3 (by rw [z2])⟩⟩
     rw [decide_eq_true_eq,c3]
     exact⟨fun z=>⟨V.int.inj g3,.inr (.inr (by omega))⟩,fun z=>by rcases z.2 with z|z|z<;>omega⟩
   ·refine⟨_,rfl,.inl ⟨rfl,_,jD.of e2⟩,_,rfl,_,rfl,x,(a:Int),rfl,rfl,_,rfl,_,rfl,y,(b:Int),rfl,rfl,_,rfl,vL,fun p hp=>?_⟩
    have s6:=jn (o:=.tup [.int (x+(a:Int)),.int (y+(b:Int)),.int z]) (jg.refl H2) hp
    have e6:upd H2 p (.tup [.int (x+(a:Int)),.int (y+(b:Int)),.int z]) p=some (.tup [.int (x+(a:Int)),.int (y+(b:Int)),.int z]):=je
    generalize upd H2 p (.tup [.int (x+(a:Int)),.int (y+(b:Int)),.int z])=H6 at s6 e6
    have eD6:=s6 _ _ e2
    refine⟨D,_,.ref p,rfl,rfl,eD6,by rw [List.length_map];exact Nat.lt_of_le_of_lt la (by decide),_,_,_,_,_,as++[p],rfl,fun c u e=>?_,by rw [je,List.map_append];rfl,?_⟩
    ·rw [ji (jq e hD)];exact s6 _ _ (s2 _ _ e)
    ·rw [plS (by rw [cn];exact decide_eq_true hc)]
     exact ((C2.same s6).snoc (c:=(x+(a:Int),y+(b:Int),z)) e6).wr eD6
   ·refine⟨_,_,_,_,_,as,rfl,s2,e2,?_⟩
    rw [plN (by rw [cn];exact decide_eq_false hc)]
    exact C2
  ·rintro σ H2 ⟨v7,v8,v9,v10,v11,as,rfl,s2,e2,C2⟩
   rw [nn] at C2
   exact⟨_,rfl,q D as _ H2 s2 hD e2 C2 (pW w1) (by
    unfold Yx
    rw [List.length_map]
    have:=List.length_filter_le (K9 f wd hg) (List.range (wd*hg))
    rw [List.length_range] at this
    omega) (i7 w1 f0 f4)⟩
end
end K11
namespace K11
open PySem L2 Wd TS STb
theorem US {K:sZ}{H:Hp}{bs:tD}{ks:List (List Key)} (ka:jM H bs ks) (hi:∀k∈ks,∀c∈k,∃n,c=Sum.inl n):KY K H bs (ks.map fun k=>k.map sT):=by
 refine⟨by rw [ka.1,List.length_map],fun i p ns h1 h2=>?_⟩
 rw [List.getElem?_map] at h2
 obtain⟨k,e2,rfl⟩:=Option.map_eq_some_iff.mp h2
 have:=ka.2 i p k h1 e2
 refine jw.of (this.trans ?_)
 rw [List.map_map]
 congr 2
 refine List.map_congr_left fun c hc=>?_
 obtain⟨n,rfl⟩:=hi k (List.mem_of_getElem? e2) c hc
 rfl
def uF {α:Type} [DecidableEq α] (l:List α) (m:List α):List α:=m.foldl yb l
def uG {α:Type} [DecidableEq α] (l:List α) (m:List α):List α:=m.foldl yT l
theorem mY {α:Type} [DecidableEq α] {l:List α} {a c:α}:c∈yb l a↔c∈l∨c=a:=by
 unfold yb
 split
 ·rename_i h
  exact⟨.inl,fun z=>z.elim id fun z=>z▸h⟩
 ·simp
theorem mZ {α:Type} [DecidableEq α] {l:List α} {a c:α}:c∈yT l a↔c∈l∧c≠a:=by
 unfold yT
 rw [List.mem_filter,decide_eq_true_eq]
theorem NH {α:Type} [DecidableEq α] {l:List α} {a:α} (n:l.Nodup):(yb l a).Nodup:=by
 unfold yb
 split
 ·exact n
 ·rename_i h
  refine List.nodup_append.mpr ⟨n,by simp,fun x hx y hy e=>h ?_⟩
  rw [List.mem_singleton] at hy
  rw [←hy,←e];exact hx
theorem Vj {α:Type} [DecidableEq α] {c:α}:∀{m l:List α},c∈uF l m↔c∈l∨c∈m
 | [],l=>by simp [uF]
 | a::m,l=>by
  show c∈uF (yb l a) m↔_
  rw [Vj,mY,List.mem_cons,or_assoc]
theorem Vk {α:Type} [DecidableEq α] {c:α}:∀{m l:List α},c∈uG l m↔c∈l∧c ∉ m
 | [],l=>by simp [uG]
 | a::m,l=>by
  show c∈uG (yT l a) m↔_
  rw [Vk,mZ,List.mem_cons,not_or,and_assoc]
theorem V1 {α:Type} [DecidableEq α]:∀{m l:List α},l.Nodup→(uF l m).Nodup
 | [],l,n=>n
 | a::m,l,n=>V1 (m:=m) (NH n)
theorem V2 {α:Type} [DecidableEq α]:∀{m l:List α},l.Nodup→(uG l m).Nodup
 | [],l,n=>n
 | a::m,l,n=>V2 (m:=m) (n.filter _)
theorem uZ:∀{m:tf} {cs:j4} {l:tf},(cs.map (·.1)).Perm (l.map k3)→((j7 cs m).map (·.1)).Perm ((uF l m).map k3)
 | [],cs,l,p=>p
 | a::m,cs,l,p=>uZ (m:=m) (VI (fun _ _=>Uf) (a:=a) p)
theorem Ud:∀{m:tf} {cs:j4} {l:tf},(cs.map (·.1)).Perm (l.map k3)→((JA cs m).map (·.1)).Perm ((uG l m).map k3)
 | [],cs,l,p=>p
 | a::m,cs,l,p=>Ud (m:=m) (vA (fun _ _=>Uf) (a:=a) p)
theorem U3:∀{m:tf} {cs:j4},(∀kv∈cs,kv.2=.bl true)→∀kv∈j7 cs m,kv.2=.bl true
 | [],cs,h=>h
 | a::m,cs,h=>U3 (m:=m) (vo h)
theorem Uv:∀{m:tf} {cs:j4},(∀kv∈cs,kv.2=.bl true)→∀kv∈JA cs m,kv.2=.bl true
 | [],cs,h=>h
 | a::m,cs,h=>Uv (m:=m) (vB h)
theorem nH {α:Type} [DecidableEq α] {l m m':List α} (n:l.Nodup) (h:∀c,c∈m↔c∈m'):(uF l m).Perm (uF l m'):=(List.perm_ext_iff_of_nodup (V1 n) (V1 n)).mpr fun c=>by rw [Vj,Vj,h c]
theorem nM {α:Type} [DecidableEq α] {l m m':List α} (n:l.Nodup) (h:∀c,c∈m↔c∈m'):(uG l m).Perm (uG l m'):=(List.perm_ext_iff_of_nodup (V2 n) (V2 n)).mpr fun c=>by rw [Vk,Vk,h c]
theorem oK {w h l:Nat}{cl:tf} (w1:w≤12) (h1:h≤12) (l1:l≤3) (nd:cl.Nodup) (on:∀c∈cl,Uo w h l c=true):cl.length≤450:=by
 have:=List.Nodup.length_le_of_subset nd (l₂:=(List.range l).flatMap fun (z:Nat)=>zl (z:Int) (vK 0 0 w h)) fun c hc=>by
  have hb:=UN.mp (on c hc)
  refine List.mem_flatMap.mpr ⟨c.2.2.toNat,List.mem_range.mpr (by omega),List.mem_map.mpr ⟨(c.1,c.2.1),vh.mpr ⟨by dsimp only;omega,by dsimp only;omega,by dsimp only;omega,by dsimp only;omega⟩,?_⟩⟩
  exact Prod.ext rfl (Prod.ext rfl (by dsimp only;omega))
 have len:∀n:Nat,((List.range n).flatMap fun (z:Nat)=>zl (z:Int) (vK 0 0 w h)).length=n*(w*h):=fun n=>by
  induction n with
  | zero=>simp
  | succ n ih =>
   rw [List.range_succ,List.flatMap_append,List.length_append,ih]
   simp [zl,vn,Nat.succ_mul]
 rw [len] at this
 have h2:l*(w*h)≤3*(12*12):=Nat.mul_le_mul l1 (Nat.mul_le_mul w1 h1)
 omega
theorem rS {w h:Nat}{hl:ti} (w1:w≤12) (h1:h≤12) (nd:hl.Nodup) (on:∀p∈hl,(inB p.1 w&&inB p.2 h)=true):hl.length≤150:=by
 have:=List.Nodup.length_le_of_subset nd (l₂:=vK 0 0 w h) fun c hc=>by
  have hb:=uT.mp (on c hc)
  exact vh.mpr ⟨by omega,by omega,by omega,by omega⟩
 rw [vn] at this
 have h2:w*h≤12*12:=Nat.mul_le_mul w1 h1
 omega
theorem Ct.mk' {w h l:Nat}{cl:tf}{hl:ti} (sw:1≤w∧w≤12) (sh:1≤h∧h≤12) (sl:1≤l∧l≤3) (nc:cl.Nodup) (nh:hl.Nodup) (ic:∀c∈cl,Uo w h l c=true) (ih:∀p∈hl,(inB p.1 w&&inB p.2 h)=true):Ct w h l cl hl:=⟨sw,sh,sl,nc,nh,ic,ih,oK sw.2 sh.2 sl.2 nc ic,rS sw.2 sh.2 nh ih⟩
def Td (H:Hp) (a:Addr) (ks:List (List Key)):Prop:=∃cs,H a=some (.dT cs)∧(∀kv∈cs,kv.2=.bl true)∧(cs.map (·.1)).Perm ks
structure Pr (C:Addr) (H:Hp) (o dx c d ta th:Addr) (w h l:Nat) (cl:tf) (hl:ti):Prop where
 B:Bx C H o dx c d w h l cl hl
 T:Td H ta (cl.map k3)
 U:Td H th (hl.map k2)
 C:Ct w h l cl hl
 n1:ta≠c
 n2:ta≠d
 n3:th≠c
 n4:th≠d
 n5:ta≠th
theorem Td.same {H H':Hp}{a:Addr}{ks:List (List Key)} (x:Td H a ks) (s:jg H H'):Td H' a ks:=let ⟨cs,e,r⟩:=x;⟨cs,s _ _ e,r⟩
theorem Pr.same {C:Addr}{H H':Hp}{o dx c d ta th:Addr}{w h l:Nat}{cl:tf}{hl:ti} (x:Pr C H o dx c d ta th w h l cl hl) (s:jg H H'):Pr C H' o dx c d ta th w h l cl hl:=⟨x.B.same s,x.T.same s,x.U.same s,x.C,x.n1,x.n2,x.n3,x.n4,x.n5⟩
theorem Za {cs:j4}{k:List Key}:(uo cs k).isSome=true↔k∈cs.map (·.1):=by
 rw [←UJ,List.any_eq_true,List.mem_map]
 exact⟨fun ⟨x,hx,e⟩=>⟨x,hx,of_decide_eq_true e⟩,fun ⟨x,hx,e⟩=>⟨x,hx,decide_eq_true e⟩⟩
theorem md {w h l:Nat}{cs ts:j4}{cl:tf}{hl:ti} (C:Ct w h l cl hl) (p1:(cs.map (·.1)).Perm (cl.map k3)) (p2:(ts.map (·.1)).Perm (cl.map k3)) (x y z:Int):(inB x w&&inB y h&&inB z l&&(uo cs [.inl x,.inl y,.inl z]).isSome)=(uo ts [.inl x,.inl y,.inl z]).isSome:=by
 rw [Bool.eq_iff_iff,Bool.and_eq_true,Za,Za,p1.mem_iff,p2.mem_iff]
 refine⟨fun z=>z.2,fun hm=>⟨?_,hm⟩⟩
 obtain⟨a,ha,e⟩:=List.mem_map.mp hm
 obtain rfl:a=(x,y,z):=Uf e
 exact C.ic _ ha
theorem bN {w h l:Nat}{ds us:j4}{cl:tf}{hl:ti} (C:Ct w h l cl hl) (p1:(ds.map (·.1)).Perm (hl.map k2)) (p2:(us.map (·.1)).Perm (hl.map k2)) (x y:Int):(inB x w&&inB y h&&(uo ds [.inl x,.inl y]).isSome)=(uo us [.inl x,.inl y]).isSome:=by
 rw [Bool.eq_iff_iff,Bool.and_eq_true,Za,Za,p1.mem_iff,p2.mem_iff]
 refine⟨fun z=>z.2,fun hm=>⟨?_,hm⟩⟩
 obtain⟨a,ha,e⟩:=List.mem_map.mp hm
 obtain rfl:a=(x,y):=uA e
 exact C.ih _ ha
section
variable {P:tM}{w:World}{K:sZ}{mg:tj}{base:Heap}{t:Adr}
def sg:Sp:=fun vs H Q _=>∃b:Bool,vs=[.bl b,.bl b]∧Q (.bl true) H
theorem kn (T:Txt K mg t):uy P w K mg base 1 "_law_is" ["_law_found","_law_due"] sg:=by
 obtain⟨fd,F,b⟩:=T.cZ
 refine⟨_,fd,F.okX cD (fun vs H Q E h=>?_) (fun cdv A outer s H vs Q E hr h=>?_),b,F.kp,T.bC⟩
 ·obtain⟨b,rfl,_⟩:=h
  rfl
 ·obtain⟨b,rfl,q⟩:=h
  refine⟨_,(jm (jF (uI (jO UD (by rfl) T.uf uc (ja (pv 0) (ja (vj (v:=.ty "bool") (by rfl) T.cg a7 rfl) jf))) (uJ (JP j9 (pv 0) (pv 1) (jy _)))))),?_⟩
  exact⟨_,rfl,.bl b,.ty "bool",_,_,true,rfl,.bl _,.ty _,by kernel_rfl,true,rfl,JU ⟨_,rfl,_,rfl,rfl,by rw [decide_eq_true rfl];exact q⟩⟩
def qm (K:sZ) (t:Adr):Sp:=fun vs H Q _=>∃(o dx c d r:Addr) (w h l wd hg:Nat) (x y de z:Int) (lo:Bool) (In:Int×Int→Prop) (cs:j4),vs=[.ref o,.int de,.ref r,.int z,.bl lo]∧(de=2∨de=3)∧H o=some (.ins t.jl dx (fB w h l c d))∧vy K t H r x y wd hg In∧1≤wd∧1≤hg∧0≤x∧x+wd≤w∧0≤y∧y+hg≤h∧w≤12∧h≤12∧0≤z∧z<l∧H c=some (.dT cs)∧cs.length≤800 ∧
 ∀pl H',jg H H'→pl.Nodup→(∀q,q∈pl↔In q)→Q .non (upd H' c (.dT ((if de=2 then j7 else JA) cs (zl z pl))))
theorem nZ (T:Txt K mg t):uy P w K mg base 7 "_law_laid" ["_law_board","_law_deed","_law_shape_here","_law_z","_law_left_out"] (qm K t):=by
 obtain⟨fd,F,b⟩:=T.N3
 have G_Board_lay:=Mh (P:=P) (w:=w) (base:=base) T
 have G_Board_clear:=GH (P:=P) (w:=w) (base:=base) T
 refine⟨_,fd,F.okX Nb (fun vs H Q E h=>?_) (fun cdv A outer s H vs Q E hr h=>?_),b,F.kp,T.nP⟩
 ·obtain⟨o,dx,c,d,r,w,h,l,wd,hg,x,y,de,z,lo,In,cs,rfl,_⟩:=h
  rfl
 ·obtain⟨o,dx,c,d,r,w,h,l,wd,hg,x,y,de,z,lo,In,cs,rfl,hde,ho,hs,w1,h1,x0,xw,y0,yh,w12,h12,z0,zz,hc',lc,q⟩:=h
  refine⟨_,(jm (jU (VJ (jH j9 (pv 1) jh (jy _)) (VJ (Jc (pv 4)) (yC (jH j9 (pv 3) jh (jy _))))).pt (jm (jA (Z1 (pv 0) G_Board_lay hr.m jk (ja (pv 2) jf)))) (jm (jU (jH j9 (pv 1) jh (jy _)) (jm (jA (jz (pv 0) G_Board_lay.m hr.m jk (ja (pv 2) (ja (pv 3) jf))))) (jm (jU (VJ (Jc (pv 4)) (yC (jH j9 (pv 3) jh (jy _)))).pt (jm (jA (Z1 (pv 0) G_Board_clear hr.m jk (ja (pv 2) jf)))) (jm (jA (jz (pv 0) G_Board_clear.m hr.m jk (ja (pv 2) (ja (pv 3) jf))))))))))),?_⟩
  have L:(de=2→∀pl H',jg H H'→pl.Nodup→(∀q,q∈pl↔In q)→Q .non (upd H' c (.dT (j7 cs (zl z pl))))):=fun e pl H' s nd m=>by
   have:=q pl H' s nd m
   rw [if_pos e] at this
   exact this
  have L':(de≠2→∀pl H',jg H H'→pl.Nodup→(∀q,q∈pl↔In q)→Q .non (upd H' c (.dT (JA cs (zl z pl))))):=fun e pl H' s nd m=>by
   have:=q pl H' s nd m
   rw [if_neg e] at this
   exact this
  refine uu (de=2∧lo=true∧z=0) (fun N hN=>⟨_,rfl,rfl,_,rfl,JE (fun g=>⟨_,rfl,lo,rfl,?_⟩) fun g=>hN false ⟨fun z=>(by cases z),fun z=>absurd (congrArg V.int z.1) g⟩⟩) (fun hc=>?_) fun hc=>?_
  ·cases lo with
   | false=>exact Jx (hN false ⟨fun z=>(by cases z),fun z=>(by cases z.2.1)⟩)
   | true =>
    refine JU ⟨_,rfl,rfl,_,rfl,hN _ ?_⟩
    rw [decide_eq_true_eq]
    exact⟨fun z=>⟨V.int.inj g,rfl,V.int.inj z⟩,fun z=>by rw [z.2.2]⟩
  ·obtain⟨e1,_,rfl⟩:=hc
   exact jT ho ⟨_,rfl,o,dx,c,d,r,w,h,l,wd,hg,x,y,0,In,cs,rfl,ho,hs,w1,h1,x0,xw,y0,yh,w12,h12,z0,zz,hc',lc,L e1⟩
  ·refine uu (de=2) (fun N hN=>⟨_,rfl,rfl,_,rfl,hN _ ?_⟩) (fun e1=>?_) fun e1=>?_
   ·rw [decide_eq_true_eq]
    exact⟨fun z=>V.int.inj z,fun z=>by rw [z]⟩
   ·exact jT ho ⟨_,rfl,_,rfl,o,dx,c,d,r,w,h,l,wd,hg,x,y,z,In,cs,rfl,ho,hs,w1,h1,x0,xw,y0,yh,w12,h12,z0,zz,hc',lc,L e1⟩
   ·refine uu (lo=true∧z=0) (fun N hN=>⟨_,rfl,lo,rfl,?_⟩) (fun hc=>?_) fun hc=>?_
    ·cases lo with
     | false=>exact Jx (hN false ⟨fun z=>(by cases z),fun z=>(by cases z.1)⟩)
     | true =>
      refine JU ⟨_,rfl,rfl,_,rfl,hN _ ?_⟩
      rw [decide_eq_true_eq]
      exact⟨fun z=>⟨rfl,V.int.inj z⟩,fun z=>by rw [z.2]⟩
    ·obtain⟨_,rfl⟩:=hc
     exact jT ho ⟨_,rfl,o,dx,c,d,r,w,h,l,wd,hg,x,y,0,In,cs,rfl,ho,hs,w1,h1,x0,xw,y0,yh,w12,h12,z0,zz,hc',lc,L' e1⟩
    ·exact jT ho ⟨_,rfl,_,rfl,o,dx,c,d,r,w,h,l,wd,hg,x,y,z,In,cs,rfl,ho,hs,w1,h1,x0,xw,y0,yh,w12,h12,z0,zz,hc',lc,L' e1⟩
end
end K11
namespace K11
open PySem L2 Wd TS STb
section
variable {P:tM}{w:World}{K:sZ}{mg:tj}{base:Heap}{t:Adr}
def N8 (c d ta th:Addr) (H H':Hp):Prop:=∀b u,b≠c→b≠d→b≠ta→b≠th→H b=some u→H' b=some u
theorem jV.keys {H:Hp}{ps:tD}{cl:tf} (C:jV H ps cl):jM H ps (cl.map k3):=⟨by rw [C.1,List.length_map],fun i b k h1 h2=>by
 rw [List.getElem?_map] at h2
 obtain⟨q,e,rfl⟩:=Option.map_eq_some_iff.mp h2
 exact C.2 i b q h1 e⟩
theorem nJ {α:Type} [DecidableEq α] (l m:List α) (a:α):uF l (m++[a])=yb (uF l m) a:=by
 unfold uF;rw [List.foldl_append];rfl
theorem nN {α:Type} [DecidableEq α] (l m:List α) (a:α):uG l (m++[a])=yT (uG l m) a:=by
 unfold uG;rw [List.foldl_append];rfl
structure Dd (C:Addr) (H H':Hp) (o dx c d ta th:Addr) (w h l:Nat) (cB:tf) (hB:ti) (cT:tf) (hT:ti) (Dl:Addr) (ps:tD) (c2:tf):Prop where
 off:N8 c d ta th H H'
 bx:Bx C H' o dx c d w h l cB hB
 tt:Td H' ta (cT.map k3)
 tu:Td H' th (hT.map k2)
 el:H' Dl=some (.lst (ps.map V.ref))
 cs:jV H' ps c2
theorem Dd.same {C:Addr}{H H':Hp}{o dx c d ta th Dl:Addr}{w h l:Nat}{cB cT:tf}{hB hT:ti}{ps:tD}{c2:tf}{H2:Hp} (x:Dd C H H' o dx c d ta th w h l cB hB cT hT Dl ps c2) (s:jg H' H2):Dd C H H2 o dx c d ta th w h l cB hB cT hT Dl ps c2:=⟨fun b u n1 n2 n3 n4 e=>s _ _ (x.off b u n1 n2 n3 n4 e),x.bx.same s,x.tt.same s,x.tu.same s,s _ _ x.el,x.cs.same s⟩
theorem jV.off {H':Hp}{ps:tD}{c2:tf}{a:Addr}{u u':HO} (x:jV H' ps c2) (ea:H' a=some u) (n:∀xs,u≠.tup xs):jV (upd H' a u') ps c2:=⟨x.1,fun i p c h1 h2=>by
 have e:=x.2 i p c h1 h2
 rw [ji (jX e ea (fun z=>n _ z.symm))];exact e⟩
theorem Td.off {H':Hp}{a b:Addr}{ks:List (List Key)}{u:HO} (x:Td H' a ks) (n:a≠b):Td (upd H' b u) a ks:=let ⟨cs,e,r⟩:=x;⟨cs,by rw [ji n];exact e,r⟩
theorem Dd.cop {C:Addr}{H H':Hp}{o dx c d ta th Dl:Addr}{w h l:Nat}{cB cT:tf}{hB hT:ti}{ps:tD}{c2:tf}{cs':j4}{cB':tf} (x:Dd C H H' o dx c d ta th w h l cB hB cT hT Dl ps c2) (n1:ta≠c) (n3:th≠c) (v:∀kv∈cs',kv.2=.bl true) (pp:(cs'.map (·.1)).Perm (cB'.map k3)):Dd C H (upd H' c (.dT cs')) o dx c d ta th w h l cB' hB cT hT Dl ps c2:=by
 obtain⟨cs,ec,_⟩:=x.bx.ec
 obtain⟨ds,ed,rd⟩:=x.bx.ed
 exact⟨fun b u m1 m2 m3 m4 e=>by rw [ji m1];exact x.off b u m1 m2 m3 m4 e,⟨by rw [ji (jX x.bx.eo ec (fun z=>nomatch z))];exact x.bx.eo,⟨cs',je,v,pp⟩,⟨ds,by rw [ji (Ne.symm x.bx.ne)];exact ed,rd⟩,x.bx.ne⟩,x.tt.off n1,x.tu.off n3,by rw [ji (jX x.el ec (fun z=>nomatch z))];exact x.el,jV.off x.cs ec (fun _ z=>nomatch z)⟩
theorem Dd.dri {C:Addr}{H H':Hp}{o dx c d ta th Dl:Addr}{w h l:Nat}{cB cT:tf}{hB hT:ti}{ps:tD}{c2:tf}{ds':j4}{hB':ti} (x:Dd C H H' o dx c d ta th w h l cB hB cT hT Dl ps c2) (n2:ta≠d) (n4:th≠d) (v:∀kv∈ds',kv.2=.bl true) (pp:(ds'.map (·.1)).Perm (hB'.map k2)):Dd C H (upd H' d (.dT ds')) o dx c d ta th w h l cB hB' cT hT Dl ps c2:=by
 obtain⟨cs,ec,rc⟩:=x.bx.ec
 obtain⟨ds,ed,_⟩:=x.bx.ed
 exact⟨fun b u m1 m2 m3 m4 e=>by rw [ji m2];exact x.off b u m1 m2 m3 m4 e,⟨by rw [ji (jX x.bx.eo ed (fun z=>nomatch z))];exact x.bx.eo,⟨cs,by rw [ji x.bx.ne];exact ec,rc⟩,⟨ds',je,v,pp⟩,x.bx.ne⟩,x.tt.off n2,x.tu.off n4,by rw [ji (jX x.el ed (fun z=>nomatch z))];exact x.el,jV.off x.cs ed (fun _ z=>nomatch z)⟩
theorem Bx.off {C:Addr}{H:Hp}{o dx c d a:Addr}{w h l:Nat}{cl:tf}{hl:ti}{ts ts':j4} (x:Bx C H o dx c d w h l cl hl) (ea:H a=some (.dT ts)) (n1:a≠c) (n2:a≠d):Bx C (upd H a (.dT ts')) o dx c d w h l cl hl:=by
 obtain⟨cs,ec,rc⟩:=x.ec
 obtain⟨ds,ed,rd⟩:=x.ed
 exact⟨by rw [ji (jX x.eo ea (fun z=>nomatch z))];exact x.eo,⟨cs,by rw [ji (Ne.symm n1)];exact ec,rc⟩,⟨ds,by rw [ji (Ne.symm n2)];exact ed,rd⟩,x.ne⟩
theorem Dd.tab {C:Addr}{H H':Hp}{o dx c d ta th Dl:Addr}{w h l:Nat}{cB cT:tf}{hB hT:ti}{ps:tD}{c2:tf}{ts':j4}{cT':tf} (x:Dd C H H' o dx c d ta th w h l cB hB cT hT Dl ps c2) (n1:ta≠c) (n2:ta≠d) (n5:ta≠th) (v:∀kv∈ts',kv.2=.bl true) (pp:(ts'.map (·.1)).Perm (cT'.map k3)):Dd C H (upd H' ta (.dT ts')) o dx c d ta th w h l cB hB cT' hT Dl ps c2:=by
 obtain⟨ts,et,_⟩:=x.tt
 exact⟨fun b u m1 m2 m3 m4 e=>by rw [ji m3];exact x.off b u m1 m2 m3 m4 e,x.bx.off et n1 n2,⟨ts',je,v,pp⟩,x.tu.off (Ne.symm n5),by rw [ji (jX x.el et (fun z=>nomatch z))];exact x.el,jV.off x.cs et (fun _ z=>nomatch z)⟩
theorem Dd.hol {C:Addr}{H H':Hp}{o dx c d ta th Dl:Addr}{w h l:Nat}{cB cT:tf}{hB hT:ti}{ps:tD}{c2:tf}{us':j4}{hT':ti} (x:Dd C H H' o dx c d ta th w h l cB hB cT hT Dl ps c2) (n3:th≠c) (n4:th≠d) (n5:ta≠th) (v:∀kv∈us',kv.2=.bl true) (pp:(us'.map (·.1)).Perm (hT'.map k2)):Dd C H (upd H' th (.dT us')) o dx c d ta th w h l cB hB cT hT' Dl ps c2:=by
 obtain⟨us,eu,_⟩:=x.tu
 exact⟨fun b u m1 m2 m3 m4 e=>by rw [ji m4];exact x.off b u m1 m2 m3 m4 e,x.bx.off eu n3 n4,x.tt.off n5,⟨us',je,v,pp⟩,by rw [ji (jX x.el eu (fun z=>nomatch z))];exact x.el,jV.off x.cs eu (fun _ z=>nomatch z)⟩
theorem UF {cs:j4}{α:Type}{l:List α}{f:α→List Key} (p:(cs.map (·.1)).Perm (l.map f)):cs.length=l.length:=by
 have:=p.length_eq
 rw [List.length_map,List.length_map] at this
 exact this
def Uc (de:Int) (cl c2:tf):List (Int×Int×Int):=if de=0∨de=2 then uF cl c2 else if de=1∨de=3 then uG cl c2 else cl
def vZ (de:Int) (hl:ti) (q:Int×Int):List (Int×Int):=if de=4 then yb hl q else if de=5 then yT hl q else hl
theorem bi {de:Int}{cl c2:tf} (n:cl.Nodup):(Uc de cl c2).Nodup:=by
 unfold Uc
 split
 ·exact V1 n
 ·split
  ·exact V2 n
  ·exact n
theorem Nk {de:Int}{cl c2:tf}{c:Int×Int×Int} (h:c∈Uc de cl c2):c∈cl∨c∈c2:=by
 unfold Uc at h
 split at h
 ·exact Vj.mp h
 ·split at h
  ·exact .inl (Vk.mp h).1
  ·exact .inl h
theorem oW {de:Int}{hl:ti}{q:Int×Int} (n:hl.Nodup):(vZ de hl q).Nodup:=by
 unfold vZ
 split
 ·exact NH n
 ·split
  ·exact n.filter _
  ·exact n
theorem iK {de:Int}{hl:ti}{q p:Int×Int} (h:p∈vZ de hl q):p∈hl∨p=q:=by
 unfold vZ at h
 split at h
 ·exact mY.mp h
 ·split at h
  ·exact .inl (mZ.mp h).1
  ·exact .inl h
def ql (K:sZ) (t:Adr):Sp:=fun vs H Q _=>∃(o dx c d ta th p:Addr) (w h l:Nat) (dr:Int) (cl:tf) (hl:ti),vs=[.ref o,.ref ta,.ref th,.int dr,.ref p]∧Pr t.jl H o dx c d ta th w h l cl hl∧H p=some (.tup [.int w,.int h,.int l]) ∧
 ∀cl' hl' H',N8 c d ta th H H'→Pr t.jl H' o dx c d ta th w h l cl' hl'→Q (.bl true) H'
theorem nY (T:Txt K mg t):uy P w K mg base 8 "_law_done" ["_law_board","_law_table","_law_holes","_law_draw","_law_size"] (ql K t):=by
 obtain⟨fd,F,b⟩:=T.N2
 have G_law_block:=Ml (P:=P) (w:=w) (base:=base) T
 have G_law_places:=Kh (P:=P) (w:=w) (base:=base) T
 have G_law_shape:=Mo (P:=P) (w:=w) (base:=base) T
 have G_law_laid:=nZ (P:=P) (w:=w) (base:=base) T
 have G_Board_put:=U0 (P:=P) (w:=w) (base:=base) T
 have G_Board_take:=vR (P:=P) (w:=w) (base:=base) T
 have G_Board_drill:=vi (P:=P) (w:=w) (base:=base) T
 have G_Board_plug:=Yw (P:=P) (w:=w) (base:=base) T
 have G_Board_is_copper:=vH (P:=P) (w:=w) (base:=base) T
 have G_Board_has_hole:=Vc (P:=P) (w:=w) (base:=base) T
 refine⟨_,fd,F.okX Jt (fun vs H Q E h=>?_) (fun cdv A outer s H vs Q E hr h=>?_),b,F.kp,T.nO⟩
 ·obtain⟨o,dx,c,d,ta,th,p,w,h,l,dr,cl,hl,rfl,_⟩:=h
  rfl
 ·obtain⟨o,dx,c,d,ta,th,p,w,h,l,dr,cl,hl,rfl,R,hp,q⟩:=h
  refine⟨_,(jj (pX (jx G_law_block hr.m jk (by rfl) (ja (pv 3) (ja (pv 4) jf))) (gY rfl (JH (jL (i:=5) Jt.nd rfl (Or.inl rfl)) (JH (jL (i:=6) Jt.nd rfl (Or.inl rfl)) (JH (jL (i:=7) Jt.nd rfl (Or.inl rfl)) (JH (jL (i:=8) Jt.nd rfl (Or.inl rfl)) (JH (jL (i:=9) Jt.nd rfl (Or.inl rfl)) yA)))))))
   (jj (jI (i:=10) Jt.nd rfl (Or.inl rfl) (jr JC (pv 3) jh))
   (jj (jI (i:=11) Jt.nd rfl (Or.inl rfl) (jr VF (jr JC (jr JB (pv 3) jh) jh) (UO bc (by rfl) T.fJ fi (ja (y8 U2 U2 jh (pv 10) jh) jf))))
   (jj (jI (i:=12) Jt.nd rfl (Or.inl rfl) (jx G_law_places hr.m jk (by rfl) (ja (pv 11) (ja (pv 5) (ja (pv 6) (ja (pv 7) (ja (pv 8) (ja (pv 9) jf))))))))
   (jj (jU (jH j9 (pv 10) jh (jy _)) (jj (jI (i:=13) Jt.nd rfl (Or.inl rfl) (UO K6 (by rfl) T.m7 K2 (ja (pv 12) jf)))
   (jj (jA (jz (pv 0) G_Board_put hr.m jk (ja (pv 13) jf)))
   (jj (jA (jz (pv 0) G_Board_put hr.m jk (ja (ug jf) jf)))
   (jm (jU (jH (zW hr.units) (pv 13) (pv 12) (jy _)) (jm (jF uj)) jP))))) (jm (jU (jH j9 (pv 10) jh (jy _)) (jj (jA (jz (pv 0) G_Board_take hr.m jk (ja (pv 12) jf)))
   (jm (jA (jz (pv 0) G_Board_take hr.m jk (ja (ug jf) jf))))) (jm (jU (uk (jH j9 (pv 10) jh (jy _)) (JT (jH j9 (pv 10) jh (jy _)))).pt (jm (jA (jx G_law_laid hr.m jk (by rfl) (ja (pv 0) (ja (pv 10) (ja (jx G_law_shape hr.m jk (by rfl) (ja (pv 11) (ja (pv 5) (ja (pv 6) (ja (pv 8) (ja (pv 9) jf)))))) (ja (pv 7) (ja (JP j9 (jr JC (jr JB (pv 3) jh) jh) jh (jy _)) jf)))))))) (jm (jU (jH j9 (pv 10) jh (jy _)) (jj (jA (jz (pv 0) G_Board_drill hr.m jk (ja (pv 5) (ja (pv 6) jf))))
   (jm (zX (UY hr) (pv 2) (jS (ja (pv 5) (ja (pv 6) jf))) uj rfl))) (jj (jA (jz (pv 0) G_Board_plug hr.m jk (ja (pv 5) (ja (pv 6) jf))))
   (jm (jA (vv PySem.F.plainAttrs_dict PySem.F.slot_dict_pop PySem.F.type_dict_pop (zV hr.units) (pv 2) (ja (jS (ja (pv 5) (ja (pv 6) jf))) (ja gX jf)))))))))))))
   (jj (JJ Jq (uK (pv 12)) (jL (i:=14) Jt.nd rfl (Or.inl rfl)) (jj (jU (uk (jH j9 (pv 10) jh (jy _)) (JT (jH j9 (pv 10) jh (jy _)))).pt (jm (zX (UY hr) (pv 1) (pv 14) uj rfl)) jP)
   (jm (jU (uk (jH j9 (pv 10) jh (jy _)) (JT (jH j9 (pv 10) jh (jy _)))).pt (jm (jA (vv PySem.F.plainAttrs_dict PySem.F.slot_dict_pop PySem.F.type_dict_pop (zV hr.units) (pv 1) (ja (pv 14) (ja gX jf))))) jP))))
   (jj (jU (jH gW (Z1 (pv 0) G_Board_is_copper hr.m jk (ja (pv 5) (ja (pv 6) jf))) (VH (VG (UY hr) (jS (ja (pv 5) (ja (pv 6) (ja jh jf)))) (pv 1))) (jy _)) (jm (jF uj)) jP)
   (jm (jF (uI (JP j9 (jz (pv 0) G_Board_is_copper.m hr.m jk (ja (pv 5) (ja (pv 6) (ja (pv 7) jf)))) (VH (VG (UY hr) (jS (ja (pv 5) (ja (pv 6) (ja (pv 7) jf)))) (pv 1))) (jy _)) (uJ (JP j9 (jz (pv 0) G_Board_has_hole hr.m jk (ja (pv 5) (ja (pv 6) jf))) (VH (VG (UY hr) (jS (ja (pv 5) (ja (pv 6) jf))) (pv 2))) (jy _))))))))))))),?_⟩
  obtain⟨n1,n2,n3,n4,n5⟩:(ta≠c)∧(ta≠d)∧(th≠c)∧(th≠d)∧(ta≠th):=⟨R.n1,R.n2,R.n3,R.n4,R.n5⟩
  have Cc:=R.C
  refine sM (fun (X Y Z wd hg:Nat)=>[oR o,oR ta,oR th,oI dr,oR p,oI X,oI Y,oI Z,oI wd,oI hg,none,none,none,none,none]) (fun X Y Z wd hg H'=>Z<l∧1≤wd∧1≤hg∧X+wd≤w∧Y+hg≤h∧jg H H') (fun B hB=>?_) ?_
  ·exact⟨_,rfl,_,rfl,dr,p,w,h,l,rfl,hp,Cc.sw.1,Cc.sh.1,Cc.sl.1,fun r X Y Z wd hg H' s' z1 w1 h1 xw yh er=>⟨r,_,rfl,jw.of er,rfl,_,_,rfl,_,_,rfl,_,_,rfl,_,_,rfl,_,_,rfl,rfl,hB X Y Z wd hg _ ⟨z1,w1,h1,xw,yh,s'⟩⟩⟩
  intro X Y Z wd hg H1 i
  have z1:=i.1;have w1:=i.2.1;have h1:=i.2.2.1;have xw:=i.2.2.2.1;have yh:=i.2.2.2.2.1;have s1:=i.2.2.2.2.2
  have w12:=Cc.sw.2
  have h12:=Cc.sh.2
  refine zJ (fun (de:Int)=>[oR o,oR ta,oR th,oI dr,oR p,oI X,oI Y,oI Z,oI wd,oI hg,oI de,none,none,none,none]) (fun de H'=>0≤de∧de<6∧jg H H') (fun B hB=>?_) ?_
  ·exact⟨_,rfl,dr,6,rfl,rfl,(by show (0:Int)<6;decide),hB (dr % 6) _ ⟨by omega,by omega,s1⟩⟩
  intro de H1 i
  have d0:=i.1;have d6:=i.2.1;have s1:=i.2.2
  refine zJ (fun (fm:Int)=>[oR o,oR ta,oR th,oI dr,oR p,oI X,oI Y,oI Z,oI wd,oI hg,oI de,oI fm,none,none,none]) (fun fm H'=>0≤fm∧fm<4∧(¬(de=2∨de=3)→fm=0)∧jg H H') (fun B hB=>?_) ?_
  ·refine⟨_,rfl,dr,373248,rfl,rfl,⟨by decide,by decide⟩,dr / 373248,4,rfl,rfl,(by show (0:Int)<4;decide),?_⟩
   have fin:∀k:Bool,(k=true→de=2∨de=3)→B { nx:=fun x H'=>Q V.non H',rt:=Q } [oR o,oR ta,oR th,oI dr,oR p,oI X,oI Y,oI Z,oI wd,oI hg,oI de,some (.int (dr / 373248 % 4*(if k=true then 1 else 0))),none,none,none] H1:=fun k hk=>by
    refine hB _ _ ?_
    cases k with
    | false=>rw [if_neg (by decide),Int.mul_zero];exact⟨by decide,by decide,fun _=>rfl,s1⟩
    | true=>rw [if_pos rfl,Int.mul_one];exact⟨by omega,by omega,fun z=>absurd (hk rfl) z,s1⟩
   have cm:∀k:Bool,NY (dr / 373248 % 4) (if k=true then 1 else 0):=fun k=>.inr (by cases k<;>exact⟨by decide,by decide⟩)
   refine⟨_,rfl,1,de,rfl,rfl,_,rfl,JE (fun g=>⟨de,4,rfl,rfl,.inr ⟨_,rfl,_,_,rfl,rfl,cm _,fin _ fun z=>?_⟩⟩) fun g=>.inr ⟨_,rfl,_,_,rfl,rfl,cm _,fin false fun z=>(by cases z)⟩⟩
   have:=of_decide_eq_true z
   omega
  intro fm H1 i
  have f0:=i.1;have f4:=i.2.1;have fz:=i.2.2.1;have s1:=i.2.2.2
  refine cF (fun (Dl:Addr) (ps:tD) (c2:tf)=>[oR o,oR ta,oR th,oI dr,oR p,oI X,oI Y,oI Z,oI wd,oI hg,oI de,oI fm,oR Dl,none,none]) (fun Dl ps c2 H'=>Dd t.jl H H' o dx c d ta th w h l cl hl cl hl Dl ps c2∧c2.Nodup∧c2.length≤144∧∀a,a∈c2↔Vu fm X Y wd hg (a.1,a.2.1)∧a.2.2=Z) (fun B hB=>?_) ?_
  ·exact⟨_,rfl,_,rfl,_,rfl,_,rfl,_,rfl,_,rfl,fm,X,Y,Z,wd,hg,rfl,f0,f4,w1,h1,by omega,by omega,fun Dl ps c2 H2 s2 hD eD C2 nd l2 mem=>hB Dl ps c2 _ ⟨⟨fun b u _ _ _ _ e=>jg.trans s1 s2 _ _ e,R.B.same (jg.trans s1 s2),R.T.same (jg.trans s1 s2),R.U.same (jg.trans s1 s2),eD,C2⟩,nd,l2,mem⟩⟩
  intro Dl ps c2 H1 i
  have D1:=i.1;have nd2:=i.2.1;have l2:=i.2.2.1;have mem2:=i.2.2.2
  have on2:c2.all (Uo w h l)=true:=List.all_eq_true.mpr fun a ha=>by
   have hb:=((mem2 a).mp ha).1.1
   have hz:=((mem2 a).mp ha).2
   unfold YR at hb
   dsimp only at hb
   exact UN.mpr ⟨⟨by omega,by omega⟩,⟨by omega,by omega⟩,by omega,by omega⟩
  have onXY:(inB (X:Int) (w:Int)&&inB (Y:Int) (h:Int))=true:=uT (p:=((X:Int),(Y:Int))).mpr ⟨⟨by dsimp only;omega,by dsimp only;omega⟩,by dsimp only;omega,by dsimp only;omega⟩
  refine zJ (fun (v13:Option V)=>[oR o,oR ta,oR th,oI dr,oR p,oI X,oI Y,oI Z,oI wd,oI hg,oI de,oI fm,oR Dl,v13,none]) (fun v13 H'=>Dd t.jl H H' o dx c d ta th w h l (Uc de cl c2) (vZ de hl (X,Y)) cl (vZ de hl (X,Y)) Dl ps c2) (fun B hB=>?_) ?_
  ·refine uH D1.bx.ec fun cs ec vc pc=>?_
   refine uH D1.bx.ed fun ds ed vd pd=>?_
   refine uH D1.tu fun us eu vu pu=>?_
   have lcs:cs.length≤450:=by rw [UF pc];exact Cc.lc
   have lds:ds.length≤150:=by rw [UF pd];exact Cc.lh
   have lus:us.length≤150:=by rw [UF pu];exact Cc.lh
   have lput:=Ye c2 cs
   refine uu (de=0) (fun N hN=>⟨_,rfl,rfl,_,rfl,hN _ (by rw [decide_eq_true_eq];exact⟨fun z=>V.int.inj z,fun z=>by rw [z]⟩)⟩) (fun g0=>?_) fun g0=>?_
   ·subst g0
    refine⟨_,rfl,Dl,_,rfl,.inl (jD.of D1.el),fun l' hl'=>?_⟩
    refine UE ?_
    dsimp only
    have s2:=jn (o:=.lst (ps.map V.ref)) (jg.refl H1) hl'
    have D2:=D1.same s2
    have e2:upd H1 l' (.lst (ps.map V.ref)) l'=some (.lst (ps.map V.ref)):=je
    have ec2:=s2 _ _ ec
    generalize upd H1 l' (.lst (ps.map V.ref))=H2 at s2 D2 e2 ec2
    refine jT D2.bx.eo ⟨_,rfl,o,dx,c,d,l',ps,c2,w,h,l,cs,rfl,D2.bx.eo,e2,D2.cs,ec2,by omega,fun _=>?_,fun z=>absurd on2 (by rw [z];decide)⟩
    have D3:=D2.cop n1 n3 (U3 (m:=c2) vc) (uZ (m:=c2) pc)
    have e3:upd H2 c (.dT (j7 cs c2)) l'=some (.lst (ps.map V.ref)):=by rw [ji (jX e2 ec2 (fun z=>nomatch z))];exact e2
    have ec3:upd H2 c (.dT (j7 cs c2)) c=some (.dT (j7 cs c2)):=je
    generalize upd H2 c (.dT (j7 cs c2))=H3 at D3 e3 ec3
    refine jT D3.bx.eo ⟨MF,fun l4 hl4=>?_⟩
    have s4:=jn (o:=.lst []) (jg.refl H3) hl4
    have D4:=D3.same s4
    have e4:=s4 _ _ e3
    have ec4:=s4 _ _ ec3
    have f4:upd H3 l4 (.lst []) l4=some (.lst []):=je
    generalize upd H3 l4 (.lst [])=H4 at s4 D4 e4 ec4 f4
    refine⟨o,dx,c,d,l4,[],[],w,h,l,j7 cs c2,rfl,D4.bx.eo,f4,jV.nil,ec4,by show _+0≤1000;omega,fun _=>?_,fun z=>(by cases z)⟩
    have D5:=D4.cop (cs':=j7 (j7 cs c2) []) n1 n3 (U3 (m:=c2) vc) (uZ (m:=c2) pc)
    have e5:upd H4 c (.dT (j7 (j7 cs c2) [])) l'=some (.lst (ps.map V.ref)):=by rw [ji (jX e4 ec4 (fun z=>nomatch z))];exact e4
    generalize upd H4 c (.dT (j7 (j7 cs c2) []))=H5 at D5 e5
    exact⟨_,rfl,_,rfl,l',Dl,ps,ps,_,_,rfl,rfl,jD.of e5,jD.of D5.el,US D5.cs.keys zQ,US D5.cs.keys zQ,_,rfl,zR rfl (hB _ _ D5)⟩
   refine uu (de=1) (fun N hN=>⟨_,rfl,rfl,_,rfl,hN _ (by rw [decide_eq_true_eq];exact⟨fun z=>V.int.inj z,fun z=>by rw [z]⟩)⟩) (fun g1=>?_) fun g1=>?_
   ·subst g1
    refine jT D1.bx.eo ⟨_,rfl,o,dx,c,d,Dl,ps,c2,w,h,l,cs,rfl,D1.bx.eo,D1.el,D1.cs,ec,on2,?_⟩
    have D3:=D1.cop n1 n3 (Uv (m:=c2) vc) (Ud (m:=c2) pc)
    have ec3:upd H1 c (.dT (JA cs c2)) c=some (.dT (JA cs c2)):=je
    generalize upd H1 c (.dT (JA cs c2))=H3 at D3 ec3
    refine jT D3.bx.eo ⟨MF,fun l4 hl4=>?_⟩
    have s4:=jn (o:=.lst []) (jg.refl H3) hl4
    have D4:=D3.same s4
    have ec4:=s4 _ _ ec3
    have f4:upd H3 l4 (.lst []) l4=some (.lst []):=je
    generalize upd H3 l4 (.lst [])=H4 at s4 D4 ec4 f4
    refine⟨o,dx,c,d,l4,[],[],w,h,l,JA cs c2,rfl,D4.bx.eo,f4,jV.nil,ec4,rfl,?_⟩
    exact hB _ _ (D4.cop (cs':=JA (JA cs c2) []) n1 n3 (Uv (m:=c2) vc) (Ud (m:=c2) pc))
   refine uu (de=2∨de=3) (fun N hN=>⟨_,rfl,rfl,_,rfl,JE (fun z=>hN true ⟨fun _=>.inl (V.int.inj z),fun _=>rfl⟩) fun z=>⟨_,rfl,rfl,_,rfl,hN _ (by rw [decide_eq_true_eq];exact⟨fun z=>.inr (V.int.inj z),fun y=>y.elim (fun y=>absurd (congrArg V.int y) z) fun y=>by rw [y]⟩)⟩⟩) (fun g2=>?_) fun g2=>?_
   ·have cl2:Uc de cl c2=if de=2 then uF cl c2 else uG cl c2:=by
     unfold Uc
     rcases g2 with rfl|rfl<;>rfl
    have hl2:vZ de hl ((X:Int),(Y:Int))=hl:=by
     unfold vZ
     rcases g2 with rfl|rfl<;>rfl
    refine⟨_,rfl,_,rfl,_,rfl,_,rfl,_,rfl,_,rfl,_,rfl,fm,X,Y,wd,hg,rfl,f0,f4,w1,h1,by omega,by omega,fun r wd' hg' In H2 s2 a1 a2 a3 a4 shp inn=>⟨_,rfl,_,rfl,dr,5,rfl,rfl,⟨by decide,by decide⟩,dr / 5,2,rfl,rfl,(by show (0:Int)<2;decide),rfl,?_⟩⟩
    have D2:=D1.same s2
    refine⟨o,dx,c,d,r,w,h,l,wd',hg',X,Y,de,Z,_,In,cs,rfl,g2,D2.bx.eo,shp,a1,a3,by omega,by omega,by omega,by omega,w12,h12,by omega,by omega,s2 _ _ ec,by omega,fun pl H3 s3 nd mem=>hB _ _ ?_⟩
    have m3:∀a,a∈zl (Z:Int) pl↔a∈c2:=fun a=>by
     rw [mem2 a,←inn (a.1,a.2.1),←mem (a.1,a.2.1)]
     unfold zl
     rw [List.mem_map]
     constructor
     ·rintro⟨q',hq',rfl⟩
      exact⟨hq',rfl⟩
     ·rintro⟨h1,h2⟩
      exact⟨_,h1,Prod.ext rfl (Prod.ext rfl h2.symm)⟩
    rw [hl2,cl2]
    have D3:=D2.same s3
    rcases g2 with rfl|rfl
    ·exact D3.cop n1 n3 (U3 vc) ((uZ pc).trans ((nH Cc.nc m3).map k3))
    ·exact D3.cop n1 n3 (Uv vc) ((Ud pc).trans ((nM Cc.nc m3).map k3))
   refine uu (de=4) (fun N hN=>⟨_,rfl,rfl,_,rfl,hN _ (by rw [decide_eq_true_eq];exact⟨fun z=>V.int.inj z,fun z=>by rw [z]⟩)⟩) (fun g3=>?_) fun g3=>?_
   ·subst g3
    refine jT D1.bx.eo ⟨_,rfl,_,rfl,o,dx,c,d,w,h,l,X,Y,ds,rfl,D1.bx.eo,ed,by omega,fun _ q1 hq1=>?_,fun z=>absurd onXY (by rw [z];decide)⟩
    have s2:=jn (o:=.tup [.int (X:Int),.int (Y:Int)]) (jg.refl H1) hq1
    have D2:Dd t.jl H (upd (upd H1 q1 (.tup [.int (X:Int),.int (Y:Int)])) d (.dT (Je ds [.inl (X:Int),.inl (Y:Int)] (.bl true)))) o dx c d ta th w h l _ _ _ _ Dl ps c2:=(D1.same s2).dri n2 n4 (vo (k:=k2 ((X:Int),(Y:Int))) vd) (VI (fun _ _=>uA) (a:=((X:Int),(Y:Int))) pd)
    have eu2:upd (upd H1 q1 (.tup [.int (X:Int),.int (Y:Int)])) d (.dT (Je ds [.inl (X:Int),.inl (Y:Int)] (.bl true))) th=some (.dT us):=by rw [ji n4];exact s2 _ _ eu
    generalize upd (upd H1 q1 (.tup [.int (X:Int),.int (Y:Int)])) d (.dT (Je ds [.inl (X:Int),.inl (Y:Int)] (.bl true)))=H2 at D2 eu2
    refine⟨_,rfl,_,rfl,_,rfl,UQ,fun q2 hq2=>?_⟩
    have s3:=jn (o:=.tup [.int (X:Int),.int (Y:Int)]) (jg.refl H2) hq2
    exact⟨th,_,rfl,YN.t (k:=k2 ((X:Int),(Y:Int))) (s3 _ _ eu2) je (Nat.lt_of_le_of_lt lus (by decide)),hB _ _ ((D2.same s3).hol n3 n4 n5 (vo (k:=k2 ((X:Int),(Y:Int))) vu) (VI (fun _ _=>uA) (a:=((X:Int),(Y:Int))) pu))⟩
   ·obtain rfl:de=5:=by omega
    refine jT D1.bx.eo ⟨_,rfl,_,rfl,o,dx,c,d,w,h,l,X,Y,ds,rfl,D1.bx.eo,onXY,ed,fun q1 hq1=>?_⟩
    have s2:=jn (o:=.tup [.int (X:Int),.int (Y:Int)]) (jg.refl H1) hq1
    have D2:Dd t.jl H (upd (upd H1 q1 (.tup [.int (X:Int),.int (Y:Int)])) d (.dT (uS ds [.inl (X:Int),.inl (Y:Int)]))) o dx c d ta th w h l _ _ _ _ Dl ps c2:=(D1.same s2).dri n2 n4 (vB (k:=k2 ((X:Int),(Y:Int))) vd) (vA (fun _ _=>uA) (a:=((X:Int),(Y:Int))) pd)
    have eu2:upd (upd H1 q1 (.tup [.int (X:Int),.int (Y:Int)])) d (.dT (uS ds [.inl (X:Int),.inl (Y:Int)])) th=some (.dT us):=by rw [ji n4];exact s2 _ _ eu
    generalize upd (upd H1 q1 (.tup [.int (X:Int),.int (Y:Int)])) d (.dT (uS ds [.inl (X:Int),.inl (Y:Int)]))=H2 at D2 eu2
    refine⟨_,rfl,.inr (.inr (.inl ⟨rfl,.inr ⟨_,eu2⟩⟩)),_,rfl,_,rfl,UQ,fun q2 hq2=>?_⟩
    have s3:=jn (o:=.tup [.int (X:Int),.int (Y:Int)]) (jg.refl H2) hq2
    exact⟨th,q2,us,k2 ((X:Int),(Y:Int)),rfl,rfl,s3 _ _ eu2,je,fun v=>hB _ _ ((D2.same s3).hol n3 n4 n5 (vB (k:=k2 ((X:Int),(Y:Int))) vu) (vA (fun _ _=>uA) (a:=((X:Int),(Y:Int))) pu))⟩
  intro v13 H1 D1
  refine zJ (fun (v14:Option V)=>[oR o,oR ta,oR th,oI dr,oR p,oI X,oI Y,oI Z,oI wd,oI hg,oI de,oI fm,oR Dl,v13,v14]) (fun v14 H'=>Dd t.jl H H' o dx c d ta th w h l (Uc de cl c2) (vZ de hl (X,Y)) (Uc de cl c2) (vZ de hl (X,Y)) Dl ps c2) (fun B hB=>?_) ?_
  ·have cl0:Uc de cl []=cl:=by
    unfold Uc uF uG
    split
    ·rfl
    ·split<;>rfl
   refine yU fun X0 k0=>⟨_,rfl,Dl,rfl,⟨_,jD.of D1.el⟩,k0 _ _ (Ue (xs:=ps.map V.ref) (fun i σ H'=>∃v14:Option V,σ=[oR o,oR ta,oR th,oI dr,oR p,oI X,oI Y,oI Z,oI wd,oI hg,oI de,oI fm,oR Dl,v13,v14]∧Dd t.jl H H' o dx c d ta th w h l (Uc de cl c2) (vZ de hl (X,Y)) (Uc de cl (c2.take i)) (vZ de hl (X,Y)) Dl ps c2) ⟨_,rfl,by rw [List.take_zero,cl0];exact D1⟩ (fun i σ H' _ h=>by obtain⟨_,_,D⟩:=h;exact jD.of D.el) ?_ ?_)⟩
   ·rintro i v σ H2 hx ⟨v14,rfl,D2⟩
    rw [List.getElem?_map] at hx
    obtain⟨pp,e1,rfl⟩:=Option.map_eq_some_iff.mp hx
    have hi:i<c2.length:=by rw [←D2.cs.1];exact (List.getElem?_eq_some_iff.mp e1).1
    have e2:=List.getElem?_eq_getElem hi
    have e3:=D2.cs.2 i pp _ e1 e2
    have tk:c2.take (i+1)=c2.take i++[c2[i]]:=by rw [List.take_succ,e2];rfl
    rw [tk]
    generalize c2[i]=a at e3
    refine uH D2.tt fun ts et vt pt=>?_
    have lts:ts.length≤800:=by
     rw [UF pt]
     have h1:=oK (w:=w) (h:=h) (l:=l) w12 h12 Cc.sl.2 (bi (de:=de) (c2:=c2.take i) Cc.nc) fun x hx=>by
      rcases Nk hx with z|z
      ·exact Cc.ic x z
      ·exact List.all_eq_true.mp on2 x (List.mem_of_mem_take z)
     omega
    refine ZL ([oR o,oR ta,oR th,oI dr,oR p,oI X,oI Y,oI Z,oI wd,oI hg,oI de,oI fm,oR Dl,v13,oR pp]) (fun H'=>Dd t.jl H H' o dx c d ta th w h l (Uc de cl c2) (vZ de hl (X,Y)) (if de=0∨de=2 then Uc de cl (c2.take i++[a]) else Uc de cl (c2.take i)) (vZ de hl (X,Y)) Dl ps c2∧H' pp=some (.tup [.int a.1,.int a.2.1,.int a.2.2])) (fun B hB=>?_) ?_
    ·refine uu (de=0∨de=2) (fun N hN=>⟨_,rfl,rfl,_,rfl,JE (fun z=>hN true ⟨fun _=>.inl (V.int.inj z),fun _=>rfl⟩) fun z=>⟨_,rfl,rfl,_,rfl,hN _ (by rw [decide_eq_true_eq];exact⟨fun z=>.inr (V.int.inj z),fun y=>y.elim (fun y=>absurd (congrArg V.int y) z) fun y=>by rw [y]⟩)⟩⟩) (fun g=>?_) fun g=>?_
     ·refine⟨_,rfl,_,rfl,ta,_,rfl,YN.t (k:=k3 a) et e3 (Nat.lt_of_le_of_lt lts (by decide)),hB _ ⟨?_,by rw [ji (jX e3 et (fun z=>nomatch z))];exact e3⟩⟩
      rw [if_pos g]
      unfold Uc at pt ⊢
      rw [if_pos g] at pt ⊢
      rw [if_pos g]
      rw [nJ]
      have:=D2.tab n1 n2 n5 (vo (k:=k3 a) vt) (VI (fun _ _=>Uf) (a:=a) pt)
      unfold Uc at this
      rw [if_pos g] at this
      exact this
     ·exact hB _ ⟨by rw [if_neg g];exact D2,e3⟩
    intro H3 i
    have D3:=i.1;have e4:=i.2
    refine uu (de=1∨de=3) (fun N hN=>⟨_,rfl,rfl,_,rfl,JE (fun z=>hN true ⟨fun _=>.inl (V.int.inj z),fun _=>rfl⟩) fun z=>⟨_,rfl,rfl,_,rfl,hN _ (by rw [decide_eq_true_eq];exact⟨fun z=>.inr (V.int.inj z),fun y=>y.elim (fun y=>absurd (congrArg V.int y) z) fun y=>by rw [y]⟩)⟩⟩) (fun g=>?_) fun g=>?_
    ·have g':¬(de=0∨de=2):=by omega
     rw [if_neg g'] at D3
     refine uH D3.tt fun ts3 et3 vt3 pt3=>?_
     refine⟨_,rfl,.inr (.inr (.inl ⟨rfl,.inr ⟨_,et3⟩⟩)),_,rfl,ta,pp,ts3,k3 a,rfl,rfl,et3,e4,fun v=>⟨_,rfl,?_⟩⟩
     unfold Uc at pt3
     rw [if_neg g',if_pos g] at pt3
     have:=D3.tab n1 n2 n5 (vB (k:=k3 a) vt3) (vA (fun _ _=>Uf) (a:=a) pt3)
     rw [←nN] at this
     unfold Uc at this ⊢
     rw [if_neg g',if_pos g] at this ⊢
     rw [if_neg g',if_pos g]
     exact this
    ·refine⟨_,rfl,?_⟩
     split at D3
     ·exact D3
     ·rename_i g'
      unfold Uc at D3 ⊢
      rw [if_neg g',if_neg g] at D3 ⊢
      rw [if_neg g',if_neg g]
      rw [if_neg g',if_neg g] at D3
      exact D3
   ·rintro σ H2 ⟨v14,rfl,D2⟩
    rw [List.length_map,D2.cs.1,List.take_length] at D2
    exact hB _ _ D2
  intro v14 H1 D1
  have Cn:Ct w h l (Uc de cl c2) (vZ de hl ((X:Int),(Y:Int))):=Ct.mk' Cc.sw Cc.sh Cc.sl (bi Cc.nc) (oW Cc.nh) (fun x hx=>by
   rcases Nk hx with z|z
   ·exact Cc.ic x z
   ·exact List.all_eq_true.mp on2 x z) fun x hx=>by
   rcases iK hx with z|rfl
   ·exact Cc.ih x z
   ·exact onXY
  generalize Uc de cl c2=cl' at D1 Cn
  generalize vZ de hl ((X:Int),(Y:Int))=hl' at D1 Cn
  have fin:∀H',jg H1 H'→Q (.bl true) H':=fun H' s'=>q cl' hl' H' (D1.same s').off ⟨(D1.same s').bx,(D1.same s').tt,(D1.same s').tu,Cn,n1,n2,n3,n4,n5⟩
  refine uH D1.bx.ec fun cs ec _ pc=>?_
  refine uH D1.bx.ed fun ds ed _ pd=>?_
  refine uH D1.tt fun ts et _ pt=>?_
  refine uH D1.tu fun us eu _ pu=>?_
  have eo:=D1.bx.eo
  refine ZL ([oR o,oR ta,oR th,oI dr,oR p,oI X,oI Y,oI Z,oI wd,oI hg,oI de,oI fm,oR Dl,v13,v14]) (fun H'=>jg H1 H') (fun B hB=>?_) ?_
  ·refine jT eo ⟨_,rfl,_,rfl,o,dx,c,d,w,h,l,X,Y,0,cs,rfl,eo,ec,fun H2 s2=>⟨_,rfl,_,rfl,vL,fun q1 hq1=>?_⟩⟩
   have s3:=jn (o:=.tup [.int (X:Int),.int (Y:Int),.int 0]) (jg.refl H2) hq1
   refine⟨_,rfl,ta,_,rfl,Vr.t (k:=[.inl (X:Int),.inl (Y:Int),.inl 0]) (s3 _ _ (s2 _ _ et)) je,rfl,_,rfl,zR ?_ (hB _ (jg.trans s2 s3))⟩
   rw [md Cn pc pt]
  intro H2 s2
  refine jT (s2 _ _ eo) ⟨_,rfl,_,rfl,_,rfl,o,dx,c,d,w,h,l,X,Y,Z,cs,rfl,s2 _ _ eo,s2 _ _ ec,fun H3 s3=>⟨_,rfl,_,rfl,_,rfl,vL,fun q1 hq1=>?_⟩⟩
  have s4:=jn (o:=.tup [.int (X:Int),.int (Y:Int),.int (Z:Int)]) (jg.trans s2 s3) hq1
  refine⟨_,rfl,ta,_,rfl,Vr.t (k:=[.inl (X:Int),.inl (Y:Int),.inl (Z:Int)]) (s4 _ _ et) je,rfl,_,rfl,qU (by rw [md Cn pc pt,decide_eq_true rfl]) ?_⟩
  refine jT (s4 _ _ eo) ⟨_,rfl,_,rfl,o,dx,c,d,w,h,l,X,Y,ds,rfl,s4 _ _ eo,s4 _ _ ed,fun H5 s5=>⟨_,rfl,_,rfl,UQ,fun q2 hq2=>?_⟩⟩
  have s6:=jn (o:=.tup [.int (X:Int),.int (Y:Int)]) (jg.trans s4 s5) hq2
  refine⟨_,rfl,th,_,rfl,Vr.t (k:=[.inl (X:Int),.inl (Y:Int)]) (s6 _ _ eu) je,rfl,?_⟩
  rw [bN Cn pd pu,decide_eq_true rfl]
  exact fin _ s6
end
end K11
namespace K11
open PySem L2 Wd TS STb
section
variable {P:tM}{w:World}{K:sZ}{mg:tj}{base:Heap}{t:Adr}
def Uy (K:sZ) (t:Adr):Sp:=fun vs H Q _=>∃(o dx c d ta th p:Addr) (w h l:Nat) (cl:tf) (hl:ti),vs=[.ref o,.ref ta,.ref th,.ref p]∧Pr t.jl H o dx c d ta th w h l cl hl∧H p=some (.tup [.int w,.int h,.int l])∧∀H',jg H H'→Q (.bl true) H'
theorem Uy.mk {K:sZ}{t:Adr}{H:Hp}{Q:VK}{E:XK}{o dx c d ta th p:Addr}{w h l:Nat}{cl:tf}{hl:ti} (r:Pr t.jl H o dx c d ta th w h l cl hl) (e:H p=some (.tup [.int w,.int h,.int l])) (q:∀H',jg H H'→Q (.bl true) H'):Uy K t [.ref o,.ref ta,.ref th,.ref p] H Q E:=⟨o,dx,c,d,ta,th,p,w,h,l,cl,hl,rfl,r,e,q⟩
theorem n6 {wd0:World} (T:Txt K mg t):uy P wd0 K mg base 5 "_law_same" ["_law_board","_law_table","_law_holes","_law_size"] (Uy K t):=by
 obtain⟨fd,F,b⟩:=T.N4
 have G_law_is:=kn (P:=P) (w:=wd0) (base:=base) T
 have G_Board_cells:=yv (P:=P) (w:=wd0) (base:=base) T
 have G_Board_holes:=yw (P:=P) (w:=wd0) (base:=base) T
 have G_Board_is_copper:=vH (P:=P) (w:=wd0) (base:=base) T
 have G_Board_has_hole:=Vc (P:=P) (w:=wd0) (base:=base) T
 refine⟨_,fd,F.okX JZ (fun vs H Q E h=>?_) (fun cdv A outer s H vs Q E hr h=>?_),b,F.kp,T.nQ⟩
 ·obtain⟨o,dx,c,d,ta,th,p,w,h,l,cl,hl,rfl,_⟩:=h
  rfl
 ·obtain⟨o,dx,c,d,ta,th,p,w,h,l,cl,hl,rfl,R,hp,q⟩:=h
  refine uH R.B.ec fun cs ec vc pc=>?_
  refine uH R.B.ed fun ds ed vd pd=>?_
  refine uH R.T fun ts et vt pt=>?_
  refine uH R.U fun us eu vu pu=>?_
  refine⟨_,(jj (JJ Jq (zr rfl T.Ui (ja jh jf)) (jL (i:=4) JZ.nd rfl (Or.inl rfl)) (jj (jI (i:=5) JZ.nd rfl (Or.inl rfl) (uO (fG G_Board_cells hr.m jk) (pv 0)))
   (jj (jI (i:=6) JZ.nd rfl (Or.inl rfl) (uO (vq G_Board_holes hr.m jk) (pv 0)))
   (jj (jU (uk (Jg (Jc (jO UD (by rfl) T.uf uc (ja (pv 5) (ja (vj (v:=.ty "list") (by rfl) T.m7 K2 rfl) jf))))) (uk (jH (zW hr.units) (pv 5) (jO (UX rfl) (by rfl) T.UG UC (ja (pv 1) jf)) (jy _)) (JT (jH (zW hr.units) (pv 6) (jO (UX rfl) (by rfl) T.UG UC (ja (pv 2) jf)) (jy _))))).pt (jm (jF uj)) jP)
   (jj (jA (vv PySem.F.plainAttrs_list PySem.F.slot_list_append PySem.F.type_list_append vF (pv 5) (ja (jS (ja jh (ja jh (ja jh jf)))) jf)))
   (jm (jA (pQ PySem.F.plainAttrs_list PySem.F.slot_list_clear PySem.F.type_list_clear dE (pv 6)))))))))
   (jj (JJ Jq (V3 rfl T.Ui (ja (jr jQ jh jh) (ja (jr jZ (jN jG (pv 3) jh (fun _ _=>rfl)) jh) jf))) (jL (i:=7) JZ.nd rfl (Or.inr rfl)) (jm (jU (jH (zW hr.units) (jz (pv 0) G_Board_cells.m hr.m jk (ja (pv 7) jf)) (jO Y3 (by rfl) T.UG UC (ja (NN (vk (own:=["_law_cell"]) (Vx (n:="_law_z") (N:=["_law_board","_law_table","_law_holes","_law_size","_law_turn","_law_found","_law_some","_law_z","_law_x","_law_y"]) rfl (by rfl) (by rfl) rfl (by rfl) (by decide +kernel) (by decide +kernel) (by decide +kernel)) (Mv rfl (pv 1)) (fun _ _ _ _ _=>jL (i:=10) (by show (["_law_board","_law_table","_law_holes","_law_size","_law_turn","_law_found","_law_some","_law_z","_law_x","_law_y","_law_cell"]:tH).Nodup;decide +kernel) rfl (Or.inl rfl)) (fun _ _ _ _ _=>Mu (jH j9 (jN (zS (K:=K) rfl) (pv 10) jh (fun _ _=>rfl)) (pv 7) (jy _))) (fun _ _ _ _ _=>(pv 10)))) jf)) (jy _)) (jm (jF uj)) jP)))
   (jj (JJ Jq (V3 rfl T.Ui (ja (jr jQ jh jh) (ja (jr jZ (jN jG (pv 3) jh (fun _ _=>rfl)) jh) jf))) (jL (i:=8) JZ.nd rfl (Or.inl rfl)) (jm (JJ Jq (V3 rfl T.Ui (ja (jr jQ jh jh) (ja (jr jZ (jN jG (pv 3) jh (fun _ _=>rfl)) jh) jf))) (jL (i:=9) JZ.nd rfl (Or.inl rfl)) (jj (jU (Jg (Jc (jx G_law_is hr.m jk (by rfl) (ja (jz (pv 0) G_Board_has_hole hr.m jk (ja (pv 8) (ja (pv 9) jf))) (ja (VH (VG (UY hr) (jS (ja (pv 8) (ja (pv 9) jf))) (pv 2))) jf))))) (jm (jF uj)) jP)
   (jm (JJ Jq (V3 rfl T.Ui (ja (jr jQ jh jh) (ja (jr jZ (jN jG (pv 3) jh (fun _ _=>rfl)) jh) jf))) (jL (i:=7) JZ.nd rfl (Or.inr rfl)) (jm (jU (Jg (Jc (jx G_law_is hr.m jk (by rfl) (ja (jz (pv 0) G_Board_is_copper.m hr.m jk (ja (pv 8) (ja (pv 9) (ja (pv 7) jf)))) (ja (VH (VG (UY hr) (jS (ja (pv 8) (ja (pv 9) (ja (pv 7) jf)))) (pv 1))) jf))))) (jm (jF uj)) jP))))))))
   (jm (jF (JP (pK hr.units0) (jS (ja (jv (pv 0) rfl) (ja (jv (pv 0) rfl) (ja (jv (pv 0) rfl) jf)))) (pv 3) (jy _))))))),?_⟩
  dsimp only [Y5,yS]
  have eo:=R.B.eo
  have Cn:=R.C
  have k3s:∀{ts:j4},(ts.map (·.1)).Perm (cl.map k3)→∀kv∈ts,∃a∈cl,kv.1=k3 a:=fun {ts} pt kv hkv=>by
   obtain⟨a,ha,e⟩:=List.mem_map.mp (pt.mem_iff.mp (List.mem_map_of_mem hkv))
   exact⟨a,ha,e.symm⟩
  have sdC:∀{ts:j4},(ts.map (·.1)).Perm (cl.map k3)→∀kv∈ts,sd kv.1=[true,true,true]:=fun {ts} pt kv hkv=>by
   obtain⟨a,_,e⟩:=k3s pt kv hkv
   rw [e];rfl
  have sdH:∀{us:j4},(us.map (·.1)).Perm (hl.map k2)→∀kv∈us,sd kv.1=[true,true]:=fun {us} pu kv hkv=>rE _ (pu.mem_iff.mp (List.mem_map_of_mem hkv))
  refine sN (fun v4 v5 v6 v7 v8 v9:Option V=>[oR o,oR ta,oR th,oR p,v4,v5,v6,v7,v8,v9]) (fun _ _ _ _ _ _ H'=>jg H H') (fun B hB=>?_) ?_
  ·refine yU fun X0 k0=>⟨2,rfl,by decide,by decide,k0 _ _ (uN (fun i σ H'=>∃v4 v5 v6 v7 v8 v9:Option V,σ=[oR o,oR ta,oR th,oR p,v4,v5,v6,v7,v8,v9]∧jg H H') ⟨_,_,_,_,_,_,rfl,jg.refl H⟩ ?_ ?_)⟩
   ·rintro i σ H2 hi ⟨v4,v5,v6,v7,v8,v9,rfl,s2⟩
    refine NV (fun (v4:Option V) (f:Addr) (bs:tD) (ks:List (List Key))=>[oR o,oR ta,oR th,oR p,v4,oR f,v6,v7,v8,v9]) (fun v4 f bs ks H'=>jg H H'∧H f=none∧H' f=some (.lst (bs.map V.ref))∧jM H' bs ks∧ks.Perm (cl.map k3)∧(ks.Pairwise fun a b=>lx b a=false)) (fun B hB=>?_) ?_
    ·exact⟨_,rfl,o,dx,_,rfl,s2 _ _ eo,rfl,.inl ⟨o,dx,c,d,w,h,l,cs,rfl,s2 _ _ eo,s2 _ _ ec,sdC pc,fun f bs ks hf ka pm up=>hB _ f bs ks _ ⟨jn s2 hf,none_of s2 hf,je,jM.same ka (jn (jg.refl _) hf),pm.trans pc,up⟩⟩⟩
    intro v4 f bs ks H2 i
    have s2:=i.1;have hf:=i.2.1;have ef:=i.2.2.1;have ka:=i.2.2.2.1;have pm:=i.2.2.2.2.1;have up:=i.2.2.2.2.2
    refine cF (fun (g:Addr) (bs2:tD) (ks2:List (List Key))=>[oR o,oR ta,oR th,oR p,v4,oR f,oR g,v7,v8,v9]) (fun g bs2 ks2 H'=>jg H H'∧H g=none∧f≠g∧H' f=some (.lst (bs.map V.ref))∧jM H' bs ks∧H' g=some (.lst (bs2.map V.ref))∧jM H' bs2 ks2∧ks2.Perm (hl.map k2)∧(ks2.Pairwise fun a b=>lx b a=false)) (fun B hB=>?_) ?_
    ·exact⟨_,rfl,o,dx,_,rfl,s2 _ _ eo,rfl,o,dx,c,d,w,h,l,ds,rfl,s2 _ _ eo,s2 _ _ ed,sdH pd,fun g bs2 ks2 hg ka2 pm2 up2=>hB g bs2 ks2 _ ⟨jn s2 hg,none_of s2 hg,jq ef hg,(jn (jg.refl _) hg) _ _ ef,jM.same ka (jn (jg.refl _) hg),je,jM.same ka2 (jn (jg.refl _) hg),pm2.trans pd,up2⟩⟩
    intro g bs2 ks2 H2 i
    have s2:=i.1;have hg:=i.2.1;have nfg:=i.2.2.1;have ef:=i.2.2.2.1;have ka:=i.2.2.2.2.1;have eg:=i.2.2.2.2.2.1;have ka2:=i.2.2.2.2.2.2.1;have pm2:=i.2.2.2.2.2.2.2.1;have up2:=i.2.2.2.2.2.2.2.2
    refine ZL ([oR o,oR ta,oR th,oR p,v4,oR f,oR g,v7,v8,v9]) (fun H'=>jg H H'∧H' f=some (.lst (bs.map V.ref))∧H' g=some (.lst (bs2.map V.ref))) (fun B hB=>?_) ?_
    ·refine⟨_,rfl,.ref f,.ty "list",_,_,true,rfl,.lst ef,.ty _,by kernel_rfl,true,rfl,Jx ⟨_,rfl,_,rfl,ta,ts,[true,true,true],rfl,s2 _ _ et,sdC pt,(fun z=>by cases z),fun l1 bs1 ks1 hl1 ka1 pm1 up1=>?_⟩⟩
     obtain rfl:ks=ks1:=V8 (pm.trans (pm1.trans pt).symm) up up1
     have s3:=jn (o:=.lst (bs1.map V.ref)) (jg.refl H2) hl1
     have e3:upd H2 l1 (.lst (bs1.map V.ref)) l1=some (.lst (bs1.map V.ref)):=je
     have ka3:=jM.same ka1 s3
     generalize upd H2 l1 (.lst (bs1.map V.ref))=H3 at s3 e3 ka3
     refine⟨f,l1,bs,bs1,_,_,rfl,rfl,jD.of (s3 _ _ ef),jD.of e3,US (jM.same ka s3) (V0 pm zQ),US ka3 (V0 pm zQ),_,rfl,zR rfl ⟨_,rfl,_,rfl,th,us,[true,true],rfl,s3 _ _ (s2 _ _ eu),sdH pu,(fun z=>by cases z),fun l4 bs4 ks4 hl4 ka4 pm4 up4=>?_⟩⟩
     obtain rfl:ks2=ks4:=V8 (pm2.trans (pm4.trans pu).symm) up2 up4
     have s4:=jn (o:=.lst (bs4.map V.ref)) (jg.refl H3) hl4
     have e4:upd H3 l4 (.lst (bs4.map V.ref)) l4=some (.lst (bs4.map V.ref)):=je
     have ka5:=jM.same ka4 s4
     generalize upd H3 l4 (.lst (bs4.map V.ref))=H4 at s4 e4 ka5
     have s34:=jg.trans s3 s4
     exact⟨g,l4,bs2,bs4,_,_,rfl,rfl,jD.of (s34 _ _ eg),jD.of e4,US (jM.same ka2 s34) (V0 pm2 ao),US ka5 (V0 pm2 ao),_,rfl,zR rfl (hB _ ⟨jg.trans s2 s34,s34 _ _ ef,s34 _ _ eg⟩)⟩
    have lz:bs.length≤450:=by
     have h1:=ka.1
     have h2:=pm.length_eq
     rw [List.length_map] at h2
     have:=Cn.lc
     omega
    intro H2 i
    have s2:=i.1;have ef:=i.2.1;have eg:=i.2.2
    refine ZL ([oR o,oR ta,oR th,oR p,v4,oR f,oR g,v7,v8,v9]) (fun H'=>jg H H'∧H' g=some (.lst (bs2.map V.ref))) (fun B hB=>?_) ?_
    ·refine⟨_,rfl,.inl ⟨rfl,_,jD.of ef⟩,vL,fun q1 hq1=>?_⟩
     have s3:=jn (o:=.tup [.int 0,.int 0,.int 0]) (jg.refl H2) hq1
     refine⟨f,_,.ref q1,rfl,rfl,s3 _ _ ef,by rw [List.length_map];exact Nat.lt_of_le_of_lt lz (by decide),hB _ ⟨fun b u e=>?_,by rw [ji (Ne.symm nfg)];exact s3 _ _ eg⟩⟩
     rw [ji (jq e hf)];exact s3 _ _ (s2 _ _ e)
    intro H2 i
    have s2:=i.1;have eg:=i.2
    refine⟨_,rfl,.inl ⟨rfl,_,jD.of eg⟩,g,_,rfl,rfl,eg,_,_,_,_,_,_,rfl,fun b u e=>?_⟩
    rw [ji (jq e hg)];exact s2 _ _ e
   ·rintro σ H2 ⟨v4,v5,v6,v7,v8,v9,rfl,s2⟩
    exact hB _ _ _ _ _ _ _ s2
  intro v4 v5 v6 v7 v8 v9 H1 s1
  have hpS:∀{H'},jg H H'→jw K H' p [.int w,.int h,.int l]:=fun s=>jw.of (s _ _ hp)
  have bl:=Cn.sl.2
  have bw:=Cn.sw.2
  have bh:=Cn.sh.2
  refine zJ (fun (v7:Option V)=>[oR o,oR ta,oR th,oR p,v4,v5,v6,v7,v8,v9]) (fun v7 H'=>jg H H') (fun B hB=>?_) ?_
  ·refine yU fun X0 k0=>⟨0,1,rfl,rfl,Jj (.int l) (hpS s1) ⟨(l:Int),1,rfl,rfl,_,_,rfl,⟨by decide,by decide,by omega,by omega⟩,k0 _ _ (uN (fun i σ H'=>∃v7:Option V,σ=[oR o,oR ta,oR th,oR p,v4,v5,v6,v7,v8,v9]∧jg H H') ⟨_,rfl,s1⟩ ?_ ?_)⟩⟩
   ·rintro i σ H2 hi ⟨v7,rfl,s2⟩
    generalize (0:Int) - 1+(i:Int)=z
    refine jT (s2 _ _ eo) ⟨_,rfl,.inr ⟨o,dx,c,d,w,h,l,z,cs,rfl,s2 _ _ eo,s2 _ _ ec,fun kv hkv=>let ⟨a,_,e⟩:=k3s pc kv hkv;⟨a,e⟩,fun f bs ks H3 s3 hf ef ka pm up=>?_⟩⟩
    have s23:=jg.trans s2 s3
    have et3:=s23 _ _ et
    refine⟨_,rfl,ta,ts,rfl,et3,fun ob xs hz hm kt dr=>?_⟩
    have n1:∀{b:Addr} {ys:List V},H3 b=some (.tup ys)→b≠ta:=fun e=>jX e et3 (fun z=>nomatch z)
    have kt1:KT (upd H3 ta (yj ta ob)) ts xs:=Paired.mapP kt fun x y r=>⟨r.1,by rw [ji (n1 r.2.1)];exact r.2.1,r.2.2⟩
    refine G7 (P:=P) (w:=wd0) (kr z) hz kt1 je (fun r kv H' Qy Qn hkv s' er kY kN=>?_) fun D rs H' s' hD eD kaD=>?_
    ·obtain⟨a,_,ha⟩:=k3s pt kv hkv
     rw [ha] at er kY kN
     rw [Mp] at kY kN
     refine⟨⟨_,rfl,rfl⟩,Jj (.int a.2.2) (jw.of er) ⟨_,rfl,rfl,_,rfl,JE (fun hh=>⟨_,rfl,kY ?_⟩) fun hh=>kN ?_⟩⟩
     ·exact decide_eq_true (V.int.inj hh)
     ·exact decide_eq_false fun z=>hh (by rw [z])
    ·have nDc:D≠ta:=fun z=>by rw [z,je] at hD;cases hD
     have HD:H3 D=none:=by rw [ji nDc] at hD;exact hD
     have eta:=s' _ _ (je (H:=H3) (a:=ta) (o:=yj ta ob))
     have kt2:KT H' ts xs:=Paired.mapP kt1 fun x y r=>⟨r.1,s' _ _ r.2.1,r.2.2⟩
     have S2:jg H3 (upd H' ta (.dT ts)):=fun b u e=>by
      by_cases hb:b=ta
      ·rw [hb,je,←e,hb,et3]
      ·rw [ji hb];exact s' _ _ (by rw [ji hb];exact e)
     refine⟨ta,ob,ts,xs,eta,hm,kt2,dr,hz,D,rs,_,[true,true,true],rfl,by rw [ji nDc];exact eD,jM.wr kaD eta (fun xs z=>nomatch z),fun k hk=>?_,(fun z=>by cases z),fun l' bs' ks' hl' ka' pm' up'=>?_⟩
     ·obtain⟨kv,hkv,rfl⟩:=List.mem_map.mp (List.mem_filter.mp hk).1
      obtain⟨a,_,ha⟩:=k3s pt kv hkv
      rw [ha];rfl
     ·have pmm:ks.Perm ks':=by
       refine pm.trans (List.Perm.trans ?_ pm'.symm)
       have base:((cs.map (·.1)).filter (kr z)).Perm ((ts.map (·.1)).filter (kr z)):=(pc.trans pt.symm).filter _
       split
       ·exact base
       ·rename_i hz
        have e0:(ts.map (·.1)).filter (kr z)=[]:=List.filter_eq_nil_iff.mpr fun k hk=>by
         obtain⟨kv,hkv,rfl⟩:=List.mem_map.mp hk
         obtain⟨a,ha,e⟩:=k3s pt kv hkv
         rw [e,Mp]
         intro hd
         have:=UN.mp (Cn.ic a ha)
         have hd:=of_decide_eq_true hd
         refine hz ?_
         unfold inB
         simp
         omega
        rw [e0]
      obtain rfl:ks=ks':=V8 pmm up up'
      have ik:∀k∈ks,∀c∈k,∃n,c=Sum.inl n:=fun k hk=>by
       have h1:=pm'.mem_iff.mp hk
       obtain⟨kv,hkv,rfl⟩:=List.mem_map.mp (List.mem_filter.mp h1).1
       obtain⟨a,ha,e⟩:=k3s pt kv hkv
       rw [e]
       exact zQ (cl:=[a]) _ (by simp)
      have s5:=jn (o:=.lst (bs'.map V.ref)) S2 hl'
      exact⟨f,l',bs,bs',_,_,rfl,rfl,jD.of (s5 _ _ ef),jD.of je,US (jM.same ka s5) ik,US (jM.same ka' (jn (jg.refl _) hl')) ik,_,rfl,zR rfl ⟨_,rfl,jg.trans s23 s5⟩⟩
   ·rintro σ H2 ⟨v7,rfl,s2⟩
    exact hB _ _ s2
  intro v7 H1 s1
  refine cF (fun (v7 v8 v9:Option V)=>[oR o,oR ta,oR th,oR p,v4,v5,v6,v7,v8,v9]) (fun v7 v8 v9 H'=>jg H H') (fun B hB=>?_) ?_
  ·refine yU fun X0 k0=>⟨0,1,rfl,rfl,Jj (.int w) (hpS s1) ⟨(w:Int),1,rfl,rfl,_,_,rfl,⟨by decide,by decide,by omega,by omega⟩,k0 _ _ (uN (fun i σ H'=>∃v7 v8 v9:Option V,σ=[oR o,oR ta,oR th,oR p,v4,v5,v6,v7,v8,v9]∧jg H H') ⟨_,_,_,rfl,s1⟩ ?_ ?_)⟩⟩
   ·rintro i σ H2 hi ⟨v7,v8,v9,rfl,s2⟩
    generalize (0:Int) - 1+(i:Int)=x
    refine yU fun X0 k0=>⟨0,1,rfl,rfl,Jj (.int h) (hpS s2) ⟨(h:Int),1,rfl,rfl,_,_,rfl,⟨by decide,by decide,by omega,by omega⟩,k0 _ _ (uN (fun i σ H'=>∃v7 v9:Option V,σ=[oR o,oR ta,oR th,oR p,v4,v5,v6,v7,oI x,v9]∧jg H H') ⟨_,_,rfl,s2⟩ ?_ ?_)⟩⟩
    ·rintro j σ H3 hj ⟨v7,v9,rfl,s3⟩
     generalize (0:Int) - 1+(j:Int)=y
     refine ZL ([oR o,oR ta,oR th,oR p,v4,v5,v6,v7,oI x,oI y]) (fun H'=>jg H H') (fun B hB=>?_) ?_
     ·refine jT (s3 _ _ eo) ⟨_,rfl,_,rfl,o,dx,c,d,w,h,l,x,y,ds,rfl,s3 _ _ eo,s3 _ _ ed,fun H4 s4=>⟨_,rfl,_,rfl,UQ,fun q1 hq1=>?_⟩⟩
      have s5:=jn (o:=.tup [.int x,.int y]) (jg.trans s3 s4) hq1
      refine⟨_,rfl,th,_,rfl,Vr.t (k:=[.inl x,.inl y]) (s5 _ _ eu) je,?_⟩
      rw [bN Cn pd pu]
      exact⟨_,rfl,true,rfl,Jx (hB _ s5)⟩
     intro H3 s3
     refine yU fun X0 k0=>⟨0,1,rfl,rfl,Jj (.int l) (hpS s3) ⟨(l:Int),1,rfl,rfl,_,_,rfl,⟨by decide,by decide,by omega,by omega⟩,k0 _ _ (uN (fun i σ H'=>∃v7:Option V,σ=[oR o,oR ta,oR th,oR p,v4,v5,v6,v7,oI x,oI y]∧jg H H') ⟨_,rfl,s3⟩ ?_ ?_)⟩⟩
     ·rintro k σ H4 hk ⟨v7,rfl,s4⟩
      generalize (0:Int) - 1+(k:Int)=z
      refine jT (s4 _ _ eo) ⟨_,rfl,_,rfl,_,rfl,o,dx,c,d,w,h,l,x,y,z,cs,rfl,s4 _ _ eo,s4 _ _ ec,fun H5 s5=>⟨_,rfl,_,rfl,_,rfl,vL,fun q1 hq1=>?_⟩⟩
      have s6:=jn (o:=.tup [.int x,.int y,.int z]) (jg.trans s4 s5) hq1
      refine⟨_,rfl,ta,_,rfl,Vr.t (k:=[.inl x,.inl y,.inl z]) (s6 _ _ et) je,?_⟩
      rw [md Cn pc pt]
      exact⟨_,rfl,true,rfl,Jx ⟨_,rfl,s6⟩⟩
     ·rintro σ H4 ⟨v7,rfl,s4⟩
      exact⟨_,_,rfl,s4⟩
    ·rintro σ H3 ⟨v7,v9,rfl,s3⟩
     exact⟨_,_,_,rfl,s3⟩
   ·rintro σ H2 ⟨v7,v8,v9,rfl,s2⟩
    exact hB _ _ _ _ s2
  intro v7 v8 v9 H1 s1
  have eo1:=s1 _ _ eo
  refine⟨_,rfl,o,_,dx,_,.int w,rfl,eo1,T.js,T.uw,rfl,_,rfl,o,_,dx,_,.int h,rfl,eo1,T.js,T.uv,rfl,_,rfl,o,_,dx,_,.int l,rfl,eo1,T.js,T.JN,rfl,vL,fun q1 hq1=>?_⟩
  have s2:=jn (o:=.tup [.int (w:Int),.int (h:Int),.int (l:Int)]) s1 hq1
  exact⟨_,rfl,q1,p,[(w:Int),h,l],[(w:Int),h,l],rfl,rfl,jw.of je,hpS s2,by rw [decide_eq_true rfl];exact q _ s2⟩
end
end K11
namespace K11
open PySem L2 Wd TS STb
def hN (ks:List Int):Int:=reduceHash (Builtin.Tuple.tupleHashOf (ks.map hashInt))
def fg (k:Nat):List Int:=[((k % 12:Nat):Int),((k / 12 % 12:Nat):Int),((k / 144:Nat):Int)]
def fe (k:Nat):List Int:=[((k % 12:Nat):Int),((k / 12:Nat):Int)]
theorem rb:((List.range 432).map fun k=>(hN (fg k) % 4181).toNat)=[1282,3864,3693,3105,2934,1335,2443,2272,697,526,3108,4100,3981,1660,2365,301,2615,2712,3433,966,2074,207,304,3781,768,1341,2646,1291,2596,1984,3114,2943,4051,1197,761,3762,449,13,4023,950,2277,1665,2795,1615,3732,856,3438,3443,130,1990,832,244,3654,2655,3763,3592,2017,2233,247,1239,2283,684,513,1621,3935,2336,3444,3273,3394,1527,4109,920,779,2661,3366,1302,2607,3304,253,1967,3075,2904,2081,601,1769,1333,1162,2270,3597,2985,4115,2935,871,2176,3458,582,1450,2710,843,1951,3278,181,1289,2616,3724,1857,1954,263,3603,2991,1833,2941,1074,3656,583,412,533,2847,1248,2240,2099,187,1492,2622,3927,852,1960,93,214,43,2625,1921,3476,2653,2482,3590,1123,124,1254,74,2191,2896,3082,593,3133,1534,4024,775,780,3362,3307,2603,2548,2553,1941,3268,2814,3687,3683,2152,461,3043,2266,3980,3925,2234,635,464,1099,3368,492,1446,1429,4011,960,3274,3219,30,2612,3917,2476,1864,1869,118,4128,3692,641,448,415,1720,1284,1113,2157,2854,2150,2095,3809,501,1609,3923,3868,1401,3261,407,4134,2535,3527,3472,1781,182,127,1119,3549,3554,2942,1784,2806,507,2199,3153,277,1150,3267,800,745,3235,3932,1465,602,3184,1493,1438,2430,831,1961,3266,1735,22,3613,2433,3477,2865,2870,2815,948,512,457,1449,1394,3884,2285,2114,1273,837,666,3096,3101,1502,2610,2439,688,693,81,4091,4126,3536,3519,292,1597,3866,1128,2120,2065,374,1458,2785,3807,323,2813,2758,1278,2151,87,1392,4042,3051,752,2444,3464,367,1694,2802,2631,2195,2140,3467,394,223,3968,2101,660,3842,366,2483,2312,1876,1434,3148,75,4085,3649,3478,4113,1038,2343,3473,597,1681,2811,1120,2052,894,458,1763,1309,3891,2024,2145,1974,1362,2492,3797,746,553,3135,1444,4008,1687,3014,4122,1655,3515,3460,1593,1714,234,1107,3421,1980,381,2695,3803,3632,3196,3141,287,1395,1224,788,617,476,2358,4050,999,2304,1481,4131,2651,2772,905,1778,298,2629,1030,3344,271,3294,2682,3812,936,3053,1873,1459,2764,2310,711,540,3146,2975,2363,2484,2313,1725,1554,4136,4141,3300,2688,4015,942,771,335,280,2594,2715,2544,2108,241,1796,1382,2687,2319,3624,16,4142,3971,4092,2225,1789,1618,1477,2350,483,1591,3305,4178,951,2256,192,897,2779,290]:=by decide +kernel
theorem qZ:((List.range 144).map fun k=>(hN (fe k) % 706).toNat)=[219,414,28,461,241,436,163,483,210,696,185,505,224,552,269,466,246,441,301,654,215,701,190,676,598,17,573,64,80,275,472,86,519,299,494,344,63,258,578,305,85,280,477,327,690,540,29,515,68,562,176,609,90,584,311,631,358,545,333,653,372,567,347,614,394,589,316,96,363,143,338,118,613,165,588,79,635,423,620,101,534,148,642,123,211,406,20,453,233,428,625,475,672,688,647,497,216,411,191,624,238,433,160,646,373,693,182,668,520,9,329,56,542,31,464,78,511,291,486,266,55,14,30,227,77,36,469,249,682,296,491,271,60,554,168,601,82,576,67,623,114,537,89,512]:=by decide +kernel
theorem rf:((List.range 432).map fun k=>(hN (fg k) % 4181).toNat).Nodup:=by rw [rb];decide +kernel
theorem ra:((List.range 144).map fun k=>(hN (fe k) % 706).toNat).Nodup:=by rw [qZ];decide +kernel
theorem mK {α β:Type}{f:α→β}:∀{l:List α} {a b:α},(l.map f).Nodup→a∈l→b∈l→f a=f b→a=b
 | x::r,a,b,n,ha,hb,e=>by
  obtain⟨n1,n2⟩:=List.nodup_cons.mp n
  rcases List.mem_cons.mp ha with h1|h1
  ·rcases List.mem_cons.mp hb with h2|h2
   ·rw [h1,h2]
   ·exact (n1 (List.mem_map.mpr ⟨b,h2,by rw [←e,h1]⟩)).elim
  ·rcases List.mem_cons.mp hb with h2|h2
   ·exact (n1 (List.mem_map.mpr ⟨a,h1,by rw [e,h2]⟩)).elim
   ·exact mK n2 h1 h2 e
theorem qN {c c':Int×Int×Int}{w h l:Nat} (w1:w≤12) (h1:h≤12) (l1:l≤3) (hc:Uo w h l c=true) (hc':Uo w h l c'=true) (e:hN [c.1,c.2.1,c.2.2]=hN [c'.1,c'.2.1,c'.2.2]):c=c':=by
 have key:∀{c:Int×Int×Int},Uo w h l c=true→∃k,k<432∧fg k=[c.1,c.2.1,c.2.2]:=fun {c} hc=>by
  have hb:=UN.mp hc
  obtain⟨⟨x1,x2⟩,⟨y1,y2⟩,z1,z2⟩:=hb
  obtain⟨x,hx⟩:=Int.eq_ofNat_of_zero_le x1
  obtain⟨y,hy⟩:=Int.eq_ofNat_of_zero_le y1
  obtain⟨z,hz⟩:=Int.eq_ofNat_of_zero_le z1
  rw [hx] at x2;rw [hy] at y2;rw [hz] at z2
  refine⟨x+12*y+144*z,by omega,?_⟩
  unfold fg
  rw [hx,hy,hz,show (x+12*y+144*z) % 12=x by omega,show (x+12*y+144*z) / 12 % 12=y by omega,show (x+12*y+144*z) / 144=z by omega]
 obtain⟨k,hk,ek⟩:=key hc
 obtain⟨k',hk',ek'⟩:=key hc'
 have:=mK rf (List.mem_range.mpr hk) (List.mem_range.mpr hk') (by rw [ek,ek',e])
 subst this
 rw [ek] at ek'
 injection ek' with a1 a
 injection a with a2 a
 injection a with a3 _
 exact Prod.ext a1 (Prod.ext a2 a3)
theorem qM {c c':Int×Int}{w h:Nat} (w1:w≤12) (h1:h≤12) (hc:(inB c.1 w&&inB c.2 h)=true) (hc':(inB c'.1 w&&inB c'.2 h)=true) (e:hN [c.1,c.2]=hN [c'.1,c'.2]):c=c':=by
 have key:∀{c:Int×Int},(inB c.1 w&&inB c.2 h)=true→∃k,k<144∧fe k=[c.1,c.2]:=fun {c} hc=>by
  have hb:=uT.mp hc
  obtain⟨⟨x1,x2⟩,y1,y2⟩:=hb
  obtain⟨x,hx⟩:=Int.eq_ofNat_of_zero_le x1
  obtain⟨y,hy⟩:=Int.eq_ofNat_of_zero_le y1
  rw [hx] at x2;rw [hy] at y2
  refine⟨x+12*y,by omega,?_⟩
  unfold fe
  rw [hx,hy,show (x+12*y) % 12=x by omega,show (x+12*y) / 12=y by omega]
 obtain⟨k,hk,ek⟩:=key hc
 obtain⟨k',hk',ek'⟩:=key hc'
 have:=mK ra (List.mem_range.mpr hk) (List.mem_range.mpr hk') (by rw [ek,ek',e])
 subst this
 rw [ek] at ek'
 injection ek' with a1 a
 injection a with a2 _
 exact Prod.ext a1 a2
theorem NI {P:tM}{w0:World}{α:Type}{f:α→List Key}{ts:j4}{l:List α} (p:(ts.map (·.1)).Perm (l.map f)) (n:l.Nodup) (hi:∀a∈l,∀b∈l,(tupleKind (jJ P w0)).hash (f a)=(tupleKind (jJ P w0)).hash (f b)→a=b):(ts.map fun kv=>(tupleKind (jJ P w0)).hash kv.1).Nodup:=by
 have e:(ts.map fun kv=>(tupleKind (jJ P w0)).hash kv.1)=(ts.map (·.1)).map (tupleKind (jJ P w0)).hash:=by rw [List.map_map];rfl
 rw [e,(p.map (tupleKind (jJ P w0)).hash).nodup_iff,List.map_map]
 exact List.pairwise_map.mpr (n.imp_of_mem fun {a b} ha hb hab e=>hab (hi a ha b hb e))
theorem dG {P:tM}{w0:World}{w h l:Nat}{cl:tf}{hl:ti}{ts:j4} (C:Ct w h l cl hl) (p:(ts.map (·.1)).Perm (cl.map k3)):(ts.map fun kv=>(tupleKind (jJ P w0)).hash kv.1).Nodup:=NI p C.nc fun a ha b hb e=>qN C.sw.2 C.sh.2 C.sl.2 (C.ic a ha) (C.ic b hb) e
theorem dF {P:tM}{w0:World}{w h l:Nat}{cl:tf}{hl:ti}{us:j4} (C:Ct w h l cl hl) (p:(us.map (·.1)).Perm (hl.map k2)):(us.map fun kv=>(tupleKind (jJ P w0)).hash kv.1).Nodup:=NI p C.nh fun a ha b hb e=>qM C.sw.2 C.sh.2 (C.ih a ha) (C.ih b hb) e
end K11
namespace K11
open PySem L2 Wd TS STb
theorem Td.sm {H H':Hp}{a:Addr}{ks:List (List Key)} (x:Td H a ks) (s:Sm H H'):Td H' a ks:=let ⟨cs,e,r⟩:=x;⟨cs,s.1 _ _ (by intro ps z;cases z) e,r⟩
theorem Pr.sm {C:Addr}{H H':Hp}{o dx c d ta th:Addr}{w h l:Nat}{cl:tf}{hl:ti} (x:Pr C H o dx c d ta th w h l cl hl) (s:Sm H H'):Pr C H' o dx c d ta th w h l cl hl:=⟨x.B.sm s,x.T.sm s,x.U.sm s,x.C,x.n1,x.n2,x.n3,x.n4,x.n5⟩
theorem Pr.ne {C:Addr}{H:Hp}{o dx c d ta th:Addr}{w h l:Nat}{cl:tf}{hl:ti} (x:Pr C H o dx c d ta th w h l cl hl) {b:Addr} {u:HO} (e:H b=some u) (n:∀cs,u≠.dT cs):b≠c∧b≠d∧b≠ta∧b≠th:=by
 obtain⟨cs,ec,_⟩:=x.B.ec
 obtain⟨ds,ed,_⟩:=x.B.ed
 obtain⟨ts,et,_⟩:=x.T
 obtain⟨us,eu,_⟩:=x.U
 exact⟨jX e ec (n _),jX e ed (n _),jX e et (n _),jX e eu (n _)⟩
theorem Pr.ne0 {C:Addr}{H:Hp}{o dx c d ta th:Addr}{w h l:Nat}{cl:tf}{hl:ti} (x:Pr C H o dx c d ta th w h l cl hl) {b:Addr} (e:H b=none):c≠b∧d≠b∧ta≠b∧th≠b:=by
 obtain⟨cs,ec,_⟩:=x.B.ec
 obtain⟨ds,ed,_⟩:=x.B.ed
 obtain⟨ts,et,_⟩:=x.T
 obtain⟨us,eu,_⟩:=x.U
 exact⟨jq ec e,jq ed e,jq et e,jq eu e⟩
theorem Pr.wr {C:Addr}{H:Hp}{o dx c d ta th:Addr}{w h l:Nat}{cl:tf}{hl:ti} (x:Pr C H o dx c d ta th w h l cl hl) {b:Addr} {ts ts':j4} (e:H b=some (.dT ts)) (n1:c≠b) (n2:d≠b) (n3:ta≠b) (n4:th≠b):Pr C (upd H b (.dT ts')) o dx c d ta th w h l cl hl:=⟨x.B.off e (Ne.symm n1) (Ne.symm n2),x.T.off n3,x.U.off n4,x.C,x.n1,x.n2,x.n3,x.n4,x.n5⟩
theorem Bx.off4 {C:Addr}{H H':Hp}{o dx c d c' d' ta th:Addr}{w h l:Nat}{cl:tf}{hl:ti} (x:Bx C H o dx c d w h l cl hl) (f:N8 c' d' ta th H H') (o4:o≠c'∧o≠d'∧o≠ta∧o≠th) (c4:c≠c'∧c≠d'∧c≠ta∧c≠th) (d4:d≠c'∧d≠d'∧d≠ta∧d≠th):Bx C H' o dx c d w h l cl hl:=by
 obtain⟨cs,ec,rc⟩:=x.ec
 obtain⟨ds,ed,rd⟩:=x.ed
 exact⟨f _ _ o4.1 o4.2.1 o4.2.2.1 o4.2.2.2 x.eo,⟨cs,f _ _ c4.1 c4.2.1 c4.2.2.1 c4.2.2.2 ec,rc⟩,⟨ds,f _ _ d4.1 d4.2.1 d4.2.2.1 d4.2.2.2 ed,rd⟩,x.ne⟩
theorem Td.off4 {H H':Hp}{c d ta th b:Addr}{ks:List (List Key)} (x:Td H b ks) (f:N8 c d ta th H H') (n:b≠c∧b≠d∧b≠ta∧b≠th):Td H' b ks:=let ⟨cs,e,r⟩:=x;⟨cs,f _ _ n.1 n.2.1 n.2.2.1 n.2.2.2 e,r⟩
theorem fA {ts:j4}{cl:tf} (p:(ts.map (·.1)).Perm (cl.map k3)):YS ts:=fun kv hkv=>zQ _ (p.mem_iff.mp (List.mem_map_of_mem hkv))
theorem fw {ts:j4}{hl:ti} (p:(ts.map (·.1)).Perm (hl.map k2)):YS ts:=fun kv hkv=>ao _ (p.mem_iff.mp (List.mem_map_of_mem hkv))
section
variable {P:tM}{w:World}{K:sZ}{mg:tj}{base:Heap}{t:Adr}
def yH (t:Adr):List Addr:=[t.j8]
def Kv (K:sZ) (tabs:tD):Sp:=fun vs H Q _=>∃(a:Addr) (sc:List Int),vs=[.ref a]∧jD K H a (sc.map V.int)∧sc.length≤63∧(∀p∈tabs,H p=some (.tbl #[]))∧∀H',Q (.bl true) H'
seal Uy in theorem law_ok (T:Txt K mg t) (hB:yK mg base) {fd:FuncData} (F:Jh K "law" "law" aL t.gE fd):uQ P w K mg base (XC P w) 9 t.gE fd ["_law_script"] (Kv K (yH t)):=by
 have G_Board:=Yv (P:=P) (w:=w) (base:=base) T
 have G_law_cell_at:=yx (P:=P) (w:=w) (base:=base) T
 have G_law_same:=n6 (P:=P) (wd0:=w) (base:=base) T
 have G_law_draws:=Mm (P:=P) (w:=w) (base:=base) T
 have G_law_done:=nY (P:=P) (w:=w) (base:=base) T
 have G_law_is:=kn (P:=P) (w:=w) (base:=base) T
 have G_Board_copy:=Ke (P:=P) (w:=w) (base:=base) T hB
 have G_Board_same_as:=Z0 (P:=P) (w:=w) (base:=base) T
 have G_Board_put:=U0 (P:=P) (w:=w) (base:=base) T
 have G_Board_take:=vR (P:=P) (w:=w) (base:=base) T
 have G_Board_drill:=vi (P:=P) (w:=w) (base:=base) T
 have G_Board_plug:=Yw (P:=P) (w:=w) (base:=base) T
 refine F.okX Uh (fun vs H Q E h=>?_) (fun cdv A outer s H vs Q E hr h=>?_)
 ·obtain⟨a,sc,rfl,_⟩:=h
  rfl
 ·obtain⟨a,sc,rfl,ha,hsc,htb,q⟩:=h
  refine⟨_,(jj (jI (i:=1) Uh.nd rfl (Or.inl rfl) (jx G_law_cell_at hr.m jk (by rfl) (ja (pv 0) (ja jh jf))))
   (jj (jI (i:=2) Uh.nd rfl (Or.inl rfl) (jS (ja (jr jZ jh (jr JC (pv 1) jh)) (ja (jr jZ jh (jr JC (jr JB (pv 1) jh) jh)) (ja (jr jZ jh (jr JC (jr JB (pv 1) jh) jh)) jf)))))
   (jj (jI (i:=3) Uh.nd rfl (Or.inl rfl) (vm G_Board.c hr.m jk (by rfl) (ja (jN jG (pv 2) jh (fun _ _=>rfl)) (ja (jN jG (pv 2) jh (fun _ _=>rfl)) (ja (jN jG (pv 2) jh (fun _ _=>rfl)) jf)))))
   (jj (jU (jH j9 (jN jG (pv 2) jh (fun _ _=>rfl)) jh (jy _)) (jm (jI (i:=3) Uh.nd rfl (Or.inl rfl) (dO G_Board hr.m jk (by rfl) (ja (jN jG (pv 2) jh (fun _ _=>rfl)) (ja (jN jG (pv 2) jh (fun _ _=>rfl)) jf))))) jP)
   (jj (jI (i:=4) Uh.nd rfl (Or.inl rfl) y9)
   (jj (jI (i:=5) Uh.nd rfl (Or.inl rfl) y9)
   (jj (jU (Jg (Jc (jx G_law_same hr.m jk (by rfl) (ja (pv 3) (ja (pv 4) (ja (pv 5) (ja (pv 2) jf))))))) (jm (jF uj)) jP)
   (jj (JJ Jq (uK (jx G_law_draws hr.m jk (by rfl) (ja (pv 0) jf))) (jL (i:=6) Uh.nd rfl (Or.inl rfl)) (jm (jU (Jg (Jc (jx G_law_done hr.m jk (by rfl) (ja (pv 3) (ja (pv 4) (ja (pv 5) (ja (pv 6) (ja (pv 2) jf)))))))) (jm (jF uj)) jP)))
   (jj (jI (i:=7) Uh.nd rfl (Or.inl rfl) (uO (vq G_Board_copy hr.m jk) (pv 3)))
   (jj (jU (uk (Jg (Jc (jx G_law_is hr.m jk (by rfl) (ja (jz (pv 7) G_Board_same_as hr.m jk (ja (pv 3) jf)) (ja uj jf))))) (JT (Jg (Jc (jx G_law_same hr.m jk (by rfl) (ja (pv 7) (ja (pv 4) (ja (pv 5) (ja (pv 2) jf))))))))).pt (jm (jF uj)) jP)
   (jj (jI (i:=8) Uh.nd rfl (Or.inl rfl) (uO (vq G_Board_copy hr.m jk) (pv 7)))
   (jj (jA (jz (pv 8) G_Board_put hr.m jk (ja (ug (ja (jS (ja jh (ja jh (ja jh jf)))) jf)) jf)))
   (jj (jA (jz (pv 8) G_Board_plug hr.m jk (ja jh (ja jh jf))))
   (jj (jA (jz (pv 8) G_Board_take hr.m jk (ja (ug (ja (jS (ja (jr jQ (jN jG (pv 2) jh (fun _ _=>rfl)) jh) (ja (jr jQ (jN jG (pv 2) jh (fun _ _=>rfl)) jh) (ja (jr jQ (jN jG (pv 2) jh (fun _ _=>rfl)) jh) jf)))) jf)) jf)))
   (jj (jA (jz (pv 8) G_Board_drill hr.m jk (ja (jr jQ (jN jG (pv 2) jh (fun _ _=>rfl)) jh) (ja (jr jQ (jN jG (pv 2) jh (fun _ _=>rfl)) jh) jf))))
   (jj (jU (uk (Jg (Jc (jx G_law_same hr.m jk (by rfl) (ja (pv 7) (ja (pv 4) (ja (pv 5) (ja (pv 2) jf))))))) (JT (Jg (Jc (jx G_law_same hr.m jk (by rfl) (ja (pv 3) (ja (pv 4) (ja (pv 5) (ja (pv 2) jf))))))))).pt (jm (jF uj)) jP)
   (jj (jI (i:=9) Uh.nd rfl (Or.inl rfl) (jS (ja (UO gq (by rfl) T.ci a8 (ja (pv 4) jf)) (ja (UO gq (by rfl) T.ci a8 (ja (pv 5) jf)) jf))))
   (jj (jA (jx G_law_done hr.m jk (by rfl) (ja (pv 3) (ja (pv 4) (ja (pv 5) (ja (jr JB (pv 1) jh) (ja (pv 2) jf)))))))
   (jj (jU (uk (Jg (Jc (jx G_law_same hr.m jk (by rfl) (ja (pv 3) (ja (pv 4) (ja (pv 5) (ja (pv 2) jf))))))) (JT (Jg (Jc (jx G_law_same hr.m jk (by rfl) (ja (pv 7) (ja (jN jG (pv 9) jh (fun _ _=>rfl)) (ja (jN jG (pv 9) jh (fun _ _=>rfl)) (ja (pv 2) jf))))))))).pt (jm (jF uj)) jP)
   (jm (jF (jx G_law_is hr.m jk (by rfl) (ja (jz (pv 3) G_Board_same_as hr.m jk (ja (pv 7) jf)) (ja (JP (iX hr.units) (pv 9) (jS (ja (pv 4) (ja (pv 5) jf))) (jy _)) jf)))))))))))))))))))))))),?_⟩
  have tb0:Gs t H:=⟨#[],htb _ (by simp [yH]),trivial,.inl rfl⟩
  refine zJ (fun (n:Int)=>[oR a,oI n,none,none,none,none,none,none,none,none]) (fun n H'=>H=H') (fun B hB=>?_) ?_
  ·exact⟨_,rfl,a,sc,0,rfl,ha,by decide,by decide,hsc,hB _ _ rfl⟩
  intro n H1 i
  subst i
  refine NV (fun (p:Addr) (w' h' l':Nat)=>[oR a,oI n,oR p,none,none,none,none,none,none,none]) (fun p w' h' l' H'=>(1≤w'∧w'≤12)∧(1≤h'∧h'≤12)∧(1≤l'∧l'≤3)∧jg H H'∧H' p=some (.tup [.int w',.int h',.int l'])) (fun B hB=>?_) ?_
  ·obtain⟨x1,e1,h1⟩:=zp n (n:=12) (by decide)
   obtain⟨x2,e2,h2⟩:=zp (n / 12) (n:=12) (by decide)
   obtain⟨x3,e3,h3⟩:=zp (n / 144) (n:=3) (by decide)
   refine⟨_,rfl,n,12,rfl,rfl,(by show (0:Int)<12;decide),1,_,rfl,rfl,_,rfl,n,12,rfl,rfl,⟨by decide,by decide⟩,_,12,rfl,rfl,(by show (0:Int)<12;decide),1,_,rfl,rfl,_,rfl,n,144,rfl,rfl,⟨by decide,by decide⟩,_,3,rfl,rfl,(by show (0:Int)<3;decide),1,_,rfl,rfl,vL,fun p hp=>hB p (1+x1) (1+x2) (1+x3) _ ⟨by omega,by omega,by omega,jn (jg.refl H) hp,?_⟩⟩
   rw [je,show ((1+x1:Nat):Int)=1+(x1:Int) by omega,show ((1+x2:Nat):Int)=1+(x2:Int) by omega,show ((1+x3:Nat):Int)=1+(x3:Int) by omega,←e1,←e2,←e3]
   rfl
  intro p w' h' l' H1 i
  have bw:=i.1;have bh:=i.2.1;have bl:=i.2.2.1;have s1:=i.2.2.2.1;have hp:=i.2.2.2.2
  have okm:gS (.int (w':Int)) 12∧gS (.int (h':Int)) 12∧gS (.int (l':Int)) 3:=⟨(⟨by omega,by omega⟩:ZA w' 12),(⟨by omega,by omega⟩:ZA h' 12),(⟨by omega,by omega⟩:ZA l' 3)⟩
  refine NV (fun (o dx c d:Addr)=>[oR a,oI n,oR p,oR o,none,none,none,none,none,none]) (fun o dx c d H'=>jg H H'∧H' p=some (.tup [.int w',.int h',.int l'])∧Bx t.jl H' o dx c d w' h' l' [] []) (fun B hB=>?_) ?_
  ·refine Jj (.int w') (jw.of hp) (Jj (.int h') (jw.of hp) (Jj (.int l') (jw.of hp) (fun o dx ho hdx hne=>⟨o,dx,.int w',.int h',.int l',rfl,je,trivial,trivial,trivial,fun w1 h1 l1 g1 g2 g3 _ _ _ c d H2 fr eo ec ed nc nd ncd nco ndo=>?_,fun z=>absurd okm z⟩)))
   cases g1;cases g2;cases g3
   have s2:jg H1 H2:=fun b u e=>fr b u (jq e ho) (by rw [ji (jq e ho),ji (jq e hdx)];exact e)
   exact⟨rfl,hB o dx c d _ ⟨jg.trans s1 s2,s2 _ _ hp,⟨eo,⟨[],ec,fun kv h=>(by cases h),List.Perm.refl _⟩,⟨[],ed,fun kv h=>(by cases h),List.Perm.refl _⟩,ncd⟩⟩⟩
  intro o dx c d H1 i
  have s1:=i.1;have hp:=i.2.1;have B1:=i.2.2
  refine NV (fun (o dx c d:Addr)=>[oR a,oI n,oR p,oR o,none,none,none,none,none,none]) (fun o dx c d H'=>jg H H'∧H' p=some (.tup [.int w',.int h',.int l'])∧Bx t.jl H' o dx c d w' h' l' [] []) (fun B hB=>?_) ?_
  ·refine uu ((l':Int)=1) (fun N hN=>Jj (.int l') (jw.of hp) ⟨rfl,_,rfl,hN _ (by rw [decide_eq_true_eq];exact⟨fun z=>V.int.inj z,fun z=>by rw [z]⟩)⟩) (fun g=>?_) fun g=>hB o dx c d _ ⟨s1,hp,B1⟩
   obtain rfl:l'=1:=by omega
   refine Jj (.int w') (jw.of hp) (Jj (.int h') (jw.of hp) (fun o dx ho hdx hne=>⟨o,dx,.int w',.int h',.int 1,rfl,je,trivial,trivial,trivial,fun w1 h1 l1 g1 g2 g3 _ _ _ c d H2 fr eo ec ed nc nd ncd nco ndo=>?_,fun z=>absurd okm z⟩))
   cases g1;cases g2;cases g3
   have s2:jg H1 H2:=fun b u e=>fr b u (jq e ho) (by rw [ji (jq e ho),ji (jq e hdx)];exact e)
   exact⟨rfl,hB o dx c d _ ⟨jg.trans s1 s2,s2 _ _ hp,⟨eo,⟨[],ec,fun kv h=>(by cases h),List.Perm.refl _⟩,⟨[],ed,fun kv h=>(by cases h),List.Perm.refl _⟩,ncd⟩⟩⟩
  intro o dx c d H1 i
  have s1:=i.1;have hp:=i.2.1;have B1:=i.2.2
  refine zJ (fun (ta:Addr)=>[oR a,oI n,oR p,oR o,oR ta,none,none,none,none,none]) (fun ta H'=>jg H H'∧H' p=some (.tup [.int w',.int h',.int l'])∧Bx t.jl H' o dx c d w' h' l' [] []∧H' ta=some (.dT [])∧ta≠c∧ta≠d) (fun B hB=>?_) ?_
  ·obtain⟨_,ec,_⟩:=B1.ec
   obtain⟨_,ed,_⟩:=B1.ed
   intro ta hta
   have s2:=jn (o:=.dT []) (jg.refl H1) hta
   exact hB ta _ ⟨jg.trans s1 s2,s2 _ _ hp,B1.same s2,je,(jq ec hta).symm,(jq ed hta).symm⟩
  intro ta H1 i
  have s1:=i.1;have hp:=i.2.1;have B1:=i.2.2.1;have et:=i.2.2.2.1;have n1:=i.2.2.2.2.1;have n2:=i.2.2.2.2.2
  refine zJ (fun (th:Addr)=>[oR a,oI n,oR p,oR o,oR ta,oR th,none,none,none,none]) (fun th H'=>jg H H'∧H' p=some (.tup [.int w',.int h',.int l'])∧Pr t.jl H' o dx c d ta th w' h' l' [] []) (fun B hB=>?_) ?_
  ·obtain⟨_,ec,_⟩:=B1.ec
   obtain⟨_,ed,_⟩:=B1.ed
   intro th hth
   have s2:=jn (o:=.dT []) (jg.refl H1) hth
   exact hB th _ ⟨jg.trans s1 s2,s2 _ _ hp,B1.same s2,⟨[],s2 _ _ et,fun kv h=>(by cases h),List.Perm.refl _⟩,⟨[],je,fun kv h=>(by cases h),List.Perm.refl _⟩,Ct.mk' bw bh bl List.nodup_nil List.nodup_nil (fun c h=>(by cases h)) (fun c h=>(by cases h)),n1,n2,(jq ec hth).symm,(jq ed hth).symm,jq et hth⟩
  intro th H1 i
  have s1:=i.1;have hp:=i.2.1;have R1:=i.2.2
  refine ZL ([oR a,oI n,oR p,oR o,oR ta,oR th,none,none,none,none]) (fun H'=>jg H H'∧H' p=some (.tup [.int w',.int h',.int l'])∧Pr t.jl H' o dx c d ta th w' h' l' [] []) (fun B hB=>?_) ?_
  ·exact⟨_,rfl,_,rfl,_,rfl,_,rfl,Uy.mk R1 hp fun H2 s2=>⟨true,rfl,Jx (hB _ ⟨jg.trans s1 s2,s2 _ _ hp,R1.same s2⟩)⟩⟩
  intro H1 i
  have s1:=i.1;have hp:=i.2.1;have R1:=i.2.2
  refine cF (fun (v6:Option V) (cl:tf) (hl:ti)=>[oR a,oI n,oR p,oR o,oR ta,oR th,v6,none,none,none]) (fun v6 cl hl H'=>H' p=some (.tup [.int w',.int h',.int l'])∧Pr t.jl H' o dx c d ta th w' h' l' cl hl∧H' t.j8=some (.tbl #[])) (fun B hB=>?_) ?_
  ·refine yU fun X0 k0=>⟨_,rfl,a,sc,rfl,s1.seq ha,hsc,fun D ms H2 s2 hD eD=>⟨D,rfl,⟨_,jD.of eD⟩,k0 _ _ (Ue (xs:=ms.map V.int) (fun i σ H'=>∃(v6:Option V) (cl:tf) (hl:ti),σ=[oR a,oI n,oR p,oR o,oR ta,oR th,v6,none,none,none]∧H' p=some (.tup [.int w',.int h',.int l'])∧Pr t.jl H' o dx c d ta th w' h' l' cl hl∧H' t.j8=some (.tbl #[])∧H' D=some (.lst (ms.map V.int))) ⟨_,[],[],rfl,s2 _ _ hp,R1.same s2,jg.trans s1 s2 _ _ (htb _ (by simp [yH])),eD⟩ (fun i σ H' _ h=>by obtain⟨_,_,_,_,_,_,_,e⟩:=h;exact jD.of e) ?_ ?_)⟩⟩
   ·rintro i v σ H3 hx ⟨v6,cl,hl,rfl,hp3,R3,t3,e3⟩
    rw [List.getElem?_map] at hx
    obtain⟨m,_,rfl⟩:=Option.map_eq_some_iff.mp hx
    refine⟨_,rfl,_,rfl,_,rfl,_,rfl,_,rfl,o,dx,c,d,ta,th,p,w',h',l',m,cl,hl,rfl,R3,hp3,fun cl' hl' H4 f4 R4=>⟨true,rfl,Jx ⟨_,cl',hl',rfl,?_,R4,?_,?_⟩⟩⟩
    ·have k:=R3.ne hp3 (fun _ z=>nomatch z)
     exact f4 _ _ k.1 k.2.1 k.2.2.1 k.2.2.2 hp3
    ·have k:=R3.ne t3 (fun _ z=>nomatch z)
     exact f4 _ _ k.1 k.2.1 k.2.2.1 k.2.2.2 t3
    ·have k:=R3.ne e3 (fun _ z=>nomatch z)
     exact f4 _ _ k.1 k.2.1 k.2.2.1 k.2.2.2 e3
   ·rintro σ H3 ⟨v6,cl,hl,rfl,hp3,R3,t3,e3⟩
    exact hB _ cl hl _ ⟨hp3,R3,t3⟩
  intro v6 cl hl H1 i
  have hp:=i.1;have R1:=i.2.1;have t1:=i.2.2
  have tb1:Gs t H1:=⟨#[],t1,trivial,.inl rfl⟩
  have Cc:=R1.C
  refine NV (fun (o2 dx2 c2 d2:Addr)=>[oR a,oI n,oR p,oR o,oR ta,oR th,v6,oR o2,none,none]) (fun o2 dx2 c2 d2 H'=>H' p=some (.tup [.int w',.int h',.int l'])∧Pr t.jl H' o dx c d ta th w' h' l' cl hl∧Pr t.jl H' o2 dx2 c2 d2 ta th w' h' l' cl hl∧Gs t H'∧(c≠c2∧d≠c2)∧c≠d2∧d≠d2) (fun B hB=>?_) ?_
  ·refine⟨_,rfl,o,dx,_,rfl,R1.B.eo,rfl,o,dx,c,d,w',h',l',cl,hl,rfl,R1.B,Cc,tb1,fun o2 dx2 c2 d2 H2 sm tb2 m1 m2 m3 B2=>?_⟩
   have k2':=R1.ne0 m2
   have k3':=R1.ne0 m3
   have R2:=R1.sm sm
   exact hB o2 dx2 c2 d2 _ ⟨sm.1 _ _ (by intro ps z;cases z) hp,R2,⟨B2,R2.T,R2.U,Cc,k2'.2.2.1,k3'.2.2.1,k2'.2.2.2,k3'.2.2.2,R1.n5⟩,tb2,⟨k2'.1,k2'.2.1⟩,k3'.1,k3'.2.1⟩
  intro o2 dx2 c2 d2 H1 i
  have hp:=i.1;have R1:=i.2.1;have S1:=i.2.2.1;have tb1:=i.2.2.2.1;have x1:=i.2.2.2.2.1;have x2:=i.2.2.2.2.2
  refine ZL ([oR a,oI n,oR p,oR o,oR ta,oR th,v6,oR o2,none,none]) (fun H'=>H' p=some (.tup [.int w',.int h',.int l'])∧Pr t.jl H' o dx c d ta th w' h' l' cl hl∧Pr t.jl H' o2 dx2 c2 d2 ta th w' h' l' cl hl∧Gs t H') (fun B hB=>?_) ?_
  ·refine jT S1.B.eo ⟨_,rfl,o2,dx2,c2,d2,o,dx,c,d,_,_,_,_,_,_,cl,cl,hl,hl,rfl,S1.B,R1.B,Cc.nc,Cc.nh,fun b H2 s2 ib=>?_⟩
   obtain rfl:b=true:=ib.mpr ⟨⟨rfl,rfl,rfl⟩,List.Perm.refl _,List.Perm.refl _⟩
   exact⟨true,rfl,true,rfl,Jx ⟨_,rfl,_,rfl,_,rfl,_,rfl,Uy.mk (S1.same s2) (s2 _ _ hp) fun H3 s3=>⟨true,rfl,Jx (hB _ ⟨s3 _ _ (s2 _ _ hp),(R1.same s2).same s3,(S1.same s2).same s3,(tb1.same s2).same s3⟩)⟩⟩⟩
  intro H1 i
  have hp:=i.1;have R1:=i.2.1;have S1:=i.2.2.1;have tb1:=i.2.2.2
  refine NV (fun (o3 dx3 c3 d3:Addr)=>[oR a,oI n,oR p,oR o,oR ta,oR th,v6,oR o2,oR o3,none]) (fun o3 dx3 c3 d3 H'=>H' p=some (.tup [.int w',.int h',.int l'])∧Pr t.jl H' o dx c d ta th w' h' l' cl hl∧Pr t.jl H' o2 dx2 c2 d2 ta th w' h' l' cl hl∧Bx t.jl H' o3 dx3 c3 d3 w' h' l' cl hl∧(c≠c3∧d≠c3∧ta≠c3∧th≠c3)∧(c≠d3∧d≠d3∧ta≠d3∧th≠d3)∧(c2≠c3∧d2≠c3)∧c2≠d3∧d2≠d3) (fun B hB=>?_) ?_
  ·refine⟨_,rfl,o2,dx2,_,rfl,S1.B.eo,rfl,o2,dx2,c2,d2,w',h',l',cl,hl,rfl,S1.B,Cc,tb1,fun o3 dx3 c3 d3 H2 sm tb2 m1 m2 m3 B2=>?_⟩
   have k2':=S1.ne0 m2
   have k3':=S1.ne0 m3
   exact hB o3 dx3 c3 d3 _ ⟨sm.1 _ _ (by intro ps z;cases z) hp,R1.sm sm,S1.sm sm,B2,R1.ne0 m2,R1.ne0 m3,⟨k2'.1,k2'.2.1⟩,k3'.1,k3'.2.1⟩
  intro o3 dx3 c3 d3 H1 i
  have hp:=i.1;have R1:=i.2.1;have S1:=i.2.2.1;have B1:=i.2.2.2.1;have y1:=i.2.2.2.2.1;have y2:=i.2.2.2.2.2.1;have y3:=i.2.2.2.2.2.2.1;have y4:=i.2.2.2.2.2.2.2
  have lc:=Cc.lc
  have lh:=Cc.lh
  have wc:∀{H':Hp} {cl3:tf} {hl3:ti} {cs':j4} {cl4:tf},Pr t.jl H' o dx c d ta th w' h' l' cl hl→Pr t.jl H' o2 dx2 c2 d2 ta th w' h' l' cl hl→Bx t.jl H' o3 dx3 c3 d3 w' h' l' cl3 hl3→(∀kv∈cs',kv.2=.bl true)→(cs'.map (·.1)).Perm (cl4.map k3)→Pr t.jl (upd H' c3 (.dT cs')) o dx c d ta th w' h' l' cl hl∧Pr t.jl (upd H' c3 (.dT cs')) o2 dx2 c2 d2 ta th w' h' l' cl hl∧Bx t.jl (upd H' c3 (.dT cs')) o3 dx3 c3 d3 w' h' l' cl4 hl3:=fun {H' cl3 hl3 cs' cl4} r1 r2 b v pp=>by
   obtain⟨cs,ec,_⟩:=b.ec
   obtain⟨ds,ed,rd⟩:=b.ed
   exact⟨r1.wr ec y1.1 y1.2.1 y1.2.2.1 y1.2.2.2,r2.wr ec y3.1 y3.2 y1.2.2.1 y1.2.2.2,⟨by rw [ji (jX b.eo ec (fun z=>nomatch z))];exact b.eo,⟨cs',je,v,pp⟩,⟨ds,by rw [ji (Ne.symm b.ne)];exact ed,rd⟩,b.ne⟩⟩
  have wdd:∀{H':Hp} {cl3:tf} {hl3:ti} {ds':j4} {hl4:ti},Pr t.jl H' o dx c d ta th w' h' l' cl hl→Pr t.jl H' o2 dx2 c2 d2 ta th w' h' l' cl hl→Bx t.jl H' o3 dx3 c3 d3 w' h' l' cl3 hl3→(∀kv∈ds',kv.2=.bl true)→(ds'.map (·.1)).Perm (hl4.map k2)→Pr t.jl (upd H' d3 (.dT ds')) o dx c d ta th w' h' l' cl hl∧Pr t.jl (upd H' d3 (.dT ds')) o2 dx2 c2 d2 ta th w' h' l' cl hl∧Bx t.jl (upd H' d3 (.dT ds')) o3 dx3 c3 d3 w' h' l' cl3 hl4:=fun {H' cl3 hl3 ds' hl4} r1 r2 b v pp=>by
   obtain⟨cs,ec,rc⟩:=b.ec
   obtain⟨ds,ed,_⟩:=b.ed
   exact⟨r1.wr ed y2.1 y2.2.1 y2.2.2.1 y2.2.2.2,r2.wr ed y4.1 y4.2 y2.2.2.1 y2.2.2.2,⟨by rw [ji (jX b.eo ed (fun z=>nomatch z))];exact b.eo,⟨cs,by rw [ji b.ne];exact ec,rc⟩,⟨ds',je,v,pp⟩,b.ne⟩⟩
  refine zJ (fun (cl3:tf)=>[oR a,oI n,oR p,oR o,oR ta,oR th,v6,oR o2,oR o3,none]) (fun cl3 H'=>cl3.length≤451∧H' p=some (.tup [.int w',.int h',.int l'])∧Pr t.jl H' o dx c d ta th w' h' l' cl hl∧Pr t.jl H' o2 dx2 c2 d2 ta th w' h' l' cl hl∧Bx t.jl H' o3 dx3 c3 d3 w' h' l' cl3 hl) (fun B hB=>?_) ?_
  ·refine jT B1.eo ⟨vL,fun q1 hq1=>⟨fW,fun q2 hq2=>?_⟩⟩
   have s2:=jn (o:=.tup [.int 0,.int 0,.int 0]) (jg.refl H1) hq1
   have e2:upd H1 q1 (.tup [.int 0,.int 0,.int 0]) q1=some (.tup [.int 0,.int 0,.int 0]):=je
   generalize upd H1 q1 (.tup [.int 0,.int 0,.int 0])=H2 at s2 e2 hq2 ⊢
   have s3:=jn (o:=.lst [.ref q1]) (jg.refl H2) hq2
   have e3:upd H2 q2 (.lst [.ref q1]) q2=some (.lst [.ref q1]):=je
   generalize upd H2 q2 (.lst [.ref q1])=H3 at s3 e3 ⊢
   have s13:=jg.trans s2 s3
   have B3:=B1.same s13
   refine uH B3.ec fun cs ec vc pc=>?_
   have lcs:=UF pc
   have C3:jV H3 [q1] [(0,0,0)]:=jV.nil.snoc (c:=(0,0,0)) (s3 _ _ e2)
   refine⟨o3,dx3,c3,d3,q2,[q1],[(0,0,0)],w',h',l',cs,rfl,B3.eo,e3,C3,ec,by show _+1≤1000;omega,fun _=>?_,fun z=>absurd (show ([((0:Int),(0:Int),(0:Int))]).all (Uo w' h' l')=true from List.all_eq_true.mpr fun c hc=>by rw [List.mem_singleton.mp hc];exact UN.mpr ⟨⟨by decide,by dsimp only;omega⟩,⟨by decide,by dsimp only;omega⟩,by decide,by dsimp only;omega⟩) (by rw [z];decide)⟩
   obtain⟨r1,r2,b3⟩:=wc (R1.same s13) (S1.same s13) B3 (U3 (m:=[(0,0,0)]) vc) (uZ (m:=[(0,0,0)]) pc)
   refine hB _ _ ⟨?_,by rw [ji (jX (s13 _ _ hp) ec (fun z=>nomatch z))];exact s13 _ _ hp,r1,r2,b3⟩
   have:=UF (uZ (m:=[(0,0,0)]) pc)
   have:=Ye [(0,0,0)] cs
   simp only [List.length_cons,List.length_nil] at this
   omega
  intro cl3 H1 i
  have l3:=i.1;have hp:=i.2.1;have R1:=i.2.2.1;have S1:=i.2.2.2.1;have B1:=i.2.2.2.2
  refine zJ (fun (hl3:ti)=>[oR a,oI n,oR p,oR o,oR ta,oR th,v6,oR o2,oR o3,none]) (fun hl3 H'=>hl3.length≤150∧H' p=some (.tup [.int w',.int h',.int l'])∧Pr t.jl H' o dx c d ta th w' h' l' cl hl∧Pr t.jl H' o2 dx2 c2 d2 ta th w' h' l' cl hl∧Bx t.jl H' o3 dx3 c3 d3 w' h' l' cl3 hl3) (fun B hB=>?_) ?_
  ·refine uH B1.ed fun ds ed vd pd=>?_
   refine jT B1.eo ⟨o3,dx3,c3,d3,w',h',l',0,0,ds,rfl,B1.eo,uT (p:=((0:Int),(0:Int))).mpr ⟨⟨by decide,by dsimp only;omega⟩,by decide,by dsimp only;omega⟩,ed,fun q1 hq1=>?_⟩
   have s2:=jn (o:=.tup [.int 0,.int 0]) (jg.refl H1) hq1
   obtain⟨r1,r2,b3⟩:=wdd (R1.same s2) (S1.same s2) (B1.same s2) (vB (k:=k2 ((0:Int),(0:Int))) vd) (vA (fun _ _=>uA) (a:=((0:Int),(0:Int))) pd)
   refine hB _ _ ⟨?_,by rw [ji (jX (s2 _ _ hp) (s2 _ _ ed) (fun z=>nomatch z))];exact s2 _ _ hp,r1,r2,b3⟩
   unfold yT
   exact Nat.le_trans (List.length_filter_le _ _) lh
  intro hl3 H1 i
  have lh3:=i.1;have hp:=i.2.1;have R1:=i.2.2.1;have S1:=i.2.2.2.1;have B1:=i.2.2.2.2
  refine zJ (fun (cl3:tf)=>[oR a,oI n,oR p,oR o,oR ta,oR th,v6,oR o2,oR o3,none]) (fun cl3 H'=>H' p=some (.tup [.int w',.int h',.int l'])∧Pr t.jl H' o dx c d ta th w' h' l' cl hl∧Pr t.jl H' o2 dx2 c2 d2 ta th w' h' l' cl hl∧Bx t.jl H' o3 dx3 c3 d3 w' h' l' cl3 hl3) (fun B hB=>?_) ?_
  ·refine jT B1.eo (Jj (.int w') (jw.of hp) ⟨(w':Int),1,rfl,rfl,Jj (.int h') (jw.of hp) ⟨(h':Int),1,rfl,rfl,Jj (.int l') (jw.of hp) ⟨(l':Int),1,rfl,rfl,vL,fun q1 hq1=>⟨fW,fun q2 hq2=>?_⟩⟩⟩⟩)
   have s2:=jn (o:=.tup [.int ((w':Int) - 1),.int ((h':Int) - 1),.int ((l':Int) - 1)]) (jg.refl H1) hq1
   have e2:upd H1 q1 (.tup [.int ((w':Int) - 1),.int ((h':Int) - 1),.int ((l':Int) - 1)]) q1=some (.tup [.int ((w':Int) - 1),.int ((h':Int) - 1),.int ((l':Int) - 1)]):=je
   generalize upd H1 q1 (.tup [.int ((w':Int) - 1),.int ((h':Int) - 1),.int ((l':Int) - 1)])=H2 at s2 e2 hq2 ⊢
   have s3:=jn (o:=.lst [.ref q1]) (jg.refl H2) hq2
   have e3:upd H2 q2 (.lst [.ref q1]) q2=some (.lst [.ref q1]):=je
   generalize upd H2 q2 (.lst [.ref q1])=H3 at s3 e3 ⊢
   have s13:=jg.trans s2 s3
   have B3:=B1.same s13
   refine uH B3.ec fun cs ec vc pc=>?_
   have C3:jV H3 [q1] [((w':Int) - 1,(h':Int) - 1,(l':Int) - 1)]:=jV.nil.snoc (c:=((w':Int) - 1,(h':Int) - 1,(l':Int) - 1)) (s3 _ _ e2)
   refine⟨o3,dx3,c3,d3,q2,[q1],[((w':Int) - 1,(h':Int) - 1,(l':Int) - 1)],w',h',l',cs,rfl,B3.eo,e3,C3,ec,List.all_eq_true.mpr fun c hc=>by rw [List.mem_singleton.mp hc];exact UN.mpr ⟨⟨by dsimp only;omega,by dsimp only;omega⟩,⟨by dsimp only;omega,by dsimp only;omega⟩,by dsimp only;omega,by dsimp only;omega⟩,?_⟩
   obtain⟨r1,r2,b3⟩:=wc (R1.same s13) (S1.same s13) B3 (Uv (m:=[((w':Int) - 1,(h':Int) - 1,(l':Int) - 1)]) vc) (Ud (m:=[((w':Int) - 1,(h':Int) - 1,(l':Int) - 1)]) pc)
   exact hB _ _ ⟨by rw [ji (jX (s13 _ _ hp) ec (fun z=>nomatch z))];exact s13 _ _ hp,r1,r2,b3⟩
  intro cl3 H1 i
  have hp:=i.1;have R1:=i.2.1;have S1:=i.2.2.1;have B1:=i.2.2.2
  refine ZL ([oR a,oI n,oR p,oR o,oR ta,oR th,v6,oR o2,oR o3,none]) (fun H'=>H' p=some (.tup [.int w',.int h',.int l'])∧Pr t.jl H' o dx c d ta th w' h' l' cl hl∧Pr t.jl H' o2 dx2 c2 d2 ta th w' h' l' cl hl) (fun B hB=>?_) ?_
  ·refine uH B1.ed fun ds ed vd pd=>?_
   have lds:=UF pd
   refine jT B1.eo (Jj (.int w') (jw.of hp) ⟨(w':Int),1,rfl,rfl,Jj (.int h') (jw.of hp) ⟨(h':Int),1,rfl,rfl,o3,dx3,c3,d3,w',h',l',(w':Int) - 1,(h':Int) - 1,ds,rfl,B1.eo,ed,by omega,fun _ q1 hq1=>?_,fun z=>absurd (uT (w:=(w':Int)) (h:=(h':Int)) (p:=((w':Int) - 1,(h':Int) - 1)).mpr ⟨⟨by dsimp only;omega,by dsimp only;omega⟩,by dsimp only;omega,by dsimp only;omega⟩) (by rw [z];decide)⟩⟩)
   have s2:=jn (o:=.tup [.int ((w':Int) - 1),.int ((h':Int) - 1)]) (jg.refl H1) hq1
   obtain⟨r1,r2,b3⟩:=wdd (R1.same s2) (S1.same s2) (B1.same s2) (vo (k:=k2 ((w':Int) - 1,(h':Int) - 1)) vd) (VI (fun _ _=>uA) (a:=((w':Int) - 1,(h':Int) - 1)) pd)
   exact hB _ ⟨by rw [ji (jX (s2 _ _ hp) (s2 _ _ ed) (fun z=>nomatch z))];exact s2 _ _ hp,r1,r2⟩
  intro H1 i
  have hp:=i.1;have R1:=i.2.1;have S1:=i.2.2
  refine ZL ([oR a,oI n,oR p,oR o,oR ta,oR th,v6,oR o2,oR o3,none]) (fun H'=>H' p=some (.tup [.int w',.int h',.int l'])∧Pr t.jl H' o dx c d ta th w' h' l' cl hl∧Pr t.jl H' o2 dx2 c2 d2 ta th w' h' l' cl hl) (fun B hB=>?_) ?_
  ·exact⟨_,rfl,_,rfl,_,rfl,_,rfl,Uy.mk S1 hp fun H2 s2=>⟨true,rfl,Jx ⟨_,rfl,_,rfl,_,rfl,_,rfl,Uy.mk (R1.same s2) (s2 _ _ hp) fun H3 s3=>⟨true,rfl,Jx (hB _ ⟨s3 _ _ (s2 _ _ hp),(R1.same s2).same s3,(S1.same s2).same s3⟩)⟩⟩⟩⟩
  intro H1 i
  have hp:=i.1;have R1:=i.2.1;have S1:=i.2.2
  refine cF (fun (bq b1 b2:Addr)=>[oR a,oI n,oR p,oR o,oR ta,oR th,v6,oR o2,oR o3,oR bq]) (fun bq b1 b2 H'=>H' p=some (.tup [.int w',.int h',.int l'])∧Pr t.jl H' o dx c d ta th w' h' l' cl hl∧Pr t.jl H' o2 dx2 c2 d2 b1 b2 w' h' l' cl hl∧H' bq=some (.tup [.ref b1,.ref b2])∧(b1≠c∧b1≠d∧b1≠ta∧b1≠th)∧(b2≠c∧b2≠d∧b2≠ta∧b2≠th)) (fun B hB=>?_) ?_
  ·refine uH R1.T fun ts et vt pt=>?_
   refine uH R1.U fun us eu vu pu=>?_
   refine⟨_,rfl,ta,ts,rfl,et,dG Cc pt,fun b1 hb1=>?_⟩
   have s2:=jn (o:=.dT ts) (jg.refl H1) hb1
   have e2:upd H1 b1 (.dT ts) b1=some (.dT ts):=je
   generalize upd H1 b1 (.dT ts)=H2 at s2 e2 ⊢
   refine⟨_,rfl,th,us,rfl,s2 _ _ eu,dF Cc pu,fun b2 hb2=>?_⟩
   have s3:=jn (o:=.dT us) (jg.refl H2) hb2
   have e3:upd H2 b2 (.dT us) b2=some (.dT us):=je
   generalize upd H2 b2 (.dT us)=H3 at s3 e3 ⊢
   refine⟨UQ,fun bq hbq=>?_⟩
   have s4:=jn (o:=.tup [.ref b1,.ref b2]) (jg.refl H3) hbq
   have s14:=jg.trans s2 (jg.trans s3 s4)
   have k1:=R1.ne0 hb1
   have k2':=(R1.same s2).ne0 hb2
   have j1:=S1.ne0 hb1
   have j2:=(S1.same s2).ne0 hb2
   have S4:=S1.same s14
   exact hB bq b1 b2 _ ⟨s14 _ _ hp,R1.same s14,⟨S4.B,⟨ts,s4 _ _ (s3 _ _ e2),vt,pt⟩,⟨us,s4 _ _ e3,vu,pu⟩,Cc,j1.1.symm,j1.2.1.symm,j2.1.symm,j2.2.1.symm,jq e2 hb2⟩,je,⟨k1.1.symm,k1.2.1.symm,k1.2.2.1.symm,k1.2.2.2.symm⟩,k2'.1.symm,k2'.2.1.symm,k2'.2.2.1.symm,k2'.2.2.2.symm⟩
  have c2n:c2≠c∧c2≠d∧c2≠ta∧c2≠th:=⟨x1.1.symm,x1.2.symm,S1.n1.symm,S1.n3.symm⟩
  have d2n:d2≠c∧d2≠d∧d2≠ta∧d2≠th:=⟨x2.1.symm,x2.2.symm,S1.n2.symm,S1.n4.symm⟩
  intro bq b1 b2 H1 i
  have hp:=i.1;have R1:=i.2.1;have S1:=i.2.2.1;have ebq:=i.2.2.2.1;have z1:=i.2.2.2.2.1;have z2:=i.2.2.2.2.2
  refine sL (fun (cl':tf) (hl':ti)=>[oR a,oI n,oR p,oR o,oR ta,oR th,v6,oR o2,oR o3,oR bq]) (fun cl' hl' H'=>H' p=some (.tup [.int w',.int h',.int l'])∧Pr t.jl H' o dx c d ta th w' h' l' cl' hl'∧Pr t.jl H' o2 dx2 c2 d2 b1 b2 w' h' l' cl hl∧H' bq=some (.tup [.ref b1,.ref b2])) (fun B hB=>?_) ?_
  ·refine⟨_,rfl,_,rfl,_,rfl,_,rfl,n,432,rfl,rfl,⟨by decide,by decide⟩,_,rfl,o,dx,c,d,ta,th,p,w',h',l',n / 432,cl,hl,rfl,R1,hp,fun cl' hl' H2 f2 R2=>?_⟩
   have kp:=R1.ne hp (fun _ z=>nomatch z)
   have kb:=R1.ne ebq (fun _ z=>nomatch z)
   have ko:=R1.ne S1.B.eo (fun _ z=>nomatch z)
   exact hB cl' hl' _ ⟨f2 _ _ kp.1 kp.2.1 kp.2.2.1 kp.2.2.2 hp,R2,⟨S1.B.off4 f2 ko c2n d2n,S1.T.off4 f2 z1,S1.U.off4 f2 z2,S1.C,S1.n1,S1.n2,S1.n3,S1.n4,S1.n5⟩,f2 _ _ kb.1 kb.2.1 kb.2.2.1 kb.2.2.2 ebq⟩
  intro cl' hl' H1 i
  have hp:=i.1;have R1:=i.2.1;have S1:=i.2.2.1;have ebq:=i.2.2.2
  refine ZL ([oR a,oI n,oR p,oR o,oR ta,oR th,v6,oR o2,oR o3,oR bq]) (fun H'=>Pr t.jl H' o dx c d ta th w' h' l' cl' hl'∧Pr t.jl H' o2 dx2 c2 d2 b1 b2 w' h' l' cl hl∧H' bq=some (.tup [.ref b1,.ref b2])) (fun B hB=>?_) ?_
  ·exact⟨_,rfl,_,rfl,_,rfl,_,rfl,Uy.mk R1 hp fun H2 s2=>⟨true,rfl,Jx ⟨_,rfl,Jj (.ref b1) (jw.of (s2 _ _ ebq)) (Jj (.ref b2) (jw.of (s2 _ _ ebq)) ⟨_,rfl,Uy.mk (S1.same s2) (s2 _ _ hp) fun H3 s3=>⟨true,rfl,Jx (hB _ ⟨(R1.same s2).same s3,(S1.same s2).same s3,s3 _ _ (s2 _ _ ebq)⟩)⟩⟩)⟩⟩⟩
  intro H1 i
  have R1:=i.1;have S1:=i.2.1;have ebq:=i.2.2
  refine jT R1.B.eo ⟨_,rfl,o,dx,c,d,o2,dx2,c2,d2,_,_,_,_,_,_,cl',cl,hl',hl,rfl,R1.B,S1.B,R1.C.nc,R1.C.nh,fun b H2 s2 ib=>⟨_,rfl,_,rfl,_,rfl,UQ,fun q1 hq1=>?_⟩⟩
  have s3:=jn (o:=.tup [.ref ta,.ref th]) s2 hq1
  refine uH ((S1.same s3).T) fun n1' f1 v1 p1=>?_
  refine uH ((S1.same s3).U) fun n2' f2 v2 p2=>?_
  refine uH ((R1.same s3).T) fun m1' f3 v3 p3=>?_
  refine uH ((R1.same s3).U) fun m2' f4 v4' p4=>?_
  refine⟨bq,q1,b1,b2,ta,th,n1',n2',m1',m2',rfl,rfl,jw.of (s3 _ _ ebq),jw.of je,f1,f2,f3,f4,v1,v2,v3,v4',fA p1,fw p2,fA p3,fw p4,z1.2.2.1,z2.2.2.2,?_⟩
  have eb:b=(Jl n1' m1'&&Jl n2' m2'):=by
   rw [Bool.eq_iff_iff,ib,Bool.and_eq_true,V7 (p1.nodup_iff.mpr (uC (fun a b=>Uf) Cc.nc)),V7 (p2.nodup_iff.mpr (uC (fun a b=>uA) Cc.nh))]
   constructor
   ·rintro⟨_,g1,g2⟩
    exact⟨p1.trans ((g1.symm.map k3).trans p3.symm),p2.trans ((g2.symm.map k2).trans p4.symm)⟩
   ·rintro⟨g1,g2⟩
    exact⟨⟨rfl,rfl,rfl⟩,Yb (fun a b=>Uf) (p3.symm.trans (g1.symm.trans p1)),Yb (fun a b=>uA) (p4.symm.trans (g2.symm.trans p2))⟩
  rw [eb]
  exact⟨_,rfl,q _⟩
theorem law_fn (T:Txt K mg t) {h:Heap} (KX:K.In h) (hT:∀p∈[t.j8],h.get? p=some (tabObj #[])):∃(fd:FuncData) (tabs:tD),(∀(s:Shared) (u:Value),BindsTo s fd ⟨[u],[]⟩ [("_law_script",u)])∧(∀p∈tabs,isCodeTable h p∧h.get? p=some (tabObj #[])∧K.lookup p=none) ∧
  ∀base:Heap,K.In base→base.Ns mainGlobals mg→yK mg base→uQ P w K mg base (XC P w) 9 t.gE fd ["_law_script"] (Kv K tabs):=by
 obtain⟨fd,F,b⟩:=T.qD
 refine⟨fd,yH t,b,fun p hp=>⟨?_,hT p hp,?_⟩,fun base _ _ hB=>law_ok T hB F⟩
 ·obtain rfl:p=t.j8:=by simpa [yH] using hp
  exact ((codeHd_of_K KX T.Yu).tab (hT _ hp)).isCodeTable
 ·obtain rfl:p=t.j8:=by simpa [yH] using hp
  exact T.Kc
end
theorem walk {l:PySem.W.OpenLaw}{q:tM}{loose:tH}{XP:(Str→Option Value)→Heap→Prop}{YP:World→Heap→Prop}{d:DefRec}{K:Params→PySem.W.Frag} (hn:l.most=some 63) (hdf:d.params.defaults=[])
  (hY:∀(w:World) (h:Heap),YP w h→(K w.params).In h)
  (F:∀(w:World) (mg:tj) (fa:Addr) (h:Heap),YP w h→(K w.params).In h→h.Ns mainGlobals mg→mg d.name=some (.ref fa) →
   ∃(fd:FuncData) (tabs:tD),(∀(s:Shared) (u:Value),BindsTo s fd ⟨[u],[]⟩ [("_law_script",u)])∧(∀p∈tabs,isCodeTable h p∧h.get? p=some (tabObj #[])∧(K w.params).lookup p=none) ∧
    ∀base:Heap,(K w.params).In base→base.Ns mainGlobals mg→yK mg base→uQ l.prog w (K w.params) mg base (XC l.prog w) 9 fa fd ["_law_script"] (Kv (K w.params) tabs)) :
  PySem.W.WalkO q loose XP YP l.row.toRowW d [] (fun f vs=>PySem.call f vs) :=
 L2.walk_ofT (n:=63) (k:=9) (x:="_law_script") (sp:=Kv) hn (by decide) hdf ⟨fun _=>rfl,by decide,by decide⟩ hY F fun K tabs H a ns hl hS hT=>⟨a,ns,rfl,hS,hl,hT,fun _=>rfl⟩
end K11
open PySem PySem.W PyProof.Rows
set_option maxRecDepth 100000 in
set_option maxHeartbeats 0 in
theorem PySem.Challenge.cw_copperbook_k11_boards_by_cells_holds : PySem.Challenge.rw_copperbook_k11_boards_by_cells.Holds := by
 w_on;o_law;k_head;(case hw=>w_witness2)
 k_fill
 refine K11.walk (l:=PySem.Challenge.rw_copperbook_k11_boards_by_cells) rfl rfl (fun w h Y=>PySem.W.km_in_of Y) ?F
 case F =>
  intro w mg fa h Y KX G hmg
  have hT8:=PySem.W.km_tabs_of Y
  have TT:∃t:K11.Adr,K11.Txt (L2.KOf KX) mg t∧∀p∈[t.j8],h.get? p=some (tabObj #[]):=by
   dsimp only [L2.KOf]
   open L2 K11 in refine' ⟨⟨_,_,_,_,_,_,_,_,_,_,_,_,_,_,_,_,_,_,_,_,_,_,_,_,_,_,_,_,_,_,_,_,_,_,_,_,_,_,_,_,_,_,_,_,_,_,_,_,_,_,_,_,_,_,_,_,_,_,_,_,_,_⟩,⟨mg_of KX G ?_,mg_of KX G ?_,mg_of KX G ?_,mg_of KX G ?_,⟨?_,?_,?_,?_⟩,Va ?_,Va ?_,Va ?_,Va ?_,Va ?_,⟨?_,?_,?_,?_⟩,Va ?_,Va ?_,Va ?_,Va ?_,⟨?_,?_,?_,?_⟩,Va ?_,Va ?_,⟨?_,?_,?_,?_⟩,Va ?_,Va ?_,Va ?_,Va ?_,Va ?_,mg_of KX G ?_,⟨?_,?_,?_,?_⟩,⟨?_,?_,?_⟩,⟨?_,?_,?_⟩,⟨?_,?_,?_⟩,⟨?_,?_,?_⟩,⟨?_,?_,?_⟩,⟨?_,?_,?_⟩,⟨?_,?_,?_⟩,⟨?_,?_,?_⟩,⟨?_,?_,?_⟩,⟨?_,?_,?_⟩,⟨?_,?_,?_⟩,⟨?_,?_,?_⟩,⟨?_,?_,?_⟩,⟨?_,?_,?_⟩,⟨?_,?_,?_⟩,⟨?_,?_,?_⟩,⟨?_,?_,?_⟩,⟨?_,?_,?_⟩,⟨?_,?_,?_⟩,mg_of KX G ?_,⟨?_,?_,?_,?_⟩,⟨?_,?_,?_⟩,⟨?_,?_,?_⟩,⟨?_,?_,?_,?_⟩,⟨?_,?_,?_⟩,⟨?_,?_,?_⟩,⟨?_,?_,?_,?_⟩,⟨?_,?_,?_⟩,⟨?_,?_,?_⟩,⟨?_,?_,?_⟩,mg_of KX G ?_,mg_of KX G ?_,mg_of KX G ?_,mg_of KX G ?_,mg_of KX G ?_,mg_of KX G ?_,mg_of KX G ?_,mg_of KX G ?_,mg_of KX G ?_,mg_of KX G ?_,mg_of KX G ?_,mg_of KX G ?_,mg_of KX G ?_,mg_of KX G ?_,mg_of KX G ?_,mg_of KX G ?_,mg_of KX G ?_,mg_of KX G ?_,mg_of KX G ?_,⟨mg_of KX G ?_,?_⟩,⟨mg_of KX G ?_,?_⟩,⟨mg_of KX G ?_,?_⟩,mg_none_of KX G ?_,mg_none_of KX G ?_,mg_none_of KX G ?_,mg_none_of KX G ?_,mg_none_of KX G ?_,mg_none_of KX G ?_,mg_none_of KX G ?_,mg_none_of KX G ?_,mg_none_of KX G ?_,mg_none_of KX G ?_,mg_none_of KX G ?_,mg_none_of KX G ?_,mg_none_of KX G ?_,mg_none_of KX G ?_,mg_of KX G ?_,mg_of KX G ?_,mg_of KX G ?_,mg_of KX G ?_,mg_of KX G ?_,JF ?_ ?_ ?_,bB ?_ ?_ ?_ ?_ ?_,bB ?_ ?_ ?_ ?_ ?_,JF ?_ ?_ ?_,sD ?_ ?_ ?_ ?_ ?_ ?_,bB ?_ ?_ ?_ ?_ ?_,bB ?_ ?_ ?_ ?_ ?_,bB ?_ ?_ ?_ ?_ ?_,JF ?_ ?_ ?_,JF ?_ ?_ ?_,JF ?_ ?_ ?_,JF ?_ ?_ ?_,JF ?_ ?_ ?_,JF ?_ ?_ ?_,JF ?_ ?_ ?_,JF ?_ ?_ ?_,JF ?_ ?_ ?_,JF ?_ ?_ ?_,JF ?_ ?_ ?_,JF ?_ ?_ ?_,JF ?_ ?_ ?_,JF ?_ ?_ ?_,JF ?_ ?_ ?_,JF ?_ ?_ ?_,JF ?_ ?_ ?_,JF ?_ ?_ ?_,JF ?_ ?_ ?_,JF ?_ ?_ ?_,JF ?_ ?_ ?_,JF ?_ ?_ ?_,JF ?_ ?_ ?_,JF ?_ ?_ ?_,JF ?_ ?_ ?_,JF ?_ ?_ ?_,JF ?_ ?_ ?_,JF ?_ ?_ ?_,JF ?_ ?_ ?_,JF ?_ ?_ ?_,JF ?_ ?_ ?_,JF ?_ ?_ ?_,JF ?_ ?_ ?_,JF ?_ ?_ ?_,JF ?_ ?_ ?_,JF ?_ ?_ ?_,JF ?_ ?_ ?_,JF ?_ ?_ ?_,⟨_,mB ?_ ?_ ?_,fun s u=>.of_eq rfl⟩,?_,?_,sA ?_ (by decide) ⟨_,rfl⟩ ⟨_,rfl⟩⟩,List.forall_mem_cons.mpr ⟨?_,fun _ h=>nomatch h⟩⟩
   all_goals
    try dsimp only
    first|k_is|k_exc|exact⟨_,rfl⟩|exact hT8 _ (by decide)|exact rfl|kernel_rfl|skip
  obtain⟨t,T,hT⟩:=TT
  have e:=hmg.symm.trans T.qL
  cases e
  exact K11.law_fn T KX hT
