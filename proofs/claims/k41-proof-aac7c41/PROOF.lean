import PyProof.Rows.All
import Wide.All
import OpenK.AllK
import Wide.FinOn
import PyProof.Seq
import PyProof.RangeIter
import PyProof.TupleIter
import PyProof.StrLoop
import PyProof.WalkInts
import PyProof.StationsW
import PyProof.ZipIter
import PyProof.ListNew
import Lean
import PyProof.EqAt
import PyProof.EqKinds
import PyProof.TupleCall
import PyProof.NeKinds
import KE.IntTextLaws
import KE.KIntText
import PyProof.Draws
import PyProof.EnumMake
import PyProof.EnumFor
import PyProof.NsDelKeeps
import PyProof.Rows.StrFit
import PyProof.Rows.SortShellK
import PyProof.DictKinds
import KE.KDictList
import PyProof.DictWalks
import KE.KEqDict
import PyProof.RaisesDict
import PySem.SetOps
import PyProof.FactsAll.set_1
import PyProof.FactsAll.set_2
import PyProof.LongRange
import PyProof.MaxThree
import KE.KDictOf
import PyProof.AttrMissHeap
import KE.KItemsList
import KE.KDictLaws
import PyProof.Rows.IntBool
import PySem.Challenge.RW_copperbook_k41_what_is_a_drawing
set_option Elab.async false
set_option linter.all false
set_option maxRecDepth 100000
open PySem.W (CodeHd Frag InstAt KdlSrc callWith_K cellsFrom_some codeHdIn codeHd_of_K codeIn emptyDict envX exmOne exm_one fnOf handedIn hasDictIn hideAll hideAll_get hideAll_none instObj isFn keepIn kitx_dict kitx_list kla_fn kla_obj lookIn makesIn methodCall_KW methodObj mg_none_of mg_of nsIn of_hideAll plainGet plainGet_of plainOver tabObj takerIn typeIn)
section
open PySem PySem.Spec PyProof.Rows
abbrev oh:=Value→Shared→Prop
abbrev oj:=Unit→Shared→Prop
abbrev om:=Bool→Shared→Prop
abbrev oo:=Option Value→Shared→Prop
abbrev oq:=PySem.W.Frag
abbrev ou:=List (Int×Int×Int)
abbrev ow:=List (Int×Int)
abbrev ox:=Str→Option Value
abbrev oy:=List (Addr×Obj)
abbrev oz:=Array Keyed
abbrev oA:=List Value
abbrev oB:=List Addr
abbrev oC:=List (Str×Addr)
abbrev oE:=Array (Int×Value)
abbrev oF:=Array (Option Value)
abbrev oG:=List Str
abbrev oH:=Array Value
abbrev oI:=List Expr
abbrev oJ:=Array (Option Nat)
abbrev oK:=Option Addr
abbrev oM:=Program
abbrev oN:=@PySem.wpAny_bind
abbrev oO:=@PySem.wpAny_pure
end
/- These names keep the theorem's opening from writing out equations that only make the build larger: what is built must stay
   below 64 MiB. They say nothing and are used nowhere. -/
namespace PySem.W.Fast
def tw13599249753170143182:=0
def tw2207258051178619768:=0
def tw16855995033946681057:=0
def tw17121841639845915034:=0
def tw5840180860644087559:=0
def tw7182911910065045201:=0
def tw994901239887926575:=0
def tw1270101867033553222:=0
def tw14601191861081239748:=0
def tw2209128212975552864:=0
def tw9157666604291721257:=0
def tw7013360424248786887:=0
def tw1268642294912680247:=0
def tw17815320679745350767:=0
def tw8639940326735746228:=0
def tw103996913030667671:=0
def tw15491776478184836289:=0
def tw8358951370434135830:=0
def tw4073977913827517314:=0
def tw1365142664588965671:=0
def tw6530922954934878976:=0
def tw10765514931241873974:=0
def tw6987524030375138863:=0
def tw12648668750456904511:=0
def tw7587894081370078218:=0
def tw10692867058886622711:=0
def tw11078079079695961157:=0
def tw4086004817767013566:=0
def tw16175091083511437398:=0
def tw17448408724636547079:=0
def tw1572623558870873456:=0
def tw15039476578290782730:=0
def tw196867915711289730:=0
def tw15636141714909058535:=0
def tw14440744400275776875:=0
def tw17560617380659903625:=0
def tw13832766459457536412:=0
def tw14545130672956794807:=0
def tw17419049731190053823:=0
def tw6345995225206851007:=0
def tw10104051781989367790:=0
def tw6190118005189814422:=0
def tw13175593232199521799:=0
def tw779142384765388115:=0
def tw7034275060175471878:=0
def tw2096249170982566244:=0
def tw41331963660653788:=0
def tw17790539817449876055:=0
def tw17482726595392311547:=0
def tw13490957240161089522:=0
def tw1266215134616735185:=0
def tw14102184971987025100:=0
def tw5556965289677061886:=0
def tw1821357422172557981:=0
def tw2101975079342844078:=0
def tw1853516782468066011:=0
def tw10746820089868460176:=0
def tw5554383208646075839:=0
def tw4296923822221379418:=0
def tw6034675612570541622:=0
def tw6716595487835634068:=0
def tw7948044404472244721:=0
def tw10950857316647882575:=0
def tw2010277453035377691:=0
def tw3312870756841538614:=0
def tw7178618577124460119:=0
def tw15773205121073133633:=0
def tw15789682647738964494:=0
def tw16745001691120515775:=0
def tw12033038139643857061:=0
def tw9175264409876078694:=0
def tw1173526374170092295:=0
def tw14185423864218216102:=0
def tw2558244962450913204:=0
def tw2651110802050885609:=0
def tw11527789485899862678:=0
def te8078197750646575915:=0
end PySem.W.Fast
namespace L2
open PySem
inductive Zl (h:Heap) (D:oB):Value→Prop
 | nil:Zl h D .none
 | cons {b:Addr} {ob:Obj} {us:oH} {c:Value}:b∈D→h.get? b=some ob→ob.data=.fields us→us[2]?=some c→Zl h D c→Zl h D (.ref b)
theorem Zl.kept {h h':Heap}{D D':oB}{v:Value} (n:Zl h D v) (k:∀b∈D,∀o,h.get? b=some o→h'.get? b=some o) (d:∀b∈D,b∈D'):Zl h' D' v:=by
 induction n with
 | nil=>exact .nil
 | cons q1 q2 q3 q4 _ ih=>exact .cons (d _ q1) (k _ q1 _ q2) q3 q4 ih
theorem Zl.small {h:Heap}{D:oB}{v:Value} (n:Zl h D v):∃D',Zl h D' v∧∀b∈D',∃(o:Obj) (us:oH),h.get? b=some o∧o.data=.fields us∧2<us.size:=by
 induction n with
 | nil=>exact⟨[],.nil,fun b hb=>absurd hb (by simp)⟩
 | @cons b ob us c q1 q2 q3 q4 _ ih =>
  obtain⟨D',m,l⟩:=ih
  refine⟨b::D',.cons (by simp) q2 q3 q4 (m.kept (fun _ _ _ e=>e) fun d hd=>List.mem_cons_of_mem _ hd),fun d hd=>?_⟩
  rcases List.mem_cons.mp hd with rfl|hd
  ·exact⟨ob,us,q2,q3,(Array.getElem?_eq_some_iff.mp q4).1⟩
  ·exact l d hd
def Mz (A:Around) (h:Heap) (D:oB):Prop:=A.handled=none∨∃ea:Addr,A.handled=some (.ref ea)∧Zl h D (.ref ea)
def ZD (A:Around) (h:Heap):Prop:=∃D,Mz A h D
theorem Mz.keptD {A:Around}{h h':Heap}{D:oB} (n:Mz A h D) (k:∀b∈D,∀o,h.get? b=some o→h'.get? b=some o):Mz A h' D:=by
 rcases n with z|⟨ea,h1,h2⟩
 ·exact .inl z
 ·exact .inr ⟨ea,h1,h2.kept k fun _ q=>q⟩
theorem ZD.small {A:Around}{h:Heap} (n:ZD A h):∃D,Mz A h D∧∀b∈D,∃(o:Obj) (us:oH),h.get? b=some o∧o.data=.fields us∧2<us.size:=by
 obtain⟨D,n⟩:=n
 rcases n with z|⟨ea,h1,h2⟩
 ·exact⟨[],.inl z,fun b hb=>absurd hb (by simp)⟩
 ·obtain⟨D',m,l⟩:=h2.small
  exact⟨D',.inr ⟨ea,h1,m⟩,l⟩
theorem ZD.but {A:Around}{h h':Heap}{it:Addr} (n:ZD A h) (k:Heap.SameBut it h h') (ne:∃(o:Obj) (us:oH),h.get? it=some o∧o.data=.fields us∧us.size≤2):ZD A h':=by
 obtain⟨D,n,l⟩:=n.small
 refine⟨D,n.keptD fun b hb o e=>(k.2 b fun q=>?_).trans e⟩
 obtain⟨o1,us1,e1,e2,e3⟩:=l b hb
 obtain⟨o2,us2,f1,f2,f3⟩:=ne
 rw [q,f1] at e1;cases e1
 rw [f2] at e2;cases e2
 omega
theorem KL:entryFor table "proto.unchain"=some Builtin.«proto.unchain»:=entryFor_of_tree (by kernel_rfl)
section
variable {prog:oM}{w:World}{A:Around}{E:oh}{s:Shared}
inductive gU (h:Heap):Addr→Addr→Prop
 | refl (a:Addr):gU h a a
 | step {a b o:Addr} {ob:Obj} {us:oH}:h.get? a=some ob→ob.data=.fields us→us[2]?=some (.ref b)→gU h b o→gU h a o
theorem gU.snoc {h:Heap}{a o b:Addr}{ob:Obj}{us:oH} (p:gU h a o) (h1:h.get? o=some ob) (h2:ob.data=.fields us) (h3:us[2]?=some (.ref b)):gU h a b:=by
 induction p with
 | refl a=>exact .step h1 h2 h3 (.refl b)
 | step q1 q2 q3 _ ih=>exact .step q1 q2 q3 (ih h1)
def iT (h:Heap) (a o:Addr):Prop:=∃(b:Addr) (ob:Obj) (us:oH),h.get? a=some ob∧ob.data=.fields us∧us[2]?=some (.ref b)∧gU h b o
theorem gU.far {h:Heap}{a o b:Addr}{ob:Obj}{us:oH} (p:gU h a o) (h1:h.get? o=some ob) (h2:ob.data=.fields us) (h3:us[2]?=some (.ref b)):iT h a b:=by
 cases p with
 | refl=>exact⟨b,ob,us,h1,h2,h3,.refl b⟩
 | step q1 q2 q3 p=>exact⟨_,_,_,q1,q2,q3,p.snoc h1 h2 h3⟩
theorem Ng {e:Addr}{D:oB}{R:Result→Shared→Prop} (new:e ∉ D) (h:R (.ok (.ret .none)) s) {v:Value} (n:Zl s.heap D v):∀(o slow:Addr) (tg:Bool),v=.ref o→gU s.heap slow o→(tg=true→iT s.heap slow o) →
  codeAny (model prog w) A (.builtin "proto.unchain" ⟨[.ref e,.ref o,.ref slow,.bool tg],[]⟩) R s:=by
 induction n with
 | nil=>intro o slow tg q;cases q
 | @cons b ob us c q1 q2 q3 q4 m ih =>
  intro o slow tg q p far
  cases q
  refine codeAny_builtin KL ?_
  unfold Builtin.«proto.unchain»
  dsimp only
  refine oN (wpAny_field q2 q3 (x:=c) q4 ?_)
  cases m with
  | nil=>exact oO h
  | @cons b2 ob2 us2 c2 r1 r2 r3 r4 m2 =>
   have nbe:b2≠e:=fun q=>new (q▸r1)
   rw [if_neg (show ¬((Value.ref b2==Value.none)=true) from Bool.false_ne_true),if_neg (show ¬((Value.ref b2==Value.ref e)=true) by simpa using nbe)]
   by_cases hs:b2=slow
   ·subst hs
    rw [if_pos (by simp)]
    exact oN (wpAny_rule (oO h))
   ·rw [if_neg (show ¬((Value.ref b2==Value.ref slow)=true) by simpa using hs)]
    cases tg with
    | false=>exact oN (oO (oO ⟨Code.quiet_builtin _ (by decide +kernel),ih b2 slow true rfl (p.snoc q2 q3 q4) fun _=>p.far q2 q3 q4⟩))
    | true =>
     obtain⟨b3,ob3,us3,f1,f2,f3,p3⟩:=far rfl
     exact oN (wpAny_field f1 f2 (x:=.ref b3) f3 (oO ⟨Code.quiet_builtin _ (by decide +kernel),ih b2 b3 false rfl (p3.snoc q2 q3 q4) fun z=>by cases z⟩))
theorem bD {α:Type}{Q:α→Shared→Prop}{e:Addr}{oe:Obj}{vs:oH}{D:oB} (hn:Mz A s.heap D) (he:s.heap.get? e=some oe) (hd:oe.data=.fields vs) (h2:2<vs.size)
  (new:e ∉ D)
  (h:∀h',(h'=s.heap∧A.handled=none)∨(∃ea,A.handled=some (.ref ea)∧h'=s.heap.update e (Obj.mapFields (·.setIfInBounds 2 (.ref ea))))→Heap.SameBut e s.heap h'→(∃o,h'.get? e=some o∧o.cls=oe.cls)→E (.ref e) { s with heap:=h' }):wpAny (model prog w) A (raiseNew (.ref e):Sem α) Q E s:=by
 unfold raiseNew
 refine oN (wpAny_handled ?_)
 rcases hn with z|⟨ea,z,n⟩
 ·rw [z]
  exact oN (oO (wpAny_throw (h s.heap (.inl ⟨rfl,z⟩) ⟨rfl,fun _ _=>rfl⟩ ⟨oe,he,rfl⟩)))
 ·have ne:ea≠e:=fun q=>by cases n with|cons q1=>exact new (q▸q1)
  rw [z]
  dsimp only
  have hne:(Value.ref ea != Value.ref e)=true:=by
   rw [bne_iff_ne];intro q;exact ne (Value.ref.inj q)
  rw [hne]
  have wf:∀{P:oj},P () { s with heap:=s.heap.update e (Obj.mapFields (·.setIfInBounds 2 (.ref ea))) }→wpAny (model prog w) A (updateField e 2 (.ref ea)) P E s:=fun {P} q=>wpAny_setField he hd h2 q
  refine oN (wpAny_holding (wpAny_runValue (Ng new ?_ n ea ea false rfl (.refl ea) fun z=>by cases z)))
  exact oN (wf (wpAny_throw (h _ (.inr ⟨ea,z,rfl⟩) (Heap.SameBut.update ..) ⟨_,Heap.get?_update_self _ he (Obj.isFreed_of_fields (Obj.data_mapFields hd _)),Obj.cls_mapFields ..⟩)))
theorem gE {α:Type}{Q:α→Shared→Prop} (hn:ZD A s.heap) (h:∀h' e,(∀b o,s.heap.get? b=some o→h'.get? b=some o)→(∃o,h'.get? e=some o∧o.cls=.type "StopIteration")→E (.ref e) { s with heap:=h' }) :
  wpAny (model prog w) A (newExc (.type "StopIteration") []>>=fun x=>(raiseNew x:Sem α)) Q E s:=by
 refine oN ?_
 unfold newExc newTuple
 refine oN (wpAny_newObj_type ?_ (by show 0≤sizeLine;decide))
 refine oN (m:=firstArgMember (.type "StopIteration") []) (wpAny_of_eq (a:=Value.none) rfl (wpAny_newObj_type ?_ (by size_fits)))
 generalize hp:s.heap.push _=h1
 have k1:∀b o,s.heap.get? b=some o→h1.get? b=some o:=fun b o e=>hp▸Heap.get?_push_of_some _ e
 have k2:∀ob b o,h1.get? b=some o→(h1.push ob).get? b=some o:=fun ob b o e=>Heap.get?_push_of_some _ e
 obtain⟨D,nD,lD⟩:=hn.small
 refine bD (e:=h1.objs.size) (vs:=_) (D:=D) ((nD.keptD fun b _ o e=>k1 b o e).keptD fun b _ o e=>k2 _ b o e) (Heap.get?_push_size _ rfl) rfl (by show 2<6;decide) (fun q=>?_) fun h' _ sb ex=>h h' _ (fun b o e=>(sb.2 b ?_).trans (k2 _ b o (k1 b o e))) ex
 ·obtain⟨o,_,eo,_⟩:=lD _ q
  exact absurd (Heap.lt_size (k1 _ _ eo)) (Nat.lt_irrefl _)
 ·exact Nat.ne_of_lt (Heap.lt_size (k1 b o e))
theorem gF {Q:oo}{e:Addr} (ex:∃o,s.heap.get? e=some o∧o.cls=.type "StopIteration") (h:Q none s) :
  wpAny (model prog w) A (do if (←isInstance (.ref e) (.type "StopIteration"))=true then pure (none:Option Value) else throw (.ref e)) Q E s:=by
 obtain⟨o,h1,h2⟩:=ex
 refine oN (wpAny_isInstance (T:="StopIteration") (b:=true) ⟨o,h1,h2⟩ isSubtype_stop ?_)
 exact oO h
theorem cX {it l:Addr}{i:Nat}{items:oH}{Q:oo} (hn:ZD A s.heap) (hit:s.heap.IsListIter it l i) (hl:s.heap.IsList l items) (hx:items[i]?=none)
  (hQ:∀h',Heap.ExtBut it s.heap h'→Q none { s with heap:=h' }):wpAny (model prog w) A (pyNext (.ref it)) Q E s:=by
 obtain⟨o,ho,hc,hd⟩:=id hit
 obtain⟨ol,hol,_,nl,hdl⟩:=hl
 unfold pyNext
 refine oN (wpAny_attempt (wpAny_callSpecial?_slot (name:=Str.ofString "__next__") hit.typeIs slot_listiter_next (wpAny_call_entry slot_listiter_next hit.typeIs entry_listiter_next ?_ (args_listiter_next _))))
 refine (show ∀{R:Fin→Shared→Prop} {F:oh},wpAny (model prog w) A.in1 (field (.ref it) 0>>=_) R F s→wpAny (model prog w) A.in1 (Builtin.«list_iterator.__next__» _) R F s from fun z=>z) (oN (wpAny_field ho hd (x:=.ref l) rfl ?_))
 rw [if_neg (show ¬((Value.ref l==Value.none)=true) from Bool.false_ne_true)]
 refine oN (wpAny_field (i:=1) ho hd (x:=.int i 0) rfl (oN (wpAny_seqItems hol hdl ?_)))
 simp only [Int.toNat_natCast,hx]
 refine oN (wpAny_rule (oN (wpAny_setField ho hd (by simp) ?_)))
 have sb:Heap.SameBut it s.heap (s.heap.update it (Obj.mapFields (·.setIfInBounds 0 .none))):=Heap.SameBut.update ..
 refine gE (A:=A.in1) (s:={ s with heap:=_ }) (hn.but sb ⟨o,_,ho,hd,by simp⟩) fun h' e k ex=>gF (s:={ s with heap:=h' }) ex (hQ h' fun b o hb q=>k b o ((sb.2 b hb).trans q))
theorem bF {it:Addr}{x left step:Int}{Q:oo} (hn:ZD A s.heap) (hit:IsRangeIter s.heap it x left step) (hleft:left≤0)
  (hQ:∀h',Heap.ExtBut it s.heap h'→Q none { s with heap:=h' }):wpAny (model prog w) A (pyNext (.ref it)) Q E s:=by
 have hT:s.TypeIs (.ref it) "range_iterator":=⟨_,hit,rfl⟩
 unfold pyNext
 refine oN (wpAny_attempt (wpAny_callSpecial?_slot (name:=Str.ofString "__next__") hT F.slot_range_iterator_next (wpAny_call_entry F.slot_range_iterator_next hT F.entry_range_iterator_next ?_ (F.args_range_iterator_next_1 _))))
 refine (show ∀{R:Fin→Shared→Prop} {F:oh},wpAny (model prog w) A.in1 (field (.ref it) 0>>=_) R F s→wpAny (model prog w) A.in1 (Builtin.«range_iterator.__next__» _) R F s from fun z=>z) (oN (wpAny_field hit rfl (x:=rawInt x) rfl ?_))
 refine (show ∀{k:Value→Sem Fin} {R:Fin→Shared→Prop} {F:oh},wpAny (model prog w) A.in1 (k (rawInt left)) R F s→wpAny (model prog w) A.in1 (field (.ref it) 1>>=k) R F s from fun z=>oN (wpAny_field hit rfl (x:=rawInt left) rfl z)) ?_
 refine (show ∀{k:Value→Sem Fin} {R:Fin→Shared→Prop} {F:oh},wpAny (model prog w) A.in1 (k (rawInt step)) R F s→wpAny (model prog w) A.in1 (field (.ref it) 2>>=k) R F s from fun z=>oN (wpAny_field hit rfl (x:=rawInt step) rfl z)) ?_
 refine (show ∀{a b:Sem Fin} {R:Fin→Shared→Prop} {F:oh},wpAny (model prog w) A.in1 a R F s→wpAny (model prog w) A.in1 (if left≤0 then a else b) R F s from fun z=>by rw [if_pos hleft];exact z) ?_
 refine oN (wpAny_rule (oN ?_))
 exact gE (A:=A.in1) hn fun h' e k ex=>gF (s:={ s with heap:=h' }) ex (hQ h' fun b o _ q=>k b o q)
theorem aR {it:Addr}{x:Str}{t:Tok}{i:Nat}{Q:oo} (hn:ZD A s.heap) (hit:s.heap.IsStrIter it "str_ascii_iterator" x t i) (hx:x.cps[i]?=none)
  (hQ:∀h',Heap.ExtBut it s.heap h'→Q none { s with heap:=h' }):wpAny (model prog w) A (pyNext (.ref it)) Q E s:=by
 obtain⟨o,ho,hc,hd⟩:=id hit
 unfold pyNext
 refine oN (wpAny_attempt (wpAny_callSpecial?_slot (name:=Str.ofString "__next__") hit.typeIs F.slot_str_ascii_iterator_next (wpAny_call_entry F.slot_str_ascii_iterator_next hit.typeIs F.entry_str_ascii_iterator_next ?_ (F.args_str_ascii_iterator_next_1 _))))
 refine (show ∀{R:Fin→Shared→Prop} {F:oh},wpAny (model prog w) A.in1 (field (.ref it) 0>>=_) R F s→wpAny (model prog w) A.in1 (Builtin.«str_ascii_iterator.__next__» _) R F s from fun z=>z) (oN (wpAny_field ho hd (x:=.str x t) rfl ?_))
 refine oN (wpAny_of_eq (a:=some x) rfl ?_)
 refine oN (wpAny_field (i:=1) ho hd (x:=.int i 0) rfl ?_)
 simp only [Int.toNat_natCast,hx]
 refine oN (wpAny_rule (oN (wpAny_setField ho hd (by simp) (oN (wpAny_letGo ?_)))))
 have sb:Heap.SameBut it s.heap (s.heap.update it (Obj.mapFields (·.setIfInBounds 0 .none))):=Heap.SameBut.update ..
 refine gE (A:=A.in1) (s:={ s with heap:=_ }) (hn.but sb ⟨o,_,ho,hd,by simp⟩) fun h' e k ex=>gF (s:={ s with heap:=h' }) ex (hQ h' fun b o hb q=>k b o ((sb.2 b hb).trans q))
theorem dO {it:Addr}{x:Str}{t:Tok}{i:Nat}{Q:oo} (hn:ZD A s.heap) (hit:s.heap.IsStrIter it "str_iterator" x t i) (hx:x.cps[i]?=none)
  (hQ:∀h',Heap.ExtBut it s.heap h'→Q none { s with heap:=h' }):wpAny (model prog w) A (pyNext (.ref it)) Q E s:=by
 obtain⟨o,ho,hc,hd⟩:=id hit
 unfold pyNext
 refine oN (wpAny_attempt (wpAny_callSpecial?_slot (name:=Str.ofString "__next__") hit.typeIs F.slot_str_iterator_next (wpAny_call_entry F.slot_str_iterator_next hit.typeIs F.entry_str_iterator_next ?_ (F.args_str_iterator_next_1 _))))
 refine (show ∀{R:Fin→Shared→Prop} {F:oh},wpAny (model prog w) A.in1 (field (.ref it) 0>>=_) R F s→wpAny (model prog w) A.in1 (Builtin.«str_iterator.__next__» _) R F s from fun z=>z) (oN (wpAny_field ho hd (x:=.str x t) rfl ?_))
 refine oN (wpAny_of_eq (a:=some x) rfl ?_)
 refine oN (wpAny_field (i:=1) ho hd (x:=.int i 0) rfl ?_)
 simp only [Int.toNat_natCast,hx]
 refine oN (wpAny_rule (oN (wpAny_setField ho hd (by simp) (oN (wpAny_letGo ?_)))))
 have sb:Heap.SameBut it s.heap (s.heap.update it (Obj.mapFields (·.setIfInBounds 0 .none))):=Heap.SameBut.update ..
 refine gE (A:=A.in1) (s:={ s with heap:=_ }) (hn.but sb ⟨o,_,ho,hd,by simp⟩) fun h' e k ex=>gF (s:={ s with heap:=h' }) ex (hQ h' fun b o hb q=>k b o ((sb.2 b hb).trans q))
end
end L2
namespace L2
open PySem
def bX (h base:Heap) (e:Addr) (cls:Value) (a0:Value×Value) (fl:Value):Prop :=
 ∃oe vs T oT ts,h.get? e=some oe∧(oe.cls=cls∧vs[0]?=some a0.1∧vs[2]?=some a0.2)∧oe.data=.fields vs∧vs[1]?=some (.ref T)∧base.get? T=none∧T≠e∧h.get? T=some oT∧oT.data=.fields ts∧ts[3]?=some fl
structure zZ (base:Heap) (l:List Env) (e:Addr) (cls:Value) (a0:Value×Value) (fl:Value) (h h':Heap):Prop where
 st:base.StaysIn h'
 ff:h'.FunFrames base l
 tr:bX h' base e cls a0 fl
 up:h.UpToSlots h'
section
variable {M:Model}{A:Around}{E:oh}{s:Shared}{base:Heap}{env:Env}{outer:List Env}{L e:Addr}{cls:Value}{a0:Value×Value}
theorem MK {oe:Obj}{vs:oH}{head:Value}{hadNext:Bool}{Q:oj} (hfr:A.frames=some (env::outer)) (hl:s.heap.FunFrames base (env::outer)) (hf:env.frame=some L)
  (he:s.heap.get? e=some oe) (hkb:base.StaysIn s.heap) (hen:base.get? e=none) (hd:oe.data=.fields vs) (hsz:1<vs.size) (h0:vs[0]?=some a0.1) (h2:vs[2]?=some a0.2)
  (h:∀h',zZ base (env::outer) e oe.cls a0 (rawInt L) s.heap h'→Q () { s with heap:=h' }) :
  wpAny M A (do let a ←frameOf env;let pl ←entryPlaceOf L hadNext;let b ←EntryCells.newEntry head a .none (rawInt L) .none pl;setField (.ref e) 1 b) Q E s:=by
 have rec1:∀b o,s.heap.get? b=some o→(∀us,o.data≠.fields us)→b≠e:=fun b o hb hn q=>by
  subst q
  rw [he] at hb;cases hb
  exact hn vs hd
 have efr:e ∉ (env::outer).filterMap (·.frame):=fun hm=>by
  obtain⟨_,o,ho,hn⟩:=hl.mem hm
  exact rec1 e o ho hn rfl
 refine oN (wpAny_frameOf_fun hfr hl hf fun g hg=>oN (wpAny_entryPlaceOf fun pl hpl=>?_))
 unfold EntryCells.newEntry newFields
 refine oN (wpAny_newObj_type ?_ (hpl.sizeOk5 _ _ _ _ _))
 generalize ho:(Obj.mk (.type "traceback") none (.fields ([head,.ref L,.none,rawInt L,.none]++(if pl.isEmpty then List.replicate 6 Value.none else pl)).toArray) #[])=ot
 have hoc:ot.data=.fields ([head,.ref L,.none,rawInt L,.none]++(if pl.isEmpty then List.replicate 6 Value.none else pl)).toArray:=by rw [←ho]
 have eg:g.get? e=some oe:=(hg.2.1 e efr).trans he
 have bg:base.StaysIn g:=fun b o hb=>(hg.2.1 b fun hm=>by rw [(hl.mem hm).1] at hb;cases hb).trans (hkb b o hb)
 have nT:g.objs.size≠e:=Nat.ne_of_gt (Heap.lt_size eg)
 have e2:(g.push ot).get? e=some oe:=Heap.get?_push_of_some _ eg
 refine wpAny_setField e2 hd hsz (h _ ?_)
 have d3:=Obj.data_mapFields hd (·.setIfInBounds 1 (Value.ref g.objs.size))
 have e3:=Heap.get?_update_self (Obj.mapFields (·.setIfInBounds 1 (Value.ref g.objs.size))) e2 (Obj.isFreed_of_fields d3)
 have keep:∀b o,b≠e→g.get? b=some o→((g.push ot).update e (Obj.mapFields (·.setIfInBounds 1 (Value.ref g.objs.size)))).get? b=some o:=fun b o hb q=>by
  rw [Heap.get?_update_other _ _ (Ne.symm hb)]
  exact Heap.get?_push_of_some _ q
 have T3:((g.push ot).update e (Obj.mapFields (·.setIfInBounds 1 (Value.ref g.objs.size)))).get? g.objs.size=some ot:=by
  rw [Heap.get?_update_other _ _ (Ne.symm nT)]
  exact Heap.get?_push_size g (by rw [←ho];rfl)
 refine⟨fun b o hb=>keep b o (fun q=>by rw [q,hen] at hb;cases hb) (bg b o hb),hl.of_keeps fun b o hb hn=>?_,⟨_,_,g.objs.size,ot,_,e3,⟨Obj.cls_mapFields _ _,?_,?_⟩,d3,by simp [hsz],bg.fresh,nT,T3,hoc,?_⟩,fun b o hb hn=>?_⟩
 ·obtain⟨sl,q⟩:=hg.2.2 b o hb
  exact⟨_,keep b _ (rec1 b o hb hn) q,rfl⟩
 ·rw [Array.getElem?_setIfInBounds_ne (by decide)];exact h0
 ·rw [Array.getElem?_setIfInBounds_ne (by decide)];exact h2
 ·first|(simp;done)|(rcases hpl with rfl|⟨_,_,_,_,_,_,_,rfl⟩<;>simp)
 ·obtain⟨sl,q⟩:=hg.2.2 b o hb
  exact⟨sl,keep b _ (rec1 b o hb hn) q⟩
theorem VC {l:List Env}{fl:Value}{Q:oj} (hkb:base.StaysIn s.heap) (hl:s.heap.FunFrames base l) (ht:bX s.heap base e cls a0 fl)
  (h:∀h',zZ base l e cls a0 .none s.heap h'→(∀b o,s.heap.get? b=some o→(∀us,o.data≠.fields us)→h'.get? b=some o)→Q () { s with heap:=h' }):wpAny M A (setFlight (.ref e) none) Q E s:=by
 obtain⟨oe,vs,T,oT,ts,he,hc,hd,h1,hnT,hTe,hT,hdT,h3⟩:=ht
 have z3:3<ts.size:=(Array.getElem?_eq_some_iff.mp h3).1
 have nrec:∀b o,s.heap.get? b=some o→(∀us,o.data≠.fields us)→T≠b:=fun b o hb hn q=>by
  subst q
  rw [hT] at hb;cases hb
  exact hn ts hdT
 unfold setFlight
 refine oN (wpAny_field he hd h1 ?_)
 rw [if_pos (show (Value.ref T != Value.none)=true by simp)]
 refine wpAny_setField hT hdT z3 (h _ ⟨fun b o hb=>?_,hl.of_keeps fun b o hb hn=>⟨o,?_,rfl⟩,⟨oe,vs,T,_,_,?_,hc,hd,h1,hnT,hTe,Heap.get?_update_self _ hT (Obj.isFreed_of_fields (Obj.data_mapFields hdT _)),Obj.data_mapFields hdT _,by simp [z3]⟩,fun b o hb hn=>⟨o.slots,?_⟩⟩ fun b o hb hn=>?_)
 ·rw [Heap.get?_update_other _ _ (fun q=>by rw [←q,hnT] at hb;cases hb)];exact hkb b o hb
 ·rw [Heap.get?_update_other _ _ (nrec b o hb hn)];exact hb
 ·rw [Heap.get?_update_other _ _ hTe];exact he
 ·rw [Heap.get?_update_other _ _ (nrec b o hb hn)];exact hb
 ·rw [Heap.get?_update_other _ _ (nrec b o hb hn)];exact hb
theorem nU {oe:Obj}{vs:oH}{Q:oj} (hfr:A.frames=some (env::outer)) (hl:s.heap.FunFrames base (env::outer)) (hf:env.frame=some L)
  (he:s.heap.get? e=some oe) (hkb:base.StaysIn s.heap) (hen:base.get? e=none) (hd:oe.data=.fields vs) (h1:vs[1]?=some .none) (h0:vs[0]?=some a0.1) (h2:vs[2]?=some a0.2)
  (h:∀h',zZ base (env::outer) e oe.cls a0 (rawInt L) s.heap h'→Q () { s with heap:=h' }):wpAny M A (noteFrame (.ref e) env) Q E s:=by
 unfold noteFrame
 simp only [hf]
 refine oN (wpAny_field he hd h1 ?_)
 rw [if_neg (by decide)]
 exact MK hfr hl hf he hkb hen hd (Array.getElem?_eq_some_iff.mp h1).1 h0 h2 h
theorem ZZ {Q:oj} (hfr:A.frames=some (env::outer)) (hl:s.heap.FunFrames base (env::outer)) (hf:env.frame=some L) (ht:bX s.heap base e cls a0 .none) (hkb:base.StaysIn s.heap) (hen:base.get? e=none)
  (h:∀h',zZ base (env::outer) e cls a0 (rawInt L) s.heap h'→Q () { s with heap:=h' }):wpAny M A (noteFrame (.ref e) env) Q E s:=by
 obtain⟨oe,vs,T,oT,ts,he,⟨hc,h0,h2⟩,hd,h1,hnT,hTe,hT,hdT,h3⟩:=ht
 subst hc
 have nrec:∀b o,s.heap.get? b=some o→(∀us,o.data≠.fields us)→T≠b:=fun b o hb hn q=>by
  subst q
  rw [hT] at hb;cases hb
  exact hn ts hdT
 unfold noteFrame
 simp only [hf]
 refine oN (wpAny_field he hd h1 ?_)
 rw [if_pos (show (Value.ref T != Value.none)=true by simp)]
 refine oN (wpAny_field hT hdT h3 ?_)
 rw [if_neg (show ¬((Value.none==rawInt L)=true) by simp [rawInt])]
 refine oN (wpAny_setField hT hdT (Array.getElem?_eq_some_iff.mp h3).1 ?_)
 refine MK (s:={ s with heap:=_ }) hfr (hl.of_keeps fun b o hb hn=>⟨o,by rw [Heap.get?_update_other _ _ (nrec b o hb hn)];exact hb,rfl⟩) hf (by rw [Heap.get?_update_other _ _ hTe];exact he) (fun b o hb=>by
  rw [Heap.get?_update_other _ _ (fun q=>by rw [←q,hnT] at hb;cases hb)];exact hkb b o hb) hen hd (Array.getElem?_eq_some_iff.mp h1).1 h0 h2 fun h' S=>h h' ⟨S.st,S.ff,S.tr,fun b o hb hn=>S.up b o (by rw [Heap.get?_update_other _ _ (nrec b o hb hn)];exact hb) hn⟩
theorem Ml {oe:Obj}{vs:oH}{Q:oj} (hfr:A.frames=some (env::outer)) (hl:s.heap.FunFrames base (env::outer)) (hf:env.frame=some L)
  (he:s.heap.get? e=some oe) (hkb:base.StaysIn s.heap) (hen:base.get? e=none) (hd:oe.data=.fields vs) (h1:vs[1]?=some .none) (h0:vs[0]?=some a0.1) (h2:vs[2]?=some a0.2)
  (h:∀h',zZ base (env::outer) e oe.cls a0 .none s.heap h'→Q () { s with heap:=h' }):wpAny M A (leaving env (.ref e)) Q E s:=by
 unfold leaving
 refine oN (nU hfr hl hf he hkb hen hd h1 h0 h2 fun h1 S=>VC (s:={ s with heap:=h1 }) S.st S.ff S.tr fun h2 S2 _=>h h2 ⟨S2.st,S2.ff,S2.tr,S.up.trans S2.up⟩)
theorem nK {Q:oj} (hfr:A.frames=some (env::outer)) (hl:s.heap.FunFrames base (env::outer)) (hf:env.frame=some L) (ht:bX s.heap base e cls a0 .none) (hkb:base.StaysIn s.heap) (hen:base.get? e=none)
  (h:∀h',zZ base (env::outer) e cls a0 .none s.heap h'→Q () { s with heap:=h' }):wpAny M A (leaving env (.ref e)) Q E s:=by
 unfold leaving
 refine oN (ZZ hfr hl hf ht hkb hen fun h1 S=>VC (s:={ s with heap:=h1 }) S.st S.ff S.tr fun h2 S2 _=>h h2 ⟨S2.st,S2.ff,S2.tr,S.up.trans S2.up⟩)
end
end L2
namespace L2
open PySem PySem.Spec PyProof.Rows
abbrev Key:=Sum Int Str
def gv:Key→Value→Bool
 | .inl k,v=>Value.isInt k v
 | .inr x,v=>Value.isStrOf x v
def lp (w:World):Key→Int
 | .inl k=>hashInt k
 | .inr x=>hashStr w x
theorem ui:∀{k:Key} {v:Value},gv k v=true→(∃i t,k=Sum.inl i∧v=Value.int i t)∨(∃x t,k=Sum.inr x∧v=Value.str x t)
 | .inl i,v,h=>by
  obtain⟨t,e⟩:=Value.isInt_shape (k:=i) (v:=v) h
  exact .inl ⟨i,t,rfl,e⟩
 | .inr x,v,h=>by
  obtain⟨t,e⟩:=Value.isStrOf_shape (x:=x) (v:=v) h
  exact .inr ⟨x,t,rfl,e⟩
theorem NS (i:Int) (t:Tok):gv (.inl i) (.int i t)=true:=by simp [gv,Value.isInt]
theorem NT (x:Str) (t:Tok):gv (.inr x) (.str x t)=true:=by simp [gv,Value.isStrOf]
theorem eX (a b:Int):decide ((Sum.inl a:Key)=Sum.inl b)=(a==b):=by
 by_cases e:a=b
 ·subst e;simp
 ·have h:¬(Sum.inl a:Key)=Sum.inl b:=fun q=>e (Sum.inl.inj q)
  rw [decide_eq_false h]
  exact (beq_eq_false_iff_ne.mpr e).symm
theorem fb (a b:Str):decide ((Sum.inr a:Key)=Sum.inr b)=decide (a=b):=by
 by_cases e:a=b
 ·subst e;simp
 ·have h:¬(Sum.inr a:Key)=Sum.inr b:=fun q=>e (Sum.inr.inj q)
  rw [decide_eq_false h,decide_eq_false e]
theorem eY (a:Int) (b:Str):decide ((Sum.inl a:Key)=Sum.inr b)=false:=decide_eq_false (fun q=>nomatch q)
theorem eZ (a:Str) (b:Int):decide ((Sum.inr a:Key)=Sum.inl b)=false:=decide_eq_false (fun q=>nomatch q)
def JO (prog:oM) (w:World):PySem.KeyKind prog w Key where
 is:=gv
 hash:=lp w
 inj:=fun v a b ha hb=>by
  rcases ui ha with ⟨i,t,rfl,rfl⟩|⟨x,t,rfl,rfl⟩
  ·rcases ui hb with ⟨j,u,rfl,e⟩|⟨y,u,rfl,e⟩
   ·injection e with e1 _;rw [e1]
   ·exact nomatch e
  ·rcases ui hb with ⟨j,u,rfl,e⟩|⟨y,u,rfl,e⟩
   ·exact nomatch e
   ·injection e with e1 _;rw [e1]
 byValue:=fun k v h=>by
  rcases ui h with ⟨i,t,rfl,rfl⟩|⟨x,t,rfl,rfl⟩<;>rfl
 pyHash:=fun hv h=>by
  rcases ui hv with ⟨i,t,rfl,rfl⟩|⟨x,t,rfl,rfl⟩
  ·exact wpAny_pyHash_int h
  ·exact wpAny_pyHash_str h
 eqBool:=fun hu hv h=>by
  rcases ui hu with ⟨i,t,rfl,rfl⟩|⟨x,t,rfl,rfl⟩
  ·rcases ui hv with ⟨j,u,rfl,rfl⟩|⟨y,u,rfl,rfl⟩
   ·rw [eX] at h;exact wpAny_eqBool_int h
   ·rw [eY] at h;exact SeqAt.EqAt.int_str i t y u _ _ _ _ h
  ·rcases ui hv with ⟨j,u,rfl,rfl⟩|⟨y,u,rfl,rfl⟩
   ·rw [eZ] at h;exact SeqAt.EqAt.str_int x t j u _ _ _ _ h
   ·rw [fb] at h;exact wpAny_eqBool_str h
 «strs»:=fun k x t v h=>by
  rcases ui h with ⟨i,u,rfl,e⟩|⟨y,u,rfl,e⟩
  ·exact nomatch e
  ·injection e with e1 _
   subst e1
   cases v<;>rfl
theorem Mm (prog:oM) (w:World) (i:Int) (t:Tok):(JO prog w).is (.inl i) (.int i t)=true:=NS i t
theorem Mn (prog:oM) (w:World) (x:Str) (t:Tok):(JO prog w).is (.inr x) (.str x t)=true:=NT x t
end L2
namespace L2
open PySem PySem.Spec PyProof.Rows
inductive V where
 | non|bl (b:Bool)|int (i:Int)|str (x:Str)|byt (b:Array UInt8)|flt (b:UInt64)|ref (a:Addr)|ty (n:String)
 deriving DecidableEq
def jL:V→Value→Prop
 | .non,u=>u=Value.none
 | .bl b,u=>u=Value.bool b
 | .int i,u=>∃t,u=Value.int i t
 | .str x,u=>∃t,u=Value.str x t
 | .byt b,u=>∃t,u=Value.bytes b t
 | .flt b,u=>∃t,u=Value.float b t
 | .ref a,u=>u=Value.ref a
 | .ty n,u=>u=Value.type n
abbrev jE:List V→List Value→Prop:=Paired jL
theorem jE.length {xs:List V}{us:oA} (r:jE xs us):xs.length=us.length:=Paired.length r
theorem jE.get:∀{xs:List V} {us:oA} {i:Nat} {x:V},jE xs us→xs[i]?=some x→∃u,us[i]?=some u∧jL x u
 | _,_,_,_,.nil,e=>by simp at e
 | _,_,0,_,.cons r _,e=>by simp at e;subst e;exact⟨_,rfl,r⟩
 | _,_,i+1,x,.cons _ t,e=>by
  obtain⟨u,h1,h2⟩:=jE.get (i:=i) (x:=x) t (by simpa using e)
  exact⟨u,by simpa using h1,h2⟩
theorem jE.set {x:V}{u:Value} (r:jL x u):∀{xs:List V} {us:oA} (i:Nat),jE xs us→jE (xs.set i x) (us.set i u)
 | _,_,_,.nil=>.nil
 | _,_,0,.cons _ t=>.cons r t
 | _,_,i+1,.cons q t=>.cons q (jE.set r i t)
theorem jE.append:∀{xs ys:List V} {us ws:oA},jE xs us→jE ys ws→jE (xs++ys) (us++ws)
 | _,_,_,_,.nil,s=>s
 | _,_,_,_,.cons r t,s=>.cons r (jE.append t s)
theorem jE.take:∀{xs:List V} {us:oA} (n:Nat),jE xs us→jE (xs.take n) (us.take n)
 | _,_,0,_=>.nil
 | _,_,_+1,.nil=>.nil
 | _,_,n+1,.cons r t=>.cons r (jE.take n t)
theorem jE.drop:∀{xs:List V} {us:oA} (n:Nat),jE xs us→jE (xs.drop n) (us.drop n)
 | _,_,0,r=>r
 | _,_,_+1,.nil=>.nil
 | _,_,n+1,.cons _ t=>jE.drop n t
def vU:Option V→Option Value→Prop
 | some v,some u=>jL v u
 | none,none=>True
 | _,_=>False
def KV {κ:Type}:List (κ×V)→List (κ×Value)→Prop:=Paired fun (p:κ×V) (q:κ×Value)=>p.1=q.1∧jL p.2 q.2
def kV:Key→V
 | .inl i=>.int i
 | .inr x=>.str x
inductive HO where
 | lst (xs:List V)
 | tup (xs:List V)
 | dK (kvs:List (Key×V))|dT (kvs:List (List Key×V))
 | set (S:Int→Bool) (n:Nat)
 | ins (C dx:Addr) (fs:List (Str×V))
 | own (x:Addr)
 | xd (fs:List (Str×V))
 | met (f x:Addr)
 | rng (lo hi:Int)
 | frz (o:Obj) (u:HO)
 | tbl (ps:oH)
 | ext (φ:Heap→Prop)
abbrev Hp:=Addr→Option HO
def upd (H:Hp) (a:Addr) (o:HO):Hp:=fun b=>if b=a then some o else H b
theorem jd {H:Hp}{a:Addr}{o:HO}:upd H a o a=some o:=by unfold upd;rw [if_pos rfl]
theorem jj {H:Hp}{a b:Addr}{o:HO} (h:b≠a):upd H a o b=H b:=by unfold upd;rw [if_neg h]
theorem dN {H:Hp}{a:Addr}{o u:HO}:upd (upd H a o) a u=upd H a u:=by
 funext b;unfold upd;split<;>rfl
theorem Jw {H:Hp}{a b:Addr}{o u:HO} (h:H a=some o) (h':H b=some u) (d:o≠u):a≠b:=by
 intro e;subst e;rw [h] at h';exact d (Option.some.inj h')
theorem jp {H:Hp}{a b:Addr}{o:HO} (h:H a=some o) (h':H b=none):a≠b:=by
 intro e;subst e;rw [h] at h';cases h'
section
variable (P:oM) (w:World)
def j0 (H:Hp) (h:Heap) (a:Addr):HO→Prop
 | .lst xs=>xs.length≤sizeLine∧∃(its:oA) (n:Nat),jE xs its∧h.get? a=some { cls:=.type "list",data:=.seq its.toArray n }
 | .tup xs=>xs.length≤sizeLine∧∃its:List Value,jE xs its∧IsTup h a its.toArray
 | .dK kvs=>kvs.length≤sizeLine∧(a==sysModules)=false∧∃vs,KV kvs vs∧h.DictOf (JO P w) a vs
 | .dT kvs=>kvs.length≤sizeLine∧(a==sysModules)=false∧∃xs:List (List Key×Addr×Value),
   Paired (fun (p:List Key×V) (q:List Key×Addr×Value)=>p.1=q.1∧H q.2.1=some (.tup (p.1.map kV))∧jL p.2 q.2.2) kvs xs ∧
   ∃o es ep,h.get? a=some o∧o.ExactDict∧o.data=.dict es ep∧es.toList=xs.map (entryOfKey (tupleKind (JO P w)))∧(xs.map (·.1)).Nodup
 | .set S n=>h.SetOf (intKind P w) a S n
 | .ins C dx fs=>H dx=some (.own a)∧fs.length≤1000∧dx≠a∧h.get? a=some (instObj C dx) ∧
   ∃mA,h.Ns1 dx mA∧(∀f,vU (fs.lookup f) (mA f))∧PySem.Within mA (fs.map (·.1))
 | .own _=>∃o,h.get? a=some o
 | .xd fs=>∃mA,h.Ns1 a mA∧∀f,vU (fs.lookup f) (mA f)
 | .rng lo hi=>∃t u v,h.get? a=some { cls:=.type "range",data:=.fields #[.int lo t,.int hi u,.int 1 v] }
 | .frz o u=>h.get? a=some o∧j0 H h a u
 | .tbl ps=>h.get? a=some { cls:=.none,data:=.fields ps }
 | .met f x=>h.get? a=some (methodObj (.ref f) (.ref x))
 | .ext φ=>φ h∧(∃o,h.get? a=some o)∧∀h1 h2:Heap,φ h1→(∀o,h1.get? a=some o→h2.get? a=some o)→φ h2
def JJ (H:Hp) (h:Heap):Prop:=∀a o,H a=some o→j0 P w H h a o
end
section
variable {P:oM}{w:World}{H H':Hp}{h h':Heap}{a:Addr}{o:HO}
theorem j0.lt (x:j0 P w H h a o):a<h.objs.size:=by
 cases o with
 | lst xs=>obtain⟨_,_,_,_,e⟩:=x;exact Heap.lt_size e
 | tup xs=>obtain⟨_,_,_,p⟩:=x;exact p.lt
 | dK kvs=>obtain⟨_,_,_,_,o,_,_,e,_⟩:=x;exact Heap.lt_size e
 | dT kvs=>obtain⟨_,_,_,_,o,_,_,e,_⟩:=x;exact Heap.lt_size e
 | set S n=>obtain⟨o,_,_,_,e,_⟩:=x;exact Heap.lt_size e
 | ins C dx fs=>obtain⟨_,_,_,e,_⟩:=x;exact Heap.lt_size e
 | own y=>obtain⟨_,e⟩:=x;exact Heap.lt_size e
 | xd fs=>obtain⟨_,⟨_,_,_,e,_⟩,_⟩:=x;exact Heap.lt_size e
 | rng lo hi=>obtain⟨_,_,_,e⟩:=x;exact Heap.lt_size e
 | frz ob u=>obtain⟨e,_⟩:=x;exact Heap.lt_size e
 | tbl ps=>exact Heap.lt_size (show h.get? a=some _ from x)
 | met f y=>exact Heap.lt_size (show h.get? a=some _ from x)
 | ext φ=>obtain⟨_,⟨_,e⟩,_⟩:=x;exact Heap.lt_size e
theorem Paired.mapP {α β:Type}{F G:α→β→Prop}:∀{l₁:List α} {l₂:List β},Paired F l₁ l₂→(∀a b,F a b→G a b)→Paired G l₁ l₂
 | _,_,.nil,_=>.nil
 | _,_,.cons r t,f=>.cons (f _ _ r) (Paired.mapP t f)
theorem j0.stay (x:j0 P w H h a o) (k:∀b u,(b=a∨H b=some (.own a))→h.get? b=some u→h'.get? b=some u)
  (ho:∀b,H b=some (.own a)→H' b=some (.own a)) (ht:∀b xs,H b=some (.tup xs)→H' b=some (.tup xs)):j0 P w H' h' a o:=by
 induction o with
 | lst xs=>obtain⟨z,its,n,r,e⟩:=x;exact⟨z,its,n,r,k _ _ (.inl rfl) e⟩
 | tup xs=>obtain⟨z,its,r,ob,e,c⟩:=x;exact⟨z,its,r,ob,k _ _ (.inl rfl) e,c⟩
 | dK kvs=>obtain⟨z,y,vs,r,ob,es,ep,e,c⟩:=x;exact⟨z,y,vs,r,ob,es,ep,k _ _ (.inl rfl) e,c⟩
 | dT kvs =>
  obtain⟨z,y,xs,r,ob,es,ep,e,c⟩:=x
  exact⟨z,y,xs,Paired.mapP r fun p q z=>⟨z.1,ht _ _ z.2.1,z.2.2⟩,ob,es,ep,k _ _ (.inl rfl) e,c⟩
 | set S n=>obtain⟨ob,es,ep,t,e,c⟩:=x;exact⟨ob,es,ep,t,k _ _ (.inl rfl) e,c⟩
 | ins C dx fs =>
  obtain⟨d,z,ne,e,mA,⟨od,es,ep,e2,c⟩,r⟩:=x
  exact⟨ho _ d,z,ne,k _ _ (.inl rfl) e,mA,⟨od,es,ep,k _ _ (.inr d) e2,c⟩,r⟩
 | own y=>obtain⟨ob,e⟩:=x;exact⟨ob,k _ _ (.inl rfl) e⟩
 | xd fs=>obtain⟨mA,⟨od,es,ep,e,c⟩,r⟩:=x;exact⟨mA,⟨od,es,ep,k _ _ (.inl rfl) e,c⟩,r⟩
 | rng lo hi=>obtain⟨t,u,v,e⟩:=x;exact⟨t,u,v,k _ _ (.inl rfl) e⟩
 | frz ob u ih=>obtain⟨e,q⟩:=x;exact⟨k _ _ (.inl rfl) e,ih q⟩
 | tbl ps =>
  have e:h.get? a=some { cls:=.none,data:=.fields ps }:=x
  show h'.get? a=some { cls:=.none,data:=.fields ps }
  exact k a _ (.inl rfl) e
 | met f y =>
  have e:h.get? a=some (methodObj (.ref f) (.ref y)):=x
  show h'.get? a=some (methodObj (.ref f) (.ref y))
  exact k a _ (.inl rfl) e
 | ext φ=>obtain⟨p,⟨o,e⟩,st⟩:=x;exact⟨st _ _ p fun o q=>k _ _ (.inl rfl) q,⟨o,k _ _ (.inl rfl) e⟩,st⟩
theorem JJ.lt (x:JJ P w H h) (e:H a=some o):a<h.objs.size:=(x a o e).lt
theorem JJ.fresh (x:JJ P w H h) (e:h.objs.size≤a):H a=none:=by
 cases q:H a with
 | none=>rfl
 | some u=>exact absurd (Nat.lt_of_lt_of_le (x.lt q) e) (Nat.lt_irrefl _)
theorem JJ.kept (x:JJ P w H h) (k:∀b u,h.get? b=some u→h'.get? b=some u):JJ P w H h':=fun a o e =>
 (x a o e).stay (fun b u _ q=>k b u q) (fun _ q=>q) fun _ _ q=>q
theorem JJ.laid (x:JJ P w H h) (k:∀b u,h.get? b=some u→h'.get? b=some u) (hp:h.objs.size≤a) (new:j0 P w (upd H a o) h' a o):JJ P w (upd H a o) h':=fun b u e=>by
 have hn:=x.fresh hp
 by_cases hb:b=a
 ·subst hb;rw [jd] at e;cases e;exact new
 ·rw [jj hb] at e
  exact (x b u e).stay (fun c v _ q=>k c v q) (fun c q=>by rw [jj (jp q hn)];exact q) fun c xs q=>by rw [jj (jp q hn)];exact q
end
def Rd (H:Hp) (a:Addr) (u:HO):Prop:=H a=some u∨∃o,H a=some (.frz o u)
theorem Rd.ok {P:oM}{w:World}{H:Hp}{h:Heap}{a:Addr}{u:HO} (r:Rd H a u) (x:JJ P w H h):j0 P w H h a u:=by
 rcases r with r|⟨o,r⟩
 ·exact x a u r
 ·obtain⟨_,q⟩:=x a _ r
  exact q
def Nh:Option HO→Prop
 | some (.lst _)=>True
 | some (.dK _)=>True
 | some (.dT _)=>True
 | some (.set _ _)=>True
 | some (.ins _ _ _)=>True
 | some (.ext _)=>True
 | _=>False
section
variable {P:oM}{w:World}{H:Hp}{h h':Heap}{x e:Addr}{o':HO}
theorem JJ.write (ok:JJ P w H h) (mu:Nh (H x)) (he:e=x∨H e=some (.own x)) (k:∀b u,b≠e→h.get? b=some u→h'.get? b=some u) (heo:∃u,h'.get? e=some u)
  (new:j0 P w (upd H x o') h' x o'):JJ P w (upd H x o') h':=fun b u q=>by
 have nown:∀c y,H c=some (.own y)→c≠x:=fun c y r z=>by subst z;rw [r] at mu;exact mu
 have ntup:∀c xs,H c=some (.tup xs)→c≠x:=fun c xs r z=>by subst z;rw [r] at mu;exact mu
 by_cases hb:b=x
 ·subst hb;rw [jd] at q;cases q;exact new
 ·rw [jj hb] at q
  by_cases hbe:b=e
  ·have q':H b=some (.own x):=by
    rcases he with z|z
    ·exact absurd (hbe.trans z) hb
    ·rw [hbe];exact z
   rw [q] at q';cases q'
   obtain⟨v,hv⟩:=heo
   exact⟨v,by rw [hbe];exact hv⟩
  ·refine (ok b u q).stay (fun c v hc r=>k c v ?_ r) (fun c r=>by rw [jj (nown c b r)];exact r) fun c xs r=>by rw [jj (ntup c xs r)];exact r
   rcases hc with rfl|hc
   ·exact hbe
   ·rintro rfl
    rcases he with z|z
    ·exact nown c b hc z
    ·rw [hc] at z;cases z;exact hb rfl
end
structure Un (fs ex:oB) (H H':Hp) (h h':Heap):Prop where
 keep:∀b o,h.get? b=some o→H b=none→b ∉ fs→b ∉ ex→h'.get? b=some o
 slot:∀b o,h.get? b=some o→H b=none→b∈fs→b ∉ ex→∃sl,h'.get? b=some { o with slots:=sl }
 free:∀b o,h.get? b=some o→H b=none→b ∉ ex→H' b=none
 there:∀b o,h.get? b=some o→b ∉ ex→∃o',h'.get? b=some o'
 tups:∀b xs,H b=some (.tup xs)→H' b=some (.tup xs)
 frzs:∀b o u,H b=some (.frz o u)→H' b=some (.frz o u)
 tbls:∀b ps,H b=some (.tbl ps)→∃more,H' b=some (.tbl (ps++more))
section
variable {fs fs' ex ex':oB}{H H1 H2:Hp}{h h1 h2 h':Heap}{a x e:Addr}{o:HO}
theorem Un.any (u:Un fs ex H H1 h h1) {b:Addr} {ob:Obj} (q:h.get? b=some ob) (n:H b=none) (hx:b ∉ ex):∃sl,h1.get? b=some { ob with slots:=sl }:=by
 by_cases hb:b∈fs
 ·exact u.slot b ob q n hb hx
 ·exact⟨ob.slots,u.keep b ob q n hb hx⟩
theorem Un.kept (k:∀b u,h.get? b=some u→h'.get? b=some u):Un fs ex H H h h' :=
 ⟨fun b ob q _ _ _=>k b ob q,fun b ob q _ _ _=>⟨ob.slots,k b ob q⟩,fun _ _ _ n _=>n,fun b ob q _=>⟨ob,k b ob q⟩,fun _ _ q=>q,fun _ _ _ q=>q,fun _ ps q=>⟨#[],by rw [q];simp⟩⟩
theorem Un.refl:Un fs ex H H h h:=Un.kept fun _ _ q=>q
theorem Un.laid (k:∀b u,h.get? b=some u→h'.get? b=some u) (hp:h.objs.size≤a) (hn:H a=none):Un fs ex H (upd H a o) h h' where
 keep:=fun b u q _ _ _=>k b u q
 slot:=fun b u q _ _ _=>⟨u.slots,k b u q⟩
 free:=fun b u q n _=>by rw [jj (Nat.ne_of_lt (Nat.lt_of_lt_of_le (Heap.lt_size q) hp))];exact n
 there:=fun b u q _=>⟨u,k b u q⟩
 tups:=fun b xs q=>by rw [jj (jp q hn)];exact q
 frzs:=fun b u xs q=>by rw [jj (jp q hn)];exact q
 tbls:=fun b ps q=>⟨#[],by rw [jj (jp q hn),q];simp⟩
theorem Un.write (mu:Nh (H x)) (he:e=x∨H e=some (.own x)) (k:∀b u,b≠e→h.get? b=some u→h'.get? b=some u) (heo:∃u,h'.get? e=some u):Un fs ex H (upd H x o) h h':=by
 have hx:∀b,H b=none→b≠x:=fun b n z=>by subst z;rw [n] at mu;exact mu
 have hb:∀b,H b=none→b≠e:=fun b n z=>by
  subst z
  rcases he with r|r
  ·exact hx b n r
  ·rw [n] at r;cases r
 have hm:∀b u,H b=some u→¬Nh (some u)→b≠x:=fun b u q nm z=>by subst z;rw [q] at mu;exact nm mu
 refine⟨fun b u q n _ _=>k b u (hb b n) q,fun b u q n _ _=>⟨u.slots,k b u (hb b n) q⟩,fun b u q n _=>by rw [jj (hx b n)];exact n,fun b u q _=>?_,
  fun b xs q=>by rw [jj (hm b _ q fun z=>z)];exact q,fun b u xs q=>by rw [jj (hm b _ q fun z=>z)];exact q,fun b ps q=>⟨#[],by rw [jj (hm b _ q fun z=>z),q];simp⟩⟩
 by_cases hbe:b=e
 ·subst hbe;exact heo
 ·exact⟨u,k b u hbe q⟩
end
def cK (h:Heap) (H:Hp):List Addr:=(List.range h.objs.size).filter fun a=>(H a).isSome
def zD (h:Heap) (H:Hp):Heap:=hideAll h (cK h H)
theorem NM (h:Heap) (H:Hp):(zD h H).objs.size=h.objs.size:=PySem.W.hideAll_size _ _
theorem bd {h:Heap}{H:Hp}{b:Addr}{o:Obj} (e:h.get? b=some o) (n:H b=none):(zD h H).get? b=some o :=
 hideAll_get _ e fun hm=>by
  have q:(H b).isSome=true:=(List.mem_filter.mp hm).2
  rw [n] at q;simp at q
theorem cZ {h:Heap}{H:Hp}{b:Addr}{o:Obj} (e:(zD h H).get? b=some o):h.get? b=some o∧H b=none:=by
 have e':h.get? b=some o:=of_hideAll (cK h H) e
 refine⟨e',?_⟩
 cases q:H b with
 | none=>rfl
 | some x =>
  have hm:b∈cK h H:=List.mem_filter.mpr ⟨List.mem_range.mpr (Heap.lt_size e'),by simp [q]⟩
  have z:(zD h H).get? b=none:=hideAll_none (cK h H) hm
  rw [z] at e;cases e
end L2
namespace L2
open PySem PySem.Spec PyProof.Rows
structure Mod (K:oq) (mg:ox) (base:Heap):Prop where
 kin:K.In base
 glob:base.Ns mainGlobals mg
 blt:∃mb,base.Ns builtinsNs mb∧∀x:Str,x≠"__name__"→mb x=bootBuiltins x
 nolimit:base.NoLimit
structure Cx where
 prog:Program
 w:World
 K:Frag
 mg:Str→Option Value
 base:Heap
 A:Around
 N:List Str
 s₀:Shared
 H₀:Hp
 env:Env
 outer:List Env
 stack:List Env
 ex:List Addr
 fn:Str→Bool
 calm:Bool
 pn:List (Addr×Obj)
 xe:Value→Shared→Prop
def uy (l:List Env):List Addr:=l.filterMap (·.frame)
abbrev Cx.fs (X:Cx):List Addr:=uy X.outer
def d8 (sc:Scope) (x:Str):Prop:=sc.names.lookup x=some .local∨sc.names.lookup x=some .cell∨sc.names.lookup x=some .free
def MB (sc:Scope) (x:Str):Prop:=sc.names.lookup x=some .local∨sc.names.lookup x=some .cell
def i7 (env:Env) (h:Heap) (m:ox) (x:Str) (u:Value):Prop :=
 (env.kindOf x=some .local∧m x=some u)∨((env.kindOf x=some .cell∨env.kindOf x=some .free)∧∃c,env.cells.lookup x=some c∧h.IsCell c (some u))
structure Cx.Ok (X:Cx):Prop where
 mod:Mod X.K X.mg X.base
 kind:X.env.scope.kind=.function
 glob:X.env.globals=mainGlobals
 blt:X.env.builtins=builtinsNs
 above:X.s₀.heap.objs.size≤X.env.locals
 inj:∀x y c,X.env.cells.lookup x=some c→X.env.cells.lookup y=some c→x=y
 has:∀x,(X.env.kindOf x=some .cell∨X.env.kindOf x=some .free)→∃c,X.env.cells.lookup x=some c
 cab:∀x c,X.fn x=true→X.env.cells.lookup x=some c→X.s₀.heap.objs.size≤c
 hd:X.calm=true→X.A.handled=none
 frames:X.A.frames=some X.stack
 stk:X.stack=X.outer∨(X.stack=X.env::X.outer∧X.env.frame=some X.env.locals)
 exf:∀b∈X.ex,b≠X.env.locals∧∀x c,X.env.cells.lookup x=some c→c≠b
 bs:∀b o,X.base.get? b=some o→X.s₀.heap.get? b=some o∧X.H₀ b=none
 bsz:X.base.objs.size≤X.s₀.heap.objs.size
 noex:∀b o,X.base.get? b=some o→b ∉ X.ex
 exfs:∀b∈X.ex,b ∉ X.fs
 funs:X.s₀.heap.FunFrames X.base X.outer
 frf:∀b∈X.fs,X.H₀ b=none
inductive VW (H:Hp):Value→Prop
 | nil:VW H .none
 | cons {b:Addr} {ob:Obj} {us:oH} {u:HO} {c:Value}:H b=some (.frz ob u)→ob.data=.fields us→us[2]?=some c→VW H c→VW H (.ref b)
theorem VW.mono {H H':Hp}{c:Value} (h:VW H c) (k:∀b o u,H b=some (.frz o u)→H' b=some (.frz o u)):VW H' c:=by
 induction h with
 | nil=>exact .nil
 | cons q1 q2 q3 _ ih=>exact .cons (k _ _ _ q1) q2 q3 ih
theorem VW.upd {H:Hp}{c:Value}{a:Addr}{o:HO} (h:VW H c) (n:H a=none):VW (upd H a o) c:=h.mono fun b _ _ e=>by rw [jj (jp e n)];exact e
theorem VW.chn {P:oM}{w:World}{H:Hp}{h:Heap}{c:Value} (n:VW H c) (ok:JJ P w H h):∃D,Zl h D c∧∀b∈D,∃o u,H b=some (.frz o u):=by
 induction n with
 | nil=>exact⟨[],.nil,fun b hb=>absurd hb (by simp)⟩
 | @cons b ob us u c q1 q2 q3 _ ih =>
  obtain⟨D,m,l⟩:=ih
  refine⟨b::D,.cons (by simp) (ok b _ q1).1 q2 q3 (m.kept (fun _ _ _ e=>e) fun d hd=>List.mem_cons_of_mem _ hd),fun d hd=>?_⟩
  rcases List.mem_cons.mp hd with rfl|hd
  ·exact⟨_,_,q1⟩
  ·exact l d hd
def Kd (A:Around) (H:Hp):Prop:=A.handled=none∨∃ea:Addr,A.handled=some (.ref ea)∧VW H (.ref ea)
theorem Kd.mono {A:Around}{H H':Hp} (h:Kd A H) (k:∀b o u,H b=some (.frz o u)→H' b=some (.frz o u)):Kd A H':=by
 rcases h with z|⟨ea,h1,h2⟩
 ·exact .inl z
 ·exact .inr ⟨ea,h1,h2.mono k⟩
theorem Kd.now {P:oM}{w:World}{A:Around}{H:Hp}{h:Heap} (n:Kd A H) (ok:JJ P w H h):ZD A h:=by
 rcases n with z|⟨ea,h1,h2⟩
 ·exact⟨[],.inl z⟩
 ·obtain⟨D,m,_⟩:=h2.chn ok
  exact⟨D,.inr ⟨ea,h1,m⟩⟩
structure ji (X:Cx) (pins:oy) (σ:List (Option V)) (H:Hp) (s:Shared):Prop where
 ok:X.Ok
 os:s.os=X.s₀.os
 bare:AllBare s.gens
 base:Un X.fs X.ex X.H₀ H X.s₀.heap s.heap
 loc:∃m,s.heap.Ns X.env.locals m∧∀(i:Nat) (x:Str) (v:V),X.N[i]?=some x→σ[i]?=some (some v)→d8 X.env.scope x→∃u,jL v u∧i7 X.env s.heap m x u
 cell:∀x c,X.env.cells.lookup x=some c→∃v,s.heap.IsCell c v
 free:H X.env.locals=none
 freeC:∀x c,X.env.cells.lookup x=some c→H c=none
 pin:∀p∈X.pn++pins,s.heap.get? p.1=some p.2∧H p.1=none∧p.1≠X.env.locals∧p.1 ∉ X.fs∧∀v,p.2.data≠.cell v
 hok:JJ X.prog X.w H s.heap
 len:σ.length=X.N.length
 hn:Kd X.A H
section
variable {X:Cx}{pins:oy}{σ:List (Option V)}{H H':Hp}{s:Shared}{h':Heap}
theorem Cx.Ok.nofr (ok:X.Ok) {b:Addr} {o:Obj} (e:X.base.get? b=some o):b ∉ X.fs:=fun hb=>by
 have:=(ok.funs.mem hb).1
 rw [e] at this;cases this
theorem ji.bs (I:ji X pins σ H s):∀b o,X.base.get? b=some o→s.heap.get? b=some o∧H b=none:=fun b o e =>
 ⟨I.base.keep b o (I.ok.bs b o e).1 (I.ok.bs b o e).2 (I.ok.nofr e) (I.ok.noex b o e),I.base.free b o (I.ok.bs b o e).1 (I.ok.bs b o e).2 (I.ok.noex b o e)⟩
theorem ji.bk (I:ji X pins σ H s):∀b o,X.base.get? b=some o→s.heap.get? b=some o:=fun b o e=>(I.bs b o e).1
theorem ji.mod (I:ji X pins σ H s):Mod X.K X.mg X.base:=I.ok.mod
theorem ji.kIn (I:ji X pins σ H s):X.K.In s.heap:=I.ok.mod.kin.keeps I.bk
theorem ji.fr (I:ji X pins σ H s):∃m,Fr X.base X.env.locals s.heap m :=
 let ⟨m,hn,_⟩:=I.loc
 ⟨m,hn,I.bk,Nat.le_trans I.ok.bsz I.ok.above⟩
theorem ji.lt (I:ji X pins σ H s):X.env.locals<s.heap.objs.size:=let ⟨_,hn,_⟩:=I.loc;hn.lt
theorem ji.sz (I:ji X pins σ H s):X.s₀.heap.objs.size≤s.heap.objs.size:=Nat.le_trans I.ok.above (Nat.le_of_lt I.lt)
theorem ji.nofs (I:ji X pins σ H s) {a:Addr} (h:s.heap.objs.size≤a):a ∉ X.fs:=fun hb=>by
 obtain⟨_,o,ho,_⟩:=I.ok.funs.mem hb
 exact absurd (Nat.lt_of_lt_of_le (Heap.lt_size ho) (Nat.le_trans I.sz h)) (Nat.lt_irrefl _)
theorem ji.cne (I:ji X pins σ H s):∀x c,X.env.cells.lookup x=some c→c≠X.env.locals:=fun x c e z=>by
 obtain⟨v,o,ho,hd⟩:=I.cell x c e
 obtain⟨m,⟨o',es,ep,ho',hd',_⟩,_⟩:=I.loc
 rw [z,ho'] at ho;cases ho;rw [hd'] at hd;cases hd
theorem ji.funs (I:ji X pins σ H s):s.heap.FunFrames X.base X.outer:=by
 have all:∀(l:List Env),(∀b∈uy l,b∈X.fs)→X.s₀.heap.FunFrames X.base l→s.heap.FunFrames X.base l:=by
  intro l
  induction l with
  | nil=>intro _ _;trivial
  | cons env r ih =>
   intro hs hl
   obtain⟨hk,⟨L,o,hf,hn,ho,hd⟩,hr⟩:=hl
   have hL:L∈X.fs:=hs L (by unfold uy;rw [List.filterMap_cons,hf];exact List.mem_cons_self)
   obtain⟨sl,e⟩:=I.base.slot L o ho (I.ok.frf L hL) hL fun z=>I.ok.exfs L z hL
   exact⟨hk,⟨L,_,hf,hn,e,hd⟩,ih (fun b hb=>hs b (by unfold uy;rw [List.filterMap_cons,hf];exact List.mem_cons_of_mem _ hb)) hr⟩
 exact all X.outer (fun _ hb=>hb) I.ok.funs
theorem ji.stack (I:ji X pins σ H s):s.heap.FunFrames X.base X.stack:=by
 rcases I.ok.stk with e|⟨e,hf⟩
 ·rw [e];exact I.funs
 ·rw [e]
  obtain⟨m,hn,_⟩:=I.loc
  refine .cons (by rw [I.ok.kind];decide) hf hn ?_ I.funs
  exact Heap.get?_none_of_le (Nat.le_trans I.ok.bsz I.ok.above)
theorem ji.stkSub (I:ji X pins σ H s):∀b∈uy X.stack,b∈X.env.locals::X.fs:=fun b hb=>by
 rcases I.ok.stk with e|⟨e,hf⟩
 ·rw [e] at hb;exact List.mem_cons_of_mem _ hb
 ·rw [e] at hb
  unfold uy at hb
  rw [List.filterMap_cons,hf] at hb
  exact hb
theorem ji.stkFree (I:ji X pins σ H s):∀b∈uy X.stack,H b=none:=fun b hb=>by
 rcases List.mem_cons.mp (I.stkSub b hb) with e|hb
 ·rw [e];exact I.free
 ·obtain⟨_,o,ho,_⟩:=I.ok.funs.mem hb
  exact I.base.free b o ho (I.ok.frf b hb) fun z=>I.ok.exfs b z hb
theorem ji.step {g':Array GenState}{t':Nat}{d':Drawn}{ch:oB} (I:ji X pins σ H s)
  (hch:∀b∈ch,(b∈X.ex∨X.s₀.heap.objs.size≤b)∧b≠X.env.locals∧(∀x c,X.env.cells.lookup x=some c→c≠b)∧∀p∈X.pn++pins,p.1≠b)
  (keep:∀b o,b≠X.env.locals→b ∉ X.fs→b ∉ ch→s.heap.get? b=some o→H b=none→h'.get? b=some o)
  (slot:∀b o,b≠X.env.locals→b∈X.fs→b ∉ ch→s.heap.get? b=some o→H b=none→∃sl,h'.get? b=some { o with slots:=sl }) (free:∀b o,b ∉ ch→s.heap.get? b=some o→H b=none→H' b=none)
  (there:∀b o,b ∉ ch→s.heap.get? b=some o→∃o',h'.get? b=some o')
  (tups:∀b xs,H b=some (.tup xs)→H' b=some (.tup xs)) (frzs:∀b o u,H b=some (.frz o u)→H' b=some (.frz o u)) (tbls:∀b ps,H b=some (.tbl ps)→∃more,H' b=some (.tbl (ps++more)))
  (ns:∀m,s.heap.Ns X.env.locals m→h'.Ns X.env.locals m) (hok:JJ X.prog X.w H' h') (hg:AllBare g') :
  ji X pins σ H' { s with heap:=h',gens:=g',drawn:=d',toks:=t' }:=by
 have neL:∀b o,X.s₀.heap.get? b=some o→b≠X.env.locals:=fun b o e=>Nat.ne_of_lt (Nat.lt_of_lt_of_le (Heap.lt_size e) I.ok.above)
 have neC:∀b o,X.s₀.heap.get? b=some o→b ∉ X.ex→b ∉ ch:=fun b o e hx hb=>by
  rcases (hch b hb).1 with z|z
  ·exact hx z
  ·exact absurd (Nat.lt_of_lt_of_le (Heap.lt_size e) z) (Nat.lt_irrefl _)
 have cellK:∀x c,X.env.cells.lookup x=some c→∀v,s.heap.IsCell c v→h'.IsCell c v:=fun x c e v ⟨o,ho,hd⟩=>by
  have nch:c ∉ ch:=fun z=>(hch c z).2.2.1 x c e rfl
  by_cases hc:c∈X.fs
  ·obtain⟨sl,q⟩:=slot c o (I.cne x c e) hc nch ho (I.freeC x c e)
   exact⟨_,q,hd⟩
  ·exact⟨o,keep c o (I.cne x c e) hc nch ho (I.freeC x c e),hd⟩
 refine⟨I.ok,I.os,hg,⟨fun b o e n hb hx=>?_,fun b o e n hb hx=>?_,fun b o e n hx=>?_,fun b o e hx=>?_,fun b xs e=>tups b xs (I.base.tups b xs e),fun b o xs e=>frzs b o xs (I.base.frzs b o xs e),fun b ps e=>?_⟩,?_,fun x c e=>?_,?_,fun x c e=>?_,fun p hp=>?_,hok,I.len,I.hn.mono frzs⟩
 ·exact keep b o (neL b o e) hb (neC b o e hx) (I.base.keep b o e n hb hx) (I.base.free b o e n hx)
 ·obtain⟨sl,e1⟩:=I.base.slot b o e n hb hx
  obtain⟨sl',e2⟩:=slot b _ (neL b o e) hb (neC b o e hx) e1 (I.base.free b o e n hx)
  exact⟨sl',e2⟩
 ·obtain⟨o',e1⟩:=I.base.there b o e hx
  exact free b o' (neC b o e hx) e1 (I.base.free b o e n hx)
 ·obtain⟨o',e1⟩:=I.base.there b o e hx
  exact there b o' (neC b o e hx) e1
 ·obtain⟨m1,e1⟩:=I.base.tbls b ps e
  obtain⟨m2,e2⟩:=tbls b _ e1
  exact⟨m1++m2,by rw [e2,Array.append_assoc]⟩
 ·obtain⟨m,hn,hl⟩:=I.loc
  refine⟨m,ns m hn,fun i x v e1 e2 e3=>?_⟩
  obtain⟨u,r,l⟩:=hl i x v e1 e2 e3
  refine⟨u,r,?_⟩
  rcases l with l|⟨k,c,e,z⟩
  ·exact .inl l
  ·exact .inr ⟨k,c,e,cellK x c e _ z⟩
 ·obtain⟨v,z⟩:=I.cell x c e
  exact⟨v,cellK x c e v z⟩
 ·obtain⟨m,⟨o,_,_,ho,_⟩,_⟩:=I.loc
  exact free _ o (fun z=>(hch _ z).2.1 rfl) ho I.free
 ·obtain⟨v,o,ho,hd⟩:=I.cell x c e
  exact free c o (fun z=>(hch c z).2.2.1 x c e rfl) ho (I.freeC x c e)
 ·obtain⟨e,n,ne,nf,d⟩:=I.pin p hp
  have nch:p.1 ∉ ch:=fun z=>(hch p.1 z).2.2.2 p hp rfl
  exact⟨keep p.1 p.2 ne nf nch e n,free p.1 p.2 nch e n,ne,nf,d⟩
theorem ji.un {t':Nat} (I:ji X pins σ H s) (u:Un X.fs [] H H' s.heap h') (hok:JJ X.prog X.w H' h'):ji X pins σ H' { s with heap:=h',toks:=t' }:=by
 obtain⟨m,⟨o,es,ep,ho,r⟩,_⟩:=id I.loc
 obtain⟨sl,hL⟩:=u.any ho I.free (by simp)
 exact I.step (g':=s.gens) (d':=s.drawn) (ch:=[]) (fun _ z=>nomatch z) (fun b o _ hb _ e n=>u.keep b o e n hb (by simp)) (fun b o _ hb _ e n=>u.slot b o e n hb (by simp)) (fun b o _ e n=>u.free b o e n (by simp)) (fun b o _ e=>u.there b o e (by simp)) u.tups u.frzs u.tbls (fun m' hm=>by
  obtain⟨o',es',ep',ho',r'⟩:=hm
  rw [ho] at ho';cases ho'
  exact⟨_,es',ep',hL,r'⟩) hok I.bare
theorem ji.call {g':Array GenState}{t':Nat}{d':Drawn}{ch:oB} (I:ji X pins σ H s) (u:Un (uy X.stack) ch H H' s.heap h') (hok:JJ X.prog X.w H' h') (hg:AllBare g')
  (hch:∀b∈ch,(b∈X.ex∨X.s₀.heap.objs.size≤b)∧b≠X.env.locals∧(∀x c,X.env.cells.lookup x=some c→c≠b)∧∀p∈X.pn++pins,p.1≠b) :
  ji X pins σ H' { s with heap:=h',gens:=g',drawn:=d',toks:=t' }:=by
 obtain⟨m,⟨o,es,ep,ho,r⟩,_⟩:=id I.loc
 obtain⟨sl,hL⟩:=u.any ho I.free fun z=>(hch _ z).2.1 rfl
 exact I.step (ch:=ch) hch (fun b o hL hb hc e n=>u.keep b o e n (fun z=>(List.mem_cons.mp (I.stkSub b z)).elim hL hb) hc) (fun b o _ _ hc e n=>u.any e n hc) (fun b o hc e n=>u.free b o e n hc) (fun b o hc e=>u.there b o e hc) u.tups u.frzs u.tbls (fun m' hm=>by
  obtain⟨o',es',ep',ho',r'⟩:=hm
  rw [ho] at ho';cases ho'
  exact⟨_,es',ep',hL,r'⟩) hok hg
theorem ji.turned {t':Nat}{it:Addr} (I:ji X pins σ H s) (k:∀b o,b≠it→s.heap.get? b=some o→h'.get? b=some o) (hn:H it=none) (hL:it≠X.env.locals)
  (h1:it∈X.ex∨X.s₀.heap.objs.size≤it) (h2:∀x c,X.env.cells.lookup x=some c→c≠it) (h3:∀p∈X.pn++pins,p.1≠it):ji X pins σ H { s with heap:=h',toks:=t' }:=by
 have nit:∀b u,H b=some u→b≠it:=fun b u e z=>by rw [z,hn] at e;cases e
 refine I.step (g':=s.gens) (d':=s.drawn) (ch:=[it]) (fun b hb=>?_) (fun b o _ _ hc e _=>k b o (fun z=>hc (by simp [z])) e) (fun b o _ _ hc e _=>⟨o.slots,k b o (fun z=>hc (by simp [z])) e⟩) (fun _ _ _ _ n=>n)
  (fun b o hc e=>⟨o,k b o (fun z=>hc (by simp [z])) e⟩) (fun _ _ e=>e) (fun _ _ _ e=>e) (fun b ps e=>⟨#[],by rw [e];simp⟩) (fun m hm=>?_) (fun b u e=>?_) I.bare
 ·have e:b=it:=by simpa using hb
  subst e
  exact⟨h1,hL,h2,h3⟩
 ·obtain⟨o,es,ep,ho,r⟩:=hm
  exact⟨o,es,ep,k _ o (Ne.symm hL) ho,r⟩
 ·refine (I.hok b u e).stay (fun c v hc q=>k c v ?_ q) (fun _ q=>q) fun _ _ q=>q
  rcases hc with z|z
  ·rw [z];exact nit b u e
  ·exact nit c _ z
theorem ji.tok (I:ji X pins σ H s) (t:Nat):ji X pins σ H { s with toks:=t }:=I.un (h':=s.heap) (t':=t) Un.refl I.hok
theorem ji.kept {t':Nat} (I:ji X pins σ H s) (k:∀b u,s.heap.get? b=some u→h'.get? b=some u):ji X pins σ H { s with heap:=h',toks:=t' }:=I.un (Un.kept k) (I.hok.kept k)
theorem ji.laid {a:Addr}{o:HO}{t':Nat} (I:ji X pins σ H s) (k:∀b u,s.heap.get? b=some u→h'.get? b=some u) (hp:s.heap.objs.size≤a) (new:j0 X.prog X.w (upd H a o) h' a o) :
  ji X pins σ (upd H a o) { s with heap:=h',toks:=t' }:=I.un (Un.laid k hp (I.hok.fresh hp)) (I.hok.laid k hp new)
theorem ji.write {x e:Addr}{o:HO}{t':Nat} (I:ji X pins σ H s) (mu:Nh (H x)) (he:e=x∨H e=some (.own x)) (k:∀b u,b≠e→s.heap.get? b=some u→h'.get? b=some u) (heo:∃u,h'.get? e=some u)
  (new:j0 X.prog X.w (upd H x o) h' x o):ji X pins σ (upd H x o) { s with heap:=h',toks:=t' }:=I.un (Un.write mu he k heo) (I.hok.write mu he k heo new)
theorem ji.weak {σ':List (Option V)} (I:ji X pins σ H s) (hl:σ'.length=σ.length) (w:∀(i:Nat) v,σ'[i]?=some (some v)→σ[i]?=some (some v)):ji X pins σ' H s :=
 ⟨I.ok,I.os,I.bare,I.base,let ⟨m,hn,hl'⟩:=I.loc;⟨m,hn,fun i x v e1 e2 e3=>hl' i x v e1 (w i v e2) e3⟩,I.cell,I.free,I.freeC,I.pin,I.hok,hl.trans I.len,I.hn⟩
theorem ji.pins_of {pins':oy} (I:ji X pins σ H s) (h:∀p∈pins',s.heap.get? p.1=some p.2∧H p.1=none∧p.1≠X.env.locals∧p.1 ∉ X.fs∧∀v,p.2.data≠.cell v):ji X pins' σ H s :=
 ⟨I.ok,I.os,I.bare,I.base,I.loc,I.cell,I.free,I.freeC,fun p hp=>(List.mem_append.mp hp).elim (fun z=>I.pin p (List.mem_append_left _ z)) (h p),I.hok,I.len,I.hn⟩
theorem mM {N:oG} (hN:N.Nodup) {i j:Nat} {x:Str} (a:N[i]?=some x) (b:N[j]?=some x):i=j:=by
 obtain⟨h1,e1⟩:=List.getElem?_eq_some_iff.mp a
 obtain⟨h2,e2⟩:=List.getElem?_eq_some_iff.mp b
 exact (List.getElem_inj hN).mp (e1.trans e2.symm)
theorem Z9 {M:Model}{A:Around}{E:oh}{i:Nat}{x:Str}{v:V}{u:Value}{Q:oj} (I:ji X pins σ H s) (hN:X.N.Nodup) (hi:X.N[i]?=some x) (hx:MB X.env.scope x) (r:jL v u)
  (h:∀s',ji X pins (σ.set i (some v)) H s'→(∃a,Heap.SameBut a s.heap s'.heap∧(a=X.env.locals∨X.env.cells.lookup x=some a))→Q () s') (hf:X.fn x=true∨X.env.scope.names.lookup x=some .local:=by first|exact .inl rfl|exact .inr rfl|assumption):wpAny M A (storeName X.env x u) Q E s:=by
 obtain⟨m,hn,hl⟩:=id I.loc
 have hcls:(X.env.scope.kind==.class||(X.env.scope.kind==.module&&X.env.locals != X.env.globals))=false:=by rw [I.ok.kind];rfl
 have hiσ:i<σ.length:=by rw [I.len];exact (List.getElem?_eq_some_iff.mp hi).1
 have cne:=I.cne
 have tracked:∀{a:Addr} {h':Heap},(∃o,s.heap.get? a=some o∧H a=none)→Heap.SameBut a s.heap h'→JJ X.prog X.w H h':=fun {a h'} ha hs b ob e=>by
  obtain⟨_,_,hfree⟩:=ha
  refine (I.hok b ob e).stay (fun c w' hc q=>(hs.2 c ?_).trans q) (fun _ q=>q) fun _ _ q=>q
  rintro rfl
  rcases hc with rfl|hc
  ·rw [hfree] at e;cases e
  ·rw [hfree] at hc;cases hc
 rcases hx with hk|hk
 ·refine wpAny_storeName_local hk hn (fun h' hn' hs=>?_) hcls
  obtain⟨oL,_,_,hoL,_⟩:=id hn
  refine h _ ⟨I.ok,I.os,I.bare,⟨fun b o e n hb hx=>?_,fun b o e n hb hx=>?_,I.base.free,fun b o e hx=>?_,I.base.tups,I.base.frzs,I.base.tbls⟩,⟨_,hn',fun j y v' e1 e2 e3=>?_⟩,fun y c e=>?_,I.free,I.freeC,fun p hp=>?_,tracked ⟨oL,hoL,I.free⟩ hs,by simpa using I.len,I.hn⟩ ⟨_,hs,.inl rfl⟩
  ·exact (hs.2 b (Nat.ne_of_lt (Nat.lt_of_lt_of_le (Heap.lt_size e) I.ok.above))).trans (I.base.keep b o e n hb hx)
  ·obtain⟨sl,e1⟩:=I.base.slot b o e n hb hx
   exact⟨sl,(hs.2 b (Nat.ne_of_lt (Nat.lt_of_lt_of_le (Heap.lt_size e) I.ok.above))).trans e1⟩
  ·obtain⟨o',e1⟩:=I.base.there b o e hx
   exact⟨o',(hs.2 b (Nat.ne_of_lt (Nat.lt_of_lt_of_le (Heap.lt_size e) I.ok.above))).trans e1⟩
  ·by_cases hj:j=i
   ·subst hj
    rw [hi] at e1;cases e1
    rw [List.getElem?_set_self hiσ] at e2
    cases e2
    exact⟨u,r,.inl ⟨hk,by simp⟩⟩
   ·rw [List.getElem?_set_ne (Ne.symm hj)] at e2
    obtain⟨u',r',q⟩:=hl j y v' e1 e2 e3
    refine⟨u',r',?_⟩
    rcases q with ⟨k,e⟩|⟨k,c,e,z⟩
    ·refine .inl ⟨k,?_⟩
     have:y≠x:=fun e=>hj (mM hN e1 (e▸hi))
     simp [this,e]
    ·exact .inr ⟨k,c,e,z.sameBut hs (cne y c e)⟩
  ·obtain⟨w',z⟩:=I.cell y c e
   exact⟨w',z.sameBut hs (cne y c e)⟩
  ·obtain⟨e,n,ne,nf,d⟩:=I.pin p hp
   exact⟨(hs.2 p.1 ne).trans e,n,ne,nf,d⟩
 ·have hfn:X.fn x=true:=by
   rcases hf with z|z
   ·exact z
   ·rw [z] at hk;cases hk
  obtain⟨c,hc⟩:=I.ok.has x (.inl hk)
  obtain⟨w',z⟩:=I.cell x c hc
  refine wpAny_storeName_cell I.ok.kind hk hc z (fun h' hc' hs=>?_)
  obtain⟨oc,hoc,hocd⟩:=id z
  refine h { s with heap:=h' } ⟨I.ok,I.os,I.bare,⟨fun b o e n hb hx=>?_,fun b o e n hb hx=>?_,I.base.free,fun b o e hx=>?_,I.base.tups,I.base.frzs,I.base.tbls⟩,⟨m,hn.sameBut hs (Ne.symm (cne x c hc)),fun j y v' e1 e2 e3=>?_⟩,fun y c' e=>?_,I.free,I.freeC,fun p hp=>?_,tracked ⟨oc,hoc,I.freeC x c hc⟩ hs,by simpa using I.len,I.hn⟩ ⟨c,hs,.inr hc⟩
  ·exact (hs.2 b (Nat.ne_of_lt (Nat.lt_of_lt_of_le (Heap.lt_size e) (I.ok.cab x c hfn hc)))).trans (I.base.keep b o e n hb hx)
  ·obtain⟨sl,e1⟩:=I.base.slot b o e n hb hx
   exact⟨sl,(hs.2 b (Nat.ne_of_lt (Nat.lt_of_lt_of_le (Heap.lt_size e) (I.ok.cab x c hfn hc)))).trans e1⟩
  ·obtain⟨o',e1⟩:=I.base.there b o e hx
   exact⟨o',(hs.2 b (Nat.ne_of_lt (Nat.lt_of_lt_of_le (Heap.lt_size e) (I.ok.cab x c hfn hc)))).trans e1⟩
  ·by_cases hj:j=i
   ·subst hj
    rw [hi] at e1;cases e1
    rw [List.getElem?_set_self hiσ] at e2
    cases e2
    exact⟨u,r,.inr ⟨.inl hk,c,hc,hc'⟩⟩
   ·rw [List.getElem?_set_ne (Ne.symm hj)] at e2
    obtain⟨u',r',q⟩:=hl j y v' e1 e2 e3
    refine⟨u',r',?_⟩
    rcases q with q|⟨k,c',e,z'⟩
    ·exact .inl q
    ·refine .inr ⟨k,c',e,z'.sameBut hs ?_⟩
     rintro rfl
     exact hj (mM hN e1 (I.ok.inj _ _ _ e hc▸hi))
  ·by_cases hcc:c'=c
   ·subst hcc;exact⟨_,hc'⟩
   ·obtain⟨w2,z2⟩:=I.cell y c' e
    exact⟨w2,z2.sameBut hs hcc⟩
  ·obtain⟨e,n,ne,nf,d⟩:=I.pin p hp
   refine⟨(hs.2 p.1 ?_).trans e,n,ne,nf,d⟩
   intro q
   rw [q,hoc] at e
   have q':oc=p.2:=Option.some.inj e
   exact d w' (by rw [←q'];exact hocd)
theorem Gy {M:Model}{A:Around}{E:oh}{i:Nat}{x:Str}{v:V}{u:Value}{Q:oj} (I:ji X pins σ H s) (hN:X.N.Nodup) (hi:X.N[i]?=some x) (hx:MB X.env.scope x) (r:jL v u)
  (h:∀s',ji X pins (σ.set i (some v)) H s'→Q () s') (hf:X.fn x=true∨X.env.scope.names.lookup x=some .local:=by first|exact .inl rfl|exact .inr rfl|assumption):wpAny M A (storeName X.env x u) Q E s :=
 Z9 I hN hi hx r (fun s' I' _=>h s' I') hf
theorem ji.call' {s':Shared}{ch:oB} (I:ji X pins σ H s) (ho:s'.os=s.os) (u:Un (uy X.stack) ch H H' s.heap s'.heap) (hok:JJ X.prog X.w H' s'.heap) (hg:AllBare s'.gens)
  (hch:∀b∈ch,(b∈X.ex∨X.s₀.heap.objs.size≤b)∧b≠X.env.locals∧(∀x c,X.env.cells.lookup x=some c→c≠b)∧∀p∈X.pn++pins,p.1≠b):ji X pins σ H' s':=by
 obtain⟨h',g',d',t',o'⟩:=s'
 have e:o'=s.os:=ho
 subst e
 exact I.call (g':=g') (t':=t') (d':=d') u hok hg hch
end
abbrev XK:=Value→Option Addr→Hp→Prop
abbrev St:=List (Option V)
abbrev VK:=V→Hp→Prop
abbrev TE:=St→Hp→VK→Prop
abbrev TT:=St→Hp→(Bool→Hp→Prop)→Prop
abbrev TA:=St→Hp→(List V→Hp→Prop)→Prop
structure Vz where
 nx:St→Hp→Prop
 rt:VK
 bk:St→Hp→Prop:=fun _ _=>False
 ct:St→Hp→Prop:=fun _ _=>False
abbrev TS:=Vz→St→Hp→Prop
def EP (X:Cx) (pins:oy) (σ:St) (Q:VK) (u:Value) (s':Shared):Prop:=∃v H',ji X pins σ H' s'∧jL v u∧Q v H'
def TP (X:Cx) (pins:oy) (σ:St) (Q:Bool→Hp→Prop) (b:Bool) (s':Shared):Prop:=∃H',ji X pins σ H' s'∧Q b H'
def AP (X:Cx) (pins:oy) (σ:St) (Q:List V→Hp→Prop) (us:oA) (s':Shared):Prop:=∃vs H',ji X pins σ H' s'∧jE vs us∧Q vs H'
def SP (X:Cx) (pins:oy) (D:Vz) (f:Flow) (s':Shared):Prop :=
 match f with
 | .next=>∃σ' H',ji X pins σ' H' s'∧D.nx σ' H'
 | .brk=>∃σ' H',ji X pins σ' H' s'∧D.bk σ' H'
 | .cont=>∃σ' H',ji X pins σ' H' s'∧D.ct σ' H'
 | .ret u=>∃v σ' H',ji X pins σ' H' s'∧jL v u∧D.rt v H'
def PE (X:Cx) (e:Expr) (t:TE):Prop :=
 ∀(pins:oy) (s:Shared) (σ:St) (H:Hp) (Q:VK),ji X pins σ H s→t σ H Q→wpAny (model X.prog X.w) X.A (eval e X.env) (EP X pins σ Q) X.xe s
def PT (X:Cx) (e:Expr) (t:TT):Prop :=
 ∀(pins:oy) (s:Shared) (σ:St) (H:Hp) (Q:Bool→Hp→Prop),ji X pins σ H s→t σ H Q→wpAny (model X.prog X.w) X.A (isTrue e X.env (eval e X.env)) (TP X pins σ Q) X.xe s
def PW (X:Cx) (e:Expr) (t:TT):Prop :=
 ∀(whole:Sem Value) (pins:oy) (s:Shared) (σ:St) (H:Hp) (Q:Bool→Hp→Prop),ji X pins σ H s→t σ H Q→wpAny (model X.prog X.w) X.A (isTrue e X.env whole) (TP X pins σ Q) X.xe s
theorem PW.pt {X:Cx}{e:Expr}{t:TT} (h:PW X e t):PT X e t:=h _
def PA (X:Cx) (es:oI) (t:TA):Prop :=
 ∀(pos:Pos) (pins:oy) (s:Shared) (σ:St) (H:Hp) (Q:List V→Hp→Prop),ji X pins σ H s→t σ H Q→wpAny (model X.prog X.w) X.A (spliced (backTo pos (starEach es X.env))) (AP X pins σ Q) X.xe s
def PS (X:Cx) (st:Stmt) (t:TS):Prop :=
 ∀(pins:oy) (s:Shared) (σ:St) (H:Hp) (D:Vz),ji X pins σ H s→t D σ H→wpAny (model X.prog X.w) X.A (exec st X.env) (SP X pins D) X.xe s
def zb (X:Cx) (st:List Stmt) (t:TS):Prop :=
 ∀(pins:oy) (s:Shared) (σ:St) (H:Hp) (D:Vz),ji X pins σ H s→t D σ H→wpAny (model X.prog X.w) X.A (execs st X.env) (SP X pins D) X.xe s
theorem jC {α:Type}{t:Sem α}{Q Q':α→Shared→Prop}{M:Model}{A:Around}{E:oh}{s:Shared} (h:wpAny M A t Q E s) (hQ:∀a s,Q a s→Q' a s):wpAny M A t Q' E s:=wpAny_mono h hQ fun _ _ x=>x
end L2
namespace L2
open PySem PySem.Spec PyProof.Rows
section
variable {X:Cx}
theorem og {a b:Expr}{ta tb:TE} (ha:PE X a ta) (hb:PE X b tb) {pins:oy} {s:Shared} {σ:St} {H:Hp} {R:V→V→Hp→Prop} (I:ji X pins σ H s) (h:ta σ H fun x H1=>tb σ H1 fun y H2=>R x y H2)
  {α:Type} {Q:α→Shared→Prop} {f:Value→Value→Sem α}
  (hf:∀v u s2 x y H2,ji X pins σ H2 s2→jL x v→jL y u→R x y H2→wpAny (model X.prog X.w) X.A (f v u) Q X.xe s2) :
  wpAny (model X.prog X.w) X.A (eval a X.env) (fun v s₁=>wpAny (model X.prog X.w) X.A (eval b X.env) (fun u s₂=>wpAny (model X.prog X.w) X.A (f v u) Q X.xe s₂) X.xe s₁) X.xe s:=by
 refine jC (ha pins s σ H _ I h) fun v s1 ⟨x,H1,I1,r1,q1⟩=>?_
 refine jC (hb pins s1 σ H1 _ I1 q1) fun u s2 ⟨y,H2,I2,r2,q2⟩=>?_
 exact hf v u s2 x y H2 I2 r1 r2 q2
def bM (i:Nat):TE:=fun σ H Q=>∃v,σ[i]?=some (some v)∧Q v H
def tC (v:V):TE:=fun _ H Q=>Q v H
theorem fO {i:Nat}{x:Str}{pos:Pos} (hN:X.N[i]?=some x) (hv:d8 X.env.scope x) (hd:(x==("__debug__":Str))=false:=by decide) (hcd:(x==("__classdict__":Str))=false:=by decide):PE X (.Name x pos) (bM i):=by
 intro pins s σ H Q I h
 obtain⟨v,e,h⟩:=h
 obtain⟨m,hn,hl⟩:=I.loc
 obtain⟨u,r,l⟩:=hl i x v hN e hv
 have fin:EP X pins σ Q u s:=⟨v,H,I,r,h⟩
 rcases l with ⟨hk,hm⟩|⟨hk,c,hc,hcell⟩
 ·exact wpAny_Name (wpAny_loadName_local I.ok.kind hk hn hm fin) hd
 ·rcases hk with hk|hk
  ·exact wpAny_Name (wpAny_loadName_cell I.ok.kind hk hc hcell fin) hd
  ·exact wpAny_Name (wpAny_loadName_free I.ok.kind hk hc hcell fin hcd) hd
theorem jh {i j pos}:PE X (.Constant (.int i) j pos) (tC (.int i)):=fun _ _ _ H _ I h=>wpAny_Constant_int ⟨.int i,H,I.tok _,⟨_,rfl⟩,h⟩
theorem UY {b j pos}:PE X (.Constant (.bool b) j pos) (tC (.bl b)):=fun _ _ _ H _ I h=>Constant_bool ⟨.bl b,H,I,rfl,h⟩
theorem jM {x j pos}:PE X (.Constant (.str x) j pos) (tC (.str x)):=fun _ _ _ H _ I h=>Calls.Constant_str ⟨.str x,H,I.tok _,⟨_,rfl⟩,h⟩
def Gl (X:Cx) (x:Str):Prop:=X.env.kindOf x=some .globalImplicit
theorem VD {E:oh}{pins:oy}{s:Shared}{σ:St}{H:Hp}{x:Str}{u:Value}{pos:Pos}{Q:oh} (I:ji X pins σ H s) (hg:Gl X x) (hm:X.mg x=some u) (h:Q u s)
  (hd:(x==("__debug__":Str))=false:=by decide):wpAny (model X.prog X.w) X.A (eval (.Name x pos) X.env) Q E s :=
 Calls.Name_function_global I.ok.kind hg (Calls.loadGlobal_global (by rw [I.ok.glob];exact I.mod.glob.keeps I.bk) hm h) hd
theorem ZW {E:oh}{pins:oy}{s:Shared}{σ:St}{H:Hp}{x:Str}{u:Value}{pos:Pos}{Q:oh} (I:ji X pins σ H s) (hg:Gl X x) (hm:X.mg x=none) (hv:bootBuiltins x=some u) (h:Q u s)
  (hn:x≠"__name__":=by decide) (hd:(x==("__debug__":Str))=false:=by decide):wpAny (model X.prog X.w) X.A (eval (.Name x pos) X.env) Q E s:=by
 obtain⟨mb,h1,h2⟩:=I.mod.blt
 exact Calls.Name_function_global I.ok.kind hg (Calls.loadGlobal_builtin (by rw [I.ok.glob];exact I.mod.glob.keeps I.bk) hm (by rw [I.ok.blt];exact h1.keeps I.bk) ((h2 x hn).trans hv) h) hd
theorem JY {x:Str}{v:V}{u:Value}{pos:Pos} (hg:Gl X x) (hm:X.mg x=some u) (r:jL v u) (hd:(x==("__debug__":Str))=false:=by decide):PE X (.Name x pos) (tC v) :=
 fun _ _ _ H _ I h=>VD I hg hm ⟨v,H,I,r,h⟩ hd
theorem U3 {x:Str}{v:V}{u:Value}{pos:Pos} (hg:Gl X x) (hm:X.mg x=none) (hv:bootBuiltins x=some u) (r:jL v u) (hn:x≠"__name__":=by decide) (hd:(x==("__debug__":Str))=false:=by decide):PE X (.Name x pos) (tC v) :=
 fun _ _ _ H _ I h=>ZW I hg hm hv ⟨v,H,I,r,h⟩ hn hd
variable {a b:Expr}{ta tb:TE}{pos:Pos}
def PC (X:Cx) (op:CmpOp) (a b:Expr) (t:TE):Prop :=
 ∀(pins:oy) (s:Shared) (σ:St) (H:Hp) (Q:VK),ji X pins σ H s→t σ H Q →
  wpAny (model X.prog X.w) X.A (eval a X.env) (fun v s₁=>wpAny (model X.prog X.w) X.A (eval b X.env) (fun u s₂=>wpAny (model X.prog X.w) X.A (compareOp op v u) (EP X pins σ Q) X.xe s₂) X.xe s₁) X.xe s
def tB (t:TE):TT:=fun σ H Q=>t σ H fun x H1=>∃c,x=.bl c∧Q c H1
theorem fM {op:CmpOp}{t:TE} (h:PC X op a b t) (h1:behindInMarks op b=false:=by first|exact nobehind _ (by decide) (by decide)|rfl):PE X (.Compare a [op] [b] pos) t:=fun pins s σ H Q I hw=>wpAny_Compare1 (h pins s σ H Q I hw) h1
theorem fQ {op:CmpOp}{t:TE} (h:PC X op a b t) (h1:behindInMarks op b=false:=by first|exact nobehind _ (by decide) (by decide)|rfl):PT X (.Compare a [op] [b] pos) (tB t):=by
 intro pins s σ H Q I hw
 refine wpAny_isTrue_Compare1 (jC (h pins s σ H _ I hw) fun v s1 h1=>jC h1 fun u s2 h2=>jC h2 fun c s3 ⟨x,H1,I1,r1,q1⟩=>?_) h1
 obtain⟨d,rfl,q⟩:=q1
 cases r1
 exact wpAny_truthy_bool ⟨H1,I1,q⟩
theorem JR {e:Expr}{t:TE} (h:PE X e t) (he:∀whole,isTrue e X.env whole=(do let v ←whole;standAt e.pos;holding [v] (truthy v)):=by intro _;rfl):PT X e (tB t):=by
 intro pins s σ H Q I hw
 refine isTrue_plain (jC (h pins s σ H _ I hw) fun v s1 ⟨x,H1,I1,r1,q1⟩=>?_) (he _)
 obtain⟨d,rfl,q⟩:=q1
 cases r1
 exact wpAny_truthy_bool ⟨H1,I1,q⟩
variable {tA tB':TT}{rest:oI}
def lC (t u:TT):TT:=fun σ H Q=>t σ H fun c H1=>if c=true then u σ H1 Q else Q false H1
def lZ (t u:TT):TT:=fun σ H Q=>t σ H fun c H1=>if c=true then Q true H1 else u σ H1 Q
def lM (t:TT):TT:=fun σ H Q=>t σ H fun c H1=>Q (!c) H1
theorem kU (ha:PT X a tA):PW X (.BoolOp .And [a] pos) tA:=by
 intro wh pins s σ H Q I h
 refine isTrue_and (jC (ha pins s σ H Q I h) fun c s1 e=>?_)
 cases c with
 | true=>exact isTrue_and_nil e
 | false=>exact e
theorem u8 (ha:PT X a tA):PW X (.BoolOp .Or [a] pos) tA:=by
 intro wh pins s σ H Q I h
 refine isTrue_or (jC (ha pins s σ H Q I h) fun c s1 e=>?_)
 cases c with
 | false=>exact isTrue_or_nil e
 | true=>exact e
theorem m5 (ha:PT X a tA) (hb:PW X (.BoolOp .And (b::rest) pos) tB'):PW X (.BoolOp .And (a::b::rest) pos) (lC tA tB'):=by
 intro wh pins s σ H Q I h
 refine isTrue_and (jC (ha pins s σ H _ I h) fun c s1 ⟨H1,I1,q1⟩=>?_)
 cases c with
 | true=>exact hb wh pins s1 σ H1 Q I1 q1
 | false=>exact⟨H1,I1,q1⟩
theorem UA (ha:PT X a tA) (hb:PW X (.BoolOp .Or (b::rest) pos) tB'):PW X (.BoolOp .Or (a::b::rest) pos) (lZ tA tB'):=by
 intro wh pins s σ H Q I h
 refine isTrue_or (jC (ha pins s σ H _ I h) fun c s1 ⟨H1,I1,q1⟩=>?_)
 cases c with
 | true=>exact⟨H1,I1,q1⟩
 | false=>exact hb wh pins s1 σ H1 Q I1 q1
theorem Jz (ha:PT X a tA):PT X (.UnaryOp .Not a pos) (lM tA):=by
 intro pins s σ H Q I h
 exact isTrue_not (ha pins s σ H (fun c H1=>Q (!c) H1) I h)
def iK (ta tb:TE):TE:=fun σ H Q=>ta σ H fun x H1=>∃c,x=.bl c∧if c=true then tb σ H1 Q else Q (.bl false) H1
def iP (ta:TE):TE:=fun σ H Q=>ta σ H fun x H1=>∃c,x=.bl c∧Q (.bl (!c)) H1
theorem VR {op}{t:TE} (h:PE X a t):PE X (.BoolOp op [a] pos) t:=fun pins s σ H Q I hw=>BoolOp_one (h pins s σ H Q I hw)
theorem vH (ha:PE X a ta) (hb:PE X (.BoolOp .And (b::rest) pos) tb):PE X (.BoolOp .And (a::b::rest) pos) (iK ta tb):=by
 intro pins s σ H Q I h
 refine BoolOp_and (jC (ha pins s σ H _ I h) fun v s1 ⟨x,H1,I1,r1,q1⟩=>?_)
 obtain⟨c,rfl,q1⟩:=q1
 cases r1
 refine wpAny_truthy_bool ?_
 cases c with
 | true=>exact hb pins s1 σ H1 Q I1 q1
 | false=>exact⟨.bl false,H1,I1,rfl,q1⟩
theorem ao (ha:PE X a ta):PE X (.UnaryOp .Not a pos) (iP ta):=by
 intro pins s σ H Q I h
 refine UnaryOp_ (jC (ha pins s σ H _ I h) fun v s1 ⟨x,H1,I1,r1,q1⟩=>?_)
 obtain⟨c,rfl,q1⟩:=q1
 cases r1
 exact not_of (wpAny_truthy_bool ⟨.bl (!c),H1,I1,rfl,q1⟩)
end
end L2
namespace L2
open PySem PySem.Spec PyProof.Rows
def jl (K:oq) (H:Hp) (a:Addr) (xs:List V):Prop :=
 Rd H a (.lst xs) ∨
  ∃(o:Obj) (its:oH) (n:Nat),K.lookup a=some o∧o.cls=.type "list"∧o.dict=none∧o.data=.seq its n∧its.size≤sizeLine∧jE xs its.toList
def Ji (K:oq) (H:Hp) (a:Addr) (xs:List V):Prop :=
 Rd H a (.tup xs) ∨
  ∃(o:Obj) (its:oH) (n:Nat),K.lookup a=some o∧o.cls=.type "tuple"∧o.data=.seq its n∧its.size≤sizeLine∧jE xs its.toList
def i9:Value→Option V
 | .none=>some .non
 | .bool b=>some (.bl b)
 | .int i _=>some (.int i)
 | .str x _=>some (.str x)
 | .bytes b _=>some (.byt b)
 | .float b _=>some (.flt b)
 | .ref a=>some (.ref a)
 | .type n=>some (.ty n)
 | _=>none
theorem jL.abs {x:V}{u:Value} (r:jL x u):i9 u=some x:=by
 cases x with
 | non=>cases r;rfl
 | bl _=>cases r;rfl
 | int _=>obtain⟨t,rfl⟩:=r;rfl
 | str _=>obtain⟨t,rfl⟩:=r;rfl
 | byt _=>obtain⟨t,rfl⟩:=r;rfl
 | flt _=>obtain⟨t,rfl⟩:=r;rfl
 | ref _=>cases r;rfl
 | ty _=>cases r;rfl
theorem jL.inj {x y:V}{u:Value} (r:jL x u) (q:jL y u):x=y:=Option.some.inj (r.abs.symm.trans q.abs)
theorem jE.inj:∀{xs ys:List V} {us:oA},jE xs us→jE ys us→xs=ys
 | _,_,_,.nil,.nil=>rfl
 | _,_,_,.cons r t,.cons r' t'=>by rw [r.inj r',jE.inj t t']
section
variable {X:Cx}{pins:oy}{σ:St}{H:Hp}{s:Shared}{a:Addr}{xs ys:List V}
theorem jl.of {K:oq} (h:H a=some (.lst xs)):jl K H a xs:=.inl (.inl h)
theorem Ji.of {K:oq} (h:H a=some (.tup xs)):Ji K H a xs:=.inl (.inl h)
theorem ji.list (I:ji X pins σ H s) (h:jl X.K H a xs):∃its:List Value,jE xs its∧PlainL s.heap a its.toArray∧xs.length≤sizeLine:=by
 rcases h with h|⟨o,its,n,hk,hc,hd,hs,hz,r⟩
 ·obtain⟨z,its,n,r,e⟩:=h.ok I.hok
  exact⟨its,r,⟨_,n,e,rfl,rfl,rfl⟩,z⟩
 ·refine⟨its.toList,r,⟨o,n,I.kIn a o hk,hc,hd,by simpa using hs⟩,?_⟩
  have e:=r.length
  simp only [Array.length_toList] at e
  omega
theorem ji.tuple (I:ji X pins σ H s) (h:Ji X.K H a xs):∃its:List Value,jE xs its∧IsTup s.heap a its.toArray∧xs.length≤sizeLine:=by
 rcases h with h|⟨o,its,n,hk,hc,hs,hz,r⟩
 ·obtain⟨z,its,r,p⟩:=h.ok I.hok
  exact⟨its,r,p,z⟩
 ·refine⟨its.toList,r,⟨o,I.kIn a o hk,hc,n,by simpa using hs⟩,?_⟩
  have e:=r.length
  simp only [Array.length_toList] at e
  omega
theorem ji.list_inj (I:ji X pins σ H s) (h:jl X.K H a xs) (h':jl X.K H a ys):xs=ys:=by
 obtain⟨its,r,⟨o,n,e,_,_,d⟩,_⟩:=I.list h
 obtain⟨its',r',⟨o',n',e',_,_,d'⟩,_⟩:=I.list h'
 rw [e] at e';cases e'
 rw [d] at d'
 injection d' with d1 _
 have:its=its':=by simpa using congrArg Array.toList d1
 subst this
 exact r.inj r'
end
section
variable {X:Cx}{st:Stmt}{rest:List Stmt}{t u:TS}{e:Expr}{te:TE}{pos:Pos}
def iO:TS:=fun D σ H=>D.nx σ H
def v9 (t u:TS):TS:=fun D σ H=>t { D with nx:=u D } σ H
theorem jI:zb X [] iO:=fun _ _ σ H _ I h=>wpAny_execs_nil ⟨σ,H,I,h⟩
theorem jg (h1:PS X st t) (h2:zb X rest u):zb X (st::rest) (v9 t u):=by
 intro pins s σ H D I h
 refine wpAny_execs_cons (jC (h1 pins s σ H { D with nx:=u D } I h) fun f s1 q=>?_)
 cases f with
 | next =>
  obtain⟨σ',H',I',q⟩:=q
  exact h2 pins s1 σ' H' D I' q
 | ret v=>exact q
 | brk=>exact q
 | cont=>exact q
theorem jm (h1:PS X st t):zb X [st] t:=by
 intro pins s σ H D I h
 refine wpAny_execs_cons (jC (h1 pins s σ H D I h) fun f s1 q=>?_)
 cases f with
 | next=>exact wpAny_execs_nil q
 | ret v=>exact q
 | brk=>exact q
 | cont=>exact q
theorem ji.quiet {pins:oy}{σ:St}{H:Hp}{s:Shared} (I:ji X pins σ H s):interactive X.env=false:=by simp [interactive,I.ok.kind]
def iN (te:TE):TS:=fun D σ H=>te σ H fun _ H1=>D.nx σ H1
theorem JP (he:PE X e te) (hs:swapsWith e none pos.line X.env=pure false:=by rfl):PS X (.Expr e pos) (iN te):=by
 intro pins s σ H D I h
 exact wpAny_Expr_any (jC (he pins s σ H _ I h) fun v s1 ⟨x,H1,I1,r1,q1⟩=>⟨σ,H1,I1,q1⟩) I.quiet hs
def lN (te:TE):TS:=fun D σ H=>te σ H D.rt
theorem jN (he:PE X e te):PS X (.Return (some e) pos) (lN te):=by
 intro pins s σ H D I h
 exact wpAny_Return_some (jC (he pins s σ H _ I h) fun v s1 ⟨x,H1,I1,r1,q1⟩=>⟨x,σ,H1,I1,r1,q1⟩)
def lI (c:TT) (t u:TS):TS:=fun D σ H=>c σ H fun b H1=>if b=true then t D σ H1 else u D σ H1
theorem jV {c:Expr}{a b:List Stmt}{tc:TT} (hc:PT X c tc) (ha:zb X a t) (hb:zb X b u):PS X (.If c a b pos) (lI tc t u):=by
 intro pins s σ H D I h
 refine wpAny_If (jC (hc pins s σ H _ I h) fun d s1 ⟨H1,I1,q1⟩=>?_)
 cases d with
 | true=>exact ha pins s1 σ H1 D I1 q1
 | false=>exact hb pins s1 σ H1 D I1 q1
end
abbrev TG:=V→St→Hp→(St→Hp→Prop)→Prop
abbrev Kg:=List V→St→Hp→(St→Hp→Prop)→Prop
def PG (X:Cx) (target:Expr) (t:TG):Prop :=
 ∀(pins:oy) (s:Shared) (σ:St) (H:Hp) (v:V) (u:Value) (Q:St→Hp→Prop),ji X pins σ H s→jL v u→t v σ H Q →
  wpAny (model X.prog X.w) X.A (assign target X.env u) (fun _ s'=>∃σ' H',ji X pins σ' H' s'∧Q σ' H') X.xe s
def Ni (X:Cx) (ts:oI) (t:Kg):Prop :=
 ∀(pins:oy) (s:Shared) (σ:St) (H:Hp) (vs:List V) (us:oA) (Q:St→Hp→Prop),ji X pins σ H s→jE vs us→t vs σ H Q →
  wpAny (model X.prog X.w) X.A (assignInOrder ((assignEach ts X.env).map (·.2)) us) (fun _ s'=>∃σ' H',ji X pins σ' H' s'∧Q σ' H') X.xe s
abbrev aQ:=V→V→V→Hp→(Hp→Prop)→Prop
def d0 (X:Cx) (t:aQ):Prop :=
 ∀(pins:oy) (s:Shared) (σ:St) (H:Hp) (o i v:V) (ov iv u:Value) (Q:Hp→Prop),ji X pins σ H s→jL o ov→jL i iv→jL v u→t o i v H Q →
  wpAny (model X.prog X.w) X.A (setItem ov iv u) (fun _ s'=>∃H',ji X pins σ H' s'∧Q H') X.xe s
section
variable {X:Cx}{pos:Pos}
def K0 (i:Nat):TG:=fun v σ H Q=>Q (σ.set i (some v)) H
theorem ju {i:Nat}{x:Str} (hN:X.N.Nodup) (hi:X.N[i]?=some x) (hx:MB X.env.scope x) (hf:X.fn x=true∨X.env.scope.names.lookup x=some .local:=by first|exact .inl rfl|exact .inr rfl|assumption):PG X (.Name x pos) (K0 i):=by
 intro pins s σ H v u Q I r h
 exact wpAny_assign_Name (Gy I hN hi hx r (fun s' I'=>⟨_,H,I',h⟩) hf)
def lg:Kg:=fun vs σ H Q=>vs=[]∧Q σ H
def iq (t:TG) (u:Kg):Kg:=fun vs σ H Q=>∃v r,vs=v::r∧t v σ H fun σ' H'=>u r σ' H' Q
theorem uo:Ni X [] lg:=by
 intro pins s σ H vs us Q I r h
 obtain⟨e,h⟩:=h
 subst e
 cases r
 exact assignInOrder_nil ⟨σ,H,I,h⟩
theorem jH {e:Expr}{es:oI}{t:TG}{u:Kg} (h1:PG X e t) (h2:Ni X es u)
  (hs:(assignEach (e::es) X.env).map (·.2)=assign e X.env::(assignEach es X.env).map (·.2):=by rfl):Ni X (e::es) (iq t u):=by
 intro pins s σ H vs us Q I r h
 obtain⟨v,vr,e1,h⟩:=h
 subst e1
 cases r with
 | cons r rr =>
  rw [hs]
  refine assignInOrder_cons (jC (h1 pins s σ H _ _ _ I r h) fun _ s1 ⟨σ1,H1,I1,q1⟩=>?_)
  exact h2 pins s1 σ1 H1 _ _ Q I1 rr q1
def eN (K:oq) (n:Nat) (t:Kg):TG:=fun v σ H Q=>∃a xs,v=.ref a∧Ji K H a xs∧xs.length=n∧t xs σ H Q
theorem u6 {es:oI}{k:Nat}{t:Kg}{n:Nat} (hc:X.calm=true) (h:Ni X es t)
  (hn:(assignEach es X.env).length=n:=by rfl) (hst:(assignEach es X.env).findIdx? (·.1)=none:=by rfl):PG X (.Tuple es k pos) (eN X.K n t):=by
 intro pins s σ H v u Q I r hw
 obtain⟨a,xs,e1,hq,hl,hw⟩:=hw
 subst e1
 cases r
 obtain⟨its,rv,ht,hz⟩:=I.tuple hq
 refine assign_Tuple_tuple (I.ok.hd hc) ht (by simp [hn,←hl,rv.length]) hst fun h' hx=>?_
 have I1:ji X pins σ H { s with heap:=h' }:=I.kept (t':=s.toks) fun b o e=>hx b o (Nat.ne_of_lt (Heap.lt_size e)) e
 exact h pins _ σ H xs _ Q I1 (by simpa using rv) hw
def lj (to ti:TE) (t:aQ):TG:=fun v σ H Q=>to σ H fun o H1=>ti σ H1 fun i H2=>t o i v H2 fun H3=>Q σ H3
theorem aq {o i:Expr}{to ti:TE}{t:aQ} (ho:PE X o to) (hi:PE X i ti) (hs:d0 X t)
  (ha:∀v,assign (.Subscript o i pos) X.env v=(do
   let ov ←holding [v] (eval o X.env)
   let iv ←holding [v,ov] (eval i X.env)
   standAt pos
   holding [v,ov,iv] (setItem ov iv v)
   release [v,ov,iv] []):=by intro _;rfl):PG X (.Subscript o i pos) (lj to ti t):=by
 intro pins s σ H v u Q I r h
 rw [ha]
 refine oN (wpAny_holding (jC (ho pins s σ H _ I h) fun ov s1 ⟨x,H1,I1,r1,q1⟩=>?_))
 refine oN (wpAny_holding (jC (hi pins s1 σ H1 _ I1 q1) fun iv s2 ⟨y,H2,I2,r2,q2⟩=>?_))
 refine oN (wpAny_standAt (oN (wpAny_holding (jC (hs pins s2 σ H2 x y v ov iv u _ I2 r1 r2 r q2) fun _ s3 ⟨H3,I3,q3⟩=>?_))))
 exact wpAny_release ⟨σ,H3,I3,q3⟩
def Nb (te:TE) (g:TG):TS:=fun D σ H=>te σ H fun x H1=>g x σ H1 D.nx
theorem Z4 {tg e:Expr}{te:TE}{g:TG} (he:PE X e te) (hg:PG X tg g) (hs:swapsWithSole [tg] e pos.line X.env=pure false:=by rfl) (hw:swappedStores [tg] e X.env=pure none:=by rfl)
  (h1:(assignEach [tg] X.env).map (·.2)=[assign tg X.env]:=by rfl):PS X (.Assign [tg] e pos) (Nb te g):=by
 intro pins s σ H D I h
 refine wpAny_Assign_stores (jC (he pins s σ H _ I h) fun v s1 ⟨x,H1,I1,r1,q1⟩=>?_) hs hw
 rw [h1]
 exact jC (hg pins s1 σ H1 x v _ I1 r1 q1) fun _ s2 q=>q
theorem jB {i:Nat}{x:Str}{e:Expr}{te:TE}{pos':Pos} (hN:X.N.Nodup) (hi:X.N[i]?=some x) (hx:MB X.env.scope x) (he:PE X e te) (hs:swapsWith e (some (.Name x pos')) pos.line X.env=pure false:=by rfl) (hf:X.fn x=true∨X.env.scope.names.lookup x=some .local:=by first|exact .inl rfl|exact .inr rfl|assumption) :
  PS X (.Assign [.Name x pos'] e pos) (Nb te (K0 i)):=by
 intro pins s σ H D I h
 refine wpAny_Assign_Name (jC (he pins s σ H _ I h) fun v s1 ⟨y,H1,I1,r1,q1⟩=>?_) hs
 exact Gy I1 hN hi hx r1 (fun s2 I2=>⟨_,H1,I2,q1⟩) hf
end
section
variable {X:Cx}{pos:Pos}
def ic (c:TT) (tb:TS):TS:=fun D σ H=>∃W:Nat→St→Hp→Prop,(∃m,W m σ H)∧∀m σ H,W m σ H →
 c σ H fun b H1=>if b=true then ∃N:St→Hp→Prop,(∀σ' H',N σ' H'→∃m',m'<m∧W m' σ' H')∧tb { D with nx:=N,ct:=N,bk:=D.nx } σ H1 else D.nx σ H1
theorem bx {c:Expr}{body:List Stmt}{tc:TT}{tb:TS} (hp:PassesOwn (model X.prog X.w) X.A X.env X.xe) (hc:PT X c tc) (hb:zb X body tb):PS X (.While c body [] pos) (ic tc tb):=by
 intro pins s σ H D I h
 obtain⟨W,⟨m0,w0⟩,turn⟩:=h
 refine wpAny_While (codeAny_whileLoop (fun n s'=>∃σ' H',ji X pins σ' H' s'∧W n σ' H') ?_ m0 ⟨σ,H,I,w0⟩)
 rintro n s1 ⟨σ1,H1,I1,w1⟩
 refine wpAny_passesOwn hp (jC (hc pins s1 σ1 H1 _ I1 (turn n σ1 H1 w1)) fun b s2 ⟨H2,I2,q2⟩=>?_)
 cases b with
 | true =>
  obtain⟨N,hN,q2⟩:=q2
  rw [if_pos rfl]
  refine wpAny_passesOwn hp (jC (hb pins s2 σ1 H2 _ I2 q2) fun f s3 q3=>?_)
  cases f with
  | next =>
   obtain⟨σ3,H3,I3,n3⟩:=q3
   obtain⟨m',hm,w3⟩:=hN σ3 H3 n3
   exact⟨m',hm,σ3,H3,I3,w3⟩
  | cont =>
   obtain⟨σ3,H3,I3,n3⟩:=q3
   obtain⟨m',hm,w3⟩:=hN σ3 H3 n3
   exact⟨m',hm,σ3,H3,I3,w3⟩
  | brk=>exact q3
  | ret v=>exact q3
 | false =>
  rw [if_neg Bool.false_ne_true]
  exact wpAny_execs_nil ⟨σ1,H2,I2,q2⟩
end
structure It where
 go:Nat→Hp→Prop
 yld:Nat→Hp→V→Hp→Prop
 stop:Nat→Hp→Prop
def Vk (X:Cx) (pins:oy) (H:Hp) (b:Addr):Prop :=
 H b=none∧b≠X.env.locals∧b ∉ X.fs∧(b∈X.ex∨X.s₀.heap.objs.size≤b)∧(∀x c,X.env.cells.lookup x=some c→c≠b)∧∀p∈X.pn++pins,p.1≠b
theorem ji.fpOk {X:Cx}{pins:oy}{σ:St}{H H':Hp}{s:Shared}{b:Addr} (I:ji X pins σ H s) (hb:s.heap.objs.size≤b) (hn:H' b=none):Vk X pins H' b:=by
 refine⟨hn,Nat.ne_of_gt (Nat.lt_of_lt_of_le I.lt hb),I.nofs hb,.inr (Nat.le_trans I.sz hb),fun x c e z=>?_,fun p hp z=>?_⟩
 ·obtain⟨v,q⟩:=I.cell x c e
  exact absurd (Nat.lt_of_lt_of_le q.lt (by rw [z];exact hb)) (Nat.lt_irrefl _)
 ·exact absurd (Nat.lt_of_lt_of_le (Heap.lt_size (I.pin p hp).1) (by rw [z];exact hb)) (Nat.lt_irrefl _)
structure md (P:oM) (w:World) (K:oq) (tg:Expr) (J:It) (fp:oB) (it:Addr) (tn:Nat→Heap→Prop) (nm:Bool):Prop where
 mem:it∈fp
 obj:∀i h,tn i h→∀b∈fp,∃o,h.get? b=some o∧∀v,o.data≠.cell v
 keep:∀i h h',tn i h→(∀b∈fp,∀o,h.get? b=some o→h'.get? b=some o)→tn i h'
 item:∀(X:Cx),X.prog=P→X.w=w→X.K=K→(nm=true→X.calm=true)→∀(i:Nat) (pins:oy) (s:Shared) (σ:St) (H:Hp) (E:oh),ji X pins σ H s→(∀b∈fp,Vk X pins H b)→tn i s.heap→J.go i H →
  wpAny (model P w) X.A (pyNext (.ref it)) (fun r s1=>∃u,r=some u ∧
   wpAny (model P w) X.A (letOwnedTupleGo tg (.ref it) u) (fun _ s2=>∃x H',ji X pins σ H' s2∧jL x u∧J.yld i H x H'∧tn (i+1) s2.heap∧∀b∈fp,H' b=none) E s1) E s
 done:∀(X:Cx),X.prog=P→X.w=w→X.K=K→(nm=true→X.calm=true)→∀(i:Nat) (pins:oy) (s:Shared) (σ:St) (H:Hp) (E:oh),ji X pins σ H s→(∀b∈fp,Vk X pins H b)→tn i s.heap→J.stop i H →
  wpAny (model P w) X.A (pyNext (.ref it)) (fun r s1=>r=none∧ji X pins σ H s1) E s
 self:∀(A:Around) (i:Nat) (s:Shared) (Q:oh) (E:oh),tn i s.heap→Q (.ref it) s→wpAny (model P w) A (pyIter (.ref it)) Q E s
def gh (X:Cx) (tg:Expr) (J:It) (fp:oB) (it:Addr) (tn:Nat→Heap→Prop):Prop:=∃nm,md X.prog X.w X.K tg J fp it tn nm∧(nm=true→X.calm=true)
theorem gh.of {X:Cx}{tg:Expr}{J:It}{fp:oB}{it:Addr}{tn:Nat→Heap→Prop} (T:md X.prog X.w X.K tg J fp it tn false):gh X tg J fp it tn:=⟨false,T,fun z=>by cases z⟩
abbrev TI:=St→Hp→(It→Hp→Prop)→Prop
def iV (X:Cx) (pins:oy) (σ:St) (tg:Expr) (R:It→Hp→Prop) (itv:Value) (s2:Shared):Prop :=
 ∃(it:Addr) (fp:oB) (tn:Nat→Heap→Prop) (J:It) (H':Hp),itv=.ref it∧ji X pins σ H' s2∧gh X tg J fp it tn∧tn 0 s2.heap∧(∀b∈fp,Vk X pins H' b)∧R J H'
def PI (X:Cx) (tg iter:Expr) (wi:TI):Prop :=
 ∀(pins:oy) (s:Shared) (σ:St) (H:Hp) (R:It→Hp→Prop),ji X pins σ H s→wi σ H R →
  wpAny (model X.prog X.w) X.A (eval iter X.env) (fun v s1=>wpAny (model X.prog X.w) X.A (pyIter v) (iV X pins σ tg R) X.xe s1) X.xe s
theorem nG {M:Model}{A:Around}{E:oh}{s:Shared}{tg:Expr}{it:Addr}{u:Value}{o:Obj}{n:String}{vs:oH}{Q:oj} (ho:s.heap.get? it=some o) (hc:o.cls=.type n) (hd:o.data=.fields vs)
  (hn:["enumerate","zip","dict_itemiterator","dict_reverseitemiterator","odict_iterator","itertools.zip_longest","itertools.pairwise"].contains n=false) (hQ:Q () s):wpAny M A (letOwnedTupleGo tg (.ref it) u) Q E s:=by
 unfold letOwnedTupleGo
 cases tg<;>first
  | exact oO hQ
  | (cases u<;>first
    | exact oO hQ
    | (refine oN (wpAny_load ho ?_)
       rw [hc,hd]
       show wpAny M A (if (["enumerate","zip","dict_itemiterator","dict_reverseitemiterator","odict_iterator","itertools.zip_longest","itertools.pairwise"].contains n&&vs[0]?==some (rawInt _))=true then _ else _) Q E s
       rw [if_neg (by intro h;rw [hn,Bool.false_and] at h;cases h)]
       exact oO hQ))
def K7 (K:oq) (a:Addr):It :=
 ⟨fun i H=>∃xs x,jl K H a xs∧xs[i]?=some x,fun i H x H'=>H'=H∧∀xs,jl K H a xs→xs[i]?=some x,fun i H=>∃xs,jl K H a xs∧xs.length≤i⟩
def Ke (lo:Int) (n:Nat):It:=⟨fun i _=>i<n,fun i H x H'=>H'=H∧x=.int (lo+i),fun i _=>n≤i⟩
theorem aJ {P:oM}{w:World}{K:oq}{tg:Expr} (a it:Addr):md P w K tg (K7 K a) [it] it (fun i h=>h.IsListIter it a i) false where
 mem:=by simp
 obj:=fun i h st b hb=>by
  have e:b=it:=by simpa using hb
  subst e
  obtain⟨o,e,c,d⟩:=st
  exact⟨o,e,fun v z=>by rw [d] at z;cases z⟩
 keep:=fun i h h' st k=>st.at fun o e=>k it (by simp) o e
 item:=by
  intro X hP hw hK hc i pins s σ H E I hf st hg
  subst hP hw hK
  obtain⟨xs,x,hq,hx⟩:=hg
  obtain⟨its,rv,p,hz⟩:=I.list hq
  obtain⟨u,hu,ru⟩:=rv.get hx
  obtain⟨f0,f1,f2,f3,f4,f5⟩:=hf it (by simp)
  refine wpAny_pyNext_list_item st p.isList (x:=u) (by simpa using hu) fun h' st' sb=>?_
  have I1:ji X pins σ H { s with heap:=h' }:=I.turned (t':=s.toks) (fun b o hb e=>(sb.2 b hb).trans e) f0 f1 f3 f4 f5
  obtain⟨o,e,c,d⟩:=id st'
  exact⟨u,rfl,nG (s:={ s with heap:=h' }) e c d (by decide) ⟨x,H,I1,ru,⟨rfl,fun ys hy=>by rw [I.list_inj hy hq];exact hx⟩,st',fun b hb=>(hf b hb).1⟩⟩
 done:=by
  intro X hP hw hK hc i pins s σ H E I hf st hg
  subst hP hw hK
  obtain⟨xs,hq,hx⟩:=hg
  obtain⟨its,rv,p,hz⟩:=I.list hq
  obtain⟨f0,f1,f2,f3,f4,f5⟩:=hf it (by simp)
  have hl:=rv.length
  exact cX (I.hn.now I.hok) st p.isList (by simp;omega) fun h' eb=>⟨rfl,I.turned (t':=s.toks) (fun b o hb e=>eb b o hb e) f0 f1 f3 f4 f5⟩
 self:=fun _ _ _ _ _ st h=>wpAny_pyIter_listiter st h
theorem Nf {P:oM}{w:World}{K:oq}{tg:Expr} (it:Addr) (lo:Int) (n:Nat):md P w K tg (Ke lo n) [it] it (fun i h=>IsRangeIter h it (lo+(i:Nat)*1) ((n:Int) - (i:Nat)) 1) false where
 mem:=by simp
 obj:=fun i h st b hb=>by
  have e:b=it:=by simpa using hb
  subst e
  exact⟨_,st,fun v z=>by
   have z':Data.fields _=Data.cell v:=z
   cases z'⟩
 keep:=fun i h h' st k=>k it (by simp) _ st
 item:=by
  intro X hP hw hK hc i pins s σ H E I hf st hg
  subst hP hw hK
  obtain⟨f0,f1,f2,f3,f4,f5⟩:=hf it (by simp)
  refine wpAny_pyNext_range_item st (by have:i<n:=hg;omega) fun h' st' sb=>?_
  obtain⟨tk,htk⟩:∃tk,tk=s.toks+1:=⟨_,rfl⟩
  rw [←htk]
  have I1:ji X pins σ H { s with heap:=h',toks:=tk }:=I.turned (fun b o hb e=>(sb.2 b hb).trans e) f0 f1 f3 f4 f5
  have st2:IsRangeIter h' it (lo+((i+1:Nat):Int)*1) ((n:Int) - ((i+1:Nat):Int)) 1:=by
   rw [show lo+((i+1:Nat):Int)*1=lo+(i:Int)*1+1 by omega,show (n:Int) - ((i+1:Nat):Int)=(n:Int) - (i:Int) - 1 by omega];exact st'
  refine⟨_,rfl,nG (s:={ s with heap:=h',toks:=tk }) (n:="range_iterator") st' rfl rfl (by decide) ⟨.int (lo+i),H,I1,⟨s.toks,?_⟩,⟨rfl,rfl⟩,st2,fun b hb=>(hf b hb).1⟩⟩
  rw [Int.mul_one]
 done:=by
  intro X hP hw hK hc i pins s σ H E I hf st hg
  subst hP hw hK
  obtain⟨f0,f1,f2,f3,f4,f5⟩:=hf it (by simp)
  exact bF (I.hn.now I.hok) st (by have:n≤i:=hg;omega) fun h' eb=>⟨rfl,I.turned (t':=s.toks) (fun b o hb e=>eb b o hb e) f0 f1 f3 f4 f5⟩
 self:=fun _ _ _ _ _ st h=>wpAny_pyIter_rangeiter st h
end L2
namespace L2
open PySem PySem.Spec PyProof.Rows
section
variable {X:Cx}{tg:Expr}
def iu (K:oq) (tl:TE):TI:=fun σ H R=>tl σ H fun x H1=>∃a,x=.ref a∧(∃xs,jl K H1 a xs)∧R (K7 K a) H1
theorem Ja {l:Expr}{tl:TE} (hl:PE X l tl):PI X tg l (iu X.K tl):=by
 intro pins s σ H R I h
 refine jC (hl pins s σ H _ I h) fun v s1 ⟨x,H1,I1,r1,q1⟩=>?_
 obtain⟨a,e,⟨xs,hq⟩,q⟩:=q1
 subst e
 cases r1
 obtain⟨its,rv,p,hz⟩:=I1.list hq
 refine wpAny_pyIter_list p.isList ?_
 refine⟨s1.heap.objs.size,[s1.heap.objs.size],_,_,H1,rfl,I1.kept (t':=s1.toks) fun b o e=>Heap.get?_push_of_some _ e,gh.of (aJ a _),⟨_,Heap.get?_push_size _ rfl,rfl,rfl⟩,fun b hb=>?_,q⟩
 have e:b=s1.heap.objs.size:=by simpa using hb
 subst e
 exact I1.fpOk (Nat.le_refl _) (I1.hok.fresh (Nat.le_refl _))
theorem bE {pins:oy}{σ:St}{H:Hp}{s:Shared}{R:It→Hp→Prop}{E:oh}{lo hi:Int}{t u v:Tok}{tk:Nat} (I:ji X pins σ H s) (h1:-(2^62)≤lo) (h2:lo<2^62) (h3:-(2^62)≤hi) (h4:hi<2^62)
  (q:R (Ke lo (hi - lo).toNat) H):wpAny (model X.prog X.w) X.A (pyIter (.ref s.heap.objs.size)) (iV X pins σ tg R) E { s with heap:=s.heap.push { cls:=.type "range",data:=.fields #[.int lo t,.int hi u,.int 1 v] },toks:=tk }:=by
 refine wpAny_pyIter_range (IsRange.new ..) (small_one h1 h2 h3 h4) ?_
 have I1:ji X pins σ H { s with heap:=s.heap.push { cls:=.type "range",data:=.fields #[.int lo t,.int hi u,.int 1 v] },toks:=tk }:=I.kept fun b o e=>Heap.get?_push_of_some _ e
 refine⟨(s.heap.push { cls:=.type "range",data:=.fields #[.int lo t,.int hi u,.int 1 v] }).objs.size,[(s.heap.push { cls:=.type "range",data:=.fields #[.int lo t,.int hi u,.int 1 v] }).objs.size],_,_,H,rfl,
  I1.kept (t':=tk) fun b o e=>Heap.get?_push_of_some _ e,gh.of (Nf _ lo (hi - lo).toNat),?_,fun b hb=>?_,q⟩
 ·have e1:lo+((0:Nat):Int)*1=lo:=by simp
  have e2:(((hi - lo).toNat:Nat):Int) - ((0:Nat):Int)=Builtin.Range.rangeSize lo hi 1:=by rw [rangeSize_one];split<;>omega
  show IsRangeIter _ _ (lo+((0:Nat):Int)*1) ((((hi - lo).toNat:Nat):Int) - ((0:Nat):Int)) 1
  rw [e1,e2]
  exact Heap.get?_push_size _ rfl
 ·have e:b=(s.heap.push { cls:=.type "range",data:=.fields #[.int lo t,.int hi u,.int 1 v] }).objs.size:=by simpa using hb
  subst e
  exact I1.fpOk (Nat.le_refl _) (I1.hok.fresh (Nat.le_refl _))
def iw (ta:TA):TI:=fun σ H R=>ta σ H fun vs H1=>∃j:Int,vs=[.int j]∧-(2^62)≤j∧j<2^62∧R (Ke 0 j.toNat) H1
theorem UL {a:Expr}{ta:TA}{p pos:Pos} (hg:Gl X "range") (hm:X.mg "range"=none) (ha:PA X [a] ta) (hs:starEach [a] X.env=[(false,eval a X.env)]:=by rfl):PI X tg (.Call (.Name "range" p) [a] [] pos) (iw ta):=by
 intro pins s σ H R I h
 refine Call_ (ZW I hg hm boot_range (PyProof.Rows.callWith_type1 (jC (ha pos pins s σ H _ I h) fun us s1 ⟨vs,H1,I1,r1,q1⟩=>?_) hs rfl))
 obtain⟨j,e,q1,q2,q⟩:=q1
 subst e
 cases r1 with
 | cons r rr =>
  cases rr
  obtain⟨t,rfl⟩:=r
  exact call_range_1 (bE I1 (by omega) (by omega) q1 q2 (by simpa using q))
def lH (wi:TI) (g:TG) (tb:TS):TS:=fun D σ H=>wi σ H fun J H1=>∃W:Nat→Nat→St→Hp→Prop,(∃m,W 0 m σ H1)∧∀i m σ H,W i m σ H →
 (J.stop i H∧D.nx σ H)∨(J.go i H∧∃N:St→Hp→Prop,(∀σ' H',N σ' H'→∃m',m'<m∧W (i+1) m' σ' H')∧∀x H',J.yld i H x H'→g x σ H' fun σ2 H2=>tb { D with nx:=N,ct:=N,bk:=D.nx } σ2 H2)
def zT (fp:oB) (h:Heap):List (Addr×Obj):=fp.filterMap fun b=>(h.get? b).map fun o=>(b,o)
theorem vP {fp:oB}{h:Heap}{b:Addr}{o:Obj} (hb:b∈fp) (e:h.get? b=some o):(b,o)∈zT fp h:=List.mem_filterMap.mpr ⟨b,hb,by rw [e];rfl⟩
theorem ah {fp:oB}{h:Heap}{p:Addr×Obj} (hp:p∈zT fp h):p.1∈fp∧h.get? p.1=some p.2:=by
 obtain⟨b,hb,e⟩:=List.mem_filterMap.mp hp
 cases q:h.get? b with
 | none=>rw [q] at e;cases e
 | some o =>
  rw [q] at e
  have e':(b,o)=p:=Option.some.inj e
  subst e'
  exact⟨hb,q⟩
theorem ji.pinned {pins:oy}{σ:St}{H:Hp}{s:Shared}{fp:oB} (I:ji X pins σ H s) (hf:∀b∈fp,Vk X pins H b) (ho:∀b∈fp,∃o,s.heap.get? b=some o∧∀v,o.data≠.cell v):ji X (pins++zT fp s.heap) σ H s :=
 I.pins_of fun p hp=>(List.mem_append.mp hp).elim (fun z=>I.pin p (List.mem_append_right _ z)) fun z=>by
  obtain⟨hb,e⟩:=ah z
  obtain⟨f0,f1,f2,_⟩:=hf p.1 hb
  obtain⟨o,e',d⟩:=ho p.1 hb
  rw [e] at e';cases e'
  exact⟨e,f0,f1,f2,d⟩
theorem ji.unpinned {pins pl:oy}{σ:St}{H:Hp}{s:Shared} (I:ji X (pins++pl) σ H s):ji X pins σ H s:=I.pins_of fun p hp=>I.pin p (List.mem_append_right _ (List.mem_append_left _ hp))
theorem uC {iter:Expr}{body:List Stmt}{wi:TI}{g:TG}{tb:TS}{pos:Pos} (hp:PassesOwn (model X.prog X.w) X.A X.env X.xe) (hi:PI X tg iter wi) (hg:PG X tg g) (hb:zb X body tb)
  (hs:∀x,foldedSetIterable iter X.env x=pure x:=by intro _;rfl):PS X (.For tg iter body [] pos) (lH wi g tb):=by
 intro pins s σ H D I h
 refine wpAny_For (jC (hi pins s σ H _ I h) fun v s1 h1=>jC h1 fun itv s2 h2=>?_) hs
 obtain⟨it,fp,tn,J,H2,e,I2,T,st2,f2,W,⟨m0,w0⟩,turn⟩:=h2
 subst e
 obtain⟨nm,T,hc⟩:=T
 have stat:∀{H':Hp},(∀b∈fp,H' b=none)→∀b∈fp,Vk X pins H' b:=fun hn b hb=>⟨hn b hb,(f2 b hb).2⟩
 refine codeAny_forLoop_any (fun n s'=>∃i σ' H',ji X pins σ' H' s'∧tn i s'.heap∧(∀b∈fp,H' b=none)∧W i n σ' H') ?_ m0 ⟨0,σ,H2,I2,st2,fun b hb=>(f2 b hb).1,w0⟩
 rintro n s3 ⟨i,σ3,H3,I3,st3,fr3,w3⟩
 rcases turn i n σ3 H3 w3 with ⟨stop,qn⟩|⟨go,N,hN,step⟩
 ·refine wpAny_passesOwn hp (jC (T.done X rfl rfl rfl hc i pins s3 σ3 H3 X.xe I3 (stat fr3) st3 stop) fun r s4 ⟨hr,I4⟩=>?_)
  subst hr
  exact wpAny_execs_nil ⟨σ3,H3,I4,qn⟩
 ·refine wpAny_passesOwn hp (jC (T.item X rfl rfl rfl hc i pins s3 σ3 H3 X.xe I3 (stat fr3) st3 go) fun r s4 ⟨u,hr,h4⟩=>?_)
  subst hr
  refine wpAny_passesOwn hp (jC h4 fun _ s5 hh=>?_)
  obtain⟨x,H5,I5,r5,y5,st5,fr5⟩:=hh
  have I5':=I5.pinned (stat fr5) (T.obj _ _ st5)
  refine wpAny_passesOwn hp (jC (hg _ s5 σ3 H5 x u _ I5' r5 (step x H5 y5)) fun _ s6 ⟨σ6,H6,I6,q6⟩=>?_)
  refine wpAny_passesOwn hp (jC (hb _ s6 σ6 H6 _ I6 q6) fun f s7 q7=>?_)
  have again:∀{σ7:St} {H7:Hp},ji X (pins++zT fp s5.heap) σ7 H7 s7→N σ7 H7→∃m,m<n∧∃i σ' H',ji X pins σ' H' s7∧tn i s7.heap∧(∀b∈fp,H' b=none)∧W i m σ' H':=fun {σ7 H7} I7 n7=>by
   obtain⟨m',hm,w7⟩:=hN σ7 H7 n7
   refine⟨m',hm,i+1,σ7,H7,I7.unpinned,T.keep _ _ _ st5 fun b hb o e=>(I7.pin (b,o) (List.mem_append_right _ (List.mem_append_right _ (vP hb e)))).1,fun b hb=>?_,w7⟩
   obtain⟨o,e,d⟩:=T.obj _ _ st5 b hb
   exact (I7.pin (b,o) (List.mem_append_right _ (List.mem_append_right _ (vP hb e)))).2.1
  cases f with
  | next=>obtain⟨σ7,H7,I7,n7⟩:=q7;exact again I7 n7
  | cont=>obtain⟨σ7,H7,I7,n7⟩:=q7;exact again I7 n7
  | brk=>obtain⟨σ7,H7,I7,q7⟩:=q7;exact⟨σ7,H7,I7.unpinned,q7⟩
  | ret v=>obtain⟨x7,σ7,H7,I7,r7,q7⟩:=q7;exact⟨x7,σ7,H7,I7.unpinned,r7,q7⟩
end
theorem JS {K:oq}{a:Addr}{xs:List V}{g:TG}{tb:TS}{D:Vz}{σ:St}{H:Hp} (Pv:Nat→St→Hp→Prop) (h0:Pv 0 σ H) (hl:∀i σ H,i≤xs.length→Pv i σ H→jl K H a xs)
  (hs:∀i x σ H,xs[i]?=some x→Pv i σ H→g x σ H fun σ2 H2=>tb { D with nx:=Pv (i+1),ct:=Pv (i+1),bk:=D.nx } σ2 H2) (hd:∀σ H,Pv xs.length σ H→D.nx σ H) :
  ∃W:Nat→Nat→St→Hp→Prop,(∃m,W 0 m σ H)∧∀i m σ H,W i m σ H →
   ((K7 K a).stop i H∧D.nx σ H)∨((K7 K a).go i H∧∃N:St→Hp→Prop,(∀σ' H',N σ' H'→∃m',m'<m∧W (i+1) m' σ' H')∧∀x H',(K7 K a).yld i H x H'→g x σ H' fun σ2 H2=>tb { D with nx:=N,ct:=N,bk:=D.nx } σ2 H2):=by
 refine⟨fun i m σ H=>m=xs.length - i∧i≤xs.length∧Pv i σ H,⟨xs.length,by simp,Nat.zero_le _,h0⟩,?_⟩
 rintro i m σ H ⟨rfl,hi,p⟩
 have q:=hl i σ H hi p
 by_cases hlt:i<xs.length
 ·refine .inr ⟨⟨xs,xs[i],q,by simp [hlt]⟩,Pv (i+1),fun σ' H' p'=>⟨xs.length - (i+1),by omega,rfl,hlt,p'⟩,fun x H' y=>?_⟩
  obtain⟨e,y⟩:=y
  subst e
  exact hs i x σ _ (y xs q) p
 ·have e:i=xs.length:=by omega
  subst e
  exact .inl ⟨⟨xs,q,Nat.le_refl _⟩,hd σ H p⟩
theorem ZK {lo:Int}{n:Nat}{g:TG}{tb:TS}{D:Vz}{σ:St}{H:Hp} (Pv:Nat→St→Hp→Prop) (h0:Pv 0 σ H)
  (hs:∀i σ H,i<n→Pv i σ H→g (.int (lo+i)) σ H fun σ2 H2=>tb { D with nx:=Pv (i+1),ct:=Pv (i+1),bk:=D.nx } σ2 H2) (hd:∀σ H,Pv n σ H→D.nx σ H) :
  ∃W:Nat→Nat→St→Hp→Prop,(∃m,W 0 m σ H)∧∀i m σ H,W i m σ H →
   ((Ke lo n).stop i H∧D.nx σ H)∨((Ke lo n).go i H∧∃N:St→Hp→Prop,(∀σ' H',N σ' H'→∃m',m'<m∧W (i+1) m' σ' H')∧∀x H',(Ke lo n).yld i H x H'→g x σ H' fun σ2 H2=>tb { D with nx:=N,ct:=N,bk:=D.nx } σ2 H2):=by
 refine⟨fun i m σ H=>m=n - i∧i≤n∧Pv i σ H,⟨n,by simp,Nat.zero_le _,h0⟩,?_⟩
 rintro i m σ H ⟨rfl,hi,p⟩
 by_cases hlt:i<n
 ·refine .inr ⟨hlt,Pv (i+1),fun σ' H' p'=>⟨n - (i+1),by omega,rfl,hlt,p'⟩,fun x H' y=>?_⟩
  obtain⟨e,y⟩:=y
  subst e y
  exact hs i σ _ hlt p
 ·have e:i=n:=by omega
  subst e
  exact .inl ⟨Nat.le_refl _,hd σ H p⟩
end L2
namespace L2
open PySem PySem.Spec PyProof.Rows
abbrev R2:=V→V→Hp→VK→Prop
def Us (X:Cx) (f:Value→Value→Sem Value) (r:R2):Prop :=
 ∀(pins:oy) (s:Shared) (σ:St) (H:Hp) (x y:V) (v u:Value) (Q:VK),ji X pins σ H s→jL x v→jL y u→r x y H Q →
  wpAny (model X.prog X.w) X.A (f v u) (EP X pins σ Q) X.xe s
def d6 (X:Cx) (f:Value→Sem Value) (r:V→Hp→VK→Prop):Prop :=
 ∀(pins:oy) (s:Shared) (σ:St) (H:Hp) (x:V) (v:Value) (Q:VK),ji X pins σ H s→jL x v→r x H Q →
  wpAny (model X.prog X.w) X.A (f v) (EP X pins σ Q) X.xe s
def uN (X:Cx) (f:Value) (r:List V→Hp→VK→Prop):Prop :=
 ∀(pins:oy) (s:Shared) (σ:St) (H:Hp) (xs:List V) (us:oA) (Q:VK),ji X pins σ H s→jE xs us→r xs H Q →
  wpAny (model X.prog X.w) X.A (call f us) (EP X pins σ Q) X.xe s
def i8 (X:Cx) (r:V→Hp→(Bool→Hp→Prop)→Prop):Prop :=
 ∀(pins:oy) (s:Shared) (σ:St) (H:Hp) (x:V) (v:Value) (Q:Bool→Hp→Prop),ji X pins σ H s→jL x v→r x H Q →
  wpAny (model X.prog X.w) X.A (truthy v) (TP X pins σ Q) X.xe s
def aI (r:R2) (ta tb:TE):TE:=fun σ H Q=>ta σ H fun x H1=>tb σ H1 fun y H2=>r x y H2 Q
def l8 (r:V→Hp→VK→Prop) (ta:TE):TE:=fun σ H Q=>ta σ H fun x H1=>r x H1 Q
def rI (C:Int→Int→Prop) (g:Int→Int→V):R2:=fun x y H Q=>∃i j,x=.int i∧y=.int j∧C i j∧Q (g i j) H
def m6 (g:Int→Int→V):R2:=fun x y H Q=>∃i j,x=.int i∧y=.int j∧Q (g i j) H
def rU (g:Int→V):V→Hp→VK→Prop:=fun x H Q=>∃i,x=.int i∧Q (g i) H
section
variable {X:Cx}{a b c:Expr}{ta tb tc:TE}{pos:Pos}
theorem aT (ha:PE X a ta) (hb:PE X b tb) {pins:oy} {s:Shared} {σ:St} {H:Hp} {R:V→V→Hp→Prop} (I:ji X pins σ H s)
  (h:ta σ H fun x H1=>tb σ H1 fun y H2=>R x y H2) {Q:oh} {f:Value→Value→Sem Value}
  (hf:∀v u s2 x y H2,ji X pins σ H2 s2→jL x v→jL y u→R x y H2→wpAny (model X.prog X.w) X.A (f v u) Q X.xe s2) :
  wpAny (model X.prog X.w) X.A (eval a X.env) (fun v s₁=>wpAny (model X.prog X.w) X.A (eval b X.env) (fun u s₂=>wpAny (model X.prog X.w) X.A (f v u) Q X.xe s₂) X.xe s₁) X.xe s:=by
 refine jC (ha pins s σ H _ I h) fun v s1 ⟨x,H1,I1,r1,q1⟩=>?_
 refine jC (hb pins s1 σ H1 _ I1 q1) fun u s2 ⟨y,H2,I2,r2,q2⟩=>?_
 exact hf v u s2 x y H2 I2 r1 r2 q2
theorem jP {op:Operator}{r:R2} (ho:Us X (binaryOp op) r) (ha:PE X a ta) (hb:PE X b tb):PE X (.BinOp a op b pos) (aI r ta tb):=by
 intro pins s σ H Q I h
 exact wpAny_BinOp (aT ha hb I h fun v u s2 x y H2 I2 rx ry q=>ho pins s2 σ H2 x y v u Q I2 rx ry q)
theorem cz {op:UnaryOp}{r:V→Hp→VK→Prop} (ho:d6 X (unaryOp op) r) (ha:PE X a ta):PE X (.UnaryOp op a pos) (l8 r ta):=by
 intro pins s σ H Q I h
 exact UnaryOp_ (jC (ha pins s σ H _ I h) fun v s1 ⟨x,H1,I1,r1,q1⟩=>ho pins s1 σ H1 x v Q I1 r1 q1)
theorem fH {f:Value→Value→Sem Value}{C:Int→Int→Prop}{g:Int→Int→Int}
  (rule:∀(i j:Int) (t u:Tok) (s:Shared) (Q:oh) (E:oh),C i j→Q (.int (g i j) s.toks) { s with toks:=s.toks+1 }→wpAny (model X.prog X.w) X.A (f (.int i t) (.int j u)) Q E s) :
  Us X f (rI C fun i j=>.int (g i j)):=by
 intro pins s σ H x y v u Q I rx ry h
 obtain⟨i,j,rfl,rfl,hc,q⟩:=h
 obtain⟨t,rfl⟩:=rx
 obtain⟨t',rfl⟩:=ry
 exact rule i j t t' s _ _ hc ⟨.int (g i j),H,I.tok _,⟨_,rfl⟩,q⟩
theorem fI {f:Value→Value→Sem Value}{g:Int→Int→Int}
  (rule:∀(i j:Int) (t u:Tok) (s:Shared) (Q:oh) (E:oh),Q (.int (g i j) s.toks) { s with toks:=s.toks+1 }→wpAny (model X.prog X.w) X.A (f (.int i t) (.int j u)) Q E s) :
  Us X f (m6 fun i j=>.int (g i j)):=by
 intro pins s σ H x y v u Q I rx ry h
 obtain⟨i,j,rfl,rfl,q⟩:=h
 obtain⟨t,rfl⟩:=rx
 obtain⟨t',rfl⟩:=ry
 exact rule i j t t' s _ _ ⟨.int (g i j),H,I.tok _,⟨_,rfl⟩,q⟩
theorem bq {f:Value→Value→Sem Value}{g:Int→Int→Bool}
  (rule:∀(i j:Int) (t u:Tok) (s:Shared) (Q:oh) (E:oh),Q (.bool (g i j)) s→wpAny (model X.prog X.w) X.A (f (.int i t) (.int j u)) Q E s) :
  Us X f (m6 fun i j=>.bl (g i j)):=by
 intro pins s σ H x y v u Q I rx ry h
 obtain⟨i,j,rfl,rfl,q⟩:=h
 obtain⟨t,rfl⟩:=rx
 obtain⟨t',rfl⟩:=ry
 exact rule i j t t' s _ _ ⟨.bl (g i j),H,I,rfl,q⟩
def i5 (i j:Int):Prop:=0<j∧j<1073741824
def aP (i j:Int):Prop:=(-(2^64)<i∧i<2^64)∨(-(2^64)<j∧j<2^64)
theorem aP.ok {i j:Int} (h:aP i j):IntMulOk i j:=by
 rcases h with ⟨h1,h2⟩|⟨h1,h2⟩
 ·exact .of_left (intBits_le_64 h1 h2)
 ·exact .of_right (intBits_le_64 h1 h2)
theorem Uv:Us X (binaryOp .Add) (m6 fun i j=>.int (i+j)):=fI fun _ _ _ _ _ _ _ q=>add_int q
theorem aj:Us X (binaryOp .Sub) (m6 fun i j=>.int (i - j)):=fI fun _ _ _ _ _ _ _ q=>sub_int q
theorem zS:Us X (binaryOp .Mult) (rI aP fun i j=>.int (i*j)):=fH fun _ _ _ _ _ _ _ hc q=>mul_int q hc.ok
theorem zR:Us X (binaryOp .FloorDiv) (rI i5 fun i j=>.int (i / j)):=fH fun i j _ _ _ _ _ hc q=>by
 have h1:(0:Int)<j:=hc.1
 have h2:j<1073741824:=hc.2
 exact floordiv_int (by omega) (by rw [Int.fdiv_eq_ediv_of_nonneg i (by omega)];exact q) (.inl (PyProof.noPylong_small (by omega)))
theorem VQ:Us X (binaryOp .Mod) (rI (fun _ j=>0<j) fun i j=>.int (i % j)):=fH fun i j _ _ _ _ _ hc q=>by
 have h1:(0:Int)<j:=hc
 exact mod_int' (by omega) (by rw [Int.fmod_eq_emod_of_nonneg i (by omega)];exact q)
theorem oa {f:Value→Sem Value}{g:Int→Int}
  (rule:∀(i:Int) (t:Tok) (s:Shared) (Q:oh) (E:oh),Q (.int (g i) s.toks) { s with toks:=s.toks+1 }→wpAny (model X.prog X.w) X.A (f (.int i t)) Q E s) :
  d6 X f (rU fun i=>.int (g i)):=by
 intro pins s σ H x v Q I rx h
 obtain⟨i,rfl,q⟩:=h
 obtain⟨t,rfl⟩:=rx
 exact rule i t s _ _ ⟨.int (g i),H,I.tok _,⟨_,rfl⟩,q⟩
theorem aM:d6 X (unaryOp .USub) (rU fun i=>.int (-i)):=oa fun _ _ _ _ _ q=>neg_int q
end
def fU:V→V→Bool
 | .non,.non=>true|.non,.int _=>true|.int _,.non=>true|.non,.bl _=>true|.bl _,.non=>true|.non,.str _=>true|.str _,.non=>true
 | .int _,.int _=>true|.bl _,.bl _=>true|.str _,.str _=>true|.byt _,.byt _=>true
 | .int _,.str _=>true|.str _,.int _=>true|.bl _,.str _=>true|.str _,.bl _=>true
 | _,_=>false
def lT:R2:=fun x y H Q=>fU x y=true∧Q (.bl (decide (x=y))) H
def lU:R2:=fun x y H Q=>fU x y=true∧Q (.bl (!decide (x=y))) H
theorem ME {i j:Int}:decide (V.int i=V.int j)=(i==j):=by
 rw [Bool.eq_iff_iff]
 simp
theorem Ny {i j:Bool}:decide (V.bl i=V.bl j)=(i==j):=by
 rw [Bool.eq_iff_iff]
 simp
theorem MF {i j:Str}:decide (V.str i=V.str j)=(i==j):=by
 rw [Bool.eq_iff_iff]
 simp
theorem MD {i j:Array UInt8}:decide (V.byt i=V.byt j)=(i.toList==j.toList):=by
 rw [Bool.eq_iff_iff]
 cases i
 cases j
 simp
section
variable {X:Cx}{a b c:Expr}{ta tb tc:TE}{pos:Pos}
theorem j7 {pins:oy}{σ:St}{H:Hp}{s:Shared}{Q:VK}{k k':Bool} (I:ji X pins σ H s) (q:Q (.bl k) H) (e:k=k'):EP X pins σ Q (.bool k') s:=by
 subst e
 exact⟨.bl k,H,I,rfl,q⟩
theorem vc:Us X (compareOp .Eq) lT:=by
 intro pins s σ H x y v u Q I rx ry h
 obtain⟨hs,q⟩:=h
 cases x with
 | non =>
  cases rx
  cases y with
  | non=>cases ry;exact PySem.EqNone.eq_none_none (j7 I q (by simp))
  | bl j=>cases ry;exact PySem.EqNone.eq_none_bool (j7 I q (by simp))
  | int j=>obtain⟨t',rfl⟩:=ry;exact PySem.EqNone.eq_none_int (j7 I q (by simp))
  | str j=>obtain⟨t',rfl⟩:=ry;exact PySem.EqNone.eq_none_str (j7 I q (by simp))
  | _=>exact absurd (show false=true from hs) Bool.false_ne_true
 | bl i =>
  cases rx
  cases y with
  | non=>cases ry;exact PySem.EqNone.eq_bool_none (j7 I q (by simp))
  | bl j=>cases ry;exact eq_bool (j7 I q Ny)
  | str j=>obtain⟨t',rfl⟩:=ry;exact PySem.EqMixed.eq_bool_str (j7 I q (by simp))
  | _=>exact absurd (show false=true from hs) Bool.false_ne_true
 | int i =>
  obtain⟨t,rfl⟩:=rx
  cases y with
  | non=>cases ry;exact PySem.EqNone.eq_int_none (j7 I q (by simp))
  | int j=>obtain⟨t',rfl⟩:=ry;exact eq_int (j7 I q ME)
  | str j=>obtain⟨t',rfl⟩:=ry;exact PySem.EqMixed.eq_int_str (j7 I q (by simp))
  | _=>exact absurd (show false=true from hs) Bool.false_ne_true
 | str i =>
  obtain⟨t,rfl⟩:=rx
  cases y with
  | non=>cases ry;exact PySem.EqNone.eq_str_none (j7 I q (by simp))
  | bl j=>cases ry;exact PySem.EqMixed.eq_str_bool (j7 I q (by simp))
  | int j=>obtain⟨t',rfl⟩:=ry;exact PySem.EqMixed.eq_str_int (j7 I q (by simp))
  | str j=>obtain⟨t',rfl⟩:=ry;exact eq_str (j7 I q MF)
  | _=>exact absurd (show false=true from hs) Bool.false_ne_true
 | byt i =>
  obtain⟨t,rfl⟩:=rx
  cases y with
  | byt j=>obtain⟨t',rfl⟩:=ry;exact PySem.W.eq_bytes (j7 I q MD)
  | _=>exact absurd (show false=true from hs) Bool.false_ne_true
 | _=>cases y<;>exact absurd (show false=true from hs) Bool.false_ne_true
theorem gA:Us X (compareOp .NotEq) lU:=by
 intro pins s σ H x y v u Q I rx ry h
 obtain⟨hs,q⟩:=h
 cases x with
 | non =>
  cases rx
  cases y with
  | non=>cases ry;exact PySem.EqNone.ne_none_none (j7 I q (by simp))
  | bl j=>cases ry;exact PySem.EqNone.ne_none_bool (j7 I q (by simp))
  | int j=>obtain⟨t',rfl⟩:=ry;exact PySem.EqNone.ne_none_int (j7 I q (by simp))
  | str j=>obtain⟨t',rfl⟩:=ry;exact PySem.EqNone.ne_none_str (j7 I q (by simp))
  | _=>exact absurd (show false=true from hs) Bool.false_ne_true
 | bl i =>
  cases rx
  cases y with
  | non=>cases ry;exact PySem.EqNone.ne_bool_none (j7 I q (by simp))
  | bl j=>cases ry;exact ne_bool (j7 I q (congrArg not Ny))
  | str j=>obtain⟨t',rfl⟩:=ry;exact PySem.EqMixed.ne_bool_str (j7 I q (by simp))
  | _=>exact absurd (show false=true from hs) Bool.false_ne_true
 | int i =>
  obtain⟨t,rfl⟩:=rx
  cases y with
  | non=>cases ry;exact PySem.EqNone.ne_int_none (j7 I q (by simp))
  | int j=>obtain⟨t',rfl⟩:=ry;exact ne_int (j7 I q (congrArg not ME))
  | str j=>obtain⟨t',rfl⟩:=ry;exact PySem.EqMixed.ne_int_str (j7 I q (by simp))
  | _=>exact absurd (show false=true from hs) Bool.false_ne_true
 | str i =>
  obtain⟨t,rfl⟩:=rx
  cases y with
  | non=>cases ry;exact PySem.EqNone.ne_str_none (j7 I q (by simp))
  | bl j=>cases ry;exact PySem.EqMixed.ne_str_bool (j7 I q (by simp))
  | int j=>obtain⟨t',rfl⟩:=ry;exact PySem.EqMixed.ne_str_int (j7 I q (by simp))
  | str j=>obtain⟨t',rfl⟩:=ry;exact ne_str (j7 I q (congrArg not MF))
  | _=>exact absurd (show false=true from hs) Bool.false_ne_true
 | byt i =>
  obtain⟨t,rfl⟩:=rx
  cases y with
  | byt j=>obtain⟨t',rfl⟩:=ry;exact PySem.W.ne_bytes (j7 I q (congrArg not MD))
  | _=>exact absurd (show false=true from hs) Bool.false_ne_true
 | _=>cases y<;>exact absurd (show false=true from hs) Bool.false_ne_true
theorem K2:Us X (compareOp .Lt) (m6 fun i j=>.bl (decide (i<j))):=bq fun _ _ _ _ _ _ _ q=>lt_int q
theorem Ze:Us X (compareOp .LtE) (m6 fun i j=>.bl (decide (i≤j))):=bq fun _ _ _ _ _ _ _ q=>le_int q
theorem Zd:Us X (compareOp .Gt) (m6 fun i j=>.bl (decide (j<i))):=bq fun _ _ _ _ _ _ _ q=>gt_int q
theorem Ky:Us X (compareOp .In) (fun x y H Q=>∃i j,x=.str i∧y=.str j∧Q (.bl (!(Builtin.Str.occurrences j i 0 j.length 1).isEmpty)) H):=by
 intro pins s σ H x y v u Q I rx ry h
 obtain⟨i,j,rfl,rfl,q⟩:=h
 obtain⟨t,rfl⟩:=rx
 obtain⟨t',rfl⟩:=ry
 exact in_str (j7 I q rfl)
theorem Z1:Us X (compareOp .NotIn) (fun x y H Q=>∃i j,x=.str i∧y=.str j∧Q (.bl (!(!(Builtin.Str.occurrences j i 0 j.length 1).isEmpty))) H):=by
 intro pins s σ H x y v u Q I rx ry h
 obtain⟨i,j,rfl,rfl,q⟩:=h
 obtain⟨t,rfl⟩:=rx
 obtain⟨t',rfl⟩:=ry
 exact notIn_str (j7 I q rfl)
theorem jG (b:Expr) {op:CmpOp} (h:op≠.In:=by decide) (h2:op≠.NotIn:=by decide):behindInMarks op b=false:=by
 have e1:(op==CmpOp.In)=false:=by cases op<;>first|rfl|exact absurd rfl h
 have e2:(op==CmpOp.NotIn)=false:=by cases op<;>first|rfl|exact absurd rfl h2
 cases b<;>simp [behindInMarks,e1,e2]
theorem vR {op:CmpOp}{r:R2} (ho:Us X (compareOp op) r) (ha:PE X a ta) (hb:PE X b tb) (hm:behindInMarks op b=false):PE X (.Compare a [op] [b] pos) (aI r ta tb):=by
 intro pins s σ H Q I h
 exact wpAny_Compare1 (aT ha hb I h fun v u s2 x y H2 I2 rx ry q=>ho pins s2 σ H2 x y v u Q I2 rx ry q) hm
def cJ (t:TE):TT:=fun σ H Q=>t σ H fun x H'=>∃k,x=.bl k∧Q k H'
theorem jA {op:CmpOp}{r:R2} (ho:Us X (compareOp op) r) (ha:PE X a ta) (hb:PE X b tb) (hm:behindInMarks op b=false):PT X (.Compare a [op] [b] pos) (cJ (aI r ta tb)):=by
 intro pins s σ H Q I h
 refine wpAny_isTrue_Compare1 (jC (ha pins s σ H _ I h) fun v s1 ⟨x,H1,I1,r1,q1⟩=>jC (hb pins s1 σ H1 _ I1 q1) fun u s2 ⟨y,H2,I2,r2,q2⟩ =>
  jC (ho pins s2 σ H2 x y v u _ I2 r1 r2 q2) fun c s3 ⟨z,H3,I3,r3,k,e,q3⟩=>?_) hm
 subst e
 cases r3
 exact wpAny_truthy_bool ⟨H3,I3,q3⟩
def hW (r r':R2) (ta tb tc:TE):TE:=fun σ H Q=>ta σ H fun x H1=>tb σ H1 fun y H2=>r x y H2 fun z H3=>∃k,z=.bl k ∧
 (if k=true then tc σ H3 fun w' H4=>r' y w' H4 Q else Q (.bl false) H3)
theorem Gw {op op':CmpOp}{r r':R2} (ho:Us X (compareOp op) r) (ho':Us X (compareOp op') r') (ha:PE X a ta) (hb:PE X b tb) (hc:PE X c tc)
  (hm:lastMarks [op,op'] [b,c]=false:=by with_unfolding_all rfl):PT X (.Compare a [op,op'] [b,c] pos) (cJ (hW r r' ta tb tc)):=by
 intro pins s σ H Q I h
 refine isTrue_chain (jC (ha pins s σ H _ I h) fun v s1 ⟨x,H1,I1,r1,q1⟩=>test_link (jC (hb pins s1 σ H1 _ I1 q1) fun u s2 ⟨y,H2,I2,r2,q2⟩ =>
  jC (ho pins s2 σ H2 x y v u _ I2 r1 r2 q2) fun d s3 ⟨z,H3,I3,r3,k,e,q3⟩=>?_)) hm
 subst e
 cases r3
 refine wpAny_truthy_bool ?_
 cases k with
 | false =>
  obtain⟨k',e',q'⟩:=q3
  cases e'
  exact ite_ff ⟨H3,I3,q'⟩
 | true =>
  refine ite_tt (test_last (jC (hc pins s3 σ H3 _ I3 q3) fun w' s4 ⟨z',H4,I4,r4,q4⟩=>jC (ho' pins s4 σ H4 y z' u w' _ I4 r2 r4 q4) fun d' s5 hh=>?_))
  obtain⟨z2,H5,I5,r5,k2,e2,q5⟩:=hh
  subst e2
  cases r5
  exact wpAny_truthy_bool ⟨H5,I5,q5⟩
def d5 (K:oq) (x:V) (H:Hp) (k:Bool):Prop :=
 match x with
 | .non=>k=false
 | .bl b=>k=b
 | .int i=>k=(i != 0)
 | .str y=>y.length≤sizeLine∧k=((y.length:Int) != 0)
 | .byt y=>y.size≤sizeLine∧k=((y.size:Int) != 0)
 | .ref p=>(∃xs,jl K H p xs∧k=!xs.isEmpty)∨(∃xs,Ji K H p xs∧k=!xs.isEmpty)∨∃kvs,H p=some (.dK kvs)∧k=!kvs.isEmpty
 | _=>False
theorem nH {κ:Type}{kvs:List (κ×V)}{vs:List (κ×Value)} (r:KV kvs vs):(!vs.isEmpty)=!kvs.isEmpty:=by
 cases r<;>rfl
theorem GX {xs:List V}{its:oA} (r:jE xs its):(!its.toArray.isEmpty)=!xs.isEmpty:=by
 cases r<;>simp
theorem zf:(sizeLine:Nat)<2^63:=by rw [sizeLine_eq];decide
theorem ie:i8 X (fun x H Q=>∃k,d5 X.K x H k∧Q k H):=by
 intro pins s σ H x v Q I rx h
 obtain⟨k,e,q⟩:=h
 have hl:=zf
 have hs:sizeLine=16777216:=sizeLine_eq
 cases x with
 | non =>
  cases rx
  have e':k=false:=e
  subst e'
  exact truthy_none ⟨H,I,q⟩
 | bl b =>
  cases rx
  have e':k=b:=e
  subst e'
  exact wpAny_truthy_bool ⟨H,I,q⟩
 | int i =>
  obtain⟨t,rfl⟩:=rx
  have e':k=(i != 0):=e
  subst e'
  exact PySem.P.truthy_int ⟨H,I,q⟩
 | str y =>
  obtain⟨t,rfl⟩:=rx
  obtain⟨hy,e'⟩:y.length≤sizeLine∧k=((y.length:Int) != 0):=e
  subst e'
  exact PySem.P.truthy_str (by omega) ⟨H,I.tok _,q⟩
 | byt y =>
  obtain⟨t,rfl⟩:=rx
  obtain⟨hy,e'⟩:y.size≤sizeLine∧k=((y.size:Int) != 0):=e
  subst e'
  exact PySem.W.truthy_bytes (by omega) ⟨H,I.tok _,q⟩
 | ref p =>
  cases rx
  have e':(∃xs,jl X.K H p xs∧k=!xs.isEmpty)∨(∃xs,Ji X.K H p xs∧k=!xs.isEmpty)∨∃kvs,H p=some (.dK kvs)∧k=!kvs.isEmpty:=e
  rcases e' with ⟨xs,hx,e'⟩|⟨xs,hx,e'⟩|⟨kvs,hx,e'⟩
  ·subst e'
   obtain⟨its,r,pl,hz⟩:=I.list hx
   have hlen:=r.length
   exact wpAny_truthy_list pl.isList (by simp only [List.size_toArray];omega) ⟨H,I.tok _,by rw [GX r];exact q⟩
  ·subst e'
   obtain⟨its,r,pl,hz⟩:=I.tuple hx
   have hlen:=r.length
   exact truthy_tuple pl (by simp only [List.size_toArray];omega) ⟨H,I.tok _,by rw [GX r];exact q⟩
  ·subst e'
   obtain⟨hz,hS,vs,r,m⟩:kvs.length≤sizeLine∧(p==sysModules)=false∧∃vs,KV kvs vs∧s.heap.DictOf (JO X.prog X.w) p vs:=I.hok p _ hx
   have hlen:kvs.length=vs.length:=Paired.length r
   exact wpAny_truthy_dict hS m (by omega) ⟨H,I.tok _,by rw [nH r];exact q⟩
 | _=>exact (show False from e).elim
theorem bz (ha:PE X a ta) (he:∀whole,isTrue a X.env whole=(do let v ←whole;standAt a.pos;holding [v] (truthy v))) :
  PT X a (fun σ H Q=>ta σ H fun x H'=>∃k,d5 X.K x H' k∧Q k H'):=by
 intro pins s σ H Q I h
 exact isTrue_plain (jC (ha pins s σ H _ I h) fun v s1 ⟨x,H1,I1,r1,q1⟩=>ie pins s1 σ H1 x v Q I1 r1 q1) (he _)
theorem vQ:Us X (binaryOp .Add) (fun x y H Q=>∃i j,x=.str i∧y=.str j∧i.length+j.length≤sizeLine∧Q (.str (i++j)) H):=by
 intro pins s σ H x y v u Q I rx ry h
 obtain⟨i,j,rfl,rfl,hz,q⟩:=h
 obtain⟨t,rfl⟩:=rx
 obtain⟨t',rfl⟩:=ry
 exact add_str (fun t' tk=>⟨.str (i++j),H,I.tok _,⟨_,rfl⟩,q⟩) hz
theorem vS {x:V}{us:oA} (r:jE [x] us):∃u,us=[u]∧jL x u:=by
 cases r with
 | cons r1 r2=>cases r2;exact⟨_,rfl,r1⟩
theorem kz {x y:V}{us:oA} (r:jE [x,y] us):∃u w',us=[u,w']∧jL x u∧jL y w':=by
 cases r with
 | cons r1 r2 =>
  cases r2 with
  | cons r3 r4=>cases r4;exact⟨_,_,rfl,r1,r3⟩
theorem Nt (hc:X.calm=true):uN X (.builtin "min") (fun xs H Q=>∃i j,xs=[.int i,.int j]∧Q (.int (if j<i then j else i)) H):=by
 intro pins s σ H xs us Q I r h
 obtain⟨i,j,rfl,q⟩:=h
 obtain⟨u,w',rfl,⟨t,rfl⟩,⟨t',rfl⟩⟩:=kz r
 refine min_two_ints (I.ok.hd hc) fun h' tk k=>⟨_,H,I.kept k,?_,q⟩
 by_cases hj:j<i
 ·rw [if_pos hj,if_pos hj];exact⟨_,rfl⟩
 ·rw [if_neg hj,if_neg hj];exact⟨_,rfl⟩
theorem Np:uN X (.type "int") (fun xs H Q=>(∃i,xs=[.int i]∧Q (.int i) H)∨∃k,xs=[.bl k]∧Q (.int (if k then 1 else 0)) H):=by
 intro pins s σ H xs us Q I r h
 rcases h with ⟨i,rfl,q⟩|⟨k,rfl,q⟩
 ·obtain⟨u,rfl,t,rfl⟩:=vS r
  exact call_int_int ⟨.int i,H,I,⟨_,rfl⟩,q⟩
 ·obtain⟨u,rfl,r1⟩:=vS r
  cases r1
  exact call_int_bool ⟨.int (if k then 1 else 0),H,I.tok _,⟨_,rfl⟩,q⟩
theorem Vp:uN X (.type "str") (fun xs H Q=>∃i,xs=[.int i]∧i.natAbs.log2<1920∧Q (.str (toString i)) H):=by
 intro pins s σ H xs us Q I r h
 obtain⟨i,rfl,hz,q⟩:=h
 obtain⟨u,rfl,t,rfl⟩:=vS r
 exact PySem.P.str_of_int hz ⟨.str _,H,I.tok _,⟨_,rfl⟩,q⟩
end
end L2
namespace L2
open PySem PySem.Spec PyProof.Rows
structure Go (h:Heap) (x dx C:Addr) (mA:ox):Prop where
 obj:h.get? x=some (instObj C dx)
 ns:h.Ns1 dx mA
 ne:dx≠x
theorem aa {h:Heap}{dx:Addr}{mA:ox} (n:h.Ns1 dx mA):∃od,h.get? dx=some od∧∀name,lookIn name od=some (mA name):=by
 obtain⟨o,es,ep,ho,hd,hk,_,hm⟩:=n
 refine⟨o,ho,fun name=>?_⟩
 have e:=hm name
 unfold nsFind findBy at e
 rw [←Array.find?_toList] at e
 unfold lookIn
 rw [hd]
 dsimp only
 split
 ·rename_i y q
  rw [q] at e
  exact congrArg some e
 ·rename_i q
  rw [q] at e
  have a:es.toList.any (·.refKey)=false:=by
   rw [List.any_eq_false]
   intro y hy
   obtain⟨z,t,hkey⟩:=hk y (Array.mem_toList_iff.mp hy)
   simp [DictEntry.refKey,hkey]
  have a':¬es.toList.any (·.refKey)=true:=by rw [a];exact Bool.false_ne_true
  rw [if_neg a']
  exact congrArg some e
theorem Go.look {h:Heap}{x dx C:Addr}{mA:ox} (I:Go h x dx C mA):∃od,InstAt h x (instObj C dx) C (some od)∧∀name,lookIn name od=some (mA name) :=
 let ⟨od,ho,hl⟩:=aa I.ns
 ⟨od,⟨I.obj,rfl,rfl,ho⟩,hl⟩
section
variable {prog:oM}{w:World}{A:Around}{E:oh}{s:Shared}{K:oq}{x dx C f:Addr}{mA:ox}{name:Str}{v:Value}
theorem cT {expr:Bool}{Q:oh} (X:K.In s.heap) (I:Go s.heap x dx C mA) (hg:plainGet K C name=true) (hh:hasDictIn K C=true)
  (ha:PySem.W.findIn K (.ref C) name=some none) (hv:mA name=some v) (hv':handedIn v=true) (h:Q v { s with toks:=s.toks+1 }) :
  wpAny (model prog w) A (getAttr (.ref x) name expr) Q E s:=by
 obtain⟨od,J,hl⟩:=I.look
 exact PySem.W.get_value X J (plainGet_of hg).1 (PySem.W.findObj_own hh ha rfl (by rw [hl,hv])) hv' h
theorem bc {pl:Sem Bool}{Q:Value×List Value→Shared→Prop} (X:K.In s.heap) (I:Go s.heap x dx C mA) (hg:plainGet K C name=true)
  (hf:PySem.W.findIn K (.ref C) name=some (some (.ref f))) (ht:isFn K (.ref f)=true) (hv:mA name=none) (h:Q (.ref f,[.ref x]) s) :
  wpAny (model prog w) A (getMethod (.ref x) name pl) Q E s:=by
 obtain⟨od,J,hl⟩:=I.look
 exact PySem.W.method_fn X J (plainGet_of hg).1 (plainGet_of hg).2 hf (beq_iff_eq.mp ht) (by show (lookIn name od).map (·.isSome)=some false;rw [hl,hv];rfl) h
theorem dz {ns:oG}{Q:oj} (X:K.In s.heap) (I:Go s.heap x dx C mA)
  (hs:PySem.W.findIn K (.ref C) "__setattr__"=some (some (.builtin "object.__setattr__"))) (hp:plainOver K C=true) (ht:takerIn K C name=some none) (hh:hasDictIn K C=true)
  (hw:PySem.Within mA ns) (hsz:ns.length≤sizeLine)
  (h:∀h',Go h' x dx C (fun y=>if y=name then some v else mA y)→Heap.SameBut dx s.heap h'→Q () { s with heap:=h',toks:=s.toks+2 }) :
  wpAny (model prog w) A (setAttr (.ref x) name v) Q E s:=by
 obtain⟨od,J,hl⟩:=I.look
 refine PySem.W.set_plain X J hs (PySem.W.osa_open (s:={ s with toks:=s.toks+1 }) (r:=none) X J hp ht fun b=>?_)
 obtain⟨cd,hc,hd'⟩:=PySem.W.any_some hh
 have hx:s.heap.get? x=some ⟨.ref C,some dx,.plain,#[]⟩:=I.obj
 refine oN (oO (oN (oN (wpAny_loadPart hx (oN (PySem.W.Looks.here (s:={ s with toks:=s.toks+1 }) (PySem.W.looks_clsIn X hc) ?_))))))
 rw [hd']
 refine oO (a:=some dx) (oN (oO (oN ?_)))
 refine wpAny_nsSet1 (s:={ s with toks:=s.toks+1 }) I.ns fun h' hn2 hs2=>?_
 obtain⟨oD,esD,epD,hoD,hdD,hcD⟩:=hn2.count (PySem.Within.cons name v hw)
 refine oN (wpAny_lookBehind hoD (by rw [hdD];exact pastItsLine_dict (Nat.le_trans hcD (by rw [List.length_cons];omega))) ?_)
 exact oO (h _ ⟨(hs2.2 _ (Ne.symm I.ne)).trans I.obj,hn2,I.ne⟩ hs2)
theorem mK {R:Result→Shared→Prop}{vs:oA}{kw:List (Str×Value)} (X:K.In s.heap) (hm:makesIn K C=true)
  (hi:PySem.W.findIn K (.ref C) "__init__"=some (some (.ref f))) (hf:typeIn K (.ref f)=some (.type "function"))
  (h:codeAny (model prog w) (A.under (.builtin "type.__call__" ⟨.ref C::vs,kw⟩)) (.call (.ref f) ⟨.ref (s.heap.objs.size+1)::vs,kw⟩) (PySem.W.InitBack (s.heap.objs.size+1) R)
   { s with heap:=(s.heap.push emptyDict).push (instObj C s.heap.objs.size) }) :
  codeAny (model prog w) A (.call (.ref C) ⟨vs,kw⟩) R s:=by
 obtain⟨hh,g,d,t,os⟩:=s
 exact PySem.W.make_core (PySem.W.makes_of X hm) (PySem.W.looks_findIn X hi) (fun self=>PySem.W.bind_fn X self hf) (.inl rfl) h
end
def uf (f:Str) (v:V):List (Str×V)→List (Str×V)
 | []=>[(f,v)]
 | (g,x)::r=>if g=f then (g,v)::r else (g,x)::uf f v r
theorem Gf (f g:Str) (v:V):∀fs:List (Str×V),(uf f v fs).lookup g=if g=f then some v else fs.lookup g
 | []=>by
  show List.lookup g [(f,v)]=_
  by_cases h:g=f
  ·have hb:(g==f)=true:=beq_iff_eq.mpr h
   simp only [List.lookup,hb,if_pos h]
  ·have hb:(g==f)=false:=beq_eq_false_iff_ne.mpr h
   simp only [List.lookup,hb,if_neg h]
 | (k,x)::r=>by
  have ih:=Gf f g v r
  rw [show uf f v ((k,x)::r)=(if k=f then (k,v)::r else (k,x)::uf f v r) from rfl]
  by_cases hk:k=f
  ·rw [if_pos hk]
   by_cases h:g=k
   ·have hb:(g==k)=true:=beq_iff_eq.mpr h
    simp only [List.lookup,hb,if_pos (h.trans hk)]
   ·have hb:(g==k)=false:=beq_eq_false_iff_ne.mpr h
    simp only [List.lookup,hb,if_neg (fun e:g=f=>h (e.trans hk.symm))]
  ·rw [if_neg hk]
   by_cases h:g=k
   ·have hb:(g==k)=true:=beq_iff_eq.mpr h
    simp only [List.lookup,hb,if_neg (fun e:g=f=>hk (h.symm.trans e))]
   ·have hb:(g==k)=false:=beq_eq_false_iff_ne.mpr h
    simp only [List.lookup,hb]
    exact ih
theorem ZV (f:Str) (v:V):∀fs:List (Str×V),f∈(uf f v fs).map (·.1)∧∀g,g∈fs.map (·.1)→g∈(uf f v fs).map (·.1)
 | []=>⟨by simp [uf],fun g h=>by simp at h⟩
 | (k,x)::r=>by
  obtain⟨i1,i2⟩:=ZV f v r
  rw [show uf f v ((k,x)::r)=(if k=f then (k,v)::r else (k,x)::uf f v r) from rfl]
  by_cases hk:k=f
  ·rw [if_pos hk]
   subst hk
   exact⟨by simp,fun g h=>by simpa using h⟩
  ·rw [if_neg hk]
   refine⟨?_,fun g h=>?_⟩
   ·rw [List.map_cons]
    exact List.mem_cons_of_mem _ i1
   ·rw [List.map_cons] at h ⊢
    rcases List.mem_cons.mp h with e|e
    ·exact List.mem_cons.mpr (.inl e)
    ·exact List.mem_cons_of_mem _ (i2 g e)
theorem Ge (f:Str) (v:V):∀fs:List (Str×V),(uf f v fs).length≤fs.length+1
 | []=>by simp [uf]
 | (k,x)::r=>by
  have ih:=Ge f v r
  rw [show uf f v ((k,x)::r)=(if k=f then (k,v)::r else (k,x)::uf f v r) from rfl]
  by_cases hk:k=f
  ·rw [if_pos hk,List.length_cons,List.length_cons];omega
  ·rw [if_neg hk,List.length_cons,List.length_cons];omega
theorem vU.some_of {v:V}{o:Option Value} (r:vU (some v) o):∃u,o=some u∧jL v u:=by
 cases o with
 | none=>exact (show False from r).elim
 | some u=>exact⟨u,rfl,r⟩
theorem vU.none_of {o:Option Value} (r:vU none o):o=none:=by
 cases o with
 | none=>rfl
 | some u=>exact (show False from r).elim
theorem NH {v:V}{u:Value} (r:jL v u):handedIn u=true:=by
 cases v with
 | non=>cases (show u=Value.none from r);rfl
 | bl b=>cases (show u=Value.bool b from r);rfl
 | int i=>obtain⟨t,e⟩:=(show ∃t,u=Value.int i t from r);cases e;rfl
 | str x=>obtain⟨t,e⟩:=(show ∃t,u=Value.str x t from r);cases e;rfl
 | byt b=>obtain⟨t,e⟩:=(show ∃t,u=Value.bytes b t from r);cases e;rfl
 | flt b=>obtain⟨t,e⟩:=(show ∃t,u=Value.float b t from r);cases e;rfl
 | ref a=>cases (show u=Value.ref a from r);rfl
 | ty n=>cases (show u=Value.type n from r);rfl
section
variable {P:oM}{w:World}{H H':Hp}{h h':Heap}{a C dx:Addr}{fs fs':List (Str×V)}
theorem gu (hok:JJ P w H h) (e:H a=some (.ins C dx fs)):∃mA,Go h a dx C mA∧(∀f,vU (fs.lookup f) (mA f))∧PySem.Within mA (fs.map (·.1))∧fs.length≤1000∧H dx=some (.own a):=by
 obtain⟨d,z,ne,ob,mA,n,r,q⟩:=(show j0 P w H h a (.ins C dx fs) from hok a _ e)
 exact⟨mA,⟨ob,n,ne⟩,r,q,z,d⟩
end
structure Zm (K:oq) (C:Addr):Prop where
 pg:plainGet K C Str.empty=true
 hd:hasDictIn K C=true
 po:plainOver K C=true
 sa:PySem.W.findIn K (.ref C) "__setattr__"=some (some (.builtin "object.__setattr__"))
theorem Zm.get {K:oq}{C:Addr} (c:Zm K C) (f:Str):plainGet K C f=true:=c.pg
def vX (K:oq) (C:Addr) (f:Str):Prop:=PySem.W.findIn K (.ref C) f=some none
theorem vX.taker {K:oq}{C:Addr}{f:Str} (n:vX K C f):takerIn K C f=some none:=by
 unfold takerIn
 rw [show PySem.W.findIn K (.ref C) f=some none from n]
 rfl
structure Gn (K:oq) (C:Addr) (m:Str) (f:Addr):Prop where
 at_:PySem.W.findIn K (.ref C) m=some (some (.ref f))
 fn:isFn K (.ref f)=true
 kp:keepIn K (.ref f)=true
section
variable {X:Cx}{pins:oy}{σ:St}{H:Hp}{s:Shared}{a C dx:Addr}{fs:List (Str×V)}{f:Str}{v:V}{A:Around}{E:oh}
theorem nF {b:Bool}{Q:oh} (I:ji X pins σ H s) (e:H a=some (.ins C dx fs)) (c:Zm X.K C) (n:vX X.K C f) (l:fs.lookup f=some v)
  (h:∀u s',ji X pins σ H s'→jL v u→Q u s'):wpAny (model X.prog X.w) A (getAttr (.ref a) f b) Q E s:=by
 obtain⟨mA,O,r,_,_,_⟩:=gu I.hok e
 obtain⟨u,hu,ru⟩:=vU.some_of (v:=v) (o:=mA f) (by rw [←l];exact r f)
 exact cT I.kIn O (c.get f) c.hd n hu (NH ru) (h u _ (I.tok _) ru)
theorem z4 {m:Str}{g:Addr}{pl:Sem Bool}{Q:Value×List Value→Shared→Prop} (I:ji X pins σ H s) (e:H a=some (.ins C dx fs)) (c:Zm X.K C) (k:Gn X.K C m g) (l:fs.lookup m=none)
  (h:Q (.ref g,[.ref a]) s):wpAny (model X.prog X.w) A (getMethod (.ref a) m pl) Q E s:=by
 obtain⟨mA,O,r,_,_,_⟩:=gu I.hok e
 have hn:mA m=none:=vU.none_of (by rw [←l];exact r m)
 exact bc I.kIn O (c.get m) k.at_ k.fn hn h
theorem n5 {y:V}{u:Value}{Q:oj} (I:ji X pins σ H s) (e:H a=some (.ins C dx fs)) (c:Zm X.K C) (n:vX X.K C f) (hl:fs.length<1000) (ry:jL y u)
  (h:∀s',ji X pins σ (upd H a (.ins C dx (uf f y fs))) s'→Q () s'):wpAny (model X.prog X.w) A (setAttr (.ref a) f u) Q E s:=by
 obtain⟨mA,O,r,wi,_,ho⟩:=gu I.hok e
 have hz:(fs.map (·.1)).length≤sizeLine:=by rw [List.length_map,sizeLine_eq];omega
 refine dz I.kIn O c.sa c.po n.taker c.hd wi hz fun h' O' sb=>h _ ?_
 have hd:∃o,h'.get? dx=some o:=let ⟨o,_,_,e',_⟩:=O'.ns;⟨o,e'⟩
 refine I.write (x:=a) (e:=dx) (by rw [e];exact True.intro) (.inr ho) (fun b q hb z=>(sb.2 b hb).trans z) hd ?_
 refine⟨by rw [jj O.ne];exact ho,?_,O.ne,O'.obj,_,O'.ns,fun g=>?_,fun g hg=>?_⟩
 ·have:=Ge f y fs;omega
 ·show vU ((uf f y fs).lookup g) (if g=f then some u else mA g)
  rw [Gf]
  by_cases q:g=f
  ·rw [if_pos q,if_pos q];exact ry
  ·rw [if_neg q,if_neg q];exact r g
 ·by_cases q:g=f
  ·rw [q];exact (ZV f y fs).1
  ·refine (ZV f y fs).2 g (wi g fun z=>hg ?_)
   show (if g=f then some u else mA g)=none
   rw [if_neg q];exact z
theorem ji.made (I:ji X pins σ H s):ji X pins σ (upd (upd H s.heap.objs.size (.own (s.heap.objs.size+1))) (s.heap.objs.size+1) (.ins C s.heap.objs.size []))
  { s with heap:=(s.heap.push emptyDict).push (instObj C s.heap.objs.size) }:=by
 have e1:(s.heap.push emptyDict).get? s.heap.objs.size=some emptyDict:=Heap.get?_push_size s.heap rfl
 have e2:((s.heap.push emptyDict).push (instObj C s.heap.objs.size)).get? (s.heap.objs.size+1)=some (instObj C s.heap.objs.size):=by
  have:=Heap.get?_push_size (s.heap.push emptyDict) (o:=instObj C s.heap.objs.size) rfl
  rwa [Heap.size_push] at this
 have e3:(s.heap.push emptyDict).Ns s.heap.objs.size (fun _=>none):=⟨emptyDict,#[],_,e1,rfl,(fun e he=>absurd he (by simp)),fun _=>rfl⟩
 have I1:=I.laid (a:=s.heap.objs.size) (o:=.own (s.heap.objs.size+1)) (h':=s.heap.push emptyDict) (t':=s.toks) (fun b u q=>Heap.get?_push_of_some _ q) (Nat.le_refl _) ⟨_,e1⟩
 refine I1.laid (a:=s.heap.objs.size+1) (o:=.ins C s.heap.objs.size []) (t':=s.toks) (fun b u q=>Heap.get?_push_of_some _ q) (Nat.le_of_eq (Heap.size_push _ _)) ?_
 have ne:s.heap.objs.size≠s.heap.objs.size+1:=Nat.ne_of_lt (Nat.lt_succ_self _)
 refine⟨by rw [jj ne,jd],Nat.zero_le _,ne,e2,fun _=>none,(Heap.Ns1.of_empty e3).at fun o q=>Heap.get?_push_of_some _ q,fun _=>True.intro,fun y hy=>absurd rfl hy⟩
theorem cM {prog:oM}{w:World}{env:Env}{e:Expr}{f:Str}{pos:Pos}{s:Shared}{Q:oh} (hb:attributeBase e f env (eval e env)=eval e env)
  (h:wpAny (model prog w) A (eval e env) (fun o s₁=>wpAny (model prog w) A (getAttr o f true) Q E s₁) E s):wpAny (model prog w) A (eval (.Attribute e f pos) env) Q E s :=
 Attribute_any_ h (by rw [arm_eval_Attribute,hb])
end
def lG (K:oq) (ta:TE) (f:Str):TE:=fun σ H Q=>ta σ H fun x H1=>∃a C dx fs v,x=.ref a∧H1 a=some (.ins C dx fs)∧Zm K C∧vX K C f∧fs.lookup f=some v∧Q v H1
def lB (K:oq) (ta tv:TE) (f:Str):TS:=fun D σ H=>tv σ H fun y H1=>ta σ H1 fun x H2=>∃a C dx fs,x=.ref a∧H2 a=some (.ins C dx fs)∧Zm K C∧vX K C f∧fs.length<1000 ∧
 D.nx σ (upd H2 a (.ins C dx (uf f y fs)))
section
variable {X:Cx}{o e value:Expr}{f:Str}{pos pos' tpos:Pos}{ta tv:TE}
theorem zk (he:PE X e ta) (hb:attributeBase e f X.env (eval e X.env)=eval e X.env):PE X (.Attribute e f pos) (lG X.K ta f):=by
 intro pins s σ H Q I h
 refine cM hb (jC (he pins s σ H _ I h) fun u s1 hh=>?_)
 obtain⟨x,H1,I1,rx,a,C,dx,fs,v,ex,ea,c,n,l,q⟩:=hh
 subst ex
 obtain rfl:u=Value.ref a:=rx
 exact nF I1 ea c n l fun u' s2 I2 ru=>⟨v,H1,I2,ru,q⟩
theorem kj (ha:PE X o ta) (hv:PE X value tv) (hs:swapsWith value (some (.Attribute o f pos')) pos.line X.env=pure false):PS X (.Assign [.Attribute o f pos'] value pos) (lB X.K ta tv f):=by
 intro pins s σ H D I h
 refine plainObj_wpAny_Assign_Attribute (jC (hv pins s σ H _ I h) fun u s1 ⟨y,H1,I1,ry,q⟩=>jC (ha pins s1 σ H1 _ I1 q) fun ov s2 hh=>?_) hs
 obtain⟨x,H2,I2,rx,a,C,dx,fs,ex,ea,c,n,l,q2⟩:=hh
 subst ex
 obtain rfl:ov=Value.ref a:=rx
 exact n5 I2 ea c n l ry fun s3 I3=>⟨σ,_,I3,q2⟩
theorem ik {pl:Sem Bool}{m:Str}{apos:Pos}{args:oI}{pins:oy}{s:Shared}{σ:St}{H:Hp}{Q:oh}{te:TE} (he:PE X e te) (I:ji X pins σ H s)
  (h:te σ H fun x H1=>∃a C dx fs g,x=.ref a∧H1 a=some (.ins C dx fs)∧Zm X.K C∧Gn X.K C m g∧fs.lookup m=none ∧
   ∀s1,ji X pins σ H1 s1→wpAny (model X.prog X.w) X.A (callWith pos (.ref g) [.ref a] (backTo pos (starEach args X.env)) (backToKw pos (keywordEach [] X.env))) Q X.xe s1)
  (ht:eval (.Call (.Attribute e m apos) args [] pos) X.env=(do
   let ov ←eval e X.env
   standAt apos.atName
   let (f,first) ←holding [ov] (getMethod ov m pl)
   callWith pos f first (backTo pos (starEach args X.env)) (backToKw pos (keywordEach [] X.env)))) :
  wpAny (model X.prog X.w) X.A (eval (.Call (.Attribute e m apos) args [] pos) X.env) Q X.xe s:=by
 refine methodCall_KW (pl:=pl) (jC (he pins s σ H _ I h) fun u s1 hh=>?_) ht
 obtain⟨x,H1,I1,rx,a,C,dx,fs,g,ex,ea,c,k,l,q⟩:=hh
 subst ex
 obtain rfl:u=Value.ref a:=rx
 exact z4 I1 ea c k l (q s1 I1)
end
section
variable {X:Cx}{pins:oy}{σ:St}{H:Hp}{s:Shared}{A:Around}{E:oh}{Q:oh}{c:Value}{b:Bool}
inductive VB (K:oq) (H:Hp):V→Value→Prop where
 | non:VB K H .non (.type "NoneType")
 | bl (x:Bool):VB K H (.bl x) (.type "bool")
 | int (i:Int):VB K H (.int i) (.type "int")
 | str (x:Str):VB K H (.str x) (.type "str")
 | flt (x:UInt64):VB K H (.flt x) (.type "float")
 | lst {a:Addr} {xs:List V} (e:H a=some (.lst xs)):VB K H (.ref a) (.type "list")
 | frz {a:Addr} {o:Obj} {xs:List V} (e:H a=some (.frz o (.lst xs))):VB K H (.ref a) (.type "list")
 | tup {a:Addr} {xs:List V} (e:H a=some (.tup xs)):VB K H (.ref a) (.type "tuple")
 | dK {a:Addr} {kvs:List (Key×V)} (e:H a=some (.dK kvs)):VB K H (.ref a) (.type "dict")
 | dT {a:Addr} {kvs:List (List Key×V)} (e:H a=some (.dT kvs)):VB K H (.ref a) (.type "dict")
 | ins {a C dx:Addr} {fs:List (Str×V)} (e:H a=some (.ins C dx fs)) (cl:Zm K C) (ha:PySem.W.findIn K (.ref C) "__class__"=some (some (.builtin "object.__class__")))
   (hn:PySem.W.specialIn K (.builtin "object.__class__") "__get__"=some (some (.builtin "getset_descriptor.__get__"))) (htk:PySem.W.takesIn K (.builtin "object.__class__")=some true)
   (hm:PySem.W.mroIn K C (.type "object")=some true):VB K H (.ref a) (.ref C)
theorem NQ {x:V}{u t:Value} (I:ji X pins σ H s) (rx:jL x u) (ty:VB X.K H x t) (e:PySem.W.kitOne X.K t c=some b) (h:∀tk,Q (.bool b) { s with toks:=tk }) :
  wpAny (model X.prog X.w) A (call (.builtin "isinstance") [u,c]) Q E s:=by
 cases ty with
 | non=>cases (show u=Value.none from rx);exact PySem.W.kia_one PySem.W.kitx_none I.kIn True.intro e (fun z=>nomatch z) h
 | bl y=>cases (show u=Value.bool y from rx);exact PySem.W.kia_one PySem.W.kitx_bool I.kIn True.intro e (fun z=>nomatch z) h
 | int i=>obtain⟨t,q⟩:=(show ∃t,u=Value.int i t from rx);cases q;exact PySem.W.kia_one PySem.W.kitx_int I.kIn True.intro e (fun z=>nomatch z) h
 | str y=>obtain⟨t,q⟩:=(show ∃t,u=Value.str y t from rx);cases q;exact PySem.W.kia_one PySem.W.kitx_str I.kIn True.intro e (fun z=>nomatch z) h
 | flt y=>obtain⟨t,q⟩:=(show ∃t,u=Value.float y t from rx);cases q;exact PySem.W.kia_one PySem.W.kitx_float I.kIn True.intro e (fun z=>nomatch z) h
 | @lst a xs ea =>
  cases (show u=Value.ref a from rx)
  obtain⟨_,_,n,_,h1⟩:=(show j0 X.prog X.w H s.heap a (.lst xs) from I.hok a _ ea)
  exact PySem.W.kia_one kitx_list I.kIn ⟨_,h1,rfl⟩ e (fun z=>nomatch z) h
 | @frz a ob xs ea =>
  cases (show u=Value.ref a from rx)
  obtain⟨_,_,_,n,_,h1⟩:=(show j0 X.prog X.w H s.heap a (.frz ob (.lst xs)) from I.hok a _ ea)
  exact PySem.W.kia_one kitx_list I.kIn ⟨_,h1,rfl⟩ e (fun z=>nomatch z) h
 | @tup a xs ea =>
  cases (show u=Value.ref a from rx)
  obtain⟨_,_,_,p⟩:=(show j0 X.prog X.w H s.heap a (.tup xs) from I.hok a _ ea)
  obtain⟨o,h1,h2,_⟩:=p
  exact PySem.W.kia_one PySem.W.kitx_tuple I.kIn ⟨o,h1,h2⟩ e (fun z=>nomatch z) h
 | @dK a kvs ea =>
  cases (show u=Value.ref a from rx)
  obtain⟨_,_,vs,_,p⟩:=(show j0 X.prog X.w H s.heap a (.dK kvs) from I.hok a _ ea)
  obtain⟨o,es,ep,h1,h2,_⟩:=p
  exact PySem.W.kia_one kitx_dict I.kIn ⟨o,h1,h2.1⟩ e (fun z=>nomatch z) h
 | @dT a kvs ea =>
  cases (show u=Value.ref a from rx)
  obtain⟨_,_,xs,_,o,es,ep,h1,h2,_⟩:=(show j0 X.prog X.w H s.heap a (.dT kvs) from I.hok a _ ea)
  exact PySem.W.kia_one kitx_dict I.kIn ⟨o,h1,h2.1⟩ e (fun z=>nomatch z) h
 | @ins a C dx fs ea cl ha hn htk hm =>
  cases (show u=Value.ref a from rx)
  obtain⟨mA,O,_⟩:=gu I.hok ea
  obtain⟨od,J,_⟩:=O.look
  exact PySem.W.kia_one (PySem.W.kitx_own (cl.get _) cl.hd ha hn htk hm) I.kIn J e (fun z=>nomatch z) h
end
end L2
namespace L2
open PySem PySem.Spec PyProof.Rows
structure Js (c:Bool) (k:Nat) (A:Around):Prop where
 hd:c=true→A.handled=none
 dp:A.depth+3*k+5<recursionLimit
 un:A.units+16*k+200<cLine
abbrev Vn:=Js true
theorem Js.mono {c c':Bool}{j k:Nat}{A:Around} (r:Js c k A) (h:j≤k) (hc:c'=true→c=true:=by decide):Js c' j A:=⟨fun z=>r.hd (hc z),by have:=r.dp;omega,by have:=r.un;omega⟩
theorem Js.m {c c':Bool}{j k:Nat}{A:Around} (r:Js c k A) (h:j≤k:=by decide) (hc:c'=true→c=true:=by decide):Js c' j A:=r.mono h hc
theorem Js.deeper {c:Bool}{k:Nat}{A:Around} (r:Js c (k+1) A) (env:Env):Js c k (A.deeper env) :=
 ⟨r.hd,by have:=r.dp;show A.depth+1+3*k+5<_;omega,by have:=r.un;show A.units+3+16*k+200<_;omega⟩
theorem Js.in1 {c:Bool}{k:Nat}{A:Around} (r:Js c (k+1) A):Js c k A.in1 :=
 ⟨r.hd,by have:=r.dp;show A.depth+3*k+5<_;omega,by have:=r.un;show A.units+1+16*k+200<_;omega⟩
theorem nN {A:Around}{C:Addr}{us:oA}{kw:List (Str×Value)}:(A.under (.builtin "type.__call__" ⟨.ref C::us,kw⟩)).depth=A.depth+1:=by
 first|rfl|simp [Around.under,Code.weight,Code.isCreation,Code.isGuard,Code.isCaller,Code.frames,Code.isFrame,guardIds]
theorem nO {A:Around}{C:Addr}{us:oA}{kw:List (Str×Value)}:(A.under (.builtin "type.__call__" ⟨.ref C::us,kw⟩)).units=A.units+1:=by
 first|rfl|simp [Around.under,Code.cUnits,Code.frames,Code.isFrame]
theorem Js.make {c:Bool}{k:Nat}{A:Around} (r:Js c (k+1) A) (C:Addr) (us:oA) (kw:List (Str×Value)):Js c k (A.under (.builtin "type.__call__" ⟨.ref C::us,kw⟩)) :=
 ⟨r.hd,by have:=r.dp;rw [nN];omega,by have:=r.un;rw [nO];omega⟩
theorem Js.depth {c:Bool}{k:Nat}{A:Around} (r:Js c k A):A.depth<recursionLimit:=by have:=r.dp;omega
theorem Js.units {c:Bool}{k:Nat}{A:Around} (r:Js c k A):A.units+64<cLine:=by have:=r.un;omega
theorem Js.units0 {c:Bool}{k:Nat}{A:Around} (r:Js c k A):A.units<cLine:=by have:=r.un;omega
def lL:TA:=fun _ H Q=>Q [] H
def iL (ta:TE) (tr:TA):TA:=fun σ H Q=>ta σ H fun x H1=>tr σ H1 fun xs H2=>Q (x::xs) H2
section
variable {X:Cx}{e:Expr}{es:oI}{te:TE}{t:TA}{pos:Pos}
theorem je:PA X [] lL:=fun _ _ _ _ H Q I h=>Calls.spliced_nil ⟨[],H,I,.nil,h⟩
theorem ja (ha:PE X e te) (hr:PA X es t) (hs:starEach (e::es) X.env=(false,eval e X.env)::starEach es X.env:=by rfl):PA X (e::es) (iL te t):=by
 intro pos pins s σ H Q I h
 rw [hs]
 show wpAny _ _ (spliced ((false,eval e X.env)::backTo pos (starEach es X.env))) _ _ s
 refine Calls.spliced_cons (jC (ha pins s σ H _ I h) fun u s1 ⟨x,H1,I1,r1,q1⟩=>?_)
 exact jC (hr pos pins s1 σ H1 _ I1 q1) fun us s2 ⟨xs,H2,I2,r2,q2⟩=>⟨x::xs,H2,I2,.cons r1 r2,q2⟩
def lP (t:TA):TE:=fun σ H Q=>t σ H fun xs H1=>xs.length≤sizeLine∧∀p,H1 p=none→Q (.ref p) (upd H1 p (.tup xs))
def lK (t:TA):TE:=fun σ H Q=>t σ H fun xs H1=>xs.length≤sizeLine∧∀p,H1 p=none→Q (.ref p) (upd H1 p (.lst xs))
theorem j8 {x1} (h:PA X es t):PE X (.Tuple es x1 pos) (lP t):=by
 intro pins s σ H Q I hq
 refine wpAny_Tuple_spliced (jC (h pos pins s σ H _ I hq) fun us s1 ⟨xs,H1,I1,r,z,q⟩=>⟨by rw [←r.length];exact z,?_⟩)
 have hf:H1 s1.heap.objs.size=none:=I1.hok.fresh (Nat.le_refl _)
 refine⟨.ref s1.heap.objs.size,upd H1 s1.heap.objs.size (.tup xs),I1.laid (t':=s1.toks) (fun b u e=>Heap.get?_push_of_some _ e) (Nat.le_refl _) ?_,rfl,q _ hf⟩
 exact⟨z,us,r,⟨_,Heap.get?_push_size _ rfl,rfl,_,rfl⟩⟩
theorem jW (h:PA X es t):PE X (.List es pos) (lK t):=by
 intro pins s σ H Q I hq
 refine wpAny_List_spliced (jC (h pos pins s σ H _ I hq) fun us s1 ⟨xs,H1,I1,r,z,q⟩=>⟨by rw [←r.length];exact z,?_⟩)
 have hf:H1 s1.heap.objs.size=none:=I1.hok.fresh (Nat.le_refl _)
 refine⟨.ref s1.heap.objs.size,upd H1 s1.heap.objs.size (.lst xs),I1.laid (t':=s1.toks) (fun b u e=>Heap.get?_push_of_some _ e) (Nat.le_refl _) ?_,rfl,q _ hf⟩
 exact⟨z,us,0,r,Heap.get?_push_size _ rfl⟩
end
abbrev Sp:=List V→Hp→VK→XK→Prop
abbrev Kb:=List Env→Hp→Shared→XK→Value→Shared→Prop
structure zB (P:oM) (w:World) (K:oq) (mg:ox) (base:Heap) (A:Around) (outer:List Env) (s:Shared) (H:Hp):Prop where
 frames:A.frames=some outer
 mod:Mod K mg base
 bs:∀b o,base.get? b=some o→s.heap.get? b=some o∧H b=none
 bsz:base.objs.size≤s.heap.objs.size
 funs:s.heap.FunFrames base outer
 frf:∀b∈uy outer,H b=none
 hok:JJ P w H s.heap
 bare:AllBare s.gens
 hn:Kd A H
def CE (outer:List Env) (P:oM) (w:World) (H:Hp) (s:Shared) (Q:VK) (u:Value) (s':Shared):Prop :=
 ∃v H',s'.os=s.os∧AllBare s'.gens∧Un (uy outer) [] H H' s.heap s'.heap∧JJ P w H' s'.heap∧jL v u∧Q v H'
def CR (CX:Kb) (outer:List Env) (P:oM) (w:World) (H:Hp) (s:Shared) (Q:VK) (E:XK) (r:Result) (s':Shared):Prop :=
 match r with
 | .ok (.ret u)=>CE outer P w H s Q u s'
 | .ok _=>False
 | .error e=>CX outer H s E e s'
structure vB (P:oM) (w:World) (K:oq) (mg:ox) (base:Heap) (CX:Kb) (k:Nat) (f:Addr) (fd:FuncData) (ps:oG) (sp:Sp) (c:Bool:=true):Prop where
 len:∀vs H Q E,sp vs H Q E→vs.length=ps.length
 run:∀(A:Around) (outer:List Env) (s:Shared) (H:Hp) (args:Args) (us:oA) (vs:List V) (Q:VK) (E:XK),Js c k A→zB P w K mg base A outer s H→BindsTo s fd args (ps.zip us)→jE vs us→sp vs H Q E →
  codeAny (model P w) A (.call (.ref f) args) (CR CX outer P w H s Q E) s
theorem zB.make {P:oM}{w:World}{K:oq}{mg:ox}{base:Heap}{A:Around}{outer:List Env}{s:Shared}{H:Hp} (e:zB P w K mg base A outer s H) (C:Addr) (us:oA) (kw:List (Str×Value)) :
  zB P w K mg base (A.under (.builtin "type.__call__" ⟨.ref C::us,kw⟩)) outer s H:=⟨by first|exact e.frames|(simpa [Around.under,Code.envs,Code.isFrame,pushEnvs] using e.frames),e.mod,e.bs,e.bsz,e.funs,e.frf,e.hok,e.bare,e.hn⟩
section
variable {X:Cx}{pins:oy}{σ:St}{H:Hp}{s s':Shared}
theorem ji.env0 (I:ji X pins σ H s):zB X.prog X.w X.K X.mg X.base X.A X.stack s H :=
 ⟨I.ok.frames,I.ok.mod,I.bs,Nat.le_trans I.ok.bsz I.sz,I.stack,I.stkFree,I.hok,I.bare,I.hn⟩
theorem ji.after {Q:VK}{u:Value} (I:ji X pins σ H s) (h:CE X.stack X.prog X.w H s Q u s'):EP X pins σ Q u s':=by
 obtain⟨v,H',os,bare,un,hok,r,q⟩:=h
 obtain⟨hh,g,d,t,os'⟩:=s'
 obtain rfl:os'=s.os:=os
 exact⟨v,H',I.call (h':=hh) (g':=g) (d':=d) (t':=t) (ch:=[]) un hok bare (fun b z=>absurd z (by simp)),r,q⟩
end
def Nc (sp:Sp) (dvs:List V) (E:XK) (t:TA):TE:=fun σ H Q=>t σ H fun vs H1=>sp (vs++dvs) H1 Q E
def cI (C:Addr) (m:Str) (sp:Sp) (dvs:List V) (E:XK) (ta:TE) (t:TA):TE:=fun σ H Q=>ta σ H fun x H1=>∃a dx fs,x=.ref a∧H1 a=some (.ins C dx fs)∧fs.lookup m=none ∧
 t σ H1 fun vs H2=>sp (x::(vs++dvs)) H2 Q E
def cH (C:Addr) (sp:Sp) (dvs:List V) (E:XK) (t:TA):TE:=fun σ H Q=>t σ H fun vs H1=>∀x dx,H1 x=none→H1 dx=none→dx≠x →
 sp (.ref x::(vs++dvs)) (upd (upd H1 dx (.own x)) x (.ins C dx [])) (fun v H2=>v=.non∧Q (.ref x) H2) E
def jU (K:oq) (fd:FuncData) (ps:oG) (ds:oA):Prop :=
 ∀(s:Shared) (us:oA),K.In s.heap→(us++ds).length=ps.length→BindsTo s fd ⟨us,[]⟩ (ps.zip (us++ds))
theorem jU.all {K:oq}{fd:FuncData}{ps:oG} (h:∀us:List Value,us.length=ps.length→bindArgs fd ⟨us,[]⟩=pure (ps.zip us)):jU K fd ps []:=fun s us _ hl=>by
 rw [List.append_nil] at hl ⊢
 exact .of_eq (h us hl)
def UD (CX:Kb) (X:Cx) (E:XK):Prop:=∀(pins:oy) (σ:St) (H:Hp) (s:Shared) (e:Value) (s':Shared),ji X pins σ H s→CX X.stack H s E e s'→X.xe e s'
section
variable {X:Cx}{CX:Kb}{k:Nat}{f C:Addr}{fd:FuncData}{ps:oG}{sp:Sp}{dvs:List V}{ds:oA}{E:XK}{x m:Str}{p pos apos:Pos}{e o:Expr}{es:oI}{ta:TE}{t:TA}
theorem ko {pins:oy}{σ:St}{H:Hp}{s:Shared}{Q:VK}{us:oA}{vs:List V}{cm:Bool} (F:vB X.prog X.w X.K X.mg X.base CX k f fd ps sp cm) (hr:Js cm k X.A) (hb:jU X.K fd ps ds) (hd:jE dvs ds) (hx:UD CX X E)
  (I:ji X pins σ H s) (r:jE vs us) (h:sp (vs++dvs) H Q E):wpAny (model X.prog X.w) X.A (call (.ref f) us) (EP X pins σ Q) X.xe s:=by
 have r2:jE (vs++dvs) (us++ds):=r.append hd
 have hl:(us++ds).length=ps.length:=by rw [←r2.length];exact F.len _ _ _ _ h
 refine wpAny_call (codeAny_mono (F.run X.A X.stack s H ⟨us,[]⟩ (us++ds) (vs++dvs) Q E hr I.env0 (hb s us I.kIn hl) r2 h) fun r s' hq=>?_)
 cases r with
 | error e=>exact hx pins σ H s e s' I hq
 | ok fl =>
  cases fl with
  | ret u=>exact I.after hq
  | next=>exact False.elim hq
  | brk=>exact False.elim hq
  | cont=>exact False.elim hq
theorem c9 {cm:Bool} (F:vB X.prog X.w X.K X.mg X.base CX k f fd ps sp cm) (hr:Js cm k X.A) (hg:Gl X x) (hm:X.mg x=some (.ref f)) (hk:keepIn X.K (.ref f)=true) (hb:jU X.K fd ps ds) (hd:jE dvs ds) (hx:UD CX X E)
  (ha:PA X (e::es) t) (hdb:(x==("__debug__":Str))=false:=by decide) (he:starEach (e::es) X.env=(false,eval e X.env)::starEach es X.env:=by rfl) (hpl:(backTo pos (starEach es X.env)).any (·.1)=false:=by rfl) :
  PE X (.Call (.Name x p) (e::es) [] pos) (Nc sp dvs E t):=by
 intro pins s σ H Q I h
 refine wpAny_Call_Name_kw (VD I hg hm ?_ hdb)
 refine callWith_K (h₀:=X.base) I.ok.mod.kin hk (jC (ha pos pins s σ H _ I h) fun us s1 ⟨vs,H1,I1,r,q⟩=>⟨I1.kIn,?_⟩) he hpl
 exact ko F hr hb hd hx I1 r q
theorem de {pl:Sem Bool} (he:PE X o ta) (c:Zm X.K C) (hm:Gn X.K C m f) {cm:Bool} (F:vB X.prog X.w X.K X.mg X.base CX k f fd ps sp cm) (hr:Js cm k X.A) (hb:jU X.K fd ps ds) (hd:jE dvs ds) (hx:UD CX X E) (ha:PA X (e::es) t)
  (hst:starEach (e::es) X.env=(false,eval e X.env)::starEach es X.env:=by rfl) (hpl:(backTo pos (starEach es X.env)).any (·.1)=false:=by rfl)
  (ht:eval (.Call (.Attribute o m apos) (e::es) [] pos) X.env=(do
   let ov ←eval o X.env
   standAt apos.atName
   let (f,first) ←holding [ov] (getMethod ov m pl)
   callWith pos f first (backTo pos (starEach (e::es) X.env)) (backToKw pos (keywordEach [] X.env))):=by rfl) :
  PE X (.Call (.Attribute o m apos) (e::es) [] pos) (cI C m sp dvs E ta t):=by
 intro pins s σ H Q I h
 refine methodCall_KW (pl:=pl) (jC (he pins s σ H _ I h) fun u s1 hh=>?_) ht
 obtain⟨x,H1,I1,rx,a,dx,fs,ex,ea,l,q⟩:=hh
 subst ex
 obtain rfl:u=Value.ref a:=rx
 refine z4 I1 ea c hm l ?_
 refine callWith_K (first:=[.ref a]) (h₀:=X.base) I.ok.mod.kin hm.kp (jC (ha pos pins s1 σ H1 _ I1 q) fun us s2 ⟨vs,H2,I2,r,q2⟩=>⟨I2.kIn,?_⟩) hst hpl
 exact ko (us:=.ref a::us) (vs:=.ref a::vs) F hr hb hd hx I2 (.cons rfl r) q2
structure Mk (K:oq) (C f:Addr):Prop where
 makes:makesIn K C=true
 init:PySem.W.findIn K (.ref C) "__init__"=some (some (.ref f))
 fn:isFn K (.ref f)=true
 kp:keepIn K (.ref C)=true
theorem bI {pins:oy}{σ:St}{H:Hp}{s:Shared}{Q:VK}{us:oA}{vs:List V} (M:Mk X.K C f) (F:vB X.prog X.w X.K X.mg X.base CX k f fd ps sp) (hr:Vn (k+1) X.A) (hb:jU X.K fd ps ds) (hd:jE dvs ds)
  (hx:UD CX X E) (I:ji X pins σ H s) (r:jE vs us)
  (h:∀x dx,H x=none→H dx=none→dx≠x→sp (.ref x::(vs++dvs)) (upd (upd H dx (.own x)) x (.ins C dx [])) (fun v H2=>v=.non∧Q (.ref x) H2) E) :
  wpAny (model X.prog X.w) X.A (call (.ref C) us) (EP X pins σ Q) X.xe s:=by
 have hq:=h (s.heap.objs.size+1) s.heap.objs.size (I.hok.fresh (Nat.le_succ _)) (I.hok.fresh (Nat.le_refl _)) (Nat.ne_of_lt (Nat.lt_succ_self _))
 have I2:=ji.made (C:=C) I
 have r2:jE (V.ref (s.heap.objs.size+1)::(vs++dvs)) (Value.ref (s.heap.objs.size+1)::(us++ds)):=.cons rfl (r.append hd)
 have hl:(Value.ref (s.heap.objs.size+1)::us++ds).length=ps.length:=by
  have e:=r2.length
  rw [F.len _ _ _ _ hq] at e
  exact e.symm
 refine wpAny_call (mK (f:=f) I.kIn M.makes M.init (beq_iff_eq.mp M.fn) (codeAny_mono (F.run _ X.stack _ _ ⟨Value.ref (s.heap.objs.size+1)::us,[]⟩ (Value.ref (s.heap.objs.size+1)::(us++ds)) _ _ E (hr.make C us [])
  (I2.env0.make C us []) (hb _ (Value.ref (s.heap.objs.size+1)::us) I2.kIn hl) r2 hq) fun r s' hq'=>?_))
 cases r with
 | error e=>exact hx pins σ _ _ e s' I2 hq'
 | ok fl =>
  cases fl with
  | ret u =>
   obtain⟨v,H',I3,rv,ev,q3⟩:=I2.after hq'
   subst ev
   exact⟨rv,⟨V.ref (s.heap.objs.size+1),H',I3,rfl,q3⟩⟩
  | next=>exact False.elim hq'
  | brk=>exact False.elim hq'
  | cont=>exact False.elim hq'
theorem db (M:Mk X.K C f) (F:vB X.prog X.w X.K X.mg X.base CX k f fd ps sp) (hr:Vn (k+1) X.A) (hg:Gl X x) (hm:X.mg x=some (.ref C)) (hb:jU X.K fd ps ds) (hd:jE dvs ds) (hx:UD CX X E)
  (ha:PA X (e::es) t) (hdb:(x==("__debug__":Str))=false:=by decide) (he:starEach (e::es) X.env=(false,eval e X.env)::starEach es X.env:=by rfl) (hpl:(backTo pos (starEach es X.env)).any (·.1)=false:=by rfl) :
  PE X (.Call (.Name x p) (e::es) [] pos) (cH C sp dvs E t):=by
 intro pins s σ H Q I h
 refine wpAny_Call_Name_kw (VD I hg hm ?_ hdb)
 refine callWith_K (h₀:=X.base) I.ok.mod.kin M.kp (jC (ha pos pins s σ H _ I h) fun us s1 ⟨vs,H1,I1,r,q⟩=>⟨I1.kIn,?_⟩) he hpl
 exact bI M F hr hb hd hx I1 r q
end
structure jR (N P:oG) (sc:Scope):Prop where
 kind:sc.kind=.function
 co:sc.isCoroutine=false
 gen:sc.isGenerator=false
 nd:N.Nodup
 pre:N.take P.length=P
 par:∀x∈P,sc.names.lookup x=some .local∨sc.names.lookup x=some .cell
 nofree:∀y∈sc.names,y.2≠.free
theorem JQ {N P:oG}{sc:Scope} (a:sc.kind=.function:=by rfl) (b:sc.isCoroutine=false:=by rfl) (c:sc.isGenerator=false:=by rfl) (d:N.Nodup:=by decide +kernel) (e:N.take P.length=P:=by rfl) (f:∀x∈P,sc.names.lookup x=some .local∨sc.names.lookup x=some .cell:=by decide +kernel) (g:∀y∈sc.names,y.2≠.free:=by decide +kernel):jR N P sc:=⟨a,b,c,d,e,f,g⟩
theorem Kl {kindOf:Str→Option NameKind}{x:Str}:∀{binds:List (Str×Value)} {m:ox},(∀v,(x,v) ∉ binds)→bindL kindOf binds m x=m x
 | [],_,_=>rfl
 | (n,v)::r,m,h=>by
  unfold bindL
  rw [Kl fun w hw=>h w (List.mem_cons_of_mem _ hw)]
  split
  ·have:x≠n:=by rintro rfl;exact h v List.mem_cons_self
   simp [this]
  ·rfl
theorem Kj {kindOf:Str→Option NameKind}{x:Str}:∀{binds:List (Str×Value)} {m:ox},(∀v,(x,v) ∉ binds)→bindC kindOf binds m x=m x
 | [],_,_=>rfl
 | (n,v)::r,m,h=>by
  unfold bindC
  rw [Kj fun w hw=>h w (List.mem_cons_of_mem _ hw)]
  split
  ·rfl
  ·have:x≠n:=by rintro rfl;exact h v List.mem_cons_self
   simp [this]
theorem Kk {kindOf:Str→Option NameKind}{x:Str}{v:Value}:∀{P:oG} {vs:oA} {i:Nat} {m:ox},P.Nodup→P[i]?=some x→vs[i]?=some v→kindOf x=some .local →
  bindL kindOf (P.zip vs) m x=some v
 | [],_,_,_,_,h,_,_=>by simp at h
 | _::_,[],_,_,_,_,h,_=>by simp at h
 | p::P,w::vs,0,m,nd,h1,h2,hk=>by
  simp at h1 h2;subst h1;subst h2
  show bindL kindOf ((p,w)::P.zip vs) m p=_
  unfold bindL
  rw [Kl fun v hv=>(List.nodup_cons.mp nd).1 (List.of_mem_zip hv).1,if_pos hk]
  simp
 | p::P,w::vs,i+1,m,nd,h1,h2,hk=>by
  show bindL kindOf ((p,w)::P.zip vs) m x=_
  unfold bindL
  exact Kk (i:=i) (List.nodup_cons.mp nd).2 (by simpa using h1) (by simpa using h2) hk
theorem Ki {kindOf:Str→Option NameKind}{x:Str}{v:Value}:∀{P:oG} {vs:oA} {i:Nat} {m:ox},P.Nodup→P[i]?=some x→vs[i]?=some v→kindOf x≠some .local →
  bindC kindOf (P.zip vs) m x=some v
 | [],_,_,_,_,h,_,_=>by simp at h
 | _::_,[],_,_,_,_,h,_=>by simp at h
 | p::P,w::vs,0,m,nd,h1,h2,hk=>by
  simp at h1 h2;subst h1;subst h2
  show bindC kindOf ((p,w)::P.zip vs) m p=_
  unfold bindC
  rw [Kj fun v hv=>(List.nodup_cons.mp nd).1 (List.of_mem_zip hv).1,if_neg hk]
  simp
 | p::P,w::vs,i+1,m,nd,h1,h2,hk=>by
  show bindC kindOf ((p,w)::P.zip vs) m x=_
  unfold bindC
  exact Ki (i:=i) (List.nodup_cons.mp nd).2 (by simpa using h1) (by simpa using h2) hk
def V6 (N:oG) (vs:List V):St:=vs.map some++List.replicate (N.length - vs.length) none
def Gq (CX:Kb) (P:oM) (w:World) (K:oq) (mg:ox) (base:Heap) (N:oG) (qual:Str) (scope:Scope) (f:Addr) (cd:Value) (A:Around) (outer:List Env) (s:Shared) (H:Hp) (E:XK) (c:Bool:=true):Cx where
 prog:=P
 w:=w
 K:=K
 mg:=mg
 base:=base
 A:=A.deeper (envOfC qual scope s.heap.objs.size f cd)
 N:=N
 s₀:=s
 H₀:=H
 env:=envOfC qual scope s.heap.objs.size f cd
 outer:=outer
 stack:=envOfC qual scope s.heap.objs.size f cd::outer
 ex:=[]
 calm:=c
 fn:=fun _=>true
 pn:=[]
 xe:=fun e s'=>wpAny (model P w) (A.deeper (envOfC qual scope s.heap.objs.size f cd)) (leaving (envOfC qual scope s.heap.objs.size f cd) e) (fun _ s''=>CX outer H s E e s'') (fun e' s''=>CX outer H s E e' s'') s'
theorem mi {sc:Scope}{n:Nat}{x:Str} (h:sc.names.lookup x=some .cell):∃c,(cellsFrom n sc.names []).lookup x=some c:=by
 have q:=cellsFrom_some sc.names n [] (.inl h)
 exact Option.isSome_iff_exists.mp q
theorem NO {CX:Kb}{P:oM}{w:World}{K:oq}{mg:ox}{base:Heap}{N ps:oG}{qual:Str}{scope:Scope}{f:Addr}{cd:Value}{A:Around}{outer:List Env}{s s1:Shared}{H:Hp}{E:XK}{us:oA}{vs:List V}
  {c:Bool} (S:jR N ps scope) (hd:c=true→A.handled=none) (e0:zB P w K mg base A outer s H) (hl:vs.length=ps.length) (r:jE vs us)
  (x:InCallC s s.heap.objs.size (bindL (envOfC qual scope s.heap.objs.size f cd).kindOf (ps.zip us) fun _=>none) (cellsFrom (s.heap.objs.size+1) scope.names []) (bindC (envOfC qual scope s.heap.objs.size f cd).kindOf (ps.zip us) fun _=>none) s1) :
  ji (Gq CX P w K mg base N qual scope f cd A outer s H E c) [] (V6 N vs) H s1:=by
 have hpl:ps.length≤N.length:=by have:=congrArg List.length S.pre;rw [List.length_take] at this;omega
 obtain⟨h1,tk,rfl,hk⟩:=x.done
 have noA:∀b:Addr,b ∉ (Gq CX P w K mg base N qual scope f cd A outer s H E c).ex:=fun b z=>absurd (show b∈([]:oB) from z) (by simp)
 refine⟨⟨e0.mod,S.kind,rfl,rfl,Nat.le_refl _,fun y z c h1 h2=>?_,fun y hy=>?_,fun y c' _ h=>?_,hd,Around.frames_deeper e0.frames,.inr ⟨rfl,rfl⟩,fun b z=>absurd z (noA b),e0.bs,e0.bsz,fun b _ _=>noA b,fun b z=>absurd z (noA b),e0.funs,e0.frf⟩,
  rfl,e0.bare,Un.kept hk,⟨_,x.toInCall.ns,fun i y v h1 h2 h3=>?_⟩,fun y c h=>⟨_,x.cell y c h⟩,e0.hok.fresh (Nat.le_refl _),fun y c h=>?_,fun p hp=>absurd (show p∈([]:oy) from hp) (by simp),e0.hok.kept hk,?_,e0.hn⟩
 ·exact name_of_addr x.apart (PySem.mem_of_lookup h1) (PySem.mem_of_lookup h2)
 ·have hy:scope.names.lookup y=some .cell∨scope.names.lookup y=some .free:=hy
  rcases hy with hy|hy
  ·exact mi hy
  ·exact absurd rfl (S.nofree _ (PySem.mem_of_lookup hy))
 ·exact Nat.le_of_lt (x.above y c' (PySem.mem_of_lookup h))
 ·have hi:i<vs.length:=by
   unfold V6 at h2
   by_cases hi:i<vs.length
   ·exact hi
   ·rw [List.getElem?_append_right (by simpa using hi)] at h2
    rw [List.getElem?_replicate] at h2
    split at h2<;>cases h2
  have ha:vs[i]?=some v:=by
   unfold V6 at h2
   rw [List.getElem?_append_left (by simpa using hi),List.getElem?_map] at h2
   cases e:vs[i]? with
   | none=>rw [e] at h2;cases h2
   | some a=>rw [e] at h2;cases h2;rfl
  obtain⟨u,hu,rv⟩:=r.get ha
  have hp:ps[i]?=some y:=by
   rw [←S.pre,List.getElem?_take_of_lt (by omega)];exact h1
  have ndP:ps.Nodup:=by rw [←S.pre];exact S.nd.sublist (List.take_sublist _ _)
  refine⟨u,rv,?_⟩
  rcases S.par y (List.mem_of_getElem? hp) with k|k
  ·exact .inl ⟨k,Kk ndP hp hu k⟩
  ·obtain⟨c,e⟩:=mi (n:=s.heap.objs.size+1) k
   refine .inr ⟨.inl k,c,e,?_⟩
   have q:=x.cell y c e
   rw [Ki ndP hp hu (by show scope.names.lookup y≠_;rw [k];decide)] at q
   exact q
 ·exact e0.hok.fresh (Nat.le_of_lt (x.above y c (PySem.mem_of_lookup h)))
 ·unfold V6
  show _=N.length
  rw [List.length_append,List.length_map,List.length_replicate]
  omega
theorem cj {CX:Kb}{P:oM}{w:World}{K:oq}{mg:ox}{base:Heap}{k:Nat}{f:Addr}{name qual:Str}{params:Arguments}{body:List Stmt}{scope:Scope}{dV kV doc pm cdv ct oc:Value}{an od:oK}
  {osl:oF} {N ps:oG} {sp:Sp} {c:Bool} (lk:K.lookup f=some ⟨oc,od,.func (fnOf name qual params body scope dV kV doc pm an cdv ct),osl⟩) (hcd:codeIn K cdv qual=true) (S:jR N ps scope)
  (len:∀vs H Q E,sp vs H Q E→vs.length=ps.length)
  (hbody:∀(A:Around) (outer:List Env) (s:Shared) (H:Hp) (vs:List V) (Q:VK) (E:XK),Js c k (A.deeper (envOfC qual scope s.heap.objs.size f cdv))→sp vs H Q E →
   ∃t,zb (Gq CX P w K mg base N qual scope f cdv A outer s H E c) body t∧t { nx:=fun _ H'=>Q .non H',rt:=Q } (V6 N vs) H) :
  vB P w K mg base CX (k+1) f (fnOf name qual params body scope dV kV doc pm an cdv ct) ps sp c:=by
 refine⟨len,fun A outer s H args us vs Q E hr e0 hb r hsp=>?_⟩
 have hl:=len _ _ _ _ hsp
 have KX:K.In s.heap:=e0.mod.kin.keeps fun b o e=>(e0.bs b o e).1
 have lim:s.heap.NoLimit:=e0.mod.nolimit.keeps fun b o e=>(e0.bs b o e).1
 have hkind:∀y∈ps.zip us,scope.names.lookup y.1=some .local∨(scope.names.lookup y.1=some .cell∧((cellsFrom (s.heap.objs.size+1) scope.names []).lookup y.1).isSome=true):=fun ⟨n,v⟩ hy=>by
  rcases S.par n (List.of_mem_zip hy).1 with q|q
  ·exact .inl q
  ·exact .inr ⟨q,cellsFrom_some _ _ _ (.inl q)⟩
 refine codeAny_call_function hr.depth (KX _ _ lk) rfl S.co S.gen rfl (PySem.W.codeRec_of KX hcd) (hb _ _ _ _ ?_)
 refine wpAny_newFunctionEnv_cells S.kind hkind fun env he s1 x=>?_
 subst he
 refine⟨lim.keeps x.toInCall.keep,codeAny_func ?_⟩
 obtain⟨t,ht,hq⟩:=hbody A outer s H vs Q E (hr.deeper _) hsp
 have I:ji (Gq CX P w K mg base N qual scope f cdv A outer s H E c) [] (V6 N vs) H s1:=NO S hr.hd e0 hl r x
 refine wpAny_mono (ht [] s1 (V6 N vs) H _ I hq) (fun fl s' hs=>?_) fun e s' hs=>hs
 have fin:∀{σ':St} {H':Hp} {v:V} {u:Value},ji (Gq CX P w K mg base N qual scope f cdv A outer s H E c) [] σ' H' s'→jL v u→Q v H'→CE outer P w H s Q u s' :=
  fun {σ' H' v u} J rv q=>⟨v,H',J.os,J.bare,J.base,J.hok,rv,q⟩
 cases fl with
 | ret u =>
  obtain⟨v,σ',H',J,rv,q⟩:=hs
  exact fin J rv q
 | next =>
  obtain⟨σ',H',J,q⟩:=hs
  exact fin (v:=V.non) (u:=Value.none) J rfl q
 | brk =>
  obtain⟨_,_,_,q⟩:=hs
  exact False.elim q
 | cont =>
  obtain⟨_,_,_,q⟩:=hs
  exact False.elim q
end L2
namespace L2
open PySem PySem.Spec PyProof.Rows
section
variable {X:Cx}{x:Str}{p pos:Pos}{e:Expr}{es:oI}{t:TA}{id T:String}{r:List V→Hp→VK→Prop}
def iZ (r:List V→Hp→VK→Prop) (t:TA):TE:=fun σ H Q=>t σ H fun vs H1=>r vs H1 Q
theorem jz (hc:uN X (.builtin id) r) (hg:Gl X x) (hm:X.mg x=none) (hv:bootBuiltins x=some (.builtin id)) (ha:PA X (e::es) t) (hn:x≠"__name__":=by decide) (hdb:(x==("__debug__":Str))=false:=by decide)
  (he:starEach (e::es) X.env=(false,eval e X.env)::starEach es X.env:=by rfl) (hpl:(backTo pos (starEach es X.env)).any (·.1)=false:=by rfl):PE X (.Call (.Name x p) (e::es) [] pos) (iZ r t):=by
 intro pins s σ H Q I h
 refine wpAny_Call_Name_kw (ZW I hg hm hv ?_ hn hdb)
 exact PyProof.Rows.callWith_builtin1 (jC (ha pos pins s σ H _ I h) fun us s1 ⟨vs,H1,I1,r1,q1⟩=>hc pins s1 σ H1 vs us Q I1 r1 q1) he hpl
theorem Jy (hc:uN X (.type T) r) (hg:Gl X x) (hm:X.mg x=none) (hv:bootBuiltins x=some (.type T)) (ha:PA X (e::es) t) (hn:x≠"__name__":=by decide) (hdb:(x==("__debug__":Str))=false:=by decide)
  (he:starEach (e::es) X.env=(false,eval e X.env)::starEach es X.env:=by rfl) (hpl:(backTo pos (starEach es X.env)).any (·.1)=false:=by rfl):PE X (.Call (.Name x p) (e::es) [] pos) (iZ r t):=by
 intro pins s σ H Q I h
 refine wpAny_Call_Name_kw (ZW I hg hm hv ?_ hn hdb)
 exact PyProof.Rows.callWith_type1 (jC (ha pos pins s σ H _ I h) fun us s1 ⟨vs,H1,I1,r1,q1⟩=>hc pins s1 σ H1 vs us Q I1 r1 q1) he hpl
end
end L2
namespace HT
open PySem PyProof.Rows
section
variable {prog:oM}{w:World}{A:Around}{E:oh}{s:Shared}
def sIx (n d:Nat):Option Int→Nat
 | none=>d
 | some v=>if v<0 then (v+(n:Int)).toNat else min v.toNat n
theorem sIx_none (n d:Nat):sIx n d none=d:=rfl
theorem sIx_nat (n d k:Nat):sIx n d (some (k:Int))=min k n:=by
 show (if (k:Int)<0 then ((k:Int)+(n:Int)).toNat else min (k:Int).toNat n)=min k n
 rw [if_neg (by omega),Int.toNat_natCast]
end
end HT
namespace L2
open PySem PySem.Spec PyProof.Rows
abbrev TO:=St→Hp→(Option Int→Hp→Prop)→Prop
def PO (X:Cx) (e:Option Expr) (t:TO):Prop :=
 ∀(pins:oy) (s:Shared) (σ:St) (H:Hp) (Q:Option Int→Hp→Prop),ji X pins σ H s→t σ H Q →
  wpAny (model X.prog X.w) X.A (evalPart e X.env) (fun u s'=>∃o H',ji X pins σ H' s'∧IsPart u o∧Q o H') X.xe s
def dL:TO:=fun _ H Q=>Q none H
def iQ (t:TE):TO:=fun σ H Q=>t σ H fun x H1=>∃i,x=.int i∧Q (some i) H1
section
variable {X:Cx}{e:Expr}{te:TE}{lo hi:Option Expr}{tl th:TO}{pos p2:Pos}
theorem VF:PO X none dL:=by
 intro pins s σ H Q I h
 rw [evalPart_none]
 exact oO ⟨none,H,I,.none,h⟩
theorem VG (h:PE X e te):PO X (some e) (iQ te):=by
 intro pins s σ H Q I hw
 rw [evalPart_some]
 refine jC (h pins s σ H _ I hw) fun u s1 ⟨x,H1,I1,r1,q1⟩=>?_
 obtain⟨i,rfl,q⟩:=q1
 obtain⟨t,rfl⟩:=r1
 exact⟨some i,H1,I1,.int i t,q⟩
def iW (X:Cx) (r:V→Option Int→Option Int→Hp→VK→Prop):Prop :=
 ∀(pins:oy) (s:Shared) (σ:St) (H:Hp) (x:V) (v vl vu:Value) (lo hi:Option Int) (sl:Addr) (Q:VK),ji X pins σ H s→jL x v→s.heap.IsSliceOf sl vl vu .none→IsPart vl lo→IsPart vu hi→r x lo hi H Q →
  ∃T id,typeLookup (.type T) "__getitem__"=pure (some (.builtin id))∧s.TypeIs v T∧wpAny (model X.prog X.w) X.A (getItem v (.ref sl)) (EP X pins σ Q) X.xe s
def l6 (r:V→Option Int→Option Int→Hp→VK→Prop) (te:TE) (tl th:TO):TE:=fun σ H Q=>te σ H fun x H1=>tl σ H1 fun l H2=>th σ H2 fun u H3=>r x l u H3 Q
theorem v0 {r:V→Option Int→Option Int→Hp→VK→Prop} (hr:iW X r) (he:PE X e te) (hl:PO X lo tl) (hu:PO X hi th):PE X (.Subscript e (.Slice lo hi none p2) pos) (l6 r te tl th):=by
 intro pins s σ H Q I h
 refine Subscript_ (jC (he pins s σ H _ I h) fun v s1 ⟨x,H1,I1,r1,q1⟩=>?_)
 refine wpAny_Slice (jC (hl pins s1 σ H1 _ I1 q1) fun vl s2 ⟨l,H2,I2,pl,q2⟩=>jC (hu pins s2 σ H2 _ I2 q2) fun vu s3 ⟨u,H3,I3,pu,q3⟩=>?_)
 rw [evalPart_none]
 refine oO ?_
 have I4:ji X pins σ H3 { s3 with heap:=s3.heap.push { cls:=.type "slice",data:=.fields #[vl,vu,.none] } }:=I3.kept (t':=s3.toks) fun b ob q=>Heap.get?_push_of_some _ q
 obtain⟨T,id,hT,ht,hg⟩:=hr pins { s3 with heap:=s3.heap.push { cls:=.type "slice",data:=.fields #[vl,vu,.none] } } σ H3 x v vl vu l u s3.heap.objs.size Q I4 r1 (Heap.IsSliceOf.new ..) pl pu q3
 show wpAny (model X.prog X.w) X.A (subscriptTail e (.Slice lo hi none p2) v (.ref s3.heap.objs.size)) (EP X pins σ Q) X.xe { s3 with heap:=s3.heap.push { cls:=.type "slice",data:=.fields #[vl,vu,.none] } }
 exact tail_any (ops:=[.ref s3.heap.objs.size,v]) ht hT hg (by with_unfolding_all rfl)
def vZ (xs:List V) (lo hi:Option Int):List V:=(xs.drop (HT.sIx xs.length 0 lo)).take (HT.sIx xs.length xs.length hi - HT.sIx xs.length 0 lo)
theorem Mi (xs:List V) (lo hi:Option Int):(vZ xs lo hi).length≤xs.length:=by
 unfold vZ
 rw [List.length_take,List.length_drop]
 omega
end
end L2
namespace L2
open PySem PySem.Spec PyProof.Rows
def GY (n:Nat) (i:Int):Option Nat:=if 0≤i then (if i<n then some i.toNat else none) else if -(n:Int)≤i then some (i+n).toNat else none
def Zu {α:Type} (xs:List α) (i:Int):Option α:=(GY xs.length i).bind fun j=>xs[j]?
theorem MP {n:Nat}{i:Int}{j:Nat} (h:GY n i=some j):seqIndex? i n=some j∧j<n∧-(n:Int)≤i∧i<n:=by
 unfold GY at h
 by_cases h0:0≤i
 ·rw [if_pos h0] at h
  by_cases h1:i<n
  ·rw [if_pos h1] at h
   have e:i.toNat=j:=Option.some.inj h
   exact⟨by rw [seqIndex_of h0 h1,e],by omega,by omega,h1⟩
  ·rw [if_neg h1] at h;cases h
 ·rw [if_neg h0] at h
  by_cases h1:-(n:Int)≤i
  ·rw [if_pos h1] at h
   have e:(i+n).toNat=j:=Option.some.inj h
   exact⟨by rw [seqIndex_neg (by omega) h1,e],by omega,h1,by omega⟩
  ·rw [if_neg h1] at h;cases h
theorem kD {α:Type}{xs:List α}{i:Int}{v:α} (h:Zu xs i=some v):∃j,seqIndex? i xs.length=some j∧xs[j]?=some v∧j<xs.length∧-(xs.length:Int)≤i∧i<xs.length:=by
 unfold Zu at h
 cases e:GY xs.length i with
 | none=>rw [e] at h;cases h
 | some j =>
  rw [e] at h
  obtain⟨h1,h2,h3,h4⟩:=MP e
  exact⟨j,h1,h,h2,h3,h4⟩
theorem JN {α:Type}{xs:List α}{j:Nat}{v:α} (h:xs[j]?=some v):Zu xs (j:Int)=some v:=by
 have hj:j<xs.length:=(List.getElem?_eq_some_iff.mp h).1
 have e:GY xs.length (j:Int)=some j:=by
  unfold GY
  rw [if_pos (by omega),if_pos (by omega)];simp
 unfold Zu;rw [e];exact h
theorem aS {α:Type} (xs:List α) (v:α):Zu (xs++[v]) (-1)=some v:=by
 have hl:(xs++[v]).length=xs.length+1:=by simp
 have e:GY (xs++[v]).length (-1)=some xs.length:=by
  unfold GY
  rw [hl,if_neg (by decide),if_pos (by omega)]
  congr 1
  omega
 unfold Zu
 rw [e]
 show (xs++[v])[xs.length]?=some v
 simp
def cL (b:Expr):Prop:=∀o i,subscripted b false o i=operate [o,i] (getItem o i)
def MA (X:Cx) (r:R2):Prop :=
 ∀(value slice:Expr) (pins:oy) (s:Shared) (σ:St) (H:Hp) (x y:V) (v u:Value) (Q:VK),ji X pins σ H s→jL x v→jL y u→r x y H Q →
  subscripted slice false v u=operate [v,u] (getItem v u)→wpAny (model X.prog X.w) X.A (subscriptTail value slice v u) (EP X pins σ Q) X.xe s
def bW (X:Cx) (id:String) (r:V→List V→Hp→VK→Prop):Prop :=
 ∀(pins:oy) (s:Shared) (σ:St) (H:Hp) (x:V) (xs:List V) (v:Value) (us:oA) (Q:VK),ji X pins σ H s→jL x v→jE xs us→r x xs H Q →
  wpAny (model X.prog X.w) X.A (call (.builtin id) (v::us)) (EP X pins σ Q) X.xe s
section
variable {X:Cx}{a b:Expr}{ta tb:TE}{pos:Pos}
theorem jK {r:R2} (hr:MA X r) (ha:PE X a ta) (hb:PE X b tb) (hs:cL b):PE X (.Subscript a b pos) (aI r ta tb):=by
 intro pins s σ H Q I h
 exact Subscript_ (aT ha hb I h fun v u s2 x y H2 I2 rx ry q=>hr a b pins s2 σ H2 x y v u Q I2 rx ry q (hs _ _))
def fS (K:oq):R2:=fun x y H Q=>∃p xs i v,x=.ref p∧y=.int i∧jl K H p xs∧Zu xs i=some v∧Q v H
def bC (K:oq):R2:=fun x y H Q=>∃p xs i v,x=.ref p∧y=.int i∧Ji K H p xs∧Zu xs i=some v∧Q v H
def lv:R2:=fun x y H Q=>∃z i c,x=.str z∧y=.int i∧z.length≤sizeLine∧Zu z.cps.toList i=some c∧Q (.str ⟨#[c]⟩) H
theorem Jf:MA X (fS X.K):=by
 intro value slice pins s σ H x y v u Q I rx ry h hs
 obtain⟨p,xs,i,z,rfl,rfl,hq,he,q⟩:=h
 cases rx
 obtain⟨t,rfl⟩:=ry
 obtain⟨its,r,pl,hz⟩:=I.list hq
 obtain⟨j,h1,h2,h3,h4,h5⟩:=kD he
 obtain⟨w,ew,rw'⟩:=r.get h2
 have hl:=r.length
 have hn:=zf
 have fin:EP X pins σ Q w s:=⟨z,H,I,rw',q⟩
 by_cases h0:0≤i
 ·have hj:i.toNat=j:=by
   rw [seqIndex_of h0 h5] at h1
   exact Option.some.inj h1
  exact item_listR pl.isList h0 (by omega) (by rw [hj];simpa using ew) fin hs
 ·have hj:(i+(its.toArray.size:Int)).toNat=j:=by
   rw [seqIndex_neg (by omega) h4] at h1
   rw [List.size_toArray,←hl]
   exact Option.some.inj h1
  exact subscriptTail_builtinR (x:=w) pl.isList.typeIs slot_list_getitem.lookup
   (wpAny_getItem_list_neg (Q:=fun r s'=>r=w∧EP X pins σ Q r s') pl.isList (by omega) (by rw [List.size_toArray]<;>omega) (by omega) (by rw [hj];simpa using ew) ⟨rfl,fin⟩) hs
theorem u4:MA X (bC X.K):=by
 intro value slice pins s σ H x y v u Q I rx ry h hs
 obtain⟨p,xs,i,z,rfl,rfl,hq,he,q⟩:=h
 cases rx
 obtain⟨t,rfl⟩:=ry
 obtain⟨its,r,pl,hz⟩:=I.tuple hq
 obtain⟨j,h1,h2,h3,h4,h5⟩:=kD he
 obtain⟨w,ew,rw'⟩:=r.get h2
 have hl:=r.length
 have hn:=zf
 have fin:EP X pins σ Q w s:=⟨z,H,I,rw',q⟩
 exact subscriptTail_builtinR (x:=w) pl.typeIs slot_tuple_getitem.lookup
  (getItem_tuple (j:=j) (Q:=fun r s'=>r=w∧EP X pins σ Q r s') pl (by omega) (by omega) (by rw [List.size_toArray,←hl];exact h1) (by simpa using ew) ⟨rfl,fin⟩) hs
theorem ZT:MA X lv:=by
 intro value slice pins s σ H x y v u Q I rx ry h hs
 obtain⟨z,i,c,rfl,rfl,hz,he,q⟩:=h
 obtain⟨t,rfl⟩:=rx
 obtain⟨t',rfl⟩:=ry
 obtain⟨j,h1,h2,h3,h4,h5⟩:=kD he
 have hl:z.cps.toList.length=z.length:=by simp [Str.length]
 rw [hl] at h1 h4 h5
 have hn:=zf
 exact tail_any (typeIs_str s z t) slot_str_getitem.lookup (getItem_str (c:=c) (by
  have e1:decide (i < -(2^63:Int))=false:=decide_eq_false (by omega)
  have e2:decide (i≥2^63)=false:=decide_eq_false (by omega)
  rw [e1,e2,Bool.or_false]) (by rw [h1];simpa using h2) ⟨.str ⟨#[c]⟩,H,I.tok _,⟨_,rfl⟩,q⟩) hs
theorem nP (its:oA) (n j:Nat) (u:Value):Obj.mapSeq (·.setIfInBounds j u) { cls:=.type "list",data:=.seq its.toArray n }={ cls:=.type "list",data:=.seq (its.set j u).toArray n }:=by
 simp [Obj.mapSeq]
theorem ji.lst {pins:oy}{σ:St}{H:Hp}{s:Shared}{p:Addr}{xs:List V} (I:ji X pins σ H s) (h:H p=some (.lst xs)) :
  ∃(its:oA) (n:Nat),jE xs its∧s.heap.get? p=some { cls:=.type "list",data:=.seq its.toArray n }∧xs.length≤sizeLine:=by
 obtain⟨z,its,n,r,e⟩:=I.hok p _ h
 exact⟨its,n,r,e,z⟩
theorem ji.lstUpd {pins:oy}{σ:St}{H:Hp}{s:Shared}{p:Addr}{xs ys:List V}{its its':oA}{n n':Nat}{f:Obj→Obj} (I:ji X pins σ H s) (h:H p=some (.lst xs))
  (ho:s.heap.get? p=some { cls:=.type "list",data:=.seq its.toArray n }) (hf:f { cls:=.type "list",data:=.seq its.toArray n }={ cls:=.type "list",data:=.seq its'.toArray n' }) (r:jE ys its') (hz:ys.length≤sizeLine) (t:Nat) :
  ji X pins σ (upd H p (.lst ys)) { s with heap:=s.heap.update p f,toks:=t }:=by
 have e:(s.heap.update p f).get? p=some { cls:=.type "list",data:=.seq its'.toArray n' }:=by
  rw [Heap.get?_update_self f ho (by rw [hf]<;>rfl),hf]
 refine I.write (x:=p) (e:=p) (by rw [h];trivial) (.inl rfl) (fun b u hb q=>(Heap.get?_update_other _ _ (Ne.symm hb)).trans q) ⟨_,e⟩ ?_
 exact⟨hz,its',n',r,e⟩
def iD:V→V→V→Hp→(Hp→Prop)→Prop:=fun o i v H Q=>∃p xs k j,o=.ref p∧i=.int k∧H p=some (.lst xs)∧GY xs.length k=some j∧Q (upd H p (.lst (xs.set j v)))
theorem Mc:d0 X iD:=by
 intro pins s σ H o i v ov iv u Q I ro ri rv h
 obtain⟨p,xs,k,j,rfl,rfl,hp,hj,q⟩:=h
 cases ro
 obtain⟨t,rfl⟩:=ri
 obtain⟨its,n,r,ho,hz⟩:=I.lst hp
 obtain⟨h1,h2,h3,h4⟩:=MP hj
 have hl:=r.length
 have hn:=zf
 have I':ji X pins σ (upd H p (.lst (xs.set j v))) { s with heap:=s.heap.update p (Obj.mapSeq (·.setIfInBounds j u)) } :=
  I.lstUpd hp ho (nP its n j u) (r.set rv j) (by rw [List.length_set];exact hz) s.toks
 by_cases h0:0≤k
 ·have hk:k.toNat=j:=by
   rw [seqIndex_of h0 h4] at h1
   exact Option.some.inj h1
  exact PySem.W.ki_setAt ho h0 (by omega) (by rw [List.size_toArray,←hl];exact h4) (by rw [hk];exact⟨_,I',q⟩)
 ·have hk:(k+(its.toArray.size:Int)).toNat=j:=by
   rw [seqIndex_neg (by omega) h3] at h1
   rw [List.size_toArray,←hl]
   exact Option.some.inj h1
  exact PySem.W.ki_setBack ho (by omega) (by rw [List.size_toArray,←hl];exact h3) (by omega) (by rw [hk];exact⟨_,I',q⟩)
theorem Me (lo hi:Option Int) (n:Nat):(sliceBounds lo hi none n).1=((HT.sIx n 0 lo:Nat):Int)∧(sliceBounds lo hi none n).2.1=((HT.sIx n n hi:Nat):Int)∧(sliceBounds lo hi none n).2.2=1:=by
 refine⟨?_,?_,rfl⟩
 ·cases lo with
  | none=>simp [sliceBounds,HT.sIx]
  | some i =>
   simp only [sliceBounds,HT.sIx,Option.getD_none,show (1:Int) > 0 by decide,if_true]
   by_cases h:i<0
   ·simp only [h,if_true]<;>omega
   ·simp only [h,if_false]<;>omega
 ·cases hi with
  | none=>simp [sliceBounds,HT.sIx]
  | some i =>
   simp only [sliceBounds,HT.sIx,Option.getD_none,show (1:Int) > 0 by decide,if_true]
   by_cases h:i<0
   ·simp only [h,if_true]<;>omega
   ·simp only [h,if_false]<;>omega
theorem KR (its:oA) (lo hi:Option Int):slicePick its.toArray lo hi none=((its.drop (HT.sIx its.length 0 lo)).take (HT.sIx its.length its.length hi - HT.sIx its.length 0 lo)).toArray:=by
 obtain⟨h1,h2,h3⟩:=Me lo hi its.toArray.size
 unfold slicePick
 rw [h1,h2,h3]
 simp only [sliceRange_one,pick_run,List.size_toArray]<;>rfl
def lA (K:oq):V→Option Int→Option Int→Hp→VK→Prop:=fun x lo hi H Q=>∃a xs,x=.ref a∧jl K H a xs∧∀p,H p=none→Q (.ref p) (upd H p (.lst (vZ xs lo hi)))
theorem VI:iW X (lA X.K):=by
 intro pins s σ H x v vl vu lo hi sl Q I rx hs pl pu h
 obtain⟨a,xs,rfl,hx,q⟩:=h
 cases rx
 obtain⟨its,r,ht,hz⟩:=I.list hx
 have hlen:=r.length
 refine⟨"list",_,slot_list_getitem.lookup,ht.isList.typeIs,?_⟩
 refine wpAny_getItem_list_slice ht.isList hs pl pu .none (by simp) ?_ (by rw [List.size_toArray]<;>omega)
 rw [KR,←hlen]
 refine⟨.ref s.heap.objs.size,_,I.laid (t':=s.toks) (o:=.lst (vZ xs lo hi)) (fun b ob q=>Heap.get?_push_of_some _ q) (Nat.le_refl _) ?_,rfl,q _ (I.hok.fresh (Nat.le_refl _))⟩
 exact⟨Nat.le_trans (Mi xs lo hi) hz,_,0,(r.drop (HT.sIx xs.length 0 lo)).take (HT.sIx xs.length xs.length hi - HT.sIx xs.length 0 lo),Heap.get?_push_size _ rfl⟩
theorem Jc:uN X (.builtin "len") (fun xs H Q=>∃p ys,xs=[.ref p]∧(jl X.K H p ys∨Ji X.K H p ys)∧Q (.int ys.length) H):=by
 intro pins s σ H xs us Q I r h
 obtain⟨p,ys,rfl,hq,q⟩:=h
 obtain⟨u,rfl,rx⟩:=vS r
 cases rx
 have hn:=zf
 rcases hq with hq|hq
 ·obtain⟨its,r',pl,hz⟩:=I.list hq
  have hlen:=r'.length
  exact Calls.call_len_list pl.isList (by simp only [List.size_toArray]<;>omega) ⟨.int ys.length,H,I.tok _,⟨s.toks+1,by rw [List.size_toArray,hlen]⟩,q⟩
 ·obtain⟨its,r',pl,hz⟩:=I.tuple hq
  have hlen:=r'.length
  exact len_tuple pl (by simp only [List.size_toArray]<;>omega) ⟨.int ys.length,H,I.tok _,⟨s.toks+1,by rw [List.size_toArray,hlen]⟩,q⟩
theorem ZH:uN X (.builtin "len") (fun xs H Q=>∃z,xs=[.str z]∧z.length≤sizeLine∧Q (.int z.length) H):=by
 intro pins s σ H xs us Q I r h
 obtain⟨z,rfl,hz,q⟩:=h
 obtain⟨u,rfl,t,rfl⟩:=vS r
 have hn:=zf
 exact len_str (by omega) ⟨.int z.length,H,I.tok _,⟨_,rfl⟩,q⟩
theorem UZ:uN X (.type "list") (fun xs H Q=>∃p ys,xs=[.ref p]∧(jl X.K H p ys∨Ji X.K H p ys)∧∀l,H l=none→Q (.ref l) (upd H l (.lst ys))):=by
 intro pins s σ H xs us Q I r h
 obtain⟨p,ys,rfl,hq,q⟩:=h
 obtain⟨u,rfl,rx⟩:=vS r
 cases rx
 have fin:∀(its:oA),jE ys its→ys.length≤sizeLine→∀(h':Heap) (c':Nat),(∀b o',s.heap.get? b=some o'→h'.get? b=some o') →
   h'.get? s.heap.objs.size=some { cls:=.type "list",dict:=none,data:=.seq its.toArray c',slots:=#[] }→EP X pins σ Q (.ref s.heap.objs.size) { s with heap:=h' }:=fun its r' hz h' c' kp e =>
  ⟨.ref s.heap.objs.size,_,I.laid (t':=s.toks) kp (Nat.le_refl _) (show j0 X.prog X.w _ h' _ (.lst ys) from⟨hz,its,c',r',e⟩),rfl,q _ (I.hok.fresh (Nat.le_refl _))⟩
 rcases hq with hq|hq
 ·obtain⟨its,r',pl,hz⟩:=I.list hq
  have hlen:=r'.length
  obtain⟨o,ho,hc,n,hd⟩:=pl.isList
  exact call_list_seq p (.inl rfl) ho hc hd (fun h' c' kp e=>fin its r' hz h' c' kp e) (by simp only [List.size_toArray]<;>omega)
 ·obtain⟨its,r',pl,hz⟩:=I.tuple hq
  have hlen:=r'.length
  obtain⟨o,ho,hc,n,hd⟩:=pl
  exact call_list_seq p (.inr rfl) ho hc hd (fun h' c' kp e=>fin its r' hz h' c' kp e) (by simp only [List.size_toArray]<;>omega)
def ig (K:oq) (T:String) (x:V) (H:Hp):Prop:=match x with
 | .str _=>T="str"
 | .int _=>T="int"
 | .ref p=>(T="list"∧∃xs,jl K H p xs)∨(T="tuple"∧∃o,K.lookup p=some o∧o.cls=.type "tuple"∧o.dict=none) ∨
   (T="dict"∧((∃kvs,H p=some (.dK kvs))∨∃kvs,H p=some (.dT kvs)))∨(T="set"∧∃S n,H p=some (.set S n))
 | _=>False
theorem aK {pins:oy}{σ:St}{H:Hp}{s:Shared}{T:String}{x:V}{v:Value} (I:ji X pins σ H s) (r:jL x v) (ty:ig X.K T x H) :
  s.TypeIs v T∧∀a,v=.ref a→∃ob,s.heap.get? a=some ob∧ob.dict=none:=by
 cases x with
 | str z =>
  obtain⟨t,rfl⟩:=r
  cases (show T="str" from ty)
  exact⟨typeIs_str s z t,fun _ e=>nomatch e⟩
 | int i =>
  obtain⟨t,rfl⟩:=r
  cases (show T="int" from ty)
  exact⟨typeIs_int s i t,fun _ e=>nomatch e⟩
 | ref p =>
  cases r
  rcases ty with ⟨rfl,xs,hq⟩|⟨rfl,o,hk,hc,hd⟩|⟨rfl,hk⟩|⟨rfl,S,n,hk⟩
  ·obtain⟨its,_,pl,_⟩:=I.list hq
   refine⟨pl.isList.typeIs,fun a e=>?_⟩
   cases e
   obtain⟨o,n,e,c,hd,_⟩:=pl
   exact⟨o,e,hd⟩
  ·refine⟨⟨o,I.kIn p o hk,hc⟩,fun a e=>?_⟩
   cases e
   exact⟨o,I.kIn _ o hk,hd⟩
  ·have z:∃o,s.heap.get? p=some o∧o.ExactDict:=by
    rcases hk with ⟨kvs,hk⟩|⟨kvs,hk⟩
    ·obtain⟨_,_,_,_,o,_,_,e,ex,_⟩:=I.hok p _ hk
     exact⟨o,e,ex⟩
    ·obtain⟨_,_,_,_,o,_,_,e,ex,_⟩:=I.hok p _ hk
     exact⟨o,e,ex⟩
   obtain⟨o,e,ex⟩:=z
   refine⟨⟨o,e,ex.1⟩,fun a e2=>?_⟩
   cases e2
   exact⟨o,e,ex.2.1⟩
  ·obtain⟨o,_,_,_,e,ex,_⟩:=I.hok p _ hk
   refine⟨⟨o,e,ex.1⟩,fun a e2=>?_⟩
   cases e2
   exact⟨o,e,ex.2.1⟩
 | _=>exact False.elim ty
def lE (K:oq) (T:String) (r:V→List V→Hp→VK→Prop) (to:TE):TE:=fun σ H Q=>to σ H fun x H1=>ig K T x H1∧r x [] H1 Q
def lW (K:oq) (T:String) (r:V→List V→Hp→VK→Prop) (to:TE) (t:TA):TE:=fun σ H Q=>to σ H fun x H1=>ig K T x H1∧t σ H1 fun xs H2=>r x xs H2 Q
variable {o e:Expr}{es:oI}{to:TE}{t:TA}{name:Str}{apos cpos:Pos}{T id:String}{r:V→List V→Hp→VK→Prop}
theorem fL (pa:PlainAttrs T) (slot:Slot T name id) (hty:typeOf (.builtin id)=pure (.type "method_descriptor")) (hm:bW X id r) (ho:PE X o to)
  (hbase:attributeBase o name X.env (eval o X.env)=eval o X.env:=by rfl) (hline:(apos.endLine==cpos.line)=true:=by rfl):PE X (.Call (.Attribute o name apos) [] [] cpos) (lE X.K T r to):=by
 intro pins s σ H Q I h
 refine wpAny_Call_method0_late hbase hline (jC (ho pins s σ H _ I h) fun v s1 hh=>?_)
 obtain⟨x,H1,I1,r1,ty,q1⟩:=hh
 obtain⟨h1,h2⟩:=aK I1 r1 ty
 exact⟨T,id,pa,slot,hty,h1,h2,Calls.callWith_builtin rfl (PySem.evalArgs_none (hm pins s1 σ H1 x [] v [] Q I1 r1 .nil q1))⟩
theorem vz (pa:PlainAttrs T) (slot:Slot T name id) (hty:typeOf (.builtin id)=pure (.type "method_descriptor")) (hm:bW X id r) (ho:PE X o to) (ha:PA X (e::es) t)
  (hbase:attributeBase o name X.env (eval o X.env)=eval o X.env:=by rfl)
  (hfew:((backTo cpos (starEach (e::es) X.env)).all (fun x=>!x.1)&&(backToKw cpos (keywordEach [] X.env)).all (fun x=>x.1.isSome)
   && decide ((e::es).length+([]:List Keyword).length+(if ([]:List Keyword).isEmpty then 0 else 1)<30))=true:=by rfl)
  (hline:(apos.endLine==cpos.line)=true:=by rfl) (hs:starEach (e::es) X.env=(false,eval e X.env)::starEach es X.env:=by rfl) (hplain:(backTo cpos (starEach es X.env)).any (·.1)=false:=by rfl) :
  PE X (.Call (.Attribute o name apos) (e::es) [] cpos) (lW X.K T r to t):=by
 intro pins s σ H Q I h
 refine wpAny_Call_method_late hbase hfew hline rfl (jC (ho pins s σ H _ I h) fun v s1 hh=>?_)
 obtain⟨x,H1,I1,r1,ty,q1⟩:=hh
 obtain⟨h1,h2⟩:=aK I1 r1 ty
 refine⟨T,id,pa,slot,hty,h1,h2,?_⟩
 have hA:=ha cpos pins s1 σ H1 _ I1 q1
 rw [hs] at hA ⊢
 refine Calls.callWith_builtin (by show (false||(backTo cpos (starEach es X.env)).any (·.1))=false;rw [hplain]<;>rfl) (Calls.evalArgs_plain ?_)
 exact jC hA fun us s2 ⟨vs,H2,I2,r2,q2⟩=>hm pins s2 σ H2 x vs v us Q I2 r1 r2 q2
end
end L2
namespace L2
open PySem PySem.Spec PyProof.Rows
def dX (X:Cx) (id:String) (r:V→List V→Hp→VK→Prop):Prop :=
 ∀(pins:oy) (s:Shared) (σ:St) (H:Hp) (x:V) (xs:List V) (v:Value) (us:oA) (Q:VK),ji X pins σ H s→jL x v→jE xs us→r x xs H Q →
  wpAny (model X.prog X.w) X.A (call (.builtin id) (v::us)) (EP X pins σ Q) X.xe s
theorem jE.one:∀{x:V} {us:oA},jE [x] us→∃u,us=[u]∧jL x u
 | _,_,.cons r .nil=>⟨_,rfl,r⟩
section
variable {X:Cx}{pins:oy}{σ:St}{H:Hp}{s:Shared}{l b:Addr}{xs ys zs:List V}
theorem ji.lset {its its':oA}{n:Nat}{f:Array Value→Array Value}{t':Nat} (I:ji X pins σ H s) (hH:H l=some (.lst xs))
  (e:s.heap.get? l=some { cls:=.type "list",data:=.seq its.toArray n }) (hf:f its.toArray=its'.toArray) (hv:jE ys its') (hz:ys.length≤sizeLine) :
  ji X pins σ (upd H l (.lst ys)) { s with heap:=s.heap.update l (Obj.mapSeq f),toks:=t' }:=by
 have q:=PySem.IsL.update e f
 rw [hf] at q
 refine I.write (x:=l) (e:=l) (by rw [hH];exact trivial) (.inl rfl) (fun b' u hb hu=>(Heap.get?_update_other s.heap (Obj.mapSeq f) (Ne.symm hb)).trans hu) ⟨_,q⟩ ?_
 exact⟨hz,its',_,hv,q⟩
theorem ji.lnew {its:oA}{t':Nat} (I:ji X pins σ H s) (hv:jE ys its) (hz:ys.length≤sizeLine) :
  ji X pins σ (upd H s.heap.objs.size (.lst ys)) { s with heap:=s.heap.push { cls:=.type "list",data:=.seq its.toArray },toks:=t' } :=
 I.laid (fun _ _ q=>Heap.get?_push_of_some _ q) (Nat.le_refl _) ⟨hz,its,0,hv,Heap.get?_push_size _ rfl⟩
theorem ji.fresh (I:ji X pins σ H s):H s.heap.objs.size=none:=I.hok.fresh (Nat.le_refl _)
theorem ji.lstM (I:ji X pins σ H s) (hH:H l=some (.lst xs)):xs.length≤sizeLine∧∃(its:oA) (n:Nat),jE xs its∧xs.length=its.length∧s.heap.get? l=some { cls:=.type "list",data:=.seq its.toArray n }:=by
 obtain⟨z,its,n,r,e⟩:=I.hok l _ hH
 exact⟨z,its,n,r,r.length,e⟩
theorem bp {n:Nat} (h:n≤sizeLine):Builtin.List.listTooLong n=false:=by
 unfold Builtin.List.listTooLong
 exact decide_eq_false (by omega)
end
section
variable {X:Cx}
def dj:V→List V→Hp→VK→Prop:=fun x vs H Q=>∃l xs y,x=.ref l∧vs=[y]∧H l=some (.lst xs)∧xs.length<sizeLine∧Q .non (upd H l (.lst (xs++[y])))
theorem JX:dX X "list.append" dj:=by
 intro pins s σ H x vs v us Q I rx rv h
 obtain⟨l,xs,y,rfl,rfl,hH,hz,q⟩:=h
 cases rx
 obtain⟨u,rfl,ru⟩:=rv.one
 obtain⟨z,its,n,r,hl,e⟩:=I.lstM hH
 refine call_meets F.slot_list_append ⟨_,e,rfl⟩ F.entry_list_append (F.args_list_append_2 _ _) (PySem.list_append l its.toArray n u (by rw [List.size_toArray];omega)) ⟨e,?_⟩
 refine⟨.non,_,I.lset (its':=its++[u]) hH e (by simp) (r.append (.cons ru .nil)) ?_,rfl,q⟩
 rw [List.length_append,List.length_singleton]
 omega
def dl:V→List V→Hp→VK→Prop:=fun x vs H Q=>∃l b xs zs,x=.ref l∧vs=[.ref b]∧H l=some (.lst xs)∧H b=some (.lst zs)∧xs.length+zs.length≤sizeLine∧Q .non (upd H l (.lst (xs++zs)))
theorem ae:dX X "list.extend" dl:=by
 intro pins s σ H x vs v us Q I rx rv h
 obtain⟨l,b,xs,zs,rfl,rfl,hH,hB,hz,q⟩:=h
 cases rx
 obtain⟨u,rfl,ru⟩:=rv.one
 cases ru
 obtain⟨z,its,n,r,hl,e⟩:=I.lstM hH
 obtain⟨z2,its2,n2,r2,hl2,e2⟩:=I.lstM hB
 have hsz:its.toArray.size+its2.toArray.size≤sizeLine:=by rw [List.size_toArray,List.size_toArray];omega
 have hlong:¬(!its.toArray.isEmpty&&Builtin.List.listTooLong (its.toArray.size+its2.toArray.size))=true:=by
  rw [bp hsz,Bool.and_false]
  exact Bool.false_ne_true
 refine call_meets F.slot_list_extend ⟨_,e,rfl⟩ F.entry_list_extend (F.args_list_extend_2 _ _)
  (AutoSeq1.list_extend_list_list_0 l its.toArray n b its2.toArray n2 hlong (by rw [List.size_toArray];omega) (by omega)) ⟨e,e2,?_⟩
 refine⟨.non,_,I.lset (its':=its++its2) hH e (by simp) (r.append r2) ?_,rfl,q⟩
 rw [List.length_append]
 omega
def lu:R2:=fun x y H Q=>∃l b xs zs,x=.ref l∧y=.ref b∧H l=some (.lst xs)∧H b=some (.lst zs)∧xs.length+zs.length≤sizeLine∧∀p,H p=none→Q (.ref p) (upd H p (.lst (xs++zs)))
theorem vk:Us X (binaryOp .Add) lu:=by
 intro pins s σ H x y v u Q I rx ry h
 obtain⟨l,b,xs,zs,rfl,rfl,hH,hB,hz,q⟩:=h
 cases rx
 cases ry
 obtain⟨z,its,n,r,hl,e⟩:=I.lstM hH
 obtain⟨z2,its2,n2,r2,hl2,e2⟩:=I.lstM hB
 refine PySem.P.add_list e e2 ?_ (by rw [List.size_toArray,List.size_toArray];omega)
 have ea:its.toArray++its2.toArray=(its++its2).toArray:=by simp
 rw [ea]
 exact⟨.ref _,_,I.lnew (t':=s.toks) (r.append r2) (by rw [List.length_append];omega),rfl,q _ I.fresh⟩
end
end L2
namespace Att
open PySem PySem.W PySem.Calls PyProof.Rows
theorem GW {P:Params}{h:Heap}:∀(ns:List Int) (vs:oA),WellAll P h vs (ns.map WData.int)→IntsAre vs ns:=by
 intro ns
 induction ns with
 | nil =>
  intro vs w
  rw [List.map_nil] at w
  cases w
  exact .nil
 | cons n ns ih =>
  intro vs w
  rw [List.map_cons] at w
  cases w with
  | cons a b =>
   cases a
   exact .cons _ _ (ih _ b)
theorem aA {l:OpenLaw}{n:Nat} (hn:l.most=some n) {P:Params} {h:Heap} {args:List WData} {vals:oA}
  (hpre:l.row.toRowW.claim.pre args=true) (hwl:WellAll P h vals args) :
  ∃a vs ns,vals=[Value.ref a]∧args=[WData.list (ns.map WData.int)]∧h.get? a=some { cls:=.type "list",data:=.seq vs.toArray }∧IntsAre vs ns∧ns.length≤n:=by
 have hsh:WShape.hasAll [] args [.list .int]=true:=(pre_splitW hpre).1
 have hc:l.pre.holds [] { args:=args }=true:=(pre_splitW hpre).2
 obtain⟨d,r,rfl,h1,h2⟩:=hasAllW_cons hsh
 obtain rfl:=hasAllW_nil h2
 obtain⟨xs,rfl,h3⟩:=hasW_list h1
 obtain⟨ns,rfl⟩:=items_int h3
 have hlen:ns.length≤n:=by
  unfold OpenLaw.pre at hc
  have h4:(WTm.not (.lt (.lit (.int (n:Int))) (.len (.arg 0)))).holds [] { args:=[.list (ns.map .int)] }=true:=by
   have h4:=(holds_andW hc).1
   rw [hn] at h4
   exact h4
  have h5:=condW_of h4 (w_not (w_lt w_lit (w_len_list (w_arg rfl))))
  rw [List.length_map] at h5
  refine Nat.le_of_not_lt fun q=>?_
  have q':(n:Int)<((ns.length:Nat):Int):=by omega
  first
   | (rw [decide_eq_true q'] at h5;exact absurd h5 (by decide))
   | (simp at h5;omega)
 cases hwl with
 | cons w1 w2 =>
  cases w2
  cases w1 with
  | list ho hall=>exact⟨_,_,ns,rfl,rfl,ho,GW ns _ hall,hlen⟩
theorem av (l:OpenLaw) (args:List WData):l.row.toRowW.claim.post args (.bool true) args=true :=
 postW_of (r:=l.row.toRowW) (X:=(true==true))
  (show WShape.has [] (.bool true) .bool=true by first|rfl|decide|simp [WShape.has,WShape.arms,WShape.armsAll])
  (show (WTm.eq .res (.lit (.bool true))).value [] { args:=args,res:=some (.bool true),after:=args }=some (.bool (true==true)) from w_eq_bool (w_res rfl) w_lit) rfl
theorem attach_call {l:OpenLaw}{n:Nat}{q:oM}{loose:oG}{XP:(Str→Option Value)→Heap→Prop}{YP:World→Heap→Prop}{d:DefRec}
  (hn:l.most=some n) (hdf:d.params.defaults=[])
  (call:∀(w:World) (s₀ s₁:Shared) (mg mb:ox) (fa:Addr) (o:Obj) (pm cd doc:Value) (a:Addr) (vs:oA) (ns:List Int),
   Ground q loose [] XP w s₀ mg mb s₁.heap→YP w s₁.heap →
   s₁.heap.get? fa=some o→o.data=.func (docDef d.name d.params d.body d.scope pm cd doc)→s₁.heap.CodeRec cd d.name→mg d.name=some (.ref fa) →
   s₁.heap.get? a=some { cls:=.type "list",data:=.seq vs.toArray }→IntsAre vs ns→ns.length≤n→s₁.gens=#[] →
   codeAny (model l.prog w) callerA (.call (.ref fa) ⟨[.ref a],[]⟩) (fun r s'=>r=.ok (.ret (.bool true))∧OldK s₁.heap s'.heap∧s'.os=s₁.os∧AllBare s'.gens) s₁) :
  WalkO q loose XP YP l.row.toRowW d [] (fun f vs=>PySem.call f vs):=by
 intro w s₀ s₁ mg mb G Y fa o pm cd doc dV kV ho hd hcd hD hmg hg args vals as hpre hlay hrd hwl hlo
 obtain rfl:dV=.none:=Dflts.none hD hdf
 obtain rfl:kV=.none:=Dflts.noKw hD
 obtain⟨a,vs,ns,rfl,rfl,hobj,hints,hlen⟩:=aA hn hpre hwl
 refine enter_call (codeAny_mono (call w s₀ s₁ mg mb fa o pm cd doc a vs ns G Y ho (fd_plain hd) hcd hmg hobj hints hlen hg) fun r s' hq=>?_)
 obtain⟨rfl,h2,h3,h4⟩:=hq
 exact⟨.inl ⟨.bool true,.bool true,[],rfl,fun _=>rfl,.bool true,av l _,fun _=>⟨List.Pairwise.nil,fun _ hm=>(nomatch hm)⟩⟩,h2,h3,h4⟩
end Att
namespace L2
open PySem PySem.Spec PyProof.Rows
theorem KH:∀{vs:oA} {ns:List Int},IntsAre vs ns→jE (ns.map V.int) vs
 | _,_,.nil=>.nil
 | _,_,.cons n t h=>.cons ⟨t,rfl⟩ (KH h)
end L2
namespace L2
open PySem PySem.Spec PyProof.Rows
abbrev KOf {K:oq}{h:Heap} (_:K.In h):Frag:=K
end L2
namespace L2
open PySem PySem.Spec PyProof.Rows
def gs (s:Stmt) (j:Nat):Stmt:=match s with
 | .ClassDef _ _ _ body _ _ _ _ _ _ _=>body.getD j (.Pass ⟨0,0,0,0⟩)
 | _=>.Pass ⟨0,0,0,0⟩
def jO (s:Stmt):Arguments:=match s with
 | .FunctionDef _ a _ _ _ _ _ _ _ _=>a
 | _=>{ posonlyargs:=[],args:=[],vararg:=none,kwonlyargs:=[],kw_defaults:=[],kwarg:=none,defaults:=[] }
def jF (s:Stmt):List Stmt:=match s with
 | .FunctionDef _ _ b _ _ _ _ _ _ _=>b
 | _=>[]
def jo (s:Stmt):Scope:=match s with
 | .FunctionDef _ _ _ _ _ _ sc _ _ _=>sc
 | _=>{ kind:=.function,names:=[],isGenerator:=false,isCoroutine:=false }
structure uA (K:oq) (x qual:Str) (st:Stmt) (f:Addr) (fd:FuncData):Prop where
 ex:∃(oc:Value) (od:oK) (kV doc pm:Value) (an:oK) (cdv ct:Value) (osl:oF),
  fd=fnOf x qual (jO st) (jF st) (jo st) .none kV doc pm an cdv ct∧K.lookup f=some ⟨oc,od,.func fd,osl⟩∧codeIn K cdv qual=true
 kp:keepIn K (.ref f)=true
section
variable {P:oM}{w:World}{K:oq}{mg:ox}{base:Heap}
theorem uA.binds {x qual:Str}{st:Stmt}{f:Addr}{fd:FuncData}{ps:oG} (F:uA K x qual st f fd)
  (h:∀(kV doc pm:Value) (an:oK) (cdv ct:Value) (us:oA),us.length=ps.length→bindArgs (fnOf x qual (jO st) (jF st) (jo st) .none kV doc pm an cdv ct) ⟨us,[]⟩=pure (ps.zip us)):jU K fd ps []:=by
 obtain⟨oc,od,kV,doc,pm,an,cdv,ct,osl,rfl,lk,hcd⟩:=F.ex
 exact .all (h kV doc pm an cdv ct)
theorem jx {x qual:Str}{st:Stmt}{f:Addr}{oc:Value}{od an:oK}{osl:oF}{kV doc pm cdv ct:Value} (l:K.lookup f=some ⟨oc,od,.func (fnOf x qual (jO st) (jF st) (jo st) .none kV doc pm an cdv ct),osl⟩)
  (c:codeIn K cdv qual=true) (k:keepIn K (.ref f)=true):uA K x qual st f (fnOf x qual (jO st) (jF st) (jo st) .none kV doc pm an cdv ct):=⟨⟨oc,od,kV,doc,pm,an,cdv,ct,osl,rfl,l,c⟩,k⟩
end
theorem GV {A:Around}{k:Nat} (hr:Vn k A):A.units+1<cLine:=Nat.lt_of_le_of_lt (Nat.add_le_add_left (by decide:1≤64) _) hr.units
section
variable {X:Cx}
theorem pv (i:Nat) {x:Str} {pos:Pos} (hN:X.N[i]?=some x:=by rfl) (hv:d8 X.env.scope x:=by first|exact Or.inl rfl|exact Or.inr (Or.inl rfl)|exact Or.inr (Or.inr rfl)) (hd:(x==("__debug__":Str))=false:=by decide)
  (hcd:(x==("__classdict__":Str))=false:=by decide):PE X (.Name x pos) (bM i):=fO hN hv hd hcd
end
theorem U1 {A B:Prop} (h:B):if false=true then A else B:=by
 rw [if_neg Bool.false_ne_true]
 exact h
theorem Uu {A B:Prop} (h:A):if true=true then A else B:=by
 rw [if_pos rfl]
 exact h
theorem Vs {c A B:Prop} [Decidable c] (hc:c) (h:B):if (!decide c)=true then A else B:=by
 rw [decide_eq_true hc]
 exact U1 h
def Same (H H':Hp):Prop:=∀b o,H b=some o→H' b=some o
theorem Same.refl (H:Hp):Same H H:=fun _ _ h=>h
theorem Same.trans {H H1 H2:Hp} (a:Same H H1) (b:Same H1 H2):Same H H2:=fun c o h=>b c o (a c o h)
theorem Same.seq {K:oq}{H H':Hp}{a:Addr}{xs:List V} (e:Same H H') (h:jl K H a xs):jl K H' a xs:=by
 rcases h with (h|⟨o,h⟩)|h
 ·exact .inl (.inl (e _ _ h))
 ·exact .inl (.inr ⟨o,e _ _ h⟩)
 ·exact .inr h
end L2
namespace L2
open PySem PySem.Spec PyProof.Rows
theorem j0.there {P:oM}{w:World}{H:Hp}{h:Heap}{a:Addr}{o:HO} (x:j0 P w H h a o):∃u,h.get? a=some u:=by
 cases o with
 | lst xs=>obtain⟨_,_,_,_,e⟩:=x;exact⟨_,e⟩
 | tup xs=>obtain⟨_,_,_,ob,e,_⟩:=x;exact⟨_,e⟩
 | dK kvs=>obtain⟨_,_,_,_,ob,_,_,e,_⟩:=x;exact⟨_,e⟩
 | dT kvs=>obtain⟨_,_,_,_,ob,_,_,e,_⟩:=x;exact⟨_,e⟩
 | set S n=>obtain⟨ob,_,_,_,e,_⟩:=x;exact⟨_,e⟩
 | ins C dx fs=>obtain⟨_,_,_,e,_⟩:=x;exact⟨_,e⟩
 | own y=>exact x
 | xd fs=>obtain⟨_,⟨_,_,_,e,_⟩,_⟩:=x;exact⟨_,e⟩
 | rng lo hi=>obtain⟨_,_,_,e⟩:=x;exact⟨_,e⟩
 | frz ob u=>obtain⟨e,_⟩:=x;exact⟨_,e⟩
 | tbl ps=>exact⟨_,(show h.get? a=some _ from x)⟩
 | met f y=>exact⟨_,(show h.get? a=some _ from x)⟩
 | ext φ=>obtain⟨_,e,_⟩:=x;exact e
theorem JJ.free_of {P:oM}{w:World}{H:Hp}{h:Heap}{a:Addr} (x:JJ P w H h) (e:h.get? a=none):H a=none:=by
 cases q:H a with
 | none=>rfl
 | some o=>obtain⟨u,z⟩:=(x a o q).there;rw [e] at z;cases z
structure V2 (h0 h:Heap) (H:Hp) (e C:Addr):Prop where
 ex:∃oe vs T oT ts,∃a0:Value×Value,h.get? e=some oe∧oe.cls=.ref C∧vs[0]?=some a0.1∧oe.data=.fields vs∧vs[1]?=some (.ref T)∧T≠e∧h.get? T=some oT∧oT.data=.fields ts∧ts[3]?=some .none∧h0.get? T=none∧H T=none∧vs[2]?=some a0.2∧VW H a0.2
 new:h0.get? e=none
 free:H e=none
def XC (P:oM) (w:World):Kb:=fun outer H s E e s'=>∃(ea C:Addr) (H':Hp),e=.ref ea∧s'.os=s.os∧AllBare s'.gens∧Un (uy outer) [] H H' s.heap s'.heap∧JJ P w H' s'.heap∧V2 s.heap s'.heap H' ea C∧E (.ref C) none H'
theorem Un.late {fs ex ch:oB}{H H':Hp}{h h1 h2:Heap} (u:Un fs ex H H' h h1) (fresh:∀b∈ch,h.get? b=none)
  (k:∀b o,b ∉ fs→b ∉ ch→h1.get? b=some o→h2.get? b=some o) (ks:∀b o,b∈fs→h1.get? b=some o→∃sl,h2.get? b=some { o with slots:=sl }):Un fs ex H H' h h2:=by
 have nch:∀b o,h.get? b=some o→b ∉ ch:=fun b o q z=>by have:=fresh b z;rw [q] at this;cases this
 refine⟨fun b o q n hb hx=>k b o hb (nch b o q) (u.keep b o q n hb hx),fun b o q n hb hx=>?_,u.free,fun b o q hx=>?_,u.tups,u.frzs,u.tbls⟩
 ·obtain⟨sl,e1⟩:=u.slot b o q n hb hx
  obtain⟨sl',e2⟩:=ks b _ hb e1
  exact⟨sl',e2⟩
 ·obtain⟨o',e1⟩:=u.there b o q hx
  by_cases hb:b∈fs
  ·obtain⟨sl,e2⟩:=ks b o' hb e1
   exact⟨_,e2⟩
  ·exact⟨o',k b o' hb (nch b o q) e1⟩
section
variable {X:Cx}{pins:oy}{σ:St}{H H':Hp}{s s':Shared}{ea C:Addr}{a0:Value×Value}{h':Heap}{ch:oB}
theorem Va (I:ji X pins σ H s) (hst:X.stack=X.env::X.outer) (os:s'.os=s.os) (bare:AllBare s'.gens) (un:Un (uy X.stack) [] H H' s.heap s'.heap) (hok:JJ X.prog X.w H' s'.heap)
  (hch:∀b∈ch,s.heap.get? b=none∧H' b=none) (hea:ea∈ch) (hcx:VW H' a0.2) (L:zZ (hideAll s'.heap (ch++uy X.stack)) (X.env::X.outer) ea (.ref C) a0 .none s'.heap h') :
  ji X pins σ H' { s' with heap:=h' }∧V2 s.heap h' H' ea C:=by
 have I1:ji X pins σ H' s':=I.call' (ch:=[]) os un hok bare (fun b z=>absurd z (by simp))
 obtain⟨st,ff,tr,up⟩:=L
 have FF:s'.heap.FunFrames X.base X.stack:=I1.stack
 have keep:∀b o,b ∉ uy X.stack→b ∉ ch→s'.heap.get? b=some o→h'.get? b=some o:=fun b o hb hc e=>st b o (hideAll_get _ e fun z=>(List.mem_append.mp z).elim hc hb)
 have slots:∀b o,b∈uy X.stack→s'.heap.get? b=some o→∃sl,h'.get? b=some { o with slots:=sl }:=fun b o hb e=>by
  obtain⟨_,o',ho',hd⟩:=FF.mem hb
  rw [e] at ho';cases ho'
  exact up b o e hd
 have un2:Un (uy X.stack) [] H H' s.heap h':=un.late (ch:=ch) (fun b hb=>(hch b hb).1) keep slots
 have free:∀b,H' b≠none→b ∉ uy X.stack∧b ∉ ch:=fun b n=>⟨fun z=>n (I1.stkFree b z),fun z=>n (hch b z).2⟩
 have hok2:JJ X.prog X.w H' h':=fun b o e=>(hok b o e).stay (fun c u hc q=>by
  have n:H' c≠none:=by
   rcases hc with z|z
   ·rw [z,e];simp
   ·rw [z];simp
  exact keep c u (free c n).1 (free c n).2 q) (fun _ q=>q) fun _ _ q=>q
 refine⟨I.call' (s':={ s' with heap:=h' }) (ch:=[]) os un2 hok2 bare (fun b z=>absurd z (by simp)),⟨?_,(hch ea hea).1,(hch ea hea).2⟩⟩
 obtain⟨oe,vs,T,oT,ts,e1,⟨e2,e3,c3⟩,e4,e5,e6,e7,e8,e9,e10⟩:=tr
 have hT:s.heap.get? T=none∧H' T=none:=by
  cases q:s'.heap.get? T with
  | none =>
   refine⟨?_,hok.free_of q⟩
   cases q2:s.heap.get? T with
   | none=>rfl
   | some o=>obtain⟨o',z⟩:=un.there T o q2 (by simp);rw [q] at z;cases z
  | some o =>
   by_cases hc:T∈ch
   ·exact hch T hc
   ·by_cases hf:T∈uy X.stack
    ·have hf2:T∈uy (X.env::X.outer):=hst▸hf
     obtain⟨_,o',ho',hd⟩:=ff.mem hf2
     rw [e8] at ho';cases ho'
     exact absurd e9 (hd ts)
    ·rw [hideAll_get _ q fun z=>(List.mem_append.mp z).elim hc hf] at e6
     cases e6
 exact⟨oe,vs,T,oT,ts,a0,e1,e2,e3,e4,e5,e7,e8,e9,e10,hT.1,hT.2,c3,hcx⟩
theorem V3 (I:ji X pins σ H' s') (hst:X.stack=X.env::X.outer) (ch:oB):s'.heap.FunFrames (hideAll s'.heap (ch++uy X.stack)) (X.env::X.outer):=by
 have FF:s'.heap.FunFrames X.base X.stack:=I.stack
 rw [←hst]
 exact PySem.W.funFrames_hide FF fun env he a hf=>List.mem_append_right _ (List.mem_filterMap.mpr ⟨env,he,hf⟩)
theorem bj (I:ji X pins σ H s) (hst:X.stack=X.env::X.outer) (hf:X.env.frame=some X.env.locals) (os:s'.os=s.os) (bare:AllBare s'.gens) (un:Un (uy X.stack) [] H H' s.heap s'.heap) (hok:JJ X.prog X.w H' s'.heap)
  (fl:V2 s.heap s'.heap H' ea C) {M:Model} {E:oh} {Q:oj} (h:∀h',ji X pins σ H' { s' with heap:=h' }→V2 s.heap h' H' ea C→Q () { s' with heap:=h' }) :
  wpAny M X.A (leaving X.env (.ref ea)) Q E s':=by
 have I1:ji X pins σ H' s':=I.call' (ch:=[]) os un hok bare (fun b z=>absurd z (by simp))
 obtain⟨oe,vs,T,oT,ts,a0,e1,e2,e3,e4,e5,e7,e8,e9,e10,e11,e12,c3,cx⟩:=fl.ex
 have hfr:X.A.frames=some (X.env::X.outer):=by rw [←hst];exact I.ok.frames
 refine nK (base:=hideAll s'.heap ([ea,T]++uy X.stack)) (cls:=.ref C) (a0:=a0) hfr (V3 I1 hst [ea,T]) hf
  ⟨oe,vs,T,oT,ts,e1,⟨e2,e3,c3⟩,e4,e5,hideAll_none _ (by simp),e7,e8,e9,e10⟩ (fun b o q=>of_hideAll _ q) (hideAll_none _ (by simp)) fun h' L=>?_
 obtain⟨J,F⟩:=Va (ch:=[ea,T]) I hst os bare un hok (fun b hb=>by
  rcases List.mem_cons.mp hb with rfl|hb
  ·exact⟨fl.new,fl.free⟩
  ·obtain rfl:b=T:=by simpa using hb
   exact⟨e11,e12⟩) (by simp) cx L
 exact h h' J F
theorem nJ (I:ji X pins σ H s) (hst:X.stack=X.env::X.outer) (hf:X.env.frame=some X.env.locals) {h1:Heap} {args:oA} (hm:Heap.MadeExcOf s.heap h1 ea (.ref C) args)
  {M:Model} {E:oh} {Q:oj} (h:∀h',ji X pins σ H { s with heap:=h' }→V2 s.heap h' H ea C→Q () { s with heap:=h' }) :
  wpAny M X.A (leaving X.env (.ref ea)) Q E { s with heap:=h1 }:=by
 have I1:ji X pins σ H { s with heap:=h1 }:=I.kept (t':=s.toks) hm.keeps
 obtain⟨t,e1,e2,e3⟩:=hm.there
 have hfr:X.A.frames=some (X.env::X.outer):=by rw [←hst];exact I.ok.frames
 refine Ml (s:={ s with heap:=h1 }) (base:=hideAll h1 ([ea]++uy X.stack)) (a0:=(.ref t,.none)) hfr (V3 I1 hst [ea]) hf e1 (fun b o q=>of_hideAll _ q)
  (hideAll_none _ (by simp)) rfl rfl rfl rfl fun h' L=>?_
 obtain⟨J,F⟩:=Va (ch:=[ea]) (s':={ s with heap:=h1 }) I hst rfl I.bare (Un.kept hm.keeps) I1.hok (fun b hb=>by
  obtain rfl:b=ea:=by simpa using hb
  exact⟨hm.new,I.hok.free_of hm.new⟩) (by simp) .nil L
 exact h h' J F
end
def Nj (X:Cx) (E:XK):Prop:=∀(pins:oy) (σ:St) (H:Hp) (s:Shared) (ea C:Addr) (h':Heap) (args:oA),ji X pins σ H s→Heap.MadeExcOf s.heap h' ea (.ref C) args→E (.ref C) none H→X.xe (.ref ea) { s with heap:=h' }
section
variable {P:oM}{w:World}{K:oq}{mg:ox}{base:Heap}{N ps:oG}{qual:Str}{scope:Scope}{f:Addr}{cd:Value}{A:Around}{outer:List Env}{s:Shared}{H:Hp}{E:XK}
abbrev Kp (P:oM) (w:World) (K:oq) (mg:ox) (base:Heap) (N:oG) (qual:Str) (scope:Scope) (f:Addr) (cd:Value) (A:Around) (outer:List Env) (s:Shared) (H:Hp) (E:XK) (c:Bool:=true):Cx :=
 Gq (XC P w) P w K mg base N qual scope f cd A outer s H E c
theorem gV {c:Bool}{pins:oy}{σ:St}{H1 H':Hp}{s1:Shared}{h':Heap}{ea C:Addr} (I:ji (Kp P w K mg base N qual scope f cd A outer s H E c) pins σ H1 s1) (F:V2 s1.heap h' H' ea C):V2 s.heap h' H' ea C:=by
 have z:∀b,s1.heap.get? b=none→s.heap.get? b=none:=fun b q=>by
  cases q2:s.heap.get? b with
  | none=>rfl
  | some o=>obtain⟨o',e⟩:=I.base.there b o q2 (by simp [Gq]);rw [q] at e;cases e
 obtain⟨oe,vs,T,oT,ts,a0,e1,e2,e3,e4,e5,e7,e8,e9,e10,e11,e12,c3,cx⟩:=F.ex
 exact⟨⟨oe,vs,T,oT,ts,a0,e1,e2,e3,e4,e5,e7,e8,e9,e10,z _ e11,e12,c3,cx⟩,z _ F.new,F.free⟩
theorem jq {c:Bool}:UD (XC P w) (Kp P w K mg base N qual scope f cd A outer s H E c) E:=by
 intro pins σ H1 s1 e s' I h
 obtain⟨ea,C',H',rfl,os,bare,un,hok,fl,q⟩:=h
 refine bj I rfl rfl os bare un hok fl fun h' J F=>?_
 exact⟨ea,C',H',rfl,J.os,J.bare,J.base,J.hok,gV I F,q⟩
theorem uz {c:Bool}:Nj (Kp P w K mg base N qual scope f cd A outer s H E c) E:=by
 intro pins σ H1 s1 ea C h1 args I hm q
 refine nJ I rfl rfl hm fun h' J F=>?_
 exact⟨ea,C,H1,rfl,J.os,J.bare,J.base,J.hok,gV I F,q⟩
theorem JF {c:Bool}:PassesOwn (model P w) (Kp P w K mg base N qual scope f cd A outer s H E c).A (Kp P w K mg base N qual scope f cd A outer s H E c).env (Kp P w K mg base N qual scope f cd A outer s H E c).xe:=PassesOwn.leaving
theorem uA.okX {x:Str}{st:Stmt}{fd:FuncData}{k:Nat}{sp:Sp}{c:Bool} (F:uA K x qual st f fd) (S:jR N ps (jo st)) (len:∀vs H Q E,sp vs H Q E→vs.length=ps.length)
  (hbody:∀(cdv:Value) (A:Around) (outer:List Env) (s:Shared) (H:Hp) (vs:List V) (Q:VK) (E:XK),Js c k (A.deeper (envOfC qual (jo st) s.heap.objs.size f cdv))→sp vs H Q E →
   ∃t,zb (Kp P w K mg base N qual (jo st) f cdv A outer s H E c) (jF st) t∧t { nx:=fun _ H'=>Q .non H',rt:=Q } (V6 N vs) H):vB P w K mg base (XC P w) (k+1) f fd ps sp c:=by
 obtain⟨oc,od,kV,doc,pm,an,cdv,ct,osl,rfl,lk,hcd⟩:=F.ex
 exact cj lk hcd S len fun A outer s H vs Q E hr hsp=>hbody cdv A outer s H vs Q E hr hsp
end
theorem kI {K:oq}{h:Heap}{C:Addr}{bmB:oA}{newId:String} (X:K.In h) (q:PySem.W.excIn K C bmB newId=true) :
  ∃nm qn N bs bm hdct sn sub ab col dd k0 k1 k2 k3 k5 mN,h.get? C=some (excClassObj nm qn C N bs bm hdct sn sub ab col dd k0 k1 k2 k3 k5 newId)∧h.Ns N mN∧mN "__init__"=none∧OwnTail h bmB bm:=by
 unfold PySem.W.excIn at q
 split at q
 ·rename_i dd cd sl ho
  split at q
  ·rename_i C' bm k0 k1 k2 k3 n k5 hm hs
   simp only [Bool.and_eq_true,beq_iff_eq,Bool.not_eq_true'] at q
   obtain⟨⟨⟨⟨⟨e1,e2⟩,hdel⟩,ht⟩,hok⟩,hni⟩:=q
   subst e1 e2
   obtain⟨nm,bs,mro,ns,qn,hd,sn,sub,ab,col,del⟩:=cd
   dsimp only at hm hdel hok hni
   subst hm hdel
   obtain⟨l⟩:=sl
   have hs':l=[k0,k1,k2,k3,some (.builtin n),k5]:=hs
   subst hs'
   exact⟨nm,qn,ns,bs,bm,hd,sn,sub,ab,col,dd,k0,k1,k2,k3,k5,_,X _ _ ho,.of_isNs (PySem.W.isNs_of_in X hok),PySem.W.nsMap_none_of_in X hok hni,PySem.W.tail_of_in X ht⟩
  ·cases q
 ·cases q
abbrev cf:List Value:=[.type "ValueError",.type "Exception",.type "BaseException",.type "object"]
structure dP (K:oq) (mg:ox) (x:Str) (C:Addr):Prop where
 mg:mg x=some (.ref C)
 ex:PySem.W.excIn K C cf "ValueError.__new__"=true
def ib (C:Addr) (ta:TA) (E:XK):TS:=fun _ σ H=>ta σ H fun vs H1=>vs.length≤sizeLine∧E (.ref C) none H1
theorem uT {X:Cx}{E:XK}{x:Str}{C:Addr}{e:Expr}{es:oI}{ta:TA}{np cpos pos:Pos} (hT:Nj X E) (hc:X.calm=true) (R:dP X.K X.mg x C) (hg:Gl X x) (ha:PA X (e::es) ta)
  (hd:(x==("__debug__":Str))=false:=by decide) (he:starEach (e::es) X.env=(false,eval e X.env)::starEach es X.env:=by rfl) (hpl:(backTo cpos (starEach es X.env)).any (·.1)=false:=by rfl) :
  PS X (.Raise (some (.Call (.Name x np) (e::es) [] cpos)) none pos) (ib C ta E):=by
 intro pins s σ H D I h
 obtain⟨nm,qn,N,bs,bm,hdct,sn,sub,ab,col,dd,k0,k1,k2,k3,k5,mN,hC,hN,hni,T⟩:=kI I.ok.mod.kin R.ex
 refine wpAny_Raise_call_subU (C:=C) (nm:=nm) (q:=qn) (N:=N) (bs:=bs) (bm:=bm) (hdct:=hdct) (sn:=sn) (sub:=sub) (ab:=ab) (col:=col) (dd:=dd) (k0:=k0) (k1:=k1) (k2:=k2) (k3:=k3) (k5:=k5)
  PySem.F.excBase_ValueError (by decide +kernel) PySem.F.excBase_ValueError (mN:=mN) (T.hasType (by decide +kernel)) (I.ok.hd hc) (by rw [he];show (false||(backTo cpos (starEach es X.env)).any (·.1))=false;rw [hpl];rfl) hni
  (VD I hg R.mg ⟨rfl,?_⟩ hd)
 have ha':=ha cpos pins s σ H _ I h
 rw [he] at ha' ⊢
 refine Calls.evalArgs_plain (jC ha' fun us s1 hh=>?_)
 obtain⟨vs,H1,I1,r,hl,q⟩:=hh
 refine⟨rfl,by rw [←r.length];exact hl,I1.bk _ _ hC,hN.keeps I1.bk,T.keeps I1.bk,fun h' ea hm=>?_⟩
 exact hT pins σ H1 s1 ea C h' us I1 hm q
end L2
namespace L2
open PySem PySem.Spec PyProof.Rows
theorem GO {prog:oM}{w:World}{A:Around}{R:Result→Shared→Prop}{s:Shared}{elt tg iter:Expr}{ifs:oI}{scope:Scope}{pos:Pos}{it acc:Value}{env:Env} (J:Nat→Shared→Prop)
  (turn:∀n s,J n s→wpAny (model prog w) A (pyNext it) (fun r s1=>match r with
   | none=>R (.ok .next) s1
   | some v=>wpAny (model prog w) A (letOwnedTupleGo tg it v) (fun _ s2=>wpAny (model prog w) A (assign tg env v) (fun _ s3 =>
     wpAny (model prog w) A (forIn ifs true fun c r=>if r=true then do let ok ←isTrue c env (eval c env);pure (ForInStep.yield ok) else pure (ForInStep.yield r)) (fun ok s4 =>
      if ok=true then wpAny (model prog w) A (eval elt env) (fun x s5=>wpAny (model prog w) A (call (.builtin "list.append") [acc,x]) (fun _ s6=>∃m,m<n∧J m s6) (fun _ _=>False) s5) (fun _ _=>False) s4
      else ∃m,m<n∧J m s4) (fun _ _=>False) s3) (fun _ _=>False) s2) (fun _ _=>False) s1) (fun _ _=>False) s)
  (n:Nat) (h:J n s):codeAny (model prog w) A (.compLoop (.ListComp elt [⟨tg,iter,ifs,0⟩] scope pos) 0 it acc env) R s:=by
 refine codeAny_loop rfl J (fun n s hJ=>?_) n h
 show wpAny _ A ((compTurn (.ListComp elt [⟨tg,iter,ifs,0⟩] scope pos) 0 it acc env).onRaise _) _ _ s
 refine wpAny_noted (wpAny_noRaise ?_)
 rw [compTurn_list]
 refine oN (wpAny_standAt (oN (jC (turn n s hJ) fun r s1 h1=>?_)))
 cases r with
 | none=>exact oO h1
 | some v =>
  refine oN (jC h1 fun _ s2 h2=>oN (jC h2 fun _ s3 h3=>oN (jC h3 fun ok s4 h4=>?_)))
  cases ok with
  | false=>exact oO ⟨rfl,h4⟩
  | true=>exact oN (oN (jC h4 fun x s5 h5=>oN (jC h5 fun _ s6 h6=>oO (oO ⟨rfl,h6⟩))))
abbrev Cx.blk (X:Cx) (scope:Scope) (cl:oC) (C:Addr) (own:oG) (s:Shared) (H:Hp) (fp:oB) (pins:oy):Cx :=
 { X with N:=X.N++own,env:=compEnvC scope cl C X.env,s₀:=s,H₀:=H,outer:=X.stack,ex:=fp,fn:=fun _=>false,pn:=X.pn++pins,xe:=fun _ _=>False }
theorem zg {env:Env}{x:Str}:∀{names:List (Str×NameKind)},(names.map fun (n,k)=>if (k==NameKind.free&&env.scope.kind==.function&&env.kindOf n==some .cell) then (n,NameKind.cell) else (n,k)).lookup x =
  (names.lookup x).map fun k=>if (k==NameKind.free&&env.scope.kind==.function&&env.kindOf x==some .cell) then NameKind.cell else k
 | []=>rfl
 | (n,k)::r=>by
  have ih:=@zg env x r
  rw [List.map_cons]
  show List.lookup x ((if (k==NameKind.free&&env.scope.kind==.function&&env.kindOf n==some .cell)=true then (n,NameKind.cell) else (n,k))::_)=_
  have e:(if (k==NameKind.free&&env.scope.kind==.function&&env.kindOf n==some .cell)=true then (n,NameKind.cell) else (n,k))=(n,if (k==NameKind.free&&env.scope.kind==.function&&env.kindOf n==some .cell)=true then NameKind.cell else k):=by
   split<;>rfl
  rw [e]
  cases q:x==n with
  | true =>
   obtain rfl:x=n:=by simpa using q
   simp [List.lookup_cons]
  | false=>simp only [List.lookup_cons,q];exact ih
structure vA (X:Cx) (scope:Scope) (cl:oC):Prop where
 clos:closureFor scope X.env=pure cl
 kind:scope.kind=.function
 nocell:∀y∈scope.names,y.2≠.cell
 names:∀y∈scope.names,y.2=.local→scope.names.lookup y.1=some .local
 sub:∀x c,cl.lookup x=some c→X.env.cells.lookup x=some c
 has:∀x,scope.names.lookup x=some .free→∃c,cl.lookup x=some c
 apart:∀x∈X.N,scope.names.lookup x≠some .local
 outer:∀x,scope.names.lookup x=some .free→X.env.kindOf x=some .cell∨X.env.kindOf x=some .free
theorem Jk {α β:Type} [BEq α] [LawfulBEq α] {l:List (α×β)} {x:α} {b:β} (h:l.lookup x=some b):(x,b)∈l:=by
 induction l with
 | nil=>simp at h
 | cons p r ih =>
  obtain⟨a,c⟩:=p
  rw [List.lookup_cons] at h
  split at h
  ·rename_i q
   obtain rfl:x=a:=by simpa using q
   cases h;exact .head _
  ·exact .tail _ (ih h)
section
variable {X:Cx}{scope:Scope}{cl:oC}{own:oG}{pins:oy}{σ:St}{H2 H3:Hp}{s2:Shared}{fp:oB}{C:Addr}{h1:Heap}
theorem zV {b:Addr} (I2:ji X pins σ H2 s2) (n1:b≠X.env.locals) (n2:b ∉ X.fs):b ∉ uy X.stack:=fun z=>(List.mem_cons.mp (I2.stkSub b z)).elim n1 n2
theorem eh (S:vA X scope cl) (I2:ji X pins σ H2 s2) (f2:∀b∈fp,Vk X pins H2 b) (hlt:∀b∈fp,b<s2.heap.objs.size) (hC:s2.heap.objs.size≤C) {m:ox} (hns:h1.Ns C m)
  (keep:∀b o,s2.heap.get? b=some o→h1.get? b=some o) (hH:∀b o,s2.heap.get? b=some o→H2 b=none→H3 b=none) (un:Un (uy X.stack) fp H2 H3 s2.heap h1) (hok:JJ X.prog X.w H3 h1) (hCf:H3 C=none) {tk:Nat} :
  ji (X.blk scope cl C own s2 H2 fp pins) [] (σ++List.replicate own.length none) H3 { s2 with heap:=h1,toks:=tk }:=by
 have neC:∀b o,s2.heap.get? b=some o→b≠C:=fun b o e=>Nat.ne_of_lt (Nat.lt_of_lt_of_le (Heap.lt_size e) hC)
 have kof:∀x,(compEnvC scope cl C X.env).kindOf x=(scope.names.lookup x).map fun k=>if (k==NameKind.free&&X.env.scope.kind==.function&&X.env.kindOf x==some .cell) then NameKind.cell else k:=fun x=>zg
 have isfree:∀x,((compEnvC scope cl C X.env).kindOf x=some .cell∨(compEnvC scope cl C X.env).kindOf x=some .free)→scope.names.lookup x=some .free:=fun x hx=>by
  rw [kof x] at hx
  cases q:scope.names.lookup x with
  | none=>rw [q] at hx;rcases hx with z|z<;>cases z
  | some k =>
   rw [q] at hx
   have nc:=S.nocell _ (Jk q)
   cases k<;>simp_all
 refine⟨⟨I2.ok.mod,S.kind,I2.ok.glob,I2.ok.blt,hC,fun x y c e1 e2=>I2.ok.inj x y c (S.sub x c e1) (S.sub y c e2),fun x hx=>S.has x (isfree x hx),fun x c z _=>(by cases z),I2.ok.hd,I2.ok.frames,.inl rfl,
  fun b hb=>⟨Nat.ne_of_lt (Nat.lt_of_lt_of_le (hlt b hb) hC),fun x c e=>(f2 b hb).2.2.2.2.1 x c (S.sub x c e)⟩,fun b o e=>⟨(I2.bs b o e).1,(I2.bs b o e).2⟩,Nat.le_trans I2.ok.bsz I2.sz,fun b o e hb=>?_,fun b hb=>zV I2 (f2 b hb).2.1 (f2 b hb).2.2.1,I2.stack,I2.stkFree⟩,
  rfl,I2.bare,un,⟨m,hns,fun i x v e1 e2 e3=>?_⟩,fun x c e=>?_,hCf,fun x c e=>?_,fun p hp=>?_,hok,?_,I2.hn.mono un.frzs⟩
 ·rcases (f2 b hb).2.2.2.1 with z|z
  ·exact I2.ok.noex b o e z
  ·exact absurd (Nat.lt_of_lt_of_le (Nat.lt_of_lt_of_le (Heap.lt_size e) I2.ok.bsz) z) (Nat.lt_irrefl _)
 ·
  have hi:i<σ.length:=by
   apply Classical.byContradiction
   intro hn
   rw [List.getElem?_append_right (by omega),List.getElem?_replicate] at e2
   split at e2<;>cases e2
  rw [List.getElem?_append_left hi] at e2
  have Vh:i<X.N.length:=by rw [←I2.len];exact hi
  have e1':X.N[i]?=some x:=by rw [←List.getElem?_append_left (l₂:=own) Vh];exact e1
  have hx:x∈X.N:=List.mem_of_getElem? e1'
  have e3':(compEnvC scope cl C X.env).kindOf x=some .local∨(compEnvC scope cl C X.env).kindOf x=some .cell∨(compEnvC scope cl C X.env).kindOf x=some .free:=e3
  have nl:(compEnvC scope cl C X.env).kindOf x≠some .local:=fun z=>by
   rw [kof x] at z
   cases q:scope.names.lookup x with
   | none=>rw [q] at z;cases z
   | some k =>
    rw [q,Option.map_some] at z
    have na:=S.apart x hx
    rw [q] at na
    cases k<;>first
     | exact na rfl
     | (have z':=Option.some.inj z;split at z'<;>cases z')
  have hcf:(compEnvC scope cl C X.env).kindOf x=some .cell∨(compEnvC scope cl C X.env).kindOf x=some .free:=e3'.resolve_left nl
  obtain⟨c,hc⟩:=S.has x (isfree x hcf)
  obtain⟨m0,hn0,hl0⟩:=I2.loc
  have hcX:=S.sub x c hc
  have ho:=S.outer x (isfree x hcf)
  obtain⟨u,r,l⟩:=hl0 i x v e1' e2 (.inr ho)
  refine⟨u,r,.inr ⟨hcf,c,hc,?_⟩⟩
  rcases l with ⟨z,_⟩|⟨_,c',hc',oc,hoc,hdc⟩
  ·rcases ho with y|y<;>(rw [y] at z;cases z)
  ·rw [hcX] at hc'
   cases hc'
   exact⟨oc,keep _ _ hoc,hdc⟩
 ·obtain⟨v,⟨oc,hoc,hdc⟩⟩:=I2.cell x c (S.sub x c e)
  exact⟨v,oc,keep _ _ hoc,hdc⟩
 ·obtain⟨v,⟨oc,hoc,hdc⟩⟩:=I2.cell x c (S.sub x c e)
  exact hH c oc hoc (I2.freeC x c (S.sub x c e))
 ·obtain⟨q1,q2,q3,q4,q5⟩:=I2.pin p (by simpa using hp)
  exact⟨keep _ _ q1,hH _ _ q1 q2,neC _ _ q1,zV I2 q3 q4,q5⟩
 ·show (σ++List.replicate own.length none).length=(X.N++own).length
  rw [List.length_append,List.length_append,List.length_replicate,I2.len]
theorem cO (I2:ji X pins σ H2 s2) (f2:∀b∈fp,Vk X pins H2 b) (hC:s2.heap.objs.size≤C) {pl:oy} {σ':St} {s4:Shared} {h':Heap} (I4:ji (X.blk scope cl C own s2 H2 fp pins) pl σ' H3 s4) (sb:Heap.SameBut C s4.heap h') :
  ji X pins σ H3 { s4 with heap:=h' }:=by
 have un:Un (uy X.stack) fp H2 H3 s2.heap s4.heap:=I4.base
 have nC:s2.heap.get? C=none:=Heap.get?_none_of_le hC
 have CF:C ∉ uy X.stack:=fun z=>by
  obtain⟨_,o,ho,_⟩:=I2.stack.mem z
  rw [nC] at ho;cases ho
 have un2:Un (uy X.stack) fp H2 H3 s2.heap h':=un.late (ch:=[C]) (fun b hb=>by
  obtain rfl:b=C:=by simpa using hb
  exact nC) (fun b o _ hb e=>(sb.2 b (by simpa using hb)).trans e) fun b o hb e=>⟨o.slots,(sb.2 b fun z=>CF (z▸hb)).trans e⟩
 have hf:H3 C=none:=I4.free
 have hok:JJ X.prog X.w H3 h':=fun b o e=>(I4.hok b o e).stay (fun c u hc q=>(sb.2 c fun z=>by
  subst z
  rcases hc with z|z
  ·rw [z,e] at hf;cases hf
  ·rw [z] at hf;cases hf).trans q) (fun _ q=>q) fun _ _ q=>q
 exact I2.call' (s':={ s4 with heap:=h' }) (ch:=fp) I4.os un2 hok I4.bare fun b hb=>⟨(f2 b hb).2.2.2.1,(f2 b hb).2.1,(f2 b hb).2.2.2.2.1,(f2 b hb).2.2.2.2.2⟩
end
def PF (X:Cx) (ifs:oI) (t:TT):Prop :=
 ∀(pins:oy) (s:Shared) (σ:St) (H:Hp) (Q:Bool→Hp→Prop),ji X pins σ H s→t σ H Q →
  wpAny (model X.prog X.w) X.A (forIn ifs true fun c r=>if r=true then do let ok ←isTrue c X.env (eval c X.env);pure (ForInStep.yield ok) else pure (ForInStep.yield r)) (TP X pins σ Q) X.xe s
theorem U4 {X:Cx}:PF X [] (fun _ H Q=>Q true H):=fun _ _ _ H _ I h=>wpAny_tests_nil ⟨H,I,h⟩
theorem zm {X:Cx}{c:Expr}{t:TT} (h:PT X c t):PF X [c] t:=fun pins s σ H Q I q=>wpAny_tests_one (h pins s σ H Q I q)
def gj (k:Nat) (g:TG) (tc:TT) (te:TE) (σ:St) (Q:VK):It→Hp→Prop:=fun J H1=>∀D,H1 D=none→∃W:Nat→Nat→List V→Hp→Prop,(∃m,W 0 m [] (upd H1 D (.lst [])))∧∀i m ys H,W i m ys H →
 H D=some (.lst ys)∧((J.stop i H∧Q (.ref D) H)∨(J.go i H∧ys.length<sizeLine∧∀x H',J.yld i H x H'→g x (σ++List.replicate k none) H' fun σ2 H2=>(∃zs,σ2=σ++zs∧zs.length=k)∧tc σ2 H2 fun b H3 =>
  if b=true then te σ2 H3 fun y H4=>H4 D=some (.lst ys)∧∃m',m'<m∧W (i+1) m' (ys++[y]) (upd H4 D (.lst (ys++[y]))) else ∃m',m'<m∧W (i+1) m' ys H3))
def gH (wi:TI) (k:Nat) (g:TG) (tc:TT) (te:TE):TE:=fun σ H Q=>wi σ H (gj k g tc te σ Q)
section
variable {X:Cx}{tg elt iter:Expr}{ifs:oI}{scope:Scope}{cl:oC}{own:oG}{wi:TI}{g:TG}{tc:TT}{te:TE}{pos:Pos}
theorem Ko {p2:Pos}{use:Option (Value→Sem Unit)}{QV:oh}{pins:oy}{s:Shared}{σ:St}{H:Hp}{Q:VK} (S:vA X scope cl) (hi:PI X tg iter wi)
  (hg:∀C s H fp pins,PG (X.blk scope cl C own s H fp pins) tg g) (ht:∀C s H fp pins,PF (X.blk scope cl C own s H fp pins) ifs tc) (he:∀C s H fp pins,PE (X.blk scope cl C own s H fp pins) elt te)
  (hs:∀x,foldedSetIterable iter X.env x=pure x) (I:ji X pins σ H s) (h:gH wi own.length g tc te σ H Q)
  (fin:∀D C s2 H2 H3 s4,ji X pins σ H2 s2→s2.heap.objs.size≤C→H3 C=none→(∃m,s4.heap.Ns C m)→(∀h',Heap.SameBut C s4.heap h'→ji X pins σ H3 { s4 with heap:=h' })→Q (.ref D) H3→compPost (model X.prog X.w) X.A X.xe use QV (.ref D) C (.ok .next) s4) :
  wpAny (model X.prog X.w) X.A (comprehension (.ListComp elt [⟨tg,iter,ifs,0⟩] scope pos) scope X.env p2 (newList []) false (eval iter X.env) use) QV X.xe s:=by
 refine wpAny_comprehension_free (use:=use) rfl hs S.clos S.kind S.names (jC (hi pins s σ H _ I h) fun v s1 h1=>jC h1 fun itv s2 h2=>?_)
 obtain⟨it,fp,tn,J,H2,e,I2,T,st2,f2,R⟩:=h2
 subst e
 obtain⟨nm,T,hc⟩:=T
 refine wpAny_newObj_type (wpAny_newFunctionEnv S.nocell (by intro y hy;simp at hy) (fun h1 hns hsb=>?_) S.kind)
 dsimp only at hns hsb ⊢
 have hlt:∀b∈fp,b<s2.heap.objs.size:=fun b hb=>by
  obtain⟨o,ho,_⟩:=T.obj 0 _ st2 b hb
  exact Heap.lt_size ho
 generalize hp:s2.heap.push { cls:=.type "list",dict:=none,data:=.seq ([]:oA).toArray }=hl at hns hsb ⊢
 have hC:hl.objs.size=s2.heap.objs.size+1:=by rw [←hp,Heap.size_push]
 have hCle:s2.heap.objs.size≤hl.objs.size:=by rw [hC];exact Nat.le_succ _
 have hDC:s2.heap.objs.size≠hl.objs.size:=by rw [hC];exact Nat.ne_of_lt (Nat.lt_succ_self _)
 have old:∀b o,hl.get? b=some o→h1.get? b=some o:=fun b o e=>hsb.extBut b o (Nat.ne_of_lt (Heap.lt_size e)) (Heap.get?_push_of_some _ e)
 have old2:∀b o,s2.heap.get? b=some o→h1.get? b=some o:=fun b o e=>old b o (hp▸Heap.get?_push_of_some _ e)
 have Dn:H2 s2.heap.objs.size=none:=I2.fresh
 have Cn:H2 hl.objs.size=none:=I2.hok.fresh hCle
 obtain⟨W,⟨m0,w0⟩,step⟩:=R s2.heap.objs.size Dn
 have hobj:h1.get? s2.heap.objs.size=some { cls:=.type "list",data:=.seq ([]:oA).toArray }:=old _ _ (hp▸Heap.get?_push_size _ rfl)
 have I3:ji (X.blk scope cl hl.objs.size own s2 H2 fp pins) [] (σ++List.replicate own.length none) (upd H2 s2.heap.objs.size (.lst [])) { s2 with heap:=h1,toks:=s2.toks+([]:List (Str×Value)).length } :=
  eh S I2 f2 hlt hCle hns old2 (fun b o e n=>by rw [jj (Nat.ne_of_lt (Heap.lt_size e))];exact n) (Un.laid old2 (Nat.le_refl _) Dn) (I2.hok.laid old2 (Nat.le_refl _) (show j0 X.prog X.w (upd H2 s2.heap.objs.size (.lst [])) h1 s2.heap.objs.size (.lst []) from⟨Nat.zero_le _,[],0,.nil,hobj⟩)) (by rw [jj (Ne.symm hDC)];exact Cn)
 have fpn:∀b∈fp,upd H2 s2.heap.objs.size (.lst []) b=none:=fun b hb=>by rw [jj (Nat.ne_of_lt (hlt b hb))];exact (f2 b hb).1
 have stat:∀{H':Hp},(∀b∈fp,H' b=none)→∀b∈fp,Vk (X.blk scope cl hl.objs.size own s2 H2 fp pins) [] H' b:=fun hn b hb =>
  ⟨hn b hb,Nat.ne_of_lt (Nat.lt_of_lt_of_le (hlt b hb) hCle),zV I2 (f2 b hb).2.1 (f2 b hb).2.2.1,.inl hb,fun x c e=>(f2 b hb).2.2.2.2.1 x c (S.sub x c e),fun p hp=>(f2 b hb).2.2.2.2.2 p (by simpa using hp)⟩
 have loop:∀s3:Shared,s3={ s2 with heap:=h1,toks:=s2.toks+([]:List (Str×Value)).length } →
   codeAny (model X.prog X.w) X.A (.compLoop (.ListComp elt [⟨tg,iter,ifs,0⟩] scope pos) 0 (.ref it) (.ref s2.heap.objs.size) (compEnvC scope cl hl.objs.size X.env)) (compPost (model X.prog X.w) X.A X.xe use QV (.ref s2.heap.objs.size) hl.objs.size) s3:=by
  rintro s3 rfl
  refine GO (fun n s'=>∃i ys H',ji (X.blk scope cl hl.objs.size own s2 H2 fp pins) [] (σ++List.replicate own.length none) H' s'∧tn i s'.heap∧(∀b∈fp,H' b=none)∧W i n ys H') ?_ m0
   ⟨0,[],_,I3,T.keep 0 _ _ st2 (fun b _ o e=>old2 b o e),fpn,w0⟩
  rintro n s3 ⟨i,ys,H3,J3,st3,fr3,w3⟩
  obtain⟨hD,⟨stop,q⟩|⟨go,hlen,turn⟩⟩:=step i n ys H3 w3
  ·refine jC (T.done (X.blk scope cl hl.objs.size own s2 H2 fp pins) rfl rfl rfl hc i [] s3 _ H3 _ J3 (stat fr3) st3 stop) fun r s4 ⟨hr,J4⟩=>?_
   subst hr
   obtain⟨m4,hn4,_⟩:=J4.loc
   exact fin _ _ s2 H2 H3 s4 I2 hCle J4.free ⟨m4,hn4⟩ (fun h' sb=>cO I2 f2 hCle J4 sb) q
  ·refine jC (T.item (X.blk scope cl hl.objs.size own s2 H2 fp pins) rfl rfl rfl hc i [] s3 _ H3 _ J3 (stat fr3) st3 go) fun r s4 ⟨u,hr,h4⟩=>?_
   subst hr
   refine jC h4 fun _ s5 hh=>?_
   obtain⟨x,H5,J5,r5,y5,st5,fr5⟩:=hh
   have J5':=J5.pinned (stat fr5) (T.obj _ _ st5)
   refine jC (hg _ _ _ _ _ _ s5 _ H5 x u _ J5' r5 (turn x H5 y5)) fun _ s6 hh=>?_
   obtain⟨σ6,H6,J6,⟨ts,e6,hts⟩,q6⟩:=hh
   subst e6
   refine jC (ht _ _ _ _ _ _ s6 _ H6 _ J6 q6) fun ok s7 ⟨H7,J7,q7⟩=>?_
   have again:∀{s8:Shared} {H8:Hp} {zs:List V},ji (X.blk scope cl hl.objs.size own s2 H2 fp pins) ([]++zT fp s5.heap) (σ++ts) H8 s8→(∃m',m'<n∧W (i+1) m' zs H8) →
     ∃m,m<n∧∃i ys H',ji (X.blk scope cl hl.objs.size own s2 H2 fp pins) [] (σ++List.replicate own.length none) H' s8∧tn i s8.heap∧(∀b∈fp,H' b=none)∧W i m ys H':=fun {s8 H8 zs} J8 ⟨m',hm,w8⟩=>by
    refine⟨m',hm,i+1,zs,H8,?_,T.keep _ _ _ st5 fun b hb o e=>(J8.pin (b,o) (List.mem_append_right _ (List.mem_append_right _ (vP hb e)))).1,fun b hb=>?_,w8⟩
    ·refine J8.unpinned.weak (by rw [List.length_append,List.length_append,List.length_replicate,hts]) fun j v ej=>?_
     by_cases hj:j<σ.length
     ·rw [List.getElem?_append_left hj] at ej ⊢
      exact ej
     ·rw [List.getElem?_append_right (by omega),List.getElem?_replicate] at ej
      split at ej<;>cases ej
    ·obtain⟨o,e,d⟩:=T.obj _ _ st5 b hb
     exact (J8.pin (b,o) (List.mem_append_right _ (List.mem_append_right _ (vP hb e)))).2.1
   cases ok with
   | false=>exact again J7 q7
   | true =>
    refine jC (he _ _ _ _ _ _ s7 _ H7 _ J7 q7) fun z s8 hh=>?_
    obtain⟨y,H8,J8,r8,hD8,q8⟩:=hh
    refine jC (JX _ s8 _ H8 (.ref s2.heap.objs.size) [y] _ [z] (fun _ H9=>∃m',m'<n∧W (i+1) m' (ys++[y]) H9) J8 rfl (.cons r8 .nil) ⟨_,ys,y,rfl,rfl,hD8,hlen,q8⟩) fun _ s9 ⟨_,H9,J9,_,q9⟩=>again J9 q9
 exact codeAny_compStart_list (loop _ rfl) (T.self _ 0 _ _ _ (T.keep 0 _ _ st2 fun b _ o e=>old2 b o e) (loop _ rfl))
theorem Uo (S:vA X scope cl) (hi:PI X tg iter wi)
  (hg:∀C s H fp pins,PG (X.blk scope cl C own s H fp pins) tg g) (ht:∀C s H fp pins,PF (X.blk scope cl C own s H fp pins) ifs tc) (he:∀C s H fp pins,PE (X.blk scope cl C own s H fp pins) elt te)
  (hs:∀x,foldedSetIterable iter X.env x=pure x:=by intro _;rfl):PE X (.ListComp elt [⟨tg,iter,ifs,0⟩] scope pos) (gH wi own.length g tc te):=by
 intro pins s σ H Q I h
 rw [eval_ListComp]
 exact Ko (use:=none) (QV:=EP X pins σ Q) S hi hg ht he hs I h fun D C s2 H2 H3 s4 _ _ _ hn inv q=>hn.elim fun m hn=>⟨m,hn,fun h' sb=>⟨.ref D,H3,inv h' sb,rfl,q⟩⟩
theorem ji.let_go {pins:oy}{σ σ2:St}{H H2:Hp}{s s2:Shared}{C:Addr}{h':Heap} (I:ji X pins σ H s) (I2:ji X pins σ2 H2 s2) (hC:s2.heap.objs.size≤C) (hf:H C=none) (sb:Heap.SameBut C s.heap h'):ji X pins σ H { s with heap:=h' }:=by
 have nC:s2.heap.get? C=none:=Heap.get?_none_of_le hC
 have CF:C ∉ uy X.stack:=fun z=>by
  obtain⟨_,o,ho,_⟩:=I2.stack.mem z
  rw [nC] at ho;cases ho
 have off:∀b o,s2.heap.get? b=some o→b≠C:=fun b o e z=>by rw [z,nC] at e;cases e
 have un:Un (uy X.stack) [C] H H s.heap h':=⟨fun b o q _ _ hx=>(sb.2 b fun z=>hx (by simp [z])).trans q,fun b o q _ hb _=>⟨o.slots,(sb.2 b fun z=>CF (z▸hb)).trans q⟩,fun _ _ _ n _=>n,fun b o q hx=>⟨o,(sb.2 b fun z=>hx (by simp [z])).trans q⟩,fun _ _ q=>q,fun _ _ _ q=>q,fun b ps q=>⟨#[],by rw [Array.append_empty];exact q⟩⟩
 have hok:JJ X.prog X.w H h':=fun b o e=>(I.hok b o e).stay (fun c u hc q=>(sb.2 c fun z=>by
  subst z
  rcases hc with z|z
  ·rw [z,e] at hf;cases hf
  ·rw [z] at hf;cases hf).trans q) (fun _ q=>q) fun _ _ q=>q
 refine I.call' (s':={ s with heap:=h' }) (ch:=[C]) rfl un hok I.bare fun b hb=>?_
 obtain rfl:b=C:=by simpa using hb
 obtain⟨_,hn,_⟩:=I2.loc
 obtain⟨_,_,_,hL,_⟩:=hn
 refine⟨.inr (Nat.le_trans I2.sz hC),fun z=>off _ _ hL z.symm,fun x c e=>?_,fun p hp=>off _ _ (I2.pin p hp).1⟩
 obtain⟨_,_,hc,_⟩:=I2.cell x c e
 exact off _ _ hc
theorem km {i:Nat}{x:Str}{pos' spos:Pos} (hN:X.N.Nodup) (hix:X.N[i]?=some x) (hx:MB X.env.scope x) (S:vA X scope cl) (hi:PI X tg iter wi)
  (hg:∀C s H fp pins,PG (X.blk scope cl C own s H fp pins) tg g) (ht:∀C s H fp pins,PF (X.blk scope cl C own s H fp pins) ifs tc) (he:∀C s H fp pins,PE (X.blk scope cl C own s H fp pins) elt te)
  (hs:∀x,foldedSetIterable iter X.env x=pure x:=by intro _;rfl) (hsw:swapsWith (.ListComp elt [⟨tg,iter,ifs,0⟩] scope pos) (some (.Name x pos')) spos.line X.env=pure true:=by rfl)
  (hf:X.fn x=true∨X.env.scope.names.lookup x=some .local:=by first|exact .inl rfl|exact .inr rfl|assumption) :
  PS X (.Assign [.Name x pos'] (.ListComp elt [⟨tg,iter,ifs,0⟩] scope pos) spos) (Nb (gH wi own.length g tc te) (K0 i)):=by
 intro pins s σ H D I h
 rw [exec_Assign_Name_used _ _ _ _ hsw]
 refine oN (wpAny_standAt (oN ?_))
 show wpAny _ X.A (do let _ ←comprehension (.ListComp elt [⟨tg,iter,ifs,0⟩] scope pos) scope X.env _ (newList []) false (eval iter X.env) (some (assign (.Name x pos') X.env))) _ _ s
 refine oN (wpAny_mono (Ko (pos:=pos) (use:=some (assign (.Name x pos') X.env)) (QV:=fun _ s'=>SP X pins D .next s') S hi hg ht he hs I h fun Da C s2 H2 H3 s4 I2 hC hfree hn inv q=>?_) (fun _ s' hq=>oO (oO hq)) fun _ _ e=>e)
 obtain⟨m,hn⟩:=hn
 have I4:ji X pins σ H3 s4:=inv s4.heap (Heap.SameBut.refl _ _)
 have nC:s2.heap.get? C=none:=Heap.get?_none_of_le hC
 refine wpAny_assign_Name (Z9 I4 hN hix hx (show jL (.ref Da) (.ref Da) from rfl) (fun s5 I5 ⟨a,sb,ha⟩=>⟨m,hn.sameBut sb ?_,fun h' sb'=>⟨_,H3,I5.let_go I2 hC hfree sb',q⟩⟩) hf)
 rintro rfl
 rcases ha with z|z
 ·obtain⟨_,hn2,_⟩:=I2.loc
  obtain⟨_,_,_,hL,_⟩:=hn2
  rw [←z,nC] at hL;cases hL
 ·obtain⟨_,_,hc,_⟩:=I2.cell x _ z
  rw [nC] at hc;cases hc
end
end L2
namespace L2
open PySem PySem.Spec PyProof.Rows
theorem ji.track {X:Cx}{pins:oy}{σ:St}{H:Hp}{s:Shared}{a:Addr}{o:HO} (I:ji X pins σ H s) (hn:H a=none) (h0:X.s₀.heap.get? a=none) (hL:a≠X.env.locals)
  (hc:∀x c,X.env.cells.lookup x=some c→c≠a) (hp:∀p∈X.pn++pins,p.1≠a) (new:j0 X.prog X.w (upd H a o) s.heap a o):ji X pins σ (upd H a o) s:=by
 have ne:∀b u,H b=some u→b≠a:=fun b u e z=>by rw [z,hn] at e;cases e
 refine⟨I.ok,I.os,I.bare,⟨I.base.keep,I.base.slot,fun b u e n hx=>?_,I.base.there,fun b xs e=>?_,fun b u v e=>?_,fun b ps e=>?_⟩,I.loc,I.cell,?_,fun x c e=>?_,fun p h=>?_,fun b u e=>?_,I.len,I.hn.mono fun b u v e=>by rw [jj (ne b _ e)];exact e⟩
 ·rw [jj (fun z=>by rw [z,h0] at e;cases e)];exact I.base.free b u e n hx
 ·have q:=I.base.tups b xs e
  rw [jj (ne b _ q)];exact q
 ·have q:=I.base.frzs b u v e
  rw [jj (ne b _ q)];exact q
 ·obtain⟨m,q⟩:=I.base.tbls b ps e
  exact⟨m,by rw [jj (ne b _ q)];exact q⟩
 ·rw [jj (Ne.symm hL)];exact I.free
 ·rw [jj (hc x c e)];exact I.freeC x c e
 ·obtain⟨q1,q2,q3⟩:=I.pin p h
  exact⟨q1,by rw [jj (hp p h)];exact q2,q3⟩
 ·by_cases hb:b=a
  ·subst hb;rw [jd] at e;cases e;exact new
  ·rw [jj hb] at e
   exact (I.hok b u e).stay (fun _ _ _ q=>q) (fun c q=>by rw [jj (ne c _ q)];exact q) fun c xs q=>by rw [jj (ne c _ q)];exact q
theorem ji.relocal {X:Cx}{pins:oy}{σ:St}{H:Hp}{s:Shared}{h':Heap}{m':ox}{t':Nat} (I:ji X pins σ H s) (sb:Heap.SameBut X.env.locals s.heap h') (hn:h'.Ns X.env.locals m') :
  ji X pins (List.replicate X.N.length none) H { s with heap:=h',toks:=t' }:=by
 have nL:∀b o,X.s₀.heap.get? b=some o→b≠X.env.locals:=fun b o e=>Nat.ne_of_lt (Nat.lt_of_lt_of_le (Heap.lt_size e) I.ok.above)
 have hf:=I.free
 refine⟨I.ok,I.os,I.bare,⟨fun b o e n hb hx=>(sb.2 b (nL b o e)).trans (I.base.keep b o e n hb hx),fun b o e n hb hx=>?_,I.base.free,fun b o e hx=>?_,I.base.tups,I.base.frzs,I.base.tbls⟩,⟨m',hn,fun i x v _ e2 _=>?_⟩,
  fun x c e=>?_,hf,I.freeC,fun p hp=>?_,fun b o e=>?_,by simp,I.hn⟩
 ·obtain⟨sl,q⟩:=I.base.slot b o e n hb hx
  exact⟨sl,(sb.2 b (nL b o e)).trans q⟩
 ·obtain⟨o',q⟩:=I.base.there b o e hx
  exact⟨o',(sb.2 b (nL b o e)).trans q⟩
 ·rw [List.getElem?_replicate] at e2
  split at e2<;>cases e2
 ·obtain⟨v,z⟩:=I.cell x c e
  exact⟨v,z.sameBut sb (I.cne x c e)⟩
 ·obtain⟨q1,q2,q3,q4⟩:=I.pin p hp
  exact⟨(sb.2 p.1 q3).trans q1,q2,q3,q4⟩
 ·refine (I.hok b o e).stay (fun c u hc q=>(sb.2 c fun z=>?_).trans q) (fun _ q=>q) fun _ _ q=>q
  subst z
  rcases hc with z|z
  ·rw [z,e] at hf;cases hf
  ·rw [z] at hf;cases hf
def VJ (a C:Addr) (h:Heap):Prop:=∃o vs,h.get? a=some o∧o.cls=.ref C∧o.data=.fields vs
abbrev HO.exc (a C:Addr):HO:=.ext (VJ a C)
def K4 (H:Hp) (a C:Addr):Prop:=∃o,H a=some (.frz o (.exc a C))
theorem NF {P:oM}{w:World}{H:Hp}{h:Heap}{a C:Addr} (e:VJ a C h):j0 P w H h a (.exc a C):=by
 obtain⟨o,vs,h1,h2,h3⟩:=id e
 exact⟨e,⟨o,h1⟩,fun g1 g2 ⟨o',vs',q1,q2,q3⟩ k=>⟨o',vs',k _ q1,q2,q3⟩⟩
def M9 (X:Cx) (E:St→XK):Prop:=∀(pins:oy) (σ:St) (H:Hp) (s:Shared) (e:Value) (s':Shared),ji X pins σ H s→XC X.prog X.w X.stack H s (E σ) e s'→X.xe e s'
abbrev Cx.tryb (X:Cx) (pins:oy) (E:oh):Cx:={ X with pn:=X.pn++pins,xe:=E }
abbrev Cx.hand (X:Cx) (e:Value):Cx:={ X with A:=X.A.mark (some e),calm:=false,xe:=fun _ _=>False }
section
variable {X:Cx}{pins pl:oy}{σ:St}{H:Hp}{s:Shared}{E:oh}
theorem ji.tryb (I:ji X pins σ H s):ji (X.tryb pins E) [] σ H s :=
 ⟨⟨I.ok.mod,I.ok.kind,I.ok.glob,I.ok.blt,I.ok.above,I.ok.inj,I.ok.has,I.ok.cab,I.ok.hd,I.ok.frames,I.ok.stk,I.ok.exf,I.ok.bs,I.ok.bsz,I.ok.noex,I.ok.exfs,I.ok.funs,I.ok.frf⟩,I.os,I.bare,I.base,I.loc,I.cell,I.free,I.freeC,fun p hp=>I.pin p (by simpa using hp),I.hok,I.len,I.hn⟩
theorem ji.untry (I:ji (X.tryb pins E) pl σ H s):ji X pins σ H s :=
 ⟨⟨I.ok.mod,I.ok.kind,I.ok.glob,I.ok.blt,I.ok.above,I.ok.inj,I.ok.has,I.ok.cab,I.ok.hd,I.ok.frames,I.ok.stk,I.ok.exf,I.ok.bs,I.ok.bsz,I.ok.noex,I.ok.exfs,I.ok.funs,I.ok.frf⟩,I.os,I.bare,I.base,I.loc,I.cell,I.free,I.freeC,fun p hp=>I.pin p (List.mem_append_left _ hp),I.hok,I.len,I.hn⟩
theorem ji.hand {e:Value} (I:ji X pins σ H s) (hn:Kd (X.A.mark (some e)) H):ji (X.hand e) pins σ H s :=
 ⟨⟨I.ok.mod,I.ok.kind,I.ok.glob,I.ok.blt,I.ok.above,I.ok.inj,I.ok.has,I.ok.cab,(fun z=>by cases z),I.ok.frames,I.ok.stk,I.ok.exf,I.ok.bs,I.ok.bsz,I.ok.noex,I.ok.exfs,I.ok.funs,I.ok.frf⟩,I.os,I.bare,I.base,I.loc,I.cell,I.free,I.freeC,I.pin,I.hok,I.len,hn⟩
theorem ji.unhand {e:Value} (hd:X.calm=true→X.A.handled=none) (hn:X.A.handled=none) (I:ji (X.hand e) pins σ H s):ji X pins σ H s :=
 ⟨⟨I.ok.mod,I.ok.kind,I.ok.glob,I.ok.blt,I.ok.above,I.ok.inj,I.ok.has,I.ok.cab,hd,I.ok.frames,I.ok.stk,I.ok.exf,I.ok.bs,I.ok.bsz,I.ok.noex,I.ok.exfs,I.ok.funs,I.ok.frf⟩,I.os,I.bare,I.base,I.loc,I.cell,I.free,I.freeC,I.pin,I.hok,I.len,.inl hn⟩
end
def lO (K:oq) (C0:Addr) (i:Nat) (tb:(St→XK)→TS) (th:TS):TS:=fun D σ H =>
 tb (fun σ1 cls _ H1=>∃C,cls=.ref C∧exmOne K (.ref C) (.ref C0)=some true∧∀ea oe,H1 ea=none→th { nx:=fun _ _=>False,rt:=D.rt } (σ1.set i (some (.ref ea))) (upd H1 ea (.frz oe (.exc ea C)))) D σ H
section
variable {X:Cx}{body:List Stmt}{b0:Stmt}{suite:List Stmt}{cn n:Str}{np hpos pos:Pos}{C0:Addr}{i:Nat}{tb:(St→XK)→TS}{th:TS}
theorem fP (hcm:X.calm=true) (hx0:X.ex=[]) (hst:X.stack=X.env::X.outer) (hf:X.env.frame=some X.env.locals) (hN:X.N.Nodup) (hi:X.N[i]?=some n) (hn:X.env.kindOf n=some .local) (hg:Gl X cn) (hm:X.mg cn=some (.ref C0))
  (hb:∀(pins:oy) (E:oh) (Es:St→XK),M9 (X.tryb pins E) Es→zb (X.tryb pins E) body (tb Es)) (hh:∀e,zb (X.hand e) (b0::suite) th)
  (hd:(cn==("__debug__":Str))=false:=by decide) :
  PS X (.Try body [.ExceptHandler (some (.Name cn np)) (some n) (b0::suite) hpos] [] [] pos) (lO X.K C0 i tb th):=by
 intro pins s σ H D I h
 have pass:M9 (X.tryb pins fun e s1=>wpAny (model X.prog X.w) X.A (noteFrame e X.env) (fun _ s2=>wpAny (model X.prog X.w) X.A (setFlight e none) (fun _ s3 =>
   wpAny (model X.prog X.w) X.A (handleBy e X.env [.ExceptHandler (some (.Name cn np)) (some n) (b0::suite) hpos]) (SP X pins D) X.xe s3) X.xe s2) X.xe s1)
   (fun σ1 cls _ H1=>∃C,cls=.ref C∧exmOne X.K (.ref C) (.ref C0)=some true∧∀ea oe,H1 ea=none→th { nx:=fun _ _=>False,rt:=D.rt } (σ1.set i (some (.ref ea))) (upd H1 ea (.frz oe (.exc ea C)))):=by
  intro pins1 σ1 H1 s1 e s' I1 hx
  obtain⟨ea,C,H',rfl,os,bare,un,hok,fl,Cc,ec,hex,q⟩:=hx
  cases ec
  have J:ji X pins σ1 H1 s1:=I1.untry
  have J1:ji X pins σ1 H' s':=J.call' (ch:=[]) os un hok bare (fun b z=>absurd z (by simp))
  obtain⟨oe,vs,T,oT,ts,a0,e1,e2,e3,e4,e5,e7,e8,e9,e10,e11,e12,c3,cx⟩:=fl.ex
  have hfr:X.A.frames=some (X.env::X.outer):=by rw [←hst];exact I.ok.frames
  have hch:∀b∈[ea,T],s1.heap.get? b=none∧H' b=none:=fun b hb=>by
   rcases List.mem_cons.mp hb with rfl|hb
   ·exact⟨fl.new,fl.free⟩
   ·obtain rfl:b=T:=by simpa using hb
    exact⟨e11,e12⟩
  show wpAny _ _ (noteFrame (.ref ea) X.env) _ _ _
  refine ZZ (base:=hideAll s'.heap ([ea,T]++uy X.stack)) (cls:=.ref C) (a0:=a0) hfr (V3 J1 hst [ea,T]) hf
   ⟨oe,vs,T,oT,ts,e1,⟨e2,e3,c3⟩,e4,e5,hideAll_none _ (by simp),e7,e8,e9,e10⟩ (fun b o q=>of_hideAll _ q) (hideAll_none _ (by simp)) fun h2 S2=>?_
  refine VC (s:={ s' with heap:=h2 }) S2.st S2.ff S2.tr fun h3 S3 _=>?_
  obtain⟨J3,F3⟩:=Va (ch:=[ea,T]) J hst os bare un hok hch (by simp) cx ⟨S3.st,S3.ff,S3.tr,S2.up.trans S3.up⟩
  have hA:X.A.handled=none:=I.ok.hd hcm
  have nL:ea≠X.env.locals:=fun z=>by
   obtain⟨m,⟨o,_,_,ho,_⟩,_⟩:=J.loc
   have:=fl.new;rw [z,ho] at this;cases this
  have h0':X.s₀.heap.get? ea=none:=by
   cases q0:X.s₀.heap.get? ea with
   | none=>rfl
   | some o =>
    obtain⟨o',z⟩:=J.base.there ea o q0 (by rw [hx0];simp)
    have:=fl.new;rw [z] at this;cases this
  have track:∀g,ji X pins σ1 H' { s' with heap:=g }→V2 s1.heap g H' ea C→∃ob us c,g.get? ea=some ob∧ob.cls=.ref C∧ob.data=.fields us∧(us[2]?=some c∧VW H' c)∧ji X pins σ1 (upd H' ea (.frz ob (.exc ea C))) { s' with heap:=g }:=fun g Jg Fg=>by
   obtain⟨ob,us,_,_,_,b0',f1,f2,_,f4,_,_,_,_,_,_,_,f5,f6⟩:=Fg.ex
   exact⟨ob,us,b0'.2,f1,f2,f4,⟨f5,f6⟩,Jg.track Fg.free h0' nL (fun x c ec z=>by
    obtain⟨v,o,ho,_⟩:=J.cell x c ec
    have:=fl.new;rw [←z,ho] at this;cases this) (fun p hp z=>by
    have:=(J.pin p hp).1
    rw [z,fl.new] at this;cases this) ⟨f1,NF ⟨ob,us,f1,f2,f4⟩⟩⟩
  obtain⟨o3,v3,x3,g1,g2,g3,g4,J3t⟩:=track h3 J3 F3
  have J3h:ji (X.hand (.ref ea)) pins σ1 (upd H' ea (.frz o3 (.exc ea C))) { s' with heap:=h3 }:=J3t.hand (.inr ⟨ea,rfl,.cons jd g3 g4.1 (g4.2.upd fl.free)⟩)
  have L:PySem.W.Looks (model X.prog X.w) h3 (typeOf (.ref ea)) (.ref C):=g2▸(PySem.W.Looks.ld g1).andThen .now
  refine wpAny_handleBy_cons (codeAny_handlers_test (VD (X:=X.hand (.ref ea)) J3h hg hm ?_ hd)) (by intro q;cases q)
  refine (exm_one J3.kIn L hex).here ?_
  refine codeAny_handlers_suite_as ?_
  refine VC (s:={ s' with heap:=h3 }) S3.st S3.ff S3.tr fun h4 S4 _=>?_
  obtain⟨J4,F4⟩:=Va (ch:=[ea,T]) J hst os bare un hok hch (by simp) cx ⟨S4.st,S4.ff,S4.tr,(S2.up.trans S3.up).trans S4.up⟩
  obtain⟨o4,v4,x4,_,_,d4,c4,J5⟩:=track h4 J4 F4
  refine Gy (M:=model X.prog X.w) (v:=.ref ea) J5 hN hi (.inl hn) rfl (fun s6 J6=>?_) (.inr hn)
  refine wpAny_mono (hh (.ref ea) pins s6 _ _ { nx:=fun _ _=>False,rt:=D.rt } (J6.hand (.inr ⟨ea,rfl,.cons jd d4 c4.1 (c4.2.upd fl.free)⟩)) (q ea o4 F4.free)) (fun fl7 s7 q7=>?_) fun _ _ z=>z.elim
  cases fl7 with
  | next=>obtain⟨_,_,_,z⟩:=q7;exact z.elim
  | brk=>obtain⟨_,_,_,z⟩:=q7;exact z.elim
  | cont=>obtain⟨_,_,_,z⟩:=q7;exact z.elim
  | ret u =>
   obtain⟨v,σ7,H7,J7,r7,d7⟩:=q7
   have J7x:ji X pins σ7 H7 s7:=J7.unhand I.ok.hd hA
   obtain⟨m7,hn7,_⟩:=J7x.loc
   have hcls:(X.env.scope.kind==.class||(X.env.scope.kind==.module&&X.env.locals != X.env.globals))=false:=by rw [I.ok.kind];rfl
   refine wpAny_nameGoes hn hn7 hcls fun h8 m8 hn8 sb8=>?_
   exact⟨v,List.replicate X.N.length none,H7,J7x.relocal sb8 hn8,r7,d7⟩
 refine wpAny_Try_except (wpAny_mono (hb pins _ _ pass [] s σ H D I.tryb h) (fun f s1 q1=>?_) fun e s1 q1=>q1)
 cases f with
 | next =>
  obtain⟨σ1,H1,I1,q⟩:=q1
  exact wpAny_execs_nil ⟨σ1,H1,I1.untry,q⟩
 | brk=>obtain⟨σ1,H1,I1,q⟩:=q1;exact⟨σ1,H1,I1.untry,q⟩
 | cont=>obtain⟨σ1,H1,I1,q⟩:=q1;exact⟨σ1,H1,I1.untry,q⟩
 | ret u=>obtain⟨v,σ1,H1,I1,r,q⟩:=q1;exact⟨v,σ1,H1,I1.untry,r,q⟩
end
end L2
namespace L2
open PySem PySem.Spec PyProof.Rows
section
variable {P:oM}{w:World}{K:oq}{mg:ox}{base:Heap}{k:Nat}{x m:Str}{C:Addr}{ps:oG}{sp:Sp}
structure Ju (P:oM) (w:World) (K:oq) (mg:ox) (base:Heap) (k:Nat) (x:Str) (ps:oG) (sp:Sp) (c:Bool:=true):Prop where
 ex:∃f fd,vB P w K mg base (XC P w) k f fd ps sp c∧jU K fd ps []∧keepIn K (.ref f)=true∧mg x=some (.ref f)
structure M6 (P:oM) (w:World) (K:oq) (mg:ox) (base:Heap) (k:Nat) (x:Str) (C:Addr) (ps:oG) (sp:Sp):Prop where
 ex:∃f fd,Mk K C f∧vB P w K mg base (XC P w) k f fd ps sp∧jU K fd ps []∧mg x=some (.ref C)
structure GJ (P:oM) (w:World) (K:oq) (mg:ox) (base:Heap) (k:Nat) (C:Addr) (m:Str) (ps:oG) (sp:Sp):Prop where
 cl:Zm K C
 ex:∃f fd,Gn K C m f∧vB P w K mg base (XC P w) k f fd ps sp∧jU K fd ps []
end
section
variable {X:Cx}{k:Nat}{x m:Str}{C:Addr}{ps:oG}{sp:Sp}{E:XK}{p pos apos:Pos}{e o:Expr}{es:oI}{ta:TE}{t:TA}
theorem jr {cm:Bool} (G:Ju X.prog X.w X.K X.mg X.base k x ps sp cm) (hr:Js cm k X.A) (hx:UD (XC X.prog X.w) X E) (hg:Gl X x) (ha:PA X (e::es) t)
  (hdb:(x==("__debug__":Str))=false:=by decide) (he:starEach (e::es) X.env=(false,eval e X.env)::starEach es X.env:=by rfl) (hpl:(backTo pos (starEach es X.env)).any (·.1)=false:=by rfl) :
  PE X (.Call (.Name x p) (e::es) [] pos) (Nc sp [] E t):=by
 obtain⟨f,fd,F,b,kp,mgx⟩:=G.ex
 exact c9 F hr hg mgx kp b .nil hx ha hdb he hpl
theorem mX (G:M6 X.prog X.w X.K X.mg X.base k x C ps sp) (hr:Vn (k+1) X.A) (hx:UD (XC X.prog X.w) X E) (hg:Gl X x) (ha:PA X (e::es) t)
  (hdb:(x==("__debug__":Str))=false:=by decide) (he:starEach (e::es) X.env=(false,eval e X.env)::starEach es X.env:=by rfl) (hpl:(backTo pos (starEach es X.env)).any (·.1)=false:=by rfl) :
  PE X (.Call (.Name x p) (e::es) [] pos) (cH C sp [] E t):=by
 obtain⟨f,fd,M,F,b,mgx⟩:=G.ex
 exact db M F hr hg mgx b .nil hx ha hdb he hpl
theorem Zg {pl:Sem Bool} (ho:PE X o ta) (G:GJ X.prog X.w X.K X.mg X.base k C m ps sp) (hr:Vn k X.A) (hx:UD (XC X.prog X.w) X E) (ha:PA X (e::es) t)
  (hst:starEach (e::es) X.env=(false,eval e X.env)::starEach es X.env:=by rfl) (hpl:(backTo pos (starEach es X.env)).any (·.1)=false:=by rfl)
  (ht:eval (.Call (.Attribute o m apos) (e::es) [] pos) X.env=(do
   let ov ←eval o X.env
   standAt apos.atName
   let (f,first) ←holding [ov] (getMethod ov m pl)
   callWith pos f first (backTo pos (starEach (e::es) X.env)) (backToKw pos (keywordEach [] X.env))):=by rfl) :
  PE X (.Call (.Attribute o m apos) (e::es) [] pos) (cI C m sp [] E ta t):=by
 obtain⟨f,fd,M,F,b⟩:=G.ex
 exact de ho G.cl M F hr b .nil hx ha hst hpl ht
def fT (C:Addr) (m:Str) (sp:Sp) (E:XK):V→Hp→VK→Prop:=fun x H Q=>∃a dx fs,x=.ref a∧H a=some (.ins C dx fs)∧fs.lookup m=none∧sp [x] H Q E
def iU (X:Cx) (m:Str) (r:V→Hp→VK→Prop):Prop:=∀(pins:oy) (s:Shared) (σ:St) (H:Hp) (x:V) (u:Value) (Q:VK) (pl:Sem Bool) (pos:Pos),ji X pins σ H s→jL x u→r x H Q →
 wpAny (model X.prog X.w) X.A (holding [u] (getMethod u m pl)) (fun fm s1=>wpAny (model X.prog X.w) X.A (callWith pos fm.1 fm.2 (backTo pos (starEach [] X.env)) (backToKw pos (keywordEach [] X.env))) (EP X pins σ Q) X.xe s1) X.xe s
theorem cr (G:GJ X.prog X.w X.K X.mg X.base k C m ps sp) (hr:Vn k X.A) (hx:UD (XC X.prog X.w) X E):iU X m (fT C m sp E):=by
 intro pins s σ H x u Q pl pos I r h
 obtain⟨f,fd,M,F,b⟩:=G.ex
 obtain⟨a,dx,fs,rfl,ea,l,q⟩:=h
 obtain rfl:u=Value.ref a:=r
 refine wpAny_holding (z4 I ea G.cl M l ?_)
 exact PySem.W.callWith_K0 (first:=[.ref a]) I.kIn M.kp (ko (us:=[.ref a]) (vs:=[.ref a]) F hr b .nil hx I (.cons rfl .nil) q)
def lY (r:V→Hp→VK→Prop) (ta:TE):TE:=fun σ H Q=>ta σ H fun x H1=>r x H1 Q
theorem Kz {pl:Sem Bool}{r:V→Hp→VK→Prop} (hr:iU X m r) (ho:PE X o ta)
  (ht:eval (.Call (.Attribute o m apos) [] [] pos) X.env=(do
   let ov ←eval o X.env
   standAt apos.atName
   let (f,first) ←holding [ov] (getMethod ov m pl)
   callWith pos f first (backTo pos (starEach [] X.env)) (backToKw pos (keywordEach [] X.env))):=by rfl):PE X (.Call (.Attribute o m apos) [] [] pos) (lY r ta):=by
 intro pins s σ H Q I h
 rw [ht]
 refine oN (jC (ho pins s σ H _ I h) fun u s1 ⟨x,H1,I1,rx,q⟩=>oN (wpAny_standAt (oN ?_)))
 exact hr pins s1 σ H1 x u Q pl pos I1 rx q
end
inductive Gk:V→Value→Prop where
 | ty (n:String):Gk (.ty n) (.type n)
 | ref (a:Addr):Gk (.ref a) (.ref a)
theorem Gk.val {c:V}{cv u:Value} (h:Gk c cv) (r:jL c u):u=cv:=by cases h<;>exact r
section
variable {X:Cx}
theorem Ut:uN X (.builtin "isinstance") (fun xs H Q=>∃x c t cv b,xs=[x,c]∧VB X.K H x t∧Gk c cv∧PySem.W.kitOne X.K t cv=some b∧Q (.bl b) H):=by
 intro pins s σ H xs us Q I r h
 obtain⟨x,c,t,cv,b,rfl,ty,hc,e,q⟩:=h
 obtain⟨u,w,rfl,ru,rc⟩:=kz r
 obtain rfl:=hc.val rc
 exact NQ I ru ty e fun tk=>⟨.bl b,H,I.tok tk,rfl,q⟩
end
theorem ji.turnedL {X:Cx}{pins:oy}{σ:St}{H:Hp}{s:Shared}{h':Heap}{t':Nat}{ch:oB} (I:ji X pins σ H s) (fp:∀c∈ch,Vk X pins H c) (keep:∀c o,c ∉ ch→s.heap.get? c=some o→h'.get? c=some o) :
  ji X pins σ H { s with heap:=h',toks:=t' }:=by
 have nfp:∀c o,H c=some o→c ∉ ch:=fun c o e hc=>by have:=(fp c hc).1;rw [e] at this;cases this
 refine I.step (g':=s.gens) (d':=s.drawn) (ch:=ch) (fun c hc=>⟨(fp c hc).2.2.2.1,(fp c hc).2.1,(fp c hc).2.2.2.2.1,(fp c hc).2.2.2.2.2⟩)
  (fun c o _ _ hc e _=>keep c o hc e) (fun c o _ _ hc e _=>⟨o.slots,keep c o hc e⟩) (fun _ _ _ _ n=>n) (fun c o hc e=>⟨o,keep c o hc e⟩) (fun _ _ e=>e) (fun _ _ _ e=>e) (fun c ps e=>⟨#[],by rw [e];simp⟩) (fun m hm=>?_) (fun c o e=>?_) I.bare
 ·obtain⟨o,es,ep,ho,r⟩:=hm
  exact⟨o,es,ep,keep _ o (fun hc=>(fp _ hc).2.1 rfl) ho,r⟩
 ·refine (I.hok c o e).stay (fun d u hd q=>keep d u ?_ q) (fun _ q=>q) fun _ _ q=>q
  rcases hd with z|z
  ·rw [z];exact nfp c o e
  ·exact nfp d _ z
end L2
namespace L2
open PySem PySem.Spec PyProof.Rows
theorem b9:bootBuiltins "int"=some (.type "int"):=by decide +kernel
theorem Nm:bootBuiltins "bool"=some (.type "bool"):=by decide +kernel
theorem gi:bootBuiltins "str"=some (.type "str"):=by decide +kernel
theorem vC:bootBuiltins "list"=some (.type "list"):=by decide +kernel
theorem kF:bootBuiltins "tuple"=some (.type "tuple"):=by decide +kernel
theorem Jl:bootBuiltins "isinstance"=some (.builtin "isinstance"):=by decide +kernel
theorem io:bootBuiltins "min"=some (.builtin "min"):=by decide +kernel
theorem u9:bootBuiltins "len"=some (.builtin "len"):=by decide +kernel
theorem Z2 {X:Cx}:UD (XC X.prog X.w) X (fun _ _ _=>False):=by
 intro pins σ H s e s' I h
 obtain⟨_,_,_,_,_,_,_,_,_,q⟩:=h
 exact q.elim
section
variable {X:Cx}
theorem Zf {a b:Str}{e:Expr}{te:TE}{p1 p2 p3 p4:Pos}{k1 k2:Nat} (ha:a.length≤1000) (hb:b.length≤1000) (he:PE X e te) :
  PE X (.JoinedStr [.Constant (.str a) k1 p1,.FormattedValue e (-1) none p2,.Constant (.str b) k2 p3] p4) (fun σ H Q=>te σ H fun x H1=>∃n,x=.int n∧n.natAbs.log2<1920∧∀z,Q (.str z) H1):=by
 intro pins s σ H Q I h
 refine JoinedStr_many (joinParts_cons (Calls.Constant_str ?_))
 have l0:(Str.empty++a).length≤1000:=by rw [strLen_append];show 0+a.length≤1000;omega
 refine⟨Nat.le_trans l0 (by decide),joinParts_cons (FormattedValue_plain (jC (he pins _ σ H _ (I.tok _) h) fun v s1 hh=>?_))⟩
 obtain⟨x,H1,I1,r1,n,ex,hd,q⟩:=hh
 subst ex
 obtain⟨t,rfl⟩:=r1
 have l1:(PySem.Str.ofString (toString n)).length≤1921:=int_text_len_1921 hd
 refine formatField_int_small hd ⟨?_,joinParts_cons (Calls.Constant_str ⟨?_,joinParts_nil ⟨.str _,H1,(I1.tok _),⟨_,rfl⟩,q _⟩ ?_⟩)⟩
 all_goals
  have hz:(3921:Nat)≤sizeLine:=by decide
  refine Nat.le_trans ?_ hz
  have e1:=strLen_append (Str.empty++a) (PySem.Str.ofString (toString n))
  have e2:=strLen_append (Str.empty++a++PySem.Str.ofString (toString n)) b
  omega
theorem vG (hu:X.A.units<cLine):Us X (compareOp .NotEq) (fun x y H Q=>∃a b xs,x=.ref a∧y=.ref b∧jl X.K H a xs∧jl X.K H b []∧Q (.bl (!xs.isEmpty)) H):=by
 intro pins s σ H x y v u Q I rx ry h
 obtain⟨a,b,xs,rfl,rfl,ha,hb,q⟩:=h
 cases rx
 cases ry
 obtain⟨its,rv,p,_⟩:=I.list ha
 obtain⟨jts,rw',p',_⟩:=I.list hb
 cases rw'
 cases rv with
 | nil=>exact EqBoolInt.of_rcne (SeqAt.RcNeAt.lists (e:=fun _=>true) p.isList p'.isList rfl hu (fun j h1=>absurd h1 (by simp))) ⟨.bl false,H,I,rfl,q⟩
 | cons r t=>exact EqBoolInt.of_rcne (SeqAt.RcNeAt.lists_lengths p.isList p'.isList (by simp) hu) ⟨.bl true,H,I,rfl,q⟩
end
theorem Vq {X:Cx}{scope:Scope}{N:oG} (hN:X.N=N) (hk:scope.kind=.function) (h1:(scope.names.all fun y=>y.2 != .free&&y.2 != .cell)=true) (h2:(scope.names.all fun y=>y.2 != .local||scope.names.lookup y.1==some .local)=true)
  (h3:(N.all fun x=>scope.names.lookup x != some .local)=true):vA X scope [] where
 clos:=closureFor_none fun y hy=>by
  have:=List.all_eq_true.mp h1 y hy
  simp only [Bool.and_eq_true,bne_iff_ne] at this
  exact this.1
 kind:=hk
 nocell:=fun y hy=>by
  have:=List.all_eq_true.mp h1 y hy
  simp only [Bool.and_eq_true,bne_iff_ne] at this
  exact this.2
 names:=fun y hy e=>by
  have:=List.all_eq_true.mp h2 y hy
  rw [e] at this
  simpa using this
 sub:=fun x c e=>by cases e
 has:=fun x e=>by
  have:=List.all_eq_true.mp h1 _ (Jk e)
  simp at this
 apart:=fun x hx=>by
  have:=List.all_eq_true.mp h3 x (hN▸hx)
  simpa using this
 outer:=fun x e=>by
  have:=List.all_eq_true.mp h1 _ (Jk e)
  simp at this
theorem Nu {X:Cx}{scope:Scope}{N:oG}{n:Str}{a:Addr} (hN:X.N=N) (hk:scope.kind=.function) (hcl:closureFor scope X.env=pure [(n,a)]) (hsub:X.env.cells.lookup n=some a) (hout:X.env.kindOf n=some .cell)
  (h1:(scope.names.all fun y=>y.2 != .cell&&(y.2 != .free||y.1==n))=true) (h2:(scope.names.all fun y=>y.2 != .local||scope.names.lookup y.1==some .local)=true)
  (h3:(N.all fun x=>scope.names.lookup x != some .local)=true):vA X scope [(n,a)] where
 clos:=hcl
 kind:=hk
 nocell:=fun y hy=>by
  have:=List.all_eq_true.mp h1 y hy
  simp only [Bool.and_eq_true,bne_iff_ne] at this
  exact this.1
 names:=fun y hy e=>by
  have:=List.all_eq_true.mp h2 y hy
  rw [e] at this
  simpa using this
 sub:=fun x c e=>by
  rw [List.lookup_cons] at e
  split at e
  ·rename_i q
   obtain rfl:x=n:=by simpa using q
   cases e;exact hsub
  ·cases e
 has:=fun x e=>by
  have:=List.all_eq_true.mp h1 _ (Jk e)
  simp at this
  exact⟨a,by rw [this];simp [List.lookup_cons]⟩
 apart:=fun x hx=>by
  have:=List.all_eq_true.mp h3 x (hN▸hx)
  simpa using this
 outer:=fun x e=>by
  have:=List.all_eq_true.mp h1 _ (Jk e)
  simp at this
  exact .inl (this▸hout)
theorem vD {K:oq}{a:Addr}{xs:List V}{g:TG}{tc:TT}{te:TE}{k:Nat}{σ:St}{H:Hp}{Q:VK} (p:V→Bool) (f:V→V) (hl:jl K H a xs) (hz:xs.length≤sizeLine)
  (step:∀x∈xs,∀(H':Hp) (Qy:VK) (Qn:Hp→Prop),Same H H'→(p x=true→Qy (f x) H')→(p x=false→Qn H')→g x (σ++List.replicate k none) H' fun σ2 H2=>(∃zs,σ2=σ++zs∧zs.length=k)∧tc σ2 H2 fun b H3=>if b=true then te σ2 H3 Qy else Qn H3)
  (q:∀D,H D=none→Q (.ref D) (upd H D (.lst ((xs.filter p).map f)))) :
  gj k g tc te σ Q (K7 K a) H:=by
 intro D hD
 have sm:∀ys,Same H (upd H D (.lst ys)):=fun ys b o e=>by rw [jj (jp e hD)];exact e
 refine⟨fun i m ys H'=>m=xs.length - i∧i≤xs.length∧ys=((xs.take i).filter p).map f∧H'=upd H D (.lst ys),⟨xs.length,by simp,Nat.zero_le _,by simp,rfl⟩,?_⟩
 rintro i m ys H' ⟨rfl,hi,rfl,rfl⟩
 refine⟨jd,?_⟩
 have q1:jl K (upd H D (.lst (((xs.take i).filter p).map f))) a xs:=(sm _).seq hl
 by_cases hlt:i<xs.length
 ·refine .inr ⟨⟨xs,xs[i],q1,by simp [hlt]⟩,?_,fun x H2 y=>?_⟩
  ·have:=List.length_filter_le p (xs.take i)
   rw [List.length_map]
   simp only [List.length_take] at this
   omega
  ·obtain⟨rfl,y⟩:=y
   have hx:xs[i]?=some x:=y xs q1
   have hm:x∈xs:=List.mem_of_getElem? hx
   have et:(xs.take (i+1)).filter p=(xs.take i).filter p++(if p x then [x] else []):=take_succ_filter p xs i x hx
   refine step x hm _ _ _ (sm _) (fun hp=>⟨jd,xs.length - (i+1),by omega,rfl,hlt,?_,?_⟩) fun hp=>⟨xs.length - (i+1),by omega,rfl,hlt,?_,rfl⟩
   ·rw [et,hp];simp
   ·rw [dN]
   ·rw [et,hp];simp
 ·obtain rfl:i=xs.length:=by omega
  refine .inl ⟨⟨xs,q1,Nat.le_refl _⟩,?_⟩
  rw [List.take_length]
  exact q D hD
end L2
namespace L2
open PySem PySem.Spec PyProof.Rows PySem.W
structure VA (K:oq) (C:Addr):Prop where
 ex:excIn K C cf "ValueError.__new__"=true
 ga:findIn K (.ref C) "__getattribute__"=some (some (.builtin "BaseException.__getattribute__"))
 gt:findIn K (.ref C) "__getattr__"=some none
 cl:findIn K (.ref C) "__class__"=some (some (.builtin "object.__class__"))
 ge:specialIn K (.builtin "object.__class__") "__get__"=some (some (.builtin "getset_descriptor.__get__"))
 tk:takesIn K (.builtin "object.__class__")=some true
 mo:mroIn K C (.type "object")=some true
 mb:mroIn K C (.type "BaseException")=some true
section
variable {prog:oM}{w:World}{A:Around}{E:oh}{s:Shared}{K:oq}{x C:Addr}
theorem ZJ {M:Model}{h:Heap} (p:VJ x C h):Looks M h (typeOf (.ref x)) (.ref C):=by
 obtain⟨o,vs,h1,h2,_⟩:=p
 exact h2▸(Looks.ld h1).andThen .now
theorem a8 {M:Model}{h:Heap} (F:VA K C) (X:K.In h):Looks M h (Builtin.ObjectAttr.find (.ref x) (.ref C) "__class__") (.bind (.builtin "getset_descriptor.__get__") (.builtin "object.__class__")):=by
 have L1:=looks_findIn (M:=M) X F.cl
 have L2:=looks_specialIn (M:=M) X F.ge
 have L3:=looks_takesIn (M:=M) X F.tk
 exact L1.andThen (L2.andThen ((show Looks M h (Builtin.ObjectAttr.dataDescriptor? (some (.builtin "object.__class__")) (some (.builtin "getset_descriptor.__get__"))) (some (.builtin "getset_descriptor.__get__",.builtin "object.__class__")) from L3.andThen .now).andThen (Looks.tag .now)))
theorem cS {R:Result→Shared→Prop} (F:VA K C) (X:K.In s.heap) (p:VJ x C s.heap) (h:R (.ok (.ret (.ref C))) s) :
  codeAny (model prog w) A (.call (.builtin "getset_descriptor.__get__") ⟨[.builtin "object.__class__",.ref x,.ref C],[]⟩) R s:=by
 obtain⟨hh,g,dr,t,os⟩:=s
 have L0:=ZJ (M:=model prog w) p
 have L1:=looks_mroIn (M:=model prog w) X F.mo
 refine codeAny_call_builtin KF.slot_gs.plain KF.entry_gs
  (KF.slot_gs.check _ _ _ _ _ _ _ _ KF.type_class (KF.args_gs _ _ _) ?_)
 unfold Builtin.«getset_descriptor.__get__» Builtin.Getset_descriptor.descrGet
 rw [dga_obj]
 refine oN (oO ?_)
 unfold Builtin.Getset_descriptor.descrGetter Builtin.Getset_descriptor.descrCheckInstance Builtin.Getset_descriptor.descrNameAndClass isInstance
 simp only [KF.owner_class]
 repeat lk
 refine⟨Code.quiet_builtin _ (by decide +kernel),codeAny_builtin KF.entry_class ?_⟩
 unfold Builtin.«object.__class__» shownTypeOf
 repeat lk
 exact h
theorem cR {tk:Tok}{Q:Fin→Shared→Prop} (F:VA K C) (X:K.In s.heap) (p:VJ x C s.heap) (h:Q (.done (.ret (.ref C))) s) :
  wpAny (model prog w) A (Builtin.«object.__getattribute__» ⟨[.ref x,.str "__class__" tk],[]⟩) Q E s:=by
 obtain⟨hh,g,dr,t,os⟩:=s
 have L0:=ZJ (M:=model prog w) p
 have L3:=a8 (M:=model prog w) (x:=x) F X
 unfold Builtin.«object.__getattribute__» Builtin.ObjectAttr.bindTo
 repeat (any_goals (first|with_reducible assumption|with_reducible refine L0.at ?_|with_reducible refine L3.at ?_|wp_step))
 refine cS F X p ?_
 repeat (any_goals (first|with_reducible assumption|wp_step))
theorem eI {tk:Tok}{R:Result→Shared→Prop} (F:VA K C) (X:K.In s.heap) (p:VJ x C s.heap) (h:R (.ok (.ret (.ref C))) s) :
  codeAny (model prog w) A (.call (.builtin "BaseException.__getattribute__") ⟨[.ref x,.str "__class__" tk],[]⟩) R s:=by
 have L4:Looks (model prog w) s.heap (isInstance (.ref x) (.type "BaseException")) true:=by
  unfold isInstance
  exact (ZJ p).andThen (looks_mroIn X F.mb)
 have hk:builtinKind "BaseException.__getattribute__"=some .slot:=by decide +kernel
 have hs:splitId "BaseException.__getattribute__"=some ("BaseException","__getattribute__"):=by decide +kernel
 refine codeAny_call_builtin PySem.F.excAttr_ValueError.ga.plain PySem.F.entry_bexc_ga ?_
 have ha:=PySem.F.args_bexc_ga (.ref x) (.str "__class__" tk)
 generalize "BaseException.__getattribute__"=i at hk hs ha ⊢
 refine check_slot (self:=.ref x) (rest:=[.str "__class__" tk]) (kw:=[]) hk hs L4 ha ?_
 exact cR F X p h
theorem eG {tk:Tok}{fill expr:Bool}{Q:oh} (F:VA K C) (X:K.In s.heap) (p:VJ x C s.heap) (h:Q (.ref C) s) :
  wpAny (model prog w) A (getAttrBy (.ref x) (.str "__class__" tk) fill expr) Q E s:=by
 obtain⟨hh,g,dr,t,os⟩:=s
 have L0:=ZJ (M:=model prog w) p
 have L1:=looks_findIn (M:=model prog w) X F.ga
 have L2:=looks_findIn (M:=model prog w) X F.gt
 have f3:=PySem.F.excAttr_ValueError.ga.bind (.ref x)
 have hx0:(expr&&onTheHeap (Value.builtin "BaseException.__getattribute__"))=false:=by cases expr<;>rfl
 have hx2:(Value.builtin "BaseException.__getattribute__"==Value.builtin "object.__getattribute__")=false:=by decide +kernel
 have hx1:(onTheHeap (Value.ref C)&&Value.builtin "BaseException.__getattribute__"==Value.builtin "object.__getattribute__")=false:=by rw [hx2];rfl
 repeat (any_goals (first|with_reducible assumption|with_reducible refine L0.at ?_|with_reducible refine L1.at ?_|with_reducible refine L2.at ?_|wp_step))
 refine eI F X p ?_
 repeat (any_goals (first|with_reducible assumption|wp_step))
theorem ND {Q:oo} (F:VA K C) (X:K.In s.heap) (p:VJ x C s.heap) (h:Q (some (.ref C)) { s with toks:=s.toks+1 }):wpAny (model prog w) A (getAttr? (.ref x) "__class__") Q E s:=by
 obtain⟨hh,g,dr,t,os⟩:=s
 unfold getAttr? getAttrBy?
 repeat (any_goals (first|with_reducible assumption|with_reducible refine eG F X p ?_|wp_step))
end
section
variable {K:oq}{x C:Addr}
theorem mF (F:VA K C):KitX K (.ref x) (.ref C) (VJ x C) where
 ty:=fun M h X p=>ZJ p
 it:=fun M h X p=>by
  obtain⟨nm,qn,N,bs,bm,hdct,sn,sub,ab,col,dd,k0,k1,k2,k3,k5,mN,hC,_⟩:=kI X F.ex
  intro A Q E s k q
  unfold isType loadHead
  exact oN (wpAny_loadPart (k _ _ hC) (oO q))
 ne:=fun h tp dd its n sl X htp=>by
  obtain⟨nm,qn,N,bs,bm,hdct,sn,sub,ab,col,dd,k0,k1,k2,k3,k5,mN,hC,_⟩:=kI X F.ex
  refine Bool.eq_false_iff.mpr fun q=>?_
  obtain rfl:C=tp:=Value.ref.inj (beq_iff_eq.mp q)
  have z:=hC.symm.trans htp
  have z2:=congrArg Obj.cls (Option.some.inj z)
  exact absurd (Value.type.inj z2) (by decide)
 ca:=fun X p k=>ND F X p k
end
section
variable {X:Cx}
theorem NE {pins:oy}{σ:St}{H:Hp}{s:Shared}{a C:Addr} (I:ji X pins σ H s) (e:K4 H a C):VJ a C s.heap:=by
 obtain⟨o,e⟩:=e
 exact (I.hok a _ e).2.1
theorem Nq:uN X (.builtin "isinstance") (fun xs H Q=>∃a C c cv b,xs=[.ref a,c]∧K4 H a C∧VA X.K C∧Gk c cv∧kitOne X.K (.ref C) cv=some b∧Q (.bl b) H):=by
 intro pins s σ H xs us Q I r h
 obtain⟨a,C,c,cv,b,rfl,ea,F,hc,e,q⟩:=h
 obtain⟨u,w,rfl,ru,rc⟩:=kz r
 obtain rfl:=hc.val rc
 cases ru
 exact kia_one (mF F) I.kIn (NE I ea) e (fun z=>nomatch z) fun tk=>⟨.bl b,H,I.tok tk,rfl,q⟩
theorem uP:∀{cs:oB} {us:oA},jE (cs.map V.ref) us→us=cs.map Value.ref
 | [],_,.nil=>rfl
 | _::_,_,.cons r t=>by cases r;rw [uP t];rfl
theorem Nr:uN X (.builtin "isinstance") (fun xs H Q=>∃(a C p:Addr) (cs:oB) (b:Bool),xs=[.ref a,.ref p]∧K4 H a C∧VA X.K C∧H p=some (.tup (cs.map V.ref))∧kitAny X.K (.ref C) (cs.map Value.ref)=some b∧Q (.bl b) H):=by
 intro pins s σ H xs us Q I r h
 obtain⟨a,C,p,cs,b,rfl,ea,F,hp,e,q⟩:=h
 obtain⟨u,w,rfl,ru,rc⟩:=kz r
 cases ru
 cases rc
 obtain⟨_,its,rv,⟨c2,dd,d2,sl⟩,h1,h2,n,h3⟩:=(show j0 X.prog X.w H s.heap p (.tup (cs.map V.ref)) from I.hok p _ hp)
 simp only at h2 h3
 subst h2 h3
 obtain rfl:=uP rv
 exact kia_tup (mF F) I.kIn (NE I ea) h1 e (fun z=>nomatch z) fun tk=>⟨.bl b,H,I.tok tk,rfl,q⟩
theorem nk {K:oq} (h:X.K=K):uN X (.builtin "isinstance") (fun xs H Q=>∃a C c cv b,xs=[.ref a,c]∧K4 H a C∧VA K C∧Gk c cv∧kitOne K (.ref C) cv=some b∧Q (.bl b) H):=by
 subst h;exact Nq
theorem nt {K:oq} (h:X.K=K):uN X (.builtin "isinstance") (fun xs H Q=>∃(a C p:Addr) (cs:oB) (b:Bool),xs=[.ref a,.ref p]∧K4 H a C∧VA K C∧H p=some (.tup (cs.map V.ref))∧kitAny K (.ref C) (cs.map Value.ref)=some b∧Q (.bl b) H):=by
 subst h;exact Nr
theorem mw {K:oq} (h:X.K=K):MA X (fS K):=by
 subst h;exact Jf
theorem vt {K:oq} (h:X.K=K):MA X (bC K):=by
 subst h;exact u4
end
end L2
namespace L2
open PySem PySem.Spec PyProof.Rows PySem.W
section
variable {X:Cx}
theorem nV:Us X (binaryOp .Mult) (fun x y H Q=>∃z n,x=.str z∧y=.int n∧MulOk z n∧Q (.str (Txt.mul z n)) H):=by
 intro pins s σ H x y v u Q I rx ry h
 obtain⟨z,n,rfl,rfl,ok,q⟩:=h
 obtain⟨t,rfl⟩:=rx
 obtain⟨t2,rfl⟩:=ry
 exact SB.mul ok fun t' k=>⟨.str _,H,I.tok k,⟨t',rfl⟩,q⟩
end
end L2
namespace L2
open PySem PySem.Spec PyProof.Rows PySem.W
def bV (x:Str):It:=⟨fun i _=>i<x.length,fun i H v H'=>H'=H∧∃c,x.cps[i]?=some c∧v=.str ⟨#[c]⟩,fun i _=>x.length≤i⟩
theorem z5 (x:Str):strIterType x="str_ascii_iterator"∨strIterType x="str_iterator":=by
 unfold strIterType;split
 ·exact .inl rfl
 ·exact .inr rfl
theorem bP {P:oM}{w:World}{K:oq}{tg:Expr} (it:Addr) (x:Str) (t:Tok):md P w K tg (bV x) [it] it (fun i h=>h.IsStrIter it (strIterType x) x t i) false where
 mem:=by simp
 obj:=fun i h st b hb=>by
  obtain rfl:b=it:=by simpa using hb
  obtain⟨o,e,c,d⟩:=st
  exact⟨o,e,fun v z=>by rw [d] at z;cases z⟩
 keep:=fun i h h' st k=>by
  obtain⟨o,e,r⟩:=st
  exact⟨o,k it (by simp) o e,r⟩
 item:=by
  intro X hP hw hK hc i pins s σ H E I hf st hg
  subst hP hw hK
  obtain⟨f0,f1,f2,f3,f4,f5⟩:=hf it (by simp)
  have hi:i<x.cps.size:=hg
  have hx:x.cps[i]?=some x.cps[i]:=Array.getElem?_eq_getElem hi
  have fin:∀h',h'.IsStrIter it (strIterType x) x t (i+1)→Heap.SameBut it s.heap h'→∃u,some (Value.str ⟨#[x.cps[i]]⟩ s.toks)=some u ∧
    wpAny (model X.prog X.w) X.A (letOwnedTupleGo tg (.ref it) u) (fun _ s2=>∃v H',ji X pins σ H' s2∧jL v u∧(bV x).yld i H v H'∧s2.heap.IsStrIter it (strIterType x) x t (i+1)∧∀b∈[it],H' b=none) E { s with heap:=h',toks:=s.toks+1 }:=fun h' st' sb=>by
   have I1:ji X pins σ H { s with heap:=h',toks:=s.toks+1 }:=I.turned (fun b o hb e=>(sb.2 b hb).trans e) f0 f1 f3 f4 f5
   obtain⟨o,e,c,d⟩:=id st'
   refine⟨_,rfl,nG (s:={ s with heap:=h',toks:=s.toks+1 }) e c d ?_ ⟨.str ⟨#[x.cps[i]]⟩,H,I1,⟨_,rfl⟩,⟨rfl,_,hx,rfl⟩,st',fun b hb=>(hf b hb).1⟩⟩
   rcases z5 x with z|z<;>(rw [z];decide)
  rcases z5 x with z|z
  ·refine wpAny_pyNext_ascii_item (z▸st) hx fun h' st' sb=>fin h' (z▸st') sb
  ·refine wpAny_pyNext_wide_item (z▸st) hx fun h' st' sb=>fin h' (z▸st') sb
 done:=by
  intro X hP hw hK hc i pins s σ H E I hf st hg
  subst hP hw hK
  obtain⟨f0,f1,f2,f3,f4,f5⟩:=hf it (by simp)
  have hx:x.cps[i]?=none:=Array.getElem?_eq_none (show x.cps.size≤i from hg)
  rcases z5 x with z|z
  ·exact aR (I.hn.now I.hok) (z▸st) hx fun h' eb=>⟨rfl,I.turned (t':=s.toks) (fun b o hb e=>eb b o hb e) f0 f1 f3 f4 f5⟩
  ·exact dO (I.hn.now I.hok) (z▸st) hx fun h' eb=>⟨rfl,I.turned (t':=s.toks) (fun b o hb e=>eb b o hb e) f0 f1 f3 f4 f5⟩
 self:=fun A i s Q E st h=>by
  rcases z5 x with z|z
  ·exact wpAny_pyIter_striter_ascii (z▸st) h
  ·exact wpAny_pyIter_striter_wide (z▸st) h
section
variable {X:Cx}{tg:Expr}
def lm (tl:TE):TI:=fun σ H R=>tl σ H fun v H1=>∃x,v=.str x∧R (bV x) H1
theorem au {l:Expr}{tl:TE} (hl:PE X l tl):PI X tg l (lm tl):=by
 intro pins s σ H R I h
 refine jC (hl pins s σ H _ I h) fun v s1 hh=>?_
 obtain⟨y,H1,I1,r1,x,e,q⟩:=hh
 subst e
 obtain⟨t,rfl⟩:=r1
 refine wpAny_pyIter_strU ?_
 refine⟨s1.heap.objs.size,[s1.heap.objs.size],_,_,H1,rfl,I1.kept (t':=s1.toks) fun b o e=>Heap.get?_push_of_some _ e,gh.of (bP _ x t),⟨_,Heap.get?_push_size _ rfl,rfl,rfl⟩,fun b hb=>?_,q⟩
 obtain rfl:b=s1.heap.objs.size:=by simpa using hb
 exact I1.fpOk (Nat.le_refl _) (I1.hok.fresh (Nat.le_refl _))
end
end L2
namespace L2
open PySem PySem.Spec PyProof.Rows PySem.W
section
variable {X:Cx}{e:Expr}{te:TE}{pos p2 q1 q2:Pos}{j1 j2:Nat}
theorem Nl {bs:List Bool}:(List.range bs.length).all (fun j=>bs.getD j true)=bs.all id:=by
 rw [Bool.eq_iff_iff,List.all_eq_true,List.all_eq_true]
 constructor
 ·intro h b hb
  obtain⟨j,hj,rfl⟩:=List.getElem_of_mem hb
  have:=h j (List.mem_range.mpr hj)
  rwa [List.getD_eq_getElem?_getD,List.getElem?_eq_getElem hj] at this
 ·intro h j hj
  have hj:=List.mem_range.mp hj
  rw [List.getD_eq_getElem?_getD,List.getElem?_eq_getElem hj]
  exact h _ (List.getElem_mem hj)
theorem zJ (hc:X.calm=true):uN X (.builtin "all") (fun xs H Q=>∃(p:Addr) (bs:List Bool),xs=[.ref p]∧jl X.K H p (bs.map V.bl)∧Q (.bl (bs.all id)) H):=by
 intro pins s σ H xs us Q I r h
 obtain⟨p,bs,rfl,hq,q⟩:=h
 obtain⟨u,rfl,ru⟩:=vS r
 cases ru
 obtain⟨its,rv,pl,_⟩:=I.list hq
 have hlen:its.length=bs.length:=by rw [←rv.length,List.length_map]
 have hat:∀(i:Nat) (v:Value),its.toArray[i]?=some v→v=.bool (bs.getD i true):=fun i v e=>by
  have e':its[i]?=some v:=by simpa using e
  have hi:i<bs.length:=by rw [←hlen];exact (List.getElem?_eq_some_iff.mp e').1
  obtain⟨u,hu,ru⟩:=rv.get (i:=i) (x:=V.bl bs[i]) (by simp [hi])
  rw [e'] at hu;cases hu
  obtain rfl:=ru
  rw [List.getD_eq_getElem?_getD,List.getElem?_eq_getElem hi];rfl
 have hlt:p<s.heap.objs.size:=by obtain⟨_,e,_⟩:=pl.isList;exact Heap.lt_size e
 refine call_all_walk (wpAny_pyIter_list pl.isList ?_)
 refine⟨_,_,_,_,_,_,fun j=>bs.getD j true,rfl,Walks.list (A:=X.A.in1) (I.ok.hd hc) s.heap.objs.size p (Nat.ne_of_lt hlt) its.toArray,⟨⟨_,Heap.get?_push_size _ rfl,rfl,rfl⟩,pl.isList.push _⟩,?_,fun h' tk hk=>?_⟩
 ·intro i v s' Q' E' hP hq'
  obtain rfl:=hat i v hP
  exact wpAny_of_eq rfl hq'
 ·rw [List.size_toArray,hlen,Nl]
  exact⟨.bl _,H,I.kept fun b o e=>hk b o (fun hm=>by simp at hm;exact absurd (hm▸Heap.lt_size e) (Nat.lt_irrefl _)) (Heap.get?_push_of_some _ e),rfl,q⟩
end
end L2
namespace L2
open PySem PySem.Spec PyProof.Rows PySem.W
section
variable {X:Cx}
structure TupAt (h:Heap) (p:Addr×V×V):Prop where
 ex:∃u v,IsPair h p.1 u v∧jL p.2.1 u∧jL p.2.2 v
theorem KG {pins:oy}{σ:St}{s:Shared}:∀(ps:List (Addr×V×V)) (H:Hp),ji X pins σ H s→(∀p∈ps,TupAt s.heap p)→(∀p∈ps,H p.1=none∨H p.1=some (.tup [p.2.1,p.2.2])) →
  (∀p∈ps,X.s₀.heap.get? p.1=none∧p.1≠X.env.locals∧(∀x c,X.env.cells.lookup x=some c→c≠p.1)∧∀q∈X.pn++pins,q.1≠p.1) →
  ∃H',Same H H'∧ji X pins σ H' s∧(∀p∈ps,H' p.1=some (.tup [p.2.1,p.2.2]))∧∀b,b ∉ ps.map (·.1)→H' b=H b
 | [],H,I,_,_,_=>⟨H,Same.refl H,I,(fun _ h=>nomatch h),fun _ _=>rfl⟩
 | p::r,H,I,ht,hn,hf=>by
  obtain⟨u,v,e,r1,r2⟩:=(ht p (.head _)).ex
  obtain⟨H1,s1,I1,t1,o1⟩:∃H1,Same H H1∧ji X pins σ H1 s∧H1 p.1=some (.tup [p.2.1,p.2.2])∧∀b,b≠p.1→H1 b=H b:=by
   rcases hn p (.head _) with z|z
   ·obtain⟨f1,f2,f3,f4⟩:=hf p (.head _)
    refine⟨upd H p.1 (.tup [p.2.1,p.2.2]),fun b o q=>by rw [jj (jp q z)];exact q,I.track z f1 f2 f3 f4 ⟨by show 2≤sizeLine;decide,[u,v],.cons r1 (.cons r2 .nil),_,e,rfl,_,rfl⟩,jd,fun b hb=>jj hb⟩
   ·exact⟨H,Same.refl H,I,z,fun _ _=>rfl⟩
  obtain⟨H2,s2,I2,t2,o2⟩:=KG r H1 I1 (fun q hq=>ht q (.tail _ hq)) (fun q hq=>by
   by_cases eq:q.1=p.1
   ·refine .inr ?_
    obtain⟨u',v',e',q1,q2⟩:=(ht q (.tail _ hq)).ex
    rw [eq] at e'
    replace e':=e.symm.trans e'
    have e2:(#[u,v]:oH)=#[u',v']:=by
     have:=congrArg Obj.data (Option.some.inj e')
     injection this
    have e3:[u,v]=[u',v']:=congrArg Array.toList e2
    injection e3 with e4 e5
    injection e5 with e5 _
    subst e4 e5
    rw [eq,t1,r1.inj q1,r2.inj q2]
   ·rw [o1 q.1 eq];exact hn q (.tail _ hq)) fun q hq=>hf q (.tail _ hq)
  refine⟨H2,s1.trans s2,I2,fun q hq=>?_,fun b hb=>?_⟩
  ·rcases List.mem_cons.mp hq with rfl|hq
   ·exact s2 _ _ t1
   ·exact t2 q hq
  ·rw [List.map_cons,List.mem_cons,not_or] at hb
   rw [o2 b hb.2,o1 b hb.1]
end
end L2
namespace Wd
open PySem L2 PySem.NumText PySem.W
theorem len_list (x:Str):x.length=x.cps.toList.length:=by simp [Str.length]
end Wd
namespace L2
open PySem PySem.Spec PyProof.Rows
theorem bZ:bootBuiltins "all"=some (.builtin "all"):=by decide +kernel
theorem mL {H H':Hp}{D:Addr}{o:HO} (hD:H D=none) (s:Same H H'):Same H (upd H' D o):=fun b u e=>by rw [jj (jp e hD)];exact s b u e
theorem mj {x:Str}{g:TG}{tc:TT}{te:TE}{k:Nat}{σ:St}{H:Hp}{Q:VK} (p:Nat→Bool) (f:Nat→V) (hz:x.length≤sizeLine)
  (step:∀c∈x.cps.toList,∀(H':Hp) (Qy:VK) (Qn:Hp→Prop),Same H H'→(p c=true→∀H'',Same H' H''→Qy (f c) H'')→(p c=false→∀H'',Same H' H''→Qn H'')→g (.str ⟨#[c]⟩) (σ++List.replicate k none) H' fun σ2 H2=>(∃zs,σ2=σ++zs∧zs.length=k)∧tc σ2 H2 fun b H3=>if b=true then te σ2 H3 Qy else Qn H3)
  (q:∀D H',H D=none→Same H H'→H' D=some (.lst ((x.cps.toList.filter p).map f))→Q (.ref D) H'):gj k g tc te σ Q (bV x) H:=by
 intro D hD
 have hn:x.length=x.cps.toList.length:=Wd.len_list x
 refine⟨fun i m ys H'=>m=x.length - i∧i≤x.length∧ys=((x.cps.toList.take i).filter p).map f∧Same H H'∧H' D=some (.lst ys),⟨x.length,by simp,Nat.zero_le _,by simp,mL hD (Same.refl H),jd⟩,?_⟩
 rintro i m ys H' ⟨rfl,hi,rfl,sm,eD⟩
 refine⟨eD,?_⟩
 by_cases hlt:i<x.length
 ·refine .inr ⟨hlt,?_,fun v H2 y=>?_⟩
  ·have:=List.length_filter_le p (x.cps.toList.take i)
   rw [List.length_map]
   simp only [List.length_take] at this
   omega
  ·obtain⟨rfl,c,hc,rfl⟩:=y
   have hx:x.cps.toList[i]?=some c:=by rw [Array.getElem?_toList];exact hc
   have et:(x.cps.toList.take (i+1)).filter p=(x.cps.toList.take i).filter p++(if p c then [c] else []):=by
    rw [List.take_add_one,hx,List.filter_append]
    congr 1
    cases hpc:p c<;>simp [List.filter,hpc]
   refine step c (List.mem_of_getElem? hx) _ _ _ sm (fun hp H4 s4=>⟨s4 _ _ eD,x.length - (i+1),by omega,rfl,hlt,?_,mL hD (Same.trans sm s4),jd⟩) fun hp H4 s4=>⟨x.length - (i+1),by omega,rfl,hlt,?_,Same.trans sm s4,s4 _ _ eD⟩
   ·rw [et,hp];simp
   ·rw [et,hp];simp
 ·obtain rfl:i=x.length:=by omega
  refine .inl ⟨Nat.le_refl _,?_⟩
  rw [hn,List.take_length] at eD
  exact q D H' hD sm eD
end L2
namespace L2
open PySem PySem.Spec PyProof.Rows PySem.W
theorem zd {α:Type} [DecidableEq α] (d:α) (xs ys:List α):((List.range (min xs.length ys.length)).all (fun j=>decide (xs.getD j d=ys.getD j d))&&xs.length==ys.length)=decide (xs=ys):=by
 rw [Bool.eq_iff_iff,Bool.and_eq_true,List.all_eq_true,decide_eq_true_iff,beq_iff_eq]
 constructor
 ·rintro⟨h,hl⟩
  refine List.ext_getElem hl fun j h1 h2=>?_
  have:=of_decide_eq_true (h j (List.mem_range.mpr (by omega)))
  rwa [List.getD_eq_getElem?_getD,List.getD_eq_getElem?_getD,List.getElem?_eq_getElem h1,List.getElem?_eq_getElem h2] at this
 ·rintro rfl
  exact⟨fun j _=>decide_eq_true rfl,rfl⟩
theorem GN {lo:Int}{n:Nat}{g:TG}{tc:TT}{te:TE}{k:Nat}{σ:St}{H:Hp}{Q:VK} (Pv:Addr→Nat→List V→Hp→Prop) (hn:n≤sizeLine)
  (h0:∀D,H D=none→Pv D 0 [] (upd H D (.lst []))) (hD:∀D i ys H',Pv D i ys H'→H' D=some (.lst ys)∧ys.length=i)
  (step:∀D i ys H' (Qy:VK) (Qn:Hp→Prop),i<n→Pv D i ys H'→(∀y H4,H4 D=some (.lst ys)→Pv D (i+1) (ys++[y]) (upd H4 D (.lst (ys++[y])))→Qy y H4) →
   g (.int (lo+i)) (σ++List.replicate k none) H' fun σ2 H2=>(∃zs,σ2=σ++zs∧zs.length=k)∧tc σ2 H2 fun b H3=>if b=true then te σ2 H3 Qy else Qn H3)
  (q:∀D ys H',H D=none→Pv D n ys H'→Q (.ref D) H'):gj k g tc te σ Q (Ke lo n) H:=by
 intro D hDn
 refine⟨fun i m ys H'=>m=n - i∧i≤n∧Pv D i ys H',⟨n,by simp,Nat.zero_le _,h0 D hDn⟩,?_⟩
 rintro i m ys H' ⟨rfl,hi,p⟩
 obtain⟨e,hl⟩:=hD D i ys H' p
 refine⟨e,?_⟩
 by_cases hlt:i<n
 ·refine .inr ⟨hlt,by omega,fun x H2 y=>?_⟩
  obtain⟨rfl,rfl⟩:=y
  exact step D i ys H2 _ _ hlt p fun y H4 e4 p4=>⟨e4,n - (i+1),by omega,rfl,hlt,p4⟩
 ·obtain rfl:i=n:=by omega
  exact .inl ⟨Nat.le_refl _,q D ys H' hDn p⟩
theorem VO {K:oq}{a:Addr}{xs:List V}{g:TG}{tc:TT}{te:TE}{k:Nat}{σ:St}{H:Hp}{Q:VK} (Pv:Addr→Nat→List V→Hp→Prop) (hz:xs.length≤sizeLine)
  (h0:∀D,H D=none→Pv D 0 [] (upd H D (.lst []))) (hD:∀D i ys H',Pv D i ys H'→H' D=some (.lst ys)∧ys.length≤i∧jl K H' a xs)
  (step:∀D i x ys H' (Qy:VK) (Qn:Hp→Prop),xs[i]?=some x→Pv D i ys H'→(∀y H4,H4 D=some (.lst ys)→Pv D (i+1) (ys++[y]) (upd H4 D (.lst (ys++[y])))→Qy y H4)→(∀H4,Pv D (i+1) ys H4→Qn H4) →
   g x (σ++List.replicate k none) H' fun σ2 H2=>(∃zs,σ2=σ++zs∧zs.length=k)∧tc σ2 H2 fun b H3=>if b=true then te σ2 H3 Qy else Qn H3)
  (q:∀D ys H',H D=none→Pv D xs.length ys H'→Q (.ref D) H'):gj k g tc te σ Q (K7 K a) H:=by
 intro D hDn
 refine⟨fun i m ys H'=>m=xs.length - i∧i≤xs.length∧Pv D i ys H',⟨xs.length,by simp,Nat.zero_le _,h0 D hDn⟩,?_⟩
 rintro i m ys H' ⟨rfl,hi,p⟩
 obtain⟨e,hl,q1⟩:=hD D i ys H' p
 refine⟨e,?_⟩
 by_cases hlt:i<xs.length
 ·refine .inr ⟨⟨xs,xs[i],q1,by simp [hlt]⟩,by omega,fun x H2 y=>?_⟩
  obtain⟨rfl,y⟩:=y
  exact step D i x ys H2 _ _ (y xs q1) p (fun y H4 e4 p4=>⟨e4,xs.length - (i+1),by omega,rfl,hlt,p4⟩) fun H4 p4=>⟨xs.length - (i+1),by omega,rfl,hlt,p4⟩
 ·obtain rfl:i=xs.length:=by omega
  exact .inl ⟨⟨xs,q1,Nat.le_refl _⟩,q D ys H' hDn p⟩
section
variable {X:Cx}{K:oq}
theorem Zv (h:X.K=K):uN X (.type "list") (fun xs H Q=>∃p ys,xs=[.ref p]∧(jl K H p ys∨Ji K H p ys)∧∀l,H l=none→Q (.ref l) (upd H l (.lst ys))):=by
 subst h;exact UZ
end
end L2
namespace L2
open PySem PySem.Spec PyProof.Rows
def iR (K:oq) (C0:Addr) (tb:XK→TS) (th:TS):TS:=fun D σ H =>
 tb (fun cls _ H1=>∃C,cls=.ref C∧exmOne K (.ref C) (.ref C0)=some true∧∀ea oe σ1,H1 ea=none→th { nx:=fun _ _=>False,rt:=D.rt } σ1 (upd H1 ea (.frz oe (.exc ea C)))) D σ H
section
variable {X:Cx}{body:List Stmt}{b0:Stmt}{suite:List Stmt}{cn:Str}{np hpos pos:Pos}{C0:Addr}{tb:XK→TS}{th:TS}
theorem dh (hcm:X.calm=true) (hx0:X.ex=[]) (hst:X.stack=X.env::X.outer) (hf:X.env.frame=some X.env.locals) (hg:Gl X cn) (hm:X.mg cn=some (.ref C0))
  (hb:∀(pins:oy) (E:oh) (Es:XK),UD (XC X.prog X.w) (X.tryb pins E) Es→zb (X.tryb pins E) body (tb Es)) (hh:∀e,zb (X.hand e) (b0::suite) th)
  (hd:(cn==("__debug__":Str))=false:=by decide) :
  PS X (.Try body [.ExceptHandler (some (.Name cn np)) none (b0::suite) hpos] [] [] pos) (iR X.K C0 tb th):=by
 intro pins s σ H D I h
 have pass:UD (XC X.prog X.w) (X.tryb pins fun e s1=>wpAny (model X.prog X.w) X.A (noteFrame e X.env) (fun _ s2=>wpAny (model X.prog X.w) X.A (setFlight e none) (fun _ s3 =>
   wpAny (model X.prog X.w) X.A (handleBy e X.env [.ExceptHandler (some (.Name cn np)) none (b0::suite) hpos]) (SP X pins D) X.xe s3) X.xe s2) X.xe s1)
   (fun cls _ H1=>∃C,cls=.ref C∧exmOne X.K (.ref C) (.ref C0)=some true∧∀ea oe σ1,H1 ea=none→th { nx:=fun _ _=>False,rt:=D.rt } σ1 (upd H1 ea (.frz oe (.exc ea C)))):=by
  intro pins1 σ1 H1 s1 e s' I1 hx
  obtain⟨ea,C,H',rfl,os,bare,un,hok,fl,Cc,ec,hex,q⟩:=hx
  cases ec
  have J:ji X pins σ1 H1 s1:=I1.untry
  have J1:ji X pins σ1 H' s':=J.call' (ch:=[]) os un hok bare (fun b z=>absurd z (by simp))
  obtain⟨oe,vs,T,oT,ts,a0,e1,e2,e3,e4,e5,e7,e8,e9,e10,e11,e12,c3,cx⟩:=fl.ex
  have hfr:X.A.frames=some (X.env::X.outer):=by rw [←hst];exact I.ok.frames
  have hch:∀b∈[ea,T],s1.heap.get? b=none∧H' b=none:=fun b hb=>by
   rcases List.mem_cons.mp hb with rfl|hb
   ·exact⟨fl.new,fl.free⟩
   ·obtain rfl:b=T:=by simpa using hb
    exact⟨e11,e12⟩
  show wpAny _ _ (noteFrame (.ref ea) X.env) _ _ _
  refine ZZ (base:=hideAll s'.heap ([ea,T]++uy X.stack)) (cls:=.ref C) (a0:=a0) hfr (V3 J1 hst [ea,T]) hf
   ⟨oe,vs,T,oT,ts,e1,⟨e2,e3,c3⟩,e4,e5,hideAll_none _ (by simp),e7,e8,e9,e10⟩ (fun b o q=>of_hideAll _ q) (hideAll_none _ (by simp)) fun h2 S2=>?_
  refine VC (s:={ s' with heap:=h2 }) S2.st S2.ff S2.tr fun h3 S3 _=>?_
  obtain⟨J3,F3⟩:=Va (ch:=[ea,T]) J hst os bare un hok hch (by simp) cx ⟨S3.st,S3.ff,S3.tr,S2.up.trans S3.up⟩
  have hA:X.A.handled=none:=I.ok.hd hcm
  have nL:ea≠X.env.locals:=fun z=>by
   obtain⟨m,⟨o,_,_,ho,_⟩,_⟩:=J.loc
   have:=fl.new;rw [z,ho] at this;cases this
  have h0':X.s₀.heap.get? ea=none:=by
   cases q0:X.s₀.heap.get? ea with
   | none=>rfl
   | some o =>
    obtain⟨o',z⟩:=J.base.there ea o q0 (by rw [hx0];simp)
    have:=fl.new;rw [z] at this;cases this
  have track:∀g,ji X pins σ1 H' { s' with heap:=g }→V2 s1.heap g H' ea C→∃ob us c,g.get? ea=some ob∧ob.cls=.ref C∧ob.data=.fields us∧(us[2]?=some c∧VW H' c)∧ji X pins σ1 (upd H' ea (.frz ob (.exc ea C))) { s' with heap:=g }:=fun g Jg Fg=>by
   obtain⟨ob,us,_,_,_,b0',f1,f2,_,f4,_,_,_,_,_,_,_,f5,f6⟩:=Fg.ex
   exact⟨ob,us,b0'.2,f1,f2,f4,⟨f5,f6⟩,Jg.track Fg.free h0' nL (fun x c ec z=>by
    obtain⟨v,o,ho,_⟩:=J.cell x c ec
    have:=fl.new;rw [←z,ho] at this;cases this) (fun p hp z=>by
    have:=(J.pin p hp).1
    rw [z,fl.new] at this;cases this) ⟨f1,NF ⟨ob,us,f1,f2,f4⟩⟩⟩
  obtain⟨o3,v3,x3,g1,g2,g3,g4,J3t⟩:=track h3 J3 F3
  have J3h:ji (X.hand (.ref ea)) pins σ1 (upd H' ea (.frz o3 (.exc ea C))) { s' with heap:=h3 }:=J3t.hand (.inr ⟨ea,rfl,.cons jd g3 g4.1 (g4.2.upd fl.free)⟩)
  have L:PySem.W.Looks (model X.prog X.w) h3 (typeOf (.ref ea)) (.ref C):=g2▸(PySem.W.Looks.ld g1).andThen .now
  refine wpAny_handleBy_cons (codeAny_handlers_test (VD (X:=X.hand (.ref ea)) J3h hg hm ?_ hd)) (by intro q;cases q)
  refine (exm_one J3.kIn L hex).here ?_
  refine codeAny_handlers_suite ?_
  refine VC (s:={ s' with heap:=h3 }) S3.st S3.ff S3.tr fun h4 S4 _=>?_
  obtain⟨J4,F4⟩:=Va (ch:=[ea,T]) J hst os bare un hok hch (by simp) cx ⟨S4.st,S4.ff,S4.tr,(S2.up.trans S3.up).trans S4.up⟩
  obtain⟨o4,v4,x4,_,_,d4,c4,J5⟩:=track h4 J4 F4
  refine wpAny_mono (hh (.ref ea) pins _ _ _ { nx:=fun _ _=>False,rt:=D.rt } (J5.hand (.inr ⟨ea,rfl,.cons jd d4 c4.1 (c4.2.upd fl.free)⟩)) (q ea o4 _ F4.free)) (fun fl7 s7 q7=>?_) fun _ _ z=>z.elim
  cases fl7 with
  | next=>obtain⟨_,_,_,z⟩:=q7;exact z.elim
  | brk=>obtain⟨_,_,_,z⟩:=q7;exact z.elim
  | cont=>obtain⟨_,_,_,z⟩:=q7;exact z.elim
  | ret u =>
   obtain⟨v,σ7,H7,J7,r7,d7⟩:=q7
   exact⟨v,σ7,H7,J7.unhand I.ok.hd hA,r7,d7⟩
 refine wpAny_Try_except (wpAny_mono (hb pins _ _ pass [] s σ H D I.tryb h) (fun f s1 q1=>?_) fun e s1 q1=>q1)
 cases f with
 | next =>
  obtain⟨σ1,H1,I1,q⟩:=q1
  exact wpAny_execs_nil ⟨σ1,H1,I1.untry,q⟩
 | brk=>obtain⟨σ1,H1,I1,q⟩:=q1;exact⟨σ1,H1,I1.untry,q⟩
 | cont=>obtain⟨σ1,H1,I1,q⟩:=q1;exact⟨σ1,H1,I1.untry,q⟩
 | ret u=>obtain⟨v,σ1,H1,I1,r,q⟩:=q1;exact⟨v,σ1,H1,I1.untry,r,q⟩
end
section
variable {X:Cx}
def dm:V→List V→Hp→VK→Prop:=fun x vs H Q=>∃l xs y,∃i:Int,x=.ref l∧vs=[.int i,y]∧H l=some (.lst xs)∧xs.length<sizeLine∧0≤i∧i<2^63∧Q .non (upd H l (.lst (xs.take (min i.toNat xs.length)++[y]++xs.drop (min i.toNat xs.length))))
theorem af:dX X "list.insert" dm:=by
 intro pins s σ H x vs v us Q I rx rv h
 obtain⟨l,xs,y,i,rfl,rfl,hH,hz,h0,hi,q⟩:=h
 cases rx
 cases rv with
 | cons ra rr =>
  cases rr with
  | cons rb rr =>
   cases rr
   obtain⟨t,rfl⟩:=ra
   rename_i yv
   obtain⟨z,its,n,r,hl,e⟩:=I.lstM hH
   have hlen:=r.length
   have hfit:¬(!Builtin.List.listFitsIndex i)=true:=by rw [fitsIndex_both (by omega) hi];decide
   have hm:=AutoListH.list_insert_list_int_val_1 l its.toArray n i t yv hfit (by rw [List.size_toArray];omega)
   refine call_meets F.slot_list_insert ⟨_,e,rfl⟩ F.entry_list_insert (F.args_list_insert_3 _ _ _) hm ⟨e,?_⟩
   refine⟨.non,_,I.lset (its':=its.take (min i.toNat xs.length)++[yv]++its.drop (min i.toNat xs.length)) hH e ?_ (((r.take _).append (.cons rb .nil)).append (r.drop _)) ?_,rfl,q⟩
   ·dsimp only
    rw [if_neg (by omega),List.size_toArray,hlen]
    apply Array.toList_inj.mp
    simp only [Array.toList_append,Array.toList_push,Array.toList_extract,List.append_assoc]
    have e1:its.extract 0 (min i.toNat its.length)=its.take (min i.toNat its.length):=by simp [List.extract_eq_drop_take]
    have e2:its.extract (min i.toNat its.length)=its.drop (min i.toNat its.length):=by
     rw [List.extract_eq_drop_take]
     exact List.take_of_length_le (by rw [List.length_drop];omega)
    rw [e1,e2]
   ·rw [List.length_append,List.length_append,List.length_take,List.length_drop,List.length_singleton]
    omega
end
end L2
namespace L2
open PySem PySem.Spec PyProof.Rows
abbrev Cx.blkN (X:Cx) (N0:oG) (scope:Scope) (cl:oC) (C:Addr) (own:oG) (s:Shared) (H:Hp) (fp:oB) (pins:oy):Cx :=
 { X.blk scope cl C own s H fp pins with N:=N0++own }
structure vN (X:Cx) (N0:oG) (scope:Scope) (cl:oC):Prop where
 clos:closureFor scope X.env=pure cl
 kind:scope.kind=.function
 nocell:∀y∈scope.names,y.2≠.cell
 names:∀y∈scope.names,y.2=.local→scope.names.lookup y.1=some .local
 sub:∀x c,cl.lookup x=some c→X.env.cells.lookup x=some c
 has:∀x,scope.names.lookup x=some .free→∃c,cl.lookup x=some c
 outer:∀x,scope.names.lookup x=some .free→X.env.kindOf x=some .cell∨X.env.kindOf x=some .free
 lenN:N0.length=X.N.length
 nm:∀(i:Nat) (x:Str),N0[i]?=some x→(X.N[i]?=some x∧scope.names.lookup x≠some .local)∨scope.names.lookup x=none
theorem gk {X:Cx}{N0:oG}{scope:Scope}{N:oG} (hN:X.N=N) (hk:scope.kind=.function) (h1:(scope.names.all fun y=>y.2 != .free&&y.2 != .cell)=true) (h2:(scope.names.all fun y=>y.2 != .local||scope.names.lookup y.1==some .local)=true)
  (hl:N0.length=N.length) (h3:((N0.zip N).all fun y=>(y.1==y.2&&scope.names.lookup y.1 != some .local)||scope.names.lookup y.1==none)=true):vN X N0 scope [] where
 clos:=closureFor_none fun y hy=>by
  have:=List.all_eq_true.mp h1 y hy
  simp only [Bool.and_eq_true,bne_iff_ne] at this
  exact this.1
 kind:=hk
 nocell:=fun y hy=>by
  have:=List.all_eq_true.mp h1 y hy
  simp only [Bool.and_eq_true,bne_iff_ne] at this
  exact this.2
 names:=fun y hy e=>by
  have:=List.all_eq_true.mp h2 y hy
  rw [e] at this
  simpa using this
 sub:=fun x c e=>by cases e
 has:=fun x e=>by
  have:=List.all_eq_true.mp h1 _ (Jk e)
  simp at this
 outer:=fun x e=>by
  have:=List.all_eq_true.mp h1 _ (Jk e)
  simp at this
 lenN:=by rw [hN];exact hl
 nm:=fun i x e=>by
  have hi:i<N.length:=by rw [←hl];exact (List.getElem?_eq_some_iff.mp e).1
  have hz:(N0.zip N)[i]?=some (x,N[i]):=by rw [List.getElem?_zip_eq_some];exact⟨e,List.getElem?_eq_getElem hi⟩
  have:=List.all_eq_true.mp h3 _ (List.mem_of_getElem? hz)
  simp only [Bool.or_eq_true,Bool.and_eq_true,beq_iff_eq,bne_iff_ne] at this
  rcases this with ⟨q1,q2⟩|q
  ·exact .inl ⟨by rw [hN,List.getElem?_eq_getElem hi,←q1],q2⟩
  ·exact .inr q
section
variable {X:Cx}{scope:Scope}{cl:oC}{own N0:oG}{pins:oy}{σ:St}{H2 H3:Hp}{s2:Shared}{fp:oB}{C:Addr}{h1:Heap}
theorem cN (S:vN X N0 scope cl) (I2:ji X pins σ H2 s2) (f2:∀b∈fp,Vk X pins H2 b) (hlt:∀b∈fp,b<s2.heap.objs.size) (hC:s2.heap.objs.size≤C) {m:ox} (hns:h1.Ns C m)
  (keep:∀b o,s2.heap.get? b=some o→h1.get? b=some o) (hH:∀b o,s2.heap.get? b=some o→H2 b=none→H3 b=none) (un:Un (uy X.stack) fp H2 H3 s2.heap h1) (hok:JJ X.prog X.w H3 h1) (hCf:H3 C=none) {tk:Nat} :
  ji (X.blkN N0 scope cl C own s2 H2 fp pins) [] (σ++List.replicate own.length none) H3 { s2 with heap:=h1,toks:=tk }:=by
 have neC:∀b o,s2.heap.get? b=some o→b≠C:=fun b o e=>Nat.ne_of_lt (Nat.lt_of_lt_of_le (Heap.lt_size e) hC)
 have kof:∀x,(compEnvC scope cl C X.env).kindOf x=(scope.names.lookup x).map fun k=>if (k==NameKind.free&&X.env.scope.kind==.function&&X.env.kindOf x==some .cell) then NameKind.cell else k:=fun x=>zg
 have isfree:∀x,((compEnvC scope cl C X.env).kindOf x=some .cell∨(compEnvC scope cl C X.env).kindOf x=some .free)→scope.names.lookup x=some .free:=fun x hx=>by
  rw [kof x] at hx
  cases q:scope.names.lookup x with
  | none=>rw [q] at hx;rcases hx with z|z<;>cases z
  | some k =>
   rw [q] at hx
   have nc:=S.nocell _ (Jk q)
   cases k<;>simp_all
 refine⟨⟨I2.ok.mod,S.kind,I2.ok.glob,I2.ok.blt,hC,fun x y c e1 e2=>I2.ok.inj x y c (S.sub x c e1) (S.sub y c e2),fun x hx=>S.has x (isfree x hx),fun x c z _=>(by cases z),I2.ok.hd,I2.ok.frames,.inl rfl,
  fun b hb=>⟨Nat.ne_of_lt (Nat.lt_of_lt_of_le (hlt b hb) hC),fun x c e=>(f2 b hb).2.2.2.2.1 x c (S.sub x c e)⟩,fun b o e=>⟨(I2.bs b o e).1,(I2.bs b o e).2⟩,Nat.le_trans I2.ok.bsz I2.sz,fun b o e hb=>?_,fun b hb=>zV I2 (f2 b hb).2.1 (f2 b hb).2.2.1,I2.stack,I2.stkFree⟩,
  rfl,I2.bare,un,⟨m,hns,fun i x v e1 e2 e3=>?_⟩,fun x c e=>?_,hCf,fun x c e=>?_,fun p hp=>?_,hok,?_,I2.hn.mono un.frzs⟩
 ·rcases (f2 b hb).2.2.2.1 with z|z
  ·exact I2.ok.noex b o e z
  ·exact absurd (Nat.lt_of_lt_of_le (Nat.lt_of_lt_of_le (Heap.lt_size e) I2.ok.bsz) z) (Nat.lt_irrefl _)
 ·
  have hi:i<σ.length:=by
   apply Classical.byContradiction
   intro hn
   rw [List.getElem?_append_right (by omega),List.getElem?_replicate] at e2
   split at e2<;>cases e2
  rw [List.getElem?_append_left hi] at e2
  have Vh:i<N0.length:=by rw [S.lenN,←I2.len];exact hi
  have e0':N0[i]?=some x:=by rw [←List.getElem?_append_left (l₂:=own) Vh];exact e1
  have hnm:=S.nm i x e0'
  have e3':(compEnvC scope cl C X.env).kindOf x=some .local∨(compEnvC scope cl C X.env).kindOf x=some .cell∨(compEnvC scope cl C X.env).kindOf x=some .free:=e3
  have hnm:X.N[i]?=some x∧scope.names.lookup x≠some .local:=hnm.resolve_right fun z=>by
   have k0:=kof x
   rw [z] at k0
   rcases e3' with q|q|q<;>(rw [k0] at q;cases q)
  have e1':X.N[i]?=some x:=hnm.1
  have nl:(compEnvC scope cl C X.env).kindOf x≠some .local:=fun z=>by
   rw [kof x] at z
   cases q:scope.names.lookup x with
   | none=>rw [q] at z;cases z
   | some k =>
    rw [q,Option.map_some] at z
    have na:=hnm.2
    rw [q] at na
    cases k<;>first
     | exact na rfl
     | (have z':=Option.some.inj z;split at z'<;>cases z')
  have hcf:(compEnvC scope cl C X.env).kindOf x=some .cell∨(compEnvC scope cl C X.env).kindOf x=some .free:=e3'.resolve_left nl
  obtain⟨c,hc⟩:=S.has x (isfree x hcf)
  obtain⟨m0,hn0,hl0⟩:=I2.loc
  have hcX:=S.sub x c hc
  have ho:=S.outer x (isfree x hcf)
  obtain⟨u,r,l⟩:=hl0 i x v e1' e2 (.inr ho)
  refine⟨u,r,.inr ⟨hcf,c,hc,?_⟩⟩
  rcases l with ⟨z,_⟩|⟨_,c',hc',oc,hoc,hdc⟩
  ·rcases ho with y|y<;>(rw [y] at z;cases z)
  ·rw [hcX] at hc'
   cases hc'
   exact⟨oc,keep _ _ hoc,hdc⟩
 ·obtain⟨v,⟨oc,hoc,hdc⟩⟩:=I2.cell x c (S.sub x c e)
  exact⟨v,oc,keep _ _ hoc,hdc⟩
 ·obtain⟨v,⟨oc,hoc,hdc⟩⟩:=I2.cell x c (S.sub x c e)
  exact hH c oc hoc (I2.freeC x c (S.sub x c e))
 ·obtain⟨q1,q2,q3,q4,q5⟩:=I2.pin p (by simpa using hp)
  exact⟨keep _ _ q1,hH _ _ q1 q2,neC _ _ q1,zV I2 q3 q4,q5⟩
 ·show (σ++List.replicate own.length none).length=(N0++own).length
  rw [List.length_append,List.length_append,List.length_replicate,I2.len,S.lenN]
theorem aU (I2:ji X pins σ H2 s2) (f2:∀b∈fp,Vk X pins H2 b) (hC:s2.heap.objs.size≤C) {pl:oy} {σ':St} {s4:Shared} {h':Heap} (I4:ji (X.blkN N0 scope cl C own s2 H2 fp pins) pl σ' H3 s4) (sb:Heap.SameBut C s4.heap h') :
  ji X pins σ H3 { s4 with heap:=h' }:=by
 have un:Un (uy X.stack) fp H2 H3 s2.heap s4.heap:=I4.base
 have nC:s2.heap.get? C=none:=Heap.get?_none_of_le hC
 have CF:C ∉ uy X.stack:=fun z=>by
  obtain⟨_,o,ho,_⟩:=I2.stack.mem z
  rw [nC] at ho;cases ho
 have un2:Un (uy X.stack) fp H2 H3 s2.heap h':=un.late (ch:=[C]) (fun b hb=>by
  obtain rfl:b=C:=by simpa using hb
  exact nC) (fun b o _ hb e=>(sb.2 b (by simpa using hb)).trans e) fun b o hb e=>⟨o.slots,(sb.2 b fun z=>CF (z▸hb)).trans e⟩
 have hf:H3 C=none:=I4.free
 have hok:JJ X.prog X.w H3 h':=fun b o e=>(I4.hok b o e).stay (fun c u hc q=>(sb.2 c fun z=>by
  subst z
  rcases hc with z|z
  ·rw [z,e] at hf;cases hf
  ·rw [z] at hf;cases hf).trans q) (fun _ q=>q) fun _ _ q=>q
 exact I2.call' (s':={ s4 with heap:=h' }) (ch:=fp) I4.os un2 hok I4.bare fun b hb=>⟨(f2 b hb).2.2.2.1,(f2 b hb).2.1,(f2 b hb).2.2.2.2.1,(f2 b hb).2.2.2.2.2⟩
end
section
variable {X:Cx}{tg elt iter:Expr}{ifs:oI}{scope:Scope}{cl:oC}{own N0:oG}{wi:TI}{g:TG}{tc:TT}{te:TE}{pos:Pos}
theorem GM {p2:Pos}{use:Option (Value→Sem Unit)}{QV:oh}{pins:oy}{s:Shared}{σ:St}{H:Hp}{Q:VK} (S:vN X N0 scope cl) (hi:PI X tg iter wi)
  (hg:∀C s H fp pins,PG (X.blkN N0 scope cl C own s H fp pins) tg g) (ht:∀C s H fp pins,PF (X.blkN N0 scope cl C own s H fp pins) ifs tc) (he:∀C s H fp pins,PE (X.blkN N0 scope cl C own s H fp pins) elt te)
  (hs:∀x,foldedSetIterable iter X.env x=pure x) (I:ji X pins σ H s) (h:gH wi own.length g tc te σ H Q)
  (fin:∀D C s2 H2 H3 s4,ji X pins σ H2 s2→s2.heap.objs.size≤C→H3 C=none→(∃m,s4.heap.Ns C m)→(∀h',Heap.SameBut C s4.heap h'→ji X pins σ H3 { s4 with heap:=h' })→Q (.ref D) H3→compPost (model X.prog X.w) X.A X.xe use QV (.ref D) C (.ok .next) s4) :
  wpAny (model X.prog X.w) X.A (comprehension (.ListComp elt [⟨tg,iter,ifs,0⟩] scope pos) scope X.env p2 (newList []) false (eval iter X.env) use) QV X.xe s:=by
 refine wpAny_comprehension_free (use:=use) rfl hs S.clos S.kind S.names (jC (hi pins s σ H _ I h) fun v s1 h1=>jC h1 fun itv s2 h2=>?_)
 obtain⟨it,fp,tn,J,H2,e,I2,T,st2,f2,R⟩:=h2
 subst e
 obtain⟨nm,T,hc⟩:=T
 refine wpAny_newObj_type (wpAny_newFunctionEnv S.nocell (by intro y hy;simp at hy) (fun h1 hns hsb=>?_) S.kind)
 dsimp only at hns hsb ⊢
 have hlt:∀b∈fp,b<s2.heap.objs.size:=fun b hb=>by
  obtain⟨o,ho,_⟩:=T.obj 0 _ st2 b hb
  exact Heap.lt_size ho
 generalize hp:s2.heap.push { cls:=.type "list",dict:=none,data:=.seq ([]:oA).toArray }=hl at hns hsb ⊢
 have hC:hl.objs.size=s2.heap.objs.size+1:=by rw [←hp,Heap.size_push]
 have hCle:s2.heap.objs.size≤hl.objs.size:=by rw [hC];exact Nat.le_succ _
 have hDC:s2.heap.objs.size≠hl.objs.size:=by rw [hC];exact Nat.ne_of_lt (Nat.lt_succ_self _)
 have old:∀b o,hl.get? b=some o→h1.get? b=some o:=fun b o e=>hsb.extBut b o (Nat.ne_of_lt (Heap.lt_size e)) (Heap.get?_push_of_some _ e)
 have old2:∀b o,s2.heap.get? b=some o→h1.get? b=some o:=fun b o e=>old b o (hp▸Heap.get?_push_of_some _ e)
 have Dn:H2 s2.heap.objs.size=none:=I2.fresh
 have Cn:H2 hl.objs.size=none:=I2.hok.fresh hCle
 obtain⟨W,⟨m0,w0⟩,step⟩:=R s2.heap.objs.size Dn
 have hobj:h1.get? s2.heap.objs.size=some { cls:=.type "list",data:=.seq ([]:oA).toArray }:=old _ _ (hp▸Heap.get?_push_size _ rfl)
 have I3:ji (X.blkN N0 scope cl hl.objs.size own s2 H2 fp pins) [] (σ++List.replicate own.length none) (upd H2 s2.heap.objs.size (.lst [])) { s2 with heap:=h1,toks:=s2.toks+([]:List (Str×Value)).length } :=
  cN S I2 f2 hlt hCle hns old2 (fun b o e n=>by rw [jj (Nat.ne_of_lt (Heap.lt_size e))];exact n) (Un.laid old2 (Nat.le_refl _) Dn) (I2.hok.laid old2 (Nat.le_refl _) (show j0 X.prog X.w (upd H2 s2.heap.objs.size (.lst [])) h1 s2.heap.objs.size (.lst []) from⟨Nat.zero_le _,[],0,.nil,hobj⟩)) (by rw [jj (Ne.symm hDC)];exact Cn)
 have fpn:∀b∈fp,upd H2 s2.heap.objs.size (.lst []) b=none:=fun b hb=>by rw [jj (Nat.ne_of_lt (hlt b hb))];exact (f2 b hb).1
 have stat:∀{H':Hp},(∀b∈fp,H' b=none)→∀b∈fp,Vk (X.blkN N0 scope cl hl.objs.size own s2 H2 fp pins) [] H' b:=fun hn b hb =>
  ⟨hn b hb,Nat.ne_of_lt (Nat.lt_of_lt_of_le (hlt b hb) hCle),zV I2 (f2 b hb).2.1 (f2 b hb).2.2.1,.inl hb,fun x c e=>(f2 b hb).2.2.2.2.1 x c (S.sub x c e),fun p hp=>(f2 b hb).2.2.2.2.2 p (by simpa using hp)⟩
 have loop:∀s3:Shared,s3={ s2 with heap:=h1,toks:=s2.toks+([]:List (Str×Value)).length } →
   codeAny (model X.prog X.w) X.A (.compLoop (.ListComp elt [⟨tg,iter,ifs,0⟩] scope pos) 0 (.ref it) (.ref s2.heap.objs.size) (compEnvC scope cl hl.objs.size X.env)) (compPost (model X.prog X.w) X.A X.xe use QV (.ref s2.heap.objs.size) hl.objs.size) s3:=by
  rintro s3 rfl
  refine GO (fun n s'=>∃i ys H',ji (X.blkN N0 scope cl hl.objs.size own s2 H2 fp pins) [] (σ++List.replicate own.length none) H' s'∧tn i s'.heap∧(∀b∈fp,H' b=none)∧W i n ys H') ?_ m0
   ⟨0,[],_,I3,T.keep 0 _ _ st2 (fun b _ o e=>old2 b o e),fpn,w0⟩
  rintro n s3 ⟨i,ys,H3,J3,st3,fr3,w3⟩
  obtain⟨hD,⟨stop,q⟩|⟨go,hlen,turn⟩⟩:=step i n ys H3 w3
  ·refine jC (T.done (X.blkN N0 scope cl hl.objs.size own s2 H2 fp pins) rfl rfl rfl hc i [] s3 _ H3 _ J3 (stat fr3) st3 stop) fun r s4 ⟨hr,J4⟩=>?_
   subst hr
   obtain⟨m4,hn4,_⟩:=J4.loc
   exact fin _ _ s2 H2 H3 s4 I2 hCle J4.free ⟨m4,hn4⟩ (fun h' sb=>aU I2 f2 hCle J4 sb) q
  ·refine jC (T.item (X.blkN N0 scope cl hl.objs.size own s2 H2 fp pins) rfl rfl rfl hc i [] s3 _ H3 _ J3 (stat fr3) st3 go) fun r s4 ⟨u,hr,h4⟩=>?_
   subst hr
   refine jC h4 fun _ s5 hh=>?_
   obtain⟨x,H5,J5,r5,y5,st5,fr5⟩:=hh
   have J5':=J5.pinned (stat fr5) (T.obj _ _ st5)
   refine jC (hg _ _ _ _ _ _ s5 _ H5 x u _ J5' r5 (turn x H5 y5)) fun _ s6 hh=>?_
   obtain⟨σ6,H6,J6,⟨ts,e6,hts⟩,q6⟩:=hh
   subst e6
   refine jC (ht _ _ _ _ _ _ s6 _ H6 _ J6 q6) fun ok s7 ⟨H7,J7,q7⟩=>?_
   have again:∀{s8:Shared} {H8:Hp} {zs:List V},ji (X.blkN N0 scope cl hl.objs.size own s2 H2 fp pins) ([]++zT fp s5.heap) (σ++ts) H8 s8→(∃m',m'<n∧W (i+1) m' zs H8) →
     ∃m,m<n∧∃i ys H',ji (X.blkN N0 scope cl hl.objs.size own s2 H2 fp pins) [] (σ++List.replicate own.length none) H' s8∧tn i s8.heap∧(∀b∈fp,H' b=none)∧W i m ys H':=fun {s8 H8 zs} J8 ⟨m',hm,w8⟩=>by
    refine⟨m',hm,i+1,zs,H8,?_,T.keep _ _ _ st5 fun b hb o e=>(J8.pin (b,o) (List.mem_append_right _ (List.mem_append_right _ (vP hb e)))).1,fun b hb=>?_,w8⟩
    ·refine J8.unpinned.weak (by rw [List.length_append,List.length_append,List.length_replicate,hts]) fun j v ej=>?_
     by_cases hj:j<σ.length
     ·rw [List.getElem?_append_left hj] at ej ⊢
      exact ej
     ·rw [List.getElem?_append_right (by omega),List.getElem?_replicate] at ej
      split at ej<;>cases ej
    ·obtain⟨o,e,d⟩:=T.obj _ _ st5 b hb
     exact (J8.pin (b,o) (List.mem_append_right _ (List.mem_append_right _ (vP hb e)))).2.1
   cases ok with
   | false=>exact again J7 q7
   | true =>
    refine jC (he _ _ _ _ _ _ s7 _ H7 _ J7 q7) fun z s8 hh=>?_
    obtain⟨y,H8,J8,r8,hD8,q8⟩:=hh
    refine jC (JX _ s8 _ H8 (.ref s2.heap.objs.size) [y] _ [z] (fun _ H9=>∃m',m'<n∧W (i+1) m' (ys++[y]) H9) J8 rfl (.cons r8 .nil) ⟨_,ys,y,rfl,rfl,hD8,hlen,q8⟩) fun _ s9 ⟨_,H9,J9,_,q9⟩=>again J9 q9
 exact codeAny_compStart_list (loop _ rfl) (T.self _ 0 _ _ _ (T.keep 0 _ _ st2 fun b _ o e=>old2 b o e) (loop _ rfl))
theorem Gv (S:vN X N0 scope cl) (hi:PI X tg iter wi)
  (hg:∀C s H fp pins,PG (X.blkN N0 scope cl C own s H fp pins) tg g) (ht:∀C s H fp pins,PF (X.blkN N0 scope cl C own s H fp pins) ifs tc) (he:∀C s H fp pins,PE (X.blkN N0 scope cl C own s H fp pins) elt te)
  (hs:∀x,foldedSetIterable iter X.env x=pure x:=by intro _;rfl):PE X (.ListComp elt [⟨tg,iter,ifs,0⟩] scope pos) (gH wi own.length g tc te):=by
 intro pins s σ H Q I h
 rw [eval_ListComp]
 exact GM (use:=none) (QV:=EP X pins σ Q) S hi hg ht he hs I h fun D C s2 H2 H3 s4 _ _ _ hn inv q=>hn.elim fun m hn=>⟨m,hn,fun h' sb=>⟨.ref D,H3,inv h' sb,rfl,q⟩⟩
theorem Gi {i:Nat}{x:Str}{pos' spos:Pos} (hN:X.N.Nodup) (hix:X.N[i]?=some x) (hx:MB X.env.scope x) (S:vN X N0 scope cl) (hi:PI X tg iter wi)
  (hg:∀C s H fp pins,PG (X.blkN N0 scope cl C own s H fp pins) tg g) (ht:∀C s H fp pins,PF (X.blkN N0 scope cl C own s H fp pins) ifs tc) (he:∀C s H fp pins,PE (X.blkN N0 scope cl C own s H fp pins) elt te)
  (hs:∀x,foldedSetIterable iter X.env x=pure x:=by intro _;rfl) (hsw:swapsWith (.ListComp elt [⟨tg,iter,ifs,0⟩] scope pos) (some (.Name x pos')) spos.line X.env=pure true:=by rfl)
  (hf:X.fn x=true∨X.env.scope.names.lookup x=some .local:=by first|exact .inl rfl|exact .inr rfl|assumption) :
  PS X (.Assign [.Name x pos'] (.ListComp elt [⟨tg,iter,ifs,0⟩] scope pos) spos) (Nb (gH wi own.length g tc te) (K0 i)):=by
 intro pins s σ H D I h
 rw [exec_Assign_Name_used _ _ _ _ hsw]
 refine oN (wpAny_standAt (oN ?_))
 show wpAny _ X.A (do let _ ←comprehension (.ListComp elt [⟨tg,iter,ifs,0⟩] scope pos) scope X.env _ (newList []) false (eval iter X.env) (some (assign (.Name x pos') X.env))) _ _ s
 refine oN (wpAny_mono (GM (pos:=pos) (use:=some (assign (.Name x pos') X.env)) (QV:=fun _ s'=>SP X pins D .next s') S hi hg ht he hs I h fun Da C s2 H2 H3 s4 I2 hC hfree hn inv q=>?_) (fun _ s' hq=>oO (oO hq)) fun _ _ e=>e)
 obtain⟨m,hn⟩:=hn
 have I4:ji X pins σ H3 s4:=inv s4.heap (Heap.SameBut.refl _ _)
 have nC:s2.heap.get? C=none:=Heap.get?_none_of_le hC
 refine wpAny_assign_Name (Z9 I4 hN hix hx (show jL (.ref Da) (.ref Da) from rfl) (fun s5 I5 ⟨a,sb,ha⟩=>⟨m,hn.sameBut sb ?_,fun h' sb'=>⟨_,H3,I5.let_go I2 hC hfree sb',q⟩⟩) hf)
 rintro rfl
 rcases ha with z|z
 ·obtain⟨_,hn2,_⟩:=I2.loc
  obtain⟨_,_,_,hL,_⟩:=hn2
  rw [←z,nC] at hL;cases hL
 ·obtain⟨_,_,hc,_⟩:=I2.cell x _ z
  rw [nC] at hc;cases hc
end
theorem cQ {X:Cx}{N0:oG}{scope:Scope}{N:oG}{n:Str}{a:Addr} (hN:X.N=N) (hk:scope.kind=.function) (hcl:closureFor scope X.env=pure [(n,a)]) (hsub:X.env.cells.lookup n=some a) (hout:X.env.kindOf n=some .cell)
  (h1:(scope.names.all fun y=>y.2 != .cell&&(y.2 != .free||y.1==n))=true) (h2:(scope.names.all fun y=>y.2 != .local||scope.names.lookup y.1==some .local)=true)
  (hl:N0.length=N.length) (h3:((N0.zip N).all fun y=>(y.1==y.2&&scope.names.lookup y.1 != some .local)||scope.names.lookup y.1==none)=true):vN X N0 scope [(n,a)] where
 clos:=hcl
 kind:=hk
 nocell:=fun y hy=>by
  have:=List.all_eq_true.mp h1 y hy
  simp only [Bool.and_eq_true,bne_iff_ne] at this
  exact this.1
 names:=fun y hy e=>by
  have:=List.all_eq_true.mp h2 y hy
  rw [e] at this
  simpa using this
 sub:=fun x c e=>by
  rw [List.lookup_cons] at e
  split at e
  ·rename_i q
   obtain rfl:x=n:=by simpa using q
   cases e;exact hsub
  ·cases e
 has:=fun x e=>by
  have:=List.all_eq_true.mp h1 _ (Jk e)
  simp at this
  exact⟨a,by rw [this];simp [List.lookup_cons]⟩
 outer:=fun x e=>by
  have:=List.all_eq_true.mp h1 _ (Jk e)
  simp at this
  exact .inl (this▸hout)
 lenN:=by rw [hN];exact hl
 nm:=fun i x e=>by
  have hi:i<N.length:=by rw [←hl];exact (List.getElem?_eq_some_iff.mp e).1
  have hz:(N0.zip N)[i]?=some (x,N[i]):=by rw [List.getElem?_zip_eq_some];exact⟨e,List.getElem?_eq_getElem hi⟩
  have:=List.all_eq_true.mp h3 _ (List.mem_of_getElem? hz)
  simp only [Bool.or_eq_true,Bool.and_eq_true,beq_iff_eq,bne_iff_ne] at this
  rcases this with ⟨q1,q2⟩|q
  ·exact .inl ⟨by rw [hN,List.getElem?_eq_getElem hi,←q1],q2⟩
  ·exact .inr q
end L2
namespace L2
open PySem PySem.Spec PyProof.Rows
section
variable {κ:Type} [DecidableEq κ]
def JH (kvs:List (κ×V)) (k:κ):Option V:=(kvs.find? fun kv=>decide (kv.1=k)).map (·.2)
def vV (kvs:List (κ×V)) (k:κ) (v:V):List (κ×V) :=
 if (kvs.any fun kv=>decide (kv.1=k))=true then kvs.map (fun kv=>if kv.1=k then (kv.1,v) else kv) else kvs++[(k,v)]
theorem zt {p:κ×V}{r:List (κ×V)}{k:κ} (e:p.1=k):JH (p::r) k=some p.2:=by simp [JH,List.find?_cons,e]
theorem zr {p:κ×V}{r:List (κ×V)}{k:κ} (e:¬p.1=k):JH (p::r) k=JH r k:=by simp [JH,List.find?_cons,e]
theorem zq (k:κ):∀kvs:List (κ×V),(kvs.any fun kv=>decide (kv.1=k))=(JH kvs k).isSome
 | []=>rfl
 | p::r=>by
  rw [List.any_cons]
  by_cases e:p.1=k
  ·simp only [zt e,decide_eq_true e,Bool.true_or,Option.isSome_some]
  ·rw [zr e,decide_eq_false e,Bool.false_or];exact zq k r
theorem VN (kvs:List (κ×V)) (k:κ) (v:V):(vV kvs k v).length≤kvs.length+1:=by
 unfold vV
 split
 ·rw [List.length_map];omega
 ·rw [List.length_append,List.length_cons,List.length_nil];omega
theorem mZ {kvs:List (κ×V)}{k:κ} (v:V) (h:JH kvs k=none):vV kvs k v=kvs++[(k,v)]:=by
 unfold vV
 rw [zq,h]
 exact if_neg (by decide)
theorem vU.isSome_eq {o:Option V}{u:Option Value} (r:vU o u):o.isSome=u.isSome:=by
 cases o with
 | none=>cases u with
  | none=>rfl
  | some _=>exact (show False from r).elim
 | some _=>cases u with
  | none=>exact (show False from r).elim
  | some _=>rfl
theorem KV.val {kvs:List (κ×V)}{vs:List (κ×Value)} (r:KV kvs vs) (k:κ):vU (JH kvs k) (valueAt vs k):=by
 unfold KV at r
 induction r with
 | nil=>exact True.intro
 | @cons p q ps qs h t ih =>
  obtain⟨h1,h2⟩:=h
  by_cases e:p.1=k
  ·have e':q.1=k:=h1.symm.trans e
   have b:valueAt (q::qs) k=some q.2:=by simp [valueAt,List.find?_cons,e']
   rw [zt e,b];exact h2
  ·have e':¬q.1=k:=fun z=>e (h1.trans z)
   have b:valueAt (q::qs) k=valueAt qs k:=by simp [valueAt,List.find?_cons,e']
   rw [zr e,b];exact ih
theorem KV.any {kvs:List (κ×V)}{vs:List (κ×Value)} (r:KV kvs vs) (k:κ):(kvs.any fun kv=>decide (kv.1=k))=vs.any fun kv=>decide (kv.1=k):=by
 unfold KV at r
 induction r with
 | nil=>rfl
 | cons h t ih=>rw [List.any_cons,List.any_cons,ih,h.1]
theorem KV.repl {kvs:List (κ×V)}{vs:List (κ×Value)} (r:KV kvs vs) (k:κ) {y:V} {u:Value} (ry:jL y u) :
  KV (kvs.map fun kv=>if kv.1=k then (kv.1,y) else kv) (vs.map fun kv=>if kv.1=k then (kv.1,u) else kv):=by
 unfold KV at r ⊢
 induction r with
 | nil=>exact .nil
 | @cons p q ps qs h t ih =>
  rw [List.map_cons,List.map_cons]
  refine .cons ?_ ih
  obtain⟨h1,h2⟩:=h
  by_cases e:p.1=k
  ·rw [if_pos e,if_pos (h1.symm.trans e)];exact⟨h1,ry⟩
  ·rw [if_neg e,if_neg (fun z=>e (h1.trans z))];exact⟨h1,h2⟩
theorem KV.put {kvs:List (κ×V)}{vs:List (κ×Value)} (r:KV kvs vs) (k:κ) {y:V} {u:Value} (ry:jL y u):KV (vV kvs k y) (stored vs k u):=by
 unfold vV stored
 rw [r.any k]
 by_cases e:(vs.any fun kv=>decide (kv.1=k))=true
 ·rw [if_pos e,if_pos e];exact r.repl k ry
 ·rw [if_neg e,if_neg e];exact Paired.snoc r ⟨rfl,ry⟩
theorem KV.length {kvs:List (κ×V)}{vs:List (κ×Value)} (r:KV kvs vs):kvs.length=vs.length:=Paired.length r
end
theorem G1 {P:oM}{w:World}{k:Key}{u:Value} (r:jL (kV k) u):(JO P w).is k u=true:=by
 cases k with
 | inl i=>obtain⟨t,e⟩:=(show ∃t,u=Value.int i t from r);subst e;exact Mm P w i t
 | inr x=>obtain⟨t,e⟩:=(show ∃t,u=Value.str x t from r);subst e;exact Mn P w x t
theorem mz {a b:Key} (e:kV a=kV b):a=b:=by
 cases a with
 | inl i=>cases b with
  | inl j=>have e':V.int i=V.int j:=e;injection e' with e';rw [e']
  | inr y=>exact nomatch (show V.int i=V.str y from e)
 | inr x=>cases b with
  | inl j=>exact nomatch (show V.str x=V.int j from e)
  | inr y=>have e':V.str x=V.str y:=e;injection e' with e';rw [e']
theorem Ks {P:oM}{w:World}:∀{ks:List Key} {us:oA},jE (ks.map kV) us→ItemsAre (JO P w) ks us
 | [],_,r=>by rw [List.map_nil] at r;cases r;exact .nil
 | k::ks,_,r=>by
  rw [List.map_cons] at r
  cases r with
  | cons h t=>exact .cons (G1 h) (Ks t)
abbrev KT (H:Hp):List (List Key×V)→List (List Key×Addr×Value)→Prop:=Paired fun p q=>p.1=q.1∧H q.2.1=some (.tup (p.1.map kV))∧jL p.2 q.2.2
theorem KT.val {H:Hp}{kvs:List (List Key×V)}{xs:List (List Key×Addr×Value)} (r:KT H kvs xs) (k:List Key):vU (JH kvs k) ((atKey xs k).map (·.2)):=by
 induction r with
 | nil=>exact True.intro
 | @cons p q ps qs h t ih =>
  obtain⟨h1,_,h2⟩:=h
  by_cases e:p.1=k
  ·have e':q.1=k:=h1.symm.trans e
   have b:atKey (q::qs) k=some q.2:=by simp [atKey,List.find?_cons,e']
   rw [zt e,b];exact h2
  ·have e':¬q.1=k:=fun z=>e (h1.trans z)
   have b:atKey (q::qs) k=atKey qs k:=by simp [atKey,List.find?_cons,e']
   rw [zr e,b];exact ih
theorem KT.repl {H:Hp}{kvs:List (List Key×V)}{xs:List (List Key×Addr×Value)} (r:KT H kvs xs) (k:List Key) {y:V} {u:Value} (ry:jL y u) :
  KT H (kvs.map fun kv=>if kv.1=k then (kv.1,y) else kv) (xs.map (putAt k u)):=by
 induction r with
 | nil=>exact .nil
 | @cons p q ps qs h t ih =>
  rw [List.map_cons,List.map_cons]
  refine .cons ?_ ih
  obtain⟨h1,h2,h3⟩:=h
  unfold putAt
  by_cases e:p.1=k
  ·rw [if_pos e,if_pos (h1.symm.trans e)];exact⟨h1,h2,ry⟩
  ·rw [if_neg e,if_neg (fun z=>e (h1.trans z))];exact⟨h1,h2,h3⟩
theorem KT.put {H:Hp}{kvs:List (List Key×V)}{xs:List (List Key×Addr×Value)} (r:KT H kvs xs) (k:List Key) {b:Addr} {y:V} {u:Value} (hb:H b=some (.tup (k.map kV))) (ry:jL y u) :
  KT H (vV kvs k y) (storedH xs k b u):=by
 have e:(kvs.any fun kv=>decide (kv.1=k))=(atKey xs k).isSome:=by
  rw [zq,(r.val k).isSome_eq,Option.isSome_map]
 unfold vV storedH
 rw [e]
 by_cases q:(atKey xs k).isSome=true
 ·rw [if_pos q,if_pos q];exact r.repl k ry
 ·rw [if_neg q,if_neg q];exact Paired.snoc r ⟨rfl,hb,ry⟩
theorem KT.keeps {H H':Hp}{kvs:List (List Key×V)}{xs:List (List Key×Addr×Value)} (r:KT H kvs xs) (ht:∀b ys,H b=some (.tup ys)→H' b=some (.tup ys)):KT H' kvs xs :=
 Paired.mapP r fun _ _ z=>⟨z.1,ht _ _ z.2.1,z.2.2⟩
section
variable {P:oM}{w:World}{H:Hp}{h:Heap}{a:Addr}
theorem cD {u:HO} (ok:JJ P w H h) (e:Rd H a u):j0 P w H h a u:=e.ok ok
theorem KY {kvs:List (Key×V)} (ok:JJ P w H h) (e:Rd H a (.dK kvs)):kvs.length≤sizeLine∧(a==sysModules)=false∧∃vs,KV kvs vs∧h.DictOf (JO P w) a vs :=
 show j0 P w H h a (.dK kvs) from cD ok e
theorem KW {kvs:List (Key×V)} (ok:JJ P w H h) (e:H a=some (.dK kvs)):kvs.length≤sizeLine∧(a==sysModules)=false∧∃vs,KV kvs vs∧h.DictOf (JO P w) a vs:=KY ok (.inl e)
theorem G2 {ks:List Key} (ok:JJ P w H h) (e:H a=some (.tup (ks.map kV))):(tupleKind (JO P w)).is h ks a:=by
 obtain⟨_,its,r,o,h1,h2,n,h3⟩:=(show j0 P w H h a (.tup (ks.map kV)) from ok a _ e)
 exact⟨o,its.toArray,n,h1,h2,h3,by simpa using Ks r⟩
theorem KZ {kvs:List (List Key×V)} (ok:JJ P w H h) (e:Rd H a (.dT kvs)):kvs.length≤sizeLine∧(a==sysModules)=false ∧
  ∃xs,KT H kvs xs∧h.DictOfH (tupleKind (JO P w)) a xs:=by
 obtain⟨z,y,xs,r,o,es,ep,h1,h2,h3,h4,h5⟩:=(show j0 P w H h a (.dT kvs) from cD ok e)
 refine⟨z,y,xs,r,o,es,ep,h1,h2,h3,h4,fun x hx=>?_,h5⟩
 have all:∀{l:List (List Key×V)} {m:List (List Key×Addr×Value)},KT H l m→∀x∈m,(tupleKind (JO P w)).is h x.1 x.2.1:=by
  intro l m q
  induction q with
  | nil=>intro x hx;exact nomatch hx
  | @cons p q ps qs hq t ih =>
   intro x hx
   rcases List.mem_cons.mp hx with e|hx
   ·subst e
    exact G2 ok (by rw [←hq.1];exact hq.2.1)
   ·exact ih x hx
 exact all r x hx
theorem ci {kvs:List (List Key×V)} (ok:JJ P w H h) (e:H a=some (.dT kvs)):kvs.length≤sizeLine∧(a==sysModules)=false ∧
  ∃xs,KT H kvs xs∧h.DictOfH (tupleKind (JO P w)) a xs:=KZ ok (.inl e)
end
def zA (H:Hp) (a:Addr) (y:V) (r:Option V):Prop :=
 (∃kvs k,Rd H a (.dK kvs)∧y=kV k∧r=JH kvs k)∨∃kvs k b,Rd H a (.dT kvs)∧y=.ref b∧H b=some (.tup (k.map kV))∧r=JH kvs k
def Zz (H:Hp) (a:Addr) (y v:V) (H':Hp):Prop :=
 (∃kvs k,H a=some (.dK kvs)∧y=kV k∧kvs.length<sizeLine∧H'=upd H a (.dK (vV kvs k v))) ∨
 ∃kvs k b,H a=some (.dT kvs)∧y=.ref b∧H b=some (.tup (k.map kV))∧kvs.length<sizeLine∧H'=upd H a (.dT (vV kvs k v))
theorem zA.t {H:Hp}{a b:Addr}{kvs:List (List Key×V)}{k:List Key} (e:H a=some (.dT kvs)) (eb:H b=some (.tup (k.map kV))):zA H a (.ref b) (JH kvs k):=.inr ⟨kvs,k,b,.inl e,rfl,eb,rfl⟩
theorem Zz.k {H:Hp}{a:Addr}{kvs:List (Key×V)}{k:Key}{v:V} (e:H a=some (.dK kvs)) (hl:kvs.length<sizeLine):Zz H a (kV k) v (upd H a (.dK (vV kvs k v))):=.inl ⟨kvs,k,e,rfl,hl,rfl⟩
theorem Zz.t {H:Hp}{a b:Addr}{kvs:List (List Key×V)}{k:List Key}{v:V} (e:H a=some (.dT kvs)) (eb:H b=some (.tup (k.map kV))) (hl:kvs.length<sizeLine) :
  Zz H a (.ref b) v (upd H a (.dT (vV kvs k v))):=.inr ⟨kvs,k,b,e,rfl,eb,hl,rfl⟩
section
variable {X:Cx}{pins:oy}{σ:St}{H:Hp}{s:Shared}{a:Addr}{y v:V}{u r:Value}{o:Option V}{A:Around}{E:oh}
theorem ji.big (I:ji X pins σ H s):sysModules<s.heap.objs.size:=by
 have h:mainGlobals<s.heap.objs.size:=(I.mod.glob.keeps I.bk).lt
 exact Nat.lt_trans (by decide) h
theorem Nw {Q:oh} (hu:A.units+1<cLine) (I:ji X pins σ H s) (g:zA H a y (some v)) (ry:jL y u) (h:∀w' s',ji X pins σ H s'→jL v w'→Q w' s') :
  wpAny (model X.prog X.w) A (getItem (.ref a) u) Q E s:=by
 rcases g with ⟨kvs,k,e,ey,l⟩|⟨kvs,k,b,e,ey,eb,l⟩
 ·subst ey
  obtain⟨z,hd,vs,rel,dd⟩:=KY I.hok e
  obtain⟨w',hw,rw'⟩:=vU.some_of (v:=v) (o:=valueAt vs k) (by rw [l];exact rel.val k)
  exact wpAny_getItem_of (G1 ry) dd.mapOf hw (h w' _ (I.tok _) rw')
 ·subst ey
  cases (show u=Value.ref b from ry)
  obtain⟨z,hd,xs,rel,dd⟩:=KZ I.hok e
  obtain⟨w',hw,rw'⟩:=vU.some_of (v:=v) (o:=(atKey xs k).map (·.2)) (by rw [l];exact rel.val k)
  obtain⟨p,hp,hp2⟩:=Option.map_eq_some_iff.mp hw
  refine wpAny_getItem_heap (tupleKind_room_in1 hu) (G2 I.hok eb) dd hp ?_
  rw [hp2]
  exact h w' _ (I.tok _) rw'
theorem lb {Q:oh} (hu:A.units+1<cLine) (I:ji X pins σ H s) (g:zA H a y o) (ry:jL y u) (h:∀s',ji X pins σ H s'→Q (.bool o.isSome) s') :
  wpAny (model X.prog X.w) A (compareOp .In u (.ref a)) Q E s:=by
 rcases g with ⟨kvs,k,e,ey,l⟩|⟨kvs,k,b,e,ey,eb,l⟩
 ·subst ey
  obtain⟨z,hd,vs,rel,dd⟩:=KY I.hok e
  refine wpAny_in_of (G1 ry) hd dd.mapOf ?_
  rw [←(rel.val k).isSome_eq,←l]
  exact h _ (I.tok _)
 ·subst ey
  cases (show u=Value.ref b from ry)
  obtain⟨z,hd,xs,rel,dd⟩:=KZ I.hok e
  refine wpAny_in_heap (tupleKind_room_in1 hu) (G2 I.hok eb) hd dd ?_
  have q:=(rel.val k).isSome_eq
  rw [Option.isSome_map] at q
  rw [←q,←l]
  exact h _ (I.tok _)
theorem kH {h':Heap}{t':Nat}{ob:HO} (I:ji X pins σ H s) (mu:Nh (H a)) (hs:Heap.SameBut a s.heap h') (he:∃q,h'.get? a=some q) (new:j0 X.prog X.w (upd H a ob) h' a ob) :
  ji X pins σ (upd H a ob) { s with heap:=h',toks:=t' } :=
 I.write (x:=a) (e:=a) mu (.inl rfl) (fun b q hb z=>(hs.2 b hb).trans z) he new
theorem Nz {P:oM}{w:World}{H':Hp}{h':Heap}{kvs:List (Key×V)}{vs:List (Key×Value)} (z:kvs.length≤sizeLine) (hd:(a==sysModules)=false) (rel:KV kvs vs) (dd:h'.DictOf (JO P w) a vs) :
  j0 P w H' h' a (.dK kvs):=⟨z,hd,vs,rel,dd⟩
theorem Nx {H':Hp}{Q:oj} (hu:A.units+1<cLine) (I:ji X pins σ H s) (g:Zz H a y v H') (ry:jL y u) (rv:jL v r) (h:∀s',ji X pins σ H' s'→Q () s') :
  wpAny (model X.prog X.w) A (setItem (.ref a) u r) Q E s:=by
 rcases g with ⟨kvs,k,e,ey,l,eH⟩|⟨kvs,k,b,e,ey,eb,l,eH⟩
 ·subst ey eH
  obtain⟨z,hd,vs,rel,dd⟩:=KW I.hok e
  have hz:vs.length≤sizeLine:=by rw [←rel.length];exact z
  have hl:(vV kvs k v).length≤sizeLine:=by have:=VN kvs k v;omega
  refine wpAny_setItem_pairs (hsz:=hz) (G1 ry) dd fun h' dd' hs=>h _ ?_
  have he:∃q,h'.get? a=some q:=let ⟨q,_,_,hq,_⟩:=dd';⟨q,hq⟩
  exact kH I (by rw [e];exact True.intro) hs he (Nz hl hd (rel.put k rv) dd')
 ·subst ey eH
  cases (show u=Value.ref b from ry)
  obtain⟨z,hd,xs,rel,dd⟩:=ci I.hok e
  have hz:xs.length≤sizeLine:=by rw [←Paired.length rel];exact z
  have hl:(vV kvs k v).length≤sizeLine:=by have:=VN kvs k v;omega
  refine wpAny_setItem_heap (hsz:=hz) (tupleKind_room_in1 hu) (G2 I.hok eb) dd fun h' dd' hs=>h _ ?_
  obtain⟨q,es,ep,hq,h2,h3,h4,_,h5⟩:=dd'
  refine kH I (by rw [e];exact True.intro) hs ⟨q,hq⟩ ⟨hl,hd,_,(rel.put k eb rv).keeps fun c ys ec=>?_,q,es,ep,hq,h2,h3,h4,h5⟩
  rw [jj (Jw ec e (fun z=>nomatch z))]
  exact ec
end
def dY (i:Expr):Prop:=∀ov iv,subscripted i false ov iv=operate [ov,iv] (getItem ov iv)
theorem dJ {prog:oM}{w:World}{A:Around}{E:oh}{s:Shared}{env:Env}{value slice:Expr}{pos:Pos}{T id:String}{Q:oh}
  (hl:typeLookup (.type T) "__getitem__"=pure (some (.builtin id))) (hs:dY slice)
  (h:wpAny (model prog w) A (eval value env) (fun o s₁=>wpAny (model prog w) A (eval slice env) (fun i s₂=>s₂.TypeIs o T∧wpAny (model prog w) A (getItem o i) Q E s₂) E s₁) E s) :
  wpAny (model prog w) A (eval (.Subscript value slice pos) env) Q E s:=by
 refine Subscript_ (wpAny_mono h (fun o s₁ h₁=>wpAny_mono h₁ (fun i s₂ h₂=>?_) fun _ _ x=>x) fun _ _ x=>x)
 obtain⟨hT,h₂⟩:=h₂
 unfold subscriptTail
 refine oN ?_
 rw [getitemInPython_of_ne hT.not_modules]
 refine oN (wpAny_specialOf hT hl ?_)
 have fin:wpAny (model prog w) A (subscripted slice false o i) (fun r s₃=>wpAny (model prog w) A (letTemporaryGo value o r>>=fun _=>pure r) Q E s₃) E s₂:=by
  rw [hs o i]
  exact wpAny_operating (wpAny_mono h₂ (fun r s₃ h₃=>oN (wpAny_letTemporaryGo (oO h₃))) fun _ _ x=>x)
 first
  | exact oO (oN fin)
  | exact oN (oO (oN fin))
  | exact oN fin
theorem Mj {X:Cx}{pins:oy}{σ:St}{H:Hp}{s:Shared}{a:Addr}{y:V}{o:Option V} (I:ji X pins σ H s) (g:zA H a y o):s.TypeIs (.ref a) "dict":=by
 rcases g with ⟨kvs,k,e,_,_⟩|⟨kvs,k,b,e,_,_,_⟩
 ·obtain⟨_,_,vs,_,dd⟩:=KY I.hok e
  exact dd.typeIs
 ·obtain⟨_,_,xs,_,dd⟩:=KZ I.hok e
  exact dd.typeIs
def iM (td ty:TE):TE:=fun σ H Q=>td σ H fun x H1=>ty σ H1 fun y H2=>∃a v,x=.ref a∧zA H2 a y (some v)∧Q v H2
def lF (ty td:TE):TE:=fun σ H Q=>ty σ H fun y H1=>td σ H1 fun x H2=>∃a o,x=.ref a∧zA H2 a y o∧Q (.bl o.isSome) H2
def iE (td ty tv:TE):TS:=fun D σ H=>tv σ H fun v H1=>td σ H1 fun x H2=>ty σ H2 fun y H3=>∃a H4,x=.ref a∧Zz H3 a y v H4∧D.nx σ H4
section
variable {X:Cx}{o i e value:Expr}{pos pos' tpos:Pos}{td ty tv:TE}
theorem da (hu:X.A.units+1<cLine) (ho:PE X o td) (hi:PE X i ty) (hs:dY i):PE X (.Subscript o i pos) (iM td ty):=by
 intro pins s σ H Q I h
 refine dJ PySem.F.slot_dict_getitem.lookup hs (jC (ho pins s σ H _ I h) fun u s1 ⟨x,H1,I1,rx,q1⟩=>jC (hi pins s1 σ H1 _ I1 q1) fun iv s2 hh=>?_)
 obtain⟨y,H2,I2,ry,a,v,ex,g,q2⟩:=hh
 subst ex
 obtain rfl:u=Value.ref a:=rx
 exact⟨Mj I2 g,Nw hu I2 g ry fun w' s3 I3 rw'=>⟨v,H2,I3,rw',q2⟩⟩
theorem al (hu:X.A.units+1<cLine) (hi:PE X i ty) (ho:PE X o td):PC X .In i o (lF ty td):=by
 intro pins s σ H Q I h
 refine jC (hi pins s σ H _ I h) fun iv s1 ⟨y,H1,I1,ry,q1⟩=>jC (ho pins s1 σ H1 _ I1 q1) fun u s2 hh=>?_
 obtain⟨x,H2,I2,rx,a,ov,ex,g,q2⟩:=hh
 subst ex
 obtain rfl:u=Value.ref a:=rx
 exact lb hu I2 g ry fun s3 I3=>⟨.bl ov.isSome,H2,I3,rfl,q2⟩
theorem MX (hu:X.A.units+1<cLine) (ho:PE X o td) (hi:PE X i ty) (hv:PE X value tv) (hs:swapsWith value (some (.Subscript o i pos')) pos.line X.env=pure false) :
  PS X (.Assign [.Subscript o i pos'] value pos) (iE td ty tv):=by
 intro pins s σ H D I h
 refine wpAny_Assign_Subscript (jC (hv pins s σ H _ I h) fun r s1 ⟨v,H1,I1,rv,q1⟩=>jC (ho pins s1 σ H1 _ I1 q1) fun u s2 ⟨x,H2,I2,rx,q2⟩=>jC (hi pins s2 σ H2 _ I2 q2) fun iv s3 hh=>?_) hs
 obtain⟨y,H3,I3,ry,a,H4,ex,g,q3⟩:=hh
 subst ex
 obtain rfl:u=Value.ref a:=rx
 exact Nx hu I3 g ry rv fun s4 I4=>⟨σ,H4,I4,q3⟩
end
theorem aY {P:oM}{w:World}{H:Hp} (h:Heap) (hb:sysModules<h.objs.size):j0 P w H (h.push { cls:=.type "dict",data:=.dict #[] }) h.objs.size (.dK []) :=
 ⟨Nat.zero_le _,beq_eq_false_iff_ne.mpr (Ne.symm (Nat.ne_of_lt hb)),[],.nil,Heap.DictOf.new h⟩
theorem aZ {P:oM}{w:World}{H:Hp} (h:Heap) (hb:sysModules<h.objs.size):j0 P w H (h.push { cls:=.type "dict",data:=.dict #[] }) h.objs.size (.dT []) :=
 ⟨Nat.zero_le _,beq_eq_false_iff_ne.mpr (Ne.symm (Nat.ne_of_lt hb)),[],.nil,_,#[],0,Heap.get?_push_size _ rfl,⟨rfl,rfl,rfl⟩,rfl,rfl,List.nodup_nil⟩
def hX:TE:=fun _ H Q=>∀p,H p=none→Q (.ref p) (upd H p (.dK []))
def hZ:TE:=fun _ H Q=>∀p,H p=none→Q (.ref p) (upd H p (.dT []))
section
variable {X:Cx}{pos:Pos}
theorem mW:PE X (.Dict [] [] pos) hX:=fun pins s σ H Q I h =>
 wpAny_Dict_empty ⟨.ref s.heap.objs.size,_,I.laid (a:=s.heap.objs.size) (o:=.dK []) (t':=s.toks) (fun _ _ q=>Heap.get?_push_of_some _ q) (Nat.le_refl _) (aY s.heap I.big),rfl,h _ (I.hok.fresh (Nat.le_refl _))⟩
theorem bt:PE X (.Dict [] [] pos) hZ:=fun pins s σ H Q I h =>
 wpAny_Dict_empty ⟨.ref s.heap.objs.size,_,I.laid (a:=s.heap.objs.size) (o:=.dT []) (t':=s.toks) (fun _ _ q=>Heap.get?_push_of_some _ q) (Nat.le_refl _) (aZ s.heap I.big),rfl,h _ (I.hok.fresh (Nat.le_refl _))⟩
end
section
variable {κ:Type} [DecidableEq κ]
theorem bR {kvs:List (κ×V)}{k:κ} (h:JH kvs k=none):¬k∈kvs.map (·.1):=by
 intro m
 obtain⟨p,hp,e⟩:=List.mem_map.mp m
 have q:(kvs.any fun kv=>decide (kv.1=k))=true:=List.any_eq_true.mpr ⟨p,hp,decide_eq_true e⟩
 rw [zq,h] at q
 exact absurd q (by simp)
theorem M5 {kvs:List (κ×V)}{k:κ}{v:V} (h:JH kvs k=some v):k∈kvs.map (·.1):=by
 have q:(kvs.any fun kv=>decide (kv.1=k))=true:=by
  rw [zq,h]
  all_goals rfl
 obtain⟨p,hp,e⟩:=List.any_eq_true.mp q
 exact List.mem_map.mpr ⟨p,hp,of_decide_eq_true e⟩
end
end L2
set_option maxHeartbeats 4000000
namespace TS
open PySem PyProof.Rows L2
def G0:L2.Key→L2.Key→Bool
 | .inl a,.inl b=>decide (a<b)
 | .inr a,.inr b=>decide (a.cps.toList<b.cps.toList)
 | .inl _,.inr _=>true
 | .inr _,.inl _=>false
def lx:List L2.Key→List L2.Key→Bool
 | [],[]=>false
 | [],_::_=>true
 | _::_,[]=>false
 | a::r,b::q=>if a=b then lx r q else G0 a b
theorem cU (a:L2.Key):G0 a a=false:=by
 cases a with
 | inl n=>exact decide_eq_false (Int.lt_irrefl n)
 | inr x=>exact decide_eq_false (List.lt_irrefl _)
theorem NR {a b c:L2.Key} (h1:G0 a b=true) (h2:G0 b c=true):G0 a c=true:=by
 cases a with
 | inl n=>cases b with
  | inl m=>cases c with
   | inl k=>exact decide_eq_true (Int.lt_trans (of_decide_eq_true h1) (of_decide_eq_true h2))
   | inr k=>rfl
  | inr m=>cases c with
   | inl k=>cases h2
   | inr k=>rfl
 | inr n=>cases b with
  | inl m=>cases h1
  | inr m=>cases c with
   | inl k=>cases h2
   | inr k=>exact decide_eq_true (List.lt_trans (of_decide_eq_true h1) (of_decide_eq_true h2))
theorem Na {x y:Str} (h:x.cps.toList=y.cps.toList):x=y:=Str.ext' (Array.toList_inj.mp h)
theorem cV {a b:L2.Key} (h1:G0 a b=false) (h2:G0 b a=false):a=b:=by
 cases a with
 | inl n=>cases b with
  | inl m =>
   have:=of_decide_eq_false h1
   have:=of_decide_eq_false h2
   congr 1;omega
  | inr m=>cases h1
 | inr n=>cases b with
  | inl m=>cases h2
  | inr m=>exact congrArg Sum.inr (Na (List.le_antisymm (List.not_lt.mp (of_decide_eq_false h2)) (List.not_lt.mp (of_decide_eq_false h1))))
theorem eV {a b:L2.Key} (h:G0 a b=true):a≠b:=fun e=>by rw [e,cU] at h;cases h
theorem mI:∀a:List L2.Key,lx a a=false
 | []=>rfl
 | a::r=>by unfold lx;rw [if_pos rfl];exact mI r
theorem G7:∀{a b:List L2.Key},lx a b=false→lx b a=false→a=b
 | [],[],_,_=>rfl
 | [],_::_,h,_=>by cases h
 | _::_,[],_,h=>by cases h
 | a::r,b::q,h1,h2=>by
  unfold lx at h1 h2
  by_cases e:a=b
  ·rw [if_pos e] at h1
   rw [if_pos e.symm] at h2
   rw [e,G7 h1 h2]
  ·rw [if_neg e] at h1
   rw [if_neg (fun z=>e z.symm)] at h2
   exact absurd (cV h1 h2) e
theorem Gs:∀{a b c:List L2.Key},lx a b=true→lx b c=true→lx a c=true
 | [],[],_,h,_=>by cases h
 | [],_::_,[],_,h=>by cases h
 | [],_::_,_::_,_,_=>rfl
 | _::_,[],_,h,_=>by cases h
 | _::_,_::_,[],_,h=>by cases h
 | a::r,b::q,c::p,h1,h2=>by
  unfold lx at h1 h2 ⊢
  by_cases e1:a=b
  ·subst e1
   rw [if_pos rfl] at h1
   by_cases e2:a=c
   ·rw [if_pos e2] at h2 ⊢;exact Gs h1 h2
   ·rw [if_neg e2] at h2 ⊢;exact h2
  ·rw [if_neg e1] at h1
   by_cases e2:b=c
   ·subst e2;rw [if_neg e1];exact h1
   ·rw [if_neg e2] at h2
    have h3:=NR h1 h2
    rw [if_neg (eV h3)];exact h3
theorem fq {a b c:List L2.Key} (h:lx a c=true):lx a b=true∨lx b c=true:=by
 cases h1:lx a b
 ·right
  cases h2:lx b a
  ·rw [←G7 h1 h2];exact h
  ·exact Gs h2 h
 ·exact .inl rfl
def kind (kc:Value→List L2.Key):KeyKind where
 α:=List L2.Key
 blt:=lx
 irrefl:=mI
 trans:=fun _ _ _=>Gs
 negTrans:=fun _ _ _=>fq
 total:=fun _ _=>G7
 keyOf:=fun v=>some (kc v)
 dflt:=[]
def ZE:L2.Key→Value→Prop
 | .inl n,v=>∃t,v=.int n t
 | .inr x,v=>∃t,v=.str x t
inductive Vl:List L2.Key→List Value→Prop
 | nil:Vl [] []
 | cons {k v ks vs}:ZE k v→Vl ks vs→Vl (k::ks) (v::vs)
def sd (ks:List L2.Key):List Bool:=ks.map Sum.isLeft
theorem bf (f:Bool) (x y:Value):keyLt' (tuples' f) x y=(do
  let p ←Builtin.List.listItems x
  let q ←Builtin.List.listItems y
  for ((u,v),i) in (p.toList.zip q.toList).zipIdx do
   if !(←eqBool u v) then return ←oneLt' (f&&i==0) u v
  return p.size<q.size):=rfl
section
variable {prog:oM}{w:World}{A:Around}{E:oh}{s:Shared}
theorem c5 (f:Bool) {a b:Int} {t u:Tok} {Q:om} (h:Q (decide (a<b)) s):wpAny (model prog w) A (oneLt' f (.int a t) (.int b u)) Q E s:=by
 cases f with
 | true=>exact oneLt_int h
 | false =>
  rw [oneLt'_eq]
  rw [if_neg Bool.false_ne_true]
  exact oN (richCompare_gives (op:=.Lt) (typeIs_int s a t) (typeIs_int s b u) F.slot_int_lt F.entry_int_lt (F.args_int_lt_2 _ _) (gives_int_lt a b t u) (fun z=>nomatch z) (wpAny_truthy_bool h))
theorem c7 (f:Bool) {a b:Str} {t u:Tok} {Q:om} (h:Q (decide (a.cps.toList<b.cps.toList)) s):wpAny (model prog w) A (oneLt' f (.str a t) (.str b u)) Q E s:=by
 cases f with
 | true=>exact oneLt_str h
 | false =>
  rw [oneLt'_eq]
  rw [if_neg Bool.false_ne_true]
  exact oN (richCompare_gives (op:=.Lt) (typeIs_str s a t) (typeIs_str s b u) F.slot_str_lt F.entry_str_lt (F.args_str_lt_2 _ _) (gives_str_lt a b t u) (fun z=>nomatch z) (wpAny_truthy_bool h))
theorem eF {c d:L2.Key}{u v:Value} (hs:c.isLeft=d.isLeft) (hc:ZE c u) (hd:ZE d v) {Q:om} (h:Q (decide (c=d)) s):wpAny (model prog w) A (eqBool u v) Q E s:=by
 cases c with
 | inl n=>cases d with
  | inl m =>
   obtain⟨t,rfl⟩:=hc
   obtain⟨t',rfl⟩:=hd
   refine wpAny_eqBool_int ?_
   rw [show (n==m)=decide ((Sum.inl n:L2.Key)=Sum.inl m) by rw [Bool.eq_iff_iff,beq_iff_eq,decide_eq_true_iff];exact⟨fun e=>e▸rfl,fun e=>Sum.inl.inj e⟩]
   exact h
  | inr m=>cases hs
 | inr n=>cases d with
  | inl m=>cases hs
  | inr m =>
   obtain⟨t,rfl⟩:=hc
   obtain⟨t',rfl⟩:=hd
   refine wpAny_eqBool_str ?_
   rw [show decide (n=m)=decide ((Sum.inr n:L2.Key)=Sum.inr m) by rw [Bool.eq_iff_iff,decide_eq_true_iff,decide_eq_true_iff];exact⟨fun e=>e▸rfl,fun e=>Sum.inr.inj e⟩]
   exact h
theorem c6 (f:Bool) {c d:L2.Key} {u v:Value} (hs:c.isLeft=d.isLeft) (hc:ZE c u) (hd:ZE d v) {Q:om} (h:Q (G0 c d) s):wpAny (model prog w) A (oneLt' f u v) Q E s:=by
 cases c with
 | inl n=>cases d with
  | inl m =>
   obtain⟨t,rfl⟩:=hc
   obtain⟨t',rfl⟩:=hd
   exact c5 f h
  | inr m=>cases hs
 | inr n=>cases d with
  | inl m=>cases hs
  | inr m =>
   obtain⟨t,rfl⟩:=hc
   obtain⟨t',rfl⟩:=hd
   exact c7 f h
theorem mD (f:Bool):∀{cs ds:List L2.Key} {ps qs:oA} (k:Nat),sd cs=sd ds→Vl cs ps→Vl ds qs→∀{R:Option Bool×Unit→Shared→Prop},(cs≠ds→R (some (lx cs ds),()) s)→(cs=ds→R (none,()) s) →
  wpAny (model prog w) A (forIn ((ps.zip qs).zipIdx k) ((none,()):Option Bool×Unit) fun x _ =>
   match x with
   | ((u,v),i)=>do
    let r ←eqBool u v
    if (!r)=true then do
      let r ←oneLt' (f&&i==0) u v
      pure (ForInStep.done (some r,()))
     else pure (ForInStep.yield (none,()))) R E s
 | [],[],_,_,k,_,.nil,.nil,R,_,h=>by
  show wpAny _ _ (forIn [] _ _) _ _ _
  rw [List.forIn_nil];exact oO (h rfl)
 | [],_::_,_,_,_,hs,_,_,_,_,_=>by cases hs
 | _::_,[],_,_,_,hs,_,_,_,_,_=>by cases hs
 | c::cs,d::ds,_,_,k,hs,.cons hc hcs,.cons hd hds,R,h1,h2=>by
  obtain⟨e1,e2⟩:=List.cons.inj hs
  rw [List.zip_cons_cons,List.zipIdx_cons,List.forIn_cons]
  refine oN (oN (eF e1 hc hd ?_))
  by_cases e:c=d
  ·rw [decide_eq_true e]
   refine oO (mD f (k+1) e2 hcs hds (fun n=>?_) fun z=>h2 (by rw [e,z]))
   have:=h1 (fun z=>n (List.cons.inj z).2)
   unfold lx at this
   rw [if_pos e] at this
   exact this
  ·rw [decide_eq_false e]
   refine oN (c6 _ e1 hc hd (oO (oO ?_)))
   have:=h1 (fun z=>e (List.cons.inj z).1)
   unfold lx at this
   rw [if_neg e] at this
   exact this
theorem Vl.len {cs:List L2.Key}{ps:oA} (h:Vl cs ps):ps.length=cs.length:=by
 induction h with
 | nil=>rfl
 | cons _ _ ih=>rw [List.length_cons,List.length_cons,ih]
theorem NU (f:Bool) {a b:Addr} {o o':Obj} {ps qs:oA} {n m:Nat} {cs ds:List L2.Key} (ha:s.heap.get? a=some o) (hd:o.data=.seq ps.toArray n) (hb:s.heap.get? b=some o') (hd':o'.data=.seq qs.toArray m)
  (hs:sd cs=sd ds) (hc:Vl cs ps) (hq:Vl ds qs) {Q:om} (h:Q (lx cs ds) s):wpAny (model prog w) A (keyLt' (tuples' f) (.ref a) (.ref b)) Q E s:=by
 rw [bf]
 refine oN (listItems_at ha hd ?_)
 refine oN (listItems_at hb hd' ?_)
 refine oN (mD f 0 hs hc hq (fun _=>oO h) fun e=>oO ?_)
 have l1:=hc.len
 have l2:=hq.len
 rw [e] at l1 h
 rw [mI] at h
 rw [show decide (ps.toArray.size<qs.toArray.size)=false by rw [List.size_toArray,List.size_toArray];exact decide_eq_false (by omega)]
 exact h
structure Bs (f:Bool) (z:oz) (st:SortSt):Prop where
 pm:(arrOf st).Perm z
 kd:kindOf st=tuples' f
 fl:failedOf st=none
 pd:pendingOf st=#[]
variable {f:Bool}{z:oz}{o:KeyKind}
theorem Bs.sz {st:SortSt} (b:Bs f z st):(arrOf st).size=z.size:=b.pm.size_eq
theorem Bs.put {st:SortSt} (b:Bs f z st) {xs:oz} (h:xs.Perm (arrOf st)):Bs f z (setArr st xs):=⟨h.trans b.pm,b.kd,b.fl,b.pd⟩
def kv (o:KeyKind) (p:Keyed):o.α:=(o.keyOf p.1).getD o.dflt
def UB (prog:oM) (w:World) (A:Around) (s:Shared) (f:Bool) (o:KeyKind) (z:oz):Prop:=∀(E:oh) (p q:Keyed) (Q:om),p∈z.toList→q∈z.toList→Q (o.blt (kv o p) (kv o q)) s→wpAny (model prog w) A (keyLt' (tuples' f) p.1 q.1) Q E s
theorem Bs.at_ {st:SortSt} (b:Bs f z st) {i:Nat} (hi:i<z.size):∃p,(arrOf st)[i]?=some p∧p∈z.toList∧KK o (arrOf st) i=kv o p:=by
 have h1:i<(arrOf st).size:=b.sz▸hi
 have e:(arrOf st)[i]?=some (arrOf st)[i]:=getElem?_pos _ i h1
 refine⟨_,e,(Array.perm_iff_toList_perm.mp b.pm).mem_iff.mp (by simp),?_⟩
 unfold KK
 rw [e];rfl
theorem G5 {st:SortSt}{i j:Nat}{Q:Option Bool→SortSt→Prop} (O:UB prog w A s f o z) (b:Bs f z st) (hi:i<z.size) (hj:j<z.size) (h:Q (some (o.blt (KK o (arrOf st) i) (KK o (arrOf st) j))) st):wpS (model prog w) A E s (ltAt' i j) Q st:=by
 obtain⟨p,e1,m1,k1⟩:=b.at_ (o:=o) hi
 obtain⟨q,e2,m2,k2⟩:=b.at_ (o:=o) hj
 rw [k1,k2] at h
 rw [ltAt'_eq]
 refine wpS_bind (wpS_get ?_)
 show wpS _ _ _ _ (elem' (arrOf st) i>>=fun x=>elem' (arrOf st) j>>=fun y=>lt' x y) Q st
 rw [elem'_eq,elem'_eq,e1,e2]
 refine wpS_bind (wpS_pure (wpS_bind (wpS_pure ?_)))
 rw [lt'_eq]
 refine wpS_bind (wpS_get ?_)
 rw [b.kd]
 exact wpS_bind (wpS_lift (wpAny_attempt (O _ p q _ m1 m2 ⟨rfl,wpS_pure h⟩)))
theorem ay {st:SortSt}{a n:Nat}{Q:AscSt→SortSt→Prop} (O:UB prog w A s f o z) (hn:n≤z.size) (ha:1≤a) (han:a≤n) (b:Bs f z st) (hu:SortedToK o (arrOf st) a)
  (q:∀m,a≤m→m≤n→SortedToK o (arrOf st) m→(m=n∨o.klt (KK o (arrOf st) m) (KK o (arrOf st) (m - 1)))→Q (none,m) st):wpS (model prog w) A E s (ascLoop a n) Q st:=by
 refine wpS_forRange (I:=fun i c y=>y=st∧c=(none,i)∧SortedToK o (arrOf st) i) (fun i c y h1 h2 hy=>?_) (fun c y hy=>?_) ⟨rfl,rfl,hu⟩
 ·obtain⟨rfl,rfl,up⟩:=hy
  refine wpS_bind (G5 O b (by show i<_;omega) (by show i - 1<_;omega) ?_)
  show wpS _ _ _ _ (if o.blt (KK o (arrOf y) i) (KK o (arrOf y) (i - 1))=true then _ else _) _ _
  cases hl:o.blt (KK o (arrOf y) i) (KK o (arrOf y) (i - 1)) with
  | true=>rw [if_pos rfl];exact wpS_pure (q i h1 (by omega) up (.inr hl))
  | false =>
   rw [if_neg Bool.false_ne_true]
   refine wpS_pure ⟨rfl,rfl,fun g k hgk hk=>?_⟩
   rcases Nat.lt_or_ge k i with hki|hki
   ·exact up g k hgk hki
   ·obtain rfl:k=i:=by omega
    rcases Nat.lt_or_ge g k with hg|hg
    ·exact KeyOrd.kle_trans (up g (k - 1) (by omega) (by omega)) hl
    ·obtain rfl:g=k:=by omega
     exact KeyOrd.kle_refl _
 ·obtain⟨rfl,rfl,up⟩:=hy
  have e:max a n=n:=by omega
  rw [e] at up ⊢
  exact q n han (Nat.le_refl _) up (.inl rfl)
theorem MZ {st:SortSt}{a n:Nat}{Q:Option Nat→SortSt→Prop} (O:UB prog w A s f o z) (hn:n≤z.size) (ha:1≤a) (han:a≤n) (b:Bs f z st) (hd:NonIncK o (arrOf st) a)
  (q:∀m y,Bs f z y→1≤m→m≤n→SortedToK o (arrOf y) m→Q (some m) y):wpS (model prog w) A E s (tail3 a n) Q st:=by
 have hz:a≤(arrOf st).size:=by rw [b.sz];omega
 have b2:=b.put (mirror_perm (arrOf st) 0 a ((a - 0) / 2))
 refine wpS_bind (wpS_reverse (wpS_bind (ay O hn ha han b2 (fun i j hij hj=>?_) fun m h1 h2 up _=>wpS_pure (q m _ b2 (by omega) h2 up))))
 show o.kle (KK o (mirror (arrOf st) 0 a _) i) (KK o (mirror (arrOf st) 0 a _) j)
 rw [KK_mirror hz,KK_mirror hz,if_pos ⟨Nat.zero_le _,by omega⟩,if_pos ⟨Nat.zero_le _,hj⟩]
 exact hd _ _ (by omega) (by omega)
theorem VP {xs ys:oz}{i:Nat} (hk:∀k,KK o ys k=KK o xs k) (hd:NonIncK o xs i) (h1:1≤i) (h:o.kle (KK o xs i) (KK o xs (i - 1))):NonIncK o ys (i+1):=fun g k hgk hk2=>by
 rw [hk,hk]
 rcases Nat.lt_or_ge k i with hki|hki
 ·exact hd g k hgk hki
 ·obtain rfl:k=i:=by omega
  rcases Nat.lt_or_ge g k with hg|hg
  ·exact KeyOrd.kle_trans h (hd g (k - 1) (by omega) (by omega))
  ·obtain rfl:g=k:=by omega
   exact KeyOrd.kle_refl _
theorem bH {st:SortSt}{a n:Nat}{Q:DescSt→SortSt→Prop} (O:UB prog w A s f o z) (hn:n≤z.size) (ha:1≤a) (han:a≤n) (b:Bs f z st) (hd:NonIncK o (arrOf st) a)
  (q:∀m e y,Bs f z y→a≤m→m≤n→NonIncK o (arrOf y) m→e+1≤m→(∀i,m - (e+1)≤i→i<m→KK o (arrOf y) i=KK o (arrOf y) (m - 1))→Q (none,m,e) y):wpS (model prog w) A E s (descLoop a n) Q st:=by
 refine wpS_forRange (I:=fun i c y=>∃e,c=(none,i,e)∧Bs f z y∧NonIncK o (arrOf y) i∧e+1≤i∧∀k,i - (e+1)≤k→k<i→KK o (arrOf y) k=KK o (arrOf y) (i - 1)) (fun i c y h1 h2 hy=>?_) (fun c y hy=>?_) ⟨0,rfl,b,hd,by omega,fun k p1 p2=>congrArg _ (by omega)⟩
 ·obtain⟨e,rfl,b2,dn,he,eqs⟩:=hy
  have hz:i≤(arrOf y).size:=by rw [b2.sz];omega
  refine wpS_bind (G5 O b2 (by show i<_;omega) (by show i - 1<_;omega) ?_)
  show wpS _ _ _ _ (if o.blt (KK o (arrOf y) i) (KK o (arrOf y) (i - 1))=true then _ else _) _ _
  cases hl:o.blt (KK o (arrOf y) i) (KK o (arrOf y) (i - 1)) with
  | true =>
   rw [if_pos rfl]
   have hle:=KeyOrd.kle_of_klt (O:=o.toKeyOrd) hl
   show wpS _ _ _ _ (if e > 0 then _ else _) _ _
   by_cases h0:e > 0
   ·rw [if_pos h0]
    exact wpS_bind (wpS_reverse (wpS_pure ⟨0,rfl,b2.put (mirror_perm _ _ _ _),VP (KK_mirror_equal hz eqs) dn (by omega) hle,by omega,fun k p1 p2=>congrArg _ (by omega)⟩))
   ·rw [if_neg h0]
    exact wpS_pure ⟨0,rfl,b2,VP (fun _=>rfl) dn (by omega) hle,by omega,fun k p1 p2=>congrArg _ (by omega)⟩
  | false =>
   rw [if_neg Bool.false_ne_true]
   refine wpS_bind (G5 O b2 (by show i - 1<_;omega) (by show i<_;omega) ?_)
   show wpS _ _ _ _ (if o.blt (KK o (arrOf y) (i - 1)) (KK o (arrOf y) i)=true then _ else _) _ _
   cases hg:o.blt (KK o (arrOf y) (i - 1)) (KK o (arrOf y) i) with
   | true=>rw [if_pos rfl];exact wpS_pure (q i e y b2 h1 (by omega) dn he eqs)
   | false =>
    rw [if_neg Bool.false_ne_true]
    have same:KK o (arrOf y) i=KK o (arrOf y) (i - 1):=o.total _ _ hl hg
    refine wpS_pure ⟨e+1,rfl,b2,VP (fun _=>rfl) dn (by omega) hg,by omega,fun k p1 p2=>?_⟩
    rw [Nat.add_sub_cancel]
    rcases Nat.lt_or_ge k i with hk|hk
    ·rw [same];exact eqs k (by omega) hk
    ·exact congrArg _ (by omega)
 ·obtain⟨e,rfl,b2,dn,he,eqs⟩:=hy
  have em:max a n=n:=by omega
  rw [em] at dn he eqs ⊢
  exact q n e y b2 han (Nat.le_refl _) dn he eqs
theorem m9 {st:SortSt}{a n:Nat}{Q:Option Nat→SortSt→Prop} (O:UB prog w A s f o z) (hn:n≤z.size) (han:a+1≤n) (b:Bs f z st) (hd:NonIncK o (arrOf st) (a+1))
  (q:∀m y,Bs f z y→1≤m→m≤n→SortedToK o (arrOf y) m→Q (some m) y):wpS (model prog w) A E s (descPart a n) Q st:=by
 refine wpS_bind (wpS_lift (wpAny_rule ⟨rfl,wpS_bind (bH O hn (by omega) han b hd fun m e y b2 h1 h2 dn he eqs=>?_)⟩))
 have hz:m≤(arrOf y).size:=by rw [b2.sz];omega
 show wpS _ _ _ _ (if e > 0 then _ else _) _ _
 by_cases h0:e > 0
 ·rw [if_pos h0]
  refine wpS_bind (wpS_reverse (MZ (a:=m) O hn (by omega) h2 (b2.put (mirror_perm _ _ _ _)) (fun i j hij hj=>?_) q))
  have ek:=KK_mirror_equal hz eqs
  show o.kle (KK o (mirror (arrOf y) (m - (e+1)) m _) j) (KK o (mirror (arrOf y) (m - (e+1)) m _) i)
  rw [ek,ek]
  exact dn i j hij hj
 ·rw [if_neg h0]
  exact MZ (a:=m) O hn (by omega) h2 b2 dn q
theorem ax {st:SortSt}{n:Nat}{Q:Option Nat→SortSt→Prop} (O:UB prog w A s f o z) (hn:n≤z.size) (h1:1≤n) (b:Bs f z st)
  (q:∀m y,Bs f z y→1≤m→m≤n→SortedToK o (arrOf y) m→Q (some m) y):wpS (model prog w) A E s (countRun' 0 n) Q st:=by
 rw [countRun0_eq]
 refine wpS_bind (ay O hn (Nat.le_refl 1) h1 b (fun i j hij hj=>?_) fun m m1 m2 up last=>?_)
 ·obtain rfl:i=j:=by omega
  exact KeyOrd.kle_refl _
 show wpS _ _ _ _ (if (m==n)=true then _ else _) _ _
 rcases Nat.lt_or_ge m n with hmn|hmn
 ·rw [if_neg (by rw [beq_iff_eq];omega)]
  have hl:=last.resolve_left (by omega)
  show wpS _ _ _ _ (if m > 1 then _ else _) _ _
  rcases Nat.lt_or_ge 1 m with hm|hm
  ·rw [if_pos hm]
   refine wpS_bind (G5 O b (by omega) (by omega) ?_)
   show wpS _ _ _ _ (if o.blt (KK o (arrOf st) 0) (KK o (arrOf st) (m - 1))=true then _ else _) _ _
   cases hr:o.blt (KK o (arrOf st) 0) (KK o (arrOf st) (m - 1)) with
   | true=>rw [if_pos rfl];exact wpS_pure (q m st b m1 m2 up)
   | false =>
    rw [if_neg Bool.false_ne_true]
    have hz:m≤(arrOf st).size:=by rw [b.sz];omega
    have eqs:∀k,0≤k→k<m→KK o (arrOf st) k=KK o (arrOf st) (m - 1):=fun k _ hk=>KeyOrd.kle_antisymm (up k (m - 1) (by omega) (by omega)) (KeyOrd.kle_trans hr (up 0 k (by omega) hk))
    have ek:=KK_mirror_equal hz eqs
    refine wpS_bind (wpS_reverse (m9 O hn (by omega) (b.put (mirror_perm _ _ _ _)) (VP (xs:=arrOf st) ek (fun i j hij hj=>?_) m1 (KeyOrd.kle_of_klt hl)) q))
    rw [eqs i (by omega) (by omega),eqs j (by omega) hj]
    exact KeyOrd.kle_refl _
  ·rw [if_neg (by omega)]
   obtain rfl:m=1:=by omega
   refine m9 O hn (by omega) b (VP (xs:=arrOf st) (fun _=>rfl) (fun i j hij hj=>?_) m1 (KeyOrd.kle_of_klt hl)) q
   obtain rfl:i=j:=by omega
   exact KeyOrd.kle_refl _
 ·rw [if_pos (by rw [beq_iff_eq];omega)]
  exact wpS_pure (q m st b m1 m2 up)
theorem du {st:SortSt}{n a:Nat}{Q:Bool→SortSt→Prop} (O:UB prog w A s f o z) (hn:n≤z.size) (han:a≤n) (b:Bs f z st) (hu:SortedToK o (arrOf st) a)
  (q:∀y,Bs f z y→SortedToK o (arrOf y) n→Q true y):wpS (model prog w) A E s (binarySort' 0 n a) Q st:=by
 rw [binarySort'_eq]
 refine wpS_bind (wpS_mono (wpS_forRange (I:=fun k c y=>c=(none,())∧Bs f z y∧SortedToK o (arrOf y) (min k n)) (Q:=fun c y=>c=(none,())∧Bs f z y∧SortedToK o (arrOf y) n) (fun k c y k1 k2 hy=>?_) (fun c y hy=>?_) ⟨rfl,b,fun i j hij hj=>?_⟩) fun c y hy=>?_)
 ·obtain⟨rfl,b2,up⟩:=hy
  rw [Nat.min_eq_left (by omega)] at up
  have hk:k<z.size:=by omega
  rw [Nat.zero_add]
  refine wpS_bind (wpS_mono (wpS_forRange (I:=fun i c y'=>y'=y∧∃l r,c=(none,l,r)∧l≤r∧r≤k∧r - l≤k - i∧(∀g,g<l→o.kle (KK o (arrOf y) g) (KK o (arrOf y) k))∧∀g,r≤g→g<k→o.klt (KK o (arrOf y) k) (KK o (arrOf y) g))
   (Q:=fun c y'=>y'=y∧∃l r,c=(none,l,r)∧l≤k∧(∀g,g<l→o.kle (KK o (arrOf y) g) (KK o (arrOf y) k))∧∀g,l≤g→g<k→o.klt (KK o (arrOf y) k) (KK o (arrOf y) g)) (fun i c y' i1 i2 hy=>?_) (fun c y' hy=>?_) ⟨rfl,0,k,rfl,by omega,by omega,by omega,fun g hg=>absurd hg (by omega),fun g p1 p2=>absurd p1 (by omega)⟩) fun c y' hy=>?_)
  ·obtain⟨rfl,l,r,rfl,lr,rk,fu,lo,hi⟩:=hy
   show wpS _ _ _ _ (if l≥r then _ else _) _ _
   rcases Nat.lt_or_ge l r with hlr|hlr
   ·rw [if_neg (by omega)]
    refine wpS_bind (G5 O b2 hk (by show 0+(l+r) / 2<_;omega) ?_)
    show wpS _ _ _ _ (if o.blt (KK o (arrOf y') k) (KK o (arrOf y') (0+(l+r) / 2))=true then _ else _) _ _
    rw [Nat.zero_add]
    cases hl:o.blt (KK o (arrOf y') k) (KK o (arrOf y') ((l+r) / 2)) with
    | true=>rw [if_pos rfl];exact wpS_pure ⟨rfl,l,(l+r) / 2,rfl,by omega,by omega,by omega,lo,fun g p1 p2=>KeyOrd.klt_of_klt_of_kle hl (up _ _ p1 p2)⟩
    | false=>rw [if_neg Bool.false_ne_true];exact wpS_pure ⟨rfl,(l+r) / 2+1,r,rfl,by omega,by omega,by omega,fun g p1=>KeyOrd.kle_trans (up g ((l+r) / 2) (by omega) (by omega)) hl,hi⟩
   ·rw [if_pos hlr]
    obtain rfl:l=r:=by omega
    exact wpS_pure ⟨rfl,l,l,rfl,rk,lo,hi⟩
  ·obtain⟨rfl,l,r,rfl,lr,rk,fu,lo,hi⟩:=hy
   obtain rfl:l=r:=by omega
   exact⟨rfl,l,l,rfl,rk,lo,hi⟩
  ·obtain⟨rfl,l,r,rfl,lk,lo,hi⟩:=hy
   show wpS _ _ _ _ (moveDown' k (0+l)>>=fun _=>pure (ForInStep.yield (none,()))) _ _
   rw [moveDown'_eq,Nat.zero_add]
   refine wpS_bind (wpS_modify (wpS_pure ⟨rfl,b2.put (bubble_perm _ _ _),fun i j hij hj=>?_⟩))
   have hz:k<(arrOf y').size:=by rw [b2.sz];exact hk
   have kb:=fun g=>KK_bubble (κ:=o) hz (show k - l≤k by omega) g
   rw [show k - (k - l)=l by omega] at kb
   show o.kle (KK o (bubble (arrOf y') k (k - l)) i) (KK o (bubble (arrOf y') k (k - l)) j)
   rw [kb,kb]
   rw [Nat.min_eq_left (by omega)] at hj
   split
   ·split
    ·exact KeyOrd.kle_refl _
    ·split
     ·exact KeyOrd.kle_of_klt (hi _ (by omega) (by omega))
     ·exact absurd hij (by omega)
   ·split
    ·split
     ·exact absurd hij (by omega)
     ·split
      ·exact up _ _ (by omega) (by omega)
      ·exact absurd hij (by omega)
    ·split
     ·exact lo _ (by omega)
     ·split
      ·exact up _ _ (by omega) (by omega)
      ·exact up _ _ (by omega) (by omega)
 ·obtain⟨rfl,b2,up⟩:=hy
  rw [Nat.min_eq_right (by omega)] at up
  exact⟨rfl,b2,up⟩
 ·rcases Nat.eq_zero_or_pos a with h0|h0
  ·obtain rfl:i=j:=by omega
   exact KeyOrd.kle_refl _
  ·exact hu i j hij (by omega)
 ·obtain⟨rfl,b2,up⟩:=hy
  exact wpS_pure (q y b2 up)
structure Dn (o:KeyKind) (z:oz) (y:SortSt):Prop where
 pm:(arrOf y).Perm z
 fl:failedOf y=none
 pd:pendingOf y=#[(0,z.size,0)]
 up:SortedToK o (arrOf y) z.size
theorem Bs.dn {y:SortSt} (b:Bs f z y) (up:SortedToK o (arrOf y) z.size):Dn o z (setPending y ((pendingOf y).push (0,z.size,0))):=⟨b.pm,b.fl,by show (pendingOf y).push _=_;rw [b.pd];rfl,up⟩
theorem dq {st:SortSt}{Q:Unit→SortSt→Prop} (O:UB prog w A s f o z) (b:Bs f z st) (h2:2≤z.size) (h64:z.size<64)
  (q:∀y,(arrOf y).Perm z→failedOf y=none→SortedToK o (arrOf y) z.size→Q () y):wpS (model prog w) A E s sortRuns' Q st:=by
 have mr:minRun' z.size z.size 0=z.size:=by
  cases hk:z.size with
  | zero=>omega
  | succ k=>rw [minRun'_succ,if_pos (by omega)]
 rw [sortRuns'_eq]
 refine wpS_bind (wpS_get ?_)
 simp only [b.sz,mr]
 refine wpS_bind (wpS_mono (wpS_forRange (I:=fun i c y=>(i=0∧c=(none,0)∧Bs f z y)∨(1≤i∧c=(none,z.size)∧Dn o z y)) (Q:=fun c y=>c=(none,z.size)∧Dn o z y) (fun i c y _ hi hy=>?_) (fun c y hy=>?_) (.inl ⟨rfl,rfl,b⟩)) fun c y hy=>?_)
 ·rcases hy with ⟨rfl,rfl,b1⟩|⟨i1,rfl,d⟩
  ·show wpS _ _ _ _ (if (0:Nat)≥z.size then _ else _) _ _
   rw [if_neg (by omega),Nat.sub_zero]
   refine wpS_bind (ax O (Nat.le_refl _) (by omega) b1 fun m y1 b2 m1 m2 up=>?_)
   show wpS _ _ _ _ (if m<z.size then _ else _) _ _
   rcases Nat.lt_or_ge m z.size with hm|hm
   ·rw [if_pos hm,Nat.min_self]
    refine wpS_bind (wpS_lift (wpAny_rule ⟨rfl,wpS_bind (du O (Nat.le_refl _) m2 b2 up fun y2 b3 up2=>?_)⟩))
    refine wpS_bind (wpS_get ?_)
    rw [show (pendingOf y2).back?=none by rw [b3.pd];rfl]
    refine wpS_bind (wpS_modify (wpS_pure (.inr ⟨by omega,?_,b3.dn up2⟩)))
    rw [Nat.zero_add]
   ·obtain rfl:m=z.size:=by omega
    rw [if_neg (by omega)]
    refine wpS_bind (wpS_get ?_)
    rw [show (pendingOf y1).back?=none by rw [b2.pd];rfl]
    refine wpS_bind (wpS_modify (wpS_pure (.inr ⟨by omega,?_,b2.dn up⟩)))
    rw [Nat.zero_add]
  ·show wpS _ _ _ _ (if z.size≥z.size then _ else _) _ _
   rw [if_pos (Nat.le_refl _)]
   exact wpS_pure ⟨rfl,d⟩
 ·rcases hy with ⟨h0,_,_⟩|⟨_,hc,d⟩
  ·omega
  ·exact⟨hc,d⟩
 ·obtain⟨rfl,d⟩:=hy
  refine wpS_bind (wpS_mono (wpS_forRange (I:=fun _ c y'=>y'=y∧c=(none,())) (Q:=fun c y'=>y'=y∧c=(none,())) (fun i c y' _ _ hy=>?_) (fun _ _ hh=>hh) ⟨rfl,rfl⟩) fun c y' hy=>?_)
  ·obtain⟨rfl,rfl⟩:=hy
   refine wpS_bind (wpS_get ?_)
   rw [if_pos (by rw [d.pd];exact Nat.le_refl 1)]
   exact wpS_pure ⟨rfl,rfl⟩
  ·obtain⟨rfl,rfl⟩:=hy
   exact wpS_pure (q _ d.pm d.fl d.up)
end
end TS
namespace TS
open PySem PyProof.Rows L2
section
variable {prog:oM}{w:World}{A:Around}{E:oh}{s:Shared}
theorem kK {α β:Type}{g:α→Sem β}{r:α→β}{M:Model}:∀{l:List α} {R:List β→Shared→Prop},(∀x∈l,∀R:β→Shared→Prop,R (r x) s→wpAny M A (g x) R E s)→R (l.map r) s→wpAny M A (l.mapM g) R E s
 | [],R,_,h=>by rw [List.mapM_nil];exact oO h
 | a::l,R,f,h=>by
  rw [List.mapM_cons]
  exact oN (f a (List.mem_cons_self ..) _ (oN (kK (fun x hx=>f x (List.mem_cons_of_mem _ hx)) (oO h))))
def TupAt (h:Heap) (v:Value) (ks:List L2.Key):Prop:=∃a ob vs n,v=.ref a∧h.get? a=some ob∧ob.cls=.type "tuple"∧ob.data=.seq vs.toArray n∧Vl ks vs
theorem a9 (v:Value):firstOfTuple' v=(do
  if (←typeOf v) != .type "tuple" then return none
  return (←Builtin.List.listItems v)[0]?):=rfl
theorem dM {k:L2.Key}{v:Value} (h:ZE k v) {R:oh} (q:R (.type (if k.isLeft then "int" else "str")) s):wpAny (model prog w) A (typeOf v) R E s:=by
 cases k with
 | inl n=>obtain⟨t,rfl⟩:=h;exact wpAny_typeOf (typeIs_int s n t) q
 | inr x=>obtain⟨t,rfl⟩:=h;exact wpAny_typeOf (typeIs_str s x t) q
theorem mC {kc:Value→List L2.Key}{vs:oA}{d:List Bool} (h2:2≤vs.length) (ht:∀v∈vs,TupAt s.heap v (kc v)) (hs:∀v∈vs,sd (kc v)=d) (hd:d≠[]) {R:SortKind→Shared→Prop} (q:R (tuples' true) s):wpAny (model prog w) A (keyKind' vs.toArray) R E s:=by
 have fx:∃fv:Value→Value,∀v∈vs,∃k r,kc v=k::r∧k.isLeft=d.headD true∧ZE k (fv v)∧∀R:Option Value→Shared→Prop,R (some (fv v)) s→wpAny (model prog w) A (firstOfTuple' v) R E s:=by
  have one:∀v∈vs,∃x:Value,∃k r,kc v=k::r∧k.isLeft=d.headD true∧ZE k x∧∀R:Option Value→Shared→Prop,R (some x) s→wpAny (model prog w) A (firstOfTuple' v) R E s:=fun v hv=>by
   obtain⟨a,ob,us,n,rfl,ho,hc,hda,hk⟩:=ht v hv
   have e:=hs _ hv
   cases hkc:kc (.ref a) with
   | nil=>rw [hkc] at e;exact absurd e.symm hd
   | cons k r =>
    rw [hkc] at hk e
    cases hk with
    | @cons _ x _ xs hx hxs =>
     refine⟨x,k,r,rfl,by rw [←e];rfl,hx,fun R hR=>?_⟩
     rw [a9]
     refine oN (wpAny_typeOf (T:="tuple") ⟨ob,ho,hc⟩ ?_)
     rw [if_neg (by decide)]
     exact oN (listItems_at ho hda (oO hR))
  refine⟨fun v=>if hv:v∈vs then (one v hv).choose else .none,fun v hv=>?_⟩
  simp only [dif_pos hv]
  exact (one v hv).choose_spec
 obtain⟨fv,hfv⟩:=fx
 rw [keyKind'_eq,List.mapM_toArray,←bind_pure_comp]
 refine oN (oN (kK (r:=fun v=>some (fv v)) (fun v hv R hR=>by obtain⟨_,_,_,_,_,f⟩:=hfv v hv;exact f R hR) (oO ?_)))
 rw [if_pos (by simp)]
 refine oN (wpAny_rule (oN ?_))
 rw [show (vs.map fun v=>some (fv v)).toArray.filterMap id=(vs.map fv).toArray by simp [List.filterMap_map,Function.comp_def]]
 rw [oneTypeOnly'_eq,List.mapM_toArray,←bind_pure_comp]
 refine oN (oN (kK (r:=fun _=>Value.type (if d.headD true then "int" else "str")) (fun x hx R hR=>?_) (oO ?_)))
 ·obtain⟨v,hv,rfl⟩:=List.mem_map.mp hx
  obtain⟨k,r,_,e,hk,_⟩:=hfv v hv
  rw [←e] at hR
  exact dM hk hR
 ·match vs,h2 with
  | a::b::r,_ =>
   have e0:((List.map fv (a::b::r)).map fun _=>Value.type (if d.headD true then "int" else "str")).toArray[0]?=some (Value.type (if d.headD true then "int" else "str")):=by simp
   rw [e0]
   have ea:(((List.map fv (a::b::r)).map fun _=>Value.type (if d.headD true then "int" else "str")).toArray.all fun x=>x==Value.type (if d.headD true then "int" else "str"))=true:=by
    simp only [List.all_toArray,List.all_map,List.all_eq_true]
    intro _ _
    cases d.headD true<;>rfl
   show wpAny _ _ (pure (if (((List.map fv (a::b::r)).map fun _=>Value.type (if d.headD true then "int" else "str")).toArray.all fun x=>x==Value.type (if d.headD true then "int" else "str"))=true then some (Value.type (if d.headD true then "int" else "str")) else none)) _ _ _
   rw [if_pos ea]
   refine oO (oO ?_)
   have en:((some (Value.type (if d.headD true then "int" else "str"))).any fun x=>x != Value.type "tuple")=true:=by cases d.headD true<;>rfl
   rw [en]
   exact q
theorem TupAt.upd {h:Heap}{v:Value}{ks:List L2.Key} (t:TupAt h v ks) {a:Addr} {g:Array Value→Array Value} {ob:Obj} (ho:h.get? a=some ob) (hc:ob.cls=.type "list"):TupAt (h.update a (Obj.mapSeq g)) v ks:=by
 obtain⟨b,o2,us,n,rfl,e,c,dt,k⟩:=t
 have ne:a≠b:=fun z=>by
  rw [z,e] at ho
  cases ho
  rw [c] at hc
  exact absurd hc (by decide)
 exact⟨b,o2,us,n,rfl,(Heap.get?_update_other _ _ ne).trans e,c,dt,k⟩
theorem TupAt.push {h:Heap}{v:Value}{ks:List L2.Key} (t:TupAt h v ks) (ob:Obj):TupAt (h.push ob) v ks:=by
 obtain⟨b,o2,us,n,rfl,e,c,dt,k⟩:=t
 exact⟨b,o2,us,n,rfl,Heap.get?_push_of_some _ e,c,dt,k⟩
theorem Kv {vs:oA}{p:Keyed} (h:p∈(pairsOf vs).toList):p.1=p.2∧p.1∈vs:=mem_zip_self (pairsOf_toList vs▸h)
theorem fJ {kc:Value→List L2.Key}{vs:oA}{d:List Bool} (ht:∀v∈vs,TupAt s.heap v (kc v)) (hs:∀v∈vs,sd (kc v)=d) (f:Bool):UB prog w A s f (kind kc) (pairsOf vs):=fun E p q Q hp hq h=>by
 have m1:=(Kv hp).2
 have m2:=(Kv hq).2
 have h1:Q (lx (kc p.1) (kc q.1)) s:=h
 obtain⟨a,o1,us,n,e1,ho,_,hd,hk⟩:=ht _ m1
 obtain⟨b,o2,ws,m,e2,ho2,_,hd2,hk2⟩:=ht _ m2
 rw [e1,e2] at h1
 rw [e1] at hk
 rw [e2] at hk2
 have s1:=(hs _ m1).trans (hs _ m2).symm
 rw [e1,e2] at s1
 rw [e1,e2]
 exact NU f ho hd ho2 hd2 s1 hk hk2 h1
end
end TS
namespace TS
open PySem PyProof.Rows L2
def zw:Bool→Keyed→Array Keyed→Nat→Nat→Nat→StateT SortSt Sem (Option Nat):=sortPriv% PySem.Builtin.gallop
def me (lf:Bool) (ky:Keyed) (xs:oz) (bs i:Nat):StateT SortSt Sem (Option Bool):=do
 let x ←elem' xs (bs+i)
 if lf then lt' x ky else return (←lt' ky x).map (!·)
theorem eP (lf:Bool) (ky:Keyed) (xs:oz) (bs n hi0:Nat):zw lf ky xs bs n hi0=(do
  let mut la:=0
  let mut of:=1
  let mut l:=0
  let mut h:=0
  let some r ←me lf ky xs bs hi0|return none
  if r then
   let mx:=n - hi0
   for _ in [0:n] do
    if of≥mx then break
    let some m ←me lf ky xs bs (hi0+of)|return none
    if !m then break
    la:=of
    of:=2*of+1
   l:=hi0+la+1
   h:=hi0+min of mx
  else
   let mx:=hi0+1
   for _ in [0:n] do
    if of≥mx then break
    let some m ←me lf ky xs bs (hi0 - of)|return none
    if m then break
    la:=of
    of:=2*of+1
   l:=hi0+1 - min of mx
   h:=hi0 - la
  for _ in [0:n] do
   if l≥h then break
   let m:=l+(h - l) / 2
   let some v ←me lf ky xs bs m|return none
   if v then l:=m+1 else h:=m
  return some h):=rfl
section
variable {prog:oM}{w:World}{A:Around}{E:oh}{s:Shared}{f:Bool}{z:oz}{o:KeyKind}
def eO (lf:Bool) (ky:Keyed) (xs:oz) (bs n l0 h0:Nat):StateT SortSt Sem (Option Nat):=do
 let mut l:=l0
 let mut h:=h0
 for _ in [0:n] do
  if l≥h then break
  let m:=l+(h - l) / 2
  let some v ←me lf ky xs bs m|return none
  if v then l:=m+1 else h:=m
 return some h
theorem Kr {st:SortSt}{lf:Bool}{ky:Keyed}{xs:oz}{bs n l0 h0:Nat}{B:Nat→Bool}{Q:Option Nat→SortSt→Prop} (hb:∀i,i<n→∀R:Option Bool→SortSt→Prop,R (some (B i)) st→wpS (model prog w) A E s (me lf ky xs bs i) R st)
  (anti:∀i j,i≤j→j<n→B j=true→B i=true) (anti2:∀i j,i≤j→j<n→B i=false→B j=false) (lh:l0≤h0) (hn:h0≤n) (bl:∀i,i<l0→B i=true) (bh:∀i,h0≤i→i<n→B i=false)
  (q:∀k,k≤n→(∀i,i<k→B i=true)→(∀i,k≤i→i<n→B i=false)→Q (some k) st):wpS (model prog w) A E s (eO lf ky xs bs n l0 h0) Q st:=by
 refine wpS_bind (wpS_mono (wpS_forRange (I:=fun i c y=>y=st∧∃l h,c=(none,l,h)∧l≤h∧h≤n∧h - l≤n - i∧(∀g,g<l→B g=true)∧∀g,h≤g→g<n→B g=false) (Q:=fun c y=>y=st∧∃h,c=(none,h,h)∧h≤n∧(∀g,g<h→B g=true)∧∀g,h≤g→g<n→B g=false) (fun i c y i1 i2 hy=>?_) (fun c y hy=>?_) ⟨rfl,l0,h0,rfl,lh,hn,by omega,bl,bh⟩) fun c y hy=>?_)
 ·obtain⟨rfl,l,h,rfl,h1,h2,h3,h4,h5⟩:=hy
  show wpS _ _ _ _ (if l≥h then _ else _) _ _
  rcases Nat.lt_or_ge l h with hlh|hlh
  ·rw [if_neg (by omega)]
   have hm:l+(h - l) / 2<n:=by omega
   refine wpS_bind (hb _ hm _ ?_)
   show wpS _ _ _ _ (if B (l+(h - l) / 2)=true then _ else _) _ _
   cases hv:B (l+(h - l) / 2) with
   | true=>rw [if_pos rfl];exact wpS_pure ⟨rfl,l+(h - l) / 2+1,h,rfl,by omega,h2,by omega,fun g hg=>anti g (l+(h - l) / 2) (by omega) hm hv,h5⟩
   | false=>rw [if_neg Bool.false_ne_true];exact wpS_pure ⟨rfl,l,l+(h - l) / 2,rfl,by omega,by omega,by omega,h4,fun g g1 g2=>anti2 _ g g1 g2 hv⟩
  ·rw [if_pos hlh]
   obtain rfl:l=h:=by omega
   exact wpS_pure ⟨rfl,l,rfl,h2,h4,h5⟩
 ·obtain⟨rfl,l,h,rfl,h1,h2,h3,h4,h5⟩:=hy
  obtain rfl:l=h:=by omega
  exact⟨rfl,l,rfl,h2,h4,h5⟩
 ·obtain⟨rfl,h,rfl,h2,h4,h5⟩:=hy
  exact wpS_pure (q h h2 h4 h5)
theorem NG {st:SortSt}{lf:Bool}{ky:Keyed}{xs:oz}{bs n hi0:Nat}{B:Nat→Bool}{Q:Option Nat→SortSt→Prop} (hb:∀i,i<n→∀R:Option Bool→SortSt→Prop,R (some (B i)) st→wpS (model prog w) A E s (me lf ky xs bs i) R st)
  (anti:∀i j,i≤j→j<n→B j=true→B i=true) (hh:hi0<n) (q:∀k,k≤n→(∀i,i<k→B i=true)→(∀i,k≤i→i<n→B i=false)→Q (some k) st):wpS (model prog w) A E s (zw lf ky xs bs n hi0) Q st:=by
 have anti2:∀i j,i≤j→j<n→B i=false→B j=false:=fun i j hij hj hi=>by
  cases hj2:B j with
  | false=>rfl
  | true=>rw [anti i j hij hj hj2] at hi;cases hi
 rw [eP]
 refine wpS_bind (hb hi0 hh _ ?_)
 cases hr:B hi0 with
 | true =>
  refine wpS_bind (wpS_mono (wpS_forRange (I:=fun i c y=>y=st∧∃la k,c=(none,la,k)∧la<k∧i+1≤k∧(hi0+la<n→B (hi0+la)=true)∧hi0+la<n) (Q:=fun c y=>y=st∧∃la k,c=(none,la,k)∧la<k∧hi0+la<n∧B (hi0+la)=true∧(n - hi0≤k∨(hi0+k<n∧B (hi0+k)=false))) (fun i c y i1 i2 hy=>?_) (fun c y hy=>?_) ⟨rfl,0,1,rfl,by omega,by omega,fun _=>hr,by omega⟩) fun c y hy=>?_)
  ·obtain⟨rfl,la,k,rfl,h1,h2,h3,h4⟩:=hy
   show wpS _ _ _ _ (if k≥n - hi0 then _ else _) _ _
   rcases Nat.lt_or_ge k (n - hi0) with hk|hk
   ·rw [if_neg (by omega)]
    refine wpS_bind (hb (hi0+k) (by omega) _ ?_)
    show wpS _ _ _ _ (if (!B (hi0+k))=true then _ else _) _ _
    cases hv:B (hi0+k) with
    | true=>exact wpS_pure ⟨rfl,k,2*k+1,rfl,by omega,by omega,fun _=>hv,by omega⟩
    | false=>exact wpS_pure ⟨rfl,la,k,rfl,h1,h4,h3 h4,.inr ⟨by omega,hv⟩⟩
   ·rw [if_pos hk]
    exact wpS_pure ⟨rfl,la,k,rfl,h1,h4,h3 h4,.inl hk⟩
  ·obtain⟨rfl,la,k,rfl,h1,h2,h3,h4⟩:=hy
   exact⟨rfl,la,k,rfl,h1,h4,h3 h4,.inl (by omega)⟩
  ·obtain⟨rfl,la,k,rfl,h1,h4,h3,h5⟩:=hy
   refine Kr (l0:=hi0+la+1) (h0:=hi0+min k (n - hi0)) hb anti anti2 ?_ ?_ (fun i hi=>anti i _ (by omega) h4 h3) (fun i h6 h7=>?_) q
   ·rcases h5 with h5|h5
    ·rw [Nat.min_eq_right h5];omega
    ·rw [Nat.min_eq_left (by omega)];omega
   ·omega
   ·rcases h5 with h5|h5
    ·rw [Nat.min_eq_right h5] at h6;omega
    ·rw [Nat.min_eq_left (by omega)] at h6;exact anti2 _ i h6 h7 h5.2
 | false =>
  refine wpS_bind (wpS_mono (wpS_forRange (I:=fun i c y=>y=st∧∃la k,c=(none,la,k)∧la<k∧i+1≤k∧la≤hi0∧B (hi0 - la)=false) (Q:=fun c y=>y=st∧∃la k,c=(none,la,k)∧la<k∧la≤hi0∧B (hi0 - la)=false∧(hi0+1≤k∨(k≤hi0∧B (hi0 - k)=true))) (fun i c y i1 i2 hy=>?_) (fun c y hy=>?_) ⟨rfl,0,1,rfl,by omega,by omega,by omega,hr⟩) fun c y hy=>?_)
  ·obtain⟨rfl,la,k,rfl,h1,h2,h3,h4⟩:=hy
   show wpS _ _ _ _ (if k≥hi0+1 then _ else _) _ _
   rcases Nat.lt_or_ge k (hi0+1) with hk|hk
   ·rw [if_neg (by omega)]
    refine wpS_bind (hb (hi0 - k) (by omega) _ ?_)
    show wpS _ _ _ _ (if B (hi0 - k)=true then _ else _) _ _
    cases hv:B (hi0 - k) with
    | true=>rw [if_pos rfl];exact wpS_pure ⟨rfl,la,k,rfl,h1,h3,h4,.inr ⟨by omega,hv⟩⟩
    | false=>rw [if_neg Bool.false_ne_true];exact wpS_pure ⟨rfl,k,2*k+1,rfl,by omega,by omega,by omega,hv⟩
   ·rw [if_pos hk]
    exact wpS_pure ⟨rfl,la,k,rfl,h1,h3,h4,.inl hk⟩
  ·obtain⟨rfl,la,k,rfl,h1,h2,h3,h4⟩:=hy
   exact⟨rfl,la,k,rfl,h1,h3,h4,.inl (by omega)⟩
  ·obtain⟨rfl,la,k,rfl,h1,h3,h4,h5⟩:=hy
   refine Kr (l0:=hi0+1 - min k (hi0+1)) (h0:=hi0 - la) hb anti anti2 ?_ (by omega) (fun i hi=>?_) (fun i h6 h7=>anti2 _ i h6 h7 h4) q
   ·rcases h5 with h5|h5
    ·rw [Nat.min_eq_right h5];omega
    ·rw [Nat.min_eq_left (by omega)];omega
   ·rcases h5 with h5|h5
    ·rw [Nat.min_eq_right h5] at hi;omega
    ·rw [Nat.min_eq_left (by omega)] at hi;exact anti i (hi0 - k) (by omega) (by omega) h5.2
end
end TS
namespace TS
open PySem PyProof.Rows L2
def cw:Array Keyed→Array Keyed→StateT SortSt Sem (Array Keyed):=sortPriv% PySem.Builtin.mergeLo
def cu:Array Keyed→Array Keyed→StateT SortSt Sem (Array Keyed):=sortPriv% PySem.Builtin.mergeHi
def Gx:Nat→StateT SortSt Sem Unit:=sortPriv% PySem.Builtin.setMinGallop
def VZ (a b out:oz) (i j:Nat):Array Keyed:=out++a.extract i a.size++b.extract j b.size
def GQ (a b out:oz) (i j:Nat):Array Keyed:=out++b.extract j b.size++a.extract i a.size
theorem fB (a b:oz):cw a b=(do
  liftM (rule "list.sort.merge-lo")
  let tt:=a.size+b.size
  let mut out:Array Keyed:=#[←elem' b 0]
  let mut i:=0
  let mut j:=1
  if j==b.size then return VZ a b out i j
  if i+1==a.size then return GQ a b out i j
  let mut mg:=gallopOf (←get)
  for _ in [0:tt] do
   let mut ca:=0
   let mut cb:=0
   for _ in [0:tt] do
    let some bw ←lt' (←elem' b j) (←elem' a i)|return VZ a b out i j
    if bw then
     out:=out.push (←elem' b j);j:=j+1;cb:=cb+1;ca:=0
     if j==b.size then return VZ a b out i j
     if cb≥mg then break
    else
     out:=out.push (←elem' a i);i:=i+1;ca:=ca+1;cb:=0
     if i+1==a.size then return GQ a b out i j
     if ca≥mg then break
   liftM (rule "list.sort.gallop")
   mg:=mg+1
   for _ in [0:tt] do
    if mg > 1 then mg:=mg - 1
    Gx mg
    let some k ←zw false (←elem' b j) a i (a.size - i) 0|return VZ a b out i j
    ca:=k
    if k > 0 then
     out:=out++a.extract i (i+k);i:=i+k
     if i+1==a.size then return GQ a b out i j
     if i==a.size then return VZ a b out i j
    out:=out.push (←elem' b j);j:=j+1
    if j==b.size then return VZ a b out i j
    let some k ←zw true (←elem' a i) b j (b.size - j) 0|return VZ a b out i j
    cb:=k
    if k > 0 then
     out:=out++b.extract j (j+k);j:=j+k
     if j==b.size then return VZ a b out i j
    out:=out.push (←elem' a i);i:=i+1
    if i+1==a.size then return GQ a b out i j
    if ca<7&&cb<7 then break
   mg:=mg+1
   Gx mg
  unsupported "internal:list.sort.merge-bound"):=rfl
section
variable {prog:oM}{w:World}{A:Around}{E:oh}{s:Shared}{f:Bool}{z:oz}{o:KeyKind}
structure Sm (x y:SortSt):Prop where
 ar:arrOf y=arrOf x
 kd:kindOf y=kindOf x
 fl:failedOf y=failedOf x
 pd:pendingOf y=pendingOf x
theorem Sm.refl (x:SortSt):Sm x x:=⟨rfl,rfl,rfl,rfl⟩
def uB (o:KeyKind) (p q:Keyed):Prop:=o.kle (kv o p) (kv o q)
def Up (o:KeyKind) (l:List Keyed):Prop:=l.Pairwise (uB o)
theorem Ul {p q r:Keyed} (h1:uB o p q) (h2:uB o q r):uB o p r:=KeyOrd.kle_trans h1 h2
theorem G6 {st:SortSt}{p q:Keyed}{Q:Option Bool→SortSt→Prop} (O:UB prog w A s f o z) (kd:kindOf st=tuples' f) (hp:p∈z.toList) (hq:q∈z.toList) (h:Q (some (o.blt (kv o p) (kv o q))) st):wpS (model prog w) A E s (lt' p q) Q st:=by
 rw [lt'_eq]
 refine wpS_bind (wpS_get ?_)
 rw [kd]
 exact wpS_bind (wpS_lift (wpAny_attempt (O _ p q _ hp hq ⟨rfl,wpS_pure h⟩)))
theorem J2 {st:SortSt}{xs:oz}{i:Nat}{Q:Keyed→SortSt→Prop} (hi:i<xs.size) (h:Q xs[i] st):wpS (model prog w) A E s (elem' xs i) Q st:=by
 rw [elem'_eq,getElem?_pos xs i hi]
 exact wpS_pure h
theorem UK {xs:oz}{i:Nat} (hi:i<xs.size):xs[i]∈xs.toList:=Array.getElem_mem_toList hi
theorem Up.at_ {xs:oz} (u:Up o xs.toList) {i j:Nat} (hij:i≤j) (hj:j<xs.size):uB o (xs[i]'(Nat.lt_of_le_of_lt hij hj)) xs[j]:=by
 rcases Nat.lt_or_ge i j with h|h
 ·have:=(List.pairwise_iff_getElem.mp u) i j (by simpa using Nat.lt_of_le_of_lt hij hj) (by simpa using hj) h
  simpa using this
 ·obtain rfl:i=j:=by omega
  exact KeyOrd.kle_refl _
theorem Gr {st:SortSt}{ky:Keyed}{xs:oz}{bs n h0:Nat}{Q:Option Nat→SortSt→Prop} (O:UB prog w A s f o z) (kd:kindOf st=tuples' f) (hx:∀p∈xs.toList,p∈z.toList) (hk:ky∈z.toList) (hn:bs+n≤xs.size) (hh:h0<n) (up:∀i j (hij:i≤j) (hj:bs+j<xs.size),j<n→uB o (xs[bs+i]'(by omega)) xs[bs+j])
  (q:∀k,k≤n→(∀i (hi:bs+i<xs.size),i<k→o.klt (kv o xs[bs+i]) (kv o ky))→(∀i (hi:bs+i<xs.size),k≤i→i<n→uB o ky xs[bs+i])→Q (some k) st):wpS (model prog w) A E s (zw true ky xs bs n h0) Q st:=by
 refine NG (B:=fun i=>if hi:bs+i<xs.size then o.blt (kv o xs[bs+i]) (kv o ky) else false) (fun i hi R hR=>?_) (fun i j hij hj h=>?_) hh fun k hk1 h1 h2=>q k hk1 (fun i hi hik=>?_) (fun i hi hik hin=>?_)
 ·rw [dif_pos (by omega)] at hR
  refine wpS_bind (J2 (by omega) ?_)
  rw [if_pos rfl]
  exact G6 O kd (hx _ (UK _)) hk hR
 ·have hj2:bs+j<xs.size:=by omega
  have Vh:bs+i<xs.size:=by omega
  simp only [dif_pos hj2,dif_pos Vh] at h ⊢
  exact KeyOrd.klt_of_kle_of_klt (up i j hij hj2 hj) h
 ·have:=h1 i hik
  rw [dif_pos hi] at this
  exact this
 ·have:=h2 i hik hin
  rw [dif_pos hi] at this
  exact this
theorem ZR {st:SortSt}{ky:Keyed}{xs:oz}{bs n h0:Nat}{Q:Option Nat→SortSt→Prop} (O:UB prog w A s f o z) (kd:kindOf st=tuples' f) (hx:∀p∈xs.toList,p∈z.toList) (hk:ky∈z.toList) (hn:bs+n≤xs.size) (hh:h0<n) (up:∀i j (hij:i≤j) (hj:bs+j<xs.size),j<n→uB o (xs[bs+i]'(by omega)) xs[bs+j])
  (q:∀k,k≤n→(∀i (hi:bs+i<xs.size),i<k→uB o xs[bs+i] ky)→(∀i (hi:bs+i<xs.size),k≤i→i<n→o.klt (kv o ky) (kv o xs[bs+i]))→Q (some k) st):wpS (model prog w) A E s (zw false ky xs bs n h0) Q st:=by
 refine NG (B:=fun i=>if hi:bs+i<xs.size then !o.blt (kv o ky) (kv o xs[bs+i]) else false) (fun i hi R hR=>?_) (fun i j hij hj h=>?_) hh fun k hk1 h1 h2=>q k hk1 (fun i hi hik=>?_) (fun i hi hik hin=>?_)
 ·rw [dif_pos (by omega)] at hR
  refine wpS_bind (J2 (by omega) ?_)
  rw [if_neg Bool.false_ne_true]
  exact wpS_bind (G6 O kd hk (hx _ (UK _)) (wpS_pure hR))
 ·have hj2:bs+j<xs.size:=by omega
  have Vh:bs+i<xs.size:=by omega
  simp only [dif_pos hj2,dif_pos Vh,Bool.not_eq_true'] at h ⊢
  exact KeyOrd.kle_trans (up i j hij hj2 hj) h
 ·have:=h1 i hik
  rw [dif_pos hi,Bool.not_eq_true'] at this
  exact this
 ·have:=h2 i hik hin
  rw [dif_pos hi,Bool.not_eq_false'] at this
  exact this
structure ML (o:KeyKind) (a b out:oz) (i j:Nat):Prop where
 pm:(out.toList++(a.toList.drop i++b.toList.drop j)).Perm (a.toList++b.toList)
 up:Up o out.toList
 le:∀p∈out.toList,∀q∈a.toList.drop i++b.toList.drop j,uB o p q
theorem ML.mvA {a b out:oz}{i j k:Nat} (m:ML o a b out i j) (ua:Up o a.toList) (hk:i+k≤a.size) (h:∀p∈(a.toList.drop i).take k,∀q∈b.toList.drop j,uB o p q):ML o a b (out++a.extract i (i+k)) (i+k) j:=by
 have e:(out++a.extract i (i+k)).toList=out.toList++(a.toList.drop i).take k:=by
  rw [Array.toList_append,Array.toList_extract,List.extract_eq_drop_take,Nat.add_sub_cancel_left]
 have e2:a.toList.drop i=(a.toList.drop i).take k++a.toList.drop (i+k):=by rw [←List.drop_drop,List.take_append_drop]
 have ud:Up o (a.toList.drop i):=ua.drop
 refine⟨?_,?_,?_⟩
 ·rw [e,List.append_assoc,←List.append_assoc (List.take _ _),←e2];exact m.pm
 ·rw [e]
  refine List.pairwise_append.mpr ⟨m.up,ud.take,fun p hp q hq=>m.le p hp q (List.mem_append_left _ (List.mem_of_mem_take hq))⟩
 ·rw [e]
  intro p hp q hq
  rcases List.mem_append.mp hp with hp|hp
  ·rcases List.mem_append.mp hq with hq|hq
   ·exact m.le p hp q (List.mem_append_left _ (by rw [e2];exact List.mem_append_right _ hq))
   ·exact m.le p hp q (List.mem_append_right _ hq)
  ·rcases List.mem_append.mp hq with hq|hq
   ·rw [e2] at ud
    exact (List.pairwise_append.mp ud).2.2 p hp q hq
   ·exact h p hp q hq
theorem ML.mvB {a b out:oz}{i j k:Nat} (m:ML o a b out i j) (ub:Up o b.toList) (hk:j+k≤b.size) (h:∀p∈(b.toList.drop j).take k,∀q∈a.toList.drop i,uB o p q):ML o a b (out++b.extract j (j+k)) i (j+k):=by
 have e:(out++b.extract j (j+k)).toList=out.toList++(b.toList.drop j).take k:=by
  rw [Array.toList_append,Array.toList_extract,List.extract_eq_drop_take,Nat.add_sub_cancel_left]
 have e2:b.toList.drop j=(b.toList.drop j).take k++b.toList.drop (j+k):=by rw [←List.drop_drop,List.take_append_drop]
 have ud:Up o (b.toList.drop j):=ub.drop
 refine⟨?_,?_,?_⟩
 ·rw [e]
  refine List.Perm.trans ?_ m.pm
  rw [List.append_assoc]
  refine List.Perm.append_left _ ?_
  conv=>rhs;rw [e2]
  exact (List.perm_append_comm_assoc _ _ _)
 ·rw [e]
  refine List.pairwise_append.mpr ⟨m.up,ud.take,fun p hp q hq=>m.le p hp q (List.mem_append_right _ (List.mem_of_mem_take hq))⟩
 ·rw [e]
  intro p hp q hq
  rcases List.mem_append.mp hp with hp|hp
  ·rcases List.mem_append.mp hq with hq|hq
   ·exact m.le p hp q (List.mem_append_left _ hq)
   ·exact m.le p hp q (List.mem_append_right _ (by rw [e2];exact List.mem_append_right _ hq))
  ·rcases List.mem_append.mp hq with hq|hq
   ·exact h p hp q hq
   ·rw [e2] at ud
    exact (List.pairwise_append.mp ud).2.2 p hp q hq
theorem eJ {xs:oz}{i:Nat} (hi:i<xs.size):xs.extract i (i+1)=#[xs[i]]:=by
 apply Array.toList_inj.mp
 rw [Array.toList_extract,List.extract_eq_drop_take,Nat.add_sub_cancel_left,List.drop_eq_getElem_cons (by simpa using hi)]
 simp
theorem Zh {out xs:oz}{i:Nat} (hi:i<xs.size):out.push xs[i]=out++xs.extract i (i+1):=by
 rw [eJ hi,Array.push_eq_append]
theorem VE {xs:oz}{i:Nat}{p:Keyed} (h:p∈xs.toList.drop i):∃k,∃hk:i+k<xs.size,p=xs[i+k]:=by
 obtain⟨k,hk,e⟩:=List.mem_iff_getElem.mp h
 rw [List.length_drop,Array.length_toList] at hk
 refine⟨k,by omega,?_⟩
 rw [←e,List.getElem_drop,Array.getElem_toList]
theorem zh {xs:oz}{i n:Nat}{p:Keyed} (h:p∈(xs.toList.drop i).take n):∃k,∃hk:i+k<xs.size,k<n∧p=xs[i+k]:=by
 obtain⟨k,hk,e⟩:=List.mem_iff_getElem.mp h
 rw [List.length_take,List.length_drop,Array.length_toList] at hk
 refine⟨k,by omega,by omega,?_⟩
 rw [←e,List.getElem_take,List.getElem_drop,Array.getElem_toList]
structure Mg (o:KeyKind) (a b m:oz):Prop where
 pm:m.toList.Perm (a.toList++b.toList)
 up:Up o m.toList
theorem ML.endA {a b out:oz}{i j:Nat} (m:ML o a b out i j) (ua:Up o a.toList) (ub:Up o b.toList) (h:j=b.size∨i=a.size):Mg o a b (VZ a b out i j):=by
 have e:(VZ a b out i j).toList=out.toList++(a.toList.drop i++b.toList.drop j):=by
  unfold VZ
  rw [Array.toList_append,Array.toList_append,Array.toList_extract,Array.toList_extract,List.extract_eq_drop_take,List.extract_eq_drop_take,List.append_assoc]
  congr 2<;>exact List.take_of_length_le (by simp)
 have z0:a.toList.drop i=[]∨b.toList.drop j=[]:=by
  rcases h with h|h
  ·exact .inr (List.drop_eq_nil_of_le (by simp [h]))
  ·exact .inl (List.drop_eq_nil_of_le (by simp [h]))
 refine⟨by rw [e];exact m.pm,?_⟩
 rw [e]
 refine List.pairwise_append.mpr ⟨m.up,?_,m.le⟩
 rcases z0 with z0|z0<;>rw [z0]
 ·exact ub.drop
 ·rw [List.append_nil];exact ua.drop
theorem ML.endB {a b out:oz}{i j:Nat} (m:ML o a b out i j) (ub:Up o b.toList) (h:i+1=a.size) (hl:∀p∈b.toList,∀hi:i<a.size,uB o p a[i]):Mg o a b (GQ a b out i j):=by
 have hi:i<a.size:=by omega
 have e1:a.toList.drop i=[a[i]]:=by
  rw [List.drop_eq_getElem_cons (by simpa using hi),List.drop_eq_nil_of_le (by simp;omega)];simp
 have e:(GQ a b out i j).toList=out.toList++(b.toList.drop j++a.toList.drop i):=by
  unfold GQ
  rw [Array.toList_append,Array.toList_append,Array.toList_extract,Array.toList_extract,List.extract_eq_drop_take,List.extract_eq_drop_take,List.append_assoc]
  congr 2<;>exact List.take_of_length_le (by simp)
 refine⟨?_,?_⟩
 ·rw [e]
  exact List.Perm.trans (List.Perm.append_left _ List.perm_append_comm) m.pm
 ·rw [e]
  refine List.pairwise_append.mpr ⟨m.up,List.pairwise_append.mpr ⟨ub.drop,by rw [e1];exact List.pairwise_singleton _ _,fun p hp q hq=>?_⟩,fun p hp q hq=>m.le p hp q ?_⟩
  ·rw [e1,List.mem_singleton] at hq
   rw [hq]
   exact hl p (List.mem_of_mem_drop hp) hi
  ·rcases List.mem_append.mp hq with hq|hq
   ·exact List.mem_append_right _ hq
   ·exact List.mem_append_left _ hq
end
end TS
namespace TS
open PySem PyProof.Rows L2
abbrev LS:=Option (Array Keyed)×Array Keyed×Nat×Nat×Nat×Nat×Nat
def fi (a b:oz) (i mg ca cb:Nat) (out:oz) (j:Nat):StateT SortSt Sem (ForInStep LS):=do
 let x ←elem' a i
 if (i+1+1==a.size)=true then pure (.done (some (GQ a b (out.push x) (i+1) j),out.push x,i+1,j,mg,ca,cb))
 else if (decide (ca<7)&&decide (cb<7))=true then pure (.done (none,out.push x,i+1,j,mg,ca,cb))
 else pure (.yield (none,out.push x,i+1,j,mg,ca,cb))
def fh (a b:oz) (j mg ca cb:Nat) (out:oz) (i:Nat):StateT SortSt Sem (ForInStep LS):=do
 let x ←elem' b j
 if (j+1==b.size)=true then pure (.done (some (VZ a b (out.push x) i (j+1)),out.push x,i,j+1,mg,ca,cb))
 else
  let y ←elem' a i
  let some k ←zw true y b (j+1) (b.size - (j+1)) 0|pure (.done (some (VZ a b (out.push x) i (j+1)),out.push x,i,j+1,mg,ca,cb))
  if k > 0 then
   if (j+1+k==b.size)=true then pure (.done (some (VZ a b (out.push x++b.extract (j+1) (j+1+k)) i (j+1+k)),out.push x++b.extract (j+1) (j+1+k),i,j+1+k,mg,ca,k))
   else fi a b i mg ca k (out.push x++b.extract (j+1) (j+1+k)) (j+1+k)
  else fi a b i mg ca k (out.push x) (j+1)
def fg (a b out:oz) (i j ca cb mg:Nat):StateT SortSt Sem (ForInStep LS):=do
 Gx mg
 let x ←elem' b j
 let some k ←zw false x a i (a.size - i) 0|pure (.done (some (VZ a b out i j),out,i,j,mg,ca,cb))
 if k > 0 then
  if (i+k+1==a.size)=true then pure (.done (some (GQ a b (out++a.extract i (i+k)) (i+k) j),out++a.extract i (i+k),i+k,j,mg,k,cb))
  else if (i+k==a.size)=true then pure (.done (some (VZ a b (out++a.extract i (i+k)) (i+k) j),out++a.extract i (i+k),i+k,j,mg,k,cb))
  else fh a b j mg k cb (out++a.extract i (i+k)) (i+k)
 else fh a b j mg k cb out i
section
variable {prog:oM}{w:World}{A:Around}{E:oh}{s:Shared}{f:Bool}{z:oz}{o:KeyKind}
structure LI (o:KeyKind) (a b:oz) (st:SortSt) (t:Nat) (out:oz) (i j:Nat) (y:SortSt):Prop where
 sm:Sm st y
 ml:ML o a b out i j
 hi:i+1<a.size
 hj:j<b.size
 tt:t≤i+j
def dW (o:KeyKind) (a b:oz) (st:SortSt) (t:Nat) (c:LS) (y:SortSt):Prop:=(∃m,c.1=some m∧Sm st y∧Mg o a b m)∨(c.1=none∧LI o a b st t c.2.1 c.2.2.1 c.2.2.2.1 y)
def M8 (o:KeyKind) (a b:oz) (st:SortSt) (t:Nat):ForInStep LS→SortSt→Prop:=fun r y=>match r with|.done c=>dW o a b st t c y|.yield c=>c.1=none∧LI o a b st t c.2.1 c.2.2.1 c.2.2.2.1 y
structure ZF (o:KeyKind) (f:Bool) (z a b:oz) (st:SortSt):Prop where
 kd:kindOf st=tuples' f
 ma:∀p∈a.toList,p∈z.toList
 mb:∀p∈b.toList,p∈z.toList
 ua:Up o a.toList
 ub:Up o b.toList
 hl:∀p∈b.toList,∀hi:a.size - 1<a.size,uB o p a[a.size - 1]
 h0:∀p∈a.toList,∀hi:0<b.size,uB o b[0] p
theorem Sm.trans {x y u:SortSt} (h:Sm x y) (g:Sm y u):Sm x u:=⟨g.ar.trans h.ar,g.kd.trans h.kd,g.fl.trans h.fl,g.pd.trans h.pd⟩
theorem ZF.last {a b:oz}{st:SortSt} (T:ZF o f z a b st) {i:Nat} (h:i+1=a.size):∀p∈b.toList,∀hi:i<a.size,uB o p a[i]:=fun p hp hi=>by
 have e:a.size - 1=i:=by omega
 have:=T.hl p hp (by omega)
 simp only [e] at this
 exact this
theorem N7 {a b:oz}{st y:SortSt}{t i j mg ca cb:Nat}{out:oz} (T:ZF o f z a b st) (sm:Sm st y) (ml:ML o a b out i j) (hi:i+1<a.size) (hj:j<b.size) (tt:t≤i+j+1) (h:∀q∈b.toList.drop j,uB o a[i] q) :
  wpS (model prog w) A E s (fi a b i mg ca cb out j) (M8 o a b st t) y:=by
 refine wpS_bind (J2 (by omega) ?_)
 have m2:ML o a b (out.push a[i]) (i+1) j:=by
  rw [Zh (by omega)]
  refine ml.mvA T.ua (by omega) fun p hp q hq=>?_
  obtain⟨k,hk,k1,rfl⟩:=zh hp
  obtain rfl:k=0:=by omega
  exact h q hq
 rcases Nat.lt_or_ge (i+1+1) a.size with h1|h1
 ·rw [if_neg (by rw [beq_iff_eq];omega)]
  have li:LI o a b st t (out.push a[i]) (i+1) j y:=⟨sm,m2,h1,hj,by omega⟩
  split
  ·exact wpS_pure (.inr ⟨rfl,li⟩)
  ·exact wpS_pure ⟨rfl,li⟩
 ·rw [if_pos (by rw [beq_iff_eq];omega)]
  exact wpS_pure (.inl ⟨_,rfl,sm,m2.endB T.ub (by omega) (T.last (by omega))⟩)
theorem MG {xs:oz}{j k:Nat}{q:Keyed} (h:q∈xs.toList.drop (j+k)):∃g,∃hg:j+g<xs.size,k≤g∧q=xs[j+g]:=by
 obtain⟨g,hg,rfl⟩:=VE h
 exact⟨k+g,by omega,by omega,by congr 1;omega⟩
theorem NZ {a b:oz}{st y:SortSt}{t i j mg ca cb:Nat}{out:oz} (O:UB prog w A s f o z) (T:ZF o f z a b st) (sm:Sm st y) (ml:ML o a b out i j) (hi:i+1<a.size) (hj:j<b.size) (tt:t≤i+j) (h:∀q∈a.toList.drop i,uB o b[j] q) :
  wpS (model prog w) A E s (fh a b j mg ca cb out i) (M8 o a b st t) y:=by
 refine wpS_bind (J2 hj ?_)
 have m2:ML o a b (out.push b[j]) i (j+1):=by
  rw [Zh hj]
  refine ml.mvB T.ub (by omega) fun p hp q hq=>?_
  obtain⟨k,hk,k1,rfl⟩:=zh hp
  obtain rfl:k=0:=by omega
  exact h q hq
 rcases Nat.lt_or_ge (j+1) b.size with h1|h1
 ·rw [if_neg (by rw [beq_iff_eq];omega)]
  refine wpS_bind (J2 (by omega) (wpS_bind (Gr O (sm.kd.trans T.kd) T.mb (T.ma _ (UK _)) (by omega) (by omega) (fun g k hgk hk _=>T.ub.at_ (by omega) hk) fun k hk less rest=>?_)))
  show wpS _ _ _ _ (if k > 0 then _ else _) _ _
  have rest2:∀q∈b.toList.drop (j+1+k),uB o a[i] q:=fun q hq=>by
   obtain⟨g,hg,hkg,rfl⟩:=MG hq
   exact rest g hg hkg (by omega)
  rcases Nat.lt_or_ge 0 k with h2|h2
  ·rw [if_pos h2]
   have m3:ML o a b (out.push b[j]++b.extract (j+1) (j+1+k)) i (j+1+k):=m2.mvB T.ub (by omega) fun p hp q hq=>by
    obtain⟨g,hg,g1,rfl⟩:=zh hp
    obtain⟨g',hg',rfl⟩:=VE hq
    exact Ul (KeyOrd.kle_of_klt (less g hg g1)) (T.ua.at_ (by omega) hg')
   rcases Nat.lt_or_ge (j+1+k) b.size with h3|h3
   ·rw [if_neg (by rw [beq_iff_eq];omega)]
    exact N7 T sm m3 hi h3 (by omega) rest2
   ·rw [if_pos (by rw [beq_iff_eq];omega)]
    exact wpS_pure (.inl ⟨_,rfl,sm,m3.endA T.ua T.ub (.inl (by omega))⟩)
  ·rw [if_neg (by omega)]
   obtain rfl:k=0:=by omega
   exact N7 T sm m2 hi h1 (by omega) rest2
 ·rw [if_pos (by rw [beq_iff_eq];omega)]
  exact wpS_pure (.inl ⟨_,rfl,sm,m2.endA T.ua T.ub (.inl (by omega))⟩)
theorem gC {y:SortSt}{mg:Nat}{Q:Unit→SortSt→Prop} (h:∀y',Sm y y'→Q () y'):wpS (model prog w) A E s (Gx mg) Q y:=wpS_modify (h _ ⟨rfl,rfl,rfl,rfl⟩)
theorem NY {a b:oz}{st y:SortSt}{t i j mg ca cb:Nat}{out:oz} (O:UB prog w A s f o z) (T:ZF o f z a b st) (li:LI o a b st t out i j y) :
  wpS (model prog w) A E s (fg a b out i j ca cb mg) (M8 o a b st t) y:=by
 obtain⟨sm0,ml,hi,hj,tt⟩:=li
 refine wpS_bind (gC fun y' s'=>?_)
 have sm:=sm0.trans s'
 refine wpS_bind (J2 hj (wpS_bind (ZR O (sm.kd.trans T.kd) T.ma (T.mb _ (UK _)) (by omega) (by omega) (fun g k hgk hk _=>T.ua.at_ (by omega) hk) fun k hk less rest=>?_)))
 show wpS _ _ _ _ (if k > 0 then _ else _) _ _
 have rest2:∀q∈a.toList.drop (i+k),uB o b[j] q:=fun q hq=>by
  obtain⟨g,hg,hkg,rfl⟩:=MG hq
  exact KeyOrd.kle_of_klt (rest g hg hkg (by omega))
 rcases Nat.lt_or_ge 0 k with h2|h2
 ·rw [if_pos h2]
  have m2:ML o a b (out++a.extract i (i+k)) (i+k) j:=ml.mvA T.ua (by omega) fun p hp q hq=>by
   obtain⟨g,hg,g1,rfl⟩:=zh hp
   obtain⟨g',hg',rfl⟩:=VE hq
   exact Ul (less g hg g1) (T.ub.at_ (by omega) hg')
  rcases Nat.lt_or_ge (i+k+1) a.size with h3|h3
  ·rw [if_neg (by rw [beq_iff_eq];omega),if_neg (by rw [beq_iff_eq];omega)]
   exact NZ O T sm m2 h3 hj (by omega) rest2
  ·rcases Nat.lt_or_ge a.size (i+k+1) with h4|h4
   ·rw [if_neg (by rw [beq_iff_eq];omega),if_pos (by rw [beq_iff_eq];omega)]
    exact wpS_pure (.inl ⟨_,rfl,sm,m2.endA T.ua T.ub (.inr (by omega))⟩)
   ·rw [if_pos (by rw [beq_iff_eq];omega)]
    exact wpS_pure (.inl ⟨_,rfl,sm,m2.endB T.ub (by omega) (T.last (by omega))⟩)
 ·rw [if_neg (by omega)]
  obtain rfl:k=0:=by omega
  exact NZ O T sm ml hi hj tt rest2
theorem cA {α β γ δ ε:Type}{G:α×β×γ×δ×ε→Prop} (h:∀a b c d e,G (a,b,c,d,e)):∀x,G x:=fun (a,b,c,d,e)=>h a b c d e
theorem cB {α β γ δ ε ζ:Type}{G:α×β×γ×δ×ε×ζ→Prop} (h:∀a b c d e f,G (a,b,c,d,e,f)):∀x,G x:=fun (a,b,c,d,e,f)=>h a b c d e f
theorem cC {α β γ δ ε ζ η:Type}{G:α×β×γ×δ×ε×ζ×η→Prop} (h:∀a b c d e f g,G (a,b,c,d,e,f,g)):∀x,G x:=fun (a,b,c,d,e,f,g)=>h a b c d e f g
theorem fC {st:SortSt}{a b:oz}{Q:Array Keyed→SortSt→Prop} (O:UB prog w A s f o z) (T:ZF o f z a b st) (ha:0<a.size) (hb:0<b.size) (q:∀m y,Sm st y→Mg o a b m→Q m y):wpS (model prog w) A E s (cw a b) Q st:=by
 rw [fB]
 refine wpS_bind (wpS_lift (wpAny_rule ⟨rfl,wpS_bind (J2 hb ?_)⟩))
 have m1:ML o a b #[b[0]] 0 1:=by
  refine⟨?_,List.pairwise_singleton _ _,fun p hp q hq=>?_⟩
  ·have e:b.toList=b[0]::b.toList.drop 1:=by
    have:=List.drop_eq_getElem_cons (l:=b.toList) (i:=0) (by simpa using hb)
    simpa using this
   show (b[0]::(a.toList++b.toList.drop 1)).Perm _
   conv=>rhs;rw [e]
   exact List.perm_middle.symm
  ·obtain rfl:=List.mem_singleton.mp hp
   rcases List.mem_append.mp hq with hq|hq
   ·exact T.h0 q hq hb
   ·obtain⟨k,hk,rfl⟩:=VE hq
    exact T.ub.at_ (Nat.zero_le _) hk
 rcases Nat.lt_or_ge 1 b.size with hb2|hb2
 rotate_left
 ·rw [if_pos (by rw [beq_iff_eq];omega)]
  exact wpS_pure (q _ _ (Sm.refl _) (m1.endA T.ua T.ub (.inl (by omega))))
 rw [if_neg (by rw [beq_iff_eq];omega)]
 rcases Nat.lt_or_ge 1 a.size with ha2|ha2
 rotate_left
 ·rw [if_pos (by rw [beq_iff_eq];omega)]
  exact wpS_pure (q _ _ (Sm.refl _) (m1.endB T.ub (by omega) (T.last (by omega))))
 rw [if_neg (by rw [beq_iff_eq];omega)]
 refine wpS_bind (wpS_get (wpS_bind (wpS_mono (wpS_forRange (I:=fun x c y=>c.1=none∧LI o a b st (1+x) c.2.1 c.2.2.1 c.2.2.2.1 y) (Q:=fun c y=>∃m,c.1=some m∧Sm st y∧Mg o a b m) (fun x c y _ _ hy=>?_) (fun c y hy=>?_) ⟨rfl,Sm.refl _,m1,by show 0+1<_;omega,hb2,by show 1+0≤0+1;omega⟩) fun c y hy=>?_)))
 ·revert c
  refine cA fun c1 out i j mg=>?_
  intro hy
  obtain⟨e1,li⟩:=hy
  refine wpS_bind (wpS_mono (wpS_forRange (I:=fun x' c y=>c.1=none∧LI o a b st (1+x+x') c.2.1 c.2.2.1 c.2.2.2.1 y) (Q:=fun c y=>(∃m,c.1=some m∧Sm st y∧Mg o a b m)∨(c.1=none∧LI o a b st (1+x+1) c.2.1 c.2.2.1 c.2.2.2.1 y)) (fun x' c y _ _ hy=>?_) (fun c y hy=>?_) ⟨rfl,li⟩) fun c y hy=>?_)
  ·revert c
   refine cB fun c1 out i j ca cb=>?_
   intro hy
   obtain⟨e1,sm,ml,hi,hj,tt⟩:=hy
   change i+1<a.size at hi
   change j<b.size at hj
   change 1+x+x'≤i+j at tt
   change ML o a b out i j at ml
   refine wpS_bind (J2 hj (wpS_bind (J2 (show i<a.size by omega) (wpS_bind (G6 O (sm.kd.trans T.kd) (T.mb _ (UK _)) (T.ma _ (UK _)) ?_)))))
   show wpS _ _ _ _ (if o.blt (kv o b[j]) (kv o a[i])=true then _ else _) _ _
   cases hv:o.blt (kv o b[j]) (kv o a[i]) with
   | true =>
    rw [if_pos rfl]
    refine wpS_bind (J2 hj ?_)
    have m2:ML o a b (out.push b[j]) i (j+1):=by
     rw [Zh hj]
     refine ml.mvB T.ub (by omega) fun p hp q hq=>?_
     obtain⟨k,hk,k1,rfl⟩:=zh hp
     obtain rfl:k=0:=by omega
     obtain⟨g,hg,rfl⟩:=VE hq
     exact Ul (KeyOrd.kle_of_klt hv) (T.ua.at_ (by omega) hg)
    show wpS _ _ _ _ (if (j+1==b.size)=true then _ else _) _ _
    rcases Nat.lt_or_ge (j+1) b.size with h1|h1
    ·rw [if_neg (by rw [beq_iff_eq];omega)]
     have li:∀t,t≤i+(j+1)→LI o a b st t (out.push b[j]) i (j+1) y:=fun t ht=>⟨sm,m2,hi,h1,ht⟩
     show wpS _ _ _ _ (if cb+1≥mg then _ else _) _ _
     split
     ·exact wpS_pure (.inr ⟨rfl,li _ (by omega)⟩)
     ·exact wpS_pure ⟨rfl,li _ (by omega)⟩
    ·rw [if_pos (by rw [beq_iff_eq];omega)]
     exact wpS_pure (.inl ⟨_,rfl,sm,m2.endA T.ua T.ub (.inl (by omega))⟩)
   | false =>
    rw [if_neg Bool.false_ne_true]
    refine wpS_bind (J2 (show i<a.size by omega) ?_)
    have m2:ML o a b (out.push a[i]) (i+1) j:=by
     rw [Zh (show i<a.size by omega)]
     refine ml.mvA T.ua (by omega) fun p hp q hq=>?_
     obtain⟨k,hk,k1,rfl⟩:=zh hp
     obtain rfl:k=0:=by omega
     obtain⟨g,hg,rfl⟩:=VE hq
     exact Ul (show uB o a[i] b[j] from hv) (T.ub.at_ (by omega) hg)
    show wpS _ _ _ _ (if (i+1+1==a.size)=true then _ else _) _ _
    rcases Nat.lt_or_ge (i+1+1) a.size with h1|h1
    ·rw [if_neg (by rw [beq_iff_eq];omega)]
     have li:∀t,t≤i+1+j→LI o a b st t (out.push a[i]) (i+1) j y:=fun t ht=>⟨sm,m2,h1,hj,ht⟩
     show wpS _ _ _ _ (if ca+1≥mg then _ else _) _ _
     split
     ·exact wpS_pure (.inr ⟨rfl,li _ (by omega)⟩)
     ·exact wpS_pure ⟨rfl,li _ (by omega)⟩
    ·rw [if_pos (by rw [beq_iff_eq];omega)]
     exact wpS_pure (.inl ⟨_,rfl,sm,m2.endB T.ub (by omega) (T.last (by omega))⟩)
  ·obtain⟨e1,li⟩:=hy
   have h1:=li.hi
   have h2:=li.hj
   exact .inr ⟨e1,li.sm,li.ml,li.hi,li.hj,Nat.le_trans (by omega) li.tt⟩
  ·revert c
   refine cB fun c1 out i j ca cb=>?_
   intro hy
   rcases hy with ⟨m,rfl,sm,mm⟩|⟨rfl,li⟩
   ·exact wpS_pure ⟨m,rfl,sm,mm⟩
   ·refine wpS_bind (wpS_lift (wpAny_rule ⟨rfl,wpS_bind (wpS_mono (wpS_forRange (I:=fun x' c y=>c.1=none∧LI o a b st (1+x+1) c.2.1 c.2.2.1 c.2.2.2.1 y) (Q:=dW o a b st (1+x+1)) (fun x' c y _ _ hy=>?_) (fun c y hy=>.inr hy) ⟨rfl,li⟩) fun c y hy=>?_)⟩))
    ·revert c
     refine cC fun c1 out i j mg ca cb=>?_
     intro hy
     obtain⟨e1,li⟩:=hy
     show wpS _ _ _ _ (if mg > 1 then fg a b out i j ca cb (mg - 1) else fg a b out i j ca cb mg) _ _
     change LI o a b st (1+x+1) out i j y at li
     split
     ·exact wpS_mono (NY O T li) fun r y h=>by cases r<;>exact h
     ·exact wpS_mono (NY O T li) fun r y h=>by cases r<;>exact h
    ·revert c
     refine cC fun c1 out i j mg ca cb=>?_
     intro hy
     rcases hy with ⟨m,rfl,sm,mm⟩|⟨rfl,li⟩
     ·exact wpS_pure ⟨m,rfl,sm,mm⟩
     ·exact wpS_bind (gC fun y' s'=>wpS_pure ⟨rfl,li.sm.trans s',li.ml,li.hi,li.hj,by have:=li.tt;omega⟩)
 ·obtain⟨e1,li⟩:=hy
  have h1:=li.hi
  have h2:=li.hj
  have h3:=li.tt
  omega
 ·revert c
  refine cA fun c1 out i j mg=>?_
  intro hy
  obtain⟨m,rfl,sm,mm⟩:=hy
  exact wpS_pure (q m y sm mm)
end
end TS
namespace TS
open PySem PyProof.Rows L2
def V0 (a b out:oz) (m n:Nat):Array Keyed:=a.extract 0 m++b.extract 0 n++out.reverse
def GR (a b out:oz) (m n:Nat):Array Keyed:=b.extract 0 n++a.extract 0 m++out.reverse
theorem fz (a b:oz):cu a b=(do
  liftM (rule "list.sort.merge-hi")
  let tt:=a.size+b.size
  let mut m:=a.size - 1
  let mut n:=b.size
  let mut out:Array Keyed:=#[←elem' a m]
  if m==0 then return V0 a b out m n
  if n==1 then return GR a b out m n
  let mut mg:=gallopOf (←get)
  for _ in [0:tt] do
   let mut ca:=0
   let mut cb:=0
   for _ in [0:tt] do
    let some aw ←lt' (←elem' b (n - 1)) (←elem' a (m - 1))|return V0 a b out m n
    if aw then
     m:=m - 1;out:=out.push (←elem' a m);ca:=ca+1;cb:=0
     if m==0 then return V0 a b out m n
     if ca≥mg then break
    else
     n:=n - 1;out:=out.push (←elem' b n);cb:=cb+1;ca:=0
     if n==1 then return GR a b out m n
     if cb≥mg then break
   liftM (rule "list.sort.gallop")
   mg:=mg+1
   for _ in [0:tt] do
    if mg > 1 then mg:=mg - 1
    Gx mg
    let some g ←zw false (←elem' b (n - 1)) a 0 m (m - 1)|return V0 a b out m n
    let k:=m - g
    ca:=k
    if k > 0 then
     out:=out++(a.extract g m).reverse;m:=g
     if m==0 then return V0 a b out m n
    n:=n - 1;out:=out.push (←elem' b n)
    if n==1 then return GR a b out m n
    let some g ←zw true (←elem' a (m - 1)) b 0 n (n - 1)|return V0 a b out m n
    let k:=n - g
    cb:=k
    if k > 0 then
     out:=out++(b.extract g n).reverse;n:=g
     if n==1 then return GR a b out m n
     if n==0 then return V0 a b out m n
    m:=m - 1;out:=out.push (←elem' a m)
    if m==0 then return V0 a b out m n
    if ca<7&&cb<7 then break
   mg:=mg+1
   Gx mg
  unsupported "internal:list.sort.merge-bound"):=rfl
abbrev HS:=Option (Array Keyed)×Nat×Nat×Array Keyed×Nat×Nat×Nat
def eQ (a b:oz) (m mg ca cb:Nat) (out:oz) (n:Nat):StateT SortSt Sem (ForInStep HS):=do
 let x ←elem' a (m - 1)
 if (m - 1==0)=true then pure (.done (some (V0 a b (out.push x) (m - 1) n),m - 1,n,out.push x,mg,ca,cb))
 else if (decide (ca<7)&&decide (cb<7))=true then pure (.done (none,m - 1,n,out.push x,mg,ca,cb))
 else pure (.yield (none,m - 1,n,out.push x,mg,ca,cb))
def Vh (a b:oz) (n mg ca cb:Nat) (out:oz) (m:Nat):StateT SortSt Sem (ForInStep HS):=do
 let x ←elem' b (n - 1)
 if (n - 1==1)=true then pure (.done (some (GR a b (out.push x) m (n - 1)),m,n - 1,out.push x,mg,ca,cb))
 else
  let y ←elem' a (m - 1)
  let some g ←zw true y b 0 (n - 1) (n - 1 - 1)|pure (.done (some (V0 a b (out.push x) m (n - 1)),m,n - 1,out.push x,mg,ca,cb))
  if n - 1 - g > 0 then
   if (g==1)=true then pure (.done (some (GR a b (out.push x++(b.extract g (n - 1)).reverse) m g),m,g,out.push x++(b.extract g (n - 1)).reverse,mg,ca,n - 1 - g))
   else if (g==0)=true then pure (.done (some (V0 a b (out.push x++(b.extract g (n - 1)).reverse) m g),m,g,out.push x++(b.extract g (n - 1)).reverse,mg,ca,n - 1 - g))
   else eQ a b m mg ca (n - 1 - g) (out.push x++(b.extract g (n - 1)).reverse) g
  else eQ a b m mg ca (n - 1 - g) (out.push x) (n - 1)
def cp (a b out:oz) (m n ca cb mg:Nat):StateT SortSt Sem (ForInStep HS):=do
 Gx mg
 let x ←elem' b (n - 1)
 let some g ←zw false x a 0 m (m - 1)|pure (.done (some (V0 a b out m n),m,n,out,mg,ca,cb))
 if m - g > 0 then
  if (g==0)=true then pure (.done (some (V0 a b (out++(a.extract g m).reverse) g n),g,n,out++(a.extract g m).reverse,mg,m - g,cb))
  else Vh a b n mg (m - g) cb (out++(a.extract g m).reverse) g
 else Vh a b n mg (m - g) cb out m
section
variable {prog:oM}{w:World}{A:Around}{E:oh}{s:Shared}{f:Bool}{z:oz}{o:KeyKind}
structure MH (o:KeyKind) (a b out:oz) (m n:Nat):Prop where
 pm:((a.toList.take m++b.toList.take n)++out.toList.reverse).Perm (a.toList++b.toList)
 up:Up o out.toList.reverse
 le:∀p∈a.toList.take m++b.toList.take n,∀q∈out.toList,uB o p q
theorem V7 {out xs:oz}{g m:Nat}:(out++(xs.extract g m).reverse).toList.reverse=(xs.toList.take m).drop g++out.toList.reverse:=by
 rw [Array.toList_append,Array.toList_reverse,Array.toList_extract,List.reverse_append,List.reverse_reverse,List.extract_eq_drop_take,←List.drop_take]
theorem Mf {l:List Keyed}{g m:Nat} (h:g≤m):l.take m=l.take g++(l.take m).drop g:=by
 have:=(List.take_append_drop g (l.take m)).symm
 rwa [List.take_take,Nat.min_eq_left h] at this
theorem MH.mvA {a b out:oz}{m n g:Nat} (x:MH o a b out m n) (ua:Up o a.toList) (hg:g≤m) (h:∀p∈(a.toList.take m).drop g,∀q∈b.toList.take n,uB o q p):MH o a b (out++(a.extract g m).reverse) g n:=by
 have ut:Up o (a.toList.take m):=ua.take
 have e2:=Mf (l:=a.toList) hg
 have mo:∀q,q∈(out++(a.extract g m).reverse).toList↔q∈(a.toList.take m).drop g∨q∈out.toList:=fun q=>by
  rw [←List.mem_reverse,V7,List.mem_append,List.mem_reverse]
 refine⟨?_,?_,fun p hp q hq=>?_⟩
 ·rw [V7]
  refine List.Perm.trans ?_ x.pm
  rw [←List.append_assoc]
  refine List.Perm.append_right _ ?_
  conv=>rhs;rw [e2]
  rw [List.append_assoc,List.append_assoc]
  exact List.Perm.append_left _ List.perm_append_comm
 ·rw [V7]
  refine List.pairwise_append.mpr ⟨ut.drop,x.up,fun p hp q hq=>x.le p (List.mem_append_left _ (List.mem_of_mem_drop hp)) q (List.mem_reverse.mp hq)⟩
 ·rcases (mo q).mp hq with hq|hq
  ·rcases List.mem_append.mp hp with hp|hp
   ·rw [e2] at ut
    exact (List.pairwise_append.mp ut).2.2 p hp q hq
   ·exact h q hq p hp
  ·refine x.le p ?_ q hq
   rcases List.mem_append.mp hp with hp|hp
   ·exact List.mem_append_left _ (by rw [e2];exact List.mem_append_left _ hp)
   ·exact List.mem_append_right _ hp
theorem MH.mvB {a b out:oz}{m n g:Nat} (x:MH o a b out m n) (ub:Up o b.toList) (hg:g≤n) (h:∀p∈(b.toList.take n).drop g,∀q∈a.toList.take m,uB o q p):MH o a b (out++(b.extract g n).reverse) m g:=by
 have ut:Up o (b.toList.take n):=ub.take
 have e2:=Mf (l:=b.toList) hg
 have mo:∀q,q∈(out++(b.extract g n).reverse).toList↔q∈(b.toList.take n).drop g∨q∈out.toList:=fun q=>by
  rw [←List.mem_reverse,V7,List.mem_append,List.mem_reverse]
 refine⟨?_,?_,fun p hp q hq=>?_⟩
 ·rw [V7]
  refine List.Perm.trans ?_ x.pm
  rw [←List.append_assoc]
  refine List.Perm.append_right _ ?_
  conv=>rhs;rw [e2]
  rw [List.append_assoc]
 ·rw [V7]
  refine List.pairwise_append.mpr ⟨ut.drop,x.up,fun p hp q hq=>x.le p (List.mem_append_right _ (List.mem_of_mem_drop hp)) q (List.mem_reverse.mp hq)⟩
 ·rcases (mo q).mp hq with hq|hq
  ·rcases List.mem_append.mp hp with hp|hp
   ·exact h q hq p hp
   ·rw [e2] at ut
    exact (List.pairwise_append.mp ut).2.2 p hp q hq
  ·refine x.le p ?_ q hq
   rcases List.mem_append.mp hp with hp|hp
   ·exact List.mem_append_left _ hp
   ·exact List.mem_append_right _ (by rw [e2];exact List.mem_append_left _ hp)
theorem GS {xs:oz}{m:Nat}:(xs.extract 0 m).toList=xs.toList.take m:=by
 rw [Array.toList_extract,List.extract_eq_drop_take,List.drop_zero,Nat.sub_zero]
theorem MH.endC {a b out:oz}{m n:Nat} (x:MH o a b out m n) (ua:Up o a.toList) (ub:Up o b.toList) (h:m=0∨n=0):Mg o a b (V0 a b out m n):=by
 have e:(V0 a b out m n).toList=(a.toList.take m++b.toList.take n)++out.toList.reverse:=by
  unfold V0
  rw [Array.toList_append,Array.toList_append,GS,GS,Array.toList_reverse]
 refine⟨by rw [e];exact x.pm,?_⟩
 rw [e]
 refine List.pairwise_append.mpr ⟨?_,x.up,fun p hp q hq=>x.le p hp q (List.mem_reverse.mp hq)⟩
 rcases h with rfl|rfl
 ·rw [List.take_zero,List.nil_append];exact ub.take
 ·rw [List.take_zero,List.append_nil];exact ua.take
theorem MH.endD {a b out:oz}{m n:Nat} (x:MH o a b out m n) (ua:Up o a.toList) (hn:n=1) (hb:0<b.size) (h0:∀p∈a.toList,uB o b[0] p):Mg o a b (GR a b out m n):=by
 have e1:b.toList.take n=[b[0]]:=by
  rw [hn,List.take_one]
  have:b.toList.head?=some b[0]:=by rw [List.head?_eq_getElem?];simp [hb]
  rw [this];rfl
 have e:(GR a b out m n).toList=(b.toList.take n++a.toList.take m)++out.toList.reverse:=by
  unfold GR
  rw [Array.toList_append,Array.toList_append,GS,GS,Array.toList_reverse]
 refine⟨?_,?_⟩
 ·rw [e]
  exact List.Perm.trans (List.Perm.append_right _ List.perm_append_comm) x.pm
 ·rw [e]
  refine List.pairwise_append.mpr ⟨List.pairwise_append.mpr ⟨by rw [e1];exact List.pairwise_singleton _ _,ua.take,fun p hp q hq=>?_⟩,x.up,fun p hp q hq=>x.le p ?_ q (List.mem_reverse.mp hq)⟩
  ·rw [e1,List.mem_singleton] at hp
   rw [hp]
   exact h0 q (List.mem_of_mem_take hq)
  ·rcases List.mem_append.mp hp with hp|hp
   ·exact List.mem_append_right _ hp
   ·exact List.mem_append_left _ hp
theorem Zi {out xs:oz}{m:Nat} (h1:1≤m) (hm:m≤xs.size):out.push (xs[m - 1]'(by omega))=out++(xs.extract (m - 1) m).reverse:=by
 have:=eJ (xs:=xs) (i:=m - 1) (by omega)
 rw [show m - 1+1=m by omega] at this
 rw [this,Array.push_eq_append]
 rfl
theorem zP {xs:oz}{g m:Nat}{p:Keyed} (h:p∈(xs.toList.take m).drop g):∃k,∃hk:k<xs.size,g≤k∧k<m∧p=xs[k]:=by
 obtain⟨k,hk,e⟩:=List.mem_iff_getElem.mp h
 rw [List.length_drop,List.length_take,Array.length_toList] at hk
 refine⟨g+k,by omega,by omega,by omega,?_⟩
 rw [←e,List.getElem_drop,List.getElem_take,Array.getElem_toList]
theorem z7 {xs:oz}{m:Nat}{p:Keyed} (h:p∈xs.toList.take m):∃k,∃hk:k<xs.size,k<m∧p=xs[k]:=by
 obtain⟨k,hk,e⟩:=List.mem_iff_getElem.mp h
 rw [List.length_take,Array.length_toList] at hk
 refine⟨k,by omega,by omega,?_⟩
 rw [←e,List.getElem_take,Array.getElem_toList]
structure HI (o:KeyKind) (a b:oz) (st:SortSt) (t:Nat) (out:oz) (m n:Nat) (y:SortSt):Prop where
 sm:Sm st y
 mh:MH o a b out m n
 m1:1≤m
 ma:m≤a.size
 n2:2≤n
 nb:n≤b.size
 tt:m+n+t≤a.size+b.size
def dU (o:KeyKind) (a b:oz) (st:SortSt) (t:Nat) (c:HS) (y:SortSt):Prop:=(∃r,c.1=some r∧Sm st y∧Mg o a b r)∨(c.1=none∧HI o a b st t c.2.2.2.1 c.2.1 c.2.2.1 y)
def M7 (o:KeyKind) (a b:oz) (st:SortSt) (t:Nat):ForInStep HS→SortSt→Prop:=fun r y=>match r with|.done c=>dU o a b st t c y|.yield c=>c.1=none∧HI o a b st t c.2.2.2.1 c.2.1 c.2.2.1 y
theorem NL {a b:oz}{st y:SortSt}{t m n mg ca cb:Nat}{out:oz} (T:ZF o f z a b st) (sm:Sm st y) (mh:MH o a b out m n) (m1:1≤m) (ma:m≤a.size) (n2:2≤n) (nb:n≤b.size) (tt:m+n+t≤a.size+b.size+1) (h:∀q∈b.toList.take n,∀hm:m - 1<a.size,uB o q a[m - 1]) :
  wpS (model prog w) A E s (eQ a b m mg ca cb out n) (M7 o a b st t) y:=by
 refine wpS_bind (J2 (show m - 1<a.size by omega) ?_)
 have m2:MH o a b (out.push a[m - 1]) (m - 1) n:=by
  rw [Zi m1 ma]
  refine mh.mvA T.ua (by omega) fun p hp q hq=>?_
  obtain⟨k,hk,k1,k2,rfl⟩:=zP hp
  obtain rfl:k=m - 1:=by omega
  exact h q hq hk
 rcases Nat.lt_or_ge 0 (m - 1) with h1|h1
 ·rw [if_neg (by rw [beq_iff_eq];omega)]
  have hi:HI o a b st t (out.push a[m - 1]) (m - 1) n y:=⟨sm,m2,h1,by omega,n2,nb,by omega⟩
  split
  ·exact wpS_pure (.inr ⟨rfl,hi⟩)
  ·exact wpS_pure ⟨rfl,hi⟩
 ·rw [if_pos (by rw [beq_iff_eq];omega)]
  exact wpS_pure (.inl ⟨_,rfl,sm,m2.endC T.ua T.ub (.inl (by omega))⟩)
theorem NK {a b:oz}{st y:SortSt}{t m n mg ca cb:Nat}{out:oz} (O:UB prog w A s f o z) (T:ZF o f z a b st) (sm:Sm st y) (mh:MH o a b out m n) (m1:1≤m) (ma:m≤a.size) (n2:2≤n) (nb:n≤b.size) (tt:m+n+t≤a.size+b.size) (h:∀q∈a.toList.take m,∀hn:n - 1<b.size,uB o q b[n - 1]) :
  wpS (model prog w) A E s (Vh a b n mg ca cb out m) (M7 o a b st t) y:=by
 refine wpS_bind (J2 (show n - 1<b.size by omega) ?_)
 have m2:MH o a b (out.push b[n - 1]) m (n - 1):=by
  rw [Zi (by omega) nb]
  refine mh.mvB T.ub (by omega) fun p hp q hq=>?_
  obtain⟨k,hk,k1,k2,rfl⟩:=zP hp
  obtain rfl:k=n - 1:=by omega
  exact h q hq hk
 have h0:∀p∈a.toList,uB o b[0] p:=fun p hp=>T.h0 p hp (by omega)
 rcases Nat.lt_or_ge 1 (n - 1) with h1|h1
 ·rw [if_neg (by rw [beq_iff_eq];omega)]
  refine wpS_bind (J2 (show m - 1<a.size by omega) (wpS_bind (Gr O (sm.kd.trans T.kd) T.mb (T.ma _ (UK _)) (by omega) (by omega) (fun g k hgk hk _=>T.ub.at_ (by omega) hk) fun g hg less rest=>?_)))
  simp only [Nat.zero_add] at less rest
  show wpS _ _ _ _ (if n - 1 - g > 0 then _ else _) _ _
  have below:∀q∈b.toList.take g,∀hm:m - 1<a.size,uB o q a[m - 1]:=fun q hq hm=>by
   obtain⟨k,hk,k1,rfl⟩:=z7 hq
   exact KeyOrd.kle_of_klt (less k hk k1)
  rcases Nat.lt_or_ge g (n - 1) with h2|h2
  ·rw [if_pos (by omega)]
   have m3:MH o a b (out.push b[n - 1]++(b.extract g (n - 1)).reverse) m g:=m2.mvB T.ub (by omega) fun p hp q hq=>by
    obtain⟨k,hk,k1,k2,rfl⟩:=zP hp
    obtain⟨k',hk',k3,rfl⟩:=z7 hq
    exact Ul (T.ua.at_ (by omega) (show m - 1<a.size by omega)) (rest k hk k1 (by omega))
   rcases Nat.lt_or_ge 1 g with h3|h3
   ·rw [if_neg (by rw [beq_iff_eq];omega),if_neg (by rw [beq_iff_eq];omega)]
    exact NL T sm m3 m1 ma h3 (by omega) (by omega) below
   ·rcases Nat.lt_or_ge 0 g with h4|h4
    ·rw [if_pos (by rw [beq_iff_eq];omega)]
     exact wpS_pure (.inl ⟨_,rfl,sm,m3.endD T.ua (by omega) (by omega) h0⟩)
    ·rw [if_neg (by rw [beq_iff_eq];omega),if_pos (by rw [beq_iff_eq];omega)]
     exact wpS_pure (.inl ⟨_,rfl,sm,m3.endC T.ua T.ub (.inr (by omega))⟩)
  ·rw [if_neg (by omega)]
   obtain rfl:g=n - 1:=by omega
   exact NL T sm m2 m1 ma h1 (by omega) (by omega) below
 ·rw [if_pos (by rw [beq_iff_eq];omega)]
  exact wpS_pure (.inl ⟨_,rfl,sm,m2.endD T.ua (by omega) (by omega) h0⟩)
theorem NJ {a b:oz}{st y:SortSt}{t m n mg ca cb:Nat}{out:oz} (O:UB prog w A s f o z) (T:ZF o f z a b st) (hi:HI o a b st t out m n y) :
  wpS (model prog w) A E s (cp a b out m n ca cb mg) (M7 o a b st t) y:=by
 obtain⟨sm0,mh,m1,ma,n2,nb,tt⟩:=hi
 refine wpS_bind (gC fun y' s'=>?_)
 have sm:=sm0.trans s'
 refine wpS_bind (J2 (show n - 1<b.size by omega) (wpS_bind (ZR O (sm.kd.trans T.kd) T.ma (T.mb _ (UK _)) (by omega) (by omega) (fun g k hgk hk _=>T.ua.at_ (by omega) hk) fun g hg less rest=>?_)))
 simp only [Nat.zero_add] at less rest
 show wpS _ _ _ _ (if m - g > 0 then _ else _) _ _
 have below:∀q∈a.toList.take g,∀hn:n - 1<b.size,uB o q b[n - 1]:=fun q hq hn=>by
  obtain⟨k,hk,k1,rfl⟩:=z7 hq
  exact less k hk k1
 rcases Nat.lt_or_ge g m with h2|h2
 ·rw [if_pos (by omega)]
  have m2:MH o a b (out++(a.extract g m).reverse) g n:=mh.mvA T.ua (by omega) fun p hp q hq=>by
   obtain⟨k,hk,k1,k2,rfl⟩:=zP hp
   obtain⟨k',hk',k3,rfl⟩:=z7 hq
   exact Ul (T.ub.at_ (by omega) (show n - 1<b.size by omega)) (KeyOrd.kle_of_klt (rest k hk k1 (by omega)))
  rcases Nat.lt_or_ge 0 g with h3|h3
  ·rw [if_neg (by rw [beq_iff_eq];omega)]
   exact NK O T sm m2 h3 (by omega) n2 nb (by omega) below
  ·rw [if_pos (by rw [beq_iff_eq];omega)]
   exact wpS_pure (.inl ⟨_,rfl,sm,m2.endC T.ua T.ub (.inl (by omega))⟩)
 ·rw [if_neg (by omega)]
  obtain rfl:g=m:=by omega
  exact NK O T sm mh m1 ma n2 nb tt below
theorem fA {st:SortSt}{a b:oz}{Q:Array Keyed→SortSt→Prop} (O:UB prog w A s f o z) (T:ZF o f z a b st) (ha:0<a.size) (hb:0<b.size) (q:∀m y,Sm st y→Mg o a b m→Q m y):wpS (model prog w) A E s (cu a b) Q st:=by
 rw [fz]
 have ha1:a.size - 1<a.size:=by omega
 have h0:∀p∈a.toList,uB o b[0] p:=fun p hp=>T.h0 p hp hb
 refine wpS_bind (wpS_lift (wpAny_rule ⟨rfl,wpS_bind (J2 ha1 ?_)⟩))
 have m1:MH o a b #[a[a.size - 1]] (a.size - 1) b.size:=by
  have e:a.toList=a.toList.take (a.size - 1)++[a[a.size - 1]]:=by
   have:=(List.take_append_drop (a.size - 1) a.toList).symm
   rw [List.drop_eq_getElem_cons (by simpa using ha1),List.drop_eq_nil_of_le (by simp;omega)] at this
   simpa using this
  have eb:b.toList.take b.size=b.toList:=List.take_of_length_le (by simp)
  refine⟨?_,List.pairwise_singleton _ _,fun p hp q hq=>?_⟩
  ·rw [eb]
   show ((a.toList.take (a.size - 1)++b.toList)++[a[a.size - 1]]).Perm _
   conv=>rhs;rw [e]
   rw [List.append_assoc,List.append_assoc]
   exact List.Perm.append_left _ List.perm_append_comm
  ·obtain rfl:=List.mem_singleton.mp hq
   rcases List.mem_append.mp hp with hp|hp
   ·obtain⟨k,hk,k1,rfl⟩:=z7 hp
    exact T.ua.at_ (by omega) ha1
   ·exact T.hl p (List.mem_of_mem_take hp) ha1
 rcases Nat.lt_or_ge 1 a.size with ha2|ha2
 rotate_left
 ·rw [if_pos (by rw [beq_iff_eq];omega)]
  exact wpS_pure (q _ _ (Sm.refl _) (m1.endC T.ua T.ub (.inl (by omega))))
 rw [if_neg (by rw [beq_iff_eq];omega)]
 rcases Nat.lt_or_ge 1 b.size with hb2|hb2
 rotate_left
 ·rw [if_pos (by rw [beq_iff_eq];omega)]
  exact wpS_pure (q _ _ (Sm.refl _) (m1.endD T.ua (by omega) hb h0))
 rw [if_neg (by rw [beq_iff_eq];omega)]
 refine wpS_bind (wpS_get (wpS_bind (wpS_mono (wpS_forRange (I:=fun x c y=>c.1=none∧HI o a b st (1+x) c.2.2.2.1 c.2.1 c.2.2.1 y) (Q:=fun c y=>∃m,c.1=some m∧Sm st y∧Mg o a b m) (fun x c y _ _ hy=>?_) (fun c y hy=>?_) ⟨rfl,Sm.refl _,m1,by show 1≤a.size - 1;omega,by show a.size - 1≤_;omega,hb2,Nat.le_refl _,by show a.size - 1+b.size+(1+0)≤_;omega⟩) fun c y hy=>?_)))
 ·revert c
  refine cA fun c1 m n out mg=>?_
  intro hy
  obtain⟨e1,li⟩:=hy
  refine wpS_bind (wpS_mono (wpS_forRange (I:=fun x' c y=>c.1=none∧HI o a b st (1+x+x') c.2.2.2.1 c.2.1 c.2.2.1 y) (Q:=fun c y=>(∃m,c.1=some m∧Sm st y∧Mg o a b m)∨(c.1=none∧HI o a b st (1+x+1) c.2.2.2.1 c.2.1 c.2.2.1 y)) (fun x' c y _ _ hy=>?_) (fun c y hy=>?_) ⟨rfl,li⟩) fun c y hy=>?_)
  ·revert c
   refine cB fun c1 m n out ca cb=>?_
   intro hy
   obtain⟨e1,sm,mh,m1,ma,n2,nb,tt⟩:=hy
   change 1≤m at m1
   change m≤a.size at ma
   change 2≤n at n2
   change n≤b.size at nb
   change m+n+(1+x+x')≤a.size+b.size at tt
   change MH o a b out m n at mh
   refine wpS_bind (J2 (show n - 1<b.size by omega) (wpS_bind (J2 (show m - 1<a.size by omega) (wpS_bind (G6 O (sm.kd.trans T.kd) (T.mb _ (UK _)) (T.ma _ (UK _)) ?_)))))
   show wpS _ _ _ _ (if o.blt (kv o (b[n - 1]'(by omega))) (kv o (a[m - 1]'(by omega)))=true then _ else _) _ _
   cases hv:o.blt (kv o (b[n - 1]'(by omega))) (kv o (a[m - 1]'(by omega))) with
   | true =>
    rw [if_pos rfl]
    refine wpS_bind (J2 (show m - 1<a.size by omega) ?_)
    have m2:MH o a b (out.push (a[m - 1]'(by omega))) (m - 1) n:=by
     rw [Zi m1 ma]
     refine mh.mvA T.ua (by omega) fun p hp q hq=>?_
     obtain⟨k,hk,k1,k2,rfl⟩:=zP hp
     obtain rfl:k=m - 1:=by omega
     obtain⟨g,hg,g1,rfl⟩:=z7 hq
     exact Ul (T.ub.at_ (show g≤n - 1 by omega) (show n - 1<b.size by omega)) (KeyOrd.kle_of_klt hv)
    show wpS _ _ _ _ (if (m - 1==0)=true then _ else _) _ _
    rcases Nat.lt_or_ge 0 (m - 1) with h1|h1
    ·rw [if_neg (by rw [beq_iff_eq];omega)]
     have li:∀t,m - 1+n+t≤a.size+b.size→HI o a b st t (out.push (a[m - 1]'(by omega))) (m - 1) n y:=fun t ht=>⟨sm,m2,h1,by omega,n2,nb,ht⟩
     show wpS _ _ _ _ (if ca+1≥mg then _ else _) _ _
     split
     ·exact wpS_pure (.inr ⟨rfl,li _ (by omega)⟩)
     ·exact wpS_pure ⟨rfl,li _ (by omega)⟩
    ·rw [if_pos (by rw [beq_iff_eq];omega)]
     exact wpS_pure (.inl ⟨_,rfl,sm,m2.endC T.ua T.ub (.inl (by omega))⟩)
   | false =>
    rw [if_neg Bool.false_ne_true]
    refine wpS_bind (J2 (show n - 1<b.size by omega) ?_)
    have m2:MH o a b (out.push (b[n - 1]'(by omega))) m (n - 1):=by
     rw [Zi (show 1≤n by omega) nb]
     refine mh.mvB T.ub (by omega) fun p hp q hq=>?_
     obtain⟨k,hk,k1,k2,rfl⟩:=zP hp
     obtain rfl:k=n - 1:=by omega
     obtain⟨g,hg,g1,rfl⟩:=z7 hq
     exact Ul (T.ua.at_ (show g≤m - 1 by omega) (show m - 1<a.size by omega)) hv
    show wpS _ _ _ _ (if (n - 1==1)=true then _ else _) _ _
    rcases Nat.lt_or_ge 1 (n - 1) with h1|h1
    ·rw [if_neg (by rw [beq_iff_eq];omega)]
     have li:∀t,m+(n - 1)+t≤a.size+b.size→HI o a b st t (out.push (b[n - 1]'(by omega))) m (n - 1) y:=fun t ht=>⟨sm,m2,m1,ma,h1,by omega,ht⟩
     show wpS _ _ _ _ (if cb+1≥mg then _ else _) _ _
     split
     ·exact wpS_pure (.inr ⟨rfl,li _ (by omega)⟩)
     ·exact wpS_pure ⟨rfl,li _ (by omega)⟩
    ·rw [if_pos (by rw [beq_iff_eq];omega)]
     exact wpS_pure (.inl ⟨_,rfl,sm,m2.endD T.ua (by omega) hb h0⟩)
  ·obtain⟨e1,li⟩:=hy
   exact .inr ⟨e1,li.sm,li.mh,li.m1,li.ma,li.n2,li.nb,Nat.le_trans (by omega) li.tt⟩
  ·revert c
   refine cB fun c1 m n out ca cb=>?_
   intro hy
   rcases hy with ⟨m,rfl,sm,mm⟩|⟨rfl,li⟩
   ·exact wpS_pure ⟨m,rfl,sm,mm⟩
   ·refine wpS_bind (wpS_lift (wpAny_rule ⟨rfl,wpS_bind (wpS_mono (wpS_forRange (I:=fun x' c y=>c.1=none∧HI o a b st (1+x+1) c.2.2.2.1 c.2.1 c.2.2.1 y) (Q:=dU o a b st (1+x+1)) (fun x' c y _ _ hy=>?_) (fun c y hy=>.inr hy) ⟨rfl,li⟩) fun c y hy=>?_)⟩))
    ·revert c
     refine cC fun c1 m n out mg ca cb=>?_
     intro hy
     obtain⟨e1,li⟩:=hy
     show wpS _ _ _ _ (if mg > 1 then cp a b out m n ca cb (mg - 1) else cp a b out m n ca cb mg) _ _
     change HI o a b st (1+x+1) out m n y at li
     split
     ·exact wpS_mono (NJ O T li) fun r y h=>by cases r<;>exact h
     ·exact wpS_mono (NJ O T li) fun r y h=>by cases r<;>exact h
    ·revert c
     refine cC fun c1 m n out mg ca cb=>?_
     intro hy
     rcases hy with ⟨m,rfl,sm,mm⟩|⟨rfl,li⟩
     ·exact wpS_pure ⟨m,rfl,sm,mm⟩
     ·exact wpS_bind (gC fun y' s'=>wpS_pure ⟨rfl,li.sm.trans s',li.mh,li.m1,li.ma,li.n2,li.nb,by have:=li.tt;omega⟩)
 ·obtain⟨e1,li⟩:=hy
  have h1:=li.m1
  have h2:=li.n2
  have h3:=li.tt
  omega
 ·revert c
  refine cA fun c1 m n out mg=>?_
  intro hy
  obtain⟨m,rfl,sm,mm⟩:=hy
  exact wpS_pure (q m y sm mm)
end
end TS
namespace TS
open PySem PyProof.Rows L2
theorem ft (i:Nat):mergeAt' i=(do
  let t ←get
  let (some (sa,na,pw),some (sb,nb,_)):=((pendingOf t)[i]?,(pendingOf t)[i+1]?)|unsupported "internal:list.sort.pending"
  set (setPending t (((pendingOf t).setIfInBounds i (sa,na+nb,pw)).eraseIdxIfInBounds (i+1)))
  let some k ←zw false (←elem' (arrOf t) sb) (arrOf t) sa na 0|return false
  let (sa,na):=(sa+k,na - k)
  if na==0 then return true
  let some nb ←zw true (←elem' (arrOf t) (sa+na - 1)) (arrOf t) sb nb (nb - 1)|return false
  if nb==0 then return true
  let x:=(arrOf t).extract sa sb
  let y:=(arrOf t).extract sb (sb+nb)
  let m ←if na≤nb then cw x y else cu x y
  modify fun t=>setArr t (m.toList.zipIdx.foldl (fun u (p,j)=>u.setIfInBounds (sa+j) p) (arrOf t))
  return (failedOf (←get)).isNone):=rfl
def j6 (xs:oz) (lo n:Nat):List Keyed:=(xs.toList.drop lo).take n
theorem M0 {xs:oz}{lo n:Nat}:(xs.extract lo (lo+n)).toList=j6 xs lo n:=by
 rw [Array.toList_extract,List.extract_eq_drop_take,Nat.add_sub_cancel_left];rfl
theorem Vj (xs:oz) (lo k n:Nat) (h:k≤n):j6 xs lo n=j6 xs lo k++j6 xs (lo+k) (n - k):=by
 unfold j6
 have:=(List.take_append_drop k ((xs.toList.drop lo).take n)).symm
 rw [List.take_take,Nat.min_eq_left h,List.drop_take,List.drop_drop] at this
 exact this
theorem V8 {xs:oz}{lo n:Nat}{p:Keyed} (h:p∈j6 xs lo n):∃k,∃hk:lo+k<xs.size,k<n∧p=xs[lo+k]:=zh h
theorem M1 {xs:oz}{lo n:Nat}{p:Keyed} (h:p∈j6 xs lo n):p∈xs.toList:=List.mem_of_mem_drop (List.mem_of_mem_take h)
theorem dw {xs:oz}{lo n:Nat} (h:lo+n≤xs.size):(j6 xs lo n).length=n:=by
 unfold j6
 rw [List.length_take,List.length_drop,Array.length_toList];omega
theorem gD {xs:oz}{lo n i:Nat} (h:i<(j6 xs lo n).length) (h2:lo+i<xs.size):(j6 xs lo n)[i]=xs[lo+i]:=by
 simp only [j6,List.getElem_take,List.getElem_drop,Array.getElem_toList]
section
variable {prog:oM}{w:World}{A:Around}{E:oh}{s:Shared}{f:Bool}{z:oz}{o:KeyKind}
theorem kx {xs:oz}{lo n:Nat} (u:Up o (j6 xs lo n)) {i j:Nat} (hij:i≤j) (hj:j<n) (h:lo+j<xs.size):uB o (xs[lo+i]'(by omega)) xs[lo+j]:=by
 rcases Nat.lt_or_ge i j with hl|hl
 ·have hlen:lo+j<xs.size→j<(j6 xs lo n).length:=fun h=>by unfold j6;rw [List.length_take,List.length_drop,Array.length_toList];omega
  have:=(List.pairwise_iff_getElem.mp u) i j (by have:=hlen h;omega) (hlen h) hl
  rw [gD _ (by omega),gD _ h] at this
  exact this
 ·obtain rfl:i=j:=by omega
  exact KeyOrd.kle_refl _
theorem ms:∀(l:List Keyed) (xs:oz) (at_ k:Nat),at_+k+l.length≤xs.size→((l.zipIdx k).foldl (fun (u:oz) (x:Keyed×Nat)=>match x with|(p,j)=>u.setIfInBounds (at_+j) p) xs).toList=xs.toList.take (at_+k)++l++xs.toList.drop (at_+k+l.length)
 | [],xs,at_,k,_=>by
  show xs.toList=_
  rw [List.append_nil,List.length_nil,Nat.add_zero,List.take_append_drop]
 | p::r,xs,at_,k,h=>by
  rw [List.length_cons] at h
  rw [List.zipIdx_cons,List.foldl_cons]
  have e1:(xs.setIfInBounds (at_+k) p).toList=xs.toList.set (at_+k) p:=Array.toList_setIfInBounds ..
  have hl:at_+k<xs.toList.length:=by rw [Array.length_toList];omega
  have e2:=List.set_eq_take_append_cons_drop (l:=xs.toList) (i:=at_+k) (a:=p)
  rw [if_pos hl] at e2
  have ih:=ms r (xs.setIfInBounds (at_+k) p) at_ (k+1) (by rw [Array.size_setIfInBounds];omega)
  refine ih.trans ?_
  have lt:(xs.toList.take (at_+k)).length=at_+k:=by rw [List.length_take];omega
  have t1:(xs.toList.set (at_+k) p).take (at_+(k+1))=xs.toList.take (at_+k)++[p]:=by
   rw [e2,List.take_append,lt,show at_+(k+1) - (at_+k)=1 by omega,List.take_of_length_le (by rw [lt];omega)]
   rfl
  have t2:(xs.toList.set (at_+k) p).drop (at_+(k+1)+r.length)=xs.toList.drop (at_+k+(r.length+1)):=by
   rw [List.drop_set_of_lt (by omega)]
   congr 1;omega
  rw [e1,t1,t2,List.length_cons]
  simp
theorem di {xs ys:oz}{at_:Nat}{m:List Keyed} (h:at_+m.length≤xs.size) (e:ys.toList=xs.toList.take at_++m++xs.toList.drop (at_+m.length)) :
  (∀k n,k+n≤at_→j6 ys k n=j6 xs k n)∧(∀k n,at_+m.length≤k→j6 ys k n=j6 xs k n)∧j6 ys at_ m.length=m:=by
 have lt:(xs.toList.take at_).length=at_:=by rw [List.length_take,Array.length_toList];omega
 refine⟨fun k n hk=>?_,fun k n hk=>?_,?_⟩
 ·unfold j6
  rw [e,List.append_assoc,List.drop_append_of_le_length (by rw [lt];omega),List.take_append_of_le_length (by rw [List.length_drop,lt];omega),List.drop_take,List.take_take,Nat.min_eq_left (by omega)]
 ·unfold j6
  rw [e,List.drop_append,List.length_append,lt,List.drop_eq_nil_of_le (by rw [List.length_append,lt];exact hk),List.nil_append,List.drop_drop]
  congr 2;omega
 ·unfold j6
  rw [e,List.append_assoc,List.drop_append,lt,List.drop_eq_nil_of_le (by rw [lt];omega),List.nil_append,Nat.sub_self,List.drop_zero,List.take_left']
  rfl
structure Gd (f:Bool) (z:oz) (y:SortSt):Prop where
 pm:(arrOf y).Perm z
 kd:kindOf y=tuples' f
 fl:failedOf y=none
theorem Gd.sz {y:SortSt} (g:Gd f z y):(arrOf y).size=z.size:=g.pm.size_eq
theorem Gd.mem {y:SortSt} (g:Gd f z y):∀p∈(arrOf y).toList,p∈z.toList:=fun p hp=>(Array.perm_iff_toList_perm.mp g.pm).mem_iff.mp hp
theorem nY {l1 l2:List (Nat×Nat×Nat)}{x y v:Nat×Nat×Nat}{ps:Array (Nat×Nat×Nat)} (h:ps.toList=l1++x::y::l2):((ps.setIfInBounds l1.length v).eraseIdxIfInBounds (l1.length+1)).toList=l1++v::l2:=by
 rw [Array.toList_eraseIdxIfInBounds,Array.toList_setIfInBounds,h]
 induction l1 generalizing ps with
 | nil=>rfl
 | cons a r ih=>exact congrArg (a::·) (ih (ps:=(r++x::y::l2).toArray) rfl)
theorem df {l1 l2:List (Nat×Nat×Nat)}{x y:Nat×Nat×Nat}{ps:Array (Nat×Nat×Nat)} (h:ps.toList=l1++x::y::l2):ps[l1.length]?=some x∧ps[l1.length+1]?=some y:=by
 rw [←Array.getElem?_toList,←Array.getElem?_toList,h]
 constructor
 ·simp
 ·rw [List.getElem?_append_right (by omega)];simp
theorem bQ {a1 a2 b1 b2 m:List Keyed} (ua:Up o (a1++a2)) (ub:Up o (b1++b2)) (um:Up o m) (pm:m.Perm (a2++b1)) (h1:∀p∈a1,∀q∈b1++b2,uB o p q) (h2:∀p∈a2,∀q∈b2,uB o p q):Up o (a1++m++b2):=by
 obtain⟨u1,_,c1⟩:=List.pairwise_append.mp ua
 obtain⟨_,u2,c2⟩:=List.pairwise_append.mp ub
 refine List.pairwise_append.mpr ⟨List.pairwise_append.mpr ⟨u1,um,fun p hp q hq=>?_⟩,u2,fun p hp q hq=>?_⟩
 ·rcases List.mem_append.mp (pm.mem_iff.mp hq) with hq|hq
  ·exact c1 p hp q hq
  ·exact h1 p hp q (List.mem_append_left _ hq)
 ·rcases List.mem_append.mp hp with hp|hp
  ·exact h1 p hp q (List.mem_append_right _ hq)
  ·rcases List.mem_append.mp (pm.mem_iff.mp hp) with hp|hp
   ·exact h2 p hp q hq
   ·exact c2 p hp q hq
theorem fV {v y:SortSt}{Q:PUnit→SortSt→Prop} (h:Q ⟨⟩ v):wpS (model prog w) A E s (set v:StateT SortSt Sem PUnit) Q y:=wpS_modify (f:=fun _=>v) h
theorem fw {st:SortSt}{l1 l2:List (Nat×Nat×Nat)}{sa na pa sb nb pb:Nat}{Q:Bool→SortSt→Prop} (O:UB prog w A s f o z) (g:Gd f z st) (hp:(pendingOf st).toList=l1++(sa,na,pa)::(sb,nb,pb)::l2) (hsb:sb=sa+na) (n1:1≤na) (n2:1≤nb) (hsz:sb+nb≤z.size) (u1:Up o (j6 (arrOf st) sa na)) (u2:Up o (j6 (arrOf st) sb nb))
  (q:∀y,Gd f z y→(pendingOf y).toList=l1++(sa,na+nb,pa)::l2→Up o (j6 (arrOf y) sa (na+nb))→(∀k n,k+n≤sa→j6 (arrOf y) k n=j6 (arrOf st) k n)→(∀k n,sb+nb≤k→j6 (arrOf y) k n=j6 (arrOf st) k n)→Q true y):wpS (model prog w) A E s (mergeAt' l1.length) Q st:=by
 have gz:=g.sz
 have gm:=g.mem
 generalize hxs:arrOf st=xs at gz gm u1 u2 q
 obtain⟨p1,p2⟩:=df hp
 rw [ft]
 refine wpS_bind (wpS_get ?_)
 rw [p1,p2,hxs]
 have hP:=nY (v:=(sa,na+nb,pa)) hp
 show wpS _ _ _ _ ((set (setPending st (((pendingOf st).setIfInBounds l1.length (sa,na+nb,pa)).eraseIdxIfInBounds (l1.length+1))):StateT SortSt Sem PUnit)>>=_) _ _
 generalize hps:((pendingOf st).setIfInBounds l1.length (sa,na+nb,pa)).eraseIdxIfInBounds (l1.length+1)=ps at hP
 refine wpS_bind (fV ?_)
 have g1:Gd f z (setPending st ps):=⟨g.pm,g.kd,g.fl⟩
 have hsb2:sb<xs.size:=by omega
 have eu:∀y:SortSt,arrOf y=xs→Up o (j6 xs sa (na+nb))→Gd f z y→(pendingOf y).toList=l1++(sa,na+nb,pa)::l2→Q true y:=fun y ey u gy py=>q y gy py (by rw [ey];exact u) (fun k n _=>by rw [ey]) (fun k n _=>by rw [ey])
 have whole:j6 xs sa (na+nb)=j6 xs sa na++j6 xs sb nb:=by
  have:=Vj xs sa na (na+nb) (by omega)
  rw [this,show na+nb - na=nb by omega,←hsb]
 refine wpS_bind (J2 hsb2 (wpS_bind (ZR O g1.kd gm (gm _ (UK _)) (by omega) (by omega) (fun i j hij hj hjn=>kx u1 hij hjn hj) fun k hk less rest=>?_)))
 have b0:∀q∈j6 xs sb nb,uB o xs[sb] q:=fun q hq=>by
  obtain⟨j,hj,j1,rfl⟩:=V8 hq
  exact kx u2 (i:=0) (Nat.zero_le _) j1 hj
 have a1b:∀p∈j6 xs sa k,∀q∈j6 xs sb nb,uB o p q:=fun p hp q hq=>by
  obtain⟨j,hj,j1,rfl⟩:=V8 hp
  exact Ul (less j hj j1) (b0 q hq)
 have ea:=Vj xs sa k na hk
 show wpS _ _ _ _ (if (na - k==0)=true then _ else _) _ _
 rcases Nat.lt_or_ge k na with hkn|hkn
 rotate_left
 ·rw [if_pos (by rw [beq_iff_eq];omega)]
  obtain rfl:k=na:=by omega
  refine wpS_pure (eu _ hxs ?_ g1 hP)
  rw [whole]
  exact List.pairwise_append.mpr ⟨u1,u2,a1b⟩
 rw [if_neg (by rw [beq_iff_eq];omega)]
 have hla:sa+k+(na - k) - 1<xs.size:=by omega
 have eix:sa+k+(na - k) - 1=sa+(na - 1):=by omega
 refine wpS_bind (J2 hla (wpS_bind (Gr O g1.kd gm (gm _ (UK _)) (by omega) (by omega) (fun i j hij hj hjn=>kx u2 hij hjn hj) fun nb' hnb less2 rest2=>?_)))
 simp only [eix] at less2 rest2
 have eb:=Vj xs sb nb' nb hnb
 have a2b2:∀p∈j6 xs (sa+k) (na - k),∀q∈j6 xs (sb+nb') (nb - nb'),uB o p q:=fun p hp q hq=>by
  obtain⟨i,hi,i1,rfl⟩:=V8 hp
  obtain⟨j,hj,j1,rfl⟩:=V8 hq
  have h1:=kx u1 (i:=k+i) (j:=na - 1) (by omega) (by omega) (by omega)
  have h2:=rest2 (nb'+j) (by omega) (by omega) (by omega)
  have e1:sa+(k+i)=sa+k+i:=by omega
  have e2:sb+(nb'+j)=sb+nb'+j:=by omega
  simp only [e1] at h1
  simp only [e2] at h2
  exact Ul h1 h2
 show wpS _ _ _ _ (if (nb'==0)=true then _ else _) _ _
 rcases Nat.eq_zero_or_pos nb' with h0|h0
 ·subst h0
  rw [if_pos (by rw [beq_iff_eq])]
  refine wpS_pure (eu _ hxs ?_ g1 hP)
  rw [whole]
  refine List.pairwise_append.mpr ⟨u1,u2,fun p hp q hq=>?_⟩
  rw [ea] at hp
  rcases List.mem_append.mp hp with hp|hp
  ·exact a1b p hp q hq
  ·exact a2b2 p hp q hq
 rw [if_neg (by rw [beq_iff_eq];omega)]
 have ex:(xs.extract (sa+k) sb).toList=j6 xs (sa+k) (na - k):=by
  rw [show sb=sa+k+(na - k) by omega];exact M0
 have ey:(xs.extract sb (sb+nb')).toList=j6 xs sb nb':=M0
 have sx:(xs.extract (sa+k) sb).size=na - k:=by rw [Array.size_extract];omega
 have sy:(xs.extract sb (sb+nb')).size=nb':=by rw [Array.size_extract];omega
 have T:ZF o f z (xs.extract (sa+k) sb) (xs.extract sb (sb+nb')) (setPending st ps):=by
  refine⟨g1.kd,fun p hp=>?_,fun p hp=>?_,?_,?_,fun p hp hi=>?_,fun p hp hi=>?_⟩
  ·rw [ex] at hp;exact gm p (M1 hp)
  ·rw [ey] at hp;exact gm p (M1 hp)
  ·rw [ex];rw [ea] at u1;exact (List.pairwise_append.mp u1).2.1
  ·rw [ey];rw [eb] at u2;exact (List.pairwise_append.mp u2).1
  ·rw [ey] at hp
   obtain⟨j,hj,j1,rfl⟩:=V8 hp
   have h:=KeyOrd.kle_of_klt (less2 j hj j1)
   rw [Array.getElem_extract]
   have e1:sa+k+((xs.extract (sa+k) sb).size - 1)=sa+(na - 1):=by rw [sx];omega
   simp only [e1]
   exact h
  ·rw [ex] at hp
   obtain⟨j,hj,j1,rfl⟩:=V8 hp
   rw [Array.getElem_extract]
   have h:=KeyOrd.kle_of_klt (rest (k+j) (by omega) (by omega) (by omega))
   have e1:sa+(k+j)=sa+k+j:=by omega
   simp only [e1] at h
   exact h
 have fin:∀m y,Sm (setPending st ps) y→Mg o (xs.extract (sa+k) sb) (xs.extract sb (sb+nb')) m→wpS (model prog w) A E s (do
   modify fun t=>setArr t (m.toList.zipIdx.foldl (fun u (p,j)=>u.setIfInBounds (sa+k+j) p) (arrOf t))
   return (failedOf (←get)).isNone) Q y:=fun m y sm mg=>by
  have ya:arrOf y=xs:=sm.ar.trans hxs
  have ml:m.toList.length=na - k+nb':=by
   have:=mg.pm.length_eq
   rw [List.length_append,Array.length_toList,Array.length_toList,Array.length_toList,sx,sy] at this
   rw [Array.length_toList];exact this
  refine wpS_bind (wpS_modify (wpS_bind (wpS_get (wpS_pure ?_))))
  have e:=ms m.toList xs (sa+k) 0 (by omega)
  rw [Nat.add_zero] at e
  show Q (failedOf y).isNone (setArr y (m.toList.zipIdx.foldl (fun u (p,j)=>u.setIfInBounds (sa+k+j) p) (arrOf y)))
  rw [ya,sm.fl,show failedOf (setPending st ps)=none from g.fl]
  generalize m.toList.zipIdx.foldl (fun (u:oz) (x:Keyed×Nat)=>match x with|(p,j)=>u.setIfInBounds (sa+k+j) p) xs=ys at e
  obtain⟨lo,hi,mid⟩:=di (by omega) e
  have ends:sa+k+m.toList.length=sb+nb':=by omega
  have pmM:m.toList.Perm (j6 xs (sa+k) (na - k)++j6 xs sb nb'):=by rw [←ex,←ey];exact mg.pm
  refine q (setArr y ys) ⟨?_,sm.kd.trans g1.kd,sm.fl.trans g1.fl⟩ ((congrArg Array.toList sm.pd).trans hP) ?_ (fun k' n hk'=>lo k' n (by omega)) (fun k' n hk'=>hi k' n (by omega))
  ·show ys.Perm z
   refine Array.Perm.trans (Array.perm_iff_toList_perm.mpr ?_) (hxs▸g.pm)
   rw [e]
   have e3:xs.toList=xs.toList.take (sa+k)++(j6 xs (sa+k) (na - k)++j6 xs sb nb')++xs.toList.drop (sa+k+m.toList.length):=by
    have h1:=(List.take_append_drop (sa+k) xs.toList).symm
    have h2:=(List.take_append_drop m.toList.length (xs.toList.drop (sa+k))).symm
    rw [List.drop_drop] at h2
    have h3:(xs.toList.drop (sa+k)).take m.toList.length=j6 xs (sa+k) (na - k)++j6 xs sb nb':=by
     have:=Vj xs (sa+k) (na - k) (na - k+nb') (by omega)
     rw [show na - k+nb' - (na - k)=nb' by omega,show sa+k+(na - k)=sb by omega] at this
     rw [ml];exact this
    rw [h3] at h2
    rw [h2,←List.append_assoc] at h1
    exact h1
   conv=>rhs;rw [e3]
   exact List.Perm.append_right _ (List.Perm.append_left _ pmM)
  ·show Up o (j6 ys sa (na+nb))
   have s1:=Vj ys sa k (na+nb) (by omega)
   have s2:=Vj ys (sa+k) m.toList.length (na+nb - k) (by omega)
   rw [s1,s2,mid,lo sa k (by omega),hi _ _ (by omega),ends,show na+nb - k - m.toList.length=nb - nb' by omega,←List.append_assoc]
   refine bQ (a2:=j6 xs (sa+k) (na - k)) (b1:=j6 xs sb nb') (by rw [←ea];exact u1) (by rw [←eb];exact u2) mg.up pmM (fun p hp q hq=>a1b p hp q (by rw [eb];exact hq)) a2b2
 show wpS _ _ _ _ (if na - k≤nb' then cw (xs.extract (sa+k) sb) (xs.extract sb (sb+nb'))>>=_ else cu (xs.extract (sa+k) sb) (xs.extract sb (sb+nb'))>>=_) _ _
 split
 ·exact wpS_bind (fC O T (by omega) (by omega) fin)
 ·exact wpS_bind (fA O T (by omega) (by omega) fin)
end
end TS
namespace TS
open PySem PyProof.Rows L2
def Nn (lo a n:Nat):StateT SortSt Sem AscSt :=
 forIn [a:n] ((none,a):AscSt) fun _ c=>do
  let some r ←ltAt' (lo+c.2) (lo+c.2 - 1)|pure (.done (some none,c.2))
  if r then pure (.done (none,c.2)) else pure (.yield (none,c.2+1))
def KU (lo a n:Nat):StateT SortSt Sem DescSt :=
 forIn [a:n] ((none,a,0):DescSt) fun _ c=>do
  let some r ←ltAt' (lo+c.2.1) (lo+c.2.1 - 1)|pure (.done (some none,c.2.1,c.2.2))
  if r then
   if c.2.2 > 0 then
    reverseSlice' (lo+c.2.1 - (c.2.2+1)) (lo+c.2.1)
    pure (.yield (none,c.2.1+1,0))
   else pure (.yield (none,c.2.1+1,0))
  else
   let some r ←ltAt' (lo+c.2.1 - 1) (lo+c.2.1)|pure (.done (some none,c.2.1,c.2.2))
   if r then pure (.done (none,c.2.1,c.2.2)) else pure (.yield (none,c.2.1+1,c.2.2+1))
section
variable {prog:oM}{w:World}{A:Around}{E:oh}{s:Shared}{f:Bool}{z:oz}{o:KeyKind}
theorem mH {st:SortSt}{i j:Nat}{Q:Option Bool→SortSt→Prop} (O:UB prog w A s f o z) (g:Gd f z st) (hi:i<z.size) (hj:j<z.size) (h:Q (some (o.blt (KK o (arrOf st) i) (KK o (arrOf st) j))) st):wpS (model prog w) A E s (ltAt' i j) Q st:=by
 have kk:∀{k} (hk:k<(arrOf st).size),KK o (arrOf st) k=kv o (arrOf st)[k]:=fun {k} hk=>by unfold KK;rw [getElem?_pos (arrOf st) k hk];rfl
 have h1:i<(arrOf st).size:=g.sz▸hi
 have h2:j<(arrOf st).size:=g.sz▸hj
 rw [kk h1,kk h2] at h
 rw [ltAt'_eq]
 exact wpS_bind (wpS_get (wpS_bind (J2 h1 (wpS_bind (J2 h2 (G6 O g.kd (g.mem _ (UK h1)) (g.mem _ (UK h2)) h))))))
structure Rn (f:Bool) (z:oz) (x:SortSt) (lo:Nat) (y:SortSt):Prop where
 gd:Gd f z y
 pd:pendingOf y=pendingOf x
 low:∀k,k<lo→(arrOf y)[k]?=(arrOf x)[k]?
theorem Rn.refl {x:SortSt} (g:Gd f z x) (lo:Nat):Rn f z x lo x:=⟨g,rfl,fun _ _=>rfl⟩
theorem Rn.mir {x y:SortSt}{lo i j:Nat} (r:Rn f z x lo y) (hi:lo≤i) (hj:j≤z.size):Rn f z x lo (setArr y (mirror (arrOf y) i j ((j - i) / 2))):=by
 refine⟨⟨(mirror_perm _ _ _ _).trans r.gd.pm,r.gd.kd,r.gd.fl⟩,r.pd,fun k hk=>?_⟩
 show (mirror (arrOf y) i j ((j - i) / 2))[k]?=_
 rw [getElem?_mirror_all (by rw [r.gd.sz];exact hj),if_neg (by omega)]
 exact r.low k hk
def SU (o:KeyKind) (xs:oz) (lo m:Nat):Prop:=∀i j,i≤j→j<m→o.kle (KK o xs (lo+i)) (KK o xs (lo+j))
def SD (o:KeyKind) (xs:oz) (lo m:Nat):Prop:=∀i j,i≤j→j<m→o.kle (KK o xs (lo+j)) (KK o xs (lo+i))
theorem SU.more {xs:oz}{lo i:Nat} (u:SU o xs lo i) (h:1≤i) (hl:o.kle (KK o xs (lo+(i - 1))) (KK o xs (lo+i))):SU o xs lo (i+1):=fun g k hgk hk=>by
 rcases Nat.lt_or_ge k i with hki|hki
 ·exact u g k hgk hki
 ·obtain rfl:k=i:=by omega
  rcases Nat.lt_or_ge g k with hg|hg
  ·exact KeyOrd.kle_trans (u g (k - 1) (by omega) (by omega)) hl
  ·obtain rfl:g=k:=by omega
   exact KeyOrd.kle_refl _
theorem SD.more {xs ys:oz}{lo i:Nat} (hk:∀k,KK o ys k=KK o xs k) (u:SD o xs lo i) (h:1≤i) (hl:o.kle (KK o xs (lo+i)) (KK o xs (lo+(i - 1)))):SD o ys lo (i+1):=fun g k hgk hk2=>by
 rw [hk,hk]
 rcases Nat.lt_or_ge k i with hki|hki
 ·exact u g k hgk hki
 ·obtain rfl:k=i:=by omega
  rcases Nat.lt_or_ge g k with hg|hg
  ·exact KeyOrd.kle_trans hl (u g (k - 1) (by omega) (by omega))
  ·obtain rfl:g=k:=by omega
   exact KeyOrd.kle_refl _
theorem No {x st:SortSt}{lo a n:Nat}{Q:AscSt→SortSt→Prop} (O:UB prog w A s f o z) (hn:lo+n≤z.size) (ha:1≤a) (han:a≤n) (r:Rn f z x lo st) (u:SU o (arrOf st) lo a)
  (q:∀m,a≤m→m≤n→SU o (arrOf st) lo m→(m=n∨o.klt (KK o (arrOf st) (lo+m)) (KK o (arrOf st) (lo+(m - 1))))→Q (none,m) st):wpS (model prog w) A E s (Nn lo a n) Q st:=by
 refine wpS_forRange (I:=fun i c y=>y=st∧c=(none,i)∧SU o (arrOf st) lo i) (fun i c y h1 h2 hy=>?_) (fun c y hy=>?_) ⟨rfl,rfl,u⟩
 ·obtain⟨rfl,rfl,up⟩:=hy
  refine wpS_bind (mH O r.gd (show lo+i<_ by omega) (show lo+i - 1<_ by omega) ?_)
  show wpS _ _ _ _ (if o.blt (KK o (arrOf y) (lo+i)) (KK o (arrOf y) (lo+i - 1))=true then _ else _) _ _
  rw [show lo+i - 1=lo+(i - 1) by omega]
  cases hl:o.blt (KK o (arrOf y) (lo+i)) (KK o (arrOf y) (lo+(i - 1))) with
  | true=>rw [if_pos rfl];exact wpS_pure (q i h1 (by omega) up (.inr hl))
  | false=>rw [if_neg Bool.false_ne_true];exact wpS_pure ⟨rfl,rfl,up.more (by omega) hl⟩
 ·obtain⟨rfl,rfl,up⟩:=hy
  have e:max a n=n:=by omega
  rw [e] at up ⊢
  exact q n han (Nat.le_refl _) up (.inl rfl)
def dS (k:AscSt→StateT SortSt Sem (Option Nat)):Prop:=∀m,k (none,m)=pure (some m)
theorem MC {k:AscSt→StateT SortSt Sem (Option Nat)} (hk:dS k) {x st:SortSt} {lo a n:Nat} {Q:Option Nat→SortSt→Prop} (O:UB prog w A s f o z) (hn:lo+n≤z.size) (ha:1≤a) (han:a≤n) (r:Rn f z x lo st) (d:SD o (arrOf st) lo a)
  (q:∀m y,Rn f z x lo y→1≤m→m≤n→SU o (arrOf y) lo m→Q (some m) y):wpS (model prog w) A E s (reverseSlice' lo (lo+a)>>=fun _=>Nn lo a n>>=k) Q st:=by
 have hz:lo+a≤(arrOf st).size:=by rw [r.gd.sz];omega
 have r2:=r.mir (i:=lo) (j:=lo+a) (Nat.le_refl _) (by omega)
 refine wpS_bind (wpS_reverse (wpS_bind (No O hn ha han r2 (fun i j hij hj=>?_) fun m h1 h2 up _=>by rw [hk];exact wpS_pure (q m _ r2 (by omega) h2 up))))
 show o.kle (KK o (mirror (arrOf st) lo (lo+a) _) (lo+i)) (KK o (mirror (arrOf st) lo (lo+a) _) (lo+j))
 rw [KK_mirror hz,KK_mirror hz,if_pos ⟨by omega,by omega⟩,if_pos ⟨by omega,by omega⟩]
 have:=d (a - 1 - j) (a - 1 - i) (by omega) (by omega)
 rw [show lo+(lo+a) - 1 - (lo+i)=lo+(a - 1 - i) by omega,show lo+(lo+a) - 1 - (lo+j)=lo+(a - 1 - j) by omega]
 exact this
theorem aV {x st:SortSt}{lo a n:Nat}{Q:DescSt→SortSt→Prop} (O:UB prog w A s f o z) (hn:lo+n≤z.size) (ha:1≤a) (han:a≤n) (r:Rn f z x lo st) (d:SD o (arrOf st) lo a)
  (q:∀m e y,Rn f z x lo y→a≤m→m≤n→SD o (arrOf y) lo m→e+1≤m→(∀i,lo+m - (e+1)≤i→i<lo+m→KK o (arrOf y) i=KK o (arrOf y) (lo+m - 1))→Q (none,m,e) y):wpS (model prog w) A E s (KU lo a n) Q st:=by
 refine wpS_forRange (I:=fun i c y=>∃e,c=(none,i,e)∧Rn f z x lo y∧SD o (arrOf y) lo i∧e+1≤i∧∀k,lo+i - (e+1)≤k→k<lo+i→KK o (arrOf y) k=KK o (arrOf y) (lo+i - 1)) (fun i c y h1 h2 hy=>?_) (fun c y hy=>?_) ⟨0,rfl,r,d,by omega,fun k p1 p2=>congrArg _ (by omega)⟩
 ·obtain⟨e,rfl,r2,dn,he,eqs⟩:=hy
  have hz:lo+i≤(arrOf y).size:=by rw [r2.gd.sz];omega
  refine wpS_bind (mH O r2.gd (show lo+i<_ by omega) (show lo+i - 1<_ by omega) ?_)
  show wpS _ _ _ _ (if o.blt (KK o (arrOf y) (lo+i)) (KK o (arrOf y) (lo+i - 1))=true then _ else _) _ _
  have ei:lo+i - 1=lo+(i - 1):=by omega
  cases hl:o.blt (KK o (arrOf y) (lo+i)) (KK o (arrOf y) (lo+i - 1)) with
  | true =>
   rw [if_pos rfl]
   have hle:o.kle (KK o (arrOf y) (lo+i)) (KK o (arrOf y) (lo+(i - 1))):=by rw [←ei];exact KeyOrd.kle_of_klt (O:=o.toKeyOrd) hl
   show wpS _ _ _ _ (if e > 0 then _ else _) _ _
   by_cases h0:e > 0
   ·rw [if_pos h0]
    exact wpS_bind (wpS_reverse (wpS_pure ⟨0,rfl,r2.mir (show lo≤lo+i - (e+1) by omega) (show lo+i≤_ by omega),SD.more (KK_mirror_equal hz eqs) dn (by omega) hle,by omega,fun k p1 p2=>congrArg _ (by omega)⟩))
   ·rw [if_neg h0]
    exact wpS_pure ⟨0,rfl,r2,SD.more (fun _=>rfl) dn (by omega) hle,by omega,fun k p1 p2=>congrArg _ (by omega)⟩
  | false =>
   rw [if_neg Bool.false_ne_true]
   refine wpS_bind (mH O r2.gd (show lo+i - 1<_ by omega) (show lo+i<_ by omega) ?_)
   show wpS _ _ _ _ (if o.blt (KK o (arrOf y) (lo+i - 1)) (KK o (arrOf y) (lo+i))=true then _ else _) _ _
   cases hg:o.blt (KK o (arrOf y) (lo+i - 1)) (KK o (arrOf y) (lo+i)) with
   | true=>rw [if_pos rfl];exact wpS_pure (q i e y r2 h1 (by omega) dn he eqs)
   | false =>
    rw [if_neg Bool.false_ne_true]
    have same:KK o (arrOf y) (lo+i)=KK o (arrOf y) (lo+i - 1):=o.total _ _ hl hg
    refine wpS_pure ⟨e+1,rfl,r2,SD.more (fun _=>rfl) dn (by omega) (by rw [←ei];exact hg),by omega,fun k p1 p2=>?_⟩
    rw [show lo+(i+1) - 1=lo+i by omega]
    rcases Nat.lt_or_ge k (lo+i) with hk|hk
    ·rw [same];exact eqs k (by omega) hk
    ·exact congrArg _ (by omega)
 ·obtain⟨e,rfl,r2,dn,he,eqs⟩:=hy
  have em:max a n=n:=by omega
  rw [em] at dn he eqs ⊢
  exact q n e y r2 han (Nat.le_refl _) dn he eqs
def im (lo n:Nat) (k:DescSt→StateT SortSt Sem (Option Nat)):Prop:=∃k1,dS k1∧∀m e,k (none,m,e)=if e > 0 then reverseSlice' (lo+m - (e+1)) (lo+m)>>=fun _=>reverseSlice' lo (lo+m)>>=fun _=>Nn lo m n>>=k1 else reverseSlice' lo (lo+m)>>=fun _=>Nn lo m n>>=k1
theorem mf {k2:DescSt→StateT SortSt Sem (Option Nat)}{x st:SortSt}{lo a n:Nat}{Q:Option Nat→SortSt→Prop} (hk:im lo n k2) (O:UB prog w A s f o z) (hn:lo+n≤z.size) (han:a+1≤n) (r:Rn f z x lo st) (d:SD o (arrOf st) lo (a+1))
  (q:∀m y,Rn f z x lo y→1≤m→m≤n→SU o (arrOf y) lo m→Q (some m) y):wpS (model prog w) A E s (liftM (rule "list.sort.descending-run")>>=fun _=>KU lo (a+1) n>>=k2) Q st:=by
 obtain⟨k1,hk1,hk2⟩:=hk
 refine wpS_bind (wpS_lift (wpAny_rule ⟨rfl,wpS_bind (aV O hn (by omega) han r d fun m e y r2 h1 h2 dn he eqs=>?_)⟩))
 have hz:lo+m≤(arrOf y).size:=by rw [r2.gd.sz];omega
 rw [hk2]
 by_cases h0:e > 0
 ·rw [if_pos h0]
  refine wpS_bind (wpS_reverse (MC hk1 (a:=m) O hn (by omega) h2 (r2.mir (show lo≤lo+m - (e+1) by omega) (show lo+m≤_ by omega)) (fun i j hij hj=>?_) q))
  have ek:=KK_mirror_equal hz eqs
  show o.kle (KK o (mirror (arrOf y) (lo+m - (e+1)) (lo+m) _) (lo+j)) (KK o (mirror (arrOf y) (lo+m - (e+1)) (lo+m) _) (lo+i))
  rw [ek,ek]
  exact dn i j hij hj
 ·rw [if_neg h0]
  exact MC hk1 (a:=m) O hn (by omega) h2 r2 dn q
theorem eA {st:SortSt}{lo n:Nat}{Q:Option Nat→SortSt→Prop} (O:UB prog w A s f o z) (hn:lo+n≤z.size) (h1:1≤n) (g:Gd f z st)
  (q:∀m y,Rn f z st lo y→1≤m→m≤n→SU o (arrOf y) lo m→Q (some m) y):wpS (model prog w) A E s (countRun' lo n) Q st:=by
 rw [countRun'_eq]
 show wpS _ _ _ _ (Nn lo 1 n>>=_) _ _
 have r:=Rn.refl g lo
 refine wpS_bind (No O hn (Nat.le_refl 1) h1 r (fun i j hij hj=>?_) fun m m1 m2 up last=>?_)
 ·obtain rfl:i=j:=by omega
  exact KeyOrd.kle_refl _
 show wpS _ _ _ _ (if (m==n)=true then _ else _) _ _
 rcases Nat.lt_or_ge m n with hmn|hmn
 ·rw [if_neg (by rw [beq_iff_eq];omega)]
  have hl:=last.resolve_left (by omega)
  show wpS _ _ _ _ (if m > 1 then _ else _) _ _
  rcases Nat.lt_or_ge 1 m with hm|hm
  ·rw [if_pos hm]
   refine wpS_bind (mH O g (show lo<_ by omega) (show lo+m - 1<_ by omega) ?_)
   show wpS _ _ _ _ (if o.blt (KK o (arrOf st) lo) (KK o (arrOf st) (lo+m - 1))=true then _ else _) _ _
   cases hr:o.blt (KK o (arrOf st) lo) (KK o (arrOf st) (lo+m - 1)) with
   | true=>rw [if_pos rfl];exact wpS_pure (q m st r m1 m2 up)
   | false =>
    rw [if_neg Bool.false_ne_true]
    have hz:lo+m≤(arrOf st).size:=by rw [g.sz];omega
    have eqs:∀k,lo≤k→k<lo+m→KK o (arrOf st) k=KK o (arrOf st) (lo+m - 1):=fun k k1 k2=>by
     have a1:=up (k - lo) (m - 1) (by omega) (by omega)
     have a2:=up 0 (k - lo) (by omega) (by omega)
     rw [show lo+(k - lo)=k by omega,show lo+(m - 1)=lo+m - 1 by omega] at a1
     rw [show lo+(k - lo)=k by omega,Nat.add_zero] at a2
     exact KeyOrd.kle_antisymm a1 (KeyOrd.kle_trans hr a2)
    have ek:=KK_mirror_equal hz eqs
    refine wpS_bind (wpS_reverse ?_)
    show wpS _ _ _ _ (liftM (rule "list.sort.descending-run")>>=fun _=>KU lo (m+1) n>>=_) _ _
    refine mf ⟨_,fun _=>rfl,fun _ _=>rfl⟩ O hn (by omega) (r.mir (Nat.le_refl _) (by omega)) (SD.more (xs:=arrOf st) ek (fun i j hij hj=>?_) m1 (KeyOrd.kle_of_klt hl)) q
    rw [eqs (lo+i) (by omega) (by omega),eqs (lo+j) (by omega) (by omega)]
    exact KeyOrd.kle_refl _
  ·rw [if_neg (by omega)]
   obtain rfl:m=1:=by omega
   show wpS _ _ _ _ (liftM (rule "list.sort.descending-run")>>=fun _=>KU lo (1+1) n>>=_) _ _
   refine mf ⟨_,fun _=>rfl,fun _ _=>rfl⟩ O hn (by omega) r (SD.more (xs:=arrOf st) (fun _=>rfl) (fun i j hij hj=>?_) m1 (KeyOrd.kle_of_klt hl)) q
   obtain rfl:i=j:=by omega
   exact KeyOrd.kle_refl _
 ·rw [if_pos (by rw [beq_iff_eq];omega)]
  exact wpS_pure (q m st r m1 m2 up)
theorem ee {x st:SortSt}{lo n a:Nat}{Q:Bool→SortSt→Prop} (O:UB prog w A s f o z) (hn:lo+n≤z.size) (han:a≤n) (r:Rn f z x lo st) (u:SU o (arrOf st) lo a)
  (q:∀y,Rn f z x lo y→SU o (arrOf y) lo n→Q true y):wpS (model prog w) A E s (binarySort' lo n a) Q st:=by
 rw [binarySort'_eq]
 refine wpS_bind (wpS_mono (wpS_forRange (I:=fun k c y=>c=(none,())∧Rn f z x lo y∧SU o (arrOf y) lo (min k n)) (Q:=fun c y=>c=(none,())∧Rn f z x lo y∧SU o (arrOf y) lo n) (fun k c y k1 k2 hy=>?_) (fun c y hy=>?_) ⟨rfl,r,fun i j hij hj=>?_⟩) fun c y hy=>?_)
 ·obtain⟨rfl,b2,up⟩:=hy
  rw [Nat.min_eq_left (by omega)] at up
  have hk:lo+k<z.size:=by omega
  refine wpS_bind (wpS_mono (wpS_forRange (I:=fun i c y'=>y'=y∧∃l r,c=(none,l,r)∧l≤r∧r≤k∧r - l≤k - i∧(∀g,g<l→o.kle (KK o (arrOf y) (lo+g)) (KK o (arrOf y) (lo+k)))∧∀g,r≤g→g<k→o.klt (KK o (arrOf y) (lo+k)) (KK o (arrOf y) (lo+g)))
   (Q:=fun c y'=>y'=y∧∃l r,c=(none,l,r)∧l≤k∧(∀g,g<l→o.kle (KK o (arrOf y) (lo+g)) (KK o (arrOf y) (lo+k)))∧∀g,l≤g→g<k→o.klt (KK o (arrOf y) (lo+k)) (KK o (arrOf y) (lo+g))) (fun i c y' i1 i2 hy=>?_) (fun c y' hy=>?_) ⟨rfl,0,k,rfl,by omega,by omega,by omega,fun g hg=>absurd hg (by omega),fun g p1 p2=>absurd p1 (by omega)⟩) fun c y' hy=>?_)
  ·obtain⟨rfl,l,r',rfl,lr,rk,fu,lw,hw⟩:=hy
   show wpS _ _ _ _ (if l≥r' then _ else _) _ _
   rcases Nat.lt_or_ge l r' with hlr|hlr
   ·rw [if_neg (by omega)]
    refine wpS_bind (mH O b2.gd hk (show lo+(l+r') / 2<_ by omega) ?_)
    show wpS _ _ _ _ (if o.blt (KK o (arrOf y') (lo+k)) (KK o (arrOf y') (lo+(l+r') / 2))=true then _ else _) _ _
    cases hl:o.blt (KK o (arrOf y') (lo+k)) (KK o (arrOf y') (lo+(l+r') / 2)) with
    | true=>rw [if_pos rfl];exact wpS_pure ⟨rfl,l,(l+r') / 2,rfl,by omega,by omega,by omega,lw,fun g p1 p2=>KeyOrd.klt_of_klt_of_kle hl (up _ _ p1 p2)⟩
    | false=>rw [if_neg Bool.false_ne_true];exact wpS_pure ⟨rfl,(l+r') / 2+1,r',rfl,by omega,by omega,by omega,fun g p1=>KeyOrd.kle_trans (up g ((l+r') / 2) (by omega) (by omega)) hl,hw⟩
   ·rw [if_pos hlr]
    obtain rfl:l=r':=by omega
    exact wpS_pure ⟨rfl,l,l,rfl,rk,lw,hw⟩
  ·obtain⟨rfl,l,r',rfl,lr,rk,fu,lw,hw⟩:=hy
   obtain rfl:l=r':=by omega
   exact⟨rfl,l,l,rfl,rk,lw,hw⟩
  ·obtain⟨rfl,l,r',rfl,lk,lw,hw⟩:=hy
   show wpS _ _ _ _ (moveDown' (lo+k) (lo+l)>>=fun _=>pure (ForInStep.yield (none,()))) _ _
   rw [moveDown'_eq]
   have hz:lo+k<(arrOf y').size:=by rw [b2.gd.sz];exact hk
   refine wpS_bind (wpS_modify (wpS_pure ⟨rfl,⟨⟨(bubble_perm _ _ _).trans b2.gd.pm,b2.gd.kd,b2.gd.fl⟩,b2.pd,fun g hg=>?_⟩,fun i j hij hj=>?_⟩))
   ·show (bubble (arrOf y') (lo+k) (lo+k - (lo+l)))[g]?=_
    rw [getElem?_bubble hz _ (by omega),if_neg (by omega),if_neg (by omega)]
    exact b2.low g hg
   ·have kb:=fun g=>KK_bubble (κ:=o) hz (show lo+k - (lo+l)≤lo+k by omega) g
    rw [show lo+k - (lo+k - (lo+l))=lo+l by omega] at kb
    show o.kle (KK o (bubble (arrOf y') (lo+k) (lo+k - (lo+l))) (lo+i)) (KK o (bubble (arrOf y') (lo+k) (lo+k - (lo+l))) (lo+j))
    rw [kb,kb]
    rw [Nat.min_eq_left (by omega)] at hj
    have dec:∀g,lo+g - 1=lo+(g - 1)∨g=0:=fun g=>by omega
    split
    ·split
     ·exact KeyOrd.kle_refl _
     ·split
      ·rw [show lo+j - 1=lo+(j - 1) by omega]
       exact KeyOrd.kle_of_klt (hw _ (by omega) (by omega))
      ·exact absurd hij (by omega)
    ·split
     ·split
      ·exact absurd hij (by omega)
      ·split
       ·rw [show lo+i - 1=lo+(i - 1) by omega,show lo+j - 1=lo+(j - 1) by omega]
        exact up _ _ (by omega) (by omega)
       ·exact absurd hij (by omega)
     ·split
      ·exact lw _ (by omega)
      ·split
       ·rw [show lo+j - 1=lo+(j - 1) by omega]
        exact up _ _ (by omega) (by omega)
       ·exact up _ _ (by omega) (by omega)
 ·obtain⟨rfl,b2,up⟩:=hy
  rw [Nat.min_eq_right (by omega)] at up
  exact⟨rfl,b2,up⟩
 ·rcases Nat.eq_zero_or_pos a with h0|h0
  ·obtain rfl:i=j:=by omega
   exact KeyOrd.kle_refl _
  ·exact u i j hij (by omega)
 ·obtain⟨rfl,b2,up⟩:=hy
  exact wpS_pure (q y b2 up)
end
end TS
namespace TS
open PySem PyProof.Rows L2
def vW (o:KeyKind) (xs:oz):List (Nat×Nat)→Nat→Nat→Prop
 | [],lo,hi=>lo=hi
 | (a,n)::r,lo,hi=>a=lo∧1≤n∧Up o (j6 xs lo n)∧vW o xs r (lo+n) hi
def pr (t:Nat×Nat×Nat):Nat×Nat:=(t.1,t.2.1)
def vx (y:SortSt):List (Nat×Nat):=(pendingOf y).toList.map pr
section
variable {prog:oM}{w:World}{A:Around}{E:oh}{s:Shared}{f:Bool}{z:oz}{o:KeyKind}
theorem vW.le {xs:oz}:∀{l:List (Nat×Nat)} {lo hi:Nat},vW o xs l lo hi→lo+l.length≤hi
 | [],lo,hi,h=>Nat.le_of_eq h
 | (a,n)::r,lo,hi,⟨_,h1,_,h2⟩=>by
  have:=h2.le
  rw [List.length_cons];omega
theorem vW.congr {xs ys:oz}:∀{l:List (Nat×Nat)} {lo hi:Nat},vW o xs l lo hi→(∀k n,lo≤k→k+n≤hi→j6 ys k n=j6 xs k n)→vW o ys l lo hi
 | [],lo,hi,h,_=>h
 | (a,n)::r,lo,hi,⟨h0,h1,u,h2⟩,e=>by
  have:=h2.le
  exact⟨h0,h1,by rw [e lo n (Nat.le_refl _) (by omega)];exact u,h2.congr fun k m hk hm=>e k m (by omega) hm⟩
theorem vW.app {xs:oz}:∀{l1 l2:List (Nat×Nat)} {lo hi:Nat},vW o xs (l1++l2) lo hi→∃mid,vW o xs l1 lo mid∧vW o xs l2 mid hi
 | [],l2,lo,hi,h=>⟨lo,rfl,h⟩
 | (a,n)::r,l2,lo,hi,⟨h0,h1,u,h2⟩=>by
  obtain⟨mid,c1,c2⟩:=vW.app h2
  exact⟨mid,⟨h0,h1,u,c1⟩,c2⟩
theorem vW.join {xs:oz}:∀{l1 l2:List (Nat×Nat)} {lo mid hi:Nat},vW o xs l1 lo mid→vW o xs l2 mid hi→vW o xs (l1++l2) lo hi
 | [],l2,lo,mid,hi,h,c=>by obtain rfl:lo=mid:=h;exact c
 | (a,n)::r,l2,lo,mid,hi,⟨h0,h1,u,h2⟩,c=>⟨h0,h1,u,h2.join c⟩
theorem MR {st:SortSt}{i hi:Nat}{Q:Bool→SortSt→Prop} (O:UB prog w A s f o z) (g:Gd f z st) (c:vW o (arrOf st) (vx st) 0 hi) (hh:hi≤z.size) (Vh:i+1<(pendingOf st).size)
  (q:∀y,Gd f z y→vW o (arrOf y) (vx y) 0 hi→(pendingOf y).size+1=(pendingOf st).size→(∀k n,hi≤k→j6 (arrOf y) k n=j6 (arrOf st) k n)→Q true y):wpS (model prog w) A E s (mergeAt' i) Q st:=by
 obtain⟨l1,x1,x2,l2,hl,h1⟩:∃l1 x1 x2 l2,(pendingOf st).toList=l1++x1::x2::l2∧l1.length=i:=by
  have h1:i+1<(pendingOf st).toList.length:=by rw [Array.length_toList];exact Vh
  refine⟨(pendingOf st).toList.take i,(pendingOf st).toList[i],(pendingOf st).toList[i+1],(pendingOf st).toList.drop (i+2),?_,by rw [List.length_take];omega⟩
  have e:=(List.take_append_drop i (pendingOf st).toList).symm
  rw [List.drop_eq_getElem_cons (by omega),List.drop_eq_getElem_cons h1] at e
  exact e
 obtain⟨sa,na,pa⟩:=x1
 obtain⟨sb,nb,pb⟩:=x2
 have er:vx st=l1.map pr++(sa,na)::(sb,nb)::l2.map pr:=by
  unfold vx
  rw [hl,List.map_append,List.map_cons,List.map_cons];rfl
 rw [er] at c
 obtain⟨mid,c1,h2,n1,u1,h3,n2,u2,c2⟩:=c.app
 subst h2
 subst h3
 have l3:=c2.le
 rw [←h1]
 refine fw O g hl rfl n1 n2 (by omega) u1 u2 fun y gy py up low high=>q y gy ?_ ?_ fun k n hk=>high k n (by omega)
 ·have ey:vx y=l1.map pr++(sa,na+nb)::l2.map pr:=by
   unfold vx
   rw [py,List.map_append,List.map_cons];rfl
  rw [ey]
  refine vW.join (c1.congr fun k n _ hk=>low k n hk) ⟨rfl,by omega,up,?_⟩
  rw [←Nat.add_assoc]
  exact c2.congr fun k n hk _=>high k n hk
 ·have e1:=congrArg List.length py
  have e2:=congrArg List.length hl
  simp only [Array.length_toList,List.length_append,List.length_cons] at e1 e2
  omega
theorem dy {xs ys:oz}{k n lo:Nat} (h:∀i,i<lo→ys[i]?=xs[i]?) (hk:k+n≤lo):j6 ys k n=j6 xs k n:=by
 apply List.ext_getElem?
 intro i
 unfold j6
 rw [List.getElem?_take,List.getElem?_take]
 split
 ·rw [List.getElem?_drop,List.getElem?_drop,Array.getElem?_toList,Array.getElem?_toList]
  exact h _ (by omega)
 ·rfl
theorem SU.up {xs:oz}{lo m:Nat} (u:SU o xs lo m) (h:lo+m≤xs.size):Up o (j6 xs lo m):=by
 have kk:∀{k} (hk:k<xs.size),KK o xs k=kv o xs[k]:=fun {k} hk=>by unfold KK;rw [getElem?_pos xs k hk];rfl
 refine List.pairwise_iff_getElem.mpr fun i j hi hj hij=>?_
 rw [dw h] at hi hj
 rw [gD _ (by omega),gD _ (by omega)]
 have:=u i j (by omega) hj
 rw [kk (by omega),kk (by omega)] at this
 exact this
theorem bv {ps:Array (Nat×Nat×Nat)}{i pw:Nat}:(ps.modify i fun (t:Nat×Nat×Nat)=>match t with|(a,n,_)=>(a,n,pw)).toList.map pr=ps.toList.map pr:=by
 apply List.ext_getElem?
 intro k
 rw [List.getElem?_map,List.getElem?_map,Array.getElem?_toList,Array.getElem?_toList,Array.getElem?_modify]
 split
 ·cases ps[k]? with
  | none=>rfl
  | some t=>rfl
 ·rfl
structure Bt (o:KeyKind) (f:Bool) (z:oz) (lo:Nat) (y:SortSt):Prop where
 gd:Gd f z y
 cv:vW o (arrOf y) (vx y) 0 lo
def nM (n pw:Nat):StateT SortSt Sem (Option Unit×Unit) :=
 forIn [0:n] ((none,()):Option Unit×Unit) fun _ _=>do
  let p:=pendingOf (←get)
  let some (_,_,older):=(if p.size > 1 then p[p.size - 2]? else none)|pure (.done (none,()))
  if older≤pw then pure (.done (none,()))
  else
   if !(←mergeAt' (p.size - 2)) then pure (.done (some (),())) else pure (.yield (none,()))
theorem mJ {st:SortSt}{n pw lo m:Nat}{Q:Option Unit×Unit→SortSt→Prop} (O:UB prog w A s f o z) (b:Bt o f z lo st) (hl:lo≤z.size) (u:Up o (j6 (arrOf st) lo m)) (q:∀y,Bt o f z lo y→Up o (j6 (arrOf y) lo m)→Q (none,()) y):wpS (model prog w) A E s (nM n pw) Q st:=by
 refine wpS_forRange (I:=fun _ c y=>c=(none,())∧Bt o f z lo y∧Up o (j6 (arrOf y) lo m)) (fun i c y _ _ hy=>?_) (fun c y hy=>?_) ⟨rfl,b,u⟩
 ·obtain⟨rfl,b1,u1⟩:=hy
  refine wpS_bind (wpS_get ?_)
  dsimp only
  rcases Nat.lt_or_ge 1 (pendingOf y).size with h1|h1
  ·rw [if_pos h1,getElem?_pos (pendingOf y) _ (show (pendingOf y).size - 2<_ by omega)]
   show wpS _ _ _ _ (if _≤pw then _ else _) _ _
   split
   ·exact wpS_pure (q y b1 u1)
   ·refine wpS_bind (MR O b1.gd b1.cv hl (by omega) fun y2 g2 c2 _ Vh=>?_)
    exact wpS_pure ⟨rfl,⟨g2,c2⟩,by rw [Vh lo m (Nat.le_refl _)];exact u1⟩
  ·rw [if_neg (by omega)]
   exact wpS_pure (q y b1 u1)
 ·obtain⟨rfl,b1,u1⟩:=hy
  exact q y b1 u1
theorem Bt.add {lo m:Nat}{y:SortSt} (b:Bt o f z lo y) (u:Up o (j6 (arrOf y) lo m)) (hm:1≤m):Bt o f z (lo+m) (setPending y ((pendingOf y).push (lo,m,0))):=by
 refine⟨⟨b.gd.pm,b.gd.kd,b.gd.fl⟩,?_⟩
 have e:vx (setPending y ((pendingOf y).push (lo,m,0)))=vx y++[(lo,m)]:=by
  show ((pendingOf y).push (lo,m,0)).toList.map pr=_
  rw [Array.toList_push,List.map_append];rfl
 show vW o (arrOf y) (vx (setPending y ((pendingOf y).push (lo,m,0)))) 0 (lo+m)
 rw [e]
 exact b.cv.join ⟨rfl,hm,u,rfl⟩
theorem Bt.mod {lo i pw:Nat}{y:SortSt} (b:Bt o f z lo y):Bt o f z lo (setPending y ((pendingOf y).modify i fun (t:Nat×Nat×Nat)=>match t with|(a,n,_)=>(a,n,pw))):=by
 refine⟨⟨b.gd.pm,b.gd.kd,b.gd.fl⟩,?_⟩
 show vW o (arrOf y) (((pendingOf y).modify i fun (t:Nat×Nat×Nat)=>match t with|(a,n,_)=>(a,n,pw)).toList.map pr) 0 lo
 rw [bv]
 exact b.cv
theorem Bt.run {lo:Nat}{x y:SortSt} (b:Bt o f z lo x) (r:Rn f z x lo y):Bt o f z lo y:=by
 refine⟨r.gd,?_⟩
 have e:vx y=vx x:=by unfold vx;rw [r.pd]
 rw [e]
 exact b.cv.congr fun k n _ hk=>dy r.low hk
theorem dA {st:SortSt}{Q:Unit→SortSt→Prop} (O:UB prog w A s f o z) (g:Gd f z st) (p0:pendingOf st=#[]) (h2:2≤z.size)
  (q:∀y,Gd f z y→Up o (arrOf y).toList→Q () y):wpS (model prog w) A E s sortRuns' Q st:=by
 rw [sortRuns'_eq]
 refine wpS_bind (wpS_get ?_)
 simp only [g.sz]
 generalize minRun' z.size z.size 0=mr
 have b0:Bt o f z 0 st:=⟨g,by unfold vx;rw [p0];rfl⟩
 refine wpS_bind (wpS_mono (wpS_forRange (I:=fun i c y=>c.1=none∧c.2≤z.size∧i≤c.2∧Bt o f z c.2 y) (Q:=fun c y=>c=(none,z.size)∧Bt o f z z.size y) (fun i c y _ hi hy=>?_) (fun c y hy=>?_) ⟨rfl,Nat.zero_le _,Nat.le_refl _,b0⟩) fun c y hy=>?_)
 ·obtain⟨c1,lo⟩:=c
  obtain⟨e1,hl,hil,b⟩:=hy
  change c1=none at e1
  change lo≤z.size at hl
  change i≤lo at hil
  change Bt o f z lo y at b
  subst e1
  show wpS _ _ _ _ (if lo≥z.size then _ else _) _ _
  rcases Nat.lt_or_ge lo z.size with hlo|hlo
  ·rw [if_neg (by omega)]
   refine wpS_bind (eA O (show lo+(z.size - lo)≤_ by omega) (by omega) b.gd fun m y1 r1 m1 m2 su=>?_)
   have tail:∀(y2:SortSt) (k:Nat),Bt o f z lo y2→Up o (j6 (arrOf y2) lo k)→1≤k→lo+k≤z.size→∀c:Option Unit×Nat,c=(none,lo+k)→c.1=none∧c.2≤z.size∧i+1≤c.2∧Bt o f z c.2 (setPending y2 ((pendingOf y2).push (lo,k,0))):=fun y2 k b2 u2 k1 k2 c hc=>by
    subst hc
    exact⟨rfl,k2,by show i+1≤lo+k;omega,b2.add u2 k1⟩
   show wpS _ _ _ _ (if m<mr then _ else _) _ _
   have rest:∀(y2:SortSt) (k:Nat),Rn f z y lo y2→SU o (arrOf y2) lo k→1≤k→lo+k≤z.size→Bt o f z lo y2∧Up o (j6 (arrOf y2) lo k):=fun y2 k r2 su2 k1 k2=>⟨b.run r2,su2.up (by rw [r2.gd.sz];exact k2)⟩
   split
   ·refine wpS_bind (wpS_lift (wpAny_rule ⟨rfl,wpS_bind (ee (x:=y) O (show lo+min (z.size - lo) mr≤_ by omega) (by omega) r1 su fun y2 r2 su2=>?_)⟩))
    obtain⟨b2,u2⟩:=rest y2 _ r2 su2 (by omega) (by omega)
    refine wpS_bind (wpS_get ?_)
    cases hb:(pendingOf y2).back? with
    | none=>exact wpS_bind (wpS_modify (wpS_pure (tail y2 _ b2 u2 (by omega) (by omega) _ rfl)))
    | some t =>
     obtain⟨s1,n1,p1⟩:=t
     show wpS _ _ _ _ (nM z.size _>>=_) _ _
     refine wpS_bind (mJ O b2 hl u2 fun y3 b3 u3=>?_)
     exact wpS_bind (wpS_modify (wpS_bind (wpS_modify (wpS_pure (tail _ _ b3.mod u3 (by omega) (by omega) _ rfl)))))
   ·obtain⟨b2,u2⟩:=rest y1 _ r1 su m1 (by omega)
    refine wpS_bind (wpS_get ?_)
    cases hb:(pendingOf y1).back? with
    | none=>exact wpS_bind (wpS_modify (wpS_pure (tail y1 _ b2 u2 m1 (by omega) _ rfl)))
    | some t =>
     obtain⟨s1,n1,p1⟩:=t
     show wpS _ _ _ _ (nM z.size _>>=_) _ _
     refine wpS_bind (mJ O b2 hl u2 fun y3 b3 u3=>?_)
     exact wpS_bind (wpS_modify (wpS_bind (wpS_modify (wpS_pure (tail _ _ b3.mod u3 m1 (by omega) _ rfl)))))
  ·rw [if_pos hlo]
   obtain rfl:lo=z.size:=by omega
   exact wpS_pure ⟨rfl,b⟩
 ·obtain⟨c1,lo⟩:=c
  obtain⟨e1,hl,hil,b⟩:=hy
  change c1=none at e1
  change lo≤z.size at hl
  change max 0 z.size≤lo at hil
  change Bt o f z lo y at b
  obtain rfl:lo=z.size:=by omega
  subst e1
  exact⟨rfl,b⟩
 ·obtain⟨rfl,b⟩:=hy
  have len:∀y',Bt o f z z.size y'→(pendingOf y').size≤z.size:=fun y' b'=>by
   have:=b'.cv.le
   unfold vx at this
   rw [List.length_map,Array.length_toList] at this
   omega
  refine wpS_bind (wpS_mono (wpS_forRange (I:=fun i c y=>c=(none,())∧Bt o f z z.size y∧((pendingOf y).size≤1∨(pendingOf y).size+i≤z.size)) (Q:=fun c y=>c=(none,())∧Bt o f z z.size y∧(pendingOf y).size≤1) (fun i c y _ _ hy=>?_) (fun c y hy=>?_) ⟨rfl,b,.inr (by have:=len y b;omega)⟩) fun c y hy=>?_)
  ·obtain⟨rfl,b1,hp⟩:=hy
   refine wpS_bind (wpS_get ?_)
   show wpS _ _ _ _ (if (pendingOf y).size≤1 then _ else _) _ _
   rcases Nat.lt_or_ge 1 (pendingOf y).size with h1|h1
   ·rw [if_neg (by omega)]
    have fin:∀k,k+1<(pendingOf y).size→∀{R:Bool→SortSt→Prop},(∀y2,Bt o f z z.size y2→(pendingOf y2).size+1=(pendingOf y).size→R true y2)→wpS (model prog w) A E s (mergeAt' k) R y:=fun k hk R hR=>MR O b1.gd b1.cv (Nat.le_refl _) hk fun y2 g2 c2 e2 _=>hR y2 ⟨g2,c2⟩ e2
    refine wpS_bind (fin _ ?_ fun y2 b2 e2=>wpS_pure ⟨rfl,b2,.inr (by omega)⟩)
    have hi:∀bb:Bool,(if bb=true then (pendingOf y).size - 2 - 1 else (pendingOf y).size - 2)+1<(pendingOf y).size:=fun bb=>by
     cases bb
     ·rw [if_neg Bool.false_ne_true];omega
     ·rw [if_pos rfl];omega
    exact hi _
   ·rw [if_pos h1]
    exact wpS_pure ⟨rfl,b1,h1⟩
  ·obtain⟨rfl,b1,hp⟩:=hy
   exact⟨rfl,b1,by omega⟩
  ·obtain⟨rfl,b1,hp⟩:=hy
   refine wpS_pure (q y b1.gd ?_)
   have cv:=b1.cv
   have hlen:(vx y).length≤1:=by unfold vx;rw [List.length_map,Array.length_toList];exact hp
   match hr:vx y,hlen with
   | [],_ =>
    rw [hr] at cv
    have:(0:Nat)=z.size:=cv
    omega
   | [(a,n)],_ =>
    rw [hr] at cv
    obtain⟨_,_,u,e⟩:=cv
    have e2:0+n=z.size:=e
    have e3:j6 (arrOf y) 0 n=(arrOf y).toList:=by
     unfold j6
     rw [List.drop_zero]
     exact List.take_of_length_le (by rw [Array.length_toList,b1.gd.sz];omega)
    rw [e3] at u
    exact u
end
end TS
namespace TS
open PySem PyProof.Rows L2
def zE (h:Heap) (d:Addr) (es:Array DictEntry) (ep:Nat):Prop:=∃ob,h.get? d=some ob∧ob.ExactDict∧ob.data=.dict es ep
theorem zE.typeIs {s:Shared}{d:Addr}{es:Array DictEntry}{ep:Nat} (x:zE s.heap d es ep):s.TypeIs (.ref d) "dict":=by
 obtain⟨ob,e,c,_⟩:=x
 exact⟨ob,e,c.1⟩
section
variable {prog:oM}{w:World}{A:Around}{E:oh}{s:Shared}{d t:Addr}{es:Array DictEntry}{ep i:Nat}
theorem be {Q:oh} (hd:(d==sysModules)=false) (x:zE s.heap d es ep)
  (q:Q (.ref s.heap.objs.size) { s with heap:=s.heap.push { cls:=.type "dict_keyiterator",data:=.fields #[.ref d,.int 0 0,.int es.size 0,.int ep 0] } }):wpAny (model prog w) A (pyIter (.ref d)) Q E s:=by
 have ty:=x.typeIs
 obtain⟨ob,e,c,dt⟩:=x
 refine wpAny_pyIter_slot ty F.slot_dict_iter (wpAny_call_entry F.slot_dict_iter ty F.entry_dict_iter (oN ?_) (F.args_dict_iter_1 _))
 refine oN (wpAny_notOrdered_dict ty ?_)
 show wpAny _ _ (pure (Value.ref d)) _ _ s
 refine oO ?_
 show wpAny _ _ (Builtin.Dict.showsAll d>>=_) _ _ s
 unfold Builtin.Dict.showsAll
 rw [if_neg (by rw [hd];decide)]
 refine oN (oO (oN (wpAny_dictEntries e dt (oN (wpAny_dictEpoch e dt ?_)))))
 exact oN (wpAny_newObj_type (oO ⟨_,rfl,"dict_keyiterator",_,⟨_,Heap.get?_push_size _ rfl,rfl⟩,F.slot_dict_keyiterator_next.lookup,q⟩))
theorem bo {Q:oo} (k:s.heap.IsKeyIter t d i es.size ep) (x:zE s.heap d es ep) (hi:i<es.size)
  (q:∀h',h'.IsKeyIter t d (i+1) es.size ep→Heap.SameBut t s.heap h'→Q (some es[i].key) { s with heap:=h' }):wpAny (model prog w) A (pyNext (.ref t)) Q E s:=by
 have ty:=k.typeIs
 obtain⟨oi,e,c,dt⟩:=id k
 obtain⟨ob,e2,_,dt2⟩:=x
 refine oN (wpAny_attempt (wpAny_callSpecial?_slot (name:=Str.ofString "__next__") ty F.slot_dict_keyiterator_next (wpAny_call_entry F.slot_dict_keyiterator_next ty F.entry_dict_keyiterator_next (oN (oO (oN (oN ?_)))) (F.args_dict_keyiterator_next_1 _))))
 refine oN (wpAny_typeNameOfWhole_keyiter ty (oO (oN (wpAny_fieldsOf e dt ?_))))
 rw [show Builtin.Dict_items.ownsTuple "dict_keyiterator"=false by decide]
 show wpAny _ _ (if (Value.ref d==Value.none)=true then _ else _) _ _ s
 rw [if_neg (fun z=>Bool.false_ne_true z)]
 refine oN (oO (oN (wpAny_dictEntries e2 dt2 ?_)))
 rw [if_neg (by simp)]
 refine oN (oO (oN (wpAny_dictEpoch e2 dt2 ?_)))
 rw [if_neg (by simp)]
 refine oO ?_
 simp only [show ¬((i:Int)<0) by omega,if_false,Int.toNat_natCast,Array.getElem?_eq_getElem hi]
 refine oN (oN (wpAny_typeNameOfWhole_keyiter ty (oO (oN (wpAny_isOneOf_keyiter ty ?_)))))
 show wpAny _ _ (setField (.ref t) 1 (rawInt ((i:Int)+1))>>=_) _ _ s
 refine oN (wpAny_setField e dt (by simp) ?_)
 have k2:(s.heap.update t (Obj.mapFields (·.setIfInBounds 1 (rawInt ((i:Int)+1))))).IsKeyIter t d (i+1) es.size ep:=⟨_,Heap.get?_update_self _ e (Obj.isFreed_of_fields (Obj.data_mapFields dt _)),(Obj.cls_mapFields ..).trans c,by rw [Obj.data_mapFields dt];simp [rawInt]⟩
 refine oN (wpAny_holding (oN (wpAny_isOneOf_keyiter (s:={ s with heap:=s.heap.update t (Obj.mapFields (·.setIfInBounds 1 (rawInt ((i:Int)+1)))) }) k2.typeIs ?_)))
 show wpAny _ _ (pure es[i].key) _ _ _
 exact oO (oO ⟨_,rfl,oO (q _ k2 (Heap.SameBut.update ..))⟩)
theorem bL {Q:oo} (hh:A.handled=none) (k:s.heap.IsKeyIter t d i es.size ep) (x:zE s.heap d es ep) (hi:es.size≤i)
  (q:∀h',Heap.ExtBut t s.heap h'→Q none { s with heap:=h' }):wpAny (model prog w) A (pyNext (.ref t)) Q E s:=by
 have ty:=k.typeIs
 obtain⟨oi,e,c,dt⟩:=id k
 obtain⟨ob,e2,_,dt2⟩:=x
 refine oN (wpAny_attempt (wpAny_callSpecial?_slot (name:=Str.ofString "__next__") ty F.slot_dict_keyiterator_next (wpAny_call_entry F.slot_dict_keyiterator_next ty F.entry_dict_keyiterator_next (oN (oO (oN (oN ?_)))) (F.args_dict_keyiterator_next_1 _))))
 refine oN (wpAny_typeNameOfWhole_keyiter ty (oO (oN (wpAny_fieldsOf e dt ?_))))
 rw [show Builtin.Dict_items.ownsTuple "dict_keyiterator"=false by decide]
 show wpAny _ _ (if (Value.ref d==Value.none)=true then _ else _) _ _ s
 rw [if_neg (fun z=>Bool.false_ne_true z)]
 refine oN (oO (oN (wpAny_dictEntries e2 dt2 ?_)))
 rw [if_neg (by simp)]
 refine oN (oO (oN (wpAny_dictEpoch e2 dt2 ?_)))
 rw [if_neg (by simp)]
 refine oO ?_
 simp only [show ¬((i:Int)<0) by omega,if_false,Int.toNat_natCast,Array.getElem?_eq_none hi]
 refine oN (oN (wpAny_typeNameOfWhole_keyiter ty (oO ?_)))
 show wpAny _ _ (setField (.ref t) 0 .none>>=_) _ _ s
 refine oN (wpAny_setField e dt (by simp) ?_)
 show wpAny _ _ (newExc (.type "StopIteration") []>>=_) _ _ _
 refine oN ?_
 simp only [newExc,newTuple]
 refine oN (wpAny_newObj_type (oN (m:=firstArgMember _ _) (wpAny_of_eq (a:=Value.none) (by simp only [firstArgMember];rfl) (wpAny_newObj_type ?_ (by size_fits)))) (by size_fits))
 simp only [raiseNew]
 refine oN (wpAny_handled ?_)
 rw [show A.in1.handled=none from hh]
 refine oN (oO (wpAny_throw ?_))
 exact oN (wpAny_isInstance (T:="StopIteration") (b:=true) ⟨_,Heap.get?_push_size _ rfl,rfl⟩ isSubtype_stop (oO (q _ (((Heap.SameBut.update ..).extBut.push _).push _))))
theorem zE.keep {h h':Heap} (x:zE h d es ep) (k:∀o,h.get? d=some o→h'.get? d=some o):zE h' d es ep:=by
 obtain⟨ob,e,c⟩:=x
 exact⟨ob,k _ e,c⟩
theorem dI (hd:(d==sysModules)=false):KdlSrc prog w "dict" d d es.size (fun i v=>∃hi:i<es.size,v=es[i].key) (fun h=>zE h d es ep) where
 type:=fun _ x=>x.typeIs
 there:=fun _ x=>by obtain⟨ob,e,_⟩:=x;exact⟨Heap.lt_size e,Heap.lt_size e⟩
 keep:=fun _ _ x k=>x.keep fun o e=>k d (.inl rfl) o e
 notList:=by decide
 notTuple:=by decide
 hint:=fun _ _ _ _ x q=>PySem.W.kdl_hint_dict x.typeIs q
 iter:=fun A s hh x=>by
  have hlt:d<s.heap.objs.size:=by obtain⟨ob,e,_⟩:=x;exact Heap.lt_size e
  refine⟨{ cls:=.type "dict_keyiterator",data:=.fields #[.ref d,.int 0 0,.int es.size 0,.int ep 0] },fun i h=>h.IsKeyIter s.heap.objs.size d i es.size ep∧zE h d es ep,fun E Q q=>be hd x q,?_,⟨_,Heap.get?_push_size _ rfl,rfl,rfl⟩,x.keep fun o e=>Heap.get?_push_of_some _ e⟩
  refine⟨fun b hb=>by simp at hb;simp [hb],fun i h h' st k=>⟨?_,st.2.keep fun o e=>k d (by simp) o e⟩,fun i s' Q E hi st q=>?_,fun s' Q E st q=>?_,fun i s' Q E st q=>wpAny_pyIter_keyiter st.1 q⟩
  ·obtain⟨ob,e,r⟩:=st.1
   exact⟨ob,k _ (by simp) ob e,r⟩
  ·refine bo st.1 st.2 hi fun h' k' sb=>q _ h' s'.toks ⟨hi,rfl⟩ ⟨k',st.2.keep fun o e=>sb.extBut d o (Nat.ne_of_lt hlt) e⟩ fun b o hb e=>sb.extBut b o (fun z=>hb (by simp [z])) e
  ·refine bL hh st.1 st.2 (Nat.le_refl _) fun h' eb=>q h' s'.toks fun b o hb e=>eb b o (fun z=>hb (by simp [z])) e
theorem dv {Q:oh} (hh:A.handled=none) (hd:(d==sysModules)=false) (x:zE s.heap d es ep) (hn:es.size≤sizeLine)
  (q:∀h' tk acc c,(∀b o,s.heap.get? b=some o→h'.get? b=some o)→h'.get? s.heap.objs.size=some { cls:=.type "list",dict:=none,data:=.seq acc c,slots:=#[] }→ItemsOf (fun i v=>∃hi:i<es.size,v=es[i].key) acc es.size→Q (.ref s.heap.objs.size) { s with heap:=h',toks:=tk }) :
  wpAny (model prog w) A (runValue (.builtin "proto.collect" ⟨[.ref d],[]⟩)) Q E s:=by
 have hlt:d<s.heap.objs.size:=by obtain⟨ob,e,_⟩:=x;exact Heap.lt_size e
 have ne:s.heap.objs.size≠d:=Nat.ne_of_gt hlt
 refine wpAny_runValue (codeAny_builtin F.entry_proto_collect ?_)
 rw [Around.under_plainId F.plain_proto_collect _]
 refine oN (m:=newList []) (wpAny_newObj_type (oO ⟨plainId_quiet F.plain_list_iadd _,codeAny_builtin F.entry_list_iadd ?_⟩))
 rw [Around.under_plainId F.plain_list_iadd _]
 have x2:zE (s.heap.push { cls:=.type "list",data:=.seq ([]:oA).toArray }) d es ep:=x.keep fun o e=>Heap.get?_push_of_some _ e
 exact PySem.W.kdl_extend (s:={ s with heap:=s.heap.push { cls:=.type "list",data:=.seq ([]:oA).toArray } }) (R:=fun r s'=>match r with|.ok (.ret v)=>Q v s'|.ok _=>False|.error e=>E e s') (dI (es:=es) (ep:=ep) hd) hh x2 _ ne ne (.ref s.heap.objs.size) 0 (Heap.get?_push_size _ rfl)
  (fun h' tk acc c kp e items=>q h' tk acc c (fun b o hb=>kp b o (Nat.ne_of_lt (Heap.lt_size hb)) (Heap.get?_push_of_some _ hb)) e items) hn
theorem Mh {Q:List Value→Shared→Prop} (hh:A.handled=none) (hd:(d==sysModules)=false) (x:zE s.heap d es ep) (hn:es.size≤sizeLine)
  (q:∀h' tk,(∀b o,s.heap.get? b=some o→h'.get? b=some o)→s.heap.objs.size<h'.objs.size→Q (es.toList.map (·.key)) { s with heap:=h',toks:=tk }):wpAny (model prog w) A (collect (.ref d)) Q E s:=by
 refine oN (dv hh hd x hn fun h' tk acc c kp e items=>?_)
 show wpAny _ A (load s.heap.objs.size>>=_) _ _ _
 refine oN (wpAny_load e (oO ?_))
 have ea:acc.toList=es.toList.map (·.key):=by
  apply List.ext_getElem?
  intro k
  rw [List.getElem?_map,Array.getElem?_toList,Array.getElem?_toList]
  rcases Nat.lt_or_ge k es.size with hk|hk
  ·have h1:k<acc.size:=by rw [items.1];exact hk
   rw [getElem?_pos es k hk,getElem?_pos acc k h1]
   obtain⟨_,e2⟩:=items.2 k acc[k] (getElem?_pos acc k h1)
   rw [e2];rfl
  ·rw [getElem?_neg es k (by omega),getElem?_neg acc k (by rw [items.1];omega)];rfl
 rw [ea]
 exact q h' tk kp (Heap.lt_size e)
end
end TS
namespace TS
open PySem PyProof.Rows L2
section
variable {prog:oM}{w:World}{A:Around}{E:oh}{s:Shared}
theorem TupAt.keep {h h':Heap}{v:Value}{ks:List L2.Key} (t:TupAt h v ks) (k:∀b o,h.get? b=some o→h'.get? b=some o):TupAt h' v ks:=by
 obtain⟨b,o2,us,n,rfl,e,r⟩:=t
 exact⟨b,o2,us,n,rfl,k _ _ e,r⟩
theorem fK {kc:Value→List L2.Key}{vs:oA}{y:oz} (pm:y.Perm (pairsOf vs)) (up:Up (kind kc) y.toList) :
  ∃out:List Value,(y.map (·.2))=out.toArray∧out.Perm vs∧out.Pairwise fun u v=>lx (kc v) (kc u)=false:=by
 have pl:y.toList.Perm (vs.zip vs):=pairsOf_toList vs▸Array.perm_iff_toList_perm.mp pm
 have hm:∀p∈y.toList,p.1=p.2:=fun p hp=>(mem_zip_self (pl.mem_iff.mp hp)).1
 refine⟨y.toList.map (·.2),by rw [←Array.toList_map,Array.toArray_toList],?_,?_⟩
 ·have:=pl.map Prod.snd
  rwa [List.map_snd_zip (Nat.le_refl _)] at this
 ·refine List.pairwise_map.mpr (up.imp_of_mem fun {p q} hp hq h=>?_)
  rw [←hm p hp,←hm q hq]
  exact h
theorem bA {α:Type}{R:α→α→Prop}{l:List α} (h:l.length<2):l.Pairwise R:=by
 cases l with
 | nil=>exact List.Pairwise.nil
 | cons v l =>
  cases l with
  | nil=>exact List.pairwise_singleton _ _
  | cons u l=>exact absurd h (by simp)
theorem bJ {a:Addr}{vs:oA}{n:Nat}{P:Fin→Shared→Prop}{kc:Value→List L2.Key}{d:List Bool} (ho:s.heap.get? a=some (seqObj "list" vs.toArray n)) (ht:∀v∈vs,TupAt s.heap v (kc v)) (hs:∀v∈vs,sd (kc v)=d) (hd:d≠[]) (hl:vs.length≤sizeLine)
  (q:∀out:List Value,out.Perm vs→(out.Pairwise fun u v=>lx (kc v) (kc u)=false)→P (.done (.ret .none)) { s with heap:=sortedHeap s.heap a vs out.toArray }):wpAny (model prog w) A (Builtin.«list.sort» ⟨[.ref a],[]⟩) P E s:=by
 rw [list_sort_plain]
 refine oN (listItems_at ho rfl (oN (listUpdate_at ho rfl ?_ (by rw [List.size_toArray];exact hl))))
 have g1:=get?_update_seq ho (fun _=>#[])
 refine oN (seqEpoch_at g1 rfl (oN (wpAny_newTuple (oN (wpAny_newList (wpAny_holding ?_))))))
 have g2:(((s.heap.update a (Obj.mapSeq fun _=>#[])).push (seqObj "tuple" vs.toArray 0)).push (seqObj "list" #[] 0)).get? a=_:=Heap.get?_push_of_some _ (Heap.get?_push_of_some _ g1)
 have ht2:∀v∈vs,TupAt (((s.heap.update a (Obj.mapSeq fun _=>#[])).push (seqObj "tuple" vs.toArray 0)).push (seqObj "list" #[] 0)) v (kc v):=fun v hv=>(((ht v hv).upd ho rfl).push _).push _
 have room:∀y:Array Keyed,y.Perm (pairsOf vs)→(y.map (·.2)).size≤sizeLine+1:=fun y hy=>by
  rw [Array.size_map,hy.size_eq,pairsOf_size];omega
 have fin:∀y:SortSt,(arrOf y).Perm (pairsOf vs)→Up (kind kc) (arrOf y).toList→P (.done (.ret .none)) { s with heap:=sortedHeap s.heap a vs ((arrOf y).map (·.2)) }:=fun y pm up=>by
  obtain⟨out,e,p,w⟩:=fK pm up
  rw [e];exact q out p w
 rcases Nat.lt_or_ge vs.length 2 with h2|h2
 ·rw [if_pos (by simpa using h2),if_pos (by simpa using h2)]
  refine oN (oO ?_)
  dsimp only
  rw [StateT.run_pure]
  refine oN (oO (oN (seqEpoch_at g2 rfl (oN (listUpdate_at g2 rfl ?_ (hsz2:=room _ (Array.Perm.refl _)))))))
  simp only [bne_self_eq_false,Bool.false_eq_true,if_false]
  refine oO (fin (SortSt.mk' general' (pairsOf vs) #[] 7 none) (Array.Perm.refl _) ?_)
  show Up _ (pairsOf vs).toList
  rw [pairsOf_toList]
  exact bA (by rw [List.length_zip,Nat.min_self];exact h2)
 ·rw [if_neg (by simpa using h2),if_neg (by simpa using h2)]
  refine oN (mC h2 ht2 hs hd ?_)
  refine oN (wpAny_mono (dA (o:=kind kc) (z:=pairsOf vs) (f:=true) (st:=SortSt.mk' (tuples' true) (vs.toArray.zip vs.toArray) #[] 7 none) (Q:=fun _ y=>Gd true (pairsOf vs) y∧Up (kind kc) (arrOf y).toList) (fJ ht2 hs true) ⟨Array.Perm.refl _,rfl,rfl⟩ rfl (by rw [pairsOf_size];exact h2) fun y p1 p2=>⟨p1,p2⟩) ?_ fun _ _ e=>e)
  rintro⟨⟨⟩,y⟩ s2 ⟨rfl,gd,up⟩
  refine oN (seqEpoch_at g2 rfl (oN (listUpdate_at g2 rfl ?_ (hsz2:=room _ gd.pm))))
  rw [gd.fl]
  simp only [bne_self_eq_false,Bool.false_eq_true,if_false]
  exact oO (fin y gd.pm up)
theorem KS {h:Heap}{a:Addr}{vs:oA}{n:Nat}{out:oH} (ho:h.get? a=some (seqObj "list" vs.toArray n)):∃c,(sortedHeap h a vs out).get? a=some (seqObj "list" out c)∧∀b o,b≠a→h.get? b=some o→(sortedHeap h a vs out).get? b=some o:=by
 have g1:=get?_update_seq ho (fun _=>#[])
 have g2:(((h.update a (Obj.mapSeq fun _=>#[])).push (seqObj "tuple" vs.toArray 0)).push (seqObj "list" #[] 0)).get? a=_:=Heap.get?_push_of_some _ (Heap.get?_push_of_some _ g1)
 have g3:=get?_update_seq g2 (fun _=>out)
 refine⟨_,g3,fun b o hb e=>?_⟩
 exact (Heap.get?_update_other _ _ (Ne.symm hb)).trans (Heap.get?_push_of_some _ (Heap.get?_push_of_some _ ((Heap.get?_update_other _ _ (Ne.symm hb)).trans e)))
theorem KD {x:Value}{vs:oA}{kc:Value→List L2.Key}{d:List Bool}{Q:oh} (hc:∀R:List Value→Shared→Prop,(∀h' tk,(∀b o,s.heap.get? b=some o→h'.get? b=some o)→s.heap.objs.size<h'.objs.size→R vs { s with heap:=h',toks:=tk })→wpAny (model prog w) A.in1 (collect x) R E s)
  (ht:∀v∈vs,TupAt s.heap v (kc v)) (hs:∀v∈vs,sd (kc v)=d) (hd:d≠[]) (hl:vs.length≤sizeLine)
  (q:∀(h':Heap) (tk c:Nat) (p:Addr) (out:oA),(∀b o,s.heap.get? b=some o→h'.get? b=some o)→s.heap.objs.size≤p→h'.get? p=some (seqObj "list" out.toArray c)→out.Perm vs→(out.Pairwise fun u v=>lx (kc v) (kc u)=false)→Q (.ref p) { s with heap:=h',toks:=tk }) :
  wpAny (model prog w) A (call (.builtin "sorted") [x]) Q E s:=by
 refine Calls.call_function_entry kind_sorted plain_sorted entry_sorted (args_sorted1 _) ?_
 refine oN (m:=checkCount "sorted" 1 1 _) (oO ?_)
 refine oN (hc _ fun h' tk kp lt=>?_)
 refine oN (wpAny_newList ?_)
 have e1:(h'.push (seqObj "list" vs.toArray 0)).get? h'.objs.size=some (seqObj "list" vs.toArray 0):=Heap.get?_push_size _ rfl
 have kp2:∀b o,s.heap.get? b=some o→(h'.push (seqObj "list" vs.toArray 0)).get? b=some o:=fun b o e=>Heap.get?_push_of_some _ (kp b o e)
 refine oN (wpAny_holding (wpAny_call_entry slot_list_sort ⟨_,e1,rfl⟩ entry_list_sort (bJ e1 (fun v hv=>(ht v hv).keep kp2) hs hd hl fun out pm up=>⟨_,rfl,oO ⟨_,rfl,?_⟩⟩) (args_list_sort _)))
 obtain⟨c,g1,g2⟩:=KS (out:=out.toArray) e1
 exact q _ tk c _ out (fun b o e=>g2 b o (Nat.ne_of_lt (Nat.lt_trans (Heap.lt_size e) lt)) (kp2 b o e)) (Nat.le_of_lt lt) g1 pm up
end
end TS
namespace L2
open PySem PyProof.Rows TS
def M4:V→Key|.int n=>.inl n|.str x=>.inr x|_=>.inl 0
theorem ij (k:Key):M4 (kV k)=k:=by cases k<;>rfl
def Jv (H:Hp) (bs:oB) (ks:List (List Key)):Prop:=bs.length=ks.length∧∀(i:Nat) (b:Addr) (k:List Key),bs[i]?=some b→ks[i]?=some k→H b=some (.tup (k.map kV))
def vb (H:Hp):Value→List Key
 | .ref b=>match H b with|some (.tup ys)=>ys.map M4|_=>[]
 | _=>[]
theorem vO {H:Hp}{b:Addr}{k:List Key} (e:H b=some (.tup (k.map kV))):vb H (.ref b)=k:=by
 show (match H b with|some (.tup ys)=>ys.map M4|_=>[])=k
 rw [e]
 show (k.map kV).map M4=k
 rw [List.map_map]
 exact (List.map_congr_left fun x _=>ij x).trans (List.map_id _)
theorem mB:∀{ks:List Key} {us:oA},jE (ks.map kV) us→Vl ks us
 | [],_,h=>by rw [List.map_nil] at h;cases h;exact .nil
 | k::ks,_,h=>by
  rw [List.map_cons] at h
  cases h with
  | cons r t =>
   refine .cons ?_ (mB t)
   cases k with
   | inl n=>exact r
   | inr x=>exact r
theorem GA {P:oM}{w:World}{H:Hp}{h:Heap}{b:Addr}{k:List Key} (ok:JJ P w H h) (e:H b=some (.tup (k.map kV))):TS.TupAt h (.ref b) k:=by
 obtain⟨_,its,r,o,h1,h2,n,h3⟩:=(show j0 P w H h b (.tup (k.map kV)) from ok b _ e)
 exact⟨b,o,its,n,rfl,h1,h2,h3,mB r⟩
def zc:Value→Addr|.ref b=>b|_=>0
theorem mE {H:Hp}{vs out:oA}{ks:List (List Key)} (hv:∀v∈vs,∃(b:Addr) (k:List Key),v=.ref b∧H b=some (.tup (k.map kV))) (hk:vs.map (vb H)=ks) (pm:out.Perm vs) (up:out.Pairwise fun u v=>lx (vb H v) (vb H u)=false) :
  jE ((out.map zc).map V.ref) out∧Jv H (out.map zc) (out.map (vb H))∧(out.map (vb H)).Perm ks∧(out.map (vb H)).Pairwise fun a b=>lx b a=false:=by
 have ho:∀v∈out,∃(b:Addr) (k:List Key),v=.ref b∧H b=some (.tup (k.map kV)):=fun v h=>hv v (pm.mem_iff.mp h)
 refine⟨?_,⟨by rw [List.length_map,List.length_map],fun i b k h1 h2=>?_⟩,hk▸pm.map _,List.pairwise_map.mpr up⟩
 ·clear pm up hk
  induction out with
  | nil=>exact .nil
  | cons v r ih =>
   obtain⟨b,k,rfl,_⟩:=ho v (List.mem_cons_self ..)
   exact .cons rfl (ih fun u hu=>ho u (List.mem_cons_of_mem _ hu))
 ·rw [List.getElem?_map] at h1 h2
  obtain⟨v,e1,rfl⟩:=Option.map_eq_some_iff.mp h1
  rw [e1] at h2
  cases h2
  obtain⟨b,k,rfl,e⟩:=ho v (List.mem_of_getElem? e1)
  rw [vO e]
  exact e
theorem ki {α β:Type}{F:α→β→Prop}:∀{l:List α} {m:List β} {y:β},Paired F l m→y∈m→∃x∈l,F x y
 | _,_,_,.nil,h=>by cases h
 | _,_,y,.cons r t,h=>by
  rcases List.mem_cons.mp h with rfl|h
  ·exact⟨_,List.mem_cons_self ..,r⟩
  ·obtain⟨x,hx,hf⟩:=ki t h
   exact⟨x,List.mem_cons_of_mem _ hx,hf⟩
theorem kh {α β γ:Type}{F:α→β→Prop}{g:α→γ}{g':β→γ}:∀{l:List α} {m:List β},Paired F l m→(∀x y,F x y→g' y=g x)→l.map g=m.map g'
 | _,_,.nil,_=>rfl
 | _,_,.cons r t,h=>by rw [List.map_cons,List.map_cons,h _ _ r,kh t h]
section
variable {X:Cx}
theorem ZI (hc:X.calm=true):uN X (.builtin "sorted") (fun xs H Q=>∃p kvs d,xs=[.ref p]∧H p=some (.dT kvs)∧(∀kv∈kvs,sd kv.1=d)∧d≠[] ∧
  ∀l bs ks,H l=none→Jv H bs ks→ks.Perm (kvs.map (·.1))→(ks.Pairwise fun a b=>lx b a=false)→Q (.ref l) (upd H l (.lst (bs.map V.ref)))):=by
 intro pins s σ H xs us Q I r h
 obtain⟨p,kvs,d,rfl,e,hs,hd,q⟩:=h
 obtain⟨u,rfl,ru⟩:=vS r
 cases ru
 obtain⟨hl,hm,ys,kt,ob,es,ep,h1,h2,h3,h4,h5,h6⟩:=ci I.hok e
 have hv:∀v∈es.toList.map (·.key),∃(b:Addr) (k:List Key),v=.ref b∧H b=some (.tup (k.map kV))∧k∈kvs.map (·.1):=fun v hv=>by
  rw [h4,List.map_map] at hv
  obtain⟨y,hy,rfl⟩:=List.mem_map.mp hv
  obtain⟨x,hx,e2,e3,_⟩:=ki kt hy
  exact⟨y.2.1,x.1,rfl,e3,List.mem_map.mpr ⟨x,hx,rfl⟩⟩
 have hk:(es.toList.map (·.key)).map (vb H)=kvs.map (·.1):=by
  rw [h4,List.map_map,List.map_map]
  exact (kh kt fun x y hxy=>vO hxy.2.1).symm
 have hks:∀v∈es.toList.map (·.key),sd (vb H v)=d:=fun v hv'=>by
  obtain⟨b,k,rfl,e1,hm⟩:=hv v hv'
  obtain⟨kv,h7,rfl⟩:=List.mem_map.mp hm
  rw [vO e1]
  exact hs kv h7
 have hlen:es.size=kvs.length:=by
  have:=congrArg List.length h4
  rw [Array.length_toList,List.length_map] at this
  rw [this,Paired.length kt]
 refine KD (kc:=vb H) (fun R hR=>Mh (A:=X.A.in1) (I.ok.hd hc) hm ⟨ob,h1,h2,h3⟩ (by rw [hlen];exact hl) hR) (fun v hv'=>?_) hks hd (by rw [List.length_map,Array.length_toList,hlen];exact hl) fun h' tk c p' out kp hp e' pm up=>?_
 ·obtain⟨b,k,rfl,e1,_⟩:=hv v hv'
  rw [vO e1]
  exact GA I.hok e1
 ·obtain⟨rv,ka,pm2,up2⟩:=mE (fun v h=>by obtain⟨b,k,e1,e2,_⟩:=hv v h;exact⟨b,k,e1,e2⟩) hk pm up
  refine⟨.ref p',_,I.laid (t':=tk) (o:=.lst ((out.map zc).map V.ref)) kp hp ⟨?_,out,c,rv,e'⟩,rfl,q p' _ _ (I.hok.fresh hp) ka pm2 up2⟩
  rw [List.length_map,List.length_map,pm.length_eq,List.length_map,Array.length_toList,hlen]
  exact hl
end
end L2
namespace L2
open PySem PySem.Spec PyProof.Rows
def ia (C:Addr) (sp:Sp) (E:St→XK) (t:TA):TE:=fun σ H Q=>t σ H fun vs H1=>∀x dx,H1 x=none→H1 dx=none→dx≠x→sp (.ref x::vs) (upd (upd H1 dx (.own x)) x (.ins C dx [])) (fun v H2=>v=.non∧Q (.ref x) H2) (E σ)
section
variable {X:Cx}{k:Nat}{x m:Str}{C:Addr}{ps:oG}{sp:Sp}{E:St→XK}{p pos apos:Pos}{e o:Expr}{es:oI}{ta:TE}{t:TA}
theorem am (G:M6 X.prog X.w X.K X.mg X.base k x C ps sp) (hr:Vn (k+1) X.A) (hx:M9 X E) (hg:Gl X x) (ha:PA X (e::es) t)
  (hdb:(x==("__debug__":Str))=false:=by decide) (he:starEach (e::es) X.env=(false,eval e X.env)::starEach es X.env:=by rfl) (hpl:(backTo pos (starEach es X.env)).any (·.1)=false:=by rfl) :
  PE X (.Call (.Name x p) (e::es) [] pos) (ia C sp E t):=by
 obtain⟨f,fd,M,F,hb,mgx⟩:=G.ex
 intro pins s0 σ H0 Q I0 h0
 refine wpAny_Call_Name_kw (VD I0 hg mgx ?_ hdb)
 refine callWith_K (h₀:=X.base) I0.ok.mod.kin M.kp (jC (ha pos pins s0 σ H0 _ I0 h0) fun us s ⟨vs,H,I,r,h⟩=>⟨I.kIn,?_⟩) he hpl
 have hq:=h (s.heap.objs.size+1) s.heap.objs.size (I.hok.fresh (Nat.le_succ _)) (I.hok.fresh (Nat.le_refl _)) (Nat.ne_of_lt (Nat.lt_succ_self _))
 have I2:=ji.made (C:=C) I
 have r2:jE (V.ref (s.heap.objs.size+1)::vs) (Value.ref (s.heap.objs.size+1)::us):=.cons rfl r
 have hl:(Value.ref (s.heap.objs.size+1)::us++[]).length=ps.length:=by
  have e:=r2.length
  rw [F.len _ _ _ _ hq] at e
  rw [List.append_nil]
  exact e.symm
 have hb':=hb _ (Value.ref (s.heap.objs.size+1)::us) I2.kIn hl
 rw [List.append_nil] at hb'
 refine wpAny_call (mK (f:=f) I.kIn M.makes M.init (beq_iff_eq.mp M.fn) (codeAny_mono (F.run _ X.stack _ _ ⟨Value.ref (s.heap.objs.size+1)::us,[]⟩ (Value.ref (s.heap.objs.size+1)::us) _ _ (E σ) (hr.make C us [])
  (I2.env0.make C us []) hb' r2 hq) fun r s' hq'=>?_))
 cases r with
 | error e=>exact hx pins σ _ _ e s' I2 hq'
 | ok fl =>
  cases fl with
  | ret u =>
   obtain⟨v,H',I3,rv,ev,q3⟩:=I2.after hq'
   subst ev
   exact⟨rv,⟨V.ref (s.heap.objs.size+1),H',I3,rfl,q3⟩⟩
  | next=>exact False.elim hq'
  | brk=>exact False.elim hq'
  | cont=>exact False.elim hq'
end
end L2
namespace L2
open PySem PySem.Spec PyProof.Rows TS
section
variable {X:Cx}
theorem Vo:uN X (.builtin "sorted") (fun xs H Q=>∃p bs ks d,xs=[.ref p]∧H p=some (.lst (bs.map V.ref))∧Jv H bs ks∧(∀k∈ks,sd k=d)∧d≠[] ∧
  ∀l bs' ks',H l=none→Jv H bs' ks'→ks'.Perm ks→(ks'.Pairwise fun a b=>lx b a=false)→Q (.ref l) (upd H l (.lst (bs'.map V.ref)))):=by
 intro pins s σ H xs us Q I r h
 obtain⟨p,bs,ks,d,rfl,e,ka,hs,hd,q⟩:=h
 obtain⟨u,rfl,ru⟩:=vS r
 cases ru
 obtain⟨its,rv,pl,hz⟩:=I.list (jl.of e)
 obtain rfl:=uP rv
 have hv:∀v∈bs.map Value.ref,∃(b:Addr) (k:List Key),v=.ref b∧H b=some (.tup (k.map kV))∧k∈ks:=fun v hv=>by
  obtain⟨b,hb,rfl⟩:=List.mem_map.mp hv
  obtain⟨i,hi,eb⟩:=List.getElem_of_mem hb
  have Vh:i<ks.length:=by rw [←ka.1];exact hi
  exact⟨b,ks[i],rfl,ka.2 i b ks[i] (by rw [List.getElem?_eq_getElem hi,eb]) (List.getElem?_eq_getElem Vh),List.getElem_mem Vh⟩
 have hk:(bs.map Value.ref).map (vb H)=ks:=by
  refine List.ext_getElem (by rw [List.length_map,List.length_map,ka.1]) fun i h1 h2=>?_
  rw [List.getElem_map,List.getElem_map]
  have hb:i<bs.length:=by simpa using h1
  exact vO (ka.2 i bs[i] ks[i] (List.getElem?_eq_getElem hb) (List.getElem?_eq_getElem h2))
 have hks:∀v∈bs.map Value.ref,sd (vb H v)=d:=fun v hv'=>by
  obtain⟨b,k,rfl,e1,hm⟩:=hv v hv'
  rw [vO e1]
  exact hs k hm
 have hlen:(bs.map Value.ref).length≤sizeLine:=by
  have:=hz
  simpa using this
 refine KD (kc:=vb H) (fun R hR=>collect_list (A:=X.A.in1) pl.isList (hR _ s.toks (fun b o e=>?_) ?_) hlen) (fun v hv'=>?_) hks hd hlen fun h' tk c p' out kp hp e' pm up=>?_
 ·exact (Heap.get?_update_other _ _ (Nat.ne_of_gt (Heap.lt_size e))).trans (Heap.get?_push_of_some _ e)
 ·show s.heap.objs.size<((s.heap.push _).update _ _).objs.size
  simp [Heap.update,Heap.push]
 ·obtain⟨b,k,rfl,e1,_⟩:=hv v hv'
  rw [vO e1]
  exact GA I.hok e1
 ·obtain⟨rv,ka,pm2,up2⟩:=mE (fun v h=>by obtain⟨b,k,e1,e2,_⟩:=hv v h;exact⟨b,k,e1,e2⟩) hk pm up
  refine⟨.ref p',_,I.laid (t':=tk) (o:=.lst ((out.map zc).map V.ref)) kp hp ⟨?_,out,c,rv,e'⟩,rfl,q p' _ _ (I.hok.fresh hp) ka pm2 up2⟩
  rw [List.length_map,List.length_map,pm.length_eq]
  exact hlen
open Classical in
end
end L2
namespace L2
open PySem PySem.Spec PyProof.Rows
theorem GP {X:Cx}{scope:Scope}{N:oG}{n1 n2:Str}{a1 a2:Addr} (hN:X.N=N) (hk:scope.kind=.function) (hcl:closureFor scope X.env=pure [(n1,a1),(n2,a2)]) (s1:X.env.cells.lookup n1=some a1) (s2:X.env.cells.lookup n2=some a2)
  (o1:X.env.kindOf n1=some .cell) (o2:X.env.kindOf n2=some .cell)
  (h1:(scope.names.all fun y=>y.2 != .cell&&(y.2 != .free||(y.1==n1||y.1==n2)))=true) (h2:(scope.names.all fun y=>y.2 != .local||scope.names.lookup y.1==some .local)=true)
  (h3:(N.all fun x=>scope.names.lookup x != some .local)=true):vA X scope [(n1,a1),(n2,a2)] where
 clos:=hcl
 kind:=hk
 nocell:=fun y hy=>by
  have:=List.all_eq_true.mp h1 y hy
  simp only [Bool.and_eq_true,bne_iff_ne] at this
  exact this.1
 names:=fun y hy e=>by
  have:=List.all_eq_true.mp h2 y hy
  rw [e] at this
  simpa using this
 sub:=fun x c e=>by
  rw [List.lookup_cons] at e
  split at e
  ·rename_i q
   obtain rfl:x=n1:=by simpa using q
   cases e;exact s1
  ·rw [List.lookup_cons] at e
   split at e
   ·rename_i q
    obtain rfl:x=n2:=by simpa using q
    cases e;exact s2
   ·cases e
 has:=fun x e=>by
  have:=List.all_eq_true.mp h1 _ (Jk e)
  simp only [Bool.and_eq_true,Bool.or_eq_true,bne_iff_ne,ne_eq,beq_iff_eq] at this
  simp only [List.lookup_cons]
  by_cases q1:x=n1
  ·exact⟨a1,by simp [q1]⟩
  ·by_cases q2:x=n2
   ·subst q2;exact⟨a2,by rw [show (x==n1)=false by simpa using q1];simp⟩
   ·rcases this.2 with z|z|z
    ·exact absurd trivial z
    ·exact absurd z q1
    ·exact absurd z q2
 apart:=fun x hx=>by
  have:=List.all_eq_true.mp h3 x (hN▸hx)
  simpa using this
 outer:=fun x e=>by
  have:=List.all_eq_true.mp h1 _ (Jk e)
  simp only [Bool.and_eq_true,Bool.or_eq_true,bne_iff_ne,ne_eq,beq_iff_eq] at this
  rcases this.2 with z|z|z
  ·exact absurd trivial z
  ·exact .inl (z▸o1)
  ·exact .inl (z▸o2)
theorem VL {lo:Int}{n:Nat}{g:TG}{tc:TT}{te:TE}{k:Nat}{σ:St}{H:Hp}{Q:VK} (Pv:Addr→Nat→List V→Hp→Prop) (hn:n≤sizeLine)
  (h0:∀D,H D=none→Pv D 0 [] (upd H D (.lst []))) (hD:∀D i ys H',Pv D i ys H'→H' D=some (.lst ys)∧ys.length≤i)
  (step:∀D i ys H' (Qy:VK) (Qn:Hp→Prop),i<n→Pv D i ys H'→(∀y H4,H4 D=some (.lst ys)→Pv D (i+1) (ys++[y]) (upd H4 D (.lst (ys++[y])))→Qy y H4)→(∀H4,Pv D (i+1) ys H4→Qn H4) →
   g (.int (lo+i)) (σ++List.replicate k none) H' fun σ2 H2=>(∃zs,σ2=σ++zs∧zs.length=k)∧tc σ2 H2 fun b H3=>if b=true then te σ2 H3 Qy else Qn H3)
  (q:∀D ys H',H D=none→Pv D n ys H'→Q (.ref D) H'):gj k g tc te σ Q (Ke lo n) H:=by
 intro D hDn
 refine⟨fun i m ys H'=>m=n - i∧i≤n∧Pv D i ys H',⟨n,by simp,Nat.zero_le _,h0 D hDn⟩,?_⟩
 rintro i m ys H' ⟨rfl,hi,p⟩
 obtain⟨e,hl⟩:=hD D i ys H' p
 refine⟨e,?_⟩
 by_cases hlt:i<n
 ·refine .inr ⟨hlt,by omega,fun x H2 y=>?_⟩
  obtain⟨rfl,rfl⟩:=y
  exact step D i ys H2 _ _ hlt p (fun y H4 e4 p4=>⟨e4,n - (i+1),by omega,rfl,hlt,p4⟩) fun H4 p4=>⟨n - (i+1),by omega,rfl,hlt,p4⟩
 ·obtain rfl:i=n:=by omega
  exact .inl ⟨Nat.le_refl _,q D ys H' hDn p⟩
end L2
namespace L2
open PySem PySem.Spec PyProof.Rows TS
section
variable {X:Cx}{pins:oy}{σ:St}{H:Hp}{s:Shared}
theorem Kx (hu:X.A.units<cLine):Us X (compareOp .Eq) (fun x y H Q=>∃a b xs,x=.ref a∧y=.ref b∧jl X.K H a xs∧jl X.K H b []∧Q (.bl xs.isEmpty) H):=by
 intro pins s σ H x y v u Q I rx ry h
 obtain⟨a,b,xs,rfl,rfl,ha,hb,q⟩:=h
 cases rx
 cases ry
 obtain⟨its,rv,p,_⟩:=I.list ha
 obtain⟨jts,rw',p',_⟩:=I.list hb
 cases rw'
 cases rv with
 | nil=>exact EqBoolInt.of_rc (SeqAt.RcAt.lists (e:=fun _=>true) p.isList p'.isList rfl hu (fun j h1=>absurd h1 (by simp))) ⟨.bl true,H,I,rfl,q⟩
 | cons r t=>exact EqBoolInt.of_rc (SeqAt.RcAt.lists_lengths p.isList p'.isList (by simp) hu) ⟨.bl false,H,I,rfl,q⟩
open Classical in
end
end L2
namespace STb
open PySem PySem.Spec PyProof.Rows L2 SetTable
section
variable {P:oM}{w:World}{A:Around}{E:oh}{s:Shared}
abbrev Zc (led:Bool):Obj:={ cls:=.type "set",dict:=none,data:=.set #[] 0 (.fresh 0 0 led) }
theorem kG (a:Value) {Q₁:oh}
  (h:Q₁ (.ref s.heap.objs.size) { s with heap:=s.heap.push (Zc (!w.params.followText "set-order")) }) :
  codeAny (model P w) A (.call (.builtin "set.__new__") ⟨[.type "set",a],[]⟩) (wants Q₁ E) s:=by
 refine codeAny_of_tree ?_
 show wpAny _ A.in1 (do checkBuiltinCall "set.__new__" ⟨[.type "set",a],[]⟩;again (.builtin "set.__new__" ⟨[.type "set",a],[]⟩)) _ _ s
 refine oN (wpAny_of_eq (PySem.F.newCall_set_1 a) (oO ⟨plainId_quiet PySem.F.plain_set_new _,codeAny_builtin PySem.F.entry_set_new ?_⟩))
 rw [Around.under_plainId PySem.F.plain_set_new _]
 unfold Builtin.«set.__new__» Builtin.Frozenset.newClass
 have hsub:=sub_set_self
 obtain⟨hp,g,d,tk,os⟩:=s
 dsimp only
 wp_walk
 refine wpAny_askSetting (oO ?_)
 dsimp only
 simp only [newObj]
 refine oN (wpAny_alloc (oO ?_))
 exact oO h
end
end STb
namespace L2
open PySem PySem.Spec PyProof.Rows
def zY (c:Addr) (qual:Str):HO:=.ext fun h=>h.CodeRec (.ref c) qual
def Gm (f:Addr) (qual:Str) (params:Arguments) (body:Expr) (scope:Scope) (cl:oC) (c:Addr):HO :=
 .ext fun h=>∃pm ct,h.get? f=some (kla_obj "<lambda>" qual params body scope cl pm c ct)
def Kh (H:Hp) (P:Addr) (pos:Pos) (qual:Str):Prop :=
 ∃ps,H P=some (.tbl ps)∧TriplesOk ps.toList∧(codeAmong pos ps.toList=none∨∃c,codeAmong pos ps.toList=some (.ref c)∧H c=some (zY c qual))
def kC (P:Addr) (H H':Hp):Prop:=∀b u,b≠P→H b=some u→H' b=some u
def Sm (H H':Hp):Prop:=(∀b u,(∀ps,u≠.tbl ps)→H b=some u→H' b=some u)∧∀b ps,H b=some (.tbl ps)→∃ps',H' b=some (.tbl ps')
theorem kC.sm {P:Addr}{H H':Hp}{ps ps':oH} (a:kC P H H') (h:H P=some (.tbl ps)) (h':H' P=some (.tbl ps')):Sm H H' :=
 ⟨fun b u n e=>a b u (fun z=>by rw [z,h] at e;exact n _ (Option.some.inj e).symm) e,fun b qs e=>by
  by_cases z:b=P
  ·exact⟨ps',z▸h'⟩
  ·exact⟨qs,a b _ z e⟩⟩
theorem Kh.same {P:Addr}{H H':Hp}{pos:Pos}{qual:Str} (t:Kh H P pos qual) (a:Same H H'):Kh H' P pos qual:=by
 obtain⟨qs,e,tr,k⟩:=t
 refine⟨qs,a _ _ e,tr,?_⟩
 rcases k with k|⟨c,k,hc⟩
 ·exact .inl k
 ·exact .inr ⟨c,k,a _ _ hc⟩
def zX (mg:ox) (base:Heap):Prop :=
 ∃bm ob,mg "__builtins__"=some (.ref bm)∧bm≠builtinsNs∧base.get? bm=some ob∧ob.cls=.type "module"∧ob.dict=some builtinsNs∧ob.data=.plain
def lJ (P:Addr) (qual:Str) (params:Arguments) (body:Expr) (scope:Scope) (cl:oC) (pos:Pos):TE:=fun _ H Q =>
 Kh H P pos qual∧∀c f H',kC P H H'→Kh H' P pos qual→H f=none→H' f=some (Gm f qual params body scope cl c)→H' c=some (zY c qual)→Q (.ref f) H'
section
variable {X:Cx}{params:Arguments}{body:Expr}{scope:Scope}{pos:Pos}{cl:oC}{c0 P:Addr}
theorem aW {Pr:oM}{w:World}{H:Hp}{h:Heap}{c:Addr}{qual:Str} (r:h.CodeRec (.ref c) qual):j0 Pr w H h c (zY c qual):=by
 obtain⟨c',o,vs,t,e,g,r'⟩:=id r
 cases e
 refine⟨r,⟨o,g⟩,fun h1 h2 z k=>?_⟩
 obtain⟨c',o,vs,t,e,g,r'⟩:=z
 cases e
 exact⟨_,o,vs,t,rfl,k _ g,r'⟩
theorem MQ {Pr:oM}{w:World}{H:Hp}{h:Heap}{f c:Addr}{qual:Str}{pm ct:Value} (e:h.get? f=some (kla_obj "<lambda>" qual params body scope cl pm c ct)):j0 Pr w H h f (Gm f qual params body scope cl c) :=
 ⟨⟨pm,ct,e⟩,⟨_,e⟩,fun h1 h2 ⟨pm,ct,z⟩ k=>⟨pm,ct,k _ z⟩⟩
theorem fN (hdef:defaultsOf params X.env=([],[])) (hcl:closureFor scope X.env=pure cl) (hcode:X.env.code=.ref c0) (C:codeHdIn X.K c0 P=true) (hB:zX X.mg X.base) :
  PE X (.Lambda params body scope pos) (lJ P (X.env.qual++"<lambda>") params body scope cl pos):=by
 intro pins s σ H Q I h
 obtain⟨⟨ps,hP,ht,hcase⟩,q⟩:=h
 refine PySem.W.kla_eval hdef ?_
 have hg:s.heap.Ns mainGlobals X.mg:=I.mod.glob.keeps I.bk
 have CH:CodeHd s.heap c0 P:=codeHd_of_K I.kIn C
 have hPo:s.heap.get? P=some (tabObj ps):=I.hok P _ hP
 have inb:∀b o,X.base.get? b=some o→b≠P:=fun b o e z=>by
  have:=(I.bs b o e).2
  rw [z,hP] at this;cases this
 obtain⟨bm,ob,b1,b2,b3,b4,b5,b6⟩:=hB
 have hgP:mainGlobals≠P:=by
  obtain⟨o,es,ep,e,_⟩:=I.mod.glob
  exact inb _ _ e
 have hne:bm≠mainGlobals:=fun z=>by
  obtain⟨o,es,ep,e,hd,_⟩:=I.mod.glob
  rw [z,e] at b3;cases b3;rw [hd] at b6;cases b6
 have hb:s.heap.BuiltinsAt X.mg P:=⟨bm,ob,b1,b2,hne,inb _ _ b3,I.bk _ _ b3,b4,b5,b6⟩
 rcases hcase with hnf|⟨c,hf,hc⟩
 ·refine PySem.W.kla_makeFunction (mg:=X.mg) hcl I.ok.glob hg hcode CH hPo ht hnf hgP hb fun c ctv h' tk hx hge hlt hrec htb=>?_
  have hfn:H h'.objs.size=none:=I.hok.fresh (Nat.le_trans hge (Nat.le_of_lt hlt))
  have hcn:H c=none:=I.hok.fresh hge
  have ncP:c≠P:=fun z=>by rw [z,hP] at hcn;cases hcn
  have nfP:h'.objs.size≠P:=fun z=>by rw [z,hP] at hfn;cases hfn
  have nfc:h'.objs.size≠c:=Nat.ne_of_gt hlt
  generalize hps:ps++#[rawInt pos.line,rawInt pos.col,.ref c]=ps2 at htb
  generalize hH:upd (upd (upd H P (.tbl ps2)) c (zY c (X.env.qual++"<lambda>"))) h'.objs.size (Gm h'.objs.size (X.env.qual++"<lambda>") params body scope cl c)=H2
  have e1:H2 h'.objs.size=some (Gm h'.objs.size (X.env.qual++"<lambda>") params body scope cl c):=by rw [←hH,jd]
  have e2:H2 c=some (zY c (X.env.qual++"<lambda>")):=by rw [←hH,jj (Ne.symm nfc),jd]
  have e3:H2 P=some (.tbl ps2):=by rw [←hH,jj (Ne.symm nfP),jj (Ne.symm ncP),jd]
  have e4:∀b,b≠P→b≠c→b≠h'.objs.size→H2 b=H b:=fun b n1 n2 n3=>by rw [←hH,jj n3,jj n2,jj n1]
  have off:kC P H H2:=fun b u n e=>by rw [e4 b n (jp e hcn) (jp e hfn)];exact e
  have kp:∀b o,b≠P→s.heap.get? b=some o→(h'.push (kla_obj "<lambda>" (X.env.qual++"<lambda>") params body scope cl ((X.mg "__name__").getD .none) c ctv)).get? b=some o:=fun b o n e=>Heap.get?_push_of_some _ (hx b o n e)
  have low:∀b o,s.heap.get? b=some o→b≠c∧b≠h'.objs.size:=fun b o e=>⟨Nat.ne_of_lt (Nat.lt_of_lt_of_le (Heap.lt_size e) hge),Nat.ne_of_lt (Nat.lt_trans (Nat.lt_of_lt_of_le (Heap.lt_size e) hge) hlt)⟩
  have un:Un X.fs [] H H2 s.heap (h'.push (kla_obj "<lambda>" (X.env.qual++"<lambda>") params body scope cl ((X.mg "__name__").getD .none) c ctv)):=by
   refine⟨fun b o e n _ _=>kp b o (fun z=>by rw [z,hP] at n;cases n) e,fun b o e n _ _=>⟨o.slots,kp b o (fun z=>by rw [z,hP] at n;cases n) e⟩,fun b o e n _=>?_,fun b o e _=>?_,fun b xs e=>off b _ (fun z=>by rw [z,hP] at e;cases e) e,fun b o u e=>off b _ (fun z=>by rw [z,hP] at e;cases e) e,fun b qs e=>?_⟩
   ·rw [e4 b (fun z=>by rw [z,hP] at n;cases n) (low b o e).1 (low b o e).2];exact n
   ·by_cases z:b=P
    ·exact⟨_,Heap.get?_push_of_some _ (z▸htb)⟩
    ·exact⟨o,kp b o z e⟩
   ·by_cases z:b=P
    ·rw [z,hP] at e;cases e
     exact⟨#[rawInt pos.line,rawInt pos.col,.ref c],by rw [z,e3,hps]⟩
    ·exact⟨#[],by rw [off b _ z e];simp⟩
  have hok:JJ X.prog X.w H2 (h'.push (kla_obj "<lambda>" (X.env.qual++"<lambda>") params body scope cl ((X.mg "__name__").getD .none) c ctv)):=fun b o e=>by
   by_cases z1:b=h'.objs.size
   ·subst z1
    rw [e1] at e;cases e
    exact MQ (Heap.get?_push_size _ rfl)
   ·by_cases z2:b=c
    ·subst z2
     rw [e2] at e;cases e
     exact aW (hrec.push _)
    ·by_cases z3:b=P
     ·subst z3
      rw [e3] at e;cases e
      exact (show _=_ from Heap.get?_push_of_some _ htb)
     ·rw [e4 b z3 z2 z1] at e
      refine (I.hok b o e).stay (fun d u hd g=>kp d u (fun z=>?_) g) (fun d g=>off d _ (fun z=>by rw [z,hP] at g;cases g) g) fun d xs g=>off d _ (fun z=>by rw [z,hP] at g;cases g) g
      rcases hd with w1|w1
      ·exact z3 (w1▸z)
      ·rw [z,hP] at w1;cases w1
  refine⟨.ref h'.objs.size,H2,I.un un hok,rfl,q c _ H2 off ⟨ps2,e3,?_,.inr ⟨c,?_,e2⟩⟩ hfn e1 e2⟩
  ·rw [←hps]
   have:(ps++#[rawInt pos.line,rawInt pos.col,Value.ref c]).toList=ps.toList++[rawInt pos.line,rawInt pos.col,.ref c]:=by simp
   rw [this];exact TriplesOk_snoc _ _ _ _ ht
  ·rw [←hps]
   have:(ps++#[rawInt pos.line,rawInt pos.col,Value.ref c]).toList=ps.toList++[rawInt pos.line,rawInt pos.col,.ref c]:=by simp
   rw [this];exact codeAmong_snoc _ ht hnf
 ·refine PySem.W.kla_makeFunctionHit (mg:=X.mg) hcl I.ok.glob hg hcode CH hPo ht hf hb fun ctv h' tk hk hsz=>?_
  have hfn:H h'.objs.size=none:=I.hok.fresh hsz
  have nf:∀{b:Addr} {u:HO},H b=some u→b≠h'.objs.size:=fun e=>jp e hfn
  have J:=I.laid (a:=h'.objs.size) (o:=Gm h'.objs.size (X.env.qual++"<lambda>") params body scope cl c) (t':=tk) (h':=h'.push (kla_obj "<lambda>" (X.env.qual++"<lambda>") params body scope cl ((X.mg "__name__").getD .none) c ctv))
   (fun b u e=>Heap.get?_push_of_some _ (hk b u e)) hsz (MQ (Heap.get?_push_size _ rfl))
  refine⟨.ref h'.objs.size,_,J,rfl,q c _ _ (fun b u _ e=>by rw [jj (nf e)];exact e) ⟨ps,by rw [jj (nf hP)];exact hP,ht,.inr ⟨c,hf,by rw [jj (nf hc)];exact hc⟩⟩ hfn jd (by rw [jj (nf hc)];exact hc)⟩
end
end L2
namespace L2
open PySem PySem.Spec PyProof.Rows
abbrev dR (c:Addr) (o:Obj):HO:=.frz o (.ext fun h=>h.get? c=some o)
def il (o:Obj) (v:V):Prop:=∃u,jL v u∧o.data=.cell (some u)
def i6 (H:Hp) (c:Addr) (v:V):Prop:=∃o,H c=some (dR c o)∧il o v
section
variable {X:Cx}{k:Nat}{f C:Addr}{fd:FuncData}{ps:oG}{sp:Sp}{x m:Str}{p pos apos:Pos}{e o:Expr}{es:oI}{ta:TE}{t:TA}{i:Nat}{y:Str}{c:Addr}
def Calls (P:oM) (w:World) (K:oq) (mg:ox) (base:Heap) (k:Nat) (f:Addr) (sp:Sp):Prop :=
 ∀(A:Around) (outer:List Env) (s:Shared) (H:Hp) (us:oA) (vs:List V) (Q:VK),Vn k A→zB P w K mg base A outer s H→jE vs us→sp vs H Q (fun _ _ _=>False) →
  codeAny (model P w) A (.call (.ref f) ⟨us,[]⟩) (CR (XC P w) outer P w H s Q (fun _ _ _=>False)) s
end
def zp (H:Hp) (cl:oC):Hp:=fun b=>if b∈cl.map (·.2) then none else H b
def kW (H H':Hp) (cl:oC):Hp:=fun b=>if b∈cl.map (·.2) then H b else H' b
theorem U7 {H:Hp}{cl:oC}{b:Addr} (n:b ∉ cl.map (·.2)):zp H cl b=H b:=if_neg n
theorem Ka {H:Hp}{cl:oC}{b:Addr} (n:b∈cl.map (·.2)):zp H cl b=none:=if_pos n
theorem VH {H H':Hp}{cl:oC}{b:Addr} (n:b ∉ cl.map (·.2)):kW H H' cl b=H' b:=if_neg n
theorem MY {H H':Hp}{cl:oC}{b:Addr} (n:b∈cl.map (·.2)):kW H H' cl b=H b:=if_pos n
structure K8 (N ps:oG) (scope:Scope) (cl:oC):Prop where
 kind:scope.kind=.function
 co:scope.isCoroutine=false
 gen:scope.isGenerator=false
 nocell:∀y∈scope.names,y.2≠.cell
 nd:ps.Nodup
 N:N=ps++cl.map (·.1)
 par:∀x∈ps,scope.names.lookup x=some .local
 fre:∀q∈cl,scope.names.lookup q.1=some .free∧cl.lookup q.1=some q.2
 has:∀x,scope.names.lookup x=some .free→∃c,cl.lookup x=some c
 inj:∀x y c,cl.lookup x=some c→cl.lookup y=some c→x=y
theorem NW {ps:oG}{scope:Scope} (h1:scope.kind=.function) (h2:scope.isCoroutine=false) (h3:scope.isGenerator=false) (h4:(scope.names.all fun y=>y.2 != .cell&&y.2 != .free)=true) (h5:ps.Nodup)
  (h6:(ps.all fun x=>scope.names.lookup x==some .local)=true):K8 ps ps scope [] :=
 ⟨h1,h2,h3,fun y hy=>by
   have:=List.all_eq_true.mp h4 y hy
   simp only [Bool.and_eq_true,bne_iff_ne] at this
   exact this.1,h5,by simp,fun x hx=>by simpa using List.all_eq_true.mp h6 x hx,fun q hq=>absurd hq (by simp),fun x e=>by
   have:=List.all_eq_true.mp h4 _ (Jk e)
   simp at this,fun x y c e=>by simp at e⟩
def eC (P:oM) (w:World) (K:oq) (mg:ox) (base:Heap) (N:oG) (qual:Str) (scope:Scope) (f c:Addr) (cl:oC) (A:Around) (outer:List Env) (s:Shared) (H:Hp):Cx where
 prog:=P
 w:=w
 K:=K
 mg:=mg
 base:=base
 A:=A.deeper (envX qual scope s.heap.objs.size f (.ref c) cl)
 N:=N
 s₀:=s
 H₀:=H
 env:=envX qual scope s.heap.objs.size f (.ref c) cl
 outer:=outer
 stack:=envX qual scope s.heap.objs.size f (.ref c) cl::outer
 ex:=[]
 calm:=true
 fn:=fun _=>false
 pn:=[]
 xe:=fun _ _=>False
theorem zW {x:Str}{u:Value}:∀{ps:oG} {us:oA} {i:Nat},ps.Nodup→ps[i]?=some x→us[i]?=some u→(ps.zip us).reverse.lookup x=some u
 | [],_,_,_,h,_=>by simp at h
 | _::_,[],_,_,_,h=>by simp at h
 | p::ps,v::us,0,nd,h1,h2=>by
  simp at h1 h2;subst h1;subst h2
  have:(ps.zip us).reverse.lookup p=none:=by
   cases e:(ps.zip us).reverse.lookup p with
   | none=>rfl
   | some w=>exact absurd (List.of_mem_zip (List.mem_reverse.mp (Jk e))).1 (List.nodup_cons.mp nd).1
  rw [List.zip_cons_cons,List.reverse_cons,List.lookup_append,this];simp
 | p::ps,v::us,i+1,nd,h1,h2=>by
  have:=zW (ps:=ps) (us:=us) (i:=i) (List.nodup_cons.mp nd).2 (by simpa using h1) (by simpa using h2)
  rw [List.zip_cons_cons,List.reverse_cons,List.lookup_append,this];simp
theorem V5 {α β:Type}{F:α→β→Prop}:∀{l₁:List α} {l₂:List β} {i:Nat} {a:α},Paired F l₁ l₂→l₁[i]?=some a→∃b,l₂[i]?=some b∧F a b
 | _,_,_,_,.nil,e=>by simp at e
 | _,_,0,_,.cons r _,e=>by simp at e;subst e;exact⟨_,rfl,r⟩
 | _,_,i+1,a,.cons _ t,e=>by
  obtain⟨u,h1,h2⟩:=V5 (i:=i) (a:=a) t (by simpa using e)
  exact⟨u,by simpa using h1,h2⟩
section
variable {P:oM}{w:World}{K:oq}{mg:ox}{base:Heap}{N ps:oG}{qual:Str}{params:Arguments}{body:Expr}{scope:Scope}{cl:oC}{cvs:List V}{f c:Addr}{k:Nat}
 {A:Around} {outer:List Env} {s:Shared} {H:Hp} {us:oA} {vs:List V} {Q:VK} {E:XK}
theorem bi (S:K8 N ps scope cl) (hb:∀(pm ct:Value) (us:oA),us.length=ps.length→bindArgs (kla_fn "<lambda>" qual params body scope cl pm (.ref c) ct) ⟨us,[]⟩=pure (ps.zip us))
  (hr:Vn (k+1) A) (e0:zB P w K mg base A outer s H) (r:jE vs us) (hl:vs.length=ps.length) (hf:H f=some (Gm f qual params body scope cl c)) (hc:H c=some (zY c qual))
  (hcs:Paired (fun (p:Str×Addr) v=>i6 H p.2 v) cl cvs)
  (hbody:Vn k (A.deeper (envX qual scope s.heap.objs.size f (.ref c) cl))→∃te,PE (eC P w K mg base N qual scope f c cl A outer s (zp H cl)) body te ∧
   te (vs.map some++cvs.map some) (zp H cl) (fun r H'=>(∀p∈cl,H' p.2=none)→Q r (kW H H' cl))) :
  codeAny (model P w) A (.call (.ref f) ⟨us,[]⟩) (CR (XC P w) outer P w H s Q E) s:=by
 obtain⟨⟨pm,ct,ho⟩,_⟩:=e0.hok f _ hf
 have hcd:s.heap.CodeRec (.ref c) qual:=(e0.hok c _ hc).1
 have lim:s.heap.NoLimit:=e0.mod.nolimit.keeps fun b o e=>(e0.bs b o e).1
 have frz:∀b∈cl.map (·.2),∃ob u,H b=some (dR b ob)∧s.heap.get? b=some ob∧ob.data=.cell (some u):=fun b hb=>by
  obtain⟨p,hp,rfl⟩:=List.mem_map.mp hb
  obtain⟨i,hi,e⟩:=List.getElem_of_mem hp
  obtain⟨v,_,ob,e1,u,_,e2⟩:=V5 (i:=i) (a:=p) hcs (by rw [List.getElem?_eq_getElem hi,e])
  exact⟨ob,u,e1,(e0.hok _ _ e1).1,e2⟩
 have nin:∀{b:Addr},H b=none→b ∉ cl.map (·.2):=fun n hb=>by
  obtain⟨_,_,e,_⟩:=frz _ hb
  rw [n] at e;cases e
 have nin2:∀{b:Addr} {u:HO},H b=some u→(∀o z,u≠.frz o z)→b ∉ cl.map (·.2):=fun e n hb=>by
  obtain⟨_,_,e',_⟩:=frz _ hb
  rw [e] at e';exact n _ _ (Option.some.inj e')
 have e1:zB P w K mg base A outer s (zp H cl):=by
  refine⟨e0.frames,e0.mod,fun b o e=>⟨(e0.bs b o e).1,?_⟩,e0.bsz,e0.funs,fun b hb=>?_,fun b o e=>?_,e0.bare,.inl (hr.hd rfl)⟩
  ·have n:=(e0.bs b o e).2
   rw [U7 (nin n)];exact n
  ·have n:=e0.frf b hb
   rw [U7 (nin n)];exact n
  ·by_cases z:b∈cl.map (·.2)
   ·rw [Ka z] at e;cases e
   ·rw [U7 z] at e
    exact (e0.hok b o e).stay (fun _ _ _ q=>q) (fun d g=>by rw [U7 (nin2 g (by intro o u z;cases z))];exact g) fun d xs g=>by rw [U7 (nin2 g (by intro o u z;cases z))];exact g
 have hlu:us.length=ps.length:=by rw [←r.length];exact hl
 refine PySem.W.kla_callFunE hr.depth ho rfl S.co S.gen rfl hcd ?_
 rw [hb pm ct us hlu]
 refine oO (wpAny_newFunctionEnv S.nocell (fun y hy=>S.par _ (List.of_mem_zip hy).1) (fun h₁ hns hsb=>⟨lim.fresh _ hsb,?_⟩) S.kind)
 have hk₁:∀b o,s.heap.get? b=some o→h₁.get? b=some o:=fun b o e=>hsb.extBut b o (Nat.ne_of_lt (Heap.lt_size e)) (Heap.get?_push_of_some _ e)
 obtain⟨te,ht,hq⟩:=hbody (hr.deeper _)
 have hcl:∀x d,cl.lookup x=some d→d∈cl.map (·.2):=fun x d e=>List.mem_map.mpr ⟨_,Jk e,rfl⟩
 have kof:∀x,(envX qual scope s.heap.objs.size f (.ref c) cl).kindOf x=scope.names.lookup x:=fun _=>rfl
 have I:ji (eC P w K mg base N qual scope f c cl A outer s (zp H cl)) [] (vs.map some++cvs.map some) (zp H cl) { s with heap:=h₁,toks:=s.toks+(ps.zip us).length }:=by
  have noA:∀b:Addr,b ∉ (eC P w K mg base N qual scope f c cl A outer s (zp H cl)).ex:=fun b z=>absurd (show b∈([]:oB) from z) (by simp)
  refine⟨⟨e1.mod,S.kind,rfl,rfl,Nat.le_refl _,S.inj,fun x hx=>S.has x ?_,fun x d z=>(by cases z),fun _=>hr.hd rfl,Around.frames_deeper e1.frames,.inr ⟨rfl,rfl⟩,fun b z=>absurd z (noA b),e1.bs,e1.bsz,fun b _ _=>noA b,fun b z=>absurd z (noA b),e1.funs,e1.frf⟩,
   rfl,e1.bare,Un.kept hk₁,⟨_,hns,fun i x v h1 h2 h3=>?_⟩,fun x d e=>?_,e1.hok.fresh (Nat.le_refl _),fun x d e=>Ka (hcl x d e),fun p hp=>absurd (show p∈([]:oy) from hp) (by simp),e1.hok.kept hk₁,?_,e1.hn⟩
  ·rcases hx with z|z
   ·exact absurd rfl (S.nocell _ (Jk (show scope.names.lookup x=some .cell from z)))
   ·exact z
  ·have h1':(ps++cl.map (·.1))[i]?=some x:=by rw [←S.N];exact h1
   by_cases hi:i<vs.length
   ·rw [List.getElem?_append_left (by rw [List.length_map];exact hi),List.getElem?_map] at h2
    cases ev:vs[i]? with
    | none=>rw [ev] at h2;cases h2
    | some v' =>
     rw [ev] at h2;cases h2
     obtain⟨u,hu,rv⟩:=r.get ev
     rw [List.getElem?_append_left (by omega)] at h1'
     exact⟨u,rv,.inl ⟨S.par x (List.mem_of_getElem? h1'),zW S.nd h1' hu⟩⟩
   ·rw [List.getElem?_append_right (by rw [List.length_map];omega),List.getElem?_map,List.length_map] at h2
    rw [List.getElem?_append_right (by omega),List.getElem?_map,←hl] at h1'
    obtain⟨p,ep,rfl⟩:=Option.map_eq_some_iff.mp h1'
    obtain⟨v',ev,ob,g1,u,g2,g3⟩:=V5 hcs ep
    rw [ev] at h2;cases h2
    obtain⟨k1,k2⟩:=S.fre p (List.mem_of_getElem? ep)
    exact⟨u,g2,.inr ⟨.inr k1,p.2,k2,ob,hk₁ _ _ (e0.hok _ _ g1).1,g3⟩⟩
  ·obtain⟨ob,u,_,g,d2⟩:=frz d (hcl x d e)
   exact⟨_,ob,hk₁ _ _ g,d2⟩
  ·show (vs.map some++cvs.map some).length=N.length
   have lc:cl.length=cvs.length:=Paired.length hcs
   rw [S.N,List.length_append,List.length_append,List.length_map,List.length_map,List.length_map,hl,lc]
 refine PySem.W.kla_codeExpr (wpAny_mono (ht [] _ _ _ _ I hq) (fun u s' hs=>?_) fun _ _ z=>z.elim)
 obtain⟨v,H',J,rv,q⟩:=hs
 have jc:∀b∈cl.map (·.2),H' b=none:=fun b hb=>by
  obtain⟨p,hp,rfl⟩:=List.mem_map.mp hb
  exact J.freeC p.1 p.2 (S.fre p hp).2
 have jb:Un (uy outer) [] (zp H cl) H' s.heap s'.heap:=J.base
 have nj:∀{b:Addr} {u:HO},H' b=some u→b ∉ cl.map (·.2):=fun e hb=>by rw [jc _ hb] at e;cases e
 refine⟨v,kW H H' cl,J.os,J.bare,?_,fun b o e=>?_,rv,q fun p hp=>jc _ (List.mem_map_of_mem hp)⟩
 ·refine⟨fun b o e n hb hx=>jb.keep b o e (by rw [U7 (nin n)];exact n) hb hx,fun b o e n hb hx=>jb.slot b o e (by rw [U7 (nin n)];exact n) hb hx,fun b o e n hx=>?_,fun b o e hx=>jb.there b o e hx,fun b xs e=>?_,fun b o z e=>?_,fun b qs e=>?_⟩
  ·rw [VH (nin n)];exact jb.free b o e (by rw [U7 (nin n)];exact n) hx
  ·have n:=nin2 e (by intro o u z;cases z)
   rw [VH n];exact jb.tups b xs (by rw [U7 n];exact e)
  ·by_cases n:b∈cl.map (·.2)
   ·rw [MY n];exact e
   ·rw [VH n];exact jb.frzs b o z (by rw [U7 n];exact e)
  ·have n:=nin2 e (by intro o u z;cases z)
   rw [VH n];exact jb.tbls b qs (by rw [U7 n];exact e)
 ·by_cases n:b∈cl.map (·.2)
  ·rw [MY n] at e
   obtain⟨ob,u,g1,g2,g3⟩:=frz b n
   rw [g1] at e;cases e
   have g4:s'.heap.get? b=some ob:=jb.keep b ob g2 (Ka n) (fun z=>by rw [e0.frf b z] at g1;cases g1) (by simp)
   exact⟨g4,g4,⟨_,g4⟩,fun h1 h2 a k=>k _ a⟩
  ·rw [VH n] at e
   exact (J.hok b o e).stay (fun _ _ _ g=>g) (fun d g=>by rw [VH (nj g)];exact g) fun d xs g=>by rw [VH (nj g)];exact g
end
end L2
namespace L2
open PySem PySem.Spec PyProof.Rows
structure kB (K:oq) (x qual:Str) (st:Stmt) (f:Addr) (fd:FuncData) (c P:Addr):Prop where
 ex:∃(oc:Value) (od:oK) (kV doc pm:Value) (an:oK) (ct:Value) (osl:oF),
  fd=fnOf x qual (jO st) (jF st) (jo st) .none kV doc pm an (.ref c) ct∧K.lookup f=some ⟨oc,od,.func fd,osl⟩∧codeIn K (.ref c) qual=true
 kp:keepIn K (.ref f)=true
 hd:codeHdIn K c P=true
section
variable {P:oM}{w:World}{K:oq}{mg:ox}{base:Heap}{N ps:oG}{x qual:Str}{st:Stmt}{f c Pl:Addr}{fd:FuncData}
theorem kB.okX {k:Nat}{sp:Sp}{cm:Bool} (F:kB K x qual st f fd c Pl) (S:jR N ps (jo st)) (len:∀vs H Q E,sp vs H Q E→vs.length=ps.length)
  (hbody:∀(A:Around) (outer:List Env) (s:Shared) (H:Hp) (vs:List V) (Q:VK) (E:XK),Js cm k (A.deeper (envOfC qual (jo st) s.heap.objs.size f (.ref c)))→sp vs H Q E →
   ∃t,zb (Kp P w K mg base N qual (jo st) f (.ref c) A outer s H E cm) (jF st) t∧t { nx:=fun _ H'=>Q .non H',rt:=Q } (V6 N vs) H):vB P w K mg base (XC P w) (k+1) f fd ps sp cm:=by
 obtain⟨oc,od,kV,doc,pm,an,ct,osl,rfl,lk,hcd⟩:=F.ex
 exact cj lk hcd S len fun A outer s H vs Q E hr hsp=>hbody A outer s H vs Q E hr hsp
theorem kB.binds (F:kB K x qual st f fd c Pl)
  (h:∀(kV doc pm:Value) (an:oK) (cdv ct:Value) (us:oA),us.length=ps.length→bindArgs (fnOf x qual (jO st) (jF st) (jo st) .none kV doc pm an cdv ct) ⟨us,[]⟩=pure (ps.zip us)):jU K fd ps []:=by
 obtain⟨oc,od,kV,doc,pm,an,ct,osl,rfl,lk,hcd⟩:=F.ex
 exact .all (h kV doc pm an _ ct)
theorem MN {oc:Value}{od an:oK}{osl:oF}{kV doc pm ct:Value} (l:K.lookup f=some ⟨oc,od,.func (fnOf x qual (jO st) (jF st) (jo st) .none kV doc pm an (.ref c) ct),osl⟩)
  (h:codeIn K (.ref c) qual=true) (k:keepIn K (.ref f)=true) (d:codeHdIn K c Pl=true):kB K x qual st f (fnOf x qual (jO st) (jF st) (jo st) .none kV doc pm an (.ref c) ct) c Pl:=⟨⟨oc,od,kV,doc,pm,an,ct,osl,rfl,l,h⟩,k,d⟩
end
theorem NX {P:oM}{w:World}{K:oq}{mg mb:ox}{k:Nat}{fa a:Addr}{fd:FuncData}{x:Str}{sp:Sp}{s₁:Shared}{vs:oA}{ns:List Int}{tabs:oB}
  (KX:K.In s₁.heap) (hns:s₁.heap.Ns mainGlobals mg) (hb:s₁.heap.Ns builtinsNs mb) (hbb:∀x:Str,x≠"__name__"→mb x=bootBuiltins x) (hlim:s₁.heap.NoLimit) (hg:s₁.gens=#[]) (hBM:zX mg s₁.heap)
  (hT:∀p∈tabs,isCodeTable s₁.heap p∧s₁.heap.get? p=some (tabObj #[])∧K.lookup p=none)
  (ha:s₁.heap.get? a=some { cls:=.type "list",data:=.seq vs.toArray }) (hi:IntsAre vs ns) (hl:ns.length≤sizeLine) (hr:Vn k callerA)
  (F:∀base:Heap,K.In base→base.Ns mainGlobals mg→zX mg base→vB P w K mg base (XC P w) k fa fd [x] sp) (hbind:∀(s:Shared) (u:Value),BindsTo s fd ⟨[u],[]⟩ [(x,u)])
  (hsp:∀H:Hp,jl K H a (ns.map V.int)→(∀p∈tabs,H p=some (.tbl #[]))→sp [.ref a] H (fun v _=>v=.bl true) fun _ _ _=>False) :
  codeAny (model P w) callerA (.call (.ref fa) ⟨[.ref a],[]⟩) (fun r s'=>r=.ok (.ret (.bool true))∧OldK s₁.heap s'.heap∧s'.os=s₁.os∧AllBare s'.gens) s₁:=by
 have rv:=KH hi
 have lenV:=hi.length
 have core:∀H:Hp,jl K H a (ns.map V.int)→JJ P w H s₁.heap→(∀b u,H b=some u→(b∈tabs∧u=.tbl #[])∨(b=a∧K.lookup a=none∧∃o xs,u=.frz o (.lst xs)))→(∀p∈tabs,H p=some (.tbl #[])) →
   codeAny (model P w) callerA (.call (.ref fa) ⟨[.ref a],[]⟩) (fun r s'=>r=.ok (.ret (.bool true))∧OldK s₁.heap s'.heap∧s'.os=s₁.os∧AllBare s'.gens) s₁:=by
  intro H hS hok hA hTb
  have base_of:∀{b:Addr} {o:Obj},s₁.heap.get? b=some o→H b=none→(zD s₁.heap H).get? b=some o:=fun e n=>bd e n
  have noA:∀{b:Addr} {o:Obj},s₁.heap.get? b=some o→(∀qs,o.data≠.fields qs)→(∀xs n,o.data≠.seq xs n)→H b=none:=fun {b o} e d1 d2=>by
   cases q:H b with
   | none=>rfl
   | some u =>
    rcases hA b u q with ⟨z,_⟩|⟨z,_⟩
    ·rw [(hT b z).2.1] at e;cases e;exact absurd rfl (d1 _)
    ·subst z;rw [ha] at e;cases e;exact absurd rfl (d2 _ _)
  have nsK:∀{b:Addr} {m:ox},s₁.heap.Ns b m→(zD s₁.heap H).Ns b m:=fun {b m} ⟨o,es,ep,e,d,r⟩=>⟨o,es,ep,base_of e (noA e (fun qs z=>by rw [d] at z;cases z) fun xs n z=>by rw [d] at z;cases z),d,r⟩
  have hKb:K.In (zD s₁.heap H):=fun b o e=>base_of (KX b o e) (by
   cases q:H b with
   | none=>rfl
   | some u =>
    rcases hA b u q with ⟨z,_⟩|⟨z,z2,_⟩
    ·rw [(hT b z).2.2] at e;cases e
    ·subst z;rw [z2] at e;cases e)
  have hBb:zX mg (zD s₁.heap H):=by
   obtain⟨bm,ob,b1,b2,b3,b4,b5,b6⟩:=hBM
   exact⟨bm,ob,b1,b2,base_of b3 (noA b3 (fun qs z=>by rw [b6] at z;cases z) fun xs n z=>by rw [b6] at z;cases z),b4,b5,b6⟩
  have hM:Mod K mg (zD s₁.heap H):=⟨hKb,nsK hns,⟨mb,nsK hb,hbb⟩,let ⟨mc,h1,h2⟩:=hlim;⟨mc,nsK h1,h2⟩⟩
  have e0:zB P w K mg (zD s₁.heap H) callerA [] s₁ H:=⟨rfl,hM,fun b o e=>cZ e,Nat.le_of_eq (NM _ _),trivial,fun b hb=>absurd (show b∈([]:oB) from hb) (by simp),hok,.of_eq hg,.inl rfl⟩
  refine codeAny_mono ((F _ hKb (nsK hns) hBb).run callerA [] s₁ H ⟨[.ref a],[]⟩ [.ref a] [.ref a] _ _ hr e0 (hbind s₁ (.ref a)) (.cons rfl .nil) (hsp H hS hTb)) fun r s' h=>?_
  cases r with
  | error e =>
   obtain⟨_,_,_,_,_,_,_,_,_,z⟩:=h
   exact z.elim
  | ok fl =>
   cases fl with
   | next=>exact False.elim h
   | brk=>exact False.elim h
   | cont=>exact False.elim h
   | ret u =>
    obtain⟨v,H',os,bare,un,hok',r',q⟩:=h
    have q':v=.bl true:=q
    subst q'
    obtain rfl:u=Value.bool true:=r'
    refine⟨rfl,⟨fun b o e=>?_,fun b o e=>un.there b o e (by simp)⟩,os,bare⟩
    cases q:H b with
    | none=>exact .inl (un.keep b o e q (by intro z;exact absurd (show b∈([]:oB) from z) (by simp)) (by simp))
    | some u =>
     rcases hA b u q with ⟨z,rfl⟩|⟨z,_,ob,xs,rfl⟩
     ·obtain⟨more,z2⟩:=un.tbls b _ q
      have z3:s'.heap.get? b=some (tabObj (#[]++more)):=hok' b _ z2
      rw [(hT b z).2.1] at e;cases e
      exact .inr (.inl ⟨(hT b z).1,rfl,#[],more,rfl,z3⟩)
     ·have z2:=un.frzs b ob _ q
      obtain⟨e1,_⟩:=hok b _ q
      obtain⟨e2,_⟩:=hok' b _ z2
      rw [e] at e1;cases e1
      exact .inl e2
 have at':a ∉ tabs:=fun z=>by
  have:=(hT a z).2.1
  rw [ha] at this;cases this
 cases hk:K.lookup a with
 | some o =>
  have e:=KX a o hk
  rw [ha] at e
  cases e
  refine core (fun b=>if b∈tabs then some (.tbl #[]) else none) (.inr ⟨_,vs.toArray,_,hk,rfl,rfl,rfl,by rw [List.size_toArray,lenV];exact hl,by simpa using rv⟩) (fun b u z=>?_) (fun b u z=>?_) fun p hp=>if_pos hp
  ·by_cases hb:b∈tabs
   ·have z':=(if_pos hb).symm.trans z
    cases z'
    exact (hT b hb).2.1
   ·have z':=(if_neg hb).symm.trans z
    cases z'
  ·by_cases hb:b∈tabs
   ·have z':=(if_pos hb).symm.trans z
    cases z'
    exact .inl ⟨hb,rfl⟩
   ·have z':=(if_neg hb).symm.trans z
    cases z'
 | none =>
  have eH:∀b,b≠a→(fun b=>if b=a then some (HO.frz { cls:=.type "list",data:=.seq vs.toArray } (.lst (ns.map V.int))) else if b∈tabs then some (HO.tbl #[]) else none) b=if b∈tabs then some (HO.tbl #[]) else none:=fun b n=>if_neg n
  refine core (fun b=>if b=a then some (.frz { cls:=.type "list",data:=.seq vs.toArray } (.lst (ns.map V.int))) else if b∈tabs then some (.tbl #[]) else none) (.inl (.inr ⟨{ cls:=.type "list",data:=.seq vs.toArray },if_pos rfl⟩)) (fun b u z=>?_) (fun b u z=>?_) fun p hp=>?_
  ·by_cases hb:b=a
   ·have z':=(if_pos hb).symm.trans z
    cases z'
    subst hb
    exact⟨ha,by rw [List.length_map];exact hl,vs,_,rv,ha⟩
   ·replace z:=(eH b hb).symm.trans z
    by_cases hb2:b∈tabs
    ·rw [if_pos hb2] at z;cases z
     exact (hT b hb2).2.1
    ·rw [if_neg hb2] at z;cases z
  ·by_cases hb:b=a
   ·have z':=(if_pos hb).symm.trans z
    cases z'
    exact .inr ⟨hb,hk,_,_,rfl⟩
   ·replace z:=(eH b hb).symm.trans z
    by_cases hb2:b∈tabs
    ·rw [if_pos hb2] at z;cases z
     exact .inl ⟨hb2,rfl⟩
    ·rw [if_neg hb2] at z;cases z
  ·have n:p≠a:=fun z=>at' (z▸hp)
   exact (eH p n).trans (if_pos hp)
theorem walk_ofT {l:PySem.W.OpenLaw}{n k:Nat}{q:oM}{loose:oG}{XP:(Str→Option Value)→Heap→Prop}{YP:World→Heap→Prop}{d:DefRec}{K:Params→Frag}{sp:Frag→List Addr→Sp}{x:Str}
  (hn:l.most=some n) (hn2:n≤sizeLine) (hdf:d.params.defaults=[]) (hr:Vn k callerA)
  (hY:∀(w:World) (h:Heap),YP w h→(K w.params).In h)
  (F:∀(w:World) (mg:ox) (fa:Addr) (h:Heap),YP w h→(K w.params).In h→h.Ns mainGlobals mg→mg d.name=some (.ref fa) →
   ∃(fd:FuncData) (tabs:oB),(∀(s:Shared) (u:Value),BindsTo s fd ⟨[u],[]⟩ [(x,u)])∧(∀p∈tabs,isCodeTable h p∧h.get? p=some (tabObj #[])∧(K w.params).lookup p=none) ∧
    ∀base:Heap,(K w.params).In base→base.Ns mainGlobals mg→zX mg base→vB l.prog w (K w.params) mg base (XC l.prog w) k fa fd [x] (sp (K w.params) tabs))
  (hsp:∀(K:oq) (tabs:oB) (H:Hp) (a:Addr) (ns:List Int),ns.length≤n→jl K H a (ns.map V.int)→(∀p∈tabs,H p=some (.tbl #[]))→sp K tabs [.ref a] H (fun v _=>v=.bl true) fun _ _ _=>False) :
  PySem.W.WalkO q loose XP YP l.row.toRowW d [] (fun f vs=>PySem.call f vs):=by
 refine Att.attach_call hn hdf fun w s₀ s₁ mg mb fa o pm cd doc a vs ns G Y ho hd hcd hmg hobj hints hlen hg=>?_
 have KX:=hY w _ Y
 obtain⟨fd,tabs,hb,hT,hF⟩:=F w mg fa _ Y KX G.T.g hmg
 exact NX KX G.T.g G.T.b G.T.builtins G.T.nolimit hg G.T.bmain hT hobj hints (Nat.le_trans hlen hn2) hr hF hb (fun H hS hTb=>hsp _ tabs H a ns hlen hS hTb)
end L2
namespace L2
open PySem PySem.Spec PyProof.Rows
section
variable {X:Cx}{k:Nat}{x:Str}{p pos:Pos}{e:Expr}{es:oI}{ta:TE}{t:TA}
theorem dg {K:oq}{es:oI}{j:Nat}{t:Kg}{n:Nat} (hK:X.K=K) (hc:X.calm=true) (h:Ni X es t)
  (hn:(assignEach es X.env).length=n:=by rfl) (hst:(assignEach es X.env).findIdx? (·.1)=none:=by rfl):PG X (.Tuple es j pos) (eN K n t):=by
 subst hK;exact u6 hc h hn hst
end
end L2
namespace TS
open PySem PyProof.Rows L2
theorem G4 (a f:Addr):Builtin.«list.sort» ⟨[.ref a],[("key",.ref f)]⟩=(do
  let items ←Builtin.List.listItems (.ref a)
  Builtin.List.listUpdate (.ref a) fun _=>#[]
  let before ←seqEpoch a
  let held ←newTuple items.toList
  let keyStore ←newList []
  holding [held,keyStore] do
   rule "list.sort.key"
   for x in items do
    match ←(call (.ref f) [x]).attempt with
    | .ok k=>Builtin.List.listUpdate keyStore (·.push k)
    | .error e =>
     rule "list.sort.key-raised"
     let made ←Builtin.List.listItems keyStore
     Builtin.List.listUpdate keyStore fun _=>#[]
     letGo made.toList.reverse [e]
     Builtin.List.listUpdate (.ref a) fun _=>items
     throw e
   let keys ←Builtin.List.listItems keyStore
   let kind ←if items.size<2 then pure general' else keyKind' keys
   let ((),s) ←(if items.size<2 then pure () else sortRuns').run (SortSt.mk' kind (keys.zip items) #[] 7 none)
   let sorted:=(arrOf s).map (·.2)
   Builtin.List.listUpdate keyStore fun _=>#[]
   letGo ((arrOf s).map (·.1)).toList (failedOf s).toList
   let touched:=(←seqEpoch a) != before
   Builtin.List.listUpdate (.ref a) fun _=>sorted
   if let some e:=failedOf s then rule "list.sort.comparison-raised";throw e
   if touched then rule "list.sort.modified";raiseError "ValueError" "list modified during sort"
   ret .none):=rfl
end TS
namespace L2
open PySem PySem.Spec PyProof.Rows
def lX (r:List V→V→Hp→VK→Prop) (t:TA) (tk:TE):TE:=fun σ H Q=>t σ H fun vs H1=>tk σ H1 fun y H2=>r vs y H2 Q
def bS (X:Cx) (id:String) (r:List V→V→Hp→VK→Prop):Prop :=
 ∀(pins:oy) (s:Shared) (σ:St) (H:Hp) (xs:List V) (us:oA) (y:V) (v:Value) (Q:VK),ji X pins σ H s→jE xs us→jL y v→r xs y H Q →
  wpAny (model X.prog X.w) X.A (call (.builtin id) us [("key",v)]) (EP X pins σ Q) X.xe s
section
variable {X:Cx}{x:Str}{p pos kp:Pos}{e l:Expr}{es:oI}{t:TA}{tk:TE}{id:String}{r:List V→V→Hp→VK→Prop}
theorem nX (hc:bS X id r) (hg:Gl X x) (hm:X.mg x=none) (hv:bootBuiltins x=some (.builtin id)) (ha:PA X (e::es) t) (hk:PE X l tk) (hn:x≠"__name__":=by decide) (hdb:(x==("__debug__":Str))=false:=by decide)
  (he:backTo pos (starEach (e::es) X.env)=(false,eval e X.env)::backTo pos (starEach es X.env):=by rfl) (hpl:(backTo pos (starEach (e::es) X.env)).any (·.1)=false:=by rfl):PE X (.Call (.Name x p) (e::es) [⟨some "key",l,kp⟩] pos) (lX r t tk):=by
 intro pins s σ H Q I h
 refine wpAny_Call_Name_kw (ZW I hg hm hv ?_ hn hdb)
 refine callWith_kw (jC (ha pos pins s σ H _ I h) fun us s1 hh=>?_) he hpl
 obtain⟨vs,H1,I1,r1,q1⟩:=hh
 refine kws_cons (jC (hk pins s1 σ H1 _ I1 q1) fun v s2 hh=>kws_nil ?_)
 obtain⟨y,H2,I2,r2,q2⟩:=hh
 exact hc pins s2 σ H2 vs us y v Q I2 r1 r2 q2
end
end L2
namespace TS
open PySem PyProof.Rows L2
theorem GK (a v:Value):argsOk "sorted" ⟨[a],[(Str.ofString "key",v)]⟩:=by unfold argsOk;kernel_rfl
theorem ZG (a v:Value):argsOk "list.sort" ⟨[a],[(Str.ofString "key",v)]⟩:=by unfold argsOk;kernel_rfl
end TS
namespace L2
open PySem PyProof.Rows TS
theorem ji.adopt {X:Cx}{pins:oy}{σ:St}{H:Hp}{s:Shared}{a:Addr}{o:HO} (I:ji X pins σ H s) (f:Vk X pins H a) (new:j0 X.prog X.w (upd H a o) s.heap a o):ji X pins σ (upd H a o) s:=by
 have hn:=f.1
 refine I.call' (ch:=[a]) rfl ⟨fun b u e _ _ _=>e,fun b u e _ _ _=>⟨u.slots,e⟩,fun b u e n x=>by rw [jj (fun z=>x (by simp [z]))];exact n,fun b u e _=>⟨u,e⟩,fun b xs e=>by rw [jj (jp e hn)];exact e,fun b x u e=>by rw [jj (jp e hn)];exact e,fun b ps e=>⟨#[],by rw [jj (jp e hn),e];simp⟩⟩ (fun b u e=>?_) I.bare fun b hb=>?_
 ·by_cases hb:b=a
  ·subst hb;rw [jd] at e;cases e;exact new
  ·rw [jj hb] at e
   exact (I.hok b u e).stay (fun c v _ q=>q) (fun c q=>by rw [jj (jp q hn)];exact q) fun c xs q=>by rw [jj (jp q hn)];exact q
 ·obtain rfl:=List.mem_singleton.mp hb
  exact⟨f.2.2.2.1,f.2.1,f.2.2.2.2.1,f.2.2.2.2.2⟩
end L2
namespace L2
open PySem PyProof.Rows TS
section
variable {X:Cx}
theorem Z5:∀{bs:oB},jE (bs.map V.ref) (bs.map Value.ref)
 | []=>.nil
 | _::_=>.cons rfl Z5
theorem u0 {h:Heap}{a b:Addr}{o:Obj}{g:Array Value→Array Value} (n:b≠a) (e:h.get? b=some o):(h.update a (Obj.mapSeq g)).get? b=some o:=(Heap.get?_update_other _ _ (Ne.symm n)).trans e
end
end L2
namespace STb
open PySem PySem.Spec PyProof.Rows L2 SetTable
def dd (l:oG):List Str:=l.foldl (fun d k=>if k∈d then d else d++[k]) []
theorem gr (l:oG) (k:Str):dd (l++[k])=if k∈dd l then dd l else dd l++[k]:=by
 unfold dd
 rw [List.foldl_append]
 rfl
theorem kX {α:Type}{p:List α→Prop} (h0:p []) (h1:∀l a,p l→p (l++[a])) (l:List α):p l:=by
 rw [←List.reverse_reverse l]
 induction l.reverse with
 | nil=>exact h0
 | cons a r ih=>rw [List.reverse_cons];exact h1 _ a ih
theorem G8 {l:oG}{x:Str}:x∈dd l↔x∈l:=by
 refine kX (p:=fun l=>x∈dd l↔x∈l) ?_ (fun l k ih=>?_) l
 ·exact Iff.rfl
 ·rw [gr]
  split
  ·rename_i h
   rw [ih,List.mem_append,List.mem_singleton]
   refine⟨.inl,fun z=>z.elim id fun z=>?_⟩
   subst z
   exact ih.mp h
  ·rw [List.mem_append,List.mem_append,ih]
theorem cg (l:oG):(dd l).length≤l.length:=by
 refine kX (p:=fun l=>(dd l).length≤l.length) (Nat.le_refl _) (fun l k ih=>?_) l
 rw [gr,List.length_append,List.length_singleton]
 split
 ·omega
 ·rw [List.length_append,List.length_singleton];omega
theorem gq (l:oG):(dd l).length=l.length↔l.Nodup:=by
 refine kX (p:=fun l=>(dd l).length=l.length↔l.Nodup) ⟨fun _=>List.nodup_nil,fun _=>rfl⟩ (fun l k ih=>?_) l
 rw [gr,List.length_append,List.length_singleton,List.nodup_append]
 have le:=cg l
 split
 ·rename_i h
  refine⟨fun z=>by omega,fun z=>?_⟩
  exact absurd rfl (z.2.2 k (G8.mp h) k (List.mem_singleton.mpr rfl))
 ·rename_i h
  rw [List.length_append,List.length_singleton]
  constructor
  ·intro z
   refine⟨ih.mp (by omega),List.nodup_cons.mpr ⟨by simp,List.nodup_nil⟩,fun a ha b hb e=>?_⟩
   rw [List.mem_singleton.mp hb] at e
   rw [e] at ha
   exact h (G8.mpr ha)
  ·intro z
   have:=ih.mpr z.1
   omega
section
variable {P:oM}{w:World}
def Zt (P:oM) (w:World) (S:Addr) (ks:oG) (i:Nat) (h:Heap):Prop:=h.SetOf (PySem.strKind P w) S (fun k=>decide (k∈ks.take i)) (dd (ks.take i)).length
theorem Zt.keep {S:Addr}{ks:oG}{i:Nat}{h h':Heap} (m:Zt P w S ks i h) (hS:∀o,h.get? S=some o→h'.get? S=some o):Zt P w S ks i h':=by
 obtain⟨o,es,ep,t,ho,r⟩:=m
 exact⟨o,es,ep,t,hS _ ho,r⟩
variable {A:Around}{R:Result→Shared→Prop}{It:Addr}{fp wr:oB}{G:Array GenState→Array GenState→Prop}{Pr:Nat→Value→Prop}{St:Nat→Shared→Prop}{ks:oG}
theorem mG (W:WalksS P w A.in1 It fp wr G ks.length Pr St) (S:Addr) (hSf:S ∉ fp) (hval:∀i v,Pr i v→∃k t,ks[i]?=some k∧v=.str k t) (hb:ks.length≤990) :
  ∀(d i:Nat) (s:Shared),ks.length - i=d→i≤ks.length→St i s→Zt P w S ks i s.heap→(∀s',Moved (S::wr) G s s'→Zt P w S ks ks.length s'.heap→R (.ok (.ret .none)) s') →
   codeAny (model P w) A (.builtin "set.update.loop" ⟨[.ref S,.ref It],[]⟩) R s
 | 0,i,s,hd,hi,st,m,hR=>by
  obtain rfl:i=ks.length:=by omega
  refine codeAny_builtin PyProof.Rows.F.entry_set_update_loop ?_
  rw [Around.under_plainId PyProof.Rows.F.plain_set_update_loop _]
  refine oN (W.done s _ _ st fun s' mv=>oO (hR s' (mv.mono fun b hb=>List.mem_cons_of_mem _ hb) ?_))
  exact m.keep fun o e=>mv.heap S o (fun z=>hSf (W.sub _ z)) e
 | d+1,i,s,hd,hi,st,m,hR=>by
  have hlt:i<ks.length:=by omega
  refine codeAny_builtin PyProof.Rows.F.entry_set_update_loop ?_
  rw [Around.under_plainId PyProof.Rows.F.plain_set_update_loop _]
  refine oN (W.item i s _ _ hlt st fun v s' hP st' mv=>?_)
  obtain⟨k,t,ek,rfl⟩:=hval i v hP
  have m':=m.keep (h':=s'.heap) fun o e=>mv.heap S o (fun z=>hSf (W.sub _ z)) e
  have hup:∀b∈wr,b∈S::wr:=fun b hb=>List.mem_cons_of_mem _ hb
  have tk1:ks.take (i+1)=ks.take i++[k]:=by rw [List.take_succ,ek];rfl
  have le:=cg (ks.take i)
  rw [List.length_take] at le
  refine oN (wpAny_holding ?_)
  unfold setAdd
  refine wpAny_holding (oN ((PySem.strKind P w).pyHash (k:=k) (strKind_is _ _ _ _) ?_))
  refine wpAny_setAddHashed_of (knd:=PySem.strKind P w) (strKind_is _ _ _ _) rfl m' (Nat.lt_of_le_of_lt (show _≤991 by omega) (by decide)) fun h' sb S2=>?_
  have m2:Zt P w S ks (i+1) h':=by
   unfold Zt
   rw [tk1]
   refine SetOf_congr S2 (fun k'=>?_) ?_
   ·rw [←Bool.decide_or]
    exact decide_eq_decide.mpr (by rw [List.mem_append,List.mem_singleton])
   ·rw [gr]
    by_cases hk:k∈ks.take i
    ·rw [if_pos (G8.mpr hk),if_pos (decide_eq_true hk)]
    ·rw [if_neg (fun z=>hk (G8.mp z)),if_neg (by simpa using hk),List.length_append,List.length_singleton]
  refine oO ⟨plainId_quiet PyProof.Rows.F.plain_set_update_loop _,mG W S hSf hval hb d (i+1) _ (by omega) hlt (W.frame _ s' _ _ st' ?_ fun b hb o e=>?_) m2 fun s2 mv2 m3=>hR s2 (Moved.trans W.gtrans ((mv.mono hup).then_heap ?_ fun b o hb e=>?_) mv2) m3⟩
  ·exact Nat.le_add_right _ _
  ·rw [sb.2 b (fun z:b=S=>hSf (by rw [←z];exact hb))];exact e
  ·exact Nat.le_add_right _ _
  ·rw [sb.2 b (fun z:b=S=>hb (by rw [z];exact List.mem_cons_self))];exact e
end
end STb
namespace STb
open PySem PySem.Spec PyProof.Rows L2 SetTable
section
variable {P:oM}{w:World}{A:Around}{E:oh}{s:Shared}
theorem ad {R:Result→Shared→Prop}{It:Addr}{fp wr:oB}{G:Array GenState→Array GenState→Prop}{Pr:Nat→Value→Prop}{St:Nat→Shared→Prop}{ks:oG}{n:Nat} (W:WalksS P w A.in1 It fp wr G n Pr St) (hn:n=ks.length) (S:Addr) (hSf:S ∉ fp) (hval:∀i v,Pr i v→∃k t,ks[i]?=some k∧v=.str k t) (hb:ks.length≤990)
  (i:Nat) (s:Shared) (hi:i≤ks.length) (st:St i s) (m:Zt P w S ks i s.heap) (hR:∀s',Moved (S::wr) G s s'→Zt P w S ks ks.length s'.heap→R (.ok (.ret .none)) s') :
   codeAny (model P w) A (.builtin "set.update.loop" ⟨[.ref S,.ref It],[]⟩) R s:=by
 subst hn
 exact mG W S hSf hval hb _ i s rfl hi st m hR
theorem cY {h:Heap}{S:Nat}{ks:oG}{led:Bool} (e:h.get? S=some (Zc led)):Zt P w S ks 0 h:=⟨_,#[],0,_,e,⟨rfl,rfl,rfl⟩,rfl,fun e he=>by simp at he,fun k=>by simp,by decide,by rfl,rfl⟩
theorem KJ {l:Addr}{items:oH}{ks:oG}{Q:oh} (hh:A.handled=none) (hl:s.heap.IsList l items) (hsz:items.size=ks.length) (hit:∀(i:Nat) v,items[i]?=some v→∃k t,ks[i]?=some k∧v=.str k t) (hb:ks.length≤990)
  (h:∀(h':Heap) (tok:Nat),Zt P w s.heap.objs.size ks ks.length h'→(∀b o,b<s.heap.objs.size→s.heap.get? b=some o→h'.get? b=some o)→s.heap.objs.size<h'.objs.size→Q (.ref s.heap.objs.size) { s with heap:=h',toks:=tok }) :
  wpAny (model P w) A (call (.type "set") [.ref l]) Q E s:=by
 obtain⟨c,tl,hm⟩:=PySem.F.called_set.mro
 have hm1:=PySem.F.called_set.made
 have hm2:=PySem.F.called_set.sub
 refine wpAny_call (codeAny_of_tree ?_)
 show wpAny _ _ (callAny (.type "set") _) _ _ _
 refine oO ⟨Code.quiet_builtin _ (by decide +kernel),codeAny_builtin PySem.F.entry_type_call ?_⟩
 rw [Around.under_plain (weight_type_call_type "set" [.ref l] []) rfl]
 have g1:=PySem.F.called_set.notType
 have g2:=PySem.F.called_set.canCreate
 have g3:=PySem.F.typeCall_set_1 (.ref l)
 repeat (any_goals (first|assumption|wp_step))
 refine codeAny_mono (kG (.ref l) (E:=E) (Q₁:=fun v s1=>∃led:Bool,led=(!w.params.followText "set-order")∧v=.ref s.heap.objs.size∧s1={ s with heap:=s.heap.push (Zc led) }) ⟨_,rfl,rfl,rfl⟩) fun r s1 hr=>?_
 cases r with
 | error e=>exact hr
 | ok f1 =>
  cases f1 with
  | ret v =>
   obtain⟨led,hled,rfl,rfl⟩:=hr
   have e1:(s.heap.push (Zc led)).get? s.heap.objs.size=some (Zc led):=Heap.get?_push_size _ rfl
   have ty:Shared.TypeIs { s with heap:=s.heap.push (Zc led) } (.ref s.heap.objs.size) "set":=⟨_,e1,rfl⟩
   have g4:=PySem.F.called_set.init.lookup
   have g5:=PySem.F.called_set.init.bind (.ref s.heap.objs.size)
   repeat (any_goals (first|assumption|wp_step))
   refine codeAny_mono (codeAny_call_builtin (R:=wants (fun r s2=>r=.none∧∃h' tok,s2={ s with heap:=h',toks:=tok }∧Zt P w s.heap.objs.size ks ks.length h'∧(∀b o,b<s.heap.objs.size→s.heap.get? b=some o→h'.get? b=some o)) E) PySem.F.called_set.init.plain F.entry_set_init (check_set_init_1 ty ?_)) fun r2 s2 hr2=>?_
   ·obtain⟨ol,hol,hcl,nl,hdl⟩:=hl
    obtain⟨o1,o2,o3,o4⟩:=ol
    simp only at hcl hdl
    subst hcl;subst hdl
    have hol2:(s.heap.push (Zc led)).get? l=some { cls:=.type "list",dict:=o2,data:=.seq items nl,slots:=o4 }:=Heap.get?_push_of_some _ hol
    have g6:=PySem.F.sub_list_set
    have g7:=PySem.F.sub_list_frozenset
    have g8:(Value.type "list"==Value.type "dict")=false:=by decide
    have hl1:(s.heap.push (Zc led)).IsList l items:=⟨_,hol2,rfl,nl,rfl⟩
    unfold Builtin.«set.__init__» noKeywords Builtin.Frozenset.updateFrom
    generalize hPI:pyIter=PI
    wp_walk
    subst hPI
    refine wpAny_pyIter_list hl1 (oN (wpAny_runValue ?_))
    have hlS:l<s.heap.objs.size:=Heap.lt_size hol
    have hsp:(s.heap.push (Zc led)).objs.size=s.heap.objs.size+1:=Heap.size_push ..
    refine ad ((Walks.list (by simp [hh]) _ l (by rw [hsp];exact Nat.ne_of_lt (Nat.lt_succ_of_lt hlS)) items).toS) hsz s.heap.objs.size ?hS hit hb 0 _ (Nat.zero_le _) ⟨⟨_,Heap.get?_push_size _ rfl,rfl,rfl⟩,(hl1.push _)⟩ (cY (Heap.get?_push_of_some _ e1)) ?hR
    case hS=>rw [hsp];simp only [List.mem_cons,List.not_mem_nil,or_false,not_or];exact⟨Nat.ne_of_lt (Nat.lt_succ_self _),Nat.ne_of_gt hlS⟩
    case hR =>
     intro s' mv m'
     obtain⟨h',g',d',tk',os'⟩:=s'
     have eg:g'=s.gens:=mv.gens
     have ed:d'=s.drawn:=mv.drawn
     have eo:os'=s.os:=mv.os
     subst eg;subst ed;subst eo
     refine oO (oO ⟨rfl,h',tk',rfl,m',fun b o hb e=>?_⟩)
     refine mv.heap b o ?_ (Heap.get?_push_of_some _ (Heap.get?_push_of_some _ e))
     rw [hsp];simp only [List.mem_cons,List.not_mem_nil,or_false,not_or];exact⟨Nat.ne_of_lt hb,Nat.ne_of_lt (Nat.lt_succ_of_lt hb)⟩
   ·cases r2 with
    | error e=>exact hr2
    | ok f2 =>
     cases f2 with
     | ret r =>
      obtain⟨rfl,h',tok,rfl,m',keep⟩:=hr2
      repeat (any_goals (first|assumption|wp_step))
      have m2:=m'
      obtain⟨o',_,_,_,I',_⟩:=m2
      exact h h' tok m' keep (Heap.lt_size I')
     | _=>exact hr2.elim
  | _=>exact hr.elim
end
end STb
namespace L2
open PySem PySem.Spec PyProof.Rows TS STb
def VV (P:oM) (w:World) (S:Addr) (n:Nat) (h:Heap):Prop:=∃f,h.SetOf (PySem.strKind P w) S f n
theorem VV.keep {P:oM}{w:World}{S:Addr}{n:Nat}{h h':Heap} (x:VV P w S n h) (k:∀o,h.get? S=some o→h'.get? S=some o):VV P w S n h':=by
 obtain⟨f,o,es,ep,t,e,r⟩:=x
 exact⟨f,o,es,ep,t,k _ e,r⟩
section
variable {X:Cx}
theorem Kn (hc:X.calm=true):uN X (.type "set") (fun xs H Q=>∃(p:Addr) (ks:oG),xs=[.ref p]∧H p=some (.lst (ks.map V.str))∧ks.length≤990 ∧
  ∀S,H S=none→Q (.ref S) (upd H S (.ext (VV X.prog X.w S (dd ks).length)))):=by
 intro pins s σ H xs us Q I r h
 obtain⟨p,ks,rfl,e,hn,q⟩:=h
 obtain⟨u,rfl,ru⟩:=vS r
 cases ru
 obtain⟨its,rv,pl,hz⟩:=I.list (jl.of e)
 have ll:its.length=ks.length:=by rw [←jE.length rv,List.length_map]
 refine KJ (ks:=ks) (I.ok.hd hc) pl.isList (by rw [List.size_toArray];exact ll) (fun i v hv=>?_) hn fun h' tok m keep hlt=>?_
 ·rw [List.getElem?_toArray] at hv
  have hi:i<ks.length:=by rw [←ll];exact (List.getElem?_eq_some_iff.mp hv).1
  obtain⟨u,e1,e2⟩:=jE.get rv (i:=i) (x:=.str ks[i]) (by rw [List.getElem?_map,List.getElem?_eq_getElem hi];rfl)
  rw [hv] at e1
  cases e1
  obtain⟨t,rfl⟩:=e2
  exact⟨_,t,List.getElem?_eq_getElem hi,rfl⟩
 ·have fresh:=I.hok.fresh (Nat.le_refl s.heap.objs.size)
  have m:h'.SetOf (PySem.strKind X.prog X.w) s.heap.objs.size (fun k=>decide (k∈ks.take ks.length)) (dd (ks.take ks.length)).length:=m
  rw [List.take_length] at m
  have g:∃o,h'.get? s.heap.objs.size=some o:=by obtain⟨o,_,_,_,z,_⟩:=m;exact⟨o,z⟩
  exact⟨.ref s.heap.objs.size,_,I.laid (a:=s.heap.objs.size) (o:=.ext (VV X.prog X.w s.heap.objs.size (dd ks).length)) (t':=tok) (fun b u hb=>keep b u (Heap.lt_size hb) hb) (Nat.le_refl _) ⟨⟨_,m⟩,g,fun h1 h2 x k=>x.keep k⟩,rfl,q _ fresh⟩
theorem Km:uN X (.builtin "len") (fun xs H Q=>∃S n,xs=[.ref S]∧H S=some (.ext (VV X.prog X.w S n))∧Q (.int n) H):=by
 intro pins s σ H xs us Q I r h
 obtain⟨S,n,rfl,e,q⟩:=h
 obtain⟨u,rfl,ru⟩:=vS r
 cases ru
 obtain⟨⟨f,o,es,ep,t,h1,h2,h3,h4,h5,h6,h7,h8⟩,_⟩:=(show j0 X.prog X.w H s.heap S (.ext (VV X.prog X.w S n)) from I.hok S _ e)
 refine call_len_set h1 h2 h3 h7 (by have h6:es.size<4096:=h6;omega) ?_
 rw [h8]
 exact⟨.int n,H,I.tok _,⟨_,rfl⟩,q⟩
end
end L2
namespace L2
open PySem
abbrev oR (a:Addr):Option V:=some (.ref a)
theorem vT:0≤sizeLine:=by decide
theorem Vu:1≤sizeLine:=by decide
theorem UX:2≤sizeLine:=by decide
theorem Ma:3≤sizeLine:=by decide
theorem lV:4≤sizeLine:=by decide
theorem eU {K:oq}{i:Nat}{j:Int}{σ:St}{H:Hp}{Q:VK}{p:Addr}{xs:List V} (v:V) (e:Ji K H p xs) (q:Q v H) (e0:σ[i]?=some (oR p):=by rfl) (a:Zu xs j=some v:=by first|rfl|exact JN rfl):aI (bC K) (bM i) (tC (.int j)) σ H Q:=⟨_,e0,p,xs,j,v,rfl,rfl,e,a,q⟩
theorem Jb {a b:TS}{D:Vz}{σ:St}{H:Hp} (R:St→Hp→Prop) (h1:∀B:TS,(∀σ H,R σ H→B D σ H)→v9 a B D σ H) (h2:∀σ H,R σ H→b D σ H):v9 a b D σ H:=h1 b h2
theorem VS {a b:TS}{D:Vz}{σ:St}{H:Hp} (s:St) (I:Hp→Prop) (h1:∀B:TS,(∀H,I H→B D s H)→v9 a B D σ H) (h2:∀H,I H→b D s H):v9 a b D σ H:=h1 b h2
theorem U9 {a b:TS}{D:Vz}{σ:St}{H:Hp}{α:Type} (s:α→St) (I:α→Hp→Prop) (h1:∀B:TS,(∀x H,I x H→B D (s x) H)→v9 a B D σ H) (h2:∀x H,I x H→b D (s x) H):v9 a b D σ H:=h1 b h2
theorem aB {a b:TS}{D:Vz}{σ:St}{H:Hp}{α β:Type} (s:α→β→St) (I:α→β→Hp→Prop) (h1:∀B:TS,(∀x y H,I x y H→B D (s x y) H)→v9 a B D σ H) (h2:∀x y H,I x y H→b D (s x y) H):v9 a b D σ H:=h1 b h2
theorem Md {a b:TS}{D:Vz}{σ:St}{H:Hp}{α β γ:Type} (s:α→β→γ→St) (I:α→β→γ→Hp→Prop) (h1:∀B:TS,(∀x y z H,I x y z H→B D (s x y z) H)→v9 a B D σ H) (h2:∀x y z H,I x y z H→b D (s x y z) H):v9 a b D σ H:=h1 b h2
theorem iY {a b:TS}{D:Vz}{σ:St}{H:Hp}{α β γ δ:Type} (s:α→β→γ→δ→St) (I:α→β→γ→δ→Hp→Prop) (h1:∀B:TS,(∀x y z u H,I x y z u H→B D (s x y z u) H)→v9 a B D σ H) (h2:∀x y z u H,I x y z u H→b D (s x y z u) H):v9 a b D σ H:=h1 b h2
theorem cE {a b:TS}{D:Vz}{σ:St}{H:Hp}{α β γ δ ε:Type} (s:α→β→γ→δ→ε→St) (I:α→β→γ→δ→ε→Hp→Prop) (h1:∀B:TS,(∀x y z u v H,I x y z u v H→B D (s x y z u v) H)→v9 a B D σ H) (h2:∀x y z u v H,I x y z u v H→b D (s x y z u v) H):v9 a b D σ H:=h1 b h2
def zy (H:Hp):V→V|.ref p=>(match H p with|some (.tup (a::_))=>a|_=>.non)|v=>v
end L2
namespace L2
open PySem PySem.Spec PyProof.Rows TS STb
theorem a6 {A:Around}{s:Shared}{k j:Key}{u v:Value} (hu:jL (kV k) u) (hv:jL (kV j) v):SeqAt.EqAt A s u v (decide (k=j)):=by
 cases k with
 | inl a =>
  obtain⟨t,rfl⟩:=hu
  cases j with
  | inl b =>
   obtain⟨t',rfl⟩:=hv
   have:=SeqAt.EqAt.int_int (A:=A) (s:=s) a t b t'
   rwa [show (a==b)=decide ((Sum.inl a:Key)=Sum.inl b) from Bool.eq_iff_iff.mpr (by rw [beq_iff_eq,decide_eq_true_eq];exact⟨fun z=>by rw [z],fun z=>Sum.inl.inj z⟩)] at this
  | inr b =>
   obtain⟨t',rfl⟩:=hv
   rw [decide_eq_false (fun z=>by cases z)]
   exact SeqAt.EqAt.int_str a t b t'
 | inr a =>
  obtain⟨t,rfl⟩:=hu
  cases j with
  | inl b =>
   obtain⟨t',rfl⟩:=hv
   rw [decide_eq_false (fun z=>by cases z)]
   exact SeqAt.EqAt.str_int a t b t'
  | inr b =>
   obtain⟨t',rfl⟩:=hv
   have:=SeqAt.EqAt.str_str (A:=A) (s:=s) a t b t'
   rwa [show (a==b)=decide ((Sum.inr a:Key)=Sum.inr b) from Bool.eq_iff_iff.mpr (by rw [beq_iff_eq,decide_eq_true_eq];exact⟨fun z=>by rw [z],fun z=>Sum.inr.inj z⟩)] at this
theorem NC {A:Around}{s:Shared}{its its2:oA}{k j:List Key} (r1:jE (k.map kV) its) (r2:jE (j.map kV) its2) (n:Nat) (h1:n<its.toArray.size) (h2:n<its2.toArray.size) :
  SeqAt.EqAt A s its.toArray[n] its2.toArray[n] (decide (k.getD n (.inl 0)=j.getD n (.inl 0))):=by
 have l1:=r1.length
 have l2:=r2.length
 rw [List.length_map] at l1 l2
 rw [List.size_toArray] at h1 h2
 have g1:n<k.length:=by omega
 have g2:n<j.length:=by omega
 obtain⟨u,hu,ru⟩:=r1.get (i:=n) (x:=kV k[n]) (by simp [g1])
 obtain⟨v,hv,rv⟩:=r2.get (i:=n) (x:=kV j[n]) (by simp [g2])
 rw [List.getElem?_eq_getElem h1] at hu
 rw [List.getElem?_eq_getElem h2] at hv
 cases hu
 cases hv
 rw [List.getElem_toArray,List.getElem_toArray,List.getD_eq_getElem?_getD,List.getD_eq_getElem?_getD,List.getElem?_eq_getElem g1,List.getElem?_eq_getElem g2]
 exact a6 ru rv
theorem NV {its its2:oA}{k j:List Key} (r1:jE (k.map kV) its) (r2:jE (j.map kV) its2):((List.range (min its.toArray.size its2.toArray.size)).all (fun n=>decide (k.getD n (.inl 0)=j.getD n (.inl 0)))&&its.toArray.size==its2.toArray.size)=decide (k=j):=by
 have l1:=r1.length
 have l2:=r2.length
 rw [List.length_map] at l1 l2
 rw [List.size_toArray,List.size_toArray,←l1,←l2]
 exact zd _ k j
section
variable {X:Cx}{pins:oy}{σ:St}{H:Hp}{s:Shared}
theorem zu (I:ji X pins σ H s) {A:Around} {a b:Addr} {k j:List Key} (hu:A.units<cLine) (ha:H a=some (.tup (k.map kV))) (hb:H b=some (.tup (j.map kV))):SeqAt.EqAt A s (.ref a) (.ref b) (decide (k=j)):=by
 by_cases hab:a=b
 ·subst hab
  rw [ha] at hb
  have e:k=j:=(List.map_inj_right (f:=kV) fun x y h=>mz h).mp (HO.tup.inj (Option.some.inj hb))
  rw [decide_eq_true e]
  exact SeqAt.EqAt.same _
 ·obtain⟨its,r1,p1,_⟩:=I.tuple (Ji.of ha)
  obtain⟨its2,r2,p2,_⟩:=I.tuple (Ji.of hb)
  rw [←NV r1 r2]
  exact SeqAt.EqAt.of_refs hab (SeqAt.RcAt.tuples p1 p2 hu fun n h1 h2=>NC r1 r2 n h1 h2)
theorem gB (hu:X.A.units+64<cLine):Us X (compareOp .NotEq) (fun x y H Q=>∃(a b:Addr) (ps qs:oB) (ks js:List (List Key)),x=.ref a∧y=.ref b∧jl X.K H a (ps.map V.ref)∧jl X.K H b (qs.map V.ref)∧Jv H ps ks∧Jv H qs js∧Q (.bl (!decide (ks=js))) H):=by
 intro pins s σ H x y v u Q I rx ry h
 obtain⟨a,b,ps,qs,ks,js,rfl,rfl,ha,hb,T1,T2,q⟩:=h
 cases rx
 cases ry
 obtain⟨its,r1,p1,_⟩:=I.list ha
 obtain⟨its2,r2,p2,_⟩:=I.list hb
 have hu1:X.A.units<cLine:=by omega
 have hu2:X.A.in1.units<cLine:=by show X.A.units+1<cLine;omega
 have l1:=r1.length
 have l2:=r2.length
 rw [List.length_map] at l1 l2
 have t1:=T1.1
 have t2:=T2.1
 by_cases hz:its.toArray.size=its2.toArray.size
 ·have e:(List.range its.toArray.size).all (fun n=>decide (ks.getD n []=js.getD n []))=decide (ks=js):=by
   rw [List.size_toArray] at hz ⊢
   rw [List.size_toArray] at hz
   rw [←zd [] ks js,show min ks.length js.length=its.length by omega,show (ks.length==js.length)=true by rw [beq_iff_eq];omega,Bool.and_true]
  rw [←e] at q
  refine EqBoolInt.of_rcne (SeqAt.RcNeAt.lists p1.isList p2.isList hz hu1 fun n h1 h2=>?_) ⟨.bl _,H,I,rfl,q⟩
  have e1:=uP r1
  have e2:=uP r2
  subst e1 e2
  rw [List.size_toArray,List.length_map] at h1 h2
  have g1:n<ks.length:=by omega
  have g2:n<js.length:=by omega
  rw [List.getElem_toArray,List.getElem_toArray,List.getElem_map,List.getElem_map,List.getD_eq_getElem?_getD,List.getD_eq_getElem?_getD,List.getElem?_eq_getElem g1,List.getElem?_eq_getElem g2]
  exact zu I hu2 (T1.2 n _ _ (List.getElem?_eq_getElem h1) (List.getElem?_eq_getElem g1)) (T2.2 n _ _ (List.getElem?_eq_getElem h2) (List.getElem?_eq_getElem g2))
 ·have hne:ks≠js:=fun e=>by
   rw [List.size_toArray,List.size_toArray] at hz
   rw [e] at t1
   omega
  rw [decide_eq_false hne] at q
  exact EqBoolInt.of_rcne (SeqAt.RcNeAt.lists_lengths p1.isList p2.isList (bne_iff_ne.mpr hz) hu1) ⟨.bl true,H,I,rfl,q⟩
end
end L2
namespace L2
open PySem PySem.Spec PyProof.Rows
section
variable {P:oM}{w:World}{K:oq}{mg:ox}{base:Heap}{N ps:oG}{name qual:Str}{params:Arguments}{body:List Stmt}{scope:Scope}{cl:oC}{cvs:List V}{f c:Addr}{k:Nat}
 {A:Around} {outer:List Env} {s:Shared} {H:Hp} {us:oA} {vs:List V} {Q:VK} {E:XK}
end
end L2
namespace L2
open PySem PyProof.Rows TS
theorem My {kvs:List (List Key×V)} (nd:(kvs.map (·.1)).Nodup) {kv:List Key×V} (h:kv∈kvs):JH kvs kv.1=some kv.2:=by
 induction kvs with
 | nil=>cases h
 | cons p r ih =>
  rw [List.map_cons,List.nodup_cons] at nd
  rcases List.mem_cons.mp h with rfl|h
  ·exact zt rfl
  ·rw [zr (fun e=>nd.1 (e▸List.mem_map.mpr ⟨kv,h,rfl⟩))]
   exact ih nd.2 h
end L2
namespace L2
open PySem PyProof.Rows TS
section
variable {X:Cx}{k:Nat}{x:Str}{p pos:Pos}{e:Expr}{es:oI}{ta:TE}{t:TA}{E:XK}
def dQ (P:oM) (w:World) (K:oq) (mg:ox) (base:Heap) (k:Nat) (f:Addr) (sp:Sp):Prop:=∃fd ps,vB P w K mg base (XC P w) k f fd ps sp∧jU K fd ps []∧keepIn K (.ref f)=true
def hV (P:oM) (w:World) (K:oq) (mg:ox) (base:Heap) (k:Nat) (E:XK) (ta:TE) (t:TA):TE:=fun σ H Q=>ta σ H fun x H1=>∃f sp,x=.ref f∧dQ P w K mg base k f sp∧t σ H1 fun vs H2=>sp vs H2 Q E
theorem br {P:oM}{w:World}{K:oq}{mg:ox}{base:Heap} (e1:X.prog=P) (e2:X.w=w) (e3:X.K=K) (e4:X.mg=mg) (e5:X.base=base) (hf:PE X (.Name x p) ta) (hr:Vn k X.A) (hx:UD (XC X.prog X.w) X E) (ha:PA X (e::es) t)
  (he:starEach (e::es) X.env=(false,eval e X.env)::starEach es X.env:=by rfl) (hpl:(backTo pos (starEach es X.env)).any (·.1)=false:=by rfl) :
  PE X (.Call (.Name x p) (e::es) [] pos) (hV P w K mg base k E ta t):=by
 subst e1 e2 e3 e4 e5
 intro pins s σ H Q I h
 refine wpAny_Call_Name_kw (jC (hf pins s σ H _ I h) fun u s1 hh=>?_)
 obtain⟨v,H1,I1,rv,f,sp,ev,⟨fd,ps,F,b,kp⟩,q⟩:=hh
 subst ev
 obtain rfl:u=Value.ref f:=rv
 refine callWith_K (first:=[]) (h₀:=X.base) I1.ok.mod.kin kp (jC (ha pos pins s1 σ H1 _ I1 q) fun us s2 ⟨vs,H2,I2,r,q2⟩=>⟨I2.kIn,?_⟩) he hpl
 exact ko F hr b .nil hx I2 r (by rw [List.append_nil];exact q2)
end
end L2
namespace L2
open PySem PySem.Spec PyProof.Rows TS STb
section
variable {X:Cx}
def a5 (emp:Addr→Bool):Value→Bool|.ref q=>emp q|_=>false
theorem ai (hu:X.A.units+64<cLine):Us X (compareOp .NotIn) (fun x y H Q=>∃(p a:Addr) (as:oB) (emp:Addr→Bool),x=.ref p∧y=.ref a∧jl X.K H p []∧jl X.K H a (as.map V.ref)∧(∀q∈as,q≠p∧∃zs,jl X.K H q zs∧emp q=zs.isEmpty)∧Q (.bl (!as.any emp)) H):=by
 intro pins s σ H x y v u Q I rx ry h
 obtain⟨p,a,as,emp,rfl,rfl,hp,ha,hq,q⟩:=h
 cases rx
 cases ry
 obtain⟨its,r1,p1,_⟩:=I.list ha
 obtain rfl:=uP r1
 obtain⟨jts,r2,p2,_⟩:=I.list hp
 cases r2
 have hu1:X.A.in1.units<cLine:=by show X.A.units+1<cLine;omega
 refine SeqAt.notIn_listAt (a5 emp) p1.isList (fun y hy=>?_) ⟨.bl _,H,I,rfl,?_⟩
 ·obtain⟨r,hr,rfl⟩:=List.mem_map.mp (by simpa using hy:y∈as.map Value.ref)
  obtain⟨ne,zs,e,em⟩:=hq r hr
  obtain⟨kts,r3,p3,_⟩:=I.list e
  rw [show a5 emp (Value.ref r)=zs.isEmpty from em]
  cases r3 with
  | cons _ _=>exact SeqAt.EqAt.of_refs ne (SeqAt.RcAt.lists_lengths p3.isList p2.isList (by simp) hu1)
  | nil=>exact SeqAt.EqAt.of_refs ne (SeqAt.RcAt.lists (e:=fun _=>true) p3.isList p2.isList rfl hu1 (fun j h1 h2=>absurd h1 (Nat.not_lt_zero _)))
 ·rw [show (List.map Value.ref as).toArray.any (a5 emp)=as.any emp by rw [List.any_toArray,List.any_map];rfl]
  exact q
theorem MU (hu:X.A.units+64<cLine):Us X (compareOp .Eq) (fun x y H Q=>∃(a b:Addr) (ps qs:oB) (ks js:List (List Key)),x=.ref a∧y=.ref b∧jl X.K H a (ps.map V.ref)∧jl X.K H b (qs.map V.ref)∧Jv H ps ks∧Jv H qs js∧Q (.bl (decide (ks=js))) H):=by
 intro pins s σ H x y v u Q I rx ry h
 obtain⟨a,b,ps,qs,ks,js,rfl,rfl,ha,hb,T1,T2,q⟩:=h
 cases rx
 cases ry
 obtain⟨its,r1,p1,_⟩:=I.list ha
 obtain⟨its2,r2,p2,_⟩:=I.list hb
 have hu1:X.A.units<cLine:=by omega
 have hu2:X.A.in1.units<cLine:=by show X.A.units+1<cLine;omega
 have l1:=r1.length
 have l2:=r2.length
 rw [List.length_map] at l1 l2
 have t1:=T1.1
 have t2:=T2.1
 by_cases hz:its.toArray.size=its2.toArray.size
 ·have e:(List.range its.toArray.size).all (fun n=>decide (ks.getD n []=js.getD n []))=decide (ks=js):=by
   rw [List.size_toArray] at hz ⊢
   rw [List.size_toArray] at hz
   rw [←zd [] ks js,show min ks.length js.length=its.length by omega,show (ks.length==js.length)=true by rw [beq_iff_eq];omega,Bool.and_true]
  rw [←e] at q
  refine EqBoolInt.of_rc (SeqAt.RcAt.lists p1.isList p2.isList hz hu1 fun n h1 h2=>?_) ⟨.bl _,H,I,rfl,q⟩
  have e1:=uP r1
  have e2:=uP r2
  subst e1 e2
  rw [List.size_toArray,List.length_map] at h1 h2
  have g1:n<ks.length:=by omega
  have g2:n<js.length:=by omega
  rw [List.getElem_toArray,List.getElem_toArray,List.getElem_map,List.getElem_map,List.getD_eq_getElem?_getD,List.getD_eq_getElem?_getD,List.getElem?_eq_getElem g1,List.getElem?_eq_getElem g2]
  exact zu I hu2 (T1.2 n _ _ (List.getElem?_eq_getElem h1) (List.getElem?_eq_getElem g1)) (T2.2 n _ _ (List.getElem?_eq_getElem h2) (List.getElem?_eq_getElem g2))
 ·have hne:ks≠js:=fun e=>by
   rw [List.size_toArray,List.size_toArray] at hz
   rw [e] at t1
   omega
  rw [decide_eq_false hne] at q
  exact EqBoolInt.of_rc (SeqAt.RcAt.lists_lengths p1.isList p2.isList (bne_iff_ne.mpr hz) hu1) ⟨.bl false,H,I,rfl,q⟩
end
end L2
namespace L2
open PySem PySem.Spec PyProof.Rows TS STb
def nh (H:Hp) (p:Addr) (x:Str×List (List Key)):Prop:=∃(l:Addr) (us:oB),H p=some (.tup [.str x.1,.ref l])∧H l=some (.lst (us.map V.ref))∧Jv H us x.2
def K9 (H:Hp) (ps:oB) (xs:List (Str×List (List Key))):Prop:=ps.length=xs.length∧∀(i:Nat) p x,ps[i]?=some p→xs[i]?=some x→nh H p x
section
variable {X:Cx}{pins:oy}{s:Shared}{σ:St}{H:Hp}
theorem ny {A:Around} (I:ji X pins σ H s) (hu:A.units+8<cLine) {a b:Addr} {ps qs:oB} {ks js:List (List Key)} (ha:H a=some (.lst (ps.map V.ref))) (hb:H b=some (.lst (qs.map V.ref))) (T1:Jv H ps ks) (T2:Jv H qs js):SeqAt.EqAt A s (.ref a) (.ref b) (decide (ks=js)):=by
 by_cases hab:a=b
 ·subst hab
  rw [ha] at hb
  have e:ps=qs:=(List.map_inj_right (f:=V.ref) fun x y h=>V.ref.inj h).mp (HO.lst.inj (Option.some.inj hb))
  subst e
  have:ks=js:=List.ext_getElem (by rw [←T1.1,←T2.1]) fun i h1 h2=>by
   have g:i<ps.length:=by rw [T1.1];exact h1
   have e1:=T1.2 i _ _ (List.getElem?_eq_getElem g) (List.getElem?_eq_getElem h1)
   have e2:=T2.2 i _ _ (List.getElem?_eq_getElem g) (List.getElem?_eq_getElem h2)
   rw [e1] at e2
   exact (List.map_inj_right (f:=kV) fun x y h=>mz h).mp (HO.tup.inj (Option.some.inj e2))
  rw [decide_eq_true this]
  exact SeqAt.EqAt.same _
 ·obtain⟨its,r1,p1,_⟩:=I.list (jl.of ha)
  obtain⟨its2,r2,p2,_⟩:=I.list (jl.of hb)
  have hu1:A.units<cLine:=by omega
  have hu2:A.in1.units<cLine:=by show A.units+1<cLine;omega
  have l1:=r1.length
  have l2:=r2.length
  rw [List.length_map] at l1 l2
  have t1:=T1.1
  have t2:=T2.1
  by_cases hz:its.toArray.size=its2.toArray.size
  ·have e:(List.range its.toArray.size).all (fun n=>decide (ks.getD n []=js.getD n []))=decide (ks=js):=by
    rw [List.size_toArray] at hz ⊢
    rw [List.size_toArray] at hz
    rw [←zd [] ks js,show min ks.length js.length=its.length by omega,show (ks.length==js.length)=true by rw [beq_iff_eq];omega,Bool.and_true]
   rw [←e]
   refine SeqAt.EqAt.of_refs hab (SeqAt.RcAt.lists p1.isList p2.isList hz hu1 fun n h1 h2=>?_)
   have e1:=uP r1
   have e2:=uP r2
   subst e1 e2
   rw [List.size_toArray,List.length_map] at h1 h2
   have g1:n<ks.length:=by omega
   have g2:n<js.length:=by omega
   rw [List.getElem_toArray,List.getElem_toArray,List.getElem_map,List.getElem_map,List.getD_eq_getElem?_getD,List.getD_eq_getElem?_getD,List.getElem?_eq_getElem g1,List.getElem?_eq_getElem g2]
   exact zu I hu2 (T1.2 n _ _ (List.getElem?_eq_getElem h1) (List.getElem?_eq_getElem g1)) (T2.2 n _ _ (List.getElem?_eq_getElem h2) (List.getElem?_eq_getElem g2))
  ·have hne:ks≠js:=fun e=>by
    rw [List.size_toArray,List.size_toArray] at hz
    rw [e] at t1
    omega
   rw [decide_eq_false hne]
   exact SeqAt.EqAt.of_refs hab (SeqAt.RcAt.lists_lengths p1.isList p2.isList (bne_iff_ne.mpr hz) hu1)
theorem a7 {A:Around} (I:ji X pins σ H s) (hu:A.units+16<cLine) {p q:Addr} {x y:Str×List (List Key)} (h1:nh H p x) (h2:nh H q y):SeqAt.EqAt A s (.ref p) (.ref q) (decide (x=y)):=by
 obtain⟨l,us,e1,e2,T1⟩:=h1
 obtain⟨m,vs,g1,g2,T2⟩:=h2
 have hu2:A.in1.units+8<cLine:=by show A.units+1+8<cLine;omega
 by_cases hab:p=q
 ·subst hab
  have:x=y:=by
   rw [e1] at g1
   injection g1 with g1
   injection g1 with g1
   injection g1 with z1 g1
   injection g1 with z2 _
   injection z2 with z2
   subst z2
   rw [e2] at g2
   have e:us=vs:=(List.map_inj_right (f:=V.ref) fun x y h=>V.ref.inj h).mp (HO.lst.inj (Option.some.inj g2))
   subst e
   refine Prod.ext (V.str.inj z1) (List.ext_getElem (by rw [←T1.1,←T2.1]) fun i h1 h2=>?_)
   have g:i<us.length:=by rw [T1.1];exact h1
   have e1:=T1.2 i _ _ (List.getElem?_eq_getElem g) (List.getElem?_eq_getElem h1)
   have e2:=T2.2 i _ _ (List.getElem?_eq_getElem g) (List.getElem?_eq_getElem h2)
   rw [e1] at e2
   exact (List.map_inj_right (f:=kV) fun x y h=>mz h).mp (HO.tup.inj (Option.some.inj e2))
  rw [decide_eq_true this]
  exact SeqAt.EqAt.same _
 ·obtain⟨its,r1,p1,_⟩:=I.tuple (Ji.of e1)
  obtain⟨its2,r2,p2,_⟩:=I.tuple (Ji.of g1)
  cases r1 with
  | cons a1 r1=>cases r1 with
   | cons a2 r1 =>
    cases r1
    cases r2 with
    | cons b1 r2=>cases r2 with
     | cons b2 r2 =>
      cases r2
      obtain⟨t1,rfl⟩:=a1
      obtain⟨t2,rfl⟩:=b1
      cases a2
      cases b2
      have ev:decide (x=y)=((List.range (min 2 2)).all (fun n=>match n with|0=>(x.1==y.1)|_=>decide (x.2=y.2))&&(2==2)):=by
       show decide (x=y)=(((x.1==y.1)&&(decide (x.2=y.2)&&true))&&true)
       rw [Bool.and_true,Bool.and_true]
       refine Bool.eq_iff_iff.mpr ?_
       rw [decide_eq_true_eq,Bool.and_eq_true,beq_iff_eq,decide_eq_true_eq]
       exact⟨fun e=>by rw [e];exact⟨rfl,rfl⟩,fun e=>Prod.ext e.1 e.2⟩
      rw [ev]
      refine SeqAt.EqAt.of_refs hab (SeqAt.RcAt.tuples p1 p2 (by omega) fun n h1 h2=>?_)
      match n,h1,h2 with
      | 0,_,_=>exact SeqAt.EqAt.str_str x.1 t1 y.1 t2
      | 1,_,_=>exact ny I hu2 e2 g2 T1 T2
      | n+2,h,_=>exact absurd h (by show ¬n+2<2;omega)
theorem MV (hu:X.A.units+64<cLine):Us X (compareOp .NotEq) (fun x y H Q=>∃(a b:Addr) (ps qs:oB) (xs ys:List (Str×List (List Key))),x=.ref a∧y=.ref b∧jl X.K H a (ps.map V.ref)∧jl X.K H b (qs.map V.ref)∧K9 H ps xs∧K9 H qs ys∧Q (.bl (!decide (xs=ys))) H):=by
 intro pins s σ H x y v u Q I rx ry h
 obtain⟨a,b,ps,qs,ks,js,rfl,rfl,ha,hb,T1,T2,q⟩:=h
 cases rx
 cases ry
 obtain⟨its,r1,p1,_⟩:=I.list ha
 obtain⟨its2,r2,p2,_⟩:=I.list hb
 have hu1:X.A.units<cLine:=by omega
 have hu2:X.A.in1.units+16<cLine:=by show X.A.units+1+16<cLine;omega
 have l1:=r1.length
 have l2:=r2.length
 rw [List.length_map] at l1 l2
 have t1:=T1.1
 have t2:=T2.1
 by_cases hz:its.toArray.size=its2.toArray.size
 ·have e:(List.range its.toArray.size).all (fun n=>decide (ks.getD n ("",[])=js.getD n ("",[])))=decide (ks=js):=by
   rw [List.size_toArray] at hz ⊢
   rw [List.size_toArray] at hz
   rw [←zd (("":Str),([]:List (List Key))) ks js,show min ks.length js.length=its.length by omega,show (ks.length==js.length)=true by rw [beq_iff_eq];omega,Bool.and_true]
  rw [←e] at q
  refine EqBoolInt.of_rcne (SeqAt.RcNeAt.lists p1.isList p2.isList hz hu1 fun n h1 h2=>?_) ⟨.bl _,H,I,rfl,q⟩
  have e1:=uP r1
  have e2:=uP r2
  subst e1 e2
  rw [List.size_toArray,List.length_map] at h1 h2
  have g1:n<ks.length:=by omega
  have g2:n<js.length:=by omega
  rw [List.getElem_toArray,List.getElem_toArray,List.getElem_map,List.getElem_map,List.getD_eq_getElem?_getD,List.getD_eq_getElem?_getD,List.getElem?_eq_getElem g1,List.getElem?_eq_getElem g2]
  exact a7 I hu2 (T1.2 n _ _ (List.getElem?_eq_getElem h1) (List.getElem?_eq_getElem g1)) (T2.2 n _ _ (List.getElem?_eq_getElem h2) (List.getElem?_eq_getElem g2))
 ·have hne:ks≠js:=fun e=>by
   rw [List.size_toArray,List.size_toArray] at hz
   rw [e] at t1
   omega
  rw [decide_eq_false hne] at q
  exact EqBoolInt.of_rcne (SeqAt.RcNeAt.lists_lengths p1.isList p2.isList (bne_iff_ne.mpr hz) hu1) ⟨.bl true,H,I,rfl,q⟩
end
end L2
namespace L2
open PySem PySem.Spec PyProof.Rows TS STb
section
variable {X:Cx}
theorem nW {K:oq} (hK:X.K=K) (hu:X.A.units+64<cLine):Us X (compareOp .NotIn) (fun x y H Q=>∃(p a:Addr) (ps:oB) (k:List Key) (ks:List (List Key)),x=.ref p∧y=.ref a∧H p=some (.tup (k.map kV))∧jl K H a (ps.map V.ref)∧Jv H ps ks∧∀b:Bool,Q (.bl b) H):=by
 subst hK
 intro pins s σ H x y v u Q I rx ry h
 obtain⟨p,a,ps,k,ks,rfl,rfl,hp,ha,T,q⟩:=h
 cases rx
 cases ry
 obtain⟨its,r1,p1,_⟩:=I.list ha
 obtain rfl:=uP r1
 have hu1:X.A.in1.units<cLine:=by show X.A.units+1<cLine;omega
 refine SeqAt.notIn_listAt (fun y=>decide (vb H y=k)) p1.isList (fun y hy=>?_) ⟨.bl _,H,I,rfl,q _⟩
 obtain⟨r,hr,rfl⟩:=List.mem_map.mp (by simpa using hy:y∈ps.map Value.ref)
 obtain⟨i,hi,rfl⟩:=List.getElem_of_mem hr
 have g:i<ks.length:=by rw [←T.1];exact hi
 have e:=T.2 i _ _ (List.getElem?_eq_getElem hi) (List.getElem?_eq_getElem g)
 have ek:vb H (Value.ref ps[i])=ks[i]:=by
  show (match H ps[i] with|some (.tup ys)=>ys.map M4|_=>[])=ks[i]
  rw [e]
  show (ks[i].map kV).map M4=ks[i]
  rw [List.map_map]
  exact (List.map_congr_left fun c _=>by cases c<;>rfl).trans (List.map_id _)
 show SeqAt.EqAt _ _ _ _ (decide (vb H (Value.ref ps[i])=k))
 rw [ek]
 exact zu I hu1 e hp
end
end L2
namespace L2
open PySem PySem.Spec PyProof.Rows TS
def nR:V→Option Int|.int i=>some i|.bl k=>some (b2i k)|_=>none
theorem c8 {X:Cx}:Us X (binaryOp .Add) (fun x y H Q=>∃i j,nR x=some i∧y=.int j∧Q (.int (i+j)) H):=by
 intro pins s σ H x y v u Q I rx ry h
 obtain⟨i,j,hx,rfl,q⟩:=h
 obtain⟨t,rfl⟩:=ry
 cases x with
 | int k=>cases hx;obtain⟨t,rfl⟩:=rx;exact add_int ⟨.int _,H,I.tok _,⟨_,rfl⟩,q⟩
 | bl k=>cases hx;cases rx;exact PySem.IntBool.add_bool_int ⟨.int _,H,I.tok _,⟨_,rfl⟩,q⟩
 | _=>cases hx
theorem cW {P:oM}{w:World}{k:Key}{u:Value} (h:(JO P w).is k u=true):jL (kV k) u:=by
 rcases ui h with ⟨i,t,rfl,rfl⟩|⟨x,t,rfl,rfl⟩
 ·exact⟨t,rfl⟩
 ·exact⟨t,rfl⟩
section
variable {X:Cx}
def iC:V→List V→Hp→VK→Prop:=fun x vs H Q=>∃(a:Addr) (kvs:List (Key×V)) (k:Key) (v:V),x=.ref a∧vs=[kV k,v]∧H a=some (.dK kvs)∧kvs.length<sizeLine∧(∀y,JH kvs k=some y→Q y H)∧(JH kvs k=none→Q v (upd H a (.dK (vV kvs k v))))
theorem nQ:bW X "dict.setdefault" iC:=by
 intro pins s σ H x vs v us Q I rx rv h
 obtain⟨a,kvs,k,y,rfl,rfl,ea,hl,q1,q2⟩:=h
 cases rx
 obtain⟨u1,u2,rfl,r1,r2⟩:=kz rv
 obtain⟨z,hd,ws,rel,dd⟩:=KW I.hok ea
 have hz:ws.length≤sizeLine:=by rw [←rel.length];exact z
 have rv:=rel.val k
 refine call_meetsIn PySem.F.slot_dict_setdefault dd.typeIs PySem.F.entry_dict_setdefault (PySem.F.args_dict_setdefault_3 _ _ _) (kt_meets_setdefault (JO X.prog X.w) a (G1 r1) hd u2) ⟨ws,dd,hz,fun v hv=>?_,fun hn h' dd' hs=>?_⟩
 ·cases hx:JH kvs k with
  | none=>rw [hx,hv] at rv;exact False.elim rv
  | some y=>rw [hx,hv] at rv;exact⟨y,H,I.tok _,rv,q1 y hx⟩
 ·have hx:JH kvs k=none:=by
   cases hx:JH kvs k with
   | none=>rfl
   | some y=>rw [hx,hn] at rv;exact False.elim rv
  have hl:(vV kvs k y).length≤sizeLine:=by have:=VN kvs k y;omega
  exact⟨y,_,kH I (by rw [ea];exact True.intro) hs (let ⟨q,_,_,hq,_⟩:=dd';⟨q,hq⟩) (Nz hl hd (rel.put k r2) dd'),r2,q2 hx⟩
def Vw (v d:Addr):HO:=.ext fun h=>h.IsItemsView v d
def fR:V→List V→Hp→VK→Prop:=fun x vs H Q=>∃(a:Addr) (kvs:List (Key×V)),x=.ref a∧vs=[]∧H a=some (.dK kvs)∧∀p,H p=none→Q (.ref p) (upd H p (Vw p a))
theorem bn:bW X "dict.items" fR:=by
 intro pins s σ H x vs v us Q I rx rv h
 obtain⟨a,kvs,rfl,rfl,ea,q⟩:=h
 cases rx
 cases rv
 obtain⟨z,hd,ws,rel,dd⟩:=KW I.hok ea
 have g:=Heap.get?_push_size s.heap (o:={ cls:=.type "dict_items",data:=.fields #[.ref a] }) rfl
 refine call_meetsIn PySem.F.slot_dict_items dd.typeIs PySem.F.entry_dict_items (PySem.F.args_dict_items_1 _) (meets_dict_items (JO X.prog X.w) a hd) ⟨⟨ws,dd⟩,.ref s.heap.objs.size,_,I.laid (a:=s.heap.objs.size) (o:=Vw s.heap.objs.size a) (t':=s.toks) (fun _ _ q=>Heap.get?_push_of_some _ q) (Nat.le_refl _) ⟨⟨_,g,rfl,rfl⟩,⟨_,g⟩,fun h1 h2 ⟨o,e,c,d⟩ k=>⟨o,k _ e,c,d⟩⟩,rfl,q _ (I.hok.fresh (Nat.le_refl _))⟩
theorem nv (hcm:X.calm=true):uN X (.type "list") (fun xs H Q=>∃(p d:Addr) (kvs:List (Key×V)),xs=[.ref p]∧H p=some (Vw p d)∧H d=some (.dK kvs) ∧
  ∀(l:Addr) (ts:oB) (H':Hp),Same H H'→H l=none→H' l=some (.lst (ts.map V.ref))→ts.length=kvs.length→(∀(i:Nat) (t:Addr) (k:Key) (v:V),ts[i]?=some t→kvs[i]?=some (k,v)→H' t=some (.tup [kV k,v]))→(∀t∈ts,H t=none)→Q (.ref l) H'):=by
 intro pins s σ H xs us Q I r h
 obtain⟨p,d,kvs,rfl,ep,ed,q⟩:=h
 obtain⟨u,rfl,ru⟩:=vS r
 cases ru
 obtain⟨z,hd,ws,rel,o,es,e0,dd⟩:=KW I.hok ed
 have hz:ws.length≤sizeLine:=by rw [←rel.length];exact z
 have hv:s.heap.IsItemsView p d:=(show j0 X.prog X.w H s.heap p (Vw p d) from I.hok p _ ep).1
 refine W.kdx_call (knd:=JO X.prog X.w) (I.ok.hd hcm) hv ⟨o,es,dd⟩ hz fun h' tk acc c as hk hS hl hG hacc=>?_
 have J:ji X pins σ H { s with heap:=h',toks:=tk }:=I.kept (t':=tk) hk
 have fresh:∀t,s.heap.objs.size≤t→H t=none∧X.s₀.heap.get? t=none∧t≠X.env.locals∧(∀x c,X.env.cells.lookup x=some c→c≠t)∧∀q∈X.pn++pins,q.1≠t:=fun t le=>by
  have ne:∀{c o},s.heap.get? c=some o→c≠t:=fun e=>Nat.ne_of_lt (Nat.lt_of_lt_of_le (Heap.lt_size e) le)
  refine⟨I.hok.fresh le,Heap.get?_none_of_le (Nat.le_trans I.sz le),fun z=>?_,fun x c ec=>?_,fun q hq=>ne (I.pin q hq).1⟩
  ·obtain⟨m,⟨o,_,_,ho,_⟩,_⟩:=I.loc
   exact ne ho z.symm
  ·obtain⟨v,o,ho,_⟩:=I.cell x c ec
   exact ne ho
 have lk:as.length=kvs.length:=by rw [hl,rel.length]
 have lz:(as.zip kvs).length=as.length:=by rw [List.length_zip];omega
 let ps:List (Addr×V×V):=(as.zip kvs).map fun z=>(z.1,kV z.2.1,z.2.2)
 have pat:∀q∈ps,∃i a k v,as[i]?=some a∧kvs[i]?=some (k,v)∧q=(a,kV k,v):=fun q hq=>by
  obtain⟨y,hy,rfl⟩:=List.mem_map.mp hq
  obtain⟨i,hi⟩:=List.mem_iff_getElem?.mp hy
  obtain⟨a,k,v⟩:=y
  rw [List.getElem?_zip_eq_some] at hi
  exact⟨i,a,k,v,hi.1,hi.2,rfl⟩
 have ab:∀q∈ps,s.heap.objs.size<q.1:=fun q hq=>by
  obtain⟨i,a,k,v,h1,h2,rfl⟩:=pat q hq
  exact hG.above a (List.mem_of_getElem? h1)
 obtain⟨H1,s1,I1,t1,o1⟩:=KG ps H J (fun q hq=>by
  obtain⟨i,a,k,v,h1,h2,rfl⟩:=pat q hq
  obtain⟨key,k',x,e1,e2,e3⟩:=hG.pairs i a h1
  obtain⟨y,g1,g2⟩:=V5 rel h2
  rw [e1] at g1
  cases g1
  obtain rfl:k'=k:=g2.1.symm
  exact⟨⟨key,x,e3,cW e2,g2.2⟩⟩) (fun q hq=>.inl (fresh _ (Nat.le_of_lt (ab q hq))).1) fun q hq=>(fresh _ (Nat.le_of_lt (ab q hq))).2
 have hSn:H1 s.heap.objs.size=none:=by
  rw [o1 _ fun hm=>?_]
  ·exact (fresh _ (Nat.le_refl _)).1
  ·obtain⟨q,hq,e⟩:=List.mem_map.mp hm
   exact absurd (ab q hq) (by rw [e];exact Nat.lt_irrefl _)
 obtain⟨f1,f2,f3,f4⟩:=(fresh _ (Nat.le_refl s.heap.objs.size)).2
 have ea:acc=(as.map Value.ref).toArray:=by rw [←hacc,Array.toArray_toList]
 rw [ea] at hS
 have G:=I1.track (o:=.lst (as.map V.ref)) hSn f1 f2 f3 f4 ⟨by rw [List.length_map,lk];exact z,_,c,Z5,hS⟩
 refine⟨.ref s.heap.objs.size,_,G,rfl,q s.heap.objs.size as _ (fun b u e=>?_) (fresh _ (Nat.le_refl _)).1 jd lk (fun i t k v h1 h2=>?_) fun t ht=>(fresh _ (Nat.le_of_lt (hG.above t ht))).1⟩
 ·rw [jj (jp e (fresh _ (Nat.le_refl _)).1)];exact s1 _ _ e
 ·rw [jj (Nat.ne_of_gt (hG.above t (List.mem_of_getElem? h1)))]
  exact t1 (t,kV k,v) (List.mem_map.mpr ⟨(t,k,v),List.mem_of_getElem? (List.getElem?_zip_eq_some.mpr ⟨h1,h2⟩),rfl⟩)
end
end L2
namespace TS
open PySem PyProof.Rows L2
section
variable {prog:oM}{w:World}{A:Around}{E:oh}{s:Shared}
theorem Mx {a f:Addr}{vs:oA}{n e1:Nat}{P:Fin→Shared→Prop}{kc:Value→List L2.Key}{d:List Bool}{KV:Value→Prop}{J:List Value→Nat→Shared→Prop}
  (ho:s.heap.get? a=some (seqObj "list" vs.toArray n)) (h64:vs.length<64) (hd:d≠[])
  (he:(s.heap.update a (Obj.mapSeq fun _=>#[])).get? a=some (seqObj "list" #[] e1))
  (J0:J [] 0 { s with heap:=((s.heap.update a (Obj.mapSeq fun _=>#[])).push (seqObj "tuple" vs.toArray 0)).push (seqObj "list" #[] 0) })
  (JA:∀xs e s',J xs e s'→s'.heap.get? a=some (seqObj "list" #[] e1)∧s'.heap.get? (s.heap.objs.size+1)=some (seqObj "list" xs.toArray e))
  (JC:∀xs e s' v (R:oh) (E':oh),J xs e s'→v∈vs→(∀u s2,J xs e s2→KV u→R u s2)→wpAny (model prog w) A (call (.ref f) [v]) R E' s')
  (JU:∀xs e u s',J xs e s'→∃e',J (xs++[u]) e' { s' with heap:=s'.heap.update (s.heap.objs.size+1) (Obj.mapSeq (·.push u)) })
  (JT:∀xs e s',J xs e s'→∀u,KV u→TupAt s'.heap u (kc u)∧sd (kc u)=d)
  (q:∀(out xs:oA) e s',J xs e s'→out.Perm vs →
   P (.done (.ret .none)) { s' with heap:=(s'.heap.update (s.heap.objs.size+1) (Obj.mapSeq fun _=>#[])).update a (Obj.mapSeq fun _=>out.toArray) }) :
  wpAny (model prog w) A (Builtin.«list.sort» ⟨[.ref a],[("key",.ref f)]⟩) P E s:=by
 rw [G4]
 have ha:a<s.heap.objs.size:=Heap.lt_size ho
 refine oN (listItems_at ho rfl (oN (listUpdate_at ho rfl ?_ (by rw [List.size_toArray,sizeLine_eq];omega))))
 refine oN (seqEpoch_at he rfl (oN (wpAny_newTuple (oN (wpAny_newList (wpAny_holding ?_))))))
 have hK:((s.heap.update a (Obj.mapSeq fun _=>#[])).push (seqObj "tuple" vs.toArray 0)).objs.size=s.heap.objs.size+1:=by rw [size_push',Heap.size_update]
 rw [hK]
 refine oN (wpAny_rule ?_)
 refine oN (wpAny_forIn_array' _ (fun rest _ s'=>∃done us e,done++rest=vs∧us.length=done.length∧(∀u∈us,KV u)∧J us e s') _ (fun x rest b s' h=>?_) (fun b s' h=>?_) _ _ ⟨[],[],0,rfl,rfl,fun p hp=>(by cases hp),J0⟩)
 ·obtain⟨done,us,e,h1,h2,h3,h4⟩:=h
  refine oN (wpAny_attempt (JC us e s' x _ _ h4 (by rw [←h1];simp) fun u s2 j2 hu=>?_))
  obtain⟨e',j3⟩:=JU us e u s2 j2
  refine oN (listUpdate_at (JA _ _ _ j2).2 rfl (oO ?_) ?_ ?_)
  ·refine⟨done++[x],us++[u],e',by rw [←h1];simp,by simp [h2],fun p hp=>?_,j3⟩
   rcases List.mem_append.mp hp with z|z
   ·exact h3 p z
   ·rw [List.mem_singleton.mp z];exact hu
  ·have:=congrArg List.length h1
   rw [List.length_append,List.length_cons] at this
   rw [List.size_toArray,sizeLine_eq];omega
  ·have:=congrArg List.length h1
   rw [List.length_append,List.length_cons] at this
   rw [Array.size_push,List.size_toArray,sizeLine_eq];omega
 ·obtain⟨done,us,e,h1,h2,h3,h4⟩:=h
  rw [List.append_nil] at h1
  subst h1
  have zl:(us.toArray.zip done.toArray).toList=us.zip done:=by simp
  have zs:(us.toArray.zip done.toArray).size=done.length:=by simp [h2]
  have g0:=JA _ _ _ h4
  have g2:(s'.heap.update (s.heap.objs.size+1) (Obj.mapSeq fun _=>#[])).get? a=some (seqObj "list" #[] e1):=(Heap.get?_update_other _ _ (Nat.ne_of_gt (Nat.lt_succ_of_lt ha))).trans g0.1
  have outs:∀y:Array Keyed,y.Perm (us.toArray.zip done.toArray)→∃out:List Value,y.map (·.2)=out.toArray∧out.Perm done:=fun y pm=>by
   have pl:y.toList.Perm (us.zip done):=zl▸Array.perm_iff_toList_perm.mp pm
   refine⟨y.toList.map (·.2),by rw [←Array.toList_map,Array.toArray_toList],?_⟩
   have:=pl.map Prod.snd
   rwa [List.map_snd_zip (by omega)] at this
  have room:∀y:Array Keyed,y.Perm (us.toArray.zip done.toArray)→(y.map (·.2)).size≤sizeLine+1:=fun y hy=>by
   rw [Array.size_map,hy.size_eq,zs,sizeLine_eq];omega
  have usz:us.toArray.size≤sizeLine:=by rw [List.size_toArray,sizeLine_eq];omega
  refine oN (listItems_at g0.2 rfl ?_)
  rcases Nat.lt_or_ge done.length 2 with h5|h5
  ·rw [if_pos (by simpa using h5),if_pos (by simpa using h5)]
   refine oN (oO ?_)
   dsimp only
   rw [StateT.run_pure]
   refine oN (oO (oN (listUpdate_at g0.2 rfl (oN (wpAny_letGo (oN (seqEpoch_at g2 rfl (oN (listUpdate_at g2 rfl ?_ (hsz2:=room _ (Array.Perm.refl _)))))))) usz (by simp))))
   simp only [bne_self_eq_false,Bool.false_eq_true,if_false]
   obtain⟨out,e2,p⟩:=outs _ (Array.Perm.refl _)
   refine oO ?_
   show P _ { s' with heap:=(s'.heap.update (s.heap.objs.size+1) (Obj.mapSeq fun _=>#[])).update a (Obj.mapSeq fun _=>(us.toArray.zip done.toArray).map (·.2)) }
   rw [e2]
   exact q out us e s' h4 p
  ·rw [if_neg (by simpa using h5),if_neg (by simpa using h5)]
   refine oN (mC (kc:=kc) (d:=d) (by omega) (fun u hu=>(JT _ _ _ h4 u (h3 u hu)).1) (fun u hu=>(JT _ _ _ h4 u (h3 u hu)).2) hd ?_)
   have mem:∀p∈(us.toArray.zip done.toArray).toList,p.1∈us:=fun p hp=>by
    rw [zl] at hp
    exact (List.of_mem_zip hp).1
   have O:UB prog w A s' true (kind kc) (us.toArray.zip done.toArray):=fun E p q Q hp hq h=>by
    obtain⟨t1,d1⟩:=JT _ _ _ h4 _ (h3 _ (mem p hp))
    obtain⟨t2,d2⟩:=JT _ _ _ h4 _ (h3 _ (mem q hq))
    have h1:Q (lx (kc p.1) (kc q.1)) s':=h
    obtain⟨a,o1,us,n,e1,ho,_,hd,hk⟩:=t1
    obtain⟨b,o2,ws,m,e2,ho2,_,hd2,hk2⟩:=t2
    have s1:=d1.trans d2.symm
    rw [e1,e2] at h1 s1
    rw [e1] at hk
    rw [e2] at hk2
    rw [e1,e2]
    exact NU true ho hd ho2 hd2 s1 hk hk2 h1
   refine oN (wpAny_mono (dq (o:=kind kc) (z:=us.toArray.zip done.toArray) (f:=true) (st:=SortSt.mk' (tuples' true) (us.toArray.zip done.toArray) #[] 7 none)
    (Q:=fun _ st'=>(arrOf st').Perm (us.toArray.zip done.toArray)∧failedOf st'=none) O ⟨Array.Perm.refl _,rfl,rfl,rfl⟩ (by rw [zs];exact h5) (by rw [zs];exact h64) fun st' a1 a2 a3=>⟨a1,a2⟩) ?_ fun _ _ e=>e)
   rintro⟨⟨⟩,y⟩ s2 ⟨rfl,pm,hf⟩
   dsimp only
   refine oN (listUpdate_at g0.2 rfl (oN (wpAny_letGo (oN (seqEpoch_at g2 rfl (oN (listUpdate_at g2 rfl ?_ (hsz2:=room _ pm))))))) usz (by simp))
   rw [hf]
   simp only [bne_self_eq_false,Bool.false_eq_true,if_false]
   obtain⟨out,e2,p⟩:=outs _ pm
   refine oO ?_
   rw [e2]
   exact q out us e _ h4 p
end
end TS
namespace L2
open PySem PyProof.Rows TS
section
variable {X:Cx}
theorem GL {n:Nat} (hr:Vn (n+2) X.A):bS X "sorted" (fun xs y H Q=>∃(p f:Addr) (bs:oB) (kr:Addr→Addr) (kk:Addr→List Key) (d:List Bool) (sp:Sp),xs=[.ref p]∧y=.ref f∧H p=some (.lst (bs.map V.ref))∧bs.length<64∧Calls X.prog X.w X.K X.mg X.base n f sp∧d≠[] ∧
  (∀b∈bs,H (kr b)=some (.tup ((kk b).map kV))∧sd (kk b)=d) ∧
  (∀b∈bs,∀Q':VK,Q' (.ref (kr b)) H→sp [.ref b] H Q' (fun _ _ _=>False)) ∧
  ∀(l:Addr) (bs':oB),H l=none→bs'.Perm bs→Q (.ref l) (upd H l (.lst (bs'.map V.ref)))):=by
 intro pins s σ H xs us y v Q I r ry h
 obtain⟨p,f,bs,kr,kk,d,sp,rfl,rfl,e,hl,hC,hdn,hkk,hsp,q⟩:=h
 obtain⟨u,rfl,ru⟩:=vS r
 cases ru
 obtain rfl:v=Value.ref f:=ry
 obtain⟨its,rv,pl,hz⟩:=I.list (jl.of e)
 obtain rfl:=uP rv
 have hlen:(bs.map Value.ref).length≤sizeLine:=by simpa using hz
 refine call_function_entry_kw kind_sorted plain_sorted entry_sorted (GK _ _) ?_
 refine oN (m:=checkCount "sorted" 1 1 _) (oO ?_)
 refine oN (collect_list (A:=X.A.in1) pl.isList ?_ hlen)
 have kp:∀b o,s.heap.get? b=some o→((s.heap.push (seqObj "list" #[] 0)).update s.heap.objs.size (Obj.mapSeq (·++(bs.map Value.ref).toArray))).get? b=some o:=fun b o e=>u0 (Nat.ne_of_lt (Heap.lt_size e)) (Heap.get?_push_of_some _ e)
 have lt:s.heap.objs.size<((s.heap.push (seqObj "list" #[] 0)).update s.heap.objs.size (Obj.mapSeq (·++(bs.map Value.ref).toArray))).objs.size:=by simp [Heap.update,Heap.push]
 generalize (s.heap.push (seqObj "list" #[] 0)).update s.heap.objs.size (Obj.mapSeq (·++(bs.map Value.ref).toArray))=h1 at kp lt
 refine oN (wpAny_newList ?_)
 have e1:(h1.push (seqObj "list" (bs.map Value.ref).toArray 0)).get? h1.objs.size=some (seqObj "list" (bs.map Value.ref).toArray 0):=Heap.get?_push_size _ rfl
 have sz2:(h1.push (seqObj "list" (bs.map Value.ref).toArray 0)).objs.size=h1.objs.size+1:=size_push' ..
 have kp2:∀b o,s.heap.get? b=some o→(h1.push (seqObj "list" (bs.map Value.ref).toArray 0)).get? b=some o:=fun b o e=>Heap.get?_push_of_some _ (kp b o e)
 generalize hh2:h1.push (seqObj "list" (bs.map Value.ref).toArray 0)=h2 at e1 sz2 kp2
 have ha:s.heap.objs.size≤h1.objs.size:=Nat.le_of_lt lt
 generalize h1.objs.size=a at e1 sz2 ha lt
 have hk:s.heap.objs.size≤h2.objs.size+1:=by omega
 have ak:a≠h2.objs.size+1:=by omega
 obtain⟨n1,he⟩:∃m,(h2.update a (Obj.mapSeq fun _=>#[])).get? a=some (seqObj "list" #[] m):=⟨_,get?_update_seq e1 fun _=>#[]⟩
 have fa:=I.fpOk (H':=H) ha (I.hok.fresh ha)
 have fk:=I.fpOk (H':=H) hk (I.hok.fresh hk)
 have pinA:∀{h':Heap},h'.get? a=some (seqObj "list" #[] n1)→h'.get? a=some (seqObj "list" #[] n1)∧H a=none∧a≠X.env.locals∧a ∉ X.fs∧∀v,(seqObj "list" #[] n1).data≠.cell v:=fun h=>⟨h,fa.1,fa.2.1,fa.2.2.1,fun v z=>nomatch z⟩
 have pinK:∀{h':Heap} {ys:oH} {m:Nat},h'.get? (h2.objs.size+1)=some (seqObj "list" ys m)→h'.get? (h2.objs.size+1)=some (seqObj "list" ys m)∧H (h2.objs.size+1)=none∧h2.objs.size+1≠X.env.locals∧h2.objs.size+1 ∉ X.fs∧∀v,(seqObj "list" ys m).data≠.cell v:=fun h=>⟨h,fk.1,fk.2.1,fk.2.2.1,fun v z=>nomatch z⟩
 have JI:∀{xs:oA} {m:Nat} {s':Shared},ji X pins σ H s'→s'.heap.get? a=some (seqObj "list" #[] n1)→s'.heap.get? (h2.objs.size+1)=some (seqObj "list" xs.toArray m)→ji X (pins++[(a,seqObj "list" #[] n1),(h2.objs.size+1,seqObj "list" xs.toArray m)]) σ H s':=fun {xs m s'} I' g1 g2=>I'.pins_of fun p hp=>by
  rcases List.mem_append.mp hp with z|z
  ·exact I'.pin p (List.mem_append_right _ z)
  ·rcases List.mem_cons.mp z with rfl|z
   ·exact pinA g1
   ·obtain rfl:=List.mem_singleton.mp z
    exact pinK g2
 have JA:∀(xs:oA) (m:Nat) (s':Shared),ji X (pins++[(a,seqObj "list" #[] n1),(h2.objs.size+1,seqObj "list" xs.toArray m)]) σ H s'→s'.heap.get? a=some (seqObj "list" #[] n1)∧s'.heap.get? (h2.objs.size+1)=some (seqObj "list" xs.toArray m):=fun xs m s' J =>
  ⟨(J.pin (a,seqObj "list" #[] n1) (by simp)).1,(J.pin (h2.objs.size+1,seqObj "list" xs.toArray m) (by simp)).1⟩
 refine oN (wpAny_holding (wpAny_call_entry_kw slot_list_sort ⟨_,e1,rfl⟩ entry_list_sort (Mx (kc:=vb H) (d:=d) (KV:=fun u=>∃b∈bs,u=.ref (kr b)) (e1:=n1) (J:=fun xs m s'=>ji X (pins++[(a,seqObj "list" #[] n1),(h2.objs.size+1,seqObj "list" xs.toArray m)]) σ H s') e1 (by rw [List.length_map];exact hl) hdn he ?_ JA ?_ ?_ ?_ ?_) (ZG _ _)))
 ·have I2:ji X pins σ H { s with heap:=((h2.update a (Obj.mapSeq fun _=>#[])).push (seqObj "tuple" (bs.map Value.ref).toArray 0)).push (seqObj "list" #[] 0) }:=I.turnedL (t':=s.toks) (ch:=[]) (fun _ z=>nomatch z) fun c o _ ec=>Heap.get?_push_of_some _ (Heap.get?_push_of_some _ (u0 (Nat.ne_of_lt (Nat.lt_of_lt_of_le (Heap.lt_size ec) ha)) (kp2 c o ec)))
  refine JI (xs:=[]) (m:=0) I2 (Heap.get?_push_of_some _ (Heap.get?_push_of_some _ he)) ?_
  have:=Heap.get?_push_size ((h2.update a (Obj.mapSeq fun _=>#[])).push (seqObj "tuple" (bs.map Value.ref).toArray 0)) (o:=seqObj "list" #[] 0) rfl
  rwa [size_push',Heap.size_update] at this
 ·intro xs m s' v R E' J hv hR
  obtain⟨b,hb,rfl⟩:=List.mem_map.mp hv
  have z:=J.env0
  refine wpAny_call (codeAny_mono (hC X.A.in1.in1 X.stack s' H [.ref b] [.ref b] (fun y H'=>y=.ref (kr b)∧H'=H) hr.in1.in1 ⟨z.frames,z.mod,z.bs,z.bsz,z.funs,z.frf,z.hok,z.bare,z.hn⟩ (.cons rfl .nil) (hsp b hb _ ⟨rfl,rfl⟩)) fun r s2 hq=>?_)
  cases r with
  | error e =>
   obtain⟨_,_,_,_,_,_,_,_,_,z⟩:=hq
   exact z.elim
  | ok fl =>
   cases fl with
   | ret u =>
    obtain⟨y,H',I2,ry,ey,eH⟩:=J.after hq
    subst ey eH
    cases ry
    exact hR _ _ I2 ⟨b,hb,rfl⟩
   | next=>exact False.elim hq
   | brk=>exact False.elim hq
   | cont=>exact False.elim hq
 ·intro xs m u s' J
  have g:=JA _ _ _ J
  have I2:ji X pins σ H s':=J.pins_of fun p hp=>J.pin p (List.mem_append_right _ (List.mem_append_left _ hp))
  have I3:ji X pins σ H { s' with heap:=s'.heap.update (h2.objs.size+1) (Obj.mapSeq (·.push u)) }:=I2.turnedL (t':=s'.toks) (ch:=[h2.objs.size+1]) (fun c hc=>by rw [List.mem_singleton.mp hc];exact fk) fun c o hc ec=>u0 (fun z=>hc (by simp [z])) ec
  have g2:=get?_update_seq g.2 (·.push u)
  rw [List.push_toArray] at g2
  exact⟨_,JI (xs:=xs++[u]) I3 (u0 ak g.1) g2⟩
 ·intro xs m s' J u ⟨b,hb,eu⟩
  subst eu
  have I2:ji X pins σ H s':=J.pins_of fun p hp=>J.pin p (List.mem_append_right _ (List.mem_append_left _ hp))
  obtain⟨k1,k2⟩:=hkk b hb
  rw [vO k1]
  exact⟨GA I2.hok k1,k2⟩
 ·intro out xs m s' J pm
  have g:=JA _ _ _ J
  have I2:ji X pins σ H s':=J.pins_of fun p hp=>J.pin p (List.mem_append_right _ (List.mem_append_left _ hp))
  have I3:ji X pins σ H { s' with heap:=(s'.heap.update (h2.objs.size+1) (Obj.mapSeq fun _=>#[])).update a (Obj.mapSeq fun _=>out.toArray) }:=I2.turnedL (t':=s'.toks) (ch:=[h2.objs.size+1,a]) (fun c hc=>by
   rcases List.mem_cons.mp hc with rfl|z
   ·exact fk
   ·rw [List.mem_singleton.mp z];exact fa) fun c o hc ec=>u0 (fun z=>hc (by simp [z])) (u0 (fun z=>hc (by simp [z])) ec)
  have g2:=get?_update_seq (u0 (g:=fun _=>#[]) ak g.1) fun _=>out.toArray
  have ho:∀v∈out,v=Value.ref (zc v):=fun v hv=>by
   obtain⟨b,_,rfl⟩:=List.mem_map.mp (pm.mem_iff.mp hv)
   rfl
  have eo:(out.map zc).map Value.ref=out:=by
   rw [List.map_map]
   exact (List.map_congr_left fun v hv=>(ho v hv).symm).trans (List.map_id _)
  have rvo:jE ((out.map zc).map V.ref) out:=by
   conv=>arg 2;rw [←eo]
   exact Z5
  have pmb:(out.map zc).Perm bs:=by
   have:=pm.map zc
   rwa [List.map_map,show (zc∘Value.ref)=id from rfl,List.map_id] at this
  refine⟨_,rfl,oO ⟨_,rfl,⟨.ref a,_,I3.adopt (o:=.lst ((out.map zc).map V.ref)) fa ⟨?_,out,_,rvo,g2⟩,rfl,q a _ fa.1 pmb⟩⟩⟩
  rw [List.length_map,List.length_map,pm.length_eq];exact hlen
end
end L2
namespace K41
open PySem L2 Wd
def Um (i:Nat):Stmt:=PySem.Challenge.pw_copperbook_k41_what_is_a_drawing.main.body.getD i (.Pass ⟨0,0,0,0⟩)
abbrev vd:Stmt:=Um 10
theorem Mt:jR ["value"] ["value"] (jo vd):=JQ
abbrev Uy:Stmt:=Um 18
theorem vm:jR ["parts","kinds","name","kind","many"] ["parts"] (jo Uy):=JQ
abbrev uU:Stmt:=Um 19
theorem U5:jR ["parts","nets","joins","name","pins","pin"] ["parts","nets"] (jo uU):=JQ
abbrev UV:Stmt:=Um 20
theorem vK:jR ["parts","pins","name","kind","many"] ["parts"] (jo UV):=JQ
abbrev UU:Stmt:=Um 21
theorem zo:jR ["rows","most","need_row","row","names"] ["rows","most","need_row"] (jo UU):=JQ
abbrev UT:Stmt:=Um 22
theorem Mb:jR ["part"] ["part"] (jo UT):=JQ
abbrev vi:Stmt:=Um 23
theorem Mw:jR ["net"] ["net"] (jo vi):=JQ
abbrev v1:Stmt:=Um 24
theorem az:jR ["value"] ["value"] (jo v1):=JQ
abbrev vI:Stmt:=Um 25
theorem n0:jR ["value"] ["value"] (jo vI):=JQ
abbrev ve:Stmt:=Um 27
theorem Mu:jR ["_law_script","_law_k"] ["_law_script","_law_k"] (jo ve):=JQ
abbrev UP:Stmt:=Um 28
theorem Z7:jR ["_law_cell_here","_law_k","_law_number"] ["_law_cell_here","_law_k"] (jo UP):=JQ
abbrev US:Stmt:=Um 29
theorem Z8:jR ["_law_cell_here","_law_k","_law_number"] ["_law_cell_here","_law_k"] (jo US):=JQ
abbrev vh:Stmt:=Um 30
theorem Mv:jR ["_law_script","_law_k"] ["_law_script","_law_k"] (jo vh):=JQ
abbrev vf:Stmt:=Um 31
theorem Gj:jR ["_law_well_here","_law_most","_law_number"] ["_law_well_here","_law_most"] (jo vf):=JQ
abbrev UQ:Stmt:=Um 32
theorem vJ:jR ["_law_well_here","_law_parts_here","_law_k","_law_name","_law_many"] ["_law_well_here"] (jo UQ):=JQ
abbrev ul:Stmt:=Um 33
theorem UW:jR ["_law_well_here","_law_parts_here","_law_nets_here","_law_name","_law_kind","_law_many","_law_number","_law_pins"] ["_law_well_here","_law_parts_here"] (jo ul):=JQ
abbrev uZ:Stmt:=Um 34
theorem Uq:jR ["_law_nets_here","_law_name","_law_other","_law_found","_law_net","_law_pins","_law_some","_law_pin"] ["_law_nets_here","_law_name","_law_other"] (jo uZ):=JQ
abbrev uW:Stmt:=Um 35
theorem JZ:jR ["_law_nets_here","_law_name","_law_many","_law_found","_law_there","_law_net","_law_pins","_law_some","_law_more"] ["_law_nets_here","_law_name","_law_many"] (jo uW):=JQ
abbrev UO:Stmt:=Um 36
theorem Vv:jR ["_law_well_here","_law_parts_here","_law_nets_here","_law_many"] ["_law_well_here","_law_parts_here","_law_nets_here"] (jo UO):=JQ
abbrev uG:Stmt:=Um 37
theorem jY:jR ["_law_well_here","_law_parts_here","_law_nets_here","_law_at","_law_name","_law_kind","_law_many","_law_way","_law_words","_law_other"] ["_law_well_here","_law_parts_here","_law_nets_here"] (jo uG):=JQ
abbrev uV:Stmt:=Um 38
theorem Jn:jR ["_law_well_here","_law_nets_here","_law_at","_law_name","_law_pins","_law_way","_law_some"] ["_law_well_here","_law_nets_here"] (jo uV):=JQ
abbrev uX:Stmt:=Um 39
theorem kZ:jR ["_law_text"] ["_law_text"] (jo uX):=JQ
abbrev Ux:Stmt:=Um 40
theorem KQ:jR ["_law_names"] ["_law_names"] (jo Ux):=JQ
abbrev vg:Stmt:=Um 41
theorem uj:jR ["_law_parts_here","_law_nets_here","_law_pins","_law_name","_law_kind","_law_many","_law_told","_law_some"] ["_law_parts_here","_law_nets_here"] (jo vg):=JQ
abbrev uY:Stmt:=Um 42
theorem zU:jR ["_law_parts_here","_law_nets_here","e"] ["_law_parts_here","_law_nets_here"] (jo uY):=JQ
abbrev Uw:Stmt:=Um 43
theorem KP:jR ["_law_drawing","_law_pin"] ["_law_drawing","_law_pin"] (jo Uw):=JQ
abbrev UR:Stmt:=Um 44
theorem Je:jR ["_law_parts_here","_law_nets_here","_law_name","_law_pins","_law_handed","_law_fresh","_law_some","_law_drawing","_law_found"] ["_law_parts_here","_law_nets_here"] (jo UR):=JQ
abbrev uE:Stmt:=gs (Um 17) 0
theorem kq:jR ["self","parts","nets"] ["self","parts","nets"] (jo uE):=JQ
abbrev uF:Stmt:=gs (Um 17) 1
theorem ku:jR ["self"] ["self"] (jo uF):=JQ
abbrev JV:Stmt:=gs (Um 17) 2
theorem gI:jR ["self","pin"] ["self","pin"] (jo JV):=JQ
abbrev JK:Stmt:=gs (Um 17) 3
theorem Z6:jR ["self","pin"] ["self","pin"] (jo JK):=JQ
abbrev Zk:Stmt:=Um 45
theorem U6:jR ["_law_script","_law_well_here","_law_parts_here","_law_nets_here","_law_many","_law_k","_law_some","_law_pins","_law_lone"] ["_law_script"] (jo Zk):=JQ
structure Adr where
 jv:Addr
 UE:Addr
 uL:Addr
 uq:Addr
 Uk:Addr
 Uj:Addr
 uh:Addr
 uI:Addr
 vE:Addr
 U8:Addr
 UF:Addr
 Uf:Addr
 Ui:Addr
 UJ:Addr
 UG:Addr
 Ug:Addr
 UI:Addr
 ug:Addr
 jZ:Addr
 ux:Addr
 uu:Addr
 Ue:Addr
 JW:Addr
 ur:Addr
 uv:Addr
 uK:Addr
 UH:Addr
 uw:Addr
 uJ:Addr
 Uh:Addr
 JD:Addr
 JE:Addr
 Jq:Addr
 Jj:Addr
 Vr:Addr
 uQ:Addr
 Ud:Addr
 Ub:Addr
 Uc:Addr
 jw:Addr
 Jm:Addr
 vo:Tok
 vn:Tok
 vM:Tok
 vL:Tok
 Vx:Tok
 Vy:Tok
structure Txt (K:oq) (mg:ox) (t:Adr):Prop where
 Vb:mg "Drawing"=some (.ref t.jv)
 Jp:Zm K t.jv
 Jx:vX K t.jv "parts"
 JL:vX K t.jv "nets"
 uD:vX K t.jv "kinds"
 Jr:vX K t.jv "joins"
 GC:∃fd,uA K "is_whole" "is_whole" vd t.UE fd∧jU K fd ["value"] []
 GT:mg "is_whole"=some (.ref t.UE)
 ZC:∃fd,uA K "part_kinds" "part_kinds" Uy t.uL fd∧jU K fd ["parts"] []
 ZQ:mg "part_kinds"=some (.ref t.uL)
 Zn:∃fd,uA K "joined_pins" "joined_pins" uU t.uq fd∧jU K fd ["parts","nets"] []
 Zy:mg "joined_pins"=some (.ref t.uq)
 gT:∃fd,uA K "part_pins" "part_pins" UV t.Uk fd∧jU K fd ["parts"] []
 Gb:mg "part_pins"=some (.ref t.Uk)
 gR:∃fd,uA K "need_rows" "need_rows" UU t.Uj fd∧jU K fd ["rows","most","need_row"] []
 Ga:mg "need_rows"=some (.ref t.Uj)
 gQ:∃fd,uA K "need_part" "need_part" UT t.uh fd∧jU K fd ["part"] []
 VM:mg "need_part"=some (.ref t.uh)
 GI:∃fd,uA K "need_net" "need_net" vi t.uI fd∧jU K fd ["net"] []
 V4:mg "need_net"=some (.ref t.uI)
 K6:∃fd,uA K "is_pin" "is_pin" v1 t.vE fd∧jU K fd ["value"] []
 mt:mg "is_pin"=some (.ref t.vE)
 Kc:∃fd,uA K "is_name" "is_name" vI t.U8 fd∧jU K fd ["value"] []
 Kq:mg "is_name"=some (.ref t.U8)
 GD:∃fd,uA K "_law_cell" "_law_cell" ve t.UF fd∧jU K fd ["_law_script","_law_k"] []
 gW:mg "_law_cell"=some (.ref t.UF)
 gK:∃fd,uA K "_law_mixed" "_law_mixed" UP t.Uf fd∧jU K fd ["_law_cell_here","_law_k"] []
 ZM:mg "_law_mixed"=some (.ref t.Uf)
 gO:∃fd,uA K "_law_twice" "_law_twice" US t.Ui fd∧jU K fd ["_law_cell_here","_law_k"] []
 ZP:mg "_law_twice"=some (.ref t.Ui)
 GH:∃fd,uA K "_law_well" "_law_well" vh t.UJ fd∧jU K fd ["_law_script","_law_k"] []
 g9:mg "_law_well"=some (.ref t.UJ)
 GE:∃fd,uA K "_law_draw" "_law_draw" vf t.UG fd∧jU K fd ["_law_well_here","_law_most"] []
 gX:mg "_law_draw"=some (.ref t.UG)
 gL:∃fd,uA K "_law_parts" "_law_parts" UQ t.Ug fd∧jU K fd ["_law_well_here"] []
 ZN:mg "_law_parts"=some (.ref t.Ug)
 zC:codeHdIn K t.ug t.jZ=true
 vv:K.lookup t.jZ=none
 GG:∃fd,kB K "_law_nets" "_law_nets" ul t.UI fd t.ug t.jZ∧jU K fd ["_law_well_here","_law_parts_here"] []
 gZ:mg "_law_nets"=some (.ref t.UI)
 Zs:∃fd,uA K "_law_renamed" "_law_renamed" uZ t.ux fd∧jU K fd ["_law_nets_here","_law_name","_law_other"] []
 zO:mg "_law_renamed"=some (.ref t.ux)
 Zp:∃fd,uA K "_law_counted" "_law_counted" uW t.uu fd∧jU K fd ["_law_nets_here","_law_name","_law_many"] []
 zL:mg "_law_counted"=some (.ref t.uu)
 gJ:∃fd,uA K "_law_crowd" "_law_crowd" UO t.Ue fd∧jU K fd ["_law_well_here","_law_parts_here","_law_nets_here"] []
 ZL:mg "_law_crowd"=some (.ref t.Ue)
 zH:∃fd,uA K "_law_bad_part" "_law_bad_part" uG t.JW fd∧jU K fd ["_law_well_here","_law_parts_here","_law_nets_here"] []
 zv:mg "_law_bad_part"=some (.ref t.JW)
 Zo:∃fd,uA K "_law_bad_net" "_law_bad_net" uV t.ur fd∧jU K fd ["_law_well_here","_law_nets_here"] []
 zK:mg "_law_bad_net"=some (.ref t.ur)
 Zq:∃fd,uA K "_law_is_name" "_law_is_name" uX t.uv fd∧jU K fd ["_law_text"] []
 zM:mg "_law_is_name"=some (.ref t.uv)
 ZB:∃fd,uA K "_law_unlike" "_law_unlike" Ux t.uK fd∧jU K fd ["_law_names"] []
 Zx:mg "_law_unlike"=some (.ref t.uK)
 GF:∃fd,uA K "_law_good" "_law_good" vg t.UH fd∧jU K fd ["_law_parts_here","_law_nets_here"] []
 gY:mg "_law_good"=some (.ref t.UH)
 Zr:∃fd,uA K "_law_refused" "_law_refused" uY t.uw fd∧jU K fd ["_law_parts_here","_law_nets_here"] []
 zN:mg "_law_refused"=some (.ref t.uw)
 ZA:∃fd,uA K "_law_no_pin" "_law_no_pin" Uw t.uJ fd∧jU K fd ["_law_drawing","_law_pin"] []
 Zw:mg "_law_no_pin"=some (.ref t.uJ)
 gM:∃fd,uA K "_law_right" "_law_right" UR t.Uh fd∧jU K fd ["_law_parts_here","_law_nets_here"] []
 ZO:mg "_law_right"=some (.ref t.Uh)
 zF:∃fd,uA K "__init__" "Drawing.__init__" uE t.JD fd∧jU K fd ["self","parts","nets"] []
 Kf:Mk K t.jv t.JD
 zG:∃fd,uA K "pins" "Drawing.pins" uF t.JE fd∧jU K fd ["self"] []
 zI:Gn K t.jv "pins" t.JE
 V9:∃fd,uA K "net_of" "Drawing.net_of" JV t.Jq fd∧jU K fd ["self","pin"] []
 za:Gn K t.jv "net_of" t.Jq
 VX:∃fd,uA K "has_pin" "Drawing.has_pin" JK t.Jj fd∧jU K fd ["self","pin"] []
 VY:Gn K t.jv "has_pin" t.Jj
 bU:∃fd,uA K "law" "law" Zk t.Vr fd∧∀(s:Shared) (u:Value),BindsTo s fd ⟨[u],[]⟩ [("_law_script",u)]
 ck:mg "law"=some (.ref t.Vr)
 UC:mg "CopperError"=some (.ref t.uQ)
 Vg:mg "NoShape"=some (.ref t.Ud)
 Vd:mg "NoBoard"=some (.ref t.Ub)
 Vf:mg "NoRules"=some (.ref t.Uc)
 UN:mg "NoDrawing"=some (.ref t.jw)
 Ve:mg "NoPin"=some (.ref t.Jm)
 JB:dP K mg "NoDrawing" t.jw
 ze:VA K t.jw
 MI:dP K mg "NoPin" t.Jm
 a4:VA K t.Jm
 Jo:exmOne K (.ref t.jw) (.ref t.uQ)=some true
 Ur:exmOne K (.ref t.Jm) (.ref t.Jm)=some true
 Jt:PySem.W.kitOne K (.ref t.jw) (.ref t.jw)=some true
 U2:PySem.W.kitAny K (.ref t.jw) [.ref t.Ub,.ref t.Jm,.ref t.Uc,.ref t.Ud]=some false
 jT:mg "isinstance"=none
 Za:mg "int"=none
 zi:mg "bool"=none
 Vt:mg "str"=none
 u5:mg "list"=none
 Vi:mg "tuple"=none
 ue:mg "len"=none
 uO:mg "range"=none
 uR:mg "sorted"=none
 Zb:mg "set"=none
 z8:mg "all"=none
 gw:mg "min"=none
 uM:mg "MOST_SIGNS"=some (.int 8 t.vo)
 U0:mg "MOST_PARTS"=some (.int 8 t.vn)
 UM:mg "MOST_PINS"=some (.int 8 t.vM)
 vq:mg "MOST_NETS"=some (.int 24 t.vL)
 Vc:mg "FIGURES"=some (.str "0123456789" t.Vx)
 vF:mg "LETTERS"=some (.str "abcdefghijklmnopqrstuvwxyz" t.Vy)
theorem txt_mk {K:oq}{h:Heap}{mg:ox}{jv UE uL uq Uk Uj uh uI vE U8 UF Uf Ui UJ UG Ug UI ug jZ ux uu Ue JW ur uv uK UH uw uJ Uh JD JE Jq Jj Vr uQ Ud Ub Uc jw Jm:Addr}{vo vn vM vL Vx Vy:Tok}
  {od_is_whole an_is_whole od_part_kinds an_part_kinds od_joined_pins an_joined_pins od_part_pins an_part_pins od_need_rows an_need_rows od_need_part an_need_part od_need_net an_need_net od_is_pin an_is_pin od_is_name an_is_name od_law_cell an_law_cell od_law_mixed an_law_mixed od_law_twice an_law_twice od_law_well an_law_well od_law_draw an_law_draw od_law_parts an_law_parts od_law_nets an_law_nets od_law_renamed an_law_renamed od_law_counted an_law_counted od_law_crowd an_law_crowd od_law_bad_part an_law_bad_part od_law_bad_net an_law_bad_net od_law_is_name an_law_is_name od_law_unlike an_law_unlike od_law_good an_law_good od_law_refused an_law_refused od_law_no_pin an_law_no_pin od_law_right an_law_right od_Drawing_init an_Drawing_init od_Drawing_pins an_Drawing_pins od_Drawing_net_of an_Drawing_net_of od_Drawing_has_pin an_Drawing_has_pin od_law an_law:oK} {sl_is_whole sl_part_kinds sl_joined_pins sl_part_pins sl_need_rows sl_need_part sl_need_net sl_is_pin sl_is_name sl_law_cell sl_law_mixed sl_law_twice sl_law_well sl_law_draw sl_law_parts sl_law_nets sl_law_renamed sl_law_counted sl_law_crowd sl_law_bad_part sl_law_bad_net sl_law_is_name sl_law_unlike sl_law_good sl_law_refused sl_law_no_pin sl_law_right sl_Drawing_init sl_Drawing_pins sl_Drawing_net_of sl_Drawing_has_pin sl_law:oF} {oc_is_whole kV_is_whole dc_is_whole pm_is_whole cd_is_whole ct_is_whole oc_part_kinds kV_part_kinds dc_part_kinds pm_part_kinds cd_part_kinds ct_part_kinds oc_joined_pins kV_joined_pins dc_joined_pins pm_joined_pins cd_joined_pins ct_joined_pins oc_part_pins kV_part_pins dc_part_pins pm_part_pins cd_part_pins ct_part_pins oc_need_rows kV_need_rows dc_need_rows pm_need_rows cd_need_rows ct_need_rows oc_need_part kV_need_part dc_need_part pm_need_part cd_need_part ct_need_part oc_need_net kV_need_net dc_need_net pm_need_net cd_need_net ct_need_net oc_is_pin kV_is_pin dc_is_pin pm_is_pin cd_is_pin ct_is_pin oc_is_name kV_is_name dc_is_name pm_is_name cd_is_name ct_is_name oc_law_cell kV_law_cell dc_law_cell pm_law_cell cd_law_cell ct_law_cell oc_law_mixed kV_law_mixed dc_law_mixed pm_law_mixed cd_law_mixed ct_law_mixed oc_law_twice kV_law_twice dc_law_twice pm_law_twice cd_law_twice ct_law_twice oc_law_well kV_law_well dc_law_well pm_law_well cd_law_well ct_law_well oc_law_draw kV_law_draw dc_law_draw pm_law_draw cd_law_draw ct_law_draw oc_law_parts kV_law_parts dc_law_parts pm_law_parts cd_law_parts ct_law_parts oc_law_nets kV_law_nets dc_law_nets pm_law_nets ct_law_nets oc_law_renamed kV_law_renamed dc_law_renamed pm_law_renamed cd_law_renamed ct_law_renamed oc_law_counted kV_law_counted dc_law_counted pm_law_counted cd_law_counted ct_law_counted oc_law_crowd kV_law_crowd dc_law_crowd pm_law_crowd cd_law_crowd ct_law_crowd oc_law_bad_part kV_law_bad_part dc_law_bad_part pm_law_bad_part cd_law_bad_part ct_law_bad_part oc_law_bad_net kV_law_bad_net dc_law_bad_net pm_law_bad_net cd_law_bad_net ct_law_bad_net oc_law_is_name kV_law_is_name dc_law_is_name pm_law_is_name cd_law_is_name ct_law_is_name oc_law_unlike kV_law_unlike dc_law_unlike pm_law_unlike cd_law_unlike ct_law_unlike oc_law_good kV_law_good dc_law_good pm_law_good cd_law_good ct_law_good oc_law_refused kV_law_refused dc_law_refused pm_law_refused cd_law_refused ct_law_refused oc_law_no_pin kV_law_no_pin dc_law_no_pin pm_law_no_pin cd_law_no_pin ct_law_no_pin oc_law_right kV_law_right dc_law_right pm_law_right cd_law_right ct_law_right oc_Drawing_init kV_Drawing_init dc_Drawing_init pm_Drawing_init cd_Drawing_init ct_Drawing_init oc_Drawing_pins kV_Drawing_pins dc_Drawing_pins pm_Drawing_pins cd_Drawing_pins ct_Drawing_pins oc_Drawing_net_of kV_Drawing_net_of dc_Drawing_net_of pm_Drawing_net_of cd_Drawing_net_of ct_Drawing_net_of oc_Drawing_has_pin kV_Drawing_has_pin dc_Drawing_has_pin pm_Drawing_has_pin cd_Drawing_has_pin ct_Drawing_has_pin oc_law kV_law dc_law pm_law cd_law ct_law:Value} {k1_law_nets:Value} {k2_law_nets:oK} {kv_law_nets:oH} {k4_law_nets:oF} (X:K.In h) (G:h.Ns mainGlobals mg)
  (Vb:nsIn K mainGlobals "Drawing"=some (some (.ref jv)))
  (pg_Drawing:plainGet K jv Str.empty=true)
  (hd_Drawing:hasDictIn K jv=true)
  (po_Drawing:plainOver K jv=true)
  (sa_Drawing:PySem.W.findIn K (.ref jv) "__setattr__"=some (some (.builtin "object.__setattr__")))
  (mk_Drawing:makesIn K jv=true)
  (kc_Drawing:keepIn K (.ref jv)=true)
  (Jx:PySem.W.findIn K (.ref jv) "parts"=some none)
  (JL:PySem.W.findIn K (.ref jv) "nets"=some none)
  (uD:PySem.W.findIn K (.ref jv) "kinds"=some none)
  (Jr:PySem.W.findIn K (.ref jv) "joins"=some none)
  (a_is_whole:nsIn K mainGlobals "is_whole"=some (some (.ref UE)))
  (l_is_whole:K.lookup UE=some ⟨oc_is_whole,od_is_whole,.func (fnOf "is_whole" "is_whole" (jO vd) (jF vd) (jo vd) .none kV_is_whole dc_is_whole pm_is_whole an_is_whole cd_is_whole ct_is_whole),sl_is_whole⟩)
  (cc_is_whole:codeIn K cd_is_whole "is_whole"=true)
  (k_is_whole:keepIn K (.ref UE)=true)
  (a_part_kinds:nsIn K mainGlobals "part_kinds"=some (some (.ref uL)))
  (l_part_kinds:K.lookup uL=some ⟨oc_part_kinds,od_part_kinds,.func (fnOf "part_kinds" "part_kinds" (jO Uy) (jF Uy) (jo Uy) .none kV_part_kinds dc_part_kinds pm_part_kinds an_part_kinds cd_part_kinds ct_part_kinds),sl_part_kinds⟩)
  (cc_part_kinds:codeIn K cd_part_kinds "part_kinds"=true)
  (k_part_kinds:keepIn K (.ref uL)=true)
  (a_joined_pins:nsIn K mainGlobals "joined_pins"=some (some (.ref uq)))
  (l_joined_pins:K.lookup uq=some ⟨oc_joined_pins,od_joined_pins,.func (fnOf "joined_pins" "joined_pins" (jO uU) (jF uU) (jo uU) .none kV_joined_pins dc_joined_pins pm_joined_pins an_joined_pins cd_joined_pins ct_joined_pins),sl_joined_pins⟩)
  (cc_joined_pins:codeIn K cd_joined_pins "joined_pins"=true)
  (k_joined_pins:keepIn K (.ref uq)=true)
  (a_part_pins:nsIn K mainGlobals "part_pins"=some (some (.ref Uk)))
  (l_part_pins:K.lookup Uk=some ⟨oc_part_pins,od_part_pins,.func (fnOf "part_pins" "part_pins" (jO UV) (jF UV) (jo UV) .none kV_part_pins dc_part_pins pm_part_pins an_part_pins cd_part_pins ct_part_pins),sl_part_pins⟩)
  (cc_part_pins:codeIn K cd_part_pins "part_pins"=true)
  (k_part_pins:keepIn K (.ref Uk)=true)
  (a_need_rows:nsIn K mainGlobals "need_rows"=some (some (.ref Uj)))
  (l_need_rows:K.lookup Uj=some ⟨oc_need_rows,od_need_rows,.func (fnOf "need_rows" "need_rows" (jO UU) (jF UU) (jo UU) .none kV_need_rows dc_need_rows pm_need_rows an_need_rows cd_need_rows ct_need_rows),sl_need_rows⟩)
  (cc_need_rows:codeIn K cd_need_rows "need_rows"=true)
  (k_need_rows:keepIn K (.ref Uj)=true)
  (a_need_part:nsIn K mainGlobals "need_part"=some (some (.ref uh)))
  (l_need_part:K.lookup uh=some ⟨oc_need_part,od_need_part,.func (fnOf "need_part" "need_part" (jO UT) (jF UT) (jo UT) .none kV_need_part dc_need_part pm_need_part an_need_part cd_need_part ct_need_part),sl_need_part⟩)
  (cc_need_part:codeIn K cd_need_part "need_part"=true)
  (k_need_part:keepIn K (.ref uh)=true)
  (a_need_net:nsIn K mainGlobals "need_net"=some (some (.ref uI)))
  (l_need_net:K.lookup uI=some ⟨oc_need_net,od_need_net,.func (fnOf "need_net" "need_net" (jO vi) (jF vi) (jo vi) .none kV_need_net dc_need_net pm_need_net an_need_net cd_need_net ct_need_net),sl_need_net⟩)
  (cc_need_net:codeIn K cd_need_net "need_net"=true)
  (k_need_net:keepIn K (.ref uI)=true)
  (a_is_pin:nsIn K mainGlobals "is_pin"=some (some (.ref vE)))
  (l_is_pin:K.lookup vE=some ⟨oc_is_pin,od_is_pin,.func (fnOf "is_pin" "is_pin" (jO v1) (jF v1) (jo v1) .none kV_is_pin dc_is_pin pm_is_pin an_is_pin cd_is_pin ct_is_pin),sl_is_pin⟩)
  (cc_is_pin:codeIn K cd_is_pin "is_pin"=true)
  (k_is_pin:keepIn K (.ref vE)=true)
  (a_is_name:nsIn K mainGlobals "is_name"=some (some (.ref U8)))
  (l_is_name:K.lookup U8=some ⟨oc_is_name,od_is_name,.func (fnOf "is_name" "is_name" (jO vI) (jF vI) (jo vI) .none kV_is_name dc_is_name pm_is_name an_is_name cd_is_name ct_is_name),sl_is_name⟩)
  (cc_is_name:codeIn K cd_is_name "is_name"=true)
  (k_is_name:keepIn K (.ref U8)=true)
  (a_law_cell:nsIn K mainGlobals "_law_cell"=some (some (.ref UF)))
  (l_law_cell:K.lookup UF=some ⟨oc_law_cell,od_law_cell,.func (fnOf "_law_cell" "_law_cell" (jO ve) (jF ve) (jo ve) .none kV_law_cell dc_law_cell pm_law_cell an_law_cell cd_law_cell ct_law_cell),sl_law_cell⟩)
  (cc_law_cell:codeIn K cd_law_cell "_law_cell"=true)
  (k_law_cell:keepIn K (.ref UF)=true)
  (a_law_mixed:nsIn K mainGlobals "_law_mixed"=some (some (.ref Uf)))
  (l_law_mixed:K.lookup Uf=some ⟨oc_law_mixed,od_law_mixed,.func (fnOf "_law_mixed" "_law_mixed" (jO UP) (jF UP) (jo UP) .none kV_law_mixed dc_law_mixed pm_law_mixed an_law_mixed cd_law_mixed ct_law_mixed),sl_law_mixed⟩)
  (cc_law_mixed:codeIn K cd_law_mixed "_law_mixed"=true)
  (k_law_mixed:keepIn K (.ref Uf)=true)
  (a_law_twice:nsIn K mainGlobals "_law_twice"=some (some (.ref Ui)))
  (l_law_twice:K.lookup Ui=some ⟨oc_law_twice,od_law_twice,.func (fnOf "_law_twice" "_law_twice" (jO US) (jF US) (jo US) .none kV_law_twice dc_law_twice pm_law_twice an_law_twice cd_law_twice ct_law_twice),sl_law_twice⟩)
  (cc_law_twice:codeIn K cd_law_twice "_law_twice"=true)
  (k_law_twice:keepIn K (.ref Ui)=true)
  (a_law_well:nsIn K mainGlobals "_law_well"=some (some (.ref UJ)))
  (l_law_well:K.lookup UJ=some ⟨oc_law_well,od_law_well,.func (fnOf "_law_well" "_law_well" (jO vh) (jF vh) (jo vh) .none kV_law_well dc_law_well pm_law_well an_law_well cd_law_well ct_law_well),sl_law_well⟩)
  (cc_law_well:codeIn K cd_law_well "_law_well"=true)
  (k_law_well:keepIn K (.ref UJ)=true)
  (a_law_draw:nsIn K mainGlobals "_law_draw"=some (some (.ref UG)))
  (l_law_draw:K.lookup UG=some ⟨oc_law_draw,od_law_draw,.func (fnOf "_law_draw" "_law_draw" (jO vf) (jF vf) (jo vf) .none kV_law_draw dc_law_draw pm_law_draw an_law_draw cd_law_draw ct_law_draw),sl_law_draw⟩)
  (cc_law_draw:codeIn K cd_law_draw "_law_draw"=true)
  (k_law_draw:keepIn K (.ref UG)=true)
  (a_law_parts:nsIn K mainGlobals "_law_parts"=some (some (.ref Ug)))
  (l_law_parts:K.lookup Ug=some ⟨oc_law_parts,od_law_parts,.func (fnOf "_law_parts" "_law_parts" (jO UQ) (jF UQ) (jo UQ) .none kV_law_parts dc_law_parts pm_law_parts an_law_parts cd_law_parts ct_law_parts),sl_law_parts⟩)
  (cc_law_parts:codeIn K cd_law_parts "_law_parts"=true)
  (k_law_parts:keepIn K (.ref Ug)=true)
  (a_law_nets:nsIn K mainGlobals "_law_nets"=some (some (.ref UI)))
  (l_law_nets:K.lookup UI=some ⟨oc_law_nets,od_law_nets,.func (fnOf "_law_nets" "_law_nets" (jO ul) (jF ul) (jo ul) .none kV_law_nets dc_law_nets pm_law_nets an_law_nets (.ref ug) ct_law_nets),sl_law_nets⟩)
  (cc_law_nets:codeIn K (.ref ug) "_law_nets"=true)
  (k_law_nets:keepIn K (.ref UI)=true)
  (ko_law_nets:K.lookup ug=some ⟨k1_law_nets,k2_law_nets,.fields kv_law_nets,k4_law_nets⟩)
  (kp_law_nets:kv_law_nets[11]?=some (.ref jZ))
  (ch_law_nets:codeHdIn K ug jZ=true)
  (vv:K.lookup jZ=none)
  (tb_law_nets:h.get? jZ=some (tabObj #[]))
  (a_law_renamed:nsIn K mainGlobals "_law_renamed"=some (some (.ref ux)))
  (l_law_renamed:K.lookup ux=some ⟨oc_law_renamed,od_law_renamed,.func (fnOf "_law_renamed" "_law_renamed" (jO uZ) (jF uZ) (jo uZ) .none kV_law_renamed dc_law_renamed pm_law_renamed an_law_renamed cd_law_renamed ct_law_renamed),sl_law_renamed⟩)
  (cc_law_renamed:codeIn K cd_law_renamed "_law_renamed"=true)
  (k_law_renamed:keepIn K (.ref ux)=true)
  (a_law_counted:nsIn K mainGlobals "_law_counted"=some (some (.ref uu)))
  (l_law_counted:K.lookup uu=some ⟨oc_law_counted,od_law_counted,.func (fnOf "_law_counted" "_law_counted" (jO uW) (jF uW) (jo uW) .none kV_law_counted dc_law_counted pm_law_counted an_law_counted cd_law_counted ct_law_counted),sl_law_counted⟩)
  (cc_law_counted:codeIn K cd_law_counted "_law_counted"=true)
  (k_law_counted:keepIn K (.ref uu)=true)
  (a_law_crowd:nsIn K mainGlobals "_law_crowd"=some (some (.ref Ue)))
  (l_law_crowd:K.lookup Ue=some ⟨oc_law_crowd,od_law_crowd,.func (fnOf "_law_crowd" "_law_crowd" (jO UO) (jF UO) (jo UO) .none kV_law_crowd dc_law_crowd pm_law_crowd an_law_crowd cd_law_crowd ct_law_crowd),sl_law_crowd⟩)
  (cc_law_crowd:codeIn K cd_law_crowd "_law_crowd"=true)
  (k_law_crowd:keepIn K (.ref Ue)=true)
  (a_law_bad_part:nsIn K mainGlobals "_law_bad_part"=some (some (.ref JW)))
  (l_law_bad_part:K.lookup JW=some ⟨oc_law_bad_part,od_law_bad_part,.func (fnOf "_law_bad_part" "_law_bad_part" (jO uG) (jF uG) (jo uG) .none kV_law_bad_part dc_law_bad_part pm_law_bad_part an_law_bad_part cd_law_bad_part ct_law_bad_part),sl_law_bad_part⟩)
  (cc_law_bad_part:codeIn K cd_law_bad_part "_law_bad_part"=true)
  (k_law_bad_part:keepIn K (.ref JW)=true)
  (a_law_bad_net:nsIn K mainGlobals "_law_bad_net"=some (some (.ref ur)))
  (l_law_bad_net:K.lookup ur=some ⟨oc_law_bad_net,od_law_bad_net,.func (fnOf "_law_bad_net" "_law_bad_net" (jO uV) (jF uV) (jo uV) .none kV_law_bad_net dc_law_bad_net pm_law_bad_net an_law_bad_net cd_law_bad_net ct_law_bad_net),sl_law_bad_net⟩)
  (cc_law_bad_net:codeIn K cd_law_bad_net "_law_bad_net"=true)
  (k_law_bad_net:keepIn K (.ref ur)=true)
  (a_law_is_name:nsIn K mainGlobals "_law_is_name"=some (some (.ref uv)))
  (l_law_is_name:K.lookup uv=some ⟨oc_law_is_name,od_law_is_name,.func (fnOf "_law_is_name" "_law_is_name" (jO uX) (jF uX) (jo uX) .none kV_law_is_name dc_law_is_name pm_law_is_name an_law_is_name cd_law_is_name ct_law_is_name),sl_law_is_name⟩)
  (cc_law_is_name:codeIn K cd_law_is_name "_law_is_name"=true)
  (k_law_is_name:keepIn K (.ref uv)=true)
  (a_law_unlike:nsIn K mainGlobals "_law_unlike"=some (some (.ref uK)))
  (l_law_unlike:K.lookup uK=some ⟨oc_law_unlike,od_law_unlike,.func (fnOf "_law_unlike" "_law_unlike" (jO Ux) (jF Ux) (jo Ux) .none kV_law_unlike dc_law_unlike pm_law_unlike an_law_unlike cd_law_unlike ct_law_unlike),sl_law_unlike⟩)
  (cc_law_unlike:codeIn K cd_law_unlike "_law_unlike"=true)
  (k_law_unlike:keepIn K (.ref uK)=true)
  (a_law_good:nsIn K mainGlobals "_law_good"=some (some (.ref UH)))
  (l_law_good:K.lookup UH=some ⟨oc_law_good,od_law_good,.func (fnOf "_law_good" "_law_good" (jO vg) (jF vg) (jo vg) .none kV_law_good dc_law_good pm_law_good an_law_good cd_law_good ct_law_good),sl_law_good⟩)
  (cc_law_good:codeIn K cd_law_good "_law_good"=true)
  (k_law_good:keepIn K (.ref UH)=true)
  (a_law_refused:nsIn K mainGlobals "_law_refused"=some (some (.ref uw)))
  (l_law_refused:K.lookup uw=some ⟨oc_law_refused,od_law_refused,.func (fnOf "_law_refused" "_law_refused" (jO uY) (jF uY) (jo uY) .none kV_law_refused dc_law_refused pm_law_refused an_law_refused cd_law_refused ct_law_refused),sl_law_refused⟩)
  (cc_law_refused:codeIn K cd_law_refused "_law_refused"=true)
  (k_law_refused:keepIn K (.ref uw)=true)
  (a_law_no_pin:nsIn K mainGlobals "_law_no_pin"=some (some (.ref uJ)))
  (l_law_no_pin:K.lookup uJ=some ⟨oc_law_no_pin,od_law_no_pin,.func (fnOf "_law_no_pin" "_law_no_pin" (jO Uw) (jF Uw) (jo Uw) .none kV_law_no_pin dc_law_no_pin pm_law_no_pin an_law_no_pin cd_law_no_pin ct_law_no_pin),sl_law_no_pin⟩)
  (cc_law_no_pin:codeIn K cd_law_no_pin "_law_no_pin"=true)
  (k_law_no_pin:keepIn K (.ref uJ)=true)
  (a_law_right:nsIn K mainGlobals "_law_right"=some (some (.ref Uh)))
  (l_law_right:K.lookup Uh=some ⟨oc_law_right,od_law_right,.func (fnOf "_law_right" "_law_right" (jO UR) (jF UR) (jo UR) .none kV_law_right dc_law_right pm_law_right an_law_right cd_law_right ct_law_right),sl_law_right⟩)
  (cc_law_right:codeIn K cd_law_right "_law_right"=true)
  (k_law_right:keepIn K (.ref Uh)=true)
  (a_Drawing_init:PySem.W.findIn K (.ref jv) "__init__"=some (some (.ref JD)))
  (i_Drawing_init:isFn K (.ref JD)=true)
  (l_Drawing_init:K.lookup JD=some ⟨oc_Drawing_init,od_Drawing_init,.func (fnOf "__init__" "Drawing.__init__" (jO uE) (jF uE) (jo uE) .none kV_Drawing_init dc_Drawing_init pm_Drawing_init an_Drawing_init cd_Drawing_init ct_Drawing_init),sl_Drawing_init⟩)
  (cc_Drawing_init:codeIn K cd_Drawing_init "Drawing.__init__"=true)
  (k_Drawing_init:keepIn K (.ref JD)=true)
  (a_Drawing_pins:PySem.W.findIn K (.ref jv) "pins"=some (some (.ref JE)))
  (i_Drawing_pins:isFn K (.ref JE)=true)
  (l_Drawing_pins:K.lookup JE=some ⟨oc_Drawing_pins,od_Drawing_pins,.func (fnOf "pins" "Drawing.pins" (jO uF) (jF uF) (jo uF) .none kV_Drawing_pins dc_Drawing_pins pm_Drawing_pins an_Drawing_pins cd_Drawing_pins ct_Drawing_pins),sl_Drawing_pins⟩)
  (cc_Drawing_pins:codeIn K cd_Drawing_pins "Drawing.pins"=true)
  (k_Drawing_pins:keepIn K (.ref JE)=true)
  (a_Drawing_net_of:PySem.W.findIn K (.ref jv) "net_of"=some (some (.ref Jq)))
  (i_Drawing_net_of:isFn K (.ref Jq)=true)
  (l_Drawing_net_of:K.lookup Jq=some ⟨oc_Drawing_net_of,od_Drawing_net_of,.func (fnOf "net_of" "Drawing.net_of" (jO JV) (jF JV) (jo JV) .none kV_Drawing_net_of dc_Drawing_net_of pm_Drawing_net_of an_Drawing_net_of cd_Drawing_net_of ct_Drawing_net_of),sl_Drawing_net_of⟩)
  (cc_Drawing_net_of:codeIn K cd_Drawing_net_of "Drawing.net_of"=true)
  (k_Drawing_net_of:keepIn K (.ref Jq)=true)
  (a_Drawing_has_pin:PySem.W.findIn K (.ref jv) "has_pin"=some (some (.ref Jj)))
  (i_Drawing_has_pin:isFn K (.ref Jj)=true)
  (l_Drawing_has_pin:K.lookup Jj=some ⟨oc_Drawing_has_pin,od_Drawing_has_pin,.func (fnOf "has_pin" "Drawing.has_pin" (jO JK) (jF JK) (jo JK) .none kV_Drawing_has_pin dc_Drawing_has_pin pm_Drawing_has_pin an_Drawing_has_pin cd_Drawing_has_pin ct_Drawing_has_pin),sl_Drawing_has_pin⟩)
  (cc_Drawing_has_pin:codeIn K cd_Drawing_has_pin "Drawing.has_pin"=true)
  (k_Drawing_has_pin:keepIn K (.ref Jj)=true)
  (a_law:nsIn K mainGlobals "law"=some (some (.ref Vr)))
  (l_law:K.lookup Vr=some ⟨oc_law,od_law,.func (fnOf "law" "law" (jO Zk) (jF Zk) (jo Zk) .none kV_law dc_law pm_law an_law cd_law ct_law),sl_law⟩)
  (cc_law:codeIn K cd_law "law"=true)
  (k_law:keepIn K (.ref Vr)=true)
  (UC:nsIn K mainGlobals "CopperError"=some (some (.ref uQ)))
  (Vg:nsIn K mainGlobals "NoShape"=some (some (.ref Ud)))
  (Vd:nsIn K mainGlobals "NoBoard"=some (some (.ref Ub)))
  (Vf:nsIn K mainGlobals "NoRules"=some (some (.ref Uc)))
  (UN:nsIn K mainGlobals "NoDrawing"=some (some (.ref jw)))
  (Ve:nsIn K mainGlobals "NoPin"=some (some (.ref Jm)))
  (x_NoDrawing:PySem.W.excIn K jw cf "ValueError.__new__"=true)
  (ga_NoDrawing:PySem.W.findIn K (.ref jw) "__getattribute__"=some (some (.builtin "BaseException.__getattribute__")))
  (gt_NoDrawing:PySem.W.findIn K (.ref jw) "__getattr__"=some none)
  (gc_NoDrawing:PySem.W.findIn K (.ref jw) "__class__"=some (some (.builtin "object.__class__")))
  (ge_NoDrawing:PySem.W.specialIn K (.builtin "object.__class__") "__get__"=some (some (.builtin "getset_descriptor.__get__")))
  (gk_NoDrawing:PySem.W.takesIn K (.builtin "object.__class__")=some true)
  (mo_NoDrawing:PySem.W.mroIn K jw (.type "object")=some true)
  (mb_NoDrawing:PySem.W.mroIn K jw (.type "BaseException")=some true)
  (x_NoPin:PySem.W.excIn K Jm cf "ValueError.__new__"=true)
  (ga_NoPin:PySem.W.findIn K (.ref Jm) "__getattribute__"=some (some (.builtin "BaseException.__getattribute__")))
  (gt_NoPin:PySem.W.findIn K (.ref Jm) "__getattr__"=some none)
  (gc_NoPin:PySem.W.findIn K (.ref Jm) "__class__"=some (some (.builtin "object.__class__")))
  (ge_NoPin:PySem.W.specialIn K (.builtin "object.__class__") "__get__"=some (some (.builtin "getset_descriptor.__get__")))
  (gk_NoPin:PySem.W.takesIn K (.builtin "object.__class__")=some true)
  (mo_NoPin:PySem.W.mroIn K Jm (.type "object")=some true)
  (mb_NoPin:PySem.W.mroIn K Jm (.type "BaseException")=some true)
  (Jo:exmOne K (.ref jw) (.ref uQ)=some true)
  (Ur:exmOne K (.ref Jm) (.ref Jm)=some true)
  (Jt:PySem.W.kitOne K (.ref jw) (.ref jw)=some true)
  (U2:PySem.W.kitAny K (.ref jw) [.ref Ub,.ref Jm,.ref Uc,.ref Ud]=some false)
  (jT:nsIn K mainGlobals "isinstance"=some none)
  (Za:nsIn K mainGlobals "int"=some none)
  (zi:nsIn K mainGlobals "bool"=some none)
  (Vt:nsIn K mainGlobals "str"=some none)
  (u5:nsIn K mainGlobals "list"=some none)
  (Vi:nsIn K mainGlobals "tuple"=some none)
  (ue:nsIn K mainGlobals "len"=some none)
  (uO:nsIn K mainGlobals "range"=some none)
  (uR:nsIn K mainGlobals "sorted"=some none)
  (Zb:nsIn K mainGlobals "set"=some none)
  (z8:nsIn K mainGlobals "all"=some none)
  (gw:nsIn K mainGlobals "min"=some none)
  (uM:nsIn K mainGlobals "MOST_SIGNS"=some (some (.int 8 vo)))
  (U0:nsIn K mainGlobals "MOST_PARTS"=some (some (.int 8 vn)))
  (UM:nsIn K mainGlobals "MOST_PINS"=some (some (.int 8 vM)))
  (vq:nsIn K mainGlobals "MOST_NETS"=some (some (.int 24 vL)))
  (Vc:nsIn K mainGlobals "FIGURES"=some (some (.str "0123456789" Vx)))
  (vF:nsIn K mainGlobals "LETTERS"=some (some (.str "abcdefghijklmnopqrstuvwxyz" Vy))) :
  ∃t:Adr,Txt K mg t∧∀p∈[t.jZ],h.get? p=some (tabObj #[]) :=
 ⟨{ jv:=jv,UE:=UE,uL:=uL,uq:=uq,Uk:=Uk,Uj:=Uj,uh:=uh,uI:=uI,vE:=vE,U8:=U8,UF:=UF,Uf:=Uf,Ui:=Ui,UJ:=UJ,UG:=UG,Ug:=Ug,UI:=UI,ug:=ug,jZ:=jZ,ux:=ux,uu:=uu,Ue:=Ue,JW:=JW,ur:=ur,uv:=uv,uK:=uK,UH:=UH,uw:=uw,uJ:=uJ,Uh:=Uh,JD:=JD,JE:=JE,Jq:=Jq,Jj:=Jj,Vr:=Vr,uQ:=uQ,Ud:=Ud,Ub:=Ub,Uc:=Uc,jw:=jw,Jm:=Jm,vo:=vo,vn:=vn,vM:=vM,vL:=vL,Vx:=Vx,Vy:=Vy },{ Vb:=mg_of X G Vb,Jp:=⟨pg_Drawing,hd_Drawing,po_Drawing,sa_Drawing⟩,Jx:=Jx,JL:=JL,uD:=uD,Jr:=Jr,GC:=⟨_,jx (st:=vd) l_is_whole cc_is_whole k_is_whole,(jx (st:=vd) l_is_whole cc_is_whole k_is_whole).binds (ps:=["value"]) fun _ _ _ _ _ _ us hl=>match us,hl with|[_],_=>rfl⟩,GT:=mg_of X G a_is_whole,ZC:=⟨_,jx (st:=Uy) l_part_kinds cc_part_kinds k_part_kinds,(jx (st:=Uy) l_part_kinds cc_part_kinds k_part_kinds).binds (ps:=["parts"]) fun _ _ _ _ _ _ us hl=>match us,hl with|[_],_=>rfl⟩,ZQ:=mg_of X G a_part_kinds,Zn:=⟨_,jx (st:=uU) l_joined_pins cc_joined_pins k_joined_pins,(jx (st:=uU) l_joined_pins cc_joined_pins k_joined_pins).binds (ps:=["parts","nets"]) fun _ _ _ _ _ _ us hl=>match us,hl with|[_,_],_=>rfl⟩,Zy:=mg_of X G a_joined_pins,gT:=⟨_,jx (st:=UV) l_part_pins cc_part_pins k_part_pins,(jx (st:=UV) l_part_pins cc_part_pins k_part_pins).binds (ps:=["parts"]) fun _ _ _ _ _ _ us hl=>match us,hl with|[_],_=>rfl⟩,Gb:=mg_of X G a_part_pins,gR:=⟨_,jx (st:=UU) l_need_rows cc_need_rows k_need_rows,(jx (st:=UU) l_need_rows cc_need_rows k_need_rows).binds (ps:=["rows","most","need_row"]) fun _ _ _ _ _ _ us hl=>match us,hl with|[_,_,_],_=>rfl⟩,Ga:=mg_of X G a_need_rows,gQ:=⟨_,jx (st:=UT) l_need_part cc_need_part k_need_part,(jx (st:=UT) l_need_part cc_need_part k_need_part).binds (ps:=["part"]) fun _ _ _ _ _ _ us hl=>match us,hl with|[_],_=>rfl⟩,VM:=mg_of X G a_need_part,GI:=⟨_,jx (st:=vi) l_need_net cc_need_net k_need_net,(jx (st:=vi) l_need_net cc_need_net k_need_net).binds (ps:=["net"]) fun _ _ _ _ _ _ us hl=>match us,hl with|[_],_=>rfl⟩,V4:=mg_of X G a_need_net,K6:=⟨_,jx (st:=v1) l_is_pin cc_is_pin k_is_pin,(jx (st:=v1) l_is_pin cc_is_pin k_is_pin).binds (ps:=["value"]) fun _ _ _ _ _ _ us hl=>match us,hl with|[_],_=>rfl⟩,mt:=mg_of X G a_is_pin,Kc:=⟨_,jx (st:=vI) l_is_name cc_is_name k_is_name,(jx (st:=vI) l_is_name cc_is_name k_is_name).binds (ps:=["value"]) fun _ _ _ _ _ _ us hl=>match us,hl with|[_],_=>rfl⟩,Kq:=mg_of X G a_is_name,GD:=⟨_,jx (st:=ve) l_law_cell cc_law_cell k_law_cell,(jx (st:=ve) l_law_cell cc_law_cell k_law_cell).binds (ps:=["_law_script","_law_k"]) fun _ _ _ _ _ _ us hl=>match us,hl with|[_,_],_=>rfl⟩,gW:=mg_of X G a_law_cell,gK:=⟨_,jx (st:=UP) l_law_mixed cc_law_mixed k_law_mixed,(jx (st:=UP) l_law_mixed cc_law_mixed k_law_mixed).binds (ps:=["_law_cell_here","_law_k"]) fun _ _ _ _ _ _ us hl=>match us,hl with|[_,_],_=>rfl⟩,ZM:=mg_of X G a_law_mixed,gO:=⟨_,jx (st:=US) l_law_twice cc_law_twice k_law_twice,(jx (st:=US) l_law_twice cc_law_twice k_law_twice).binds (ps:=["_law_cell_here","_law_k"]) fun _ _ _ _ _ _ us hl=>match us,hl with|[_,_],_=>rfl⟩,ZP:=mg_of X G a_law_twice,GH:=⟨_,jx (st:=vh) l_law_well cc_law_well k_law_well,(jx (st:=vh) l_law_well cc_law_well k_law_well).binds (ps:=["_law_script","_law_k"]) fun _ _ _ _ _ _ us hl=>match us,hl with|[_,_],_=>rfl⟩,g9:=mg_of X G a_law_well,GE:=⟨_,jx (st:=vf) l_law_draw cc_law_draw k_law_draw,(jx (st:=vf) l_law_draw cc_law_draw k_law_draw).binds (ps:=["_law_well_here","_law_most"]) fun _ _ _ _ _ _ us hl=>match us,hl with|[_,_],_=>rfl⟩,gX:=mg_of X G a_law_draw,gL:=⟨_,jx (st:=UQ) l_law_parts cc_law_parts k_law_parts,(jx (st:=UQ) l_law_parts cc_law_parts k_law_parts).binds (ps:=["_law_well_here"]) fun _ _ _ _ _ _ us hl=>match us,hl with|[_],_=>rfl⟩,ZN:=mg_of X G a_law_parts,zC:=ch_law_nets,vv:=vv,GG:=⟨_,MN (st:=ul) l_law_nets cc_law_nets k_law_nets ch_law_nets,(MN (st:=ul) l_law_nets cc_law_nets k_law_nets ch_law_nets).binds (ps:=["_law_well_here","_law_parts_here"]) fun _ _ _ _ _ _ us hl=>match us,hl with|[_,_],_=>rfl⟩,gZ:=mg_of X G a_law_nets,Zs:=⟨_,jx (st:=uZ) l_law_renamed cc_law_renamed k_law_renamed,(jx (st:=uZ) l_law_renamed cc_law_renamed k_law_renamed).binds (ps:=["_law_nets_here","_law_name","_law_other"]) fun _ _ _ _ _ _ us hl=>match us,hl with|[_,_,_],_=>rfl⟩,zO:=mg_of X G a_law_renamed,Zp:=⟨_,jx (st:=uW) l_law_counted cc_law_counted k_law_counted,(jx (st:=uW) l_law_counted cc_law_counted k_law_counted).binds (ps:=["_law_nets_here","_law_name","_law_many"]) fun _ _ _ _ _ _ us hl=>match us,hl with|[_,_,_],_=>rfl⟩,zL:=mg_of X G a_law_counted,gJ:=⟨_,jx (st:=UO) l_law_crowd cc_law_crowd k_law_crowd,(jx (st:=UO) l_law_crowd cc_law_crowd k_law_crowd).binds (ps:=["_law_well_here","_law_parts_here","_law_nets_here"]) fun _ _ _ _ _ _ us hl=>match us,hl with|[_,_,_],_=>rfl⟩,ZL:=mg_of X G a_law_crowd,zH:=⟨_,jx (st:=uG) l_law_bad_part cc_law_bad_part k_law_bad_part,(jx (st:=uG) l_law_bad_part cc_law_bad_part k_law_bad_part).binds (ps:=["_law_well_here","_law_parts_here","_law_nets_here"]) fun _ _ _ _ _ _ us hl=>match us,hl with|[_,_,_],_=>rfl⟩,zv:=mg_of X G a_law_bad_part,Zo:=⟨_,jx (st:=uV) l_law_bad_net cc_law_bad_net k_law_bad_net,(jx (st:=uV) l_law_bad_net cc_law_bad_net k_law_bad_net).binds (ps:=["_law_well_here","_law_nets_here"]) fun _ _ _ _ _ _ us hl=>match us,hl with|[_,_],_=>rfl⟩,zK:=mg_of X G a_law_bad_net,Zq:=⟨_,jx (st:=uX) l_law_is_name cc_law_is_name k_law_is_name,(jx (st:=uX) l_law_is_name cc_law_is_name k_law_is_name).binds (ps:=["_law_text"]) fun _ _ _ _ _ _ us hl=>match us,hl with|[_],_=>rfl⟩,zM:=mg_of X G a_law_is_name,ZB:=⟨_,jx (st:=Ux) l_law_unlike cc_law_unlike k_law_unlike,(jx (st:=Ux) l_law_unlike cc_law_unlike k_law_unlike).binds (ps:=["_law_names"]) fun _ _ _ _ _ _ us hl=>match us,hl with|[_],_=>rfl⟩,Zx:=mg_of X G a_law_unlike,GF:=⟨_,jx (st:=vg) l_law_good cc_law_good k_law_good,(jx (st:=vg) l_law_good cc_law_good k_law_good).binds (ps:=["_law_parts_here","_law_nets_here"]) fun _ _ _ _ _ _ us hl=>match us,hl with|[_,_],_=>rfl⟩,gY:=mg_of X G a_law_good,Zr:=⟨_,jx (st:=uY) l_law_refused cc_law_refused k_law_refused,(jx (st:=uY) l_law_refused cc_law_refused k_law_refused).binds (ps:=["_law_parts_here","_law_nets_here"]) fun _ _ _ _ _ _ us hl=>match us,hl with|[_,_],_=>rfl⟩,zN:=mg_of X G a_law_refused,ZA:=⟨_,jx (st:=Uw) l_law_no_pin cc_law_no_pin k_law_no_pin,(jx (st:=Uw) l_law_no_pin cc_law_no_pin k_law_no_pin).binds (ps:=["_law_drawing","_law_pin"]) fun _ _ _ _ _ _ us hl=>match us,hl with|[_,_],_=>rfl⟩,Zw:=mg_of X G a_law_no_pin,gM:=⟨_,jx (st:=UR) l_law_right cc_law_right k_law_right,(jx (st:=UR) l_law_right cc_law_right k_law_right).binds (ps:=["_law_parts_here","_law_nets_here"]) fun _ _ _ _ _ _ us hl=>match us,hl with|[_,_],_=>rfl⟩,ZO:=mg_of X G a_law_right,zF:=⟨_,jx (st:=uE) l_Drawing_init cc_Drawing_init k_Drawing_init,(jx (st:=uE) l_Drawing_init cc_Drawing_init k_Drawing_init).binds (ps:=["self","parts","nets"]) fun _ _ _ _ _ _ us hl=>match us,hl with|[_,_,_],_=>rfl⟩,Kf:=⟨mk_Drawing,a_Drawing_init,i_Drawing_init,kc_Drawing⟩,zG:=⟨_,jx (st:=uF) l_Drawing_pins cc_Drawing_pins k_Drawing_pins,(jx (st:=uF) l_Drawing_pins cc_Drawing_pins k_Drawing_pins).binds (ps:=["self"]) fun _ _ _ _ _ _ us hl=>match us,hl with|[_],_=>rfl⟩,zI:=⟨a_Drawing_pins,i_Drawing_pins,k_Drawing_pins⟩,V9:=⟨_,jx (st:=JV) l_Drawing_net_of cc_Drawing_net_of k_Drawing_net_of,(jx (st:=JV) l_Drawing_net_of cc_Drawing_net_of k_Drawing_net_of).binds (ps:=["self","pin"]) fun _ _ _ _ _ _ us hl=>match us,hl with|[_,_],_=>rfl⟩,za:=⟨a_Drawing_net_of,i_Drawing_net_of,k_Drawing_net_of⟩,VX:=⟨_,jx (st:=JK) l_Drawing_has_pin cc_Drawing_has_pin k_Drawing_has_pin,(jx (st:=JK) l_Drawing_has_pin cc_Drawing_has_pin k_Drawing_has_pin).binds (ps:=["self","pin"]) fun _ _ _ _ _ _ us hl=>match us,hl with|[_,_],_=>rfl⟩,VY:=⟨a_Drawing_has_pin,i_Drawing_has_pin,k_Drawing_has_pin⟩,bU:=⟨_,jx (st:=Zk) l_law cc_law k_law,fun s u=>.of_eq rfl⟩,ck:=mg_of X G a_law,UC:=mg_of X G UC,Vg:=mg_of X G Vg,Vd:=mg_of X G Vd,Vf:=mg_of X G Vf,UN:=mg_of X G UN,Ve:=mg_of X G Ve,JB:=⟨mg_of X G UN,x_NoDrawing⟩,ze:=⟨x_NoDrawing,ga_NoDrawing,gt_NoDrawing,gc_NoDrawing,ge_NoDrawing,gk_NoDrawing,mo_NoDrawing,mb_NoDrawing⟩,MI:=⟨mg_of X G Ve,x_NoPin⟩,a4:=⟨x_NoPin,ga_NoPin,gt_NoPin,gc_NoPin,ge_NoPin,gk_NoPin,mo_NoPin,mb_NoPin⟩,Jo:=Jo,Ur:=Ur,Jt:=Jt,U2:=U2,jT:=mg_none_of X G jT,Za:=mg_none_of X G Za,zi:=mg_none_of X G zi,Vt:=mg_none_of X G Vt,u5:=mg_none_of X G u5,Vi:=mg_none_of X G Vi,ue:=mg_none_of X G ue,uO:=mg_none_of X G uO,uR:=mg_none_of X G uR,Zb:=mg_none_of X G Zb,z8:=mg_none_of X G z8,gw:=mg_none_of X G gw,uM:=mg_of X G uM,U0:=mg_of X G U0,UM:=mg_of X G UM,vq:=mg_of X G vq,Vc:=mg_of X G Vc,vF:=mg_of X G vF },List.forall_mem_cons.mpr ⟨tb_law_nets,fun _ h=>nomatch h⟩⟩
theorem ZS {b:Bool}{A B:Prop} (h1:b=true→A) (h2:b=false→B):if b=true then A else B:=by
 cases b
 ·rw [if_neg Bool.false_ne_true];exact h2 rfl
 ·rw [if_pos rfl];exact h1 rfl
theorem Uz {b:Bool}{A B:Prop} (h1:b=false→A) (h2:b=true→B):if (!b)=true then A else B:=by
 cases b
 ·exact (if_pos (show (!false)=true from rfl))▸h1 rfl
 ·rw [if_neg (by decide)];exact h2 rfl
theorem uk {c A B:Prop} [Decidable c] (h1:c→A) (h2:¬c→B):if decide c=true then A else B:=by
 by_cases h:c
 ·rw [if_pos (decide_eq_true h)];exact h1 h
 ·rw [if_neg (by simp [h])];exact h2 h
theorem jf {p:Addr}{H H':Hp}{o:HO} (x:Same H H') (hp:H' p=none):Same H (L2.upd H' p o):=fun b u e=>by
 have:=x b u e
 rw [jj (jp this hp)];exact this
def jS (H:Hp) (a:Addr):Prop:=∃m c j:Int,H a=some (.lst [.int m,.int c,.int j])
def jX (a:Addr) (H H':Hp):Prop:=∀b o,b≠a→H b=some o→H' b=some o
theorem jX.refl (a:Addr) (H:Hp):jX a H H:=fun _ _ _ e=>e
theorem jX.trans {a:Addr}{H H1 H2:Hp} (x:jX a H H1) (y:jX a H1 H2):jX a H H2:=fun b o n e=>y b o n (x b o n e)
theorem jX.upd {a:Addr}{H:Hp} (o:HO):jX a H (upd H a o):=fun b u n e=>by rw [jj n];exact e
theorem jX.new {a p:Addr}{H H':Hp}{o:HO} (x:jX a H H') (hp:H' p=none):jX a H (L2.upd H' p o):=fun b u n e=>by
 have:=x b u n e
 rw [jj (jp this hp)];exact this
theorem jS.ne {H:Hp}{a p:Addr} (W:jS H a) (hp:H p=none):a≠p:=by
 obtain⟨m,c,j,e⟩:=W
 exact jp e hp
theorem jS.new {H:Hp}{a p:Addr}{o:HO} (W:jS H a) (hp:H p=none):jS (L2.upd H p o) a:=by
 obtain⟨m,c,j,e⟩:=id W
 exact⟨m,c,j,by rw [jj (W.ne hp)];exact e⟩
theorem jl.keep {K:oq}{H H':Hp}{a b:Addr}{xs:List V} (h:jl K H b xs) (k:jX a H H') (n:b≠a):jl K H' b xs:=by
 rcases h with (h|⟨o,h⟩)|h
 ·exact .inl (.inl (k b _ n h))
 ·exact .inl (.inr ⟨o,k b _ n h⟩)
 ·exact .inr h
section
variable {P:oM}{w:World}{K:oq}{mg:ox}{base:Heap}{t:Adr}
def fY (K:oq):Sp:=fun vs H Q _=>∃(a:Addr) (ns:List Int) (k:Int),vs=[.ref a,.int k]∧jl K H a (ns.map V.int)∧0≤k∧k<1000∧ns.length≤63∧Q (.int (ns.getD k.toNat 0)) H
theorem Mo (T:Txt K mg t):Ju P w K mg base 1 "_law_cell" ["_law_script","_law_k"] (fY K):=by
 obtain⟨fd,F,b⟩:=T.GD
 refine⟨_,fd,F.okX Mu (fun vs H Q E h=>?_) (fun cdv A outer s H vs Q E hr h=>?_),b,F.kp,T.gW⟩
 ·obtain⟨a,ns,k,rfl,_⟩:=h
  rfl
 ·obtain⟨a,ns,k,rfl,hq,h0,h1,hl,q⟩:=h
  refine⟨_,(jg (jV (jA K2 (pv 1) (jz Jc (by rfl) T.ue u9 (ja (pv 0) je)) (jG _)) (jm (jN (jK Jf (pv 0) (pv 1) (fun _ _=>rfl)))) jI)
   (jm (jN jh))),?_⟩
  refine⟨_,rfl,_,rfl,a,_,rfl,.inl hq,k,_,rfl,rfl,_,rfl,uk (fun hlt=>?_) fun hge=>?_⟩
  ·rw [List.length_map] at hlt
   have e:((k.toNat:Nat):Int)=k:=by omega
   refine⟨_,rfl,_,rfl,a,_,k,.int (ns.getD k.toNat 0),rfl,rfl,hq,?_,q⟩
   have hlt2:k.toNat<ns.length:=by omega
   have hz:(ns.map V.int)[k.toNat]?=some (V.int (ns.getD k.toNat 0)):=by
    rw [List.getElem?_map,List.getD_eq_getElem?_getD,List.getElem?_eq_getElem hlt2];rfl
   have hz2:=JN hz
   rwa [e] at hz2
  ·rw [List.length_map] at hge
   have e:ns.getD k.toNat 0=0:=by rw [List.getD_eq_getElem?_getD,List.getElem?_eq_none (by omega)];rfl
   rw [e] at q
   exact q
def cG:Sp:=fun vs H Q _=>∃c k,vs=[.int c,.int k]∧∀r,0≤r→r<2147483647→Q (.int r) H
theorem mP (T:Txt K mg t):Ju P w K mg base 1 "_law_mixed" ["_law_cell_here","_law_k"] cG:=by
 obtain⟨fd,F,b⟩:=T.gK
 refine⟨_,fd,F.okX Z7 (fun vs H Q E h=>?_) (fun cdv A outer s H vs Q E hr h=>?_),b,F.kp,T.ZM⟩
 ·obtain⟨c,k,rfl,_⟩:=h
  rfl
 ·obtain⟨c,k,rfl,q⟩:=h
  refine⟨_,(jg (jB (i:=2) Z7.nd rfl (Or.inl rfl) (jP VQ (jP zS (jP Uv (jP Uv (pv 0) (jP zS jh (pv 1))) jh) jh) jh))
   (jm (jN (jP VQ (jP zS (pv 2) (jP Uv (jP zR (pv 2) jh) jh)) jh)))),?_⟩
  refine⟨_,rfl,_,rfl,7919,k,rfl,rfl,.inl ⟨by decide,by decide⟩,_,_,rfl,rfl,_,_,rfl,rfl,_,48271,rfl,rfl,.inr ⟨by decide,by decide⟩,_,_,rfl,rfl,(by show (0:Int)<2147483647;decide),?_⟩
  have h0:0≤(c+7919*k+1)*48271 % 2147483647:=Int.emod_nonneg _ (by decide)
  have h1:(c+7919*k+1)*48271 % 2147483647<2147483647:=Int.emod_lt_of_pos _ (by decide)
  obtain⟨n,hn⟩:∃n,n=(c+7919*k+1)*48271 % 2147483647:=⟨_,rfl⟩
  rw [←hn] at h0 h1
  refine⟨_,rfl,_,rfl,n,1009,congrArg V.int hn.symm,rfl,⟨by decide,by decide⟩,_,_,rfl,rfl,n,_,congrArg V.int hn.symm,rfl,.inl ⟨by omega,by omega⟩,_,_,rfl,rfl,(by show (0:Int)<2147483647;decide),?_⟩
  exact q _ (Int.emod_nonneg _ (by decide)) (Int.emod_lt_of_pos _ (by decide))
theorem mS (T:Txt K mg t):Ju P w K mg base 2 "_law_twice" ["_law_cell_here","_law_k"] cG:=by
 obtain⟨fd,F,b⟩:=T.gO
 have G_law_mixed:=mP (P:=P) (w:=w) (base:=base) T
 refine⟨_,fd,F.okX Z8 (fun vs H Q E h=>?_) (fun cdv A outer s H vs Q E hr h=>?_),b,F.kp,T.ZP⟩
 ·obtain⟨c,k,rfl,_⟩:=h
  rfl
 ·obtain⟨c,k,rfl,q⟩:=h
  refine⟨_,(jg (jB (i:=2) Z8.nd rfl (Or.inl rfl) (jP VQ (jP zS (jP Uv (jP Uv (jr G_law_mixed hr.m jq (by rfl) (ja (pv 0) (ja (pv 1) je))) (jP zS jh (pv 1))) jh) jh) jh))
   (jm (jN (jP VQ (jP zS (pv 2) (jP Uv (jP zR (pv 2) jh) jh)) jh)))),?_⟩
  refine⟨_,rfl,_,rfl,c,k,rfl,fun r hr0 hr1=>?_⟩
  refine⟨_,rfl,104729,k,rfl,rfl,.inl ⟨by decide,by decide⟩,r,_,rfl,rfl,_,_,rfl,rfl,_,69621,rfl,rfl,.inr ⟨by decide,by decide⟩,_,_,rfl,rfl,(by show (0:Int)<2147483647;decide),?_⟩
  have h0:0≤(r+104729*k+11)*69621 % 2147483647:=Int.emod_nonneg _ (by decide)
  have h1:(r+104729*k+11)*69621 % 2147483647<2147483647:=Int.emod_lt_of_pos _ (by decide)
  obtain⟨n,hn⟩:∃n,n=(r+104729*k+11)*69621 % 2147483647:=⟨_,rfl⟩
  rw [←hn] at h0 h1
  refine⟨_,rfl,_,rfl,n,1013,congrArg V.int hn.symm,rfl,⟨by decide,by decide⟩,_,_,rfl,rfl,n,_,congrArg V.int hn.symm,rfl,.inl ⟨by omega,by omega⟩,_,_,rfl,rfl,(by show (0:Int)<2147483647;decide),?_⟩
  exact q _ (Int.emod_nonneg _ (by decide)) (Int.emod_lt_of_pos _ (by decide))
def hU (K:oq):Sp:=fun vs H Q _=>∃(a:Addr) (ns:List Int) (k:Int),vs=[.ref a,.int k]∧jl K H a (ns.map V.int)∧0≤k∧k<1000∧ns.length≤63∧∀p m c,H p=none→Q (.ref p) (upd H p (.lst [.int m,.int c,.int 0]))
theorem Mr (T:Txt K mg t):Ju P w K mg base 2 "_law_well" ["_law_script","_law_k"] (hU K):=by
 obtain⟨fd,F,b⟩:=T.GH
 have G_law_cell:=Mo (P:=P) (w:=w) (base:=base) T
 refine⟨_,fd,F.okX Mv (fun vs H Q E h=>?_) (fun cdv A outer s H vs Q E hr h=>?_),b,F.kp,T.g9⟩
 ·obtain⟨a,ns,k,rfl,_⟩:=h
  rfl
 ·obtain⟨a,ns,k,rfl,hq,h0,h1,hl,q⟩:=h
  refine⟨_,(jm (jN (jW (ja (jP VQ (jr G_law_cell hr.m jq (by rfl) (ja (pv 0) (ja jh je))) jh) (ja (jr G_law_cell hr.m jq (by rfl) (ja (pv 0) (ja (pv 1) je))) (ja jh je)))))),?_⟩
  refine⟨_,rfl,a,ns,0,rfl,hq,by decide,by decide,hl,_,2,rfl,rfl,(by show (0:Int)<2;decide),_,rfl,_,rfl,a,ns,k,rfl,hq,h0,h1,hl,(by show 3≤sizeLine;decide),fun p hp=>q p _ _ hp⟩
def aD:Sp:=fun vs H Q _=>∃a n,vs=[.ref a,.int n]∧jS H a∧0<n∧n<1073741824∧∀r H',0≤r→r<n→jS H' a→jX a H H'→Q (.int r) H'
theorem vw (T:Txt K mg t):Ju P w K mg base 3 "_law_draw" ["_law_well_here","_law_most"] aD:=by
 obtain⟨fd,F,b⟩:=T.GE
 have G_law_twice:=mS (P:=P) (w:=w) (base:=base) T
 refine⟨_,fd,F.okX Gj (fun vs H Q E h=>?_) (fun cdv A outer s H vs Q E hr h=>?_),b,F.kp,T.gX⟩
 ·obtain⟨a,n,rfl,_⟩:=h
  rfl
 ·obtain⟨a,n,rfl,⟨m,c,j,hw⟩,hn,hn2,q⟩:=h
  refine⟨_,(jg (jV (jA vc (jK Jf (pv 0) jh (fun _ _=>rfl)) jh (jG _)) (jg (jB (i:=2) Gj.nd rfl (Or.inl rfl) (jP VQ (jK Jf (pv 0) jh (fun _ _=>rfl)) (pv 1)))
   (jg (Z4 (jP zR (jK Jf (pv 0) jh (fun _ _=>rfl)) (pv 1)) (aq (pv 0) jh Mc))
   (jm (jN (pv 2))))) jI)
   (jg (Z4 (jP Uv (jK Jf (pv 0) jh (fun _ _=>rfl)) jh) (aq (pv 0) jh Mc))
   (jm (jN (jP VQ (jr G_law_twice hr.m jq (by rfl) (ja (jK Jf (pv 0) jh (fun _ _=>rfl)) (ja (jK Jf (pv 0) jh (fun _ _=>rfl)) je))) (pv 1)))))),?_⟩
  have S:jl K H a [.int m,.int c,.int j]:=jl.of hw
  refine⟨_,rfl,a,_,0,.int m,rfl,rfl,S,rfl,rfl,_,rfl,uk (fun _=>?_) fun _=>?_⟩
  ·refine⟨_,rfl,a,_,1,.int c,rfl,rfl,S,rfl,_,rfl,c,n,rfl,rfl,hn,?_⟩
   refine⟨_,rfl,a,_,1,.int c,rfl,rfl,S,rfl,_,rfl,c,n,rfl,rfl,⟨hn,hn2⟩,_,rfl,a,_,1,1,rfl,rfl,hw,rfl,?_⟩
   exact⟨_,rfl,q _ _ (Int.emod_nonneg _ (by omega)) (Int.emod_lt_of_pos _ hn) ⟨m,c / n,j,jd⟩ (jX.upd _)⟩
  ·refine⟨_,rfl,a,_,2,.int j,rfl,rfl,S,rfl,j,1,rfl,rfl,_,rfl,a,_,2,2,rfl,rfl,hw,rfl,?_⟩
   have S2:jl K (upd H a (.lst [.int m,.int c,.int (j+1)])) a [.int m,.int c,.int (j+1)]:=jl.of jd
   refine⟨_,rfl,a,_,1,.int c,rfl,rfl,S2,rfl,_,rfl,a,_,2,.int (j+1),rfl,rfl,S2,rfl,c,j+1,rfl,fun r h0 h1=>?_⟩
   exact⟨_,rfl,r,n,rfl,rfl,hn,q _ _ (Int.emod_nonneg _ (by omega)) (Int.emod_lt_of_pos _ hn) ⟨m,c,j+1,jd⟩ (jX.upd _)⟩
end
end K41
namespace K41
open PySem L2 Wd TS
def Gc (c:Nat) (z:Str):Bool:=!(Builtin.Str.occurrences z ⟨#[c]⟩ 0 z.length 1).isEmpty
def LO:Str:="abcdefghijklmnopqrstuvwxyz"
def LF:Str:="abcdefghijklmnopqrstuvwxyz0123456789"
def ba (x:Str):Bool:=match x.cps.toList with|c::_=>Gc c LO|[]=>false
def Jd (x:Str):Bool:=(decide ((1:Int)≤x.length)&&decide ((x.length:Int)≤8))&&(ba x&&(x.cps.toList.map fun c=>Gc c LF).all id)
theorem MM {x:Str} (h:(1:Int)≤x.length):∃c,Zu x.cps.toList 0=some c∧ba x=Gc c LO:=by
 have hn:x.length=x.cps.toList.length:=Wd.len_list x
 unfold ba
 cases e:x.cps.toList with
 | nil=>rw [e] at hn;rw [hn] at h;exact absurd h (by decide)
 | cons c r=>exact⟨c,JN (j:=0) rfl,rfl⟩
section
variable {P:oM}{w:World}{K:oq}{mg:ox}{base:Heap}{t:Adr}
def MO (v:V):Bool:=match v with|.int _=>true|.bl _=>true|_=>false
def lS (v:V):Bool:=match v with|.int _=>true|_=>false
def aE:Sp:=fun vs H Q _=>∃v,vs=[v]∧MO v=true∧Q (.bl (lS v)) H
theorem Gg (T:Txt K mg t):Ju P w K mg base 1 "is_whole" ["value"] aE:=by
 obtain⟨fd,F,b⟩:=T.GC
 refine⟨_,fd,F.okX Mt (fun vs H Q E h=>?_) (fun cdv A outer s H vs Q E hr h=>?_),b,F.kp,T.GT⟩
 ·obtain⟨v,rfl,_⟩:=h
  rfl
 ·obtain⟨v,rfl,hv,k⟩:=h
  refine⟨_,(jm (jN (vH (jz Ut (by rfl) T.jT Jl (ja (pv 0) (ja (U3 (v:=.ty "int") (by rfl) T.Za b9 rfl) je))) (VR (ao (jz Ut (by rfl) T.jT Jl (ja (pv 0) (ja (U3 (v:=.ty "bool") (by rfl) T.zi Nm rfl) je)))))))),?_⟩
  cases v with
  | int i=>exact⟨_,rfl,.int i,.ty "int",_,_,true,rfl,.int i,.ty _,by kernel_rfl,true,rfl,Uu ⟨_,rfl,.int i,.ty "bool",_,_,false,rfl,.int i,.ty _,by kernel_rfl,false,rfl,k⟩⟩
  | bl x=>exact⟨_,rfl,.bl x,.ty "int",_,_,true,rfl,.bl x,.ty _,by kernel_rfl,true,rfl,Uu ⟨_,rfl,.bl x,.ty "bool",_,_,true,rfl,.bl x,.ty _,by kernel_rfl,true,rfl,k⟩⟩
  | _=>cases hv
def aF:Sp:=fun vs H Q _=>∃x:Str,vs=[.str x]∧x.length≤1000∧∀H',Same H H'→Q (.bl (Jd x)) H'
theorem kf (T:Txt K mg t):Ju P w K mg base 1 "is_name" ["value"] aF:=by
 obtain⟨fd,F,b⟩:=T.Kc
 refine⟨_,fd,F.okX n0 (fun vs H Q E h=>?_) (fun cdv A outer s H vs Q E hr h=>?_),b,F.kp,T.Kq⟩
 ·obtain⟨v,rfl,_⟩:=h
  rfl
 ·obtain⟨x,rfl,hl,k⟩:=h
  refine⟨_,(jg (jV (UA (Jz (JR (jz Ut (by rfl) T.jT Jl (ja (pv 0) (ja (U3 (v:=.ty "str") (by rfl) T.Vt gi rfl) je))))) (u8 (Jz (Gw Ze Ze jh (jz ZH (by rfl) T.ue u9 (ja (pv 0) je)) (JY (v:=.int 8) (by rfl) T.uM ⟨_,rfl⟩))))).pt (jm (jN UY)) jI)
   (jm (jN (vH (vR Ky (jK ZT (pv 0) jh (fun _ _=>rfl)) (JY (v:=.str "abcdefghijklmnopqrstuvwxyz") (by rfl) T.vF ⟨_,rfl⟩) (by with_unfolding_all rfl)) (VR (jz (zJ rfl) (by rfl) T.z8 bZ (ja (Uo (own:=["sign"]) (Vq (N:=["value"]) rfl (by rfl) (by decide +kernel) (by decide +kernel) (by decide +kernel)) (au (pv 0)) (fun _ _ _ _ _=>ju (i:=1) (by show (["value","sign"]:oG).Nodup;decide +kernel) rfl (Or.inl rfl)) (fun _ _ _ _ _=>U4) (fun _ _ _ _ _=>(vR Ky (pv 1) (jP vQ (JY (v:=.str "abcdefghijklmnopqrstuvwxyz") (by rfl) T.vF ⟨_,rfl⟩) (JY (v:=.str "0123456789") (by rfl) T.Vc ⟨_,rfl⟩)) (by with_unfolding_all rfl)))) je))))))),?_⟩
  have hz:x.length≤sizeLine:=Nat.le_trans hl (by decide)
  unfold Jd at k
  refine⟨_,rfl,.str x,.ty "str",_,_,true,rfl,.str x,.ty _,by kernel_rfl,true,rfl,U1 ⟨_,rfl,x,rfl,hz,1,_,rfl,rfl,_,rfl,uk (fun h1=>⟨_,8,rfl,rfl,_,rfl,Uz (fun h2=>?_) fun h2=>?_⟩) fun h1=>⟨false,rfl,?_⟩⟩⟩
  ·rw [h2,Bool.and_false,Bool.false_and] at k
   exact k _ (Same.refl H)
  ·rw [h2,decide_eq_true h1,Bool.true_and,Bool.true_and] at k
   obtain⟨c,e1,e2⟩:=MM h1
   rw [e2] at k
   refine⟨_,rfl,x,0,c,rfl,rfl,hz,e1,_,_,rfl,rfl,_,rfl,ZS (fun h3=>?_) fun h3=>?_⟩
   ·have h3:Gc c LO=true:=h3
    rw [h3,Bool.true_and] at k
    refine⟨_,rfl,_,rfl,mj (fun _=>true) (fun c=>.bl (Gc c LF)) hz (fun c hc H' Qy Qn s' kY kN=>⟨⟨[some (.str ⟨#[c]⟩)],rfl,rfl⟩,Uu ⟨_,rfl,_,_,rfl,rfl,by decide,_,_,rfl,rfl,kY rfl _ (Same.refl _)⟩⟩) fun D H1 hD s1 eD=>?_⟩
    rw [List.filter_eq_self.mpr (fun _ _=>rfl)] at eD
    refine⟨D,x.cps.toList.map fun c=>Gc c LF,rfl,jl.of (by rw [eD,List.map_map];rfl),k _ s1⟩
   ·have h3:Gc c LO=false:=h3
    rw [h3,Bool.false_and] at k
    exact k _ (Same.refl H)
  ·rw [decide_eq_false h1,Bool.false_and,Bool.false_and] at k
   exact k _ (Same.refl H)
def iI:Sp:=fun vs H Q _=>∃(p:Addr) (x:Str) (n:Int),vs=[.ref p]∧H p=some (.tup [.str x,.int n])∧Q (.bl true) H
theorem Kw (T:Txt K mg t):Ju P w K mg base 2 "is_pin" ["value"] iI:=by
 obtain⟨fd,F,b⟩:=T.K6
 have G_is_whole:=Gg (P:=P) (w:=w) (base:=base) T
 refine⟨_,fd,F.okX az (fun vs H Q E h=>?_) (fun cdv A outer s H vs Q E hr h=>?_),b,F.kp,T.mt⟩
 ·obtain⟨p,x,n,rfl,_⟩:=h
  rfl
 ·obtain⟨p,x,n,rfl,hp,k⟩:=h
  refine⟨_,(jm (jN (vH (jz Ut (by rfl) T.jT Jl (ja (pv 0) (ja (U3 (v:=.ty "tuple") (by rfl) T.Vi kF rfl) je))) (vH (vR vc (jz Jc (by rfl) T.ue u9 (ja (pv 0) je)) jh (jG _)) (vH (jz Ut (by rfl) T.jT Jl (ja (jK u4 (pv 0) jh (fun _ _=>rfl)) (ja (U3 (v:=.ty "str") (by rfl) T.Vt gi rfl) je))) (VR (jr G_is_whole hr.m jq (by rfl) (ja (jK u4 (pv 0) jh (fun _ _=>rfl)) je)))))))),?_⟩
  refine⟨_,rfl,.ref p,.ty "tuple",_,_,true,rfl,.tup hp,.ty _,by kernel_rfl,true,rfl,Uu ⟨_,rfl,p,_,rfl,.inr (Ji.of hp),rfl,true,rfl,Uu ⟨_,rfl,p,_,0,.str x,rfl,rfl,Ji.of hp,rfl,.str x,.ty "str",_,_,true,rfl,.str x,.ty _,by kernel_rfl,true,rfl,Uu ⟨_,rfl,p,_,1,.int n,rfl,rfl,Ji.of hp,rfl,.int n,rfl,rfl,k⟩⟩⟩⟩
structure jJ where
 name:Str
 kind:Str
 many:V
def jJ.many? (x:jJ):Bool:=match x.many with|.int n=>decide (1≤n)&&decide (n≤8)|_=>false
def jJ.good (x:jJ):Bool:=Jd x.name&&Jd x.kind&&x.many?
def dE (C:Addr):Sp:=fun vs H Q E=>∃(p:Addr) (x:jJ),vs=[.ref p]∧H p=some (.tup [.str x.name,.str x.kind,x.many])∧x.name.length≤1000∧x.kind.length≤1000∧MO x.many=true∧(x.good=true→∀H',Same H H'→Q .non H')∧(x.good=false→∀H',Same H H'→E (.ref C) none H')
theorem mT (T:Txt K mg t):Ju P w K mg base 3 "need_part" ["part"] (dE t.jw):=by
 obtain⟨fd,F,b⟩:=T.gQ
 have G_is_whole:=Gg (P:=P) (w:=w) (base:=base) T
 have G_is_name:=kf (P:=P) (w:=w) (base:=base) T
 refine⟨_,fd,F.okX Mb (fun vs H Q E h=>?_) (fun cdv A outer s H vs Q E hr h=>?_),b,F.kp,T.VM⟩
 ·obtain⟨p,x,rfl,_⟩:=h
  rfl
 ·obtain⟨p,x,rfl,hp,h1,h2,hn,kQ,kE⟩:=h
  refine⟨_,(jg (jV (UA (Jz (JR (jz Ut (by rfl) T.jT Jl (ja (pv 0) (ja (U3 (v:=.ty "tuple") (by rfl) T.Vi kF rfl) je))))) (u8 (jA gA (jz Jc (by rfl) T.ue u9 (ja (pv 0) je)) jh (jG _)))).pt (jm (uT uz rfl T.JB rfl (ja jM je))) jI)
   (jg (jV (UA (Jz (JR (jr G_is_name hr.m jq (by rfl) (ja (jK u4 (pv 0) jh (fun _ _=>rfl)) je)))) (u8 (Jz (JR (jr G_is_name hr.m jq (by rfl) (ja (jK u4 (pv 0) jh (fun _ _=>rfl)) je)))))).pt (jm (uT uz rfl T.JB rfl (ja (Zf (by decide) (by decide) (JY (v:=.int 8) (by rfl) T.uM ⟨_,rfl⟩)) je))) jI)
   (jm (jV (UA (Jz (JR (jr G_is_whole hr.m jq (by rfl) (ja (jK u4 (pv 0) jh (fun _ _=>rfl)) je)))) (u8 (Jz (Gw Ze Ze jh (jK u4 (pv 0) jh (fun _ _=>rfl)) (JY (v:=.int 8) (by rfl) T.UM ⟨_,rfl⟩))))).pt (jm (uT uz rfl T.JB rfl (ja (Zf (by decide) (by decide) (JY (v:=.int 8) (by rfl) T.UM ⟨_,rfl⟩)) je))) jI)))),?_⟩
  have ng:∀{H':Hp},Same H H'→x.good=false→E (.ref t.jw) none H':=fun s' z=>kE z _ s'
  unfold jJ.good at kQ ng
  refine⟨_,rfl,.ref p,.ty "tuple",_,_,true,rfl,.tup hp,.ty _,by kernel_rfl,true,rfl,U1 ⟨_,rfl,p,_,rfl,.inr (Ji.of hp),rfl,_,rfl,Vs rfl ?_⟩⟩
  refine⟨_,rfl,p,_,0,.str x.name,rfl,rfl,Ji.of hp,rfl,x.name,rfl,h1,fun H1 s1=>⟨_,rfl,Uz (fun g=>⟨8,rfl,by decide,fun z=>⟨Vu,ng s1 (by rw [g];rfl)⟩⟩) fun g1=>?_⟩⟩
  refine⟨_,rfl,p,_,1,.str x.kind,rfl,rfl,Ji.of (s1 _ _ hp),rfl,x.kind,rfl,h2,fun H2 s2=>⟨_,rfl,Uz (fun g=>⟨8,rfl,by decide,fun z=>⟨Vu,ng (Same.trans s1 s2) (by rw [g1,g];rfl)⟩⟩) fun g2=>?_⟩⟩
  rw [g1,g2,Bool.true_and,Bool.true_and] at kQ ng
  have s02:=Same.trans s1 s2
  unfold jJ.many? at kQ ng
  refine⟨_,rfl,p,_,2,x.many,rfl,rfl,Ji.of (s02 _ _ hp),rfl,x.many,rfl,hn,_,rfl,?_⟩
  cases em:x.many with
  | int n =>
   rw [em] at kQ ng hp
   refine U1 ⟨_,rfl,p,_,2,.int n,rfl,rfl,Ji.of (s02 _ _ hp),rfl,1,n,rfl,rfl,_,rfl,uk (fun h3=>⟨n,8,rfl,rfl,_,rfl,Uz (fun h4=>?_) fun h4=>?_⟩) fun h3=>⟨false,rfl,?_⟩⟩
   ·exact⟨8,rfl,by decide,fun z=>⟨Vu,ng s02 (by show (decide _&&decide _)=false;rw [h4,Bool.and_false])⟩⟩
   ·exact kQ (by show (decide _&&decide _)=true;rw [h4,decide_eq_true h3];rfl) _ s02
   ·exact⟨8,rfl,by decide,fun z=>⟨Vu,ng s02 (by show (decide _&&decide _)=false;rw [decide_eq_false h3,Bool.false_and])⟩⟩
  | bl b =>
   rw [em] at ng
   exact⟨8,rfl,by decide,fun z=>⟨Vu,ng s02 rfl⟩⟩
  | _=>rw [em] at hn;cases hn
def kP (x:Str×Int):List Key:=[.inr x.1,.inl x.2]
abbrev j4:=Str×Int
def jD (H:Hp) (ps:oB) (xs:List j4):Prop:=Jv H ps (xs.map kP)
theorem jD.len {H:Hp}{ps:oB}{xs:List j4} (C:jD H ps xs):ps.length=xs.length:=by have:=C.1;rwa [List.length_map] at this
theorem jD.at_ {H:Hp}{ps:oB}{xs:List j4} (C:jD H ps xs) {i:Nat} {p:Addr} {x:j4} (h1:ps[i]?=some p) (h2:xs[i]?=some x):H p=some (.tup [.str x.1,.int x.2]) :=
 C.2 i p (kP x) h1 (by rw [List.getElem?_map,h2];rfl)
theorem jD.mem {H:Hp}{ps:oB}{xs:List j4} (C:jD H ps xs) {p:Addr} (h:p∈ps):∃x∈xs,H p=some (.tup [.str x.1,.int x.2]):=by
 obtain⟨i,hi,rfl⟩:=List.getElem_of_mem h
 have h2:i<xs.length:=by rw [←C.len];exact hi
 exact⟨_,List.getElem_mem h2,C.at_ (List.getElem?_eq_getElem hi) (List.getElem?_eq_getElem h2)⟩
theorem jD.mono {H H':Hp}{ps:oB}{xs:List j4} (C:jD H ps xs) (k:∀q ys,H q=some (.tup ys)→H' q=some (.tup ys)):jD H' ps xs:=⟨C.1,fun i p c h1 h2=>k _ _ (C.2 i p c h1 h2)⟩
def dD (C:Addr):Sp:=fun vs H Q E=>∃(p a:Addr) (x:Str) (ps:oB) (xs:List j4),vs=[.ref p]∧H p=some (.tup [.str x,.ref a])∧H a=some (.lst (ps.map V.ref))∧jD H ps xs∧x.length≤1000∧xs.length≤1000∧(Jd x=true∧xs≠[]→∀H',Same H H'→Q .non H')∧(¬(Jd x=true∧xs≠[])→∀H',Same H H'→E (.ref C) none H')
theorem Ms (T:Txt K mg t):Ju P w K mg base 3 "need_net" ["net"] (dD t.jw):=by
 obtain⟨fd,F,b⟩:=T.GI
 have G_is_pin:=Kw (P:=P) (w:=w) (base:=base) T
 have G_is_name:=kf (P:=P) (w:=w) (base:=base) T
 refine⟨_,fd,F.okX Mw (fun vs H Q E h=>?_) (fun cdv A outer s H vs Q E hr h=>?_),b,F.kp,T.V4⟩
 ·obtain⟨p,a,x,ps,xs,rfl,_⟩:=h
  rfl
 ·obtain⟨p,a,x,ps,xs,rfl,hp,ha,C,h1,h2,kQ,kE⟩:=h
  refine⟨_,(jg (jV (UA (Jz (JR (jz Ut (by rfl) T.jT Jl (ja (pv 0) (ja (U3 (v:=.ty "tuple") (by rfl) T.Vi kF rfl) je))))) (u8 (jA gA (jz Jc (by rfl) T.ue u9 (ja (pv 0) je)) jh (jG _)))).pt (jm (uT uz rfl T.JB rfl (ja jM je))) jI)
   (jg (jV (Jz (JR (jr G_is_name hr.m jq (by rfl) (ja (jK u4 (pv 0) jh (fun _ _=>rfl)) je)))) (jm (uT uz rfl T.JB rfl (ja (Zf (by decide) (by decide) (JY (v:=.int 8) (by rfl) T.uM ⟨_,rfl⟩)) je))) jI)
   (jg (jV (UA (Jz (JR (jz Ut (by rfl) T.jT Jl (ja (jK u4 (pv 0) jh (fun _ _=>rfl)) (ja (U3 (v:=.ty "list") (by rfl) T.u5 vC rfl) je))))) (u8 (Jz (bz (jK u4 (pv 0) jh (fun _ _=>rfl)) (fun _=>rfl))))).pt (jm (uT uz rfl T.JB rfl (ja jM je))) jI)
   (jm (jV (Jz (JR (jz (zJ rfl) (by rfl) T.z8 bZ (ja (Uo (own:=["pin"]) (Vq (N:=["net"]) rfl (by rfl) (by decide +kernel) (by decide +kernel) (by decide +kernel)) (Ja (jK u4 (pv 0) jh (fun _ _=>rfl))) (fun _ _ _ _ _=>ju (i:=1) (by show (["net","pin"]:oG).Nodup;decide +kernel) rfl (Or.inl rfl)) (fun _ _ _ _ _=>U4) (fun _ _ _ _ _=>(jr G_is_pin hr.m Z2 (by rfl) (ja (pv 1) je)))) je)))) (jm (uT uz rfl T.JB rfl (ja jM je))) jI))))),?_⟩
  refine⟨_,rfl,.ref p,.ty "tuple",_,_,true,rfl,.tup hp,.ty _,by kernel_rfl,true,rfl,U1 ⟨_,rfl,p,_,rfl,.inr (Ji.of hp),rfl,_,rfl,Vs rfl ?_⟩⟩
  refine⟨_,rfl,p,_,0,.str x,rfl,rfl,Ji.of hp,rfl,x,rfl,h1,fun H1 s1=>⟨_,rfl,Uz (fun g=>⟨8,rfl,by decide,fun z=>⟨Vu,kE (fun y=>by rw [g] at y;cases y.1) _ s1⟩⟩) fun g1=>?_⟩⟩
  have hp1:=s1 _ _ hp
  have ha1:=s1 _ _ ha
  refine⟨_,rfl,p,_,1,.ref a,rfl,rfl,Ji.of hp1,rfl,.ref a,.ty "list",_,_,true,rfl,.lst ha1,.ty _,by kernel_rfl,true,rfl,U1 ⟨_,rfl,p,_,1,.ref a,rfl,rfl,Ji.of hp1,rfl,_,.inl ⟨_,jl.of ha1,rfl⟩,Uz (fun g=>⟨Vu,kE (fun y=>?_) _ s1⟩) fun g2=>?_⟩⟩
  ·have:=C.len
   cases ps with
   | nil=>exact y.2 (List.length_eq_zero_iff.mp this.symm)
   | cons _ _=>cases g
  ·have nx:xs≠[]:=fun z=>by
    have:=C.len
    rw [z] at this
    rw [List.length_eq_zero_iff.mp this] at g2
    cases g2
   have C1:=C.mono fun _ _ e=>s1 _ _ e
   refine⟨_,rfl,p,_,1,.ref a,rfl,rfl,Ji.of hp1,rfl,a,rfl,⟨_,jl.of ha1⟩,vD (xs:=ps.map V.ref) (fun _=>true) (fun _=>.bl true) (jl.of ha1) (by rw [List.length_map,C.len];exact Nat.le_trans h2 (by decide)) (fun v hv H' Qy Qn s' hy _=>?_) fun D hD=>?_⟩
   ·obtain⟨q,hq,rfl⟩:=List.mem_map.mp hv
    obtain⟨y,hy1,e⟩:=C1.mem hq
    exact⟨⟨_,rfl,rfl⟩,Uu ⟨_,rfl,q,y.1,y.2,rfl,s' _ _ e,hy rfl⟩⟩
   ·have s2:=jf (o:=.lst (((ps.map V.ref).filter fun _=>true).map fun _=>.bl true)) (Same.refl H1) hD
    refine⟨D,ps.map fun _=>true,rfl,jl.of (by rw [jd,List.filter_eq_self.mpr (fun _ _=>rfl),List.map_map,List.map_map];rfl),_,rfl,Uz (fun g=>?_) fun _=>kQ ⟨g1,nx⟩ _ (Same.trans s1 s2)⟩
    have:(ps.map fun _=>true).all id=true:=List.all_eq_true.mpr fun z hz=>by obtain⟨_,_,rfl⟩:=List.mem_map.mp hz;rfl
    rw [this] at g
    cases g
end
end K41
namespace K41
open PySem L2 Wd TS STb
theorem ce:bootBuiltins "set"=some (.type "set"):=by kernel_rfl
theorem cq {c A B:Prop} [Decidable c] (hc:¬c) (h:A):if (!decide c)=true then A else B:=by rw [decide_eq_false hc];exact h
theorem GU {H:Hp}{p:Addr}{a:V}{r:List V} (h:H p=some (.tup (a::r))):zy H (.ref p)=a:=by show (match H p with|some (.tup (a::_))=>a|_=>V.non)=a;rw [h]
theorem heads {H:Hp}{ps:oB}{xs:oG} (hl:ps.length=xs.length) (hx:∀(i:Nat) p x,ps[i]?=some p→xs[i]?=some x→(∃r,H p=some (.tup (.str x::r)))):(ps.map V.ref).map (zy H)=xs.map V.str:=by
 refine List.ext_getElem (by simp [hl]) fun i h1 h2=>?_
 have g1:i<ps.length:=by simpa using h1
 have g2:i<xs.length:=by simpa using h2
 obtain⟨r,e⟩:=hx i _ _ (List.getElem?_eq_getElem g1) (List.getElem?_eq_getElem g2)
 rw [List.getElem_map,List.getElem_map,List.getElem_map,GU e]
section
variable {P:oM}{w:World}{K:oq}{mg:ox}{base:Heap}{t:Adr}
def hO (P:oM) (w:World) (K:oq) (mg:ox) (base:Heap) (C:Addr):Sp:=fun vs H Q E=>∃(a f:Addr) (ps:oB) (xs:oG) (most:Int) (g:Nat→Bool) (sp:Sp),vs=[.ref a,.int most,.ref f]∧H a=some (.lst (ps.map V.ref))∧ps.length=xs.length∧xs.length≤900∧most.natAbs.log2<1920∧dQ P w K mg base 3 f sp ∧
 (∀(i:Nat) p x,ps[i]?=some p→xs[i]?=some x→(∃r,H p=some (.tup (.str x::r)))) ∧
 (∀(i:Nat) p,ps[i]?=some p→∀H1,Same H H1→∀Q1 E1,(g i=true→∀H2,Same H1 H2→Q1 .non H2)→(g i=false→∀H2,Same H1 H2→E1 (.ref C) none H2)→sp [.ref p] H1 Q1 E1) ∧
 (xs.length≤most∧(∀i,i<xs.length→g i=true)∧xs.Nodup→∀H',Same H H'→Q .non H')∧(¬(xs.length≤most∧(∀i,i<xs.length→g i=true)∧xs.Nodup)→∀H',Same H H'→E (.ref C) none H')
theorem mU (T:Txt K mg t):Ju P w K mg base 4 "need_rows" ["rows","most","need_row"] (hO P w K mg base t.jw):=by
 obtain⟨fd,F,b⟩:=T.gR
 refine⟨_,fd,F.okX zo (fun vs H Q E h=>?_) (fun cdv A outer s H vs Q E hr h=>?_),b,F.kp,T.Ga⟩
 ·obtain⟨a,f,ps,xs,most,g,sp,rfl,_⟩:=h
  rfl
 ·obtain⟨a,f,ps,xs,most,g,sp,rfl,ha,hl,hl2,hm,hF,hx,hg,kQ,kE⟩:=h
  refine⟨_,(jg (jV (UA (Jz (JR (jz Ut (by rfl) T.jT Jl (ja (pv 0) (ja (U3 (v:=.ty "list") (by rfl) T.u5 vC rfl) je))))) (u8 (jA Zd (jz Jc (by rfl) T.ue u9 (ja (pv 0) je)) (pv 1) (jG _)))).pt (jm (uT uz rfl T.JB rfl (ja (Zf (by decide) (by decide) (pv 1)) je))) jI)
   (jg (uC JF (Ja (pv 0)) (ju (i:=3) zo.nd rfl (Or.inl rfl)) (jm (JP (br (k:=3) (P:=P) (w:=w) (K:=K) (mg:=mg) (base:=base) rfl rfl rfl rfl rfl (pv 2) hr.m jq (ja (pv 3) je)))))
   (jg (Gi (i:=4) zo.nd rfl (Or.inl rfl) (N0:=["rows","most","need_row",".row","names"]) (own:=["row"]) (gk (N:=["rows","most","need_row","row","names"]) rfl (by rfl) (by decide +kernel) (by decide +kernel) rfl (by decide +kernel)) (Ja (pv 0)) (fun _ _ _ _ _=>ju (i:=5) (by show (["rows","most","need_row",".row","names","row"]:oG).Nodup;decide +kernel) rfl (Or.inl rfl)) (fun _ _ _ _ _=>U4) (fun _ _ _ _ _=>(jK (vt (K:=K) rfl) (pv 5) jh (fun _ _=>rfl))))
   (jm (jV (jA gA (jz Km (by rfl) T.ue u9 (ja (Jy (Kn rfl) (by rfl) T.Zb ce (ja (pv 4) je)) je)) (jz Jc (by rfl) T.ue u9 (ja (pv 4) je)) (jG _)) (jm (uT uz rfl T.JB rfl (ja jM je))) jI))))),?_⟩
  refine VS [oR a,some (.int most),oR f,none,none] (fun H'=>H'=H∧xs.length≤most) (fun B hB=>⟨_,rfl,.ref a,.ty "list",_,_,true,rfl,.lst ha,.ty _,by kernel_rfl,true,rfl,U1 ⟨_,rfl,a,_,rfl,.inl (jl.of ha),_,rfl,_,most,rfl,rfl,_,rfl,uk (fun g0=>⟨_,rfl,most,rfl,hm,fun z=>⟨Vu,kE (fun y=>?_) _ (Same.refl H)⟩⟩) fun g0=>hB _ ⟨rfl,?_⟩⟩⟩) ?_
  ·have:=y.1
   rw [List.length_map,hl] at g0
   omega
  ·rw [List.length_map,hl] at g0
   omega
  rintro H0 ⟨rfl,g0⟩
  have lz:(ps.map V.ref).length≤sizeLine:=by rw [List.length_map,hl];exact Nat.le_trans hl2 (by decide)
  refine U9 (fun (v3:Option V)=>[oR a,some (.int most),oR f,v3,none]) (fun _ H'=>Same H0 H'∧∀i,i<xs.length→g i=true) (fun B hB=>?_) ?_
  ·refine⟨_,rfl,a,rfl,⟨_,jl.of ha⟩,JS (xs:=ps.map V.ref) (fun i σ H'=>∃v3:Option V,σ=[oR a,some (.int most),oR f,v3,none]∧Same H0 H'∧∀j,j<i→g j=true) ⟨_,rfl,Same.refl H0,fun j h=>absurd h (Nat.not_lt_zero _)⟩ (fun i σ H' _ h=>by obtain⟨_,_,e,_⟩:=h;exact jl.of (e _ _ ha)) ?_ ?_⟩
   ·rintro i v σ H2 hv ⟨v3,rfl,s2,hj⟩
    rw [List.getElem?_map] at hv
    obtain⟨p,e1,rfl⟩:=Option.map_eq_some_iff.mp hv
    have hi:i<xs.length:=by rw [←hl];exact (List.getElem?_eq_some_iff.mp e1).1
    refine⟨_,rfl,f,sp,rfl,hF,_,rfl,hg i p e1 H2 s2 _ _ (fun gt H3 s3=>⟨_,rfl,Same.trans s2 s3,fun j h=>?_⟩) fun gf H3 s3=>kE (fun y=>?_) _ (Same.trans s2 s3)⟩
    ·rcases Nat.lt_or_eq_of_le (Nat.le_of_lt_succ h) with z|rfl
     ·exact hj j z
     ·exact gt
    ·rw [y.2.1 i hi] at gf;cases gf
   ·rintro σ H2 ⟨v3,rfl,s2,hj⟩
    rw [List.length_map,hl] at hj
    exact hB _ _ ⟨s2,hj⟩
  rintro v3 H1 ⟨s1,hgs⟩
  have ha1:=s1 _ _ ha
  refine⟨_,rfl,a,rfl,⟨_,jl.of ha1⟩,vD (xs:=ps.map V.ref) (fun _=>true) (zy H0) (jl.of ha1) lz (fun x hx1 H' Qy Qn s' hy _=>?_) fun D hD=>?_⟩
  ·obtain⟨p,hp,rfl⟩:=List.mem_map.mp hx1
   obtain⟨i,hi,rfl⟩:=List.getElem_of_mem hp
   have h2:i<xs.length:=by rw [←hl];exact hi
   obtain⟨r,e⟩:=hx i _ _ (List.getElem?_eq_getElem hi) (List.getElem?_eq_getElem h2)
   refine⟨⟨_,rfl,rfl⟩,Uu (eU (.str xs[i]) (Ji.of (s' _ _ (s1 _ _ e))) ?_)⟩
   have:=hy rfl
   rwa [GU e] at this
  have s3:=jf (o:=.lst (((ps.map V.ref).filter fun _=>true).map (zy H0))) (Same.refl H1) hD
  have e3:upd H1 D (.lst (((ps.map V.ref).filter fun _=>true).map (zy H0))) D=some (.lst (xs.map V.str)):=by rw [jd,List.filter_eq_self.mpr (fun _ _=>rfl),heads hl hx]
  generalize upd H1 D (.lst (((ps.map V.ref).filter fun _=>true).map (zy H0)))=H2 at s3 e3
  refine⟨_,rfl,D,_,rfl,e3,by omega,fun S hS=>?_⟩
  have s4:=jf (o:=.ext (VV P w S (dd xs).length)) (Same.refl H2) hS
  have s04:=Same.trans s1 (Same.trans s3 s4)
  refine⟨S,_,rfl,jd,_,rfl,D,_,rfl,.inl (jl.of (s4 _ _ e3)),rfl,_,rfl,?_⟩
  by_cases nd:xs.Nodup
  ·exact Vs (by rw [(gq _).mpr nd,List.length_map V.str]) (kQ ⟨by omega,hgs,nd⟩ _ s04)
  ·exact cq (fun z=>nd ((gq _).mp (by have z:=Int.ofNat.inj (V.int.inj z);rwa [List.length_map] at z))) ⟨Vu,kE (fun y=>nd y.2.2) _ s04⟩
end
end K41
namespace K41
open PySem L2 Wd TS STb
def Jh (H:Hp) (ps:oB) (xs:List jJ):Prop:=ps.length=xs.length∧∀(i:Nat) p x,ps[i]?=some p→xs[i]?=some x→H p=some (.tup [.str x.name,.str x.kind,x.many])
def jJ.n (x:jJ):Nat:=match x.many with|.int n=>n.toNat|_=>0
def Ua (z:Str) (n:Nat):List j4:=(List.range n).map fun (k:Nat)=>(z,(k:Int))
def jJ.pins (x:jJ):List j4:=Ua x.name x.n
def j9 (xs:List jJ):List j4:=xs.flatMap jJ.pins
theorem JM {α:Type}{l:List α}{i:Nat}{x:α} (h:l[i]?=some x):l.take (i+1)=l.take i++[x]:=by rw [List.take_succ,h];rfl
theorem uH {α:Type}{l:List α}{n:Nat} (h:l.length=n):l.take n=l:=List.take_of_length_le (Nat.le_of_eq h)
theorem uS {H:Hp}:jD H [] []:=⟨rfl,fun i p c h=>nomatch h⟩
theorem jD.app {H:Hp}{ps qs:oB}{xs ys:List j4} (a:jD H ps xs) (b:jD H qs ys):jD H (ps++qs) (xs++ys):=by
 refine⟨by rw [List.length_append,List.length_map,List.length_append,a.len,b.len],fun i p c h1 h2=>?_⟩
 rw [List.map_append] at h2
 have la:=a.1
 by_cases hi:i<ps.length
 ·rw [List.getElem?_append_left hi] at h1
  rw [List.getElem?_append_left (by omega)] at h2
  exact a.2 i p c h1 h2
 ·rw [List.getElem?_append_right (by omega)] at h1
  rw [List.getElem?_append_right (by omega),←la] at h2
  exact b.2 _ p c h1 h2
theorem jD.one {H:Hp}{p:Addr}{x:j4} (h:H p=some (.tup [.str x.1,.int x.2])):jD H [p] [x]:=by
 refine⟨rfl,fun i q c h1 h2=>?_⟩
 cases i with
 | zero=>cases h1;cases h2;exact h
 | succ i=>cases h1
theorem jD.same {H H':Hp}{ps:oB}{xs:List j4} (C:jD H ps xs) (s:Same H H'):jD H' ps xs:=C.mono fun _ _ e=>s _ _ e
theorem jD.wr {H:Hp}{ps:oB}{xs:List j4} (C:jD H ps xs) {a:Addr} {o:HO} {u:HO} (e:H a=some u) (h:∀ys,u≠.tup ys):jD (upd H a o) ps xs:=C.mono fun q ys g=>by
 rw [jj (Jw g e (fun z=>h _ z.symm))];exact g
theorem jJ.lt8 {x:jJ} (h:x.many?=true):∃n:Nat,x.many=.int n∧x.n=n∧1≤n∧n≤8:=by
 unfold jJ.many? at h
 unfold jJ.n
 cases e:x.many with
 | int n =>
  rw [e] at h
  have h:(decide (1≤n)&&decide (n≤8))=true:=h
  rw [Bool.and_eq_true,decide_eq_true_eq,decide_eq_true_eq] at h
  exact⟨n.toNat,by rw [show ((n.toNat:Nat):Int)=n by omega],rfl,by omega,by omega⟩
 | _=>rw [e] at h;cases h
section
variable {P:oM}{w:World}{K:oq}{mg:ox}{base:Heap}{t:Adr}
def hI:Sp:=fun vs H Q _=>∃(a:Addr) (ps:oB) (xs:List jJ),vs=[.ref a]∧H a=some (.lst (ps.map V.ref))∧Jh H ps xs∧(∀x∈xs,x.many?=true)∧xs.length≤8∧∀D qs H',Same H H'→H D=none→H' D=some (.lst (qs.map V.ref))→jD H' qs (j9 xs)→Q (.ref D) H'
theorem mV (T:Txt K mg t):Ju P w K mg base 1 "part_pins" ["parts"] hI:=by
 obtain⟨fd,F,b⟩:=T.gT
 refine⟨_,fd,F.okX vK (fun vs H Q E h=>?_) (fun cdv A outer s H vs Q E hr h=>?_),b,F.kp,T.Gb⟩
 ·obtain⟨a,ps,xs,rfl,_⟩:=h
  rfl
 ·obtain⟨a,ps,xs,rfl,ha,C,hm,hl,q⟩:=h
  refine⟨_,(jg (jB (i:=1) vK.nd rfl (Or.inl rfl) (jW je))
   (jg (uC JF (Ja (pv 0)) (u6 rfl (jH (ju (i:=2) vK.nd rfl (Or.inr rfl)) (jH (ju (i:=3) vK.nd rfl (Or.inl rfl)) (jH (ju (i:=4) vK.nd rfl (Or.inl rfl)) uo)))) (jm (JP (vz PySem.F.plainAttrs_list PySem.F.slot_list_extend PySem.F.type_list_extend ae (pv 1) (ja (Uo (own:=["number"]) (Nu (n:="name") (N:=["parts","pins","name","kind","many"]) rfl (by rfl) (by rfl) rfl (by rfl) (by decide +kernel) (by decide +kernel) (by decide +kernel)) (UL rfl T.uO (ja (pv 4) je)) (fun _ _ _ _ _=>ju (i:=5) (by show (["parts","pins","name","kind","many","number"]:oG).Nodup;decide +kernel) rfl (Or.inl rfl)) (fun _ _ _ _ _=>U4) (fun _ _ _ _ _=>(j8 (ja (pv 2) (ja (pv 5) je))))) je)))))
   (jm (jN (pv 1))))),?_⟩
  refine U9 (fun (D:Addr)=>[oR a,oR D,none,none,none]) (fun D H'=>Same H H'∧H D=none∧H' D=some (.lst [])) (fun B hB=>⟨vT,fun D hD=>hB D _ ⟨jf (Same.refl H) hD,hD,jd⟩⟩) ?_
  rintro D H1 ⟨s1,hD,eD⟩
  have ha1:=s1 _ _ ha
  refine iY (fun (v2 v3 v4:Option V) (qs:oB)=>[oR a,oR D,v2,v3,v4]) (fun _ _ _ qs H'=>Same H H'∧H' D=some (.lst (qs.map V.ref))∧jD H' qs (j9 xs)) (fun B hB=>?_) ?_
  ·refine⟨_,rfl,a,rfl,⟨_,jl.of ha1⟩,JS (xs:=ps.map V.ref) (fun i σ H'=>∃(v2 v3 v4:Option V) (qs:oB),σ=[oR a,oR D,v2,v3,v4]∧Same H H'∧H' D=some (.lst (qs.map V.ref))∧jD H' qs (j9 (xs.take i))∧qs.length≤8*i) ⟨_,_,_,[],rfl,s1,eD,uS,Nat.le_refl _⟩ (fun i σ H' _ h=>by obtain⟨_,_,_,_,_,e,_⟩:=h;exact jl.of (e _ _ ha)) ?_ ?_⟩
   ·rintro i v σ H2 hv ⟨v2,v3,v4,qs,rfl,s2,e2,C2,l2⟩
    rw [List.getElem?_map] at hv
    obtain⟨p,e1,rfl⟩:=Option.map_eq_some_iff.mp hv
    have hi:i<xs.length:=by rw [←C.1];exact (List.getElem?_eq_some_iff.mp e1).1
    have ex:=List.getElem?_eq_getElem hi
    have ep:=s2 _ _ (C.2 i p _ e1 ex)
    obtain⟨n,en,en2,n1,n8⟩:=jJ.lt8 (hm _ (List.getElem_mem hi))
    rw [en] at ep
    refine⟨p,_,rfl,Ji.of ep,rfl,_,_,rfl,_,_,rfl,_,_,rfl,rfl,_,rfl,.inl ⟨rfl,_,jl.of e2⟩,_,rfl,n,rfl,by omega,by omega,GN (lo:=0) (n:=n) (fun D' k ys H'=>H2 D'=none∧Same H2 H'∧H' D'=some (.lst ys)∧ys.length=k∧∃rs:List Addr,ys=rs.map V.ref∧jD H' rs (Ua xs[i].name k)) (Nat.le_trans n8 (by decide)) (fun D' hD'=>⟨hD',jf (Same.refl _) hD',jd,rfl,[],rfl,uS⟩) (fun D' k ys H' ⟨_,_,e,l,_⟩=>⟨e,l⟩) ?_ ?_⟩
    ·rintro D' k ys H4 Qy Qn hk ⟨d1,d2,d3,d4,rs,rfl,C4⟩ hy
     have e3:(0:Int)+(k:Int)=(k:Int):=by omega
     rw [e3]
     refine⟨⟨_,rfl,rfl⟩,Uu ⟨_,rfl,_,rfl,UX,fun p4 hp4=>?_⟩⟩
     have s5:=jf (o:=.tup [.str xs[i].name,.int (k:Int)]) (Same.refl H4) hp4
     have d3':=s5 _ _ d3
     have e5:upd H4 p4 (.tup [.str xs[i].name,.int (k:Int)]) p4=some (.tup [.str xs[i].name,.int (k:Int)]):=jd
     refine hy _ _ d3' ⟨d1,fun x u e=>by rw [jj (jp e d1)];exact s5 _ _ (d2 _ _ e),jd,by rw [List.length_append,d4];rfl,rs++[p4],by rw [List.map_append];rfl,?_⟩
     unfold Ua
     rw [List.range_succ,List.map_append]
     exact ((C4.same s5).app (jD.one (x:=(xs[i].name,(k:Int))) e5)).wr d3' (by intro ys z;cases z)
    ·rintro D' ys H4 hD' ⟨d1,d2,d3,d4,rs,rfl,C4⟩
     have lr:rs.length=n:=by rw [List.length_map] at d4;exact d4
     have e4:=d2 _ _ e2
     refine⟨D,D',_,_,rfl,rfl,e4,d3,?_,_,_,_,qs++rs,rfl,fun b u e=>by rw [jj (jp e hD)];exact d2 _ _ (s2 _ _ e),by rw [jd,List.map_append],?_,by rw [List.length_append];omega⟩
     ·rw [List.length_map,List.length_map]
      exact Nat.le_trans (show _≤1000 by omega) (by decide)
     ·have:j9 (xs.take (i+1))=j9 (xs.take i)++Ua xs[i].name n:=by
       unfold j9
       rw [JM ex,List.flatMap_append]
       simp only [List.flatMap_cons,List.flatMap_nil,List.append_nil]
       unfold jJ.pins
       rw [en2]
      rw [this]
      exact ((C2.same d2).app C4).wr e4 (by intro ys z;cases z)
   ·rintro σ H2 ⟨v2,v3,v4,qs,rfl,s2,e2,C2,l2⟩
    rw [List.length_map,C.1,uH rfl] at C2
    exact hB _ _ _ qs _ ⟨s2,e2,C2⟩
  rintro v2 v3 v4 qs H2 ⟨s2,e2,C2⟩
  exact⟨_,rfl,q D qs H2 s2 hD e2 C2⟩
def dC:Sp:=fun vs H Q _=>∃(a:Addr) (ps:oB) (xs:List jJ),vs=[.ref a]∧H a=some (.lst (ps.map V.ref))∧Jh H ps xs∧xs.length≤8∧∀D H',Same H H'→H D=none→Q (.ref D) H'
theorem KO (T:Txt K mg t):Ju P w K mg base 1 "part_kinds" ["parts"] dC:=by
 obtain⟨fd,F,b⟩:=T.ZC
 refine⟨_,fd,F.okX vm (fun vs H Q E h=>?_) (fun cdv A outer s H vs Q E hr h=>?_),b,F.kp,T.ZQ⟩
 ·obtain⟨a,ps,xs,rfl,_⟩:=h
  rfl
 ·obtain⟨a,ps,xs,rfl,ha,C,hl,q⟩:=h
  refine⟨_,(jg (jB (i:=1) vm.nd rfl (Or.inl rfl) mW)
   (jg (uC JF (Ja (pv 0)) (u6 rfl (jH (ju (i:=2) vm.nd rfl (Or.inl rfl)) (jH (ju (i:=3) vm.nd rfl (Or.inl rfl)) (jH (ju (i:=4) vm.nd rfl (Or.inl rfl)) uo)))) (jm (MX (GV hr) (pv 1) (pv 2) (j8 (ja (pv 3) (ja (pv 4) je))) rfl)))
   (jm (jN (pv 1))))),?_⟩
  refine U9 (fun (D:Addr)=>[oR a,oR D,none,none,none]) (fun D H'=>Same H H'∧H D=none∧H' D=some (.dK [])) (fun B hB=>fun D hD=>hB D _ ⟨jf (Same.refl H) hD,hD,jd⟩) ?_
  rintro D H1 ⟨s1,hD,eD⟩
  have ha1:=s1 _ _ ha
  refine Md (fun (v2 v3 v4:Option V)=>[oR a,oR D,v2,v3,v4]) (fun _ _ _ H'=>Same H H') (fun B hB=>?_) ?_
  ·refine⟨_,rfl,a,rfl,⟨_,jl.of ha1⟩,JS (xs:=ps.map V.ref) (fun i σ H'=>∃(v2 v3 v4:Option V) (kvs:List (Key×V)),σ=[oR a,oR D,v2,v3,v4]∧Same H H'∧H' D=some (.dK kvs)∧kvs.length≤i) ⟨_,_,_,[],rfl,s1,eD,Nat.le_refl _⟩ (fun i σ H' _ h=>by obtain⟨_,_,_,_,_,e,_⟩:=h;exact jl.of (e _ _ ha)) ?_ ?_⟩
   ·rintro i v σ H2 hv ⟨v2,v3,v4,kvs,rfl,s2,e2,l2⟩
    rw [List.getElem?_map] at hv
    obtain⟨p,e1,rfl⟩:=Option.map_eq_some_iff.mp hv
    have hi:i<xs.length:=by rw [←C.1];exact (List.getElem?_eq_some_iff.mp e1).1
    have ep:=s2 _ _ (C.2 i p _ e1 (List.getElem?_eq_getElem hi))
    refine⟨p,_,rfl,Ji.of ep,rfl,_,_,rfl,_,_,rfl,_,_,rfl,rfl,?_⟩
    refine⟨_,rfl,_,rfl,UX,fun u hu=>?_⟩
    have s3:=jf (o:=.tup [.str xs[i].kind,xs[i].many]) (Same.refl H2) hu
    refine⟨_,rfl,_,rfl,D,_,rfl,Zz.k (k:=.inr xs[i].name) (s3 _ _ e2) (Nat.lt_of_le_of_lt (show _≤8 by omega) (by decide)),_,_,_,_,rfl,fun b u e=>by rw [jj (jp e hD)];exact s3 _ _ (s2 _ _ e),jd,Nat.le_trans (VN _ _ _) (by omega)⟩
   ·rintro σ H2 ⟨v2,v3,v4,kvs,rfl,s2,_⟩
    exact hB _ _ _ _ s2
  rintro v2 v3 v4 H2 s2
  exact⟨_,rfl,q D H2 s2 hD⟩
end
end K41
namespace K41
open PySem L2 Wd TS STb
abbrev jy:=Str×List j4
def Vm (H:Hp) (p l:Addr) (x:jy):Prop:=H p=some (.tup [.str x.1,.ref l])∧∃ps,H l=some (.lst (ps.map V.ref))∧jD H ps x.2
def jQ (H:Hp) (ns ls:oB) (xs:List jy):Prop:=ns.length=xs.length∧ls.length=xs.length∧∀(i:Nat) p l x,ns[i]?=some p→ls[i]?=some l→xs[i]?=some x→Vm H p l x
theorem jQ.at_ {H:Hp}{ns ls:oB}{xs:List jy} (C:jQ H ns ls xs) {i:Nat} {p:Addr} (h:ns[i]?=some p):∃l x,ls[i]?=some l∧xs[i]?=some x∧Vm H p l x:=by
 have hi:=(List.getElem?_eq_some_iff.mp h).1
 have h2:i<ls.length:=by rw [C.2.1,←C.1];exact hi
 have h3:i<xs.length:=by rw [←C.1];exact hi
 exact⟨_,_,List.getElem?_eq_getElem h2,List.getElem?_eq_getElem h3,C.2.2 i _ _ _ h (List.getElem?_eq_getElem h2) (List.getElem?_eq_getElem h3)⟩
theorem Vm.same {H H':Hp}{p l:Addr}{x:jy} (C:Vm H p l x) (s:Same H H'):Vm H' p l x:=⟨s _ _ C.1,let ⟨ps,a,b⟩:=C.2;⟨ps,s _ _ a,b.same s⟩⟩
theorem jQ.same {H H':Hp}{ns ls:oB}{xs:List jy} (C:jQ H ns ls xs) (s:Same H H'):jQ H' ns ls xs:=⟨C.1,C.2.1,fun i p l x a b c=>(C.2.2 i p l x a b c).same s⟩
theorem Jh.same {H H':Hp}{ps:oB}{xs:List jJ} (C:Jh H ps xs) (s:Same H H'):Jh H' ps xs:=⟨C.1,fun i p x a b=>s _ _ (C.2 i p x a b)⟩
def jt (xs:List jy):List j4:=xs.flatMap (·.2)
def row (z:Str) (ps:List j4):List (List Key×V):=ps.map fun p=>(kP p,V.str z)
def uc (xs:List jy):List (List Key×V):=xs.flatMap fun x=>row x.1 x.2
theorem va (xs:List jy):(uc xs).map (·.1)=(jt xs).map kP:=by
 unfold uc jt row
 rw [List.map_flatMap,List.map_flatMap]
 congr 1
 funext x
 rw [List.map_map]
 rfl
theorem my {a b:j4} (h:kP a=kP b):a=b:=by
 unfold kP at h
 injection h with h1 h
 injection h with h2 _
 exact Prod.ext (Sum.inr.inj h1) (Sum.inl.inj h2)
def ii:List Key→j4|[.inr z,.inl n]=>(z,n)|_=>("",0)
theorem aL (l:List j4):(l.map kP).map ii=l:=by
 rw [List.map_map]
 exact (List.map_congr_left (fun p _=>rfl)).trans (List.map_id l)
theorem MW {l m:List j4} (h:(l.map kP).Perm (m.map kP)):l.Perm m:=by
 have:=h.map ii
 rwa [aL,aL] at this
theorem VT:∀{a b:List (List Key)},a.Perm b→(a.Pairwise fun x y=>lx y x=false)→(b.Pairwise fun x y=>lx y x=false)→a=b
 | [],b,p,_,_=>(List.nil_perm.mp p).symm
 | x::a,b,p,ha,hb=>by
  cases b with
  | nil=>exact absurd (List.perm_nil.mp p) (by simp)
  | cons y b =>
   obtain⟨h1,ha2⟩:=List.pairwise_cons.mp ha
   obtain⟨h2,hb2⟩:=List.pairwise_cons.mp hb
   have e:x=y:=by
    rcases List.mem_cons.mp (p.mem_iff.mp (List.mem_cons_self ..)) with e|hx
    ·exact e
    ·rcases List.mem_cons.mp (p.mem_iff.mpr (List.mem_cons_self ..)) with e|hy
     ·exact e.symm
     ·exact G7 (h2 x hx) (h1 y hy)
   subst e
   rw [VT (List.perm_cons x |>.mp p) ha2 hb2]
theorem JG {ys:List jy}{i:Nat}{x:jy} (h:ys[i]?=some x):jt ys=jt (ys.take i)++(x.2++jt (ys.drop (i+1))):=by
 obtain⟨hi,e⟩:=List.getElem?_eq_some_iff.mp h
 have:ys=ys.take i++(x::ys.drop (i+1)):=by rw [←e,←List.drop_eq_getElem_cons hi,List.take_append_drop]
 conv=>lhs;rw [this]
 unfold jt
 rw [List.flatMap_append,List.flatMap_cons]
theorem VU {ys:List jy}{i:Nat}{x:jy} (h:ys[i]?=some x):jt (ys.take (i+1))=jt (ys.take i)++x.2:=by
 unfold jt
 rw [JM h,List.flatMap_append]
 simp
theorem nI {ys:List jy}{i:Nat}{x:jy} (h:ys[i]?=some x):uc (ys.take (i+1))=uc (ys.take i)++row x.1 x.2:=by
 unfold uc
 rw [JM h,List.flatMap_append]
 simp
theorem bG (z:Str) (ps:List j4):(row z ps).map (·.1)=ps.map kP:=by
 unfold row
 rw [List.map_map]
 rfl
theorem Jv.mono' {H H':Hp}{bs:oB}{ks:List (List Key)} (C:Jv H bs ks) (s:Same H H'):Jv H' bs ks:=⟨C.1,fun i b k h1 h2=>s _ _ (C.2 i b k h1 h2)⟩
theorem vY:bootBuiltins "sorted"=some (.builtin "sorted"):=by kernel_rfl
section
variable {P:oM}{w:World}{K:oq}{mg:ox}{base:Heap}{t:Adr}
def f7 (C:Addr):Sp:=fun vs H Q E=>∃(a b:Addr) (ps:oB) (xs:List jJ) (ns ls:oB) (ys:List jy),vs=[.ref a,.ref b]∧H a=some (.lst (ps.map V.ref))∧Jh H ps xs∧(∀x∈xs,x.many?=true)∧xs.length≤8∧H b=some (.lst (ns.map V.ref))∧jQ H ns ls ys∧(jt ys).length≤1000 ∧
 ((jt ys).Nodup∧(jt ys).Perm (j9 xs)→∀D H',Same H H'→H D=none→H' D=some (.dT (uc ys))→Q (.ref D) H')∧(¬((jt ys).Nodup∧(jt ys).Perm (j9 xs))→∀H',Same H H'→E (.ref C) none H')
theorem kL (T:Txt K mg t):Ju P w K mg base 2 "joined_pins" ["parts","nets"] (f7 t.jw):=by
 obtain⟨fd,F,b⟩:=T.Zn
 have G_part_pins:=mV (P:=P) (w:=w) (base:=base) T
 refine⟨_,fd,F.okX U5 (fun vs H Q E h=>?_) (fun cdv A outer s H vs Q E hr h=>?_),b,F.kp,T.Zy⟩
 ·obtain⟨a,b,ps,xs,ns,ls,ys,rfl,_⟩:=h
  rfl
 ·obtain⟨a,b,ps,xs,ns,ls,ys,rfl,ha,C,hm,hl,hb,N,hn,kQ,kE⟩:=h
  refine⟨_,(jg (jB (i:=2) U5.nd rfl (Or.inl rfl) bt)
   (jg (uC JF (Ja (pv 1)) (u6 rfl (jH (ju (i:=3) U5.nd rfl (Or.inl rfl)) (jH (ju (i:=4) U5.nd rfl (Or.inl rfl)) uo))) (jm (uC JF (Ja (pv 4)) (ju (i:=5) U5.nd rfl (Or.inl rfl)) (jg (jV (fQ (al (GV hr) (pv 5) (pv 2))) (jm (uT uz rfl T.JB rfl (ja jM je))) jI)
   (jm (MX (GV hr) (pv 2) (pv 5) (pv 3) rfl))))))
   (jg (jV (jA (gB hr.units) (jz (ZI rfl) (by rfl) T.uR vY (ja (pv 2) je)) (jz Vo (by rfl) T.uR vY (ja (jr G_part_pins hr.m jq (by rfl) (ja (pv 0) je)) je)) (jG _)) (jm (uT uz rfl T.JB rfl (ja jM je))) jI)
   (jm (jN (pv 2)))))),?_⟩
  refine U9 (fun (D:Addr)=>[oR a,oR b,oR D,none,none,none]) (fun D H'=>Same H H'∧H D=none∧H' D=some (.dT [])) (fun B hB=>fun D hD=>hB D _ ⟨jf (Same.refl H) hD,hD,jd⟩) ?_
  rintro D H1 ⟨s1,hD,eD⟩
  refine Md (fun (v3 v4 v5:Option V)=>[oR a,oR b,oR D,v3,v4,v5]) (fun _ _ _ H'=>Same H H'∧H' D=some (.dT (uc ys))∧(jt ys).Nodup) (fun B hB=>?_) ?_
  ·refine⟨_,rfl,b,rfl,⟨_,jl.of (s1 _ _ hb)⟩,JS (xs:=ns.map V.ref) (fun i σ H'=>∃(v3 v4 v5:Option V),σ=[oR a,oR b,oR D,v3,v4,v5]∧Same H H'∧H' D=some (.dT (uc (ys.take i)))∧(jt (ys.take i)).Nodup) ⟨_,_,_,rfl,s1,eD,List.nodup_nil⟩ (fun i σ H' _ h=>by obtain⟨_,_,_,_,e,_⟩:=h;exact jl.of (e _ _ hb)) ?_ ?_⟩
   ·rintro i v σ H2 hv ⟨v3,v4,v5,rfl,s2,e2,n2⟩
    rw [List.getElem?_map] at hv
    obtain⟨p,e1,rfl⟩:=Option.map_eq_some_iff.mp hv
    obtain⟨l,x,el,ex,ep,qs,eq,Cx⟩:=N.at_ e1
    have sp:=JG ex
    refine⟨p,_,rfl,Ji.of (s2 _ _ ep),rfl,_,_,rfl,_,_,rfl,rfl,?_⟩
    refine⟨_,rfl,l,rfl,⟨_,jl.of (s2 _ _ eq)⟩,JS (xs:=qs.map V.ref) (fun j σ H'=>∃(v5:Option V),σ=[oR a,oR b,oR D,some (.str x.1),oR l,v5]∧Same H H'∧H' D=some (.dT (uc (ys.take i)++row x.1 (x.2.take j)))∧(jt (ys.take i)++x.2.take j).Nodup) ⟨_,rfl,s2,by rw [e2];exact congrArg (fun z=>some (HO.dT z)) (List.append_nil _).symm,(List.append_nil (jt (ys.take i))).symm▸n2⟩ (fun i σ H' _ h=>by obtain⟨_,_,e,_⟩:=h;exact jl.of (e _ _ eq)) ?_ ?_⟩
    ·rintro j v σ H3 hv ⟨v5',rfl,s3,e3,n3⟩
     rw [List.getElem?_map] at hv
     obtain⟨p5,g1,rfl⟩:=Option.map_eq_some_iff.mp hv
     have hj:j<x.2.length:=by rw [←Cx.len];exact (List.getElem?_eq_some_iff.mp g1).1
     have gx:=List.getElem?_eq_getElem hj
     have gp:=s3 _ _ (Cx.at_ g1 gx)
     have keys:(uc (ys.take i)++row x.1 (x.2.take j)).map (·.1)=(jt (ys.take i)++x.2.take j).map kP:=by rw [List.map_append,List.map_append,va,bG]
     have split2:jt ys=(jt (ys.take i)++x.2.take j)++(x.2[j]::(x.2.drop (j+1)++jt (ys.drop (i+1)))):=by
      rw [sp,List.append_assoc]
      congr 1
      conv=>lhs;rw [←List.take_append_drop j x.2,List.drop_eq_getElem_cons hj]
      rw [List.append_assoc];rfl
     have len:(uc (ys.take i)++row x.1 (x.2.take j)).length≤1000:=by
      have:=congrArg List.length keys
      rw [List.length_map,List.length_map] at this
      rw [this]
      have:=congrArg List.length split2
      rw [List.length_append] at this
      omega
     refine⟨_,rfl,_,rfl,D,_,rfl,zA.t (k:=kP x.2[j]) e3 gp,_,rfl,ZS (fun z=>⟨Vu,kE (fun y=>?_) _ s3⟩) fun z=>?_⟩
     ·obtain⟨v,hv⟩:=Option.isSome_iff_exists.mp z
      have h1:=M5 hv
      rw [keys] at h1
      obtain⟨c,hc,ec⟩:=List.mem_map.mp h1
      rw [my ec] at hc
      have:=y.1
      rw [split2] at this
      exact (List.nodup_append.mp this).2.2 _ hc _ (List.mem_cons_self ..) rfl
     ·have hno:JH (uc (ys.take i)++row x.1 (x.2.take j)) (kP x.2[j])=none:=by
       cases e:JH (uc (ys.take i)++row x.1 (x.2.take j)) (kP x.2[j]) with
       | none=>rfl
       | some v=>rw [e] at z;cases z
      refine⟨_,rfl,_,rfl,_,rfl,D,_,rfl,Zz.t (k:=kP x.2[j]) e3 gp (Nat.lt_of_le_of_lt len (by decide)),_,rfl,fun b u e=>by rw [jj (jp e hD)];exact s3 _ _ e,?_,?_⟩
      ·rw [jd,mZ _ hno,JM gx]
       unfold row
       rw [List.map_append,←List.append_assoc]
       rfl
      ·rw [JM gx,←List.append_assoc]
       refine List.nodup_append.mpr ⟨n3,by simp,fun c hc d hd e=>?_⟩
       rw [List.mem_singleton.mp hd] at e
       have:=bR hno
       rw [keys] at this
       exact this (e▸List.mem_map.mpr ⟨c,hc,rfl⟩)
    ·rintro σ H3 ⟨v5',rfl,s3,e3,n3⟩
     rw [List.length_map,Cx.len,uH rfl] at e3 n3
     exact⟨_,_,_,rfl,s3,by rw [nI ex];exact e3,by rw [VU ex];exact n3⟩
   ·rintro σ H2 ⟨v3,v4,v5,rfl,s2,e2,n2⟩
    rw [List.length_map,N.1,uH rfl] at e2 n2
    exact hB _ _ _ _ ⟨s2,e2,n2⟩
  rintro v3 v4 v5 H2 ⟨s2,e2,nd⟩
  refine VS [oR a,oR b,oR D,v3,v4,v5] (fun H'=>Same H H'∧H' D=some (.dT (uc ys))∧(jt ys).Perm (j9 xs)) (fun B hB=>?_) ?_
  ·refine⟨_,rfl,D,_,sd (kP ("",0)),rfl,e2,fun kv hkv=>?_,(fun z=>nomatch z),fun l bs ks hl KA pm so=>?_⟩
   ·have:kv.1∈(uc ys).map (·.1):=List.mem_map.mpr ⟨kv,hkv,rfl⟩
    rw [va] at this
    obtain⟨p,_,e⟩:=List.mem_map.mp this
    rw [←e];rfl
   ·rw [va] at pm
    have s3:=jf (o:=.lst (bs.map V.ref)) (Same.refl H2) hl
    have e3:upd H2 l (.lst (bs.map V.ref)) l=some (.lst (bs.map V.ref)):=jd
    generalize upd H2 l (.lst (bs.map V.ref))=H3 at s3 e3
    have s03:=Same.trans s2 s3
    refine⟨_,rfl,a,ps,xs,rfl,s03 _ _ ha,C.same s03,hm,by assumption,fun D2 qs H4 s4 hD2 eD2 PN=>⟨D2,qs,_,sd (kP ("",0)),rfl,eD2,PN,fun k hk=>?_,(fun z=>nomatch z),fun l2 bs2 ks2 hl2 KA2 pm2 so2=>?_⟩⟩
    ·obtain⟨p,_,e⟩:=List.mem_map.mp hk
     rw [←e];rfl
    ·have s5:=jf (o:=.lst (bs2.map V.ref)) (Same.refl H4) hl2
     have s05:=Same.trans s03 (Same.trans s4 s5)
     have s35:=Same.trans s4 s5
     refine⟨l,l2,bs,bs2,ks,ks2,rfl,rfl,jl.of (s35 _ _ e3),jl.of jd,Jv.mono' KA (Same.trans s3 s35),Jv.mono' KA2 s5,_,rfl,?_⟩
     by_cases h:ks=ks2
     ·exact Vs h (hB _ ⟨s05,s35 _ _ (s3 _ _ e2),MW (pm.symm.trans (h▸pm2))⟩)
     ·exact cq h ⟨Vu,kE (fun y=>h (VT (pm.trans ((y.2.map kP).trans pm2.symm)) so so2)) _ s05⟩
  rintro H3 ⟨s3,e3,pm⟩
  exact⟨_,rfl,kQ ⟨nd,pm⟩ D H3 s3 hD e3⟩
end
end K41
namespace K41
open PySem L2 Wd TS STb
theorem _root_.L2.Same.nn {H H':Hp} (x:Same H H') {p:Addr} (hp:H' p=none):H p=none:=by
 cases e:H p with
 | none=>rfl
 | some u=>rw [x _ _ e] at hp;cases hp
def gP (xs:List jJ) (i:Nat):Bool:=match xs[i]? with|some x=>x.good|none=>true
theorem nB {xs:List jJ}{i:Nat}{x:jJ} (h:xs[i]?=some x):gP xs i=x.good:=by unfold gP;rw [h]
def jy.good (y:jy):Bool:=Jd y.1&&!y.2.isEmpty
def gN (ys:List jy) (i:Nat):Bool:=match ys[i]? with|some y=>jy.good y|none=>true
theorem nA {ys:List jy}{i:Nat}{y:jy} (h:ys[i]?=some y):gN ys i=jy.good y:=by unfold gN;rw [h]
structure vy (xs:List jJ) (ys:List jy):Prop where
 few:xs.length≤8
 parts:∀x∈xs,x.good=true
 names:(xs.map (·.name)).Nodup
 few2:ys.length≤24
 nets:∀y∈ys,jy.good y=true
 names2:(ys.map (·.1)).Nodup
 nd:(jt ys).Nodup
 pm:(jt ys).Perm (j9 xs)
def fD (p n k j:Addr):List (Str×V):=[("parts",.ref p),("nets",.ref n),("kinds",.ref k),("joins",.ref j)]
theorem eK (p n k j:Addr):uf "joins" (.ref j) (uf "kinds" (.ref k) (uf "nets" (.ref n) (uf "parts" (.ref p) [])))=fD p n k j:=by kernel_rfl
def GB (o:Addr) (H H':Hp):Prop:=∀b u,b≠o→H b=some u→H' b=some u
theorem jQ.snoc {H:Hp}{ns ls:oB}{ys:List jy} (C:jQ H ns ls ys) {p l:Addr} {y:jy} (h:Vm H p l y):jQ H (ns++[p]) (ls++[l]) (ys++[y]):=by
 obtain⟨c1,c2,c3⟩:=C
 refine⟨by simp [c1],by simp [c2],fun i q m x h1 h2 h3=>?_⟩
 by_cases hi:i<ns.length
 ·rw [List.getElem?_append_left hi] at h1
  rw [List.getElem?_append_left (by omega)] at h2 h3
  exact c3 i q m x h1 h2 h3
 ·rw [List.getElem?_append_right (by omega)] at h1
  rw [List.getElem?_append_right (by omega)] at h2 h3
  have z:i - ns.length=0:=by
   have:=(List.getElem?_eq_some_iff.mp h1).1
   simp at this;omega
  rw [show i - ls.length=0 by omega] at h2
  rw [show i - ys.length=0 by omega] at h3
  rw [z] at h1
  cases h1;cases h2;cases h3
  exact h
theorem zj {H:Hp}:jQ H [] [] []:=⟨rfl,rfl,fun i p l x h=>nomatch h⟩
theorem jQ.wr {H:Hp}{ns ls:oB}{ys:List jy} (C:jQ H ns ls ys) {H':Hp} (k:∀q zs,H q=some (.tup zs)→H' q=some (.tup zs)) (kl:∀l∈ls,∀zs,H l=some (.lst zs)→H' l=some (.lst zs)):jQ H' ns ls ys :=
 ⟨C.1,C.2.1,fun i p l x a b c=>let ⟨e,ps,e2,pn⟩:=C.2.2 i p l x a b c;⟨k _ _ e,ps,kl l (List.mem_of_getElem? b) _ e2,pn.mono k⟩⟩
section
variable {P:oM}{w:World}{K:oq}{mg:ox}{base:Heap}{t:Adr}
theorem iX {k:Nat}{x:Str}{ps:oG}{sp:Sp}{f:Addr} (G:Ju P w K mg base k x ps sp) (h:mg x=some (.ref f)):dQ P w K mg base k f sp:=by
 obtain⟨f',fd,F,b,kp,m⟩:=G.ex
 rw [h] at m
 cases m
 exact⟨fd,ps,F,b,kp⟩
structure In (H:Hp) (a b:Addr) (ps:oB) (xs:List jJ) (ns ls:oB) (ys:List jy):Prop where
 ha:H a=some (.lst (ps.map V.ref))
 C:Jh H ps xs
 few:xs.length≤900
 len:∀x∈xs,x.name.length≤1000∧x.kind.length≤1000∧MO x.many=true
 hb:H b=some (.lst (ns.map V.ref))
 N:jQ H ns ls ys
 few2:ys.length≤900
 len2:∀y∈ys,y.1.length≤1000
 tl:(jt ys).length≤1000
def f8 (C NB:Addr):Sp:=fun vs H Q E=>∃(o dx a b:Addr) (ps:oB) (xs:List jJ) (ns ls:oB) (ys:List jy),vs=[.ref o,.ref a,.ref b]∧H o=some (.ins C dx [])∧In H a b ps xs ns ls ys ∧
 (vy xs ys→∀pl nl kd jn ns' ls' H',GB o H H'→H' o=some (.ins C dx (fD pl nl kd jn))→H pl=none→H nl=none→H' pl=some (.lst (ps.map V.ref))→H' nl=some (.lst (ns'.map V.ref))→jQ H' ns' ls' ys→(∀l∈ls',H l=none)→H jn=none→H' jn=some (.dT (uc ys))→Q .non H') ∧
 (¬vy xs ys→∀H',GB o H H'→E (.ref NB) none H')
theorem zz (T:Txt K mg t):M6 P w K mg base 5 "Drawing" t.jv ["self","parts","nets"] (f8 t.jv t.jw):=by
 obtain⟨fd,F,b⟩:=T.zF
 have G_need_rows:=mU (P:=P) (w:=w) (base:=base) T
 have G_need_part:=mT (P:=P) (w:=w) (base:=base) T
 have G_need_net:=Ms (P:=P) (w:=w) (base:=base) T
 have G_part_kinds:=KO (P:=P) (w:=w) (base:=base) T
 have G_joined_pins:=kL (P:=P) (w:=w) (base:=base) T
 refine⟨_,fd,T.Kf,F.okX kq (fun vs H Q E h=>?_) (fun cdv A outer s H vs Q E hr h=>?_),b,T.Vb⟩
 ·obtain⟨o,dx,a,b,ps,xs,ns,ls,ys,rfl,_⟩:=h
  rfl
 ·obtain⟨o,dx,a,b,ps,xs,ns,ls,ys,rfl,ho,I,kQ,kE⟩:=h
  refine⟨_,(jg (JP (jr G_need_rows hr.m jq (by rfl) (ja (pv 1) (ja (JY (v:=.int 8) (by rfl) T.U0 ⟨_,rfl⟩) (ja (JY (v:=.ref t.uh) (by rfl) T.VM rfl) je)))))
   (jg (JP (jr G_need_rows hr.m jq (by rfl) (ja (pv 2) (ja (JY (v:=.int 24) (by rfl) T.vq ⟨_,rfl⟩) (ja (JY (v:=.ref t.uI) (by rfl) T.V4 rfl) je)))))
   (jg (kj (pv 0) (Jy UZ (by rfl) T.u5 vC (ja (pv 1) je)) rfl)
   (jg (kj (pv 0) (Uo (own:=["net"]) (Vq (N:=["self","parts","nets"]) rfl (by rfl) (by decide +kernel) (by decide +kernel) (by decide +kernel)) (Ja (pv 2)) (fun _ _ _ _ _=>ju (i:=3) (by show (["self","parts","nets","net"]:oG).Nodup;decide +kernel) rfl (Or.inl rfl)) (fun _ _ _ _ _=>U4) (fun _ _ _ _ _=>(j8 (ja (jK (vt (K:=K) rfl) (pv 3) jh (fun _ _=>rfl)) (ja (Jy (Zv (K:=K) rfl) (by rfl) T.u5 vC (ja (jK (vt (K:=K) rfl) (pv 3) jh (fun _ _=>rfl)) je)) je))))) rfl)
   (jg (kj (pv 0) (jr G_part_kinds hr.m jq (by rfl) (ja (pv 1) je)) rfl)
   (jm (kj (pv 0) (jr G_joined_pins hr.m jq (by rfl) (ja (pv 1) (ja (pv 2) je))) rfl))))))),?_⟩
  have ni:∀{q:Addr} {u:HO},H q=some u→(∀C dx fs,u≠.ins C dx fs)→q≠o:=fun e n=>Jw e ho (n _ _ _)
  refine VS [oR o,oR a,oR b] (fun H'=>Same H H'∧xs.length≤8∧(∀x∈xs,x.good=true)∧(xs.map (·.name)).Nodup) (fun B hB=>⟨_,rfl,a,t.uh,ps,xs.map (·.name),8,gP xs,_,rfl,I.ha,by rw [List.length_map];exact I.C.1,by rw [List.length_map];exact I.few,by decide,iX G_need_part T.VM,fun i p x h1 h2=>?_,fun i p h1 H1 s1 Q1 E1 k1 k2=>?_,fun g H' s'=>hB _ ⟨s',?_⟩,fun g H' s'=>kE (fun G=>g ?_) _ fun b u _ e=>s' _ _ e⟩) ?_
  ·rw [List.getElem?_map] at h2
   obtain⟨y,e,rfl⟩:=Option.map_eq_some_iff.mp h2
   exact⟨_,I.C.2 i p y h1 e⟩
  ·have hi:i<xs.length:=by rw [←I.C.1];exact (List.getElem?_eq_some_iff.mp h1).1
   have ex:=List.getElem?_eq_getElem hi
   obtain⟨l1,l2,l3⟩:=I.len _ (List.getElem_mem hi)
   rw [nB ex] at k1 k2
   exact⟨p,xs[i],rfl,s1 _ _ (I.C.2 i p _ h1 ex),l1,l2,l3,k1,k2⟩
  ·rw [List.length_map] at g
   refine⟨by omega,fun x hx=>?_,g.2.2⟩
   obtain⟨i,hi,rfl⟩:=List.getElem_of_mem hx
   have:=g.2.1 i hi
   rwa [nB (List.getElem?_eq_getElem hi)] at this
  ·rw [List.length_map]
   refine⟨by have:=G.few;omega,fun i hi=>?_,G.names⟩
   rw [nB (List.getElem?_eq_getElem hi)]
   exact G.parts _ (List.getElem_mem hi)
  rintro H1 ⟨s1,few,gp,nn⟩
  have N1:=I.N.same s1
  refine VS [oR o,oR a,oR b] (fun H'=>Same H H'∧ys.length≤24∧(∀y∈ys,jy.good y=true)∧(ys.map (·.1)).Nodup) (fun B hB=>⟨_,rfl,b,t.uI,ns,ys.map (·.1),24,gN ys,_,rfl,s1 _ _ I.hb,by rw [List.length_map];exact I.N.1,by rw [List.length_map];exact I.few2,by decide,iX G_need_net T.V4,fun i p x h1 h2=>?_,fun i p h1 H2 s2 Q1 E1 k1 k2=>?_,fun g H' s'=>hB _ ⟨Same.trans s1 s',?_⟩,fun g H' s'=>kE (fun G=>g ?_) _ fun b u _ e=>s' _ _ (s1 _ _ e)⟩) ?_
  ·rw [List.getElem?_map] at h2
   obtain⟨y,e,rfl⟩:=Option.map_eq_some_iff.mp h2
   obtain⟨l,x,_,ex,na⟩:=N1.at_ h1
   rw [e] at ex
   cases ex
   exact⟨_,na.1⟩
  ·obtain⟨l,x,_,ex,na⟩:=N1.at_ h1
   rw [nA ex] at k1 k2
   obtain⟨e1,rs,e2,pn⟩:=na.same s2
   have hx:x∈ys:=List.mem_of_getElem? ex
   have tl:x.2.length≤1000:=by
    have:=congrArg List.length (JG ex)
    rw [List.length_append,List.length_append] at this
    have:=I.tl
    omega
   refine⟨p,l,x.1,rs,x.2,rfl,e1,e2,pn,I.len2 _ hx,tl,fun g=>k1 ?_,fun g=>k2 ?_⟩
   ·show (Jd x.1&&!x.2.isEmpty)=true
    rw [g.1]
    cases e:x.2 with
    | nil=>exact absurd e g.2
    | cons _ _=>rfl
   ·show (Jd x.1&&!x.2.isEmpty)=false
    cases e:Jd x.1 with
    | false=>rfl
    | true =>
     cases e2:x.2 with
     | nil=>rfl
     | cons _ _=>exact absurd ⟨e,by rw [e2];intro z;cases z⟩ g
  ·rw [List.length_map] at g
   refine⟨by omega,fun x hx=>?_,g.2.2⟩
   obtain⟨i,hi,rfl⟩:=List.getElem_of_mem hx
   have:=g.2.1 i hi
   rwa [nA (List.getElem?_eq_getElem hi)] at this
  ·rw [List.length_map]
   refine⟨by have:=G.few2;omega,fun i hi=>?_,G.names2⟩
   rw [nA (List.getElem?_eq_getElem hi)]
   exact G.nets _ (List.getElem_mem hi)
  rintro H2 ⟨s2,few2,gn,nn2⟩
  refine Jb (fun σ H'=>∃pl,σ=[oR o,oR a,oR b]∧GB o H H'∧H' o=some (.ins t.jv dx (uf "parts" (.ref pl) []))∧H pl=none∧H' pl=some (.lst (ps.map V.ref))) (fun B hB=>⟨_,rfl,a,_,rfl,.inl (jl.of (s2 _ _ I.ha)),fun pl hpl=>?_⟩) ?_
  ·have npo:pl≠o:=fun z=>by rw [z,s2 _ _ ho] at hpl;cases hpl
   have s3:=jf (o:=.lst (ps.map V.ref)) s2 hpl
   exact⟨_,rfl,o,_,dx,_,rfl,s3 _ _ ho,T.Jp,T.Jx,by decide,hB _ _ ⟨pl,rfl,fun b u n e=>by rw [jj n];exact s3 _ _ e,jd,Same.nn s2 hpl,by rw [jj npo];exact jd⟩⟩
  rintro _ H3 ⟨pl,rfl,b3,o3,hpl,epl⟩
  have up3:∀{q:Addr} {u:HO},H q=some u→(∀C dx fs,u≠.ins C dx fs)→H3 q=some u:=fun e n=>b3 _ _ (ni e n) e
  have hb3:=up3 I.hb (by intro _ _ _ z;cases z)
  have N3:jQ H3 ns ls ys:=I.N.wr (fun _ _ e=>up3 e (by intro _ _ _ z;cases z)) (fun _ _ _ e=>up3 e (by intro _ _ _ z;cases z))
  refine Jb (fun σ H'=>∃nl ns' ls',σ=[oR o,oR a,oR b]∧GB o H3 H'∧H' o=some (.ins t.jv dx (uf "nets" (.ref nl) (uf "parts" (.ref pl) [])))∧H3 nl=none∧H' nl=some (.lst (ns'.map V.ref))∧jQ H' ns' ls' ys∧(∀l∈ls',H3 l=none)) (fun B hB=>⟨_,rfl,b,rfl,⟨_,jl.of hb3⟩,VO (xs:=ns.map V.ref) (fun D i zs H'=>Same H3 H'∧H3 D=none∧H' D=some (.lst zs)∧zs.length≤i∧∃ns' ls',zs=ns'.map V.ref∧jQ H' ns' ls' (ys.take i)∧∀l∈ls',H3 l=none∧l≠D) (by rw [List.length_map,I.N.1];exact Nat.le_trans few2 (by decide)) (fun D hD=>⟨jf (Same.refl H3) hD,hD,jd,Nat.le_refl _,[],[],rfl,zj,fun l h=>nomatch h⟩) (fun D i zs H' hv=>⟨hv.2.2.1,hv.2.2.2.1,jl.of (hv.1 _ _ hb3)⟩) ?_ ?_⟩) ?_
  ·rintro D i v zs H4 Qy Qn hv ⟨s4,hD,eD,lz,ns',ls',rfl,N4,fr⟩ hy hn
   rw [List.getElem?_map] at hv
   obtain⟨p,e1,rfl⟩:=Option.map_eq_some_iff.mp hv
   obtain⟨l,x,_,ex,na⟩:=N3.at_ e1
   obtain⟨ep,rs,el,pn⟩:=na.same s4
   refine⟨⟨_,rfl,rfl⟩,Uu ⟨_,rfl,p,_,0,.str x.1,rfl,rfl,Ji.of ep,rfl,_,rfl,p,_,1,.ref l,rfl,rfl,Ji.of ep,rfl,l,_,rfl,.inl (jl.of el),fun l5 hl5=>?_⟩⟩
   have s5:=jf (o:=.lst (rs.map V.ref)) (Same.refl H4) hl5
   have e5:upd H4 l5 (.lst (rs.map V.ref)) l5=some (.lst (rs.map V.ref)):=jd
   generalize upd H4 l5 (.lst (rs.map V.ref))=H5 at s5 e5
   refine⟨UX,fun u hu=>?_⟩
   have s6:=jf (o:=.tup [.str x.1,.ref l5]) (Same.refl H5) hu
   have e6:upd H5 u (.tup [.str x.1,.ref l5]) u=some (.tup [.str x.1,.ref l5]):=jd
   generalize upd H5 u (.tup [.str x.1,.ref l5])=H6 at s6 e6
   have s46:=Same.trans s5 s6
   have eD6:=s46 _ _ eD
   have nD:l5≠D:=fun z=>by rw [z,eD] at hl5;cases hl5
   refine hy _ _ eD6 ⟨fun q u e=>by rw [jj (jp e hD)];exact s46 _ _ (s4 _ _ e),hD,jd,by rw [List.length_append];exact Nat.succ_le_succ lz,ns'++[u],ls'++[l5],by rw [List.map_append];rfl,?_,fun l hl=>?_⟩
   ·rw [JM ex]
    refine ((N4.same s46).snoc (y:=x) ⟨e6,rs,s6 _ _ e5,pn.same s46⟩).wr (fun q zs e=>by rw [jj (Jw e eD6 (fun z=>nomatch z))];exact e) fun l hl zs e=>?_
    rw [jj]
    ·exact e
    ·rcases List.mem_append.mp hl with z|z
     ·exact (fr l z).2
     ·rw [List.mem_singleton.mp z];exact nD
   ·rcases List.mem_append.mp hl with z|z
    ·exact fr l z
    ·rw [List.mem_singleton.mp z];exact⟨Same.nn s4 hl5,nD⟩
  ·rintro D zs H4 hD0 ⟨s4,hD,eD,lz,ns',ls',rfl,N4,fr⟩
   rw [List.length_map,I.N.1,uH rfl] at N4
   have nDo:D≠o:=fun z=>by rw [z,o3] at hD;cases hD
   refine⟨_,rfl,o,_,dx,_,rfl,s4 _ _ o3,T.Jp,T.JL,Nat.le_of_ble_eq_true (by kernel_rfl),hB _ _ ⟨D,ns',ls',rfl,fun b u n e=>by rw [jj n];exact s4 _ _ e,jd,hD,by rw [jj nDo];exact eD,?_,fun l hl=>(fr l hl).1⟩⟩
   exact N4.wr (fun q zs e=>by rw [jj (Jw e (s4 _ _ o3) (fun z=>nomatch z))];exact e) fun l hl zs e=>by rw [jj (Jw e (s4 _ _ o3) (fun z=>nomatch z))];exact e
  rintro _ H4 ⟨nl,ns',ls',rfl,b4,o4,hnl,enl,N4,fr⟩
  have nsome:∀{q:Addr},H3 q=none→H q=none:=fun {q} e=>by
   cases z:H q with
   | none=>rfl
   | some u =>
    by_cases y:q=o
    ·rw [y,o3] at e;cases e
    ·rw [b3 _ _ y z] at e;cases e
  have b04:GB o H H4:=fun q u n e=>b4 _ _ n (b3 _ _ n e)
  have npo:pl≠o:=fun z=>by rw [z,ho] at hpl;cases hpl
  have up4:∀{q:Addr} {u:HO},H q=some u→(∀C dx fs,u≠.ins C dx fs)→H4 q=some u:=fun e n=>b04 _ _ (ni e n) e
  have ha4:=up4 I.ha (by intro _ _ _ z;cases z)
  have C4:Jh H4 ps xs:=⟨I.C.1,fun i p x h1 h2=>up4 (I.C.2 i p x h1 h2) (by intro _ _ _ z;cases z)⟩
  refine Jb (fun σ H'=>∃kd,σ=[oR o,oR a,oR b]∧GB o H4 H'∧H' o=some (.ins t.jv dx (uf "kinds" (.ref kd) (uf "nets" (.ref nl) (uf "parts" (.ref pl) []))))) (fun B hB=>⟨_,rfl,a,ps,xs,rfl,ha4,C4,few,fun kd H' s' hkd=>⟨_,rfl,o,_,dx,_,rfl,s' _ _ o4,T.Jp,T.uD,Nat.le_of_ble_eq_true (by kernel_rfl),hB _ _ ⟨kd,rfl,fun b u n e=>by rw [jj n];exact s' _ _ e,jd⟩⟩⟩) ?_
  rintro _ H5 ⟨kd,rfl,b5,o5⟩
  have b05:GB o H H5:=fun q u n e=>b5 _ _ n (b04 _ _ n e)
  have up5:∀{q:Addr} {u:HO},H q=some u→(∀C dx fs,u≠.ins C dx fs)→H5 q=some u:=fun e n=>b05 _ _ (ni e n) e
  have N5:jQ H5 ns ls ys:=I.N.wr (fun _ _ e=>up5 e (by intro _ _ _ z;cases z)) (fun _ _ _ e=>up5 e (by intro _ _ _ z;cases z))
  refine⟨_,rfl,_,rfl,a,b,ps,xs,ns,ls,ys,rfl,up5 I.ha (by intro _ _ _ z;cases z),⟨I.C.1,fun i p x h1 h2=>up5 (I.C.2 i p x h1 h2) (by intro _ _ _ z;cases z)⟩,fun x hx=>?_,few,up5 I.hb (by intro _ _ _ z;cases z),N5,I.tl,fun g jn H6 s6 hjn ejn=>?_,fun g H6 s6=>kE (fun G=>g ⟨G.nd,G.pm⟩) _ fun q u n e=>s6 _ _ (b05 _ _ n e)⟩
  ·have:=gp x hx
   unfold jJ.good at this
   rw [Bool.and_eq_true] at this
   exact this.2
  ·have njo:jn≠o:=fun z=>by rw [z,o5] at hjn;cases hjn
   have nno:nl≠o:=fun z=>by rw [z,o3] at hnl;cases hnl
   refine⟨_,rfl,o,_,dx,_,rfl,s6 _ _ o5,T.Jp,T.Jr,Nat.le_of_ble_eq_true (by kernel_rfl),kQ ⟨few,gp,nn,few2,gn,nn2,g.1,g.2⟩ pl nl kd jn ns' ls' _ (fun q u n e=>by rw [jj n];exact s6 _ _ (b05 _ _ n e)) (by rw [jd,eK]) hpl (nsome hnl) ?_ ?_ ?_ (fun l hl=>nsome (fr l hl)) ?_ (by rw [jj njo];exact ejn)⟩
   ·rw [jj npo];exact s6 _ _ (b5 _ _ npo (b4 _ _ npo epl))
   ·rw [jj nno];exact s6 _ _ (b5 _ _ nno enl)
   ·have tk:∀{q:Addr} {u:HO},H4 q=some u→(∀C dx fs,u≠.ins C dx fs)→upd H6 o (.ins t.jv dx (uf "joins" (.ref jn) (uf "kinds" (.ref kd) (uf "nets" (.ref nl) (uf "parts" (.ref pl) []))))) q=some u:=fun {q u} e n=>by
     have nq:q≠o:=Jw e o4 (n _ _ _)
     rw [jj nq];exact s6 _ _ (b5 _ _ nq e)
    exact N4.wr (fun _ _ e=>tk e (by intro _ _ _ z;cases z)) (fun _ _ _ e=>tk e (by intro _ _ _ z;cases z))
   ·cases z:H jn with
    | none=>rfl
    | some u=>rw [b05 _ _ njo z] at hjn;cases hjn
end
end K41
namespace K41
open PySem L2 Wd TS STb
structure Dr (H:Hp) (C o dx pl nl kd jn:Addr) (ps ns ls:oB) (ys:List jy):Prop where
 ho:H o=some (.ins C dx (fD pl nl kd jn))
 hp:H pl=some (.lst (ps.map V.ref))
 hn:H nl=some (.lst (ns.map V.ref))
 N:jQ H ns ls ys
 hj:H jn=some (.dT (uc ys))
theorem Dr.same {H H':Hp}{C o dx pl nl kd jn:Addr}{ps ns ls:oB}{ys:List jy} (d:Dr H C o dx pl nl kd jn ps ns ls ys) (s:Same H H'):Dr H' C o dx pl nl kd jn ps ns ls ys:=⟨s _ _ d.ho,s _ _ d.hp,s _ _ d.hn,d.N.same s,s _ _ d.hj⟩
section
variable {P:oM}{w:World}{K:oq}{mg:ox}{base:Heap}{t:Adr}
def iG (C:Addr):Sp:=fun vs H Q _=>∃(o dx pl nl kd jn p:Addr) (x:j4) (kvs:List (List Key×V)),vs=[.ref o,.ref p]∧H o=some (.ins C dx (fD pl nl kd jn))∧H jn=some (.dT kvs)∧H p=some (.tup [.str x.1,.int x.2])∧Q (.bl (JH kvs (kP x)).isSome) H
theorem Z0 (T:Txt K mg t):GJ P w K mg base 3 t.jv "has_pin" ["self","pin"] (iG t.jv):=by
 obtain⟨fd,F,b⟩:=T.VX
 have G_is_pin:=Kw (P:=P) (w:=w) (base:=base) T
 refine⟨T.Jp,_,fd,T.VY,F.okX Z6 (fun vs H Q E h=>?_) (fun cdv A outer s H vs Q E hr h=>?_),b⟩
 ·obtain⟨o,dx,pl,nl,kd,jn,p,x,kvs,rfl,_⟩:=h
  rfl
 ·obtain⟨o,dx,pl,nl,kd,jn,p,x,kvs,rfl,ho,hj,hp,q⟩:=h
  refine⟨_,(jm (jN (vH (jr G_is_pin hr.m jq (by rfl) (ja (pv 1) je)) (VR (fM (al (GV hr) (pv 1) (zk (pv 0) rfl))))))),?_⟩
  refine⟨_,rfl,p,x.1,x.2,rfl,hp,true,rfl,Uu ⟨_,rfl,_,rfl,o,_,dx,_,.ref jn,rfl,ho,T.Jp,T.Jr,rfl,jn,_,rfl,zA.t (k:=kP x) hj hp,q⟩⟩
def iH (C NP:Addr):Sp:=fun vs H Q E=>∃(o dx pl nl kd jn p:Addr) (x:j4) (kvs:List (List Key×V)),vs=[.ref o,.ref p]∧H o=some (.ins C dx (fD pl nl kd jn))∧H jn=some (.dT kvs)∧H p=some (.tup [.str x.1,.int x.2])∧(∀v,JH kvs (kP x)=some v→Q v H)∧(JH kvs (kP x)=none→E (.ref NP) none H)
theorem V1 (T:Txt K mg t):GJ P w K mg base 4 t.jv "net_of" ["self","pin"] (iH t.jv t.Jm):=by
 obtain⟨fd,F,b⟩:=T.V9
 have G_Drawing_has_pin:=Z0 (P:=P) (w:=w) (base:=base) T
 refine⟨T.Jp,_,fd,T.za,F.okX gI (fun vs H Q E h=>?_) (fun cdv A outer s H vs Q E hr h=>?_),b⟩
 ·obtain⟨o,dx,pl,nl,kd,jn,p,x,kvs,rfl,_⟩:=h
  rfl
 ·obtain⟨o,dx,pl,nl,kd,jn,p,x,kvs,rfl,ho,hj,hp,q,e⟩:=h
  refine⟨_,(jg (jV (Jz (JR (Zg (pv 0) G_Drawing_has_pin hr.m jq (ja (pv 1) je)))) (jm (uT uz rfl T.MI rfl (ja jM je))) jI)
   (jm (jN (da (GV hr) (zk (pv 0) rfl) (pv 1) (fun _ _=>rfl))))),?_⟩
  refine⟨_,rfl,o,dx,_,rfl,ho,rfl,_,rfl,o,dx,pl,nl,kd,jn,p,x,kvs,rfl,ho,hj,hp,_,rfl,Uz (fun g=>⟨Vu,e ?_⟩) fun g=>?_⟩
  ·cases z:JH kvs (kP x) with
   | none=>rfl
   | some v=>rw [z] at g;cases g
  ·obtain⟨v,z⟩:=Option.isSome_iff_exists.mp g
   refine⟨_,rfl,o,_,dx,_,.ref jn,rfl,ho,T.Jp,T.Jr,rfl,_,rfl,jn,v,rfl,z▸zA.t (k:=kP x) hj hp,q v z⟩
def iF (C:Addr):Sp:=fun vs H Q _=>∃(o dx pl nl kd jn:Addr) (ys:List jy),vs=[.ref o]∧H o=some (.ins C dx (fD pl nl kd jn))∧H jn=some (.dT (uc ys))∧∀l bs ks H',Same H H'→H l=none→H' l=some (.lst (bs.map V.ref))→Jv H' bs ks→ks.Perm ((jt ys).map kP)→(ks.Pairwise fun a b=>lx b a=false)→Q (.ref l) H'
theorem ke (T:Txt K mg t):GJ P w K mg base 1 t.jv "pins" ["self"] (iF t.jv):=by
 obtain⟨fd,F,b⟩:=T.zG
 refine⟨T.Jp,_,fd,T.zI,F.okX ku (fun vs H Q E h=>?_) (fun cdv A outer s H vs Q E hr h=>?_),b⟩
 ·obtain⟨o,dx,pl,nl,kd,jn,ys,rfl,_⟩:=h
  rfl
 ·obtain⟨o,dx,pl,nl,kd,jn,ys,rfl,ho,hj,q⟩:=h
  refine⟨_,(jm (jN (jz (ZI rfl) (by rfl) T.uR vY (ja (zk (pv 0) rfl) je)))),?_⟩
  refine⟨_,rfl,o,_,dx,_,.ref jn,rfl,ho,T.Jp,T.Jr,rfl,jn,_,sd (kP ("",0)),rfl,hj,fun kv hkv=>?_,(fun z=>nomatch z),fun l bs ks hl KA pm so=>?_⟩
  ·have:kv.1∈(uc ys).map (·.1):=List.mem_map.mpr ⟨kv,hkv,rfl⟩
   rw [va] at this
   obtain⟨p,_,e⟩:=List.mem_map.mp this
   rw [←e];rfl
  ·rw [va] at pm
   have s3:=jf (o:=.lst (bs.map V.ref)) (Same.refl H) hl
   exact q l bs ks _ s3 hl jd (Jv.mono' KA s3) pm so
end
end K41
namespace K41
open PySem L2 Wd TS STb
theorem ZY {α β:Type} (p:α→Bool) (f:α→β):∀l:List α,((l.filter fun c=>!p c).map f).isEmpty=(l.map p).all id
 | []=>rfl
 | c::r=>by
  rw [List.filter_cons,List.map_cons,List.all_cons]
  cases h:p c with
  | true=>simpa using ZY p f r
  | false=>simp
section
variable {P:oM}{w:World}{K:oq}{mg:ox}{base:Heap}{t:Adr}
theorem zQ (T:Txt K mg t):Ju P w K mg base 1 "_law_is_name" ["_law_text"] aF:=by
 obtain⟨fd,F,b⟩:=T.Zq
 refine⟨_,fd,F.okX kZ (fun vs H Q E h=>?_) (fun cdv A outer s H vs Q E hr h=>?_),b,F.kp,T.zM⟩
 ·obtain⟨v,rfl,_⟩:=h
  rfl
 ·obtain⟨x,rfl,hl,k⟩:=h
  refine⟨_,(jg (jV (UA (Jz (Gw Ze Ze jh (jz ZH (by rfl) T.ue u9 (ja (pv 0) je)) jh)) (u8 (jA Z1 (jK ZT (pv 0) jh (fun _ _=>rfl)) jM (by with_unfolding_all rfl)))).pt (jm (jN UY)) jI)
   (jm (jN (vR (Kx hr.units0) (Uo (own:=["_law_glyph"]) (Vq (N:=["_law_text"]) rfl (by rfl) (by decide +kernel) (by decide +kernel) (by decide +kernel)) (au (pv 0)) (fun _ _ _ _ _=>ju (i:=1) (by show (["_law_text","_law_glyph"]:oG).Nodup;decide +kernel) rfl (Or.inl rfl)) (fun _ _ _ _ _=>zm (jA Z1 (pv 1) jM (by with_unfolding_all rfl))) (fun _ _ _ _ _=>(pv 1))) (jW je) (jG _))))),?_⟩
  have hz:x.length≤sizeLine:=Nat.le_trans hl (by decide)
  unfold Jd at k
  refine⟨_,rfl,x,rfl,hz,1,_,rfl,rfl,_,rfl,uk (fun h1=>⟨_,8,rfl,rfl,_,rfl,Uz (fun h2=>?_) fun h2=>?_⟩) fun h1=>⟨false,rfl,?_⟩⟩
  ·rw [h2,Bool.and_false,Bool.false_and] at k
   exact k _ (Same.refl H)
  ·rw [h2,decide_eq_true h1,Bool.true_and,Bool.true_and] at k
   obtain⟨c,e1,e2⟩:=MM h1
   rw [e2] at k
   refine⟨_,rfl,x,0,c,rfl,rfl,hz,e1,_,_,rfl,rfl,_,rfl,Uz (fun h3=>?_) fun h3=>?_⟩
   ·have h3:Gc c LO=false:=h3
    rw [h3,Bool.false_and] at k
    exact k _ (Same.refl H)
   ·have h3:Gc c LO=true:=h3
    rw [h3,Bool.true_and] at k
    refine⟨_,rfl,_,rfl,mj (fun c=>!Gc c LF) (fun c=>.str ⟨#[c]⟩) hz (fun c hc H' Qy Qn s' kY kN=>⟨⟨[some (.str ⟨#[c]⟩)],rfl,rfl⟩,_,rfl,_,_,rfl,rfl,_,rfl,ZS (fun z=>⟨_,rfl,kY z _ (Same.refl _)⟩) fun z=>kN z _ (Same.refl _)⟩) fun D H1 hD s1 eD=>⟨vT,fun p hp=>?_⟩⟩
    have s2:=jf (o:=.lst []) (Same.refl H1) hp
    refine⟨D,p,_,rfl,rfl,jl.of (s2 _ _ eD),jl.of jd,?_⟩
    rw [ZY]
    exact k _ (Same.trans s1 s2)
  ·rw [decide_eq_false h1,Bool.false_and,Bool.false_and] at k
   exact k _ (Same.refl H)
def bK:Sp:=fun vs H Q _=>∃(a:Addr) (xs:oG),vs=[.ref a]∧H a=some (.lst (xs.map V.str))∧xs.length≤900∧(∀x∈xs,x.length≤1000)∧∀H',Same H H'→Q (.bl (decide (xs.Nodup∧∀x∈xs,Jd x=true))) H'
theorem KN (T:Txt K mg t):Ju P w K mg base 2 "_law_unlike" ["_law_names"] bK:=by
 obtain⟨fd,F,b⟩:=T.ZB
 have G_law_is_name:=zQ (P:=P) (w:=w) (base:=base) T
 refine⟨_,fd,F.okX KQ (fun vs H Q E h=>?_) (fun cdv A outer s H vs Q E hr h=>?_),b,F.kp,T.Zx⟩
 ·obtain⟨a,xs,rfl,_⟩:=h
  rfl
 ·obtain⟨a,xs,rfl,ha,hl,hx,k⟩:=h
  refine⟨_,(jm (jN (vH (vR vc (jz Km (by rfl) T.ue u9 (ja (Jy (Kn rfl) (by rfl) T.Zb ce (ja (pv 0) je)) je)) (jz Jc (by rfl) T.ue u9 (ja (pv 0) je)) (jG _)) (VR (vR (Kx hr.units0) (Uo (own:=["_law_one"]) (Vq (N:=["_law_names"]) rfl (by rfl) (by decide +kernel) (by decide +kernel) (by decide +kernel)) (Ja (pv 0)) (fun _ _ _ _ _=>ju (i:=1) (by show (["_law_names","_law_one"]:oG).Nodup;decide +kernel) rfl (Or.inl rfl)) (fun _ _ _ _ _=>zm (Jz (JR (jr G_law_is_name hr.m Z2 (by rfl) (ja (pv 1) je))))) (fun _ _ _ _ _=>(pv 1))) (jW je) (jG _)))))),?_⟩
  refine⟨_,rfl,a,_,rfl,ha,by omega,fun S hS=>?_⟩
  have s1:=jf (o:=.ext (VV P w S (dd xs).length)) (Same.refl H) hS
  have e1:upd H S (.ext (VV P w S (dd xs).length)) S=some (.ext (VV P w S (dd xs).length)):=jd
  refine⟨S,_,rfl,e1,_,rfl,a,_,rfl,.inl (jl.of (s1 _ _ ha)),rfl,_,rfl,?_⟩
  have ha1:=s1 _ _ ha
  have en:∃H1:Hp,upd H S (.ext (VV P w S (dd xs).length))=H1:=⟨_,rfl⟩
  obtain⟨H1,eH⟩:=en
  rw [eH] at s1 e1 ha1
  refine eH▸?_
  refine uk (fun nd=>?_) fun nd=>?_
  ·have nd:xs.Nodup:=(gq _).mp (by have z:=Int.ofNat.inj (V.int.inj nd);rwa [List.length_map] at z)
   refine⟨_,rfl,a,rfl,⟨_,jl.of ha1⟩,VO (xs:=xs.map V.str) (fun D i zs H'=>Same H1 H'∧H1 D=none∧H' D=some (.lst zs)∧zs.length≤i∧zs=((xs.take i).filter fun x=>!Jd x).map V.str) (by rw [List.length_map];exact Nat.le_trans hl (by decide)) (fun D hD=>⟨jf (Same.refl H1) hD,hD,jd,Nat.le_refl _,rfl⟩) (fun D i zs H' hv=>⟨hv.2.2.1,hv.2.2.2.1,jl.of (hv.1 _ _ ha1)⟩) ?_ ?_⟩
   ·rintro D i v zs H4 Qy Qn hv ⟨s4,hD,eD,lz,rfl⟩ hy hn
    rw [List.getElem?_map] at hv
    obtain⟨x,ex,rfl⟩:=Option.map_eq_some_iff.mp hv
    rw [JM ex,List.filter_append,List.map_append] at hy hn
    refine⟨⟨_,rfl,rfl⟩,_,rfl,x,rfl,hx _ (List.mem_of_getElem? ex),fun H5 s5=>⟨_,rfl,?_⟩⟩
    have eD5:=s5 _ _ eD
    have st5:Same H1 H5:=Same.trans s4 s5
    cases g:Jd x with
    | false =>
     rw [show [x].filter (fun x=>!Jd x)=[x] by rw [List.filter_cons,g];rfl] at hy
     exact Uu ⟨_,rfl,hy _ _ eD5 ⟨fun b u e=>by rw [jj (jp e hD)];exact st5 _ _ e,hD,jd,by rw [List.length_append];exact Nat.succ_le_succ lz,rfl⟩⟩
    | true =>
     rw [show [x].filter (fun x=>!Jd x)=[] by rw [List.filter_cons,g];rfl] at hn
     exact U1 (hn _ ⟨st5,hD,eD5,by omega,(List.append_nil _).symm⟩)
   ·rintro D zs H4 hD0 ⟨s4,hD,eD,lz,rfl⟩
    rw [List.length_map,uH rfl] at eD
    refine⟨vT,fun p hp=>?_⟩
    have s5:=jf (o:=.lst []) (Same.refl H4) hp
    refine⟨D,p,_,rfl,rfl,jl.of (s5 _ _ eD),jl.of jd,?_⟩
    rw [ZY]
    have:(xs.map Jd).all id=decide (xs.Nodup∧∀x∈xs,Jd x=true):=by
     rw [List.all_map,show (id∘Jd)=Jd from rfl]
     by_cases g:∀x∈xs,Jd x=true
     ·rw [decide_eq_true ⟨nd,g⟩];exact List.all_eq_true.mpr g
     ·rw [decide_eq_false (fun z=>g z.2)]
      exact Bool.eq_false_iff.mpr fun z=>g (List.all_eq_true.mp z)
    rw [this]
    exact k _ (Same.trans s1 (Same.trans s4 s5))
  ·rw [decide_eq_false (fun z=>nd (by rw [(gq _).mpr z.1,List.length_map]))] at k
   exact k _ s1
end
end K41
namespace K41
open PySem L2 Wd TS STb
theorem Gu {x:jJ}{p:j4} (h:p∈x.pins):p.1=x.name:=by
 unfold jJ.pins Ua at h
 obtain⟨k,_,rfl⟩:=List.mem_map.mp h
 rfl
theorem Z3:∀{xs:List jJ},(xs.map (·.name)).Nodup→(j9 xs).Nodup
 | [],_=>List.nodup_nil
 | x::r,h=>by
  obtain⟨h1,h2⟩:=List.nodup_cons.mp h
  show (x.pins++j9 r).Nodup
  refine List.nodup_append.mpr ⟨?_,Z3 h2,fun p hp q hq e=>?_⟩
  ·unfold jJ.pins Ua
   exact List.pairwise_map.mpr (List.nodup_range.imp fun {i j} hij e=>hij (Int.ofNat.inj (Prod.mk.inj e).2))
  ·obtain⟨y,hy,hq⟩:=List.mem_flatMap.mp hq
   exact h1 (List.mem_map.mpr ⟨y,hy,by rw [←Gu hq,←e,Gu hp]⟩)
theorem Gh {xs:List jJ}{i:Nat}{x:jJ} (h:xs[i]?=some x):j9 (xs.take (i+1))=j9 (xs.take i)++x.pins:=by
 unfold j9
 rw [JM h,List.flatMap_append]
 simp
theorem jQ.heads {H:Hp}{ns ls:oB}{ys:List jy} (N:jQ H ns ls ys):∀(i:Nat) p x,ns[i]?=some p→(ys.map (·.1))[i]?=some x→∃r,H p=some (.tup (.str x::r)):=fun i p x h1 h2=>by
 rw [List.getElem?_map] at h2
 obtain⟨y,e,rfl⟩:=Option.map_eq_some_iff.mp h2
 obtain⟨l,x,_,ex,na⟩:=N.at_ h1
 rw [e] at ex
 cases ex
 exact⟨_,na.1⟩
theorem Jh.heads {H:Hp}{ps:oB}{xs:List jJ} (C:Jh H ps xs):∀(i:Nat) p x,ps[i]?=some p→(xs.map (·.name))[i]?=some x→∃r,H p=some (.tup (.str x::r)):=fun i p x h1 h2=>by
 rw [List.getElem?_map] at h2
 obtain⟨y,e,rfl⟩:=Option.map_eq_some_iff.mp h2
 exact⟨_,C.2 i p y h1 e⟩
def M2 (H:Hp):V→V|.ref p=>(match H p with|some (.tup (_::b::_))=>b|_=>.non)|_=>.non
theorem aC {H:Hp}{p:Addr}{a b:V}{r:List V} (h:H p=some (.tup (a::b::r))):M2 H (.ref p)=b:=by show (match H p with|some (.tup (_::b::_))=>b|_=>V.non)=b;rw [h]
theorem jQ.seconds {H:Hp}{ns ls:oB}{ys:List jy} (N:jQ H ns ls ys):(ns.map V.ref).map (M2 H)=ls.map V.ref:=by
 obtain⟨n1,n2,n3⟩:=N
 refine List.ext_getElem (by simp [n1,n2]) fun i h1 h2=>?_
 have g1:i<ns.length:=by simpa using h1
 have g2:i<ls.length:=by simpa using h2
 have g3:i<ys.length:=by omega
 obtain⟨e,_⟩:=n3 i _ _ _ (List.getElem?_eq_getElem g1) (List.getElem?_eq_getElem g2) (List.getElem?_eq_getElem g3)
 rw [List.getElem_map,List.getElem_map,List.getElem_map,aC e]
def MJ (H:Hp) (q:Addr):Bool:=match H q with|some (.lst zs)=>zs.isEmpty|_=>false
theorem mq {H:Hp}{q:Addr}{zs:List V} (h:H q=some (.lst zs)):MJ H q=zs.isEmpty:=by unfold MJ;rw [h]
theorem jQ.at_l {H:Hp}{ns ls:oB}{ys:List jy} (N:jQ H ns ls ys) {l:Addr} (h:l∈ls):∃y∈ys,∃us,H l=some (.lst (us.map V.ref))∧jD H us y.2:=by
 obtain⟨n1,n2,n3⟩:=N
 obtain⟨i,hi,rfl⟩:=List.getElem_of_mem h
 have g1:i<ns.length:=by omega
 have g3:i<ys.length:=by omega
 obtain⟨_,us,e,pn⟩:=n3 i _ _ _ (List.getElem?_eq_getElem g1) (List.getElem?_eq_getElem hi) (List.getElem?_eq_getElem g3)
 exact⟨_,List.getElem_mem g3,us,e,pn⟩
theorem jQ.at_y {H:Hp}{ns ls:oB}{ys:List jy} (N:jQ H ns ls ys) {y:jy} (h:y∈ys):∃l∈ls,∃us,H l=some (.lst (us.map V.ref))∧jD H us y.2:=by
 obtain⟨n1,n2,n3⟩:=N
 obtain⟨i,hi,rfl⟩:=List.getElem_of_mem h
 have g1:i<ns.length:=by omega
 have g3:i<ls.length:=by omega
 obtain⟨_,us,e,pn⟩:=n3 i _ _ _ (List.getElem?_eq_getElem g1) (List.getElem?_eq_getElem g3) (List.getElem?_eq_getElem hi)
 exact⟨_,List.getElem_mem g3,us,e,pn⟩
theorem n9 (l:List j4):∀k∈l.map kP,sd k=sd (kP ("",0)):=fun k hk=>by
 obtain⟨p,_,e⟩:=List.mem_map.mp hk
 rw [←e];rfl
section
variable {P:oM}{w:World}{K:oq}{mg:ox}{base:Heap}{t:Adr}
def fZ:Sp:=fun vs H Q _=>∃(a b:Addr) (ps:oB) (xs:List jJ) (ns ls:oB) (ys:List jy),vs=[.ref a,.ref b]∧In H a b ps xs ns ls ys∧(vy xs ys→∀H',Same H H'→Q (.bl true) H')∧(¬vy xs ys→∀H',Same H H'→Q (.bl false) H')
theorem Mp (T:Txt K mg t):Ju P w K mg base 3 "_law_good" ["_law_parts_here","_law_nets_here"] fZ:=by
 obtain⟨fd,F,b⟩:=T.GF
 have G_law_is_name:=zQ (P:=P) (w:=w) (base:=base) T
 have G_law_unlike:=KN (P:=P) (w:=w) (base:=base) T
 refine⟨_,fd,F.okX uj (fun vs H Q E h=>?_) (fun cdv A outer s H vs Q E hr h=>?_),b,F.kp,T.gY⟩
 ·obtain⟨a,b,ps,xs,ns,ls,ys,rfl,_⟩:=h
  rfl
 ·obtain⟨a,b,ps,xs,ns,ls,ys,rfl,I,kQ,kE⟩:=h
  refine⟨_,(jg (jV (UA (jA Zd (jz Jc (by rfl) T.ue u9 (ja (pv 0) je)) jh (jG _)) (UA (jA Zd (jz Jc (by rfl) T.ue u9 (ja (pv 1) je)) jh (jG _)) (u8 (Jz (JR (jr G_law_unlike hr.m jq (by rfl) (ja (Uo (own:=["_law_one"]) (Vq (N:=["_law_parts_here","_law_nets_here","_law_pins","_law_name","_law_kind","_law_many","_law_told","_law_some"]) rfl (by rfl) (by decide +kernel) (by decide +kernel) (by decide +kernel)) (Ja (pv 0)) (fun _ _ _ _ _=>ju (i:=8) (by show (["_law_parts_here","_law_nets_here","_law_pins","_law_name","_law_kind","_law_many","_law_told","_law_some","_law_one"]:oG).Nodup;decide +kernel) rfl (Or.inl rfl)) (fun _ _ _ _ _=>U4) (fun _ _ _ _ _=>(jK (vt (K:=K) rfl) (pv 8) jh (fun _ _=>rfl)))) je))))))).pt (jm (jN UY)) jI)
   (jg (jV (UA (Jz (JR (jr G_law_unlike hr.m jq (by rfl) (ja (Uo (own:=["_law_one"]) (Vq (N:=["_law_parts_here","_law_nets_here","_law_pins","_law_name","_law_kind","_law_many","_law_told","_law_some"]) rfl (by rfl) (by decide +kernel) (by decide +kernel) (by decide +kernel)) (Ja (pv 1)) (fun _ _ _ _ _=>ju (i:=8) (by show (["_law_parts_here","_law_nets_here","_law_pins","_law_name","_law_kind","_law_many","_law_told","_law_some","_law_one"]:oG).Nodup;decide +kernel) rfl (Or.inl rfl)) (fun _ _ _ _ _=>U4) (fun _ _ _ _ _=>(jK (vt (K:=K) rfl) (pv 8) jh (fun _ _=>rfl)))) je)))) (u8 (jA (vG hr.units0) (Uo (own:=["_law_one"]) (Vq (N:=["_law_parts_here","_law_nets_here","_law_pins","_law_name","_law_kind","_law_many","_law_told","_law_some"]) rfl (by rfl) (by decide +kernel) (by decide +kernel) (by decide +kernel)) (Ja (pv 0)) (fun _ _ _ _ _=>ju (i:=8) (by show (["_law_parts_here","_law_nets_here","_law_pins","_law_name","_law_kind","_law_many","_law_told","_law_some","_law_one"]:oG).Nodup;decide +kernel) rfl (Or.inl rfl)) (fun _ _ _ _ _=>zm (Jz (JR (jr G_law_is_name hr.m Z2 (by rfl) (ja (jK (vt (K:=K) rfl) (pv 8) jh (fun _ _=>rfl)) je))))) (fun _ _ _ _ _=>(pv 8))) (jW je) (jG _)))).pt (jm (jN UY)) jI)
   (jg (jB (i:=2) uj.nd rfl (Or.inl rfl) (jW je))
   (jg (uC JF (Ja (pv 0)) (u6 rfl (jH (ju (i:=3) uj.nd rfl (Or.inr rfl)) (jH (ju (i:=4) uj.nd rfl (Or.inl rfl)) (jH (ju (i:=5) uj.nd rfl (Or.inl rfl)) uo)))) (jg (jV (UA (JR (jz Ut (by rfl) T.jT Jl (ja (pv 5) (ja (U3 (v:=.ty "bool") (by rfl) T.zi Nm rfl) je)))) (UA (jA K2 (pv 5) jh (jG _)) (u8 (jA Zd (pv 5) jh (jG _))))).pt (jm (jN UY)) jI)
   (jm (jB (i:=2) uj.nd rfl (Or.inl rfl) (jP vk (pv 2) (Uo (own:=["_law_number"]) (Nu (n:="_law_name") (N:=["_law_parts_here","_law_nets_here","_law_pins","_law_name","_law_kind","_law_many","_law_told","_law_some"]) rfl (by rfl) (by rfl) rfl (by rfl) (by decide +kernel) (by decide +kernel) (by decide +kernel)) (UL rfl T.uO (ja (pv 5) je)) (fun _ _ _ _ _=>ju (i:=8) (by show (["_law_parts_here","_law_nets_here","_law_pins","_law_name","_law_kind","_law_many","_law_told","_law_some","_law_number"]:oG).Nodup;decide +kernel) rfl (Or.inl rfl)) (fun _ _ _ _ _=>U4) (fun _ _ _ _ _=>(j8 (ja (pv 3) (ja (pv 8) je))))))))))
   (jg (jB (i:=6) uj.nd rfl (Or.inl rfl) (jW je))
   (jg (uC JF (Ja (pv 1)) (u6 rfl (jH (ju (i:=3) uj.nd rfl (Or.inr rfl)) (jH (ju (i:=7) uj.nd rfl (Or.inl rfl)) uo))) (jm (jB (i:=6) uj.nd rfl (Or.inl rfl) (jP vk (pv 6) (pv 7)))))
   (jm (jN (vH (vR (MU hr.units) (jz Vo (by rfl) T.uR vY (ja (pv 6) je)) (jz Vo (by rfl) T.uR vY (ja (pv 2) je)) (jG _)) (VR (vR (ai hr.units) (jW je) (Uo (own:=["_law_one"]) (Vq (N:=["_law_parts_here","_law_nets_here","_law_pins","_law_name","_law_kind","_law_many","_law_told","_law_some"]) rfl (by rfl) (by decide +kernel) (by decide +kernel) (by decide +kernel)) (Ja (pv 1)) (fun _ _ _ _ _=>ju (i:=8) (by show (["_law_parts_here","_law_nets_here","_law_pins","_law_name","_law_kind","_law_many","_law_told","_law_some","_law_one"]:oG).Nodup;decide +kernel) rfl (Or.inl rfl)) (fun _ _ _ _ _=>U4) (fun _ _ _ _ _=>(jK (vt (K:=K) rfl) (pv 8) jh (fun _ _=>rfl)))) (by with_unfolding_all rfl)))))))))))),?_⟩
  have l1:(ps.map V.ref).length=xs.length:=by rw [List.length_map];exact I.C.1
  have l2:(ns.map V.ref).length=ys.length:=by rw [List.length_map];exact I.N.1
  refine VS [oR a,oR b,none,none,none,none,none,none] (fun H'=>Same H H'∧xs.length≤8∧ys.length≤24∧(xs.map (·.name)).Nodup∧∀z∈xs.map (·.name),Jd z=true) (fun B hB=>?_) ?_
  ·refine⟨_,rfl,a,_,rfl,.inl (jl.of I.ha),_,8,rfl,rfl,_,rfl,uk (fun g=>kE (fun G=>?_) _ (Same.refl H)) fun g=>⟨_,rfl,b,_,rfl,.inl (jl.of I.hb),_,24,rfl,rfl,_,rfl,uk (fun g2=>kE (fun G=>?_) _ (Same.refl H)) fun g2=>⟨_,rfl,a,rfl,⟨_,jl.of I.ha⟩,vD (xs:=ps.map V.ref) (fun _=>true) (zy H) (jl.of I.ha) (by rw [l1];exact Nat.le_trans I.few (by decide)) (fun x hx1 H' Qy Qn s' hy _=>?_) fun D hD=>?_⟩⟩⟩
   ·have:=G.few
    rw [l1] at g
    omega
   ·have:=G.few2
    rw [l2] at g2
    omega
   ·obtain⟨p,hp,rfl⟩:=List.mem_map.mp hx1
    obtain⟨i,hi,rfl⟩:=List.getElem_of_mem hp
    have h2:i<(xs.map (·.name)).length:=by rw [List.length_map,←I.C.1];exact hi
    obtain⟨r,e⟩:=I.C.heads i _ _ (List.getElem?_eq_getElem hi) (List.getElem?_eq_getElem h2)
    refine⟨⟨_,rfl,rfl⟩,Uu (eU (.str _) (Ji.of (s' _ _ e)) ?_)⟩
    have:=hy rfl
    rwa [GU e] at this
   ·have s3:=jf (o:=.lst (((ps.map V.ref).filter fun _=>true).map (zy H))) (Same.refl H) hD
    have e3:upd H D (.lst (((ps.map V.ref).filter fun _=>true).map (zy H))) D=some (.lst ((xs.map (·.name)).map V.str)):=by rw [jd,List.filter_eq_self.mpr (fun _ _=>rfl),heads (by rw [List.length_map];exact I.C.1) I.C.heads]
    generalize upd H D (.lst (((ps.map V.ref).filter fun _=>true).map (zy H)))=H2 at s3 e3
    refine⟨D,_,rfl,e3,by rw [List.length_map];exact I.few,fun z hz=>?_,fun H' s'=>⟨_,rfl,Uz (fun g3=>kE (fun G=>?_) _ (Same.trans s3 s')) fun g3=>hB _ ⟨Same.trans s3 s',by rw [l1] at g;omega,by rw [l2] at g2;omega,(of_decide_eq_true g3).1,(of_decide_eq_true g3).2⟩⟩⟩
    ·obtain⟨x,hx,rfl⟩:=List.mem_map.mp hz
     exact (I.len x hx).1
    ·refine of_decide_eq_false g3 ⟨G.names,fun z hz=>?_⟩
     obtain⟨x,hx,rfl⟩:=List.mem_map.mp hz
     have:=G.parts x hx
     unfold jJ.good at this
     rw [Bool.and_eq_true,Bool.and_eq_true] at this
     exact this.1.1
  rintro H1 ⟨s1,few,few2,nn,nn1⟩
  have N1:=I.N.same s1
  have C1:=I.C.same s1
  have ha1:=s1 _ _ I.ha
  have hb1:=s1 _ _ I.hb
  refine VS [oR a,oR b,none,none,none,none,none,none] (fun H'=>Same H H'∧(ys.map (·.1)).Nodup∧(∀z∈ys.map (·.1),Jd z=true)∧∀x∈xs,Jd x.kind=true) (fun B hB=>?_) ?_
  ·refine⟨_,rfl,b,rfl,⟨_,jl.of hb1⟩,vD (xs:=ns.map V.ref) (fun _=>true) (zy H1) (jl.of hb1) (by rw [l2];exact Nat.le_trans I.few2 (by decide)) (fun x hx1 H' Qy Qn s' hy _=>?_) fun D hD=>?_⟩
   ·obtain⟨p,hp,rfl⟩:=List.mem_map.mp hx1
    obtain⟨i,hi,rfl⟩:=List.getElem_of_mem hp
    have h2:i<(ys.map (·.1)).length:=by rw [List.length_map,←I.N.1];exact hi
    obtain⟨r,e⟩:=N1.heads i _ _ (List.getElem?_eq_getElem hi) (List.getElem?_eq_getElem h2)
    refine⟨⟨_,rfl,rfl⟩,Uu (eU (.str _) (Ji.of (s' _ _ e)) ?_)⟩
    have:=hy rfl
    rwa [GU e] at this
   ·have s3:=jf (o:=.lst (((ns.map V.ref).filter fun _=>true).map (zy H1))) (Same.refl H1) hD
    have e3:upd H1 D (.lst (((ns.map V.ref).filter fun _=>true).map (zy H1))) D=some (.lst ((ys.map (·.1)).map V.str)):=by rw [jd,List.filter_eq_self.mpr (fun _ _=>rfl),heads (by rw [List.length_map];exact I.N.1) N1.heads]
    generalize upd H1 D (.lst (((ns.map V.ref).filter fun _=>true).map (zy H1)))=H2 at s3 e3
    refine⟨D,_,rfl,e3,by rw [List.length_map];exact I.few2,fun z hz=>?_,fun H3 s4=>⟨_,rfl,Uz (fun g3=>kE (fun G=>?_) _ (Same.trans s1 (Same.trans s3 s4))) fun g3=>?_⟩⟩
    ·obtain⟨x,hx,rfl⟩:=List.mem_map.mp hz
     exact I.len2 x hx
    ·refine of_decide_eq_false g3 ⟨G.names2,fun z hz=>?_⟩
     obtain⟨x,hx,rfl⟩:=List.mem_map.mp hz
     have:=G.nets x hx
     unfold jy.good at this
     rw [Bool.and_eq_true] at this
     exact this.1
    ·have s03:=Same.trans s1 (Same.trans s3 s4)
     have ha3:=s03 _ _ I.ha
     refine⟨_,rfl,a,rfl,⟨_,jl.of ha3⟩,VO (xs:=ps.map V.ref) (fun D i zs H'=>Same H3 H'∧H3 D=none∧H' D=some (.lst zs)∧zs.length≤i∧(zs.isEmpty=true↔∀x∈xs.take i,Jd x.kind=true)) (by rw [l1];exact Nat.le_trans I.few (by decide)) (fun D hD=>⟨jf (Same.refl H3) hD,hD,jd,Nat.le_refl _,⟨(fun _ x h=>nomatch h),fun _=>rfl⟩⟩) (fun D i zs H' hv=>⟨hv.2.2.1,hv.2.2.2.1,jl.of (hv.1 _ _ ha3)⟩) ?_ ?_⟩
     ·rintro D i v zs H4 Qy Qn hv ⟨s4,hD,eD,lz,iz⟩ hy hn
      rw [List.getElem?_map] at hv
      obtain⟨p,ep,rfl⟩:=Option.map_eq_some_iff.mp hv
      have hi:i<xs.length:=by rw [←I.C.1];exact (List.getElem?_eq_some_iff.mp ep).1
      have ex:=List.getElem?_eq_getElem hi
      have e4:=s4 _ _ (s03 _ _ (I.C.2 i p _ ep ex))
      refine⟨⟨_,rfl,rfl⟩,_,rfl,p,_,1,.str xs[i].kind,rfl,rfl,Ji.of e4,rfl,xs[i].kind,rfl,(I.len _ (List.getElem_mem hi)).2.1,fun H5 s5=>⟨_,rfl,?_⟩⟩
      have eD5:=s5 _ _ eD
      have st5:Same H3 H5:=Same.trans s4 s5
      cases g:Jd xs[i].kind with
      | false =>
       refine Uu ⟨_,rfl,hy _ _ eD5 ⟨fun b u e=>by rw [jj (jp e hD)];exact st5 _ _ e,hD,jd,by rw [List.length_append];exact Nat.succ_le_succ lz,⟨fun z=>?_,fun z=>?_⟩⟩⟩
       ·cases zs<;>cases z
       ·have:=z xs[i] (by rw [JM ex];exact List.mem_append_right _ (List.mem_singleton.mpr rfl))
        rw [g] at this;cases this
      | true =>
       refine U1 (hn _ ⟨st5,hD,eD5,by omega,iz.trans ⟨fun h x hx=>?_,fun h x hx=>?_⟩⟩)
       ·rw [JM ex] at hx
        rcases List.mem_append.mp hx with z|z
        ·exact h x z
        ·rw [List.mem_singleton.mp z];exact g
       ·exact h x (by rw [JM ex];exact List.mem_append_left _ hx)
     ·rintro D zs H4 hD0 ⟨s4,hD,eD,lz,iz⟩
      rw [l1,uH rfl] at iz
      refine⟨vT,fun p hp=>?_⟩
      have s5:=jf (o:=.lst []) (Same.refl H4) hp
      have s05:=Same.trans s03 (Same.trans s4 s5)
      refine⟨D,p,_,rfl,rfl,jl.of (s5 _ _ eD),jl.of jd,_,rfl,Uz (fun g4=>kE (fun G=>?_) _ s05) fun g4=>hB _ ⟨s05,(of_decide_eq_true g3).1,(of_decide_eq_true g3).2,iz.mp g4⟩⟩
      rw [iz.mpr fun x hx=>?_] at g4
      ·cases g4
      ·have:=G.parts x hx
       unfold jJ.good at this
       rw [Bool.and_eq_true,Bool.and_eq_true] at this
       exact this.1.2
  rintro H2 ⟨s2,nn2,nn3,kn⟩
  refine U9 (fun (D:Addr)=>[oR a,oR b,oR D,none,none,none,none,none]) (fun D H'=>Same H H'∧H' D=some (.lst [])) (fun B hB=>⟨vT,fun D hD=>hB D _ ⟨jf s2 hD,jd⟩⟩) ?_
  rintro D0 H3 ⟨s3,eD0⟩
  have ha3:=s3 _ _ I.ha
  refine cE (fun (fo:Addr) (qs:oB) (v3 v4 v5:Option V)=>[oR a,oR b,oR fo,v3,v4,v5,none,none]) (fun fo qs _ _ _ H'=>Same H H'∧H' fo=some (.lst (qs.map V.ref))∧jD H' qs (j9 xs)∧∀x∈xs,x.many?=true) (fun B hB=>?_) ?_
  ·refine⟨_,rfl,a,rfl,⟨_,jl.of ha3⟩,JS (xs:=ps.map V.ref) (fun i σ H'=>∃(fo:Addr) (qs:oB) (v3 v4 v5:Option V),σ=[oR a,oR b,oR fo,v3,v4,v5,none,none]∧Same H H'∧H' fo=some (.lst (qs.map V.ref))∧jD H' qs (j9 (xs.take i))∧qs.length≤8*i∧∀x∈xs.take i,x.many?=true) ⟨D0,[],_,_,_,rfl,s3,eD0,uS,Nat.le_refl _,(fun x h=>nomatch h)⟩ (fun i σ H' _ h=>by obtain⟨_,_,_,_,_,_,e,_⟩:=h;exact jl.of (e _ _ I.ha)) ?_ ?_⟩
   ·rintro i v σ H4 hv ⟨fo,qs,v3,v4,v5,rfl,s4,e4,C4,l4,m4⟩
    rw [List.getElem?_map] at hv
    obtain⟨p,e1,rfl⟩:=Option.map_eq_some_iff.mp hv
    have hi:i<xs.length:=by rw [←I.C.1];exact (List.getElem?_eq_some_iff.mp e1).1
    have ex:=List.getElem?_eq_getElem hi
    have hx:=List.getElem_mem hi
    have ep:=s4 _ _ (I.C.2 i p _ e1 ex)
    have bad:xs[i].many?=false→Q (.bl false) H4:=fun z=>kE (fun G=>by
     have:=G.parts _ hx
     unfold jJ.good at this
     rw [z,Bool.and_false] at this
     cases this) _ s4
    have isn:=(I.len _ hx).2.2
    refine⟨p,_,rfl,Ji.of ep,rfl,_,_,rfl,_,_,rfl,_,_,rfl,rfl,?_⟩
    cases em:xs[i].many with
    | bl x=>exact⟨_,rfl,.bl x,.ty "bool",_,_,true,rfl,.bl x,.ty _,by kernel_rfl,true,rfl,Uu (bad (by unfold jJ.many?;rw [em]))⟩
    | int n =>
     have mn:xs[i].many?=(decide (1≤n)&&decide (n≤8)):=by unfold jJ.many?;rw [em]
     rw [mn] at bad
     refine⟨_,rfl,.int n,.ty "bool",_,_,false,rfl,.int n,.ty _,by kernel_rfl,false,rfl,U1 ⟨_,rfl,n,1,rfl,rfl,_,rfl,uk (fun g1=>bad (by rw [decide_eq_false (by omega),Bool.false_and])) fun g1=>⟨_,rfl,n,8,rfl,rfl,_,rfl,uk (fun g2=>bad (by rw [decide_eq_false (show ¬n≤8 by omega),Bool.and_false])) fun g2=>?_⟩⟩⟩
     obtain⟨m,hm⟩:∃m:Nat,(m:Int)=n:=⟨n.toNat,by omega⟩
     have en2:xs[i].pins=Ua xs[i].name m:=by
      unfold jJ.pins jJ.n
      rw [em,←hm]
      rfl
     have gm:xs[i].many?=true:=by rw [mn,decide_eq_true (show 1≤n by omega),decide_eq_true (show n≤8 by omega)];rfl
     refine⟨_,rfl,_,rfl,m,congrArg (fun z=>[V.int z]) hm.symm,by omega,by omega,GN (lo:=0) (n:=m) (fun D' k ys H'=>H4 D'=none∧Same H4 H'∧H' D'=some (.lst ys)∧ys.length=k∧∃rs:List Addr,ys=rs.map V.ref∧jD H' rs (Ua xs[i].name k)) (Nat.le_trans (show m≤8 by omega) (by decide)) (fun D' hD'=>⟨hD',jf (Same.refl _) hD',jd,rfl,[],rfl,uS⟩) (fun D' k ys H' ⟨_,_,e,l,_⟩=>⟨e,l⟩) ?_ ?_⟩
     ·rintro D' k ys H5 Qy Qn hk ⟨d1,d2,d3,d4,rs,rfl,C5⟩ hy
      have e3:(0:Int)+(k:Int)=(k:Int):=by omega
      rw [e3]
      refine⟨⟨_,rfl,rfl⟩,Uu ⟨_,rfl,_,rfl,UX,fun p4 hp4=>?_⟩⟩
      have s5:=jf (o:=.tup [.str xs[i].name,.int (k:Int)]) (Same.refl H5) hp4
      have d3':=s5 _ _ d3
      have e5:upd H5 p4 (.tup [.str xs[i].name,.int (k:Int)]) p4=some (.tup [.str xs[i].name,.int (k:Int)]):=jd
      refine hy _ _ d3' ⟨d1,fun x u e=>by rw [jj (jp e d1)];exact s5 _ _ (d2 _ _ e),jd,by rw [List.length_append,d4];rfl,rs++[p4],by rw [List.map_append];rfl,?_⟩
      unfold Ua
      rw [List.range_succ,List.map_append]
      exact ((C5.same s5).app (jD.one (x:=(xs[i].name,(k:Int))) e5)).wr d3' (by intro ys z;cases z)
     ·rintro D' ys H5 hD' ⟨d1,d2,d3,d4,rs,rfl,C5⟩
      have lr:rs.length=m:=by rw [List.length_map] at d4;exact d4
      refine⟨fo,D',_,_,rfl,rfl,d2 _ _ e4,d3,?_,fun p5 hp5=>?_⟩
      ·rw [List.length_map,List.length_map]
       exact Nat.le_trans (show _≤1000 by omega) (by decide)
      ·have s5:=jf (o:=.lst (qs.map V.ref++rs.map V.ref)) (Same.refl H5) hp5
       refine⟨p5,qs++rs,_,_,_,rfl,Same.trans s4 (Same.trans d2 s5),by rw [jd,List.map_append],?_,by rw [List.length_append];omega,fun x hx=>?_⟩
       ·rw [Gh ex,en2]
        exact ((C4.same d2).app C5).same s5
       ·rw [JM ex] at hx
        rcases List.mem_append.mp hx with z|z
        ·exact m4 x z
        ·rw [List.mem_singleton.mp z];exact gm
    | _=>rw [em] at isn;cases isn
   ·rintro σ H4 ⟨fo,qs,v3,v4,v5,rfl,s4,e4,C4,l4,m4⟩
    rw [l1,uH rfl] at C4 m4
    exact hB fo qs _ _ _ _ ⟨s4,e4,C4,m4⟩
  rintro fo qs v3 v4 v5 H4 ⟨s4,e4,C4,m4⟩
  refine U9 (fun (D:Addr)=>[oR a,oR b,oR fo,v3,v4,v5,oR D,none]) (fun D H'=>Same H4 H'∧H' D=some (.lst [])) (fun B hB=>⟨vT,fun D hD=>hB D _ ⟨jf (Same.refl H4) hD,jd⟩⟩) ?_
  rintro D1 H5 ⟨s5,eD1⟩
  have s05:=Same.trans s4 s5
  refine iY (fun (to:Addr) (rs:oB) (v3 v7:Option V)=>[oR a,oR b,oR fo,v3,v4,v5,oR to,v7]) (fun to rs _ _ H'=>Same H4 H'∧H' to=some (.lst (rs.map V.ref))∧jD H' rs (jt ys)) (fun B hB=>?_) ?_
  ·refine⟨_,rfl,b,rfl,⟨_,jl.of (s05 _ _ I.hb)⟩,JS (xs:=ns.map V.ref) (fun i σ H'=>∃(to:Addr) (rs:oB) (v3 v7:Option V),σ=[oR a,oR b,oR fo,v3,v4,v5,oR to,v7]∧Same H4 H'∧H' to=some (.lst (rs.map V.ref))∧jD H' rs (jt (ys.take i))) ⟨D1,[],_,_,rfl,s5,eD1,uS⟩ (fun i σ H' _ h=>by obtain⟨_,_,_,_,_,e,_⟩:=h;exact jl.of (e _ _ (s4 _ _ I.hb))) ?_ ?_⟩
   ·rintro i v σ H6 hv ⟨to,rs,v3',v7,rfl,s6,e6,C6⟩
    rw [List.getElem?_map] at hv
    obtain⟨p,e1,rfl⟩:=Option.map_eq_some_iff.mp hv
    obtain⟨l,x,_,ex,na⟩:=(I.N.same (Same.trans s4 s6)).at_ e1
    obtain⟨ep,us,el,pn⟩:=na
    refine⟨p,_,rfl,Ji.of ep,rfl,_,_,rfl,_,_,rfl,rfl,?_⟩
    have ln:rs.length+us.length≤1000:=by
     have:=congrArg List.length (JG ex)
     rw [List.length_append,List.length_append] at this
     have:=I.tl
     have:=C6.len
     have:=pn.len
     omega
    refine⟨_,rfl,_,rfl,to,l,_,_,rfl,rfl,e6,el,by rw [List.length_map,List.length_map];exact Nat.le_trans ln (by decide),fun p5 hp5=>?_⟩
    have s7:=jf (o:=.lst (rs.map V.ref++us.map V.ref)) (Same.refl H6) hp5
    exact⟨p5,rs++us,_,_,rfl,Same.trans s6 s7,by rw [jd,List.map_append],by rw [VU ex];exact (C6.app pn).same s7⟩
   ·rintro σ H6 ⟨to,rs,v3',v7,rfl,s6,e6,C6⟩
    rw [l2,uH rfl] at C6
    exact hB to rs _ _ _ ⟨s6,e6,C6⟩
  rintro to rs v3' v7 H6 ⟨s6,e6,C6⟩
  refine⟨_,rfl,to,rs,_,_,rfl,e6,C6,n9 _,(fun z=>nomatch z),fun l bs ks hl KA pm so=>?_⟩
  have s7:=jf (o:=.lst (bs.map V.ref)) (Same.refl H6) hl
  have e7:upd H6 l (.lst (bs.map V.ref)) l=some (.lst (bs.map V.ref)):=jd
  generalize upd H6 l (.lst (bs.map V.ref))=H7 at s7 e7
  have s47:=Same.trans s6 s7
  refine⟨_,rfl,fo,qs,_,_,rfl,s47 _ _ e4,C4.same s47,n9 _,(fun z=>nomatch z),fun l' bs' ks' hl' KA' pm' so'=>?_⟩
  have s8:=jf (o:=.lst (bs'.map V.ref)) (Same.refl H7) hl'
  have e8:upd H7 l' (.lst (bs'.map V.ref)) l'=some (.lst (bs'.map V.ref)):=jd
  generalize upd H7 l' (.lst (bs'.map V.ref))=H8 at s8 e8
  have s08:=Same.trans s4 (Same.trans s47 s8)
  refine⟨l,l',bs,bs',ks,ks',rfl,rfl,jl.of (s8 _ _ e7),jl.of e8,Jv.mono' KA (Same.trans s7 s8),Jv.mono' KA' s8,_,rfl,uk (fun h=>?_) fun h=>kE (fun G=>h (VT (pm.trans ((G.pm.map kP).trans pm'.symm)) so so')) _ s08⟩
  have prm:(jt ys).Perm (j9 xs):=MW (pm.symm.trans (h▸pm'))
  have nd:(jt ys).Nodup:=prm.nodup_iff.mpr (Z3 nn)
  refine⟨vT,fun p hp=>?_⟩
  have s9:=jf (o:=.lst []) (Same.refl H8) hp
  have e9:upd H8 p (.lst []) p=some (.lst []):=jd
  have fr:∀q u,H8 q=some u→q≠p:=fun q u e=>jp e hp
  generalize upd H8 p (.lst [])=H9 at s9 e9
  have s09:=Same.trans s08 s9
  have N9:=I.N.same s09
  have hb9:=s09 _ _ I.hb
  refine⟨_,rfl,b,rfl,⟨_,jl.of hb9⟩,vD (xs:=ns.map V.ref) (fun _=>true) (M2 H9) (jl.of hb9) (by rw [l2];exact Nat.le_trans I.few2 (by decide)) (fun x hx1 H' Qy Qn s' hy _=>?_) fun D hD=>?_⟩
  ·obtain⟨q,hq,rfl⟩:=List.mem_map.mp hx1
   obtain⟨i,hi,rfl⟩:=List.getElem_of_mem hq
   obtain⟨l,x,_,ex,na⟩:=N9.at_ (List.getElem?_eq_getElem hi)
   refine⟨⟨_,rfl,rfl⟩,Uu ⟨_,rfl,_,_,1,.ref l,rfl,rfl,Ji.of (s' _ _ na.1),rfl,?_⟩⟩
   have:=hy rfl
   rwa [aC na.1] at this
  ·have s10:=jf (o:=.lst (((ns.map V.ref).filter fun _=>true).map (M2 H9))) (Same.refl H9) hD
   have e10:upd H9 D (.lst (((ns.map V.ref).filter fun _=>true).map (M2 H9))) D=some (.lst (ls.map V.ref)):=by rw [jd,List.filter_eq_self.mpr (fun _ _=>rfl),N9.seconds]
   generalize upd H9 D (.lst (((ns.map V.ref).filter fun _=>true).map (M2 H9)))=H10 at s10 e10
   have s010:=Same.trans s09 s10
   refine⟨p,D,ls,MJ H9,rfl,rfl,jl.of (s10 _ _ e9),jl.of e10,fun q hq=>?_,?_⟩
   ·obtain⟨y,_,us,e,_⟩:=(I.N.same s08).at_l hq
    exact⟨fr _ _ e,_,jl.of (s10 _ _ (s9 _ _ e)),mq (s9 _ _ e)⟩
   ·cases g:ls.any (MJ H9) with
    | true =>
     refine kE (fun G=>?_) _ s010
     obtain⟨q,hq,eq⟩:=List.any_eq_true.mp g
     obtain⟨y,hy,us,e,pn⟩:=N9.at_l hq
     rw [mq e] at eq
     have:=G.nets y hy
     unfold jy.good at this
     rw [Bool.and_eq_true] at this
     have l3:=pn.len
     cases us with
     | nil=>rw [List.length_eq_zero_iff.mp l3.symm] at this;cases this.2
     | cons _ _=>cases eq
    | false =>
     refine kQ ⟨few,fun x hx=>?_,nn,few2,fun y hy=>?_,nn2,nd,prm⟩ _ s010
     ·unfold jJ.good
      rw [nn1 _ (List.mem_map.mpr ⟨x,hx,rfl⟩),kn x hx,m4 x hx];rfl
     ·unfold jy.good
      rw [nn3 _ (List.mem_map.mpr ⟨y,hy,rfl⟩)]
      obtain⟨q,hq,us,e,pn⟩:=N9.at_y hy
      cases z:y.2 with
      | cons _ _=>rfl
      | nil =>
       have l3:=pn.len
       rw [z] at l3
       have:MJ H9 q=true:=by rw [mq e,List.length_eq_zero_iff.mp l3];rfl
       have:ls.any (MJ H9)=true:=List.any_eq_true.mpr ⟨q,hq,this⟩
       rw [g] at this
       cases this
end
end K41
namespace K41
open PySem L2 Wd TS STb
theorem In.same {H H':Hp}{a b:Addr}{ps:oB}{xs:List jJ}{ns ls:oB}{ys:List jy} (I:In H a b ps xs ns ls ys) (s:Same H H'):In H' a b ps xs ns ls ys:=⟨s _ _ I.ha,I.C.same s,I.few,I.len,s _ _ I.hb,I.N.same s,I.few2,I.len2,I.tl⟩
theorem made {H:Hp}{o dx:Addr}{u v:HO} (h1:H o=none) (h2:H dx=none):Same H (upd (upd H dx u) o v):=fun q z e=>by rw [jj (jp e h1),jj (jp e h2)];exact e
theorem GB.same {H H1 H':Hp}{o:Addr} (b:GB o H1 H') (s:Same H H1) (h:H o=none):Same H H':=fun q z e=>b _ _ (jp e h) (s _ _ e)
section
variable {P:oM}{w:World}{K:oq}{mg:ox}{base:Heap}{t:Adr}
def aG:Sp:=fun vs H Q _=>∃(a b:Addr) (ps:oB) (xs:List jJ) (ns ls:oB) (ys:List jy),vs=[.ref a,.ref b]∧In H a b ps xs ns ls ys∧¬vy xs ys∧∀H',Same H H'→Q (.bl true) H'
theorem kS (T:Txt K mg t):Ju P w K mg base 7 "_law_refused" ["_law_parts_here","_law_nets_here"] aG:=by
 obtain⟨fd,F,b⟩:=T.Zr
 have G_Drawing:=zz (P:=P) (w:=w) (base:=base) T
 refine⟨_,fd,F.okX zU (fun vs H Q E h=>?_) (fun cdv A outer s H vs Q E hr h=>?_),b,F.kp,T.zN⟩
 ·obtain⟨a,b,ps,xs,ns,ls,ys,rfl,_⟩:=h
  rfl
 ·obtain⟨a,b,ps,xs,ns,ls,ys,rfl,I,ng,q⟩:=h
  refine⟨_,(jg (fP (i:=2) rfl rfl rfl rfl zU.nd rfl rfl (by rfl) T.UC (fun _ _ _ hx=>(jm (JP (am G_Drawing hr.m hx (by rfl) (ja (pv 0) (ja (pv 1) je)))))) (fun _=>(jm (jN (vH (jz (nk (K:=K) rfl) (by rfl) T.jT Jl (ja (pv 2) (ja (JY (v:=.ref t.jw) (by rfl) T.UN rfl) je))) (VR (ao (jz (nt (K:=K) rfl) (by rfl) T.jT Jl (ja (pv 2) (ja (j8 (ja (JY (v:=.ref t.Ub) (by rfl) T.Vd rfl) (ja (JY (v:=.ref t.Jm) (by rfl) T.Ve rfl) (ja (JY (v:=.ref t.Uc) (by rfl) T.Vf rfl) (ja (JY (v:=.ref t.Ud) (by rfl) T.Vg rfl) je))))) je))))))))))
   (jm (jN UY))),?_⟩
  refine⟨_,rfl,_,rfl,fun o dx ho hdx nd=>⟨o,dx,a,b,ps,xs,ns,ls,ys,rfl,jd,I.same (made ho hdx),fun G=>absurd G ng,fun _ H1 b1=>?_⟩⟩
  have s1:Same H H1:=b1.same (made ho hdx) ho
  refine⟨_,rfl,T.Jo,fun ea oe hea=>?_⟩
  have e1:K4 (upd H1 ea (.frz oe (.exc ea t.jw))) ea t.jw:=⟨oe,jd⟩
  have s3:Same H (upd H1 ea (.frz oe (.exc ea t.jw))):=jf s1 hea
  generalize upd H1 ea (.frz oe (.exc ea t.jw))=H2 at e1 s3
  refine⟨_,rfl,ea,t.jw,_,_,true,rfl,e1,T.ze,.ref _,T.Jt,true,rfl,Uu ⟨_,rfl,lV,fun p hp=>?_⟩⟩
  obtain⟨oe2,e2⟩:=e1
  have e3:K4 (upd H2 p (.tup [.ref t.Ub,.ref t.Jm,.ref t.Uc,.ref t.Ud])) ea t.jw:=⟨oe2,jf (Same.refl H2) hp _ _ e2⟩
  exact⟨ea,t.jw,p,[t.Ub,t.Jm,t.Uc,t.Ud],false,rfl,e3,T.ze,jd,T.U2,_,rfl,q _ (jf s3 hp)⟩
def dF (C:Addr):Sp:=fun vs H Q _=>∃(o dx pl nl kd jn p:Addr) (x:j4) (kvs:List (List Key×V)),vs=[.ref o,.ref p]∧H o=some (.ins C dx (fD pl nl kd jn))∧H jn=some (.dT kvs)∧H p=some (.tup [.str x.1,.int x.2])∧JH kvs (kP x)=none∧∀H',Same H H'→Q (.bl true) H'
theorem KM (T:Txt K mg t):Ju P w K mg base 6 "_law_no_pin" ["_law_drawing","_law_pin"] (dF t.jv):=by
 obtain⟨fd,F,b⟩:=T.ZA
 have G_Drawing_net_of:=V1 (P:=P) (w:=w) (base:=base) T
 refine⟨_,fd,F.okX KP (fun vs H Q E h=>?_) (fun cdv A outer s H vs Q E hr h=>?_),b,F.kp,T.Zw⟩
 ·obtain⟨o,dx,pl,nl,kd,jn,p,x,kvs,rfl,_⟩:=h
  rfl
 ·obtain⟨o,dx,pl,nl,kd,jn,p,x,kvs,rfl,ho,hj,hp,hv,q⟩:=h
  refine⟨_,(jg (dh rfl rfl rfl rfl (by rfl) T.Ve (fun _ _ _ hx=>(jm (JP (Zg (pv 0) G_Drawing_net_of hr.m hx (ja (pv 1) je))))) (fun _=>(jm (jN UY))))
   (jm (jN UY))),?_⟩
  refine⟨_,rfl,o,dx,_,rfl,ho,rfl,_,rfl,o,dx,pl,nl,kd,jn,p,x,kvs,rfl,ho,hj,hp,fun v e=>(by rw [hv] at e;cases e),fun _=>⟨_,rfl,T.Ur,fun ea oe σ1 hea=>q _ (jf (Same.refl H) hea)⟩⟩
end
end K41
namespace K41
open PySem L2 Wd TS STb
theorem MS {H:Hp}{a b C NB:Addr}{ps:oB}{xs:List jJ}{ns ls:oB}{ys:List jy} (I:In H a b ps xs ns ls ys) (G:vy xs ys) {o dx:Addr} (ho:H o=none) (hdx:H dx=none) {R:Hp→Prop} {E:XK}
  (q:∀pl nl kd jn ns' ls' H',Same H H'→Dr H' C o dx pl nl kd jn ps ns' ls' ys→H pl=none→H nl=none→(∀l∈ls',H l=none)→H jn=none→R H'):f8 C NB [.ref o,.ref a,.ref b] (upd (upd H dx (.own o)) o (.ins C dx [])) (fun v H2=>v=.non∧R H2) E :=
 ⟨o,dx,a,b,ps,xs,ns,ls,ys,rfl,jd,I.same (made ho hdx),fun _ pl nl kd jn ns' ls' H' bu eo h1 h2 e1 e2 N fr h3 e3=>⟨rfl,q pl nl kd jn ns' ls' H' (bu.same (made ho hdx) ho) ⟨eo,e1,e2,N,e3⟩ (Same.nn (made ho hdx) h1) (Same.nn (made ho hdx) h2) (fun l hl=>Same.nn (made ho hdx) (fr l hl)) (Same.nn (made ho hdx) h3)⟩,fun ng=>absurd G ng⟩
theorem jQ.rows {H:Hp}{ns ls:oB}{ys:List jy} (N:jQ H ns ls ys):K9 H ns (ys.map fun y=>(y.1,y.2.map kP)):=by
 refine⟨by rw [List.length_map];exact N.1,fun i p x h1 h2=>?_⟩
 rw [List.getElem?_map] at h2
 obtain⟨y,e,rfl⟩:=Option.map_eq_some_iff.mp h2
 obtain⟨l,z,_,ez,e1,us,e2,pn⟩:=N.at_ h1
 rw [e] at ez
 cases ez
 exact⟨l,us,e1,e2,pn⟩
def kR (x:jJ):List Key:=[.inr x.name,.inr x.kind,.inl (x.n:Int)]
theorem Jh.keys {H:Hp}{ps:oB}{xs:List jJ} (C:Jh H ps xs) (hm:∀x∈xs,x.many?=true):Jv H ps (xs.map kR):=by
 refine⟨by rw [List.length_map];exact C.1,fun i p k h1 h2=>?_⟩
 rw [List.getElem?_map] at h2
 obtain⟨x,e,rfl⟩:=Option.map_eq_some_iff.mp h2
 obtain⟨n,e1,e2,_⟩:=jJ.lt8 (hm x (List.mem_of_getElem? e))
 have:=C.2 i p x h1 e
 rw [e1] at this
 unfold kR
 rw [e2]
 exact this
theorem vy.many {xs:List jJ}{ys:List jy} (G:vy xs ys):∀x∈xs,x.many?=true:=fun x hx=>by
 have:=G.parts x hx
 unfold jJ.good at this
 rw [Bool.and_eq_true] at this
 exact this.2
theorem Ku {ys:List jy} (nd:(jt ys).Nodup) {y:jy} (hy:y∈ys) {p:j4} (hp:p∈y.2):JH (uc ys) (kP p)=some (.str y.1):=by
 have h1:((uc ys).map (·.1)).Nodup:=by
  rw [va]
  exact List.pairwise_map.mpr (nd.imp fun {a b} h e=>h (my e))
 have h2:(kP p,V.str y.1)∈uc ys:=List.mem_flatMap.mpr ⟨y,hy,List.mem_map.mpr ⟨p,hp,rfl⟩⟩
 exact My h1 h2
theorem GZ {xs:List jJ}{ys:List jy} (G:vy xs ys) {p:j4} (h:p ∉ j9 xs):JH (uc ys) (kP p)=none:=by
 cases e:JH (uc ys) (kP p) with
 | none=>rfl
 | some v =>
  have:=M5 e
  rw [va] at this
  obtain⟨q,hq,eq⟩:=List.mem_map.mp this
  rw [my eq] at hq
  exact absurd (G.pm.mem_iff.mp hq) h
theorem iB {xs:List jJ} (h:∀x∈xs,x.name≠"w") (n:Int):(("w",n):j4) ∉ j9 xs:=fun z=>by
 obtain⟨x,hx,hp⟩:=List.mem_flatMap.mp z
 exact h x hx (Gu hp).symm
theorem iA {xs:List jJ} (h:∀x∈xs,x.many?=true) (z:Str):((z,9):j4) ∉ j9 xs:=fun y=>by
 obtain⟨x,hx,hp⟩:=List.mem_flatMap.mp y
 obtain⟨n,_,e2,_,n8⟩:=jJ.lt8 (h x hx)
 unfold jJ.pins Ua at hp
 obtain⟨k,hk,e⟩:=List.mem_map.mp hp
 have h1:=List.mem_range.mp hk
 have h2:(k:Int)=9:=(Prod.mk.inj e).2
 omega
def dZ (a:Addr) (ls:oB) (H H':Hp):Prop:=∀b u,b≠a→b ∉ ls→H b=some u→H' b=some u
section
variable {P:oM}{w:World}{K:oq}{mg:ox}{base:Heap}{t:Adr}
def dH:Sp:=fun vs H Q _=>∃(a b:Addr) (ps:oB) (xs:List jJ) (ns ls:oB) (ys:List jy),vs=[.ref a,.ref b]∧In H a b ps xs ns ls ys∧vy xs ys∧(∀x∈xs,x.name≠"w")∧∀H',Same H H'→Q (.bl true) H'
theorem mR (T:Txt K mg t):Ju P w K mg base 7 "_law_right" ["_law_parts_here","_law_nets_here"] dH:=by
 obtain⟨fd,F,b⟩:=T.gM
 have G_Drawing:=zz (P:=P) (w:=w) (base:=base) T
 have G_Drawing_net_of:=V1 (P:=P) (w:=w) (base:=base) T
 have G_Drawing_pins:=ke (P:=P) (w:=w) (base:=base) T
 have G_law_no_pin:=KM (P:=P) (w:=w) (base:=base) T
 refine⟨_,fd,F.okX Je (fun vs H Q E h=>?_) (fun cdv A outer s H vs Q E hr h=>?_),b,F.kp,T.ZO⟩
 ·obtain⟨a,b,ps,xs,ns,ls,ys,rfl,_⟩:=h
  rfl
 ·obtain⟨a,b,ps,xs,ns,ls,ys,rfl,I,G,nw,q⟩:=h
  refine⟨_,(jg (jB (i:=4) Je.nd rfl (Or.inl rfl) (jW (ja (Jy UZ (by rfl) T.u5 vC (ja (pv 0) je)) (ja (Gv (N0:=["_law_parts_here","_law_nets_here","._law_name","._law_pins","_law_handed","_law_fresh","_law_some","_law_drawing","_law_found"]) (own:=["_law_name","_law_pins"]) (gk (N:=["_law_parts_here","_law_nets_here","_law_name","_law_pins","_law_handed","_law_fresh","_law_some","_law_drawing","_law_found"]) rfl (by rfl) (by decide +kernel) (by decide +kernel) rfl (by decide +kernel)) (Ja (pv 1)) (fun _ _ _ _ _=>dg (K:=K) (n:=2) rfl rfl (jH (ju (i:=9) (by show (["_law_parts_here","_law_nets_here","._law_name","._law_pins","_law_handed","_law_fresh","_law_some","_law_drawing","_law_found","_law_name","_law_pins"]:oG).Nodup;decide +kernel) rfl (Or.inl rfl)) (jH (ju (i:=10) (by show (["_law_parts_here","_law_nets_here","._law_name","._law_pins","_law_handed","_law_fresh","_law_some","_law_drawing","_law_found","_law_name","_law_pins"]:oG).Nodup;decide +kernel) rfl (Or.inl rfl)) uo))) (fun _ _ _ _ _=>U4) (fun _ _ _ _ _=>(j8 (ja (pv 9) (ja (Jy (Zv (K:=K) rfl) (by rfl) T.u5 vC (ja (pv 10) je)) je))))) je))))
   (jg (jB (i:=5) Je.nd rfl (Or.inr rfl) (mX G_Drawing hr.m jq (by rfl) (ja (jK Jf (pv 4) jh (fun _ _=>rfl)) (ja (jK Jf (pv 4) jh (fun _ _=>rfl)) je))))
   (jg (uC JF (Ja (pv 1)) (u6 rfl (jH (ju (i:=2) Je.nd rfl (Or.inr rfl)) (jH (ju (i:=6) Je.nd rfl (Or.inl rfl)) uo))) (jm (jV (jA (vG hr.units0) (Uo (own:=["_law_pin"]) (GP (n1:="_law_name") (n2:="_law_fresh") (N:=["_law_parts_here","_law_nets_here","_law_name","_law_pins","_law_handed","_law_fresh","_law_some","_law_drawing","_law_found"]) rfl (by rfl) (by rfl) rfl rfl (by rfl) (by rfl) (by decide +kernel) (by decide +kernel) (by decide +kernel)) (Ja (pv 6)) (fun _ _ _ _ _=>ju (i:=9) (by show (["_law_parts_here","_law_nets_here","_law_name","_law_pins","_law_handed","_law_fresh","_law_some","_law_drawing","_law_found","_law_pin"]:oG).Nodup;decide +kernel) rfl (Or.inl rfl)) (fun _ _ _ _ _=>zm (jA gA (Zg (pv 5) G_Drawing_net_of hr.m Z2 (ja (pv 9) je)) (pv 2) (jG _))) (fun _ _ _ _ _=>(pv 9))) (jW je) (jG _)) (jm (jN UY)) jI)))
   (jg (jB (i:=7) Je.nd rfl (Or.inr rfl) (mX G_Drawing hr.m jq (by rfl) (ja (jK Jf (pv 4) jh (fun _ _=>rfl)) (ja (jK Jf (pv 4) jh (fun _ _=>rfl)) je))))
   (jg (JP (vz PySem.F.plainAttrs_list PySem.F.slot_list_append PySem.F.type_list_append JX (jK Jf (pv 4) jh (fun _ _=>rfl)) (ja (j8 (ja jM (ja jM (ja jh je)))) je)))
   (jg (uC JF (Ja (jK Jf (pv 4) jh (fun _ _=>rfl))) (u6 rfl (jH (ju (i:=2) Je.nd rfl (Or.inr rfl)) (jH (ju (i:=3) Je.nd rfl (Or.inl rfl)) uo))) (jm (JP (vz PySem.F.plainAttrs_list PySem.F.slot_list_append PySem.F.type_list_append JX (pv 3) (ja (j8 (ja jM (ja jh je))) je)))))
   (jg (jV (UA (jA (gB hr.units) (zk (pv 7) rfl) (pv 0) (jG _)) (u8 (jA (MV hr.units) (zk (pv 7) rfl) (pv 1) (jG _)))).pt (jm (jN UY)) jI)
   (jg (jB (i:=3) Je.nd rfl (Or.inl rfl) (jW je))
   (jg (uC JF (Ja (pv 1)) (u6 rfl (jH (ju (i:=2) Je.nd rfl (Or.inr rfl)) (jH (ju (i:=6) Je.nd rfl (Or.inl rfl)) uo))) (jm (jB (i:=3) Je.nd rfl (Or.inl rfl) (jz Vo (by rfl) T.uR vY (ja (jP vk (pv 3) (pv 6)) je)))))
   (jg (jB (i:=8) Je.nd rfl (Or.inl rfl) (Kz (cr G_Drawing_pins hr.m jq) (pv 7)))
   (jg (jV (UA (Jz (JR (jz Ut (by rfl) T.jT Jl (ja (pv 8) (ja (U3 (v:=.ty "list") (by rfl) T.u5 vC rfl) je))))) (u8 (jA (gB hr.units) (pv 8) (pv 3) (jG _)))).pt (jm (jN UY)) jI)
   (jg (JP (vz PySem.F.plainAttrs_list PySem.F.slot_list_append PySem.F.type_list_append JX (pv 8) (ja (j8 (ja jM (ja jh je))) je)))
   (jg (uC JF (Ja (pv 1)) (u6 rfl (jH (ju (i:=2) Je.nd rfl (Or.inr rfl)) (jH (ju (i:=6) Je.nd rfl (Or.inl rfl)) uo))) (jm (jV (jA (vG hr.units0) (Uo (own:=["_law_pin"]) (GP (n1:="_law_name") (n2:="_law_drawing") (N:=["_law_parts_here","_law_nets_here","_law_name","_law_pins","_law_handed","_law_fresh","_law_some","_law_drawing","_law_found"]) rfl (by rfl) (by rfl) rfl rfl (by rfl) (by rfl) (by decide +kernel) (by decide +kernel) (by decide +kernel)) (Ja (pv 6)) (fun _ _ _ _ _=>ju (i:=9) (by show (["_law_parts_here","_law_nets_here","_law_name","_law_pins","_law_handed","_law_fresh","_law_some","_law_drawing","_law_found","_law_pin"]:oG).Nodup;decide +kernel) rfl (Or.inl rfl)) (fun _ _ _ _ _=>zm (jA gA (Zg (pv 7) G_Drawing_net_of hr.m Z2 (ja (pv 9) je)) (pv 2) (jG _))) (fun _ _ _ _ _=>(pv 9))) (jW je) (jG _)) (jm (jN UY)) jI)))
   (jg (jV (UA (jA (gB hr.units) (zk (pv 7) rfl) (pv 0) (jG _)) (u8 (jA (MV hr.units) (zk (pv 7) rfl) (pv 1) (jG _)))).pt (jm (jN UY)) jI)
   (jm (jN (vH (vR (MU hr.units) (Kz (cr G_Drawing_pins hr.m jq) (pv 7)) (pv 3) (jG _)) (vH (jr G_law_no_pin hr.m jq (by rfl) (ja (pv 7) (ja (j8 (ja jM (ja jh je))) je))) (VR (jr G_law_no_pin hr.m jq (by rfl) (ja (pv 7) (ja (j8 (ja jM (ja jh je))) je)))))))))))))))))))))),?_⟩
  have l2:(ns.map V.ref).length=ys.length:=by rw [List.length_map];exact I.N.1
  refine Jb (fun σ H'=>∃(hl ha hb:Addr) (ns1 ls1:oB),σ=[oR a,oR b,none,none,oR hl,none,none,none,none]∧Same H H'∧H' hl=some (.lst [.ref ha,.ref hb])∧H' ha=some (.lst (ps.map V.ref))∧H' hb=some (.lst (ns1.map V.ref))∧jQ H' ns1 ls1 ys∧H ha=none∧(∀l∈ls1,H l=none∧l≠hl∧l≠hb∧l≠ha)∧ha≠hl∧ha≠hb) (fun B hB=>⟨_,rfl,a,_,rfl,.inl (jl.of I.ha),fun ha hha=>?_⟩) ?_
  ·have s1:=jf (o:=.lst (ps.map V.ref)) (Same.refl H) hha
   have e1:upd H ha (.lst (ps.map V.ref)) ha=some (.lst (ps.map V.ref)):=jd
   generalize upd H ha (.lst (ps.map V.ref))=H1 at s1 e1
   have hb1:=s1 _ _ I.hb
   have N1:=I.N.same s1
   refine⟨_,rfl,b,rfl,⟨_,jl.of hb1⟩,VO (xs:=ns.map V.ref) (fun D i zs H'=>Same H1 H'∧H1 D=none∧H' D=some (.lst zs)∧zs.length≤i∧∃ns' ls',zs=ns'.map V.ref∧jQ H' ns' ls' (ys.take i)∧∀l∈ls',H1 l=none∧l≠D) (by rw [l2];exact Nat.le_trans I.few2 (by decide)) (fun D hD=>⟨jf (Same.refl H1) hD,hD,jd,Nat.le_refl _,[],[],rfl,zj,fun l h=>nomatch h⟩) (fun D i zs H' hv=>⟨hv.2.2.1,hv.2.2.2.1,jl.of (hv.1 _ _ hb1)⟩) ?_ ?_⟩
   ·rintro D i v zs H4 Qy Qn hv ⟨s4,hD,eD,lz,ns',ls',rfl,N4,fr⟩ hy hn
    rw [List.getElem?_map] at hv
    obtain⟨p,e1,rfl⟩:=Option.map_eq_some_iff.mp hv
    obtain⟨l,x,_,ex,na⟩:=N1.at_ e1
    obtain⟨ep,rs,el,pn⟩:=na.same s4
    refine⟨p,_,rfl,Ji.of ep,rfl,_,_,rfl,_,_,rfl,rfl,⟨[_,_],rfl,rfl⟩,Uu ⟨_,rfl,_,rfl,l,_,rfl,.inl (jl.of el),fun l5 hl5=>?_⟩⟩
    have s5:=jf (o:=.lst (rs.map V.ref)) (Same.refl H4) hl5
    have e5:upd H4 l5 (.lst (rs.map V.ref)) l5=some (.lst (rs.map V.ref)):=jd
    generalize upd H4 l5 (.lst (rs.map V.ref))=H5 at s5 e5
    refine⟨UX,fun u hu=>?_⟩
    have s6:=jf (o:=.tup [.str x.1,.ref l5]) (Same.refl H5) hu
    have e6:upd H5 u (.tup [.str x.1,.ref l5]) u=some (.tup [.str x.1,.ref l5]):=jd
    generalize upd H5 u (.tup [.str x.1,.ref l5])=H6 at s6 e6
    have s46:=Same.trans s5 s6
    have eD6:=s46 _ _ eD
    have nD:l5≠D:=fun z=>by rw [z,eD] at hl5;cases hl5
    refine hy _ _ eD6 ⟨fun q u e=>by rw [jj (jp e hD)];exact s46 _ _ (s4 _ _ e),hD,jd,by rw [List.length_append];exact Nat.succ_le_succ lz,ns'++[u],ls'++[l5],by rw [List.map_append];rfl,?_,fun l hl=>?_⟩
    ·rw [JM ex]
     refine ((N4.same s46).snoc (y:=x) ⟨e6,rs,s6 _ _ e5,pn.same s46⟩).wr (fun q zs e=>by rw [jj (Jw e eD6 (fun z=>nomatch z))];exact e) fun l hl zs e=>?_
     rw [jj]
     ·exact e
     ·rcases List.mem_append.mp hl with z|z
      ·exact (fr l z).2
      ·rw [List.mem_singleton.mp z];exact nD
    ·rcases List.mem_append.mp hl with z|z
     ·exact fr l z
     ·rw [List.mem_singleton.mp z];exact⟨Same.nn s4 hl5,nD⟩
   ·rintro D zs H4 hD0 ⟨s4,hD,eD,lz,ns',ls',rfl,N4,fr⟩
    rw [l2,uH rfl] at N4
    refine⟨UX,fun hl hhl=>?_⟩
    have s5:=jf (o:=.lst [.ref ha,.ref D]) (Same.refl H4) hhl
    have s15:=Same.trans s4 s5
    refine hB _ _ ⟨hl,ha,D,ns',ls',rfl,Same.trans s1 s15,jd,s15 _ _ e1,s5 _ _ eD,N4.same s5,hha,fun l hl'=>⟨Same.nn s1 (fr l hl').1,fun z=>?_,(fr l hl').2,fun z=>(by have:=(fr l hl').1;rw [z,e1] at this;cases this)⟩,jp (s4 _ _ e1) hhl,jp e1 hD⟩
    obtain⟨y,_,us,e,_⟩:=N4.at_l hl'
    rw [z,hhl] at e
    cases e
  rintro _ H1 ⟨hl,ha,hb,ns1,ls1,rfl,s1,ehl,eha,ehb,N1,hha,fr1,nah,nab⟩
  have I1:In H1 ha hb ps xs ns1 ls1 ys:=⟨eha,I.C.same s1,I.few,I.len,ehb,N1,I.few2,I.len2,I.tl⟩
  refine Jb (fun σ H'=>∃(o dx pl nl kd jn:Addr) (ns2 ls2:oB),σ=[oR a,oR b,none,none,oR hl,oR o,none,none,none]∧Same H1 H'∧Dr H' t.jv o dx pl nl kd jn ps ns2 ls2 ys) (fun B hB=>⟨_,rfl,hl,_,0,.ref ha,rfl,rfl,jl.of ehl,rfl,_,rfl,hl,_,1,.ref hb,rfl,rfl,jl.of ehl,rfl,fun o dx ho hdx nd=>MS I1 G ho hdx fun pl nl kd jn ns' ls' H' s' dr _ _ _ _=>hB _ _ ⟨o,dx,pl,nl,kd,jn,ns',ls',rfl,s',dr⟩⟩) ?_
  rintro _ H2 ⟨o,dx,pl,nl,kd,jn,ns2,ls2,rfl,s2,dr⟩
  have s02:=Same.trans s1 s2
  refine aB (fun (v2 v6:Option V)=>[oR a,oR b,v2,none,oR hl,oR o,v6,none,none]) (fun _ _ H'=>Same H2 H') (fun B hB=>?_) ?_
  ·refine⟨_,rfl,b,rfl,⟨_,jl.of (s02 _ _ I.hb)⟩,JS (xs:=ns.map V.ref) (fun i σ H'=>∃(v2 v6:Option V),σ=[oR a,oR b,v2,none,oR hl,oR o,v6,none,none]∧Same H2 H') ⟨_,_,rfl,Same.refl H2⟩ (fun i σ H' _ h=>by obtain⟨_,_,_,e⟩:=h;exact jl.of (e _ _ (s02 _ _ I.hb))) ?_ ?_⟩
   ·rintro i v σ H4 hv ⟨v2,v6,rfl,s4⟩
    rw [List.getElem?_map] at hv
    obtain⟨p,e1,rfl⟩:=Option.map_eq_some_iff.mp hv
    obtain⟨l,x,_,ex,ep,us,el,pn⟩:=(I.N.same (Same.trans s02 s4)).at_ e1
    have hx:x∈ys:=List.mem_of_getElem? ex
    have lx1:x.2.length≤1000:=by
     have:=congrArg List.length (JG ex)
     rw [List.length_append,List.length_append] at this
     have:=I.tl
     omega
    refine⟨p,_,rfl,Ji.of ep,rfl,_,_,rfl,_,_,rfl,rfl,?_⟩
    refine⟨_,rfl,l,rfl,⟨_,jl.of el⟩,vD (xs:=us.map V.ref) (fun _=>false) (fun v=>v) (jl.of el) (by rw [List.length_map,pn.len];exact Nat.le_trans lx1 (by decide)) (fun v hv1 H' Qy Qn s' _ hn=>?_) fun D hD=>?_⟩
    ·obtain⟨u,hu,rfl⟩:=List.mem_map.mp hv1
     obtain⟨y,hy,eu⟩:=pn.mem hu
     have sv:=Ku G.nd hx hy
     refine⟨⟨_,rfl,rfl⟩,_,rfl,o,_,_,rfl,s' _ _ (s4 _ _ dr.ho),rfl,_,rfl,o,_,_,_,_,_,u,y,_,rfl,s' _ _ (s4 _ _ dr.ho),s' _ _ (s4 _ _ dr.hj),s' _ _ eu,fun v e=>?_,fun e=>?_⟩
     ·rw [sv] at e
      cases e
      exact⟨_,rfl,rfl,_,rfl,Vs rfl (hn rfl)⟩
     ·rw [sv] at e
      cases e
    ·have s5:=jf (o:=.lst (((us.map V.ref).filter fun _=>false).map fun v=>v)) (Same.refl H4) hD
     have e5:upd H4 D (.lst (((us.map V.ref).filter fun _=>false).map fun v=>v)) D=some (.lst []):=by rw [jd,List.filter_eq_nil_iff.mpr (fun _ _=>by decide)];rfl
     generalize upd H4 D (.lst (((us.map V.ref).filter fun _=>false).map fun v=>v))=H5 at s5 e5
     refine⟨vT,fun p6 hp6=>?_⟩
     have s6:=jf (o:=.lst []) (Same.refl H5) hp6
     exact⟨D,p6,[],rfl,rfl,jl.of (s6 _ _ e5),jl.of jd,_,rfl,U1 ⟨_,_,rfl,Same.trans s4 (Same.trans s5 s6)⟩⟩
   ·rintro σ H4 ⟨v2,v6,rfl,s4⟩
    exact hB _ _ _ s4
  rintro v2 v6 H3 s3
  have s13:=Same.trans s2 s3
  have s03:=Same.trans s1 s13
  refine Jb (fun σ H'=>∃(o2 dx2 pl2 nl2 kd2 jn2:Addr) (ns3 ls3:oB),σ=[oR a,oR b,v2,none,oR hl,oR o,v6,oR o2,none]∧Same H3 H'∧Dr H' t.jv o2 dx2 pl2 nl2 kd2 jn2 ps ns3 ls3 ys∧H3 o2=none∧H3 pl2=none∧H3 nl2=none∧(∀l∈ls3,H3 l=none)∧H3 jn2=none) (fun B hB=>⟨_,rfl,hl,_,0,.ref ha,rfl,rfl,jl.of (s13 _ _ ehl),rfl,_,rfl,hl,_,1,.ref hb,rfl,rfl,jl.of (s13 _ _ ehl),rfl,fun o dx ho hdx nd=>MS (I1.same s13) G ho hdx fun pl nl kd jn ns' ls' H' s' dr h1 h2 h3 h4=>hB _ _ ⟨o,dx,pl,nl,kd,jn,ns',ls',rfl,s',dr,ho,h1,h2,h3,h4⟩⟩) ?_
  rintro _ H4 ⟨o2,dx2,pl2,nl2,kd2,jn2,ns3,ls3,rfl,s4,dr2,ho2,hpl2,hnl2,hls3,hjn2⟩
  have s14:=Same.trans s13 s4
  have s04:=Same.trans s1 s14
  have eha4:=s14 _ _ eha
  refine VS [oR a,oR b,v2,none,oR hl,oR o,v6,oR o2,none] (fun H'=>kC ha H4 H') (fun B hB=>⟨_,rfl,hl,_,0,.ref ha,rfl,rfl,jl.of (s14 _ _ ehl),rfl,.inl ⟨rfl,_,jl.of eha4⟩,Ma,fun u hu=>?_⟩) ?_
  ·have s5:=jf (o:=.tup [.str "w",.str "w",.int 1]) (Same.refl H4) hu
   refine⟨ha,_,_,rfl,rfl,s5 _ _ eha4,?_,hB _ fun b u n e=>by rw [jj n];exact s5 _ _ e⟩
   rw [List.length_map,I.C.1]
   exact Nat.lt_of_le_of_lt I.few (by decide)
  rintro H5 o5
  have N4:=N1.same s14
  refine aB (fun (v2 v3:Option V)=>[oR a,oR b,v2,v3,oR hl,oR o,v6,oR o2,none]) (fun _ _ H'=>dZ ha ls1 H4 H') (fun B hB=>?_) ?_
  ·have ehb5:=o5 _ _ (Ne.symm nab) (s14 _ _ ehb)
   refine⟨_,rfl,hl,_,1,.ref hb,rfl,rfl,jl.of (o5 _ _ (Ne.symm nah) (s14 _ _ ehl)),rfl,hb,rfl,⟨_,jl.of ehb5⟩,JS (xs:=ns1.map V.ref) (fun i σ H'=>∃(v2 v3:Option V),σ=[oR a,oR b,v2,v3,oR hl,oR o,v6,oR o2,none]∧dZ ha ls1 H4 H'∧∀l∈ls1,∃zs,H' l=some (.lst zs)∧zs.length≤1000+i) ⟨_,_,rfl,fun b u n _ e=>o5 _ _ n e,fun l hl1=>?_⟩ (fun i σ H' _ h=>by obtain⟨_,_,_,e,_⟩:=h;exact jl.of (e _ _ (Ne.symm nab) (fun z=>(fr1 _ z).2.2.1 rfl) (s14 _ _ ehb))) ?_ ?_⟩
   ·obtain⟨y,hy,us,e,pn⟩:=N4.at_l hl1
    refine⟨_,o5 _ _ (fr1 _ hl1).2.2.2 e,?_⟩
    obtain⟨j,hj,rfl⟩:=List.getElem_of_mem hy
    have:=congrArg List.length (JG (List.getElem?_eq_getElem hj))
    rw [List.length_append,List.length_append] at this
    have:=I.tl
    have:=pn.len
    rw [List.length_map]
    omega
   ·rintro i v σ H6 hv ⟨v2',v3,rfl,o6,z6⟩
    rw [List.getElem?_map] at hv
    obtain⟨p,e1,rfl⟩:=Option.map_eq_some_iff.mp hv
    obtain⟨l,x,el,ex,ep,us,eu,pn⟩:=N4.at_ e1
    have hl1:l∈ls1:=List.mem_of_getElem? el
    have npl:p ∉ ls1:=fun z=>by obtain⟨_,_,us,e,_⟩:=N4.at_l z;rw [ep] at e;cases e
    have ep6:=o6 _ _ (Jw ep eha4 (fun z=>nomatch z)) npl ep
    obtain⟨zs,ez,lz⟩:=z6 l hl1
    refine⟨p,_,rfl,Ji.of ep6,rfl,_,_,rfl,_,_,rfl,rfl,?_⟩
    refine⟨_,rfl,.inl ⟨rfl,_,jl.of ez⟩,UX,fun u hu=>?_⟩
    have s7:=jf (o:=.tup [.str "w",.int 0]) (Same.refl H6) hu
    have hi:i<ns1.length:=(List.getElem?_eq_some_iff.mp e1).1
    have Vh:i<900:=by have:=N1.1;have:=I.few2;omega
    refine⟨l,_,_,rfl,rfl,s7 _ _ ez,Nat.lt_of_le_of_lt (show _≤2000 by omega) (by decide),_,_,rfl,fun b u n m e=>(by rw [jj (show b≠l from fun z=>m (by rw [z];exact hl1))];exact s7 _ _ (o6 _ _ n m e)),fun l' hl'=>?_⟩
    by_cases z:l'=l
    ·rw [z]
     exact⟨_,jd,by rw [List.length_append];show _+1≤_;omega⟩
    ·obtain⟨zs',ez',lz'⟩:=z6 l' hl'
     exact⟨zs',by rw [jj z];exact s7 _ _ ez',by omega⟩
   ·rintro σ H6 ⟨v2',v3,rfl,o6,_⟩
    exact hB _ _ _ o6
  rintro v2' v3 H7 o7
  have s07:Same H H7:=fun b u e=>o7 _ _ (jp e hha) (fun z=>by rw [(fr1 _ z).1] at e;cases e) (s04 _ _ e)
  have off3:∀{q:Addr} {u:HO},H3 q=none→H4 q=some u→H7 q=some u:=fun {q u} n e=>o7 _ _ (fun z=>by rw [z,s13 _ _ eha] at n;cases n) (fun z=>by obtain⟨_,_,us,e',_⟩:=(N1.same s13).at_l z;rw [n] at e';cases e') e
  have dr7:Dr H7 t.jv o2 dx2 pl2 nl2 kd2 jn2 ps ns3 ls3 ys:=⟨off3 ho2 dr2.ho,off3 hpl2 dr2.hp,off3 hnl2 dr2.hn,dr2.N.wr (fun q zs e=>o7 _ _ (Jw e eha4 (fun z=>nomatch z)) (fun z=>by obtain⟨_,_,us,e',_⟩:=N4.at_l z;rw [e] at e';cases e') e) fun l hl zs e=>off3 (hls3 l hl) e,off3 hjn2 dr2.hj⟩
  clear o7 o5 off3 hls3 hjn2 hnl2 hpl2 ho2 dr2 dr N1 N4 I1 fr1 hha nah nab ehl eha ehb eha4 s13 s14 s03 s02 s04 s4 s3 s2 s1
  refine VS [oR a,oR b,v2',v3,oR hl,oR o,v6,oR o2,none] (fun H'=>H'=H7) (fun B hB=>⟨_,rfl,o2,_,dx2,_,.ref pl2,rfl,dr7.ho,T.Jp,T.Jx,rfl,_,rfl,pl2,a,ps,ps,_,_,rfl,rfl,jl.of dr7.hp,jl.of (s07 _ _ I.ha),(I.C.same s07).keys G.many,(I.C.same s07).keys G.many,_,rfl,Vs rfl ⟨_,rfl,o2,_,dx2,_,.ref nl2,rfl,dr7.ho,T.Jp,T.JL,rfl,_,rfl,nl2,b,ns3,ns,_,_,rfl,rfl,jl.of dr7.hn,jl.of (s07 _ _ I.hb),dr7.N.rows,(I.N.same s07).rows,_,rfl,Vs rfl (hB _ rfl)⟩⟩) ?_
  rintro H8 rfl
  refine U9 (fun (D:Addr)=>[oR a,oR b,v2',oR D,oR hl,oR o,v6,oR o2,none]) (fun D H'=>Same H8 H'∧H' D=some (.lst [])) (fun B hB=>⟨vT,fun D hD=>hB D _ ⟨jf (Same.refl H8) hD,jd⟩⟩) ?_
  rintro D0 H9 ⟨s9,eD0⟩
  refine cE (fun (v2 v6:Option V) (D:Addr) (bs:oB) (ks:List (List Key))=>[oR a,oR b,v2,oR D,oR hl,oR o,v6,oR o2,none]) (fun _ _ D bs ks H'=>Same H8 H'∧H' D=some (.lst (bs.map V.ref))∧Jv H' bs ks∧ks.Perm ((jt ys).map kP)∧ks.Pairwise fun a b=>lx b a=false) (fun B hB=>?_) ?_
  ·refine⟨_,rfl,b,rfl,⟨_,jl.of (s9 _ _ (s07 _ _ I.hb))⟩,JS (xs:=ns.map V.ref) (fun i σ H'=>∃(v2 v6:Option V) (D:Addr) (bs:oB) (ks:List (List Key)),σ=[oR a,oR b,v2,oR D,oR hl,oR o,v6,oR o2,none]∧Same H8 H'∧H' D=some (.lst (bs.map V.ref))∧Jv H' bs ks∧ks.Perm ((jt (ys.take i)).map kP)∧ks.Pairwise fun a b=>lx b a=false) ⟨_,_,D0,[],[],rfl,s9,eD0,⟨rfl,fun i p c h=>nomatch h⟩,.nil,.nil⟩ (fun i σ H' _ h=>by obtain⟨_,_,_,_,_,_,e,_⟩:=h;exact jl.of (e _ _ (s07 _ _ I.hb))) ?_ ?_⟩
   ·rintro i v σ Ha hv ⟨v2,v6,D,bs,ks,rfl,sa,eD,KA,pm,so⟩
    rw [List.getElem?_map] at hv
    obtain⟨p,e1,rfl⟩:=Option.map_eq_some_iff.mp hv
    obtain⟨l,x,_,ex,ep,us,el,pn⟩:=(I.N.same (Same.trans s07 sa)).at_ e1
    have ln:bs.length+us.length≤1000:=by
     have:=congrArg List.length (JG ex)
     rw [List.length_append,List.length_append] at this
     have:=I.tl
     have:=KA.1
     have:=pm.length_eq
     rw [List.length_map] at this
     have:=pn.len
     omega
    refine⟨p,_,rfl,Ji.of ep,rfl,_,_,rfl,_,_,rfl,rfl,?_⟩
    refine⟨_,rfl,_,rfl,D,l,_,_,rfl,rfl,eD,el,by rw [List.length_map,List.length_map];exact Nat.le_trans ln (by decide),fun p5 hp5=>?_⟩
    have sb:=jf (o:=.lst (bs.map V.ref++us.map V.ref)) (Same.refl Ha) hp5
    have eb:upd Ha p5 (.lst (bs.map V.ref++us.map V.ref)) p5=some (.lst ((bs++us).map V.ref)):=by rw [jd,List.map_append]
    generalize upd Ha p5 (.lst (bs.map V.ref++us.map V.ref))=Hb at sb eb
    obtain⟨zs,pz⟩:∃zs:List j4,ks=zs.map kP:=by
     refine⟨ks.map ii,?_⟩
     rw [List.map_map]
     refine ((List.map_id ks).symm.trans (List.map_congr_left fun k hk=>?_))
     obtain⟨z,_,e⟩:=List.mem_map.mp (pm.mem_iff.mp hk)
     rw [←e];rfl
    subst pz
    refine⟨p5,bs++us,(zs++x.2).map kP,_,rfl,eb,jD.same (jD.app (xs:=zs) KA pn) sb,n9 _,(fun z=>nomatch z),fun l2 bs2 ks2 hl2 KA2 pm2 so2=>?_⟩
    have sc:=jf (o:=.lst (bs2.map V.ref)) (Same.refl Hb) hl2
    refine⟨_,_,l2,bs2,ks2,rfl,Same.trans sa (Same.trans sb sc),jd,Jv.mono' KA2 sc,?_,so2⟩
    rw [VU ex,List.map_append]
    refine pm2.trans ?_
    rw [List.map_append]
    exact pm.append_right _
   ·rintro σ Ha ⟨v2,v6,D,bs,ks,rfl,sa,eD,KA,pm,so⟩
    rw [l2,uH rfl] at pm
    exact hB v2 v6 D bs ks _ ⟨sa,eD,KA,pm,so⟩
  rintro v2 v6 D bs ks Ha ⟨sa,eD,KA,pm,so⟩
  have dra:=dr7.same sa
  have s0a:=Same.trans s07 sa
  refine Md (fun (L:Addr) (cs:oB) (js:List (List Key))=>[oR a,oR b,v2,oR D,oR hl,oR o,v6,oR o2,oR L]) (fun L cs js H'=>Same Ha H'∧Ha L=none∧H' L=some (.lst (cs.map V.ref))∧Jv H' cs js∧js.Perm ((jt ys).map kP)∧js.Pairwise fun a b=>lx b a=false) (fun B hB=>⟨_,rfl,o2,dx2,_,rfl,dra.ho,rfl,o2,dx2,pl2,nl2,kd2,jn2,ys,rfl,dra.ho,dra.hj,fun l bs ks H' s' hl e KA pm so=>hB l bs ks _ ⟨s',hl,e,KA,pm,so⟩⟩) ?_
  rintro L cs js Hb ⟨sb,hL,eL,KB,pmb,sob⟩
  have jk:js=ks:=VT (pmb.trans pm.symm) sob so
  subst jk
  refine VS [oR a,oR b,v2,oR D,oR hl,oR o,v6,oR o2,oR L] (fun H'=>H'=Hb) (fun B hB=>⟨_,rfl,.ref L,.ty "list",_,_,true,rfl,.lst eL,.ty _,by kernel_rfl,true,rfl,U1 ⟨_,rfl,_,rfl,L,D,cs,bs,_,_,rfl,rfl,jl.of eL,jl.of (sb _ _ eD),KB,Jv.mono' KA sb,_,rfl,Vs rfl (hB _ rfl)⟩⟩) ?_
  rintro Hb' rfl
  refine VS [oR a,oR b,v2,oR D,oR hl,oR o,v6,oR o2,oR L] (fun H'=>Same Ha H') (fun B hB=>⟨_,rfl,.inl ⟨rfl,_,jl.of eL⟩,UX,fun u hu=>?_⟩) ?_
  ·have s5:=jf (o:=.tup [.str "w",.int 0]) (Same.refl Hb') hu
   refine⟨L,_,_,rfl,rfl,s5 _ _ eL,?_,hB _ fun b u e=>by rw [jj (jp e hL)];exact s5 _ _ (sb _ _ e)⟩
   have h1:=KB.1
   have h2:=pmb.length_eq
   rw [List.length_map] at h2 ⊢
   have:=I.tl
   exact Nat.lt_of_le_of_lt (show _≤1000 by omega) (by decide)
  rintro Hc sc
  have drc:=dra.same sc
  have s0c:=Same.trans s0a sc
  refine aB (fun (v2 v6:Option V)=>[oR a,oR b,v2,oR D,oR hl,oR o,v6,oR o2,oR L]) (fun _ _ H'=>Same Hc H') (fun B hB=>?_) ?_
  ·refine⟨_,rfl,b,rfl,⟨_,jl.of (s0c _ _ I.hb)⟩,JS (xs:=ns.map V.ref) (fun i σ H'=>∃(v2 v6:Option V),σ=[oR a,oR b,v2,oR D,oR hl,oR o,v6,oR o2,oR L]∧Same Hc H') ⟨_,_,rfl,Same.refl Hc⟩ (fun i σ H' _ h=>by obtain⟨_,_,_,e⟩:=h;exact jl.of (e _ _ (s0c _ _ I.hb))) ?_ ?_⟩
   ·rintro i v σ H4 hv ⟨v2,v6,rfl,s4⟩
    rw [List.getElem?_map] at hv
    obtain⟨p,e1,rfl⟩:=Option.map_eq_some_iff.mp hv
    obtain⟨l,x,_,ex,ep,us,el,pn⟩:=(I.N.same (Same.trans s0c s4)).at_ e1
    have hx:x∈ys:=List.mem_of_getElem? ex
    have lx1:x.2.length≤1000:=by
     have:=congrArg List.length (JG ex)
     rw [List.length_append,List.length_append] at this
     have:=I.tl
     omega
    refine⟨p,_,rfl,Ji.of ep,rfl,_,_,rfl,_,_,rfl,rfl,?_⟩
    refine⟨_,rfl,l,rfl,⟨_,jl.of el⟩,vD (xs:=us.map V.ref) (fun _=>false) (fun v=>v) (jl.of el) (by rw [List.length_map,pn.len];exact Nat.le_trans lx1 (by decide)) (fun v hv1 H' Qy Qn s' _ hn=>?_) fun D hD=>?_⟩
    ·obtain⟨u,hu,rfl⟩:=List.mem_map.mp hv1
     obtain⟨y,hy,eu⟩:=pn.mem hu
     have sv:=Ku G.nd hx hy
     refine⟨⟨_,rfl,rfl⟩,_,rfl,o2,_,_,rfl,s' _ _ (s4 _ _ drc.ho),rfl,_,rfl,o2,_,_,_,_,_,u,y,_,rfl,s' _ _ (s4 _ _ drc.ho),s' _ _ (s4 _ _ drc.hj),s' _ _ eu,fun v e=>?_,fun e=>?_⟩
     ·rw [sv] at e
      cases e
      exact⟨_,rfl,rfl,_,rfl,Vs rfl (hn rfl)⟩
     ·rw [sv] at e
      cases e
    ·have s5:=jf (o:=.lst (((us.map V.ref).filter fun _=>false).map fun v=>v)) (Same.refl H4) hD
     have e5:upd H4 D (.lst (((us.map V.ref).filter fun _=>false).map fun v=>v)) D=some (.lst []):=by rw [jd,List.filter_eq_nil_iff.mpr (fun _ _=>by decide)];rfl
     generalize upd H4 D (.lst (((us.map V.ref).filter fun _=>false).map fun v=>v))=H5 at s5 e5
     refine⟨vT,fun p6 hp6=>?_⟩
     have s6:=jf (o:=.lst []) (Same.refl H5) hp6
     exact⟨D,p6,[],rfl,rfl,jl.of (s6 _ _ e5),jl.of jd,_,rfl,U1 ⟨_,_,rfl,Same.trans s4 (Same.trans s5 s6)⟩⟩
   ·rintro σ H4 ⟨v2,v6,rfl,s4⟩
    exact hB _ _ _ s4
  rintro v2'' v6'' Hd sd1
  have drd:=drc.same sd1
  have s0d:=Same.trans s0c sd1
  refine VS [oR a,oR b,v2'',oR D,oR hl,oR o,v6'',oR o2,oR L] (fun H'=>H'=Hd) (fun B hB=>⟨_,rfl,o2,_,dx2,_,.ref pl2,rfl,drd.ho,T.Jp,T.Jx,rfl,_,rfl,pl2,a,ps,ps,_,_,rfl,rfl,jl.of drd.hp,jl.of (s0d _ _ I.ha),(I.C.same s0d).keys G.many,(I.C.same s0d).keys G.many,_,rfl,Vs rfl ⟨_,rfl,o2,_,dx2,_,.ref nl2,rfl,drd.ho,T.Jp,T.JL,rfl,_,rfl,nl2,b,ns3,ns,_,_,rfl,rfl,jl.of drd.hn,jl.of (s0d _ _ I.hb),drd.N.rows,(I.N.same s0d).rows,_,rfl,Vs rfl (hB _ rfl)⟩⟩) ?_
  rintro Hd' rfl
  have sad:=Same.trans sc sd1
  refine⟨_,rfl,o2,dx2,_,rfl,drd.ho,rfl,o2,dx2,pl2,nl2,kd2,jn2,ys,rfl,drd.ho,drd.hj,fun l3 bs3 ks3 He se hl3 e3 KC pmc soc=>?_⟩
  have jk:ks3=js:=VT (pmc.trans pm.symm) soc so
  subst jk
  refine⟨_,rfl,l3,D,bs3,bs,_,_,rfl,rfl,jl.of e3,jl.of (se _ _ (sad _ _ eD)),KC,Jv.mono' KA (Same.trans sad se),_,rfl,uk (fun _=>?_) fun z=>absurd rfl z⟩
  have dre:=drd.same se
  refine⟨_,rfl,UX,fun u hu=>?_⟩
  have sf:=jf (o:=.tup [.str "w",.int 0]) (Same.refl He) hu
  have ef:upd He u (.tup [.str "w",.int 0]) u=some (.tup [.str "w",.int 0]):=jd
  generalize upd He u (.tup [.str "w",.int 0])=Hf at sf ef
  have drf:=dre.same sf
  refine⟨o2,dx2,pl2,nl2,kd2,jn2,u,("w",0),_,rfl,drf.ho,drf.hj,ef,GZ G (iB nw 0),fun Hg sg=>⟨true,rfl,Uu ⟨_,rfl,UX,fun u2 hu2=>?_⟩⟩⟩
  have sh:=jf (o:=.tup [.str "a",.int 9]) (Same.refl Hg) hu2
  have drh:=(drf.same sg).same sh
  exact⟨o2,dx2,pl2,nl2,kd2,jn2,u2,("a",9),_,rfl,drh.ho,drh.hj,jd,GZ G (iA G.many "a"),fun Hi si=>q _ (Same.trans s0d (Same.trans se (Same.trans sf (Same.trans sg (Same.trans sh si)))))⟩
end
end K41
namespace K41
open PySem L2 Wd TS STb
theorem Jh.snoc {H:Hp}{ps:oB}{xs:List jJ} (C:Jh H ps xs) {p:Addr} {x:jJ} (h:H p=some (.tup [.str x.name,.str x.kind,x.many])):Jh H (ps++[p]) (xs++[x]):=by
 obtain⟨c1,c3⟩:=C
 refine⟨by simp [c1],fun i q y h1 h3=>?_⟩
 by_cases hi:i<ps.length
 ·rw [List.getElem?_append_left hi] at h1
  rw [List.getElem?_append_left (by omega)] at h3
  exact c3 i q y h1 h3
 ·rw [List.getElem?_append_right (by omega)] at h1
  rw [List.getElem?_append_right (by omega)] at h3
  have z:i - ps.length=0:=by
   have:=(List.getElem?_eq_some_iff.mp h1).1
   simp at this;omega
  rw [show i - xs.length=0 by omega] at h3
  rw [z] at h1
  cases h1;cases h3
  exact h
theorem Jh.mono {H H':Hp}{ps:oB}{xs:List jJ} (C:Jh H ps xs) (k:∀q ys,H q=some (.tup ys)→H' q=some (.tup ys)):Jh H' ps xs:=⟨C.1,fun i p x h1 h2=>k _ _ (C.2 i p x h1 h2)⟩
theorem jS.tups {H H':Hp}{a:Addr} (W:jS H a) (k:jX a H H'):∀q ys,H q=some (.tup ys)→H' q=some (.tup ys):=fun q ys e=>by
 obtain⟨m,c,j,e2⟩:=W
 exact k _ _ (Jw e e2 (fun z=>nomatch z)) e
def aH:List Str:=["","1","zz"]
def ZU:List Str:=["r","r","c2"]
def nm (i r:Nat):Str:=(⟨#[97+i]⟩:Str)++aH.getD r ""
theorem iy:∀i<8,∀r<3,Jd (nm i r)=true∧nm i r≠"w"∧(nm i r).length≤1000∧(nm i r).cps[0]?=some (97+i):=by decide +kernel
theorem eW:∀r<3,Jd (ZU.getD r "")=true∧(ZU.getD r "").length≤1000:=by decide +kernel
theorem d9:∀i<8,("abcdefgh":Str).cps.toList[i]?=some (97+i):=by decide +kernel
theorem vj {r:Int}{n:Nat} (h0:0≤r) (h1:r<n):∃j:Nat,j<n∧(j:Int)=r:=⟨r.toNat,by omega,by omega⟩
section
variable {P:oM}{w:World}{K:oq}{mg:ox}{base:Heap}{t:Adr}
def dG:Sp:=fun vs H Q _=>∃(a:Addr),vs=[.ref a]∧jS H a∧∀(D:Addr) (ps:oB) (xs:List jJ) H',jX a H H'→jS H' a→H D=none→H' D=some (.lst (ps.map V.ref))→Jh H' ps xs→xs.length≤8→(∀x∈xs,x.good=true∧x.name≠"w"∧x.name.length≤1000∧x.kind.length≤1000)→(xs.map (·.name)).Nodup→Q (.ref D) H'
theorem mQ (T:Txt K mg t):Ju P w K mg base 4 "_law_parts" ["_law_well_here"] dG:=by
 obtain⟨fd,F,b⟩:=T.gL
 have G_law_draw:=vw (P:=P) (w:=w) (base:=base) T
 refine⟨_,fd,F.okX vJ (fun vs H Q E h=>?_) (fun cdv A outer s H vs Q E hr h=>?_),b,F.kp,T.ZN⟩
 ·obtain⟨a,rfl,_⟩:=h
  rfl
 ·obtain⟨a,rfl,W,q⟩:=h
  refine⟨_,(jg (jB (i:=1) vJ.nd rfl (Or.inl rfl) (jW je))
   (jg (uC JF (UL rfl T.uO (ja (jr G_law_draw hr.m jq (by rfl) (ja (pv 0) (ja jh je))) je)) (ju (i:=2) vJ.nd rfl (Or.inl rfl)) (jg (jB (i:=3) vJ.nd rfl (Or.inl rfl) (jP vQ (jK ZT jM (pv 2) (fun _ _=>rfl)) (jK Jf (jW (ja jM (ja jM (ja jM je)))) (jr G_law_draw hr.m jq (by rfl) (ja (pv 0) (ja jh je))) (fun _ _=>rfl))))
   (jg (jB (i:=4) vJ.nd rfl (Or.inl rfl) (jK Jf (jW (ja (jP Uv jh (jr G_law_draw hr.m jq (by rfl) (ja (pv 0) (ja jh je)))) (ja (jP Uv jh (jr G_law_draw hr.m jq (by rfl) (ja (pv 0) (ja jh je)))) je))) (jP zR (jr G_law_draw hr.m jq (by rfl) (ja (pv 0) (ja jh je))) jh) (fun _ _=>rfl)))
   (jm (JP (vz PySem.F.plainAttrs_list PySem.F.slot_list_append PySem.F.type_list_append JX (pv 1) (ja (j8 (ja (pv 3) (ja (jK Jf (jW (ja jM (ja jM (ja jM je)))) (jr G_law_draw hr.m jq (by rfl) (ja (pv 0) (ja jh je))) (fun _ _=>rfl)) (ja (pv 4) je)))) je)))))))
   (jm (jN (pv 1))))),?_⟩
  refine U9 (fun (D:Addr)=>[oR a,oR D,none,none,none]) (fun D H'=>jX a H H'∧jS H' a∧H D=none∧H' D=some (.lst [])) (fun B hB=>⟨vT,fun D hD=>hB D _ ⟨(jX.refl a H).new hD,W.new hD,hD,jd⟩⟩) ?_
  rintro D H1 ⟨k1,W1,hD,eD⟩
  have nDa:D≠a:=Ne.symm (W.ne hD)
  refine cE (fun (v2 v3 v4:Option V) (ps:oB) (xs:List jJ)=>[oR a,oR D,v2,v3,v4]) (fun _ _ _ ps xs H'=>jX a H H'∧jS H' a∧H' D=some (.lst (ps.map V.ref))∧Jh H' ps xs∧xs.length≤8∧(∀x∈xs,x.good=true∧x.name≠"w"∧x.name.length≤1000∧x.kind.length≤1000)∧(xs.map (·.name)).Nodup) (fun B hB=>?_) ?_
  ·refine⟨_,rfl,a,9,rfl,W1,by decide,by decide,fun r H2 h0 h9 W2 k2=>?_⟩
   obtain⟨m,hm,em⟩:=vj (n:=9) h0 h9
   refine⟨m,congrArg (fun z=>[V.int z]) em.symm,by omega,by omega,ZK (lo:=0) (n:=m) (fun i σ H'=>∃(v2 v3 v4:Option V) (ps:oB) (xs:List jJ),σ=[oR a,oR D,v2,v3,v4]∧jX a H H'∧jS H' a∧H' D=some (.lst (ps.map V.ref))∧Jh H' ps xs∧xs.length=i∧(∀x∈xs,x.good=true∧x.name≠"w"∧x.name.length≤1000∧x.kind.length≤1000)∧(∀x∈xs,∃j,j<i∧x.name.cps[0]?=some (97+j))∧(xs.map (·.name)).Nodup) ⟨_,_,_,[],[],rfl,k1.trans k2,W2,k2 _ _ nDa eD,⟨rfl,fun i p x h=>nomatch h⟩,rfl,(fun x h=>nomatch h),(fun x h=>nomatch h),List.nodup_nil⟩ ?_ ?_⟩
   ·rintro i σ H3 hi ⟨v2,v3,v4,ps,xs,rfl,k3,W3,e3,C3,ln3,g3,f3,n3⟩
    have e0:(0:Int)+(i:Int)=(i:Int):=by omega
    rw [e0]
    have hi8:i<8:=by omega
    refine⟨_,rfl,_,(i:Int),97+i,rfl,rfl,by decide,JN (d9 i hi8),Ma,fun l hl=>?_⟩
    have k4:=(jX.refl a H3).new (o:=.lst [.str "",.str "1",.str "zz"]) hl
    have W4:=W3.new (o:=.lst [.str "",.str "1",.str "zz"]) hl
    have e4:upd H3 l (.lst [.str "",.str "1",.str "zz"]) l=some (.lst [.str "",.str "1",.str "zz"]):=jd
    have nla:l≠a:=Ne.symm (W3.ne hl)
    generalize upd H3 l (.lst [.str "",.str "1",.str "zz"])=H4 at k4 W4 e4
    refine⟨_,rfl,a,3,rfl,W4,by decide,by decide,fun r1 H5 h0 h3 W5 k5=>?_⟩
    obtain⟨j1,hj1,ej1⟩:=vj (n:=3) h0 h3
    refine⟨l,_,r1,.str (aH.getD j1 ""),rfl,rfl,jl.of (k5 _ _ nla e4),?_,_,_,rfl,rfl,?_,?_⟩
    ·rw [←ej1]
     refine JN ?_
     match j1,hj1 with
     | 0,_=>rfl
     | 1,_=>rfl
     | 2,_=>rfl
    ·match j1,hj1 with
     | 0,_=>show 1+(aH.getD 0 "").length≤sizeLine;decide
     | 1,_=>show 1+(aH.getD 1 "").length≤sizeLine;decide
     | 2,_=>show 1+(aH.getD 2 "").length≤sizeLine;decide
    obtain⟨i1,i2,i3,i4⟩:=iy i hi8 j1 hj1
    have k35:=k4.trans k5
    refine⟨_,rfl,a,3,rfl,W5,by decide,by decide,fun r2 H6 h0 h3 W6 k6=>⟨1,r2,rfl,rfl,_,rfl,a,8,rfl,W6,by decide,by decide,fun r3 H7 h0' h8 W7 k7=>⟨1,r3,rfl,rfl,UX,fun l2 hl2=>?_⟩⟩⟩
    have k8:=(jX.refl a H7).new (o:=.lst [.int (1+r2),.int (1+r3)]) hl2
    have W8:=W7.new (o:=.lst [.int (1+r2),.int (1+r3)]) hl2
    have e8:upd H7 l2 (.lst [.int (1+r2),.int (1+r3)]) l2=some (.lst [.int (1+r2),.int (1+r3)]):=jd
    have nl2:l2≠a:=Ne.symm (W7.ne hl2)
    generalize upd H7 l2 (.lst [.int (1+r2),.int (1+r3)])=H8 at k8 W8 e8
    refine⟨_,rfl,a,4,rfl,W8,by decide,by decide,fun r4 H9 h0'' h4 W9 k9=>?_⟩
    obtain⟨mm,em,mm1,mm8⟩:∃mm:Int,Zu [V.int (1+r2),V.int (1+r3)] (r4 / 3)=some (.int mm)∧1≤mm∧mm≤8:=by
     rcases (show r4 / 3=0∨r4 / 3=1 by omega) with z|z
     ·exact⟨1+r2,by rw [z];rfl,by omega,by omega⟩
     ·exact⟨1+r3,by rw [z];rfl,by omega,by omega⟩
    refine⟨r4,3,rfl,rfl,⟨by decide,by decide⟩,l2,_,r4 / 3,.int mm,rfl,rfl,jl.of (k9 _ _ nl2 e8),em,?_⟩
    have k39:=k35.trans (k6.trans (k7.trans (k8.trans k9)))
    have eD9:=k39 _ _ nDa e3
    refine⟨_,rfl,.inl ⟨rfl,_,jl.of eD9⟩,_,rfl,Ma,fun l3 hl3=>?_⟩
    have ka:=(jX.refl a H9).new (o:=.lst [.str "r",.str "r",.str "c2"]) hl3
    have Wa:=W9.new (o:=.lst [.str "r",.str "r",.str "c2"]) hl3
    have ea:upd H9 l3 (.lst [.str "r",.str "r",.str "c2"]) l3=some (.lst [.str "r",.str "r",.str "c2"]):=jd
    have nl3:l3≠a:=Ne.symm (W9.ne hl3)
    generalize upd H9 l3 (.lst [.str "r",.str "r",.str "c2"])=Ha at ka Wa ea
    refine⟨_,rfl,a,3,rfl,Wa,by decide,by decide,fun r5 Hb h0b h3b Wb kb=>?_⟩
    obtain⟨j2,hj2,ej2⟩:=vj (n:=3) h0b h3b
    obtain⟨d1,d2⟩:=eW j2 hj2
    refine⟨l3,_,r5,.str (ZU.getD j2 ""),rfl,rfl,jl.of (kb _ _ nl3 ea),?_,_,rfl,Ma,fun u hu=>?_⟩
    ·rw [←ej2]
     refine JN ?_
     match j2,hj2 with
     | 0,_=>rfl
     | 1,_=>rfl
     | 2,_=>rfl
    have sc:=jf (o:=.tup [.str (nm i j1),.str (ZU.getD j2 ""),.int mm]) (Same.refl Hb) hu
    have ec:upd Hb u (.tup [.str (nm i j1),.str (ZU.getD j2 ""),.int mm]) u=some (.tup [.str (nm i j1),.str (ZU.getD j2 ""),.int mm]):=jd
    have Wc:=Wb.new (o:=.tup [.str (nm i j1),.str (ZU.getD j2 ""),.int mm]) hu
    have k3b:=k39.trans (ka.trans kb)
    have k3c:jX a H3 (upd Hb u (.tup [.str (nm i j1),.str (ZU.getD j2 ""),.int mm])):=fun b o n e=>sc _ _ (k3b b o n e)
    have eDc:=k3c _ _ nDa e3
    refine⟨D,_,_,rfl,rfl,eDc,?_,?_⟩
    ·rw [List.length_map,C3.1,ln3]
     exact Nat.lt_of_le_of_lt (show _≤8 by omega) (by decide)
    ·have C4:Jh _ (ps++[u]) (xs++[(⟨nm i j1,ZU.getD j2 "",.int mm⟩:jJ)]):=(C3.mono (W3.tups k3c)).snoc ec
     refine⟨_,_,_,ps++[u],xs++[⟨nm i j1,ZU.getD j2 "",.int mm⟩],rfl,fun b o n e=>?_,?_,?_,C4.mono fun q ys e=>?_,by rw [List.length_append,ln3];rfl,fun x hx=>?_,fun x hx=>?_,?_⟩
     ·rw [jj (jp e hD)];exact k3c _ _ n (k3 _ _ n e)
     ·obtain⟨m1,c1,j1,ew⟩:=Wc
      exact⟨m1,c1,j1,by rw [jj (Ne.symm nDa)];exact ew⟩
     ·rw [jd,List.map_append];rfl
     ·rw [jj (Jw e eDc (fun z=>nomatch z))];exact e
     ·rcases List.mem_append.mp hx with z|z
      ·exact g3 x z
      ·rw [List.mem_singleton.mp z]
       refine⟨?_,i2,i3,d2⟩
       show (Jd (nm i j1)&&Jd (ZU.getD j2 "")&&(decide (1≤mm)&&decide (mm≤8)))=true
       rw [i1,d1,decide_eq_true mm1,decide_eq_true mm8];rfl
     ·rcases List.mem_append.mp hx with z|z
      ·obtain⟨j,hj,e⟩:=f3 x z
       exact⟨j,by omega,e⟩
      ·rw [List.mem_singleton.mp z];exact⟨i,by omega,i4⟩
     ·rw [List.map_append]
      refine List.nodup_append.mpr ⟨n3,by simp,fun c hc d hd e=>?_⟩
      obtain⟨x,hx,rfl⟩:=List.mem_map.mp hc
      obtain⟨j,hj,ej⟩:=f3 x hx
      have:d=nm i j1:=by simpa using hd
      rw [e,this,i4] at ej
      have:=Option.some.inj ej
      omega
   ·rintro σ H3 ⟨v2,v3,v4,ps,xs,rfl,k3,W3,e3,C3,ln3,g3,f3,n3⟩
    exact hB _ _ _ ps xs _ ⟨k3,W3,e3,C3,by omega,g3,n3⟩
  rintro v2 v3 v4 ps xs H2 ⟨k2,W2,e2,C2,l2,g2,n2⟩
  exact⟨_,rfl,q D ps xs H2 k2 W2 hD e2 C2 l2 g2 n2⟩
end
end K41
namespace K41
open PySem L2 Wd TS STb
def G9 (x:jJ):Prop:=x.name.length≤1000∧x.kind.length≤1000∧MO x.many=true∧x.name≠"w"∧∃i,nR x.many=some i∧-1≤i
theorem gG:∀n<31,(Str.ofString (toString (Int.ofNat n))).length≤10:=by decide +kernel
theorem G3:∀n<31,(Int.ofNat n).natAbs.log2<1920:=by decide +kernel
theorem kJ (a b:Str):(a++b).length=a.length+b.length:=by
 show (a.cps++b.cps).size=_
 rw [Array.size_append]
 rfl
theorem fG {b:Str}:("filled":Str)++b≠"w":=fun z=>by
 have:=congrArg Str.length z
 rw [kJ] at this
 have h1:("filled":Str).length=6:=by decide
 have h2:("w":Str).length=1:=by decide
 omega
section
variable {P:oM}{w:World}{K:oq}{mg:ox}{base:Heap}{t:Adr}
def iJ:Sp:=fun vs H Q _=>∃(b:Addr) (x y:Str) (ns ls:oB) (ys:List jy),vs=[.ref b,.str x,.str y]∧H b=some (.lst (ns.map V.ref))∧jQ H ns ls ys∧ys.length≤900∧(jt ys).length≤1000∧∀(D:Addr) (ns' ls':oB) (ys':List jy) H',Same H H'→H' D=some (.lst (ns'.map V.ref))→jQ H' ns' ls' ys'→ys'.map (·.1)=ys.map (·.1)→(jt ys').length=(jt ys).length→Q (.ref D) H'
theorem kT (T:Txt K mg t):Ju P w K mg base 1 "_law_renamed" ["_law_nets_here","_law_name","_law_other"] iJ:=by
 obtain⟨fd,F,b⟩:=T.Zs
 refine⟨_,fd,F.okX Uq (fun vs H Q E h=>?_) (fun cdv A outer s H vs Q E hr h=>?_),b,F.kp,T.zO⟩
 ·obtain⟨b,x,y,ns,ls,ys,rfl,_⟩:=h
  rfl
 ·obtain⟨b,x,y,ns,ls,ys,rfl,hb,N,l1,l2,q⟩:=h
  refine⟨_,(jg (jB (i:=3) Uq.nd rfl (Or.inl rfl) (jW je))
   (jg (uC JF (Ja (pv 0)) (u6 rfl (jH (ju (i:=4) Uq.nd rfl (Or.inl rfl)) (jH (ju (i:=5) Uq.nd rfl (Or.inl rfl)) uo))) (jg (jB (i:=6) Uq.nd rfl (Or.inl rfl) (jW je))
   (jg (uC JF (Ja (pv 5)) (ju (i:=7) Uq.nd rfl (Or.inl rfl)) (jm (jV (jA vc (jK u4 (pv 7) jh (fun _ _=>rfl)) (pv 1) (jG _)) (jm (JP (vz PySem.F.plainAttrs_list PySem.F.slot_list_append PySem.F.type_list_append JX (pv 6) (ja (j8 (ja (pv 2) (ja (jK u4 (pv 7) jh (fun _ _=>rfl)) je))) je)))) (jm (JP (vz PySem.F.plainAttrs_list PySem.F.slot_list_append PySem.F.type_list_append JX (pv 6) (ja (pv 7) je)))))))
   (jm (JP (vz PySem.F.plainAttrs_list PySem.F.slot_list_append PySem.F.type_list_append JX (pv 3) (ja (j8 (ja (pv 4) (ja (pv 6) je))) je)))))))
   (jm (jN (pv 3))))),?_⟩
  refine U9 (fun (D:Addr)=>[oR b,some (.str x),some (.str y),oR D,none,none,none,none]) (fun D H'=>Same H H'∧H D=none∧H' D=some (.lst [])) (fun B hB=>⟨vT,fun D hD=>hB D _ ⟨jf (Same.refl H) hD,hD,jd⟩⟩) ?_
  rintro D H1 ⟨s1,hD,eD⟩
  refine Jb (fun σ H'=>∃(v4 v5 v6 v7:Option V) (ns' ls':oB) (ys':List jy),σ=[oR b,some (.str x),some (.str y),oR D,v4,v5,v6,v7]∧Same H H'∧H' D=some (.lst (ns'.map V.ref))∧jQ H' ns' ls' ys'∧ys'.map (·.1)=ys.map (·.1)∧(jt ys').length=(jt ys).length) (fun B hB=>?_) ?_
  ·refine⟨_,rfl,b,rfl,⟨_,jl.of (s1 _ _ hb)⟩,JS (xs:=ns.map V.ref) (fun i σ H'=>∃(v4 v5 v6 v7:Option V) (ns' ls':oB) (ys':List jy),σ=[oR b,some (.str x),some (.str y),oR D,v4,v5,v6,v7]∧Same H H'∧H' D=some (.lst (ns'.map V.ref))∧jQ H' ns' ls' ys'∧ys'.map (·.1)=(ys.take i).map (·.1)∧(jt ys').length=(jt (ys.take i)).length∧∀l∈ls',l≠D) ⟨_,_,_,_,[],[],[],rfl,s1,eD,zj,rfl,rfl,(fun l h=>nomatch h)⟩ (fun i σ H' _ h=>by obtain⟨_,_,_,_,_,_,_,_,e,_⟩:=h;exact jl.of (e _ _ hb)) ?_ ?_⟩
   ·rintro i v σ H2 hv ⟨v4,v5,v6,v7,ns',ls',ys',rfl,s2,e2,N2,m2,t2,f2⟩
    rw [List.getElem?_map] at hv
    obtain⟨p,e1,rfl⟩:=Option.map_eq_some_iff.mp hv
    obtain⟨l,z,_,ez,ep,us,el,pn⟩:=(N.same s2).at_ e1
    have lz:z.2.length≤1000:=by
     have:=congrArg List.length (JG ez)
     rw [List.length_append,List.length_append] at this
     omega
    refine⟨p,_,rfl,Ji.of ep,rfl,_,_,rfl,_,_,rfl,rfl,?_⟩
    refine U9 (fun (S:Addr)=>[oR b,some (.str x),some (.str y),oR D,some (.str z.1),oR l,oR S,v7]) (fun S H'=>Same H2 H'∧H2 S=none∧H' S=some (.lst [])) (fun B hB=>⟨vT,fun S hS=>hB S _ ⟨jf (Same.refl H2) hS,hS,jd⟩⟩) ?_
    rintro S H3 ⟨s3,hS,eS⟩
    refine Md (fun (v7:Option V) (rs:oB) (zs:List j4)=>[oR b,some (.str x),some (.str y),oR D,some (.str z.1),oR l,oR S,v7]) (fun _ rs zs H'=>Same H2 H'∧H' S=some (.lst (rs.map V.ref))∧jD H' rs zs∧zs.length=z.2.length) (fun B hB=>?_) ?_
    ·refine⟨_,rfl,l,rfl,⟨_,jl.of (s3 _ _ el)⟩,JS (xs:=us.map V.ref) (fun j σ H'=>∃(v7:Option V) (rs:oB) (zs:List j4),σ=[oR b,some (.str x),some (.str y),oR D,some (.str z.1),oR l,oR S,v7]∧Same H2 H'∧H' S=some (.lst (rs.map V.ref))∧jD H' rs zs∧zs.length=j) ⟨_,[],[],rfl,s3,eS,uS,rfl⟩ (fun i σ H' _ h=>by obtain⟨_,_,_,_,e,_⟩:=h;exact jl.of (e _ _ el)) ?_ ?_⟩
     ·rintro j v σ H4 hv ⟨v7,rs,zs,rfl,s4,e4,C4,n4⟩
      rw [List.getElem?_map] at hv
      obtain⟨p5,g1,rfl⟩:=Option.map_eq_some_iff.mp hv
      have hj:j<z.2.length:=by rw [←pn.len];exact (List.getElem?_eq_some_iff.mp g1).1
      have gp:=s4 _ _ (pn.at_ g1 (List.getElem?_eq_getElem hj))
      have lr:rs.length<sizeLine:=by rw [C4.len,n4];exact Nat.lt_of_le_of_lt (show _≤1000 by omega) (by decide)
      refine⟨_,rfl,p5,_,0,.str z.2[j].1,rfl,rfl,Ji.of gp,rfl,_,rfl,rfl,_,rfl,uk (fun _=>?_) fun _=>?_⟩
      ·refine⟨_,rfl,.inl ⟨rfl,_,jl.of e4⟩,_,rfl,_,rfl,p5,_,1,.int z.2[j].2,rfl,rfl,Ji.of gp,rfl,UX,fun u hu=>?_⟩
       have s5:=jf (o:=.tup [.str y,.int z.2[j].2]) (Same.refl H4) hu
       have e5:upd H4 u (.tup [.str y,.int z.2[j].2]) u=some (.tup [.str y,.int z.2[j].2]):=jd
       have e6:=s5 _ _ e4
       refine⟨S,_,_,rfl,rfl,e6,by rw [List.length_map];exact lr,_,rs++[u],zs++[(y,z.2[j].2)],rfl,fun b u e=>by rw [jj (jp e hS)];exact s5 _ _ (s4 _ _ e),by rw [jd,List.map_append];rfl,?_,by rw [List.length_append,n4];rfl⟩
       exact ((C4.same s5).app (jD.one (x:=(y,z.2[j].2)) e5)).wr e6 (by intro ys z;cases z)
      ·refine⟨_,rfl,.inl ⟨rfl,_,jl.of e4⟩,_,rfl,S,_,_,rfl,rfl,e4,by rw [List.length_map];exact lr,_,rs++[p5],zs++[z.2[j]],rfl,fun b u e=>by rw [jj (jp e hS)];exact s4 _ _ e,by rw [jd,List.map_append];rfl,?_,by rw [List.length_append,n4];rfl⟩
       exact (C4.app (jD.one (x:=z.2[j]) gp)).wr e4 (by intro ys z;cases z)
     ·rintro σ H4 ⟨v7,rs,zs,rfl,s4,e4,C4,n4⟩
      exact hB _ rs zs _ ⟨s4,e4,C4,by rw [n4,List.length_map,pn.len]⟩
    rintro v7' rs zs H4 ⟨s4,e4,C4,n4⟩
    have eD4:=s4 _ _ e2
    have nSD:S≠D:=fun w=>by rw [w,e2] at hS;cases hS
    refine⟨_,rfl,.inl ⟨rfl,_,jl.of eD4⟩,_,rfl,_,rfl,UX,fun u hu=>?_⟩
    have s5:=jf (o:=.tup [.str z.1,.ref S]) (Same.refl H4) hu
    have e5:upd H4 u (.tup [.str z.1,.ref S]) u=some (.tup [.str z.1,.ref S]):=jd
    generalize upd H4 u (.tup [.str z.1,.ref S])=H5 at s5 e5
    have eD5:=s5 _ _ eD4
    have s25:=Same.trans s4 s5
    have ll:ns'.length<sizeLine:=by
     have h1:=congrArg List.length m2
     rw [List.length_map,List.length_map,List.length_take] at h1
     rw [N2.1,h1]
     exact Nat.lt_of_le_of_lt (show _≤900 by omega) (by decide)
    refine⟨D,_,_,rfl,rfl,eD5,by rw [List.length_map];exact ll,_,_,_,_,ns'++[u],ls'++[S],ys'++[(z.1,zs)],rfl,fun b u e=>by rw [jj (jp e hD)];exact s25 _ _ (s2 _ _ e),by rw [jd,List.map_append];rfl,?_,?_,?_,fun l hl=>?_⟩
    ·refine ((N2.same s25).snoc (y:=(z.1,zs)) ⟨e5,rs,s5 _ _ e4,C4.same s5⟩).wr (fun q ws e=>by rw [jj (Jw e eD5 (fun z=>nomatch z))];exact e) fun l hl ws e=>?_
     rw [jj]
     ·exact e
     ·rcases List.mem_append.mp hl with w|w
      ·exact f2 l w
      ·rw [List.mem_singleton.mp w];exact nSD
    ·rw [JM ez,List.map_append,List.map_append,m2];rfl
    ·rw [VU ez,List.length_append,←t2,←n4]
     unfold jt
     rw [List.flatMap_append,List.length_append]
     simp
    ·rcases List.mem_append.mp hl with w|w
     ·exact f2 l w
     ·rw [List.mem_singleton.mp w];exact nSD
   ·rintro σ H2 ⟨v4,v5,v6,v7,ns',ls',ys',rfl,s2,e2,N2,m2,t2,f2⟩
    rw [List.length_map,N.1,uH rfl] at m2 t2
    exact hB _ _ ⟨v4,v5,v6,v7,ns',ls',ys',rfl,s2,e2,N2,m2,t2⟩
  rintro _ H2 ⟨v4,v5,v6,v7,ns',ls',ys',rfl,s2,e2,N2,m2,t2⟩
  exact⟨_,rfl,q D ns' ls' ys' H2 s2 e2 N2 m2 t2⟩
def dB:Sp:=fun vs H Q _=>∃(c a b:Addr) (ps:oB) (xs:List jJ) (ns ls:oB) (ys:List jy),vs=[.ref c,.ref a,.ref b]∧jS H c∧a≠c∧b≠c∧(∀l∈ls,l≠c)∧H a=some (.lst (ps.map V.ref))∧Jh H ps xs∧xs.length≤20∧H b=some (.lst (ns.map V.ref))∧jQ H ns ls ys∧ys.length≤800∧(∀x∈xs,G9 x)∧(∀y∈ys,y.1.length≤1000) ∧
 ∀(D D1 D2:Addr) (ps':oB) (xs':List jJ) (ns' ls':oB) (ys':List jy) H',jX c H H'→jS H' c→H' D=some (.tup [.ref D1,.ref D2])→H' D1=some (.lst (ps'.map V.ref))→H' D2=some (.lst (ns'.map V.ref))→D1≠c→D2≠c→(∀l∈ls',l≠c)→Jh H' ps' xs'→jQ H' ns' ls' ys'→(∀x∈xs',G9 x)→(∀y∈ys',y.1.length≤1000)→(xs'.length≤9∨xs'.length=xs.length)→ys'.length≤ys.length+9→(jt ys').length≤(jt ys).length+9→Q (.ref D) H'
theorem mO (T:Txt K mg t):Ju P w K mg base 4 "_law_crowd" ["_law_well_here","_law_parts_here","_law_nets_here"] dB:=by
 obtain⟨fd,F,b⟩:=T.gJ
 have G_law_draw:=vw (P:=P) (w:=w) (base:=base) T
 refine⟨_,fd,F.okX Vv (fun vs H Q E h=>?_) (fun cdv A outer s H vs Q E hr h=>?_),b,F.kp,T.ZL⟩
 ·obtain⟨c,a,b,ps,xs,ns,ls,ys,rfl,_⟩:=h
  rfl
 ·obtain⟨c,a,b,ps,xs,ns,ls,ys,rfl,W,nac,nbc,nlc,ha,C,lx1,hb,N,ly1,okx,oky,q⟩:=h
  refine⟨_,(jg (jB (i:=1) Vv.nd rfl (Or.inl rfl) (Jy UZ (by rfl) T.u5 vC (ja (pv 1) je)))
   (jg (jB (i:=2) Vv.nd rfl (Or.inl rfl) (Jy UZ (by rfl) T.u5 vC (ja (pv 2) je)))
   (jg (jB (i:=3) Vv.nd rfl (Or.inl rfl) (jP Uv jh (jr G_law_draw hr.m jq (by rfl) (ja (pv 0) (ja jh je)))))
   (jg (bx JF (jA K2 (jz Jc (by rfl) T.ue u9 (ja (pv 1) je)) (pv 3) (jG _)) (jg (JP (vz PySem.F.plainAttrs_list PySem.F.slot_list_append PySem.F.type_list_append JX (pv 1) (ja (j8 (ja (jP vQ jM (Jy Vp (by rfl) T.Vt gi (ja (jz Jc (by rfl) T.ue u9 (ja (pv 1) je)) je))) (ja jM (ja jh je)))) je)))
   (jm (JP (vz PySem.F.plainAttrs_list PySem.F.slot_list_append PySem.F.type_list_append JX (pv 2) (ja (j8 (ja (jP vQ jM (Jy Vp (by rfl) T.Vt gi (ja (jz Jc (by rfl) T.ue u9 (ja (pv 1) je)) je))) (ja (jW (ja (j8 (ja (jK u4 (jK Jf (pv 1) (cz aM jh) (fun _ _=>rfl)) jh (fun _ _=>rfl)) (ja jh je))) je)) je))) je))))))
   (jm (jN (j8 (ja (pv 1) (ja (pv 2) je))))))))),?_⟩
  refine U9 (fun (D1:Addr)=>[oR c,oR D1,oR b,none]) (fun D1 H'=>Same H H'∧H D1=none∧H' D1=some (.lst (ps.map V.ref))) (fun B hB=>⟨_,rfl,a,_,rfl,.inl (jl.of ha),fun D hD=>hB D _ ⟨jf (Same.refl H) hD,hD,jd⟩⟩) ?_
  rintro D1 H1 ⟨s1,hD1,e1⟩
  refine U9 (fun (D2:Addr)=>[oR c,oR D1,oR D2,none]) (fun D2 H'=>Same H1 H'∧H1 D2=none∧H' D2=some (.lst (ns.map V.ref))) (fun B hB=>⟨_,rfl,b,_,rfl,.inl (jl.of (s1 _ _ hb)),fun D hD=>hB D _ ⟨jf (Same.refl H1) hD,hD,jd⟩⟩) ?_
  rintro D2 H2 ⟨s2,hD2,e2⟩
  have s02:=Same.trans s1 s2
  have W2:jS H2 c:=by
   obtain⟨m,cc,j,e⟩:=W
   exact⟨m,cc,j,s02 _ _ e⟩
  have nD1:D1≠c:=Ne.symm (W.ne hD1)
  have nD2:D2≠c:=fun z=>by
   obtain⟨m,cc,j,e⟩:=W
   rw [z,s1 _ _ e] at hD2;cases hD2
  have n12:D1≠D2:=jp e1 hD2
  have hD2':H D2=none:=Same.nn s1 hD2
  refine U9 (fun (r:Int)=>[oR c,oR D1,oR D2,some (.int (8+r))]) (fun r H'=>0≤r∧r<2∧jX c H2 H'∧jS H' c) (fun B hB=>⟨_,rfl,c,2,rfl,W2,by decide,by decide,fun r H' h0 h1 W' k'=>⟨8,r,rfl,rfl,hB r _ ⟨h0,h1,k',W'⟩⟩⟩) ?_
  rintro r H3 ⟨r0,r2,k3,W3⟩
  have k03:jX c H H3:=fun b o n e=>k3 _ _ n (s02 _ _ e)
  refine Jb (fun σ H'=>∃(ps':oB) (xs':List jJ) (ns' ls':oB) (ys':List jy),σ=[oR c,oR D1,oR D2,some (.int (8+r))]∧jX c H H'∧jS H' c∧H' D1=some (.lst (ps'.map V.ref))∧H' D2=some (.lst (ns'.map V.ref))∧Jh H' ps' xs'∧jQ H' ns' ls' ys'∧(∀l∈ls',l≠c∧l≠D1∧l≠D2)∧(∀x∈xs',G9 x)∧(∀y∈ys',y.1.length≤1000)∧(xs'.length≤9∨xs'.length=xs.length)∧xs.length≤xs'.length∧ys'.length=ys.length+(xs'.length - xs.length)∧(jt ys').length=(jt ys).length+(xs'.length - xs.length)) (fun B hB=>⟨fun m σ H'=>∃(ps':oB) (xs':List jJ) (ns' ls':oB) (ys':List jy),σ=[oR c,oR D1,oR D2,some (.int (8+r))]∧m=30 - xs'.length∧jX c H H'∧jS H' c∧H' D1=some (.lst (ps'.map V.ref))∧H' D2=some (.lst (ns'.map V.ref))∧Jh H' ps' xs'∧jQ H' ns' ls' ys'∧(∀l∈ls',l≠c∧l≠D1∧l≠D2)∧(∀x∈xs',G9 x)∧(∀y∈ys',y.1.length≤1000)∧(xs'.length≤9∨xs'.length=xs.length)∧xs.length≤xs'.length∧ys'.length=ys.length+(xs'.length - xs.length)∧(jt ys').length=(jt ys).length+(xs'.length - xs.length),⟨_,ps,xs,ns,ls,ys,rfl,rfl,k03,W3,k3 _ _ nD1 (s2 _ _ e1),k3 _ _ nD2 e2,C.mono fun q zs e=>W2.tups k3 _ _ (s02 _ _ e),N.wr (fun q zs e=>W2.tups k3 _ _ (s02 _ _ e)) (fun l hl zs e=>k03 _ _ (nlc l hl) e),fun l hl=>?_,okx,oky,.inr rfl,Nat.le_refl _,by omega,by omega⟩,?_⟩) ?_
  ·obtain⟨y,_,us,e,_⟩:=N.at_l hl
   exact⟨nlc l hl,jp e hD1,jp e hD2'⟩
  ·rintro m σ H4 ⟨ps',xs',ns',ls',ys',rfl,rfl,k4,W4,f1,f2,C4,N4,nl4,ox4,oy4,lx4,ge4,ly4,t4⟩
   refine⟨_,rfl,D1,_,rfl,.inl (jl.of f1),_,rfl,_,_,rfl,rfl,_,rfl,uk (fun lt=>?_) fun ge=>hB _ _ ⟨ps',xs',ns',ls',ys',rfl,k4,W4,f1,f2,C4,N4,nl4,ox4,oy4,lx4,ge4,ly4,t4⟩⟩
   rw [List.length_map,C4.1] at lt
   have lt9:xs'.length<9:=by omega
   refine⟨_,fun σ H' h=>⟨30 - (xs'.length+1),by omega,h⟩,?_⟩
   have hn31:(ps'.map V.ref).length<31:=by rw [List.length_map,C4.1];omega
   have sl:=gG _ hn31
   generalize hfx:(Str.ofString (toString (Int.ofNat (ps'.map V.ref).length)))=fx at sl
   refine Jb (fun σ H'=>∃u,σ=[oR c,oR D1,oR D2,some (.int (8+r))]∧kC D1 H4 H'∧H' D1=some (.lst ((ps'++[u]).map V.ref))∧H' u=some (.tup [.str ("filled"++fx),.str "r",.int 1])) (fun B hB=>⟨_,rfl,.inl ⟨rfl,_,jl.of f1⟩,_,rfl,D1,_,rfl,.inl (jl.of f1),_,rfl,G3 _ hn31,"filled",fx,rfl,congrArg V.str hfx,?_,Ma,fun u hu=>?_⟩) ?_
   ·show ("filled":Str).length+fx.length≤sizeLine
    exact Nat.le_trans (Nat.add_le_add (show ("filled":Str).length≤6 by decide) sl) (by decide)
   ·have s5:=jf (o:=.tup [.str ("filled"++fx),.str "r",.int 1]) (Same.refl H4) hu
    have nu:u≠D1:=Ne.symm (jp f1 hu)
    exact⟨D1,_,_,rfl,rfl,s5 _ _ f1,Nat.lt_of_lt_of_le hn31 (by decide),hB _ _ ⟨u,rfl,fun b u n e=>by rw [jj n];exact s5 _ _ e,by rw [jd,List.map_append];rfl,by rw [jj nu];exact jd⟩⟩
   rintro _ H5 ⟨u,rfl,o5,g1,g2⟩
   have W5:jS H5 c:=by
    obtain⟨m,cc,j,e⟩:=W4
    exact⟨m,cc,j,o5 _ _ (Ne.symm nD1) e⟩
   have f25:=o5 _ _ (Ne.symm n12) f2
   have hn31':((ps'++[u]).map V.ref).length<31:=by rw [List.length_map,List.length_append,C4.1];show xs'.length+1<31;omega
   have sl':=gG _ hn31'
   generalize hfy:(Str.ofString (toString (Int.ofNat ((ps'++[u]).map V.ref).length)))=fy at sl'
   refine⟨_,rfl,.inl ⟨rfl,_,jl.of f25⟩,_,rfl,D1,_,rfl,.inl (jl.of g1),_,rfl,G3 _ hn31',"f",fy,rfl,congrArg V.str hfy,?_,_,rfl,1,rfl,D1,_,-1,.ref u,rfl,rfl,jl.of g1,by rw [List.map_append];exact aS _ _,u,_,0,.str ("filled"++fx),rfl,rfl,Ji.of g2,rfl,UX,fun v hv=>?_⟩
   ·show ("f":Str).length+fy.length≤sizeLine
    exact Nat.le_trans (Nat.add_le_add (show ("f":Str).length≤6 by decide) sl') (by decide)
   have s6:=jf (o:=.tup [.str ("filled"++fx),.int 0]) (Same.refl H5) hv
   have e6:upd H5 v (.tup [.str ("filled"++fx),.int 0]) v=some (.tup [.str ("filled"++fx),.int 0]):=jd
   have W6:=W5.new (o:=.tup [.str ("filled"++fx),.int 0]) hv
   generalize upd H5 v (.tup [.str ("filled"++fx),.int 0])=H6 at s6 e6 W6
   refine⟨Vu,fun l hl=>?_⟩
   have s7:=jf (o:=.lst [.ref v]) (Same.refl H6) hl
   have e7:upd H6 l (.lst [.ref v]) l=some (.lst ([v].map V.ref)):=jd
   have W7:=W6.new (o:=.lst [.ref v]) hl
   have nlc':l≠c:=Ne.symm (W6.ne hl)
   have nl1:l≠D1:=Ne.symm (jp (s6 _ _ g1) hl)
   have nl2:l≠D2:=Ne.symm (jp (s6 _ _ f25) hl)
   generalize upd H6 l (.lst [.ref v])=H7 at s7 e7 W7
   refine⟨UX,fun z hz=>?_⟩
   have s8:=jf (o:=.tup [.str ("f"++fy),.ref l]) (Same.refl H7) hz
   have e8:upd H7 z (.tup [.str ("f"++fy),.ref l]) z=some (.tup [.str ("f"++fy),.ref l]):=jd
   have W8:=W7.new (o:=.tup [.str ("f"++fy),.ref l]) hz
   generalize upd H7 z (.tup [.str ("f"++fy),.ref l])=H8 at s8 e8 W8
   have s58:=Same.trans s6 (Same.trans s7 s8)
   have f28:=s58 _ _ f25
   have tk:∀q zs,H4 q=some (.tup zs)→upd H8 D2 (.lst (ns'.map V.ref++[.ref z])) q=some (.tup zs):=fun q zs e=>by
    have e5:=o5 _ _ (Jw e f1 (fun z=>nomatch z)) e
    rw [jj (Jw (s58 _ _ e5) f28 (fun z=>nomatch z))]
    exact s58 _ _ e5
   have t8:∀q zs,H8 q=some (.tup zs)→upd H8 D2 (.lst (ns'.map V.ref++[.ref z])) q=some (.tup zs):=fun q zs e=>by rw [jj (Jw e f28 (fun z=>nomatch z))];exact e
   refine⟨D2,_,_,rfl,rfl,f28,?_,ps'++[u],xs'++[⟨"filled"++fx,"r",.int 1⟩],ns'++[z],ls'++[l],ys'++[("f"++fy,[("filled"++fx,0)])],rfl,by rw [List.length_append];rfl,fun b o n e=>?_,?_,?_,?_,(C4.mono tk).snoc (t8 _ _ (s58 _ _ g2)),?_,fun m hm=>?_,fun x hx=>?_,fun y hy=>?_,.inl ?_,?_,?_,?_⟩
   ·rw [List.length_map,N4.1,ly4]
    exact Nat.lt_of_le_of_lt (show _≤900 by omega) (by decide)
   ·rw [jj (jp e hD2')]
    exact s58 _ _ (o5 _ _ (jp e hD1) (k4 _ _ n e))
   ·obtain⟨m,cc,j,e⟩:=W8
    exact⟨m,cc,j,by rw [jj (Ne.symm nD2)];exact e⟩
   ·rw [jj n12];exact s58 _ _ g1
   ·rw [jd,List.map_append];rfl
   ·refine (N4.wr tk fun m hm zs e=>?_).snoc (y:=("f"++fy,[("filled"++fx,0)])) ⟨t8 _ _ e8,[v],?_,jD.one (x:=("filled"++fx,0)) (t8 _ _ (s8 _ _ (s7 _ _ e6)))⟩
    ·rw [jj (nl4 m hm).2.2]
     exact s58 _ _ (o5 _ _ (nl4 m hm).2.1 e)
    ·rw [jj nl2];exact s8 _ _ e7
   ·rcases List.mem_append.mp hm with w|w
    ·exact nl4 m w
    ·rw [List.mem_singleton.mp w];exact⟨nlc',nl1,nl2⟩
   ·rcases List.mem_append.mp hx with w|w
    ·exact ox4 x w
    ·rw [List.mem_singleton.mp w]
     refine⟨?_,by show ("r":Str).length≤1000;decide,rfl,fG,1,rfl,by decide⟩
     show (("filled":Str)++fx).length≤1000
     rw [kJ]
     exact Nat.le_trans (Nat.add_le_add (show ("filled":Str).length≤6 by decide) sl) (by decide)
   ·rcases List.mem_append.mp hy with w|w
    ·exact oy4 y w
    ·rw [List.mem_singleton.mp w]
     show (("f":Str)++fy).length≤1000
     rw [kJ]
     exact Nat.le_trans (Nat.add_le_add (show ("f":Str).length≤6 by decide) sl') (by decide)
   ·rw [List.length_append];show xs'.length+1≤9;omega
   ·rw [List.length_append];omega
   ·rw [List.length_append,List.length_append];show ys'.length+1=ys.length+(xs'.length+1 - xs.length);omega
   ·have:jt (ys'++[(("f":Str)++fy,[(("filled":Str)++fx,(0:Int))])])=jt ys'++[(("filled":Str)++fx,(0:Int))]:=by unfold jt;rw [List.flatMap_append];rfl
    rw [this,List.length_append,List.length_append]
    show (jt ys').length+1=(jt ys).length+(xs'.length+1 - xs.length)
    omega
  rintro _ H4 ⟨ps',xs',ns',ls',ys',rfl,k4,W4,f1,f2,C4,N4,nl4,ox4,oy4,lx4,ge4,ly4,t4⟩
  refine⟨_,rfl,_,rfl,UX,fun D hD=>?_⟩
  have s5:=jf (o:=.tup [.ref D1,.ref D2]) (Same.refl H4) hD
  exact q D D1 D2 ps' xs' ns' ls' ys' _ (fun b o n e=>s5 _ _ (k4 b o n e)) (W4.new hD) jd (s5 _ _ f1) (s5 _ _ f2) nD1 nD2 (fun l hl=>(nl4 l hl).1) (C4.same s5) (N4.same s5) ox4 oy4 lx4 (by omega) (by omega)
end
end K41
namespace K41
open PySem L2 Wd TS STb
section
variable {P:oM}{w:World}{K:oq}{mg:ox}{base:Heap}{t:Adr}
def M3:Sp:=fun vs H Q _=>∃(b:Addr) (x:Str) (m:Int) (ns ls:oB) (ys:List jy),vs=[.ref b,.str x,.int m]∧-100≤m∧m≤9∧H b=some (.lst (ns.map V.ref))∧jQ H ns ls ys∧ys.length≤800∧(jt ys).length≤900∧(∀y∈ys,y.1.length≤1000)∧∀(D:Addr) (ns' ls':oB) (ys':List jy) H',Same H H'→H D=none→H' D=some (.lst (ns'.map V.ref))→jQ H' ns' ls' ys'→(∀l∈ls',H l=none)→(∀y∈ys',y.1.length≤1000)→ys'.length≤ys.length+1→(jt ys').length≤(jt ys).length+9→Q (.ref D) H'
theorem kO (T:Txt K mg t):Ju P w K mg base 1 "_law_counted" ["_law_nets_here","_law_name","_law_many"] M3:=by
 obtain⟨fd,F,b⟩:=T.Zp
 refine⟨_,fd,F.okX JZ (fun vs H Q E h=>?_) (fun cdv A outer s H vs Q E hr h=>?_),b,F.kp,T.zL⟩
 ·obtain⟨b,x,m,ns,ls,ys,rfl,_⟩:=h
  rfl
 ·obtain⟨b,x,m,ns,ls,ys,rfl,hm0,hm,hb,N,l1,l2,oky,q⟩:=h
  refine⟨_,(jg (jB (i:=3) JZ.nd rfl (Or.inl rfl) (jW je))
   (jg (jB (i:=4) JZ.nd rfl (Or.inr rfl) (jW je))
   (jg (uC JF (Ja (pv 0)) (u6 rfl (jH (ju (i:=5) JZ.nd rfl (Or.inl rfl)) (jH (ju (i:=6) JZ.nd rfl (Or.inl rfl)) uo))) (jg (km (i:=7) JZ.nd rfl (Or.inl rfl) (own:=["_law_pin"]) (GP (n1:="_law_name") (n2:="_law_many") (N:=["_law_nets_here","_law_name","_law_many","_law_found","_law_there","_law_net","_law_pins","_law_some","_law_more"]) rfl (by rfl) (by rfl) rfl rfl (by rfl) (by rfl) (by decide +kernel) (by decide +kernel) (by decide +kernel)) (Ja (pv 6)) (fun _ _ _ _ _=>ju (i:=9) (by show (["_law_nets_here","_law_name","_law_many","_law_found","_law_there","_law_net","_law_pins","_law_some","_law_more","_law_pin"]:oG).Nodup;decide +kernel) rfl (Or.inl rfl)) (fun _ _ _ _ _=>zm (UA (jA gA (jK (vt (K:=K) rfl) (pv 9) jh (fun _ _=>rfl)) (pv 1) (jG _)) (u8 (jA K2 (jK (vt (K:=K) rfl) (pv 9) jh (fun _ _=>rfl)) (pv 2) (jG _)))).pt) (fun _ _ _ _ _=>(pv 9)))
   (jg (jB (i:=4) JZ.nd rfl (Or.inr rfl) (jP vk (pv 4) (pv 7)))
   (jm (jV (jA (vG hr.units0) (pv 7) (jW je) (jG _)) (jm (JP (vz PySem.F.plainAttrs_list PySem.F.slot_list_append PySem.F.type_list_append JX (pv 3) (ja (j8 (ja (pv 5) (ja (pv 7) je))) je)))) jI)))))
   (jg (km (i:=8) JZ.nd rfl (Or.inl rfl) (own:=["_law_k"]) (GP (n1:="_law_there") (n2:="_law_name") (N:=["_law_nets_here","_law_name","_law_many","_law_found","_law_there","_law_net","_law_pins","_law_some","_law_more"]) rfl (by rfl) (by rfl) rfl rfl (by rfl) (by rfl) (by decide +kernel) (by decide +kernel) (by decide +kernel)) (UL rfl T.uO (ja (pv 2) je)) (fun _ _ _ _ _=>ju (i:=9) (by show (["_law_nets_here","_law_name","_law_many","_law_found","_law_there","_law_net","_law_pins","_law_some","_law_more","_law_k"]:oG).Nodup;decide +kernel) rfl (Or.inl rfl)) (fun _ _ _ _ _=>zm (jA (nW (K:=K) rfl hr.units) (j8 (ja (pv 1) (ja (pv 9) je))) (pv 4) (by with_unfolding_all rfl))) (fun _ _ _ _ _=>(j8 (ja (pv 1) (ja (pv 9) je)))))
   (jg (jV (jA (vG hr.units0) (pv 8) (jW je) (jG _)) (jm (JP (vz PySem.F.plainAttrs_list PySem.F.slot_list_append PySem.F.type_list_append JX (pv 3) (ja (j8 (ja jM (ja (pv 8) je))) je)))) jI)
   (jm (jN (pv 3)))))))),?_⟩
  refine U9 (fun (D:Addr)=>[oR b,some (.str x),some (.int m),oR D,none,none,none,none,none]) (fun D H'=>Same H H'∧H D=none∧H' D=some (.lst [])) (fun B hB=>⟨vT,fun D hD=>hB D _ ⟨jf (Same.refl H) hD,hD,jd⟩⟩) ?_
  rintro D H0 ⟨s0,hD,eD0⟩
  refine U9 (fun (D2:Addr)=>[oR b,some (.str x),some (.int m),oR D,oR D2,none,none,none,none]) (fun D2 H'=>Same H0 H'∧H0 D2=none∧H' D2=some (.lst [])) (fun B hB=>⟨vT,fun D hD=>hB D _ ⟨jf (Same.refl H0) hD,hD,jd⟩⟩) ?_
  rintro D2 H1 ⟨s1',hD2,eD2⟩
  have s1:=Same.trans s0 s1'
  have eD:=s1' _ _ eD0
  have n12:D2≠D:=fun z=>by rw [z,eD0] at hD2;cases hD2
  refine Jb (fun σ H'=>∃(v5 v6 v7:Option V) (D2:Addr) (ts:oB) (ws:List j4) (ns' ls':oB) (ys':List jy),σ=[oR b,some (.str x),some (.int m),oR D,oR D2,v5,v6,v7,none]∧Same H H'∧D2≠D∧H' D2=some (.lst (ts.map V.ref))∧jD H' ts ws∧H' D=some (.lst (ns'.map V.ref))∧jQ H' ns' ls' ys'∧(∀l∈ls',H l=none∧l≠D)∧(∀y∈ys',y.1.length≤1000)∧ys'.length≤ys.length∧(jt ys').length≤(jt ys).length) (fun B hB=>?_) ?_
  ·refine⟨_,rfl,b,rfl,⟨_,jl.of (s1 _ _ hb)⟩,JS (xs:=ns.map V.ref) (fun i σ H'=>∃(v5 v6 v7:Option V) (D2:Addr) (ts:oB) (ws:List j4) (ns' ls':oB) (ys':List jy),σ=[oR b,some (.str x),some (.int m),oR D,oR D2,v5,v6,v7,none]∧Same H H'∧D2≠D∧H' D2=some (.lst (ts.map V.ref))∧jD H' ts ws∧ws.length≤(jt (ys.take i)).length∧H' D=some (.lst (ns'.map V.ref))∧jQ H' ns' ls' ys'∧(∀l∈ls',H l=none∧l≠D)∧(∀y∈ys',y.1.length≤1000)∧ys'.length≤i∧(jt ys').length≤(jt (ys.take i)).length) ⟨_,_,_,D2,[],[],[],[],[],rfl,s1,n12,eD2,uS,Nat.le_refl _,eD,zj,(fun l h=>nomatch h),(fun y h=>nomatch h),Nat.le_refl _,Nat.le_refl _⟩ (fun i σ H' _ h=>by obtain⟨_,_,_,_,_,_,_,_,_,_,e,_⟩:=h;exact jl.of (e _ _ hb)) ?_ ?_⟩
   ·rintro i v σ H2 hv ⟨v5,v6,v7,D2,ts,ws,ns',ls',ys',rfl,s2,nd2,f2,C2,lw2,e2,N2,nl2,oy2,ly2,t2⟩
    rw [List.getElem?_map] at hv
    obtain⟨p,e1,rfl⟩:=Option.map_eq_some_iff.mp hv
    obtain⟨l,z,_,ez,ep,us,el,pn⟩:=(N.same s2).at_ e1
    have hz:z∈ys:=List.mem_of_getElem? ez
    have hi:i<ys.length:=(List.getElem?_eq_some_iff.mp ez).1
    have lz:=congrArg List.length (JG ez)
    rw [List.length_append,List.length_append] at lz
    have lt1:=congrArg List.length (VU ez)
    rw [List.length_append] at lt1
    refine⟨p,_,rfl,Ji.of ep,rfl,_,_,rfl,_,_,rfl,rfl,?_⟩
    refine Md (fun (S:Addr) (rs:oB) (zs:List j4)=>[oR b,some (.str x),some (.int m),oR D,oR D2,some (.str z.1),oR l,oR S,none]) (fun S rs zs H'=>Same H2 H'∧H2 S=none∧H' S=some (.lst (rs.map V.ref))∧jD H' rs zs∧zs.length≤z.2.length) (fun B hB=>⟨_,rfl,l,rfl,⟨_,jl.of el⟩,VO (xs:=us.map V.ref) (fun S j zs H'=>Same H2 H'∧H2 S=none∧H' S=some (.lst zs)∧zs.length≤j∧∃(rs:oB) (qs:List j4),zs=rs.map V.ref∧jD H' rs qs) (by rw [List.length_map,pn.len];exact Nat.le_trans (show _≤1000 by omega) (by decide)) (fun S hS=>⟨jf (Same.refl H2) hS,hS,jd,Nat.le_refl _,[],[],rfl,uS⟩) (fun S j zs H' hv=>⟨hv.2.2.1,hv.2.2.2.1,jl.of (hv.1 _ _ el)⟩) ?_ ?_⟩) ?_
    ·rintro S j v zs H4 Qy Qn hv ⟨s4,hS,eS,lz4,rs,qs,rfl,C4⟩ hy hn
     rw [List.getElem?_map] at hv
     obtain⟨p5,g1,rfl⟩:=Option.map_eq_some_iff.mp hv
     have hj:j<z.2.length:=by rw [←pn.len];exact (List.getElem?_eq_some_iff.mp g1).1
     have gp:=s4 _ _ (pn.at_ g1 (List.getElem?_eq_getElem hj))
     have yes:Qy (.ref p5) H4:=hy _ _ eS ⟨fun b u e=>by rw [jj (jp e hS)];exact s4 _ _ e,hS,jd,by rw [List.length_append];exact Nat.succ_le_succ lz4,rs++[p5],qs++[z.2[j]],by rw [List.map_append];rfl,(C4.app (jD.one (x:=z.2[j]) gp)).wr eS (by intro ys z;cases z)⟩
     have no:Qn H4:=hn _ ⟨s4,hS,eS,by omega,rs,qs,rfl,C4⟩
     refine⟨⟨_,rfl,rfl⟩,_,rfl,p5,_,0,.str z.2[j].1,rfl,rfl,Ji.of gp,rfl,_,rfl,rfl,_,rfl,ZS (fun _=>Uu ⟨_,rfl,yes⟩) fun _=>⟨_,rfl,p5,_,1,.int z.2[j].2,rfl,rfl,Ji.of gp,rfl,_,rfl,z.2[j].2,m,rfl,rfl,_,rfl,ZS (fun _=>⟨_,rfl,yes⟩) fun _=>no⟩⟩
    ·rintro S zs H4 hS0 ⟨s4,hS,eS,lz4,rs,qs,rfl,C4⟩
     exact hB S rs qs _ ⟨s4,hS,eS,C4,by rw [List.length_map,List.length_map] at lz4;rw [←C4.len,←pn.len];exact lz4⟩
    rintro S rs zs H3 ⟨s3,hS,eS,C3,lz3⟩
    have ln:ts.length+rs.length≤1000:=by have:=C2.len;have:=C3.len;omega
    refine U9 (fun (E2:Addr)=>[oR b,some (.str x),some (.int m),oR D,oR E2,some (.str z.1),oR l,oR S,none]) (fun E2 H'=>Same H3 H'∧H3 E2=none∧H' E2=some (.lst ((ts++rs).map V.ref))) (fun B hB=>⟨_,rfl,_,rfl,D2,S,_,_,rfl,rfl,s3 _ _ f2,eS,by rw [List.length_map,List.length_map];exact Nat.le_trans ln (by decide),fun E2 hE=>hB E2 _ ⟨jf (Same.refl H3) hE,hE,by rw [jd,List.map_append]⟩⟩) ?_
    rintro E2 H4 ⟨s4,hE2,eE2⟩
    have s24:=Same.trans s3 s4
    have s04:=Same.trans s2 s24
    have CT:jD H4 (ts++rs) (ws++zs):=((C2.same s3).app C3).same s4
    have nE:E2≠D:=fun w=>by rw [w,s3 _ _ e2] at hE2;cases hE2
    have nS:S≠D:=fun w=>by rw [w,e2] at hS;cases hS
    have eD4:=s24 _ _ e2
    have lw:(ws++zs).length≤(jt (ys.take (i+1))).length:=by rw [List.length_append];omega
    refine⟨_,rfl,vT,fun g hg=>?_⟩
    have s5:=jf (o:=.lst []) (Same.refl H4) hg
    have e5:upd H4 g (.lst []) g=some (.lst []):=jd
    generalize upd H4 g (.lst [])=H5 at s5 e5
    refine⟨S,g,_,rfl,rfl,jl.of (s5 _ _ (s4 _ _ eS)),jl.of e5,_,rfl,Uz (fun _=>?_) fun _=>?_⟩
    ·have eD5:=s5 _ _ eD4
     refine⟨_,rfl,.inl ⟨rfl,_,jl.of eD5⟩,_,rfl,_,rfl,UX,fun u hu=>?_⟩
     have s6:=jf (o:=.tup [.str z.1,.ref S]) (Same.refl H5) hu
     have e6:upd H5 u (.tup [.str z.1,.ref S]) u=some (.tup [.str z.1,.ref S]):=jd
     generalize upd H5 u (.tup [.str z.1,.ref S])=H6 at s6 e6
     have eD6:=s6 _ _ eD5
     have s46:=Same.trans s5 s6
     have s26:=Same.trans s24 s46
     have k6:∀q zs,H6 q=some (.tup zs)→upd H6 D (.lst (ns'.map V.ref++[.ref u])) q=some (.tup zs):=fun q zs e=>by rw [jj (Jw e eD6 (fun z=>nomatch z))];exact e
     refine⟨D,_,_,rfl,rfl,eD6,?_,_,_,_,E2,ts++rs,ws++zs,ns'++[u],ls'++[S],ys'++[(z.1,zs)],rfl,fun b u e=>by rw [jj (jp e hD)];exact s46 _ _ (s04 _ _ e),nE,by rw [jj nE];exact s46 _ _ eE2,(CT.same s46).mono k6,lw,by rw [jd,List.map_append];rfl,?_,fun l hl=>?_,fun y hy=>?_,by rw [List.length_append];show ys'.length+1≤i+1;omega,?_⟩
     ·rw [List.length_map,N2.1]
      exact Nat.lt_of_le_of_lt (show _≤800 by omega) (by decide)
     ·refine ((N2.same s26).snoc (y:=(z.1,zs)) ⟨e6,rs,s46 _ _ (s4 _ _ eS),(C3.same s4).same s46⟩).wr k6 fun l hl ws e=>?_
      rw [jj]
      ·exact e
      ·rcases List.mem_append.mp hl with w|w
       ·exact (nl2 l w).2
       ·rw [List.mem_singleton.mp w];exact nS
     ·rcases List.mem_append.mp hl with w|w
      ·exact nl2 l w
      ·rw [List.mem_singleton.mp w];exact⟨Same.nn s2 hS,nS⟩
     ·rcases List.mem_append.mp hy with w|w
      ·exact oy2 y w
      ·rw [List.mem_singleton.mp w];exact oky z hz
     ·have:jt (ys'++[(z.1,zs)])=jt ys'++zs:=by unfold jt;rw [List.flatMap_append];simp
      rw [this,List.length_append]
      omega
    ·exact⟨_,_,_,E2,ts++rs,ws++zs,ns',ls',ys',rfl,Same.trans s04 s5,nE,s5 _ _ eE2,CT.same s5,lw,s5 _ _ eD4,N2.same (Same.trans s24 s5),nl2,oy2,by omega,by omega⟩
   ·rintro σ H2 ⟨v5,v6,v7,D2,ts,ws,ns',ls',ys',rfl,s2,nd2,f2,C2,lw2,e2,N2,nl2,oy2,ly2,t2⟩
    rw [List.length_map,N.1] at ly2 t2
    rw [uH rfl] at t2
    exact hB _ _ ⟨v5,v6,v7,D2,ts,ws,ns',ls',ys',rfl,s2,nd2,f2,C2,e2,N2,nl2,oy2,ly2,t2⟩
  rintro _ H2 ⟨v5,v6,v7,E2,ts,ws,ns',ls',ys',rfl,s2,nd2,f2,C2,e2,N2,nl2,oy2,ly2,t2⟩
  refine Md (fun (S:Addr) (rs:oB) (zs:List j4)=>[oR b,some (.str x),some (.int m),oR D,oR E2,v5,v6,v7,oR S]) (fun S rs zs H'=>Same H2 H'∧H2 S=none∧H' S=some (.lst (rs.map V.ref))∧jD H' rs zs∧zs.length≤9) (fun B hB=>⟨_,rfl,m,rfl,by omega,by omega,VL (lo:=0) (n:=m.toNat) (fun S j zs H'=>Same H2 H'∧H2 S=none∧H' S=some (.lst zs)∧zs.length≤j∧∃(rs:oB) (qs:List j4),zs=rs.map V.ref∧jD H' rs qs) (Nat.le_trans (show _≤9 by omega) (by decide)) (fun S hS=>⟨jf (Same.refl H2) hS,hS,jd,Nat.le_refl _,[],[],rfl,uS⟩) (fun S j zs H' hv=>⟨hv.2.2.1,hv.2.2.2.1⟩) ?_ ?_⟩) ?_
  ·rintro S j zs H4 Qy Qn hj ⟨s4,hS,eS,lz4,rs,qs,rfl,C4⟩ hy hn
   have e0:(0:Int)+(j:Int)=(j:Int):=by omega
   rw [e0]
   refine⟨⟨_,rfl,rfl⟩,_,rfl,_,rfl,UX,fun u hu=>?_⟩
   have s5:=jf (o:=.tup [.str x,.int (j:Int)]) (Same.refl H4) hu
   have e5:upd H4 u (.tup [.str x,.int (j:Int)]) u=some (.tup ((kP (x,(j:Int))).map kV)):=jd
   generalize upd H4 u (.tup [.str x,.int (j:Int)])=H5 at s5 e5
   refine⟨_,rfl,u,E2,ts,kP (x,(j:Int)),_,rfl,rfl,e5,jl.of (s5 _ _ (s4 _ _ f2)),(C2.same s4).same s5,fun bb=>⟨_,rfl,ZS (fun _=>?_) fun _=>?_⟩⟩
   ·refine⟨_,rfl,_,rfl,UX,fun u2 hu2=>?_⟩
    have s6:=jf (o:=.tup [.str x,.int (j:Int)]) (Same.refl H5) hu2
    have e6:upd H5 u2 (.tup [.str x,.int (j:Int)]) u2=some (.tup [.str x,.int (j:Int)]):=jd
    generalize upd H5 u2 (.tup [.str x,.int (j:Int)])=H6 at s6 e6
    have s46:=Same.trans s5 s6
    have eS6:=s46 _ _ eS
    exact hy _ _ eS6 ⟨fun b u e=>by rw [jj (jp e hS)];exact s46 _ _ (s4 _ _ e),hS,jd,by rw [List.length_append];exact Nat.succ_le_succ lz4,rs++[u2],qs++[(x,(j:Int))],by rw [List.map_append];rfl,((C4.same s46).app (jD.one (x:=(x,(j:Int))) e6)).wr eS6 (by intro ys z;cases z)⟩
   ·exact hn _ ⟨Same.trans s4 s5,hS,s5 _ _ eS,by omega,rs,qs,rfl,C4.same s5⟩
  ·rintro S zs H4 hS0 ⟨s4,hS,eS,lz4,rs,qs,rfl,C4⟩
   exact hB S rs qs _ ⟨s4,hS,eS,C4,by rw [List.length_map] at lz4;rw [←C4.len];omega⟩
  rintro S rs zs H3 ⟨s3,hS,eS,C3,lz3⟩
  have s03:=Same.trans s2 s3
  have eD3:=s3 _ _ e2
  have nS:S≠D:=fun w=>by rw [w,e2] at hS;cases hS
  refine Jb (fun σ H'=>∃(ns' ls':oB) (ys':List jy),σ=[oR b,some (.str x),some (.int m),oR D,oR E2,v5,v6,v7,oR S]∧Same H H'∧H' D=some (.lst (ns'.map V.ref))∧jQ H' ns' ls' ys'∧(∀l∈ls',H l=none)∧(∀y∈ys',y.1.length≤1000)∧ys'.length≤ys.length+1∧(jt ys').length≤(jt ys).length+9) (fun B hB=>⟨_,rfl,vT,fun g hg=>?_⟩) ?_
  ·have s5:=jf (o:=.lst []) (Same.refl H3) hg
   have e5:upd H3 g (.lst []) g=some (.lst []):=jd
   generalize upd H3 g (.lst [])=H5 at s5 e5
   refine⟨S,g,_,rfl,rfl,jl.of (s5 _ _ eS),jl.of e5,_,rfl,Uz (fun _=>?_) fun _=>?_⟩
   ·have eD5:=s5 _ _ eD3
    refine⟨_,rfl,.inl ⟨rfl,_,jl.of eD5⟩,_,rfl,UX,fun u hu=>?_⟩
    have s6:=jf (o:=.tup [.str "counted",.ref S]) (Same.refl H5) hu
    have e6:upd H5 u (.tup [.str "counted",.ref S]) u=some (.tup [.str "counted",.ref S]):=jd
    generalize upd H5 u (.tup [.str "counted",.ref S])=H6 at s6 e6
    have eD6:=s6 _ _ eD5
    have s46:=Same.trans s5 s6
    have k6:∀q zs,H6 q=some (.tup zs)→upd H6 D (.lst (ns'.map V.ref++[.ref u])) q=some (.tup zs):=fun q zs e=>by rw [jj (Jw e eD6 (fun z=>nomatch z))];exact e
    refine⟨D,_,_,rfl,rfl,eD6,?_,hB _ _ ⟨ns'++[u],ls'++[S],ys'++[((("counted":Str),zs):jy)],rfl,fun b u e=>by rw [jj (jp e hD)];exact s46 _ _ (s03 _ _ e),by rw [jd,List.map_append];rfl,?_,fun l hl=>?_,fun y hy=>?_,by rw [List.length_append];show ys'.length+1≤_;omega,?_⟩⟩
    ·rw [List.length_map,N2.1]
     exact Nat.lt_of_le_of_lt (show _≤800 by omega) (by decide)
    ·refine ((N2.same (Same.trans s3 s46)).snoc (y:=(("counted":Str),zs)) ⟨e6,rs,s46 _ _ eS,C3.same s46⟩).wr k6 fun l hl ws e=>?_
     rw [jj]
     ·exact e
     ·rcases List.mem_append.mp hl with w|w
      ·exact (nl2 l w).2
      ·rw [List.mem_singleton.mp w];exact nS
    ·rcases List.mem_append.mp hl with w|w
     ·exact (nl2 l w).1
     ·rw [List.mem_singleton.mp w];exact Same.nn s2 hS
    ·rcases List.mem_append.mp hy with w|w
     ·exact oy2 y w
     ·rw [List.mem_singleton.mp w];show ("counted":Str).length≤1000;decide
    ·have:jt (ys'++[(("counted":Str),zs)])=jt ys'++zs:=by unfold jt;rw [List.flatMap_append];simp
     rw [this,List.length_append]
     omega
   ·exact hB _ _ ⟨ns',ls',ys',rfl,Same.trans s03 s5,s5 _ _ eD3,N2.same (Same.trans s3 s5),fun l hl=>(nl2 l hl).1,oy2,by omega,by omega⟩
  rintro _ H4 ⟨ns4,ls4,gg,rfl,s4,e4,N4,nl4,oy4,ly4,t4⟩
  exact⟨_,rfl,q D ns4 ls4 gg H4 s4 hD e4 N4 nl4 oy4 ly4 t4⟩
end
end K41
namespace K41
open PySem L2 Wd TS STb
theorem Nv {α:Type} (f:α→V) (l:List α) (lo hi:Option Int):∃m n,vZ (l.map f) lo hi=((l.drop m).take n).map f:=⟨_,_,by unfold vZ;rw [List.map_take,List.map_drop]⟩
theorem aX (xs:List V) (k:Nat):vZ xs (some (k:Int)) none=xs.drop k:=by
 unfold vZ
 rw [HT.sIx_nat,HT.sIx_none]
 by_cases h:k≤xs.length
 ·rw [Nat.min_eq_left h]
  exact List.take_of_length_le (by rw [List.length_drop];omega)
 ·rw [Nat.min_eq_right (by omega),List.drop_eq_nil_of_le (Nat.le_refl _),List.drop_eq_nil_of_le (by omega)]
  exact List.take_nil
theorem eB (xs:List V) (k:Nat):vZ xs none (some (k:Int))=xs.take k:=by
 unfold vZ
 rw [HT.sIx_nat,HT.sIx_none,List.drop_zero,Nat.sub_zero]
 by_cases h:k≤xs.length
 ·rw [Nat.min_eq_left h]
 ·rw [Nat.min_eq_right (by omega),List.take_of_length_le (Nat.le_refl _),List.take_of_length_le (by omega)]
theorem jD.cut {H:Hp}{us:oB}{zs:List j4} (C:jD H us zs) (m n:Nat):jD H ((us.drop m).take n) ((zs.drop m).take n):=by
 have h:=C.len
 refine⟨by simp [h],fun i p k h1 h2=>?_⟩
 have hi:i<n:=by have:=(List.getElem?_eq_some_iff.mp h1).1;rw [List.length_take] at this;omega
 rw [List.getElem?_take_of_lt hi,List.getElem?_drop] at h1
 rw [List.map_take,List.map_drop] at h2
 rw [List.getElem?_take_of_lt hi,List.getElem?_drop] at h2
 exact C.2 _ p k h1 h2
theorem jQ.cut {H:Hp}{ns ls:oB}{ys:List jy} (N:jQ H ns ls ys) (m n:Nat):jQ H ((ns.drop m).take n) ((ls.drop m).take n) ((ys.drop m).take n):=by
 obtain⟨h1,h2,h3⟩:=N
 refine⟨by simp [h1],by simp [h2],fun i p l x e1 e2 e3=>?_⟩
 have hi:i<n:=by have:=(List.getElem?_eq_some_iff.mp e1).1;rw [List.length_take] at this;omega
 rw [List.getElem?_take_of_lt hi,List.getElem?_drop] at e1 e2 e3
 exact h3 _ p l x e1 e2 e3
theorem jQ.app {H:Hp}{ns ls ns' ls':oB}{ys ys':List jy} (N:jQ H ns ls ys) (N':jQ H ns' ls' ys'):jQ H (ns++ns') (ls++ls') (ys++ys'):=by
 obtain⟨h1,h2,h3⟩:=N
 obtain⟨g1,g2,g3⟩:=N'
 refine⟨by simp [h1,g1],by simp [h2,g2],fun i p l x e1 e2 e3=>?_⟩
 by_cases hi:i<ns.length
 ·rw [List.getElem?_append_left hi] at e1
  rw [List.getElem?_append_left (by omega)] at e2 e3
  exact h3 i p l x e1 e2 e3
 ·rw [List.getElem?_append_right (by omega)] at e1 e2 e3
  rw [show i - ls.length=i - ns.length by omega] at e2
  rw [show i - ys.length=i - ns.length by omega] at e3
  exact g3 _ p l x e1 e2 e3
theorem bO {l l':List jy} (h:l.Sublist l'):(jt l).length≤(jt l').length:=by
 unfold jt
 induction h with
 | slnil=>exact Nat.le_refl _
 | cons a _ ih=>rw [List.flatMap_cons,List.length_append];omega
 | cons_cons a _ ih=>rw [List.flatMap_cons,List.flatMap_cons,List.length_append,List.length_append];omega
theorem vp {α:Type} (l:List α) (m n:Nat):((l.drop m).take n).Sublist l:=(List.take_sublist n _).trans (List.drop_sublist m l)
theorem Gz (a b:List jy):jt (a++b)=jt a++jt b:=by unfold jt;rw [List.flatMap_append]
def wl:List Str:=["","N","9","ninesigns",Txt.mul "n" 8]
theorem iS:∀j<5,(wl.getD j "").length≤1000:=by decide +kernel
theorem lq:MulOk ("n":Str) 8:=⟨by decide,fun _ _=>by decide +kernel,fun _ _=>by decide +kernel⟩
section
variable {P:oM}{w:World}{K:oq}{mg:ox}{base:Heap}{t:Adr}
def fW:Sp:=fun vs H Q _=>∃(c b:Addr) (ns ls:oB) (ys:List jy),vs=[.ref c,.ref b]∧jS H c∧b≠c∧(∀l∈ls,l≠c)∧H b=some (.lst (ns.map V.ref))∧jQ H ns ls ys∧ys≠[]∧ys.length≤300∧(jt ys).length≤300∧(∀y∈ys,y.1.length≤1000)∧∀(D:Addr) (ns' ls':oB) (ys':List jy) H',jX c H H'→jS H' c→D≠c→(∀l∈ls',l≠c)→H' D=some (.lst (ns'.map V.ref))→jQ H' ns' ls' ys'→(∀y∈ys',y.1.length≤1000)→ys'.length≤2*ys.length+1→(jt ys').length≤3*(jt ys).length+1→Q (.ref D) H'
theorem kM (T:Txt K mg t):Ju P w K mg base 4 "_law_bad_net" ["_law_well_here","_law_nets_here"] fW:=by
 obtain⟨fd,F,b⟩:=T.Zo
 have G_law_draw:=vw (P:=P) (w:=w) (base:=base) T
 refine⟨_,fd,F.okX Jn (fun vs H Q E h=>?_) (fun cdv A outer s H vs Q E hr h=>?_),b,F.kp,T.zK⟩
 ·obtain⟨c,b,ns,ls,ys,rfl,_⟩:=h
  rfl
 ·obtain⟨c,b,ns,ls,ys,rfl,W,nbc,nlc,hb,N,nz,l1,l2,oky,q⟩:=h
  refine⟨_,(jg (jB (i:=2) Jn.nd rfl (Or.inl rfl) (jr G_law_draw hr.m jq (by rfl) (ja (pv 0) (ja (jz Jc (by rfl) T.ue u9 (ja (pv 1) je)) je))))
   (jg (Z4 (jK Jf (pv 1) (pv 2) (fun _ _=>rfl)) (u6 rfl (jH (ju (i:=3) Jn.nd rfl (Or.inl rfl)) (jH (ju (i:=4) Jn.nd rfl (Or.inl rfl)) uo))))
   (jg (jB (i:=5) Jn.nd rfl (Or.inl rfl) (jr G_law_draw hr.m jq (by rfl) (ja (pv 0) (ja jh je))))
   (jg (jB (i:=6) Jn.nd rfl (Or.inl rfl) (Jy UZ (by rfl) T.u5 vC (ja (pv 4) je)))
   (jg (jV (jA vc (pv 5) jh (jG _)) (jm (jB (i:=6) Jn.nd rfl (Or.inl rfl) (v0 VI (pv 6) (VG jh) VF))) jI)
   (jg (jV (jA vc (pv 5) jh (jG _)) (jm (jB (i:=6) Jn.nd rfl (Or.inl rfl) (jP vk (pv 6) (v0 VI (pv 6) VF (VG jh))))) jI)
   (jg (jV (jA vc (pv 5) jh (jG _)) (jm (jB (i:=6) Jn.nd rfl (Or.inl rfl) (jP vk (pv 6) (jW (ja (j8 (ja jM (ja jh je))) je))))) jI)
   (jg (jV (jA vc (pv 5) jh (jG _)) (jm (jB (i:=3) Jn.nd rfl (Or.inl rfl) (jK u4 (jK Jf (pv 1) jh (fun _ _=>rfl)) jh (fun _ _=>rfl)))) jI)
   (jg (jV (jA vc (pv 5) jh (jG _)) (jm (jB (i:=3) Jn.nd rfl (Or.inl rfl) (jK Jf (jW (ja jM (ja jM (ja jM (ja jM (ja (jP nV jM jh) je)))))) (jr G_law_draw hr.m jq (by rfl) (ja (pv 0) (ja jh je))) (fun _ _=>rfl)))) jI)
   (jg (jV (jA vc (pv 5) jh (jG _)) (jm (jN (jP vk (pv 1) (jW (ja (j8 (ja jM (ja (jW je) je))) je))))) jI)
   (jm (jN (jP vk (jP vk (v0 VI (pv 1) VF (VG (pv 2))) (jW (ja (j8 (ja (pv 3) (ja (pv 6) je))) je))) (v0 VI (pv 1) (VG (jP Uv (pv 2) jh)) VF)))))))))))))),?_⟩
  have lns:(ns.map V.ref).length=ys.length:=by rw [List.length_map];exact N.1
  have pos:0<ys.length:=List.length_pos_iff.mpr nz
  have up:∀{H':Hp},jX c H H'→jQ H' ns ls ys:=fun k=>N.wr (W.tups k) fun l hl zs e=>k _ _ (nlc l hl) e
  refine U9 (fun (r:Int)=>[oR c,oR b,some (.int r),none,none,none,none]) (fun r H'=>0≤r∧r<ys.length∧jX c H H'∧jS H' c) (fun B hB=>⟨_,rfl,_,rfl,b,_,rfl,.inl (jl.of hb),c,_,rfl,W,by rw [lns];omega,by rw [lns];omega,fun r H' h0 h1 W' k'=>hB r _ ⟨h0,by rw [lns] at h1;exact h1,k',W'⟩⟩) ?_
  rintro r H1 ⟨r0,r1,k1,W1⟩
  obtain⟨j,hj,ej⟩:=vj (n:=ys.length) r0 r1
  have hj2:j<ns.length:=by rw [N.1];exact hj
  obtain⟨l,x,el,ex,ep,us0,eu0,pn0⟩:=(up k1).at_ (List.getElem?_eq_getElem hj2)
  have hl:l∈ls:=List.mem_of_getElem? el
  have hx:x∈ys:=List.mem_of_getElem? ex
  have lx:x.2.length≤(jt ys).length:=by
   have:=congrArg List.length (JG ex)
   rw [List.length_append,List.length_append] at this
   omega
  refine VS [oR c,oR b,some (.int r),some (.str x.1),oR l,none,none] (fun H'=>H'=H1) (fun B hB=>⟨_,rfl,_,rfl,b,_,r,.ref ns[j],rfl,rfl,jl.of (k1 _ _ nbc hb),by rw [←ej];exact JN (by rw [List.getElem?_map,List.getElem?_eq_getElem hj2];rfl),_,_,rfl,Ji.of ep,rfl,_,_,rfl,_,_,rfl,rfl,hB _ rfl⟩) ?_
  rintro H1' rfl
  refine U9 (fun (wy:Int)=>[oR c,oR b,some (.int r),some (.str x.1),oR l,some (.int wy),none]) (fun wy H'=>jX c H H'∧jS H' c) (fun B hB=>⟨_,rfl,c,6,rfl,W1,by decide,by decide,fun wy H' h0 h1 W' k'=>hB wy _ ⟨k1.trans k',W'⟩⟩) ?_
  rintro wy H2 ⟨k2,W2⟩
  have N2:=up k2
  obtain⟨us2,el2⟩:∃us2:List Addr,H2 l=some (.lst (us2.map V.ref))∧jD H2 us2 x.2:=by
   obtain⟨l',x',el',ex',_,us',eu',pn'⟩:=N2.at_ (List.getElem?_eq_getElem hj2)
   rw [el] at el'
   cases el'
   rw [ex] at ex'
   cases ex'
   exact⟨us',eu',pn'⟩
  refine Jb (fun σ H'=>∃(z:Str) (S:Addr) (us:oB) (zs:List j4),σ=[oR c,oR b,some (.int r),some (.str z),oR l,some (.int wy),oR S]∧jX c H H'∧jS H' c∧S≠c∧H' S=some (.lst (us.map V.ref))∧jD H' us zs∧z.length≤1000∧zs.length≤(jt ys).length) (fun B hB=>⟨_,rfl,l,_,rfl,.inl (jl.of el2.1),fun S hS=>hB _ _ ⟨x.1,S,us2,x.2,rfl,k2.new hS,W2.new hS,Ne.symm (W2.ne hS),jd,el2.2.mono (fun q zs e=>by rw [jj (jp e hS)];exact e),oky x hx,lx⟩⟩) ?_
  rintro _ H3 ⟨z,S,us,zs,rfl,k3,W3,nS,eS,C3,lz,ln⟩
  refine Jb (fun σ H'=>∃(z:Str) (S:Addr) (us:oB) (zs:List j4),σ=[oR c,oR b,some (.int r),some (.str z),oR l,some (.int wy),oR S]∧jX c H H'∧jS H' c∧S≠c∧H' S=some (.lst (us.map V.ref))∧jD H' us zs∧z.length≤1000∧zs.length≤(jt ys).length) (fun B hB=>⟨_,rfl,rfl,_,rfl,uk (fun _=>⟨_,rfl,1,rfl,S,_,rfl,jl.of eS,fun S2 hS2=>?_⟩) fun _=>hB _ _ ⟨z,S,us,zs,rfl,k3,W3,nS,eS,C3,lz,ln⟩⟩) ?_
  ·obtain⟨m,n,em⟩:=Nv V.ref us (some 1) none
   rw [em] at *
   have:=(C3.cut m n)
   refine hB _ _ ⟨z,S2,(us.drop m).take n,(zs.drop m).take n,rfl,k3.new hS2,W3.new hS2,Ne.symm (W3.ne hS2),jd,this.mono (fun q zs e=>by rw [jj (jp e hS2)];exact e),lz,Nat.le_trans (vp zs m n).length_le ln⟩
  clear k3 W3 nS eS C3 lz ln
  rintro _ H3 ⟨z,S,us,zs,rfl,k3,W3,nS,eS,C3,lz,ln⟩
  refine Jb (fun σ H'=>∃(z:Str) (S:Addr) (us:oB) (zs:List j4),σ=[oR c,oR b,some (.int r),some (.str z),oR l,some (.int wy),oR S]∧jX c H H'∧jS H' c∧S≠c∧H' S=some (.lst (us.map V.ref))∧jD H' us zs∧z.length≤1000∧zs.length≤2*(jt ys).length) (fun B hB=>⟨_,rfl,rfl,_,rfl,uk (fun _=>⟨_,rfl,_,rfl,1,rfl,S,_,rfl,jl.of eS,fun S2 hS2=>?_⟩) fun _=>hB _ _ ⟨z,S,us,zs,rfl,k3,W3,nS,eS,C3,lz,by omega⟩⟩) ?_
  ·obtain⟨m,n,em⟩:=Nv V.ref us none (some 1)
   rw [em] at *
   have e4:upd H3 S2 (.lst (((us.drop m).take n).map V.ref)) S2=some (.lst (((us.drop m).take n).map V.ref)):=jd
   have k4:=k3.new (o:=.lst (((us.drop m).take n).map V.ref)) hS2
   have W4:=W3.new (o:=.lst (((us.drop m).take n).map V.ref)) hS2
   have s4:=jf (o:=.lst (((us.drop m).take n).map V.ref)) (Same.refl H3) hS2
   generalize upd H3 S2 (.lst (((us.drop m).take n).map V.ref))=H4 at e4 k4 W4 s4
   have lc:=(vp zs m n).length_le
   have C4:=(C3.cut m n).same s4
   have h1:=C3.len
   have h2:=C4.len
   refine⟨S,S2,_,_,rfl,rfl,s4 _ _ eS,e4,by rw [List.length_map,List.length_map];exact Nat.le_trans (show _≤1000 by omega) (by decide),fun S3 hS3=>hB _ _ ⟨z,S3,us++(us.drop m).take n,zs++(zs.drop m).take n,rfl,k4.new hS3,W4.new hS3,Ne.symm (W4.ne hS3),by rw [jd,List.map_append],((C3.same s4).app C4).same (jf (Same.refl H4) hS3),lz,by rw [List.length_append];omega⟩⟩
  clear k3 W3 nS eS C3 lz ln
  rintro _ H3 ⟨z,S,us,zs,rfl,k3,W3,nS,eS,C3,lz,ln⟩
  refine Jb (fun σ H'=>∃(z:Str) (S:Addr) (us:oB) (zs:List j4),σ=[oR c,oR b,some (.int r),some (.str z),oR l,some (.int wy),oR S]∧jX c H H'∧jS H' c∧S≠c∧H' S=some (.lst (us.map V.ref))∧jD H' us zs∧z.length≤1000∧zs.length≤2*(jt ys).length+1) (fun B hB=>⟨_,rfl,rfl,_,rfl,uk (fun _=>⟨_,rfl,UX,fun u hu=>?_⟩) fun _=>hB _ _ ⟨z,S,us,zs,rfl,k3,W3,nS,eS,C3,lz,by omega⟩⟩) ?_
  ·have e4:upd H3 u (.tup [.str "q",.int 0]) u=some (.tup [.str "q",.int 0]):=jd
   have k4:=k3.new (o:=.tup [.str "q",.int 0]) hu
   have W4:=W3.new (o:=.tup [.str "q",.int 0]) hu
   have s4:=jf (o:=.tup [.str "q",.int 0]) (Same.refl H3) hu
   generalize upd H3 u (.tup [.str "q",.int 0])=H4 at e4 k4 W4 s4
   refine⟨Vu,fun S2 hS2=>?_⟩
   have e5:upd H4 S2 (.lst [.ref u]) S2=some (.lst ([u].map V.ref)):=jd
   have k5:=k4.new (o:=.lst [.ref u]) hS2
   have W5:=W4.new (o:=.lst [.ref u]) hS2
   have s5:=jf (o:=.lst [.ref u]) (Same.refl H4) hS2
   generalize upd H4 S2 (.lst [.ref u])=H5 at e5 k5 W5 s5
   have h1:=C3.len
   have s35:=Same.trans s4 s5
   exact⟨S,S2,_,_,rfl,rfl,s35 _ _ eS,e5,by rw [List.length_map,List.length_map];exact Nat.le_trans (show us.length+1≤1000 by omega) (by decide),fun S3 hS3=>hB _ _ ⟨z,S3,us++[u],zs++[((("q":Str),(0:Int)):j4)],rfl,k5.new hS3,W5.new hS3,Ne.symm (W5.ne hS3),by rw [jd,List.map_append],((C3.same s35).app (jD.one (x:=(("q":Str),(0:Int))) (s5 _ _ e4))).same (jf (Same.refl H5) hS3),lz,by rw [List.length_append];show zs.length+1≤_;omega⟩⟩
  clear k3 W3 nS eS C3 lz ln
  rintro _ H3 ⟨z,S,us,zs,rfl,k3,W3,nS,eS,C3,lz,ln⟩
  refine Jb (fun σ H'=>∃(z:Str) (S:Addr) (us:oB) (zs:List j4),σ=[oR c,oR b,some (.int r),some (.str z),oR l,some (.int wy),oR S]∧jX c H H'∧jS H' c∧S≠c∧H' S=some (.lst (us.map V.ref))∧jD H' us zs∧z.length≤1000∧zs.length≤2*(jt ys).length+1) (fun B hB=>⟨_,rfl,rfl,_,rfl,uk (fun _=>?_) fun _=>hB _ _ ⟨z,S,us,zs,rfl,k3,W3,nS,eS,C3,lz,ln⟩⟩) ?_
  ·have h0:0<ns.length:=by rw [N.1];exact pos
   obtain⟨l0,x0,_,ex0,ep0,_⟩:=(up k3).at_ (List.getElem?_eq_getElem h0)
   exact⟨_,rfl,b,_,0,.ref ns[0],rfl,rfl,jl.of (k3 _ _ nbc hb),JN (j:=0) (by rw [List.getElem?_map,List.getElem?_eq_getElem h0];rfl),_,_,0,.str x0.1,rfl,rfl,Ji.of ep0,rfl,hB _ _ ⟨x0.1,S,us,zs,rfl,k3,W3,nS,eS,C3,oky _ (List.mem_of_getElem? ex0),ln⟩⟩
  clear k3 W3 nS eS C3 lz ln
  rintro _ H3 ⟨z,S,us,zs,rfl,k3,W3,nS,eS,C3,lz,ln⟩
  refine Jb (fun σ H'=>∃(z:Str) (S:Addr) (us:oB) (zs:List j4),σ=[oR c,oR b,some (.int r),some (.str z),oR l,some (.int wy),oR S]∧jX c H H'∧jS H' c∧S≠c∧H' S=some (.lst (us.map V.ref))∧jD H' us zs∧z.length≤1000∧zs.length≤2*(jt ys).length+1) (fun B hB=>⟨_,rfl,rfl,_,rfl,uk (fun _=>⟨"n",8,rfl,rfl,lq,(by show 5≤sizeLine;decide),fun L hL=>?_⟩) fun _=>hB _ _ ⟨z,S,us,zs,rfl,k3,W3,nS,eS,C3,lz,ln⟩⟩) ?_
  ·have e4:upd H3 L (.lst [.str "",.str "N",.str "9",.str "ninesigns",.str (Txt.mul "n" 8)]) L=some (.lst [.str "",.str "N",.str "9",.str "ninesigns",.str (Txt.mul "n" 8)]):=jd
   have k4:=k3.new (o:=.lst [.str "",.str "N",.str "9",.str "ninesigns",.str (Txt.mul "n" 8)]) hL
   have W4:=W3.new (o:=.lst [.str "",.str "N",.str "9",.str "ninesigns",.str (Txt.mul "n" 8)]) hL
   have s4:=jf (o:=.lst [.str "",.str "N",.str "9",.str "ninesigns",.str (Txt.mul "n" 8)]) (Same.refl H3) hL
   generalize upd H3 L (.lst [.str "",.str "N",.str "9",.str "ninesigns",.str (Txt.mul "n" 8)])=H4 at e4 k4 W4 s4
   have nL:L≠c:=Ne.symm (W3.ne hL)
   refine⟨_,rfl,c,5,rfl,W4,by decide,by decide,fun r5 H5 h0 h5 W5 k5=>?_⟩
   obtain⟨j5,hj5,ej5⟩:=vj (n:=5) h0 h5
   refine⟨L,_,r5,.str (wl.getD j5 ""),rfl,rfl,jl.of (k5 _ _ nL e4),?_,hB _ _ ⟨wl.getD j5 "",S,us,zs,rfl,k4.trans k5,W5,nS,k5 _ _ nS (s4 _ _ eS),(C3.same s4).mono (W4.tups k5),iS j5 hj5,ln⟩⟩
   rw [←ej5]
   refine JN ?_
   match j5,hj5 with
   | 0,_=>rfl
   | 1,_=>rfl
   | 2,_=>rfl
   | 3,_=>rfl
   | 4,_=>rfl
  clear k3 W3 nS eS C3 lz ln
  rintro _ H3 ⟨z,S,us,zs,rfl,k3,W3,nS,eS,C3,lz,ln⟩
  have ls2:ns.length≤300:=by rw [N.1];exact l1
  refine Jb (fun σ H'=>∃(z:Str) (S:Addr) (us:oB) (zs:List j4),σ=[oR c,oR b,some (.int r),some (.str z),oR l,some (.int wy),oR S]∧jX c H H'∧jS H' c∧S≠c∧H' S=some (.lst (us.map V.ref))∧jD H' us zs∧z.length≤1000∧zs.length≤2*(jt ys).length+1) (fun B hB=>⟨_,rfl,rfl,_,rfl,uk (fun _=>⟨_,rfl,vT,fun l0 hl0=>?_⟩) fun _=>hB _ _ ⟨z,S,us,zs,rfl,k3,W3,nS,eS,C3,lz,ln⟩⟩) ?_
  ·have e4:upd H3 l0 (.lst []) l0=some (.lst []):=jd
   have k4:=k3.new (o:=.lst []) hl0
   have W4:=W3.new (o:=.lst []) hl0
   have s4:=jf (o:=.lst []) (Same.refl H3) hl0
   generalize upd H3 l0 (.lst [])=H4 at e4 k4 W4 s4
   have nl0:l0≠c:=Ne.symm (W3.ne hl0)
   refine⟨UX,fun u hu=>?_⟩
   have e5:upd H4 u (.tup [.str "more",.ref l0]) u=some (.tup [.str "more",.ref l0]):=jd
   have k5:=k4.new (o:=.tup [.str "more",.ref l0]) hu
   have W5:=W4.new (o:=.tup [.str "more",.ref l0]) hu
   have s5:=jf (o:=.tup [.str "more",.ref l0]) (Same.refl H4) hu
   generalize upd H4 u (.tup [.str "more",.ref l0])=H5 at e5 k5 W5 s5
   refine⟨Vu,fun L hL=>?_⟩
   have e6:upd H5 L (.lst [.ref u]) L=some (.lst [.ref u]):=jd
   have k6:=k5.new (o:=.lst [.ref u]) hL
   have W6:=W5.new (o:=.lst [.ref u]) hL
   have s6:=jf (o:=.lst [.ref u]) (Same.refl H5) hL
   generalize upd H5 L (.lst [.ref u])=H6 at e6 k6 W6 s6
   have s36:=Same.trans s4 (Same.trans s5 s6)
   refine⟨b,L,_,_,rfl,rfl,k6 _ _ nbc hb,e6,by rw [List.length_map];exact Nat.le_trans (show ns.length+1≤1000 by omega) (by decide),fun D hD=>?_⟩
   have s7:=jf (o:=.lst (ns.map V.ref++[.ref u])) (Same.refl H6) hD
   refine q D (ns++[u]) (ls++[l0]) (ys++[((("more":Str),([]:List j4)):jy)]) _ (k6.new hD) (W6.new hD) (Ne.symm (W6.ne hD)) (fun l hl=>?_) (by rw [jd,List.map_append];rfl) (((up k6).snoc (y:=(("more":Str),([]:List j4))) ⟨s6 _ _ e5,[],s6 _ _ (s5 _ _ e4),uS⟩).same s7) (fun y hy=>?_) (by rw [List.length_append];show ys.length+1≤_;omega) (by rw [Gz,List.length_append];show (jt ys).length+0≤_;omega)
   ·rcases List.mem_append.mp hl with w|w
    ·exact nlc l w
    ·rw [List.mem_singleton.mp w];exact nl0
   ·rcases List.mem_append.mp hy with w|w
    ·exact oky y w
    ·rw [List.mem_singleton.mp w];show ("more":Str).length≤1000;decide
  clear k3 W3 nS eS C3 lz ln
  rintro _ H3 ⟨z,S,us,zs,rfl,k3,W3,nS,eS,C3,lz,ln⟩
  obtain⟨m1,n1,em1,tt1⟩:∃m1 n1,vZ (ns.map V.ref) none (some r)=((ns.drop m1).take n1).map V.ref∧(jt ((ys.drop m1).take n1)).length=(jt (ys.take j)).length:=⟨0,j,by rw [←ej,eB,List.map_take,List.drop_zero],by rw [List.drop_zero]⟩
  obtain⟨m2,n2,em2,tt2⟩:∃m2 n2,vZ (ns.map V.ref) (some (r+1)) none=((ns.drop m2).take n2).map V.ref∧(jt ((ys.drop m2).take n2)).length≤(jt (ys.drop (j+1))).length:=⟨j+1,ns.length,by rw [←ej,show ((j:Int)+1)=((j+1:Nat):Int) from rfl,aX,List.take_of_length_le (by rw [List.length_drop];omega),List.map_drop],bO (List.take_sublist _ _)⟩
  have tsp:=congrArg List.length (JG ex)
  rw [List.length_append,List.length_append] at tsp
  have c1:=(vp ns m1 n1).length_le
  have c2:=(vp ns m2 n2).length_le
  refine⟨_,rfl,_,rfl,r,rfl,b,_,rfl,jl.of (k3 _ _ nbc hb),fun A1 hA1=>?_⟩
  rw [em1] at *
  ·have e4:upd H3 A1 (.lst (((ns.drop m1).take n1).map V.ref)) A1=some (.lst (((ns.drop m1).take n1).map V.ref)):=jd
   have k4:=k3.new (o:=.lst (((ns.drop m1).take n1).map V.ref)) hA1
   have W4:=W3.new (o:=.lst (((ns.drop m1).take n1).map V.ref)) hA1
   have s4:=jf (o:=.lst (((ns.drop m1).take n1).map V.ref)) (Same.refl H3) hA1
   generalize upd H3 A1 (.lst (((ns.drop m1).take n1).map V.ref))=H4 at e4 k4 W4 s4
   refine⟨_,rfl,_,rfl,UX,fun u hu=>?_⟩
   have e5:upd H4 u (.tup [.str z,.ref S]) u=some (.tup [.str z,.ref S]):=jd
   have k5:=k4.new (o:=.tup [.str z,.ref S]) hu
   have W5:=W4.new (o:=.tup [.str z,.ref S]) hu
   have s5:=jf (o:=.tup [.str z,.ref S]) (Same.refl H4) hu
   generalize upd H4 u (.tup [.str z,.ref S])=H5 at e5 k5 W5 s5
   refine⟨Vu,fun L hL=>?_⟩
   have e6:upd H5 L (.lst [.ref u]) L=some (.lst [.ref u]):=jd
   have k6:=k5.new (o:=.lst [.ref u]) hL
   have W6:=W5.new (o:=.lst [.ref u]) hL
   have s6:=jf (o:=.lst [.ref u]) (Same.refl H5) hL
   generalize upd H5 L (.lst [.ref u])=H6 at e6 k6 W6 s6
   refine⟨A1,L,_,_,rfl,rfl,s6 _ _ (s5 _ _ e4),e6,by rw [List.length_map];exact Nat.le_trans (show _+1≤1000 by omega) (by decide),fun A2 hA2=>?_⟩
   have e7:upd H6 A2 (.lst (((ns.drop m1).take n1).map V.ref++[.ref u])) A2=some (.lst (((ns.drop m1).take n1).map V.ref++[.ref u])):=jd
   have k7:=k6.new (o:=.lst (((ns.drop m1).take n1).map V.ref++[.ref u])) hA2
   have W7:=W6.new (o:=.lst (((ns.drop m1).take n1).map V.ref++[.ref u])) hA2
   have s7:=jf (o:=.lst (((ns.drop m1).take n1).map V.ref++[.ref u])) (Same.refl H6) hA2
   generalize upd H6 A2 (.lst (((ns.drop m1).take n1).map V.ref++[.ref u]))=H7 at e7 k7 W7 s7
   refine⟨_,rfl,_,rfl,r,1,rfl,rfl,r+1,rfl,b,_,rfl,jl.of (k7 _ _ nbc hb),fun A3 hA3=>?_⟩
   rw [em2] at *
   have e8:upd H7 A3 (.lst (((ns.drop m2).take n2).map V.ref)) A3=some (.lst (((ns.drop m2).take n2).map V.ref)):=jd
   have k8:=k7.new (o:=.lst (((ns.drop m2).take n2).map V.ref)) hA3
   have W8:=W7.new (o:=.lst (((ns.drop m2).take n2).map V.ref)) hA3
   have s8:=jf (o:=.lst (((ns.drop m2).take n2).map V.ref)) (Same.refl H7) hA3
   generalize upd H7 A3 (.lst (((ns.drop m2).take n2).map V.ref))=H8 at e8 k8 W8 s8
   refine⟨A2,A3,_,_,rfl,rfl,s8 _ _ e7,e8,by rw [List.length_append,List.length_map,List.length_map];exact Nat.le_trans (show _+1+_≤1000 by omega) (by decide),fun D hD=>?_⟩
   have s9:=jf (o:=.lst (((ns.drop m1).take n1).map V.ref++[.ref u]++((ns.drop m2).take n2).map V.ref)) (Same.refl H8) hD
   have s58:=Same.trans s6 (Same.trans s7 s8)
   have s38:=Same.trans s4 (Same.trans s5 s58)
   have N8:=up k8
   have NN:=((N8.cut m1 n1).snoc (y:=(z,zs)) ⟨s58 _ _ e5,us,s38 _ _ eS,C3.same s38⟩).app (N8.cut m2 n2)
   have y1:=(vp ys m1 n1).length_le
   have y2:=(vp ys m2 n2).length_le
   refine q D _ _ _ _ (k8.new hD) (W8.new hD) (Ne.symm (W8.ne hD)) (fun l hl=>?_) (by rw [jd,List.map_append,List.map_append];rfl) (NN.same s9) (fun y hy=>?_) (by rw [List.length_append,List.length_append];show _+1+_≤_;omega) ?_
   ·rcases List.mem_append.mp hl with w|w
    ·rcases List.mem_append.mp w with w|w
     ·exact nlc l ((vp ls m1 n1).subset w)
     ·rw [List.mem_singleton.mp w];exact nS
    ·exact nlc l ((vp ls m2 n2).subset w)
   ·rcases List.mem_append.mp hy with w|w
    ·rcases List.mem_append.mp w with w|w
     ·exact oky y ((vp ys m1 n1).subset w)
     ·rw [List.mem_singleton.mp w];exact lz
    ·exact oky y ((vp ys m2 n2).subset w)
   ·rw [Gz,Gz,List.length_append,List.length_append]
    have:(jt [((z,zs):jy)]).length=zs.length:=by unfold jt;simp
    rw [this]
    omega
end
end K41
namespace K41
open PySem L2 Wd TS STb
def KI (x:Str):List Str:=["","ninesigns","A","1a",x,"a-b","eightsig","r9"]
theorem jS.nr {H:Hp}{c D:Addr}{ns:oB} (W:jS H c) (h:H D=some (.lst (ns.map V.ref))):D≠c:=fun z=>by
 obtain⟨_,_,_,e⟩:=W
 rw [z,e] at h
 cases ns with
 | nil=>cases h
 | cons a r=>cases h
theorem jQ.nw {H:Hp}{ns ls:oB}{ys:List jy} (N:jQ H ns ls ys) {c:Addr} (W:jS H c):∀l∈ls,l≠c:=fun l hl=>by
 obtain⟨h1,h2,h3⟩:=N
 obtain⟨i,hi⟩:=List.mem_iff_getElem?.mp hl
 have Vh:=(List.getElem?_eq_some_iff.mp hi).1
 obtain⟨_,us,e,_⟩:=h3 i _ l _ (List.getElem?_eq_getElem (by omega)) hi (List.getElem?_eq_getElem (by omega))
 exact W.nr e
theorem Jh.take {H:Hp}{ps:oB}{xs:List jJ} (C:Jh H ps xs) (n:Nat):Jh H (ps.take n) (xs.take n):=by
 refine⟨by simp [C.1],fun i p x h1 h2=>?_⟩
 have hi:i<n:=by have:=(List.getElem?_eq_some_iff.mp h1).1;rw [List.length_take] at this;omega
 rw [List.getElem?_take_of_lt hi] at h1 h2
 exact C.2 i p x h1 h2
theorem Jh.drop {H:Hp}{ps:oB}{xs:List jJ} (C:Jh H ps xs) (n:Nat):Jh H (ps.drop n) (xs.drop n):=by
 refine⟨by simp [C.1],fun i p x h1 h2=>?_⟩
 rw [List.getElem?_drop] at h1 h2
 exact C.2 _ p x h1 h2
theorem Jh.app {H:Hp}{ps ps':oB}{xs xs':List jJ} (C:Jh H ps xs) (C':Jh H ps' xs'):Jh H (ps++ps') (xs++xs'):=by
 obtain⟨c1,c2⟩:=C
 obtain⟨d1,d2⟩:=C'
 refine⟨by simp [c1,d1],fun i p x h1 h2=>?_⟩
 by_cases hi:i<ps.length
 ·rw [List.getElem?_append_left hi] at h1
  rw [List.getElem?_append_left (by omega)] at h2
  exact c2 i p x h1 h2
 ·rw [List.getElem?_append_right (by omega)] at h1 h2
  rw [←c1] at h2
  exact d2 _ p x h1 h2
theorem aN (x:Str):∀j<8,((KI x).map V.str)[j]?=some (.str ((KI x).getD j ""))
 | 0,_=>rfl|1,_=>rfl|2,_=>rfl|3,_=>rfl|4,_=>rfl|5,_=>rfl|6,_=>rfl|7,_=>rfl
theorem aO {x:Str} (hx:x.length≤1000) (hw:x≠"w"):∀j<8,((KI x).getD j "").length≤1000∧(KI x).getD j ""≠"w"
 | 0,_=>by show ("":Str).length≤1000∧("":Str)≠"w";decide
 | 1,_=>by show ("ninesigns":Str).length≤1000∧("ninesigns":Str)≠"w";decide
 | 2,_=>by show ("A":Str).length≤1000∧("A":Str)≠"w";decide
 | 3,_=>by show ("1a":Str).length≤1000∧("1a":Str)≠"w";decide
 | 4,_=>⟨hx,hw⟩
 | 5,_=>by show ("a-b":Str).length≤1000∧("a-b":Str)≠"w";decide
 | 6,_=>by show ("eightsig":Str).length≤1000∧("eightsig":Str)≠"w";decide
 | 7,_=>by show ("r9":Str).length≤1000∧("r9":Str)≠"w";decide
def MT (m:Int):List V:=[.int 0,.int 9,.bl true,.int m,.int 8,.int (-1)]
theorem fE {m:Int} (h1:-1≤m) (h2:m≤9):∀j<6,∃v i,(MT m)[j]?=some v∧MO v=true∧nR v=some i∧-1≤i∧i≤9
 | 0,_=>⟨_,_,rfl,rfl,rfl,by decide,by decide⟩
 | 1,_=>⟨_,_,rfl,rfl,rfl,by decide,by decide⟩
 | 2,_=>⟨_,_,rfl,rfl,rfl,by decide,by decide⟩
 | 3,_=>⟨_,_,rfl,rfl,rfl,h1,h2⟩
 | 4,_=>⟨_,_,rfl,rfl,rfl,by decide,by decide⟩
 | 5,_=>⟨_,_,rfl,rfl,rfl,by decide,by decide⟩
structure BP (H:Hp) (c:Addr) (H':Hp) (L:Addr) (x0:Str) (ys:List jy) (e:Nat) (b:Addr) (x:jJ):Prop where
 kp:jX c H H'
 well:jS H' c
 wd:H' L=some (.lst ((KI x0).map V.str))
 ex:∃(ns ls:oB) (ys':List jy),H' b=some (.lst (ns.map V.ref))∧jQ H' ns ls ys'∧(∀y∈ys',y.1.length≤1000)∧ys'.length≤ys.length+e∧(jt ys').length≤(jt ys).length+9*e
 ok:G9 x
theorem BP.draw {H H' H2:Hp}{c L b:Addr}{x0:Str}{ys:List jy}{n:Nat}{x:jJ} (I:BP H c H' L x0 ys n b x) (k:jX c H' H2) (W:jS H2 c):BP H c H2 L x0 ys n b x:=by
 obtain⟨ns,ls,ys',e,N,r⟩:=I.ex
 have nL:L≠c:=fun z=>by
  obtain⟨_,_,_,e2⟩:=I.well
  have:=I.wd
  rw [z,e2] at this
  cases this
 exact⟨I.kp.trans k,W,k _ _ nL I.wd,⟨ns,ls,ys',k _ _ (I.well.nr e) e,N.wr (I.well.tups k) fun l hl zs e=>k _ _ (N.nw I.well l hl) e,r⟩,I.ok⟩
theorem BP.same {H H' H2:Hp}{c L b:Addr}{x0:Str}{ys:List jy}{n:Nat}{x:jJ} (I:BP H c H' L x0 ys n b x) (s:Same H' H2):BP H c H2 L x0 ys n b x:=I.draw (fun b u _ e=>s b u e) (let ⟨_,_,_,e⟩:=I.well;⟨_,_,_,s _ _ e⟩)
section
variable {P:oM}{w:World}{K:oq}{mg:ox}{base:Heap}{t:Adr}
def fX:Sp:=fun vs H Q _=>∃(c a b:Addr) (ps:oB) (xs:List jJ) (ns ls:oB) (ys:List jy),vs=[.ref c,.ref a,.ref b]∧jS H c∧a≠c∧b≠c∧(∀l∈ls,l≠c)∧H a=some (.lst (ps.map V.ref))∧Jh H ps xs∧xs≠[]∧xs.length≤20∧H b=some (.lst (ns.map V.ref))∧jQ H ns ls ys∧ys.length≤800∧(jt ys).length≤900∧(∀x∈xs,G9 x)∧(∀y∈ys,y.1.length≤1000) ∧
 ∀(D D1 D2:Addr) (ps':oB) (xs':List jJ) (ns' ls':oB) (ys':List jy) H',jX c H H'→jS H' c→H' D=some (.tup [.ref D1,.ref D2])→H' D1=some (.lst (ps'.map V.ref))→H' D2=some (.lst (ns'.map V.ref))→D1≠c→D2≠c→(∀l∈ls',l≠c)→Jh H' ps' xs'→jQ H' ns' ls' ys'→(∀x∈xs',G9 x)→(∀y∈ys',y.1.length≤1000)→(xs'.length≤9∨xs'.length=xs.length)→ys'.length≤ys.length+9→(jt ys').length≤(jt ys).length+9→Q (.ref D) H'
theorem kg (T:Txt K mg t):Ju P w K mg base 5 "_law_bad_part" ["_law_well_here","_law_parts_here","_law_nets_here"] fX:=by
 obtain⟨fd,F,b⟩:=T.zH
 have G_law_draw:=vw (P:=P) (w:=w) (base:=base) T
 have G_law_crowd:=mO (P:=P) (w:=w) (base:=base) T
 have G_law_renamed:=kT (P:=P) (w:=w) (base:=base) T
 have G_law_counted:=kO (P:=P) (w:=w) (base:=base) T
 refine⟨_,fd,F.okX jY (fun vs H Q E h=>?_) (fun cdv A outer s H vs Q E hr h=>?_),b,F.kp,T.zv⟩
 ·obtain⟨c,a,b,ps,xs,ns,ls,ys,rfl,_⟩:=h
  rfl
 ·obtain⟨c,a,b,ps,xs,ns,ls,ys,rfl,W,nac,nbc,nl,ha,C,hxn,lx,hb,N,l1,l2,ok,oky,q⟩:=h
  refine⟨_,(jg (jB (i:=3) jY.nd rfl (Or.inl rfl) (jr G_law_draw hr.m jq (by rfl) (ja (pv 0) (ja (jz Jc (by rfl) T.ue u9 (ja (pv 1) je)) je))))
   (jg (Z4 (jK Jf (pv 1) (pv 3) (fun _ _=>rfl)) (u6 rfl (jH (ju (i:=4) jY.nd rfl (Or.inl rfl)) (jH (ju (i:=5) jY.nd rfl (Or.inl rfl)) (jH (ju (i:=6) jY.nd rfl (Or.inl rfl)) uo)))))
   (jg (jB (i:=7) jY.nd rfl (Or.inl rfl) (jr G_law_draw hr.m jq (by rfl) (ja (pv 0) (ja jh je))))
   (jg (jB (i:=8) jY.nd rfl (Or.inl rfl) (jW (ja jM (ja jM (ja jM (ja jM (ja (jK u4 (jK Jf (pv 1) jh (fun _ _=>rfl)) jh (fun _ _=>rfl)) (ja jM (ja jM (ja jM je))))))))))
   (jg (jV (jA vc (pv 7) jh (jG _)) (jm (jN (jr G_law_crowd hr.m jq (by rfl) (ja (pv 0) (ja (pv 1) (ja (pv 2) je)))))) jI)
   (jg (jV (jA vc (pv 7) jh (jG _)) (jg (jB (i:=9) jY.nd rfl (Or.inl rfl) (jK Jf (pv 8) (jr G_law_draw hr.m jq (by rfl) (ja (pv 0) (ja jh je))) (fun _ _=>rfl)))
   (jg (jV (jA Zd (jr G_law_draw hr.m jq (by rfl) (ja (pv 0) (ja jh je))) jh (jG _)) (jm (jB (i:=2) jY.nd rfl (Or.inl rfl) (jr G_law_renamed hr.m jq (by rfl) (ja (pv 2) (ja (pv 4) (ja (pv 9) je)))))) jI)
   (jm (jB (i:=4) jY.nd rfl (Or.inl rfl) (pv 9))))) jI)
   (jg (jV (jA vc (pv 7) jh (jG _)) (jm (jB (i:=5) jY.nd rfl (Or.inl rfl) (jK Jf (pv 8) (jr G_law_draw hr.m jq (by rfl) (ja (pv 0) (ja jh je))) (fun _ _=>rfl)))) jI)
   (jg (jV (jA vc (pv 7) jh (jG _)) (jg (jB (i:=6) jY.nd rfl (Or.inl rfl) (jK Jf (jW (ja jh (ja jh (ja UY (ja (jz (Nt rfl) (by rfl) T.gw io (ja jh (ja (jP c8 (pv 6) jh) je))) (ja jh (ja (cz aM jh) je))))))) (jr G_law_draw hr.m jq (by rfl) (ja (pv 0) (ja jh je))) (fun _ _=>rfl)))
   (jm (jV (jA Zd (jr G_law_draw hr.m jq (by rfl) (ja (pv 0) (ja jh je))) jh (jG _)) (jm (jB (i:=2) jY.nd rfl (Or.inl rfl) (jr G_law_counted hr.m jq (by rfl) (ja (pv 2) (ja (pv 4) (ja (Jy Np (by rfl) T.Za b9 (ja (pv 6) je)) je)))))) jI))) jI)
   (jm (jN (j8 (ja (jP vk (jP vk (v0 VI (pv 1) VF (VG (pv 3))) (jW (ja (j8 (ja (pv 4) (ja (pv 5) (ja (pv 6) je)))) je))) (v0 VI (pv 1) (VG (jP Uv (pv 3) jh)) VF)) (ja (pv 2) je))))))))))))),?_⟩
  have lns:(ps.map V.ref).length=xs.length:=by rw [List.length_map];exact C.1
  have pos:0<xs.length:=List.length_pos_iff.mpr hxn
  refine U9 (fun (r:Int)=>[oR c,oR a,oR b,some (.int r),none,none,none,none,none,none]) (fun r H'=>0≤r∧r<xs.length∧jX c H H'∧jS H' c) (fun B hB=>⟨_,rfl,_,rfl,a,_,rfl,.inl (jl.of ha),c,_,rfl,W,by rw [lns];omega,by rw [lns];omega,fun r H' h0 h1 W' k'=>hB r _ ⟨h0,by rw [lns] at h1;exact h1,k',W'⟩⟩) ?_
  rintro r H1 ⟨r0,r1,k1,W1⟩
  obtain⟨j,hj,rfl⟩:=vj (n:=xs.length) r0 r1
  have hj2:j<ps.length:=by rw [C.1];exact hj
  have C1:Jh H1 ps xs:=C.mono (W.tups k1)
  have hx:=List.getElem_mem hj
  have okx:=ok _ hx
  have ep:=C1.2 j _ _ (List.getElem?_eq_getElem hj2) (List.getElem?_eq_getElem hj)
  generalize xs[j]=x at hx okx ep
  refine VS [oR c,oR a,oR b,some (.int j),some (.str x.name),some (.str x.kind),some x.many,none,none,none] (fun H'=>H'=H1) (fun B hB=>⟨_,rfl,_,rfl,a,_,j,.ref ps[j],rfl,rfl,jl.of (k1 _ _ nac ha),JN (by rw [List.getElem?_map,List.getElem?_eq_getElem hj2];rfl),_,_,rfl,Ji.of ep,rfl,_,_,rfl,_,_,rfl,_,_,rfl,rfl,hB _ rfl⟩) ?_
  rintro H1' rfl
  refine U9 (fun (wy:Int)=>[oR c,oR a,oR b,some (.int j),some (.str x.name),some (.str x.kind),some x.many,some (.int wy),none,none]) (fun wy H'=>jX c H H'∧jS H' c) (fun B hB=>⟨_,rfl,c,4,rfl,W1,by decide,by decide,fun wy H' h0 h1 W' k'=>hB wy _ ⟨k1.trans k',W'⟩⟩) ?_
  rintro wy H2 ⟨k2,W2⟩
  have p0:0<ps.length:=by rw [C.1];exact pos
  have ok0:=ok _ (List.getElem_mem pos)
  have ep0:=W.tups k2 _ _ (C.2 0 _ _ (List.getElem?_eq_getElem p0) (List.getElem?_eq_getElem pos))
  have ok1:=ok0.1
  have ok4:=ok0.2.2.2.1
  generalize xs[0].name=x0 at ok1 ok4 ep0
  refine U9 (fun (L:Addr)=>[oR c,oR a,oR b,some (.int j),some (.str x.name),some (.str x.kind),some x.many,some (.int wy),oR L,none]) (fun L H'=>BP H c H' L x0 ys 0 b x) (fun B hB=>⟨_,rfl,a,_,0,.ref ps[0],rfl,rfl,jl.of (k2 _ _ nac ha),JN (j:=0) (by rw [List.getElem?_map,List.getElem?_eq_getElem p0];rfl),ps[0],_,0,.str x0,rfl,rfl,Ji.of ep0,rfl,(by show 8≤sizeLine;decide),fun L hL=>hB L _ ⟨k2.new hL,W2.new hL,jd,⟨ns,ls,ys,(k2.new hL) _ _ nbc hb,N.wr (W.tups (k2.new hL)) fun l hl zs e=>(k2.new hL) _ _ (nl l hl) e,oky,by omega,by omega⟩,okx⟩⟩) ?_
  intro L H3 I3
  refine VS [oR c,oR a,oR b,some (.int j),some (.str x.name),some (.str x.kind),some x.many,some (.int wy),oR L,none] (fun H'=>H'=H3) (fun B hB=>⟨_,rfl,rfl,_,rfl,uk (fun _=>⟨_,rfl,_,rfl,_,rfl,c,a,b,ps,xs,ns,ls,ys,rfl,I3.well,nac,nbc,nl,I3.kp _ _ nac ha,C.mono (W.tups I3.kp),lx,I3.kp _ _ nbc hb,N.wr (W.tups I3.kp) (fun l hl zs e=>I3.kp _ _ (nl l hl) e),l1,ok,oky,fun D D1 D2 ps' xs' ns' ls' ys' H' k' W'=>q D D1 D2 ps' xs' ns' ls' ys' H' (I3.kp.trans k') W'⟩) fun _=>hB _ rfl⟩) ?_
  rintro _ rfl
  refine Jb (fun σ H'=>∃(b':Addr) (z9:Option V) (x':jJ),σ=[oR c,oR a,oR b',some (.int j),some (.str x'.name),some (.str x'.kind),some x'.many,some (.int wy),oR L,z9]∧BP H c H' L x0 ys 0 b' x') (fun B hB=>⟨_,rfl,rfl,_,rfl,uk (fun _=>?_) fun _=>hB _ _ ⟨b,_,x,rfl,I3⟩⟩) ?_
  ·refine U9 (fun (o:Str)=>[oR c,oR a,oR b,some (.int j),some (.str x.name),some (.str x.kind),some x.many,some (.int wy),oR L,some (.str o)]) (fun o H'=>BP H c H' L x0 ys 0 b x∧o.length≤1000∧o≠"w") (fun B hB=>⟨_,rfl,_,rfl,c,8,rfl,I3.well,by decide,by decide,fun r4 H4 h0 h8 W4 k4=>?_⟩) ?_
   ·obtain⟨m,hm,rfl⟩:=vj (n:=8) h0 h8
    have I4:=I3.draw k4 W4
    exact⟨L,_,m,.str ((KI x0).getD m ""),rfl,rfl,jl.of I4.wd,JN (aN x0 m hm),hB _ _ ⟨I4,aO ok1 ok4 m hm⟩⟩
   rintro o H4 ⟨I4,o1,o2⟩
   refine Jb (fun σ H'=>∃(b':Addr),σ=[oR c,oR a,oR b',some (.int j),some (.str x.name),some (.str x.kind),some x.many,some (.int wy),oR L,some (.str o)]∧BP H c H' L x0 ys 0 b' x) (fun B hB=>⟨_,rfl,c,4,rfl,I4.well,by decide,by decide,fun r5 H5 h0 h4 W5 k5=>?_⟩) ?_
   ·have I5:=I4.draw k5 W5
    refine⟨_,_,rfl,rfl,_,rfl,ZS (fun _=>?_) fun _=>hB _ _ ⟨b,rfl,I5⟩⟩
    obtain⟨ns',ls',ys',e,N',ok',m1,m2⟩:=I5.ex
    refine⟨_,rfl,_,rfl,_,rfl,b,x.name,o,ns',ls',ys',rfl,e,N',by omega,by omega,fun D ns6 ls6 ys6 H6 s6 e6 N6 nm6 tl6=>?_⟩
    have I6:=I5.same s6
    have ln6:=congrArg List.length nm6
    rw [List.length_map,List.length_map] at ln6
    refine hB _ _ ⟨D,rfl,I6.kp,I6.well,I6.wd,⟨ns6,ls6,ys6,e6,N6,fun y hy=>?_,by omega,by omega⟩,I6.ok⟩
    have:y.1∈ys'.map (·.1):=by rw [←nm6];exact List.mem_map.mpr ⟨y,hy,rfl⟩
    obtain⟨y2,h2,e2⟩:=List.mem_map.mp this
    rw [←e2];exact ok' y2 h2
   rintro _ H5 ⟨b',rfl,I5⟩
   exact⟨_,rfl,hB _ _ ⟨b',_,⟨o,x.kind,x.many⟩,rfl,I5.kp,I5.well,I5.wd,I5.ex,o1,I5.ok.2.1,I5.ok.2.2.1,o2,I5.ok.2.2.2.2⟩⟩
  clear I3 okx hx ep
  rintro _ H4 ⟨b',z9,x',rfl,I4⟩
  refine Jb (fun σ H'=>∃(x':jJ),σ=[oR c,oR a,oR b',some (.int j),some (.str x'.name),some (.str x'.kind),some x'.many,some (.int wy),oR L,z9]∧BP H c H' L x0 ys 0 b' x') (fun B hB=>⟨_,rfl,rfl,_,rfl,uk (fun _=>⟨_,rfl,_,rfl,c,8,rfl,I4.well,by decide,by decide,fun r5 H5 h0 h8 W5 k5=>?_⟩) fun _=>hB _ _ ⟨x',rfl,I4⟩⟩) ?_
  ·obtain⟨m,hm,rfl⟩:=vj (n:=8) h0 h8
   have I5:=I4.draw k5 W5
   exact⟨L,_,m,.str ((KI x0).getD m ""),rfl,rfl,jl.of I5.wd,JN (aN x0 m hm),hB _ _ ⟨⟨x'.name,(KI x0).getD m "",x'.many⟩,rfl,I5.kp,I5.well,I5.wd,I5.ex,I5.ok.1,(aO ok1 ok4 m hm).1,I5.ok.2.2⟩⟩
  clear I4 x'
  rintro _ H5 ⟨x',rfl,I5⟩
  refine Jb (fun σ H'=>∃(b':Addr) (x':jJ),σ=[oR c,oR a,oR b',some (.int j),some (.str x'.name),some (.str x'.kind),some x'.many,some (.int wy),oR L,z9]∧BP H c H' L x0 ys 1 b' x') (fun B hB=>⟨_,rfl,rfl,_,rfl,uk (fun _=>?_) fun _=>hB _ _ ⟨b',x',rfl,I5.kp,I5.well,I5.wd,let ⟨ns,ls,ys',h1,h2,h3,h4,h5⟩:=I5.ex;⟨ns,ls,ys',h1,h2,h3,by omega,by omega⟩,I5.ok⟩⟩) ?_
  ·obtain⟨i0,hi0,cp⟩:=I5.ok.2.2.2.2
   refine Jb (fun σ H'=>∃(v:V) (i:Int),σ=[oR c,oR a,oR b',some (.int j),some (.str x'.name),some (.str x'.kind),some v,some (.int wy),oR L,z9]∧BP H c H' L x0 ys 0 b' ⟨x'.name,x'.kind,v⟩∧nR v=some i∧-1≤i∧i≤9) (fun B hB=>⟨_,rfl,i0,1,hi0,rfl,9,i0+1,rfl,1,rfl,(by show 6≤sizeLine;decide),fun L2 hL2=>?_⟩) ?_
   ·have s6:=jf (o:=.lst (MT (if i0+1<9 then i0+1 else 9))) (Same.refl H5) hL2
    have e6:upd H5 L2 (.lst (MT (if i0+1<9 then i0+1 else 9))) L2=some (.lst (MT (if i0+1<9 then i0+1 else 9))):=jd
    have n6:L2≠c:=Ne.symm (I5.well.ne hL2)
    generalize hm:(if i0+1<9 then i0+1 else 9)=m at s6 e6
    have m1:-1≤m∧m≤9:=by split at hm<;>omega
    have I6:=I5.same s6
    show Nc aD [] E _ _ (upd H5 L2 (.lst (MT m))) _
    generalize upd H5 L2 (.lst (MT m))=H6 at s6 e6 I6
    refine⟨_,rfl,c,6,rfl,I6.well,by decide,by decide,fun r7 H7 h0 h6 W7 k7=>?_⟩
    obtain⟨m7,hm7,rfl⟩:=vj (n:=6) h0 h6
    have I7:=I6.draw k7 W7
    obtain⟨v,i,g1,g2,g3,g4,g5⟩:=fE m1.1 m1.2 m7 hm7
    exact⟨L2,_,m7,v,rfl,rfl,jl.of (k7 _ _ n6 e6),JN g1,hB _ _ ⟨v,i,rfl,⟨I7.kp,I7.well,I7.wd,I7.ex,I7.ok.1,I7.ok.2.1,g2,I7.ok.2.2.2.1,i,g3,g4⟩,g3,g4,g5⟩⟩
   rintro _ H6 ⟨v,i,rfl,I6,g3,g4,g5⟩
   refine⟨_,rfl,c,4,rfl,I6.well,by decide,by decide,fun r7 H7 h0 h4 W7 k7=>?_⟩
   have I7:=I6.draw k7 W7
   obtain⟨ns',ls',ys',e,N',ok',t1,t2⟩:=I7.ex
   refine⟨_,_,rfl,rfl,_,rfl,ZS (fun _=>?_) fun _=>hB _ _ ⟨b',⟨x'.name,x'.kind,v⟩,rfl,I7.kp,I7.well,I7.wd,⟨ns',ls',ys',e,N',ok',by omega,by omega⟩,I7.ok⟩⟩
   have cnt:M3 [.ref b',.str x'.name,.int i] H7 (fun v8 H8=>B { nx:=fun x H'=>Q V.non H',rt:=Q } [oR c,oR a,some v8,some (.int j),some (.str x'.name),some (.str x'.kind),some v,some (.int wy),oR L,z9] H8) (fun _ _ _=>False):=by
    refine⟨b',x'.name,i,ns',ls',ys',rfl,by omega,g5,e,N',by omega,by omega,ok',fun D ns8 ls8 ys8 H8 s8 hD e8 N8 nl8 ok8 ln8 tl8=>?_⟩
    have I8:=I7.same s8
    exact hB _ _ ⟨D,⟨x'.name,x'.kind,v⟩,rfl,I8.kp,I8.well,I8.wd,⟨ns8,ls8,ys8,e8,N8,ok8,by omega,by omega⟩,I8.ok⟩
   cases v with
   | int k=>cases g3;exact⟨_,rfl,_,rfl,_,rfl,.inl ⟨_,rfl,cnt⟩⟩
   | bl k=>cases g3;exact⟨_,rfl,_,rfl,_,rfl,.inr ⟨_,rfl,cnt⟩⟩
   | _=>cases g3
  clear I5 x' b'
  rintro _ H3 ⟨b',x',rfl,I3⟩
  have k3:=I3.kp
  have W3:=I3.well
  have em1:vZ (ps.map V.ref) none (some (j:Int))=(ps.take j).map V.ref:=by rw [eB,List.map_take]
  have em2:vZ (ps.map V.ref) (some ((j:Int)+1)) none=(ps.drop (j+1)).map V.ref:=by rw [show ((j:Int)+1)=((j+1:Nat):Int) from rfl,aX,List.map_drop]
  have lt1:(ps.take j).length≤20:=by rw [List.length_take];omega
  have lt2:(ps.drop (j+1)).length≤20:=by rw [List.length_drop,C.1];omega
  refine⟨_,rfl,_,rfl,_,rfl,a,_,rfl,jl.of (k3 _ _ nac ha),fun A1 hA1=>?_⟩
  rw [em1] at *
  have e4:upd H3 A1 (.lst ((ps.take j).map V.ref)) A1=some (.lst ((ps.take j).map V.ref)):=jd
  have k4:=k3.new (o:=.lst ((ps.take j).map V.ref)) hA1
  have s4:=jf (o:=.lst ((ps.take j).map V.ref)) (Same.refl H3) hA1
  generalize upd H3 A1 (.lst ((ps.take j).map V.ref))=H4 at e4 k4 s4
  refine⟨_,rfl,_,rfl,_,rfl,Ma,fun u hu=>?_⟩
  have e5:upd H4 u (.tup [.str x'.name,.str x'.kind,x'.many]) u=some (.tup [.str x'.name,.str x'.kind,x'.many]):=jd
  have k5:=k4.new (o:=.tup [.str x'.name,.str x'.kind,x'.many]) hu
  have s5:=jf (o:=.tup [.str x'.name,.str x'.kind,x'.many]) (Same.refl H4) hu
  generalize upd H4 u (.tup [.str x'.name,.str x'.kind,x'.many])=H5 at e5 k5 s5
  refine⟨Vu,fun A5 hA5=>?_⟩
  have e6:upd H5 A5 (.lst [.ref u]) A5=some (.lst [.ref u]):=jd
  have k6:=k5.new (o:=.lst [.ref u]) hA5
  have s6:=jf (o:=.lst [.ref u]) (Same.refl H5) hA5
  generalize upd H5 A5 (.lst [.ref u])=H6 at e6 k6 s6
  refine⟨A1,A5,_,_,rfl,rfl,s6 _ _ (s5 _ _ e4),e6,by rw [List.length_map];exact Nat.le_trans (show _+1≤1000 by omega) (by decide),fun A2 hA2=>?_⟩
  have e7:upd H6 A2 (.lst ((ps.take j).map V.ref++[.ref u])) A2=some (.lst ((ps.take j).map V.ref++[.ref u])):=jd
  have k7:=k6.new (o:=.lst ((ps.take j).map V.ref++[.ref u])) hA2
  have s7:=jf (o:=.lst ((ps.take j).map V.ref++[.ref u])) (Same.refl H6) hA2
  generalize upd H6 A2 (.lst ((ps.take j).map V.ref++[.ref u]))=H7 at e7 k7 s7
  refine⟨_,rfl,_,rfl,_,1,rfl,rfl,_,rfl,a,_,rfl,jl.of (k7 _ _ nac ha),fun A3 hA3=>?_⟩
  rw [em2] at *
  have e8:upd H7 A3 (.lst ((ps.drop (j+1)).map V.ref)) A3=some (.lst ((ps.drop (j+1)).map V.ref)):=jd
  have k8:=k7.new (o:=.lst ((ps.drop (j+1)).map V.ref)) hA3
  have s8:=jf (o:=.lst ((ps.drop (j+1)).map V.ref)) (Same.refl H7) hA3
  generalize upd H7 A3 (.lst ((ps.drop (j+1)).map V.ref))=H8 at e8 k8 s8
  refine⟨A2,A3,_,_,rfl,rfl,s8 _ _ e7,e8,by rw [List.length_append,List.length_map,List.length_map];exact Nat.le_trans (show _+1+_≤1000 by omega) (by decide),fun A4 hA4=>?_⟩
  have e9:upd H8 A4 (.lst ((ps.take j).map V.ref++[.ref u]++(ps.drop (j+1)).map V.ref)) A4=some (.lst ((ps.take j++[u]++ps.drop (j+1)).map V.ref)):=by rw [jd,List.map_append,List.map_append];rfl
  have k9:=k8.new (o:=.lst ((ps.take j).map V.ref++[.ref u]++(ps.drop (j+1)).map V.ref)) hA4
  have s9:=jf (o:=.lst ((ps.take j).map V.ref++[.ref u]++(ps.drop (j+1)).map V.ref)) (Same.refl H8) hA4
  generalize upd H8 A4 (.lst ((ps.take j).map V.ref++[.ref u]++(ps.drop (j+1)).map V.ref))=H9 at e9 k9 s9
  refine⟨_,rfl,UX,fun D hD=>?_⟩
  have s10:=jf (o:=.tup [.ref A4,.ref b']) (Same.refl H9) hD
  have s39:Same H3 H9:=Same.trans s4 (Same.trans s5 (Same.trans s6 (Same.trans s7 (Same.trans s8 s9))))
  have s3:=Same.trans s39 s10
  have I9:=I3.same s3
  have e10:upd H9 D (.tup [.ref A4,.ref b']) D=some (.tup [.ref A4,.ref b']):=jd
  generalize upd H9 D (.tup [.ref A4,.ref b'])=H10 at s10 s3 I9 e10
  obtain⟨ns',ls',ys',e,N',ok',t1,t2⟩:=I9.ex
  have CC:Jh H10 ps xs:=C.mono (W.tups I9.kp)
  have u10:H10 u=some (.tup [.str x'.name,.str x'.kind,x'.many]):=s10 _ _ (s9 _ _ (s8 _ _ (s7 _ _ (s6 _ _ e5))))
  have P10:=((CC.take j).snoc (x:=x') u10).app (CC.drop (j+1))
  refine q D A4 b' (ps.take j++[u]++ps.drop (j+1)) (xs.take j++[x']++xs.drop (j+1)) ns' ls' ys' H10 I9.kp I9.well e10 (s10 _ _ e9) e (I9.well.nr (s10 _ _ e9)) (I9.well.nr e) (N'.nw I9.well) P10 N' (fun y hy=>?_) ok' (.inr ?_) (by omega) (by omega)
  ·rcases List.mem_append.mp hy with w|w
   ·rcases List.mem_append.mp w with w|w
    ·exact ok y (List.mem_of_mem_take w)
    ·rw [List.mem_singleton.mp w];exact I9.ok
   ·exact ok y (List.mem_of_mem_drop w)
  ·rw [List.length_append,List.length_append,List.length_take,List.length_drop]
   show min j xs.length+1+(xs.length - (j+1))=xs.length
   omega
end
end K41
namespace K41
open PySem L2 Wd TS STb
def K1 (st:Stmt):Arguments×Expr×Scope×Pos:=match jF st with
 | [_,_,.Return (some (.Call _ _ [⟨_,.Lambda a b sc p,_⟩] _)) _]=>(a,b,sc,p)
 | _=>({ posonlyargs:=[],args:=[],vararg:=none,kwonlyargs:=[],kw_defaults:=[],kwarg:=none,defaults:=[] },.Name "" ⟨0,0,0,0⟩,{ kind:=.function,names:=[],isGenerator:=false,isCoroutine:=false },⟨0,0,0,0⟩)
abbrev qL:Str:="_law_nets"++".<locals>."++"<lambda>"
def Gp (t:Adr) (H:Hp):Prop:=Kh H t.jZ (K1 ul).2.2.2 qL
section
variable {P:oM}{w:World}{K:oq}{mg:ox}{base:Heap}{t:Adr}
def cF (f c:Addr):Sp:=fun vs H Q _=>∃(b l p:Addr) (x:Str) (us:List V),vs=[.ref b]∧H f=some (Gm f qL (K1 ul).1 (K1 ul).2.1 (K1 ul).2.2.1 [] c)∧H c=some (zY c qL)∧H b=some (.tup [.str x,.ref l])∧H l=some (.lst (.ref p::us))∧Q (.ref p) H
theorem cP (T:Txt K mg t) (f c:Addr):Calls P w K mg base 2 f (cF f c):=by
 intro A outer s H us vs Q hr e0 r h
 obtain⟨b,l,p,x,us,rfl,hf,hc,hb,hl,q⟩:=h
 refine bi (k:=1) (NW (ps:=["_law_one"]) rfl rfl rfl (by decide +kernel) (by decide +kernel) rfl) (fun pm ct us hl=>match us,hl with|[_],_=>rfl) hr e0 r rfl hf hc .nil fun hr2=>?_
 refine⟨_,(jK (mw (K:=K) rfl) (jK (vt (K:=K) rfl) (pv 0) jh (fun _ _=>rfl)) jh (fun _ _=>rfl)),?_⟩
 have e1:zp H []=H:=funext fun b=>by simp [zp]
 have e2:kW H H []=H:=funext fun b=>by simp [kW]
 rw [e1]
 refine⟨_,rfl,b,_,1,.ref l,rfl,rfl,Ji.of hb,rfl,l,_,0,.ref p,rfl,rfl,jl.of hl,JN (j:=0) rfl,fun z=>?_⟩
 rw [e2]
 exact q
def Kt (c:Addr) (H H':Hp):Prop:=(∀b u,b≠c→(∀ps,u≠.tbl ps)→H b=some u→H' b=some u)∧∀b ps,H b=some (.tbl ps)→∃ps',H' b=some (.tbl ps')
theorem Kt.none {c:Addr}{H H':Hp} (k:Kt c H H') (W:jS H c) (W':jS H' c) {b:Addr} (h:H' b=Option.none):H b=Option.none:=by
 cases e:H b with
 | none=>rfl
 | some u =>
  by_cases hb:b=c
  ·obtain⟨_,_,_,e2⟩:=W'
   rw [hb,e2] at h;cases h
  ·by_cases hu:∃ps,u=.tbl ps
   ·obtain⟨ps,rfl⟩:=hu
    obtain⟨ps',e2⟩:=k.2 b ps e
    rw [e2] at h;cases h
   ·rw [k.1 b u hb (fun ps z=>hu ⟨ps,z⟩) e] at h;cases h
theorem jX.none {c:Addr}{H H':Hp} (k:jX c H H') (W':jS H' c) {b:Addr} (h:H' b=Option.none):H b=Option.none:=by
 cases e:H b with
 | none=>rfl
 | some u =>
  by_cases hb:b=c
  ·obtain⟨_,_,_,e2⟩:=W'
   rw [hb,e2] at h;cases h
  ·rw [k b u hb e] at h;cases h
theorem Gp.keep {t:Adr}{H H':Hp}{R:Addr}{xs:List V} (x:Gp t H) (eR:H R=some (.lst xs)) (k:jX R H H'):Gp t H':=by
 obtain⟨ps,e,tr,kk⟩:=x
 refine⟨ps,k _ _ (Jw e eR (fun z=>nomatch z)) e,tr,?_⟩
 rcases kk with z|⟨c,z,hc⟩
 ·exact .inl z
 ·exact .inr ⟨c,z,k _ _ (Jw hc eR (fun z=>nomatch z)) hc⟩
def nn (j:Nat):Str:=("n":Str)++Str.ofString (toString (j:Int))
theorem cy:∀j<7,Jd (nn j)=true∧(nn j).length≤1000:=by decide +kernel
def dk (ls:oB) (ys:List jy):List (Key×V):=((ys.map (·.1)).zip ls).map fun z=>(Sum.inr z.1,V.ref z.2)
structure NI (H:Hp) (c d:Addr) (H':Hp) (ls:oB) (ys:List jy) (pn:List j4) (sk:Option Nat):Prop where
 kp:jX c H H'
 well:jS H' c
 hd:H' d=some (.dK (dk ls ys))
 len:ls.length=ys.length
 lists:∀(i:Nat) (l:Addr) (y:jy),ls[i]?=some l→ys[i]?=some y→∃us,H' l=some (.lst (us.map V.ref))∧jD H' us y.2
 new:∀l∈ls,H l=none∧l≠c
 nd:ls.Nodup
 names:∀y∈ys,∃j<7,y.1=nn j
 un:(ys.map (·.1)).Nodup
 pm:(jt ys).Perm pn
 ne:∀(i:Nat) (y:jy),ys[i]?=some y→some i≠sk→y.2≠[]
theorem ag {α:Type} [DecidableEq α]:∀{a b:List α},a.Nodup→(∀x∈a,x∈b)→a.length≤b.length
 | [],_,_,_=>Nat.zero_le _
 | x::a,b,nd,h=>by
  obtain⟨h1,h2⟩:=List.nodup_cons.mp nd
  have hb:=h x (List.mem_cons_self ..)
  have:=ag (b:=b.erase x) h2 fun y hy=>(List.mem_erase_of_ne (fun z=>h1 (by rw [←z];exact hy))).mpr (h y (List.mem_cons_of_mem _ hy))
  rw [List.length_erase_of_mem hb] at this
  have:=List.length_pos_of_mem hb
  rw [List.length_cons];omega
theorem NI.few {H H':Hp}{c d:Addr}{ls:oB}{ys:List jy}{pn:List j4}{sk:Option Nat} (I:NI H c d H' ls ys pn sk):ys.length≤7:=by
 have:=ag (b:=(List.range 7).map nn) I.un fun x hx=>by
  obtain⟨y,hy,rfl⟩:=List.mem_map.mp hx
  obtain⟨j,hj,e⟩:=I.names y hy
  exact List.mem_map.mpr ⟨j,List.mem_range.mpr hj,e.symm⟩
 rw [List.length_map,List.length_map,List.length_range] at this
 exact this
theorem NI.draw {H H' H2:Hp}{c d:Addr}{ls:oB}{ys:List jy}{pn:List j4}{sk:Option Nat} (I:NI H c d H' ls ys pn sk) (k:jX c H' H2) (W:jS H2 c):NI H c d H2 ls ys pn sk:=by
 obtain⟨_,_,_,ec⟩:=id I.well
 refine⟨I.kp.trans k,W,k _ _ (Jw I.hd ec (fun z=>nomatch z)) I.hd,I.len,fun i l y h1 h2=>?_,I.new,I.nd,I.names,I.un,I.pm,I.ne⟩
 obtain⟨us,e,p⟩:=I.lists i l y h1 h2
 exact⟨us,k _ _ (I.new l (List.mem_of_getElem? h1)).2 e,p.mono (I.well.tups k)⟩
theorem NI.same {H H' H2:Hp}{c d:Addr}{ls:oB}{ys:List jy}{pn:List j4}{sk:Option Nat} (I:NI H c d H' ls ys pn sk) (s:Same H' H2):NI H c d H2 ls ys pn sk:=I.draw (fun b u _ e=>s b u e) (let ⟨_,_,_,e⟩:=I.well;⟨_,_,_,s _ _ e⟩)
theorem NA {ls:oB}{ys:List jy} (hl:ls.length=ys.length) (z:Str):(∃(i:Nat) (l:Addr) (y:jy),ls[i]?=some l∧ys[i]?=some y∧y.1=z∧JH (dk ls ys) (Sum.inr z)=some (.ref l))∨((∀y∈ys,y.1≠z)∧JH (dk ls ys) (Sum.inr z)=none):=by
 induction ys generalizing ls with
 | nil=>exact .inr ⟨(fun y h=>nomatch h),rfl⟩
 | cons y ys ih =>
  match ls,hl with
  | l::ls,hl =>
   by_cases h:y.1=z
   ·exact .inl ⟨0,l,y,rfl,rfl,h,zt (p:=(Sum.inr y.1,V.ref l)) (by rw [h])⟩
   ·have hk:¬(Sum.inr y.1:Key)=Sum.inr z:=fun e=>h (Sum.inr.inj e)
    have e:JH (dk (l::ls) (y::ys)) (Sum.inr z)=JH (dk ls ys) (Sum.inr z):=zr (p:=(Sum.inr y.1,V.ref l)) hk
    rcases ih (ls:=ls) (by simpa using hl) with ⟨i,l',y',h1,h2,h3,h4⟩|⟨h1,h2⟩
    ·exact .inl ⟨i+1,l',y',h1,h2,h3,e.trans h4⟩
    ·exact .inr ⟨fun y' hy=>by
      rcases List.mem_cons.mp hy with rfl|hy
      ·exact h
      ·exact h1 y' hy,e.trans h2⟩
theorem bN {ys:List jy}{i:Nat}{y:jy} (h:ys[i]?=some y) {x:j4} {zs:List j4} (p:zs.Perm (x::y.2)):(jt (ys.set i (y.1,zs))).Perm (jt ys++[x]):=by
 have hi:=(List.getElem?_eq_some_iff.mp h).1
 rw [List.set_eq_take_append_cons_drop,if_pos hi,JG h]
 unfold jt
 rw [List.flatMap_append,List.flatMap_cons]
 have h1:(zs++(ys.drop (i+1)).flatMap (·.2)).Perm ((y.2++(ys.drop (i+1)).flatMap (·.2))++[x]):=(p.append_right _).trans (by rw [List.cons_append];exact (List.perm_append_singleton _ _).symm)
 rw [List.append_assoc]
 exact h1.append_left _
theorem NI.push {H H':Hp}{c d:Addr}{ls:oB}{ys:List jy}{pn:List j4} (I:NI H c d H' ls ys pn none) (hd:H d=none) {g:Addr} (hg:H' g=some (.lst [])) (gn:H g=none) (gc:g≠c) (gl:g ∉ ls) {j:Nat} (hj:j<7) (un:∀y∈ys,y.1≠nn j) :
  NI H c d (upd H' d (.dK (dk ls ys++[(Sum.inr (nn j),.ref g)]))) (ls++[g]) (ys++[(nn j,[])]) pn (some ys.length):=by
 obtain⟨_,_,_,ec⟩:=id I.well
 have dc:c≠d:=fun z=>by rw [z,I.hd] at ec;cases ec
 have up:∀b xs,H' b=some (.lst xs)→upd H' d (.dK (dk ls ys++[(Sum.inr (nn j),.ref g)])) b=some (.lst xs):=fun b xs e=>by rw [jj (Jw e I.hd (fun z=>nomatch z))];exact e
 have ut:∀b xs,H' b=some (.tup xs)→upd H' d (.dK (dk ls ys++[(Sum.inr (nn j),.ref g)])) b=some (.tup xs):=fun b xs e=>by rw [jj (Jw e I.hd (fun z=>nomatch z))];exact e
 refine⟨fun b u n e=>by rw [jj (jp e hd)];exact I.kp b u n e,⟨_,_,_,up _ _ ec⟩,?_,by simp [I.len],fun i l y h1 h2=>?_,fun l hl=>?_,?_,fun y hy=>?_,?_,?_,fun i y h1 h2=>?_⟩
 ·rw [jd]
  unfold dk
  rw [List.map_append,List.zip_append (by rw [List.length_map,I.len]),List.map_append]
  rfl
 ·by_cases hi:i<ls.length
  ·rw [List.getElem?_append_left hi] at h1
   rw [List.getElem?_append_left (by rw [←I.len];exact hi)] at h2
   obtain⟨us,e,p⟩:=I.lists i l y h1 h2
   exact⟨us,up _ _ e,p.mono ut⟩
  ·rw [List.getElem?_append_right (by omega)] at h1
   rw [List.getElem?_append_right (by rw [←I.len];omega)] at h2
   have z:i - ls.length=0:=by have:=(List.getElem?_eq_some_iff.mp h1).1;simp at this;omega
   rw [←I.len,z] at h2
   rw [z] at h1
   cases h1;cases h2
   exact⟨[],up _ _ hg,uS⟩
 ·rcases List.mem_append.mp hl with w|w
  ·exact I.new l w
  ·rw [List.mem_singleton.mp w];exact⟨gn,gc⟩
 ·rw [List.nodup_append]
  refine⟨I.nd,by simp,fun x hx y hy z=>?_⟩
  rw [List.mem_singleton.mp hy] at z
  exact gl (z▸hx)
 ·rcases List.mem_append.mp hy with w|w
  ·exact I.names y w
  ·rw [List.mem_singleton.mp w];exact⟨j,hj,rfl⟩
 ·rw [List.map_append,List.nodup_append]
  refine⟨I.un,by simp,fun x hx y hy z=>?_⟩
  have hy:y=nn j:=by simpa using hy
  obtain⟨y2,h3,rfl⟩:=List.mem_map.mp hx
  exact un y2 h3 (z.trans hy)
 ·have:jt (ys++[(nn j,[])])=jt ys:=by unfold jt;rw [List.flatMap_append];simp
  rw [this];exact I.pm
 ·by_cases hi:i<ys.length
  ·rw [List.getElem?_append_left hi] at h1
   exact I.ne i y h1 (fun z=>nomatch z)
  ·have:i<(ys++[(nn j,([]:List j4))]).length:=(List.getElem?_eq_some_iff.mp h1).1
   rw [List.length_append] at this
   exact absurd (show some i=some ys.length by rw [show i=ys.length by simp at this;omega]) h2
theorem ZX {ys:List jy}{i:Nat}{y:jy} (h:ys[i]?=some y) (zs:List j4):(ys.set i (y.1,zs)).map (·.1)=ys.map (·.1):=by
 rw [List.map_set]
 refine List.ext_getElem? fun m=>?_
 rw [List.getElem?_set]
 by_cases e:i=m
 ·subst e
  have hi:=(List.getElem?_eq_some_iff.mp h).1
  rw [if_pos rfl,if_pos (by rw [List.length_map];exact hi),List.getElem?_map,h]
  rfl
 ·rw [if_neg e]
theorem jD.take {H:Hp}{us:oB}{zs:List j4} (C:jD H us zs) (n:Nat):jD H (us.take n) (zs.take n):=by
 have h:=C.len
 refine⟨by simp [h],fun i p k h1 h2=>?_⟩
 have hi:i<n:=by have:=(List.getElem?_eq_some_iff.mp h1).1;rw [List.length_take] at this;omega
 rw [List.getElem?_take_of_lt hi] at h1
 rw [List.map_take,List.getElem?_take_of_lt hi] at h2
 exact C.2 _ p k h1 h2
theorem jD.drop {H:Hp}{us:oB}{zs:List j4} (C:jD H us zs) (n:Nat):jD H (us.drop n) (zs.drop n):=by
 have h:=C.len
 refine⟨by simp [h],fun i p k h1 h2=>?_⟩
 rw [List.getElem?_drop] at h1
 rw [List.map_drop,List.getElem?_drop] at h2
 exact C.2 _ p k h1 h2
theorem NI.ins {H H':Hp}{c d:Addr}{ls:oB}{ys:List jy}{pn:List j4}{i:Nat} (I:NI H c d H' ls ys pn (some i)) {l u:Addr} {y:jy} (h1:ls[i]?=some l) (h2:ys[i]?=some y) {us:oB} (el:H' l=some (.lst (us.map V.ref))) (C:jD H' us y.2) {z:j4} (eu:H' u=some (.tup [.str z.1,.int z.2])) (k:Nat) :
  NI H c d (upd H' l (.lst ((us.take k++[u]++us.drop k).map V.ref))) ls (ys.set i (y.1,y.2.take k++[z]++y.2.drop k)) (pn++[z]) none:=by
 obtain⟨_,_,_,ec⟩:=id I.well
 obtain⟨ln,lc⟩:=I.new l (List.mem_of_getElem? h1)
 have hi:=(List.getElem?_eq_some_iff.mp h2).1
 have ut:∀b xs,H' b=some (.tup xs)→upd H' l (.lst ((us.take k++[u]++us.drop k).map V.ref)) b=some (.tup xs):=fun b xs e=>by rw [jj (Jw e el (fun z=>nomatch z))];exact e
 refine⟨fun b u n e=>by rw [jj (jp e ln)];exact I.kp b u n e,⟨_,_,_,by rw [jj (Ne.symm lc)];exact ec⟩,?_,by rw [List.length_set];exact I.len,fun m l' y' g1 g2=>?_,I.new,I.nd,fun y' hy=>?_,?_,?_,fun m y' g1 _=>?_⟩
 ·rw [jj (Jw I.hd el (fun z=>nomatch z)),I.hd]
  unfold dk
  rw [ZX h2]
 ·by_cases e:i=m
  ·subst e
   rw [h1] at g1
   cases g1
   rw [List.getElem?_set_self hi] at g2
   cases g2
   exact⟨_,jd,((C.take k).app (jD.one eu) |>.app (C.drop k)).mono ut⟩
  ·rw [List.getElem?_set_ne e] at g2
   obtain⟨us',e',p'⟩:=I.lists m l' y' g1 g2
   have nl:l'≠l:=fun w=>by
    subst w
    obtain⟨a1,b1⟩:=List.getElem?_eq_some_iff.mp h1
    obtain⟨a2,b2⟩:=List.getElem?_eq_some_iff.mp g1
    exact e ((List.getElem_inj I.nd).mp (b1.trans b2.symm))
   exact⟨us',by rw [jj nl];exact e',p'.mono ut⟩
 ·obtain⟨m,hm⟩:=List.mem_iff_getElem?.mp hy
  have:y'.1∈ys.map (·.1):=by rw [←ZX h2 (y.2.take k++[z]++y.2.drop k)];exact List.mem_map.mpr ⟨y',hy,rfl⟩
  obtain⟨y2,h3,e⟩:=List.mem_map.mp this
  obtain⟨j,hj,e2⟩:=I.names y2 h3
  exact⟨j,hj,e.symm.trans e2⟩
 ·rw [ZX h2];exact I.un
 ·refine (bN h2 (x:=z) ?_).trans (I.pm.append_right _)
  rw [List.append_assoc]
  refine (List.perm_middle).trans (List.Perm.cons _ ?_)
  show (y.2.take k++y.2.drop k).Perm y.2
  rw [List.take_append_drop]
 ·by_cases e:i=m
  ·subst e
   rw [List.getElem?_set_self hi] at g1
   cases g1
   simp
  ·rw [List.getElem?_set_ne e] at g1
   exact I.ne m y' g1 (fun w=>e (Option.some.inj w).symm)
theorem nZ (z:Str) (k:Nat):Ua z (k+1)=Ua z k++[(z,(k:Int))]:=by unfold Ua;rw [List.range_succ,List.map_append];rfl
theorem zx {x:jJ} (h:x.good=true):∃n:Nat,x.many=.int n∧1≤n∧n≤8∧x.pins=Ua x.name n:=by
 have h1:x.many?=true:=by unfold jJ.good at h;simp at h;exact h.2
 unfold jJ.many? at h1
 cases e:x.many with
 | int m =>
  rw [e] at h1
  simp at h1
  refine⟨m.toNat,by rw [Int.toNat_of_nonneg (by omega)],by omega,by omega,?_⟩
  unfold jJ.pins jJ.n
  rw [e]
 | _=>rw [e] at h1;exact absurd h1 (by simp)
theorem zn:∀{xs:List jJ},(∀x∈xs,x.good=true)→(j9 xs).length≤8*xs.length
 | [],_=>Nat.le_refl _
 | x::xs,h=>by
  have ih:=zn fun y hy=>h y (List.mem_cons_of_mem _ hy)
  obtain⟨n,_,_,n8,e⟩:=zx (h x (List.mem_cons_self ..))
  unfold j9 at ih ⊢
  rw [List.flatMap_cons,List.length_append,List.length_cons,e]
  unfold Ua
  rw [List.length_map,List.length_range]
  omega
theorem ap {α β:Type}{f:α→β}{l m':List β} (h:l.Perm m'):∀{m:List α},m'=m.map f→∃m2:List α,m2.Perm m∧m2.map f=l:=by
 induction h with
 | nil=>intro m e;cases m with|nil=>exact⟨[],.nil,rfl⟩|cons _ _=>cases e
 | cons x _ ih =>
  intro m e
  cases m with
  | nil=>cases e
  | cons a m =>
   rw [List.map_cons] at e
   injection e with e1 e2
   obtain⟨m2,p,e3⟩:=ih e2
   exact⟨a::m2,p.cons a,by rw [List.map_cons,e3,e1]⟩
 | swap x y l =>
  intro m e
  match m,e with
  | a::b::m,e =>
   rw [List.map_cons,List.map_cons] at e
   injection e with e1 e2
   injection e2 with e2 e3
   exact⟨b::a::m,List.Perm.swap ..,by rw [List.map_cons,List.map_cons,e1,e2,e3]⟩
 | trans _ _ ih1 ih2 =>
  intro m e
  obtain⟨m2,p2,e2⟩:=ih2 e
  obtain⟨m3,p3,e3⟩:=ih1 e2.symm
  exact⟨m3,p3.trans p2,e3⟩
theorem ip {ls:oB}{ys:List jy}{i:Nat}{l:Addr}{y:jy} (h1:ls[i]?=some l) (h2:ys[i]?=some y):(dk ls ys)[i]?=some (Sum.inr y.1,V.ref l):=by
 unfold dk
 have e:(ys.map (·.1))[i]?=some y.1:=by rw [List.getElem?_map,h2];rfl
 rw [List.getElem?_map,List.getElem?_zip_eq_some (z:=(y.1,l)) |>.mpr ⟨e,h1⟩]
 rfl
def kr (H:Hp) (b:Addr):Addr:=match H b with
 | some (.tup [.str _,.ref l])=>match H l with
  | some (.lst (.ref p::_))=>p
  | _=>0
 | _=>0
theorem ix {H:Hp}{b l p:Addr}{x:Str}{us:List V} (h1:H b=some (.tup [.str x,.ref l])) (h2:H l=some (.lst (.ref p::us))):kr H b=p:=by
 unfold kr
 rw [h1]
 dsimp only
 rw [h2]
theorem Vm.first {H:Hp}{b l:Addr}{y:jy} (h:Vm H b l y) (ne:y.2≠[]):∃(p:Addr) (us:List V) (z:j4),H b=some (.tup [.str y.1,.ref l])∧H l=some (.lst (.ref p::us))∧kr H b=p∧H p=some (.tup ((kP z).map kV))∧vb H (.ref p)=kP z:=by
 obtain⟨h1,us,h2,C⟩:=h
 cases hz:y.2 with
 | nil=>exact absurd hz ne
 | cons z zs =>
  have hl:=C.len
  rw [hz] at C hl
  cases us with
  | nil=>cases hl
  | cons p us =>
   have e:H p=some (.tup ((kP z).map kV)):=C.at_ (i:=0) rfl rfl
   exact⟨p,us.map V.ref,z,h1,h2,ix h1 h2,e,vO e⟩
theorem jQ.perm {H:Hp}{ns ls:oB}{ys:List jy} (N:jQ H ns ls ys) {bs:oB} (p:bs.Perm ns):∃ls' ys',jQ H bs ls' ys'∧ls'.Perm ls∧ys'.Perm ys:=by
 obtain⟨n1,n2,n3⟩:=N
 have e1:ns=(ns.zip (ls.zip ys)).map (·.1):=by rw [List.map_fst_zip (by rw [List.length_zip];omega)]
 have e2:ls=(ns.zip (ls.zip ys)).map (·.2.1):=by
  have:(ns.zip (ls.zip ys)).map (·.2.1)=((ns.zip (ls.zip ys)).map (·.2)).map (·.1):=by rw [List.map_map];rfl
  rw [this,List.map_snd_zip (by rw [List.length_zip];omega),List.map_fst_zip (by omega)]
 have e3:ys=(ns.zip (ls.zip ys)).map (·.2.2):=by
  have:(ns.zip (ls.zip ys)).map (·.2.2)=((ns.zip (ls.zip ys)).map (·.2)).map (·.2):=by rw [List.map_map];rfl
  rw [this,List.map_snd_zip (by rw [List.length_zip];omega),List.map_snd_zip (by omega)]
 obtain⟨tr,pt,et⟩:=ap p e1
 have p2:(tr.map (·.2.1)).Perm ls:=(pt.map (·.2.1)).trans (by rw [←e2])
 have p3:(tr.map (·.2.2)).Perm ys:=(pt.map (·.2.2)).trans (by rw [←e3])
 refine⟨tr.map (·.2.1),tr.map (·.2.2),⟨by rw [←et,List.length_map,List.length_map],by rw [List.length_map,List.length_map],fun i b l y h1 h2 h3=>?_⟩,p2,p3⟩
 rw [←et,List.getElem?_map] at h1
 rw [List.getElem?_map] at h2 h3
 obtain⟨q,hq,rfl⟩:=Option.map_eq_some_iff.mp h1
 rw [hq] at h2 h3
 cases h2;cases h3
 obtain⟨m,hm⟩:=List.mem_iff_getElem?.mp (pt.mem_iff.mp (List.mem_of_getElem? hq))
 obtain⟨q1,q2,q3⟩:=q
 rw [List.getElem?_zip_eq_some,List.getElem?_zip_eq_some] at hm
 exact n3 m q1 q2 q3 hm.1 hm.2.1 hm.2.2
def f9 (t:Adr):Sp:=fun vs H Q _=>∃(c a:Addr) (ps:oB) (xs:List jJ),vs=[.ref c,.ref a]∧jS H c∧a≠c∧H a=some (.lst (ps.map V.ref))∧Jh H ps xs∧xs.length≤8∧(∀x∈xs,x.good=true)∧(xs.map (·.name)).Nodup∧Gp t H ∧
 ∀(D:Addr) (ns ls:oB) (ys:List jy) H',Kt c H H'→H D=none→(∀l∈ls,H l=none)→H' D=some (.lst (ns.map V.ref))→jQ H' ns ls ys→vy xs ys→(∀y∈ys,y.1.length≤1000)→ys.length≤7→Q (.ref D) H'
theorem Mq (T:Txt K mg t) (hB:zX mg base):Ju P w K mg base 6 "_law_nets" ["_law_well_here","_law_parts_here"] (f9 t):=by
 obtain⟨fd,F,b⟩:=T.GG
 have G_law_draw:=vw (P:=P) (w:=w) (base:=base) T
 refine⟨_,fd,F.okX UW (fun vs H Q E h=>?_) (fun A outer s H vs Q E hr h=>?_),b,F.kp,T.gZ⟩
 ·obtain⟨c,a,ps,xs,rfl,_⟩:=h
  rfl
 ·obtain⟨c,a,ps,xs,rfl,W,nac,ha,C,lx,gx,nd,tb,q⟩:=h
  refine⟨_,(jg (jB (i:=2) UW.nd rfl (Or.inl rfl) mW)
   (jg (uC JF (Ja (pv 1)) (u6 rfl (jH (ju (i:=3) UW.nd rfl (Or.inl rfl)) (jH (ju (i:=4) UW.nd rfl (Or.inl rfl)) (jH (ju (i:=5) UW.nd rfl (Or.inl rfl)) uo)))) (jm (uC JF (UL rfl T.uO (ja (pv 5) je)) (ju (i:=6) UW.nd rfl (Or.inl rfl)) (jg (jB (i:=7) UW.nd rfl (Or.inl rfl) (vz PySem.F.plainAttrs_dict PySem.F.slot_dict_setdefault PySem.F.type_dict_setdefault nQ (pv 2) (ja (jP vQ jM (Jy Vp (by rfl) T.Vt gi (ja (jr G_law_draw hr.m jq (by rfl) (ja (pv 0) (ja jh je))) je))) (ja (jW je) je))))
   (jm (JP (vz PySem.F.plainAttrs_list PySem.F.slot_list_insert PySem.F.type_list_insert af (pv 7) (ja (jr G_law_draw hr.m jq (by rfl) (ja (pv 0) (ja (jP Uv (jz Jc (by rfl) T.ue u9 (ja (pv 7) je)) jh) je))) (ja (j8 (ja (pv 3) (ja (pv 6) je))) je)))))))))
   (jm (jN (nX (GL (n:=2) hr.m) (by rfl) T.uR vY (ja (Jy (nv rfl) (by rfl) T.u5 vC (ja (fL PySem.F.plainAttrs_dict PySem.F.slot_dict_items PySem.F.type_dict_items bn (pv 2)) je)) je) (fN (cl:=[]) (c0:=t.ug) (P:=t.jZ) rfl (by rfl) rfl T.zC hB)))))),?_⟩
  refine U9 (fun (d:Addr)=>[oR c,oR a,oR d,none,none,none,none,none]) (fun d H'=>H d=none∧NI H c d H' [] [] [] none) (fun B hB=>fun d hd=>hB d _ ⟨hd,(jX.refl c H).new hd,W.new hd,jd,rfl,(fun i l y h=>nomatch h),(fun l h=>nomatch h),List.nodup_nil,(fun y h=>nomatch h),List.nodup_nil,List.Perm.refl _,(fun i y h=>nomatch h)⟩) ?_
  rintro d H1 ⟨hd,I1⟩
  have tot:(j9 xs).length≤64:=by have:=zn gx;omega
  refine cE (fun (v3 v4 v5 v6 v7:Option V)=>[oR c,oR a,oR d,v3,v4,v5,v6,v7]) (fun _ _ _ _ _ H'=>∃ls ys,NI H c d H' ls ys (j9 xs) none) (fun B hB=>?_) ?_
  ·refine⟨_,rfl,a,rfl,⟨_,jl.of (I1.kp _ _ nac ha)⟩,JS (xs:=ps.map V.ref) (fun i σ H'=>∃(v3 v4 v5 v6 v7:Option V) (ls:oB) (ys:List jy),σ=[oR c,oR a,oR d,v3,v4,v5,v6,v7]∧NI H c d H' ls ys (j9 (xs.take i)) none) ⟨_,_,_,_,_,[],[],rfl,I1⟩ (fun i σ H' _ h=>by obtain⟨_,_,_,_,_,_,_,_,I⟩:=h;exact jl.of (I.kp _ _ nac ha)) ?_ ?_⟩
   ·rintro i v σ H2 hv ⟨v3,v4,v5,v6,v7,ls,ys,rfl,I2⟩
    rw [List.getElem?_map] at hv
    obtain⟨p,e1,rfl⟩:=Option.map_eq_some_iff.mp hv
    have hi:i<xs.length:=by rw [←C.1];exact (List.getElem?_eq_some_iff.mp e1).1
    have ex:=List.getElem?_eq_getElem hi
    have ep:=W.tups I2.kp _ _ (C.2 i p _ e1 ex)
    have gd:=gx _ (List.getElem_mem hi)
    have mono:(j9 (xs.take (i+1))).length≤64:=by have:=zn (xs:=xs.take (i+1)) fun y hy=>gx y (List.mem_of_mem_take hy);rw [List.length_take] at this;omega
    rw [Gh ex] at mono ⊢
    generalize xs[i]=x at ep gd mono ex
    obtain⟨n,hn,n1,n8,xn⟩:=zx gd
    rw [xn] at mono ⊢
    rw [hn] at ep
    refine⟨p,_,rfl,Ji.of ep,rfl,_,_,rfl,_,_,rfl,_,_,rfl,rfl,?_⟩
    refine⟨_,rfl,(n:Int),rfl,by omega,by omega,ZK (lo:=0) (n:=n) (fun k σ H'=>∃(v6 v7:Option V) (ls:oB) (ys:List jy),σ=[oR c,oR a,oR d,some (.str x.name),some (.str x.kind),some (.int n),v6,v7]∧NI H c d H' ls ys (j9 (xs.take i)++Ua x.name k) none) ⟨_,_,ls,ys,rfl,by rw [show Ua x.name 0=[] from rfl,List.append_nil];exact I2⟩ ?_ ?_⟩
    ·clear I2 ls ys
     rintro k σ H3 hk ⟨v6,v7,ls,ys,rfl,I3⟩
     have e0:(0:Int)+(k:Int)=(k:Int):=by omega
     rw [e0]
     have lpn:(jt ys).length≤63:=by
      have h1:=I3.pm.length_eq
      rw [h1]
      rw [List.length_append] at mono ⊢
      unfold Ua at mono ⊢
      rw [List.length_map,List.length_range] at mono ⊢
      omega
     refine Jb (fun σ H'=>∃(ls:oB) (ys:List jy) (m:Nat) (l:Addr) (y:jy),σ=[oR c,oR a,oR d,some (.str x.name),some (.str x.kind),some (.int n),some (.int k),oR l]∧NI H c d H' ls ys (j9 (xs.take i)++Ua x.name k) (some m)∧ls[m]?=some l∧ys[m]?=some y∧(jt ys).length≤63) (fun B hB=>?_) ?_
     ·refine⟨_,rfl,.inr (.inr (.inl ⟨rfl,.inl ⟨_,I3.hd⟩⟩)),_,rfl,c,7,rfl,I3.well,by decide,by decide,fun r H4 h0 h7 W4 k4=>?_⟩
      obtain⟨j,hj,rfl⟩:=vj (n:=7) h0 h7
      have I4:=I3.draw k4 W4
      refine⟨_,rfl,G3 j (by omega),_,_,rfl,rfl,?_,vT,fun g hg=>?_⟩
      ·exact Nat.le_trans (Nat.add_le_add_left (gG j (by omega)) _) (by decide)
      have s5:=jf (o:=.lst []) (Same.refl H4) hg
      have e5:upd H4 g (.lst []) g=some (.lst []):=jd
      generalize upd H4 g (.lst [])=H5 at s5 e5
      have I5:=I4.same s5
      refine⟨d,_,Sum.inr (nn j),.ref g,rfl,rfl,I5.hd,?_,fun v hv=>?_,fun hv=>?_⟩
      ·have:=I5.few
       unfold dk
       rw [List.length_map,List.length_zip,List.length_map]
       exact Nat.lt_of_le_of_lt (show _≤7 by omega) (by decide)
      ·rcases NA I5.len (nn j) with ⟨m,l,y,g1,g2,g3,g4⟩|⟨_,g2⟩
       ·rw [g4] at hv
        cases hv
        exact hB _ _ ⟨ls,ys,m,l,y,rfl,⟨I5.kp,I5.well,I5.hd,I5.len,I5.lists,I5.new,I5.nd,I5.names,I5.un,I5.pm,fun i y h _=>I5.ne i y h (fun z=>nomatch z)⟩,g1,g2,lpn⟩
       ·rw [g2] at hv;cases hv
      ·rcases NA I5.len (nn j) with ⟨m,l,y,g1,g2,g3,g4⟩|⟨un,_⟩
       ·rw [g4] at hv;cases hv
       ·rw [mZ _ hv]
        have gl:g ∉ ls:=fun hgl=>by
         obtain⟨m,hm⟩:=List.mem_iff_getElem?.mp hgl
         have hm2:m<ys.length:=by rw [←I4.len];exact (List.getElem?_eq_some_iff.mp hm).1
         obtain⟨us,e,_⟩:=I4.lists m g _ hm (List.getElem?_eq_getElem hm2)
         rw [e] at hg;cases hg
        have gc:g≠c:=Ne.symm (I4.well.ne hg)
        have J:=I5.push hd e5 (I4.kp.none I4.well hg) gc gl hj un
        refine hB _ _ ⟨_,_,ys.length,g,(nn j,[]),rfl,J,by rw [←I5.len,List.getElem?_append_right (Nat.le_refl _),Nat.sub_self];rfl,by rw [List.getElem?_append_right (Nat.le_refl _),Nat.sub_self];rfl,?_⟩
        have:jt (ys++[(nn j,[])])=jt ys:=by unfold jt;rw [List.flatMap_append];simp
        rw [this];exact lpn
     clear I3 lpn ls ys
     rintro _ H4 ⟨ls,ys,m,l,y,rfl,I4,g1,g2,lpn⟩
     obtain⟨us,el,Cy⟩:=I4.lists m l y g1 g2
     have lc:=(I4.new l (List.mem_of_getElem? g1)).2
     have ly:us.length≤63:=by
      have:=congrArg List.length (JG g2)
      rw [List.length_append,List.length_append] at this
      rw [Cy.len];omega
     refine⟨_,rfl,.inl ⟨rfl,_,jl.of el⟩,_,rfl,_,rfl,l,_,rfl,.inl (jl.of el),_,_,rfl,rfl,c,_,rfl,I4.well,by omega,by rw [List.length_map];omega,fun r H5 h0 h1 W5 k5=>?_⟩
     have I5:=I4.draw k5 W5
     have el5:=k5 _ _ lc el
     refine⟨_,rfl,_,rfl,UX,fun u hu=>?_⟩
     have s6:=jf (o:=.tup [.str x.name,.int (k:Int)]) (Same.refl H5) hu
     have e6:upd H5 u (.tup [.str x.name,.int (k:Int)]) u=some (.tup [.str x.name,.int (k:Int)]):=jd
     generalize upd H5 u (.tup [.str x.name,.int (k:Int)])=H6 at s6 e6
     have I6:=I5.same s6
     have el6:=s6 _ _ el5
     rw [List.length_map] at h1
     refine⟨l,_,.ref u,r,rfl,rfl,el6,by rw [List.length_map];exact Nat.lt_of_le_of_lt ly (by decide),h0,by omega,?_⟩
     have J:=I6.ins g1 g2 el6 ((Cy.mono (I4.well.tups k5)).same s6) (z:=(x.name,(k:Int))) e6 (min r.toNat us.length)
     rw [List.append_assoc (j9 (xs.take i)),←nZ,List.map_append,List.map_append,List.map_take,List.map_drop,←List.length_map (f:=V.ref) (as:=us)] at J
     exact⟨_,_,ls,_,rfl,J⟩
    ·rintro σ H3 ⟨v6,v7,ls,ys,rfl,I3⟩
     exact⟨_,_,_,_,_,ls,ys,rfl,I3⟩
   ·rintro σ H2 ⟨v3,v4,v5,v6,v7,ls,ys,rfl,I2⟩
    rw [List.length_map,C.1,uH rfl] at I2
    exact hB _ _ _ _ _ _ ⟨ls,ys,I2⟩
  rintro v3 v4 v5 v6 v7 H2 ⟨ls,ys,I2⟩
  refine⟨_,rfl,.inr (.inr (.inl ⟨rfl,.inl ⟨_,I2.hd⟩⟩)),d,_,rfl,rfl,I2.hd,fun p hp=>?_⟩
  have s3:=jf (o:=Vw p d) (Same.refl H2) hp
  have e3:upd H2 p (Vw p d) p=some (Vw p d):=jd
  generalize upd H2 p (Vw p d)=H3 at s3 e3
  have I3:=I2.same s3
  refine⟨p,d,_,rfl,e3,I3.hd,fun l0 ts H4 s4 hl0 el0 lt at_ fr=>?_⟩
  have I4:=I3.same s4
  obtain⟨_,_,_,ec⟩:=id W
  refine⟨tb.keep ec I4.kp,fun cc f H5 off tb5 hf ef ecc=>?_⟩
  have tb4:=tb.keep ec I4.kp
  obtain⟨pt,hP,_⟩:=id tb4
  obtain⟨pt1,hP1,_⟩:=id tb5
  have sm:Sm H4 H5:=off.sm hP hP1
  have ld:(dk ls ys).length=ys.length:=by
   have:=I2.len
   unfold dk;rw [List.length_map,List.length_zip,List.length_map];omega
  have N5:jQ H5 ts ls ys:=by
   refine⟨by rw [lt,ld],I2.len,fun i b l y h1 h2 h3=>⟨sm.1 _ _ (by intro ps z;cases z) (at_ i b _ _ h1 (ip h2 h3)),?_⟩⟩
   obtain⟨us,eu,Cu⟩:=I4.lists i l y h2 h3
   exact⟨us,sm.1 _ _ (by intro ps z;cases z) eu,Cu.mono fun q ys e=>sm.1 _ _ (by intro ps z;cases z) e⟩
  have ne:∀b∈ts,∃(l:Addr) (y:jy),Vm H5 b l y∧y.2≠[]:=fun b hb=>by
   obtain⟨i,hi⟩:=List.mem_iff_getElem?.mp hb
   obtain⟨l,y,h1,h2,h3⟩:=N5.at_ hi
   exact⟨l,y,h3,I2.ne i y h2 (fun z=>nomatch z)⟩
  have few:=I2.few
  refine⟨l0,f,ts,kr H5,fun b=>vb H5 (.ref (kr H5 b)),[false,true],cF f cc,rfl,rfl,sm.1 _ _ (by intro ps z;cases z) el0,by rw [lt,ld];omega,cP T f cc,by simp,fun b hb=>?_,fun b hb Q' q'=>?_,fun D bs hD pm=>?_⟩
  ·obtain⟨l,y,na,hn⟩:=ne b hb
   obtain⟨p,us,z,h1,h2,h3,h4,h5⟩:=na.first hn
   dsimp only
   rw [h3,h5]
   exact⟨h4,rfl⟩
  ·obtain⟨l,y,na,hn⟩:=ne b hb
   obtain⟨p,us,z,h1,h2,h3,h4,h5⟩:=na.first hn
   rw [h3] at q'
   exact⟨b,l,p,y.1,us,rfl,ef,ecc,h1,h2,q'⟩
  obtain⟨ls',ys',N6,pl,py⟩:=N5.perm pm
  have s6:=jf (o:=.lst (bs.map V.ref)) (Same.refl H5) hD
  have K5:Kt c H H5:=⟨fun b u n1 n2 e=>sm.1 _ _ n2 (I4.kp b u n1 e),fun b ps e=>sm.2 b ps (I4.kp b _ (Jw e ec (fun z=>nomatch z)) e)⟩
  have W5:jS H5 c:=let ⟨_,_,_,e⟩:=I4.well;⟨_,_,_,sm.1 _ _ (by intro ps z;cases z) e⟩
  have pt:(jt ys').Perm (j9 xs):=(List.Perm.flatMap_right _ py).trans I2.pm
  refine q D bs ls' ys' _ ⟨fun b u n1 n2 e=>s6 _ _ (K5.1 b u n1 n2 e),fun b ps e=>let ⟨ps',e'⟩:=K5.2 b ps e;⟨ps',s6 _ _ e'⟩⟩ (K5.none W W5 hD) (fun l hl=>(I2.new l (pl.mem_iff.mp hl)).1) jd (N6.same s6) ⟨lx,gx,nd,by rw [py.length_eq];omega,fun y hy=>?_,?_,pt.nodup_iff.mpr (Z3 nd),pt⟩ (fun y hy=>?_) (by rw [py.length_eq];omega)
  ·have hy':=py.mem_iff.mp hy
   obtain⟨j,hj,e⟩:=I2.names y hy'
   obtain⟨i,hi⟩:=List.mem_iff_getElem?.mp hy'
   have:=I2.ne i y hi (fun z=>nomatch z)
   unfold jy.good
   rw [e,(cy j hj).1]
   cases h:y.2 with
   | nil=>exact absurd h this
   | cons _ _=>rfl
  ·exact (py.map _).nodup_iff.mpr I2.un
  ·obtain⟨j,hj,e⟩:=I2.names y (py.mem_iff.mp hy)
   rw [e];exact (cy j hj).2
end
end K41
namespace K41
open PySem L2 Wd TS STb
def Nk (k:Nat):jJ:=⟨⟨#[97+k]⟩,"r",.int 8⟩
def pk (k:Nat):j4:=(⟨#[97+k / 8]⟩,((k % 8:Nat):Int))
def kA:List jJ:=(List.range 4).map Nk
def mY:List j4:=(List.range 32).map pk
def fj (k:Nat):jy:=(nn k,[pk k])
def gg (m:Nat):List jy:=(List.range (m - 1)).map fj++[((("last":Str),mY.drop (m - 1)):jy)]
theorem bY:∀i<4,("abcd":Str).cps.toList[i]?=some (97+i):=by decide +kernel
theorem eM {m:Nat} (h1:23≤m) (h2:m≤26):m=23∨m=24∨m=25∨m=26:=by omega
theorem Nd:∀m,m=23∨m=24∨m=25∨m=26→jt (gg m)=j9 kA∧(jt (gg m)).length≤32:=by
 rintro m (rfl|rfl|rfl|rfl)<;>decide +kernel
theorem fF:∀m,m=23∨m=24∨m=25∨m=26→(∀y∈gg m,y.1.length≤1000):=by
 rintro m (rfl|rfl|rfl|rfl)<;>decide +kernel
theorem ir:∀m,m=23∨m=24→vy kA (gg m):=by
 rintro m (rfl|rfl)
 ·exact⟨by decide,by decide +kernel,by decide +kernel,by decide +kernel,by decide +kernel,by decide +kernel,by decide +kernel,by rw [(Nd 23 (.inl rfl)).1]⟩
 ·exact⟨by decide,by decide +kernel,by decide +kernel,by decide +kernel,by decide +kernel,by decide +kernel,by decide +kernel,by rw [(Nd 24 (.inr (.inl rfl))).1]⟩
theorem fe (m:Nat) (h:1≤m):(gg m).length=m:=by
 unfold gg
 rw [List.length_append,List.length_map,List.length_range]
 show m - 1+1=m
 omega
theorem w4:∀x∈kA,x.name≠"w":=by decide +kernel
theorem lR:∀x∈kA,x.name.length≤1000∧x.kind.length≤1000∧MO x.many=true:=by decide +kernel
theorem Zj {α:Type} (f:Nat→α) (k:Nat):(List.range (k+1)).map f=(List.range k).map f++[f k]:=by rw [List.range_succ,List.map_append];rfl
theorem jl.kt {K:oq}{H H':Hp}{a c:Addr}{xs:List V} (h:jl K H a xs) (k:Kt c H H') (n:a≠c):jl K H' a xs:=by
 rcases h with (h|⟨o,h⟩)|h
 ·exact .inl (.inl (k.1 _ _ n (by intro ps z;cases z) h))
 ·exact .inl (.inr ⟨o,k.1 _ _ n (by intro ps z;cases z) h⟩)
 ·exact .inr h
theorem jl.fx {K:oq}{H:Hp}{a c:Addr}{xs:List V} (h:jl K H a xs) (hc:H c=none):a≠c∨∀H',jl K H' a xs:=by
 rcases h with (h|⟨o,h⟩)|h
 ·exact .inl fun z=>by rw [z,hc] at h;cases h
 ·exact .inl fun z=>by rw [z,hc] at h;cases h
 ·exact .inr fun H'=>.inr h
theorem jl.keepO {K:oq}{H H':Hp}{a c:Addr}{xs:List V} (h:jl K H a xs) (k:jX c H H') (n:a≠c∨∀H',jl K H' a xs):jl K H' a xs:=by
 rcases n with n|n
 ·exact jl.keep h k n
 ·exact n H'
theorem jl.ktO {K:oq}{H H':Hp}{a c:Addr}{xs:List V} (h:jl K H a xs) (k:Kt c H H') (n:a≠c∨∀H',jl K H' a xs):jl K H' a xs:=by
 rcases n with n|n
 ·exact jl.kt h k n
 ·exact n H'
theorem In.draw {H H':Hp}{a b c:Addr}{ps:oB}{xs:List jJ}{ns ls:oB}{ys:List jy} (I:In H a b ps xs ns ls ys) (W:jS H c) (k:jX c H H'):In H' a b ps xs ns ls ys :=
 ⟨k _ _ (W.nr I.ha) I.ha,I.C.mono (W.tups k),I.few,I.len,k _ _ (W.nr I.hb) I.hb,I.N.wr (W.tups k) (fun l hl zs e=>k _ _ (I.N.nw W l hl) e),I.few2,I.len2,I.tl⟩
def bB:Nat→Nat|0=>7|1=>16|_=>33
def bT:Nat→Nat|0=>64|1=>193|_=>580
theorem lQ:∀i≤1,bB i+9≤bB (i+1)∧2*bB i+1≤bB (i+1)∧bT i+9≤bT (i+1)∧3*bT i+1≤bT (i+1)∧bB (i+1)≤33∧bT (i+1)≤580∧bB i≤16∧bT i≤193:=by decide
theorem jS.sm {H H':Hp}{c:Addr} (W:jS H c) (s:Same H H'):jS H' c:=let ⟨_,_,_,e⟩:=W;⟨_,_,_,s _ _ e⟩
section
variable {P:oM}{w:World}{K:oq}{mg:ox}{base:Heap}{t:Adr}
def gb (t:Adr):List Addr:=[t.jZ]
def K3 (K:oq) (tabs:oB):Sp:=fun vs H Q _=>∃(a:Addr) (sc:List Int),vs=[.ref a]∧jl K H a (sc.map V.int)∧sc.length≤63∧(∀p∈tabs,H p=some (.tbl #[]))∧∀H',Q (.bl true) H'
theorem fc (T:Txt K mg t) (hB:zX mg base) {fd:FuncData} (F:uA K "law" "law" Zk t.Vr fd):vB P w K mg base (XC P w) 10 t.Vr fd ["_law_script"] (K3 K (gb t)):=by
 have G_law_well:=Mr (P:=P) (w:=w) (base:=base) T
 have G_law_draw:=vw (P:=P) (w:=w) (base:=base) T
 have G_law_parts:=mQ (P:=P) (w:=w) (base:=base) T
 have G_law_nets:=Mq (P:=P) (w:=w) (base:=base) T hB
 have G_law_right:=mR (P:=P) (w:=w) (base:=base) T
 have G_law_refused:=kS (P:=P) (w:=w) (base:=base) T
 have G_law_good:=Mp (P:=P) (w:=w) (base:=base) T
 have G_law_bad_part:=kg (P:=P) (w:=w) (base:=base) T
 have G_law_bad_net:=kM (P:=P) (w:=w) (base:=base) T
 refine F.okX U6 (fun vs H Q E h=>?_) (fun cdv A outer s H vs Q E hr h=>?_)
 ·obtain⟨a,sc,rfl,_⟩:=h
  rfl
 ·obtain⟨a,sc,rfl,ha,hsc,htb,q⟩:=h
  refine⟨_,(jg (jB (i:=1) U6.nd rfl (Or.inl rfl) (jr G_law_well hr.m jq (by rfl) (ja (pv 0) (ja jh je))))
   (jg (jB (i:=2) U6.nd rfl (Or.inl rfl) (jr G_law_parts hr.m jq (by rfl) (ja (pv 1) je)))
   (jg (jB (i:=3) U6.nd rfl (Or.inl rfl) (jr G_law_nets hr.m jq (by rfl) (ja (jr G_law_well hr.m jq (by rfl) (ja (pv 0) (ja jh je))) (ja (pv 2) je))))
   (jg (jV (Jz (JR (jr G_law_right hr.m jq (by rfl) (ja (pv 2) (ja (pv 3) je))))) (jm (jN UY)) jI)
   (jg (jB (i:=4) U6.nd rfl (Or.inl rfl) (jP Uv jh (jr G_law_draw hr.m jq (by rfl) (ja (pv 1) (ja jh je)))))
   (jg (Gi (i:=6) U6.nd rfl (Or.inl rfl) (N0:=["_law_script","_law_well_here","_law_parts_here","_law_nets_here","_law_many","._law_k","_law_some","_law_pins","_law_lone"]) (own:=["_law_k"]) (gk (N:=["_law_script","_law_well_here","_law_parts_here","_law_nets_here","_law_many","_law_k","_law_some","_law_pins","_law_lone"]) rfl (by rfl) (by decide +kernel) (by decide +kernel) rfl (by decide +kernel)) (UL rfl T.uO (ja jh je)) (fun _ _ _ _ _=>ju (i:=9) (by show (["_law_script","_law_well_here","_law_parts_here","_law_nets_here","_law_many","._law_k","_law_some","_law_pins","_law_lone","_law_k"]:oG).Nodup;decide +kernel) rfl (Or.inl rfl)) (fun _ _ _ _ _=>U4) (fun _ _ _ _ _=>(j8 (ja (jK ZT jM (pv 9) (fun _ _=>rfl)) (ja jM (ja jh je))))))
   (jg (jB (i:=7) U6.nd rfl (Or.inr rfl) (Gv (N0:=["_law_script","_law_well_here","_law_parts_here","_law_nets_here","_law_many","._law_k","_law_some","_law_pins","_law_lone"]) (own:=["_law_k"]) (gk (N:=["_law_script","_law_well_here","_law_parts_here","_law_nets_here","_law_many","_law_k","_law_some","_law_pins","_law_lone"]) rfl (by rfl) (by decide +kernel) (by decide +kernel) rfl (by decide +kernel)) (UL rfl T.uO (ja jh je)) (fun _ _ _ _ _=>ju (i:=9) (by show (["_law_script","_law_well_here","_law_parts_here","_law_nets_here","_law_many","._law_k","_law_some","_law_pins","_law_lone","_law_k"]:oG).Nodup;decide +kernel) rfl (Or.inl rfl)) (fun _ _ _ _ _=>U4) (fun _ _ _ _ _=>(j8 (ja (jK ZT jM (jP zR (pv 9) jh) (fun _ _=>rfl)) (ja (jP VQ (pv 9) jh) je))))))
   (jg (jB (i:=8) U6.nd rfl (Or.inl rfl) (jP vk (Gv (N0:=["_law_script","_law_well_here","_law_parts_here","_law_nets_here","_law_many","._law_k","_law_some","_law_pins","_law_lone"]) (own:=["_law_k"]) (cQ (n:="_law_pins") (N:=["_law_script","_law_well_here","_law_parts_here","_law_nets_here","_law_many","_law_k","_law_some","_law_pins","_law_lone"]) rfl (by rfl) (by rfl) rfl (by rfl) (by decide +kernel) (by decide +kernel) rfl (by decide +kernel)) (UL rfl T.uO (ja (jP aj (pv 4) jh) je)) (fun _ _ _ _ _=>ju (i:=9) (by show (["_law_script","_law_well_here","_law_parts_here","_law_nets_here","_law_many","._law_k","_law_some","_law_pins","_law_lone","_law_k"]:oG).Nodup;decide +kernel) rfl (Or.inl rfl)) (fun _ _ _ _ _=>U4) (fun _ _ _ _ _=>(j8 (ja (jP vQ jM (Jy Vp (by rfl) T.Vt gi (ja (pv 9) je))) (ja (jW (ja (jK (mw (K:=K) rfl) (pv 7) (pv 9) (fun _ _=>rfl)) je)) je))))) (jW (ja (j8 (ja jM (ja (v0 VI (pv 7) (VG (jP aj (pv 4) jh)) VF) je))) je))))
   (jg (jV (UA (m5 (jA Ze (pv 4) jh (jG _)) (kU (Jz (JR (jr G_law_right hr.m jq (by rfl) (ja (pv 6) (ja (pv 8) je))))))).pt (u8 (m5 (jA Zd (pv 4) jh (jG _)) (kU (Jz (JR (jr G_law_refused hr.m jq (by rfl) (ja (pv 6) (ja (pv 8) je))))))).pt)).pt (jm (jN UY)) jI)
   (jg (jB (i:=1) U6.nd rfl (Or.inl rfl) (jr G_law_well hr.m jq (by rfl) (ja (pv 0) (ja jh je))))
   (jg (uC JF (UL rfl T.uO (ja (jP Uv jh (jr G_law_draw hr.m jq (by rfl) (ja (pv 1) (ja jh je)))) je)) (ju (i:=5) U6.nd rfl (Or.inl rfl)) (jm (jV (m5 (jA (vG hr.units0) (pv 2) (jW je) (jG _)) (kU (jA vc (jr G_law_draw hr.m jq (by rfl) (ja (pv 1) (ja jh je))) jh (jG _)))).pt (jm (Z4 (jr G_law_bad_part hr.m jq (by rfl) (ja (pv 1) (ja (pv 2) (ja (pv 3) je)))) (u6 rfl (jH (ju (i:=2) U6.nd rfl (Or.inl rfl)) (jH (ju (i:=3) U6.nd rfl (Or.inl rfl)) uo))))) (jm (jV (jA (vG hr.units0) (pv 3) (jW je) (jG _)) (jm (jB (i:=3) U6.nd rfl (Or.inl rfl) (jr G_law_bad_net hr.m jq (by rfl) (ja (pv 1) (ja (pv 3) je))))) jI)))))
   (jg (jV (JR (jr G_law_good hr.m jq (by rfl) (ja (pv 2) (ja (pv 3) je)))) (jm (jN (jr G_law_right hr.m jq (by rfl) (ja (pv 2) (ja (pv 3) je))))) jI)
   (jm (jN (jr G_law_refused hr.m jq (by rfl) (ja (pv 2) (ja (pv 3) je))))))))))))))))),?_⟩
  have tb0:Gp t H:=⟨#[],htb _ (by simp [gb]),trivial,.inl rfl⟩
  refine U9 (fun (c:Addr)=>[oR a,oR c,none,none,none,none,none,none,none]) (fun c H'=>jl K H' a (sc.map V.int)∧(a≠c∨∀H',jl K H' a (sc.map V.int))∧Gp t H'∧jS H' c) (fun B hB=>⟨_,rfl,a,sc,1,rfl,ha,by decide,by decide,hsc,fun c m k hc=>hB c _ ?_⟩) ?_
  ·have s1:=jf (o:=.lst [.int m,.int k,.int 0]) (Same.refl H) hc
   exact⟨s1.seq ha,jl.fx ha hc,Kh.same tb0 s1,_,_,_,jd⟩
  rintro c H1 ⟨ha1,nac,tb1,W1⟩
  refine Md (fun (D:Addr) (ps:oB) (xs:List jJ)=>[oR a,oR c,oR D,none,none,none,none,none,none]) (fun D ps xs H'=>jl K H' a (sc.map V.int)∧Gp t H'∧jS H' c∧H' D=some (.lst (ps.map V.ref))∧Jh H' ps xs∧xs.length≤8∧(∀x∈xs,x.good=true∧x.name≠"w"∧x.name.length≤1000∧x.kind.length≤1000)∧(xs.map (·.name)).Nodup) (fun B hB=>⟨_,rfl,c,rfl,W1,fun D ps xs H' k' W' hD eD C l g nd=>hB D ps xs _ ⟨jl.keepO ha1 k' nac,?_,W',eD,C,l,g,nd⟩⟩) ?_
  ·obtain⟨_,_,_,ec⟩:=id W1
   exact tb1.keep ec k'
  rintro D ps xs H2 ⟨ha2,tb2,W2,eD,C,lx,gx,nd⟩
  refine Jb (fun σ H'=>∃(E0:Addr) (ns ls:oB) (ys:List jy),σ=[oR a,oR c,oR D,oR E0,none,none,none,none,none]∧jl K H' a (sc.map V.int)∧jS H' c∧In H' D E0 ps xs ns ls ys∧vy xs ys∧ys.length≤7) (fun B hB=>?_) ?_
  ·refine⟨_,rfl,a,sc,2,rfl,ha2,by decide,by decide,hsc,fun c2 m k hc2=>?_⟩
   have s3:=jf (o:=.lst [.int m,.int k,.int 0]) (Same.refl H2) hc2
   have e3:upd H2 c2 (.lst [.int m,.int k,.int 0]) c2=some (.lst [.int m,.int k,.int 0]):=jd
   generalize upd H2 c2 (.lst [.int m,.int k,.int 0])=H3 at s3 e3
   obtain⟨_,_,_,ec⟩:=id W2
   have nc2:c≠c2:=fun z=>by rw [←z,ec] at hc2;cases hc2
   have nD:D≠c2:=fun z=>by rw [z,hc2] at eD;cases eD
   refine⟨_,rfl,c2,D,ps,xs,rfl,⟨_,_,_,e3⟩,nD,s3 _ _ eD,C.same s3,lx,fun x hx=>(gx x hx).1,nd,Kh.same tb2 s3,fun E0 ns ls ys H4 kt hE hl eE N G ok7 l7=>hB _ _ ⟨E0,ns,ls,ys,rfl,jl.ktO (s3.seq ha2) kt (jl.fx ha2 hc2),⟨_,_,_,kt.1 _ _ nc2 (by intro ps z;cases z) (s3 _ _ ec)⟩,⟨kt.1 _ _ nD (by intro ps z;cases z) (s3 _ _ eD),(C.same s3).mono (fun q zs e=>kt.1 _ _ (Jw e e3 (fun z=>nomatch z)) (by intro ps z;cases z) e),by omega,fun x hx=>⟨(gx x hx).2.2.1,(gx x hx).2.2.2,?_⟩,eE,N,by omega,ok7,?_⟩,G,l7⟩⟩
   ·obtain⟨n,hn,_⟩:=zx (gx x hx).1
    rw [hn];rfl
   ·rw [G.pm.length_eq]
    have:=zn fun x hx=>(gx x hx).1
    omega
  rintro _ H3 ⟨E0,ns,ls,ys,rfl,ha3,W3,I3,G,l7⟩
  have tl:(jt ys).length≤64:=by
   rw [G.pm.length_eq]
   have:=zn fun x hx=>(gx x hx).1
   omega
  refine VS [oR a,oR c,oR D,oR E0,none,none,none,none,none] (fun H'=>jl K H' a (sc.map V.int)∧jS H' c∧In H' D E0 ps xs ns ls ys) (fun B hB=>?_) ?_
  ·exact⟨_,rfl,_,rfl,D,E0,ps,xs,ns,ls,ys,rfl,I3,G,fun x hx=>(gx x hx).2.1,fun H4 s4=>⟨true,rfl,U1 (hB _ ⟨s4.seq ha3,let ⟨_,_,_,e⟩:=W3;⟨_,_,_,s4 _ _ e⟩,I3.same s4⟩)⟩⟩
  rintro H4 ⟨ha4,W4,I4⟩
  refine U9 (fun (m:Nat)=>[oR a,oR c,oR D,oR E0,some (.int (m:Int)),none,none,none,none]) (fun m H'=>(23≤m∧m≤26)∧jl K H' a (sc.map V.int)∧jS H' c∧In H' D E0 ps xs ns ls ys) (fun B hB=>⟨_,rfl,c,4,rfl,W4,by decide,by decide,fun r H5 h0 h4 W5 k5=>?_⟩) ?_
  ·obtain⟨m,hm,rfl⟩:=vj (n:=4) h0 h4
   exact⟨23,(m:Int),rfl,rfl,hB (23+m) _ ⟨by omega,jl.keepO ha4 k5 nac,W5,I4.draw W4 k5⟩⟩
  rintro m H5 ⟨hm,ha5,W5,I5⟩
  have m4:=eM hm.1 hm.2
  refine aB (fun (D6:Addr) (ps6:oB)=>[oR a,oR c,oR D,oR E0,some (.int (m:Int)),none,oR D6,none,none]) (fun D6 ps6 H'=>jl K H' a (sc.map V.int)∧In H' D E0 ps xs ns ls ys∧H' D6=some (.lst (ps6.map V.ref))∧Jh H' ps6 kA) (fun B hB=>⟨_,rfl,by decide,by decide,VL (lo:=0) (n:=4) (fun S j zs H'=>Same H5 H'∧H5 S=none∧H' S=some (.lst zs)∧zs.length≤j∧∃(rs:oB),zs=rs.map V.ref∧Jh H' rs ((List.range j).map Nk)) (by decide) (fun S hS=>⟨jf (Same.refl H5) hS,hS,jd,Nat.le_refl _,[],rfl,rfl,(fun i p x h=>nomatch h)⟩) (fun S j zs H' hv=>⟨hv.2.2.1,hv.2.2.2.1⟩) ?_ ?_⟩) ?_
  ·rintro S j zs H6 Qy Qn hj ⟨s6,hS,eS,lz,rs,rfl,C6⟩ hy hn
   have e0:(0:Int)+(j:Int)=(j:Int):=by omega
   rw [e0]
   refine⟨⟨_,rfl,rfl⟩,_,rfl,_,(j:Int),97+j,rfl,rfl,by decide,JN (bY j hj),Ma,fun u hu=>?_⟩
   have s7:=jf (o:=.tup [.str ⟨#[97+j]⟩,.str "r",.int 8]) (Same.refl H6) hu
   have e7:upd H6 u (.tup [.str ⟨#[97+j]⟩,.str "r",.int 8]) u=some (.tup [.str (Nk j).name,.str (Nk j).kind,(Nk j).many]):=jd
   generalize upd H6 u (.tup [.str ⟨#[97+j]⟩,.str "r",.int 8])=H7 at s7 e7
   have eS7:=s7 _ _ eS
   refine hy _ _ eS7 ⟨fun b u e=>by rw [jj (jp e hS)];exact s7 _ _ (s6 _ _ e),hS,jd,by rw [List.length_append];exact Nat.succ_le_succ lz,rs++[u],by rw [List.map_append];rfl,?_⟩
   rw [Zj]
   exact ((C6.same s7).snoc e7).mono fun q zs e=>by rw [jj (Jw e eS7 (fun z=>nomatch z))];exact e
  ·rintro S zs H6 hS0 ⟨s6,hS,eS,lz,rs,rfl,C6⟩
   exact hB S rs _ ⟨s6.seq ha5,I5.same s6,eS,C6⟩
  rintro D6 ps6 H6 ⟨ha6,I6,e6,C6⟩
  refine aB (fun (D7:Addr) (us7:oB)=>[oR a,oR c,oR D,oR E0,some (.int (m:Int)),none,oR D6,oR D7,none]) (fun D7 us7 H'=>jl K H' a (sc.map V.int)∧In H' D E0 ps xs ns ls ys∧H' D6=some (.lst (ps6.map V.ref))∧Jh H' ps6 kA∧H' D7=some (.lst (us7.map V.ref))∧jD H' us7 mY) (fun B hB=>⟨_,rfl,by decide,by decide,VL (lo:=0) (n:=32) (fun S j zs H'=>Same H6 H'∧H6 S=none∧H' S=some (.lst zs)∧zs.length≤j∧∃(rs:oB),zs=rs.map V.ref∧jD H' rs ((List.range j).map pk)) (by decide) (fun S hS=>⟨jf (Same.refl H6) hS,hS,jd,Nat.le_refl _,[],rfl,uS⟩) (fun S j zs H' hv=>⟨hv.2.2.1,hv.2.2.2.1⟩) ?_ ?_⟩) ?_
  ·rintro S j zs H7 Qy Qn hj ⟨s7,hS,eS,lz,rs,rfl,C7⟩ hy hn
   have e0:(0:Int)+(j:Int)=(j:Int):=by omega
   rw [e0]
   have ed:(j:Int) / 8=((j / 8:Nat):Int):=by omega
   have em:(j:Int) % 8=((j % 8:Nat):Int):=by omega
   refine⟨⟨_,rfl,rfl⟩,_,rfl,_,8,rfl,rfl,⟨by omega,by omega⟩,_,(j / 8:Int),97+j / 8,rfl,rfl,by decide,by rw [ed];exact JN (bY (j / 8) (by omega)),_,rfl,_,8,rfl,rfl,(by show (0:Int)<8;decide),UX,fun u hu=>?_⟩
   have s8:=jf (o:=.tup [.str ⟨#[97+j / 8]⟩,(fun i j=>V.int (i % j)) (j:Int) 8]) (Same.refl H7) hu
   have e8:upd H7 u (.tup [.str ⟨#[97+j / 8]⟩,(fun i j=>V.int (i % j)) (j:Int) 8]) u=some (.tup [.str (pk j).1,.int (pk j).2]):=by rw [jd];show some (HO.tup [_,V.int ((j:Int) % 8)])=_;rw [em];rfl
   generalize upd H7 u (.tup [.str ⟨#[97+j / 8]⟩,(fun i j=>V.int (i % j)) (j:Int) 8])=H8 at s8 e8
   have eS8:=s8 _ _ eS
   refine hy _ _ eS8 ⟨fun b u e=>by rw [jj (jp e hS)];exact s8 _ _ (s7 _ _ e),hS,jd,by rw [List.length_append];exact Nat.succ_le_succ lz,rs++[u],by rw [List.map_append];rfl,?_⟩
   rw [Zj]
   exact ((C7.same s8).app (jD.one e8)).wr eS8 (by intro ys z;cases z)
  ·rintro S zs H7 hS0 ⟨s7,hS,eS,lz,rs,rfl,C7⟩
   exact hB S rs _ ⟨s7.seq ha6,I6.same s7,s7 _ _ e6,C6.same s7,eS,C7⟩
  rintro D7 us7 H7 ⟨ha7,I7,e67,C67,e7,C7⟩
  have u7:us7.length=32:=by rw [C7.len];decide
  have en:((m:Int) - 1).toNat=m - 1:=by omega
  refine Jb (fun σ H'=>∃(D8:Addr) (ns8 ls8:oB),σ=[oR a,oR c,oR D,oR E0,some (.int (m:Int)),none,oR D6,oR D7,oR D8]∧jl K H' a (sc.map V.int)∧In H' D E0 ps xs ns ls ys∧In H' D6 D8 ps6 kA ns8 ls8 (gg m)) (fun B hB=>⟨_,rfl,(m:Int),1,rfl,rfl,(m:Int) - 1,rfl,by omega,by omega,VL (lo:=0) (n:=((m:Int) - 1).toNat) (fun S j zs H'=>Same H7 H'∧H7 S=none∧H' S=some (.lst zs)∧zs.length≤j∧∃(rs ls8:oB),zs=rs.map V.ref∧jQ H' rs ls8 ((List.range j).map fj)∧∀l∈ls8,l≠S) (Nat.le_trans (show _≤26 by omega) (by decide)) (fun S hS=>⟨jf (Same.refl H7) hS,hS,jd,Nat.le_refl _,[],[],rfl,zj,(fun l h=>nomatch h)⟩) (fun S j zs H' hv=>⟨hv.2.2.1,hv.2.2.2.1⟩) ?_ ?_⟩) ?_
  ·rintro S j zs H8 Qy Qn hj ⟨s8,hS,eS,lz,rs,ls8,rfl,N8,nl8⟩ hy hn
   have e0:(0:Int)+(j:Int)=(j:Int):=by omega
   rw [e0]
   have hj7:j<us7.length:=by omega
   have hjp:j<mY.length:=by rw [show mY.length=32 by decide];omega
   have pj:mY[j]?=some (pk j):=by unfold mY;rw [List.getElem?_map,List.getElem?_range (by omega)];rfl
   refine⟨⟨_,rfl,rfl⟩,_,rfl,_,rfl,G3 j (by omega),_,_,rfl,rfl,?_,_,rfl,_,rfl,D7,_,(j:Int),.ref us7[j],rfl,rfl,jl.of (s8 _ _ e7),JN (by rw [List.getElem?_map,List.getElem?_eq_getElem hj7];rfl),Vu,fun g hg=>?_⟩
   ·exact Nat.le_trans (Nat.add_le_add_left (gG j (by omega)) _) (by decide)
   have s9:=jf (o:=.lst [.ref us7[j]]) (Same.refl H8) hg
   have e9:upd H8 g (.lst [.ref us7[j]]) g=some (.lst ([us7[j]].map V.ref)):=jd
   generalize upd H8 g (.lst [.ref us7[j]])=H9 at s9 e9
   refine⟨UX,fun u hu=>?_⟩
   have s10:=jf (o:=.tup [.str (nn j),.ref g]) (Same.refl H9) hu
   have e10:upd H9 u (.tup [.str (nn j),.ref g]) u=some (.tup [.str (nn j),.ref g]):=jd
   show Qy (.ref u) (upd H9 u (.tup [.str (nn j),.ref g]))
   generalize upd H9 u (.tup [.str (nn j),.ref g])=H10 at s10 e10
   have eS10:=s10 _ _ (s9 _ _ eS)
   have gS:g≠S:=fun z=>by rw [z,eS] at hg;cases hg
   have s8':=Same.trans s8 (Same.trans s9 s10)
   have na:Vm H10 u g (fj j):=⟨e10,[us7[j]],s10 _ _ e9,jD.one (x:=pk j) (s8' _ _ (C7.at_ (List.getElem?_eq_getElem hj7) pj))⟩
   refine hy _ _ eS10 ⟨fun b u e=>by rw [jj (jp e hS)];exact s8' _ _ e,hS,jd,by rw [List.length_append];exact Nat.succ_le_succ lz,rs++[u],ls8++[g],by rw [List.map_append];rfl,?_,fun l hl=>?_⟩
   ·rw [Zj]
    refine ((N8.same (Same.trans s9 s10)).snoc na).wr (fun q zs e=>by rw [jj (Jw e eS10 (fun z=>nomatch z))];exact e) fun l hl zs e=>?_
    rw [jj]
    ·exact e
    ·rcases List.mem_append.mp hl with w|w
     ·exact nl8 l w
     ·rw [List.mem_singleton.mp w];exact gS
   ·rcases List.mem_append.mp hl with w|w
    ·exact nl8 l w
    ·rw [List.mem_singleton.mp w];exact gS
  ·rintro S zs H8 hS0 ⟨s8,hS,eS,lz,rs,ls8,rfl,N8,nl8⟩
   rw [en] at N8
   have e78:=s8 _ _ e7
   refine⟨_,rfl,_,rfl,(m:Int),1,rfl,rfl,(m:Int) - 1,rfl,D7,_,rfl,jl.of e78,fun g hg=>?_⟩
   have ec:vZ (us7.map V.ref) (some ((m:Int) - 1)) none=(us7.drop (m - 1)).map V.ref:=by rw [show ((m:Int) - 1)=((m - 1:Nat):Int) by omega,aX,List.map_drop]
   rw [ec]
   have s9:=jf (o:=.lst ((us7.drop (m - 1)).map V.ref)) (Same.refl H8) hg
   have e9:upd H8 g (.lst ((us7.drop (m - 1)).map V.ref)) g=some (.lst ((us7.drop (m - 1)).map V.ref)):=jd
   generalize upd H8 g (.lst ((us7.drop (m - 1)).map V.ref))=H9 at s9 e9
   refine⟨UX,fun u hu=>?_⟩
   have s10:=jf (o:=.tup [.str "last",.ref g]) (Same.refl H9) hu
   have e10:upd H9 u (.tup [.str "last",.ref g]) u=some (.tup [.str "last",.ref g]):=jd
   generalize upd H9 u (.tup [.str "last",.ref g])=H10 at s10 e10
   refine⟨Vu,fun L hL=>?_⟩
   have s11:=jf (o:=.lst [.ref u]) (Same.refl H10) hL
   have e11:upd H10 L (.lst [.ref u]) L=some (.lst [.ref u]):=jd
   generalize upd H10 L (.lst [.ref u])=H11 at s11 e11
   have s9':=Same.trans s9 (Same.trans s10 s11)
   refine⟨S,L,_,_,rfl,rfl,s9' _ _ eS,e11,by rw [List.length_map];rw [List.length_map] at lz;exact Nat.le_trans (show _+1≤1000 by omega) (by decide),fun D8 hD8=>?_⟩
   have s12:=jf (o:=.lst (rs.map V.ref++[.ref u])) (Same.refl H11) hD8
   have e12:upd H11 D8 (.lst (rs.map V.ref++[.ref u])) D8=some (.lst ((rs++[u]).map V.ref)):=by rw [jd,List.map_append];rfl
   generalize upd H11 D8 (.lst (rs.map V.ref++[.ref u]))=H12 at s12 e12
   have sA:=Same.trans s9' s12
   have sB:=Same.trans s8 sA
   have na:Vm H12 u g ((("last":Str),mY.drop (m - 1)):jy):=⟨s12 _ _ (s11 _ _ e10),us7.drop (m - 1),s12 _ _ (s11 _ _ (s10 _ _ e9)),(C7.drop (m - 1)).same sB⟩
   exact hB _ _ ⟨D8,rs++[u],ls8++[g],rfl,sB.seq ha7,I7.same sB,⟨sB _ _ e67,C67.same sB,by decide,lR,e12,(N8.same sA).snoc na,by rw [fe m (by omega)];omega,fF m m4,by have:=(Nd m m4).2;omega⟩⟩
  rintro _ H8 ⟨D8,ns8,ls8,rfl,ha8,I8,J8⟩
  refine VS [oR a,oR c,oR D,oR E0,some (.int (m:Int)),none,oR D6,oR D7,oR D8] (fun H'=>jl K H' a (sc.map V.int)∧In H' D E0 ps xs ns ls ys) (fun B hB=>⟨_,rfl,_,_,rfl,rfl,_,rfl,uk (fun h24=>?_) fun h24=>?_⟩) ?_
  ·exact⟨_,rfl,_,rfl,D6,D8,ps6,kA,ns8,ls8,gg m,rfl,J8,ir m (by omega),w4,fun H9 s9=>⟨true,rfl,U1 ⟨_,rfl,_,_,rfl,rfl,_,rfl,uk (fun h=>absurd h (by omega)) fun _=>U1 (hB _ ⟨s9.seq ha8,I8.same s9⟩)⟩⟩⟩
  ·exact U1 ⟨_,rfl,_,_,rfl,rfl,_,rfl,uk (fun h=>⟨_,rfl,_,rfl,D6,D8,ps6,kA,ns8,ls8,gg m,rfl,J8,fun g=>absurd g.few2 (by rw [fe m (by omega)];omega),fun H9 s9=>⟨true,rfl,U1 (hB _ ⟨s9.seq ha8,I8.same s9⟩)⟩⟩) fun h=>absurd h (by omega)⟩
  rintro H9 ⟨ha9,I9⟩
  refine U9 (fun (c:Addr)=>[oR a,oR c,oR D,oR E0,some (.int (m:Int)),none,oR D6,oR D7,oR D8]) (fun c H'=>jS H' c∧In H' D E0 ps xs ns ls ys) (fun B hB=>⟨_,rfl,a,sc,3,rfl,ha9,by decide,by decide,hsc,fun c m k hc=>hB c _ ⟨⟨_,_,_,jd⟩,I9.same (jf (Same.refl H9) hc)⟩⟩) ?_
  clear W5 W4 W3 W2 W1 nac
  rintro c H10 ⟨W10,I10⟩
  refine Jb (fun σ H'=>∃(v5:Option V) (D E:Addr) (ps:oB) (xs:List jJ) (ns ls:oB) (ys:List jy),σ=[oR a,oR c,oR D,oR E,some (.int (m:Int)),v5,oR D6,oR D7,oR D8]∧In H' D E ps xs ns ls ys∧∀x∈xs,G9 x) (fun B hB=>⟨_,rfl,c,2,rfl,W10,by decide,by decide,fun r H11 h0 h2 W11 k11=>?_⟩) ?_
  ·obtain⟨r2,hr2,rfl⟩:=vj (n:=2) h0 h2
   refine⟨1,(r2:Int),rfl,rfl,1+(r2:Int),rfl,by omega,by omega,ZK (lo:=0) (n:=(1+(r2:Int)).toNat) (fun i σ H'=>∃(v5:Option V) (D E:Addr) (ps:oB) (xs:List jJ) (ns ls:oB) (ys:List jy),σ=[oR a,oR c,oR D,oR E,some (.int (m:Int)),v5,oR D6,oR D7,oR D8]∧jS H' c∧In H' D E ps xs ns ls ys∧(∀x∈xs,G9 x)∧xs.length≤9∧ys.length≤bB i∧(jt ys).length≤bT i) ⟨_,D,E0,ps,xs,ns,ls,ys,rfl,W11,I10.draw W10 k11,fun x hx=>?_,by omega,l7,tl⟩ ?_ ?_⟩
   ·obtain⟨g1,g2,g3,g4⟩:=gx x hx
    obtain⟨n,hn,_⟩:=zx g1
    exact⟨g3,g4,by rw [hn];rfl,g2,n,by rw [hn];rfl,by omega⟩
   ·clear I10 I9 I8 I7 I6 I5 I4 I3 G l7 tl C eD gx nd lx W11 k11 D E0 ps xs ns ls ys W10
    rintro i σ H12 hi ⟨v5,D,E,ps,xs,ns,ls,ys,rfl,W12,I12,ok,lx,ly,lt⟩
    obtain⟨b1,b2,b3,b4,b5,b6,b7,b8⟩:=lQ i (by omega)
    refine⟨_,rfl,vT,fun g0 hg0=>?_⟩
    have s0:=jf (o:=.lst []) (Same.refl H12) hg0
    have e0:upd H12 g0 (.lst []) g0=some (.lst []):=jd
    generalize upd H12 g0 (.lst [])=H13 at s0 e0
    have I13:=I12.same s0
    have W13:=W12.sm s0
    refine⟨D,g0,_,rfl,rfl,jl.of I13.ha,jl.of e0,_,rfl,Uz (fun hn=>⟨_,rfl,c,2,rfl,W13,by decide,by decide,fun r5 H14 h0 h2 W14 k14=>?_⟩) fun _=>U1 ?_⟩
    ·have I14:=I13.draw W13 k14
     refine⟨rfl,_,rfl,uk (fun _=>?_) fun _=>?_⟩
     ·refine⟨_,rfl,_,rfl,_,rfl,c,D,E,ps,xs,ns,ls,ys,rfl,W14,W14.nr I14.ha,W14.nr I14.hb,I14.N.nw W14,I14.ha,I14.C,fun z=>?_,by omega,I14.hb,I14.N,by omega,by omega,ok,I14.len2,fun D' D1 D2 ps' xs' ns' ls' ys' H' k' W' eT e1 e2 n1 n2 nl C' N' ok' oky' lx' ly' lt'=>?_⟩
      ·have:=I14.C.1
       rw [z] at this
       rw [List.eq_nil_of_length_eq_zero this] at hn
       cases hn
      ·have l9:xs'.length≤9:=by rcases lx' with h|h<;>omega
       exact⟨D',_,rfl,Ji.of eT,rfl,_,_,rfl,_,_,rfl,rfl,_,D1,D2,ps',xs',ns',ls',ys',rfl,W',⟨e1,C',by omega,fun x hx=>⟨(ok' x hx).1,(ok' x hx).2.1,(ok' x hx).2.2.1⟩,e2,N',by omega,oky',by omega⟩,ok',l9,by omega,by omega⟩
     ·refine⟨_,rfl,vT,fun g hg=>?_⟩
      have s1:=jf (o:=.lst []) (Same.refl H14) hg
      have e1:upd H14 g (.lst []) g=some (.lst []):=jd
      generalize upd H14 g (.lst [])=Hx at s1 e1
      have Ix:=I14.same s1
      have Wx:=W14.sm s1
      refine⟨E,g,_,rfl,rfl,jl.of Ix.hb,jl.of e1,_,rfl,Uz (fun hn=>?_) fun _=>⟨_,D,E,ps,xs,ns,ls,ys,rfl,Wx,Ix,ok,lx,by omega,by omega⟩⟩
      refine⟨_,rfl,_,rfl,c,E,ns,ls,ys,rfl,Wx,Wx.nr Ix.hb,Ix.N.nw Wx,Ix.hb,Ix.N,fun z=>?_,by omega,by omega,Ix.len2,fun D' ns' ls' ys' H' k' W' nD nl e' N' oky' ly' lt'=>?_⟩
      ·have:=Ix.N.1
       rw [z] at this
       rw [List.eq_nil_of_length_eq_zero this] at hn
       cases hn
      ·have Iy:=Ix.draw Wx k'
       exact⟨_,D,D',ps,xs,ns',ls',ys',rfl,W',⟨Iy.ha,Iy.C,Iy.few,Iy.len,e',N',by omega,oky',by omega⟩,ok,lx,by omega,by omega⟩
    ·refine⟨_,rfl,vT,fun g hg=>?_⟩
     have s1:=jf (o:=.lst []) (Same.refl H13) hg
     have e1:upd H13 g (.lst []) g=some (.lst []):=jd
     generalize upd H13 g (.lst [])=Hx at s1 e1
     have Ix:=I13.same s1
     have Wx:=W13.sm s1
     refine⟨E,g,_,rfl,rfl,jl.of Ix.hb,jl.of e1,_,rfl,Uz (fun hn=>?_) fun _=>⟨_,D,E,ps,xs,ns,ls,ys,rfl,Wx,Ix,ok,lx,by omega,by omega⟩⟩
     refine⟨_,rfl,_,rfl,c,E,ns,ls,ys,rfl,Wx,Wx.nr Ix.hb,Ix.N.nw Wx,Ix.hb,Ix.N,fun z=>?_,by omega,by omega,Ix.len2,fun D' ns' ls' ys' H' k' W' nD nl e' N' oky' ly' lt'=>?_⟩
     ·have:=Ix.N.1
      rw [z] at this
      rw [List.eq_nil_of_length_eq_zero this] at hn
      cases hn
     ·have Iy:=Ix.draw Wx k'
      exact⟨_,D,D',ps,xs,ns',ls',ys',rfl,W',⟨Iy.ha,Iy.C,Iy.few,Iy.len,e',N',by omega,oky',by omega⟩,ok,lx,by omega,by omega⟩
   ·rintro σ H12 ⟨v5,D,E,ps,xs,ns,ls,ys,rfl,W12,I12,ok,lx,ly,lt⟩
    exact hB _ _ ⟨v5,D,E,ps,xs,ns,ls,ys,rfl,I12,ok⟩
  clear I10 I9 I8 I7 I6 I5 I4 I3 G l7 tl C eD gx nd lx W10 D E0 ps xs ns ls ys
  rintro _ H11 ⟨v5,D,E1,ps,xs,ns,ls,ys,rfl,I11,ok⟩
  refine VS [oR a,oR c,oR D,oR E1,some (.int (m:Int)),v5,oR D6,oR D7,oR D8] (fun H'=>In H' D E1 ps xs ns ls ys∧¬vy xs ys) (fun B hB=>⟨_,rfl,_,rfl,D,E1,ps,xs,ns,ls,ys,rfl,I11,fun g H12 s12=>⟨true,rfl,Uu ⟨_,rfl,_,rfl,D,E1,ps,xs,ns,ls,ys,rfl,I11.same s12,g,fun x hx=>(ok x hx).2.2.2.1,fun H' _=>q H'⟩⟩,fun g H12 s12=>⟨false,rfl,U1 (hB _ ⟨I11.same s12,g⟩)⟩⟩) ?_
  rintro H12 ⟨I12,g⟩
  exact⟨_,rfl,_,rfl,D,E1,ps,xs,ns,ls,ys,rfl,I12,g,fun H' _=>q H'⟩
end
end K41
namespace K41
open PySem L2 Wd TS STb
section
variable {P:oM}{w:World}{K:oq}{mg:ox}{base:Heap}{t:Adr}
theorem law_fn (T:Txt K mg t) {h:Heap} (KX:K.In h) (hT:∀p∈[t.jZ],h.get? p=some (tabObj #[])):∃(fd:FuncData) (tabs:oB),(∀(s:Shared) (u:Value),BindsTo s fd ⟨[u],[]⟩ [("_law_script",u)])∧(∀p∈tabs,isCodeTable h p∧h.get? p=some (tabObj #[])∧K.lookup p=none) ∧
  ∀base:Heap,K.In base→base.Ns mainGlobals mg→zX mg base→vB P w K mg base (XC P w) 10 t.Vr fd ["_law_script"] (K3 K tabs):=by
 obtain⟨fd,F,b⟩:=T.bU
 refine⟨fd,gb t,b,fun p hp=>⟨?_,hT p hp,?_⟩,fun base _ _ hB=>fc T hB F⟩
 ·obtain rfl:p=t.jZ:=by simpa [gb] using hp
  exact ((codeHd_of_K KX T.zC).tab (hT _ hp)).isCodeTable
 ·obtain rfl:p=t.jZ:=by simpa [gb] using hp
  exact T.vv
end
theorem walk {l:PySem.W.OpenLaw}{q:oM}{loose:oG}{XP:(Str→Option Value)→Heap→Prop}{YP:World→Heap→Prop}{d:DefRec}{K:Params→Frag} (hn:l.most=some 63) (hdf:d.params.defaults=[])
  (hY:∀(w:World) (h:Heap),YP w h→(K w.params).In h)
  (F:∀(w:World) (mg:ox) (fa:Addr) (h:Heap),YP w h→(K w.params).In h→h.Ns mainGlobals mg→mg d.name=some (.ref fa) →
   ∃(fd:FuncData) (tabs:oB),(∀(s:Shared) (u:Value),BindsTo s fd ⟨[u],[]⟩ [("_law_script",u)])∧(∀p∈tabs,isCodeTable h p∧h.get? p=some (tabObj #[])∧(K w.params).lookup p=none) ∧
    ∀base:Heap,(K w.params).In base→base.Ns mainGlobals mg→zX mg base→vB l.prog w (K w.params) mg base (XC l.prog w) 10 fa fd ["_law_script"] (K3 (K w.params) tabs)) :
  PySem.W.WalkO q loose XP YP l.row.toRowW d [] (fun f vs=>PySem.call f vs) :=
 L2.walk_ofT (n:=63) (k:=10) (x:="_law_script") (sp:=K3) hn (by decide) hdf ⟨fun _=>rfl,by decide,by decide⟩ hY F fun K tabs H a ns hl hS hT=>⟨a,ns,rfl,hS,hl,hT,fun _=>rfl⟩
end K41
open PySem PySem.W PyProof.Rows
set_option maxRecDepth 100000 in
set_option maxHeartbeats 0 in
theorem PySem.Challenge.cw_copperbook_k41_what_is_a_drawing_holds : PySem.Challenge.rw_copperbook_k41_what_is_a_drawing.Holds := by
 w_on;o_law;k_head;(case hw=>w_witness2)
 k_fill
 refine K41.walk (l:=PySem.Challenge.rw_copperbook_k41_what_is_a_drawing) rfl rfl (fun w h Y=>PySem.W.km_in_of Y) ?F
 case F =>
  intro w mg fa h Y KX G hmg
  have hT8:=PySem.W.km_tabs_of Y
  have TT:∃t:K41.Adr,K41.Txt (L2.KOf KX) mg t∧∀p∈[t.jZ],h.get? p=some (tabObj #[]):=by
   dsimp only [L2.KOf]
   refine' K41.txt_mk KX G ?Vb ?pg_Drawing ?hd_Drawing ?po_Drawing ?sa_Drawing ?mk_Drawing ?kc_Drawing ?Jx ?JL ?uD ?Jr ?a_is_whole ?l_is_whole ?cc_is_whole ?k_is_whole ?a_part_kinds ?l_part_kinds ?cc_part_kinds ?k_part_kinds ?a_joined_pins ?l_joined_pins ?cc_joined_pins ?k_joined_pins ?a_part_pins ?l_part_pins ?cc_part_pins ?k_part_pins ?a_need_rows ?l_need_rows ?cc_need_rows ?k_need_rows ?a_need_part ?l_need_part ?cc_need_part ?k_need_part ?a_need_net ?l_need_net ?cc_need_net ?k_need_net ?a_is_pin ?l_is_pin ?cc_is_pin ?k_is_pin ?a_is_name ?l_is_name ?cc_is_name ?k_is_name ?a_law_cell ?l_law_cell ?cc_law_cell ?k_law_cell ?a_law_mixed ?l_law_mixed ?cc_law_mixed ?k_law_mixed ?a_law_twice ?l_law_twice ?cc_law_twice ?k_law_twice ?a_law_well ?l_law_well ?cc_law_well ?k_law_well ?a_law_draw ?l_law_draw ?cc_law_draw ?k_law_draw ?a_law_parts ?l_law_parts ?cc_law_parts ?k_law_parts ?a_law_nets ?l_law_nets ?cc_law_nets ?k_law_nets ?ko_law_nets ?kp_law_nets ?ch_law_nets ?vv ?tb_law_nets ?a_law_renamed ?l_law_renamed ?cc_law_renamed ?k_law_renamed ?a_law_counted ?l_law_counted ?cc_law_counted ?k_law_counted ?a_law_crowd ?l_law_crowd ?cc_law_crowd ?k_law_crowd ?a_law_bad_part ?l_law_bad_part ?cc_law_bad_part ?k_law_bad_part ?a_law_bad_net ?l_law_bad_net ?cc_law_bad_net ?k_law_bad_net ?a_law_is_name ?l_law_is_name ?cc_law_is_name ?k_law_is_name ?a_law_unlike ?l_law_unlike ?cc_law_unlike ?k_law_unlike ?a_law_good ?l_law_good ?cc_law_good ?k_law_good ?a_law_refused ?l_law_refused ?cc_law_refused ?k_law_refused ?a_law_no_pin ?l_law_no_pin ?cc_law_no_pin ?k_law_no_pin ?a_law_right ?l_law_right ?cc_law_right ?k_law_right ?a_Drawing_init ?i_Drawing_init ?l_Drawing_init ?cc_Drawing_init ?k_Drawing_init ?a_Drawing_pins ?i_Drawing_pins ?l_Drawing_pins ?cc_Drawing_pins ?k_Drawing_pins ?a_Drawing_net_of ?i_Drawing_net_of ?l_Drawing_net_of ?cc_Drawing_net_of ?k_Drawing_net_of ?a_Drawing_has_pin ?i_Drawing_has_pin ?l_Drawing_has_pin ?cc_Drawing_has_pin ?k_Drawing_has_pin ?a_law ?l_law ?cc_law ?k_law ?UC ?Vg ?Vd ?Vf ?UN ?Ve ?x_NoDrawing ?ga_NoDrawing ?gt_NoDrawing ?gc_NoDrawing ?ge_NoDrawing ?gk_NoDrawing ?mo_NoDrawing ?mb_NoDrawing ?x_NoPin ?ga_NoPin ?gt_NoPin ?gc_NoPin ?ge_NoPin ?gk_NoPin ?mo_NoPin ?mb_NoPin ?Jo ?Ur ?Jt ?U2 ?jT ?Za ?zi ?Vt ?u5 ?Vi ?ue ?uO ?uR ?Zb ?z8 ?gw ?uM ?U0 ?UM ?vq ?Vc ?vF
   (case Vb=>k_is)
   (case pg_Drawing=>k_is)
   (case hd_Drawing=>k_is)
   (case po_Drawing=>k_is)
   (case sa_Drawing=>k_is)
   (case mk_Drawing=>k_is)
   (case kc_Drawing=>k_is)
   (case Jx=>k_is)
   (case JL=>k_is)
   (case uD=>k_is)
   (case Jr=>k_is)
   (case a_is_whole=>k_is)
   (case l_is_whole=>k_is)
   (case cc_is_whole=>k_is)
   (case k_is_whole=>k_is)
   (case a_part_kinds=>k_is)
   (case l_part_kinds=>k_is)
   (case cc_part_kinds=>k_is)
   (case k_part_kinds=>k_is)
   (case a_joined_pins=>k_is)
   (case l_joined_pins=>k_is)
   (case cc_joined_pins=>k_is)
   (case k_joined_pins=>k_is)
   (case a_part_pins=>k_is)
   (case l_part_pins=>k_is)
   (case cc_part_pins=>k_is)
   (case k_part_pins=>k_is)
   (case a_need_rows=>k_is)
   (case l_need_rows=>k_is)
   (case cc_need_rows=>k_is)
   (case k_need_rows=>k_is)
   (case a_need_part=>k_is)
   (case l_need_part=>k_is)
   (case cc_need_part=>k_is)
   (case k_need_part=>k_is)
   (case a_need_net=>k_is)
   (case l_need_net=>k_is)
   (case cc_need_net=>k_is)
   (case k_need_net=>k_is)
   (case a_is_pin=>k_is)
   (case l_is_pin=>k_is)
   (case cc_is_pin=>k_is)
   (case k_is_pin=>k_is)
   (case a_is_name=>k_is)
   (case l_is_name=>k_is)
   (case cc_is_name=>k_is)
   (case k_is_name=>k_is)
   (case a_law_cell=>k_is)
   (case l_law_cell=>k_is)
   (case cc_law_cell=>k_is)
   (case k_law_cell=>k_is)
   (case a_law_mixed=>k_is)
   (case l_law_mixed=>k_is)
   (case cc_law_mixed=>k_is)
   (case k_law_mixed=>k_is)
   (case a_law_twice=>k_is)
   (case l_law_twice=>k_is)
   (case cc_law_twice=>k_is)
   (case k_law_twice=>k_is)
   (case a_law_well=>k_is)
   (case l_law_well=>k_is)
   (case cc_law_well=>k_is)
   (case k_law_well=>k_is)
   (case a_law_draw=>k_is)
   (case l_law_draw=>k_is)
   (case cc_law_draw=>k_is)
   (case k_law_draw=>k_is)
   (case a_law_parts=>k_is)
   (case l_law_parts=>k_is)
   (case cc_law_parts=>k_is)
   (case k_law_parts=>k_is)
   (case a_law_nets=>k_is)
   (case l_law_nets=>k_is)
   (case cc_law_nets=>k_is)
   (case k_law_nets=>k_is)
   (case ko_law_nets=>k_is)
   (case kp_law_nets=>exact rfl)
   (case ch_law_nets=>kernel_rfl)
   (case vv=>kernel_rfl)
   (case tb_law_nets=>exact hT8 _ (by decide))
   (case a_law_renamed=>k_is)
   (case l_law_renamed=>k_is)
   (case cc_law_renamed=>k_is)
   (case k_law_renamed=>k_is)
   (case a_law_counted=>k_is)
   (case l_law_counted=>k_is)
   (case cc_law_counted=>k_is)
   (case k_law_counted=>k_is)
   (case a_law_crowd=>k_is)
   (case l_law_crowd=>k_is)
   (case cc_law_crowd=>k_is)
   (case k_law_crowd=>k_is)
   (case a_law_bad_part=>k_is)
   (case l_law_bad_part=>k_is)
   (case cc_law_bad_part=>k_is)
   (case k_law_bad_part=>k_is)
   (case a_law_bad_net=>k_is)
   (case l_law_bad_net=>k_is)
   (case cc_law_bad_net=>k_is)
   (case k_law_bad_net=>k_is)
   (case a_law_is_name=>k_is)
   (case l_law_is_name=>k_is)
   (case cc_law_is_name=>k_is)
   (case k_law_is_name=>k_is)
   (case a_law_unlike=>k_is)
   (case l_law_unlike=>k_is)
   (case cc_law_unlike=>k_is)
   (case k_law_unlike=>k_is)
   (case a_law_good=>k_is)
   (case l_law_good=>k_is)
   (case cc_law_good=>k_is)
   (case k_law_good=>k_is)
   (case a_law_refused=>k_is)
   (case l_law_refused=>k_is)
   (case cc_law_refused=>k_is)
   (case k_law_refused=>k_is)
   (case a_law_no_pin=>k_is)
   (case l_law_no_pin=>k_is)
   (case cc_law_no_pin=>k_is)
   (case k_law_no_pin=>k_is)
   (case a_law_right=>k_is)
   (case l_law_right=>k_is)
   (case cc_law_right=>k_is)
   (case k_law_right=>k_is)
   (case a_Drawing_init=>k_is)
   (case i_Drawing_init=>k_is)
   (case l_Drawing_init=>k_is)
   (case cc_Drawing_init=>k_is)
   (case k_Drawing_init=>k_is)
   (case a_Drawing_pins=>k_is)
   (case i_Drawing_pins=>k_is)
   (case l_Drawing_pins=>k_is)
   (case cc_Drawing_pins=>k_is)
   (case k_Drawing_pins=>k_is)
   (case a_Drawing_net_of=>k_is)
   (case i_Drawing_net_of=>k_is)
   (case l_Drawing_net_of=>k_is)
   (case cc_Drawing_net_of=>k_is)
   (case k_Drawing_net_of=>k_is)
   (case a_Drawing_has_pin=>k_is)
   (case i_Drawing_has_pin=>k_is)
   (case l_Drawing_has_pin=>k_is)
   (case cc_Drawing_has_pin=>k_is)
   (case k_Drawing_has_pin=>k_is)
   (case a_law=>k_is)
   (case l_law=>k_is)
   (case cc_law=>k_is)
   (case k_law=>k_is)
   (case UC=>k_is)
   (case Vg=>k_is)
   (case Vd=>k_is)
   (case Vf=>k_is)
   (case UN=>k_is)
   (case Ve=>k_is)
   (case x_NoDrawing=>k_exc)
   (case ga_NoDrawing=>k_is)
   (case gt_NoDrawing=>k_is)
   (case gc_NoDrawing=>k_is)
   (case ge_NoDrawing=>k_is)
   (case gk_NoDrawing=>k_is)
   (case mo_NoDrawing=>k_is)
   (case mb_NoDrawing=>k_is)
   (case x_NoPin=>k_exc)
   (case ga_NoPin=>k_is)
   (case gt_NoPin=>k_is)
   (case gc_NoPin=>k_is)
   (case ge_NoPin=>k_is)
   (case gk_NoPin=>k_is)
   (case mo_NoPin=>k_is)
   (case mb_NoPin=>k_is)
   (case Jo=>kts_exm)
   (case Ur=>kts_exm)
   (case Jt=>kit_is)
   (case U2=>kit_is)
   (case jT=>k_is)
   (case Za=>k_is)
   (case zi=>k_is)
   (case Vt=>k_is)
   (case u5=>k_is)
   (case Vi=>k_is)
   (case ue=>k_is)
   (case uO=>k_is)
   (case uR=>k_is)
   (case Zb=>k_is)
   (case z8=>k_is)
   (case gw=>k_is)
   (case uM=>k_is)
   (case U0=>k_is)
   (case UM=>k_is)
   (case vq=>k_is)
   (case Vc=>k_is)
   (case vF=>k_is)
  obtain⟨t,T,hT⟩:=TT
  have e:=hmg.symm.trans T.ck
  cases e
  exact K41.law_fn T KX hT
