import PyProof.Rows.All
import Wide.All
import OpenK.AllK
import Wide.FinOn
import PyProof.Seq
import PyProof.RangeIter
import PyProof.TupleIter
import PyProof.StrLoop
import PyProof.WalkInts
import PyProof.StationsW
import PyProof.ZipIter
import PyProof.ListNew
import Lean
import PyProof.EqAt
import PyProof.EqKinds
import PyProof.TupleCall
import PyProof.NeKinds
import KE.IntTextLaws
import KE.KIntText
import PyProof.Draws
import PyProof.EnumMake
import PyProof.EnumFor
import PyProof.NsDelKeeps
import PyProof.Rows.StrFit
import PyProof.Rows.SortShellK
import PyProof.DictKinds
import KE.KDictList
import PyProof.DictWalks
import KE.KEqDict
import PyProof.RaisesDict
import PySem.SetOps
import PyProof.FactsAll.set_1
import PyProof.FactsAll.set_2
import PyProof.LongRange
import PyProof.MaxThree
import PySem.Challenge.RW_copperbook_k03_shapes_as_texts
set_option Elab.async false
set_option linter.all false
set_option maxRecDepth 100000
/- These names keep the theorem's opening from writing out equations that only make the build larger: what is built must stay
   below 64 MiB. They say nothing and are used nowhere. -/
namespace PySem.W.Fast
def tw4205253784831951597:=0
def tw1863772984879188499:=0
def tw18350351790950384530:=0
def tw9645819410932012443:=0
def tw16621175559232716379:=0
def te13955809036377344438:=0
def tw6376263355821756681:=0
def tw13980423299178925893:=0
def tw5339272919552226043:=0
def tw3703263646732555226:=0
def tw3746479534147002899:=0
def tw6843610675893254345:=0
def tw10224635249262494505:=0
def tw16179574739173651019:=0
def tw4869967279648508855:=0
def tw14004487620646109300:=0
def tw4194906327353336892:=0
def tw6051556140182468043:=0
def tw754300890897070422:=0
def tw16345206983103310210:=0
def tw7571307999930385706:=0
def tw4554431433256004991:=0
def tw8845516007952283460:=0
def tw14637719678883431391:=0
def tw11239510596934325386:=0
def tw2877598161630435961:=0
def tw1443323912721123477:=0
def tw2199474541458095058:=0
def tw7786803201485416697:=0
def tw15420430853446969590:=0
def tw8296824520589245911:=0
def tw4556758004079249695:=0
def tw8358323328463407420:=0
def tw1613203319902889610:=0
def tw8686186817242779429:=0
def tw200774965929497218:=0
def tw10641120471367594152:=0
def tw10087053848367064875:=0
def tw13377931917568278740:=0
def tw2473935847092588669:=0
def tw16584603763436345143:=0
def tw9422867033912070147:=0
def tw15062038980493182163:=0
def tw14364519190398902225:=0
def tw12845604645177452425:=0
def tw13706482974946427639:=0
def tw14439299908984436533:=0
def tw15059068925943419041:=0
def tw4653959059513254328:=0
def tw3577715801634778190:=0
def tw722581216385592819:=0
def tw7645078506672185020:=0
def tw16286837335500054769:=0
def tw8632129082128754431:=0
def tw13549880196065385240:=0
def tw12373414113698294645:=0
def tw12611470730637887550:=0
def tw10450209802167053383:=0
def tw756293310084862635:=0
def tw10390579843202903298:=0
def tw5521697895940970516:=0
def tw9659165507511632058:=0
def tw15256794333680568170:=0
def tw1495629807423128705:=0
def tw16964334866472514636:=0
def tw17804178581471237784:=0
def tw9066953354236486327:=0
def tw18040106862130178003:=0
def tw1695686669172534269:=0
def tw5516216832821571760:=0
def tw16396271342875003870:=0
def tw4091126338388855417:=0
def tw4372602592590880349:=0
def tw2650917273014244698:=0
def tw16556110142281343498:=0
def tw10418693936778797392:=0
def tw4797810080665963450:=0
def tw18249134969849593683:=0
def tw4218061389837697413:=0
def tw8474144473798627280:=0
end PySem.W.Fast
namespace L2
open PySem
inductive Chn (h:Heap) (D:List Addr):Value→Prop
 | nil:Chn h D .none
 | cons {b:Addr} {ob:Obj} {us:Array Value} {c:Value}:b∈D→h.get? b = some ob→ob.data = .fields us→us[2]? = some c→Chn h D c→Chn h D (.ref b)
theorem Chn.kept {h h':Heap} {D D':List Addr} {v:Value} (n:Chn h D v) (k:∀ b∈D,∀ o,h.get? b = some o→h'.get? b = some o) (d:∀ b∈D,b∈D'):Chn h' D' v:=by
 induction n with
 | nil => exact .nil
 | cons q1 q2 q3 q4 _ ih => exact .cons (d _ q1) (k _ q1 _ q2) q3 q4 ih
theorem Chn.small {h:Heap} {D:List Addr} {v:Value} (n:Chn h D v):∃ D',Chn h D' v∧∀ b∈D',∃ (o:Obj) (us:Array Value),h.get? b = some o∧o.data = .fields us∧2 < us.size:=by
 induction n with
 | nil => exact ⟨[],.nil,fun b hb => absurd hb (by simp)⟩
 | @cons b ob us c q1 q2 q3 q4 _ ih =>
  obtain ⟨D',m,l⟩:=ih
  refine ⟨b :: D',.cons (by simp) q2 q3 q4 (m.kept (fun _ _ _ e => e) fun d hd => List.mem_cons_of_mem _ hd),fun d hd => ?_⟩
  rcases List.mem_cons.mp hd with rfl | hd
  ·exact ⟨ob,us,q2,q3,(Array.getElem?_eq_some_iff.mp q4).1⟩
  ·exact l d hd
def HdL (A:Around) (h:Heap) (D:List Addr):Prop:=A.handled = none∨∃ ea:Addr,A.handled = some (.ref ea)∧Chn h D (.ref ea)
def HdN (A:Around) (h:Heap):Prop:=∃ D,HdL A h D
theorem HdL.keptD {A:Around} {h h':Heap} {D:List Addr} (n:HdL A h D) (k:∀ b∈D,∀ o,h.get? b = some o→h'.get? b = some o):HdL A h' D:=by
 rcases n with z | ⟨ea,h1,h2⟩
 ·exact .inl z
 ·exact .inr ⟨ea,h1,h2.kept k fun _ q => q⟩
theorem HdN.small {A:Around} {h:Heap} (n:HdN A h):∃ D,HdL A h D∧∀ b∈D,∃ (o:Obj) (us:Array Value),h.get? b = some o∧o.data = .fields us∧2 < us.size:=by
 obtain ⟨D,n⟩:=n
 rcases n with z | ⟨ea,h1,h2⟩
 ·exact ⟨[],.inl z,fun b hb => absurd hb (by simp)⟩
 ·obtain ⟨D',m,l⟩:=h2.small
  exact ⟨D',.inr ⟨ea,h1,m⟩,l⟩
theorem HdN.but {A:Around} {h h':Heap} {it:Addr} (n:HdN A h) (k:Heap.SameBut it h h') (ne:∃ (o:Obj) (us:Array Value),h.get? it = some o∧o.data = .fields us∧us.size≤2):HdN A h':=by
 obtain ⟨D,n,l⟩:=n.small
 refine ⟨D,n.keptD fun b hb o e => (k.2 b fun q => ?_).trans e⟩
 obtain ⟨o1,us1,e1,e2,e3⟩:=l b hb
 obtain ⟨o2,us2,f1,f2,f3⟩:=ne
 rw [q,f1] at e1; cases e1
 rw [f2] at e2; cases e2
 omega
theorem entry_unchain:entryFor table "proto.unchain" = some Builtin.«proto.unchain»:=entryFor_of_tree (by kernel_rfl)
section
variable {prog:Program} {w:World} {A:Around} {E:Value→Shared→Prop} {s:Shared}
inductive Pth (h:Heap):Addr→Addr→Prop
 | refl (a:Addr):Pth h a a
 | step {a b o:Addr} {ob:Obj} {us:Array Value}:h.get? a = some ob→ob.data = .fields us→us[2]? = some (.ref b)→Pth h b o→Pth h a o
theorem Pth.snoc {h:Heap} {a o b:Addr} {ob:Obj} {us:Array Value} (p:Pth h a o) (h1:h.get? o = some ob) (h2:ob.data = .fields us) (h3:us[2]? = some (.ref b)):Pth h a b:=by
 induction p with
 | refl a => exact .step h1 h2 h3 (.refl b)
 | step q1 q2 q3 _ ih => exact .step q1 q2 q3 (ih h1)
def Far (h:Heap) (a o:Addr):Prop:=∃ (b:Addr) (ob:Obj) (us:Array Value),h.get? a = some ob∧ob.data = .fields us∧us[2]? = some (.ref b)∧Pth h b o
theorem Pth.far {h:Heap} {a o b:Addr} {ob:Obj} {us:Array Value} (p:Pth h a o) (h1:h.get? o = some ob) (h2:ob.data = .fields us) (h3:us[2]? = some (.ref b)):Far h a b:=by
 cases p with
 | refl => exact ⟨b,ob,us,h1,h2,h3,.refl b⟩
 | step q1 q2 q3 p => exact ⟨_,_,_,q1,q2,q3,p.snoc h1 h2 h3⟩
theorem unchain_on {e:Addr} {D:List Addr} {R:Result→Shared→Prop} (new:e ∉ D) (h:R (.ok (.ret .none)) s) {v:Value} (n:Chn s.heap D v):∀ (o slow:Addr) (tg:Bool),v = .ref o→Pth s.heap slow o→(tg = true→Far s.heap slow o) →
  codeAny (model prog w) A (.builtin "proto.unchain" ⟨[.ref e,.ref o,.ref slow,.bool tg],[]⟩) R s:=by
 induction n with
 | nil => intro o slow tg q; cases q
 | @cons b ob us c q1 q2 q3 q4 m ih =>
  intro o slow tg q p far
  cases q
  refine codeAny_builtin entry_unchain ?_
  unfold Builtin.«proto.unchain»
  dsimp only
  refine wpAny_bind (wpAny_field q2 q3 (x:=c) q4 ?_)
  cases m with
  | nil => exact wpAny_pure h
  | @cons b2 ob2 us2 c2 r1 r2 r3 r4 m2 =>
   have nbe:b2≠e:=fun q => new (q▸r1)
   rw [if_neg (show ¬ ((Value.ref b2 == Value.none) = true) from Bool.false_ne_true),if_neg (show ¬ ((Value.ref b2 == Value.ref e) = true) by simpa using nbe)]
   by_cases hs:b2 = slow
   ·subst hs
    rw [if_pos (by simp)]
    exact wpAny_bind (wpAny_rule (wpAny_pure h))
   ·rw [if_neg (show ¬ ((Value.ref b2 == Value.ref slow) = true) by simpa using hs)]
    cases tg with
    | false => exact wpAny_bind (wpAny_pure (wpAny_pure ⟨Code.quiet_builtin _ (by decide +kernel),ih b2 slow true rfl (p.snoc q2 q3 q4) fun _ => p.far q2 q3 q4⟩))
    | true =>
     obtain ⟨b3,ob3,us3,f1,f2,f3,p3⟩:=far rfl
     exact wpAny_bind (wpAny_field f1 f2 (x:=.ref b3) f3 (wpAny_pure ⟨Code.quiet_builtin _ (by decide +kernel),ih b2 b3 false rfl (p3.snoc q2 q3 q4) fun z => by cases z⟩))
theorem raise_on {α:Type} {Q:α→Shared→Prop} {e:Addr} {oe:Obj} {vs:Array Value} {D:List Addr} (hn:HdL A s.heap D) (he:s.heap.get? e = some oe) (hd:oe.data = .fields vs) (h2:2 < vs.size)
  (new:e ∉ D)
  (h:∀ h',(h' = s.heap∧A.handled = none)∨(∃ ea,A.handled = some (.ref ea)∧h' = s.heap.update e (Obj.mapFields (·.setIfInBounds 2 (.ref ea))))→Heap.SameBut e s.heap h'→(∃ o,h'.get? e = some o∧o.cls = oe.cls)→E (.ref e) { s with heap:=h' }):wpAny (model prog w) A (raiseNew (.ref e):Sem α) Q E s:=by
 unfold raiseNew
 refine wpAny_bind (wpAny_handled ?_)
 rcases hn with z | ⟨ea,z,n⟩
 ·rw [z]
  exact wpAny_bind (wpAny_pure (wpAny_throw (h s.heap (.inl ⟨rfl,z⟩) ⟨rfl,fun _ _ => rfl⟩ ⟨oe,he,rfl⟩)))
 ·have ne:ea≠e:=fun q => by cases n with | cons q1 => exact new (q▸q1)
  rw [z]
  dsimp only
  have hne:(Value.ref ea != Value.ref e) = true:=by
   rw [bne_iff_ne]; intro q; exact ne (Value.ref.inj q)
  rw [hne]
  have wf:∀ {P:Unit→Shared→Prop},P () { s with heap:=s.heap.update e (Obj.mapFields (·.setIfInBounds 2 (.ref ea))) }→wpAny (model prog w) A (updateField e 2 (.ref ea)) P E s:=fun {P} q => wpAny_setField he hd h2 q
  refine wpAny_bind (wpAny_holding (wpAny_runValue (unchain_on new ?_ n ea ea false rfl (.refl ea) fun z => by cases z)))
  exact wpAny_bind (wf (wpAny_throw (h _ (.inr ⟨ea,z,rfl⟩) (Heap.SameBut.update ..) ⟨_,Heap.get?_update_self _ he (Obj.isFreed_of_fields (Obj.data_mapFields hd _)),Obj.cls_mapFields ..⟩)))
theorem stop_on {α:Type} {Q:α→Shared→Prop} (hn:HdN A s.heap) (h:∀ h' e,(∀ b o,s.heap.get? b = some o→h'.get? b = some o)→(∃ o,h'.get? e = some o∧o.cls = .type "StopIteration")→E (.ref e) { s with heap:=h' }) :
  wpAny (model prog w) A (newExc (.type "StopIteration") [] >>= fun x => (raiseNew x:Sem α)) Q E s:=by
 refine wpAny_bind ?_
 unfold newExc newTuple
 refine wpAny_bind (wpAny_newObj_type ?_ (by show 0≤sizeLine; decide))
 refine wpAny_bind (m:=firstArgMember (.type "StopIteration") []) (wpAny_of_eq (a:=Value.none) rfl (wpAny_newObj_type ?_ (by size_fits)))
 generalize hp:s.heap.push _ = h1
 have k1:∀ b o,s.heap.get? b = some o→h1.get? b = some o:=fun b o e => hp▸Heap.get?_push_of_some _ e
 have k2:∀ ob b o,h1.get? b = some o→(h1.push ob).get? b = some o:=fun ob b o e => Heap.get?_push_of_some _ e
 obtain ⟨D,nD,lD⟩:=hn.small
 refine raise_on (e:=h1.objs.size) (vs:=_) (D:=D) ((nD.keptD fun b _ o e => k1 b o e).keptD fun b _ o e => k2 _ b o e) (Heap.get?_push_size _ rfl) rfl (by show 2 < 6; decide) (fun q => ?_) fun h' _ sb ex => h h' _ (fun b o e => (sb.2 b ?_).trans (k2 _ b o (k1 b o e))) ex
 ·obtain ⟨o,_,eo,_⟩:=lD _ q
  exact absurd (Heap.lt_size (k1 _ _ eo)) (Nat.lt_irrefl _)
 ·exact Nat.ne_of_lt (Heap.lt_size (k1 b o e))
theorem stopped {Q:Option Value→Shared→Prop} {e:Addr} (ex:∃ o,s.heap.get? e = some o∧o.cls = .type "StopIteration") (h:Q none s) :
  wpAny (model prog w) A (do if (← isInstance (.ref e) (.type "StopIteration")) = true then pure (none:Option Value) else throw (.ref e)) Q E s:=by
 obtain ⟨o,h1,h2⟩:=ex
 refine wpAny_bind (wpAny_isInstance (T:="StopIteration") (b:=true) ⟨o,h1,h2⟩ isSubtype_stop ?_)
 exact wpAny_pure h
theorem list_on {it l:Addr} {i:Nat} {items:Array Value} {Q:Option Value→Shared→Prop} (hn:HdN A s.heap) (hit:s.heap.IsListIter it l i) (hl:s.heap.IsList l items) (hx:items[i]? = none)
  (hQ:∀ h',Heap.ExtBut it s.heap h'→Q none { s with heap:=h' }):wpAny (model prog w) A (pyNext (.ref it)) Q E s:=by
 obtain ⟨o,ho,hc,hd⟩:=id hit
 obtain ⟨ol,hol,_,nl,hdl⟩:=hl
 unfold pyNext
 refine wpAny_bind (wpAny_attempt (wpAny_callSpecial?_slot (name:=Str.ofString "__next__") hit.typeIs slot_listiter_next (wpAny_call_entry slot_listiter_next hit.typeIs entry_listiter_next ?_ (args_listiter_next _))))
 refine (show ∀ {R:Fin→Shared→Prop} {F:Value→Shared→Prop},wpAny (model prog w) A.in1 (field (.ref it) 0 >>= _) R F s→wpAny (model prog w) A.in1 (Builtin.«list_iterator.__next__» _) R F s from fun z => z) (wpAny_bind (wpAny_field ho hd (x:=.ref l) rfl ?_))
 rw [if_neg (show ¬ ((Value.ref l == Value.none) = true) from Bool.false_ne_true)]
 refine wpAny_bind (wpAny_field (i:=1) ho hd (x:=.int i 0) rfl (wpAny_bind (wpAny_seqItems hol hdl ?_)))
 simp only [Int.toNat_natCast,hx]
 refine wpAny_bind (wpAny_rule (wpAny_bind (wpAny_setField ho hd (by simp) ?_)))
 have sb:Heap.SameBut it s.heap (s.heap.update it (Obj.mapFields (·.setIfInBounds 0 .none))):=Heap.SameBut.update ..
 refine stop_on (A:=A.in1) (s:={ s with heap:=_ }) (hn.but sb ⟨o,_,ho,hd,by simp⟩) fun h' e k ex => stopped (s:={ s with heap:=h' }) ex (hQ h' fun b o hb q => k b o ((sb.2 b hb).trans q))
theorem tuple_on {it l:Addr} {i:Nat} {items:Array Value} {Q:Option Value→Shared→Prop} (hn:HdN A s.heap) (hit:s.heap.IsTupleIter it l i) (hl:s.heap.IsTuple l items) (hx:items[i]? = none)
  (hQ:∀ h',Heap.ExtBut it s.heap h'→Q none { s with heap:=h' }):wpAny (model prog w) A (pyNext (.ref it)) Q E s:=by
 obtain ⟨o,ho,hc,hd⟩:=id hit
 obtain ⟨ol,hol,_,nl,hdl⟩:=hl
 unfold pyNext
 refine wpAny_bind (wpAny_attempt (wpAny_callSpecial?_slot (name:=Str.ofString "__next__") hit.typeIs F.slot_tuple_iterator_next (wpAny_call_entry F.slot_tuple_iterator_next hit.typeIs F.entry_tuple_iterator_next ?_ (F.args_tuple_iterator_next_1 _))))
 refine (show ∀ {R:Fin→Shared→Prop} {F:Value→Shared→Prop},wpAny (model prog w) A.in1 (field (.ref it) 0 >>= _) R F s→wpAny (model prog w) A.in1 (Builtin.«tuple_iterator.__next__» _) R F s from fun z => z) (wpAny_bind (wpAny_field ho hd (x:=.ref l) rfl ?_))
 rw [if_neg (show ¬ ((Value.ref l == Value.none) = true) from Bool.false_ne_true)]
 refine wpAny_bind (wpAny_field (i:=1) ho hd (x:=.int i 0) rfl (wpAny_bind (wpAny_seqItems hol hdl ?_)))
 simp only [Int.toNat_natCast,hx]
 refine wpAny_bind (wpAny_rule (wpAny_bind (wpAny_setField ho hd (by simp) ?_)))
 have sb:Heap.SameBut it s.heap (s.heap.update it (Obj.mapFields (·.setIfInBounds 0 .none))):=Heap.SameBut.update ..
 refine stop_on (A:=A.in1) (s:={ s with heap:=_ }) (hn.but sb ⟨o,_,ho,hd,by simp⟩) fun h' e k ex => stopped (s:={ s with heap:=h' }) ex (hQ h' fun b o hb q => k b o ((sb.2 b hb).trans q))
theorem range_on {it:Addr} {x left step:Int} {Q:Option Value→Shared→Prop} (hn:HdN A s.heap) (hit:IsRangeIter s.heap it x left step) (hleft:left≤0)
  (hQ:∀ h',Heap.ExtBut it s.heap h'→Q none { s with heap:=h' }):wpAny (model prog w) A (pyNext (.ref it)) Q E s:=by
 have hT:s.TypeIs (.ref it) "range_iterator":=⟨_,hit,rfl⟩
 unfold pyNext
 refine wpAny_bind (wpAny_attempt (wpAny_callSpecial?_slot (name:=Str.ofString "__next__") hT F.slot_range_iterator_next (wpAny_call_entry F.slot_range_iterator_next hT F.entry_range_iterator_next ?_ (F.args_range_iterator_next_1 _))))
 refine (show ∀ {R:Fin→Shared→Prop} {F:Value→Shared→Prop},wpAny (model prog w) A.in1 (field (.ref it) 0 >>= _) R F s→wpAny (model prog w) A.in1 (Builtin.«range_iterator.__next__» _) R F s from fun z => z) (wpAny_bind (wpAny_field hit rfl (x:=rawInt x) rfl ?_))
 refine (show ∀ {k:Value→Sem Fin} {R:Fin→Shared→Prop} {F:Value→Shared→Prop},wpAny (model prog w) A.in1 (k (rawInt left)) R F s→wpAny (model prog w) A.in1 (field (.ref it) 1 >>= k) R F s from fun z => wpAny_bind (wpAny_field hit rfl (x:=rawInt left) rfl z)) ?_
 refine (show ∀ {k:Value→Sem Fin} {R:Fin→Shared→Prop} {F:Value→Shared→Prop},wpAny (model prog w) A.in1 (k (rawInt step)) R F s→wpAny (model prog w) A.in1 (field (.ref it) 2 >>= k) R F s from fun z => wpAny_bind (wpAny_field hit rfl (x:=rawInt step) rfl z)) ?_
 refine (show ∀ {a b:Sem Fin} {R:Fin→Shared→Prop} {F:Value→Shared→Prop},wpAny (model prog w) A.in1 a R F s→wpAny (model prog w) A.in1 (if left≤0 then a else b) R F s from fun z => by rw [if_pos hleft]; exact z) ?_
 refine wpAny_bind (wpAny_rule (wpAny_bind ?_))
 exact stop_on (A:=A.in1) hn fun h' e k ex => stopped (s:={ s with heap:=h' }) ex (hQ h' fun b o _ q => k b o q)
theorem ascii_on {it:Addr} {x:Str} {t:Tok} {i:Nat} {Q:Option Value→Shared→Prop} (hn:HdN A s.heap) (hit:s.heap.IsStrIter it "str_ascii_iterator" x t i) (hx:x.cps[i]? = none)
  (hQ:∀ h',Heap.ExtBut it s.heap h'→Q none { s with heap:=h' }):wpAny (model prog w) A (pyNext (.ref it)) Q E s:=by
 obtain ⟨o,ho,hc,hd⟩:=id hit
 unfold pyNext
 refine wpAny_bind (wpAny_attempt (wpAny_callSpecial?_slot (name:=Str.ofString "__next__") hit.typeIs F.slot_str_ascii_iterator_next (wpAny_call_entry F.slot_str_ascii_iterator_next hit.typeIs F.entry_str_ascii_iterator_next ?_ (F.args_str_ascii_iterator_next_1 _))))
 refine (show ∀ {R:Fin→Shared→Prop} {F:Value→Shared→Prop},wpAny (model prog w) A.in1 (field (.ref it) 0 >>= _) R F s→wpAny (model prog w) A.in1 (Builtin.«str_ascii_iterator.__next__» _) R F s from fun z => z) (wpAny_bind (wpAny_field ho hd (x:=.str x t) rfl ?_))
 refine wpAny_bind (wpAny_of_eq (a:=some x) rfl ?_)
 refine wpAny_bind (wpAny_field (i:=1) ho hd (x:=.int i 0) rfl ?_)
 simp only [Int.toNat_natCast,hx]
 refine wpAny_bind (wpAny_rule (wpAny_bind (wpAny_setField ho hd (by simp) (wpAny_bind (wpAny_letGo ?_)))))
 have sb:Heap.SameBut it s.heap (s.heap.update it (Obj.mapFields (·.setIfInBounds 0 .none))):=Heap.SameBut.update ..
 refine stop_on (A:=A.in1) (s:={ s with heap:=_ }) (hn.but sb ⟨o,_,ho,hd,by simp⟩) fun h' e k ex => stopped (s:={ s with heap:=h' }) ex (hQ h' fun b o hb q => k b o ((sb.2 b hb).trans q))
theorem wide_on {it:Addr} {x:Str} {t:Tok} {i:Nat} {Q:Option Value→Shared→Prop} (hn:HdN A s.heap) (hit:s.heap.IsStrIter it "str_iterator" x t i) (hx:x.cps[i]? = none)
  (hQ:∀ h',Heap.ExtBut it s.heap h'→Q none { s with heap:=h' }):wpAny (model prog w) A (pyNext (.ref it)) Q E s:=by
 obtain ⟨o,ho,hc,hd⟩:=id hit
 unfold pyNext
 refine wpAny_bind (wpAny_attempt (wpAny_callSpecial?_slot (name:=Str.ofString "__next__") hit.typeIs F.slot_str_iterator_next (wpAny_call_entry F.slot_str_iterator_next hit.typeIs F.entry_str_iterator_next ?_ (F.args_str_iterator_next_1 _))))
 refine (show ∀ {R:Fin→Shared→Prop} {F:Value→Shared→Prop},wpAny (model prog w) A.in1 (field (.ref it) 0 >>= _) R F s→wpAny (model prog w) A.in1 (Builtin.«str_iterator.__next__» _) R F s from fun z => z) (wpAny_bind (wpAny_field ho hd (x:=.str x t) rfl ?_))
 refine wpAny_bind (wpAny_of_eq (a:=some x) rfl ?_)
 refine wpAny_bind (wpAny_field (i:=1) ho hd (x:=.int i 0) rfl ?_)
 simp only [Int.toNat_natCast,hx]
 refine wpAny_bind (wpAny_rule (wpAny_bind (wpAny_setField ho hd (by simp) (wpAny_bind (wpAny_letGo ?_)))))
 have sb:Heap.SameBut it s.heap (s.heap.update it (Obj.mapFields (·.setIfInBounds 0 .none))):=Heap.SameBut.update ..
 refine stop_on (A:=A.in1) (s:={ s with heap:=_ }) (hn.but sb ⟨o,_,ho,hd,by simp⟩) fun h' e k ex => stopped (s:={ s with heap:=h' }) ex (hQ h' fun b o hb q => k b o ((sb.2 b hb).trans q))
theorem walks_on (I ax:Addr) (hne:ax≠I) (D:List Addr) (hI:I ∉ D) (items:Array Value) :
  Walks prog w A I ([I,ax] ++ D) [I] items.size (fun i v => items[i]? = some v) (fun i h => (h.IsListIter I ax i∧h.IsList ax items)∧HdL A h D) where
 sub:=fun b hb => by simp at hb; simp [hb]
 frame:=fun i h h' st k => ⟨⟨st.1.1.at fun o e => k I (by simp) o e,st.1.2.at fun o e => k ax (by simp) o e⟩,st.2.keptD fun b hb o e => k b (by simp [hb]) o e⟩
 item:=fun i s Q E hi st hQ => by
  refine wpAny_pyNext_list_item st.1.1 st.1.2 (x:=items[i]) (by simp [hi]) fun h' hit' sb => ?_
  refine hQ _ h' s.toks (by simp [hi]) ⟨⟨hit',st.1.2.extBut sb.extBut hne⟩,st.2.keptD fun b hb o e => (sb.2 b fun q => hI (q▸hb)).trans e⟩ fun b o hb e => (sb.2 b fun q => hb (by simp [q])).trans e
 done:=fun s Q E st hQ => list_on ⟨D,st.2⟩ st.1.1 st.1.2 (by simp) fun h' k => hQ h' s.toks fun b o hb e => k b o (fun q => hb (by simp [q])) e
 self:=fun _ _ _ _ st hQ => wpAny_pyIter_listiter st.1.1 hQ
theorem min_on {l:Addr} {xs:Array (Int × Tok)} {Q:Value→Shared→Prop} (hn:HdN A s.heap) (hl:s.heap.IsList l (intItems xs)) (hne:0 < xs.size)
  (h:∀ v h' tk,(intItems xs)[argBest (fun i j => decide (numAt xs i < numAt xs j)) (xs.size - 1)]? = some v→(∀ b o,s.heap.get? b = some o→h'.get? b = some o)→Q v { s with heap:=h',toks:=tk }) :
  wpAny (model prog w) A (call (.builtin "min") [.ref l]) Q E s:=by
 obtain ⟨D,nD,lD⟩:=hn.small
 have hlt:∀ b∈D,b < s.heap.objs.size:=fun b hb => let ⟨_,_,e,_⟩:=lD b hb; Heap.lt_size e
 refine call_min_walk (iter_intList hl fun s2 e st hfp hlI => ?_)
 subst e
 have nI:s.heap.objs.size ∉ D:=fun z => absurd (hlt _ z) (Nat.lt_irrefl _)
 refine ⟨_,_,_,_,_,_,_,rfl,walks_on (A:=A.in1) s.heap.objs.size l hlI D nI (intItems xs),⟨st,HdL.keptD (A:=A.in1) nD fun b _ o e => Heap.get?_push_of_some _ e⟩,fun b hb => ?_,by simpa [intItems] using hne,CmpOf.ints_lt (numAt xs) (fun _ _ => intItems_at),fun v h' tk hP hk => ?_⟩
 ·rcases List.mem_append.mp hb with z | z
  ·exact hfp b z
  ·rw [Heap.size_push]; exact Nat.lt_succ_of_lt (hlt b z)
 ·exact h v h' tk (by simpa [intItems] using hP) (old_kept hk)
end
end L2
namespace L2
open PySem
def TrC (h base:Heap) (e:Addr) (cls:Value) (a0:Value × Value) (fl:Value):Prop :=
 ∃ oe vs T oT ts,h.get? e = some oe∧(oe.cls = cls∧vs[0]? = some a0.1∧vs[2]? = some a0.2)∧oe.data = .fields vs∧vs[1]? = some (.ref T)∧base.get? T = none∧T≠e∧h.get? T = some oT∧oT.data = .fields ts∧ts[3]? = some fl
structure StepC (base:Heap) (l:List Env) (e:Addr) (cls:Value) (a0:Value × Value) (fl:Value) (h h':Heap):Prop where
 st:base.StaysIn h'
 ff:h'.FunFrames base l
 tr:TrC h' base e cls a0 fl
 up:h.UpToSlots h'
section
variable {M:Model} {A:Around} {E:Value→Shared→Prop} {s:Shared} {base:Heap} {env:Env} {outer:List Env} {L e:Addr} {cls:Value} {a0:Value × Value}
theorem entry_c {oe:Obj} {vs:Array Value} {head:Value} {hadNext:Bool} {Q:Unit→Shared→Prop} (hfr:A.frames = some (env :: outer)) (hl:s.heap.FunFrames base (env :: outer)) (hf:env.frame = some L)
  (he:s.heap.get? e = some oe) (hkb:base.StaysIn s.heap) (hen:base.get? e = none) (hd:oe.data = .fields vs) (hsz:1 < vs.size) (h0:vs[0]? = some a0.1) (h2:vs[2]? = some a0.2)
  (h:∀ h',StepC base (env :: outer) e oe.cls a0 (rawInt L) s.heap h'→Q () { s with heap:=h' }) :
  wpAny M A (do let a ← frameOf env; let pl ← entryPlaceOf L hadNext; let b ← EntryCells.newEntry head a .none (rawInt L) .none pl; setField (.ref e) 1 b) Q E s:=by
 have rec1:∀ b o,s.heap.get? b = some o→(∀ us,o.data≠.fields us)→b≠e:=fun b o hb hn q => by
  subst q
  rw [he] at hb; cases hb
  exact hn vs hd
 have efr:e ∉ (env :: outer).filterMap (·.frame):=fun hm => by
  obtain ⟨_,o,ho,hn⟩:=hl.mem hm
  exact rec1 e o ho hn rfl
 refine wpAny_bind (wpAny_frameOf_fun hfr hl hf fun g hg => wpAny_bind (wpAny_entryPlaceOf fun pl hpl => ?_))
 unfold EntryCells.newEntry newFields
 refine wpAny_bind (wpAny_newObj_type ?_ (hpl.sizeOk5 _ _ _ _ _))
 generalize ho:(Obj.mk (.type "traceback") none (.fields ([head,.ref L,.none,rawInt L,.none] ++ (if pl.isEmpty then List.replicate 6 Value.none else pl)).toArray) #[]) = ot
 have hoc:ot.data = .fields ([head,.ref L,.none,rawInt L,.none] ++ (if pl.isEmpty then List.replicate 6 Value.none else pl)).toArray:=by rw [← ho]
 have eg:g.get? e = some oe:=(hg.2.1 e efr).trans he
 have bg:base.StaysIn g:=fun b o hb => (hg.2.1 b fun hm => by rw [(hl.mem hm).1] at hb; cases hb).trans (hkb b o hb)
 have nT:g.objs.size≠e:=Nat.ne_of_gt (Heap.lt_size eg)
 have e2:(g.push ot).get? e = some oe:=Heap.get?_push_of_some _ eg
 refine wpAny_setField e2 hd hsz (h _ ?_)
 have d3:=Obj.data_mapFields hd (·.setIfInBounds 1 (Value.ref g.objs.size))
 have e3:=Heap.get?_update_self (Obj.mapFields (·.setIfInBounds 1 (Value.ref g.objs.size))) e2 (Obj.isFreed_of_fields d3)
 have keep:∀ b o,b≠e→g.get? b = some o→((g.push ot).update e (Obj.mapFields (·.setIfInBounds 1 (Value.ref g.objs.size)))).get? b = some o:=fun b o hb q => by
  rw [Heap.get?_update_other _ _ (Ne.symm hb)]
  exact Heap.get?_push_of_some _ q
 have T3:((g.push ot).update e (Obj.mapFields (·.setIfInBounds 1 (Value.ref g.objs.size)))).get? g.objs.size = some ot:=by
  rw [Heap.get?_update_other _ _ (Ne.symm nT)]
  exact Heap.get?_push_size g (by rw [← ho]; rfl)
 refine ⟨fun b o hb => keep b o (fun q => by rw [q,hen] at hb; cases hb) (bg b o hb),hl.of_keeps fun b o hb hn => ?_,⟨_,_,g.objs.size,ot,_,e3,⟨Obj.cls_mapFields _ _,?_,?_⟩,d3,by simp [hsz],bg.fresh,nT,T3,hoc,?_⟩,fun b o hb hn => ?_⟩
 ·obtain ⟨sl,q⟩:=hg.2.2 b o hb
  exact ⟨_,keep b _ (rec1 b o hb hn) q,rfl⟩
 ·rw [Array.getElem?_setIfInBounds_ne (by decide)]; exact h0
 ·rw [Array.getElem?_setIfInBounds_ne (by decide)]; exact h2
 ·first | (simp; done) | (rcases hpl with rfl | ⟨_,_,_,_,_,_,_,rfl⟩ <;> simp)
 ·obtain ⟨sl,q⟩:=hg.2.2 b o hb
  exact ⟨sl,keep b _ (rec1 b o hb hn) q⟩
theorem flight_c {l:List Env} {fl:Value} {Q:Unit→Shared→Prop} (hkb:base.StaysIn s.heap) (hl:s.heap.FunFrames base l) (ht:TrC s.heap base e cls a0 fl)
  (h:∀ h',StepC base l e cls a0 .none s.heap h'→(∀ b o,s.heap.get? b = some o→(∀ us,o.data≠.fields us)→h'.get? b = some o)→Q () { s with heap:=h' }):wpAny M A (setFlight (.ref e) none) Q E s:=by
 obtain ⟨oe,vs,T,oT,ts,he,hc,hd,h1,hnT,hTe,hT,hdT,h3⟩:=ht
 have z3:3 < ts.size:=(Array.getElem?_eq_some_iff.mp h3).1
 have nrec:∀ b o,s.heap.get? b = some o→(∀ us,o.data≠.fields us)→T≠b:=fun b o hb hn q => by
  subst q
  rw [hT] at hb; cases hb
  exact hn ts hdT
 unfold setFlight
 refine wpAny_bind (wpAny_field he hd h1 ?_)
 rw [if_pos (show (Value.ref T != Value.none) = true by simp)]
 refine wpAny_setField hT hdT z3 (h _ ⟨fun b o hb => ?_,hl.of_keeps fun b o hb hn => ⟨o,?_,rfl⟩,⟨oe,vs,T,_,_,?_,hc,hd,h1,hnT,hTe,Heap.get?_update_self _ hT (Obj.isFreed_of_fields (Obj.data_mapFields hdT _)),Obj.data_mapFields hdT _,by simp [z3]⟩,fun b o hb hn => ⟨o.slots,?_⟩⟩ fun b o hb hn => ?_)
 ·rw [Heap.get?_update_other _ _ (fun q => by rw [← q,hnT] at hb; cases hb)]; exact hkb b o hb
 ·rw [Heap.get?_update_other _ _ (nrec b o hb hn)]; exact hb
 ·rw [Heap.get?_update_other _ _ hTe]; exact he
 ·rw [Heap.get?_update_other _ _ (nrec b o hb hn)]; exact hb
 ·rw [Heap.get?_update_other _ _ (nrec b o hb hn)]; exact hb
theorem note_first {oe:Obj} {vs:Array Value} {Q:Unit→Shared→Prop} (hfr:A.frames = some (env :: outer)) (hl:s.heap.FunFrames base (env :: outer)) (hf:env.frame = some L)
  (he:s.heap.get? e = some oe) (hkb:base.StaysIn s.heap) (hen:base.get? e = none) (hd:oe.data = .fields vs) (h1:vs[1]? = some .none) (h0:vs[0]? = some a0.1) (h2:vs[2]? = some a0.2)
  (h:∀ h',StepC base (env :: outer) e oe.cls a0 (rawInt L) s.heap h'→Q () { s with heap:=h' }):wpAny M A (noteFrame (.ref e) env) Q E s:=by
 unfold noteFrame
 simp only [hf]
 refine wpAny_bind (wpAny_field he hd h1 ?_)
 rw [if_neg (by decide)]
 exact entry_c hfr hl hf he hkb hen hd (Array.getElem?_eq_some_iff.mp h1).1 h0 h2 h
theorem note_next {Q:Unit→Shared→Prop} (hfr:A.frames = some (env :: outer)) (hl:s.heap.FunFrames base (env :: outer)) (hf:env.frame = some L) (ht:TrC s.heap base e cls a0 .none) (hkb:base.StaysIn s.heap) (hen:base.get? e = none)
  (h:∀ h',StepC base (env :: outer) e cls a0 (rawInt L) s.heap h'→Q () { s with heap:=h' }):wpAny M A (noteFrame (.ref e) env) Q E s:=by
 obtain ⟨oe,vs,T,oT,ts,he,⟨hc,h0,h2⟩,hd,h1,hnT,hTe,hT,hdT,h3⟩:=ht
 subst hc
 have nrec:∀ b o,s.heap.get? b = some o→(∀ us,o.data≠.fields us)→T≠b:=fun b o hb hn q => by
  subst q
  rw [hT] at hb; cases hb
  exact hn ts hdT
 unfold noteFrame
 simp only [hf]
 refine wpAny_bind (wpAny_field he hd h1 ?_)
 rw [if_pos (show (Value.ref T != Value.none) = true by simp)]
 refine wpAny_bind (wpAny_field hT hdT h3 ?_)
 rw [if_neg (show ¬ ((Value.none == rawInt L) = true) by simp [rawInt])]
 refine wpAny_bind (wpAny_setField hT hdT (Array.getElem?_eq_some_iff.mp h3).1 ?_)
 refine entry_c (s:={ s with heap:=_ }) hfr (hl.of_keeps fun b o hb hn => ⟨o,by rw [Heap.get?_update_other _ _ (nrec b o hb hn)]; exact hb,rfl⟩) hf (by rw [Heap.get?_update_other _ _ hTe]; exact he) (fun b o hb => by
  rw [Heap.get?_update_other _ _ (fun q => by rw [← q,hnT] at hb; cases hb)]; exact hkb b o hb) hen hd (Array.getElem?_eq_some_iff.mp h1).1 h0 h2 fun h' S => h h' ⟨S.st,S.ff,S.tr,fun b o hb hn => S.up b o (by rw [Heap.get?_update_other _ _ (nrec b o hb hn)]; exact hb) hn⟩
theorem leave_first {oe:Obj} {vs:Array Value} {Q:Unit→Shared→Prop} (hfr:A.frames = some (env :: outer)) (hl:s.heap.FunFrames base (env :: outer)) (hf:env.frame = some L)
  (he:s.heap.get? e = some oe) (hkb:base.StaysIn s.heap) (hen:base.get? e = none) (hd:oe.data = .fields vs) (h1:vs[1]? = some .none) (h0:vs[0]? = some a0.1) (h2:vs[2]? = some a0.2)
  (h:∀ h',StepC base (env :: outer) e oe.cls a0 .none s.heap h'→Q () { s with heap:=h' }):wpAny M A (leaving env (.ref e)) Q E s:=by
 unfold leaving
 refine wpAny_bind (note_first hfr hl hf he hkb hen hd h1 h0 h2 fun h1 S => flight_c (s:={ s with heap:=h1 }) S.st S.ff S.tr fun h2 S2 _ => h h2 ⟨S2.st,S2.ff,S2.tr,S.up.trans S2.up⟩)
theorem leave_next {Q:Unit→Shared→Prop} (hfr:A.frames = some (env :: outer)) (hl:s.heap.FunFrames base (env :: outer)) (hf:env.frame = some L) (ht:TrC s.heap base e cls a0 .none) (hkb:base.StaysIn s.heap) (hen:base.get? e = none)
  (h:∀ h',StepC base (env :: outer) e cls a0 .none s.heap h'→Q () { s with heap:=h' }):wpAny M A (leaving env (.ref e)) Q E s:=by
 unfold leaving
 refine wpAny_bind (note_next hfr hl hf ht hkb hen fun h1 S => flight_c (s:={ s with heap:=h1 }) S.st S.ff S.tr fun h2 S2 _ => h h2 ⟨S2.st,S2.ff,S2.tr,S.up.trans S2.up⟩)
end
end L2
namespace L2
open PySem
section
variable {prog:Program} {w:World} {A:Around} {E:Value→Shared→Prop} {s:Shared} {z TI TO i1 i2 l1 l2:Addr} {xs ys:Array Value}
theorem wpAny_alive {M:Model} {a:Addr} {Q:Option Obj→Shared→Prop} (h:Q (s.heap.get? a) s):wpAny M A (loadIfAlive a) Q E s:=fun _ _ _ => h
structure Busy (h:Heap) (z TI TO i1 i2 l1 l2:Addr) (xs ys:Array Value) (k:Nat):Prop where
 zp:∃ (T:Addr) (f1:Bool) (o:Obj),h.get? z = some { cls:=.type "zip",data:=.fields #[rawInt T,.bool f1,.bool false,.ref TI,.ref TO] }∧h.get? T = some o
 ti:IsPair h TI (.ref i1) (.ref i2)
 h1:h.IsListIter i1 l1 k
 h2:h.IsListIter i2 l2 k
 hl1:h.IsList l1 xs
 hl2:h.IsList l2 ys
theorem owned_busy {T:Addr} {f1:Bool} {o:Obj} {Q:Bool→Shared→Prop} (hz:s.heap.get? z = some { cls:=.type "zip",data:=.fields #[rawInt T,.bool f1,.bool false,.ref TI,.ref TO] }) (hT:s.heap.get? T = some o)
  (h:∀ h',h'.get? z = some { cls:=.type "zip",data:=.fields #[rawInt T,.bool true,.bool false,.ref TI,.ref TO] }→Heap.SameBut z s.heap h'→Q false { s with heap:=h' }):wpAny (model prog w) A (Builtin.SmallTypes.ownedTupleIsFree (.ref z)) Q E s:=by
 unfold Builtin.SmallTypes.ownedTupleIsFree
 refine wpAny_bind (wpAny_field (i:=0) hz rfl (x:=rawInt T) rfl ?_)
 unfold rawInt
 dsimp only
 refine wpAny_bind (wpAny_alive ?_)
 rw [show ((T:Int)).toNat = T from Int.toNat_natCast T,hT]
 simp only [Option.isNone_some,Bool.false_eq_true,if_false]
 refine wpAny_bind (wpAny_field (i:=1) hz rfl (x:=.bool f1) rfl ?_)
 cases f1 with
 | true =>
  rw [if_neg (by decide)]
  exact wpAny_pure (h s.heap hz ⟨rfl,fun _ _ => rfl⟩)
 | false =>
  rw [if_pos (by decide)]
  exact wpAny_bind (wpAny_setField_rec hz (by simp) fun h1 hz1 hs1 => wpAny_pure (h h1 hz1 hs1))
theorem busy_item (D:ZipApart z TI TO i1 i2 l1 l2) {k:Nat} {x y:Value} (B:Busy s.heap z TI TO i1 i2 l1 l2 xs ys k) (hx:xs[k]? = some x) (hy:ys[k]? = some y) {Q:Value→Shared→Prop}
  (hQ:∀ h',Busy h' z TI TO i1 i2 l1 l2 xs ys (k + 1)→IsPair h' s.heap.objs.size x y→h'.objs.size = s.heap.objs.size + 1→(∀ c o,c≠z→c≠i1→c≠i2→s.heap.get? c = some o→h'.get? c = some o)→Q (.ref s.heap.objs.size) { s with heap:=h' }) :
  wpAny (model prog w) A (Builtin.«zip.__next__» ⟨[.ref z],[]⟩) (fun fin s' => ∃ v,fin = .done (.ret v)∧Q v s') E s:=by
 obtain ⟨T,f1,o,hz,hT⟩:=B.zp
 unfold Builtin.«zip.__next__»
 refine wpAny_bind (wpAny_of_eq (a:=(.ref z,[])) rfl ?_)
 refine wpAny_bind (wpAny_field (i:=2) hz rfl (x:=.bool false) rfl ?_)
 refine wpAny_bind (wpAny_field (i:=3) hz rfl (x:=.ref TI) rfl (wpAny_bind (wpAny_seqItems B.ti rfl ?_)))
 refine wpAny_bind (owned_busy hz hT fun g1 z1 k1 => ?_)
 simp only [Bool.false_eq_true,if_false,List.forIn_toArray,List.forIn_cons,List.forIn_nil]
 have b1:g1.IsListIter i1 l1 k:=B.h1.extBut k1.extBut D.i1z
 have b2:g1.IsListIter i2 l2 k:=B.h2.extBut k1.extBut D.i2z
 have c1:g1.IsList l1 xs:=B.hl1.extBut k1.extBut D.l1z
 have c2:g1.IsList l2 ys:=B.hl2.extBut k1.extBut D.l2z
 refine wpAny_bind (wpAny_bind (wpAny_bind (wpAny_holding ?_)))
 show wpAny _ _ (Builtin.SmallTypes.nextOf (.ref i1) >>= _) _ _ _
 refine wpAny_bind (wpAny_nextOf_list_item (s:={ s with heap:=g1 }) b1 c1 hx fun g2 d1 k2 => wpAny_pure ?_)
 refine wpAny_pure (wpAny_bind (wpAny_bind (wpAny_holding ?_)))
 show wpAny _ _ (Builtin.SmallTypes.nextOf (.ref i2) >>= _) _ _ _
 refine wpAny_bind (wpAny_nextOf_list_item (s:={ s with heap:=g2 }) (b2.extBut k2.extBut (Ne.symm D.i12)) (c2.extBut k2.extBut D.l2i1) hy fun g3 d2 k3 => wpAny_pure ?_)
 refine wpAny_pure (wpAny_pure ?_)
 dsimp only
 refine wpAny_bind (wpAny_newTuple (s:={ s with heap:=g3 }) ?_ (by show 2≤sizeLine; decide))
 have hsz:g3.objs.size = s.heap.objs.size:=by rw [k3.1,k2.1,k1.1]
 have up:∀ c u,c≠z→c≠i1→c≠i2→s.heap.get? c = some u→g3.get? c = some u:=fun c u n1 n2 n3 e => (k3.2 c n3).trans ((k2.2 c n2).trans ((k1.2 c n1).trans e))
 have psh:∀ ob c u,g3.get? c = some u→(g3.push ob).get? c = some u:=fun ob c u e => Heap.get?_push_of_some _ e
 refine wpAny_pure ⟨_,rfl,?_⟩
 show Q (.ref g3.objs.size) _
 rw [hsz]
 have z3:g3.get? z = some { cls:=.type "zip",data:=.fields #[rawInt T,.bool true,.bool false,.ref TI,.ref TO] }:=(k3.2 z (Ne.symm D.i2z)).trans ((k2.2 z (Ne.symm D.i1z)).trans z1)
 have alive:∃ u,g3.get? T = some u:=by
  have a1:∃ u,g1.get? T = some u:=by
   by_cases e:T = z
   ·exact ⟨_,by rw [e]; exact z1⟩
   ·exact ⟨_,(k1.2 T e).trans hT⟩
  obtain ⟨u1,a1⟩:=a1
  have a2:∃ u,g2.get? T = some u:=by
   by_cases e:T = i1
   ·obtain ⟨ob,q,_⟩:=d1; exact ⟨_,e▸q⟩
   ·exact ⟨_,(k2.2 T e).trans a1⟩
  obtain ⟨u2,a2⟩:=a2
  by_cases e:T = i2
  ·obtain ⟨ob,q,_⟩:=d2; exact ⟨_,e▸q⟩
  ·exact ⟨_,(k3.2 T e).trans a2⟩
 obtain ⟨u,alive⟩:=alive
 refine hQ _ ⟨⟨T,true,u,psh _ _ _ z3,psh _ _ _ alive⟩,psh _ _ _ (up TI _ D.TIz D.TIi1 D.TIi2 B.ti),?_,?_,?_,?_⟩ ?_ ?_ fun c u n1 n2 n3 e => psh _ _ _ (up c u n1 n2 n3 e)
 ·exact (d1.extBut k3.extBut D.i12).at fun ob e => psh _ _ _ e
 ·exact d2.at fun ob e => psh _ _ _ e
 ·exact (B.hl1.at fun ob e => up l1 ob D.l1z D.l1i1 D.l1i2 e).push _
 ·exact (B.hl2.at fun ob e => up l2 ob D.l2z D.l2i1 D.l2i2 e).push _
 ·have:=Heap.get?_push_size g3 (o:={ cls:=.type "tuple",data:=.seq #[x,y] }) rfl
  rw [hsz] at this; exact this
 ·rw [Heap.size_push,hsz]
theorem busy_end (hh:A.handled = none) (D:ZipApart z TI TO i1 i2 l1 l2) {k:Nat} (B:Busy s.heap z TI TO i1 i2 l1 l2 xs ys k) (hend:xs[k]? = none∨ys[k]? = none) {Q:Fin→Shared→Prop}
  (hE:∀ h' e,(∀ c o,c≠z→c≠i1→c≠i2→s.heap.get? c = some o→h'.get? c = some o)→(∃ o,h'.get? e = some o∧o.cls = .type "StopIteration")→E (.ref e) { s with heap:=h' }) :
  wpAny (model prog w) A (Builtin.«zip.__next__» ⟨[.ref z],[]⟩) Q E s:=by
 obtain ⟨T,f1,o,hz,hT⟩:=B.zp
 unfold Builtin.«zip.__next__»
 refine wpAny_bind (wpAny_of_eq (a:=(.ref z,[])) rfl ?_)
 refine wpAny_bind (wpAny_field (i:=2) hz rfl (x:=.bool false) rfl ?_)
 refine wpAny_bind (wpAny_field (i:=3) hz rfl (x:=.ref TI) rfl (wpAny_bind (wpAny_seqItems B.ti rfl ?_)))
 refine wpAny_bind (owned_busy hz hT fun g1 z1 k1 => ?_)
 simp only [Bool.false_eq_true,if_false,List.forIn_toArray,List.forIn_cons,List.forIn_nil]
 have b1:g1.IsListIter i1 l1 k:=B.h1.extBut k1.extBut D.i1z
 have b2:g1.IsListIter i2 l2 k:=B.h2.extBut k1.extBut D.i2z
 have c1:g1.IsList l1 xs:=B.hl1.extBut k1.extBut D.l1z
 have c2:g1.IsList l2 ys:=B.hl2.extBut k1.extBut D.l2z
 refine wpAny_bind (wpAny_bind (wpAny_bind (wpAny_holding ?_)))
 show wpAny _ _ (Builtin.SmallTypes.nextOf (.ref i1) >>= _) _ _ _
 cases hx:xs[k]? with
 | none => exact wpAny_bind (wpAny_nextOf_list_end (s:={ s with heap:=g1 }) hh b1 c1 hx fun g2 e k2 he => hE g2 e (fun c u n1 n2 n3 q => k2 c u n2 ((k1.2 c n1).trans q)) he)
 | some x =>
  have hy:ys[k]? = none:=hend.resolve_left (by rw [hx]; simp)
  refine wpAny_bind (wpAny_nextOf_list_item (s:={ s with heap:=g1 }) b1 c1 hx fun g2 d1 k2 => wpAny_pure ?_)
  refine wpAny_pure (wpAny_bind (wpAny_bind (wpAny_holding ?_)))
  show wpAny _ _ (Builtin.SmallTypes.nextOf (.ref i2) >>= _) _ _ _
  exact wpAny_bind (wpAny_nextOf_list_end (s:={ s with heap:=g2 }) hh (b2.extBut k2.extBut (Ne.symm D.i12)) (c2.extBut k2.extBut D.l2i1) hy fun g3 e k3 he => hE g3 e (fun c u n1 n2 n3 q => k3 c u n3 ((k2.2 c n2).trans ((k1.2 c n1).trans q))) he)
def ZipAt (z TI TO i1 i2 l1 l2:Addr) (xs ys:Array Value) (k:Nat) (h:Heap):Prop :=
 (k = 0∧IsZip h z TI TO .none∧IsPair h TI (.ref i1) (.ref i2)∧(∃ a b,IsPair h TO a b)∧h.IsListIter i1 l1 0∧h.IsListIter i2 l2 0∧h.IsList l1 xs∧h.IsList l2 ys)∨Busy h z TI TO i1 i2 l1 l2 xs ys k
theorem zat_item (D:ZipApart z TI TO i1 i2 l1 l2) {k:Nat} {x y:Value} (B:ZipAt z TI TO i1 i2 l1 l2 xs ys k s.heap) (hx:xs[k]? = some x) (hy:ys[k]? = some y) {Q:Option Value→Shared→Prop}
  (hQ:∀ h',ZipAt z TI TO i1 i2 l1 l2 xs ys (k + 1) h'→IsPair h' s.heap.objs.size x y→h'.objs.size = s.heap.objs.size + 1→(∀ c o,c≠z→c≠TO→c≠i1→c≠i2→s.heap.get? c = some o→h'.get? c = some o)→Q (some (.ref s.heap.objs.size)) { s with heap:=h' }) :
  wpAny (model prog w) A (pyNext (.ref z)) Q E s:=by
 rcases B with ⟨rfl,q1,q2,⟨a,b,q3⟩,q4,q5,q6,q7⟩ | B
 ·refine wpAny_pyNext_zip_item D q1 q2 q3 q4 q5 q6 q7 hx hy fun h' z1 z2 z3 z4 z5 z6 z7 => hQ h' (.inr ⟨⟨_,false,_,z1,z5⟩,z7 _ _ D.TIz D.TITO D.TIi1 D.TIi2 q2,z3,z4,q6.at fun o e => z7 _ _ D.l1z D.l1TO D.l1i1 D.l1i2 e,q7.at fun o e => z7 _ _ D.l2z D.l2TO D.l2i1 D.l2i2 e⟩) z5 z6 z7
 ·obtain ⟨T,f1,o,hz,hT⟩:=id B.zp
  have ht:s.TypeIs (.ref z) "zip":=⟨_,hz,rfl⟩
  unfold pyNext
  exact wpAny_bind (wpAny_attempt (wpAny_callSpecial?_slot (name:=Str.ofString "__next__") ht F.slot_zip_next (wpAny_call_entry F.slot_zip_next ht F.entry_zip_next
   (busy_item D B hx hy fun h' a1 a2 a3 a4 => wpAny_pure (hQ h' (.inr a1) a2 a3 fun c o n1 _ n3 n4 e => a4 c o n1 n3 n4 e)) (F.args_zip_next_1 _))))
theorem zat_end (hh:A.handled = none) (D:ZipApart z TI TO i1 i2 l1 l2) {k:Nat} (B:ZipAt z TI TO i1 i2 l1 l2 xs ys k s.heap) (hend:xs[k]? = none∨ys[k]? = none) {Q:Option Value→Shared→Prop}
  (hQ:∀ h',(∀ c o,c≠z→c≠TO→c≠i1→c≠i2→s.heap.get? c = some o→h'.get? c = some o)→Q none { s with heap:=h' }):wpAny (model prog w) A (pyNext (.ref z)) Q E s:=by
 rcases B with ⟨rfl,q1,q2,⟨a,b,q3⟩,q4,q5,q6,q7⟩ | B
 ·exact wpAny_pyNext_zip_end hh D q1 q2 q3 q4 q5 q6 q7 hend hQ
 ·obtain ⟨T,f1,o,hz,hT⟩:=id B.zp
  have ht:s.TypeIs (.ref z) "zip":=⟨_,hz,rfl⟩
  unfold pyNext
  refine wpAny_bind (wpAny_attempt (wpAny_callSpecial?_slot (name:=Str.ofString "__next__") ht F.slot_zip_next (wpAny_call_entry F.slot_zip_next ht F.entry_zip_next
   (busy_end (A:=A.in1) hh D B hend fun h' e k he => ?_) (F.args_zip_next_1 _))))
  obtain ⟨oe,ho,hc⟩:=he
  refine wpAny_bind (wpAny_isInstance (T:="StopIteration") (b:=true) ⟨oe,ho,hc⟩ isSubtype_stop ?_)
  exact wpAny_pure (hQ _ fun c o n1 _ n3 n4 q => k c o n1 n3 n4 q)
theorem ZipAt.but {S:Addr} {k:Nat} {h h':Heap} (B:ZipAt z TI TO i1 i2 l1 l2 xs ys k h) (keep:∀ c o,c≠S→h.get? c = some o→h'.get? c = some o) (hS:∃ o,h'.get? S = some o) (n:S ∉ [z,TI,TO,i1,i2,l1,l2]):ZipAt z TI TO i1 i2 l1 l2 xs ys k h':=by
 simp only [List.mem_cons,List.not_mem_nil,or_false,not_or] at n
 obtain ⟨n1,n2,n3,n4,n5,n6,n7⟩:=n
 rcases B with ⟨rfl,q1,q2,⟨a,b,q3⟩,q4,q5,q6,q7⟩ | ⟨⟨T,f1,o,hz,hT⟩,q2,q4,q5,q6,q7⟩
 ·exact .inl ⟨rfl,keep _ _ (Ne.symm n1) q1,keep _ _ (Ne.symm n2) q2,⟨a,b,keep _ _ (Ne.symm n3) q3⟩,q4.at fun o e => keep _ _ (Ne.symm n4) e,q5.at fun o e => keep _ _ (Ne.symm n5) e,q6.at fun o e => keep _ _ (Ne.symm n6) e,q7.at fun o e => keep _ _ (Ne.symm n7) e⟩
 ·refine .inr ⟨?_,keep _ _ (Ne.symm n2) q2,q4.at fun o e => keep _ _ (Ne.symm n4) e,q5.at fun o e => keep _ _ (Ne.symm n5) e,q6.at fun o e => keep _ _ (Ne.symm n6) e,q7.at fun o e => keep _ _ (Ne.symm n7) e⟩
  by_cases e:T = S
  ·obtain ⟨oS,hS⟩:=hS
   exact ⟨T,f1,oS,keep _ _ (Ne.symm n1) hz,by rw [e]; exact hS⟩
  ·exact ⟨T,f1,o,keep _ _ (Ne.symm n1) hz,keep _ _ e hT⟩
structure Got (g:Heap) (S z TO i1 i2:Addr) (xs ys:Array Value) (ts:List Addr) (h:Heap):Prop where
 lst:∃ c,h.get? S = some { cls:=.type "list",data:=.seq (ts.map Value.ref).toArray c }
 prs:∀ (i:Nat) (t:Addr) (x y:Value),ts[i]? = some t→xs[i]? = some x→ys[i]? = some y→IsPair h t x y
 new:∀ t∈ts,g.objs.size≤t∧t≠S
 old:∀ c o,c ∉ [S,z,TO,i1,i2]→g.get? c = some o→h.get? c = some o
theorem zip_loop (hh:A.handled = none) (D:ZipApart z TI TO i1 i2 l1 l2) {S:Addr} (nS:S ∉ [z,TI,TO,i1,i2,l1,l2]) {g:Heap} (gz:∀ c∈[z,TO,i1,i2],∃ o,g.get? c = some o) (hn:min xs.size ys.size≤sizeLine) {R:Result→Shared→Prop} {res:Value}
  (hR:∀ (h':Heap) (ts:List Addr),Got g S z TO i1 i2 xs ys ts h'→ts.length = min xs.size ys.size→R (.ok (.ret res)) { s with heap:=h' }) :
  ∀ (m k:Nat) (h:Heap) (ts:List Addr),m = min xs.size ys.size - k→k≤min xs.size ys.size→ts.length = k→g.objs.size≤h.objs.size→ZipAt z TI TO i1 i2 l1 l2 xs ys k h→Got g S z TO i1 i2 xs ys ts h →
   codeAny (model prog w) A (.builtin "list.extend.loop" ⟨[.ref S,.ref z,res],[]⟩) R { s with heap:=h }:=by
 have nS':=nS
 simp only [List.mem_cons,List.not_mem_nil,or_false,not_or] at nS'
 obtain ⟨n1,n2,n3,n4,n5,n6,n7⟩:=nS'
 have apart:∀ t,g.get? t = none→t≠z∧t≠TO∧t≠i1∧t≠i2:=fun t ht => by
  refine ⟨?_,?_,?_,?_⟩ <;> (intro e; subst e; obtain ⟨o,q⟩:=gz t (by simp); rw [ht] at q; cases q)
 have keepG:∀ {ts:List Addr} {h h':Heap},Got g S z TO i1 i2 xs ys ts h→(∀ c o,c≠z→c≠TO→c≠i1→c≠i2→h.get? c = some o→h'.get? c = some o)→Got g S z TO i1 i2 xs ys ts h':=fun {ts h h'} G k => by
  obtain ⟨c,hS⟩:=G.lst
  refine ⟨⟨c,k S _ n1 n3 n4 n5 hS⟩,fun i t x y ht hx hy => ?_,G.new,fun c o hc e => ?_⟩
  ·obtain ⟨m1,m2,m3,m4⟩:=apart t (Heap.get?_none_of_le (G.new t (List.mem_of_getElem? ht)).1)
   exact k t _ m1 m2 m3 m4 (G.prs i t x y ht hx hy)
  ·have hc':=hc
   simp only [List.mem_cons,List.not_mem_nil,or_false,not_or] at hc'
   exact k c o hc'.2.1 hc'.2.2.1 hc'.2.2.2.1 hc'.2.2.2.2 (G.old c o hc e)
 intro m
 induction m with
 | zero =>
  intro k h ts hm hk hl hg B G
  have hend:xs[k]? = none∨ys[k]? = none:=by
   have:xs.size≤k∨ys.size≤k:=by omega
   exact this.imp (fun h => Array.getElem?_eq_none h) fun h => Array.getElem?_eq_none h
  refine codeAny_builtin F.entry_extend_loop ?_
  rw [Around.under_plainId F.plain_extend_loop _]
  refine wpAny_bind (zat_end (s:={ s with heap:=h }) (A:=A.in1) hh D B hend fun h' kp => ?_)
  exact wpAny_pure (hR h' ts (keepG G kp) (by omega))
 | succ m ih =>
  intro k h ts hm hk hl hg B G
  have hkx:k < xs.size:=by omega
  have hky:k < ys.size:=by omega
  refine codeAny_builtin F.entry_extend_loop ?_
  rw [Around.under_plainId F.plain_extend_loop _]
  refine wpAny_bind (zat_item (s:={ s with heap:=h }) (A:=A.in1) D B (Array.getElem?_eq_getElem hkx) (Array.getElem?_eq_getElem hky) fun h1 B1 p1 z1 kp => ?_)
  have G1:=keepG G kp
  obtain ⟨c,hS⟩:=G1.lst
  have hnew:g.get? h.objs.size = none:=Heap.get?_none_of_le hg
  have hlen:(ts.map Value.ref).toArray.size = k:=by rw [List.size_toArray,List.length_map,hl]
  have nT:h.objs.size≠S:=fun e => by
   obtain ⟨c0,q⟩:=G.lst
   exact absurd (e▸Heap.lt_size q) (Nat.lt_irrefl _)
  show wpAny _ A.in1 (updateSeq S (·.push (.ref h.objs.size)) >>= _) _ _ _
  refine wpAny_bind (wpAny_updateSeq (s:={ s with heap:=h1 }) hS rfl (wpAny_pure ⟨plainId_quiet F.plain_extend_loop _,ih (k + 1) _ (ts ++ [h.objs.size]) (by omega) (by omega) (by simp [hl]) ?_ ?_ ?_⟩) (by rw [hlen]; omega) (by show (Array.push _ _).size≤sizeLine + 1; rw [Array.size_push,hlen]; omega))
  ·show g.objs.size≤(h1.update S _).objs.size
   have z1':h1.objs.size = h.objs.size + 1:=z1
   rw [(Heap.SameBut.update ..).1,z1']; omega
  ·exact B1.but (fun c o hc e => (Heap.get?_update_other _ _ (Ne.symm hc)).trans e) ⟨_,Heap.get?_update_self _ hS rfl⟩ nS
  ·have eS:∃ c2,(h1.update S (Obj.mapSeq (·.push (.ref h.objs.size)))).get? S = some { cls:=.type "list",data:=.seq ((ts ++ [h.objs.size]).map Value.ref).toArray c2 }:=by
    have q:=Heap.get?_update_self (Obj.mapSeq (·.push (.ref h.objs.size))) hS rfl
    rw [q,List.map_append,List.map_cons,List.map_nil]
    exact ⟨_,by rw [← List.push_toArray]; rfl⟩
   refine ⟨eS,fun i t x y ht hx hy => ?_,fun t ht => ?_,fun c o hc e => ?_⟩
   ·by_cases hi:i < ts.length
    ·rw [List.getElem?_append_left hi] at ht
     exact (Heap.get?_update_other _ _ (Ne.symm (G.new t (List.mem_of_getElem? ht)).2)).trans (G1.prs i t x y ht hx hy)
    ·have hi2:i = k:=by
      have:=(List.getElem?_eq_some_iff.mp ht).1
      rw [List.length_append,List.length_singleton] at this; omega
     subst hi2
     rw [List.getElem?_append_right (by omega),hl,Nat.sub_self] at ht
     cases ht
     rw [Array.getElem?_eq_getElem hkx] at hx; cases hx
     rw [Array.getElem?_eq_getElem hky] at hy; cases hy
     exact (Heap.get?_update_other _ _ (Ne.symm nT)).trans p1
   ·rcases List.mem_append.mp ht with q | q
    ·exact G.new t q
    ·obtain rfl:t = h.objs.size:=by simpa using q
     exact ⟨hg,nT⟩
   ·have:c≠S:=fun q => hc (by simp [q])
    exact (Heap.get?_update_other _ _ (Ne.symm this)).trans (G1.old c o hc e)
theorem zip_no_len:typeLookup (.type "zip") "__len__" = pure none:=by rw [typeLookup_type,builtinLookup_eq_fast]; kernel_rfl
theorem zip_no_hint:typeLookup (.type "zip") "__length_hint__" = pure none:=by rw [typeLookup_type,builtinLookup_eq_fast]; kernel_rfl
theorem list_zip (hh:A.handled = none) (D:ZipApart z TI TO i1 i2 l1 l2) (hn:min xs.size ys.size≤sizeLine) {Q:Value→Shared→Prop} (q1:IsZip s.heap z TI TO .none) (q2:IsPair s.heap TI (.ref i1) (.ref i2)) {a b:Value} (q3:IsPair s.heap TO a b)
  (q4:s.heap.IsListIter i1 l1 0) (q5:s.heap.IsListIter i2 l2 0) (q6:s.heap.IsList l1 xs) (q7:s.heap.IsList l2 ys)
  (hQ:∀ (h':Heap) (ts:List Addr),Got s.heap s.heap.objs.size z TO i1 i2 xs ys ts h'→ts.length = min xs.size ys.size→Q (.ref s.heap.objs.size) { s with heap:=h' }) :
  wpAny (model prog w) A (call (.type "list") [.ref z]) Q E s:=by
 have lt1:=Heap.lt_size q1
 have lt2:=Heap.lt_size q2
 have lt3:=Heap.lt_size q3
 have lt4:i1 < s.heap.objs.size:=let ⟨_,e,_⟩:=q4; Heap.lt_size e
 have lt5:i2 < s.heap.objs.size:=let ⟨_,e,_⟩:=q5; Heap.lt_size e
 have lt6:l1 < s.heap.objs.size:=let ⟨_,e,_⟩:=q6; Heap.lt_size e
 have lt7:l2 < s.heap.objs.size:=let ⟨_,e,_⟩:=q7; Heap.lt_size e
 have nS:s.heap.objs.size ∉ [z,TI,TO,i1,i2,l1,l2]:=fun hm => by
  simp only [List.mem_cons,List.not_mem_nil,or_false] at hm
  rcases hm with e | e | e | e | e | e | e
  ·exact Nat.lt_irrefl _ (e▸lt1)
  ·exact Nat.lt_irrefl _ (e▸lt2)
  ·exact Nat.lt_irrefl _ (e▸lt3)
  ·exact Nat.lt_irrefl _ (e▸lt4)
  ·exact Nat.lt_irrefl _ (e▸lt5)
  ·exact Nat.lt_irrefl _ (e▸lt6)
  ·exact Nat.lt_irrefl _ (e▸lt7)
 refine callType_codes (Q₁:=fun obj s1 => obj = .ref s.heap.objs.size∧s1 = { s with heap:=s.heap.push { cls:=.type "list",data:=.seq #[] } }) F.called_list (F.typeCall_list_1 _) F.entry_list_init (code_list_new _ ⟨rfl,rfl⟩) fun obj s1 h1 => ?_
 obtain ⟨rfl,rfl⟩:=h1
 generalize hp:s.heap.push { cls:=.type "list",data:=.seq #[] } = g1
 have k1:∀ c o,s.heap.get? c = some o→g1.get? c = some o:=fun c o e => hp▸Heap.get?_push_of_some _ e
 have hS:g1.get? s.heap.objs.size = some { cls:=.type "list",data:=.seq #[] }:=hp▸Heap.get?_push_size _ rfl
 refine ⟨⟨_,hS,rfl⟩,F.args_list_init_2 _ _,?_⟩
 show wpAny _ A.in1.in1 (do let old ← Builtin.List.listItems (.ref s.heap.objs.size); Builtin.List.listUpdate (.ref s.heap.objs.size) (fun _ => #[]); letGo old.toList.reverse; Builtin.List.listExtendWith (.ref s.heap.objs.size) (.ref z) .none) _ _ _
 refine wpAny_bind ?_
 unfold Builtin.List.listItems
 refine wpAny_bind (wpAny_seqItems (s:={ s with heap:=g1 }) hS rfl (wpAny_pure ?_))
 refine wpAny_bind (wpAny_updateSeq (s:={ s with heap:=g1 }) hS rfl ?_)
 generalize hu:g1.update s.heap.objs.size _ = g2
 have k2:∀ c o,c≠s.heap.objs.size→g1.get? c = some o→g2.get? c = some o:=fun c o n e => hu▸(Heap.get?_update_other _ _ (Ne.symm n)).trans e
 have hS2:∃ c,g2.get? s.heap.objs.size = some { cls:=.type "list",data:=.seq #[] c }:=⟨_,hu▸Heap.get?_update_self (Obj.mapSeq (fun _ => (#[]:Array Value))) hS rfl⟩
 have k3:∀ c o,c < s.heap.objs.size→s.heap.get? c = some o→g2.get? c = some o:=fun c o n e => k2 c o (Nat.ne_of_lt n) (k1 c o e)
 refine wpAny_bind (wpAny_letGo ?_)
 unfold Builtin.List.listExtendWith
 have z2:IsZip g2 z TI TO .none:=k3 _ _ lt1 q1
 have ht:Shared.TypeIs { s with heap:=g2 } (.ref z) "zip":=⟨_,z2,rfl⟩
 refine wpAny_bind (wpAny_typeOf ht ?_)
 have e1:Builtin.List.listSameRef (.ref s.heap.objs.size) (.ref z) = false:=by
  simp only [Builtin.List.listSameRef,beq_eq_false_iff_ne,ne_eq]
  exact Nat.ne_of_gt lt1
 simp only [e1,show (Value.type "zip" == Value.type "list") = false by decide,show (Value.type "zip" == Value.type "tuple") = false by decide,Bool.or_false,Bool.false_eq_true,if_false]
 refine wpAny_bind (wpAny_pyIter_zip (s:={ s with heap:=g2 }) z2 ?_)
 refine wpAny_bind (wpAny_holding ?_)
 unfold Builtin.List.listLengthHint
 refine wpAny_bind (wpAny_specialOf ht zip_no_len ?_)
 show wpAny _ A.in1.in1 (specialOf (Value.ref z) (Str.ofString "__length_hint__") >>= _) _ _ _
 refine wpAny_bind (wpAny_specialOf ht zip_no_hint (wpAny_pure ?_))
 show wpAny _ A.in1.in1 (rule "list.extend.makes-room" >>= fun _ => Builtin.List.listTouch (.ref s.heap.objs.size) >>= fun _ => again (.builtin "list.extend.loop" ⟨[.ref s.heap.objs.size,.ref z,.none],[]⟩)) _ _ _
 obtain ⟨c2,hS2⟩:=hS2
 refine wpAny_bind (wpAny_rule (wpAny_bind ?_))
 show wpAny _ A.in1.in1 (updateSeq s.heap.objs.size (·.push .none) >>= fun _ => updateSeq s.heap.objs.size (·.pop)) _ _ _
 refine wpAny_bind (wpAny_updateSeq (s:={ s with heap:=g2 }) hS2 rfl ?_)
 have hS3:=Heap.get?_update_self (Obj.mapSeq (·.push Value.none)) hS2 rfl
 refine wpAny_updateSeq (s:={ s with heap:=_ }) hS3 rfl ?_ (by show 1≤sizeLine; decide) (by show 0≤sizeLine + 1; exact Nat.zero_le _)
 have hS4:=Heap.get?_update_self (Obj.mapSeq (·.pop)) hS3 rfl
 generalize hu2:(g2.update s.heap.objs.size (Obj.mapSeq (·.push Value.none))).update s.heap.objs.size (Obj.mapSeq (·.pop)) = g4 at hS4
 have k4:∀ c o,c < s.heap.objs.size→s.heap.get? c = some o→g4.get? c = some o:=fun c o n e => by
  rw [← hu2,Heap.get?_update_other _ _ (Nat.ne_of_gt n),Heap.get?_update_other _ _ (Nat.ne_of_gt n)]
  exact k3 c o n e
 have z4:g4.objs.size = s.heap.objs.size + 1:=by
  rw [← hu2,(Heap.SameBut.update ..).1,(Heap.SameBut.update ..).1,← hu,(Heap.SameBut.update ..).1,← hp,Heap.size_push]
 refine wpAny_pure ⟨plainId_quiet F.plain_extend_loop _,?_⟩
 refine zip_loop (A:=A.in1) (g:=s.heap) (S:=s.heap.objs.size) hh D nS (fun c hc => ?_) hn (fun h' ts G hl => ⟨rfl,hQ h' ts G hl⟩) (min xs.size ys.size) 0 g4 [] (by omega) (Nat.zero_le _) rfl (by omega) (.inl ⟨rfl,k4 _ _ lt1 q1,k4 _ _ lt2 q2,⟨a,b,k4 _ _ lt3 q3⟩,q4.at fun o e => k4 _ _ lt4 e,q5.at fun o e => k4 _ _ lt5 e,q6.at fun o e => k4 _ _ lt6 e,q7.at fun o e => k4 _ _ lt7 e⟩)
  ⟨⟨_,hS4⟩,(fun i t x y ht => by simp at ht),(fun t ht => by simp at ht),fun c o hc e => k4 c o (Heap.lt_size e) e⟩
 simp only [List.mem_cons,List.not_mem_nil,or_false] at hc
 rcases hc with rfl | rfl | rfl | rfl
 ·exact ⟨_,q1⟩
 ·exact ⟨_,q3⟩
 ·exact let ⟨o,e,_⟩:=q4; ⟨o,e⟩
 ·exact let ⟨o,e,_⟩:=q5; ⟨o,e⟩
end
end L2
namespace L2
open PySem PySem.Spec PyProof.Rows
abbrev Key:=Sum Int Str
def keyIs:Key→Value→Bool
 | .inl k,v => Value.isInt k v
 | .inr x,v => Value.isStrOf x v
def keyH (w:World):Key→Int
 | .inl k => hashInt k
 | .inr x => hashStr w x
theorem keyIs_shape:∀ {k:Key} {v:Value},keyIs k v = true→(∃ i t,k = Sum.inl i∧v = Value.int i t)∨(∃ x t,k = Sum.inr x∧v = Value.str x t)
 | .inl i,v,h => by
  obtain ⟨t,e⟩:=Value.isInt_shape (k:=i) (v:=v) h
  exact .inl ⟨i,t,rfl,e⟩
 | .inr x,v,h => by
  obtain ⟨t,e⟩:=Value.isStrOf_shape (x:=x) (v:=v) h
  exact .inr ⟨x,t,rfl,e⟩
theorem keyIs_int (i:Int) (t:Tok):keyIs (.inl i) (.int i t) = true:=by simp [keyIs,Value.isInt]
theorem keyIs_str (x:Str) (t:Tok):keyIs (.inr x) (.str x t) = true:=by simp [keyIs,Value.isStrOf]
theorem key_ll (a b:Int):decide ((Sum.inl a:Key) = Sum.inl b) = (a == b):=by
 by_cases e:a = b
 ·subst e; simp
 ·have h:¬ (Sum.inl a:Key) = Sum.inl b:=fun q => e (Sum.inl.inj q)
  rw [decide_eq_false h]
  exact (beq_eq_false_iff_ne.mpr e).symm
theorem key_rr (a b:Str):decide ((Sum.inr a:Key) = Sum.inr b) = decide (a = b):=by
 by_cases e:a = b
 ·subst e; simp
 ·have h:¬ (Sum.inr a:Key) = Sum.inr b:=fun q => e (Sum.inr.inj q)
  rw [decide_eq_false h,decide_eq_false e]
theorem key_lr (a:Int) (b:Str):decide ((Sum.inl a:Key) = Sum.inr b) = false:=decide_eq_false (fun q => nomatch q)
theorem key_rl (a:Str) (b:Int):decide ((Sum.inr a:Key) = Sum.inl b) = false:=decide_eq_false (fun q => nomatch q)
def mixKind (prog:Program) (w:World):PySem.KeyKind prog w Key where
 is:=keyIs
 hash:=keyH w
 inj:=fun v a b ha hb => by
  rcases keyIs_shape ha with ⟨i,t,rfl,rfl⟩ | ⟨x,t,rfl,rfl⟩
  ·rcases keyIs_shape hb with ⟨j,u,rfl,e⟩ | ⟨y,u,rfl,e⟩
   ·injection e with e1 _; rw [e1]
   ·exact nomatch e
  ·rcases keyIs_shape hb with ⟨j,u,rfl,e⟩ | ⟨y,u,rfl,e⟩
   ·exact nomatch e
   ·injection e with e1 _; rw [e1]
 byValue:=fun k v h => by
  rcases keyIs_shape h with ⟨i,t,rfl,rfl⟩ | ⟨x,t,rfl,rfl⟩ <;> rfl
 pyHash:=fun hv h => by
  rcases keyIs_shape hv with ⟨i,t,rfl,rfl⟩ | ⟨x,t,rfl,rfl⟩
  ·exact wpAny_pyHash_int h
  ·exact wpAny_pyHash_str h
 eqBool:=fun hu hv h => by
  rcases keyIs_shape hu with ⟨i,t,rfl,rfl⟩ | ⟨x,t,rfl,rfl⟩
  ·rcases keyIs_shape hv with ⟨j,u,rfl,rfl⟩ | ⟨y,u,rfl,rfl⟩
   ·rw [key_ll] at h; exact wpAny_eqBool_int h
   ·rw [key_lr] at h; exact SeqAt.EqAt.int_str i t y u _ _ _ _ h
  ·rcases keyIs_shape hv with ⟨j,u,rfl,rfl⟩ | ⟨y,u,rfl,rfl⟩
   ·rw [key_rl] at h; exact SeqAt.EqAt.str_int x t j u _ _ _ _ h
   ·rw [key_rr] at h; exact wpAny_eqBool_str h
 «strs»:=fun k x t v h => by
  rcases keyIs_shape h with ⟨i,u,rfl,e⟩ | ⟨y,u,rfl,e⟩
  ·exact nomatch e
  ·injection e with e1 _
   subst e1
   cases v <;> rfl
theorem mixKind_int (prog:Program) (w:World) (i:Int) (t:Tok):(mixKind prog w).is (.inl i) (.int i t) = true:=keyIs_int i t
theorem mixKind_str (prog:Program) (w:World) (x:Str) (t:Tok):(mixKind prog w).is (.inr x) (.str x t) = true:=keyIs_str x t
end L2
namespace L2
open PySem PySem.Spec PyProof.Rows
inductive V where
 | non | bl (b:Bool) | int (i:Int) | str (x:Str) | byt (b:Array UInt8) | flt (b:UInt64) | ref (a:Addr) | ty (n:String)
 deriving DecidableEq
def RelV:V→Value→Prop
 | .non,u => u = Value.none
 | .bl b,u => u = Value.bool b
 | .int i,u => ∃ t,u = Value.int i t
 | .str x,u => ∃ t,u = Value.str x t
 | .byt b,u => ∃ t,u = Value.bytes b t
 | .flt b,u => ∃ t,u = Value.float b t
 | .ref a,u => u = Value.ref a
 | .ty n,u => u = Value.type n
abbrev Vals:List V→List Value→Prop:=Paired RelV
theorem Vals.length {xs:List V} {us:List Value} (r:Vals xs us):xs.length = us.length:=Paired.length r
theorem Vals.get:∀ {xs:List V} {us:List Value} {i:Nat} {x:V},Vals xs us→xs[i]? = some x→∃ u,us[i]? = some u∧RelV x u
 | _,_,_,_,.nil,e => by simp at e
 | _,_,0,_,.cons r _,e => by simp at e; subst e; exact ⟨_,rfl,r⟩
 | _,_,i + 1,x,.cons _ t,e => by
  obtain ⟨u,h1,h2⟩:=Vals.get (i:=i) (x:=x) t (by simpa using e)
  exact ⟨u,by simpa using h1,h2⟩
theorem Vals.set {x:V} {u:Value} (r:RelV x u):∀ {xs:List V} {us:List Value} (i:Nat),Vals xs us→Vals (xs.set i x) (us.set i u)
 | _,_,_,.nil => .nil
 | _,_,0,.cons _ t => .cons r t
 | _,_,i + 1,.cons q t => .cons q (Vals.set r i t)
theorem Vals.append:∀ {xs ys:List V} {us ws:List Value},Vals xs us→Vals ys ws→Vals (xs ++ ys) (us ++ ws)
 | _,_,_,_,.nil,s => s
 | _,_,_,_,.cons r t,s => .cons r (Vals.append t s)
theorem Vals.take:∀ {xs:List V} {us:List Value} (n:Nat),Vals xs us→Vals (xs.take n) (us.take n)
 | _,_,0,_ => .nil
 | _,_,_ + 1,.nil => .nil
 | _,_,n + 1,.cons r t => .cons r (Vals.take n t)
theorem Vals.drop:∀ {xs:List V} {us:List Value} (n:Nat),Vals xs us→Vals (xs.drop n) (us.drop n)
 | _,_,0,r => r
 | _,_,_ + 1,.nil => .nil
 | _,_,n + 1,.cons _ t => Vals.drop n t
def RelO:Option V→Option Value→Prop
 | some v,some u => RelV v u
 | none,none => True
 | _,_ => False
def KV {κ:Type}:List (κ × V)→List (κ × Value)→Prop:=Paired fun (p:κ × V) (q:κ × Value) => p.1 = q.1∧RelV p.2 q.2
def kV:Key→V
 | .inl i => .int i
 | .inr x => .str x
inductive HO where
 | lst (xs:List V)
 | tup (xs:List V)
 | dK (kvs:List (Key × V)) | dT (kvs:List (List Key × V))
 | set (S:Int→Bool) (n:Nat)
 | ins (C dx:Addr) (fs:List (Str × V))
 | own (x:Addr)
 | xd (fs:List (Str × V))
 | met (f x:Addr)
 | rng (lo hi:Int)
 | frz (o:Obj) (u:HO)
 | tbl (ps:Array Value)
 | ext (φ:Heap→Prop)
abbrev Hp:=Addr→Option HO
def upd (H:Hp) (a:Addr) (o:HO):Hp:=fun b => if b = a then some o else H b
theorem upd_same {H:Hp} {a:Addr} {o:HO}:upd H a o a = some o:=by unfold upd; rw [if_pos rfl]
theorem upd_ne {H:Hp} {a b:Addr} {o:HO} (h:b≠a):upd H a o b = H b:=by unfold upd; rw [if_neg h]
theorem upd_upd {H:Hp} {a:Addr} {o u:HO}:upd (upd H a o) a u = upd H a u:=by
 funext b; unfold upd; split <;> rfl
theorem ne_of {H:Hp} {a b:Addr} {o u:HO} (h:H a = some o) (h':H b = some u) (d:o≠u):a≠b:=by
 intro e; subst e; rw [h] at h'; exact d (Option.some.inj h')
theorem ne_of_none {H:Hp} {a b:Addr} {o:HO} (h:H a = some o) (h':H b = none):a≠b:=by
 intro e; subst e; rw [h] at h'; cases h'
section
variable (P:Program) (w:World)
def ObjOk (H:Hp) (h:Heap) (a:Addr):HO→Prop
 | .lst xs => xs.length≤sizeLine∧∃ (its:List Value) (n:Nat),Vals xs its∧h.get? a = some { cls:=.type "list",data:=.seq its.toArray n }
 | .tup xs => xs.length≤sizeLine∧∃ its:List Value,Vals xs its∧IsTup h a its.toArray
 | .dK kvs => kvs.length≤sizeLine∧(a == sysModules) = false∧∃ vs,KV kvs vs∧h.DictOf (mixKind P w) a vs
 | .dT kvs => kvs.length≤sizeLine∧(a == sysModules) = false∧∃ xs:List (List Key × Addr × Value),
   Paired (fun (p:List Key × V) (q:List Key × Addr × Value) => p.1 = q.1∧H q.2.1 = some (.tup (p.1.map kV))∧RelV p.2 q.2.2) kvs xs ∧
   ∃ o es ep,h.get? a = some o∧o.ExactDict∧o.data = .dict es ep∧es.toList = xs.map (entryOfKey (tupleKind (mixKind P w)))∧(xs.map (·.1)).Nodup
 | .set S n => h.SetOf (intKind P w) a S n
 | .ins C dx fs => H dx = some (.own a)∧fs.length≤1000∧dx≠a∧h.get? a = some (PySem.W.instObj C dx) ∧
   ∃ mA,h.Ns1 dx mA∧(∀ f,RelO (fs.lookup f) (mA f))∧PySem.Within mA (fs.map (·.1))
 | .own _ => ∃ o,h.get? a = some o
 | .xd fs => ∃ mA,h.Ns1 a mA∧∀ f,RelO (fs.lookup f) (mA f)
 | .rng lo hi => ∃ t u v,h.get? a = some { cls:=.type "range",data:=.fields #[.int lo t,.int hi u,.int 1 v] }
 | .frz o u => h.get? a = some o∧ObjOk H h a u
 | .tbl ps => h.get? a = some { cls:=.none,data:=.fields ps }
 | .met f x => h.get? a = some (PySem.W.methodObj (.ref f) (.ref x))
 | .ext φ => φ h∧(∃ o,h.get? a = some o)∧∀ h1 h2:Heap,φ h1→(∀ o,h1.get? a = some o→h2.get? a = some o)→φ h2
def HOk (H:Hp) (h:Heap):Prop:=∀ a o,H a = some o→ObjOk P w H h a o
end
section
variable {P:Program} {w:World} {H H':Hp} {h h':Heap} {a:Addr} {o:HO}
theorem ObjOk.lt (x:ObjOk P w H h a o):a < h.objs.size:=by
 cases o with
 | lst xs => obtain ⟨_,_,_,_,e⟩:=x; exact Heap.lt_size e
 | tup xs => obtain ⟨_,_,_,p⟩:=x; exact p.lt
 | dK kvs => obtain ⟨_,_,_,_,o,_,_,e,_⟩:=x; exact Heap.lt_size e
 | dT kvs => obtain ⟨_,_,_,_,o,_,_,e,_⟩:=x; exact Heap.lt_size e
 | set S n => obtain ⟨o,_,_,_,e,_⟩:=x; exact Heap.lt_size e
 | ins C dx fs => obtain ⟨_,_,_,e,_⟩:=x; exact Heap.lt_size e
 | own y => obtain ⟨_,e⟩:=x; exact Heap.lt_size e
 | xd fs => obtain ⟨_,⟨_,_,_,e,_⟩,_⟩:=x; exact Heap.lt_size e
 | rng lo hi => obtain ⟨_,_,_,e⟩:=x; exact Heap.lt_size e
 | frz ob u => obtain ⟨e,_⟩:=x; exact Heap.lt_size e
 | tbl ps => exact Heap.lt_size (show h.get? a = some _ from x)
 | met f y => exact Heap.lt_size (show h.get? a = some _ from x)
 | ext φ => obtain ⟨_,⟨_,e⟩,_⟩:=x; exact Heap.lt_size e
theorem Paired.mapP {α β:Type} {F G:α→β→Prop}:∀ {l₁:List α} {l₂:List β},Paired F l₁ l₂→(∀ a b,F a b→G a b)→Paired G l₁ l₂
 | _,_,.nil,_ => .nil
 | _,_,.cons r t,f => .cons (f _ _ r) (Paired.mapP t f)
theorem ObjOk.stay (x:ObjOk P w H h a o) (k:∀ b u,(b = a∨H b = some (.own a))→h.get? b = some u→h'.get? b = some u)
  (ho:∀ b,H b = some (.own a)→H' b = some (.own a)) (ht:∀ b xs,H b = some (.tup xs)→H' b = some (.tup xs)):ObjOk P w H' h' a o:=by
 induction o with
 | lst xs => obtain ⟨z,its,n,r,e⟩:=x; exact ⟨z,its,n,r,k _ _ (.inl rfl) e⟩
 | tup xs => obtain ⟨z,its,r,ob,e,c⟩:=x; exact ⟨z,its,r,ob,k _ _ (.inl rfl) e,c⟩
 | dK kvs => obtain ⟨z,y,vs,r,ob,es,ep,e,c⟩:=x; exact ⟨z,y,vs,r,ob,es,ep,k _ _ (.inl rfl) e,c⟩
 | dT kvs =>
  obtain ⟨z,y,xs,r,ob,es,ep,e,c⟩:=x
  exact ⟨z,y,xs,Paired.mapP r fun p q z => ⟨z.1,ht _ _ z.2.1,z.2.2⟩,ob,es,ep,k _ _ (.inl rfl) e,c⟩
 | set S n => obtain ⟨ob,es,ep,t,e,c⟩:=x; exact ⟨ob,es,ep,t,k _ _ (.inl rfl) e,c⟩
 | ins C dx fs =>
  obtain ⟨d,z,ne,e,mA,⟨od,es,ep,e2,c⟩,r⟩:=x
  exact ⟨ho _ d,z,ne,k _ _ (.inl rfl) e,mA,⟨od,es,ep,k _ _ (.inr d) e2,c⟩,r⟩
 | own y => obtain ⟨ob,e⟩:=x; exact ⟨ob,k _ _ (.inl rfl) e⟩
 | xd fs => obtain ⟨mA,⟨od,es,ep,e,c⟩,r⟩:=x; exact ⟨mA,⟨od,es,ep,k _ _ (.inl rfl) e,c⟩,r⟩
 | rng lo hi => obtain ⟨t,u,v,e⟩:=x; exact ⟨t,u,v,k _ _ (.inl rfl) e⟩
 | frz ob u ih => obtain ⟨e,q⟩:=x; exact ⟨k _ _ (.inl rfl) e,ih q⟩
 | tbl ps =>
  have e:h.get? a = some { cls:=.none,data:=.fields ps }:=x
  show h'.get? a = some { cls:=.none,data:=.fields ps }
  exact k a _ (.inl rfl) e
 | met f y =>
  have e:h.get? a = some (PySem.W.methodObj (.ref f) (.ref y)):=x
  show h'.get? a = some (PySem.W.methodObj (.ref f) (.ref y))
  exact k a _ (.inl rfl) e
 | ext φ => obtain ⟨p,⟨o,e⟩,st⟩:=x; exact ⟨st _ _ p fun o q => k _ _ (.inl rfl) q,⟨o,k _ _ (.inl rfl) e⟩,st⟩
theorem HOk.lt (x:HOk P w H h) (e:H a = some o):a < h.objs.size:=(x a o e).lt
theorem HOk.fresh (x:HOk P w H h) (e:h.objs.size≤a):H a = none:=by
 cases q:H a with
 | none => rfl
 | some u => exact absurd (Nat.lt_of_lt_of_le (x.lt q) e) (Nat.lt_irrefl _)
theorem HOk.kept (x:HOk P w H h) (k:∀ b u,h.get? b = some u→h'.get? b = some u):HOk P w H h':=fun a o e =>
 (x a o e).stay (fun b u _ q => k b u q) (fun _ q => q) fun _ _ q => q
theorem HOk.laid (x:HOk P w H h) (k:∀ b u,h.get? b = some u→h'.get? b = some u) (hp:h.objs.size≤a) (new:ObjOk P w (upd H a o) h' a o):HOk P w (upd H a o) h':=fun b u e => by
 have hn:=x.fresh hp
 by_cases hb:b = a
 ·subst hb; rw [upd_same] at e; cases e; exact new
 ·rw [upd_ne hb] at e
  exact (x b u e).stay (fun c v _ q => k c v q) (fun c q => by rw [upd_ne (ne_of_none q hn)]; exact q) fun c xs q => by rw [upd_ne (ne_of_none q hn)]; exact q
end
def Rd (H:Hp) (a:Addr) (u:HO):Prop:=H a = some u∨∃ o,H a = some (.frz o u)
theorem Rd.ok {P:Program} {w:World} {H:Hp} {h:Heap} {a:Addr} {u:HO} (r:Rd H a u) (x:HOk P w H h):ObjOk P w H h a u:=by
 rcases r with r | ⟨o,r⟩
 ·exact x a u r
 ·obtain ⟨_,q⟩:=x a _ r
  exact q
def Mut:Option HO→Prop
 | some (.lst _) => True
 | some (.dK _) => True
 | some (.dT _) => True
 | some (.set _ _) => True
 | some (.ins _ _ _) => True
 | some (.ext _) => True
 | _ => False
section
variable {P:Program} {w:World} {H:Hp} {h h':Heap} {x e:Addr} {o':HO}
theorem HOk.write (ok:HOk P w H h) (mu:Mut (H x)) (he:e = x∨H e = some (.own x)) (k:∀ b u,b≠e→h.get? b = some u→h'.get? b = some u) (heo:∃ u,h'.get? e = some u)
  (new:ObjOk P w (upd H x o') h' x o'):HOk P w (upd H x o') h':=fun b u q => by
 have nown:∀ c y,H c = some (.own y)→c≠x:=fun c y r z => by subst z; rw [r] at mu; exact mu
 have ntup:∀ c xs,H c = some (.tup xs)→c≠x:=fun c xs r z => by subst z; rw [r] at mu; exact mu
 by_cases hb:b = x
 ·subst hb; rw [upd_same] at q; cases q; exact new
 ·rw [upd_ne hb] at q
  by_cases hbe:b = e
  ·have q':H b = some (.own x):=by
    rcases he with z | z
    ·exact absurd (hbe.trans z) hb
    ·rw [hbe]; exact z
   rw [q] at q'; cases q'
   obtain ⟨v,hv⟩:=heo
   exact ⟨v,by rw [hbe]; exact hv⟩
  ·refine (ok b u q).stay (fun c v hc r => k c v ?_ r) (fun c r => by rw [upd_ne (nown c b r)]; exact r) fun c xs r => by rw [upd_ne (ntup c xs r)]; exact r
   rcases hc with rfl | hc
   ·exact hbe
   ·rintro rfl
    rcases he with z | z
    ·exact nown c b hc z
    ·rw [hc] at z; cases z; exact hb rfl
end
structure Un (fs ex:List Addr) (H H':Hp) (h h':Heap):Prop where
 keep:∀ b o,h.get? b = some o→H b = none→b ∉ fs→b ∉ ex→h'.get? b = some o
 slot:∀ b o,h.get? b = some o→H b = none→b∈fs→b ∉ ex→∃ sl,h'.get? b = some { o with slots:=sl }
 free:∀ b o,h.get? b = some o→H b = none→b ∉ ex→H' b = none
 there:∀ b o,h.get? b = some o→b ∉ ex→∃ o',h'.get? b = some o'
 tups:∀ b xs,H b = some (.tup xs)→H' b = some (.tup xs)
 frzs:∀ b o u,H b = some (.frz o u)→H' b = some (.frz o u)
 tbls:∀ b ps,H b = some (.tbl ps)→∃ more,H' b = some (.tbl (ps ++ more))
section
variable {fs fs' ex ex':List Addr} {H H1 H2:Hp} {h h1 h2 h':Heap} {a x e:Addr} {o:HO}
theorem Un.any (u:Un fs ex H H1 h h1) {b:Addr} {ob:Obj} (q:h.get? b = some ob) (n:H b = none) (hx:b ∉ ex):∃ sl,h1.get? b = some { ob with slots:=sl }:=by
 by_cases hb:b∈fs
 ·exact u.slot b ob q n hb hx
 ·exact ⟨ob.slots,u.keep b ob q n hb hx⟩
theorem Un.kept (k:∀ b u,h.get? b = some u→h'.get? b = some u):Un fs ex H H h h' :=
 ⟨fun b ob q _ _ _ => k b ob q,fun b ob q _ _ _ => ⟨ob.slots,k b ob q⟩,fun _ _ _ n _ => n,fun b ob q _ => ⟨ob,k b ob q⟩,fun _ _ q => q,fun _ _ _ q => q,fun _ ps q => ⟨#[],by rw [q]; simp⟩⟩
theorem Un.refl:Un fs ex H H h h:=Un.kept fun _ _ q => q
theorem Un.laid (k:∀ b u,h.get? b = some u→h'.get? b = some u) (hp:h.objs.size≤a) (hn:H a = none):Un fs ex H (upd H a o) h h' where
 keep:=fun b u q _ _ _ => k b u q
 slot:=fun b u q _ _ _ => ⟨u.slots,k b u q⟩
 free:=fun b u q n _ => by rw [upd_ne (Nat.ne_of_lt (Nat.lt_of_lt_of_le (Heap.lt_size q) hp))]; exact n
 there:=fun b u q _ => ⟨u,k b u q⟩
 tups:=fun b xs q => by rw [upd_ne (ne_of_none q hn)]; exact q
 frzs:=fun b u xs q => by rw [upd_ne (ne_of_none q hn)]; exact q
 tbls:=fun b ps q => ⟨#[],by rw [upd_ne (ne_of_none q hn),q]; simp⟩
theorem Un.write (mu:Mut (H x)) (he:e = x∨H e = some (.own x)) (k:∀ b u,b≠e→h.get? b = some u→h'.get? b = some u) (heo:∃ u,h'.get? e = some u):Un fs ex H (upd H x o) h h':=by
 have hx:∀ b,H b = none→b≠x:=fun b n z => by subst z; rw [n] at mu; exact mu
 have hb:∀ b,H b = none→b≠e:=fun b n z => by
  subst z
  rcases he with r | r
  ·exact hx b n r
  ·rw [n] at r; cases r
 have hm:∀ b u,H b = some u→¬ Mut (some u)→b≠x:=fun b u q nm z => by subst z; rw [q] at mu; exact nm mu
 refine ⟨fun b u q n _ _ => k b u (hb b n) q,fun b u q n _ _ => ⟨u.slots,k b u (hb b n) q⟩,fun b u q n _ => by rw [upd_ne (hx b n)]; exact n,fun b u q _ => ?_,
  fun b xs q => by rw [upd_ne (hm b _ q fun z => z)]; exact q,fun b u xs q => by rw [upd_ne (hm b _ q fun z => z)]; exact q,fun b ps q => ⟨#[],by rw [upd_ne (hm b _ q fun z => z),q]; simp⟩⟩
 by_cases hbe:b = e
 ·subst hbe; exact heo
 ·exact ⟨u,k b u hbe q⟩
end
def trk (h:Heap) (H:Hp):List Addr:=(List.range h.objs.size).filter fun a => (H a).isSome
def hidT (h:Heap) (H:Hp):Heap:=PySem.W.hideAll h (trk h H)
theorem hidT_size (h:Heap) (H:Hp):(hidT h H).objs.size = h.objs.size:=PySem.W.hideAll_size _ _
theorem hidT_get {h:Heap} {H:Hp} {b:Addr} {o:Obj} (e:h.get? b = some o) (n:H b = none):(hidT h H).get? b = some o :=
 PySem.W.hideAll_get _ e fun hm => by
  have q:(H b).isSome = true:=(List.mem_filter.mp hm).2
  rw [n] at q; simp at q
theorem of_hidT {h:Heap} {H:Hp} {b:Addr} {o:Obj} (e:(hidT h H).get? b = some o):h.get? b = some o∧H b = none:=by
 have e':h.get? b = some o:=PySem.W.of_hideAll (trk h H) e
 refine ⟨e',?_⟩
 cases q:H b with
 | none => rfl
 | some x =>
  have hm:b∈trk h H:=List.mem_filter.mpr ⟨List.mem_range.mpr (Heap.lt_size e'),by simp [q]⟩
  have z:(hidT h H).get? b = none:=PySem.W.hideAll_none (trk h H) hm
  rw [z] at e; cases e
end L2
namespace L2
open PySem PySem.Spec PyProof.Rows
structure Mod (K:PySem.W.Frag) (mg:Str→Option Value) (base:Heap):Prop where
 kin:K.In base
 glob:base.Ns mainGlobals mg
 blt:∃ mb,base.Ns builtinsNs mb∧∀ x:Str,x≠"__name__"→mb x = bootBuiltins x
 nolimit:base.NoLimit
structure Cx where
 prog:Program
 w:World
 K:PySem.W.Frag
 mg:Str→Option Value
 base:Heap
 A:Around
 N:List Str
 s₀:Shared
 H₀:Hp
 env:Env
 outer:List Env
 stack:List Env
 ex:List Addr
 fn:Str→Bool
 calm:Bool
 pn:List (Addr × Obj)
 xe:Value→Shared→Prop
def frs (l:List Env):List Addr:=l.filterMap (·.frame)
abbrev Cx.fs (X:Cx):List Addr:=frs X.outer
def Vis (sc:Scope) (x:Str):Prop:=sc.names.lookup x = some .local∨sc.names.lookup x = some .cell∨sc.names.lookup x = some .free
def Loc (sc:Scope) (x:Str):Prop:=sc.names.lookup x = some .local∨sc.names.lookup x = some .cell
def Look (env:Env) (h:Heap) (m:Str→Option Value) (x:Str) (u:Value):Prop :=
 (env.kindOf x = some .local∧m x = some u)∨((env.kindOf x = some .cell∨env.kindOf x = some .free)∧∃ c,env.cells.lookup x = some c∧h.IsCell c (some u))
structure Cx.Ok (X:Cx):Prop where
 mod:Mod X.K X.mg X.base
 kind:X.env.scope.kind = .function
 glob:X.env.globals = mainGlobals
 blt:X.env.builtins = builtinsNs
 above:X.s₀.heap.objs.size≤X.env.locals
 inj:∀ x y c,X.env.cells.lookup x = some c→X.env.cells.lookup y = some c→x = y
 has:∀ x,(X.env.kindOf x = some .cell∨X.env.kindOf x = some .free)→∃ c,X.env.cells.lookup x = some c
 cab:∀ x c,X.fn x = true→X.env.cells.lookup x = some c→X.s₀.heap.objs.size≤c
 hd:X.calm = true→X.A.handled = none
 frames:X.A.frames = some X.stack
 stk:X.stack = X.outer∨(X.stack = X.env :: X.outer∧X.env.frame = some X.env.locals)
 exf:∀ b∈X.ex,b≠X.env.locals∧∀ x c,X.env.cells.lookup x = some c→c≠b
 bs:∀ b o,X.base.get? b = some o→X.s₀.heap.get? b = some o∧X.H₀ b = none
 bsz:X.base.objs.size≤X.s₀.heap.objs.size
 noex:∀ b o,X.base.get? b = some o→b ∉ X.ex
 exfs:∀ b∈X.ex,b ∉ X.fs
 funs:X.s₀.heap.FunFrames X.base X.outer
 frf:∀ b∈X.fs,X.H₀ b = none
inductive CxO (H:Hp):Value→Prop
 | nil:CxO H .none
 | cons {b:Addr} {ob:Obj} {us:Array Value} {u:HO} {c:Value}:H b = some (.frz ob u)→ob.data = .fields us→us[2]? = some c→CxO H c→CxO H (.ref b)
theorem CxO.mono {H H':Hp} {c:Value} (h:CxO H c) (k:∀ b o u,H b = some (.frz o u)→H' b = some (.frz o u)):CxO H' c:=by
 induction h with
 | nil => exact .nil
 | cons q1 q2 q3 _ ih => exact .cons (k _ _ _ q1) q2 q3 ih
theorem CxO.chn {P:Program} {w:World} {H:Hp} {h:Heap} {c:Value} (n:CxO H c) (ok:HOk P w H h):∃ D,Chn h D c∧∀ b∈D,∃ o u,H b = some (.frz o u):=by
 induction n with
 | nil => exact ⟨[],.nil,fun b hb => absurd hb (by simp)⟩
 | @cons b ob us u c q1 q2 q3 _ ih =>
  obtain ⟨D,m,l⟩:=ih
  refine ⟨b :: D,.cons (by simp) (ok b _ q1).1 q2 q3 (m.kept (fun _ _ _ e => e) fun d hd => List.mem_cons_of_mem _ hd),fun d hd => ?_⟩
  rcases List.mem_cons.mp hd with rfl | hd
  ·exact ⟨_,_,q1⟩
  ·exact l d hd
def HdF (A:Around) (H:Hp):Prop:=A.handled = none∨∃ ea:Addr,A.handled = some (.ref ea)∧CxO H (.ref ea)
theorem HdF.mono {A:Around} {H H':Hp} (h:HdF A H) (k:∀ b o u,H b = some (.frz o u)→H' b = some (.frz o u)):HdF A H':=by
 rcases h with z | ⟨ea,h1,h2⟩
 ·exact .inl z
 ·exact .inr ⟨ea,h1,h2.mono k⟩
theorem HdF.now {P:Program} {w:World} {A:Around} {H:Hp} {h:Heap} (n:HdF A H) (ok:HOk P w H h):HdN A h:=by
 rcases n with z | ⟨ea,h1,h2⟩
 ·exact ⟨[],.inl z⟩
 ·obtain ⟨D,m,_⟩:=h2.chn ok
  exact ⟨D,.inr ⟨ea,h1,m⟩⟩
structure Inv (X:Cx) (pins:List (Addr × Obj)) (σ:List (Option V)) (H:Hp) (s:Shared):Prop where
 ok:X.Ok
 os:s.os = X.s₀.os
 bare:AllBare s.gens
 base:Un X.fs X.ex X.H₀ H X.s₀.heap s.heap
 loc:∃ m,s.heap.Ns X.env.locals m∧∀ (i:Nat) (x:Str) (v:V),X.N[i]? = some x→σ[i]? = some (some v)→Vis X.env.scope x→∃ u,RelV v u∧Look X.env s.heap m x u
 cell:∀ x c,X.env.cells.lookup x = some c→∃ v,s.heap.IsCell c v
 free:H X.env.locals = none
 freeC:∀ x c,X.env.cells.lookup x = some c→H c = none
 pin:∀ p∈X.pn ++ pins,s.heap.get? p.1 = some p.2∧H p.1 = none∧p.1≠X.env.locals∧p.1 ∉ X.fs∧∀ v,p.2.data≠.cell v
 hok:HOk X.prog X.w H s.heap
 len:σ.length = X.N.length
 hn:HdF X.A H
section
variable {X:Cx} {pins:List (Addr × Obj)} {σ:List (Option V)} {H H':Hp} {s:Shared} {h':Heap}
theorem Cx.Ok.nofr (ok:X.Ok) {b:Addr} {o:Obj} (e:X.base.get? b = some o):b ∉ X.fs:=fun hb => by
 have:=(ok.funs.mem hb).1
 rw [e] at this; cases this
theorem Inv.bs (I:Inv X pins σ H s):∀ b o,X.base.get? b = some o→s.heap.get? b = some o∧H b = none:=fun b o e =>
 ⟨I.base.keep b o (I.ok.bs b o e).1 (I.ok.bs b o e).2 (I.ok.nofr e) (I.ok.noex b o e),I.base.free b o (I.ok.bs b o e).1 (I.ok.bs b o e).2 (I.ok.noex b o e)⟩
theorem Inv.bk (I:Inv X pins σ H s):∀ b o,X.base.get? b = some o→s.heap.get? b = some o:=fun b o e => (I.bs b o e).1
theorem Inv.mod (I:Inv X pins σ H s):Mod X.K X.mg X.base:=I.ok.mod
theorem Inv.kIn (I:Inv X pins σ H s):X.K.In s.heap:=I.ok.mod.kin.keeps I.bk
theorem Inv.fr (I:Inv X pins σ H s):∃ m,Fr X.base X.env.locals s.heap m :=
 let ⟨m,hn,_⟩:=I.loc
 ⟨m,hn,I.bk,Nat.le_trans I.ok.bsz I.ok.above⟩
theorem Inv.lt (I:Inv X pins σ H s):X.env.locals < s.heap.objs.size:=let ⟨_,hn,_⟩:=I.loc; hn.lt
theorem Inv.sz (I:Inv X pins σ H s):X.s₀.heap.objs.size≤s.heap.objs.size:=Nat.le_trans I.ok.above (Nat.le_of_lt I.lt)
theorem Inv.nofs (I:Inv X pins σ H s) {a:Addr} (h:s.heap.objs.size≤a):a ∉ X.fs:=fun hb => by
 obtain ⟨_,o,ho,_⟩:=I.ok.funs.mem hb
 exact absurd (Nat.lt_of_lt_of_le (Heap.lt_size ho) (Nat.le_trans I.sz h)) (Nat.lt_irrefl _)
theorem Inv.cne (I:Inv X pins σ H s):∀ x c,X.env.cells.lookup x = some c→c≠X.env.locals:=fun x c e z => by
 obtain ⟨v,o,ho,hd⟩:=I.cell x c e
 obtain ⟨m,⟨o',es,ep,ho',hd',_⟩,_⟩:=I.loc
 rw [z,ho'] at ho; cases ho; rw [hd'] at hd; cases hd
theorem Inv.funs (I:Inv X pins σ H s):s.heap.FunFrames X.base X.outer:=by
 have all:∀ (l:List Env),(∀ b∈frs l,b∈X.fs)→X.s₀.heap.FunFrames X.base l→s.heap.FunFrames X.base l:=by
  intro l
  induction l with
  | nil => intro _ _; trivial
  | cons env r ih =>
   intro hs hl
   obtain ⟨hk,⟨L,o,hf,hn,ho,hd⟩,hr⟩:=hl
   have hL:L∈X.fs:=hs L (by unfold frs; rw [List.filterMap_cons,hf]; exact List.mem_cons_self)
   obtain ⟨sl,e⟩:=I.base.slot L o ho (I.ok.frf L hL) hL fun z => I.ok.exfs L z hL
   exact ⟨hk,⟨L,_,hf,hn,e,hd⟩,ih (fun b hb => hs b (by unfold frs; rw [List.filterMap_cons,hf]; exact List.mem_cons_of_mem _ hb)) hr⟩
 exact all X.outer (fun _ hb => hb) I.ok.funs
theorem Inv.stack (I:Inv X pins σ H s):s.heap.FunFrames X.base X.stack:=by
 rcases I.ok.stk with e | ⟨e,hf⟩
 ·rw [e]; exact I.funs
 ·rw [e]
  obtain ⟨m,hn,_⟩:=I.loc
  refine .cons (by rw [I.ok.kind]; decide) hf hn ?_ I.funs
  exact Heap.get?_none_of_le (Nat.le_trans I.ok.bsz I.ok.above)
theorem Inv.stkSub (I:Inv X pins σ H s):∀ b∈frs X.stack,b∈X.env.locals :: X.fs:=fun b hb => by
 rcases I.ok.stk with e | ⟨e,hf⟩
 ·rw [e] at hb; exact List.mem_cons_of_mem _ hb
 ·rw [e] at hb
  unfold frs at hb
  rw [List.filterMap_cons,hf] at hb
  exact hb
theorem Inv.stkFree (I:Inv X pins σ H s):∀ b∈frs X.stack,H b = none:=fun b hb => by
 rcases List.mem_cons.mp (I.stkSub b hb) with e | hb
 ·rw [e]; exact I.free
 ·obtain ⟨_,o,ho,_⟩:=I.ok.funs.mem hb
  exact I.base.free b o ho (I.ok.frf b hb) fun z => I.ok.exfs b z hb
theorem Inv.step {g':Array GenState} {t':Nat} {d':Drawn} {ch:List Addr} (I:Inv X pins σ H s)
  (hch:∀ b∈ch,(b∈X.ex∨X.s₀.heap.objs.size≤b)∧b≠X.env.locals∧(∀ x c,X.env.cells.lookup x = some c→c≠b)∧∀ p∈X.pn ++ pins,p.1≠b)
  (keep:∀ b o,b≠X.env.locals→b ∉ X.fs→b ∉ ch→s.heap.get? b = some o→H b = none→h'.get? b = some o)
  (slot:∀ b o,b≠X.env.locals→b∈X.fs→b ∉ ch→s.heap.get? b = some o→H b = none→∃ sl,h'.get? b = some { o with slots:=sl }) (free:∀ b o,b ∉ ch→s.heap.get? b = some o→H b = none→H' b = none)
  (there:∀ b o,b ∉ ch→s.heap.get? b = some o→∃ o',h'.get? b = some o')
  (tups:∀ b xs,H b = some (.tup xs)→H' b = some (.tup xs)) (frzs:∀ b o u,H b = some (.frz o u)→H' b = some (.frz o u)) (tbls:∀ b ps,H b = some (.tbl ps)→∃ more,H' b = some (.tbl (ps ++ more)))
  (ns:∀ m,s.heap.Ns X.env.locals m→h'.Ns X.env.locals m) (hok:HOk X.prog X.w H' h') (hg:AllBare g') :
  Inv X pins σ H' { s with heap:=h',gens:=g',drawn:=d',toks:=t' }:=by
 have neL:∀ b o,X.s₀.heap.get? b = some o→b≠X.env.locals:=fun b o e => Nat.ne_of_lt (Nat.lt_of_lt_of_le (Heap.lt_size e) I.ok.above)
 have neC:∀ b o,X.s₀.heap.get? b = some o→b ∉ X.ex→b ∉ ch:=fun b o e hx hb => by
  rcases (hch b hb).1 with z | z
  ·exact hx z
  ·exact absurd (Nat.lt_of_lt_of_le (Heap.lt_size e) z) (Nat.lt_irrefl _)
 have cellK:∀ x c,X.env.cells.lookup x = some c→∀ v,s.heap.IsCell c v→h'.IsCell c v:=fun x c e v ⟨o,ho,hd⟩ => by
  have nch:c ∉ ch:=fun z => (hch c z).2.2.1 x c e rfl
  by_cases hc:c∈X.fs
  ·obtain ⟨sl,q⟩:=slot c o (I.cne x c e) hc nch ho (I.freeC x c e)
   exact ⟨_,q,hd⟩
  ·exact ⟨o,keep c o (I.cne x c e) hc nch ho (I.freeC x c e),hd⟩
 refine ⟨I.ok,I.os,hg,⟨fun b o e n hb hx => ?_,fun b o e n hb hx => ?_,fun b o e n hx => ?_,fun b o e hx => ?_,fun b xs e => tups b xs (I.base.tups b xs e),fun b o xs e => frzs b o xs (I.base.frzs b o xs e),fun b ps e => ?_⟩,?_,fun x c e => ?_,?_,fun x c e => ?_,fun p hp => ?_,hok,I.len,I.hn.mono frzs⟩
 ·exact keep b o (neL b o e) hb (neC b o e hx) (I.base.keep b o e n hb hx) (I.base.free b o e n hx)
 ·obtain ⟨sl,e1⟩:=I.base.slot b o e n hb hx
  obtain ⟨sl',e2⟩:=slot b _ (neL b o e) hb (neC b o e hx) e1 (I.base.free b o e n hx)
  exact ⟨sl',e2⟩
 ·obtain ⟨o',e1⟩:=I.base.there b o e hx
  exact free b o' (neC b o e hx) e1 (I.base.free b o e n hx)
 ·obtain ⟨o',e1⟩:=I.base.there b o e hx
  exact there b o' (neC b o e hx) e1
 ·obtain ⟨m1,e1⟩:=I.base.tbls b ps e
  obtain ⟨m2,e2⟩:=tbls b _ e1
  exact ⟨m1 ++ m2,by rw [e2,Array.append_assoc]⟩
 ·obtain ⟨m,hn,hl⟩:=I.loc
  refine ⟨m,ns m hn,fun i x v e1 e2 e3 => ?_⟩
  obtain ⟨u,r,l⟩:=hl i x v e1 e2 e3
  refine ⟨u,r,?_⟩
  rcases l with l | ⟨k,c,e,z⟩
  ·exact .inl l
  ·exact .inr ⟨k,c,e,cellK x c e _ z⟩
 ·obtain ⟨v,z⟩:=I.cell x c e
  exact ⟨v,cellK x c e v z⟩
 ·obtain ⟨m,⟨o,_,_,ho,_⟩,_⟩:=I.loc
  exact free _ o (fun z => (hch _ z).2.1 rfl) ho I.free
 ·obtain ⟨v,o,ho,hd⟩:=I.cell x c e
  exact free c o (fun z => (hch c z).2.2.1 x c e rfl) ho (I.freeC x c e)
 ·obtain ⟨e,n,ne,nf,d⟩:=I.pin p hp
  have nch:p.1 ∉ ch:=fun z => (hch p.1 z).2.2.2 p hp rfl
  exact ⟨keep p.1 p.2 ne nf nch e n,free p.1 p.2 nch e n,ne,nf,d⟩
theorem Inv.un {t':Nat} (I:Inv X pins σ H s) (u:Un X.fs [] H H' s.heap h') (hok:HOk X.prog X.w H' h'):Inv X pins σ H' { s with heap:=h',toks:=t' }:=by
 obtain ⟨m,⟨o,es,ep,ho,r⟩,_⟩:=id I.loc
 obtain ⟨sl,hL⟩:=u.any ho I.free (by simp)
 exact I.step (g':=s.gens) (d':=s.drawn) (ch:=[]) (fun _ z => nomatch z) (fun b o _ hb _ e n => u.keep b o e n hb (by simp)) (fun b o _ hb _ e n => u.slot b o e n hb (by simp)) (fun b o _ e n => u.free b o e n (by simp)) (fun b o _ e => u.there b o e (by simp)) u.tups u.frzs u.tbls (fun m' hm => by
  obtain ⟨o',es',ep',ho',r'⟩:=hm
  rw [ho] at ho'; cases ho'
  exact ⟨_,es',ep',hL,r'⟩) hok I.bare
theorem Inv.call {g':Array GenState} {t':Nat} {d':Drawn} {ch:List Addr} (I:Inv X pins σ H s) (u:Un (frs X.stack) ch H H' s.heap h') (hok:HOk X.prog X.w H' h') (hg:AllBare g')
  (hch:∀ b∈ch,(b∈X.ex∨X.s₀.heap.objs.size≤b)∧b≠X.env.locals∧(∀ x c,X.env.cells.lookup x = some c→c≠b)∧∀ p∈X.pn ++ pins,p.1≠b) :
  Inv X pins σ H' { s with heap:=h',gens:=g',drawn:=d',toks:=t' }:=by
 obtain ⟨m,⟨o,es,ep,ho,r⟩,_⟩:=id I.loc
 obtain ⟨sl,hL⟩:=u.any ho I.free fun z => (hch _ z).2.1 rfl
 exact I.step (ch:=ch) hch (fun b o hL hb hc e n => u.keep b o e n (fun z => (List.mem_cons.mp (I.stkSub b z)).elim hL hb) hc) (fun b o _ _ hc e n => u.any e n hc) (fun b o hc e n => u.free b o e n hc) (fun b o hc e => u.there b o e hc) u.tups u.frzs u.tbls (fun m' hm => by
  obtain ⟨o',es',ep',ho',r'⟩:=hm
  rw [ho] at ho'; cases ho'
  exact ⟨_,es',ep',hL,r'⟩) hok hg
theorem Inv.turned {t':Nat} {it:Addr} (I:Inv X pins σ H s) (k:∀ b o,b≠it→s.heap.get? b = some o→h'.get? b = some o) (hn:H it = none) (hL:it≠X.env.locals)
  (h1:it∈X.ex∨X.s₀.heap.objs.size≤it) (h2:∀ x c,X.env.cells.lookup x = some c→c≠it) (h3:∀ p∈X.pn ++ pins,p.1≠it):Inv X pins σ H { s with heap:=h',toks:=t' }:=by
 have nit:∀ b u,H b = some u→b≠it:=fun b u e z => by rw [z,hn] at e; cases e
 refine I.step (g':=s.gens) (d':=s.drawn) (ch:=[it]) (fun b hb => ?_) (fun b o _ _ hc e _ => k b o (fun z => hc (by simp [z])) e) (fun b o _ _ hc e _ => ⟨o.slots,k b o (fun z => hc (by simp [z])) e⟩) (fun _ _ _ _ n => n)
  (fun b o hc e => ⟨o,k b o (fun z => hc (by simp [z])) e⟩) (fun _ _ e => e) (fun _ _ _ e => e) (fun b ps e => ⟨#[],by rw [e]; simp⟩) (fun m hm => ?_) (fun b u e => ?_) I.bare
 ·have e:b = it:=by simpa using hb
  subst e
  exact ⟨h1,hL,h2,h3⟩
 ·obtain ⟨o,es,ep,ho,r⟩:=hm
  exact ⟨o,es,ep,k _ o (Ne.symm hL) ho,r⟩
 ·refine (I.hok b u e).stay (fun c v hc q => k c v ?_ q) (fun _ q => q) fun _ _ q => q
  rcases hc with z | z
  ·rw [z]; exact nit b u e
  ·exact nit c _ z
theorem Inv.tok (I:Inv X pins σ H s) (t:Nat):Inv X pins σ H { s with toks:=t }:=I.un (h':=s.heap) (t':=t) Un.refl I.hok
theorem Inv.kept {t':Nat} (I:Inv X pins σ H s) (k:∀ b u,s.heap.get? b = some u→h'.get? b = some u):Inv X pins σ H { s with heap:=h',toks:=t' }:=I.un (Un.kept k) (I.hok.kept k)
theorem Inv.laid {a:Addr} {o:HO} {t':Nat} (I:Inv X pins σ H s) (k:∀ b u,s.heap.get? b = some u→h'.get? b = some u) (hp:s.heap.objs.size≤a) (new:ObjOk X.prog X.w (upd H a o) h' a o) :
  Inv X pins σ (upd H a o) { s with heap:=h',toks:=t' }:=I.un (Un.laid k hp (I.hok.fresh hp)) (I.hok.laid k hp new)
theorem Inv.write {x e:Addr} {o:HO} {t':Nat} (I:Inv X pins σ H s) (mu:Mut (H x)) (he:e = x∨H e = some (.own x)) (k:∀ b u,b≠e→s.heap.get? b = some u→h'.get? b = some u) (heo:∃ u,h'.get? e = some u)
  (new:ObjOk X.prog X.w (upd H x o) h' x o):Inv X pins σ (upd H x o) { s with heap:=h',toks:=t' }:=I.un (Un.write mu he k heo) (I.hok.write mu he k heo new)
theorem Inv.weak {σ':List (Option V)} (I:Inv X pins σ H s) (hl:σ'.length = σ.length) (w:∀ (i:Nat) v,σ'[i]? = some (some v)→σ[i]? = some (some v)):Inv X pins σ' H s :=
 ⟨I.ok,I.os,I.bare,I.base,let ⟨m,hn,hl'⟩:=I.loc; ⟨m,hn,fun i x v e1 e2 e3 => hl' i x v e1 (w i v e2) e3⟩,I.cell,I.free,I.freeC,I.pin,I.hok,hl.trans I.len,I.hn⟩
theorem Inv.pins_of {pins':List (Addr × Obj)} (I:Inv X pins σ H s) (h:∀ p∈pins',s.heap.get? p.1 = some p.2∧H p.1 = none∧p.1≠X.env.locals∧p.1 ∉ X.fs∧∀ v,p.2.data≠.cell v):Inv X pins' σ H s :=
 ⟨I.ok,I.os,I.bare,I.base,I.loc,I.cell,I.free,I.freeC,fun p hp => (List.mem_append.mp hp).elim (fun z => I.pin p (List.mem_append_left _ z)) (h p),I.hok,I.len,I.hn⟩
theorem nodup_ix {N:List Str} (hN:N.Nodup) {i j:Nat} {x:Str} (a:N[i]? = some x) (b:N[j]? = some x):i = j:=by
 obtain ⟨h1,e1⟩:=List.getElem?_eq_some_iff.mp a
 obtain ⟨h2,e2⟩:=List.getElem?_eq_some_iff.mp b
 exact (List.getElem_inj hN).mp (e1.trans e2.symm)
theorem store_ok2 {M:Model} {A:Around} {E:Value→Shared→Prop} {i:Nat} {x:Str} {v:V} {u:Value} {Q:Unit→Shared→Prop} (I:Inv X pins σ H s) (hN:X.N.Nodup) (hi:X.N[i]? = some x) (hx:Loc X.env.scope x) (r:RelV v u)
  (h:∀ s',Inv X pins (σ.set i (some v)) H s'→(∃ a,Heap.SameBut a s.heap s'.heap∧(a = X.env.locals∨X.env.cells.lookup x = some a))→Q () s') (hf:X.fn x = true∨X.env.scope.names.lookup x = some .local:=by first | exact .inl rfl | exact .inr rfl | assumption):wpAny M A (storeName X.env x u) Q E s:=by
 obtain ⟨m,hn,hl⟩:=id I.loc
 have hcls:(X.env.scope.kind == .class || (X.env.scope.kind == .module && X.env.locals != X.env.globals)) = false:=by rw [I.ok.kind]; rfl
 have hiσ:i < σ.length:=by rw [I.len]; exact (List.getElem?_eq_some_iff.mp hi).1
 have cne:=I.cne
 have tracked:∀ {a:Addr} {h':Heap},(∃ o,s.heap.get? a = some o∧H a = none)→Heap.SameBut a s.heap h'→HOk X.prog X.w H h':=fun {a h'} ha hs b ob e => by
  obtain ⟨_,_,hfree⟩:=ha
  refine (I.hok b ob e).stay (fun c w' hc q => (hs.2 c ?_).trans q) (fun _ q => q) fun _ _ q => q
  rintro rfl
  rcases hc with rfl | hc
  ·rw [hfree] at e; cases e
  ·rw [hfree] at hc; cases hc
 rcases hx with hk | hk
 ·refine wpAny_storeName_local hk hn (fun h' hn' hs => ?_) hcls
  obtain ⟨oL,_,_,hoL,_⟩:=id hn
  refine h _ ⟨I.ok,I.os,I.bare,⟨fun b o e n hb hx => ?_,fun b o e n hb hx => ?_,I.base.free,fun b o e hx => ?_,I.base.tups,I.base.frzs,I.base.tbls⟩,⟨_,hn',fun j y v' e1 e2 e3 => ?_⟩,fun y c e => ?_,I.free,I.freeC,fun p hp => ?_,tracked ⟨oL,hoL,I.free⟩ hs,by simpa using I.len,I.hn⟩ ⟨_,hs,.inl rfl⟩
  ·exact (hs.2 b (Nat.ne_of_lt (Nat.lt_of_lt_of_le (Heap.lt_size e) I.ok.above))).trans (I.base.keep b o e n hb hx)
  ·obtain ⟨sl,e1⟩:=I.base.slot b o e n hb hx
   exact ⟨sl,(hs.2 b (Nat.ne_of_lt (Nat.lt_of_lt_of_le (Heap.lt_size e) I.ok.above))).trans e1⟩
  ·obtain ⟨o',e1⟩:=I.base.there b o e hx
   exact ⟨o',(hs.2 b (Nat.ne_of_lt (Nat.lt_of_lt_of_le (Heap.lt_size e) I.ok.above))).trans e1⟩
  ·by_cases hj:j = i
   ·subst hj
    rw [hi] at e1; cases e1
    rw [List.getElem?_set_self hiσ] at e2
    cases e2
    exact ⟨u,r,.inl ⟨hk,by simp⟩⟩
   ·rw [List.getElem?_set_ne (Ne.symm hj)] at e2
    obtain ⟨u',r',q⟩:=hl j y v' e1 e2 e3
    refine ⟨u',r',?_⟩
    rcases q with ⟨k,e⟩ | ⟨k,c,e,z⟩
    ·refine .inl ⟨k,?_⟩
     have:y≠x:=fun e => hj (nodup_ix hN e1 (e▸hi))
     simp [this,e]
    ·exact .inr ⟨k,c,e,z.sameBut hs (cne y c e)⟩
  ·obtain ⟨w',z⟩:=I.cell y c e
   exact ⟨w',z.sameBut hs (cne y c e)⟩
  ·obtain ⟨e,n,ne,nf,d⟩:=I.pin p hp
   exact ⟨(hs.2 p.1 ne).trans e,n,ne,nf,d⟩
 ·have hfn:X.fn x = true:=by
   rcases hf with z | z
   ·exact z
   ·rw [z] at hk; cases hk
  obtain ⟨c,hc⟩:=I.ok.has x (.inl hk)
  obtain ⟨w',z⟩:=I.cell x c hc
  refine wpAny_storeName_cell I.ok.kind hk hc z (fun h' hc' hs => ?_)
  obtain ⟨oc,hoc,hocd⟩:=id z
  refine h { s with heap:=h' } ⟨I.ok,I.os,I.bare,⟨fun b o e n hb hx => ?_,fun b o e n hb hx => ?_,I.base.free,fun b o e hx => ?_,I.base.tups,I.base.frzs,I.base.tbls⟩,⟨m,hn.sameBut hs (Ne.symm (cne x c hc)),fun j y v' e1 e2 e3 => ?_⟩,fun y c' e => ?_,I.free,I.freeC,fun p hp => ?_,tracked ⟨oc,hoc,I.freeC x c hc⟩ hs,by simpa using I.len,I.hn⟩ ⟨c,hs,.inr hc⟩
  ·exact (hs.2 b (Nat.ne_of_lt (Nat.lt_of_lt_of_le (Heap.lt_size e) (I.ok.cab x c hfn hc)))).trans (I.base.keep b o e n hb hx)
  ·obtain ⟨sl,e1⟩:=I.base.slot b o e n hb hx
   exact ⟨sl,(hs.2 b (Nat.ne_of_lt (Nat.lt_of_lt_of_le (Heap.lt_size e) (I.ok.cab x c hfn hc)))).trans e1⟩
  ·obtain ⟨o',e1⟩:=I.base.there b o e hx
   exact ⟨o',(hs.2 b (Nat.ne_of_lt (Nat.lt_of_lt_of_le (Heap.lt_size e) (I.ok.cab x c hfn hc)))).trans e1⟩
  ·by_cases hj:j = i
   ·subst hj
    rw [hi] at e1; cases e1
    rw [List.getElem?_set_self hiσ] at e2
    cases e2
    exact ⟨u,r,.inr ⟨.inl hk,c,hc,hc'⟩⟩
   ·rw [List.getElem?_set_ne (Ne.symm hj)] at e2
    obtain ⟨u',r',q⟩:=hl j y v' e1 e2 e3
    refine ⟨u',r',?_⟩
    rcases q with q | ⟨k,c',e,z'⟩
    ·exact .inl q
    ·refine .inr ⟨k,c',e,z'.sameBut hs ?_⟩
     rintro rfl
     exact hj (nodup_ix hN e1 (I.ok.inj _ _ _ e hc▸hi))
  ·by_cases hcc:c' = c
   ·subst hcc; exact ⟨_,hc'⟩
   ·obtain ⟨w2,z2⟩:=I.cell y c' e
    exact ⟨w2,z2.sameBut hs hcc⟩
  ·obtain ⟨e,n,ne,nf,d⟩:=I.pin p hp
   refine ⟨(hs.2 p.1 ?_).trans e,n,ne,nf,d⟩
   intro q
   rw [q,hoc] at e
   have q':oc = p.2:=Option.some.inj e
   exact d w' (by rw [← q']; exact hocd)
theorem store_ok {M:Model} {A:Around} {E:Value→Shared→Prop} {i:Nat} {x:Str} {v:V} {u:Value} {Q:Unit→Shared→Prop} (I:Inv X pins σ H s) (hN:X.N.Nodup) (hi:X.N[i]? = some x) (hx:Loc X.env.scope x) (r:RelV v u)
  (h:∀ s',Inv X pins (σ.set i (some v)) H s'→Q () s') (hf:X.fn x = true∨X.env.scope.names.lookup x = some .local:=by first | exact .inl rfl | exact .inr rfl | assumption):wpAny M A (storeName X.env x u) Q E s :=
 store_ok2 I hN hi hx r (fun s' I' _ => h s' I') hf
theorem Inv.call' {s':Shared} {ch:List Addr} (I:Inv X pins σ H s) (ho:s'.os = s.os) (u:Un (frs X.stack) ch H H' s.heap s'.heap) (hok:HOk X.prog X.w H' s'.heap) (hg:AllBare s'.gens)
  (hch:∀ b∈ch,(b∈X.ex∨X.s₀.heap.objs.size≤b)∧b≠X.env.locals∧(∀ x c,X.env.cells.lookup x = some c→c≠b)∧∀ p∈X.pn ++ pins,p.1≠b):Inv X pins σ H' s':=by
 obtain ⟨h',g',d',t',o'⟩:=s'
 have e:o' = s.os:=ho
 subst e
 exact I.call (g':=g') (t':=t') (d':=d') u hok hg hch
end
abbrev XK:=Value→Option Addr→Hp→Prop
abbrev St:=List (Option V)
abbrev VK:=V→Hp→Prop
abbrev TE:=St→Hp→VK→Prop
abbrev TT:=St→Hp→(Bool→Hp→Prop)→Prop
abbrev TA:=St→Hp→(List V→Hp→Prop)→Prop
structure Ends where
 nx:St→Hp→Prop
 rt:VK
 bk:St→Hp→Prop:=fun _ _ => False
 ct:St→Hp→Prop:=fun _ _ => False
abbrev TS:=Ends→St→Hp→Prop
def EP (X:Cx) (pins:List (Addr × Obj)) (σ:St) (Q:VK) (u:Value) (s':Shared):Prop:=∃ v H',Inv X pins σ H' s'∧RelV v u∧Q v H'
def TP (X:Cx) (pins:List (Addr × Obj)) (σ:St) (Q:Bool→Hp→Prop) (b:Bool) (s':Shared):Prop:=∃ H',Inv X pins σ H' s'∧Q b H'
def AP (X:Cx) (pins:List (Addr × Obj)) (σ:St) (Q:List V→Hp→Prop) (us:List Value) (s':Shared):Prop:=∃ vs H',Inv X pins σ H' s'∧Vals vs us∧Q vs H'
def SP (X:Cx) (pins:List (Addr × Obj)) (D:Ends) (f:Flow) (s':Shared):Prop :=
 match f with
 | .next => ∃ σ' H',Inv X pins σ' H' s'∧D.nx σ' H'
 | .brk => ∃ σ' H',Inv X pins σ' H' s'∧D.bk σ' H'
 | .cont => ∃ σ' H',Inv X pins σ' H' s'∧D.ct σ' H'
 | .ret u => ∃ v σ' H',Inv X pins σ' H' s'∧RelV v u∧D.rt v H'
def PE (X:Cx) (e:Expr) (t:TE):Prop :=
 ∀ (pins:List (Addr × Obj)) (s:Shared) (σ:St) (H:Hp) (Q:VK),Inv X pins σ H s→t σ H Q→wpAny (model X.prog X.w) X.A (eval e X.env) (EP X pins σ Q) X.xe s
def PT (X:Cx) (e:Expr) (t:TT):Prop :=
 ∀ (pins:List (Addr × Obj)) (s:Shared) (σ:St) (H:Hp) (Q:Bool→Hp→Prop),Inv X pins σ H s→t σ H Q→wpAny (model X.prog X.w) X.A (isTrue e X.env (eval e X.env)) (TP X pins σ Q) X.xe s
def PW (X:Cx) (e:Expr) (t:TT):Prop :=
 ∀ (whole:Sem Value) (pins:List (Addr × Obj)) (s:Shared) (σ:St) (H:Hp) (Q:Bool→Hp→Prop),Inv X pins σ H s→t σ H Q→wpAny (model X.prog X.w) X.A (isTrue e X.env whole) (TP X pins σ Q) X.xe s
theorem PW.pt {X:Cx} {e:Expr} {t:TT} (h:PW X e t):PT X e t:=h _
def PA (X:Cx) (es:List Expr) (t:TA):Prop :=
 ∀ (pos:Pos) (pins:List (Addr × Obj)) (s:Shared) (σ:St) (H:Hp) (Q:List V→Hp→Prop),Inv X pins σ H s→t σ H Q→wpAny (model X.prog X.w) X.A (spliced (backTo pos (starEach es X.env))) (AP X pins σ Q) X.xe s
def PS (X:Cx) (st:Stmt) (t:TS):Prop :=
 ∀ (pins:List (Addr × Obj)) (s:Shared) (σ:St) (H:Hp) (D:Ends),Inv X pins σ H s→t D σ H→wpAny (model X.prog X.w) X.A (exec st X.env) (SP X pins D) X.xe s
def PSs (X:Cx) (st:List Stmt) (t:TS):Prop :=
 ∀ (pins:List (Addr × Obj)) (s:Shared) (σ:St) (H:Hp) (D:Ends),Inv X pins σ H s→t D σ H→wpAny (model X.prog X.w) X.A (execs st X.env) (SP X pins D) X.xe s
theorem thn {α:Type} {t:Sem α} {Q Q':α→Shared→Prop} {M:Model} {A:Around} {E:Value→Shared→Prop} {s:Shared} (h:wpAny M A t Q E s) (hQ:∀ a s,Q a s→Q' a s):wpAny M A t Q' E s:=wpAny_mono h hQ fun _ _ x => x
end L2
namespace L2
open PySem PySem.Spec PyProof.Rows
section
variable {X:Cx}
theorem bin {a b:Expr} {ta tb:TE} (ha:PE X a ta) (hb:PE X b tb) {pins:List (Addr × Obj)} {s:Shared} {σ:St} {H:Hp} {R:V→V→Hp→Prop} (I:Inv X pins σ H s) (h:ta σ H fun x H1 => tb σ H1 fun y H2 => R x y H2)
  {α:Type} {Q:α→Shared→Prop} {f:Value→Value→Sem α}
  (hf:∀ v u s2 x y H2,Inv X pins σ H2 s2→RelV x v→RelV y u→R x y H2→wpAny (model X.prog X.w) X.A (f v u) Q X.xe s2) :
  wpAny (model X.prog X.w) X.A (eval a X.env) (fun v s₁ => wpAny (model X.prog X.w) X.A (eval b X.env) (fun u s₂ => wpAny (model X.prog X.w) X.A (f v u) Q X.xe s₂) X.xe s₁) X.xe s:=by
 refine thn (ha pins s σ H _ I h) fun v s1 ⟨x,H1,I1,r1,q1⟩ => ?_
 refine thn (hb pins s1 σ H1 _ I1 q1) fun u s2 ⟨y,H2,I2,r2,q2⟩ => ?_
 exact hf v u s2 x y H2 I2 r1 r2 q2
def tVar (i:Nat):TE:=fun σ H Q => ∃ v,σ[i]? = some (some v)∧Q v H
def tC (v:V):TE:=fun _ H Q => Q v H
theorem pe_var {i:Nat} {x:Str} {pos:Pos} (hN:X.N[i]? = some x) (hv:Vis X.env.scope x) (hd:(x == ("__debug__":Str)) = false:=by decide) (hcd:(x == ("__classdict__":Str)) = false:=by decide):PE X (.Name x pos) (tVar i):=by
 intro pins s σ H Q I h
 obtain ⟨v,e,h⟩:=h
 obtain ⟨m,hn,hl⟩:=I.loc
 obtain ⟨u,r,l⟩:=hl i x v hN e hv
 have fin:EP X pins σ Q u s:=⟨v,H,I,r,h⟩
 rcases l with ⟨hk,hm⟩ | ⟨hk,c,hc,hcell⟩
 ·exact wpAny_Name (wpAny_loadName_local I.ok.kind hk hn hm fin) hd
 ·rcases hk with hk | hk
  ·exact wpAny_Name (wpAny_loadName_cell I.ok.kind hk hc hcell fin) hd
  ·exact wpAny_Name (wpAny_loadName_free I.ok.kind hk hc hcell fin hcd) hd
theorem pe_int {i j pos}:PE X (.Constant (.int i) j pos) (tC (.int i)):=fun _ _ _ H _ I h => wpAny_Constant_int ⟨.int i,H,I.tok _,⟨_,rfl⟩,h⟩
theorem pe_bl {b j pos}:PE X (.Constant (.bool b) j pos) (tC (.bl b)):=fun _ _ _ H _ I h => Constant_bool ⟨.bl b,H,I,rfl,h⟩
theorem pe_non {j pos}:PE X (.Constant .none j pos) (tC .non):=fun _ _ _ H _ I h => Constant_none ⟨.non,H,I,rfl,h⟩
theorem pe_str {x j pos}:PE X (.Constant (.str x) j pos) (tC (.str x)):=fun _ _ _ H _ I h => Calls.Constant_str ⟨.str x,H,I.tok _,⟨_,rfl⟩,h⟩
def Gl (X:Cx) (x:Str):Prop:=X.env.kindOf x = some .globalImplicit
theorem ld_glob {E:Value→Shared→Prop} {pins:List (Addr × Obj)} {s:Shared} {σ:St} {H:Hp} {x:Str} {u:Value} {pos:Pos} {Q:Value→Shared→Prop} (I:Inv X pins σ H s) (hg:Gl X x) (hm:X.mg x = some u) (h:Q u s)
  (hd:(x == ("__debug__":Str)) = false:=by decide):wpAny (model X.prog X.w) X.A (eval (.Name x pos) X.env) Q E s :=
 Calls.Name_function_global I.ok.kind hg (Calls.loadGlobal_global (by rw [I.ok.glob]; exact I.mod.glob.keeps I.bk) hm h) hd
theorem ld_blt {E:Value→Shared→Prop} {pins:List (Addr × Obj)} {s:Shared} {σ:St} {H:Hp} {x:Str} {u:Value} {pos:Pos} {Q:Value→Shared→Prop} (I:Inv X pins σ H s) (hg:Gl X x) (hm:X.mg x = none) (hv:bootBuiltins x = some u) (h:Q u s)
  (hn:x≠"__name__":=by decide) (hd:(x == ("__debug__":Str)) = false:=by decide):wpAny (model X.prog X.w) X.A (eval (.Name x pos) X.env) Q E s:=by
 obtain ⟨mb,h1,h2⟩:=I.mod.blt
 exact Calls.Name_function_global I.ok.kind hg (Calls.loadGlobal_builtin (by rw [I.ok.glob]; exact I.mod.glob.keeps I.bk) hm (by rw [I.ok.blt]; exact h1.keeps I.bk) ((h2 x hn).trans hv) h) hd
theorem pe_glob {x:Str} {v:V} {u:Value} {pos:Pos} (hg:Gl X x) (hm:X.mg x = some u) (r:RelV v u) (hd:(x == ("__debug__":Str)) = false:=by decide):PE X (.Name x pos) (tC v) :=
 fun _ _ _ H _ I h => ld_glob I hg hm ⟨v,H,I,r,h⟩ hd
theorem pe_bltn {x:Str} {v:V} {u:Value} {pos:Pos} (hg:Gl X x) (hm:X.mg x = none) (hv:bootBuiltins x = some u) (r:RelV v u) (hn:x≠"__name__":=by decide) (hd:(x == ("__debug__":Str)) = false:=by decide):PE X (.Name x pos) (tC v) :=
 fun _ _ _ H _ I h => ld_blt I hg hm hv ⟨v,H,I,r,h⟩ hn hd
variable {a b:Expr} {ta tb:TE} {pos:Pos}
def PC (X:Cx) (op:CmpOp) (a b:Expr) (t:TE):Prop :=
 ∀ (pins:List (Addr × Obj)) (s:Shared) (σ:St) (H:Hp) (Q:VK),Inv X pins σ H s→t σ H Q →
  wpAny (model X.prog X.w) X.A (eval a X.env) (fun v s₁ => wpAny (model X.prog X.w) X.A (eval b X.env) (fun u s₂ => wpAny (model X.prog X.w) X.A (compareOp op v u) (EP X pins σ Q) X.xe s₂) X.xe s₁) X.xe s
theorem nobehind (b:Expr) {op:CmpOp} (h:op≠.In) (h2:op≠.NotIn):behindInMarks op b = false:=by
 have e1:(op == CmpOp.In) = false:=by cases op <;> first | rfl | exact absurd rfl h
 have e2:(op == CmpOp.NotIn) = false:=by cases op <;> first | rfl | exact absurd rfl h2
 cases b <;> simp [behindInMarks,e1,e2]
def tIsN (ta:TE):TE:=fun σ H Q => ta σ H fun x H1 => Q (.bl (decide (x = .non))) H1
theorem RelV.none_iff {x:V} {v:Value} (r:RelV x v):(v == Value.none) = decide (x = .non):=by
 cases x with
 | non => cases r; rfl
 | bl _ => cases r; rfl
 | int _ => obtain ⟨t,rfl⟩:=r; rfl
 | str _ => obtain ⟨t,rfl⟩:=r; rfl
 | byt _ => obtain ⟨t,rfl⟩:=r; rfl
 | flt _ => obtain ⟨t,rfl⟩:=r; rfl
 | ref _ => cases r; rfl
 | ty _ => cases r; rfl
theorem pc_isN {j pos'} (ha:PE X a ta):PC X .Is a (.Constant .none j pos') (tIsN ta):=by
 intro pins s σ H Q I h
 refine thn (ha pins s σ H _ I h) fun v s1 ⟨x,H1,I1,r1,q1⟩ => ?_
 exact Constant_none (is_none_gen ⟨.bl _,H1,I1,by rw [r1.none_iff]; rfl,q1⟩)
def tB (t:TE):TT:=fun σ H Q => t σ H fun x H1 => ∃ c,x = .bl c∧Q c H1
theorem pt_cmp {op:CmpOp} {t:TE} (h:PC X op a b t) (h1:behindInMarks op b = false:=by first | exact nobehind _ (by decide) (by decide) | rfl):PT X (.Compare a [op] [b] pos) (tB t):=by
 intro pins s σ H Q I hw
 refine wpAny_isTrue_Compare1 (thn (h pins s σ H _ I hw) fun v s1 h1 => thn h1 fun u s2 h2 => thn h2 fun c s3 ⟨x,H1,I1,r1,q1⟩ => ?_) h1
 obtain ⟨d,rfl,q⟩:=q1
 cases r1
 exact wpAny_truthy_bool ⟨H1,I1,q⟩
theorem pt_val {e:Expr} {t:TE} (h:PE X e t) (he:∀ whole,isTrue e X.env whole = (do let v ← whole; standAt e.pos; holding [v] (truthy v)):=by intro _; rfl):PT X e (tB t):=by
 intro pins s σ H Q I hw
 refine isTrue_plain (thn (h pins s σ H _ I hw) fun v s1 ⟨x,H1,I1,r1,q1⟩ => ?_) (he _)
 obtain ⟨d,rfl,q⟩:=q1
 cases r1
 exact wpAny_truthy_bool ⟨H1,I1,q⟩
variable {tA tB':TT} {rest:List Expr}
def tAnd (t u:TT):TT:=fun σ H Q => t σ H fun c H1 => if c = true then u σ H1 Q else Q false H1
def tOr (t u:TT):TT:=fun σ H Q => t σ H fun c H1 => if c = true then Q true H1 else u σ H1 Q
def tNot (t:TT):TT:=fun σ H Q => t σ H fun c H1 => Q (!c) H1
theorem pw_and1 (ha:PT X a tA):PW X (.BoolOp .And [a] pos) tA:=by
 intro wh pins s σ H Q I h
 refine isTrue_and (thn (ha pins s σ H Q I h) fun c s1 e => ?_)
 cases c with
 | true => exact isTrue_and_nil e
 | false => exact e
theorem pw_or1 (ha:PT X a tA):PW X (.BoolOp .Or [a] pos) tA:=by
 intro wh pins s σ H Q I h
 refine isTrue_or (thn (ha pins s σ H Q I h) fun c s1 e => ?_)
 cases c with
 | false => exact isTrue_or_nil e
 | true => exact e
theorem pw_and (ha:PT X a tA) (hb:PW X (.BoolOp .And (b :: rest) pos) tB'):PW X (.BoolOp .And (a :: b :: rest) pos) (tAnd tA tB'):=by
 intro wh pins s σ H Q I h
 refine isTrue_and (thn (ha pins s σ H _ I h) fun c s1 ⟨H1,I1,q1⟩ => ?_)
 cases c with
 | true => exact hb wh pins s1 σ H1 Q I1 q1
 | false => exact ⟨H1,I1,q1⟩
theorem pw_or (ha:PT X a tA) (hb:PW X (.BoolOp .Or (b :: rest) pos) tB'):PW X (.BoolOp .Or (a :: b :: rest) pos) (tOr tA tB'):=by
 intro wh pins s σ H Q I h
 refine isTrue_or (thn (ha pins s σ H _ I h) fun c s1 ⟨H1,I1,q1⟩ => ?_)
 cases c with
 | true => exact ⟨H1,I1,q1⟩
 | false => exact hb wh pins s1 σ H1 Q I1 q1
theorem pt_not (ha:PT X a tA):PT X (.UnaryOp .Not a pos) (tNot tA):=by
 intro pins s σ H Q I h
 exact isTrue_not (ha pins s σ H (fun c H1 => Q (!c) H1) I h)
def tAndV (ta tb:TE):TE:=fun σ H Q => ta σ H fun x H1 => ∃ c,x = .bl c∧if c = true then tb σ H1 Q else Q (.bl false) H1
def tNotV (ta:TE):TE:=fun σ H Q => ta σ H fun x H1 => ∃ c,x = .bl c∧Q (.bl (!c)) H1
theorem pe_one {op} {t:TE} (h:PE X a t):PE X (.BoolOp op [a] pos) t:=fun pins s σ H Q I hw => BoolOp_one (h pins s σ H Q I hw)
theorem pe_and (ha:PE X a ta) (hb:PE X (.BoolOp .And (b :: rest) pos) tb):PE X (.BoolOp .And (a :: b :: rest) pos) (tAndV ta tb):=by
 intro pins s σ H Q I h
 refine BoolOp_and (thn (ha pins s σ H _ I h) fun v s1 ⟨x,H1,I1,r1,q1⟩ => ?_)
 obtain ⟨c,rfl,q1⟩:=q1
 cases r1
 refine wpAny_truthy_bool ?_
 cases c with
 | true => exact hb pins s1 σ H1 Q I1 q1
 | false => exact ⟨.bl false,H1,I1,rfl,q1⟩
theorem pe_not (ha:PE X a ta):PE X (.UnaryOp .Not a pos) (tNotV ta):=by
 intro pins s σ H Q I h
 refine UnaryOp_ (thn (ha pins s σ H _ I h) fun v s1 ⟨x,H1,I1,r1,q1⟩ => ?_)
 obtain ⟨c,rfl,q1⟩:=q1
 cases r1
 exact not_of (wpAny_truthy_bool ⟨.bl (!c),H1,I1,rfl,q1⟩)
def tIf (t:TT) (ta tb:TE):TE:=fun σ H Q => t σ H fun c H1 => if c = true then ta σ H1 Q else tb σ H1 Q
theorem pe_ifExp {c:Expr} (hc:PT X c tA) (ha:PE X a ta) (hb:PE X b tb):PE X (.IfExp c a b pos) (tIf tA ta tb):=by
 intro pins s σ H Q I h
 refine wpAny_IfExp (thn (hc pins s σ H _ I h) fun d s1 ⟨H1,I1,q1⟩ => ?_)
 cases d with
 | true => exact ha pins s1 σ H1 Q I1 q1
 | false => exact hb pins s1 σ H1 Q I1 q1
end
end L2
namespace L2
open PySem PySem.Spec PyProof.Rows
def SqL (K:PySem.W.Frag) (H:Hp) (a:Addr) (xs:List V):Prop :=
 Rd H a (.lst xs) ∨
  ∃ (o:Obj) (its:Array Value) (n:Nat),K.lookup a = some o∧o.cls = .type "list"∧o.dict = none∧o.data = .seq its n∧its.size≤sizeLine∧Vals xs its.toList
def SqT (K:PySem.W.Frag) (H:Hp) (a:Addr) (xs:List V):Prop :=
 Rd H a (.tup xs) ∨
  ∃ (o:Obj) (its:Array Value) (n:Nat),K.lookup a = some o∧o.cls = .type "tuple"∧o.data = .seq its n∧its.size≤sizeLine∧Vals xs its.toList
def absV:Value→Option V
 | .none => some .non
 | .bool b => some (.bl b)
 | .int i _ => some (.int i)
 | .str x _ => some (.str x)
 | .bytes b _ => some (.byt b)
 | .float b _ => some (.flt b)
 | .ref a => some (.ref a)
 | .type n => some (.ty n)
 | _ => none
theorem RelV.abs {x:V} {u:Value} (r:RelV x u):absV u = some x:=by
 cases x with
 | non => cases r; rfl
 | bl _ => cases r; rfl
 | int _ => obtain ⟨t,rfl⟩:=r; rfl
 | str _ => obtain ⟨t,rfl⟩:=r; rfl
 | byt _ => obtain ⟨t,rfl⟩:=r; rfl
 | flt _ => obtain ⟨t,rfl⟩:=r; rfl
 | ref _ => cases r; rfl
 | ty _ => cases r; rfl
theorem RelV.inj {x y:V} {u:Value} (r:RelV x u) (q:RelV y u):x = y:=Option.some.inj (r.abs.symm.trans q.abs)
theorem Vals.inj:∀ {xs ys:List V} {us:List Value},Vals xs us→Vals ys us→xs = ys
 | _,_,_,.nil,.nil => rfl
 | _,_,_,.cons r t,.cons r' t' => by rw [r.inj r',Vals.inj t t']
section
variable {X:Cx} {pins:List (Addr × Obj)} {σ:St} {H:Hp} {s:Shared} {a:Addr} {xs ys:List V}
theorem SqL.of {K:PySem.W.Frag} (h:H a = some (.lst xs)):SqL K H a xs:=.inl (.inl h)
theorem SqT.of {K:PySem.W.Frag} (h:H a = some (.tup xs)):SqT K H a xs:=.inl (.inl h)
theorem Inv.list (I:Inv X pins σ H s) (h:SqL X.K H a xs):∃ its:List Value,Vals xs its∧PlainL s.heap a its.toArray∧xs.length≤sizeLine:=by
 rcases h with h | ⟨o,its,n,hk,hc,hd,hs,hz,r⟩
 ·obtain ⟨z,its,n,r,e⟩:=h.ok I.hok
  exact ⟨its,r,⟨_,n,e,rfl,rfl,rfl⟩,z⟩
 ·refine ⟨its.toList,r,⟨o,n,I.kIn a o hk,hc,hd,by simpa using hs⟩,?_⟩
  have e:=r.length
  simp only [Array.length_toList] at e
  omega
theorem Inv.tuple (I:Inv X pins σ H s) (h:SqT X.K H a xs):∃ its:List Value,Vals xs its∧IsTup s.heap a its.toArray∧xs.length≤sizeLine:=by
 rcases h with h | ⟨o,its,n,hk,hc,hs,hz,r⟩
 ·obtain ⟨z,its,r,p⟩:=h.ok I.hok
  exact ⟨its,r,p,z⟩
 ·refine ⟨its.toList,r,⟨o,I.kIn a o hk,hc,n,by simpa using hs⟩,?_⟩
  have e:=r.length
  simp only [Array.length_toList] at e
  omega
theorem Inv.list_inj (I:Inv X pins σ H s) (h:SqL X.K H a xs) (h':SqL X.K H a ys):xs = ys:=by
 obtain ⟨its,r,⟨o,n,e,_,_,d⟩,_⟩:=I.list h
 obtain ⟨its',r',⟨o',n',e',_,_,d'⟩,_⟩:=I.list h'
 rw [e] at e'; cases e'
 rw [d] at d'
 injection d' with d1 _
 have:its = its':=by simpa using congrArg Array.toList d1
 subst this
 exact r.inj r'
theorem Inv.tuple_inj (I:Inv X pins σ H s) (h:SqT X.K H a xs) (h':SqT X.K H a ys):xs = ys:=by
 obtain ⟨its,r,⟨o,e,_,n,d⟩,_⟩:=I.tuple h
 obtain ⟨its',r',⟨o',e',_,n',d'⟩,_⟩:=I.tuple h'
 rw [e] at e'; cases e'
 rw [d] at d'
 injection d' with d1 _
 have:its = its':=by simpa using congrArg Array.toList d1
 subst this
 exact r.inj r'
end
section
variable {X:Cx} {pins:List (Addr × Obj)} {σ:St} {H:Hp} {s:Shared} {E:Value→Shared→Prop}
end
section
variable {X:Cx} {st:Stmt} {rest:List Stmt} {t u:TS} {e:Expr} {te:TE} {pos:Pos}
def tNext:TS:=fun D σ H => D.nx σ H
def tSeq (t u:TS):TS:=fun D σ H => t { D with nx:=u D } σ H
theorem pss_nil:PSs X [] tNext:=fun _ _ σ H _ I h => wpAny_execs_nil ⟨σ,H,I,h⟩
theorem pss_cons (h1:PS X st t) (h2:PSs X rest u):PSs X (st :: rest) (tSeq t u):=by
 intro pins s σ H D I h
 refine wpAny_execs_cons (thn (h1 pins s σ H { D with nx:=u D } I h) fun f s1 q => ?_)
 cases f with
 | next =>
  obtain ⟨σ',H',I',q⟩:=q
  exact h2 pins s1 σ' H' D I' q
 | ret v => exact q
 | brk => exact q
 | cont => exact q
theorem pss_one (h1:PS X st t):PSs X [st] t:=by
 intro pins s σ H D I h
 refine wpAny_execs_cons (thn (h1 pins s σ H D I h) fun f s1 q => ?_)
 cases f with
 | next => exact wpAny_execs_nil q
 | ret v => exact q
 | brk => exact q
 | cont => exact q
theorem Inv.quiet {pins:List (Addr × Obj)} {σ:St} {H:Hp} {s:Shared} (I:Inv X pins σ H s):interactive X.env = false:=by simp [interactive,I.ok.kind]
def tDrop (te:TE):TS:=fun D σ H => te σ H fun _ H1 => D.nx σ H1
theorem ps_expr (he:PE X e te) (hs:swapsWith e none pos.line X.env = pure false:=by rfl):PS X (.Expr e pos) (tDrop te):=by
 intro pins s σ H D I h
 exact wpAny_Expr_any (thn (he pins s σ H _ I h) fun v s1 ⟨x,H1,I1,r1,q1⟩ => ⟨σ,H1,I1,q1⟩) I.quiet hs
def tRet (te:TE):TS:=fun D σ H => te σ H D.rt
theorem ps_ret (he:PE X e te):PS X (.Return (some e) pos) (tRet te):=by
 intro pins s σ H D I h
 exact wpAny_Return_some (thn (he pins s σ H _ I h) fun v s1 ⟨x,H1,I1,r1,q1⟩ => ⟨x,σ,H1,I1,r1,q1⟩)
def tIfS (c:TT) (t u:TS):TS:=fun D σ H => c σ H fun b H1 => if b = true then t D σ H1 else u D σ H1
theorem ps_if {c:Expr} {a b:List Stmt} {tc:TT} (hc:PT X c tc) (ha:PSs X a t) (hb:PSs X b u):PS X (.If c a b pos) (tIfS tc t u):=by
 intro pins s σ H D I h
 refine wpAny_If (thn (hc pins s σ H _ I h) fun d s1 ⟨H1,I1,q1⟩ => ?_)
 cases d with
 | true => exact ha pins s1 σ H1 D I1 q1
 | false => exact hb pins s1 σ H1 D I1 q1
end
abbrev TG:=V→St→Hp→(St→Hp→Prop)→Prop
abbrev TGs:=List V→St→Hp→(St→Hp→Prop)→Prop
def PG (X:Cx) (target:Expr) (t:TG):Prop :=
 ∀ (pins:List (Addr × Obj)) (s:Shared) (σ:St) (H:Hp) (v:V) (u:Value) (Q:St→Hp→Prop),Inv X pins σ H s→RelV v u→t v σ H Q →
  wpAny (model X.prog X.w) X.A (assign target X.env u) (fun _ s' => ∃ σ' H',Inv X pins σ' H' s'∧Q σ' H') X.xe s
def PGs (X:Cx) (ts:List Expr) (t:TGs):Prop :=
 ∀ (pins:List (Addr × Obj)) (s:Shared) (σ:St) (H:Hp) (vs:List V) (us:List Value) (Q:St→Hp→Prop),Inv X pins σ H s→Vals vs us→t vs σ H Q →
  wpAny (model X.prog X.w) X.A (assignInOrder ((assignEach ts X.env).map (·.2)) us) (fun _ s' => ∃ σ' H',Inv X pins σ' H' s'∧Q σ' H') X.xe s
abbrev TSet:=V→V→V→Hp→(Hp→Prop)→Prop
def PSet (X:Cx) (t:TSet):Prop :=
 ∀ (pins:List (Addr × Obj)) (s:Shared) (σ:St) (H:Hp) (o i v:V) (ov iv u:Value) (Q:Hp→Prop),Inv X pins σ H s→RelV o ov→RelV i iv→RelV v u→t o i v H Q →
  wpAny (model X.prog X.w) X.A (setItem ov iv u) (fun _ s' => ∃ H',Inv X pins σ H' s'∧Q H') X.xe s
section
variable {X:Cx} {pos:Pos}
def gName (i:Nat):TG:=fun v σ H Q => Q (σ.set i (some v)) H
theorem pg_name {i:Nat} {x:Str} (hN:X.N.Nodup) (hi:X.N[i]? = some x) (hx:Loc X.env.scope x) (hf:X.fn x = true∨X.env.scope.names.lookup x = some .local:=by first | exact .inl rfl | exact .inr rfl | assumption):PG X (.Name x pos) (gName i):=by
 intro pins s σ H v u Q I r h
 exact wpAny_assign_Name (store_ok I hN hi hx r (fun s' I' => ⟨_,H,I',h⟩) hf)
def gNil:TGs:=fun vs σ H Q => vs = []∧Q σ H
def gCons (t:TG) (u:TGs):TGs:=fun vs σ H Q => ∃ v r,vs = v :: r∧t v σ H fun σ' H' => u r σ' H' Q
theorem pgs_nil:PGs X [] gNil:=by
 intro pins s σ H vs us Q I r h
 obtain ⟨e,h⟩:=h
 subst e
 cases r
 exact assignInOrder_nil ⟨σ,H,I,h⟩
theorem pgs_cons {e:Expr} {es:List Expr} {t:TG} {u:TGs} (h1:PG X e t) (h2:PGs X es u)
  (hs:(assignEach (e :: es) X.env).map (·.2) = assign e X.env :: (assignEach es X.env).map (·.2):=by rfl):PGs X (e :: es) (gCons t u):=by
 intro pins s σ H vs us Q I r h
 obtain ⟨v,vr,e1,h⟩:=h
 subst e1
 cases r with
 | cons r rr =>
  rw [hs]
  refine assignInOrder_cons (thn (h1 pins s σ H _ _ _ I r h) fun _ s1 ⟨σ1,H1,I1,q1⟩ => ?_)
  exact h2 pins s1 σ1 H1 _ _ Q I1 rr q1
def gTup (K:PySem.W.Frag) (n:Nat) (t:TGs):TG:=fun v σ H Q => ∃ a xs,v = .ref a∧SqT K H a xs∧xs.length = n∧t xs σ H Q
theorem pg_tup {es:List Expr} {k:Nat} {t:TGs} {n:Nat} (hc:X.calm = true) (h:PGs X es t)
  (hn:(assignEach es X.env).length = n:=by rfl) (hst:(assignEach es X.env).findIdx? (·.1) = none:=by rfl):PG X (.Tuple es k pos) (gTup X.K n t):=by
 intro pins s σ H v u Q I r hw
 obtain ⟨a,xs,e1,hq,hl,hw⟩:=hw
 subst e1
 cases r
 obtain ⟨its,rv,ht,hz⟩:=I.tuple hq
 refine assign_Tuple_tuple (I.ok.hd hc) ht (by simp [hn,← hl,rv.length]) hst fun h' hx => ?_
 have I1:Inv X pins σ H { s with heap:=h' }:=I.kept (t':=s.toks) fun b o e => hx b o (Nat.ne_of_lt (Heap.lt_size e)) e
 exact h pins _ σ H xs _ Q I1 (by simpa using rv) hw
def gSub (to ti:TE) (t:TSet):TG:=fun v σ H Q => to σ H fun o H1 => ti σ H1 fun i H2 => t o i v H2 fun H3 => Q σ H3
theorem pg_sub {o i:Expr} {to ti:TE} {t:TSet} (ho:PE X o to) (hi:PE X i ti) (hs:PSet X t)
  (ha:∀ v,assign (.Subscript o i pos) X.env v = (do
   let ov ← holding [v] (eval o X.env)
   let iv ← holding [v,ov] (eval i X.env)
   standAt pos
   holding [v,ov,iv] (setItem ov iv v)
   release [v,ov,iv] []):=by intro _; rfl):PG X (.Subscript o i pos) (gSub to ti t):=by
 intro pins s σ H v u Q I r h
 rw [ha]
 refine wpAny_bind (wpAny_holding (thn (ho pins s σ H _ I h) fun ov s1 ⟨x,H1,I1,r1,q1⟩ => ?_))
 refine wpAny_bind (wpAny_holding (thn (hi pins s1 σ H1 _ I1 q1) fun iv s2 ⟨y,H2,I2,r2,q2⟩ => ?_))
 refine wpAny_bind (wpAny_standAt (wpAny_bind (wpAny_holding (thn (hs pins s2 σ H2 x y v ov iv u _ I2 r1 r2 r q2) fun _ s3 ⟨H3,I3,q3⟩ => ?_))))
 exact wpAny_release ⟨σ,H3,I3,q3⟩
def tAsg (te:TE) (g:TG):TS:=fun D σ H => te σ H fun x H1 => g x σ H1 D.nx
theorem ps_asg {tg e:Expr} {te:TE} {g:TG} (he:PE X e te) (hg:PG X tg g) (hs:swapsWithSole [tg] e pos.line X.env = pure false:=by rfl) (hw:swappedStores [tg] e X.env = pure none:=by rfl)
  (h1:(assignEach [tg] X.env).map (·.2) = [assign tg X.env]:=by rfl):PS X (.Assign [tg] e pos) (tAsg te g):=by
 intro pins s σ H D I h
 refine wpAny_Assign_stores (thn (he pins s σ H _ I h) fun v s1 ⟨x,H1,I1,r1,q1⟩ => ?_) hs hw
 rw [h1]
 exact thn (hg pins s1 σ H1 x v _ I1 r1 q1) fun _ s2 q => q
theorem ps_set {i:Nat} {x:Str} {e:Expr} {te:TE} {pos':Pos} (hN:X.N.Nodup) (hi:X.N[i]? = some x) (hx:Loc X.env.scope x) (he:PE X e te) (hs:swapsWith e (some (.Name x pos')) pos.line X.env = pure false:=by rfl) (hf:X.fn x = true∨X.env.scope.names.lookup x = some .local:=by first | exact .inl rfl | exact .inr rfl | assumption) :
  PS X (.Assign [.Name x pos'] e pos) (tAsg te (gName i)):=by
 intro pins s σ H D I h
 refine wpAny_Assign_Name (thn (he pins s σ H _ I h) fun v s1 ⟨y,H1,I1,r1,q1⟩ => ?_) hs
 exact store_ok I1 hN hi hx r1 (fun s2 I2 => ⟨_,H1,I2,q1⟩) hf
end
section
variable {X:Cx} {pos:Pos}
end
structure It where
 go:Nat→Hp→Prop
 yld:Nat→Hp→V→Hp→Prop
 stop:Nat→Hp→Prop
def FpOk (X:Cx) (pins:List (Addr × Obj)) (H:Hp) (b:Addr):Prop :=
 H b = none∧b≠X.env.locals∧b ∉ X.fs∧(b∈X.ex∨X.s₀.heap.objs.size≤b)∧(∀ x c,X.env.cells.lookup x = some c→c≠b)∧∀ p∈X.pn ++ pins,p.1≠b
theorem Inv.fpOk {X:Cx} {pins:List (Addr × Obj)} {σ:St} {H H':Hp} {s:Shared} {b:Addr} (I:Inv X pins σ H s) (hb:s.heap.objs.size≤b) (hn:H' b = none):FpOk X pins H' b:=by
 refine ⟨hn,Nat.ne_of_gt (Nat.lt_of_lt_of_le I.lt hb),I.nofs hb,.inr (Nat.le_trans I.sz hb),fun x c e z => ?_,fun p hp z => ?_⟩
 ·obtain ⟨v,q⟩:=I.cell x c e
  exact absurd (Nat.lt_of_lt_of_le q.lt (by rw [z]; exact hb)) (Nat.lt_irrefl _)
 ·exact absurd (Nat.lt_of_lt_of_le (Heap.lt_size (I.pin p hp).1) (by rw [z]; exact hb)) (Nat.lt_irrefl _)
structure Turn (P:Program) (w:World) (K:PySem.W.Frag) (tg:Expr) (J:It) (fp:List Addr) (it:Addr) (tn:Nat→Heap→Prop) (nm:Bool):Prop where
 mem:it∈fp
 obj:∀ i h,tn i h→∀ b∈fp,∃ o,h.get? b = some o∧∀ v,o.data≠.cell v
 keep:∀ i h h',tn i h→(∀ b∈fp,∀ o,h.get? b = some o→h'.get? b = some o)→tn i h'
 item:∀ (X:Cx),X.prog = P→X.w = w→X.K = K→(nm = true→X.calm = true)→∀ (i:Nat) (pins:List (Addr × Obj)) (s:Shared) (σ:St) (H:Hp) (E:Value→Shared→Prop),Inv X pins σ H s→(∀ b∈fp,FpOk X pins H b)→tn i s.heap→J.go i H →
  wpAny (model P w) X.A (pyNext (.ref it)) (fun r s1 => ∃ u,r = some u ∧
   wpAny (model P w) X.A (letOwnedTupleGo tg (.ref it) u) (fun _ s2 => ∃ x H',Inv X pins σ H' s2∧RelV x u∧J.yld i H x H'∧tn (i + 1) s2.heap∧∀ b∈fp,H' b = none) E s1) E s
 done:∀ (X:Cx),X.prog = P→X.w = w→X.K = K→(nm = true→X.calm = true)→∀ (i:Nat) (pins:List (Addr × Obj)) (s:Shared) (σ:St) (H:Hp) (E:Value→Shared→Prop),Inv X pins σ H s→(∀ b∈fp,FpOk X pins H b)→tn i s.heap→J.stop i H →
  wpAny (model P w) X.A (pyNext (.ref it)) (fun r s1 => r = none∧Inv X pins σ H s1) E s
 self:∀ (A:Around) (i:Nat) (s:Shared) (Q:Value→Shared→Prop) (E:Value→Shared→Prop),tn i s.heap→Q (.ref it) s→wpAny (model P w) A (pyIter (.ref it)) Q E s
def TurnX (X:Cx) (tg:Expr) (J:It) (fp:List Addr) (it:Addr) (tn:Nat→Heap→Prop):Prop:=∃ nm,Turn X.prog X.w X.K tg J fp it tn nm∧(nm = true→X.calm = true)
theorem TurnX.of {X:Cx} {tg:Expr} {J:It} {fp:List Addr} {it:Addr} {tn:Nat→Heap→Prop} (T:Turn X.prog X.w X.K tg J fp it tn false):TurnX X tg J fp it tn:=⟨false,T,fun z => by cases z⟩
abbrev TI:=St→Hp→(It→Hp→Prop)→Prop
def PIE (X:Cx) (pins:List (Addr × Obj)) (σ:St) (tg:Expr) (R:It→Hp→Prop) (itv:Value) (s2:Shared):Prop :=
 ∃ (it:Addr) (fp:List Addr) (tn:Nat→Heap→Prop) (J:It) (H':Hp),itv = .ref it∧Inv X pins σ H' s2∧TurnX X tg J fp it tn∧tn 0 s2.heap∧(∀ b∈fp,FpOk X pins H' b)∧R J H'
def PI (X:Cx) (tg iter:Expr) (wi:TI):Prop :=
 ∀ (pins:List (Addr × Obj)) (s:Shared) (σ:St) (H:Hp) (R:It→Hp→Prop),Inv X pins σ H s→wi σ H R →
  wpAny (model X.prog X.w) X.A (eval iter X.env) (fun v s1 => wpAny (model X.prog X.w) X.A (pyIter v) (PIE X pins σ tg R) X.xe s1) X.xe s
theorem go_of {M:Model} {A:Around} {E:Value→Shared→Prop} {s:Shared} {tg:Expr} {it:Addr} {u:Value} {o:Obj} {n:String} {vs:Array Value} {Q:Unit→Shared→Prop} (ho:s.heap.get? it = some o) (hc:o.cls = .type n) (hd:o.data = .fields vs)
  (hn:["enumerate","zip","dict_itemiterator","dict_reverseitemiterator","odict_iterator","itertools.zip_longest","itertools.pairwise"].contains n = false) (hQ:Q () s):wpAny M A (letOwnedTupleGo tg (.ref it) u) Q E s:=by
 unfold letOwnedTupleGo
 cases tg <;> first
  | exact wpAny_pure hQ
  | (cases u <;> first
    | exact wpAny_pure hQ
    | (refine wpAny_bind (wpAny_load ho ?_)
       rw [hc,hd]
       show wpAny M A (if (["enumerate","zip","dict_itemiterator","dict_reverseitemiterator","odict_iterator","itertools.zip_longest","itertools.pairwise"].contains n && vs[0]? == some (rawInt _)) = true then _ else _) Q E s
       rw [if_neg (by intro h; rw [hn,Bool.false_and] at h; cases h)]
       exact wpAny_pure hQ))
def Itl (K:PySem.W.Frag) (a:Addr):It :=
 ⟨fun i H => ∃ xs x,SqL K H a xs∧xs[i]? = some x,fun i H x H' => H' = H∧∀ xs,SqL K H a xs→xs[i]? = some x,fun i H => ∃ xs,SqL K H a xs∧xs.length≤i⟩
def Itt (K:PySem.W.Frag) (a:Addr):It :=
 ⟨fun i H => ∃ xs x,SqT K H a xs∧xs[i]? = some x,fun i H x H' => H' = H∧∀ xs,SqT K H a xs→xs[i]? = some x,fun i H => ∃ xs,SqT K H a xs∧xs.length≤i⟩
def Itr (lo:Int) (n:Nat):It:=⟨fun i _ => i < n,fun i H x H' => H' = H∧x = .int (lo + i),fun i _ => n≤i⟩
theorem turn_list {P:Program} {w:World} {K:PySem.W.Frag} {tg:Expr} (a it:Addr):Turn P w K tg (Itl K a) [it] it (fun i h => h.IsListIter it a i) false where
 mem:=by simp
 obj:=fun i h st b hb => by
  have e:b = it:=by simpa using hb
  subst e
  obtain ⟨o,e,c,d⟩:=st
  exact ⟨o,e,fun v z => by rw [d] at z; cases z⟩
 keep:=fun i h h' st k => st.at fun o e => k it (by simp) o e
 item:=by
  intro X hP hw hK hc i pins s σ H E I hf st hg
  subst hP hw hK
  obtain ⟨xs,x,hq,hx⟩:=hg
  obtain ⟨its,rv,p,hz⟩:=I.list hq
  obtain ⟨u,hu,ru⟩:=rv.get hx
  obtain ⟨f0,f1,f2,f3,f4,f5⟩:=hf it (by simp)
  refine wpAny_pyNext_list_item st p.isList (x:=u) (by simpa using hu) fun h' st' sb => ?_
  have I1:Inv X pins σ H { s with heap:=h' }:=I.turned (t':=s.toks) (fun b o hb e => (sb.2 b hb).trans e) f0 f1 f3 f4 f5
  obtain ⟨o,e,c,d⟩:=id st'
  exact ⟨u,rfl,go_of (s:={ s with heap:=h' }) e c d (by decide) ⟨x,H,I1,ru,⟨rfl,fun ys hy => by rw [I.list_inj hy hq]; exact hx⟩,st',fun b hb => (hf b hb).1⟩⟩
 done:=by
  intro X hP hw hK hc i pins s σ H E I hf st hg
  subst hP hw hK
  obtain ⟨xs,hq,hx⟩:=hg
  obtain ⟨its,rv,p,hz⟩:=I.list hq
  obtain ⟨f0,f1,f2,f3,f4,f5⟩:=hf it (by simp)
  have hl:=rv.length
  exact list_on (I.hn.now I.hok) st p.isList (by simp; omega) fun h' eb => ⟨rfl,I.turned (t':=s.toks) (fun b o hb e => eb b o hb e) f0 f1 f3 f4 f5⟩
 self:=fun _ _ _ _ _ st h => wpAny_pyIter_listiter st h
theorem turn_tuple {P:Program} {w:World} {K:PySem.W.Frag} {tg:Expr} (a it:Addr):Turn P w K tg (Itt K a) [it] it (fun i h => h.IsTupleIter it a i) false where
 mem:=by simp
 obj:=fun i h st b hb => by
  have e:b = it:=by simpa using hb
  subst e
  obtain ⟨o,e,c,d⟩:=st
  exact ⟨o,e,fun v z => by rw [d] at z; cases z⟩
 keep:=fun i h h' st k => st.at fun o e => k it (by simp) o e
 item:=by
  intro X hP hw hK hc i pins s σ H E I hf st hg
  subst hP hw hK
  obtain ⟨xs,x,hq,hx⟩:=hg
  obtain ⟨its,rv,p,hz⟩:=I.tuple hq
  obtain ⟨u,hu,ru⟩:=rv.get hx
  obtain ⟨f0,f1,f2,f3,f4,f5⟩:=hf it (by simp)
  refine wpAny_pyNext_tuple_item st (show s.heap.IsTuple a its.toArray from p) (x:=u) (by simpa using hu) fun h' st' sb => ?_
  have I1:Inv X pins σ H { s with heap:=h' }:=I.turned (t':=s.toks) (fun b o hb e => (sb.2 b hb).trans e) f0 f1 f3 f4 f5
  obtain ⟨o,e,c,d⟩:=id st'
  exact ⟨u,rfl,go_of (s:={ s with heap:=h' }) e c d (by decide) ⟨x,H,I1,ru,⟨rfl,fun ys hy => by rw [I.tuple_inj hy hq]; exact hx⟩,st',fun b hb => (hf b hb).1⟩⟩
 done:=by
  intro X hP hw hK hc i pins s σ H E I hf st hg
  subst hP hw hK
  obtain ⟨xs,hq,hx⟩:=hg
  obtain ⟨its,rv,p,hz⟩:=I.tuple hq
  obtain ⟨f0,f1,f2,f3,f4,f5⟩:=hf it (by simp)
  have hl:=rv.length
  exact tuple_on (I.hn.now I.hok) st (show s.heap.IsTuple a its.toArray from p) (by simp; omega) fun h' eb => ⟨rfl,I.turned (t':=s.toks) (fun b o hb e => eb b o hb e) f0 f1 f3 f4 f5⟩
 self:=fun _ _ _ _ _ st h => wpAny_pyIter_tupleiter st h
theorem turn_range {P:Program} {w:World} {K:PySem.W.Frag} {tg:Expr} (it:Addr) (lo:Int) (n:Nat):Turn P w K tg (Itr lo n) [it] it (fun i h => IsRangeIter h it (lo + (i:Nat) * 1) ((n:Int) - (i:Nat)) 1) false where
 mem:=by simp
 obj:=fun i h st b hb => by
  have e:b = it:=by simpa using hb
  subst e
  exact ⟨_,st,fun v z => by
   have z':Data.fields _ = Data.cell v:=z
   cases z'⟩
 keep:=fun i h h' st k => k it (by simp) _ st
 item:=by
  intro X hP hw hK hc i pins s σ H E I hf st hg
  subst hP hw hK
  obtain ⟨f0,f1,f2,f3,f4,f5⟩:=hf it (by simp)
  refine wpAny_pyNext_range_item st (by have:i < n:=hg; omega) fun h' st' sb => ?_
  obtain ⟨tk,htk⟩:∃ tk,tk = s.toks + 1:=⟨_,rfl⟩
  rw [← htk]
  have I1:Inv X pins σ H { s with heap:=h',toks:=tk }:=I.turned (fun b o hb e => (sb.2 b hb).trans e) f0 f1 f3 f4 f5
  have st2:IsRangeIter h' it (lo + ((i + 1:Nat):Int) * 1) ((n:Int) - ((i + 1:Nat):Int)) 1:=by
   rw [show lo + ((i + 1:Nat):Int) * 1 = lo + (i:Int) * 1 + 1 by omega,show (n:Int) - ((i + 1:Nat):Int) = (n:Int) - (i:Int) - 1 by omega]; exact st'
  refine ⟨_,rfl,go_of (s:={ s with heap:=h',toks:=tk }) (n:="range_iterator") st' rfl rfl (by decide) ⟨.int (lo + i),H,I1,⟨s.toks,?_⟩,⟨rfl,rfl⟩,st2,fun b hb => (hf b hb).1⟩⟩
  rw [Int.mul_one]
 done:=by
  intro X hP hw hK hc i pins s σ H E I hf st hg
  subst hP hw hK
  obtain ⟨f0,f1,f2,f3,f4,f5⟩:=hf it (by simp)
  exact range_on (I.hn.now I.hok) st (by have:n≤i:=hg; omega) fun h' eb => ⟨rfl,I.turned (t':=s.toks) (fun b o hb e => eb b o hb e) f0 f1 f3 f4 f5⟩
 self:=fun _ _ _ _ _ st h => wpAny_pyIter_rangeiter st h
end L2
namespace L2
open PySem PySem.Spec PyProof.Rows
section
variable {X:Cx} {tg:Expr}
def iList (K:PySem.W.Frag) (tl:TE):TI:=fun σ H R => tl σ H fun x H1 => ∃ a,x = .ref a∧(∃ xs,SqL K H1 a xs)∧R (Itl K a) H1
def iTup (K:PySem.W.Frag) (tl:TE):TI:=fun σ H R => tl σ H fun x H1 => ∃ a,x = .ref a∧(∃ xs,SqT K H1 a xs)∧R (Itt K a) H1
theorem pi_list {l:Expr} {tl:TE} (hl:PE X l tl):PI X tg l (iList X.K tl):=by
 intro pins s σ H R I h
 refine thn (hl pins s σ H _ I h) fun v s1 ⟨x,H1,I1,r1,q1⟩ => ?_
 obtain ⟨a,e,⟨xs,hq⟩,q⟩:=q1
 subst e
 cases r1
 obtain ⟨its,rv,p,hz⟩:=I1.list hq
 refine wpAny_pyIter_list p.isList ?_
 refine ⟨s1.heap.objs.size,[s1.heap.objs.size],_,_,H1,rfl,I1.kept (t':=s1.toks) fun b o e => Heap.get?_push_of_some _ e,TurnX.of (turn_list a _),⟨_,Heap.get?_push_size _ rfl,rfl,rfl⟩,fun b hb => ?_,q⟩
 have e:b = s1.heap.objs.size:=by simpa using hb
 subst e
 exact I1.fpOk (Nat.le_refl _) (I1.hok.fresh (Nat.le_refl _))
theorem pi_tup {l:Expr} {tl:TE} (hl:PE X l tl):PI X tg l (iTup X.K tl):=by
 intro pins s σ H R I h
 refine thn (hl pins s σ H _ I h) fun v s1 ⟨x,H1,I1,r1,q1⟩ => ?_
 obtain ⟨a,e,⟨xs,hq⟩,q⟩:=q1
 subst e
 cases r1
 obtain ⟨its,rv,p,hz⟩:=I1.tuple hq
 refine wpAny_pyIter_tuple (show s1.heap.IsTuple a its.toArray from p) ?_
 refine ⟨s1.heap.objs.size,[s1.heap.objs.size],_,_,H1,rfl,I1.kept (t':=s1.toks) fun b o e => Heap.get?_push_of_some _ e,TurnX.of (turn_tuple a _),⟨_,Heap.get?_push_size _ rfl,rfl,rfl⟩,fun b hb => ?_,q⟩
 have e:b = s1.heap.objs.size:=by simpa using hb
 subst e
 exact I1.fpOk (Nat.le_refl _) (I1.hok.fresh (Nat.le_refl _))
theorem range_it {pins:List (Addr × Obj)} {σ:St} {H:Hp} {s:Shared} {R:It→Hp→Prop} {E:Value→Shared→Prop} {lo hi:Int} {t u v:Tok} {tk:Nat} (I:Inv X pins σ H s) (h1:-(2 ^ 62)≤lo) (h2:lo < 2 ^ 62) (h3:-(2 ^ 62)≤hi) (h4:hi < 2 ^ 62)
  (q:R (Itr lo (hi - lo).toNat) H):wpAny (model X.prog X.w) X.A (pyIter (.ref s.heap.objs.size)) (PIE X pins σ tg R) E { s with heap:=s.heap.push { cls:=.type "range",data:=.fields #[.int lo t,.int hi u,.int 1 v] },toks:=tk }:=by
 refine wpAny_pyIter_range (IsRange.new ..) (small_one h1 h2 h3 h4) ?_
 have I1:Inv X pins σ H { s with heap:=s.heap.push { cls:=.type "range",data:=.fields #[.int lo t,.int hi u,.int 1 v] },toks:=tk }:=I.kept fun b o e => Heap.get?_push_of_some _ e
 refine ⟨(s.heap.push { cls:=.type "range",data:=.fields #[.int lo t,.int hi u,.int 1 v] }).objs.size,[(s.heap.push { cls:=.type "range",data:=.fields #[.int lo t,.int hi u,.int 1 v] }).objs.size],_,_,H,rfl,
  I1.kept (t':=tk) fun b o e => Heap.get?_push_of_some _ e,TurnX.of (turn_range _ lo (hi - lo).toNat),?_,fun b hb => ?_,q⟩
 ·have e1:lo + ((0:Nat):Int) * 1 = lo:=by simp
  have e2:(((hi - lo).toNat:Nat):Int) - ((0:Nat):Int) = Builtin.Range.rangeSize lo hi 1:=by rw [rangeSize_one]; split <;> omega
  show IsRangeIter _ _ (lo + ((0:Nat):Int) * 1) ((((hi - lo).toNat:Nat):Int) - ((0:Nat):Int)) 1
  rw [e1,e2]
  exact Heap.get?_push_size _ rfl
 ·have e:b = (s.heap.push { cls:=.type "range",data:=.fields #[.int lo t,.int hi u,.int 1 v] }).objs.size:=by simpa using hb
  subst e
  exact I1.fpOk (Nat.le_refl _) (I1.hok.fresh (Nat.le_refl _))
def iRng1 (ta:TA):TI:=fun σ H R => ta σ H fun vs H1 => ∃ j:Int,vs = [.int j]∧-(2 ^ 62)≤j∧j < 2 ^ 62∧R (Itr 0 j.toNat) H1
theorem pi_range1 {a:Expr} {ta:TA} {p pos:Pos} (hg:Gl X "range") (hm:X.mg "range" = none) (ha:PA X [a] ta) (hs:starEach [a] X.env = [(false,eval a X.env)]:=by rfl):PI X tg (.Call (.Name "range" p) [a] [] pos) (iRng1 ta):=by
 intro pins s σ H R I h
 refine Call_ (ld_blt I hg hm boot_range (PyProof.Rows.callWith_type1 (thn (ha pos pins s σ H _ I h) fun us s1 ⟨vs,H1,I1,r1,q1⟩ => ?_) hs rfl))
 obtain ⟨j,e,q1,q2,q⟩:=q1
 subst e
 cases r1 with
 | cons r rr =>
  cases rr
  obtain ⟨t,rfl⟩:=r
  exact call_range_1 (range_it I1 (by omega) (by omega) q1 q2 (by simpa using q))
def tFor (wi:TI) (g:TG) (tb:TS):TS:=fun D σ H => wi σ H fun J H1 => ∃ W:Nat→Nat→St→Hp→Prop,(∃ m,W 0 m σ H1)∧∀ i m σ H,W i m σ H →
 (J.stop i H∧D.nx σ H)∨(J.go i H∧∃ N:St→Hp→Prop,(∀ σ' H',N σ' H'→∃ m',m' < m∧W (i + 1) m' σ' H')∧∀ x H',J.yld i H x H'→g x σ H' fun σ2 H2 => tb { D with nx:=N,ct:=N,bk:=D.nx } σ2 H2)
def pinsAt (fp:List Addr) (h:Heap):List (Addr × Obj):=fp.filterMap fun b => (h.get? b).map fun o => (b,o)
theorem mem_pinsAt {fp:List Addr} {h:Heap} {b:Addr} {o:Obj} (hb:b∈fp) (e:h.get? b = some o):(b,o)∈pinsAt fp h:=List.mem_filterMap.mpr ⟨b,hb,by rw [e]; rfl⟩
theorem of_pinsAt {fp:List Addr} {h:Heap} {p:Addr × Obj} (hp:p∈pinsAt fp h):p.1∈fp∧h.get? p.1 = some p.2:=by
 obtain ⟨b,hb,e⟩:=List.mem_filterMap.mp hp
 cases q:h.get? b with
 | none => rw [q] at e; cases e
 | some o =>
  rw [q] at e
  have e':(b,o) = p:=Option.some.inj e
  subst e'
  exact ⟨hb,q⟩
theorem Inv.pinned {pins:List (Addr × Obj)} {σ:St} {H:Hp} {s:Shared} {fp:List Addr} (I:Inv X pins σ H s) (hf:∀ b∈fp,FpOk X pins H b) (ho:∀ b∈fp,∃ o,s.heap.get? b = some o∧∀ v,o.data≠.cell v):Inv X (pins ++ pinsAt fp s.heap) σ H s :=
 I.pins_of fun p hp => (List.mem_append.mp hp).elim (fun z => I.pin p (List.mem_append_right _ z)) fun z => by
  obtain ⟨hb,e⟩:=of_pinsAt z
  obtain ⟨f0,f1,f2,_⟩:=hf p.1 hb
  obtain ⟨o,e',d⟩:=ho p.1 hb
  rw [e] at e'; cases e'
  exact ⟨e,f0,f1,f2,d⟩
theorem Inv.unpinned {pins pl:List (Addr × Obj)} {σ:St} {H:Hp} {s:Shared} (I:Inv X (pins ++ pl) σ H s):Inv X pins σ H s:=I.pins_of fun p hp => I.pin p (List.mem_append_right _ (List.mem_append_left _ hp))
theorem ps_for {iter:Expr} {body:List Stmt} {wi:TI} {g:TG} {tb:TS} {pos:Pos} (hp:PassesOwn (model X.prog X.w) X.A X.env X.xe) (hi:PI X tg iter wi) (hg:PG X tg g) (hb:PSs X body tb)
  (hs:∀ x,foldedSetIterable iter X.env x = pure x:=by intro _; rfl):PS X (.For tg iter body [] pos) (tFor wi g tb):=by
 intro pins s σ H D I h
 refine wpAny_For (thn (hi pins s σ H _ I h) fun v s1 h1 => thn h1 fun itv s2 h2 => ?_) hs
 obtain ⟨it,fp,tn,J,H2,e,I2,T,st2,f2,W,⟨m0,w0⟩,turn⟩:=h2
 subst e
 obtain ⟨nm,T,hc⟩:=T
 have stat:∀ {H':Hp},(∀ b∈fp,H' b = none)→∀ b∈fp,FpOk X pins H' b:=fun hn b hb => ⟨hn b hb,(f2 b hb).2⟩
 refine codeAny_forLoop_any (fun n s' => ∃ i σ' H',Inv X pins σ' H' s'∧tn i s'.heap∧(∀ b∈fp,H' b = none)∧W i n σ' H') ?_ m0 ⟨0,σ,H2,I2,st2,fun b hb => (f2 b hb).1,w0⟩
 rintro n s3 ⟨i,σ3,H3,I3,st3,fr3,w3⟩
 rcases turn i n σ3 H3 w3 with ⟨stop,qn⟩ | ⟨go,N,hN,step⟩
 ·refine wpAny_passesOwn hp (thn (T.done X rfl rfl rfl hc i pins s3 σ3 H3 X.xe I3 (stat fr3) st3 stop) fun r s4 ⟨hr,I4⟩ => ?_)
  subst hr
  exact wpAny_execs_nil ⟨σ3,H3,I4,qn⟩
 ·refine wpAny_passesOwn hp (thn (T.item X rfl rfl rfl hc i pins s3 σ3 H3 X.xe I3 (stat fr3) st3 go) fun r s4 ⟨u,hr,h4⟩ => ?_)
  subst hr
  refine wpAny_passesOwn hp (thn h4 fun _ s5 ⟨x,H5,I5,r5,y5,st5,fr5⟩ => ?_)
  have I5':=I5.pinned (stat fr5) (T.obj _ _ st5)
  refine wpAny_passesOwn hp (thn (hg _ s5 σ3 H5 x u _ I5' r5 (step x H5 y5)) fun _ s6 ⟨σ6,H6,I6,q6⟩ => ?_)
  refine wpAny_passesOwn hp (thn (hb _ s6 σ6 H6 _ I6 q6) fun f s7 q7 => ?_)
  have again:∀ {σ7:St} {H7:Hp},Inv X (pins ++ pinsAt fp s5.heap) σ7 H7 s7→N σ7 H7→∃ m,m < n∧∃ i σ' H',Inv X pins σ' H' s7∧tn i s7.heap∧(∀ b∈fp,H' b = none)∧W i m σ' H':=fun {σ7 H7} I7 n7 => by
   obtain ⟨m',hm,w7⟩:=hN σ7 H7 n7
   refine ⟨m',hm,i + 1,σ7,H7,I7.unpinned,T.keep _ _ _ st5 fun b hb o e => (I7.pin (b,o) (List.mem_append_right _ (List.mem_append_right _ (mem_pinsAt hb e)))).1,fun b hb => ?_,w7⟩
   obtain ⟨o,e,d⟩:=T.obj _ _ st5 b hb
   exact (I7.pin (b,o) (List.mem_append_right _ (List.mem_append_right _ (mem_pinsAt hb e)))).2.1
  cases f with
  | next => obtain ⟨σ7,H7,I7,n7⟩:=q7; exact again I7 n7
  | cont => obtain ⟨σ7,H7,I7,n7⟩:=q7; exact again I7 n7
  | brk => obtain ⟨σ7,H7,I7,q7⟩:=q7; exact ⟨σ7,H7,I7.unpinned,q7⟩
  | ret v => obtain ⟨x7,σ7,H7,I7,r7,q7⟩:=q7; exact ⟨x7,σ7,H7,I7.unpinned,r7,q7⟩
end
theorem for_list {K:PySem.W.Frag} {a:Addr} {xs:List V} {g:TG} {tb:TS} {D:Ends} {σ:St} {H:Hp} (Pv:Nat→St→Hp→Prop) (h0:Pv 0 σ H) (hl:∀ i σ H,i≤xs.length→Pv i σ H→SqL K H a xs)
  (hs:∀ i x σ H,xs[i]? = some x→Pv i σ H→g x σ H fun σ2 H2 => tb { D with nx:=Pv (i + 1),ct:=Pv (i + 1),bk:=D.nx } σ2 H2) (hd:∀ σ H,Pv xs.length σ H→D.nx σ H) :
  ∃ W:Nat→Nat→St→Hp→Prop,(∃ m,W 0 m σ H)∧∀ i m σ H,W i m σ H →
   ((Itl K a).stop i H∧D.nx σ H)∨((Itl K a).go i H∧∃ N:St→Hp→Prop,(∀ σ' H',N σ' H'→∃ m',m' < m∧W (i + 1) m' σ' H')∧∀ x H',(Itl K a).yld i H x H'→g x σ H' fun σ2 H2 => tb { D with nx:=N,ct:=N,bk:=D.nx } σ2 H2):=by
 refine ⟨fun i m σ H => m = xs.length - i∧i≤xs.length∧Pv i σ H,⟨xs.length,by simp,Nat.zero_le _,h0⟩,?_⟩
 rintro i m σ H ⟨rfl,hi,p⟩
 have q:=hl i σ H hi p
 by_cases hlt:i < xs.length
 ·refine .inr ⟨⟨xs,xs[i],q,by simp [hlt]⟩,Pv (i + 1),fun σ' H' p' => ⟨xs.length - (i + 1),by omega,rfl,hlt,p'⟩,fun x H' y => ?_⟩
  obtain ⟨e,y⟩:=y
  subst e
  exact hs i x σ _ (y xs q) p
 ·have e:i = xs.length:=by omega
  subst e
  exact .inl ⟨⟨xs,q,Nat.le_refl _⟩,hd σ H p⟩
theorem for_tup {K:PySem.W.Frag} {a:Addr} {xs:List V} {g:TG} {tb:TS} {D:Ends} {σ:St} {H:Hp} (Pv:Nat→St→Hp→Prop) (h0:Pv 0 σ H) (hl:∀ i σ H,i≤xs.length→Pv i σ H→SqT K H a xs)
  (hs:∀ i x σ H,xs[i]? = some x→Pv i σ H→g x σ H fun σ2 H2 => tb { D with nx:=Pv (i + 1),ct:=Pv (i + 1),bk:=D.nx } σ2 H2) (hd:∀ σ H,Pv xs.length σ H→D.nx σ H) :
  ∃ W:Nat→Nat→St→Hp→Prop,(∃ m,W 0 m σ H)∧∀ i m σ H,W i m σ H →
   ((Itt K a).stop i H∧D.nx σ H)∨((Itt K a).go i H∧∃ N:St→Hp→Prop,(∀ σ' H',N σ' H'→∃ m',m' < m∧W (i + 1) m' σ' H')∧∀ x H',(Itt K a).yld i H x H'→g x σ H' fun σ2 H2 => tb { D with nx:=N,ct:=N,bk:=D.nx } σ2 H2):=by
 refine ⟨fun i m σ H => m = xs.length - i∧i≤xs.length∧Pv i σ H,⟨xs.length,by simp,Nat.zero_le _,h0⟩,?_⟩
 rintro i m σ H ⟨rfl,hi,p⟩
 have q:=hl i σ H hi p
 by_cases hlt:i < xs.length
 ·refine .inr ⟨⟨xs,xs[i],q,by simp [hlt]⟩,Pv (i + 1),fun σ' H' p' => ⟨xs.length - (i + 1),by omega,rfl,hlt,p'⟩,fun x H' y => ?_⟩
  obtain ⟨e,y⟩:=y
  subst e
  exact hs i x σ _ (y xs q) p
 ·have e:i = xs.length:=by omega
  subst e
  exact .inl ⟨⟨xs,q,Nat.le_refl _⟩,hd σ H p⟩
theorem for_range {lo:Int} {n:Nat} {g:TG} {tb:TS} {D:Ends} {σ:St} {H:Hp} (Pv:Nat→St→Hp→Prop) (h0:Pv 0 σ H)
  (hs:∀ i σ H,i < n→Pv i σ H→g (.int (lo + i)) σ H fun σ2 H2 => tb { D with nx:=Pv (i + 1),ct:=Pv (i + 1),bk:=D.nx } σ2 H2) (hd:∀ σ H,Pv n σ H→D.nx σ H) :
  ∃ W:Nat→Nat→St→Hp→Prop,(∃ m,W 0 m σ H)∧∀ i m σ H,W i m σ H →
   ((Itr lo n).stop i H∧D.nx σ H)∨((Itr lo n).go i H∧∃ N:St→Hp→Prop,(∀ σ' H',N σ' H'→∃ m',m' < m∧W (i + 1) m' σ' H')∧∀ x H',(Itr lo n).yld i H x H'→g x σ H' fun σ2 H2 => tb { D with nx:=N,ct:=N,bk:=D.nx } σ2 H2):=by
 refine ⟨fun i m σ H => m = n - i∧i≤n∧Pv i σ H,⟨n,by simp,Nat.zero_le _,h0⟩,?_⟩
 rintro i m σ H ⟨rfl,hi,p⟩
 by_cases hlt:i < n
 ·refine .inr ⟨hlt,Pv (i + 1),fun σ' H' p' => ⟨n - (i + 1),by omega,rfl,hlt,p'⟩,fun x H' y => ?_⟩
  obtain ⟨e,y⟩:=y
  subst e y
  exact hs i σ _ hlt p
 ·have e:i = n:=by omega
  subst e
  exact .inl ⟨Nat.le_refl _,hd σ H p⟩
end L2
namespace L2
open PySem PySem.Spec PyProof.Rows
abbrev R2:=V→V→Hp→VK→Prop
def OpR (X:Cx) (f:Value→Value→Sem Value) (r:R2):Prop :=
 ∀ (pins:List (Addr × Obj)) (s:Shared) (σ:St) (H:Hp) (x y:V) (v u:Value) (Q:VK),Inv X pins σ H s→RelV x v→RelV y u→r x y H Q →
  wpAny (model X.prog X.w) X.A (f v u) (EP X pins σ Q) X.xe s
def UnR (X:Cx) (f:Value→Sem Value) (r:V→Hp→VK→Prop):Prop :=
 ∀ (pins:List (Addr × Obj)) (s:Shared) (σ:St) (H:Hp) (x:V) (v:Value) (Q:VK),Inv X pins σ H s→RelV x v→r x H Q →
  wpAny (model X.prog X.w) X.A (f v) (EP X pins σ Q) X.xe s
def CallR (X:Cx) (f:Value) (r:List V→Hp→VK→Prop):Prop :=
 ∀ (pins:List (Addr × Obj)) (s:Shared) (σ:St) (H:Hp) (xs:List V) (us:List Value) (Q:VK),Inv X pins σ H s→Vals xs us→r xs H Q →
  wpAny (model X.prog X.w) X.A (call f us) (EP X pins σ Q) X.xe s
def tOp (r:R2) (ta tb:TE):TE:=fun σ H Q => ta σ H fun x H1 => tb σ H1 fun y H2 => r x y H2 Q
def tUn (r:V→Hp→VK→Prop) (ta:TE):TE:=fun σ H Q => ta σ H fun x H1 => r x H1 Q
def rI (C:Int→Int→Prop) (g:Int→Int→V):R2:=fun x y H Q => ∃ i j,x = .int i∧y = .int j∧C i j∧Q (g i j) H
def rI0 (g:Int→Int→V):R2:=fun x y H Q => ∃ i j,x = .int i∧y = .int j∧Q (g i j) H
def rU (g:Int→V):V→Hp→VK→Prop:=fun x H Q => ∃ i,x = .int i∧Q (g i) H
section
variable {X:Cx} {a b c:Expr} {ta tb tc:TE} {pos:Pos}
theorem binT (ha:PE X a ta) (hb:PE X b tb) {pins:List (Addr × Obj)} {s:Shared} {σ:St} {H:Hp} {R:V→V→Hp→Prop} (I:Inv X pins σ H s)
  (h:ta σ H fun x H1 => tb σ H1 fun y H2 => R x y H2) {Q:Value→Shared→Prop} {f:Value→Value→Sem Value}
  (hf:∀ v u s2 x y H2,Inv X pins σ H2 s2→RelV x v→RelV y u→R x y H2→wpAny (model X.prog X.w) X.A (f v u) Q X.xe s2) :
  wpAny (model X.prog X.w) X.A (eval a X.env) (fun v s₁ => wpAny (model X.prog X.w) X.A (eval b X.env) (fun u s₂ => wpAny (model X.prog X.w) X.A (f v u) Q X.xe s₂) X.xe s₁) X.xe s:=by
 refine thn (ha pins s σ H _ I h) fun v s1 ⟨x,H1,I1,r1,q1⟩ => ?_
 refine thn (hb pins s1 σ H1 _ I1 q1) fun u s2 ⟨y,H2,I2,r2,q2⟩ => ?_
 exact hf v u s2 x y H2 I2 r1 r2 q2
theorem pe_op {op:Operator} {r:R2} (ho:OpR X (binaryOp op) r) (ha:PE X a ta) (hb:PE X b tb):PE X (.BinOp a op b pos) (tOp r ta tb):=by
 intro pins s σ H Q I h
 exact wpAny_BinOp (binT ha hb I h fun v u s2 x y H2 I2 rx ry q => ho pins s2 σ H2 x y v u Q I2 rx ry q)
theorem pe_un {op:UnaryOp} {r:V→Hp→VK→Prop} (ho:UnR X (unaryOp op) r) (ha:PE X a ta):PE X (.UnaryOp op a pos) (tUn r ta):=by
 intro pins s σ H Q I h
 exact UnaryOp_ (thn (ha pins s σ H _ I h) fun v s1 ⟨x,H1,I1,r1,q1⟩ => ho pins s1 σ H1 x v Q I1 r1 q1)
theorem opI {f:Value→Value→Sem Value} {C:Int→Int→Prop} {g:Int→Int→Int}
  (rule:∀ (i j:Int) (t u:Tok) (s:Shared) (Q:Value→Shared→Prop) (E:Value→Shared→Prop),C i j→Q (.int (g i j) s.toks) { s with toks:=s.toks + 1 }→wpAny (model X.prog X.w) X.A (f (.int i t) (.int j u)) Q E s) :
  OpR X f (rI C fun i j => .int (g i j)):=by
 intro pins s σ H x y v u Q I rx ry h
 obtain ⟨i,j,rfl,rfl,hc,q⟩:=h
 obtain ⟨t,rfl⟩:=rx
 obtain ⟨t',rfl⟩:=ry
 exact rule i j t t' s _ _ hc ⟨.int (g i j),H,I.tok _,⟨_,rfl⟩,q⟩
theorem opI0 {f:Value→Value→Sem Value} {g:Int→Int→Int}
  (rule:∀ (i j:Int) (t u:Tok) (s:Shared) (Q:Value→Shared→Prop) (E:Value→Shared→Prop),Q (.int (g i j) s.toks) { s with toks:=s.toks + 1 }→wpAny (model X.prog X.w) X.A (f (.int i t) (.int j u)) Q E s) :
  OpR X f (rI0 fun i j => .int (g i j)):=by
 intro pins s σ H x y v u Q I rx ry h
 obtain ⟨i,j,rfl,rfl,q⟩:=h
 obtain ⟨t,rfl⟩:=rx
 obtain ⟨t',rfl⟩:=ry
 exact rule i j t t' s _ _ ⟨.int (g i j),H,I.tok _,⟨_,rfl⟩,q⟩
theorem opB0 {f:Value→Value→Sem Value} {g:Int→Int→Bool}
  (rule:∀ (i j:Int) (t u:Tok) (s:Shared) (Q:Value→Shared→Prop) (E:Value→Shared→Prop),Q (.bool (g i j)) s→wpAny (model X.prog X.w) X.A (f (.int i t) (.int j u)) Q E s) :
  OpR X f (rI0 fun i j => .bl (g i j)):=by
 intro pins s σ H x y v u Q I rx ry h
 obtain ⟨i,j,rfl,rfl,q⟩:=h
 obtain ⟨t,rfl⟩:=rx
 obtain ⟨t',rfl⟩:=ry
 exact rule i j t t' s _ _ ⟨.bl (g i j),H,I,rfl,q⟩
def CDiv (i j:Int):Prop:=0 < j∧j < 1073741824
def CPow (i j:Int):Prop:=0≤j∧j≤1000000∧i.natAbs < 2 ^ 64
def CMul (i j:Int):Prop:=(-(2 ^ 64) < i∧i < 2 ^ 64)∨(-(2 ^ 64) < j∧j < 2 ^ 64)
theorem CMul.ok {i j:Int} (h:CMul i j):IntMulOk i j:=by
 rcases h with ⟨h1,h2⟩ | ⟨h1,h2⟩
 ·exact .of_left (intBits_le_64 h1 h2)
 ·exact .of_right (intBits_le_64 h1 h2)
theorem op_add:OpR X (binaryOp .Add) (rI0 fun i j => .int (i + j)):=opI0 fun _ _ _ _ _ _ _ q => add_int q
theorem op_sub:OpR X (binaryOp .Sub) (rI0 fun i j => .int (i - j)):=opI0 fun _ _ _ _ _ _ _ q => sub_int q
theorem op_mul:OpR X (binaryOp .Mult) (rI CMul fun i j => .int (i * j)):=opI fun _ _ _ _ _ _ _ hc q => mul_int q hc.ok
theorem op_fdiv:OpR X (binaryOp .FloorDiv) (rI CDiv fun i j => .int (i / j)):=opI fun i j _ _ _ _ _ hc q => by
 have h1:(0:Int) < j:=hc.1
 have h2:j < 1073741824:=hc.2
 exact floordiv_int (by omega) (by rw [Int.fdiv_eq_ediv_of_nonneg i (by omega)]; exact q) (.inl (PyProof.noPylong_small (by omega)))
theorem op_mod:OpR X (binaryOp .Mod) (rI (fun _ j => 0 < j) fun i j => .int (i % j)):=opI fun i j _ _ _ _ _ hc q => by
 have h1:(0:Int) < j:=hc
 exact mod_int' (by omega) (by rw [Int.fmod_eq_emod_of_nonneg i (by omega)]; exact q)
theorem op_pow:OpR X (binaryOp .Pow) (rI CPow fun i j => .int (i ^ j.toNat)):=opI fun _ _ _ _ _ _ _ hc q => pow_int_small hc.1 hc.2.1 hc.2.2 q
theorem unI {f:Value→Sem Value} {g:Int→Int}
  (rule:∀ (i:Int) (t:Tok) (s:Shared) (Q:Value→Shared→Prop) (E:Value→Shared→Prop),Q (.int (g i) s.toks) { s with toks:=s.toks + 1 }→wpAny (model X.prog X.w) X.A (f (.int i t)) Q E s) :
  UnR X f (rU fun i => .int (g i)):=by
 intro pins s σ H x v Q I rx h
 obtain ⟨i,rfl,q⟩:=h
 obtain ⟨t,rfl⟩:=rx
 exact rule i t s _ _ ⟨.int (g i),H,I.tok _,⟨_,rfl⟩,q⟩
theorem un_neg:UnR X (unaryOp .USub) (rU fun i => .int (-i)):=unI fun _ _ _ _ _ q => neg_int q
end
def scal:V→V→Bool
 | .non,.non => true | .non,.int _ => true | .int _,.non => true | .non,.bl _ => true | .bl _,.non => true | .non,.str _ => true | .str _,.non => true
 | .int _,.int _ => true | .bl _,.bl _ => true | .str _,.str _ => true | .byt _,.byt _ => true
 | .int _,.str _ => true | .str _,.int _ => true | .bl _,.str _ => true | .str _,.bl _ => true
 | _,_ => false
def rEq:R2:=fun x y H Q => scal x y = true∧Q (.bl (decide (x = y))) H
def rNe:R2:=fun x y H Q => scal x y = true∧Q (.bl (!decide (x = y))) H
theorem dec_int {i j:Int}:decide (V.int i = V.int j) = (i == j):=by
 rw [Bool.eq_iff_iff]
 simp
theorem dec_bl {i j:Bool}:decide (V.bl i = V.bl j) = (i == j):=by
 rw [Bool.eq_iff_iff]
 simp
theorem dec_str {i j:Str}:decide (V.str i = V.str j) = (i == j):=by
 rw [Bool.eq_iff_iff]
 simp
theorem dec_byt {i j:Array UInt8}:decide (V.byt i = V.byt j) = (i.toList == j.toList):=by
 rw [Bool.eq_iff_iff]
 cases i
 cases j
 simp
section
variable {X:Cx} {a b c:Expr} {ta tb tc:TE} {pos:Pos}
theorem fin_bl {pins:List (Addr × Obj)} {σ:St} {H:Hp} {s:Shared} {Q:VK} {k k':Bool} (I:Inv X pins σ H s) (q:Q (.bl k) H) (e:k = k'):EP X pins σ Q (.bool k') s:=by
 subst e
 exact ⟨.bl k,H,I,rfl,q⟩
theorem op_eq:OpR X (compareOp .Eq) rEq:=by
 intro pins s σ H x y v u Q I rx ry h
 obtain ⟨hs,q⟩:=h
 cases x with
 | non =>
  cases rx
  cases y with
  | non => cases ry; exact PySem.EqNone.eq_none_none (fin_bl I q (by simp))
  | bl j => cases ry; exact PySem.EqNone.eq_none_bool (fin_bl I q (by simp))
  | int j => obtain ⟨t',rfl⟩:=ry; exact PySem.EqNone.eq_none_int (fin_bl I q (by simp))
  | str j => obtain ⟨t',rfl⟩:=ry; exact PySem.EqNone.eq_none_str (fin_bl I q (by simp))
  | _ => exact absurd (show false = true from hs) Bool.false_ne_true
 | bl i =>
  cases rx
  cases y with
  | non => cases ry; exact PySem.EqNone.eq_bool_none (fin_bl I q (by simp))
  | bl j => cases ry; exact eq_bool (fin_bl I q dec_bl)
  | str j => obtain ⟨t',rfl⟩:=ry; exact PySem.EqMixed.eq_bool_str (fin_bl I q (by simp))
  | _ => exact absurd (show false = true from hs) Bool.false_ne_true
 | int i =>
  obtain ⟨t,rfl⟩:=rx
  cases y with
  | non => cases ry; exact PySem.EqNone.eq_int_none (fin_bl I q (by simp))
  | int j => obtain ⟨t',rfl⟩:=ry; exact eq_int (fin_bl I q dec_int)
  | str j => obtain ⟨t',rfl⟩:=ry; exact PySem.EqMixed.eq_int_str (fin_bl I q (by simp))
  | _ => exact absurd (show false = true from hs) Bool.false_ne_true
 | str i =>
  obtain ⟨t,rfl⟩:=rx
  cases y with
  | non => cases ry; exact PySem.EqNone.eq_str_none (fin_bl I q (by simp))
  | bl j => cases ry; exact PySem.EqMixed.eq_str_bool (fin_bl I q (by simp))
  | int j => obtain ⟨t',rfl⟩:=ry; exact PySem.EqMixed.eq_str_int (fin_bl I q (by simp))
  | str j => obtain ⟨t',rfl⟩:=ry; exact eq_str (fin_bl I q dec_str)
  | _ => exact absurd (show false = true from hs) Bool.false_ne_true
 | byt i =>
  obtain ⟨t,rfl⟩:=rx
  cases y with
  | byt j => obtain ⟨t',rfl⟩:=ry; exact PySem.W.eq_bytes (fin_bl I q dec_byt)
  | _ => exact absurd (show false = true from hs) Bool.false_ne_true
 | _ => cases y <;> exact absurd (show false = true from hs) Bool.false_ne_true
theorem op_ne:OpR X (compareOp .NotEq) rNe:=by
 intro pins s σ H x y v u Q I rx ry h
 obtain ⟨hs,q⟩:=h
 cases x with
 | non =>
  cases rx
  cases y with
  | non => cases ry; exact PySem.EqNone.ne_none_none (fin_bl I q (by simp))
  | bl j => cases ry; exact PySem.EqNone.ne_none_bool (fin_bl I q (by simp))
  | int j => obtain ⟨t',rfl⟩:=ry; exact PySem.EqNone.ne_none_int (fin_bl I q (by simp))
  | str j => obtain ⟨t',rfl⟩:=ry; exact PySem.EqNone.ne_none_str (fin_bl I q (by simp))
  | _ => exact absurd (show false = true from hs) Bool.false_ne_true
 | bl i =>
  cases rx
  cases y with
  | non => cases ry; exact PySem.EqNone.ne_bool_none (fin_bl I q (by simp))
  | bl j => cases ry; exact ne_bool (fin_bl I q (congrArg not dec_bl))
  | str j => obtain ⟨t',rfl⟩:=ry; exact PySem.EqMixed.ne_bool_str (fin_bl I q (by simp))
  | _ => exact absurd (show false = true from hs) Bool.false_ne_true
 | int i =>
  obtain ⟨t,rfl⟩:=rx
  cases y with
  | non => cases ry; exact PySem.EqNone.ne_int_none (fin_bl I q (by simp))
  | int j => obtain ⟨t',rfl⟩:=ry; exact ne_int (fin_bl I q (congrArg not dec_int))
  | str j => obtain ⟨t',rfl⟩:=ry; exact PySem.EqMixed.ne_int_str (fin_bl I q (by simp))
  | _ => exact absurd (show false = true from hs) Bool.false_ne_true
 | str i =>
  obtain ⟨t,rfl⟩:=rx
  cases y with
  | non => cases ry; exact PySem.EqNone.ne_str_none (fin_bl I q (by simp))
  | bl j => cases ry; exact PySem.EqMixed.ne_str_bool (fin_bl I q (by simp))
  | int j => obtain ⟨t',rfl⟩:=ry; exact PySem.EqMixed.ne_str_int (fin_bl I q (by simp))
  | str j => obtain ⟨t',rfl⟩:=ry; exact ne_str (fin_bl I q (congrArg not dec_str))
  | _ => exact absurd (show false = true from hs) Bool.false_ne_true
 | byt i =>
  obtain ⟨t,rfl⟩:=rx
  cases y with
  | byt j => obtain ⟨t',rfl⟩:=ry; exact PySem.W.ne_bytes (fin_bl I q (congrArg not dec_byt))
  | _ => exact absurd (show false = true from hs) Bool.false_ne_true
 | _ => cases y <;> exact absurd (show false = true from hs) Bool.false_ne_true
theorem op_lt:OpR X (compareOp .Lt) (rI0 fun i j => .bl (decide (i < j))):=opB0 fun _ _ _ _ _ _ _ q => lt_int q
theorem op_le:OpR X (compareOp .LtE) (rI0 fun i j => .bl (decide (i≤j))):=opB0 fun _ _ _ _ _ _ _ q => le_int q
theorem op_in_str:OpR X (compareOp .In) (fun x y H Q => ∃ i j,x = .str i∧y = .str j∧Q (.bl (!(Builtin.Str.occurrences j i 0 j.length 1).isEmpty)) H):=by
 intro pins s σ H x y v u Q I rx ry h
 obtain ⟨i,j,rfl,rfl,q⟩:=h
 obtain ⟨t,rfl⟩:=rx
 obtain ⟨t',rfl⟩:=ry
 exact in_str (fin_bl I q rfl)
theorem nomark (b:Expr) {op:CmpOp} (h:op≠.In:=by decide) (h2:op≠.NotIn:=by decide):behindInMarks op b = false:=by
 have e1:(op == CmpOp.In) = false:=by cases op <;> first | rfl | exact absurd rfl h
 have e2:(op == CmpOp.NotIn) = false:=by cases op <;> first | rfl | exact absurd rfl h2
 cases b <;> simp [behindInMarks,e1,e2]
theorem pe_cmpR {op:CmpOp} {r:R2} (ho:OpR X (compareOp op) r) (ha:PE X a ta) (hb:PE X b tb) (hm:behindInMarks op b = false):PE X (.Compare a [op] [b] pos) (tOp r ta tb):=by
 intro pins s σ H Q I h
 exact wpAny_Compare1 (binT ha hb I h fun v u s2 x y H2 I2 rx ry q => ho pins s2 σ H2 x y v u Q I2 rx ry q) hm
def tTest (t:TE):TT:=fun σ H Q => t σ H fun x H' => ∃ k,x = .bl k∧Q k H'
theorem pt_cmpR {op:CmpOp} {r:R2} (ho:OpR X (compareOp op) r) (ha:PE X a ta) (hb:PE X b tb) (hm:behindInMarks op b = false):PT X (.Compare a [op] [b] pos) (tTest (tOp r ta tb)):=by
 intro pins s σ H Q I h
 refine wpAny_isTrue_Compare1 (thn (ha pins s σ H _ I h) fun v s1 ⟨x,H1,I1,r1,q1⟩ => thn (hb pins s1 σ H1 _ I1 q1) fun u s2 ⟨y,H2,I2,r2,q2⟩ =>
  thn (ho pins s2 σ H2 x y v u _ I2 r1 r2 q2) fun c s3 ⟨z,H3,I3,r3,k,e,q3⟩ => ?_) hm
 subst e
 cases r3
 exact wpAny_truthy_bool ⟨H3,I3,q3⟩
def tChain (r r':R2) (ta tb tc:TE):TE:=fun σ H Q => ta σ H fun x H1 => tb σ H1 fun y H2 => r x y H2 fun z H3 => ∃ k,z = .bl k ∧
 (if k = true then tc σ H3 fun w' H4 => r' y w' H4 Q else Q (.bl false) H3)
theorem pt_chain {op op':CmpOp} {r r':R2} (ho:OpR X (compareOp op) r) (ho':OpR X (compareOp op') r') (ha:PE X a ta) (hb:PE X b tb) (hc:PE X c tc)
  (hm:lastMarks [op,op'] [b,c] = false:=by with_unfolding_all rfl):PT X (.Compare a [op,op'] [b,c] pos) (tTest (tChain r r' ta tb tc)):=by
 intro pins s σ H Q I h
 refine isTrue_chain (thn (ha pins s σ H _ I h) fun v s1 ⟨x,H1,I1,r1,q1⟩ => test_link (thn (hb pins s1 σ H1 _ I1 q1) fun u s2 ⟨y,H2,I2,r2,q2⟩ =>
  thn (ho pins s2 σ H2 x y v u _ I2 r1 r2 q2) fun d s3 ⟨z,H3,I3,r3,k,e,q3⟩ => ?_)) hm
 subst e
 cases r3
 refine wpAny_truthy_bool ?_
 cases k with
 | false =>
  obtain ⟨k',e',q'⟩:=q3
  cases e'
  exact ite_ff ⟨H3,I3,q'⟩
 | true =>
  refine ite_tt (test_last (thn (hc pins s3 σ H3 _ I3 q3) fun w' s4 ⟨z',H4,I4,r4,q4⟩ => thn (ho' pins s4 σ H4 y z' u w' _ I4 r2 r4 q4) fun d' s5 ⟨z2,H5,I5,r5,k2,e2,q5⟩ => ?_))
  subst e2
  cases r5
  exact wpAny_truthy_bool ⟨H5,I5,q5⟩
theorem line63:(sizeLine:Nat) < 2 ^ 63:=by rw [sizeLine_eq]; decide
theorem vals1 {x:V} {us:List Value} (r:Vals [x] us):∃ u,us = [u]∧RelV x u:=by
 cases r with
 | cons r1 r2 => cases r2; exact ⟨_,rfl,r1⟩
theorem vals2 {x y:V} {us:List Value} (r:Vals [x,y] us):∃ u w',us = [u,w']∧RelV x u∧RelV y w':=by
 cases r with
 | cons r1 r2 =>
  cases r2 with
  | cons r3 r4 => cases r4; exact ⟨_,_,rfl,r1,r3⟩
theorem call_abs:CallR X (.builtin "abs") (fun xs H Q => ∃ i,xs = [.int i]∧Q (.int (if i < 0 then -i else i)) H):=by
 intro pins s σ H xs us Q I r h
 obtain ⟨i,rfl,q⟩:=h
 obtain ⟨u,rfl,t,rfl⟩:=vals1 r
 exact call_abs_int fun u tk => ⟨.int (if i < 0 then -i else i),H,I.tok _,⟨_,rfl⟩,q⟩
theorem call_min2 (hc:X.calm = true):CallR X (.builtin "min") (fun xs H Q => ∃ i j,xs = [.int i,.int j]∧Q (.int (if j < i then j else i)) H):=by
 intro pins s σ H xs us Q I r h
 obtain ⟨i,j,rfl,q⟩:=h
 obtain ⟨u,w',rfl,⟨t,rfl⟩,⟨t',rfl⟩⟩:=vals2 r
 refine min_two_ints (I.ok.hd hc) fun h' tk k => ⟨_,H,I.kept k,?_,q⟩
 by_cases hj:j < i
 ·rw [if_pos hj,if_pos hj]; exact ⟨_,rfl⟩
 ·rw [if_neg hj,if_neg hj]; exact ⟨_,rfl⟩
theorem call_str_int:CallR X (.type "str") (fun xs H Q => ∃ i,xs = [.int i]∧i.natAbs.log2 < 1920∧Q (.str (toString i)) H):=by
 intro pins s σ H xs us Q I r h
 obtain ⟨i,rfl,hz,q⟩:=h
 obtain ⟨u,rfl,t,rfl⟩:=vals1 r
 exact PySem.P.str_of_int hz ⟨.str _,H,I.tok _,⟨_,rfl⟩,q⟩
end
end L2
namespace L2
open PySem PySem.Spec PyProof.Rows
structure ObjM (h:Heap) (x dx C:Addr) (mA:Str→Option Value):Prop where
 obj:h.get? x = some (PySem.W.instObj C dx)
 ns:h.Ns1 dx mA
 ne:dx≠x
theorem lookIn_ns {h:Heap} {dx:Addr} {mA:Str→Option Value} (n:h.Ns1 dx mA):∃ od,h.get? dx = some od∧∀ name,PySem.W.lookIn name od = some (mA name):=by
 obtain ⟨o,es,ep,ho,hd,hk,_,hm⟩:=n
 refine ⟨o,ho,fun name => ?_⟩
 have e:=hm name
 unfold nsFind findBy at e
 rw [← Array.find?_toList] at e
 unfold PySem.W.lookIn
 rw [hd]
 dsimp only
 split
 ·rename_i y q
  rw [q] at e
  exact congrArg some e
 ·rename_i q
  rw [q] at e
  have a:es.toList.any (·.refKey) = false:=by
   rw [List.any_eq_false]
   intro y hy
   obtain ⟨z,t,hkey⟩:=hk y (Array.mem_toList_iff.mp hy)
   simp [DictEntry.refKey,hkey]
  have a':¬ es.toList.any (·.refKey) = true:=by rw [a]; exact Bool.false_ne_true
  rw [if_neg a']
  exact congrArg some e
theorem ObjM.look {h:Heap} {x dx C:Addr} {mA:Str→Option Value} (I:ObjM h x dx C mA):∃ od,PySem.W.InstAt h x (PySem.W.instObj C dx) C (some od)∧∀ name,PySem.W.lookIn name od = some (mA name) :=
 let ⟨od,ho,hl⟩:=lookIn_ns I.ns
 ⟨od,⟨I.obj,rfl,rfl,ho⟩,hl⟩
section
variable {prog:Program} {w:World} {A:Around} {E:Value→Shared→Prop} {s:Shared} {K:PySem.W.Frag} {x dx C f:Addr} {mA:Str→Option Value} {name:Str} {v:Value}
theorem get_map {expr:Bool} {Q:Value→Shared→Prop} (X:K.In s.heap) (I:ObjM s.heap x dx C mA) (hg:PySem.W.plainGet K C name = true) (hh:PySem.W.hasDictIn K C = true)
  (ha:PySem.W.findIn K (.ref C) name = some none) (hv:mA name = some v) (hv':PySem.W.handedIn v = true) (h:Q v { s with toks:=s.toks + 1 }) :
  wpAny (model prog w) A (getAttr (.ref x) name expr) Q E s:=by
 obtain ⟨od,J,hl⟩:=I.look
 exact PySem.W.get_value X J (PySem.W.plainGet_of hg).1 (PySem.W.findObj_own hh ha rfl (by rw [hl,hv])) hv' h
theorem get_meth {pl:Sem Bool} {Q:Value × List Value→Shared→Prop} (X:K.In s.heap) (I:ObjM s.heap x dx C mA) (hg:PySem.W.plainGet K C name = true)
  (hf:PySem.W.findIn K (.ref C) name = some (some (.ref f))) (ht:PySem.W.isFn K (.ref f) = true) (hv:mA name = none) (h:Q (.ref f,[.ref x]) s) :
  wpAny (model prog w) A (getMethod (.ref x) name pl) Q E s:=by
 obtain ⟨od,J,hl⟩:=I.look
 exact PySem.W.method_fn X J (PySem.W.plainGet_of hg).1 (PySem.W.plainGet_of hg).2 hf (beq_iff_eq.mp ht) (by show (PySem.W.lookIn name od).map (·.isSome) = some false; rw [hl,hv]; rfl) h
theorem set_map {ns:List Str} {Q:Unit→Shared→Prop} (X:K.In s.heap) (I:ObjM s.heap x dx C mA)
  (hs:PySem.W.findIn K (.ref C) "__setattr__" = some (some (.builtin "object.__setattr__"))) (hp:PySem.W.plainOver K C = true) (ht:PySem.W.takerIn K C name = some none) (hh:PySem.W.hasDictIn K C = true)
  (hw:PySem.Within mA ns) (hsz:ns.length≤sizeLine)
  (h:∀ h',ObjM h' x dx C (fun y => if y = name then some v else mA y)→Heap.SameBut dx s.heap h'→Q () { s with heap:=h',toks:=s.toks + 2 }) :
  wpAny (model prog w) A (setAttr (.ref x) name v) Q E s:=by
 obtain ⟨od,J,hl⟩:=I.look
 refine PySem.W.set_plain X J hs (PySem.W.osa_open (s:={ s with toks:=s.toks + 1 }) (r:=none) X J hp ht fun b => ?_)
 obtain ⟨cd,hc,hd'⟩:=PySem.W.any_some hh
 have hx:s.heap.get? x = some ⟨.ref C,some dx,.plain,#[]⟩:=I.obj
 refine wpAny_bind (wpAny_pure (wpAny_bind (wpAny_bind (wpAny_loadPart hx (wpAny_bind (PySem.W.Looks.here (s:={ s with toks:=s.toks + 1 }) (PySem.W.looks_clsIn X hc) ?_))))))
 rw [hd']
 refine wpAny_pure (a:=some dx) (wpAny_bind (wpAny_pure (wpAny_bind ?_)))
 refine wpAny_nsSet1 (s:={ s with toks:=s.toks + 1 }) I.ns fun h' hn2 hs2 => ?_
 obtain ⟨oD,esD,epD,hoD,hdD,hcD⟩:=hn2.count (PySem.Within.cons name v hw)
 refine wpAny_bind (wpAny_lookBehind hoD (by rw [hdD]; exact pastItsLine_dict (Nat.le_trans hcD (by rw [List.length_cons]; omega))) ?_)
 exact wpAny_pure (h _ ⟨(hs2.2 _ (Ne.symm I.ne)).trans I.obj,hn2,I.ne⟩ hs2)
theorem make_map {R:Result→Shared→Prop} {vs:List Value} {kw:List (Str × Value)} (X:K.In s.heap) (hm:PySem.W.makesIn K C = true)
  (hi:PySem.W.findIn K (.ref C) "__init__" = some (some (.ref f))) (hf:PySem.W.typeIn K (.ref f) = some (.type "function"))
  (h:codeAny (model prog w) (A.under (.builtin "type.__call__" ⟨.ref C :: vs,kw⟩)) (.call (.ref f) ⟨.ref (s.heap.objs.size + 1) :: vs,kw⟩) (PySem.W.InitBack (s.heap.objs.size + 1) R)
   { s with heap:=(s.heap.push PySem.W.emptyDict).push (PySem.W.instObj C s.heap.objs.size) }) :
  codeAny (model prog w) A (.call (.ref C) ⟨vs,kw⟩) R s:=by
 obtain ⟨hh,g,d,t,os⟩:=s
 exact PySem.W.make_core (PySem.W.makes_of X hm) (PySem.W.looks_findIn X hi) (fun self => PySem.W.bind_fn X self hf) (.inl rfl) h
end
def putF (f:Str) (v:V):List (Str × V)→List (Str × V)
 | [] => [(f,v)]
 | (g,x) :: r => if g = f then (g,v) :: r else (g,x) :: putF f v r
theorem lookup_putF (f g:Str) (v:V):∀ fs:List (Str × V),(putF f v fs).lookup g = if g = f then some v else fs.lookup g
 | [] => by
  show List.lookup g [(f,v)] = _
  by_cases h:g = f
  ·have hb:(g == f) = true:=beq_iff_eq.mpr h
   simp only [List.lookup,hb,if_pos h]
  ·have hb:(g == f) = false:=beq_eq_false_iff_ne.mpr h
   simp only [List.lookup,hb,if_neg h]
 | (k,x) :: r => by
  have ih:=lookup_putF f g v r
  rw [show putF f v ((k,x) :: r) = (if k = f then (k,v) :: r else (k,x) :: putF f v r) from rfl]
  by_cases hk:k = f
  ·rw [if_pos hk]
   by_cases h:g = k
   ·have hb:(g == k) = true:=beq_iff_eq.mpr h
    simp only [List.lookup,hb,if_pos (h.trans hk)]
   ·have hb:(g == k) = false:=beq_eq_false_iff_ne.mpr h
    simp only [List.lookup,hb,if_neg (fun e:g = f => h (e.trans hk.symm))]
  ·rw [if_neg hk]
   by_cases h:g = k
   ·have hb:(g == k) = true:=beq_iff_eq.mpr h
    simp only [List.lookup,hb,if_neg (fun e:g = f => hk (h.symm.trans e))]
   ·have hb:(g == k) = false:=beq_eq_false_iff_ne.mpr h
    simp only [List.lookup,hb]
    exact ih
theorem keys_putF (f:Str) (v:V):∀ fs:List (Str × V),f∈(putF f v fs).map (·.1)∧∀ g,g∈fs.map (·.1)→g∈(putF f v fs).map (·.1)
 | [] => ⟨by simp [putF],fun g h => by simp at h⟩
 | (k,x) :: r => by
  obtain ⟨i1,i2⟩:=keys_putF f v r
  rw [show putF f v ((k,x) :: r) = (if k = f then (k,v) :: r else (k,x) :: putF f v r) from rfl]
  by_cases hk:k = f
  ·rw [if_pos hk]
   subst hk
   exact ⟨by simp,fun g h => by simpa using h⟩
  ·rw [if_neg hk]
   refine ⟨?_,fun g h => ?_⟩
   ·rw [List.map_cons]
    exact List.mem_cons_of_mem _ i1
   ·rw [List.map_cons] at h ⊢
    rcases List.mem_cons.mp h with e | e
    ·exact List.mem_cons.mpr (.inl e)
    ·exact List.mem_cons_of_mem _ (i2 g e)
theorem length_putF (f:Str) (v:V):∀ fs:List (Str × V),(putF f v fs).length≤fs.length + 1
 | [] => by simp [putF]
 | (k,x) :: r => by
  have ih:=length_putF f v r
  rw [show putF f v ((k,x) :: r) = (if k = f then (k,v) :: r else (k,x) :: putF f v r) from rfl]
  by_cases hk:k = f
  ·rw [if_pos hk,List.length_cons,List.length_cons]; omega
  ·rw [if_neg hk,List.length_cons,List.length_cons]; omega
theorem RelO.some_of {v:V} {o:Option Value} (r:RelO (some v) o):∃ u,o = some u∧RelV v u:=by
 cases o with
 | none => exact (show False from r).elim
 | some u => exact ⟨u,rfl,r⟩
theorem RelO.none_of {o:Option Value} (r:RelO none o):o = none:=by
 cases o with
 | none => rfl
 | some u => exact (show False from r).elim
theorem handed_of {v:V} {u:Value} (r:RelV v u):PySem.W.handedIn u = true:=by
 cases v with
 | non => cases (show u = Value.none from r); rfl
 | bl b => cases (show u = Value.bool b from r); rfl
 | int i => obtain ⟨t,e⟩:=(show ∃ t,u = Value.int i t from r); cases e; rfl
 | str x => obtain ⟨t,e⟩:=(show ∃ t,u = Value.str x t from r); cases e; rfl
 | byt b => obtain ⟨t,e⟩:=(show ∃ t,u = Value.bytes b t from r); cases e; rfl
 | flt b => obtain ⟨t,e⟩:=(show ∃ t,u = Value.float b t from r); cases e; rfl
 | ref a => cases (show u = Value.ref a from r); rfl
 | ty n => cases (show u = Value.type n from r); rfl
section
variable {P:Program} {w:World} {H H':Hp} {h h':Heap} {a C dx:Addr} {fs fs':List (Str × V)}
theorem ins_get (hok:HOk P w H h) (e:H a = some (.ins C dx fs)):∃ mA,ObjM h a dx C mA∧(∀ f,RelO (fs.lookup f) (mA f))∧PySem.Within mA (fs.map (·.1))∧fs.length≤1000∧H dx = some (.own a):=by
 obtain ⟨d,z,ne,ob,mA,n,r,q⟩:=(show ObjOk P w H h a (.ins C dx fs) from hok a _ e)
 exact ⟨mA,⟨ob,n,ne⟩,r,q,z,d⟩
end
structure Cls (K:PySem.W.Frag) (C:Addr):Prop where
 pg:PySem.W.plainGet K C Str.empty = true
 hd:PySem.W.hasDictIn K C = true
 po:PySem.W.plainOver K C = true
 sa:PySem.W.findIn K (.ref C) "__setattr__" = some (some (.builtin "object.__setattr__"))
theorem Cls.get {K:PySem.W.Frag} {C:Addr} (c:Cls K C) (f:Str):PySem.W.plainGet K C f = true:=c.pg
def NoAttr (K:PySem.W.Frag) (C:Addr) (f:Str):Prop:=PySem.W.findIn K (.ref C) f = some none
theorem NoAttr.taker {K:PySem.W.Frag} {C:Addr} {f:Str} (n:NoAttr K C f):PySem.W.takerIn K C f = some none:=by
 unfold PySem.W.takerIn
 rw [show PySem.W.findIn K (.ref C) f = some none from n]
 rfl
structure Meth (K:PySem.W.Frag) (C:Addr) (m:Str) (f:Addr):Prop where
 at_:PySem.W.findIn K (.ref C) m = some (some (.ref f))
 fn:PySem.W.isFn K (.ref f) = true
 kp:PySem.W.keepIn K (.ref f) = true
section
variable {X:Cx} {pins:List (Addr × Obj)} {σ:St} {H:Hp} {s:Shared} {a C dx:Addr} {fs:List (Str × V)} {f:Str} {v:V} {A:Around} {E:Value→Shared→Prop}
theorem getattr_ok {b:Bool} {Q:Value→Shared→Prop} (I:Inv X pins σ H s) (e:H a = some (.ins C dx fs)) (c:Cls X.K C) (n:NoAttr X.K C f) (l:fs.lookup f = some v)
  (h:∀ u s',Inv X pins σ H s'→RelV v u→Q u s'):wpAny (model X.prog X.w) A (getAttr (.ref a) f b) Q E s:=by
 obtain ⟨mA,O,r,_,_,_⟩:=ins_get I.hok e
 obtain ⟨u,hu,ru⟩:=RelO.some_of (v:=v) (o:=mA f) (by rw [← l]; exact r f)
 exact get_map I.kIn O (c.get f) c.hd n hu (handed_of ru) (h u _ (I.tok _) ru)
theorem getmeth_ok {m:Str} {g:Addr} {pl:Sem Bool} {Q:Value × List Value→Shared→Prop} (I:Inv X pins σ H s) (e:H a = some (.ins C dx fs)) (c:Cls X.K C) (k:Meth X.K C m g) (l:fs.lookup m = none)
  (h:Q (.ref g,[.ref a]) s):wpAny (model X.prog X.w) A (getMethod (.ref a) m pl) Q E s:=by
 obtain ⟨mA,O,r,_,_,_⟩:=ins_get I.hok e
 have hn:mA m = none:=RelO.none_of (by rw [← l]; exact r m)
 exact get_meth I.kIn O (c.get m) k.at_ k.fn hn h
theorem setattr_ok {y:V} {u:Value} {Q:Unit→Shared→Prop} (I:Inv X pins σ H s) (e:H a = some (.ins C dx fs)) (c:Cls X.K C) (n:NoAttr X.K C f) (hl:fs.length < 1000) (ry:RelV y u)
  (h:∀ s',Inv X pins σ (upd H a (.ins C dx (putF f y fs))) s'→Q () s'):wpAny (model X.prog X.w) A (setAttr (.ref a) f u) Q E s:=by
 obtain ⟨mA,O,r,wi,_,ho⟩:=ins_get I.hok e
 have hz:(fs.map (·.1)).length≤sizeLine:=by rw [List.length_map,sizeLine_eq]; omega
 refine set_map I.kIn O c.sa c.po n.taker c.hd wi hz fun h' O' sb => h _ ?_
 have hd:∃ o,h'.get? dx = some o:=let ⟨o,_,_,e',_⟩:=O'.ns; ⟨o,e'⟩
 refine I.write (x:=a) (e:=dx) (by rw [e]; exact True.intro) (.inr ho) (fun b q hb z => (sb.2 b hb).trans z) hd ?_
 refine ⟨by rw [upd_ne O.ne]; exact ho,?_,O.ne,O'.obj,_,O'.ns,fun g => ?_,fun g hg => ?_⟩
 ·have:=length_putF f y fs; omega
 ·show RelO ((putF f y fs).lookup g) (if g = f then some u else mA g)
  rw [lookup_putF]
  by_cases q:g = f
  ·rw [if_pos q,if_pos q]; exact ry
  ·rw [if_neg q,if_neg q]; exact r g
 ·by_cases q:g = f
  ·rw [q]; exact (keys_putF f y fs).1
  ·refine (keys_putF f y fs).2 g (wi g fun z => hg ?_)
   show (if g = f then some u else mA g) = none
   rw [if_neg q]; exact z
theorem Inv.made (I:Inv X pins σ H s):Inv X pins σ (upd (upd H s.heap.objs.size (.own (s.heap.objs.size + 1))) (s.heap.objs.size + 1) (.ins C s.heap.objs.size []))
  { s with heap:=(s.heap.push PySem.W.emptyDict).push (PySem.W.instObj C s.heap.objs.size) }:=by
 have e1:(s.heap.push PySem.W.emptyDict).get? s.heap.objs.size = some PySem.W.emptyDict:=Heap.get?_push_size s.heap rfl
 have e2:((s.heap.push PySem.W.emptyDict).push (PySem.W.instObj C s.heap.objs.size)).get? (s.heap.objs.size + 1) = some (PySem.W.instObj C s.heap.objs.size):=by
  have:=Heap.get?_push_size (s.heap.push PySem.W.emptyDict) (o:=PySem.W.instObj C s.heap.objs.size) rfl
  rwa [Heap.size_push] at this
 have e3:(s.heap.push PySem.W.emptyDict).Ns s.heap.objs.size (fun _ => none):=⟨PySem.W.emptyDict,#[],_,e1,rfl,(fun e he => absurd he (by simp)),fun _ => rfl⟩
 have I1:=I.laid (a:=s.heap.objs.size) (o:=.own (s.heap.objs.size + 1)) (h':=s.heap.push PySem.W.emptyDict) (t':=s.toks) (fun b u q => Heap.get?_push_of_some _ q) (Nat.le_refl _) ⟨_,e1⟩
 refine I1.laid (a:=s.heap.objs.size + 1) (o:=.ins C s.heap.objs.size []) (t':=s.toks) (fun b u q => Heap.get?_push_of_some _ q) (Nat.le_of_eq (Heap.size_push _ _)) ?_
 have ne:s.heap.objs.size≠s.heap.objs.size + 1:=Nat.ne_of_lt (Nat.lt_succ_self _)
 refine ⟨by rw [upd_ne ne,upd_same],Nat.zero_le _,ne,e2,fun _ => none,(Heap.Ns1.of_empty e3).at fun o q => Heap.get?_push_of_some _ q,fun _ => True.intro,fun y hy => absurd rfl hy⟩
theorem attr_of {prog:Program} {w:World} {env:Env} {e:Expr} {f:Str} {pos:Pos} {s:Shared} {Q:Value→Shared→Prop} (hb:attributeBase e f env (eval e env) = eval e env)
  (h:wpAny (model prog w) A (eval e env) (fun o s₁ => wpAny (model prog w) A (getAttr o f true) Q E s₁) E s):wpAny (model prog w) A (eval (.Attribute e f pos) env) Q E s :=
 Attribute_any_ h (by rw [arm_eval_Attribute,hb])
end
def tFld (K:PySem.W.Frag) (ta:TE) (f:Str):TE:=fun σ H Q => ta σ H fun x H1 => ∃ a C dx fs v,x = .ref a∧H1 a = some (.ins C dx fs)∧Cls K C∧NoAttr K C f∧fs.lookup f = some v∧Q v H1
def sFld (K:PySem.W.Frag) (ta tv:TE) (f:Str):TS:=fun D σ H => tv σ H fun y H1 => ta σ H1 fun x H2 => ∃ a C dx fs,x = .ref a∧H2 a = some (.ins C dx fs)∧Cls K C∧NoAttr K C f∧fs.length < 1000 ∧
 D.nx σ (upd H2 a (.ins C dx (putF f y fs)))
section
variable {X:Cx} {o e value:Expr} {f:Str} {pos pos' tpos:Pos} {ta tv:TE}
theorem pe_fld (he:PE X e ta) (hb:attributeBase e f X.env (eval e X.env) = eval e X.env):PE X (.Attribute e f pos) (tFld X.K ta f):=by
 intro pins s σ H Q I h
 refine attr_of hb (thn (he pins s σ H _ I h) fun u s1 ⟨x,H1,I1,rx,a,C,dx,fs,v,ex,ea,c,n,l,q⟩ => ?_)
 subst ex
 obtain rfl:u = Value.ref a:=rx
 exact getattr_ok I1 ea c n l fun u' s2 I2 ru => ⟨v,H1,I2,ru,q⟩
theorem ps_fld (ha:PE X o ta) (hv:PE X value tv) (hs:swapsWith value (some (.Attribute o f pos')) pos.line X.env = pure false):PS X (.Assign [.Attribute o f pos'] value pos) (sFld X.K ta tv f):=by
 intro pins s σ H D I h
 refine plainObj_wpAny_Assign_Attribute (thn (hv pins s σ H _ I h) fun u s1 ⟨y,H1,I1,ry,q⟩ => thn (ha pins s1 σ H1 _ I1 q) fun ov s2 ⟨x,H2,I2,rx,a,C,dx,fs,ex,ea,c,n,l,q2⟩ => ?_) hs
 subst ex
 obtain rfl:ov = Value.ref a:=rx
 exact setattr_ok I2 ea c n l ry fun s3 I3 => ⟨σ,_,I3,q2⟩
theorem methcall_of {pl:Sem Bool} {m:Str} {apos:Pos} {args:List Expr} {pins:List (Addr × Obj)} {s:Shared} {σ:St} {H:Hp} {Q:Value→Shared→Prop} {te:TE} (he:PE X e te) (I:Inv X pins σ H s)
  (h:te σ H fun x H1 => ∃ a C dx fs g,x = .ref a∧H1 a = some (.ins C dx fs)∧Cls X.K C∧Meth X.K C m g∧fs.lookup m = none ∧
   ∀ s1,Inv X pins σ H1 s1→wpAny (model X.prog X.w) X.A (callWith pos (.ref g) [.ref a] (backTo pos (starEach args X.env)) (backToKw pos (keywordEach [] X.env))) Q X.xe s1)
  (ht:eval (.Call (.Attribute e m apos) args [] pos) X.env = (do
   let ov ← eval e X.env
   standAt apos.atName
   let (f,first) ← holding [ov] (getMethod ov m pl)
   callWith pos f first (backTo pos (starEach args X.env)) (backToKw pos (keywordEach [] X.env)))) :
  wpAny (model X.prog X.w) X.A (eval (.Call (.Attribute e m apos) args [] pos) X.env) Q X.xe s:=by
 refine PySem.W.methodCall_KW (pl:=pl) (thn (he pins s σ H _ I h) fun u s1 ⟨x,H1,I1,rx,a,C,dx,fs,g,ex,ea,c,k,l,q⟩ => ?_) ht
 subst ex
 obtain rfl:u = Value.ref a:=rx
 exact getmeth_ok I1 ea c k l (q s1 I1)
end
section
variable {X:Cx} {pins:List (Addr × Obj)} {σ:St} {H:Hp} {s:Shared} {A:Around} {E:Value→Shared→Prop} {Q:Value→Shared→Prop} {c:Value} {b:Bool}
inductive TyOf (K:PySem.W.Frag) (H:Hp):V→Value→Prop where
 | non:TyOf K H .non (.type "NoneType")
 | bl (x:Bool):TyOf K H (.bl x) (.type "bool")
 | int (i:Int):TyOf K H (.int i) (.type "int")
 | str (x:Str):TyOf K H (.str x) (.type "str")
 | flt (x:UInt64):TyOf K H (.flt x) (.type "float")
 | lst {a:Addr} {xs:List V} (e:H a = some (.lst xs)):TyOf K H (.ref a) (.type "list")
 | frz {a:Addr} {o:Obj} {xs:List V} (e:H a = some (.frz o (.lst xs))):TyOf K H (.ref a) (.type "list")
 | tup {a:Addr} {xs:List V} (e:H a = some (.tup xs)):TyOf K H (.ref a) (.type "tuple")
 | dK {a:Addr} {kvs:List (Key × V)} (e:H a = some (.dK kvs)):TyOf K H (.ref a) (.type "dict")
 | dT {a:Addr} {kvs:List (List Key × V)} (e:H a = some (.dT kvs)):TyOf K H (.ref a) (.type "dict")
 | ins {a C dx:Addr} {fs:List (Str × V)} (e:H a = some (.ins C dx fs)) (cl:Cls K C) (ha:PySem.W.findIn K (.ref C) "__class__" = some (some (.builtin "object.__class__")))
   (hn:PySem.W.specialIn K (.builtin "object.__class__") "__get__" = some (some (.builtin "getset_descriptor.__get__"))) (htk:PySem.W.takesIn K (.builtin "object.__class__") = some true)
   (hm:PySem.W.mroIn K C (.type "object") = some true):TyOf K H (.ref a) (.ref C)
theorem isinst_ok {x:V} {u t:Value} (I:Inv X pins σ H s) (rx:RelV x u) (ty:TyOf X.K H x t) (e:PySem.W.kitOne X.K t c = some b) (h:∀ tk,Q (.bool b) { s with toks:=tk }) :
  wpAny (model X.prog X.w) A (call (.builtin "isinstance") [u,c]) Q E s:=by
 cases ty with
 | non => cases (show u = Value.none from rx); exact PySem.W.kia_one PySem.W.kitx_none I.kIn True.intro e (fun z => nomatch z) h
 | bl y => cases (show u = Value.bool y from rx); exact PySem.W.kia_one PySem.W.kitx_bool I.kIn True.intro e (fun z => nomatch z) h
 | int i => obtain ⟨t,q⟩:=(show ∃ t,u = Value.int i t from rx); cases q; exact PySem.W.kia_one PySem.W.kitx_int I.kIn True.intro e (fun z => nomatch z) h
 | str y => obtain ⟨t,q⟩:=(show ∃ t,u = Value.str y t from rx); cases q; exact PySem.W.kia_one PySem.W.kitx_str I.kIn True.intro e (fun z => nomatch z) h
 | flt y => obtain ⟨t,q⟩:=(show ∃ t,u = Value.float y t from rx); cases q; exact PySem.W.kia_one PySem.W.kitx_float I.kIn True.intro e (fun z => nomatch z) h
 | @lst a xs ea =>
  cases (show u = Value.ref a from rx)
  obtain ⟨_,_,n,_,h1⟩:=(show ObjOk X.prog X.w H s.heap a (.lst xs) from I.hok a _ ea)
  exact PySem.W.kia_one PySem.W.kitx_list I.kIn ⟨_,h1,rfl⟩ e (fun z => nomatch z) h
 | @frz a ob xs ea =>
  cases (show u = Value.ref a from rx)
  obtain ⟨_,_,_,n,_,h1⟩:=(show ObjOk X.prog X.w H s.heap a (.frz ob (.lst xs)) from I.hok a _ ea)
  exact PySem.W.kia_one PySem.W.kitx_list I.kIn ⟨_,h1,rfl⟩ e (fun z => nomatch z) h
 | @tup a xs ea =>
  cases (show u = Value.ref a from rx)
  obtain ⟨_,_,_,p⟩:=(show ObjOk X.prog X.w H s.heap a (.tup xs) from I.hok a _ ea)
  obtain ⟨o,h1,h2,_⟩:=p
  exact PySem.W.kia_one PySem.W.kitx_tuple I.kIn ⟨o,h1,h2⟩ e (fun z => nomatch z) h
 | @dK a kvs ea =>
  cases (show u = Value.ref a from rx)
  obtain ⟨_,_,vs,_,p⟩:=(show ObjOk X.prog X.w H s.heap a (.dK kvs) from I.hok a _ ea)
  obtain ⟨o,es,ep,h1,h2,_⟩:=p
  exact PySem.W.kia_one PySem.W.kitx_dict I.kIn ⟨o,h1,h2.1⟩ e (fun z => nomatch z) h
 | @dT a kvs ea =>
  cases (show u = Value.ref a from rx)
  obtain ⟨_,_,xs,_,o,es,ep,h1,h2,_⟩:=(show ObjOk X.prog X.w H s.heap a (.dT kvs) from I.hok a _ ea)
  exact PySem.W.kia_one PySem.W.kitx_dict I.kIn ⟨o,h1,h2.1⟩ e (fun z => nomatch z) h
 | @ins a C dx fs ea cl ha hn htk hm =>
  cases (show u = Value.ref a from rx)
  obtain ⟨mA,O,_⟩:=ins_get I.hok ea
  obtain ⟨od,J,_⟩:=O.look
  exact PySem.W.kia_one (PySem.W.kitx_own (cl.get _) cl.hd ha hn htk hm) I.kIn J e (fun z => nomatch z) h
end
end L2
namespace L2
open PySem PySem.Spec PyProof.Rows
structure RoomC (c:Bool) (k:Nat) (A:Around):Prop where
 hd:c = true→A.handled = none
 dp:A.depth + 3 * k + 5 < recursionLimit
 un:A.units + 16 * k + 200 < cLine
abbrev Room:=RoomC true
theorem RoomC.mono {c c':Bool} {j k:Nat} {A:Around} (r:RoomC c k A) (h:j≤k) (hc:c' = true→c = true:=by decide):RoomC c' j A:=⟨fun z => r.hd (hc z),by have:=r.dp; omega,by have:=r.un; omega⟩
theorem RoomC.deeper {c:Bool} {k:Nat} {A:Around} (r:RoomC c (k + 1) A) (env:Env):RoomC c k (A.deeper env) :=
 ⟨r.hd,by have:=r.dp; show A.depth + 1 + 3 * k + 5 < _; omega,by have:=r.un; show A.units + 3 + 16 * k + 200 < _; omega⟩
theorem make_depth {A:Around} {C:Addr} {us:List Value} {kw:List (Str × Value)}:(A.under (.builtin "type.__call__" ⟨.ref C :: us,kw⟩)).depth = A.depth + 1:=by
 first | rfl | simp [Around.under,Code.weight,Code.isCreation,Code.isGuard,Code.isCaller,Code.frames,Code.isFrame,guardIds]
theorem make_units {A:Around} {C:Addr} {us:List Value} {kw:List (Str × Value)}:(A.under (.builtin "type.__call__" ⟨.ref C :: us,kw⟩)).units = A.units + 1:=by
 first | rfl | simp [Around.under,Code.cUnits,Code.frames,Code.isFrame]
theorem RoomC.make {c:Bool} {k:Nat} {A:Around} (r:RoomC c (k + 1) A) (C:Addr) (us:List Value) (kw:List (Str × Value)):RoomC c k (A.under (.builtin "type.__call__" ⟨.ref C :: us,kw⟩)) :=
 ⟨r.hd,by have:=r.dp; rw [make_depth]; omega,by have:=r.un; rw [make_units]; omega⟩
theorem RoomC.depth {c:Bool} {k:Nat} {A:Around} (r:RoomC c k A):A.depth < recursionLimit:=by have:=r.dp; omega
theorem RoomC.units {c:Bool} {k:Nat} {A:Around} (r:RoomC c k A):A.units + 64 < cLine:=by have:=r.un; omega
def tNil:TA:=fun _ H Q => Q [] H
def tCons (ta:TE) (tr:TA):TA:=fun σ H Q => ta σ H fun x H1 => tr σ H1 fun xs H2 => Q (x :: xs) H2
section
variable {X:Cx} {e:Expr} {es:List Expr} {te:TE} {t:TA} {pos:Pos}
theorem pa_nil:PA X [] tNil:=fun _ _ _ _ H Q I h => Calls.spliced_nil ⟨[],H,I,.nil,h⟩
theorem pa_cons (ha:PE X e te) (hr:PA X es t) (hs:starEach (e :: es) X.env = (false,eval e X.env) :: starEach es X.env:=by rfl):PA X (e :: es) (tCons te t):=by
 intro pos pins s σ H Q I h
 rw [hs]
 show wpAny _ _ (spliced ((false,eval e X.env) :: backTo pos (starEach es X.env))) _ _ s
 refine Calls.spliced_cons (thn (ha pins s σ H _ I h) fun u s1 ⟨x,H1,I1,r1,q1⟩ => ?_)
 exact thn (hr pos pins s1 σ H1 _ I1 q1) fun us s2 ⟨xs,H2,I2,r2,q2⟩ => ⟨x :: xs,H2,I2,.cons r1 r2,q2⟩
def tTup (t:TA):TE:=fun σ H Q => t σ H fun xs H1 => xs.length≤sizeLine∧∀ p,H1 p = none→Q (.ref p) (upd H1 p (.tup xs))
def tLst (t:TA):TE:=fun σ H Q => t σ H fun xs H1 => xs.length≤sizeLine∧∀ p,H1 p = none→Q (.ref p) (upd H1 p (.lst xs))
theorem pe_tup {x1} (h:PA X es t):PE X (.Tuple es x1 pos) (tTup t):=by
 intro pins s σ H Q I hq
 refine wpAny_Tuple_spliced (thn (h pos pins s σ H _ I hq) fun us s1 ⟨xs,H1,I1,r,z,q⟩ => ⟨by rw [← r.length]; exact z,?_⟩)
 have hf:H1 s1.heap.objs.size = none:=I1.hok.fresh (Nat.le_refl _)
 refine ⟨.ref s1.heap.objs.size,upd H1 s1.heap.objs.size (.tup xs),I1.laid (t':=s1.toks) (fun b u e => Heap.get?_push_of_some _ e) (Nat.le_refl _) ?_,rfl,q _ hf⟩
 exact ⟨z,us,r,⟨_,Heap.get?_push_size _ rfl,rfl,_,rfl⟩⟩
theorem pe_lst (h:PA X es t):PE X (.List es pos) (tLst t):=by
 intro pins s σ H Q I hq
 refine wpAny_List_spliced (thn (h pos pins s σ H _ I hq) fun us s1 ⟨xs,H1,I1,r,z,q⟩ => ⟨by rw [← r.length]; exact z,?_⟩)
 have hf:H1 s1.heap.objs.size = none:=I1.hok.fresh (Nat.le_refl _)
 refine ⟨.ref s1.heap.objs.size,upd H1 s1.heap.objs.size (.lst xs),I1.laid (t':=s1.toks) (fun b u e => Heap.get?_push_of_some _ e) (Nat.le_refl _) ?_,rfl,q _ hf⟩
 exact ⟨z,us,0,r,Heap.get?_push_size _ rfl⟩
end
abbrev Sp:=List V→Hp→VK→XK→Prop
abbrev CXT:=List Env→Hp→Shared→XK→Value→Shared→Prop
structure Env0 (P:Program) (w:World) (K:PySem.W.Frag) (mg:Str→Option Value) (base:Heap) (A:Around) (outer:List Env) (s:Shared) (H:Hp):Prop where
 frames:A.frames = some outer
 mod:Mod K mg base
 bs:∀ b o,base.get? b = some o→s.heap.get? b = some o∧H b = none
 bsz:base.objs.size≤s.heap.objs.size
 funs:s.heap.FunFrames base outer
 frf:∀ b∈frs outer,H b = none
 hok:HOk P w H s.heap
 bare:AllBare s.gens
 hn:HdF A H
def CE (outer:List Env) (P:Program) (w:World) (H:Hp) (s:Shared) (Q:VK) (u:Value) (s':Shared):Prop :=
 ∃ v H',s'.os = s.os∧AllBare s'.gens∧Un (frs outer) [] H H' s.heap s'.heap∧HOk P w H' s'.heap∧RelV v u∧Q v H'
def CR (CX:CXT) (outer:List Env) (P:Program) (w:World) (H:Hp) (s:Shared) (Q:VK) (E:XK) (r:Result) (s':Shared):Prop :=
 match r with
 | .ok (.ret u) => CE outer P w H s Q u s'
 | .ok _ => False
 | .error e => CX outer H s E e s'
structure FnOk (P:Program) (w:World) (K:PySem.W.Frag) (mg:Str→Option Value) (base:Heap) (CX:CXT) (k:Nat) (f:Addr) (fd:FuncData) (ps:List Str) (sp:Sp) (c:Bool:=true):Prop where
 len:∀ vs H Q E,sp vs H Q E→vs.length = ps.length
 run:∀ (A:Around) (outer:List Env) (s:Shared) (H:Hp) (args:Args) (us:List Value) (vs:List V) (Q:VK) (E:XK),RoomC c k A→Env0 P w K mg base A outer s H→BindsTo s fd args (ps.zip us)→Vals vs us→sp vs H Q E →
  codeAny (model P w) A (.call (.ref f) args) (CR CX outer P w H s Q E) s
theorem Env0.make {P:Program} {w:World} {K:PySem.W.Frag} {mg:Str→Option Value} {base:Heap} {A:Around} {outer:List Env} {s:Shared} {H:Hp} (e:Env0 P w K mg base A outer s H) (C:Addr) (us:List Value) (kw:List (Str × Value)) :
  Env0 P w K mg base (A.under (.builtin "type.__call__" ⟨.ref C :: us,kw⟩)) outer s H:=⟨by first | exact e.frames | (simpa [Around.under,Code.envs,Code.isFrame,pushEnvs] using e.frames),e.mod,e.bs,e.bsz,e.funs,e.frf,e.hok,e.bare,e.hn⟩
section
variable {X:Cx} {pins:List (Addr × Obj)} {σ:St} {H:Hp} {s s':Shared}
theorem Inv.env0 (I:Inv X pins σ H s):Env0 X.prog X.w X.K X.mg X.base X.A X.stack s H :=
 ⟨I.ok.frames,I.ok.mod,I.bs,Nat.le_trans I.ok.bsz I.sz,I.stack,I.stkFree,I.hok,I.bare,I.hn⟩
theorem Inv.after {Q:VK} {u:Value} (I:Inv X pins σ H s) (h:CE X.stack X.prog X.w H s Q u s'):EP X pins σ Q u s':=by
 obtain ⟨v,H',os,bare,un,hok,r,q⟩:=h
 obtain ⟨hh,g,d,t,os'⟩:=s'
 obtain rfl:os' = s.os:=os
 exact ⟨v,H',I.call (h':=hh) (g':=g) (d':=d) (t':=t) (ch:=[]) un hok bare (fun b z => absurd z (by simp)),r,q⟩
end
def tCall (sp:Sp) (dvs:List V) (E:XK) (t:TA):TE:=fun σ H Q => t σ H fun vs H1 => sp (vs ++ dvs) H1 Q E
def tMeth (C:Addr) (m:Str) (sp:Sp) (dvs:List V) (E:XK) (ta:TE) (t:TA):TE:=fun σ H Q => ta σ H fun x H1 => ∃ a dx fs,x = .ref a∧H1 a = some (.ins C dx fs)∧fs.lookup m = none ∧
 t σ H1 fun vs H2 => sp (x :: (vs ++ dvs)) H2 Q E
def tMake (C:Addr) (sp:Sp) (dvs:List V) (E:XK) (t:TA):TE:=fun σ H Q => t σ H fun vs H1 => ∀ x dx,H1 x = none→H1 dx = none→dx≠x →
 sp (.ref x :: (vs ++ dvs)) (upd (upd H1 dx (.own x)) x (.ins C dx [])) (fun v H2 => v = .non∧Q (.ref x) H2) E
def Binds (K:PySem.W.Frag) (fd:FuncData) (ps:List Str) (ds:List Value):Prop :=
 ∀ (s:Shared) (us:List Value),K.In s.heap→(us ++ ds).length = ps.length→BindsTo s fd ⟨us,[]⟩ (ps.zip (us ++ ds))
theorem Binds.all {K:PySem.W.Frag} {fd:FuncData} {ps:List Str} (h:∀ us:List Value,us.length = ps.length→bindArgs fd ⟨us,[]⟩ = pure (ps.zip us)):Binds K fd ps []:=fun s us _ hl => by
 rw [List.append_nil] at hl ⊢
 exact .of_eq (h us hl)
def Passes (CX:CXT) (X:Cx) (E:XK):Prop:=∀ (pins:List (Addr × Obj)) (σ:St) (H:Hp) (s:Shared) (e:Value) (s':Shared),Inv X pins σ H s→CX X.stack H s E e s'→X.xe e s'
section
variable {X:Cx} {CX:CXT} {k:Nat} {f C:Addr} {fd:FuncData} {ps:List Str} {sp:Sp} {dvs:List V} {ds:List Value} {E:XK} {x m:Str} {p pos apos:Pos} {e o:Expr} {es:List Expr} {ta:TE} {t:TA}
theorem run_fn {pins:List (Addr × Obj)} {σ:St} {H:Hp} {s:Shared} {Q:VK} {us:List Value} {vs:List V} {cm:Bool} (F:FnOk X.prog X.w X.K X.mg X.base CX k f fd ps sp cm) (hr:RoomC cm k X.A) (hb:Binds X.K fd ps ds) (hd:Vals dvs ds) (hx:Passes CX X E)
  (I:Inv X pins σ H s) (r:Vals vs us) (h:sp (vs ++ dvs) H Q E):wpAny (model X.prog X.w) X.A (call (.ref f) us) (EP X pins σ Q) X.xe s:=by
 have r2:Vals (vs ++ dvs) (us ++ ds):=r.append hd
 have hl:(us ++ ds).length = ps.length:=by rw [← r2.length]; exact F.len _ _ _ _ h
 refine wpAny_call (codeAny_mono (F.run X.A X.stack s H ⟨us,[]⟩ (us ++ ds) (vs ++ dvs) Q E hr I.env0 (hb s us I.kIn hl) r2 h) fun r s' hq => ?_)
 cases r with
 | error e => exact hx pins σ H s e s' I hq
 | ok fl =>
  cases fl with
  | ret u => exact I.after hq
  | next => exact False.elim hq
  | brk => exact False.elim hq
  | cont => exact False.elim hq
theorem pe_call {cm:Bool} (F:FnOk X.prog X.w X.K X.mg X.base CX k f fd ps sp cm) (hr:RoomC cm k X.A) (hg:Gl X x) (hm:X.mg x = some (.ref f)) (hk:PySem.W.keepIn X.K (.ref f) = true) (hb:Binds X.K fd ps ds) (hd:Vals dvs ds) (hx:Passes CX X E)
  (ha:PA X (e :: es) t) (hdb:(x == ("__debug__":Str)) = false:=by decide) (he:starEach (e :: es) X.env = (false,eval e X.env) :: starEach es X.env:=by rfl) (hpl:(backTo pos (starEach es X.env)).any (·.1) = false:=by rfl) :
  PE X (.Call (.Name x p) (e :: es) [] pos) (tCall sp dvs E t):=by
 intro pins s σ H Q I h
 refine wpAny_Call_Name_kw (ld_glob I hg hm ?_ hdb)
 refine PySem.W.callWith_K (h₀:=X.base) I.ok.mod.kin hk (thn (ha pos pins s σ H _ I h) fun us s1 ⟨vs,H1,I1,r,q⟩ => ⟨I1.kIn,?_⟩) he hpl
 exact run_fn F hr hb hd hx I1 r q
theorem pe_meth {pl:Sem Bool} (he:PE X o ta) (c:Cls X.K C) (hm:Meth X.K C m f) {cm:Bool} (F:FnOk X.prog X.w X.K X.mg X.base CX k f fd ps sp cm) (hr:RoomC cm k X.A) (hb:Binds X.K fd ps ds) (hd:Vals dvs ds) (hx:Passes CX X E) (ha:PA X (e :: es) t)
  (hst:starEach (e :: es) X.env = (false,eval e X.env) :: starEach es X.env:=by rfl) (hpl:(backTo pos (starEach es X.env)).any (·.1) = false:=by rfl)
  (ht:eval (.Call (.Attribute o m apos) (e :: es) [] pos) X.env = (do
   let ov ← eval o X.env
   standAt apos.atName
   let (f,first) ← holding [ov] (getMethod ov m pl)
   callWith pos f first (backTo pos (starEach (e :: es) X.env)) (backToKw pos (keywordEach [] X.env))):=by rfl) :
  PE X (.Call (.Attribute o m apos) (e :: es) [] pos) (tMeth C m sp dvs E ta t):=by
 intro pins s σ H Q I h
 refine PySem.W.methodCall_KW (pl:=pl) (thn (he pins s σ H _ I h) fun u s1 ⟨x,H1,I1,rx,a,dx,fs,ex,ea,l,q⟩ => ?_) ht
 subst ex
 obtain rfl:u = Value.ref a:=rx
 refine getmeth_ok I1 ea c hm l ?_
 refine PySem.W.callWith_K (first:=[.ref a]) (h₀:=X.base) I.ok.mod.kin hm.kp (thn (ha pos pins s1 σ H1 _ I1 q) fun us s2 ⟨vs,H2,I2,r,q2⟩ => ⟨I2.kIn,?_⟩) hst hpl
 exact run_fn (us:=.ref a :: us) (vs:=.ref a :: vs) F hr hb hd hx I2 (.cons rfl r) q2
structure Mk (K:PySem.W.Frag) (C f:Addr):Prop where
 makes:PySem.W.makesIn K C = true
 init:PySem.W.findIn K (.ref C) "__init__" = some (some (.ref f))
 fn:PySem.W.isFn K (.ref f) = true
 kp:PySem.W.keepIn K (.ref C) = true
theorem run_make {pins:List (Addr × Obj)} {σ:St} {H:Hp} {s:Shared} {Q:VK} {us:List Value} {vs:List V} (M:Mk X.K C f) (F:FnOk X.prog X.w X.K X.mg X.base CX k f fd ps sp) (hr:Room (k + 1) X.A) (hb:Binds X.K fd ps ds) (hd:Vals dvs ds)
  (hx:Passes CX X E) (I:Inv X pins σ H s) (r:Vals vs us)
  (h:∀ x dx,H x = none→H dx = none→dx≠x→sp (.ref x :: (vs ++ dvs)) (upd (upd H dx (.own x)) x (.ins C dx [])) (fun v H2 => v = .non∧Q (.ref x) H2) E) :
  wpAny (model X.prog X.w) X.A (call (.ref C) us) (EP X pins σ Q) X.xe s:=by
 have hq:=h (s.heap.objs.size + 1) s.heap.objs.size (I.hok.fresh (Nat.le_succ _)) (I.hok.fresh (Nat.le_refl _)) (Nat.ne_of_lt (Nat.lt_succ_self _))
 have I2:=Inv.made (C:=C) I
 have r2:Vals (V.ref (s.heap.objs.size + 1) :: (vs ++ dvs)) (Value.ref (s.heap.objs.size + 1) :: (us ++ ds)):=.cons rfl (r.append hd)
 have hl:(Value.ref (s.heap.objs.size + 1) :: us ++ ds).length = ps.length:=by
  have e:=r2.length
  rw [F.len _ _ _ _ hq] at e
  exact e.symm
 refine wpAny_call (make_map (f:=f) I.kIn M.makes M.init (beq_iff_eq.mp M.fn) (codeAny_mono (F.run _ X.stack _ _ ⟨Value.ref (s.heap.objs.size + 1) :: us,[]⟩ (Value.ref (s.heap.objs.size + 1) :: (us ++ ds)) _ _ E (hr.make C us [])
  (I2.env0.make C us []) (hb _ (Value.ref (s.heap.objs.size + 1) :: us) I2.kIn hl) r2 hq) fun r s' hq' => ?_))
 cases r with
 | error e => exact hx pins σ _ _ e s' I2 hq'
 | ok fl =>
  cases fl with
  | ret u =>
   obtain ⟨v,H',I3,rv,ev,q3⟩:=I2.after hq'
   subst ev
   exact ⟨rv,⟨V.ref (s.heap.objs.size + 1),H',I3,rfl,q3⟩⟩
  | next => exact False.elim hq'
  | brk => exact False.elim hq'
  | cont => exact False.elim hq'
theorem pe_make (M:Mk X.K C f) (F:FnOk X.prog X.w X.K X.mg X.base CX k f fd ps sp) (hr:Room (k + 1) X.A) (hg:Gl X x) (hm:X.mg x = some (.ref C)) (hb:Binds X.K fd ps ds) (hd:Vals dvs ds) (hx:Passes CX X E)
  (ha:PA X (e :: es) t) (hdb:(x == ("__debug__":Str)) = false:=by decide) (he:starEach (e :: es) X.env = (false,eval e X.env) :: starEach es X.env:=by rfl) (hpl:(backTo pos (starEach es X.env)).any (·.1) = false:=by rfl) :
  PE X (.Call (.Name x p) (e :: es) [] pos) (tMake C sp dvs E t):=by
 intro pins s σ H Q I h
 refine wpAny_Call_Name_kw (ld_glob I hg hm ?_ hdb)
 refine PySem.W.callWith_K (h₀:=X.base) I.ok.mod.kin M.kp (thn (ha pos pins s σ H _ I h) fun us s1 ⟨vs,H1,I1,r,q⟩ => ⟨I1.kIn,?_⟩) he hpl
 exact run_make M F hr hb hd hx I1 r q
end
section
variable {X:Cx} {CX:CXT} {k:Nat} {f C:Addr} {fd:FuncData} {ps ks:List Str} {sp:Sp} {E:XK} {x m:Str} {p pos apos kpos:Pos} {e o:Expr} {es:List Expr} {kws:List Keyword} {te ta:TE} {t tk:TA} {nm:Option Str}
variable {g:List Value→List Value→List Value} {gV:List V→List V→List V}
end
structure FnScope (N P:List Str) (sc:Scope):Prop where
 kind:sc.kind = .function
 co:sc.isCoroutine = false
 gen:sc.isGenerator = false
 nd:N.Nodup
 pre:N.take P.length = P
 par:∀ x∈P,sc.names.lookup x = some .local∨sc.names.lookup x = some .cell
 nofree:∀ y∈sc.names,y.2≠.free
theorem bindL_out {kindOf:Str→Option NameKind} {x:Str}:∀ {binds:List (Str × Value)} {m:Str→Option Value},(∀ v,(x,v) ∉ binds)→bindL kindOf binds m x = m x
 | [],_,_ => rfl
 | (n,v) :: r,m,h => by
  unfold bindL
  rw [bindL_out fun w hw => h w (List.mem_cons_of_mem _ hw)]
  split
  ·have:x≠n:=by rintro rfl; exact h v List.mem_cons_self
   simp [this]
  ·rfl
theorem bindC_out {kindOf:Str→Option NameKind} {x:Str}:∀ {binds:List (Str × Value)} {m:Str→Option Value},(∀ v,(x,v) ∉ binds)→bindC kindOf binds m x = m x
 | [],_,_ => rfl
 | (n,v) :: r,m,h => by
  unfold bindC
  rw [bindC_out fun w hw => h w (List.mem_cons_of_mem _ hw)]
  split
  ·rfl
  ·have:x≠n:=by rintro rfl; exact h v List.mem_cons_self
   simp [this]
theorem bindL_get {kindOf:Str→Option NameKind} {x:Str} {v:Value}:∀ {P:List Str} {vs:List Value} {i:Nat} {m:Str→Option Value},P.Nodup→P[i]? = some x→vs[i]? = some v→kindOf x = some .local →
  bindL kindOf (P.zip vs) m x = some v
 | [],_,_,_,_,h,_,_ => by simp at h
 | _ :: _,[],_,_,_,_,h,_ => by simp at h
 | p :: P,w :: vs,0,m,nd,h1,h2,hk => by
  simp at h1 h2; subst h1; subst h2
  show bindL kindOf ((p,w) :: P.zip vs) m p = _
  unfold bindL
  rw [bindL_out fun v hv => (List.nodup_cons.mp nd).1 (List.of_mem_zip hv).1,if_pos hk]
  simp
 | p :: P,w :: vs,i + 1,m,nd,h1,h2,hk => by
  show bindL kindOf ((p,w) :: P.zip vs) m x = _
  unfold bindL
  exact bindL_get (i:=i) (List.nodup_cons.mp nd).2 (by simpa using h1) (by simpa using h2) hk
theorem bindC_get {kindOf:Str→Option NameKind} {x:Str} {v:Value}:∀ {P:List Str} {vs:List Value} {i:Nat} {m:Str→Option Value},P.Nodup→P[i]? = some x→vs[i]? = some v→kindOf x≠some .local →
  bindC kindOf (P.zip vs) m x = some v
 | [],_,_,_,_,h,_,_ => by simp at h
 | _ :: _,[],_,_,_,_,h,_ => by simp at h
 | p :: P,w :: vs,0,m,nd,h1,h2,hk => by
  simp at h1 h2; subst h1; subst h2
  show bindC kindOf ((p,w) :: P.zip vs) m p = _
  unfold bindC
  rw [bindC_out fun v hv => (List.nodup_cons.mp nd).1 (List.of_mem_zip hv).1,if_neg hk]
  simp
 | p :: P,w :: vs,i + 1,m,nd,h1,h2,hk => by
  show bindC kindOf ((p,w) :: P.zip vs) m x = _
  unfold bindC
  exact bindC_get (i:=i) (List.nodup_cons.mp nd).2 (by simpa using h1) (by simpa using h2) hk
def start (N:List Str) (vs:List V):St:=vs.map some ++ List.replicate (N.length - vs.length) none
def cxOf (CX:CXT) (P:Program) (w:World) (K:PySem.W.Frag) (mg:Str→Option Value) (base:Heap) (N:List Str) (qual:Str) (scope:Scope) (f:Addr) (cd:Value) (A:Around) (outer:List Env) (s:Shared) (H:Hp) (E:XK) (c:Bool:=true):Cx where
 prog:=P
 w:=w
 K:=K
 mg:=mg
 base:=base
 A:=A.deeper (envOfC qual scope s.heap.objs.size f cd)
 N:=N
 s₀:=s
 H₀:=H
 env:=envOfC qual scope s.heap.objs.size f cd
 outer:=outer
 stack:=envOfC qual scope s.heap.objs.size f cd :: outer
 ex:=[]
 calm:=c
 fn:=fun _ => true
 pn:=[]
 xe:=fun e s' => wpAny (model P w) (A.deeper (envOfC qual scope s.heap.objs.size f cd)) (leaving (envOfC qual scope s.heap.objs.size f cd) e) (fun _ s'' => CX outer H s E e s'') (fun e' s'' => CX outer H s E e' s'') s'
theorem cell_has {sc:Scope} {n:Nat} {x:Str} (h:sc.names.lookup x = some .cell):∃ c,(cellsFrom n sc.names []).lookup x = some c:=by
 have q:=PySem.W.cellsFrom_some sc.names n [] (.inl h)
 exact Option.isSome_iff_exists.mp q
theorem inv_start {CX:CXT} {P:Program} {w:World} {K:PySem.W.Frag} {mg:Str→Option Value} {base:Heap} {N ps:List Str} {qual:Str} {scope:Scope} {f:Addr} {cd:Value} {A:Around} {outer:List Env} {s s1:Shared} {H:Hp} {E:XK} {us:List Value} {vs:List V}
  {c:Bool} (S:FnScope N ps scope) (hd:c = true→A.handled = none) (e0:Env0 P w K mg base A outer s H) (hl:vs.length = ps.length) (r:Vals vs us)
  (x:InCallC s s.heap.objs.size (bindL (envOfC qual scope s.heap.objs.size f cd).kindOf (ps.zip us) fun _ => none) (cellsFrom (s.heap.objs.size + 1) scope.names []) (bindC (envOfC qual scope s.heap.objs.size f cd).kindOf (ps.zip us) fun _ => none) s1) :
  Inv (cxOf CX P w K mg base N qual scope f cd A outer s H E c) [] (start N vs) H s1:=by
 have hpl:ps.length≤N.length:=by have:=congrArg List.length S.pre; rw [List.length_take] at this; omega
 obtain ⟨h1,tk,rfl,hk⟩:=x.done
 have noA:∀ b:Addr,b ∉ (cxOf CX P w K mg base N qual scope f cd A outer s H E c).ex:=fun b z => absurd (show b∈([]:List Addr) from z) (by simp)
 refine ⟨⟨e0.mod,S.kind,rfl,rfl,Nat.le_refl _,fun y z c h1 h2 => ?_,fun y hy => ?_,fun y c' _ h => ?_,hd,Around.frames_deeper e0.frames,.inr ⟨rfl,rfl⟩,fun b z => absurd z (noA b),e0.bs,e0.bsz,fun b _ _ => noA b,fun b z => absurd z (noA b),e0.funs,e0.frf⟩,
  rfl,e0.bare,Un.kept hk,⟨_,x.toInCall.ns,fun i y v h1 h2 h3 => ?_⟩,fun y c h => ⟨_,x.cell y c h⟩,e0.hok.fresh (Nat.le_refl _),fun y c h => ?_,fun p hp => absurd (show p∈([]:List (Addr × Obj)) from hp) (by simp),e0.hok.kept hk,?_,e0.hn⟩
 ·exact name_of_addr x.apart (PySem.mem_of_lookup h1) (PySem.mem_of_lookup h2)
 ·have hy:scope.names.lookup y = some .cell∨scope.names.lookup y = some .free:=hy
  rcases hy with hy | hy
  ·exact cell_has hy
  ·exact absurd rfl (S.nofree _ (PySem.mem_of_lookup hy))
 ·exact Nat.le_of_lt (x.above y c' (PySem.mem_of_lookup h))
 ·have hi:i < vs.length:=by
   unfold start at h2
   by_cases hi:i < vs.length
   ·exact hi
   ·rw [List.getElem?_append_right (by simpa using hi)] at h2
    rw [List.getElem?_replicate] at h2
    split at h2 <;> cases h2
  have ha:vs[i]? = some v:=by
   unfold start at h2
   rw [List.getElem?_append_left (by simpa using hi),List.getElem?_map] at h2
   cases e:vs[i]? with
   | none => rw [e] at h2; cases h2
   | some a => rw [e] at h2; cases h2; rfl
  obtain ⟨u,hu,rv⟩:=r.get ha
  have hp:ps[i]? = some y:=by
   rw [← S.pre,List.getElem?_take_of_lt (by omega)]; exact h1
  have ndP:ps.Nodup:=by rw [← S.pre]; exact S.nd.sublist (List.take_sublist _ _)
  refine ⟨u,rv,?_⟩
  rcases S.par y (List.mem_of_getElem? hp) with k | k
  ·exact .inl ⟨k,bindL_get ndP hp hu k⟩
  ·obtain ⟨c,e⟩:=cell_has (n:=s.heap.objs.size + 1) k
   refine .inr ⟨.inl k,c,e,?_⟩
   have q:=x.cell y c e
   rw [bindC_get ndP hp hu (by show scope.names.lookup y≠_; rw [k]; decide)] at q
   exact q
 ·exact e0.hok.fresh (Nat.le_of_lt (x.above y c (PySem.mem_of_lookup h)))
 ·unfold start
  show _ = N.length
  rw [List.length_append,List.length_map,List.length_replicate]
  omega
theorem fn_of {CX:CXT} {P:Program} {w:World} {K:PySem.W.Frag} {mg:Str→Option Value} {base:Heap} {k:Nat} {f:Addr} {name qual:Str} {params:Arguments} {body:List Stmt} {scope:Scope} {dV kV doc pm cdv ct oc:Value} {an od:Option Addr}
  {osl:Array (Option Value)} {N ps:List Str} {sp:Sp} {c:Bool} (lk:K.lookup f = some ⟨oc,od,.func (PySem.W.fnOf name qual params body scope dV kV doc pm an cdv ct),osl⟩) (hcd:PySem.W.codeIn K cdv qual = true) (S:FnScope N ps scope)
  (len:∀ vs H Q E,sp vs H Q E→vs.length = ps.length)
  (hbody:∀ (A:Around) (outer:List Env) (s:Shared) (H:Hp) (vs:List V) (Q:VK) (E:XK),RoomC c k (A.deeper (envOfC qual scope s.heap.objs.size f cdv))→sp vs H Q E →
   ∃ t,PSs (cxOf CX P w K mg base N qual scope f cdv A outer s H E c) body t∧t { nx:=fun _ H' => Q .non H',rt:=Q } (start N vs) H) :
  FnOk P w K mg base CX (k + 1) f (PySem.W.fnOf name qual params body scope dV kV doc pm an cdv ct) ps sp c:=by
 refine ⟨len,fun A outer s H args us vs Q E hr e0 hb r hsp => ?_⟩
 have hl:=len _ _ _ _ hsp
 have KX:K.In s.heap:=e0.mod.kin.keeps fun b o e => (e0.bs b o e).1
 have lim:s.heap.NoLimit:=e0.mod.nolimit.keeps fun b o e => (e0.bs b o e).1
 have hkind:∀ y∈ps.zip us,scope.names.lookup y.1 = some .local∨(scope.names.lookup y.1 = some .cell∧((cellsFrom (s.heap.objs.size + 1) scope.names []).lookup y.1).isSome = true):=fun ⟨n,v⟩ hy => by
  rcases S.par n (List.of_mem_zip hy).1 with q | q
  ·exact .inl q
  ·exact .inr ⟨q,PySem.W.cellsFrom_some _ _ _ (.inl q)⟩
 refine codeAny_call_function hr.depth (KX _ _ lk) rfl S.co S.gen rfl (PySem.W.codeRec_of KX hcd) (hb _ _ _ _ ?_)
 refine wpAny_newFunctionEnv_cells S.kind hkind fun env he s1 x => ?_
 subst he
 refine ⟨lim.keeps x.toInCall.keep,codeAny_func ?_⟩
 obtain ⟨t,ht,hq⟩:=hbody A outer s H vs Q E (hr.deeper _) hsp
 have I:Inv (cxOf CX P w K mg base N qual scope f cdv A outer s H E c) [] (start N vs) H s1:=inv_start S hr.hd e0 hl r x
 refine wpAny_mono (ht [] s1 (start N vs) H _ I hq) (fun fl s' hs => ?_) fun e s' hs => hs
 have fin:∀ {σ':St} {H':Hp} {v:V} {u:Value},Inv (cxOf CX P w K mg base N qual scope f cdv A outer s H E c) [] σ' H' s'→RelV v u→Q v H'→CE outer P w H s Q u s' :=
  fun {σ' H' v u} J rv q => ⟨v,H',J.os,J.bare,J.base,J.hok,rv,q⟩
 cases fl with
 | ret u =>
  obtain ⟨v,σ',H',J,rv,q⟩:=hs
  exact fin J rv q
 | next =>
  obtain ⟨σ',H',J,q⟩:=hs
  exact fin (v:=V.non) (u:=Value.none) J rfl q
 | brk =>
  obtain ⟨_,_,_,q⟩:=hs
  exact False.elim q
 | cont =>
  obtain ⟨_,_,_,q⟩:=hs
  exact False.elim q
end L2
namespace L2
open PySem PySem.Spec PyProof.Rows
section
variable {X:Cx} {x:Str} {p pos:Pos} {e:Expr} {es:List Expr} {t:TA} {id T:String} {r:List V→Hp→VK→Prop}
def tCB (r:List V→Hp→VK→Prop) (t:TA):TE:=fun σ H Q => t σ H fun vs H1 => r vs H1 Q
theorem pe_callB (hc:CallR X (.builtin id) r) (hg:Gl X x) (hm:X.mg x = none) (hv:bootBuiltins x = some (.builtin id)) (ha:PA X (e :: es) t) (hn:x≠"__name__":=by decide) (hdb:(x == ("__debug__":Str)) = false:=by decide)
  (he:starEach (e :: es) X.env = (false,eval e X.env) :: starEach es X.env:=by rfl) (hpl:(backTo pos (starEach es X.env)).any (·.1) = false:=by rfl):PE X (.Call (.Name x p) (e :: es) [] pos) (tCB r t):=by
 intro pins s σ H Q I h
 refine wpAny_Call_Name_kw (ld_blt I hg hm hv ?_ hn hdb)
 exact PyProof.Rows.callWith_builtin1 (thn (ha pos pins s σ H _ I h) fun us s1 ⟨vs,H1,I1,r1,q1⟩ => hc pins s1 σ H1 vs us Q I1 r1 q1) he hpl
theorem pe_callTy (hc:CallR X (.type T) r) (hg:Gl X x) (hm:X.mg x = none) (hv:bootBuiltins x = some (.type T)) (ha:PA X (e :: es) t) (hn:x≠"__name__":=by decide) (hdb:(x == ("__debug__":Str)) = false:=by decide)
  (he:starEach (e :: es) X.env = (false,eval e X.env) :: starEach es X.env:=by rfl) (hpl:(backTo pos (starEach es X.env)).any (·.1) = false:=by rfl):PE X (.Call (.Name x p) (e :: es) [] pos) (tCB r t):=by
 intro pins s σ H Q I h
 refine wpAny_Call_Name_kw (ld_blt I hg hm hv ?_ hn hdb)
 exact PyProof.Rows.callWith_type1 (thn (ha pos pins s σ H _ I h) fun us s1 ⟨vs,H1,I1,r1,q1⟩ => hc pins s1 σ H1 vs us Q I1 r1 q1) he hpl
end
end L2
namespace HT
open PySem PyProof.Rows
section
open PySem.SeqAt
open PySem.AutoSeq1 (wpAny_loadPart')
open PySem.MeetsSeq PySem.MeetsSeq2 PySem.MeetsSeq3
end
section
variable {prog:Program} {w:World} {A:Around} {E:Value→Shared→Prop} {s:Shared}
theorem cat_tup {t b:Addr} {vs ws:List Value} {Q:Value→Shared→Prop} (ht:IsTup s.heap t vs.toArray) (hb:IsTup s.heap b ws.toArray) (hv:vs≠[])
  (h1:ws = []→Q (.ref t) s) (h2:ws≠[]→Q (.ref s.heap.objs.size) { s with heap:=s.heap.push { cls:=.type "tuple",data:=.seq (vs ++ ws).toArray } })
  (hsz:vs.length + ws.length≤sizeLine):wpAny (model prog w) A (binaryOp .Add (.ref t) (.ref b)) Q E s:=by
 obtain ⟨⟨cls,dd,data,sl⟩,ho,hc,n,hd⟩:=id ht
 obtain ⟨⟨cls2,dd2,data2,sl2⟩,ho2,hc2,n2,hd2⟩:=id hb
 simp only at hc hd hc2 hd2
 subst hc hd hc2 hd2
 have e:vs.toArray ++ ws.toArray = (vs ++ ws).toArray:=by simp
 by_cases hw:ws = []
 ·exact concat_meets ⟨_,ho,rfl⟩ ⟨_,ho2,rfl⟩ noFill_tuple_add seq_tuple_add PySem.F.slot_tuple_add PySem.F.entry_tuple_add (PySem.F.args_tuple_add_2 _ _)
   (tuple_addW1 t b vs.toArray ws.toArray n n2 dd dd2 sl sl2 (by simpa using hv) (by simp [hw])) ⟨ho,ho2,h1 hw⟩
 ·refine concat_meets ⟨_,ho,rfl⟩ ⟨_,ho2,rfl⟩ noFill_tuple_add seq_tuple_add PySem.F.slot_tuple_add PySem.F.entry_tuple_add (PySem.F.args_tuple_add_2 _ _)
   (tuple_addW2 t b vs.toArray ws.toArray n n2 dd dd2 sl sl2 (by simpa using hv) (by simpa using hw) (by rw [List.size_toArray,List.size_toArray]; exact hsz)) ⟨ho,ho2,?_⟩
  rw [e]
  exact h2 hw
def sIx (n d:Nat):Option Int→Nat
 | none => d
 | some v => if v < 0 then (v + (n:Int)).toNat else min v.toNat n
theorem sIx_none (n d:Nat):sIx n d none = d:=rfl
theorem sIx_nat (n d k:Nat):sIx n d (some (k:Int)) = min k n:=by
 show (if (k:Int) < 0 then ((k:Int) + (n:Int)).toNat else min (k:Int).toNat n) = min k n
 rw [if_neg (by omega),Int.toNat_natCast]
theorem sIx_le (n d:Nat) (hd:d≤n) (o:Option Int):sIx n d o≤n:=by
 cases o with
 | none => exact hd
 | some v =>
  show (if v < 0 then (v + (n:Int)).toNat else min v.toNat n)≤n
  by_cases hv:v < 0
  ·rw [if_pos hv]; omega
  ·rw [if_neg hv]; exact Nat.min_le_right _ _
theorem clip_eq (v:Int) (n d:Nat):(if v < 0 then max (v + (n:Int)) 0 else min v (n:Int)) = ((sIx n d (some v):Nat):Int):=by
 show (if v < 0 then max (v + (n:Int)) 0 else min v (n:Int)) = (((if v < 0 then (v + (n:Int)).toNat else min v.toNat n):Nat):Int)
 by_cases hv:v < 0
 ·simp only [if_pos hv]; omega
 ·simp only [if_neg hv]; omega
theorem adjust_gen (lo hi:Option Int) (n:Nat):Builtin.Slice.sliceAdjust lo hi 1 (n:Int) = (((sIx n 0 lo:Nat):Int),((sIx n n hi:Nat):Int)):=by
 have h1:¬ ((1:Int) < 0):=by omega
 unfold Builtin.Slice.sliceAdjust
 simp only [h1,if_false]
 refine Prod.ext ?_ ?_
 ·cases lo with
  | none => rfl
  | some v => exact clip_eq v n 0
 ·cases hi with
  | none => rfl
  | some v => exact clip_eq v n n
theorem places_gen (i j:Nat):Builtin.Slice.slicePlaces (i:Int) (j:Int) 1 = j - i:=by
 unfold Builtin.Slice.slicePlaces
 have h1:(1:Int) > 0:=by omega
 simp only [h1,if_true,Int.ediv_one]
 split <;> omega
theorem slicePart_ {v:Value} {o:Option Int} {Q:Option Int→Shared→Prop} (p:IsPart v o) (h:Q o s):wpAny (model prog w) A (Builtin.Slice.slicePartIndex v) Q E s:=by
 cases p with
 | none => exact slicePart_none h
 | int i t => exact slicePart_int h
theorem sliceApplied_gen {sl:Addr} {vl vu:Value} {lo hi:Option Int} {n:Nat} {Q:Int × Int × Nat→Shared→Prop} (hs:s.heap.IsSliceOf sl vl vu .none) (pl:IsPart vl lo) (pu:IsPart vu hi)
  (h:Q (((sIx n 0 lo:Nat):Int),1,sIx n n hi - sIx n 0 lo) s):wpAny (model prog w) A (Builtin.Slice.sliceApplied (.ref sl) (pure (n:Int))) Q E s:=by
 obtain ⟨os,hos,hcs,hds⟩:=id hs
 unfold Builtin.Slice.sliceApplied Builtin.Slice.sliceFields
 refine wpAny_bind (wpAny_bind (wpAny_field hos hds (x:=vl) rfl (wpAny_bind (wpAny_field hos hds (x:=vu) rfl (wpAny_bind (wpAny_field hos hds (x:=.none) rfl (wpAny_pure ?_)))))))
 refine wpAny_bind (slicePart_none ?_)
 show wpAny _ _ (if ((1:Int) == 0) = true then _ else _) _ _ s
 rw [if_neg (by decide)]
 refine wpAny_bind (slicePart_ pl (wpAny_bind (slicePart_ pu (wpAny_bind (wpAny_pure ?_)))))
 show wpAny _ _ (match Builtin.Slice.sliceAdjust lo hi 1 (n:Int) with | (lo,hi) => pure (lo,(1:Int),Builtin.Slice.slicePlaces lo hi 1)) _ _ s
 rw [adjust_gen lo hi n]
 show wpAny _ _ (pure (((sIx n 0 lo:Nat):Int),(1:Int),Builtin.Slice.slicePlaces ((sIx n 0 lo:Nat):Int) ((sIx n n hi:Nat):Int) 1)) _ _ s
 rw [places_gen]
 exact wpAny_pure h
theorem pick_gen (xs:Array Value) (i k:Nat):((List.range k).filterMap fun (m:Nat) => xs[((i:Int) + (m:Int) * 1).toNat]?).toArray = ((xs.toList.drop i).take k).toArray:=by
 have e:(fun (m:Nat) => xs[((i:Int) + (m:Int) * 1).toNat]?) = fun m => xs[i + m]?:=by
  funext m
  have:((i:Int) + (m:Int) * 1).toNat = i + m:=by omega
  rw [this]
 rw [e]
 have:=pick_run xs i k
 rw [List.filterMap_map] at this
 have e2:((fun x => xs[x]?) ∘ fun x => i + x) = fun m => xs[i + m]?:=rfl
 rw [e2] at this
 rw [this]
theorem getItem_tuple_cut {t sl:Addr} {items:Array Value} {vl vu:Value} {lo hi:Option Int} {Q:Value→Shared→Prop} (ht:IsTup s.heap t items) (hs:s.heap.IsSliceOf sl vl vu .none) (pl:IsPart vl lo) (pu:IsPart vu hi)
  (hw:¬ (sIx items.size 0 lo = 0∧sIx items.size items.size hi = items.size))
  (h:Q (.ref s.heap.objs.size) { s with heap:=s.heap.push { cls:=.type "tuple",data:=.seq ((items.toList.drop (sIx items.size 0 lo)).take (sIx items.size items.size hi - sIx items.size 0 lo)).toArray } })
  (hsz:items.size≤sizeLine):wpAny (model prog w) A (getItem (.ref t) (.ref sl)) Q E s:=by
 have htake:sizeOk (.seq ((items.toList.drop (sIx items.size 0 lo)).take (sIx items.size items.size hi - sIx items.size 0 lo)).toArray):=by
  show ((items.toList.drop (sIx items.size 0 lo)).take (sIx items.size items.size hi - sIx items.size 0 lo)).toArray.size≤sizeLine
  rw [List.size_toArray,List.length_take,List.length_drop,Array.length_toList]
  omega
 have hj:sIx items.size items.size hi≤items.size:=sIx_le _ _ (Nat.le_refl _) hi
 obtain ⟨os,hos,hcs,hds⟩:=id hs
 have hTs:s.TypeIs (.ref sl) "slice":=⟨os,hos,hcs⟩
 unfold getItem
 try with_reducible refine wpAny_holding ?_
 first | refine wpAny_bind (wpAny_pure ?_) | skip
 refine wpAny_bind (wpAny_sequenceKey ht.typeIs (by decide) ?_)
 refine wpAny_bind (wpAny_callSpecial?_slot (name:=Str.ofString "__getitem__") ht.typeIs PyProof.Rows.slot_tuple_getitem
  (wpAny_call_entry PyProof.Rows.slot_tuple_getitem ht.typeIs entry_tuple_getitem ?_ (args_tuple_getitem _ _)))
 show wpAny _ _ (Builtin.Tuple.tupleItemsOf (.ref t) >>= _) _ _ s
 refine wpAny_bind (tupleItemsOf_ ht ?_)
 refine wpAny_bind (wpAny_typeOf hTs ?_)
 rw [if_pos (by decide)]
 refine wpAny_bind (sliceApplied_gen hs pl pu ?_)
 have hno:¬ ((((sIx items.size 0 lo:Nat):Int) == 0 && (1:Int) == 1 && (sIx items.size items.size hi - sIx items.size 0 lo) == items.size) = true):=by
  intro q
  rw [Bool.and_eq_true,Bool.and_eq_true] at q
  have q1:((sIx items.size 0 lo:Nat):Int) = 0:=eq_of_beq q.1.1
  have q2:sIx items.size items.size hi - sIx items.size 0 lo = items.size:=eq_of_beq q.2
  exact hw ⟨by omega,by omega⟩
 show wpAny _ _ (if (((sIx items.size 0 lo:Nat):Int) == 0 && (1:Int) == 1 && (sIx items.size items.size hi - sIx items.size 0 lo) == items.size) = true then _ else _) _ _ s
 rw [if_neg hno,pick_gen]
 first
  | exact wpAny_bind (m:=Builtin.Tuple.tupleExact _) (wpAny_newObj_type (wpAny_pure ⟨_,rfl,wpAny_pure h⟩) htake)
  | exact wpAny_bind (m:=Builtin.Tuple.tupleExact _) (wpAny_newObj_type (wpAny_bind (wpAny_pure (wpAny_pure ⟨_,rfl,wpAny_pure h⟩))) htake)
  | exact wpAny_bind (wpAny_bind (m:=Builtin.Tuple.tupleExact _) (wpAny_newObj_type (wpAny_pure (wpAny_pure ⟨_,rfl,wpAny_pure h⟩)) htake))
  | exact wpAny_bind (wpAny_bind (m:=Builtin.Tuple.tupleExact _) (wpAny_newObj_type (wpAny_pure ⟨_,rfl,wpAny_pure h⟩) htake))
end
end HT
namespace L2
open PySem PySem.Spec PyProof.Rows
abbrev TO:=St→Hp→(Option Int→Hp→Prop)→Prop
def PO (X:Cx) (e:Option Expr) (t:TO):Prop :=
 ∀ (pins:List (Addr × Obj)) (s:Shared) (σ:St) (H:Hp) (Q:Option Int→Hp→Prop),Inv X pins σ H s→t σ H Q →
  wpAny (model X.prog X.w) X.A (evalPart e X.env) (fun u s' => ∃ o H',Inv X pins σ H' s'∧IsPart u o∧Q o H') X.xe s
def tNoPart:TO:=fun _ H Q => Q none H
def tPart (t:TE):TO:=fun σ H Q => t σ H fun x H1 => ∃ i,x = .int i∧Q (some i) H1
theorem intsAre_of {ns:List Int}:∀ {us:List Value},Vals (ns.map V.int) us→IntsAre us ns:=by
 induction ns with
 | nil => intro us r; rw [List.map_nil] at r; cases r; exact .nil
 | cons n ns ih =>
  intro us r
  rw [List.map_cons] at r
  cases r with
  | cons r1 r2 =>
   obtain ⟨t,e⟩:=r1
   subst e
   exact .cons n t (ih r2)
section
variable {X:Cx} {e:Expr} {te:TE} {lo hi:Option Expr} {tl th:TO} {pos p2:Pos}
theorem po_none:PO X none tNoPart:=by
 intro pins s σ H Q I h
 rw [evalPart_none]
 exact wpAny_pure ⟨none,H,I,.none,h⟩
theorem po_some (h:PE X e te):PO X (some e) (tPart te):=by
 intro pins s σ H Q I hw
 rw [evalPart_some]
 refine thn (h pins s σ H _ I hw) fun u s1 ⟨x,H1,I1,r1,q1⟩ => ?_
 obtain ⟨i,rfl,q⟩:=q1
 obtain ⟨t,rfl⟩:=r1
 exact ⟨some i,H1,I1,.int i t,q⟩
def SlR (X:Cx) (r:V→Option Int→Option Int→Hp→VK→Prop):Prop :=
 ∀ (pins:List (Addr × Obj)) (s:Shared) (σ:St) (H:Hp) (x:V) (v vl vu:Value) (lo hi:Option Int) (sl:Addr) (Q:VK),Inv X pins σ H s→RelV x v→s.heap.IsSliceOf sl vl vu .none→IsPart vl lo→IsPart vu hi→r x lo hi H Q →
  ∃ T id,typeLookup (.type T) "__getitem__" = pure (some (.builtin id))∧s.TypeIs v T∧wpAny (model X.prog X.w) X.A (getItem v (.ref sl)) (EP X pins σ Q) X.xe s
def tSl (r:V→Option Int→Option Int→Hp→VK→Prop) (te:TE) (tl th:TO):TE:=fun σ H Q => te σ H fun x H1 => tl σ H1 fun l H2 => th σ H2 fun u H3 => r x l u H3 Q
theorem pe_slice {r:V→Option Int→Option Int→Hp→VK→Prop} (hr:SlR X r) (he:PE X e te) (hl:PO X lo tl) (hu:PO X hi th):PE X (.Subscript e (.Slice lo hi none p2) pos) (tSl r te tl th):=by
 intro pins s σ H Q I h
 refine Subscript_ (thn (he pins s σ H _ I h) fun v s1 ⟨x,H1,I1,r1,q1⟩ => ?_)
 refine wpAny_Slice (thn (hl pins s1 σ H1 _ I1 q1) fun vl s2 ⟨l,H2,I2,pl,q2⟩ => thn (hu pins s2 σ H2 _ I2 q2) fun vu s3 ⟨u,H3,I3,pu,q3⟩ => ?_)
 rw [evalPart_none]
 refine wpAny_pure ?_
 have I4:Inv X pins σ H3 { s3 with heap:=s3.heap.push { cls:=.type "slice",data:=.fields #[vl,vu,.none] } }:=I3.kept (t':=s3.toks) fun b ob q => Heap.get?_push_of_some _ q
 obtain ⟨T,id,hT,ht,hg⟩:=hr pins { s3 with heap:=s3.heap.push { cls:=.type "slice",data:=.fields #[vl,vu,.none] } } σ H3 x v vl vu l u s3.heap.objs.size Q I4 r1 (Heap.IsSliceOf.new ..) pl pu q3
 show wpAny (model X.prog X.w) X.A (subscriptTail e (.Slice lo hi none p2) v (.ref s3.heap.objs.size)) (EP X pins σ Q) X.xe { s3 with heap:=s3.heap.push { cls:=.type "slice",data:=.fields #[vl,vu,.none] } }
 exact tail_any (ops:=[.ref s3.heap.objs.size,v]) ht hT hg (by with_unfolding_all rfl)
def cutV (xs:List V) (lo hi:Option Int):List V:=(xs.drop (HT.sIx xs.length 0 lo)).take (HT.sIx xs.length xs.length hi - HT.sIx xs.length 0 lo)
theorem cutV_length (xs:List V) (lo hi:Option Int):(cutV xs lo hi).length≤xs.length:=by
 unfold cutV
 rw [List.length_take,List.length_drop]
 omega
def rSlT (K:PySem.W.Frag):V→Option Int→Option Int→Hp→VK→Prop:=fun x lo hi H Q => ∃ a xs,x = .ref a∧SqT K H a xs ∧
 ¬ (HT.sIx xs.length 0 lo = 0∧HT.sIx xs.length xs.length hi = xs.length)∧∀ p,H p = none→Q (.ref p) (upd H p (.tup (cutV xs lo hi)))
theorem sl_tup:SlR X (rSlT X.K):=by
 intro pins s σ H x v vl vu lo hi sl Q I rx hs pl pu h
 obtain ⟨a,xs,rfl,hx,hw,q⟩:=h
 cases rx
 obtain ⟨its,r,ht,hz⟩:=I.tuple hx
 have hlen:its.toArray.size = xs.length:=by rw [List.size_toArray]; exact r.length.symm
 refine ⟨"tuple",_,PyProof.Rows.slot_tuple_getitem.lookup,ht.typeIs,?_⟩
 refine HT.getItem_tuple_cut ht hs pl pu (by rw [hlen]; exact hw) ?_ (by rw [hlen]; exact hz)
 rw [hlen]
 refine ⟨.ref s.heap.objs.size,_,I.laid (t':=s.toks) (o:=.tup (cutV xs lo hi)) (fun b ob q => Heap.get?_push_of_some _ q) (Nat.le_refl _) ?_,rfl,q _ (I.hok.fresh (Nat.le_refl _))⟩
 exact ⟨Nat.le_trans (cutV_length xs lo hi) hz,_,(r.drop (HT.sIx xs.length 0 lo)).take (HT.sIx xs.length xs.length hi - HT.sIx xs.length 0 lo),IsTup.new _ _⟩
def rCatT (K:PySem.W.Frag):R2:=fun x y H Q => ∃ a b xs ys,x = .ref a∧y = .ref b∧SqT K H a xs∧SqT K H b ys∧xs≠[]∧xs.length + ys.length≤sizeLine ∧
 (ys = []→Q (.ref a) H)∧(ys≠[]→∀ p,H p = none→Q (.ref p) (upd H p (.tup (xs ++ ys))))
theorem Vals.nil_iff {xs:List V} {us:List Value} (r:Vals xs us):us = []↔xs = []:=by
 cases r with
 | nil => simp
 | cons _ _ => simp
theorem op_catT:OpR X (binaryOp .Add) (rCatT X.K):=by
 intro pins s σ H x y v u Q I rx ry h
 obtain ⟨a,b,xs,ys,rfl,rfl,ha,hb,hx,hz,q1,q2⟩:=h
 cases rx
 cases ry
 obtain ⟨its,r1,p1,_⟩:=I.tuple ha
 obtain ⟨its2,r2,p2,_⟩:=I.tuple hb
 refine HT.cat_tup p1 p2 (fun z => hx (r1.nil_iff.mp z)) (fun z => ⟨.ref a,H,I,rfl,q1 (r2.nil_iff.mp z)⟩) (fun z => ?_) (by rw [← r1.length,← r2.length]; exact hz)
 refine ⟨.ref s.heap.objs.size,_,I.laid (t':=s.toks) (o:=.tup (xs ++ ys)) (fun b ob q => Heap.get?_push_of_some _ q) (Nat.le_refl _) ?_,rfl,q2 (fun w => z (r2.nil_iff.mpr w)) _ (I.hok.fresh (Nat.le_refl _))⟩
 exact ⟨by rw [List.length_append]; exact hz,_,r1.append r2,IsTup.new _ _⟩
end
end L2
namespace L2
open PySem PySem.Spec PyProof.Rows
def ixN (n:Nat) (i:Int):Option Nat:=if 0≤i then (if i < n then some i.toNat else none) else if -(n:Int)≤i then some (i + n).toNat else none
def atI {α:Type} (xs:List α) (i:Int):Option α:=(ixN xs.length i).bind fun j => xs[j]?
theorem ixN_seq {n:Nat} {i:Int} {j:Nat} (h:ixN n i = some j):seqIndex? i n = some j∧j < n∧-(n:Int)≤i∧i < n:=by
 unfold ixN at h
 by_cases h0:0≤i
 ·rw [if_pos h0] at h
  by_cases h1:i < n
  ·rw [if_pos h1] at h
   have e:i.toNat = j:=Option.some.inj h
   exact ⟨by rw [seqIndex_of h0 h1,e],by omega,by omega,h1⟩
  ·rw [if_neg h1] at h; cases h
 ·rw [if_neg h0] at h
  by_cases h1:-(n:Int)≤i
  ·rw [if_pos h1] at h
   have e:(i + n).toNat = j:=Option.some.inj h
   exact ⟨by rw [seqIndex_neg (by omega) h1,e],by omega,h1,by omega⟩
  ·rw [if_neg h1] at h; cases h
theorem atI_get {α:Type} {xs:List α} {i:Int} {v:α} (h:atI xs i = some v):∃ j,seqIndex? i xs.length = some j∧xs[j]? = some v∧j < xs.length∧-(xs.length:Int)≤i∧i < xs.length:=by
 unfold atI at h
 cases e:ixN xs.length i with
 | none => rw [e] at h; cases h
 | some j =>
  rw [e] at h
  obtain ⟨h1,h2,h3,h4⟩:=ixN_seq e
  exact ⟨j,h1,h,h2,h3,h4⟩
theorem atI_nat {α:Type} {xs:List α} {j:Nat} {v:α} (h:xs[j]? = some v):atI xs (j:Int) = some v:=by
 have hj:j < xs.length:=(List.getElem?_eq_some_iff.mp h).1
 have e:ixN xs.length (j:Int) = some j:=by
  unfold ixN
  rw [if_pos (by omega),if_pos (by omega)]; simp
 unfold atI; rw [e]; exact h
def PlainIx (b:Expr):Prop:=∀ o i,subscripted b false o i = operate [o,i] (getItem o i)
def IxR (X:Cx) (r:R2):Prop :=
 ∀ (value slice:Expr) (pins:List (Addr × Obj)) (s:Shared) (σ:St) (H:Hp) (x y:V) (v u:Value) (Q:VK),Inv X pins σ H s→RelV x v→RelV y u→r x y H Q →
  subscripted slice false v u = operate [v,u] (getItem v u)→wpAny (model X.prog X.w) X.A (subscriptTail value slice v u) (EP X pins σ Q) X.xe s
def MtR (X:Cx) (id:String) (r:V→List V→Hp→VK→Prop):Prop :=
 ∀ (pins:List (Addr × Obj)) (s:Shared) (σ:St) (H:Hp) (x:V) (xs:List V) (v:Value) (us:List Value) (Q:VK),Inv X pins σ H s→RelV x v→Vals xs us→r x xs H Q →
  wpAny (model X.prog X.w) X.A (call (.builtin id) (v :: us)) (EP X pins σ Q) X.xe s
section
variable {X:Cx} {a b:Expr} {ta tb:TE} {pos:Pos}
theorem pe_ix {r:R2} (hr:IxR X r) (ha:PE X a ta) (hb:PE X b tb) (hs:PlainIx b):PE X (.Subscript a b pos) (tOp r ta tb):=by
 intro pins s σ H Q I h
 exact Subscript_ (binT ha hb I h fun v u s2 x y H2 I2 rx ry q => hr a b pins s2 σ H2 x y v u Q I2 rx ry q (hs _ _))
def rIxL (K:PySem.W.Frag):R2:=fun x y H Q => ∃ p xs i v,x = .ref p∧y = .int i∧SqL K H p xs∧atI xs i = some v∧Q v H
def rIxT (K:PySem.W.Frag):R2:=fun x y H Q => ∃ p xs i v,x = .ref p∧y = .int i∧SqT K H p xs∧atI xs i = some v∧Q v H
theorem ix_list:IxR X (rIxL X.K):=by
 intro value slice pins s σ H x y v u Q I rx ry h hs
 obtain ⟨p,xs,i,z,rfl,rfl,hq,he,q⟩:=h
 cases rx
 obtain ⟨t,rfl⟩:=ry
 obtain ⟨its,r,pl,hz⟩:=I.list hq
 obtain ⟨j,h1,h2,h3,h4,h5⟩:=atI_get he
 obtain ⟨w,ew,rw'⟩:=r.get h2
 have hl:=r.length
 have hn:=line63
 have fin:EP X pins σ Q w s:=⟨z,H,I,rw',q⟩
 by_cases h0:0≤i
 ·have hj:i.toNat = j:=by
   rw [seqIndex_of h0 h5] at h1
   exact Option.some.inj h1
  exact item_listR pl.isList h0 (by omega) (by rw [hj]; simpa using ew) fin hs
 ·have hj:(i + (its.toArray.size:Int)).toNat = j:=by
   rw [seqIndex_neg (by omega) h4] at h1
   rw [List.size_toArray,← hl]
   exact Option.some.inj h1
  exact subscriptTail_builtinR (x:=w) pl.isList.typeIs slot_list_getitem.lookup
   (wpAny_getItem_list_neg (Q:=fun r s' => r = w∧EP X pins σ Q r s') pl.isList (by omega) (by rw [List.size_toArray] <;> omega) (by omega) (by rw [hj]; simpa using ew) ⟨rfl,fin⟩) hs
theorem ix_tup:IxR X (rIxT X.K):=by
 intro value slice pins s σ H x y v u Q I rx ry h hs
 obtain ⟨p,xs,i,z,rfl,rfl,hq,he,q⟩:=h
 cases rx
 obtain ⟨t,rfl⟩:=ry
 obtain ⟨its,r,pl,hz⟩:=I.tuple hq
 obtain ⟨j,h1,h2,h3,h4,h5⟩:=atI_get he
 obtain ⟨w,ew,rw'⟩:=r.get h2
 have hl:=r.length
 have hn:=line63
 have fin:EP X pins σ Q w s:=⟨z,H,I,rw',q⟩
 exact subscriptTail_builtinR (x:=w) pl.typeIs slot_tuple_getitem.lookup
  (getItem_tuple (j:=j) (Q:=fun r s' => r = w∧EP X pins σ Q r s') pl (by omega) (by omega) (by rw [List.size_toArray,← hl]; exact h1) (by simpa using ew) ⟨rfl,fin⟩) hs
theorem mapSeq_set (its:List Value) (n j:Nat) (u:Value):Obj.mapSeq (·.setIfInBounds j u) { cls:=.type "list",data:=.seq its.toArray n } = { cls:=.type "list",data:=.seq (its.set j u).toArray n }:=by
 simp [Obj.mapSeq]
theorem Inv.lst {pins:List (Addr × Obj)} {σ:St} {H:Hp} {s:Shared} {p:Addr} {xs:List V} (I:Inv X pins σ H s) (h:H p = some (.lst xs)) :
  ∃ (its:List Value) (n:Nat),Vals xs its∧s.heap.get? p = some { cls:=.type "list",data:=.seq its.toArray n }∧xs.length≤sizeLine:=by
 obtain ⟨z,its,n,r,e⟩:=I.hok p _ h
 exact ⟨its,n,r,e,z⟩
theorem Inv.lstUpd {pins:List (Addr × Obj)} {σ:St} {H:Hp} {s:Shared} {p:Addr} {xs ys:List V} {its its':List Value} {n n':Nat} {f:Obj→Obj} (I:Inv X pins σ H s) (h:H p = some (.lst xs))
  (ho:s.heap.get? p = some { cls:=.type "list",data:=.seq its.toArray n }) (hf:f { cls:=.type "list",data:=.seq its.toArray n } = { cls:=.type "list",data:=.seq its'.toArray n' }) (r:Vals ys its') (hz:ys.length≤sizeLine) (t:Nat) :
  Inv X pins σ (upd H p (.lst ys)) { s with heap:=s.heap.update p f,toks:=t }:=by
 have e:(s.heap.update p f).get? p = some { cls:=.type "list",data:=.seq its'.toArray n' }:=by
  rw [Heap.get?_update_self f ho (by rw [hf] <;> rfl),hf]
 refine I.write (x:=p) (e:=p) (by rw [h]; trivial) (.inl rfl) (fun b u hb q => (Heap.get?_update_other _ _ (Ne.symm hb)).trans q) ⟨_,e⟩ ?_
 exact ⟨hz,its',n',r,e⟩
def rSetL:V→V→V→Hp→(Hp→Prop)→Prop:=fun o i v H Q => ∃ p xs k j,o = .ref p∧i = .int k∧H p = some (.lst xs)∧ixN xs.length k = some j∧Q (upd H p (.lst (xs.set j v)))
theorem set_list:PSet X rSetL:=by
 intro pins s σ H o i v ov iv u Q I ro ri rv h
 obtain ⟨p,xs,k,j,rfl,rfl,hp,hj,q⟩:=h
 cases ro
 obtain ⟨t,rfl⟩:=ri
 obtain ⟨its,n,r,ho,hz⟩:=I.lst hp
 obtain ⟨h1,h2,h3,h4⟩:=ixN_seq hj
 have hl:=r.length
 have hn:=line63
 have I':Inv X pins σ (upd H p (.lst (xs.set j v))) { s with heap:=s.heap.update p (Obj.mapSeq (·.setIfInBounds j u)) } :=
  I.lstUpd hp ho (mapSeq_set its n j u) (r.set rv j) (by rw [List.length_set]; exact hz) s.toks
 by_cases h0:0≤k
 ·have hk:k.toNat = j:=by
   rw [seqIndex_of h0 h4] at h1
   exact Option.some.inj h1
  exact PySem.W.ki_setAt ho h0 (by omega) (by rw [List.size_toArray,← hl]; exact h4) (by rw [hk]; exact ⟨_,I',q⟩)
 ·have hk:(k + (its.toArray.size:Int)).toNat = j:=by
   rw [seqIndex_neg (by omega) h3] at h1
   rw [List.size_toArray,← hl]
   exact Option.some.inj h1
  exact PySem.W.ki_setBack ho (by omega) (by rw [List.size_toArray,← hl]; exact h3) (by omega) (by rw [hk]; exact ⟨_,I',q⟩)
theorem slice_bounds (lo hi:Option Int) (n:Nat):(sliceBounds lo hi none n).1 = ((HT.sIx n 0 lo:Nat):Int)∧(sliceBounds lo hi none n).2.1 = ((HT.sIx n n hi:Nat):Int)∧(sliceBounds lo hi none n).2.2 = 1:=by
 refine ⟨?_,?_,rfl⟩
 ·cases lo with
  | none => simp [sliceBounds,HT.sIx]
  | some i =>
   simp only [sliceBounds,HT.sIx,Option.getD_none,show (1:Int) > 0 by decide,if_true]
   by_cases h:i < 0
   ·simp only [h,if_true] <;> omega
   ·simp only [h,if_false] <;> omega
 ·cases hi with
  | none => simp [sliceBounds,HT.sIx]
  | some i =>
   simp only [sliceBounds,HT.sIx,Option.getD_none,show (1:Int) > 0 by decide,if_true]
   by_cases h:i < 0
   ·simp only [h,if_true] <;> omega
   ·simp only [h,if_false] <;> omega
theorem slicePick_cut (its:List Value) (lo hi:Option Int):slicePick its.toArray lo hi none = ((its.drop (HT.sIx its.length 0 lo)).take (HT.sIx its.length its.length hi - HT.sIx its.length 0 lo)).toArray:=by
 obtain ⟨h1,h2,h3⟩:=slice_bounds lo hi its.toArray.size
 unfold slicePick
 rw [h1,h2,h3]
 simp only [sliceRange_one,pick_run,List.size_toArray] <;> rfl
def rSlL (K:PySem.W.Frag):V→Option Int→Option Int→Hp→VK→Prop:=fun x lo hi H Q => ∃ a xs,x = .ref a∧SqL K H a xs∧∀ p,H p = none→Q (.ref p) (upd H p (.lst (cutV xs lo hi)))
theorem sl_list:SlR X (rSlL X.K):=by
 intro pins s σ H x v vl vu lo hi sl Q I rx hs pl pu h
 obtain ⟨a,xs,rfl,hx,q⟩:=h
 cases rx
 obtain ⟨its,r,ht,hz⟩:=I.list hx
 have hlen:=r.length
 refine ⟨"list",_,slot_list_getitem.lookup,ht.isList.typeIs,?_⟩
 refine wpAny_getItem_list_slice ht.isList hs pl pu .none (by simp) ?_ (by rw [List.size_toArray] <;> omega)
 rw [slicePick_cut,← hlen]
 refine ⟨.ref s.heap.objs.size,_,I.laid (t':=s.toks) (o:=.lst (cutV xs lo hi)) (fun b ob q => Heap.get?_push_of_some _ q) (Nat.le_refl _) ?_,rfl,q _ (I.hok.fresh (Nat.le_refl _))⟩
 exact ⟨Nat.le_trans (cutV_length xs lo hi) hz,_,0,(r.drop (HT.sIx xs.length 0 lo)).take (HT.sIx xs.length xs.length hi - HT.sIx xs.length 0 lo),Heap.get?_push_size _ rfl⟩
def flatV:V→Bool
 | .non => true
 | .bl _ => true
 | .int _ => true
 | .str _ => true
 | _ => false
def eqV:V→V→Bool
 | .non,.non => true
 | .bl a,.bl b => a == b
 | .bl a,.int b => (if a then 1 else 0) == b
 | .int a,.bl b => a == (if b then 1 else 0)
 | .int a,.int b => a == b
 | .str a,.str b => a == b
 | _,_ => false
theorem eqAt_V {A:Around} {s:Shared} {y x:V} {u v:Value} (ry:RelV y u) (rx:RelV x v) (fy:flatV y = true) (fx:flatV x = true):SeqAt.EqAt A s u v (eqV y x):=by
 cases y with
 | non =>
  cases ry
  cases x with
  | non => cases rx; exact SeqAt.EqAt.same _
  | bl b => cases rx; exact SeqAt.EqAt.none_bool b
  | int b => obtain ⟨t,rfl⟩:=rx; exact SeqAt.EqAt.none_int b t
  | str b => obtain ⟨t,rfl⟩:=rx; exact SeqAt.EqAt.none_str b t
  | _ => exact absurd (show false = true from fx) Bool.false_ne_true
 | bl a =>
  cases ry
  cases x with
  | non => cases rx; exact SeqAt.EqAt.bool_none a
  | bl b => cases rx; exact SeqAt.EqAt.bool_bool a b
  | int b => obtain ⟨t,rfl⟩:=rx; exact SeqAt.EqAt.bool_int a b t
  | str b => obtain ⟨t,rfl⟩:=rx; exact SeqAt.EqAt.bool_str a b t
  | _ => exact absurd (show false = true from fx) Bool.false_ne_true
 | int a =>
  obtain ⟨t',rfl⟩:=ry
  cases x with
  | non => cases rx; exact SeqAt.EqAt.int_none a t'
  | bl b => cases rx; exact SeqAt.EqAt.int_bool a t' b
  | int b => obtain ⟨t,rfl⟩:=rx; exact SeqAt.EqAt.int_int a t' b t
  | str b => obtain ⟨t,rfl⟩:=rx; exact SeqAt.EqAt.int_str a t' b t
  | _ => exact absurd (show false = true from fx) Bool.false_ne_true
 | str a =>
  obtain ⟨t',rfl⟩:=ry
  cases x with
  | non => cases rx; exact SeqAt.EqAt.str_none a t'
  | bl b => cases rx; exact SeqAt.EqAt.str_bool a t' b
  | int b => obtain ⟨t,rfl⟩:=rx; exact SeqAt.EqAt.str_int a t' b t
  | str b => obtain ⟨t,rfl⟩:=rx; exact SeqAt.EqAt.str_str a t' b t
  | _ => exact absurd (show false = true from fx) Bool.false_ne_true
 | _ => exact absurd (show false = true from fy) Bool.false_ne_true
def eqU (x:V) (u:Value):Bool:=match u with
 | .none => eqV .non x
 | .bool b => eqV (.bl b) x
 | .int i _ => eqV (.int i) x
 | .str z _ => eqV (.str z) x
 | _ => false
theorem eqU_of {x y:V} {u:Value} (r:RelV y u) (f:flatV y = true):eqU x u = eqV y x:=by
 cases y with
 | non => cases r; rfl
 | bl b => cases r; rfl
 | int i => obtain ⟨t,rfl⟩:=r; rfl
 | str z => obtain ⟨t,rfl⟩:=r; rfl
 | _ => exact absurd (show false = true from f) Bool.false_ne_true
theorem any_eqU {x:V}:∀ {xs:List V} {us:List Value},Vals xs us→xs.all flatV = true→us.any (eqU x) = xs.any fun y => eqV y x
 | _,_,.nil,_ => rfl
 | y :: xs,u :: us,.cons r t,f => by
  rw [List.all_cons,Bool.and_eq_true] at f
  rw [List.any_cons,List.any_cons,eqU_of r f.1,any_eqU t f.2]
theorem mem_eqAt {A:Around} {s:Shared} {x:V} {v:Value} (rx:RelV x v) (fx:flatV x = true):∀ {xs:List V} {us:List Value},Vals xs us→xs.all flatV = true→∀ u∈us,SeqAt.EqAt A s u v (eqU x u)
 | _,_,.nil,_ => fun u hu => by cases hu
 | y :: xs,u :: us,.cons r t,f => fun u' hu => by
  rw [List.all_cons,Bool.and_eq_true] at f
  rcases List.mem_cons.mp hu with rfl | hu
  ·rw [eqU_of r f.1]; exact eqAt_V r rx f.1 fx
  ·exact mem_eqAt rx fx t f.2 u' hu
def inV (x:V) (xs:List V):Bool:=xs.any fun y => eqV y x
def rIn (K:PySem.W.Frag) (neg:Bool):R2:=fun x y H Q => ∃ p xs,y = .ref p∧(SqL K H p xs∨SqT K H p xs)∧flatV x = true∧xs.all flatV = true∧Q (.bl (if neg then !inV x xs else inV x xs)) H
theorem op_in_seq:OpR X (compareOp .In) (rIn X.K false):=by
 intro pins s σ H x y v u Q I rx ry h
 obtain ⟨p,xs,rfl,hq,fx,fs,q⟩:=h
 cases ry
 rcases hq with hq | hq
 ·obtain ⟨its,r,pl,hz⟩:=I.list hq
  refine SeqAt.in_listAt (eqU x) pl.isList (fun w hw => mem_eqAt rx fx r fs w (by simpa using hw)) ⟨.bl _,H,I,rfl,?_⟩
  rw [show its.toArray.any (eqU x) = its.any (eqU x) by simp,any_eqU r fs]
  exact q
 ·obtain ⟨its,r,pl,hz⟩:=I.tuple hq
  refine SeqAt.in_tupleAt (eqU x) pl (fun w hw => mem_eqAt rx fx r fs w (by simpa using hw)) ⟨.bl _,H,I,rfl,?_⟩
  rw [show its.toArray.any (eqU x) = its.any (eqU x) by simp,any_eqU r fs]
  exact q
theorem op_notIn_seq:OpR X (compareOp .NotIn) (rIn X.K true):=by
 intro pins s σ H x y v u Q I rx ry h
 obtain ⟨p,xs,rfl,hq,fx,fs,q⟩:=h
 cases ry
 rcases hq with hq | hq
 ·obtain ⟨its,r,pl,hz⟩:=I.list hq
  refine SeqAt.notIn_listAt (eqU x) pl.isList (fun w hw => mem_eqAt rx fx r fs w (by simpa using hw)) ⟨.bl _,H,I,rfl,?_⟩
  rw [show its.toArray.any (eqU x) = its.any (eqU x) by simp,any_eqU r fs]
  exact q
 ·obtain ⟨its,r,pl,hz⟩:=I.tuple hq
  refine SeqAt.notIn_tupleAt (eqU x) pl (fun w hw => mem_eqAt rx fx r fs w (by simpa using hw)) ⟨.bl _,H,I,rfl,?_⟩
  rw [show its.toArray.any (eqU x) = its.any (eqU x) by simp,any_eqU r fs]
  exact q
theorem call_len_seq:CallR X (.builtin "len") (fun xs H Q => ∃ p ys,xs = [.ref p]∧(SqL X.K H p ys∨SqT X.K H p ys)∧Q (.int ys.length) H):=by
 intro pins s σ H xs us Q I r h
 obtain ⟨p,ys,rfl,hq,q⟩:=h
 obtain ⟨u,rfl,rx⟩:=vals1 r
 cases rx
 have hn:=line63
 rcases hq with hq | hq
 ·obtain ⟨its,r',pl,hz⟩:=I.list hq
  have hlen:=r'.length
  exact Calls.call_len_list pl.isList (by simp only [List.size_toArray] <;> omega) ⟨.int ys.length,H,I.tok _,⟨s.toks + 1,by rw [List.size_toArray,hlen]⟩,q⟩
 ·obtain ⟨its,r',pl,hz⟩:=I.tuple hq
  have hlen:=r'.length
  exact len_tuple pl (by simp only [List.size_toArray] <;> omega) ⟨.int ys.length,H,I.tok _,⟨s.toks + 1,by rw [List.size_toArray,hlen]⟩,q⟩
theorem call_len_str:CallR X (.builtin "len") (fun xs H Q => ∃ z,xs = [.str z]∧z.length≤sizeLine∧Q (.int z.length) H):=by
 intro pins s σ H xs us Q I r h
 obtain ⟨z,rfl,hz,q⟩:=h
 obtain ⟨u,rfl,t,rfl⟩:=vals1 r
 have hn:=line63
 exact len_str (by omega) ⟨.int z.length,H,I.tok _,⟨_,rfl⟩,q⟩
theorem call_tuple_of:CallR X (.type "tuple") (fun xs H Q => ∃ p ys,xs = [.ref p]∧((SqL X.K H p ys∧∀ l,H l = none→Q (.ref l) (upd H l (.tup ys)))∨(SqT X.K H p ys∧Q (.ref p) H))):=by
 intro pins s σ H xs us Q I r h
 obtain ⟨p,ys,rfl,h⟩:=h
 obtain ⟨u,rfl,rx⟩:=vals1 r
 cases rx
 rcases h with ⟨hq,q⟩ | ⟨hq,q⟩
 ·obtain ⟨its,r',pl,hz⟩:=I.list hq
  have hlen:=r'.length
  refine call_tuple_list pl.isList (fun h' kp => ?_) (by simp only [List.size_toArray] <;> omega)
  have I1:Inv X pins σ H { s with heap:=h' }:=I.kept (t':=s.toks) kp
  have I2:Inv X pins σ (upd H h'.objs.size (.tup ys)) { s with heap:=h'.push { cls:=.type "tuple",data:=.seq its.toArray } } :=
   I1.laid (t':=s.toks) (fun b o e => Heap.get?_push_of_some _ e) (Nat.le_refl _) (show ObjOk X.prog X.w _ _ _ (.tup ys) from ⟨hz,its,r',IsTup.new _ _⟩)
  exact ⟨.ref h'.objs.size,_,I2,rfl,q _ (I1.hok.fresh (Nat.le_refl _))⟩
 ·obtain ⟨its,r',pl,hz⟩:=I.tuple hq
  exact call_tuple_same pl ⟨.ref p,H,I,rfl,q⟩
def tyV (K:PySem.W.Frag) (T:String) (x:V) (H:Hp):Prop:=match x with
 | .str _ => T = "str"
 | .int _ => T = "int"
 | .ref p => (T = "list"∧∃ xs,SqL K H p xs)∨(T = "tuple"∧∃ o,K.lookup p = some o∧o.cls = .type "tuple"∧o.dict = none) ∨
   (T = "dict"∧((∃ kvs,H p = some (.dK kvs))∨∃ kvs,H p = some (.dT kvs)))∨(T = "set"∧∃ S n,H p = some (.set S n))
 | _ => False
theorem tyV_is {pins:List (Addr × Obj)} {σ:St} {H:Hp} {s:Shared} {T:String} {x:V} {v:Value} (I:Inv X pins σ H s) (r:RelV x v) (ty:tyV X.K T x H) :
  s.TypeIs v T∧∀ a,v = .ref a→∃ ob,s.heap.get? a = some ob∧ob.dict = none:=by
 cases x with
 | str z =>
  obtain ⟨t,rfl⟩:=r
  cases (show T = "str" from ty)
  exact ⟨typeIs_str s z t,fun _ e => nomatch e⟩
 | int i =>
  obtain ⟨t,rfl⟩:=r
  cases (show T = "int" from ty)
  exact ⟨typeIs_int s i t,fun _ e => nomatch e⟩
 | ref p =>
  cases r
  rcases ty with ⟨rfl,xs,hq⟩ | ⟨rfl,o,hk,hc,hd⟩ | ⟨rfl,hk⟩ | ⟨rfl,S,n,hk⟩
  ·obtain ⟨its,_,pl,_⟩:=I.list hq
   refine ⟨pl.isList.typeIs,fun a e => ?_⟩
   cases e
   obtain ⟨o,n,e,c,hd,_⟩:=pl
   exact ⟨o,e,hd⟩
  ·refine ⟨⟨o,I.kIn p o hk,hc⟩,fun a e => ?_⟩
   cases e
   exact ⟨o,I.kIn _ o hk,hd⟩
  ·have z:∃ o,s.heap.get? p = some o∧o.ExactDict:=by
    rcases hk with ⟨kvs,hk⟩ | ⟨kvs,hk⟩
    ·obtain ⟨_,_,_,_,o,_,_,e,ex,_⟩:=I.hok p _ hk
     exact ⟨o,e,ex⟩
    ·obtain ⟨_,_,_,_,o,_,_,e,ex,_⟩:=I.hok p _ hk
     exact ⟨o,e,ex⟩
   obtain ⟨o,e,ex⟩:=z
   refine ⟨⟨o,e,ex.1⟩,fun a e2 => ?_⟩
   cases e2
   exact ⟨o,e,ex.2.1⟩
  ·obtain ⟨o,_,_,_,e,ex,_⟩:=I.hok p _ hk
   refine ⟨⟨o,e,ex.1⟩,fun a e2 => ?_⟩
   cases e2
   exact ⟨o,e,ex.2.1⟩
 | _ => exact False.elim ty
def tBM (K:PySem.W.Frag) (T:String) (r:V→List V→Hp→VK→Prop) (to:TE) (t:TA):TE:=fun σ H Q => to σ H fun x H1 => tyV K T x H1∧t σ H1 fun xs H2 => r x xs H2 Q
variable {o e:Expr} {es:List Expr} {to:TE} {t:TA} {name:Str} {apos cpos:Pos} {T id:String} {r:V→List V→Hp→VK→Prop}
theorem pe_bm (pa:PlainAttrs T) (slot:Slot T name id) (hty:typeOf (.builtin id) = pure (.type "method_descriptor")) (hm:MtR X id r) (ho:PE X o to) (ha:PA X (e :: es) t)
  (hbase:attributeBase o name X.env (eval o X.env) = eval o X.env:=by rfl)
  (hfew:((backTo cpos (starEach (e :: es) X.env)).all (fun x => !x.1) && (backToKw cpos (keywordEach [] X.env)).all (fun x => x.1.isSome)
   && decide ((e :: es).length + ([]:List Keyword).length + (if ([]:List Keyword).isEmpty then 0 else 1) < 30)) = true:=by rfl)
  (hline:(apos.endLine == cpos.line) = true:=by rfl) (hs:starEach (e :: es) X.env = (false,eval e X.env) :: starEach es X.env:=by rfl) (hplain:(backTo cpos (starEach es X.env)).any (·.1) = false:=by rfl) :
  PE X (.Call (.Attribute o name apos) (e :: es) [] cpos) (tBM X.K T r to t):=by
 intro pins s σ H Q I h
 refine wpAny_Call_method_late hbase hfew hline rfl (thn (ho pins s σ H _ I h) fun v s1 ⟨x,H1,I1,r1,ty,q1⟩ => ?_)
 obtain ⟨h1,h2⟩:=tyV_is I1 r1 ty
 refine ⟨T,id,pa,slot,hty,h1,h2,?_⟩
 have hA:=ha cpos pins s1 σ H1 _ I1 q1
 rw [hs] at hA ⊢
 refine Calls.callWith_builtin (by show (false || (backTo cpos (starEach es X.env)).any (·.1)) = false; rw [hplain] <;> rfl) (Calls.evalArgs_plain ?_)
 exact thn hA fun us s2 ⟨vs,H2,I2,r2,q2⟩ => hm pins s2 σ H2 x vs v us Q I2 r1 r2 q2
end
end L2
namespace L2
open PySem PySem.Spec PyProof.Rows
def MtM (X:Cx) (id:String) (r:V→List V→Hp→VK→Prop):Prop :=
 ∀ (pins:List (Addr × Obj)) (s:Shared) (σ:St) (H:Hp) (x:V) (xs:List V) (v:Value) (us:List Value) (Q:VK),Inv X pins σ H s→RelV x v→Vals xs us→r x xs H Q →
  wpAny (model X.prog X.w) X.A (call (.builtin id) (v :: us)) (EP X pins σ Q) X.xe s
theorem Vals.one:∀ {x:V} {us:List Value},Vals [x] us→∃ u,us = [u]∧RelV x u
 | _,_,.cons r .nil => ⟨_,rfl,r⟩
section
variable {X:Cx} {pins:List (Addr × Obj)} {σ:St} {H:Hp} {s:Shared} {l b:Addr} {xs ys zs:List V}
theorem Inv.lset {its its':List Value} {n:Nat} {f:Array Value→Array Value} {t':Nat} (I:Inv X pins σ H s) (hH:H l = some (.lst xs))
  (e:s.heap.get? l = some { cls:=.type "list",data:=.seq its.toArray n }) (hf:f its.toArray = its'.toArray) (hv:Vals ys its') (hz:ys.length≤sizeLine) :
  Inv X pins σ (upd H l (.lst ys)) { s with heap:=s.heap.update l (Obj.mapSeq f),toks:=t' }:=by
 have q:=PySem.IsL.update e f
 rw [hf] at q
 refine I.write (x:=l) (e:=l) (by rw [hH]; exact trivial) (.inl rfl) (fun b' u hb hu => (Heap.get?_update_other s.heap (Obj.mapSeq f) (Ne.symm hb)).trans hu) ⟨_,q⟩ ?_
 exact ⟨hz,its',_,hv,q⟩
theorem Inv.lnew {its:List Value} {t':Nat} (I:Inv X pins σ H s) (hv:Vals ys its) (hz:ys.length≤sizeLine) :
  Inv X pins σ (upd H s.heap.objs.size (.lst ys)) { s with heap:=s.heap.push { cls:=.type "list",data:=.seq its.toArray },toks:=t' } :=
 I.laid (fun _ _ q => Heap.get?_push_of_some _ q) (Nat.le_refl _) ⟨hz,its,0,hv,Heap.get?_push_size _ rfl⟩
theorem Inv.fresh (I:Inv X pins σ H s):H s.heap.objs.size = none:=I.hok.fresh (Nat.le_refl _)
theorem Inv.lstM (I:Inv X pins σ H s) (hH:H l = some (.lst xs)):xs.length≤sizeLine∧∃ (its:List Value) (n:Nat),Vals xs its∧xs.length = its.length∧s.heap.get? l = some { cls:=.type "list",data:=.seq its.toArray n }:=by
 obtain ⟨z,its,n,r,e⟩:=I.hok l _ hH
 exact ⟨z,its,n,r,r.length,e⟩
theorem notLongL {n:Nat} (h:n≤sizeLine):Builtin.List.listTooLong n = false:=by
 unfold Builtin.List.listTooLong
 exact decide_eq_false (by omega)
end
section
variable {X:Cx}
def rAppend:V→List V→Hp→VK→Prop:=fun x vs H Q => ∃ l xs y,x = .ref l∧vs = [y]∧H l = some (.lst xs)∧xs.length < sizeLine∧Q .non (upd H l (.lst (xs ++ [y])))
theorem mt_append:MtM X "list.append" rAppend:=by
 intro pins s σ H x vs v us Q I rx rv h
 obtain ⟨l,xs,y,rfl,rfl,hH,hz,q⟩:=h
 cases rx
 obtain ⟨u,rfl,ru⟩:=rv.one
 obtain ⟨z,its,n,r,hl,e⟩:=I.lstM hH
 refine call_meets F.slot_list_append ⟨_,e,rfl⟩ F.entry_list_append (F.args_list_append_2 _ _) (PySem.list_append l its.toArray n u (by rw [List.size_toArray]; omega)) ⟨e,?_⟩
 refine ⟨.non,_,I.lset (its':=its ++ [u]) hH e (by simp) (r.append (.cons ru .nil)) ?_,rfl,q⟩
 rw [List.length_append,List.length_singleton]
 omega
def rExtend:V→List V→Hp→VK→Prop:=fun x vs H Q => ∃ l b xs zs,x = .ref l∧vs = [.ref b]∧H l = some (.lst xs)∧H b = some (.lst zs)∧xs.length + zs.length≤sizeLine∧Q .non (upd H l (.lst (xs ++ zs)))
theorem mt_extend:MtM X "list.extend" rExtend:=by
 intro pins s σ H x vs v us Q I rx rv h
 obtain ⟨l,b,xs,zs,rfl,rfl,hH,hB,hz,q⟩:=h
 cases rx
 obtain ⟨u,rfl,ru⟩:=rv.one
 cases ru
 obtain ⟨z,its,n,r,hl,e⟩:=I.lstM hH
 obtain ⟨z2,its2,n2,r2,hl2,e2⟩:=I.lstM hB
 have hsz:its.toArray.size + its2.toArray.size≤sizeLine:=by rw [List.size_toArray,List.size_toArray]; omega
 have hlong:¬ (!its.toArray.isEmpty && Builtin.List.listTooLong (its.toArray.size + its2.toArray.size)) = true:=by
  rw [notLongL hsz,Bool.and_false]
  exact Bool.false_ne_true
 refine call_meets F.slot_list_extend ⟨_,e,rfl⟩ F.entry_list_extend (F.args_list_extend_2 _ _)
  (AutoSeq1.list_extend_list_list_0 l its.toArray n b its2.toArray n2 hlong (by rw [List.size_toArray]; omega) (by omega)) ⟨e,e2,?_⟩
 refine ⟨.non,_,I.lset (its':=its ++ its2) hH e (by simp) (r.append r2) ?_,rfl,q⟩
 rw [List.length_append]
 omega
def rCat:R2:=fun x y H Q => ∃ l b xs zs,x = .ref l∧y = .ref b∧H l = some (.lst xs)∧H b = some (.lst zs)∧xs.length + zs.length≤sizeLine∧∀ p,H p = none→Q (.ref p) (upd H p (.lst (xs ++ zs)))
theorem op_cat:OpR X (binaryOp .Add) rCat:=by
 intro pins s σ H x y v u Q I rx ry h
 obtain ⟨l,b,xs,zs,rfl,rfl,hH,hB,hz,q⟩:=h
 cases rx
 cases ry
 obtain ⟨z,its,n,r,hl,e⟩:=I.lstM hH
 obtain ⟨z2,its2,n2,r2,hl2,e2⟩:=I.lstM hB
 refine PySem.P.add_list e e2 ?_ (by rw [List.size_toArray,List.size_toArray]; omega)
 have ea:its.toArray ++ its2.toArray = (its ++ its2).toArray:=by simp
 rw [ea]
 exact ⟨.ref _,_,I.lnew (t':=s.toks) (r.append r2) (by rw [List.length_append]; omega),rfl,q _ I.fresh⟩
end
section
variable {prog:Program} {w:World} {A:Around} {E:Value→Shared→Prop} {s:Shared}
end
section
variable {X:Cx}
end
end L2
namespace Att
open PySem PySem.W PySem.Calls PyProof.Rows
theorem ints_of_wellAll {P:Params} {h:Heap}:∀ (ns:List Int) (vs:List Value),WellAll P h vs (ns.map WData.int)→IntsAre vs ns:=by
 intro ns
 induction ns with
 | nil =>
  intro vs w
  rw [List.map_nil] at w
  cases w
  exact .nil
 | cons n ns ih =>
  intro vs w
  rw [List.map_cons] at w
  cases w with
  | cons a b =>
   cases a
   exact .cons _ _ (ih _ b)
theorem script_of {l:OpenLaw} {n:Nat} (hn:l.most = some n) {P:Params} {h:Heap} {args:List WData} {vals:List Value}
  (hpre:l.row.toRowW.claim.pre args = true) (hwl:WellAll P h vals args) :
  ∃ a vs ns,vals = [Value.ref a]∧args = [WData.list (ns.map WData.int)]∧h.get? a = some { cls:=.type "list",data:=.seq vs.toArray }∧IntsAre vs ns∧ns.length≤n:=by
 have hsh:WShape.hasAll [] args [.list .int] = true:=(pre_splitW hpre).1
 have hc:l.pre.holds [] { args:=args } = true:=(pre_splitW hpre).2
 obtain ⟨d,r,rfl,h1,h2⟩:=hasAllW_cons hsh
 obtain rfl:=hasAllW_nil h2
 obtain ⟨xs,rfl,h3⟩:=hasW_list h1
 obtain ⟨ns,rfl⟩:=items_int h3
 have hlen:ns.length≤n:=by
  unfold OpenLaw.pre at hc
  have h4:(WTm.not (.lt (.lit (.int (n:Int))) (.len (.arg 0)))).holds [] { args:=[.list (ns.map .int)] } = true:=by
   have h4:=(holds_andW hc).1
   rw [hn] at h4
   exact h4
  have h5:=condW_of h4 (w_not (w_lt w_lit (w_len_list (w_arg rfl))))
  rw [List.length_map] at h5
  refine Nat.le_of_not_lt fun q => ?_
  have q':(n:Int) < ((ns.length:Nat):Int):=by omega
  first
   | (rw [decide_eq_true q'] at h5; exact absurd h5 (by decide))
   | (simp at h5; omega)
 cases hwl with
 | cons w1 w2 =>
  cases w2
  cases w1 with
  | list ho hall => exact ⟨_,_,ns,rfl,rfl,ho,ints_of_wellAll ns _ hall,hlen⟩
theorem post_true (l:OpenLaw) (args:List WData):l.row.toRowW.claim.post args (.bool true) args = true :=
 postW_of (r:=l.row.toRowW) (X:=(true == true))
  (show WShape.has [] (.bool true) .bool = true by first | rfl | decide | simp [WShape.has,WShape.arms,WShape.armsAll])
  (show (WTm.eq .res (.lit (.bool true))).value [] { args:=args,res:=some (.bool true),after:=args } = some (.bool (true == true)) from w_eq_bool (w_res rfl) w_lit) rfl
theorem attach_call {l:OpenLaw} {n:Nat} {q:Program} {loose:List Str} {XP:(Str→Option Value)→Heap→Prop} {YP:World→Heap→Prop} {d:DefRec}
  (hn:l.most = some n) (hdf:d.params.defaults = [])
  (call:∀ (w:World) (s₀ s₁:Shared) (mg mb:Str→Option Value) (fa:Addr) (o:Obj) (pm cd doc:Value) (a:Addr) (vs:List Value) (ns:List Int),
   Ground q loose [] XP w s₀ mg mb s₁.heap→YP w s₁.heap →
   s₁.heap.get? fa = some o→o.data = .func (docDef d.name d.params d.body d.scope pm cd doc)→s₁.heap.CodeRec cd d.name→mg d.name = some (.ref fa) →
   s₁.heap.get? a = some { cls:=.type "list",data:=.seq vs.toArray }→IntsAre vs ns→ns.length≤n→s₁.gens = #[] →
   codeAny (model l.prog w) callerA (.call (.ref fa) ⟨[.ref a],[]⟩) (fun r s' => r = .ok (.ret (.bool true))∧OldK s₁.heap s'.heap∧s'.os = s₁.os∧AllBare s'.gens) s₁) :
  WalkO q loose XP YP l.row.toRowW d [] (fun f vs => PySem.call f vs):=by
 intro w s₀ s₁ mg mb G Y fa o pm cd doc dV kV ho hd hcd hD hmg hg args vals as hpre hlay hrd hwl hlo
 obtain rfl:dV = .none:=Dflts.none hD hdf
 obtain rfl:kV = .none:=Dflts.noKw hD
 obtain ⟨a,vs,ns,rfl,rfl,hobj,hints,hlen⟩:=script_of hn hpre hwl
 refine enter_call (codeAny_mono (call w s₀ s₁ mg mb fa o pm cd doc a vs ns G Y ho (fd_plain hd) hcd hmg hobj hints hlen hg) fun r s' hq => ?_)
 obtain ⟨rfl,h2,h3,h4⟩:=hq
 exact ⟨.inl ⟨.bool true,.bool true,[],rfl,fun _ => rfl,.bool true,post_true l _,fun _ => ⟨List.Pairwise.nil,fun _ hm => (nomatch hm)⟩⟩,h2,h3,h4⟩
section
variable {prog:Program} {w:World} {A:Around} {E:Value→Shared→Prop} {s:Shared} {K:Frag}
end
end Att
namespace L2
open PySem PySem.Spec PyProof.Rows
theorem vals_ints:∀ {vs:List Value} {ns:List Int},IntsAre vs ns→Vals (ns.map V.int) vs
 | _,_,.nil => .nil
 | _,_,.cons n t h => .cons ⟨t,rfl⟩ (vals_ints h)
def Only (H:Hp):Prop:=∀ b,H b = none∨∃ o xs,H b = some (.frz o (.lst xs))
theorem law_call {P:Program} {w:World} {K:PySem.W.Frag} {mg mb:Str→Option Value} {CX:CXT} {k:Nat} {fa a:Addr} {fd:FuncData} {x:Str} {sp:Sp} {s₁:Shared} {vs:List Value} {ns:List Int}
  (KX:K.In s₁.heap) (hns:s₁.heap.Ns mainGlobals mg) (hb:s₁.heap.Ns builtinsNs mb) (hbb:∀ x:Str,x≠"__name__"→mb x = bootBuiltins x) (hlim:s₁.heap.NoLimit) (hg:s₁.gens = #[])
  (ha:s₁.heap.get? a = some { cls:=.type "list",data:=.seq vs.toArray }) (hi:IntsAre vs ns) (hl:ns.length≤sizeLine) (hr:Room k callerA)
  (F:∀ base:Heap,K.In base→base.Ns mainGlobals mg→FnOk P w K mg base CX k fa fd [x] sp) (hbind:∀ (s:Shared) (u:Value),BindsTo s fd ⟨[u],[]⟩ [(x,u)])
  (hsp:∀ H:Hp,Only H→SqL K H a (ns.map V.int)→sp [.ref a] H (fun v _ => v = .bl true) fun _ _ _ => False)
  (hCX:∀ H e s',CX [] H s₁ (fun _ _ _ => False) e s'→False) :
  codeAny (model P w) callerA (.call (.ref fa) ⟨[.ref a],[]⟩) (fun r s' => r = .ok (.ret (.bool true))∧OldK s₁.heap s'.heap∧s'.os = s₁.os∧AllBare s'.gens) s₁:=by
 have rv:=vals_ints hi
 have lenV:=hi.length
 have core:∀ H:Hp,Only H→SqL K H a (ns.map V.int)→HOk P w H s₁.heap→(∀ b,H b≠none→b = a)→(H a≠none→K.lookup a = none) →
   codeAny (model P w) callerA (.call (.ref fa) ⟨[.ref a],[]⟩) (fun r s' => r = .ok (.ret (.bool true))∧OldK s₁.heap s'.heap∧s'.os = s₁.os∧AllBare s'.gens) s₁:=by
  intro H hO hS hok hA hK
  have base_of:∀ {b:Addr} {o:Obj},s₁.heap.get? b = some o→H b = none→(hidT s₁.heap H).get? b = some o:=fun e n => hidT_get e n
  have noA:∀ {b:Addr} {o:Obj} {es:Array DictEntry} {ep:Nat},s₁.heap.get? b = some o→o.data = .dict es ep→H b = none:=fun {b o es ep} e d => by
   cases q:H b with
   | none => rfl
   | some u =>
    have e':b = a:=hA b (by rw [q]; simp)
    subst e'
    rw [ha] at e; cases e
    have d':Data.seq vs.toArray _ = Data.dict es ep:=d
    cases d'
  have nsK:∀ {b:Addr} {m:Str→Option Value},s₁.heap.Ns b m→(hidT s₁.heap H).Ns b m:=fun {b m} ⟨o,es,ep,e,d,r⟩ => ⟨o,es,ep,base_of e (noA e d),d,r⟩
  have hKb:K.In (hidT s₁.heap H):=fun b o e => base_of (KX b o e) (by
   cases q:H b with
   | none => rfl
   | some u =>
    have e':b = a:=hA b (by rw [q]; simp)
    subst e'
    rw [hK (by rw [q]; simp)] at e; cases e)
  have hM:Mod K mg (hidT s₁.heap H):=⟨hKb,nsK hns,⟨mb,nsK hb,hbb⟩,let ⟨mc,h1,h2⟩:=hlim; ⟨mc,nsK h1,h2⟩⟩
  have e0:Env0 P w K mg (hidT s₁.heap H) callerA [] s₁ H:=⟨rfl,hM,fun b o e => of_hidT e,Nat.le_of_eq (hidT_size _ _),trivial,fun b hb => absurd (show b∈([]:List Addr) from hb) (by simp),hok,.of_eq hg,.inl rfl⟩
  refine codeAny_mono ((F _ hKb (nsK hns)).run callerA [] s₁ H ⟨[.ref a],[]⟩ [.ref a] [.ref a] _ _ hr e0 (hbind s₁ (.ref a)) (.cons rfl .nil) (hsp H hO hS)) fun r s' h => ?_
  cases r with
  | error e => exact (hCX H e s' h).elim
  | ok fl =>
   cases fl with
   | next => exact False.elim h
   | brk => exact False.elim h
   | cont => exact False.elim h
   | ret u =>
    obtain ⟨v,H',os,bare,un,hok',r',q⟩:=h
    have q':v = .bl true:=q
    subst q'
    obtain rfl:u = Value.bool true:=r'
    refine ⟨rfl,OldK.of_keep fun b o e => ?_,os,bare⟩
    cases q:H b with
    | none => exact un.keep b o e q (by intro z; exact absurd (show b∈([]:List Addr) from z) (by simp)) (by simp)
    | some u =>
     rcases hO b with z | ⟨ob,xs,z⟩
     ·rw [q] at z; cases z
     ·have z2:=un.frzs b ob _ z
      obtain ⟨e1,_⟩:=hok b _ z
      obtain ⟨e2,_⟩:=hok' b _ z2
      rw [e] at e1; cases e1
      exact e2
 cases hk:K.lookup a with
 | some o =>
  have e:=KX a o hk
  rw [ha] at e
  cases e
  refine core (fun _ => none) (fun _ => .inl rfl) (.inr ⟨_,vs.toArray,_,hk,rfl,rfl,rfl,by rw [List.size_toArray,lenV]; exact hl,by simpa using rv⟩) (fun b u z => by have z':(none:Option HO) = some u:=z; cases z') (fun b z => absurd rfl z) fun z => absurd rfl z
 | none =>
  refine core (fun b => if b = a then some (.frz { cls:=.type "list",data:=.seq vs.toArray } (.lst (ns.map V.int))) else none) (fun b => ?_) (.inl (.inr ⟨{ cls:=.type "list",data:=.seq vs.toArray },if_pos rfl⟩)) (fun b u z => ?_) (fun b z => ?_) fun _ => hk
  ·by_cases hb:b = a
   ·exact .inr ⟨_,_,if_pos hb⟩
   ·exact .inl (if_neg hb)
  ·by_cases hb:b = a
   ·have z':=(if_pos hb).symm.trans z
    cases z'
    subst hb
    exact ⟨ha,by rw [List.length_map]; exact hl,vs,_,rv,ha⟩
   ·have z':=(if_neg hb).symm.trans z
    cases z'
  ·by_cases hb:b = a
   ·exact hb
   ·exact absurd (if_neg hb) z
end L2
namespace L2
open PySem PySem.Spec PyProof.Rows
abbrev KOf {K:PySem.W.Frag} {h:Heap} (_:K.In h):PySem.W.Frag:=K
theorem walk_of {l:PySem.W.OpenLaw} {n k:Nat} {q:Program} {loose:List Str} {XP:(Str→Option Value)→Heap→Prop} {YP:World→Heap→Prop} {d:DefRec} {K:Params→PySem.W.Frag} {CX:World→CXT} {sp:World→Sp} {x:Str}
  (hn:l.most = some n) (hn2:n≤sizeLine) (hdf:d.params.defaults = []) (hr:Room k callerA)
  (hY:∀ (w:World) (h:Heap),YP w h→(K w.params).In h)
  (F:∀ (w:World) (mg:Str→Option Value) (fa:Addr) (h:Heap),(K w.params).In h→h.Ns mainGlobals mg→mg d.name = some (.ref fa) →
   ∃ fd:FuncData,(∀ (s:Shared) (u:Value),BindsTo s fd ⟨[u],[]⟩ [(x,u)]) ∧
    ∀ base:Heap,(K w.params).In base→base.Ns mainGlobals mg→FnOk l.prog w (K w.params) mg base (CX w) k fa fd [x] (sp w))
  (hsp:∀ (w:World) (H:Hp) (a:Addr) (ns:List Int),ns.length≤n→Only H→SqL (K w.params) H a (ns.map V.int)→sp w [.ref a] H (fun v _ => v = .bl true) fun _ _ _ => False)
  (hCX:∀ (w:World) (H:Hp) (s:Shared) (e:Value) (s':Shared),CX w [] H s (fun _ _ _ => False) e s'→False) :
  PySem.W.WalkO q loose XP YP l.row.toRowW d [] (fun f vs => PySem.call f vs):=by
 refine Att.attach_call hn hdf fun w s₀ s₁ mg mb fa o pm cd doc a vs ns G Y ho hd hcd hmg hobj hints hlen hg => ?_
 have KX:=hY w _ Y
 obtain ⟨fd,hb,hF⟩:=F w mg fa _ KX G.T.g hmg
 exact law_call KX G.T.g G.T.b G.T.builtins G.T.nolimit hg hobj hints (Nat.le_trans hlen hn2) hr hF hb (fun H hO hS => hsp w H a ns hlen hO hS) fun H e s' => hCX w H s₁ e s'
end L2
namespace L2
open PySem PySem.Spec PyProof.Rows
def inClass (s:Stmt) (j:Nat):Stmt:=match s with
 | .ClassDef _ _ _ body _ _ _ _ _ _ _ => body.getD j (.Pass ⟨0,0,0,0⟩)
 | _ => .Pass ⟨0,0,0,0⟩
def defArgs (s:Stmt):Arguments:=match s with
 | .FunctionDef _ a _ _ _ _ _ _ _ _ => a
 | _ => { posonlyargs:=[],args:=[],vararg:=none,kwonlyargs:=[],kw_defaults:=[],kwarg:=none,defaults:=[] }
def defBody (s:Stmt):List Stmt:=match s with
 | .FunctionDef _ _ b _ _ _ _ _ _ _ => b
 | _ => []
def defScope (s:Stmt):Scope:=match s with
 | .FunctionDef _ _ _ _ _ _ sc _ _ _ => sc
 | _ => { kind:=.function,names:=[],isGenerator:=false,isCoroutine:=false }
structure Fun (K:PySem.W.Frag) (x qual:Str) (st:Stmt) (f:Addr) (fd:FuncData):Prop where
 ex:∃ (oc:Value) (od:Option Addr) (kV doc pm:Value) (an:Option Addr) (cdv ct:Value) (osl:Array (Option Value)),
  fd = PySem.W.fnOf x qual (defArgs st) (defBody st) (defScope st) .none kV doc pm an cdv ct∧K.lookup f = some ⟨oc,od,.func fd,osl⟩∧PySem.W.codeIn K cdv qual = true
 kp:PySem.W.keepIn K (.ref f) = true
section
variable {P:Program} {w:World} {K:PySem.W.Frag} {mg:Str→Option Value} {base:Heap}
theorem Fun.binds {x qual:Str} {st:Stmt} {f:Addr} {fd:FuncData} {ps:List Str} (F:Fun K x qual st f fd)
  (h:∀ (kV doc pm:Value) (an:Option Addr) (cdv ct:Value) (us:List Value),us.length = ps.length→bindArgs (PySem.W.fnOf x qual (defArgs st) (defBody st) (defScope st) .none kV doc pm an cdv ct) ⟨us,[]⟩ = pure (ps.zip us)):Binds K fd ps []:=by
 obtain ⟨oc,od,kV,doc,pm,an,cdv,ct,osl,rfl,lk,hcd⟩:=F.ex
 exact .all (h kV doc pm an cdv ct)
theorem fun_mk {x qual:Str} {st:Stmt} {f:Addr} {oc:Value} {od an:Option Addr} {osl:Array (Option Value)} {kV doc pm cdv ct:Value} (l:K.lookup f = some ⟨oc,od,.func (PySem.W.fnOf x qual (defArgs st) (defBody st) (defScope st) .none kV doc pm an cdv ct),osl⟩)
  (c:PySem.W.codeIn K cdv qual = true) (k:PySem.W.keepIn K (.ref f) = true):Fun K x qual st f (PySem.W.fnOf x qual (defArgs st) (defBody st) (defScope st) .none kV doc pm an cdv ct):=⟨⟨oc,od,kV,doc,pm,an,cdv,ct,osl,rfl,l,c⟩,k⟩
end
section
variable {X:Cx}
theorem pv (i:Nat) {x:Str} {pos:Pos} (hN:X.N[i]? = some x:=by rfl) (hv:Vis X.env.scope x:=by first | exact Or.inl rfl | exact Or.inr (Or.inl rfl) | exact Or.inr (Or.inr rfl)) (hd:(x == ("__debug__":Str)) = false:=by decide)
  (hcd:(x == ("__classdict__":Str)) = false:=by decide):PE X (.Name x pos) (tVar i):=pe_var hN hv hd hcd
end
theorem iteF {A B:Prop} (h:B):if false = true then A else B:=by
 rw [if_neg Bool.false_ne_true]
 exact h
theorem iteT {A B:Prop} (h:A):if true = true then A else B:=by
 rw [if_pos rfl]
 exact h
theorem iteNS {c A B:Prop} [Decidable c] (hc:c) (h:B):if (!decide c) = true then A else B:=by
 rw [decide_eq_true hc]
 exact iteF h
def Same (H H':Hp):Prop:=∀ b o,H b = some o→H' b = some o
theorem Same.refl (H:Hp):Same H H:=fun _ _ h => h
theorem Same.trans {H H1 H2:Hp} (a:Same H H1) (b:Same H1 H2):Same H H2:=fun c o h => b c o (a c o h)
theorem Same.seq {K:PySem.W.Frag} {H H':Hp} {a:Addr} {xs:List V} (e:Same H H') (h:SqL K H a xs):SqL K H' a xs:=by
 rcases h with (h | ⟨o,h⟩) | h
 ·exact .inl (.inl (e _ _ h))
 ·exact .inl (.inr ⟨o,e _ _ h⟩)
 ·exact .inr h
end L2
namespace L2
open PySem PySem.Spec PyProof.Rows
theorem ObjOk.there {P:Program} {w:World} {H:Hp} {h:Heap} {a:Addr} {o:HO} (x:ObjOk P w H h a o):∃ u,h.get? a = some u:=by
 cases o with
 | lst xs => obtain ⟨_,_,_,_,e⟩:=x; exact ⟨_,e⟩
 | tup xs => obtain ⟨_,_,_,ob,e,_⟩:=x; exact ⟨_,e⟩
 | dK kvs => obtain ⟨_,_,_,_,ob,_,_,e,_⟩:=x; exact ⟨_,e⟩
 | dT kvs => obtain ⟨_,_,_,_,ob,_,_,e,_⟩:=x; exact ⟨_,e⟩
 | set S n => obtain ⟨ob,_,_,_,e,_⟩:=x; exact ⟨_,e⟩
 | ins C dx fs => obtain ⟨_,_,_,e,_⟩:=x; exact ⟨_,e⟩
 | own y => exact x
 | xd fs => obtain ⟨_,⟨_,_,_,e,_⟩,_⟩:=x; exact ⟨_,e⟩
 | rng lo hi => obtain ⟨_,_,_,e⟩:=x; exact ⟨_,e⟩
 | frz ob u => obtain ⟨e,_⟩:=x; exact ⟨_,e⟩
 | tbl ps => exact ⟨_,(show h.get? a = some _ from x)⟩
 | met f y => exact ⟨_,(show h.get? a = some _ from x)⟩
 | ext φ => obtain ⟨_,e,_⟩:=x; exact e
theorem HOk.free_of {P:Program} {w:World} {H:Hp} {h:Heap} {a:Addr} (x:HOk P w H h) (e:h.get? a = none):H a = none:=by
 cases q:H a with
 | none => rfl
 | some o => obtain ⟨u,z⟩:=(x a o q).there; rw [e] at z; cases z
structure Flies (h0 h:Heap) (H:Hp) (e C:Addr):Prop where
 ex:∃ oe vs T oT ts,∃ a0:Value × Value,h.get? e = some oe∧oe.cls = .ref C∧vs[0]? = some a0.1∧oe.data = .fields vs∧vs[1]? = some (.ref T)∧T≠e∧h.get? T = some oT∧oT.data = .fields ts∧ts[3]? = some .none∧h0.get? T = none∧H T = none∧vs[2]? = some a0.2∧CxO H a0.2
 new:h0.get? e = none
 free:H e = none
def XC (P:Program) (w:World):CXT:=fun outer H s E e s' => ∃ (ea C:Addr) (H':Hp),e = .ref ea∧s'.os = s.os∧AllBare s'.gens∧Un (frs outer) [] H H' s.heap s'.heap∧HOk P w H' s'.heap∧Flies s.heap s'.heap H' ea C∧E (.ref C) none H'
theorem Un.late {fs ex ch:List Addr} {H H':Hp} {h h1 h2:Heap} (u:Un fs ex H H' h h1) (fresh:∀ b∈ch,h.get? b = none)
  (k:∀ b o,b ∉ fs→b ∉ ch→h1.get? b = some o→h2.get? b = some o) (ks:∀ b o,b∈fs→h1.get? b = some o→∃ sl,h2.get? b = some { o with slots:=sl }):Un fs ex H H' h h2:=by
 have nch:∀ b o,h.get? b = some o→b ∉ ch:=fun b o q z => by have:=fresh b z; rw [q] at this; cases this
 refine ⟨fun b o q n hb hx => k b o hb (nch b o q) (u.keep b o q n hb hx),fun b o q n hb hx => ?_,u.free,fun b o q hx => ?_,u.tups,u.frzs,u.tbls⟩
 ·obtain ⟨sl,e1⟩:=u.slot b o q n hb hx
  obtain ⟨sl',e2⟩:=ks b _ hb e1
  exact ⟨sl',e2⟩
 ·obtain ⟨o',e1⟩:=u.there b o q hx
  by_cases hb:b∈fs
  ·obtain ⟨sl,e2⟩:=ks b o' hb e1
   exact ⟨_,e2⟩
  ·exact ⟨o',k b o' hb (nch b o q) e1⟩
section
variable {X:Cx} {pins:List (Addr × Obj)} {σ:St} {H H':Hp} {s s':Shared} {ea C:Addr} {a0:Value × Value} {h':Heap} {ch:List Addr}
theorem fly_after (I:Inv X pins σ H s) (hst:X.stack = X.env :: X.outer) (os:s'.os = s.os) (bare:AllBare s'.gens) (un:Un (frs X.stack) [] H H' s.heap s'.heap) (hok:HOk X.prog X.w H' s'.heap)
  (hch:∀ b∈ch,s.heap.get? b = none∧H' b = none) (hea:ea∈ch) (hcx:CxO H' a0.2) (L:StepC (PySem.W.hideAll s'.heap (ch ++ frs X.stack)) (X.env :: X.outer) ea (.ref C) a0 .none s'.heap h') :
  Inv X pins σ H' { s' with heap:=h' }∧Flies s.heap h' H' ea C:=by
 have I1:Inv X pins σ H' s':=I.call' (ch:=[]) os un hok bare (fun b z => absurd z (by simp))
 obtain ⟨st,ff,tr,up⟩:=L
 have FF:s'.heap.FunFrames X.base X.stack:=I1.stack
 have keep:∀ b o,b ∉ frs X.stack→b ∉ ch→s'.heap.get? b = some o→h'.get? b = some o:=fun b o hb hc e => st b o (PySem.W.hideAll_get _ e fun z => (List.mem_append.mp z).elim hc hb)
 have slots:∀ b o,b∈frs X.stack→s'.heap.get? b = some o→∃ sl,h'.get? b = some { o with slots:=sl }:=fun b o hb e => by
  obtain ⟨_,o',ho',hd⟩:=FF.mem hb
  rw [e] at ho'; cases ho'
  exact up b o e hd
 have un2:Un (frs X.stack) [] H H' s.heap h':=un.late (ch:=ch) (fun b hb => (hch b hb).1) keep slots
 have free:∀ b,H' b≠none→b ∉ frs X.stack∧b ∉ ch:=fun b n => ⟨fun z => n (I1.stkFree b z),fun z => n (hch b z).2⟩
 have hok2:HOk X.prog X.w H' h':=fun b o e => (hok b o e).stay (fun c u hc q => by
  have n:H' c≠none:=by
   rcases hc with z | z
   ·rw [z,e]; simp
   ·rw [z]; simp
  exact keep c u (free c n).1 (free c n).2 q) (fun _ q => q) fun _ _ q => q
 refine ⟨I.call' (s':={ s' with heap:=h' }) (ch:=[]) os un2 hok2 bare (fun b z => absurd z (by simp)),⟨?_,(hch ea hea).1,(hch ea hea).2⟩⟩
 obtain ⟨oe,vs,T,oT,ts,e1,⟨e2,e3,c3⟩,e4,e5,e6,e7,e8,e9,e10⟩:=tr
 have hT:s.heap.get? T = none∧H' T = none:=by
  cases q:s'.heap.get? T with
  | none =>
   refine ⟨?_,hok.free_of q⟩
   cases q2:s.heap.get? T with
   | none => rfl
   | some o => obtain ⟨o',z⟩:=un.there T o q2 (by simp); rw [q] at z; cases z
  | some o =>
   by_cases hc:T∈ch
   ·exact hch T hc
   ·by_cases hf:T∈frs X.stack
    ·have hf2:T∈frs (X.env :: X.outer):=hst▸hf
     obtain ⟨_,o',ho',hd⟩:=ff.mem hf2
     rw [e8] at ho'; cases ho'
     exact absurd e9 (hd ts)
    ·rw [PySem.W.hideAll_get _ q fun z => (List.mem_append.mp z).elim hc hf] at e6
     cases e6
 exact ⟨oe,vs,T,oT,ts,a0,e1,e2,e3,e4,e5,e7,e8,e9,e10,hT.1,hT.2,c3,hcx⟩
theorem frames_hid (I:Inv X pins σ H' s') (hst:X.stack = X.env :: X.outer) (ch:List Addr):s'.heap.FunFrames (PySem.W.hideAll s'.heap (ch ++ frs X.stack)) (X.env :: X.outer):=by
 have FF:s'.heap.FunFrames X.base X.stack:=I.stack
 rw [← hst]
 exact PySem.W.funFrames_hide FF fun env he a hf => List.mem_append_right _ (List.mem_filterMap.mpr ⟨env,he,hf⟩)
theorem leave_on (I:Inv X pins σ H s) (hst:X.stack = X.env :: X.outer) (hf:X.env.frame = some X.env.locals) (os:s'.os = s.os) (bare:AllBare s'.gens) (un:Un (frs X.stack) [] H H' s.heap s'.heap) (hok:HOk X.prog X.w H' s'.heap)
  (fl:Flies s.heap s'.heap H' ea C) {M:Model} {E:Value→Shared→Prop} {Q:Unit→Shared→Prop} (h:∀ h',Inv X pins σ H' { s' with heap:=h' }→Flies s.heap h' H' ea C→Q () { s' with heap:=h' }) :
  wpAny M X.A (leaving X.env (.ref ea)) Q E s':=by
 have I1:Inv X pins σ H' s':=I.call' (ch:=[]) os un hok bare (fun b z => absurd z (by simp))
 obtain ⟨oe,vs,T,oT,ts,a0,e1,e2,e3,e4,e5,e7,e8,e9,e10,e11,e12,c3,cx⟩:=fl.ex
 have hfr:X.A.frames = some (X.env :: X.outer):=by rw [← hst]; exact I.ok.frames
 refine leave_next (base:=PySem.W.hideAll s'.heap ([ea,T] ++ frs X.stack)) (cls:=.ref C) (a0:=a0) hfr (frames_hid I1 hst [ea,T]) hf
  ⟨oe,vs,T,oT,ts,e1,⟨e2,e3,c3⟩,e4,e5,PySem.W.hideAll_none _ (by simp),e7,e8,e9,e10⟩ (fun b o q => PySem.W.of_hideAll _ q) (PySem.W.hideAll_none _ (by simp)) fun h' L => ?_
 obtain ⟨J,F⟩:=fly_after (ch:=[ea,T]) I hst os bare un hok (fun b hb => by
  rcases List.mem_cons.mp hb with rfl | hb
  ·exact ⟨fl.new,fl.free⟩
  ·obtain rfl:b = T:=by simpa using hb
   exact ⟨e11,e12⟩) (by simp) cx L
 exact h h' J F
theorem leave_made (I:Inv X pins σ H s) (hst:X.stack = X.env :: X.outer) (hf:X.env.frame = some X.env.locals) {h1:Heap} {args:List Value} (hm:Heap.MadeExcOf s.heap h1 ea (.ref C) args)
  {M:Model} {E:Value→Shared→Prop} {Q:Unit→Shared→Prop} (h:∀ h',Inv X pins σ H { s with heap:=h' }→Flies s.heap h' H ea C→Q () { s with heap:=h' }) :
  wpAny M X.A (leaving X.env (.ref ea)) Q E { s with heap:=h1 }:=by
 have I1:Inv X pins σ H { s with heap:=h1 }:=I.kept (t':=s.toks) hm.keeps
 obtain ⟨t,e1,e2,e3⟩:=hm.there
 have hfr:X.A.frames = some (X.env :: X.outer):=by rw [← hst]; exact I.ok.frames
 refine leave_first (s:={ s with heap:=h1 }) (base:=PySem.W.hideAll h1 ([ea] ++ frs X.stack)) (a0:=(.ref t,.none)) hfr (frames_hid I1 hst [ea]) hf e1 (fun b o q => PySem.W.of_hideAll _ q)
  (PySem.W.hideAll_none _ (by simp)) rfl rfl rfl rfl fun h' L => ?_
 obtain ⟨J,F⟩:=fly_after (ch:=[ea]) (s':={ s with heap:=h1 }) I hst rfl I.bare (Un.kept hm.keeps) I1.hok (fun b hb => by
  obtain rfl:b = ea:=by simpa using hb
  exact ⟨hm.new,I.hok.free_of hm.new⟩) (by simp) .nil L
 exact h h' J F
end
def Throws (X:Cx) (E:XK):Prop:=∀ (pins:List (Addr × Obj)) (σ:St) (H:Hp) (s:Shared) (ea C:Addr) (h':Heap) (args:List Value),Inv X pins σ H s→Heap.MadeExcOf s.heap h' ea (.ref C) args→E (.ref C) none H→X.xe (.ref ea) { s with heap:=h' }
section
variable {P:Program} {w:World} {K:PySem.W.Frag} {mg:Str→Option Value} {base:Heap} {N ps:List Str} {qual:Str} {scope:Scope} {f:Addr} {cd:Value} {A:Around} {outer:List Env} {s:Shared} {H:Hp} {E:XK}
abbrev cxE (P:Program) (w:World) (K:PySem.W.Frag) (mg:Str→Option Value) (base:Heap) (N:List Str) (qual:Str) (scope:Scope) (f:Addr) (cd:Value) (A:Around) (outer:List Env) (s:Shared) (H:Hp) (E:XK) (c:Bool:=true):Cx :=
 cxOf (XC P w) P w K mg base N qual scope f cd A outer s H E c
theorem fresh_start {c:Bool} {pins:List (Addr × Obj)} {σ:St} {H1 H':Hp} {s1:Shared} {h':Heap} {ea C:Addr} (I:Inv (cxE P w K mg base N qual scope f cd A outer s H E c) pins σ H1 s1) (F:Flies s1.heap h' H' ea C):Flies s.heap h' H' ea C:=by
 have z:∀ b,s1.heap.get? b = none→s.heap.get? b = none:=fun b q => by
  cases q2:s.heap.get? b with
  | none => rfl
  | some o => obtain ⟨o',e⟩:=I.base.there b o q2 (by simp [cxOf]); rw [q] at e; cases e
 obtain ⟨oe,vs,T,oT,ts,a0,e1,e2,e3,e4,e5,e7,e8,e9,e10,e11,e12,c3,cx⟩:=F.ex
 exact ⟨⟨oe,vs,T,oT,ts,a0,e1,e2,e3,e4,e5,e7,e8,e9,e10,z _ e11,e12,c3,cx⟩,z _ F.new,F.free⟩
theorem passes_of {c:Bool}:Passes (XC P w) (cxE P w K mg base N qual scope f cd A outer s H E c) E:=by
 intro pins σ H1 s1 e s' I h
 obtain ⟨ea,C',H',rfl,os,bare,un,hok,fl,q⟩:=h
 refine leave_on I rfl rfl os bare un hok fl fun h' J F => ?_
 exact ⟨ea,C',H',rfl,J.os,J.bare,J.base,J.hok,fresh_start I F,q⟩
theorem throws_of {c:Bool}:Throws (cxE P w K mg base N qual scope f cd A outer s H E c) E:=by
 intro pins σ H1 s1 ea C h1 args I hm q
 refine leave_made I rfl rfl hm fun h' J F => ?_
 exact ⟨ea,C,H1,rfl,J.os,J.bare,J.base,J.hok,fresh_start I F,q⟩
theorem owns_of {c:Bool}:PassesOwn (model P w) (cxE P w K mg base N qual scope f cd A outer s H E c).A (cxE P w K mg base N qual scope f cd A outer s H E c).env (cxE P w K mg base N qual scope f cd A outer s H E c).xe:=PassesOwn.leaving
theorem Fun.okX {x:Str} {st:Stmt} {fd:FuncData} {k:Nat} {sp:Sp} {c:Bool} (F:Fun K x qual st f fd) (S:FnScope N ps (defScope st)) (len:∀ vs H Q E,sp vs H Q E→vs.length = ps.length)
  (hbody:∀ (cdv:Value) (A:Around) (outer:List Env) (s:Shared) (H:Hp) (vs:List V) (Q:VK) (E:XK),RoomC c k (A.deeper (envOfC qual (defScope st) s.heap.objs.size f cdv))→sp vs H Q E →
   ∃ t,PSs (cxE P w K mg base N qual (defScope st) f cdv A outer s H E c) (defBody st) t∧t { nx:=fun _ H' => Q .non H',rt:=Q } (start N vs) H):FnOk P w K mg base (XC P w) (k + 1) f fd ps sp c:=by
 obtain ⟨oc,od,kV,doc,pm,an,cdv,ct,osl,rfl,lk,hcd⟩:=F.ex
 exact fn_of lk hcd S len fun A outer s H vs Q E hr hsp => hbody cdv A outer s H vs Q E hr hsp
end
theorem exc_cls {K:PySem.W.Frag} {h:Heap} {C:Addr} {bmB:List Value} {newId:String} (X:K.In h) (q:PySem.W.excIn K C bmB newId = true) :
  ∃ nm qn N bs bm hdct sn sub ab col dd k0 k1 k2 k3 k5 mN,h.get? C = some (excClassObj nm qn C N bs bm hdct sn sub ab col dd k0 k1 k2 k3 k5 newId)∧h.Ns N mN∧mN "__init__" = none∧OwnTail h bmB bm:=by
 unfold PySem.W.excIn at q
 split at q
 ·rename_i dd cd sl ho
  split at q
  ·rename_i C' bm k0 k1 k2 k3 n k5 hm hs
   simp only [Bool.and_eq_true,beq_iff_eq,Bool.not_eq_true'] at q
   obtain ⟨⟨⟨⟨⟨e1,e2⟩,hdel⟩,ht⟩,hok⟩,hni⟩:=q
   subst e1 e2
   obtain ⟨nm,bs,mro,ns,qn,hd,sn,sub,ab,col,del⟩:=cd
   dsimp only at hm hdel hok hni
   subst hm hdel
   obtain ⟨l⟩:=sl
   have hs':l = [k0,k1,k2,k3,some (.builtin n),k5]:=hs
   subst hs'
   exact ⟨nm,qn,ns,bs,bm,hd,sn,sub,ab,col,dd,k0,k1,k2,k3,k5,_,X _ _ ho,.of_isNs (PySem.W.isNs_of_in X hok),PySem.W.nsMap_none_of_in X hok hni,PySem.W.tail_of_in X ht⟩
  ·cases q
 ·cases q
abbrev bmV:List Value:=[.type "ValueError",.type "Exception",.type "BaseException",.type "object"]
structure Err (K:PySem.W.Frag) (mg:Str→Option Value) (x:Str) (C:Addr):Prop where
 mg:mg x = some (.ref C)
 ex:PySem.W.excIn K C bmV "ValueError.__new__" = true
def tRaise (C:Addr) (ta:TA) (E:XK):TS:=fun _ σ H => ta σ H fun vs H1 => vs.length≤sizeLine∧E (.ref C) none H1
theorem ps_raise {X:Cx} {E:XK} {x:Str} {C:Addr} {e:Expr} {es:List Expr} {ta:TA} {np cpos pos:Pos} (hT:Throws X E) (hc:X.calm = true) (R:Err X.K X.mg x C) (hg:Gl X x) (ha:PA X (e :: es) ta)
  (hd:(x == ("__debug__":Str)) = false:=by decide) (he:starEach (e :: es) X.env = (false,eval e X.env) :: starEach es X.env:=by rfl) (hpl:(backTo cpos (starEach es X.env)).any (·.1) = false:=by rfl) :
  PS X (.Raise (some (.Call (.Name x np) (e :: es) [] cpos)) none pos) (tRaise C ta E):=by
 intro pins s σ H D I h
 obtain ⟨nm,qn,N,bs,bm,hdct,sn,sub,ab,col,dd,k0,k1,k2,k3,k5,mN,hC,hN,hni,T⟩:=exc_cls I.ok.mod.kin R.ex
 refine wpAny_Raise_call_subU (C:=C) (nm:=nm) (q:=qn) (N:=N) (bs:=bs) (bm:=bm) (hdct:=hdct) (sn:=sn) (sub:=sub) (ab:=ab) (col:=col) (dd:=dd) (k0:=k0) (k1:=k1) (k2:=k2) (k3:=k3) (k5:=k5)
  PySem.F.excBase_ValueError (by decide +kernel) PySem.F.excBase_ValueError (mN:=mN) (T.hasType (by decide +kernel)) (I.ok.hd hc) (by rw [he]; show (false || (backTo cpos (starEach es X.env)).any (·.1)) = false; rw [hpl]; rfl) hni
  (ld_glob I hg R.mg ⟨rfl,?_⟩ hd)
 have ha':=ha cpos pins s σ H _ I h
 rw [he] at ha' ⊢
 refine Calls.evalArgs_plain (thn ha' fun us s1 ⟨vs,H1,I1,r,hl,q⟩ => ?_)
 refine ⟨rfl,by rw [← r.length]; exact hl,I1.bk _ _ hC,hN.keeps I1.bk,T.keeps I1.bk,fun h' ea hm => ?_⟩
 exact hT pins σ H1 s1 ea C h' us I1 hm q
end L2
namespace L2
open PySem PySem.Spec PyProof.Rows
theorem comp_turns {prog:Program} {w:World} {A:Around} {R:Result→Shared→Prop} {s:Shared} {elt tg iter:Expr} {ifs:List Expr} {scope:Scope} {pos:Pos} {it acc:Value} {env:Env} (J:Nat→Shared→Prop)
  (turn:∀ n s,J n s→wpAny (model prog w) A (pyNext it) (fun r s1 => match r with
   | none => R (.ok .next) s1
   | some v => wpAny (model prog w) A (letOwnedTupleGo tg it v) (fun _ s2 => wpAny (model prog w) A (assign tg env v) (fun _ s3 =>
     wpAny (model prog w) A (forIn ifs true fun c r => if r = true then do let ok ← isTrue c env (eval c env); pure (ForInStep.yield ok) else pure (ForInStep.yield r)) (fun ok s4 =>
      if ok = true then wpAny (model prog w) A (eval elt env) (fun x s5 => wpAny (model prog w) A (call (.builtin "list.append") [acc,x]) (fun _ s6 => ∃ m,m < n∧J m s6) (fun _ _ => False) s5) (fun _ _ => False) s4
      else ∃ m,m < n∧J m s4) (fun _ _ => False) s3) (fun _ _ => False) s2) (fun _ _ => False) s1) (fun _ _ => False) s)
  (n:Nat) (h:J n s):codeAny (model prog w) A (.compLoop (.ListComp elt [⟨tg,iter,ifs,0⟩] scope pos) 0 it acc env) R s:=by
 refine codeAny_loop rfl J (fun n s hJ => ?_) n h
 show wpAny _ A ((compTurn (.ListComp elt [⟨tg,iter,ifs,0⟩] scope pos) 0 it acc env).onRaise _) _ _ s
 refine wpAny_noted (wpAny_noRaise ?_)
 rw [compTurn_list]
 refine wpAny_bind (wpAny_standAt (wpAny_bind (thn (turn n s hJ) fun r s1 h1 => ?_)))
 cases r with
 | none => exact wpAny_pure h1
 | some v =>
  refine wpAny_bind (thn h1 fun _ s2 h2 => wpAny_bind (thn h2 fun _ s3 h3 => wpAny_bind (thn h3 fun ok s4 h4 => ?_)))
  cases ok with
  | false => exact wpAny_pure ⟨rfl,h4⟩
  | true => exact wpAny_bind (wpAny_bind (thn h4 fun x s5 h5 => wpAny_bind (thn h5 fun _ s6 h6 => wpAny_pure (wpAny_pure ⟨rfl,h6⟩))))
abbrev Cx.blk (X:Cx) (scope:Scope) (cl:List (Str × Addr)) (C:Addr) (own:List Str) (s:Shared) (H:Hp) (fp:List Addr) (pins:List (Addr × Obj)):Cx :=
 { X with N:=X.N ++ own,env:=compEnvC scope cl C X.env,s₀:=s,H₀:=H,outer:=X.stack,ex:=fp,fn:=fun _ => false,pn:=X.pn ++ pins,xe:=fun _ _ => False }
theorem lookup_relab {env:Env} {x:Str}:∀ {names:List (Str × NameKind)},(names.map fun (n,k) => if (k == NameKind.free && env.scope.kind == .function && env.kindOf n == some .cell) then (n,NameKind.cell) else (n,k)).lookup x =
  (names.lookup x).map fun k => if (k == NameKind.free && env.scope.kind == .function && env.kindOf x == some .cell) then NameKind.cell else k
 | [] => rfl
 | (n,k) :: r => by
  have ih:=@lookup_relab env x r
  rw [List.map_cons]
  show List.lookup x ((if (k == NameKind.free && env.scope.kind == .function && env.kindOf n == some .cell) = true then (n,NameKind.cell) else (n,k)) :: _) = _
  have e:(if (k == NameKind.free && env.scope.kind == .function && env.kindOf n == some .cell) = true then (n,NameKind.cell) else (n,k)) = (n,if (k == NameKind.free && env.scope.kind == .function && env.kindOf n == some .cell) = true then NameKind.cell else k):=by
   split <;> rfl
  rw [e]
  cases q:x == n with
  | true =>
   obtain rfl:x = n:=by simpa using q
   simp [List.lookup_cons]
  | false => simp only [List.lookup_cons,q]; exact ih
structure CompScope (X:Cx) (scope:Scope) (cl:List (Str × Addr)):Prop where
 clos:closureFor scope X.env = pure cl
 kind:scope.kind = .function
 nocell:∀ y∈scope.names,y.2≠.cell
 names:∀ y∈scope.names,y.2 = .local→scope.names.lookup y.1 = some .local
 sub:∀ x c,cl.lookup x = some c→X.env.cells.lookup x = some c
 has:∀ x,scope.names.lookup x = some .free→∃ c,cl.lookup x = some c
 apart:∀ x∈X.N,scope.names.lookup x≠some .local
 outer:∀ x,scope.names.lookup x = some .free→X.env.kindOf x = some .cell∨X.env.kindOf x = some .free
theorem lookup_mem {α β:Type} [BEq α] [LawfulBEq α] {l:List (α × β)} {x:α} {b:β} (h:l.lookup x = some b):(x,b)∈l:=by
 induction l with
 | nil => simp at h
 | cons p r ih =>
  obtain ⟨a,c⟩:=p
  rw [List.lookup_cons] at h
  split at h
  ·rename_i q
   obtain rfl:x = a:=by simpa using q
   cases h; exact .head _
  ·exact .tail _ (ih h)
section
variable {X:Cx} {scope:Scope} {cl:List (Str × Addr)} {own:List Str} {pins:List (Addr × Obj)} {σ:St} {H2 H3:Hp} {s2:Shared} {fp:List Addr} {C:Addr} {h1:Heap}
theorem stk_no {b:Addr} (I2:Inv X pins σ H2 s2) (n1:b≠X.env.locals) (n2:b ∉ X.fs):b ∉ frs X.stack:=fun z => (List.mem_cons.mp (I2.stkSub b z)).elim n1 n2
theorem blk_in (S:CompScope X scope cl) (I2:Inv X pins σ H2 s2) (f2:∀ b∈fp,FpOk X pins H2 b) (hlt:∀ b∈fp,b < s2.heap.objs.size) (hC:s2.heap.objs.size≤C) {m:Str→Option Value} (hns:h1.Ns C m)
  (keep:∀ b o,s2.heap.get? b = some o→h1.get? b = some o) (hH:∀ b o,s2.heap.get? b = some o→H2 b = none→H3 b = none) (un:Un (frs X.stack) fp H2 H3 s2.heap h1) (hok:HOk X.prog X.w H3 h1) (hCf:H3 C = none) {tk:Nat} :
  Inv (X.blk scope cl C own s2 H2 fp pins) [] (σ ++ List.replicate own.length none) H3 { s2 with heap:=h1,toks:=tk }:=by
 have neC:∀ b o,s2.heap.get? b = some o→b≠C:=fun b o e => Nat.ne_of_lt (Nat.lt_of_lt_of_le (Heap.lt_size e) hC)
 have kof:∀ x,(compEnvC scope cl C X.env).kindOf x = (scope.names.lookup x).map fun k => if (k == NameKind.free && X.env.scope.kind == .function && X.env.kindOf x == some .cell) then NameKind.cell else k:=fun x => lookup_relab
 have isfree:∀ x,((compEnvC scope cl C X.env).kindOf x = some .cell∨(compEnvC scope cl C X.env).kindOf x = some .free)→scope.names.lookup x = some .free:=fun x hx => by
  rw [kof x] at hx
  cases q:scope.names.lookup x with
  | none => rw [q] at hx; rcases hx with z | z <;> cases z
  | some k =>
   rw [q] at hx
   have nc:=S.nocell _ (lookup_mem q)
   cases k <;> simp_all
 refine ⟨⟨I2.ok.mod,S.kind,I2.ok.glob,I2.ok.blt,hC,fun x y c e1 e2 => I2.ok.inj x y c (S.sub x c e1) (S.sub y c e2),fun x hx => S.has x (isfree x hx),fun x c z _ => (by cases z),I2.ok.hd,I2.ok.frames,.inl rfl,
  fun b hb => ⟨Nat.ne_of_lt (Nat.lt_of_lt_of_le (hlt b hb) hC),fun x c e => (f2 b hb).2.2.2.2.1 x c (S.sub x c e)⟩,fun b o e => ⟨(I2.bs b o e).1,(I2.bs b o e).2⟩,Nat.le_trans I2.ok.bsz I2.sz,fun b o e hb => ?_,fun b hb => stk_no I2 (f2 b hb).2.1 (f2 b hb).2.2.1,I2.stack,I2.stkFree⟩,
  rfl,I2.bare,un,⟨m,hns,fun i x v e1 e2 e3 => ?_⟩,fun x c e => ?_,hCf,fun x c e => ?_,fun p hp => ?_,hok,?_,I2.hn.mono un.frzs⟩
 ·rcases (f2 b hb).2.2.2.1 with z | z
  ·exact I2.ok.noex b o e z
  ·exact absurd (Nat.lt_of_lt_of_le (Nat.lt_of_lt_of_le (Heap.lt_size e) I2.ok.bsz) z) (Nat.lt_irrefl _)
 ·
  have hi:i < σ.length:=by
   apply Classical.byContradiction
   intro hn
   rw [List.getElem?_append_right (by omega),List.getElem?_replicate] at e2
   split at e2 <;> cases e2
  rw [List.getElem?_append_left hi] at e2
  have hi2:i < X.N.length:=by rw [← I2.len]; exact hi
  have e1':X.N[i]? = some x:=by rw [← List.getElem?_append_left (l₂:=own) hi2]; exact e1
  have hx:x∈X.N:=List.mem_of_getElem? e1'
  have e3':(compEnvC scope cl C X.env).kindOf x = some .local∨(compEnvC scope cl C X.env).kindOf x = some .cell∨(compEnvC scope cl C X.env).kindOf x = some .free:=e3
  have nl:(compEnvC scope cl C X.env).kindOf x≠some .local:=fun z => by
   rw [kof x] at z
   cases q:scope.names.lookup x with
   | none => rw [q] at z; cases z
   | some k =>
    rw [q,Option.map_some] at z
    have na:=S.apart x hx
    rw [q] at na
    cases k <;> first
     | exact na rfl
     | (have z':=Option.some.inj z; split at z' <;> cases z')
  have hcf:(compEnvC scope cl C X.env).kindOf x = some .cell∨(compEnvC scope cl C X.env).kindOf x = some .free:=e3'.resolve_left nl
  obtain ⟨c,hc⟩:=S.has x (isfree x hcf)
  obtain ⟨m0,hn0,hl0⟩:=I2.loc
  have hcX:=S.sub x c hc
  have ho:=S.outer x (isfree x hcf)
  obtain ⟨u,r,l⟩:=hl0 i x v e1' e2 (.inr ho)
  refine ⟨u,r,.inr ⟨hcf,c,hc,?_⟩⟩
  rcases l with ⟨z,_⟩ | ⟨_,c',hc',oc,hoc,hdc⟩
  ·rcases ho with y | y <;> (rw [y] at z; cases z)
  ·rw [hcX] at hc'
   cases hc'
   exact ⟨oc,keep _ _ hoc,hdc⟩
 ·obtain ⟨v,⟨oc,hoc,hdc⟩⟩:=I2.cell x c (S.sub x c e)
  exact ⟨v,oc,keep _ _ hoc,hdc⟩
 ·obtain ⟨v,⟨oc,hoc,hdc⟩⟩:=I2.cell x c (S.sub x c e)
  exact hH c oc hoc (I2.freeC x c (S.sub x c e))
 ·obtain ⟨q1,q2,q3,q4,q5⟩:=I2.pin p (by simpa using hp)
  exact ⟨keep _ _ q1,hH _ _ q1 q2,neC _ _ q1,stk_no I2 q3 q4,q5⟩
 ·show (σ ++ List.replicate own.length none).length = (X.N ++ own).length
  rw [List.length_append,List.length_append,List.length_replicate,I2.len]
theorem blk_out (I2:Inv X pins σ H2 s2) (f2:∀ b∈fp,FpOk X pins H2 b) (hC:s2.heap.objs.size≤C) {pl:List (Addr × Obj)} {σ':St} {s4:Shared} {h':Heap} (I4:Inv (X.blk scope cl C own s2 H2 fp pins) pl σ' H3 s4) (sb:Heap.SameBut C s4.heap h') :
  Inv X pins σ H3 { s4 with heap:=h' }:=by
 have un:Un (frs X.stack) fp H2 H3 s2.heap s4.heap:=I4.base
 have nC:s2.heap.get? C = none:=Heap.get?_none_of_le hC
 have CF:C ∉ frs X.stack:=fun z => by
  obtain ⟨_,o,ho,_⟩:=I2.stack.mem z
  rw [nC] at ho; cases ho
 have un2:Un (frs X.stack) fp H2 H3 s2.heap h':=un.late (ch:=[C]) (fun b hb => by
  obtain rfl:b = C:=by simpa using hb
  exact nC) (fun b o _ hb e => (sb.2 b (by simpa using hb)).trans e) fun b o hb e => ⟨o.slots,(sb.2 b fun z => CF (z▸hb)).trans e⟩
 have hf:H3 C = none:=I4.free
 have hok:HOk X.prog X.w H3 h':=fun b o e => (I4.hok b o e).stay (fun c u hc q => (sb.2 c fun z => by
  subst z
  rcases hc with z | z
  ·rw [z,e] at hf; cases hf
  ·rw [z] at hf; cases hf).trans q) (fun _ q => q) fun _ _ q => q
 exact I2.call' (s':={ s4 with heap:=h' }) (ch:=fp) I4.os un2 hok I4.bare fun b hb => ⟨(f2 b hb).2.2.2.1,(f2 b hb).2.1,(f2 b hb).2.2.2.2.1,(f2 b hb).2.2.2.2.2⟩
end
def PF (X:Cx) (ifs:List Expr) (t:TT):Prop :=
 ∀ (pins:List (Addr × Obj)) (s:Shared) (σ:St) (H:Hp) (Q:Bool→Hp→Prop),Inv X pins σ H s→t σ H Q →
  wpAny (model X.prog X.w) X.A (forIn ifs true fun c r => if r = true then do let ok ← isTrue c X.env (eval c X.env); pure (ForInStep.yield ok) else pure (ForInStep.yield r)) (TP X pins σ Q) X.xe s
theorem pf_nil {X:Cx}:PF X [] (fun _ H Q => Q true H):=fun _ _ _ H _ I h => wpAny_tests_nil ⟨H,I,h⟩
theorem pf_one {X:Cx} {c:Expr} {t:TT} (h:PT X c t):PF X [c] t:=fun pins s σ H Q I q => wpAny_tests_one (h pins s σ H Q I q)
def compT (k:Nat) (g:TG) (tc:TT) (te:TE) (σ:St) (Q:VK):It→Hp→Prop:=fun J H1 => ∀ D,H1 D = none→∃ W:Nat→Nat→List V→Hp→Prop,(∃ m,W 0 m [] (upd H1 D (.lst [])))∧∀ i m ys H,W i m ys H →
 H D = some (.lst ys)∧((J.stop i H∧Q (.ref D) H)∨(J.go i H∧ys.length < sizeLine∧∀ x H',J.yld i H x H'→g x (σ ++ List.replicate k none) H' fun σ2 H2 => (∃ zs,σ2 = σ ++ zs∧zs.length = k)∧tc σ2 H2 fun b H3 =>
  if b = true then te σ2 H3 fun y H4 => H4 D = some (.lst ys)∧∃ m',m' < m∧W (i + 1) m' (ys ++ [y]) (upd H4 D (.lst (ys ++ [y]))) else ∃ m',m' < m∧W (i + 1) m' ys H3))
def tComp (wi:TI) (k:Nat) (g:TG) (tc:TT) (te:TE):TE:=fun σ H Q => wi σ H (compT k g tc te σ Q)
section
variable {X:Cx} {tg elt iter:Expr} {ifs:List Expr} {scope:Scope} {cl:List (Str × Addr)} {own:List Str} {wi:TI} {g:TG} {tc:TT} {te:TE} {pos:Pos}
theorem comp_core {p2:Pos} {use:Option (Value→Sem Unit)} {QV:Value→Shared→Prop} {pins:List (Addr × Obj)} {s:Shared} {σ:St} {H:Hp} {Q:VK} (S:CompScope X scope cl) (hi:PI X tg iter wi)
  (hg:∀ C s H fp pins,PG (X.blk scope cl C own s H fp pins) tg g) (ht:∀ C s H fp pins,PF (X.blk scope cl C own s H fp pins) ifs tc) (he:∀ C s H fp pins,PE (X.blk scope cl C own s H fp pins) elt te)
  (hs:∀ x,foldedSetIterable iter X.env x = pure x) (I:Inv X pins σ H s) (h:tComp wi own.length g tc te σ H Q)
  (fin:∀ D C s2 H2 H3 s4,Inv X pins σ H2 s2→s2.heap.objs.size≤C→H3 C = none→(∃ m,s4.heap.Ns C m)→(∀ h',Heap.SameBut C s4.heap h'→Inv X pins σ H3 { s4 with heap:=h' })→Q (.ref D) H3→compPost (model X.prog X.w) X.A X.xe use QV (.ref D) C (.ok .next) s4) :
  wpAny (model X.prog X.w) X.A (comprehension (.ListComp elt [⟨tg,iter,ifs,0⟩] scope pos) scope X.env p2 (newList []) false (eval iter X.env) use) QV X.xe s:=by
 refine wpAny_comprehension_free (use:=use) rfl hs S.clos S.kind S.names (thn (hi pins s σ H _ I h) fun v s1 h1 => thn h1 fun itv s2 h2 => ?_)
 obtain ⟨it,fp,tn,J,H2,e,I2,T,st2,f2,R⟩:=h2
 subst e
 obtain ⟨nm,T,hc⟩:=T
 refine wpAny_newObj_type (wpAny_newFunctionEnv S.nocell (by intro y hy; simp at hy) (fun h1 hns hsb => ?_) S.kind)
 dsimp only at hns hsb ⊢
 have hlt:∀ b∈fp,b < s2.heap.objs.size:=fun b hb => by
  obtain ⟨o,ho,_⟩:=T.obj 0 _ st2 b hb
  exact Heap.lt_size ho
 generalize hp:s2.heap.push { cls:=.type "list",dict:=none,data:=.seq ([]:List Value).toArray } = hl at hns hsb ⊢
 have hC:hl.objs.size = s2.heap.objs.size + 1:=by rw [← hp,Heap.size_push]
 have hCle:s2.heap.objs.size≤hl.objs.size:=by rw [hC]; exact Nat.le_succ _
 have hDC:s2.heap.objs.size≠hl.objs.size:=by rw [hC]; exact Nat.ne_of_lt (Nat.lt_succ_self _)
 have old:∀ b o,hl.get? b = some o→h1.get? b = some o:=fun b o e => hsb.extBut b o (Nat.ne_of_lt (Heap.lt_size e)) (Heap.get?_push_of_some _ e)
 have old2:∀ b o,s2.heap.get? b = some o→h1.get? b = some o:=fun b o e => old b o (hp▸Heap.get?_push_of_some _ e)
 have Dn:H2 s2.heap.objs.size = none:=I2.fresh
 have Cn:H2 hl.objs.size = none:=I2.hok.fresh hCle
 obtain ⟨W,⟨m0,w0⟩,step⟩:=R s2.heap.objs.size Dn
 have hobj:h1.get? s2.heap.objs.size = some { cls:=.type "list",data:=.seq ([]:List Value).toArray }:=old _ _ (hp▸Heap.get?_push_size _ rfl)
 have I3:Inv (X.blk scope cl hl.objs.size own s2 H2 fp pins) [] (σ ++ List.replicate own.length none) (upd H2 s2.heap.objs.size (.lst [])) { s2 with heap:=h1,toks:=s2.toks + ([]:List (Str × Value)).length } :=
  blk_in S I2 f2 hlt hCle hns old2 (fun b o e n => by rw [upd_ne (Nat.ne_of_lt (Heap.lt_size e))]; exact n) (Un.laid old2 (Nat.le_refl _) Dn) (I2.hok.laid old2 (Nat.le_refl _) (show ObjOk X.prog X.w (upd H2 s2.heap.objs.size (.lst [])) h1 s2.heap.objs.size (.lst []) from ⟨Nat.zero_le _,[],0,.nil,hobj⟩)) (by rw [upd_ne (Ne.symm hDC)]; exact Cn)
 have fpn:∀ b∈fp,upd H2 s2.heap.objs.size (.lst []) b = none:=fun b hb => by rw [upd_ne (Nat.ne_of_lt (hlt b hb))]; exact (f2 b hb).1
 have stat:∀ {H':Hp},(∀ b∈fp,H' b = none)→∀ b∈fp,FpOk (X.blk scope cl hl.objs.size own s2 H2 fp pins) [] H' b:=fun hn b hb =>
  ⟨hn b hb,Nat.ne_of_lt (Nat.lt_of_lt_of_le (hlt b hb) hCle),stk_no I2 (f2 b hb).2.1 (f2 b hb).2.2.1,.inl hb,fun x c e => (f2 b hb).2.2.2.2.1 x c (S.sub x c e),fun p hp => (f2 b hb).2.2.2.2.2 p (by simpa using hp)⟩
 have loop:∀ s3:Shared,s3 = { s2 with heap:=h1,toks:=s2.toks + ([]:List (Str × Value)).length } →
   codeAny (model X.prog X.w) X.A (.compLoop (.ListComp elt [⟨tg,iter,ifs,0⟩] scope pos) 0 (.ref it) (.ref s2.heap.objs.size) (compEnvC scope cl hl.objs.size X.env)) (compPost (model X.prog X.w) X.A X.xe use QV (.ref s2.heap.objs.size) hl.objs.size) s3:=by
  rintro s3 rfl
  refine comp_turns (fun n s' => ∃ i ys H',Inv (X.blk scope cl hl.objs.size own s2 H2 fp pins) [] (σ ++ List.replicate own.length none) H' s'∧tn i s'.heap∧(∀ b∈fp,H' b = none)∧W i n ys H') ?_ m0
   ⟨0,[],_,I3,T.keep 0 _ _ st2 (fun b _ o e => old2 b o e),fpn,w0⟩
  rintro n s3 ⟨i,ys,H3,J3,st3,fr3,w3⟩
  obtain ⟨hD,⟨stop,q⟩ | ⟨go,hlen,turn⟩⟩:=step i n ys H3 w3
  ·refine thn (T.done (X.blk scope cl hl.objs.size own s2 H2 fp pins) rfl rfl rfl hc i [] s3 _ H3 _ J3 (stat fr3) st3 stop) fun r s4 ⟨hr,J4⟩ => ?_
   subst hr
   obtain ⟨m4,hn4,_⟩:=J4.loc
   exact fin _ _ s2 H2 H3 s4 I2 hCle J4.free ⟨m4,hn4⟩ (fun h' sb => blk_out I2 f2 hCle J4 sb) q
  ·refine thn (T.item (X.blk scope cl hl.objs.size own s2 H2 fp pins) rfl rfl rfl hc i [] s3 _ H3 _ J3 (stat fr3) st3 go) fun r s4 ⟨u,hr,h4⟩ => ?_
   subst hr
   refine thn h4 fun _ s5 ⟨x,H5,J5,r5,y5,st5,fr5⟩ => ?_
   have J5':=J5.pinned (stat fr5) (T.obj _ _ st5)
   refine thn (hg _ _ _ _ _ _ s5 _ H5 x u _ J5' r5 (turn x H5 y5)) fun _ s6 ⟨σ6,H6,J6,⟨ts,e6,hts⟩,q6⟩ => ?_
   subst e6
   refine thn (ht _ _ _ _ _ _ s6 _ H6 _ J6 q6) fun ok s7 ⟨H7,J7,q7⟩ => ?_
   have again:∀ {s8:Shared} {H8:Hp} {zs:List V},Inv (X.blk scope cl hl.objs.size own s2 H2 fp pins) ([] ++ pinsAt fp s5.heap) (σ ++ ts) H8 s8→(∃ m',m' < n∧W (i + 1) m' zs H8) →
     ∃ m,m < n∧∃ i ys H',Inv (X.blk scope cl hl.objs.size own s2 H2 fp pins) [] (σ ++ List.replicate own.length none) H' s8∧tn i s8.heap∧(∀ b∈fp,H' b = none)∧W i m ys H':=fun {s8 H8 zs} J8 ⟨m',hm,w8⟩ => by
    refine ⟨m',hm,i + 1,zs,H8,?_,T.keep _ _ _ st5 fun b hb o e => (J8.pin (b,o) (List.mem_append_right _ (List.mem_append_right _ (mem_pinsAt hb e)))).1,fun b hb => ?_,w8⟩
    ·refine J8.unpinned.weak (by rw [List.length_append,List.length_append,List.length_replicate,hts]) fun j v ej => ?_
     by_cases hj:j < σ.length
     ·rw [List.getElem?_append_left hj] at ej ⊢
      exact ej
     ·rw [List.getElem?_append_right (by omega),List.getElem?_replicate] at ej
      split at ej <;> cases ej
    ·obtain ⟨o,e,d⟩:=T.obj _ _ st5 b hb
     exact (J8.pin (b,o) (List.mem_append_right _ (List.mem_append_right _ (mem_pinsAt hb e)))).2.1
   cases ok with
   | false => exact again J7 q7
   | true =>
    refine thn (he _ _ _ _ _ _ s7 _ H7 _ J7 q7) fun z s8 ⟨y,H8,J8,r8,hD8,q8⟩ => ?_
    refine thn (mt_append _ s8 _ H8 (.ref s2.heap.objs.size) [y] _ [z] (fun _ H9 => ∃ m',m' < n∧W (i + 1) m' (ys ++ [y]) H9) J8 rfl (.cons r8 .nil) ⟨_,ys,y,rfl,rfl,hD8,hlen,q8⟩) fun _ s9 ⟨_,H9,J9,_,q9⟩ => again J9 q9
 exact codeAny_compStart_list (loop _ rfl) (T.self _ 0 _ _ _ (T.keep 0 _ _ st2 fun b _ o e => old2 b o e) (loop _ rfl))
theorem pe_comp (S:CompScope X scope cl) (hi:PI X tg iter wi)
  (hg:∀ C s H fp pins,PG (X.blk scope cl C own s H fp pins) tg g) (ht:∀ C s H fp pins,PF (X.blk scope cl C own s H fp pins) ifs tc) (he:∀ C s H fp pins,PE (X.blk scope cl C own s H fp pins) elt te)
  (hs:∀ x,foldedSetIterable iter X.env x = pure x:=by intro _; rfl):PE X (.ListComp elt [⟨tg,iter,ifs,0⟩] scope pos) (tComp wi own.length g tc te):=by
 intro pins s σ H Q I h
 rw [eval_ListComp]
 exact comp_core (use:=none) (QV:=EP X pins σ Q) S hi hg ht he hs I h fun D C s2 H2 H3 s4 _ _ _ hn inv q => hn.elim fun m hn => ⟨m,hn,fun h' sb => ⟨.ref D,H3,inv h' sb,rfl,q⟩⟩
theorem Inv.let_go {pins:List (Addr × Obj)} {σ σ2:St} {H H2:Hp} {s s2:Shared} {C:Addr} {h':Heap} (I:Inv X pins σ H s) (I2:Inv X pins σ2 H2 s2) (hC:s2.heap.objs.size≤C) (hf:H C = none) (sb:Heap.SameBut C s.heap h'):Inv X pins σ H { s with heap:=h' }:=by
 have nC:s2.heap.get? C = none:=Heap.get?_none_of_le hC
 have CF:C ∉ frs X.stack:=fun z => by
  obtain ⟨_,o,ho,_⟩:=I2.stack.mem z
  rw [nC] at ho; cases ho
 have off:∀ b o,s2.heap.get? b = some o→b≠C:=fun b o e z => by rw [z,nC] at e; cases e
 have un:Un (frs X.stack) [C] H H s.heap h':=⟨fun b o q _ _ hx => (sb.2 b fun z => hx (by simp [z])).trans q,fun b o q _ hb _ => ⟨o.slots,(sb.2 b fun z => CF (z▸hb)).trans q⟩,fun _ _ _ n _ => n,fun b o q hx => ⟨o,(sb.2 b fun z => hx (by simp [z])).trans q⟩,fun _ _ q => q,fun _ _ _ q => q,fun b ps q => ⟨#[],by rw [Array.append_empty]; exact q⟩⟩
 have hok:HOk X.prog X.w H h':=fun b o e => (I.hok b o e).stay (fun c u hc q => (sb.2 c fun z => by
  subst z
  rcases hc with z | z
  ·rw [z,e] at hf; cases hf
  ·rw [z] at hf; cases hf).trans q) (fun _ q => q) fun _ _ q => q
 refine I.call' (s':={ s with heap:=h' }) (ch:=[C]) rfl un hok I.bare fun b hb => ?_
 obtain rfl:b = C:=by simpa using hb
 obtain ⟨_,hn,_⟩:=I2.loc
 obtain ⟨_,_,_,hL,_⟩:=hn
 refine ⟨.inr (Nat.le_trans I2.sz hC),fun z => off _ _ hL z.symm,fun x c e => ?_,fun p hp => off _ _ (I2.pin p hp).1⟩
 obtain ⟨_,_,hc,_⟩:=I2.cell x c e
 exact off _ _ hc
theorem ps_setcomp {i:Nat} {x:Str} {pos' spos:Pos} (hN:X.N.Nodup) (hix:X.N[i]? = some x) (hx:Loc X.env.scope x) (S:CompScope X scope cl) (hi:PI X tg iter wi)
  (hg:∀ C s H fp pins,PG (X.blk scope cl C own s H fp pins) tg g) (ht:∀ C s H fp pins,PF (X.blk scope cl C own s H fp pins) ifs tc) (he:∀ C s H fp pins,PE (X.blk scope cl C own s H fp pins) elt te)
  (hs:∀ x,foldedSetIterable iter X.env x = pure x:=by intro _; rfl) (hsw:swapsWith (.ListComp elt [⟨tg,iter,ifs,0⟩] scope pos) (some (.Name x pos')) spos.line X.env = pure true:=by rfl)
  (hf:X.fn x = true∨X.env.scope.names.lookup x = some .local:=by first | exact .inl rfl | exact .inr rfl | assumption) :
  PS X (.Assign [.Name x pos'] (.ListComp elt [⟨tg,iter,ifs,0⟩] scope pos) spos) (tAsg (tComp wi own.length g tc te) (gName i)):=by
 intro pins s σ H D I h
 rw [exec_Assign_Name_used _ _ _ _ hsw]
 refine wpAny_bind (wpAny_standAt (wpAny_bind ?_))
 show wpAny _ X.A (do let _ ← comprehension (.ListComp elt [⟨tg,iter,ifs,0⟩] scope pos) scope X.env _ (newList []) false (eval iter X.env) (some (assign (.Name x pos') X.env))) _ _ s
 refine wpAny_bind (wpAny_mono (comp_core (pos:=pos) (use:=some (assign (.Name x pos') X.env)) (QV:=fun _ s' => SP X pins D .next s') S hi hg ht he hs I h fun Da C s2 H2 H3 s4 I2 hC hfree hn inv q => ?_) (fun _ s' hq => wpAny_pure (wpAny_pure hq)) fun _ _ e => e)
 obtain ⟨m,hn⟩:=hn
 have I4:Inv X pins σ H3 s4:=inv s4.heap (Heap.SameBut.refl _ _)
 have nC:s2.heap.get? C = none:=Heap.get?_none_of_le hC
 refine wpAny_assign_Name (store_ok2 I4 hN hix hx (show RelV (.ref Da) (.ref Da) from rfl) (fun s5 I5 ⟨a,sb,ha⟩ => ⟨m,hn.sameBut sb ?_,fun h' sb' => ⟨_,H3,I5.let_go I2 hC hfree sb',q⟩⟩) hf)
 rintro rfl
 rcases ha with z | z
 ·obtain ⟨_,hn2,_⟩:=I2.loc
  obtain ⟨_,_,_,hL,_⟩:=hn2
  rw [← z,nC] at hL; cases hL
 ·obtain ⟨_,_,hc,_⟩:=I2.cell x _ z
  rw [nC] at hc; cases hc
end
end L2
namespace L2
open PySem PySem.Spec PyProof.Rows
theorem Inv.track {X:Cx} {pins:List (Addr × Obj)} {σ:St} {H:Hp} {s:Shared} {a:Addr} {o:HO} (I:Inv X pins σ H s) (hn:H a = none) (h0:X.s₀.heap.get? a = none) (hL:a≠X.env.locals)
  (hc:∀ x c,X.env.cells.lookup x = some c→c≠a) (hp:∀ p∈X.pn ++ pins,p.1≠a) (new:ObjOk X.prog X.w (upd H a o) s.heap a o):Inv X pins σ (upd H a o) s:=by
 have ne:∀ b u,H b = some u→b≠a:=fun b u e z => by rw [z,hn] at e; cases e
 refine ⟨I.ok,I.os,I.bare,⟨I.base.keep,I.base.slot,fun b u e n hx => ?_,I.base.there,fun b xs e => ?_,fun b u v e => ?_,fun b ps e => ?_⟩,I.loc,I.cell,?_,fun x c e => ?_,fun p h => ?_,fun b u e => ?_,I.len,I.hn.mono fun b u v e => by rw [upd_ne (ne b _ e)]; exact e⟩
 ·rw [upd_ne (fun z => by rw [z,h0] at e; cases e)]; exact I.base.free b u e n hx
 ·have q:=I.base.tups b xs e
  rw [upd_ne (ne b _ q)]; exact q
 ·have q:=I.base.frzs b u v e
  rw [upd_ne (ne b _ q)]; exact q
 ·obtain ⟨m,q⟩:=I.base.tbls b ps e
  exact ⟨m,by rw [upd_ne (ne b _ q)]; exact q⟩
 ·rw [upd_ne (Ne.symm hL)]; exact I.free
 ·rw [upd_ne (hc x c e)]; exact I.freeC x c e
 ·obtain ⟨q1,q2,q3⟩:=I.pin p h
  exact ⟨q1,by rw [upd_ne (hp p h)]; exact q2,q3⟩
 ·by_cases hb:b = a
  ·subst hb; rw [upd_same] at e; cases e; exact new
  ·rw [upd_ne hb] at e
   exact (I.hok b u e).stay (fun _ _ _ q => q) (fun c q => by rw [upd_ne (ne c _ q)]; exact q) fun c xs q => by rw [upd_ne (ne c _ q)]; exact q
section
variable {X:Cx} {k:Nat} {f:Addr} {fd:FuncData} {ps:List Str} {sp:Sp} {E:St→XK} {x:Str} {p pos:Pos} {e:Expr} {es:List Expr} {t:TA}
end
section
variable {X:Cx} {pins pl:List (Addr × Obj)} {σ:St} {H:Hp} {s:Shared} {E:Value→Shared→Prop}
end
section
variable {X:Cx} {body:List Stmt} {b0:Stmt} {suite:List Stmt} {cn n:Str} {np hpos pos:Pos} {C0:Addr} {i:Nat} {tb:(St→XK)→TS} {th:TS}
end
end L2
namespace L2
open PySem PySem.Spec PyProof.Rows
section
variable {P:Program} {w:World} {K:PySem.W.Frag} {mg:Str→Option Value} {base:Heap} {k:Nat} {x m:Str} {C:Addr} {ps:List Str} {sp:Sp}
structure GoodF (P:Program) (w:World) (K:PySem.W.Frag) (mg:Str→Option Value) (base:Heap) (k:Nat) (x:Str) (ps:List Str) (sp:Sp) (c:Bool:=true):Prop where
 ex:∃ f fd,FnOk P w K mg base (XC P w) k f fd ps sp c∧Binds K fd ps []∧PySem.W.keepIn K (.ref f) = true∧mg x = some (.ref f)
structure GoodC (P:Program) (w:World) (K:PySem.W.Frag) (mg:Str→Option Value) (base:Heap) (k:Nat) (x:Str) (C:Addr) (ps:List Str) (sp:Sp):Prop where
 ex:∃ f fd,Mk K C f∧FnOk P w K mg base (XC P w) k f fd ps sp∧Binds K fd ps []∧mg x = some (.ref C)
structure GoodM (P:Program) (w:World) (K:PySem.W.Frag) (mg:Str→Option Value) (base:Heap) (k:Nat) (C:Addr) (m:Str) (ps:List Str) (sp:Sp):Prop where
 cl:Cls K C
 ex:∃ f fd,Meth K C m f∧FnOk P w K mg base (XC P w) k f fd ps sp∧Binds K fd ps []
end
section
variable {X:Cx} {k:Nat} {x m:Str} {C:Addr} {ps:List Str} {sp:Sp} {E:XK} {p pos apos:Pos} {e o:Expr} {es:List Expr} {ta:TE} {t:TA}
theorem pe_callG {cm:Bool} (G:GoodF X.prog X.w X.K X.mg X.base k x ps sp cm) (hr:RoomC cm k X.A) (hx:Passes (XC X.prog X.w) X E) (hg:Gl X x) (ha:PA X (e :: es) t)
  (hdb:(x == ("__debug__":Str)) = false:=by decide) (he:starEach (e :: es) X.env = (false,eval e X.env) :: starEach es X.env:=by rfl) (hpl:(backTo pos (starEach es X.env)).any (·.1) = false:=by rfl) :
  PE X (.Call (.Name x p) (e :: es) [] pos) (tCall sp [] E t):=by
 obtain ⟨f,fd,F,b,kp,mgx⟩:=G.ex
 exact pe_call F hr hg mgx kp b .nil hx ha hdb he hpl
theorem pe_makeG (G:GoodC X.prog X.w X.K X.mg X.base k x C ps sp) (hr:Room (k + 1) X.A) (hx:Passes (XC X.prog X.w) X E) (hg:Gl X x) (ha:PA X (e :: es) t)
  (hdb:(x == ("__debug__":Str)) = false:=by decide) (he:starEach (e :: es) X.env = (false,eval e X.env) :: starEach es X.env:=by rfl) (hpl:(backTo pos (starEach es X.env)).any (·.1) = false:=by rfl) :
  PE X (.Call (.Name x p) (e :: es) [] pos) (tMake C sp [] E t):=by
 obtain ⟨f,fd,M,F,b,mgx⟩:=G.ex
 exact pe_make M F hr hg mgx b .nil hx ha hdb he hpl
theorem pe_methG {pl:Sem Bool} (ho:PE X o ta) (G:GoodM X.prog X.w X.K X.mg X.base k C m ps sp) (hr:Room k X.A) (hx:Passes (XC X.prog X.w) X E) (ha:PA X (e :: es) t)
  (hst:starEach (e :: es) X.env = (false,eval e X.env) :: starEach es X.env:=by rfl) (hpl:(backTo pos (starEach es X.env)).any (·.1) = false:=by rfl)
  (ht:eval (.Call (.Attribute o m apos) (e :: es) [] pos) X.env = (do
   let ov ← eval o X.env
   standAt apos.atName
   let (f,first) ← holding [ov] (getMethod ov m pl)
   callWith pos f first (backTo pos (starEach (e :: es) X.env)) (backToKw pos (keywordEach [] X.env))):=by rfl) :
  PE X (.Call (.Attribute o m apos) (e :: es) [] pos) (tMeth C m sp [] E ta t):=by
 obtain ⟨f,fd,M,F,b⟩:=G.ex
 exact pe_meth ho G.cl M F hr b .nil hx ha hst hpl ht
def rMeth0 (C:Addr) (m:Str) (sp:Sp) (E:XK):V→Hp→VK→Prop:=fun x H Q => ∃ a dx fs,x = .ref a∧H a = some (.ins C dx fs)∧fs.lookup m = none∧sp [x] H Q E
def M0R (X:Cx) (m:Str) (r:V→Hp→VK→Prop):Prop:=∀ (pins:List (Addr × Obj)) (s:Shared) (σ:St) (H:Hp) (x:V) (u:Value) (Q:VK) (pl:Sem Bool) (pos:Pos),Inv X pins σ H s→RelV x u→r x H Q →
 wpAny (model X.prog X.w) X.A (holding [u] (getMethod u m pl)) (fun fm s1 => wpAny (model X.prog X.w) X.A (callWith pos fm.1 fm.2 (backTo pos (starEach [] X.env)) (backToKw pos (keywordEach [] X.env))) (EP X pins σ Q) X.xe s1) X.xe s
theorem m0_of (G:GoodM X.prog X.w X.K X.mg X.base k C m ps sp) (hr:Room k X.A) (hx:Passes (XC X.prog X.w) X E):M0R X m (rMeth0 C m sp E):=by
 intro pins s σ H x u Q pl pos I r h
 obtain ⟨f,fd,M,F,b⟩:=G.ex
 obtain ⟨a,dx,fs,rfl,ea,l,q⟩:=h
 obtain rfl:u = Value.ref a:=r
 refine wpAny_holding (getmeth_ok I ea G.cl M l ?_)
 exact PySem.W.callWith_K0 (first:=[.ref a]) I.kIn M.kp (run_fn (us:=[.ref a]) (vs:=[.ref a]) F hr b .nil hx I (.cons rfl .nil) q)
theorem M0R.or {r r':V→Hp→VK→Prop} (h:M0R X m r) (h':M0R X m r'):M0R X m (fun x H Q => r x H Q∨r' x H Q):=by
 intro pins s σ H x u Q pl pos I rr hw
 rcases hw with z | z
 ·exact h pins s σ H x u Q pl pos I rr z
 ·exact h' pins s σ H x u Q pl pos I rr z
def tM0 (r:V→Hp→VK→Prop) (ta:TE):TE:=fun σ H Q => ta σ H fun x H1 => r x H1 Q
theorem pe_meth0G {pl:Sem Bool} {r:V→Hp→VK→Prop} (hr:M0R X m r) (ho:PE X o ta)
  (ht:eval (.Call (.Attribute o m apos) [] [] pos) X.env = (do
   let ov ← eval o X.env
   standAt apos.atName
   let (f,first) ← holding [ov] (getMethod ov m pl)
   callWith pos f first (backTo pos (starEach [] X.env)) (backToKw pos (keywordEach [] X.env))):=by rfl):PE X (.Call (.Attribute o m apos) [] [] pos) (tM0 r ta):=by
 intro pins s σ H Q I h
 rw [ht]
 refine wpAny_bind (thn (ho pins s σ H _ I h) fun u s1 ⟨x,H1,I1,rx,q⟩ => wpAny_bind (wpAny_standAt (wpAny_bind ?_)))
 exact hr pins s1 σ H1 x u Q pl pos I1 rx q
end
inductive ClsV:V→Value→Prop where
 | ty (n:String):ClsV (.ty n) (.type n)
 | ref (a:Addr):ClsV (.ref a) (.ref a)
theorem ClsV.val {c:V} {cv u:Value} (h:ClsV c cv) (r:RelV c u):u = cv:=by cases h <;> exact r
section
variable {X:Cx}
theorem call_isi:CallR X (.builtin "isinstance") (fun xs H Q => ∃ x c t cv b,xs = [x,c]∧TyOf X.K H x t∧ClsV c cv∧PySem.W.kitOne X.K t cv = some b∧Q (.bl b) H):=by
 intro pins s σ H xs us Q I r h
 obtain ⟨x,c,t,cv,b,rfl,ty,hc,e,q⟩:=h
 obtain ⟨u,w,rfl,ru,rc⟩:=vals2 r
 obtain rfl:=hc.val rc
 exact isinst_ok I ru ty e fun tk => ⟨.bl b,H,I.tok tk,rfl,q⟩
end
def Itz (K:PySem.W.Frag) (a b:Addr):It :=
 ⟨fun i H => ∃ xs ys x y,SqL K H a xs∧SqL K H b ys∧xs[i]? = some x∧ys[i]? = some y,
  fun i H v H' => ∃ p x y,H p = none∧v = .ref p∧H' = upd H p (.tup [x,y])∧∀ xs ys,SqL K H a xs→SqL K H b ys→xs[i]? = some x∧ys[i]? = some y,
  fun i H => ∃ xs ys,SqL K H a xs∧SqL K H b ys∧(xs.length≤i∨ys.length≤i)⟩
theorem Inv.turnedL {X:Cx} {pins:List (Addr × Obj)} {σ:St} {H:Hp} {s:Shared} {h':Heap} {t':Nat} {ch:List Addr} (I:Inv X pins σ H s) (fp:∀ c∈ch,FpOk X pins H c) (keep:∀ c o,c ∉ ch→s.heap.get? c = some o→h'.get? c = some o) :
  Inv X pins σ H { s with heap:=h',toks:=t' }:=by
 have nfp:∀ c o,H c = some o→c ∉ ch:=fun c o e hc => by have:=(fp c hc).1; rw [e] at this; cases this
 refine I.step (g':=s.gens) (d':=s.drawn) (ch:=ch) (fun c hc => ⟨(fp c hc).2.2.2.1,(fp c hc).2.1,(fp c hc).2.2.2.2.1,(fp c hc).2.2.2.2.2⟩)
  (fun c o _ _ hc e _ => keep c o hc e) (fun c o _ _ hc e _ => ⟨o.slots,keep c o hc e⟩) (fun _ _ _ _ n => n) (fun c o hc e => ⟨o,keep c o hc e⟩) (fun _ _ e => e) (fun _ _ _ e => e) (fun c ps e => ⟨#[],by rw [e]; simp⟩) (fun m hm => ?_) (fun c o e => ?_) I.bare
 ·obtain ⟨o,es,ep,ho,r⟩:=hm
  exact ⟨o,es,ep,keep _ o (fun hc => (fp _ hc).2.1 rfl) ho,r⟩
 ·refine (I.hok c o e).stay (fun d u hd q => keep d u ?_ q) (fun _ q => q) fun _ _ q => q
  rcases hd with z | z
  ·rw [z]; exact nfp c o e
  ·exact nfp d _ z
theorem turn_zip {P:Program} {w:World} {K:PySem.W.Frag} {elts:List Expr} {kk:Nat} {tpos:Pos} (z TI TO i1 i2 l1 l2:Addr) (D:ZipApart z TI TO i1 i2 l1 l2) :
  Turn P w K (.Tuple elts kk tpos) (Itz K l1 l2) [z,TI,TO,i1,i2] z (fun i h => IsZip h z TI TO .none∧IsPair h TI (.ref i1) (.ref i2)∧(∃ a b,IsPair h TO a b)∧h.IsListIter i1 l1 i∧h.IsListIter i2 l2 i) true where
 mem:=by simp
 obj:=fun i h st b hb => by
  obtain ⟨q1,q2,⟨_,_,q3⟩,⟨o4,q4,_,d4⟩,⟨o5,q5,_,d5⟩⟩:=st
  simp only [List.mem_cons,List.not_mem_nil,or_false] at hb
  rcases hb with rfl | rfl | rfl | rfl | rfl
  ·exact ⟨_,q1,fun v e => by cases e⟩
  ·exact ⟨_,q2,fun v e => by cases e⟩
  ·exact ⟨_,q3,fun v e => by cases e⟩
  ·exact ⟨_,q4,fun v e => by rw [d4] at e; cases e⟩
  ·exact ⟨_,q5,fun v e => by rw [d5] at e; cases e⟩
 keep:=fun i h h' st k => by
  obtain ⟨q1,q2,⟨a,b,q3⟩,q4,q5⟩:=st
  exact ⟨k z (by simp) _ q1,k TI (by simp) _ q2,⟨a,b,k TO (by simp) _ q3⟩,q4.at fun o e => k i1 (by simp) o e,q5.at fun o e => k i2 (by simp) o e⟩
 item:=by
  intro X hP hw hK hc i pins s σ H E I hf st hg
  subst hP hw hK
  obtain ⟨xs,ys,x,y,hx,hy,ex,ey⟩:=hg
  obtain ⟨its,rv,p,_⟩:=I.list hx
  obtain ⟨jts,rw',p',_⟩:=I.list hy
  obtain ⟨u,hu,ru⟩:=rv.get ex
  obtain ⟨v,hv,rv'⟩:=rw'.get ey
  obtain ⟨q1,q2,⟨a,b,q3⟩,q4,q5⟩:=st
  refine wpAny_pyNext_zip_item D q1 q2 q3 q4 q5 p.isList p'.isList (x:=u) (y:=v) (by simpa using hu) (by simpa using hv) fun h1 z1 z2 z3 z4 z5 z6 z7 => ?_
  refine ⟨_,rfl,wpAny_letOwnedTupleGo_zip (s:={ s with heap:=h1 }) z1 fun h2 z1' sb => ?_⟩
  have fz:=hf z (by simp)
  have fO:=hf TO (by simp)
  have f1:=hf i1 (by simp)
  have f2:=hf i2 (by simp)
  have keep:∀ c o,c ∉ [z,TO,i1,i2]→s.heap.get? c = some o→h2.get? c = some o:=fun c o hc e => by
   simp only [List.mem_cons,List.not_mem_nil,or_false,not_or] at hc
   exact (sb.2 c hc.1).trans (z7 c o hc.1 hc.2.1 hc.2.2.1 hc.2.2.2 e)
  have hlt:∀ {c o},s.heap.get? c = some o→c≠s.heap.objs.size:=fun e => Nat.ne_of_lt (Heap.lt_size e)
  have g4:=q4
  have g5:=q5
  obtain ⟨o4,e4,_,_⟩:=g4
  obtain ⟨o5,e5,_,_⟩:=g5
  have fp:∀ c∈[z,TO,i1,i2],FpOk X pins H c:=fun c hc => by
   simp only [List.mem_cons,List.not_mem_nil,or_false] at hc
   rcases hc with rfl | rfl | rfl | rfl
   ·exact fz
   ·exact fO
   ·exact f1
   ·exact f2
  have I1:Inv X pins σ H { s with heap:=h2 }:=I.turnedL (t':=s.toks) fp keep
  have hp:H s.heap.objs.size = none:=I.fresh
  have tp:h2.get? s.heap.objs.size = some { cls:=.type "tuple",data:=.seq #[u,v] }:=(sb.2 _ (Ne.symm (hlt q1))).trans z5
  have I2:Inv X pins σ (upd H s.heap.objs.size (.tup [x,y])) { s with heap:=h2 }:=I1.track hp (Heap.get?_none_of_le I.sz) (Nat.ne_of_gt I.lt)
   (fun n c e zz => by obtain ⟨v0,o0,h0,_⟩:=I.cell n c e; exact hlt h0 zz) (fun q hq zz => hlt (I.pin q hq).1 zz) ⟨by show 2≤sizeLine; decide,[u,v],.cons ru (.cons rv' .nil),_,tp,rfl,_,rfl⟩
  refine ⟨.ref s.heap.objs.size,_,I2,rfl,⟨_,x,y,hp,rfl,rfl,fun xs' ys' hx' hy' => ?_⟩,⟨z1',?_,⟨u,v,(sb.2 _ D.TOz).trans z2⟩,z3.extBut sb.extBut D.i1z,z4.extBut sb.extBut D.i2z⟩,fun c hc => ?_⟩
  ·rw [I.list_inj hx' hx,I.list_inj hy' hy]; exact ⟨ex,ey⟩
  ·exact (sb.2 _ D.TIz).trans (z7 _ _ D.TIz D.TITO D.TIi1 D.TIi2 q2)
  ·have hcn:=(hf c hc).1
   rw [upd_ne ?_]
   ·exact hcn
   ·simp only [List.mem_cons,List.not_mem_nil,or_false] at hc
    rcases hc with rfl | rfl | rfl | rfl | rfl
    ·exact hlt q1
    ·exact hlt q2
    ·exact hlt q3
    ·exact hlt e4
    ·exact hlt e5
 done:=by
  intro X hP hw hK hc i pins s σ H E I hf st hg
  subst hP hw hK
  obtain ⟨xs,ys,hx,hy,hend⟩:=hg
  obtain ⟨its,rv,p,_⟩:=I.list hx
  obtain ⟨jts,rw',p',_⟩:=I.list hy
  obtain ⟨q1,q2,⟨a,b,q3⟩,q4,q5⟩:=st
  have hl:=rv.length
  have hl':=rw'.length
  refine wpAny_pyNext_zip_end (I.ok.hd (hc rfl)) D q1 q2 q3 q4 q5 p.isList p'.isList (by simp; omega) fun h1 k => ⟨rfl,?_⟩
  refine I.turnedL (t':=s.toks) (ch:=[z,TO,i1,i2]) (fun c hc => hf c ?_) fun c o hc e => ?_
  ·simp only [List.mem_cons,List.not_mem_nil,or_false] at hc ⊢
   rcases hc with h | h | h | h <;> simp [h]
  ·simp only [List.mem_cons,List.not_mem_nil,or_false,not_or] at hc
   exact k c o hc.1 hc.2.1 hc.2.2.1 hc.2.2.2 e
 self:=fun _ _ _ _ _ st h => wpAny_pyIter_zip st.1 h
section
variable {X:Cx} {elts:List Expr} {kk:Nat} {tpos:Pos}
def iZip (K:PySem.W.Frag) (ta:TA):TI:=fun σ H R => ta σ H fun vs H1 => ∃ a b,vs = [.ref a,.ref b]∧(∃ xs,SqL K H1 a xs)∧(∃ ys,SqL K H1 b ys)∧R (Itz K a b) H1
theorem pi_zip {a b:Expr} {ta:TA} {p pos:Pos} (hcm:X.calm = true) (hg:Gl X "zip") (hm:X.mg "zip" = none) (ha:PA X [a,b] ta) (hs:starEach [a,b] X.env = [(false,eval a X.env),(false,eval b X.env)]:=by rfl) (hs2:starEach [b] X.env = [(false,eval b X.env)]:=by rfl) :
  PI X (.Tuple elts kk tpos) (.Call (.Name "zip" p) [a,b] [] pos) (iZip X.K ta):=by
 intro pins s σ H R I h
 refine Call_ (ld_blt I hg hm boot_zip (PyProof.Rows.callWith_type1 (thn (ha pos pins s σ H _ I h) fun us s1 ⟨vs,H1,I1,r1,q1⟩ => ?_) (by rw [hs,hs2]) (by rw [hs2]; rfl)))
 obtain ⟨l1,l2,e,⟨xs,hx⟩,⟨ys,hy⟩,q⟩:=q1
 subst e
 obtain ⟨u,v,rfl,ru,rv⟩:=vals2 r1
 cases ru
 cases rv
 obtain ⟨its,_,p1,_⟩:=I1.list hx
 obtain ⟨jts,_,p2,_⟩:=I1.list hy
 have a1:l1 < s1.heap.objs.size:=by obtain ⟨_,e,_⟩:=p1.isList; exact Heap.lt_size e
 have a2:l2 < s1.heap.objs.size:=by obtain ⟨_,e,_⟩:=p2.isList; exact Heap.lt_size e
 refine call_zip_2 p1.isList p2.isList fun h' z1 z2 z3 z4 z5 z6 k => wpAny_pyIter_zip (s:={ s1 with heap:=h' }) z1 ?_
 have I2:Inv X pins σ H1 { s1 with heap:=h' }:=I1.kept (t':=s1.toks) k
 refine ⟨s1.heap.objs.size + 4,[s1.heap.objs.size + 4,s1.heap.objs.size + 2,s1.heap.objs.size + 3,s1.heap.objs.size,s1.heap.objs.size + 1],_,_,H1,rfl,I2,⟨true,turn_zip _ _ _ _ _ l1 l2 (zipApart_new a1 a2),fun _ => hcm⟩,⟨z1,z2,⟨_,_,z3⟩,z4,z5⟩,fun c hc => ?_,q⟩
 have le:s1.heap.objs.size≤c:=by
  simp only [List.mem_cons,List.not_mem_nil,or_false] at hc
  rcases hc with rfl | rfl | rfl | rfl | rfl <;> omega
 exact I1.fpOk le (I1.hok.fresh le)
end
def Its (lo c:Int) (n:Nat):It:=⟨fun i _ => i < n,fun i H x H' => H' = H∧x = .int (lo + i * c),fun i _ => n≤i⟩
theorem turn_step {P:Program} {w:World} {K:PySem.W.Frag} {tg:Expr} (it:Addr) (lo c:Int) (n:Nat):Turn P w K tg (Its lo c n) [it] it (fun i h => IsRangeIter h it (lo + (i:Nat) * c) ((n:Int) - (i:Nat)) c) false where
 mem:=by simp
 obj:=fun i h st b hb => by
  obtain rfl:b = it:=by simpa using hb
  exact ⟨_,st,fun v z => by cases (show Data.fields _ = Data.cell v from z)⟩
 keep:=fun i h h' st k => k it (by simp) _ st
 item:=by
  intro X hP hw hK hc i pins s σ H E I hf st hg
  subst hP hw hK
  obtain ⟨f0,f1,f2,f3,f4,f5⟩:=hf it (by simp)
  refine wpAny_pyNext_range_item st (by have:i < n:=hg; omega) fun h' st' sb => ?_
  have I1:Inv X pins σ H { s with heap:=h',toks:=s.toks + 1 }:=I.turned (fun b o hb e => (sb.2 b hb).trans e) f0 f1 f3 f4 f5
  have st2:IsRangeIter h' it (lo + ((i + 1:Nat):Int) * c) ((n:Int) - ((i + 1:Nat):Int)) c:=by
   have e1:lo + ((i + 1:Nat):Int) * c = lo + (i:Int) * c + c:=by rw [Int.natCast_add,Int.add_mul]; simp [Int.add_assoc]
   have e2:(n:Int) - ((i + 1:Nat):Int) = (n:Int) - (i:Int) - 1:=by omega
   rw [e1,e2]; exact st'
  exact ⟨_,rfl,go_of (s:={ s with heap:=h',toks:=s.toks + 1 }) (n:="range_iterator") st' rfl rfl (by decide) ⟨.int (lo + i * c),H,I1,⟨_,rfl⟩,⟨rfl,rfl⟩,st2,fun b hb => (hf b hb).1⟩⟩
 done:=by
  intro X hP hw hK hc i pins s σ H E I hf st hg
  subst hP hw hK
  obtain ⟨f0,f1,f2,f3,f4,f5⟩:=hf it (by simp)
  have hn:n≤i:=hg
  exact range_on (I.hn.now I.hok) st (by omega) fun h' eb => ⟨rfl,I.turned (t':=s.toks) (fun b o hb e => eb b o hb e) f0 f1 f3 f4 f5⟩
 self:=fun _ _ _ _ _ st h => wpAny_pyIter_rangeiter st h
section
variable {X:Cx} {tg:Expr}
def iRng3 (ta:TA):TI:=fun σ H R => ta σ H fun vs H1 => ∃ i j c:Int,vs = [.int i,.int j,.int c]∧(0 < c∧c < 1000∧-(2 ^ 61)≤i∧i < 2 ^ 61∧-(2 ^ 61)≤j∧j < 2 ^ 61)∧R (Its i c (Builtin.Range.rangeSize i j c).toNat) H1
theorem size_nn (i j c:Int) (hc:0 < c):0≤Builtin.Range.rangeSize i j c:=by
 unfold Builtin.Range.rangeSize
 rw [if_pos hc]
 split
 ·have:=Int.ediv_nonneg (a:=j - i - 1) (b:=c) (by omega) (by omega)
  omega
 ·exact Int.le_refl _
theorem small_step {i j c:Int} (hc:0 < c) (hc2:c < 1000) (h1:-(2 ^ 61)≤i) (h2:i < 2 ^ 61) (h3:-(2 ^ 61)≤j) (h4:j < 2 ^ 61):Builtin.Range.small i j c = true:=by
 have hs:0≤Builtin.Range.rangeSize i j c∧Builtin.Range.rangeSize i j c≤2 ^ 62:=by
  refine ⟨size_nn i j c hc,?_⟩
  unfold Builtin.Range.rangeSize
  rw [if_pos hc]
  split
  ·have:=Int.ediv_le_self (a:=j - i - 1) c (by omega)
   omega
  ·decide
 unfold Builtin.Range.small
 rw [if_pos hc]
 simp only [Builtin.Range.rangeFitsLong,Bool.and_eq_true,Bool.or_eq_true,decide_eq_true_eq,beq_iff_eq]
 generalize Builtin.Range.rangeSize i j c = z at hs
 omega
theorem pi_range3 {a b d:Expr} {ta:TA} {p pos:Pos} (hg:Gl X "range") (hm:X.mg "range" = none) (ha:PA X [a,b,d] ta)
  (hs:starEach [a,b,d] X.env = (false,eval a X.env) :: starEach [b,d] X.env:=by rfl) (hpl:(backTo pos (starEach [b,d] X.env)).any (·.1) = false:=by rfl):PI X tg (.Call (.Name "range" p) [a,b,d] [] pos) (iRng3 ta):=by
 intro pins s σ H R I h
 refine Call_ (ld_blt I hg hm boot_range (PyProof.Rows.callWith_type1 (thn (ha pos pins s σ H _ I h) fun us s1 ⟨vs,H1,I1,r1,q1⟩ => ?_) hs hpl))
 obtain ⟨i,j,c,e,⟨q1,q2,q3,q4,q5,q6⟩,q⟩:=q1
 subst e
 cases r1 with
 | cons ra rr =>
  cases rr with
  | cons rb rr =>
   cases rr with
   | cons rc rr =>
    cases rr
    obtain ⟨t,rfl⟩:=ra
    obtain ⟨u,rfl⟩:=rb
    obtain ⟨v,rfl⟩:=rc
    refine call_range_3 (by omega) ?_ (.inl (PyProof.noPylong_small (by omega)))
    have I2:Inv X pins σ H1 { s1 with heap:=s1.heap.push { cls:=.type "range",data:=.fields #[.int i t,.int j u,.int c v] },toks:=s1.toks }:=I1.kept fun b o e => Heap.get?_push_of_some _ e
    refine wpAny_pyIter_range (IsRange.new ..) (small_step q1 q2 q3 q4 q5 q6) ?_
    refine ⟨_,[(s1.heap.push { cls:=.type "range",data:=.fields #[.int i t,.int j u,.int c v] }).objs.size],_,_,H1,rfl,I2.kept (t':=s1.toks) fun b o e => Heap.get?_push_of_some _ e,TurnX.of (turn_step _ i c (Builtin.Range.rangeSize i j c).toNat),?_,fun b hb => ?_,q⟩
    ·have e2:(((Builtin.Range.rangeSize i j c).toNat:Nat):Int) - ((0:Nat):Int) = Builtin.Range.rangeSize i j c:=by have:=size_nn i j c q1; omega
     show IsRangeIter _ _ (i + ((0:Nat):Int) * c) ((((Builtin.Range.rangeSize i j c).toNat:Nat):Int) - ((0:Nat):Int)) c
     rw [e2,show i + ((0:Nat):Int) * c = i by simp]
     exact Heap.get?_push_size _ rfl
    ·obtain rfl:b = _:=List.mem_singleton.mp hb
     exact I2.fpOk (Nat.le_refl _) (I2.hok.fresh (Nat.le_refl _))
theorem for_zip {K:PySem.W.Frag} {a b:Addr} {xs ys:List V} {g:TG} {tb:TS} {D:Ends} {σ:St} {H:Hp} (Pv:Nat→St→Hp→Prop) (h0:Pv 0 σ H) (hl:∀ i σ H,i≤(xs.zip ys).length→Pv i σ H→SqL K H a xs∧SqL K H b ys)
  (hs:∀ i x y p σ H,(xs.zip ys)[i]? = some (x,y)→H p = none→Pv i σ H→g (.ref p) σ (upd H p (.tup [x,y])) fun σ2 H2 => tb { D with nx:=Pv (i + 1),ct:=Pv (i + 1),bk:=D.nx } σ2 H2) (hd:∀ σ H,Pv (xs.zip ys).length σ H→D.nx σ H) :
  ∃ W:Nat→Nat→St→Hp→Prop,(∃ m,W 0 m σ H)∧∀ i m σ H,W i m σ H →
   ((Itz K a b).stop i H∧D.nx σ H)∨((Itz K a b).go i H∧∃ N:St→Hp→Prop,(∀ σ' H',N σ' H'→∃ m',m' < m∧W (i + 1) m' σ' H')∧∀ x H',(Itz K a b).yld i H x H'→g x σ H' fun σ2 H2 => tb { D with nx:=N,ct:=N,bk:=D.nx } σ2 H2):=by
 refine ⟨fun i m σ H => m = (xs.zip ys).length - i∧i≤(xs.zip ys).length∧Pv i σ H,⟨(xs.zip ys).length,by simp,Nat.zero_le _,h0⟩,?_⟩
 rintro i m σ H ⟨rfl,hi,p⟩
 obtain ⟨qa,qb⟩:=hl i σ H hi p
 have hz:(xs.zip ys).length = min xs.length ys.length:=List.length_zip
 by_cases hlt:i < (xs.zip ys).length
 ·have h1:i < xs.length:=by omega
  have h2:i < ys.length:=by omega
  refine .inr ⟨⟨xs,ys,xs[i],ys[i],qa,qb,by simp [h1],by simp [h2]⟩,Pv (i + 1),fun σ' H' p' => ⟨(xs.zip ys).length - (i + 1),by omega,rfl,hlt,p'⟩,fun v H' yy => ?_⟩
  obtain ⟨t,x,y,ht,rfl,rfl,e⟩:=yy
  obtain ⟨ex,ey⟩:=e xs ys qa qb
  exact hs i x y t σ H (by simp [List.getElem?_zip_eq_some,ex,ey]) ht p
 ·obtain rfl:i = (xs.zip ys).length:=by omega
  exact .inl ⟨⟨xs,ys,qa,qb,by omega⟩,hd σ H p⟩
end
end L2
namespace L2
open PySem PySem.Spec PyProof.Rows
theorem b_int:bootBuiltins "int" = some (.type "int"):=by decide +kernel
theorem b_bool:bootBuiltins "bool" = some (.type "bool"):=by decide +kernel
theorem b_str:bootBuiltins "str" = some (.type "str"):=by decide +kernel
theorem b_list:bootBuiltins "list" = some (.type "list"):=by decide +kernel
theorem b_tuple:bootBuiltins "tuple" = some (.type "tuple"):=by decide +kernel
theorem b_isinstance:bootBuiltins "isinstance" = some (.builtin "isinstance"):=by decide +kernel
theorem b_min:bootBuiltins "min" = some (.builtin "min"):=by decide +kernel
theorem b_abs:bootBuiltins "abs" = some (.builtin "abs"):=by decide +kernel
theorem b_len:bootBuiltins "len" = some (.builtin "len"):=by decide +kernel
theorem passX0 {X:Cx}:Passes (XC X.prog X.w) X (fun _ _ _ => False):=by
 intro pins σ H s e s' I h
 obtain ⟨_,_,_,_,_,_,_,_,_,q⟩:=h
 exact q.elim
section
variable {X:Cx} {tg:Expr}
def iSeq (K:PySem.W.Frag) (tl:TE):TI:=fun σ H R => tl σ H fun x H1 => ∃ a,x = .ref a∧(((∃ xs,SqL K H1 a xs)∧R (Itl K a) H1)∨((∃ xs,SqT K H1 a xs)∧R (Itt K a) H1))
theorem pi_seq {l:Expr} {tl:TE} (hl:PE X l tl):PI X tg l (iSeq X.K tl):=by
 intro pins s σ H R I h
 refine thn (hl pins s σ H _ I h) fun v s1 ⟨x,H1,I1,r1,q1⟩ => ?_
 obtain ⟨a,e,⟨⟨xs,hq⟩,q⟩ | ⟨⟨xs,hq⟩,q⟩⟩:=q1
 all_goals
  subst e
  cases r1
 ·obtain ⟨its,rv,p,hz⟩:=I1.list hq
  refine wpAny_pyIter_list p.isList ?_
  refine ⟨s1.heap.objs.size,[s1.heap.objs.size],_,_,H1,rfl,I1.kept (t':=s1.toks) fun b o e => Heap.get?_push_of_some _ e,TurnX.of (turn_list a _),⟨_,Heap.get?_push_size _ rfl,rfl,rfl⟩,fun b hb => ?_,q⟩
  obtain rfl:b = s1.heap.objs.size:=by simpa using hb
  exact I1.fpOk (Nat.le_refl _) (I1.hok.fresh (Nat.le_refl _))
 ·obtain ⟨its,rv,p,hz⟩:=I1.tuple hq
  refine wpAny_pyIter_tuple (show s1.heap.IsTuple a its.toArray from p) ?_
  refine ⟨s1.heap.objs.size,[s1.heap.objs.size],_,_,H1,rfl,I1.kept (t':=s1.toks) fun b o e => Heap.get?_push_of_some _ e,TurnX.of (turn_tuple a _),⟨_,Heap.get?_push_size _ rfl,rfl,rfl⟩,fun b hb => ?_,q⟩
  obtain rfl:b = s1.heap.objs.size:=by simpa using hb
  exact I1.fpOk (Nat.le_refl _) (I1.hok.fresh (Nat.le_refl _))
end
section
variable {X:Cx}
theorem call_min_list:CallR X (.builtin "min") (fun xs H Q => ∃ (p:Addr) (ns:List Int),xs = [.ref p]∧SqL X.K H p (ns.map V.int)∧0 < ns.length∧∀ M,M∈ns→(∀ a∈ns,M≤a)→Q (.int M) H):=by
 intro pins s σ H xs us Q I r h
 obtain ⟨p,ns,rfl,hq,hne,q⟩:=h
 obtain ⟨u,rfl,ru⟩:=vals1 r
 cases ru
 obtain ⟨its,rv,pl,_⟩:=I.list hq
 have hi:=intsAre_of rv
 obtain ⟨zs,e⟩:=hi.allInts.items
 have hns:ns = zs.toList.map (·.1):=by rw [← hi.numsOf,← nums_intItems,← e]
 have hsz:0 < zs.size:=by rw [hns,List.length_map,Array.length_toList] at hne; exact hne
 have hl:s.heap.IsList p (intItems zs):=e▸pl.isList
 refine min_on (I.hn.now I.hok) hl hsz fun v h' tk hv hk => ?_
 obtain ⟨t,rfl⟩:=intItems_at hv
 obtain ⟨h1,h2⟩:=argBest_lt (numAt zs) (zs.size - 1)
 refine ⟨.int _,H,I.kept hk,⟨t,rfl⟩,q _ ?_ fun a ha => ?_⟩
 ·rw [hns,numAt_eq]; exact getD_mem (by rw [List.length_map,Array.length_toList]; omega)
 ·rw [hns] at ha
  obtain ⟨j,hj,rfl⟩:=mem_getD ha
  rw [List.length_map,Array.length_toList] at hj
  rw [← numAt_eq]; exact h2 j (by omega)
theorem strsAre_of {ns:List Str}:∀ {us:List Value},Vals (ns.map V.str) us→StrsAre us ns:=by
 induction ns with
 | nil => intro us r; cases r; exact .nil
 | cons n r ih =>
  intro us rr
  cases rr with
  | cons ra rb =>
   obtain ⟨t,rfl⟩:=ra
   exact .cons n t (ih rb)
def rJoin (K:PySem.W.Frag):V→List V→Hp→VK→Prop:=fun x vs H Q => ∃ z p ys,x = .str z∧vs = [.ref p]∧SqL K H p (ys.map V.str)∧(ys.map (·.length)).sum + ys.length * z.length≤16777216∧Q (.str (Txt.join z ys)) H
theorem mt_join:MtR X "str.join" (rJoin X.K):=by
 intro pins s σ H x vs v us Q I rx rv h
 obtain ⟨z,p,ys,rfl,rfl,hq,hs,q⟩:=h
 obtain ⟨t,rfl⟩:=rx
 obtain ⟨u,rfl,ru⟩:=vals1 rv
 cases ru
 obtain ⟨its,r,pl,_⟩:=I.list hq
 exact join_list pl.isList (by simpa using strsAre_of r) hs fun t' k => ⟨.str _,H,I.tok k,⟨t',rfl⟩,q⟩
theorem pe_fstr3 {a b:Str} {e:Expr} {te:TE} {p1 p2 p3 p4:Pos} {k1 k2:Nat} (ha:a.length≤1000) (hb:b.length≤1000) (he:PE X e te) :
  PE X (.JoinedStr [.Constant (.str a) k1 p1,.FormattedValue e (-1) none p2,.Constant (.str b) k2 p3] p4) (fun σ H Q => te σ H fun x H1 => ∃ n,x = .int n∧n.natAbs.log2 < 1920∧∀ z,Q (.str z) H1):=by
 intro pins s σ H Q I h
 refine JoinedStr_many (joinParts_cons (Calls.Constant_str ?_))
 have l0:(Str.empty ++ a).length≤1000:=by rw [strLen_append]; show 0 + a.length≤1000; omega
 refine ⟨Nat.le_trans l0 (by decide),joinParts_cons (FormattedValue_plain (thn (he pins _ σ H _ (I.tok _) h) fun v s1 ⟨x,H1,I1,r1,n,ex,hd,q⟩ => ?_))⟩
 subst ex
 obtain ⟨t,rfl⟩:=r1
 have l1:(PySem.Str.ofString (toString n)).length≤1921:=int_text_len_1921 hd
 refine formatField_int_small hd ⟨?_,joinParts_cons (Calls.Constant_str ⟨?_,joinParts_nil ⟨.str _,H1,(I1.tok _),⟨_,rfl⟩,q _⟩ ?_⟩)⟩
 all_goals
  have hz:(3921:Nat)≤sizeLine:=by decide
  refine Nat.le_trans ?_ hz
  have e1:=strLen_append (Str.empty ++ a) (PySem.Str.ofString (toString n))
  have e2:=strLen_append (Str.empty ++ a ++ PySem.Str.ofString (toString n)) b
  omega
theorem ext_tup (l:Addr) (items:Array Value) (n:Nat) (b:Addr) (items2:Array Value) (n2:Nat) (dd:Option Addr) (sl:Array (Option Value)) (hs0:¬(!items.isEmpty && Builtin.List.listTooLong (items.size + items2.size)) = true) (hs1:items.size≤sizeLine) (hs2:items.size + items2.size≤sizeLine + 1) :
  Meets (Builtin.«list.extend» ⟨[.ref l,.ref b],[]⟩) (fun _ R s => s.heap.get? l = some { cls:=.type "list",dict:=none,data:=.seq items n,slots:=#[] }∧s.heap.get? b = some { cls:=.type "tuple",dict:=dd,data:=.seq items2 n2,slots:=sl }∧R (.ok (.ret Value.none)) { s with heap:=s.heap.update l (Obj.mapSeq fun x => x ++ items2),toks:=s.toks }) :=
 .of_wp fun prog w A R s h => by
  obtain ⟨hp,g,d,tk,os⟩:=s
  obtain ⟨hl,hb,h⟩:=h
  have f1:=AutoSeq1.idx_int
  have f2:=AutoSeq1.sub_tuple_tuple
  have f3:=AutoSeq1.sub_list_list
  have f4:=AutoSeq1.sub_tuple_list
  have f5:=AutoSeq1.sub_list_tuple
  have hz':(items ++ items2).size≤sizeLine + 1:=by rw [Array.size_append]; exact hs2
  wp_walk using (wpAny_updateSeq hl rfl (hz:=hs1) (_hz':=hz')),wpAny_loadPart' hl,wpAny_loadPart' hb
  exact ⟨_,rfl,h⟩
def rExtT (K:PySem.W.Frag):V→List V→Hp→VK→Prop:=fun x vs H Q => ∃ l b xs zs,x = .ref l∧vs = [.ref b]∧H l = some (.lst xs)∧SqT K H b zs∧xs.length + zs.length≤sizeLine∧Q .non (upd H l (.lst (xs ++ zs)))
theorem mt_extT:MtR X "list.extend" (rExtT X.K):=by
 intro pins s σ H x vs v us Q I rx rv h
 obtain ⟨l,b,xs,zs,rfl,rfl,hH,hB,hz,q⟩:=h
 cases rx
 obtain ⟨u,rfl,ru⟩:=rv.one
 cases ru
 obtain ⟨z,its,n,r,hl,e⟩:=I.lstM hH
 obtain ⟨its2,r2,⟨⟨c2,dd,d2,sl⟩,e2,hc2,n2,hd2⟩,_⟩:=I.tuple hB
 simp only at hc2 hd2
 subst hc2 hd2
 have hl2:=r2.length
 have hsz:its.toArray.size + its2.toArray.size≤sizeLine:=by rw [List.size_toArray,List.size_toArray]; omega
 have hlong:¬ (!its.toArray.isEmpty && Builtin.List.listTooLong (its.toArray.size + its2.toArray.size)) = true:=by
  rw [notLongL hsz,Bool.and_false]; exact Bool.false_ne_true
 refine call_meets F.slot_list_extend ⟨_,e,rfl⟩ F.entry_list_extend (F.args_list_extend_2 _ _) (ext_tup l its.toArray n b its2.toArray n2 dd sl hlong (by rw [List.size_toArray]; omega) (by omega)) ⟨e,e2,?_⟩
 refine ⟨.non,_,I.lset (its':=its ++ its2) hH e (by simp) (r.append r2) ?_,rfl,q⟩
 rw [List.length_append]
 omega
end
theorem cs_nil {X:Cx} {scope:Scope} {N:List Str} (hN:X.N = N) (hk:scope.kind = .function) (h1:(scope.names.all fun y => y.2 != .free && y.2 != .cell) = true) (h2:(scope.names.all fun y => y.2 != .local || scope.names.lookup y.1 == some .local) = true)
  (h3:(N.all fun x => scope.names.lookup x != some .local) = true):CompScope X scope [] where
 clos:=closureFor_none fun y hy => by
  have:=List.all_eq_true.mp h1 y hy
  simp only [Bool.and_eq_true,bne_iff_ne] at this
  exact this.1
 kind:=hk
 nocell:=fun y hy => by
  have:=List.all_eq_true.mp h1 y hy
  simp only [Bool.and_eq_true,bne_iff_ne] at this
  exact this.2
 names:=fun y hy e => by
  have:=List.all_eq_true.mp h2 y hy
  rw [e] at this
  simpa using this
 sub:=fun x c e => by cases e
 has:=fun x e => by
  have:=List.all_eq_true.mp h1 _ (lookup_mem e)
  simp at this
 apart:=fun x hx => by
  have:=List.all_eq_true.mp h3 x (hN▸hx)
  simpa using this
 outer:=fun x e => by
  have:=List.all_eq_true.mp h1 _ (lookup_mem e)
  simp at this
theorem cs_one {X:Cx} {scope:Scope} {N:List Str} {n:Str} {a:Addr} (hN:X.N = N) (hk:scope.kind = .function) (hcl:closureFor scope X.env = pure [(n,a)]) (hsub:X.env.cells.lookup n = some a) (hout:X.env.kindOf n = some .cell)
  (h1:(scope.names.all fun y => y.2 != .cell && (y.2 != .free || y.1 == n)) = true) (h2:(scope.names.all fun y => y.2 != .local || scope.names.lookup y.1 == some .local) = true)
  (h3:(N.all fun x => scope.names.lookup x != some .local) = true):CompScope X scope [(n,a)] where
 clos:=hcl
 kind:=hk
 nocell:=fun y hy => by
  have:=List.all_eq_true.mp h1 y hy
  simp only [Bool.and_eq_true,bne_iff_ne] at this
  exact this.1
 names:=fun y hy e => by
  have:=List.all_eq_true.mp h2 y hy
  rw [e] at this
  simpa using this
 sub:=fun x c e => by
  rw [List.lookup_cons] at e
  split at e
  ·rename_i q
   obtain rfl:x = n:=by simpa using q
   cases e; exact hsub
  ·cases e
 has:=fun x e => by
  have:=List.all_eq_true.mp h1 _ (lookup_mem e)
  simp at this
  exact ⟨a,by rw [this]; simp [List.lookup_cons]⟩
 apart:=fun x hx => by
  have:=List.all_eq_true.mp h3 x (hN▸hx)
  simpa using this
 outer:=fun x e => by
  have:=List.all_eq_true.mp h1 _ (lookup_mem e)
  simp at this
  exact .inl (this▸hout)
theorem comp_pure {K:PySem.W.Frag} {a:Addr} {xs:List V} {g:TG} {tc:TT} {te:TE} {k:Nat} {σ:St} {H:Hp} {Q:VK} (p:V→Bool) (f:V→V) (hl:SqL K H a xs) (hz:xs.length≤sizeLine)
  (step:∀ x∈xs,∀ (H':Hp) (Qy:VK) (Qn:Hp→Prop),Same H H'→(p x = true→Qy (f x) H')→(p x = false→Qn H')→g x (σ ++ List.replicate k none) H' fun σ2 H2 => (∃ zs,σ2 = σ ++ zs∧zs.length = k)∧tc σ2 H2 fun b H3 => if b = true then te σ2 H3 Qy else Qn H3)
  (q:∀ D,H D = none→Q (.ref D) (upd H D (.lst ((xs.filter p).map f)))) :
  compT k g tc te σ Q (Itl K a) H:=by
 intro D hD
 have sm:∀ ys,Same H (upd H D (.lst ys)):=fun ys b o e => by rw [upd_ne (ne_of_none e hD)]; exact e
 refine ⟨fun i m ys H' => m = xs.length - i∧i≤xs.length∧ys = ((xs.take i).filter p).map f∧H' = upd H D (.lst ys),⟨xs.length,by simp,Nat.zero_le _,by simp,rfl⟩,?_⟩
 rintro i m ys H' ⟨rfl,hi,rfl,rfl⟩
 refine ⟨upd_same,?_⟩
 have q1:SqL K (upd H D (.lst (((xs.take i).filter p).map f))) a xs:=(sm _).seq hl
 by_cases hlt:i < xs.length
 ·refine .inr ⟨⟨xs,xs[i],q1,by simp [hlt]⟩,?_,fun x H2 y => ?_⟩
  ·have:=List.length_filter_le p (xs.take i)
   rw [List.length_map]
   simp only [List.length_take] at this
   omega
  ·obtain ⟨rfl,y⟩:=y
   have hx:xs[i]? = some x:=y xs q1
   have hm:x∈xs:=List.mem_of_getElem? hx
   have et:(xs.take (i + 1)).filter p = (xs.take i).filter p ++ (if p x then [x] else []):=take_succ_filter p xs i x hx
   refine step x hm _ _ _ (sm _) (fun hp => ⟨upd_same,xs.length - (i + 1),by omega,rfl,hlt,?_,?_⟩) fun hp => ⟨xs.length - (i + 1),by omega,rfl,hlt,?_,rfl⟩
   ·rw [et,hp]; simp
   ·rw [upd_upd]
   ·rw [et,hp]; simp
 ·obtain rfl:i = xs.length:=by omega
  refine .inl ⟨⟨xs,q1,Nat.le_refl _⟩,?_⟩
  rw [List.take_length]
  exact q D hD
end L2
namespace L2
open PySem PySem.Spec PyProof.Rows PySem.W
section
variable {prog:Program} {w:World} {A:Around} {E:Value→Shared→Prop} {s:Shared} {K:PySem.W.Frag} {x C:Addr}
end
section
variable {K:PySem.W.Frag} {x C:Addr}
end
section
variable {X:Cx}
theorem refs_of:∀ {cs:List Addr} {us:List Value},Vals (cs.map V.ref) us→us = cs.map Value.ref
 | [],_,.nil => rfl
 | _ :: _,_,.cons r t => by cases r; rw [refs_of t]; rfl
theorem ix_listK {K:PySem.W.Frag} (h:X.K = K):IxR X (rIxL K):=by
 subst h; exact ix_list
end
end L2
namespace L2
open PySem PySem.Spec PyProof.Rows PySem.W
section
variable {X:Cx}
def rSlS:V→Option Int→Option Int→Hp→VK→Prop:=fun x lo hi H Q => ∃ z,x = .str z∧z.length≤sizeLine∧Q (.str (Txt.slice z lo hi)) H
theorem sl_str:SlR X rSlS:=by
 intro pins s σ H x v vl vu lo hi sl Q I rx hs pl pu h
 obtain ⟨z,rfl,hz,q⟩:=h
 obtain ⟨t,rfl⟩:=rx
 refine ⟨"str",_,F.slot_str_getitem.lookup,typeIs_str _ _ _,?_⟩
 have hle:=Nat.le_trans (Txt.slice_le z lo hi) hz
 have fin:∀ t' k,EP X pins σ Q (.str (Txt.slice z lo hi) t') { s with toks:=k }:=fun t' k => ⟨.str _,H,I.tok k,⟨t',rfl⟩,q⟩
 cases pl with
 | none =>
  cases pu with
  | none => exact wpAny_getItem_str_slice (l:=none) (u:=none) (st:=none) hs rfl (post_val_or_str ⟨hle,fin⟩)
  | int j u => exact wpAny_getItem_str_slice (l:=none) (u:=some (j,u)) (st:=none) hs rfl (post_val_or_str ⟨hle,fin⟩)
 | int i u0 =>
  cases pu with
  | none => exact wpAny_getItem_str_slice (l:=some (i,u0)) (u:=none) (st:=none) hs rfl (post_val_or_str ⟨hle,fin⟩)
  | int j u => exact wpAny_getItem_str_slice (l:=some (i,u0)) (u:=some (j,u)) (st:=none) hs rfl (post_val_or_str ⟨hle,fin⟩)
theorem vals_strsFrom:∀ (ys:List Str) (k:Nat),Vals (ys.map V.str) (strsFrom k ys)
 | [],_ => .nil
 | y :: r,k => .cons ⟨k,rfl⟩ (vals_strsFrom r (k + 1))
def rSplit:V→List V→Hp→VK→Prop:=fun x vs H Q => ∃ z y,x = .str z∧vs = [.str y]∧(y.length == 0) = false∧z.length≤sizeLine∧(Txt.split z y).length≤sizeLine∧∀ p,H p = none→Q (.ref p) (upd H p (.lst ((Txt.split z y).map V.str)))
theorem mt_split:MtR X "str.split" rSplit:=by
 intro pins s σ H x vs v us Q I rx rv h
 obtain ⟨z,y,rfl,rfl,hy,hz,hl,q⟩:=h
 obtain ⟨t,rfl⟩:=rx
 obtain ⟨u,rfl,ru⟩:=vals1 rv
 obtain ⟨t2,rfl⟩:=ru
 have fin:∀ (ys:List Str) (its:List Value) (tk:Nat),Txt.split z y = ys→Vals (ys.map V.str) its→EP X pins σ Q (.ref s.heap.objs.size) { s with toks:=tk,heap:=s.heap.push { cls:=.type "list",data:=.seq its.toArray } }:=fun ys its tk e r => by
  subst e
  exact ⟨.ref s.heap.objs.size,_,I.laid (t':=tk) (o:=.lst ((Txt.split z y).map V.str)) (fun b ob e => Heap.get?_push_of_some _ e) (Nat.le_refl _) ⟨by rw [List.length_map]; exact hl,its,0,r,Heap.get?_push_size _ rfl⟩,rfl,q _ I.fresh⟩
 cases h1:(decide (z.length < y.length) || decide (Builtin.Str.strKind z < Builtin.Str.strKind y)) with
 | true => exact call_meets F.slot_str_split (typeIs_str _ _ _) F.entry_str_split (F.args_str_split_2 _ _) (meets_str_split_cannot_occur z y t t2 h1) (fin [z] _ s.toks (if_pos h1) (.cons ⟨t,rfl⟩ .nil))
 | false =>
  have n1:=ne_true_of_eq_false h1
  cases hf:(Builtin.Str.occurrences z y 0 z.length (z.length + 1)).isEmpty with
  | true => exact call_meets F.slot_str_split (typeIs_str _ _ _) F.entry_str_split (F.args_str_split_2 _ _) (meets_str_split_not_found z y t t2 h1 hy hf) (fin [z] _ s.toks ((if_neg n1).trans (if_pos hf)) (.cons ⟨t,rfl⟩ .nil))
  | false =>
   have e:Txt.split z y = Builtin.Str.partsBetween z (Builtin.Str.occurrences z y 0 z.length (z.length + 1)) y.length:=(if_neg n1).trans (if_neg (ne_true_of_eq_false hf))
   exact call_meets F.slot_str_split (typeIs_str _ _ _) F.entry_str_split (F.args_str_split_2 _ _) (meets_str_split_sep z y t t2 h1 hy hf hz (e▸hl)) (fin _ _ _ e (vals_strsFrom _ _))
def rStarts:V→List V→Hp→VK→Prop:=fun x vs H Q => ∃ z y,x = .str z∧vs = [.str y]∧Q (.bl (Txt.startswith z y)) H
theorem mt_startswith:MtR X "str.startswith" rStarts:=by
 intro pins s σ H x vs v us Q I rx rv h
 obtain ⟨z,y,rfl,rfl,q⟩:=h
 obtain ⟨t,rfl⟩:=rx
 obtain ⟨u,rfl,ru⟩:=vals1 rv
 obtain ⟨t2,rfl⟩:=ru
 exact call_gives F.slot_str_startswith (typeIs_str _ _ _) F.entry_str_startswith (F.args_str_startswith_2 _ _) (gives_str_startswith z y t t2) (show EP X pins σ Q (.bool (Txt.startswith z y)) s from ⟨.bl _,H,I,rfl,q⟩)
theorem call_int_text:CallR X (.type "int") (fun xs H Q => ∃ z n,xs = [.str z]∧PySem.intText? z = some n∧z.length≤640∧Q (.int n) H):=by
 intro pins s σ H xs us Q I r h
 obtain ⟨z,n,rfl,hn,hl,q⟩:=h
 obtain ⟨u,rfl,ru⟩:=vals1 r
 obtain ⟨t,rfl⟩:=ru
 exact KIN.call_text hn hl ⟨.int n,H,I.tok _,⟨_,rfl⟩,q⟩
end
end L2
namespace L2
open PySem PySem.Spec PyProof.Rows PySem.W
def ItS (x:Str):It:=⟨fun i _ => i < x.length,fun i H v H' => H' = H∧∃ c,x.cps[i]? = some c∧v = .str ⟨#[c]⟩,fun i _ => x.length≤i⟩
theorem iterType (x:Str):strIterType x = "str_ascii_iterator"∨strIterType x = "str_iterator":=by
 unfold strIterType; split
 ·exact .inl rfl
 ·exact .inr rfl
theorem turn_str {P:Program} {w:World} {K:PySem.W.Frag} {tg:Expr} (it:Addr) (x:Str) (t:Tok):Turn P w K tg (ItS x) [it] it (fun i h => h.IsStrIter it (strIterType x) x t i) false where
 mem:=by simp
 obj:=fun i h st b hb => by
  obtain rfl:b = it:=by simpa using hb
  obtain ⟨o,e,c,d⟩:=st
  exact ⟨o,e,fun v z => by rw [d] at z; cases z⟩
 keep:=fun i h h' st k => by
  obtain ⟨o,e,r⟩:=st
  exact ⟨o,k it (by simp) o e,r⟩
 item:=by
  intro X hP hw hK hc i pins s σ H E I hf st hg
  subst hP hw hK
  obtain ⟨f0,f1,f2,f3,f4,f5⟩:=hf it (by simp)
  have hi:i < x.cps.size:=hg
  have hx:x.cps[i]? = some x.cps[i]:=Array.getElem?_eq_getElem hi
  have fin:∀ h',h'.IsStrIter it (strIterType x) x t (i + 1)→Heap.SameBut it s.heap h'→∃ u,some (Value.str ⟨#[x.cps[i]]⟩ s.toks) = some u ∧
    wpAny (model X.prog X.w) X.A (letOwnedTupleGo tg (.ref it) u) (fun _ s2 => ∃ v H',Inv X pins σ H' s2∧RelV v u∧(ItS x).yld i H v H'∧s2.heap.IsStrIter it (strIterType x) x t (i + 1)∧∀ b∈[it],H' b = none) E { s with heap:=h',toks:=s.toks + 1 }:=fun h' st' sb => by
   have I1:Inv X pins σ H { s with heap:=h',toks:=s.toks + 1 }:=I.turned (fun b o hb e => (sb.2 b hb).trans e) f0 f1 f3 f4 f5
   obtain ⟨o,e,c,d⟩:=id st'
   refine ⟨_,rfl,go_of (s:={ s with heap:=h',toks:=s.toks + 1 }) e c d ?_ ⟨.str ⟨#[x.cps[i]]⟩,H,I1,⟨_,rfl⟩,⟨rfl,_,hx,rfl⟩,st',fun b hb => (hf b hb).1⟩⟩
   rcases iterType x with z | z <;> (rw [z]; decide)
  rcases iterType x with z | z
  ·refine wpAny_pyNext_ascii_item (z▸st) hx fun h' st' sb => fin h' (z▸st') sb
  ·refine wpAny_pyNext_wide_item (z▸st) hx fun h' st' sb => fin h' (z▸st') sb
 done:=by
  intro X hP hw hK hc i pins s σ H E I hf st hg
  subst hP hw hK
  obtain ⟨f0,f1,f2,f3,f4,f5⟩:=hf it (by simp)
  have hx:x.cps[i]? = none:=Array.getElem?_eq_none (show x.cps.size≤i from hg)
  rcases iterType x with z | z
  ·exact ascii_on (I.hn.now I.hok) (z▸st) hx fun h' eb => ⟨rfl,I.turned (t':=s.toks) (fun b o hb e => eb b o hb e) f0 f1 f3 f4 f5⟩
  ·exact wide_on (I.hn.now I.hok) (z▸st) hx fun h' eb => ⟨rfl,I.turned (t':=s.toks) (fun b o hb e => eb b o hb e) f0 f1 f3 f4 f5⟩
 self:=fun A i s Q E st h => by
  rcases iterType x with z | z
  ·exact wpAny_pyIter_striter_ascii (z▸st) h
  ·exact wpAny_pyIter_striter_wide (z▸st) h
section
variable {X:Cx} {tg:Expr}
def iStr (tl:TE):TI:=fun σ H R => tl σ H fun v H1 => ∃ x,v = .str x∧R (ItS x) H1
theorem pi_str {l:Expr} {tl:TE} (hl:PE X l tl):PI X tg l (iStr tl):=by
 intro pins s σ H R I h
 refine thn (hl pins s σ H _ I h) fun v s1 ⟨y,H1,I1,r1,x,e,q⟩ => ?_
 subst e
 obtain ⟨t,rfl⟩:=r1
 refine wpAny_pyIter_strU ?_
 refine ⟨s1.heap.objs.size,[s1.heap.objs.size],_,_,H1,rfl,I1.kept (t':=s1.toks) fun b o e => Heap.get?_push_of_some _ e,TurnX.of (turn_str _ x t),⟨_,Heap.get?_push_size _ rfl,rfl,rfl⟩,fun b hb => ?_,q⟩
 obtain rfl:b = s1.heap.objs.size:=by simpa using hb
 exact I1.fpOk (Nat.le_refl _) (I1.hok.fresh (Nat.le_refl _))
end
end L2
namespace L2
open PySem PySem.Spec PyProof.Rows PySem.W
def alt {α:Type}:List α→List α
 | [] => []
 | [x] => [x]
 | x :: _ :: r => x :: alt r
theorem alt_le {α:Type}:∀ l:List α,(alt l).length≤l.length
 | [] => Nat.le_refl _
 | [x] => Nat.le_refl _
 | x :: y :: r => by
  have:=alt_le r
  simp only [alt,List.length_cons]; omega
theorem alt_pick {α:Type} (its:List α):∀ (c a:Nat),c = (its.length - a + 1) / 2→((List.range c).map fun (k:Nat) => ((a:Int) + 2 * (k:Int)).toNat).filterMap (its[·]?) = alt (its.drop a)
 | 0,a,h => by
  have:its.length≤a:=by omega
  rw [List.drop_eq_nil_of_le this]; rfl
 | c + 1,a,h => by
  have ha:a < its.length:=by omega
  have ih:=alt_pick its c (a + 2) (by omega)
  rw [List.range_succ_eq_map,List.map_cons,List.map_map]
  have e0:((a:Int) + 2 * ((0:Nat):Int)).toNat = a:=by omega
  have e1:((fun (k:Nat) => ((a:Int) + 2 * (k:Int)).toNat) ∘ Nat.succ) = fun (k:Nat) => (((a + 2:Nat):Int) + 2 * (k:Int)).toNat:=by
   funext k; show ((a:Int) + 2 * ((k + 1:Nat):Int)).toNat = _; omega
  rw [e0,e1,List.filterMap_cons,List.getElem?_eq_getElem ha]
  dsimp only
  rw [ih,List.drop_eq_getElem_cons ha]
  by_cases h2:a + 1 < its.length
  ·rw [List.drop_eq_getElem_cons h2]; rfl
  ·rw [List.drop_eq_nil_of_le (show its.length≤a + 1 by omega),List.drop_eq_nil_of_le (show its.length≤a + 2 by omega)]; rfl
theorem pick_alt (its:List Value) (a:Nat):slicePick its.toArray (some (a:Int)) none (some 2) = (alt (its.drop a)).toArray:=by
 unfold slicePick
 congr 1
 have hb:sliceBounds (some (a:Int)) none (some 2) its.toArray.size = (((min a its.length:Nat):Int),(its.length:Int),(2:Int)):=by
  unfold sliceBounds
  simp only [Option.getD_some,show (2:Int) > 0 by decide,if_true,List.size_toArray]
  rw [if_neg (show ¬ (a:Int) < 0 by omega)]
  congr 1
  omega
 rw [hb]
 have key:=alt_pick its ((its.length - min a its.length + 1) / 2) (min a its.length) rfl
 have e:its.drop (min a its.length) = its.drop a:=by
  by_cases h:a≤its.length
  ·rw [Nat.min_eq_left h]
  ·rw [Nat.min_eq_right (by omega),List.drop_eq_nil_of_le (Nat.le_refl _),List.drop_eq_nil_of_le (by omega)]
 rw [e] at key
 rw [← key]
 unfold sliceRange
 simp only [show (2:Int) > 0 by decide,if_true]
 have hc:(if ((min a its.length:Nat):Int) < (its.length:Int) then ((its.length:Int) - ((min a its.length:Nat):Int) + 2 - 1) / 2 else 0).toNat = (its.length - min a its.length + 1) / 2:=by
  split <;> omega
 rw [hc]
 congr 1
 funext x
 simp
theorem Vals.alt:∀ {xs:List V} {us:List Value},Vals xs us→Vals (L2.alt xs) (L2.alt us)
 | _,_,.nil => .nil
 | _,_,.cons r .nil => .cons r .nil
 | _,_,.cons r (.cons _ t) => .cons r (Vals.alt t)
section
variable {X:Cx} {e:Expr} {te:TE} {pos p2 q1 q2:Pos} {j1 j2:Nat}
def tAlt (K:PySem.W.Frag) (a:Nat) (te:TE):TE:=fun σ H Q => te σ H fun x H1 => ∃ l xs,x = .ref l∧SqL K H1 l xs∧∀ p,H1 p = none→Q (.ref p) (upd H1 p (.lst (alt (xs.drop a))))
theorem pe_alt (a:Nat) (he:PE X e te):PE X (.Subscript e (.Slice (some (.Constant (.int (a:Int)) j1 q1)) none (some (.Constant (.int 2) j2 q2)) p2) pos) (tAlt X.K a te):=by
 intro pins s σ H Q I h
 refine Subscript_ (thn (he pins s σ H _ I h) fun v s1 ⟨x,H1,I1,r1,l,xs,ex,hq,q⟩ => ?_)
 subst ex
 cases r1
 refine wpAny_Slice ?_
 rw [evalPart_some]
 refine wpAny_Constant_int ?_
 rw [evalPart_none]
 refine wpAny_pure ?_
 rw [evalPart_some]
 refine wpAny_Constant_int ?_
 let sl:Obj:={ cls:=.type "slice",data:=.fields #[.int (a:Int) s1.toks,.none,.int 2 (s1.toks + 1)] }
 have I2:Inv X pins σ H1 { s1 with heap:=s1.heap.push sl,toks:=s1.toks + 1 + 1 }:=I1.kept fun b ob q => Heap.get?_push_of_some _ q
 obtain ⟨its,r,ht,hz⟩:=I2.list hq
 have hlen:=r.length
 show wpAny (model X.prog X.w) X.A (subscriptTail e (.Slice (some (.Constant (.int (a:Int)) j1 q1)) none (some (.Constant (.int 2) j2 q2)) p2) (.ref l) (.ref s1.heap.objs.size)) (EP X pins σ Q) X.xe { s1 with heap:=s1.heap.push sl,toks:=s1.toks + 1 + 1 }
 refine tail_any (ops:=[.ref l,.ref s1.heap.objs.size]) ht.isList.typeIs slot_list_getitem.lookup ?_ (by with_unfolding_all rfl)
 refine wpAny_getItem_list_slice (lo:=some (a:Int)) (hi:=none) (st:=some 2) ht.isList (Heap.IsSliceOf.new ..) (.int _ _) .none (.int _ _) (by decide) ?_ (by rw [List.size_toArray] <;> omega)
 rw [pick_alt]
 refine ⟨.ref _,_,I2.laid (t':=s1.toks + 1 + 1) (o:=.lst (alt (xs.drop a))) (fun b ob q => Heap.get?_push_of_some _ q) (Nat.le_refl _) ?_,rfl,q _ (I2.hok.fresh (Nat.le_refl _))⟩
 refine ⟨Nat.le_trans (alt_le _) (Nat.le_trans (by rw [List.length_drop]; omega) hz),_,0,(r.drop a).alt,Heap.get?_push_size _ rfl⟩
theorem all_range {bs:List Bool}:(List.range bs.length).all (fun j => bs.getD j true) = bs.all id:=by
 rw [Bool.eq_iff_iff,List.all_eq_true,List.all_eq_true]
 constructor
 ·intro h b hb
  obtain ⟨j,hj,rfl⟩:=List.getElem_of_mem hb
  have:=h j (List.mem_range.mpr hj)
  rwa [List.getD_eq_getElem?_getD,List.getElem?_eq_getElem hj] at this
 ·intro h j hj
  have hj:=List.mem_range.mp hj
  rw [List.getD_eq_getElem?_getD,List.getElem?_eq_getElem hj]
  exact h _ (List.getElem_mem hj)
theorem call_all_bools (hc:X.calm = true):CallR X (.builtin "all") (fun xs H Q => ∃ (p:Addr) (bs:List Bool),xs = [.ref p]∧SqL X.K H p (bs.map V.bl)∧Q (.bl (bs.all id)) H):=by
 intro pins s σ H xs us Q I r h
 obtain ⟨p,bs,rfl,hq,q⟩:=h
 obtain ⟨u,rfl,ru⟩:=vals1 r
 cases ru
 obtain ⟨its,rv,pl,_⟩:=I.list hq
 have hlen:its.length = bs.length:=by rw [← rv.length,List.length_map]
 have hat:∀ (i:Nat) (v:Value),its.toArray[i]? = some v→v = .bool (bs.getD i true):=fun i v e => by
  have e':its[i]? = some v:=by simpa using e
  have hi:i < bs.length:=by rw [← hlen]; exact (List.getElem?_eq_some_iff.mp e').1
  obtain ⟨u,hu,ru⟩:=rv.get (i:=i) (x:=V.bl bs[i]) (by simp [hi])
  rw [e'] at hu; cases hu
  obtain rfl:=ru
  rw [List.getD_eq_getElem?_getD,List.getElem?_eq_getElem hi]; rfl
 have hlt:p < s.heap.objs.size:=by obtain ⟨_,e,_⟩:=pl.isList; exact Heap.lt_size e
 refine call_all_walk (wpAny_pyIter_list pl.isList ?_)
 refine ⟨_,_,_,_,_,_,fun j => bs.getD j true,rfl,Walks.list (A:=X.A.in1) (I.ok.hd hc) s.heap.objs.size p (Nat.ne_of_lt hlt) its.toArray,⟨⟨_,Heap.get?_push_size _ rfl,rfl,rfl⟩,pl.isList.push _⟩,?_,fun h' tk hk => ?_⟩
 ·intro i v s' Q' E' hP hq'
  obtain rfl:=hat i v hP
  exact wpAny_of_eq rfl hq'
 ·rw [List.size_toArray,hlen,all_range]
  exact ⟨.bl _,H,I.kept fun b o e => hk b o (fun hm => by simp at hm; exact absurd (hm▸Heap.lt_size e) (Nat.lt_irrefl _)) (Heap.get?_push_of_some _ e),rfl,q⟩
end
end L2
namespace L2
open PySem PySem.Spec PyProof.Rows PySem.W
section
variable {X:Cx}
structure TupAt (h:Heap) (p:Addr × V × V):Prop where
 ex:∃ u v,IsPair h p.1 u v∧RelV p.2.1 u∧RelV p.2.2 v
theorem track_all {pins:List (Addr × Obj)} {σ:St} {s:Shared}:∀ (ps:List (Addr × V × V)) (H:Hp),Inv X pins σ H s→(∀ p∈ps,TupAt s.heap p)→(∀ p∈ps,H p.1 = none∨H p.1 = some (.tup [p.2.1,p.2.2])) →
  (∀ p∈ps,X.s₀.heap.get? p.1 = none∧p.1≠X.env.locals∧(∀ x c,X.env.cells.lookup x = some c→c≠p.1)∧∀ q∈X.pn ++ pins,q.1≠p.1) →
  ∃ H',Same H H'∧Inv X pins σ H' s∧(∀ p∈ps,H' p.1 = some (.tup [p.2.1,p.2.2]))∧∀ b,b ∉ ps.map (·.1)→H' b = H b
 | [],H,I,_,_,_ => ⟨H,Same.refl H,I,(fun _ h => nomatch h),fun _ _ => rfl⟩
 | p :: r,H,I,ht,hn,hf => by
  obtain ⟨u,v,e,r1,r2⟩:=(ht p (.head _)).ex
  obtain ⟨H1,s1,I1,t1,o1⟩:∃ H1,Same H H1∧Inv X pins σ H1 s∧H1 p.1 = some (.tup [p.2.1,p.2.2])∧∀ b,b≠p.1→H1 b = H b:=by
   rcases hn p (.head _) with z | z
   ·obtain ⟨f1,f2,f3,f4⟩:=hf p (.head _)
    refine ⟨upd H p.1 (.tup [p.2.1,p.2.2]),fun b o q => by rw [upd_ne (ne_of_none q z)]; exact q,I.track z f1 f2 f3 f4 ⟨by show 2≤sizeLine; decide,[u,v],.cons r1 (.cons r2 .nil),_,e,rfl,_,rfl⟩,upd_same,fun b hb => upd_ne hb⟩
   ·exact ⟨H,Same.refl H,I,z,fun _ _ => rfl⟩
  obtain ⟨H2,s2,I2,t2,o2⟩:=track_all r H1 I1 (fun q hq => ht q (.tail _ hq)) (fun q hq => by
   by_cases eq:q.1 = p.1
   ·refine .inr ?_
    obtain ⟨u',v',e',q1,q2⟩:=(ht q (.tail _ hq)).ex
    rw [eq] at e'
    replace e':=e.symm.trans e'
    have e2:(#[u,v]:Array Value) = #[u',v']:=by
     have:=congrArg Obj.data (Option.some.inj e')
     injection this
    have e3:[u,v] = [u',v']:=congrArg Array.toList e2
    injection e3 with e4 e5
    injection e5 with e5 _
    subst e4 e5
    rw [eq,t1,r1.inj q1,r2.inj q2]
   ·rw [o1 q.1 eq]; exact hn q (.tail _ hq)) fun q hq => hf q (.tail _ hq)
  refine ⟨H2,s1.trans s2,I2,fun q hq => ?_,fun b hb => ?_⟩
  ·rcases List.mem_cons.mp hq with rfl | hq
   ·exact s2 _ _ t1
   ·exact t2 q hq
  ·rw [List.map_cons,List.mem_cons,not_or] at hb
   rw [o2 b hb.2,o1 b hb.1]
end
section
variable {X:Cx}
def tLZ (K:PySem.W.Frag) (ta:TA):TE:=fun σ H Q => ta σ H fun vs H1 => ∃ l1 l2 xs ys,vs = [.ref l1,.ref l2]∧SqL K H1 l1 xs∧SqL K H1 l2 ys ∧
 ∀ (p:Addr) (ts:List Addr) (H':Hp),Same H1 H'→H1 p = none→H' p = some (.lst (ts.map V.ref))→ts.length = (xs.zip ys).length→(∀ (i:Nat) (t:Addr) (x y:V),ts[i]? = some t→(xs.zip ys)[i]? = some (x,y)→H' t = some (.tup [x,y]))→(∀ t∈ts,H1 t = none)→Q (.ref p) H'
theorem pe_listzip {a b:Expr} {ta:TA} {p pos pz posz:Pos} (hcm:X.calm = true) (hg:Gl X "list") (hm:X.mg "list" = none) (hgz:Gl X "zip") (hmz:X.mg "zip" = none) (ha:PA X [a,b] ta)
  (hs:starEach [a,b] X.env = [(false,eval a X.env),(false,eval b X.env)]:=by rfl) (hs2:starEach [b] X.env = [(false,eval b X.env)]:=by rfl)
  (hs3:starEach [.Call (.Name "zip" pz) [a,b] [] posz] X.env = [(false,eval (.Call (.Name "zip" pz) [a,b] [] posz) X.env)]:=by rfl) :
  PE X (.Call (.Name "list" p) [.Call (.Name "zip" pz) [a,b] [] posz] [] pos) (tLZ X.K ta):=by
 intro pins s σ H Q I h
 refine wpAny_Call_Name_kw (ld_blt I hg hm b_list ?_)
 refine PyProof.Rows.callWith_type1 ?_ hs3 rfl
 rw [hs3]
 refine Calls.spliced_cons ?_
 refine Call_ (ld_blt I hgz hmz boot_zip (PyProof.Rows.callWith_type1 (thn (ha posz pins s σ H _ I h) fun us s1 ⟨vs,H1,I1,r1,q1⟩ => ?_) (by rw [hs,hs2]) (by rw [hs2]; rfl)))
 obtain ⟨l1,l2,xs,ys,e,hx,hy,q⟩:=q1
 subst e
 obtain ⟨u,v,rfl,ru,rv⟩:=vals2 r1
 cases ru
 cases rv
 obtain ⟨its,rx,p1,zx⟩:=I1.list hx
 obtain ⟨jts,ry,p2,zy⟩:=I1.list hy
 have a1:l1 < s1.heap.objs.size:=by obtain ⟨_,e,_⟩:=p1.isList; exact Heap.lt_size e
 have a2:l2 < s1.heap.objs.size:=by obtain ⟨_,e,_⟩:=p2.isList; exact Heap.lt_size e
 have lx:=rx.length
 have ly:=ry.length
 refine call_zip_2 p1.isList p2.isList fun g z1 z2 z3 z4 z5 z6 k => ?_
 refine Calls.spliced_nil ?_
 refine list_zip (s:={ s1 with heap:=g }) (xs:=its.toArray) (ys:=jts.toArray) (I.ok.hd hcm) (zipApart_new a1 a2) (by rw [List.size_toArray,List.size_toArray]; exact Nat.le_trans (Nat.min_le_left _ _) (by omega)) z1 z2 z3 z4 z5 (p1.isList.at fun o e => k _ _ e) (p2.isList.at fun o e => k _ _ e) fun h' ts G hl => ?_
 have hz6:g.objs.size = s1.heap.objs.size + 5:=z6
 have old:∀ c o,s1.heap.get? c = some o→h'.get? c = some o:=fun c o e => by
  have lt:=Heap.lt_size e
  refine G.old c o (fun hc => ?_) (k c o e)
  have hc:c = g.objs.size∨c = s1.heap.objs.size + 4∨c = s1.heap.objs.size + 3∨c = s1.heap.objs.size∨c = s1.heap.objs.size + 1:=by simpa using hc
  have lt':(c:Nat) < s1.heap.objs.size:=lt
  rcases hc with e | e | e | e | e
  ·exact absurd lt' (Nat.not_lt.mpr (by rw [e,hz6]; exact Nat.le_add_right _ 5))
  ·exact absurd lt' (Nat.not_lt.mpr (by rw [e]; exact Nat.le_add_right _ 4))
  ·exact absurd lt' (Nat.not_lt.mpr (by rw [e]; exact Nat.le_add_right _ 3))
  ·exact absurd lt' (Nat.not_lt.mpr (by rw [e]; exact Nat.le_refl _))
  ·exact absurd lt' (Nat.not_lt.mpr (by rw [e]; exact Nat.le_add_right _ 1))
 have J:Inv X pins σ H1 { s1 with heap:=h' }:=I1.kept (t':=s1.toks) old
 have fresh:∀ t,s1.heap.objs.size≤t→H1 t = none∧X.s₀.heap.get? t = none∧t≠X.env.locals∧(∀ x c,X.env.cells.lookup x = some c→c≠t)∧∀ q∈X.pn ++ pins,q.1≠t:=fun t le => by
  have ne:∀ {c o},s1.heap.get? c = some o→c≠t:=fun e => Nat.ne_of_lt (Nat.lt_of_lt_of_le (Heap.lt_size e) le)
  refine ⟨I1.hok.fresh le,Heap.get?_none_of_le (Nat.le_trans I1.sz le),fun z => ?_,fun x c ec => ?_,fun q hq => ne (I1.pin q hq).1⟩
  ·obtain ⟨m,⟨o,_,_,ho,_⟩,_⟩:=I1.loc
   exact ne ho z.symm
  ·obtain ⟨v,o,ho,_⟩:=I1.cell x c ec
   exact ne ho
 have le5:∀ t,g.objs.size≤t→s1.heap.objs.size≤t:=fun t h => Nat.le_trans (by rw [hz6]; exact Nat.le_add_right _ 5) h
 have hzl:(xs.zip ys).length = ts.length:=by
  rw [hl,List.length_zip,List.size_toArray,List.size_toArray,lx,ly]
 have pairs:∀ (i:Nat) (t:Addr) (x y:V),ts[i]? = some t→(xs.zip ys)[i]? = some (x,y)→TupAt h' (t,x,y):=fun i t x y ht hxy => by
  rw [List.getElem?_zip_eq_some] at hxy
  obtain ⟨u,hu,ru⟩:=rx.get hxy.1
  obtain ⟨v,hv,rv⟩:=ry.get hxy.2
  exact ⟨u,v,G.prs i t u v ht (by simpa using hu) (by simpa using hv),ru,rv⟩
 let ps:List (Addr × V × V):=ts.zip (xs.zip ys)
 have hps:∀ q∈ps,∃ i,ts[i]? = some q.1∧(xs.zip ys)[i]? = some q.2:=fun q hq => by
  obtain ⟨i,hi,e⟩:=List.getElem_of_mem hq
  have e':ps[i]? = some q:=by rw [List.getElem?_eq_getElem hi,e]
  rw [List.getElem?_zip_eq_some] at e'
  exact ⟨i,e'⟩
 obtain ⟨H',sm,J',tt,oo⟩:=track_all (X:=X) (s:={ s1 with heap:=h' }) ps H1 J (fun q hq => let ⟨i,h1,h2⟩:=hps q hq; pairs i q.1 q.2.1 q.2.2 h1 h2)
  (fun q hq => let ⟨i,h1,_⟩:=hps q hq; .inl (fresh q.1 (le5 _ (G.new _ (List.mem_of_getElem? h1)).1)).1) (fun q hq => let ⟨i,h1,_⟩:=hps q hq; (fresh q.1 (le5 _ (G.new _ (List.mem_of_getElem? h1)).1)).2)
 have hSn:H1 g.objs.size = none:=(fresh _ (le5 _ (Nat.le_refl _))).1
 have hS':H' g.objs.size = none:=by
  rw [oo _ fun hm => ?_,hSn]
  obtain ⟨q,hq,e⟩:=List.mem_map.mp hm
  obtain ⟨i,h1,_⟩:=hps q hq
  exact (G.new _ (List.mem_of_getElem? h1)).2 e
 obtain ⟨f1,f2,f3,f4⟩:=(fresh _ (le5 _ (Nat.le_refl g.objs.size))).2
 obtain ⟨c,hS⟩:=G.lst
 have tsz:ts.length≤sizeLine:=by
  rw [hl,List.size_toArray,List.size_toArray]
  exact Nat.le_trans (Nat.min_le_left _ _) (by omega)
 have vr:∀ l:List Addr,Vals (l.map V.ref) (l.map Value.ref):=fun l => by
  induction l with
  | nil => exact .nil
  | cons a r ih => exact .cons rfl ih
 have K:=J'.track (o:=.lst (ts.map V.ref)) hS' f1 f2 f3 f4 ⟨by rw [List.length_map]; exact tsz,_,c,vr ts,hS⟩
 have sm2:Same H1 (upd H' g.objs.size (.lst (ts.map V.ref))):=fun b o e => by
  rw [upd_ne (ne_of_none (sm _ _ e) hS')]; exact sm _ _ e
 refine ⟨.ref g.objs.size,_,K,rfl,q g.objs.size ts _ sm2 hSn upd_same hzl.symm (fun i t x y ht hxy => ?_) fun t ht => (fresh t (le5 _ (G.new t ht).1)).1⟩
 have hm:(t,x,y)∈ps:=List.mem_of_getElem? (i:=i) (by rw [List.getElem?_zip_eq_some]; exact ⟨ht,hxy⟩)
 have e:=tt _ hm
 rw [upd_ne (ne_of_none e hS')]; exact e
end
end L2
namespace Wd
open PySem L2 PySem.NumText PySem.W
theorem str_ext {x y:Str} (h:x.cps.toList = y.cps.toList):x = y:=Str.ext' (Array.toList_inj.mp h)
theorem len_list (x:Str):x.length = x.cps.toList.length:=by simp [Str.length]
def figs:List Nat→List Nat
 | 45 :: r => r
 | l => l
theorem figs_neg (r:List Nat):figs (45 :: r) = r:=rfl
theorem figs_pos {l:List Nat} (h:l.head?≠some 45):figs l = l:=by
 unfold figs
 split
 ·exact absurd rfl h
 ·rfl
def isDig (c:Nat):Bool:=decide (48≤c) && decide (c≤57)
def isNumL (l:List Nat):Bool:=decide (1≤(figs l).length) && decide ((figs l).length≤40) && (figs l).all isDig && !((figs l).head? == some 48 && !(l == [48]))
def numL (l:List Nat):Int:=if l.head? = some 45 then -((digitsVal (figs l):Nat):Int) else ((digitsVal l:Nat):Int)
structure NumOk (l:List Nat):Prop where
 one:1≤(figs l).length
 few:(figs l).length≤40
 dig:AllDigits (figs l)
 lead:(figs l).head? = some 48→l = [48]
theorem numOk {l:List Nat} (h:isNumL l = true):NumOk l:=by
 unfold isNumL at h
 simp only [Bool.and_eq_true,decide_eq_true_eq,Bool.not_eq_true',Bool.and_eq_false_iff,beq_eq_false_iff_ne] at h
 obtain ⟨⟨⟨h1,h2⟩,h3⟩,h4⟩:=h
 refine ⟨h1,h2,fun c hc => ?_,fun e => ?_⟩
 ·have:=List.all_eq_true.mp h3 c hc
  simpa [isDig] using this
 ·rcases h4 with z | z
  ·exact absurd e z
  ·simpa using z
theorem NumOk.ne {l:List Nat} (h:NumOk l):figs l≠[]:=fun e => by have:=h.one; rw [e] at this; exact absurd this (by decide)
theorem NumOk.len {l:List Nat} (h:NumOk l):l.length≤41:=by
 have h2:=h.few
 unfold figs at h2
 split at h2
 ·simp only [List.length_cons]; omega
 ·omega
theorem int_of {w:Str} (h:NumOk w.cps.toList):PySem.intText? w = some (numL w.cps.toList):=by
 have hl:=h.len
 have h4:w.length≤4300:=by rw [len_list]; omega
 by_cases e:w.cps.toList.head? = some 45
 ·obtain ⟨r,hr⟩:∃ r,w.cps.toList = 45 :: r:=by
   cases q:w.cps.toList with
   | nil => rw [q] at e; cases e
   | cons a r => rw [q] at e; cases e; exact ⟨r,rfl⟩
  have hd:=h.dig
  have hn:=h.ne
  rw [hr,figs_neg] at hd hn
  unfold numL
  rw [if_pos e,hr,figs_neg]
  exact intText_neg hr hd hn h4
 ·have hd:=h.dig
  have hn:=h.ne
  rw [figs_pos e] at hd hn
  unfold numL
  rw [if_neg e]
  exact intText_digits hd hn h4
theorem dv_snoc (cs:List Nat) (c:Nat):digitsVal (cs ++ [c]) = digitsVal cs * 10 + (c - 48):=by
 unfold digitsVal; rw [List.foldl_append]; rfl
theorem foldl_ge (cs:List Nat):∀ a,a≤cs.foldl (fun acc c => acc * 10 + (c - 48)) a:=by
 induction cs with
 | nil => intro a; exact Nat.le_refl _
 | cons c r ih => intro a; exact Nat.le_trans (by omega) (ih (a * 10 + (c - 48)))
theorem dv_pos {c:Nat} {cs:List Nat} (h:49≤c):1≤digitsVal (c :: cs):=by
 unfold digitsVal
 rw [List.foldl_cons]
 exact Nat.le_trans (by omega) (foldl_ge cs _)
theorem dchar {d:Nat} (h:d < 10):(Nat.digitChar d).toNat = 48 + d:=by
 match d,h with
 | 0,_ | 1,_ | 2,_ | 3,_ | 4,_ | 5,_ | 6,_ | 7,_ | 8,_ | 9,_ => rfl
theorem figs_again:∀ (n:Nat) (cs:List Nat),cs.length = n→AllDigits cs→cs≠[]→(cs.head? = some 48→cs = [48])→(Nat.toDigits 10 (digitsVal cs)).map Char.toNat = cs
 | 0,cs,hl,_,hne,_ => absurd (List.length_eq_zero_iff.mp hl) hne
 | n + 1,cs,hl,hd,hne,h0 => by
  obtain ⟨ds,c,rfl⟩:∃ ds c,cs = ds ++ [c]:=⟨cs.dropLast,cs.getLast hne,(List.dropLast_concat_getLast hne).symm⟩
  have hc:=hd c (by simp)
  rw [dv_snoc]
  by_cases hn:ds = []
  ·subst hn
   have e:digitsVal [] * 10 + (c - 48) = c - 48:=by show 0 * 10 + (c - 48) = _; omega
   rw [e,Nat.toDigits_of_lt_base (by omega)]
   simp only [List.map_cons,List.map_nil,List.nil_append,dchar (show c - 48 < 10 by omega)]
   congr 1; omega
  ·have hl':ds.length = n:=by simp at hl; omega
   obtain ⟨a,r,rfl⟩:∃ a r,ds = a :: r:=by
    cases ds with
    | nil => exact absurd rfl hn
    | cons a r => exact ⟨a,r,rfl⟩
   have ha:49≤a:=by
    have h1:=hd a (by simp)
    by_cases e:a = 48
    ·subst e
     have:=h0 rfl
     simp at this
    ·omega
   have ih:=figs_again n (a :: r) hl' (fun x hx => hd x (List.mem_append_left _ hx)) (by simp) (fun e => by simp at e; omega)
   have hp:=dv_pos (cs:=r) ha
   have e1:(digitsVal (a :: r) * 10 + (c - 48)) / 10 = digitsVal (a :: r):=by omega
   have e2:(digitsVal (a :: r) * 10 + (c - 48)) % 10 = c - 48:=by omega
   rw [Nat.toDigits_of_base_le (by decide) (by omega),e1,e2,List.map_append,ih]
   simp only [List.map_cons,List.map_nil,dchar (show c - 48 < 10 by omega)]
   congr 2; omega
theorem dv_lt:∀ cs:List Nat,AllDigits cs→digitsVal cs < 10 ^ cs.length:=by
 intro cs
 induction h:cs.length generalizing cs with
 | zero => intro _; rw [List.length_eq_zero_iff.mp h]; decide
 | succ n ih =>
  intro hd
  have hne:cs≠[]:=fun e => by rw [e] at h; cases h
  obtain ⟨ds,c,rfl⟩:∃ ds c,cs = ds ++ [c]:=⟨cs.dropLast,cs.getLast hne,(List.dropLast_concat_getLast hne).symm⟩
  have hc:=hd c (by simp)
  have:=ih ds (by simp at h; exact h) fun x hx => hd x (List.mem_append_left _ hx)
  rw [dv_snoc,Nat.pow_succ]
  omega
def Lg (n:Int):Prop:=n.natAbs.log2 < 1920
theorem lg_of {n:Int} (h:n.natAbs < 10 ^ 42):Lg n:=by
 unfold Lg
 by_cases z:n.natAbs = 0
 ·rw [z]; decide
 ·refine (Nat.log2_lt z).mpr (Nat.lt_of_lt_of_le h ?_)
  exact Nat.le_trans (show (10:Nat) ^ 42≤2 ^ 200 by decide) (Nat.pow_le_pow_right (by decide) (by decide))
theorem NumOk.lg {l:List Nat} (h:NumOk l):Lg (numL l):=by
 refine lg_of ?_
 have hp:(10:Nat) ^ (figs l).length≤10 ^ 40:=Nat.pow_le_pow_right (by decide) h.few
 have h1:=dv_lt _ h.dig
 have h2:(10:Nat) ^ 40 < 10 ^ 42:=by decide
 unfold numL
 by_cases e:l.head? = some 45
 ·rw [if_pos e]; omega
 ·rw [if_neg e]
  rw [figs_pos e] at h1 hp
  omega
def tx (n:Int):Str:=PySem.Str.ofString (toString n)
theorem ofS (s:String):(PySem.Str.ofString s).cps.toList = s.toList.map Char.toNat:=by rw [PySem.Str.ofString_eq_toList]
theorem tx_num {w:Str} (h:NumOk w.cps.toList):tx (numL w.cps.toList) = w:=by
 apply str_ext
 unfold tx
 by_cases e:w.cps.toList.head? = some 45
 ·obtain ⟨r,hr⟩:∃ r,w.cps.toList = 45 :: r:=by
   cases q:w.cps.toList with
   | nil => rw [q] at e; cases e
   | cons a r => rw [q] at e; cases e; exact ⟨r,rfl⟩
  have hd:=h.dig
  have hn:=h.ne
  have hlead:=h.lead
  rw [hr,figs_neg] at hd hn hlead
  have h48:r.head?≠some 48:=fun z => by have:=hlead z; cases this
  have ag:=figs_again _ r rfl hd hn fun z => absurd z h48
  unfold numL
  rw [if_pos e,hr,figs_neg]
  obtain ⟨a,t,rfl⟩:∃ a t,r = a :: t:=by
   cases r with
   | nil => exact absurd rfl hn
   | cons a t => exact ⟨a,t,rfl⟩
  have ha:=hd a (.head _)
  have hp:1≤digitsVal (a :: t):=dv_pos (by have:a≠48:=fun z => h48 (by rw [z]; rfl); omega)
  obtain ⟨k,hk⟩:∃ k,digitsVal (a :: t) = k + 1:=⟨digitsVal (a :: t) - 1,by omega⟩
  rw [hk] at ag ⊢
  have e2:toString (-((k + 1:Nat):Int)) = "-" ++ toString (k + 1):=rfl
  rw [e2,ofS,String.toList_append,List.map_append]
  have e3:((toString (k + 1):String).toList.map Char.toNat) = (Nat.toDigits 10 (k + 1)).map Char.toNat:=by
   show (Nat.repr (k + 1)).toList.map Char.toNat = _
   rw [Nat.toList_repr]
  rw [e3,ag]
  rfl
 ·have hd:=h.dig
  have hn:=h.ne
  have hlead:=h.lead
  rw [figs_pos e] at hd hn hlead
  unfold numL
  rw [if_neg e,KIN.signs_num]
  exact figs_again _ _ rfl hd hn hlead
theorem starts_one (w:Str) (c:Nat):Txt.startswith w ⟨#[c]⟩ = decide (w.cps.toList.head? = some c):=by
 rw [Bool.eq_iff_iff,decide_eq_true_iff]
 have:=StrLaws.subAt_one w c 0
 rw [← List.head?_eq_getElem?] at this
 rw [← this]
 unfold Txt.startswith
 simp
theorem slice1 {w:Str} (h:1≤w.cps.toList.length):(Txt.slice w (some 1) none).cps.toList = w.cps.toList.drop 1:=by
 have:=StrLaws.sliceText_from (x:=w) (i:=1) ⟨by decide,by omega⟩
 show (StrLaws.sliceText w (some 1) none).cps.toList = _
 rw [this]
 show List.take _ (List.drop 1 _) = _
 exact List.take_of_length_le (by rw [List.length_drop]; omega)
theorem fig_in (c:Nat):(!(Builtin.Str.occurrences ("0123456789":Str) ⟨#[c]⟩ 0 ("0123456789":Str).length 1).isEmpty) = isDig c:=by
 rw [StrLaws.found_one]
 have e:("0123456789":Str).cps.toList = [48,49,50,51,52,53,54,55,56,57]:=by decide +kernel
 rw [e,Bool.eq_iff_iff,decide_eq_true_iff]
 simp only [List.mem_cons,List.not_mem_nil,or_false,isDig,Bool.and_eq_true,decide_eq_true_eq]
 omega
theorem split_ne (x y:Str):Txt.split x y≠[]:=by
 unfold Txt.split
 split
 ·simp
 ·split
  ·simp
  ·intro e
   have:=congrArg List.length e
   rw [PyProof.Rows.len_partsBetween] at this
   cases this
end Wd
namespace L2
open PySem PySem.Spec PyProof.Rows
theorem b_all:bootBuiltins "all" = some (.builtin "all"):=by decide +kernel
theorem new_same {H H':Hp} {D:Addr} {o:HO} (hD:H D = none) (s:Same H H'):Same H (upd H' D o):=fun b u e => by rw [upd_ne (ne_of_none e hD)]; exact s b u e
theorem comp_grow {K:PySem.W.Frag} {a:Addr} {xs:List V} {g:TG} {tc:TT} {te:TE} {k:Nat} {σ:St} {H:Hp} {Q:VK} (p:V→Bool) (f:V→V) (hl:SqL K H a xs) (hz:xs.length≤sizeLine)
  (step:∀ x∈xs,∀ (H':Hp) (Qy:VK) (Qn:Hp→Prop),Same H H'→(p x = true→∀ H'',Same H' H''→Qy (f x) H'')→(p x = false→∀ H'',Same H' H''→Qn H'')→g x (σ ++ List.replicate k none) H' fun σ2 H2 => (∃ zs,σ2 = σ ++ zs∧zs.length = k)∧tc σ2 H2 fun b H3 => if b = true then te σ2 H3 Qy else Qn H3)
  (q:∀ D H',H D = none→Same H H'→H' D = some (.lst ((xs.filter p).map f))→Q (.ref D) H'):compT k g tc te σ Q (Itl K a) H:=by
 intro D hD
 refine ⟨fun i m ys H' => m = xs.length - i∧i≤xs.length∧ys = ((xs.take i).filter p).map f∧Same H H'∧H' D = some (.lst ys),⟨xs.length,by simp,Nat.zero_le _,by simp,new_same hD (Same.refl H),upd_same⟩,?_⟩
 rintro i m ys H' ⟨rfl,hi,rfl,sm,eD⟩
 refine ⟨eD,?_⟩
 have q1:SqL K H' a xs:=sm.seq hl
 by_cases hlt:i < xs.length
 ·refine .inr ⟨⟨xs,xs[i],q1,by simp [hlt]⟩,?_,fun x H2 y => ?_⟩
  ·have:=List.length_filter_le p (xs.take i)
   rw [List.length_map]
   simp only [List.length_take] at this
   omega
  ·obtain ⟨rfl,y⟩:=y
   have hx:xs[i]? = some x:=y xs q1
   have et:(xs.take (i + 1)).filter p = (xs.take i).filter p ++ (if p x then [x] else []):=take_succ_filter p xs i x hx
   refine step x (List.mem_of_getElem? hx) _ _ _ sm (fun hp H4 s4 => ⟨s4 _ _ eD,xs.length - (i + 1),by omega,rfl,hlt,?_,new_same hD (Same.trans sm s4),upd_same⟩) fun hp H4 s4 => ⟨xs.length - (i + 1),by omega,rfl,hlt,?_,Same.trans sm s4,s4 _ _ eD⟩
   ·rw [et,hp]; simp
   ·rw [et,hp]; simp
 ·obtain rfl:i = xs.length:=by omega
  refine .inl ⟨⟨xs,q1,Nat.le_refl _⟩,?_⟩
  rw [List.take_length] at eD
  exact q D H' hD sm eD
theorem comp_str {x:Str} {g:TG} {tc:TT} {te:TE} {k:Nat} {σ:St} {H:Hp} {Q:VK} (p:Nat→Bool) (f:Nat→V) (hz:x.length≤sizeLine)
  (step:∀ c∈x.cps.toList,∀ (H':Hp) (Qy:VK) (Qn:Hp→Prop),Same H H'→(p c = true→∀ H'',Same H' H''→Qy (f c) H'')→(p c = false→∀ H'',Same H' H''→Qn H'')→g (.str ⟨#[c]⟩) (σ ++ List.replicate k none) H' fun σ2 H2 => (∃ zs,σ2 = σ ++ zs∧zs.length = k)∧tc σ2 H2 fun b H3 => if b = true then te σ2 H3 Qy else Qn H3)
  (q:∀ D H',H D = none→Same H H'→H' D = some (.lst ((x.cps.toList.filter p).map f))→Q (.ref D) H'):compT k g tc te σ Q (ItS x) H:=by
 intro D hD
 have hn:x.length = x.cps.toList.length:=Wd.len_list x
 refine ⟨fun i m ys H' => m = x.length - i∧i≤x.length∧ys = ((x.cps.toList.take i).filter p).map f∧Same H H'∧H' D = some (.lst ys),⟨x.length,by simp,Nat.zero_le _,by simp,new_same hD (Same.refl H),upd_same⟩,?_⟩
 rintro i m ys H' ⟨rfl,hi,rfl,sm,eD⟩
 refine ⟨eD,?_⟩
 by_cases hlt:i < x.length
 ·refine .inr ⟨hlt,?_,fun v H2 y => ?_⟩
  ·have:=List.length_filter_le p (x.cps.toList.take i)
   rw [List.length_map]
   simp only [List.length_take] at this
   omega
  ·obtain ⟨rfl,c,hc,rfl⟩:=y
   have hx:x.cps.toList[i]? = some c:=by rw [Array.getElem?_toList]; exact hc
   have et:(x.cps.toList.take (i + 1)).filter p = (x.cps.toList.take i).filter p ++ (if p c then [c] else []):=by
    rw [List.take_add_one,hx,List.filter_append]
    congr 1
    cases hpc:p c <;> simp [List.filter,hpc]
   refine step c (List.mem_of_getElem? hx) _ _ _ sm (fun hp H4 s4 => ⟨s4 _ _ eD,x.length - (i + 1),by omega,rfl,hlt,?_,new_same hD (Same.trans sm s4),upd_same⟩) fun hp H4 s4 => ⟨x.length - (i + 1),by omega,rfl,hlt,?_,Same.trans sm s4,s4 _ _ eD⟩
   ·rw [et,hp]; simp
   ·rw [et,hp]; simp
 ·obtain rfl:i = x.length:=by omega
  refine .inl ⟨Nat.le_refl _,?_⟩
  rw [hn,List.take_length] at eD
  exact q D H' hD sm eD
end L2
namespace L2
open PySem PySem.Spec PyProof.Rows PySem.W
theorem all_same {α:Type} [DecidableEq α] (d:α) (xs ys:List α):((List.range (min xs.length ys.length)).all (fun j => decide (xs.getD j d = ys.getD j d)) && xs.length == ys.length) = decide (xs = ys):=by
 rw [Bool.eq_iff_iff,Bool.and_eq_true,List.all_eq_true,decide_eq_true_iff,beq_iff_eq]
 constructor
 ·rintro ⟨h,hl⟩
  refine List.ext_getElem hl fun j h1 h2 => ?_
  have:=of_decide_eq_true (h j (List.mem_range.mpr (by omega)))
  rwa [List.getD_eq_getElem?_getD,List.getD_eq_getElem?_getD,List.getElem?_eq_getElem h1,List.getElem?_eq_getElem h2] at this
 ·rintro rfl
  exact ⟨fun j _ => decide_eq_true rfl,rfl⟩
structure Tups (K:PySem.W.Frag) (H:Hp) (ps:List Addr) (nss:List (List Int)):Prop where
 len:ps.length = nss.length
 at_:∀ (i:Nat) (p:Addr) (ns:List Int),ps[i]? = some p→nss[i]? = some ns→SqT K H p (ns.map V.int)
section
variable {X:Cx} {pins:List (Addr × Obj)} {σ:St} {H:Hp} {s:Shared}
theorem eqAt_ints {A:Around} {its its2:List Value} {ns ms:List Int} (r1:Vals (ns.map V.int) its) (r2:Vals (ms.map V.int) its2) (j:Nat) (h1:j < its.toArray.size) (h2:j < its2.toArray.size) :
  SeqAt.EqAt A s its.toArray[j] its2.toArray[j] (decide (ns.getD j 0 = ms.getD j 0)):=by
 have l1:=r1.length
 have l2:=r2.length
 rw [List.length_map] at l1 l2
 rw [List.size_toArray] at h1 h2
 have g1:j < ns.length:=by omega
 have g2:j < ms.length:=by omega
 obtain ⟨u,hu,ru⟩:=r1.get (i:=j) (x:=V.int ns[j]) (by simp [g1])
 obtain ⟨v,hv,rv⟩:=r2.get (i:=j) (x:=V.int ms[j]) (by simp [g2])
 obtain ⟨t,rfl⟩:=ru
 obtain ⟨t2,rfl⟩:=rv
 have e1:its.toArray[j] = .int ns[j] t:=by
  rw [List.getElem_toArray]
  exact Option.some.inj ((List.getElem?_eq_getElem h1).symm.trans hu)
 have e2:its2.toArray[j] = .int ms[j] t2:=by
  rw [List.getElem_toArray]
  exact Option.some.inj ((List.getElem?_eq_getElem h2).symm.trans hv)
 rw [e1,e2]
 have e3:(ns[j] == ms[j]) = decide (ns.getD j 0 = ms.getD j 0):=by
  rw [List.getD_eq_getElem?_getD,List.getD_eq_getElem?_getD,List.getElem?_eq_getElem g1,List.getElem?_eq_getElem g2]
  rw [Bool.eq_iff_iff,beq_iff_eq,decide_eq_true_iff]; rfl
 rw [← e3]
 exact SeqAt.EqAt.int_int _ _ _ _
theorem tups_bool {its its2:List Value} {ns ms:List Int} (r1:Vals (ns.map V.int) its) (r2:Vals (ms.map V.int) its2) :
  ((List.range (min its.toArray.size its2.toArray.size)).all (fun j => decide (ns.getD j 0 = ms.getD j 0)) && its.toArray.size == its2.toArray.size) = decide (ns = ms):=by
 have l1:=r1.length
 have l2:=r2.length
 rw [List.length_map] at l1 l2
 rw [List.size_toArray,List.size_toArray,← l1,← l2]
 exact all_same 0 ns ms
theorem eqAt_tup (I:Inv X pins σ H s) {A:Around} {a b:Addr} {ns ms:List Int} (hu:A.units < cLine) (ha:SqT X.K H a (ns.map V.int)) (hb:SqT X.K H b (ms.map V.int)):SeqAt.EqAt A s (.ref a) (.ref b) (decide (ns = ms)):=by
 by_cases hab:a = b
 ·subst hab
  have e:=I.tuple_inj ha hb
  have e2:ns = ms:=(List.map_inj_right (f:=V.int) fun x y h => V.int.inj h).mp e
  rw [decide_eq_true e2]
  exact SeqAt.EqAt.same _
 ·obtain ⟨its,r1,p1,_⟩:=I.tuple ha
  obtain ⟨its2,r2,p2,_⟩:=I.tuple hb
  rw [← tups_bool r1 r2]
  exact SeqAt.EqAt.of_refs hab (SeqAt.RcAt.tuples p1 p2 hu fun j h1 h2 => eqAt_ints r1 r2 j h1 h2)
theorem eqAt_refs (I:Inv X pins σ H s) {A:Around} {its its2:List Value} {ps qs:List Addr} {nss mss:List (List Int)} (hu:A.units < cLine) (T1:Tups X.K H ps nss) (T2:Tups X.K H qs mss) (r1:Vals (ps.map V.ref) its) (r2:Vals (qs.map V.ref) its2) (j:Nat) (h1:j < its.toArray.size) (h2:j < its2.toArray.size) :
  SeqAt.EqAt A s its.toArray[j] its2.toArray[j] (decide (nss.getD j [] = mss.getD j [])):=by
 have e1:=refs_of r1
 have e2:=refs_of r2
 subst e1 e2
 rw [List.size_toArray,List.length_map] at h1 h2
 have g1:j < nss.length:=by rw [← T1.len]; exact h1
 have g2:j < mss.length:=by rw [← T2.len]; exact h2
 rw [List.getElem_toArray,List.getElem_toArray,List.getElem_map,List.getElem_map,List.getD_eq_getElem?_getD,List.getD_eq_getElem?_getD,List.getElem?_eq_getElem g1,List.getElem?_eq_getElem g2]
 exact eqAt_tup I hu (T1.at_ j _ _ (List.getElem?_eq_getElem h1) (List.getElem?_eq_getElem g1)) (T2.at_ j _ _ (List.getElem?_eq_getElem h2) (List.getElem?_eq_getElem g2))
theorem lists_bool {its its2:List Value} {ps qs:List Addr} {nss mss:List (List Int)} (l1:ps.length = nss.length) (l2:qs.length = mss.length) (r1:Vals (ps.map V.ref) its) (r2:Vals (qs.map V.ref) its2) (hz:its.toArray.size = its2.toArray.size) :
  (List.range its.toArray.size).all (fun j => decide (nss.getD j [] = mss.getD j [])) = decide (nss = mss):=by
 have e1:=r1.length
 have e2:=r2.length
 rw [List.length_map] at e1 e2
 rw [List.size_toArray] at hz ⊢
 rw [List.size_toArray] at hz
 rw [← all_same [] nss mss,show min nss.length mss.length = its.length by omega,show (nss.length == mss.length) = true by rw [beq_iff_eq]; omega,Bool.and_true]
theorem op_neLT (hu:X.A.units + 64 < cLine):OpR X (compareOp .NotEq) (fun x y H Q => ∃ a b ps qs nss mss,x = .ref a∧y = .ref b∧SqL X.K H a (ps.map V.ref)∧SqL X.K H b (qs.map V.ref)∧Tups X.K H ps nss∧Tups X.K H qs mss∧Q (.bl (!decide (nss = mss))) H):=by
 intro pins s σ H x y v u Q I rx ry h
 obtain ⟨a,b,ps,qs,nss,mss,rfl,rfl,ha,hb,T1,T2,q⟩:=h
 cases rx
 cases ry
 obtain ⟨its,r1,p1,_⟩:=I.list ha
 obtain ⟨its2,r2,p2,_⟩:=I.list hb
 have hu1:X.A.units < cLine:=by omega
 have hu2:X.A.in1.units < cLine:=by show X.A.units + 1 < cLine; omega
 by_cases hz:its.toArray.size = its2.toArray.size
 ·rw [← lists_bool T1.len T2.len r1 r2 hz] at q
  exact EqBoolInt.of_rcne (SeqAt.RcNeAt.lists p1.isList p2.isList hz hu1 fun j h1 h2 => eqAt_refs I hu2 T1 T2 r1 r2 j h1 h2) ⟨.bl _,H,I,rfl,q⟩
 ·have hne:nss≠mss:=fun e => by
   have e1:=r1.length
   have e2:=r2.length
   rw [List.length_map] at e1 e2
   rw [List.size_toArray,List.size_toArray] at hz
   have:=T1.len
   have:=T2.len
   rw [e] at *
   omega
  rw [decide_eq_false hne] at q
  exact EqBoolInt.of_rcne (SeqAt.RcNeAt.lists_lengths p1.isList p2.isList (bne_iff_ne.mpr hz) hu1) ⟨.bl true,H,I,rfl,q⟩
theorem op_eqLT (hu:X.A.units + 64 < cLine):OpR X (compareOp .Eq) (fun x y H Q => ∃ a b ps qs nss mss,x = .ref a∧y = .ref b∧SqL X.K H a (ps.map V.ref)∧SqL X.K H b (qs.map V.ref)∧Tups X.K H ps nss∧Tups X.K H qs mss∧Q (.bl (decide (nss = mss))) H):=by
 intro pins s σ H x y v u Q I rx ry h
 obtain ⟨a,b,ps,qs,nss,mss,rfl,rfl,ha,hb,T1,T2,q⟩:=h
 cases rx
 cases ry
 obtain ⟨its,r1,p1,_⟩:=I.list ha
 obtain ⟨its2,r2,p2,_⟩:=I.list hb
 have hu1:X.A.units < cLine:=by omega
 have hu2:X.A.in1.units < cLine:=by show X.A.units + 1 < cLine; omega
 by_cases hz:its.toArray.size = its2.toArray.size
 ·rw [← lists_bool T1.len T2.len r1 r2 hz] at q
  exact EqBoolInt.of_rc (SeqAt.RcAt.lists p1.isList p2.isList hz hu1 fun j h1 h2 => eqAt_refs I hu2 T1 T2 r1 r2 j h1 h2) ⟨.bl _,H,I,rfl,q⟩
 ·have hne:nss≠mss:=fun e => by
   have e1:=r1.length
   have e2:=r2.length
   rw [List.length_map] at e1 e2
   rw [List.size_toArray,List.size_toArray] at hz
   have:=T1.len
   have:=T2.len
   rw [e] at *
   omega
  rw [decide_eq_false hne] at q
  exact EqBoolInt.of_rc (SeqAt.RcAt.lists_lengths p1.isList p2.isList (bne_iff_ne.mpr hz) hu1) ⟨.bl false,H,I,rfl,q⟩
end
theorem comp_range {lo:Int} {n:Nat} {g:TG} {tc:TT} {te:TE} {k:Nat} {σ:St} {H:Hp} {Q:VK} (Pv:Addr→Nat→List V→Hp→Prop) (hn:n≤sizeLine)
  (h0:∀ D,H D = none→Pv D 0 [] (upd H D (.lst []))) (hD:∀ D i ys H',Pv D i ys H'→H' D = some (.lst ys)∧ys.length = i)
  (step:∀ D i ys H' (Qy:VK) (Qn:Hp→Prop),i < n→Pv D i ys H'→(∀ y H4,H4 D = some (.lst ys)→Pv D (i + 1) (ys ++ [y]) (upd H4 D (.lst (ys ++ [y])))→Qy y H4) →
   g (.int (lo + i)) (σ ++ List.replicate k none) H' fun σ2 H2 => (∃ zs,σ2 = σ ++ zs∧zs.length = k)∧tc σ2 H2 fun b H3 => if b = true then te σ2 H3 Qy else Qn H3)
  (q:∀ D ys H',H D = none→Pv D n ys H'→Q (.ref D) H'):compT k g tc te σ Q (Itr lo n) H:=by
 intro D hDn
 refine ⟨fun i m ys H' => m = n - i∧i≤n∧Pv D i ys H',⟨n,by simp,Nat.zero_le _,h0 D hDn⟩,?_⟩
 rintro i m ys H' ⟨rfl,hi,p⟩
 obtain ⟨e,hl⟩:=hD D i ys H' p
 refine ⟨e,?_⟩
 by_cases hlt:i < n
 ·refine .inr ⟨hlt,by omega,fun x H2 y => ?_⟩
  obtain ⟨rfl,rfl⟩:=y
  exact step D i ys H2 _ _ hlt p fun y H4 e4 p4 => ⟨e4,n - (i + 1),by omega,rfl,hlt,p4⟩
 ·obtain rfl:i = n:=by omega
  exact .inl ⟨Nat.le_refl _,q D ys H' hDn p⟩
theorem comp_list {K:PySem.W.Frag} {a:Addr} {xs:List V} {g:TG} {tc:TT} {te:TE} {k:Nat} {σ:St} {H:Hp} {Q:VK} (Pv:Addr→Nat→List V→Hp→Prop) (hz:xs.length≤sizeLine)
  (h0:∀ D,H D = none→Pv D 0 [] (upd H D (.lst []))) (hD:∀ D i ys H',Pv D i ys H'→H' D = some (.lst ys)∧ys.length≤i∧SqL K H' a xs)
  (step:∀ D i x ys H' (Qy:VK) (Qn:Hp→Prop),xs[i]? = some x→Pv D i ys H'→(∀ y H4,H4 D = some (.lst ys)→Pv D (i + 1) (ys ++ [y]) (upd H4 D (.lst (ys ++ [y])))→Qy y H4)→(∀ H4,Pv D (i + 1) ys H4→Qn H4) →
   g x (σ ++ List.replicate k none) H' fun σ2 H2 => (∃ zs,σ2 = σ ++ zs∧zs.length = k)∧tc σ2 H2 fun b H3 => if b = true then te σ2 H3 Qy else Qn H3)
  (q:∀ D ys H',H D = none→Pv D xs.length ys H'→Q (.ref D) H'):compT k g tc te σ Q (Itl K a) H:=by
 intro D hDn
 refine ⟨fun i m ys H' => m = xs.length - i∧i≤xs.length∧Pv D i ys H',⟨xs.length,by simp,Nat.zero_le _,h0 D hDn⟩,?_⟩
 rintro i m ys H' ⟨rfl,hi,p⟩
 obtain ⟨e,hl,q1⟩:=hD D i ys H' p
 refine ⟨e,?_⟩
 by_cases hlt:i < xs.length
 ·refine .inr ⟨⟨xs,xs[i],q1,by simp [hlt]⟩,by omega,fun x H2 y => ?_⟩
  obtain ⟨rfl,y⟩:=y
  exact step D i x ys H2 _ _ (y xs q1) p (fun y H4 e4 p4 => ⟨e4,xs.length - (i + 1),by omega,rfl,hlt,p4⟩) fun H4 p4 => ⟨xs.length - (i + 1),by omega,rfl,hlt,p4⟩
 ·obtain rfl:i = xs.length:=by omega
  exact .inl ⟨⟨xs,q1,Nat.le_refl _⟩,q D ys H' hDn p⟩
section
variable {X:Cx} {K:PySem.W.Frag}
end
end L2
namespace Wd
open PySem L2 PySem.NumText PySem.W
theorem sg (n:Nat):(tx (n:Int)).cps.toList = (Nat.toDigits 10 n).map Char.toNat:=KIN.signs_num n
theorem dg_char {c:Char} (h:c.isDigit = true):48≤c.toNat∧c.toNat≤57:=by
 unfold Char.isDigit at h
 simp only [Bool.and_eq_true,decide_eq_true_eq] at h
 exact ⟨UInt32.le_iff_toNat_le.mp h.1,UInt32.le_iff_toNat_le.mp h.2⟩
theorem sg_dig (n:Nat):AllDigits ((Nat.toDigits 10 n).map Char.toNat):=fun x hx => by
 obtain ⟨c,hc,rfl⟩:=List.mem_map.mp hx
 exact dg_char (Nat.isDigit_of_mem_toDigits (by decide) (by decide) hc)
theorem sg_val (n:Nat):digitsVal ((Nat.toDigits 10 n).map Char.toNat) = n:=by
 induction n using Nat.strongRecOn with
 | _ n ih =>
  rw [Nat.toDigits_eq_if (by decide)]
  split
  ·rename_i h
   rw [List.map_singleton,dchar h]
   show 0 * 10 + (48 + n - 48) = n
   omega
  ·rename_i h
   rw [List.map_append,List.map_singleton,dv_snoc,ih (n / 10) (by omega),dchar (by omega)]
   omega
theorem sg_lead (n:Nat):((Nat.toDigits 10 n).map Char.toNat).head? = some 48→n = 0:=by
 induction n using Nat.strongRecOn with
 | _ n ih =>
  rw [Nat.toDigits_eq_if (by decide)]
  split
  ·rename_i h
   rw [List.map_singleton,dchar h]
   intro e
   have:=Option.some.inj e
   omega
  ·rename_i h
   intro e
   rw [List.map_append,List.head?_append] at e
   cases q:(List.map Char.toNat (Nat.toDigits 10 (n / 10))).head? with
   | none =>
    rw [List.head?_eq_none_iff,List.map_eq_nil_iff] at q
    exact absurd q Nat.toDigits_ne_nil
   | some c =>
    rw [q] at e
    have e2:c = 48:=Option.some.inj e
    have:=ih (n / 10) (by omega) (by rw [q,e2])
    omega
theorem sg_num {n:Nat} (h:n < 10 ^ 40):isNumL (tx (n:Int)).cps.toList = true∧numL (tx (n:Int)).cps.toList = n:=by
 have hd:=sg_dig n
 have hne:(Nat.toDigits 10 n).map Char.toNat≠[]:=fun e => Nat.toDigits_ne_nil (List.map_eq_nil_iff.mp e)
 have hf:((Nat.toDigits 10 n).map Char.toNat).head?≠some 45:=fun e => by
  obtain ⟨r,hr⟩:∃ r,(Nat.toDigits 10 n).map Char.toNat = 45 :: r:=by
   cases q:(Nat.toDigits 10 n).map Char.toNat with
   | nil => rw [q] at e; cases e
   | cons a r => rw [q] at e; cases e; exact ⟨r,rfl⟩
  have:=hd 45 (by rw [hr]; exact .head _)
  omega
 have hl:((Nat.toDigits 10 n).map Char.toNat).length≤40:=by rw [List.length_map]; exact (Nat.length_toDigits_le_iff (by decide) (by decide)).mpr h
 rw [sg]
 refine ⟨?_,?_⟩
 ·unfold isNumL
  rw [figs_pos hf]
  have h1:1≤((Nat.toDigits 10 n).map Char.toNat).length:=List.length_pos_iff.mpr hne
  have h3:((Nat.toDigits 10 n).map Char.toNat).all isDig = true:=List.all_eq_true.mpr fun c hc => by
   have:=hd c hc
   unfold isDig
   rw [decide_eq_true this.1,decide_eq_true this.2]; rfl
  rw [decide_eq_true h1,decide_eq_true hl,h3]
  by_cases z:n = 0
  ·subst z; decide
  ·have:(((Nat.toDigits 10 n).map Char.toNat).head? == some 48) = false:=by
    rw [beq_eq_false_iff_ne]; exact fun e => z (sg_lead n e)
   rw [this]; rfl
 ·unfold numL
  rw [if_neg hf,sg_val]
def jl (c:Nat):List (List Nat)→List Nat
 | [] => []
 | [x] => x
 | x :: y :: r => x ++ c :: jl c (y :: r)
theorem app_list (x y:Str):(x ++ y).cps.toList = x.cps.toList ++ y.cps.toList:=Array.toList_append
theorem join_toList (c:Nat):∀ ps:List Str,(Str.join ⟨#[c]⟩ ps).cps.toList = jl c (ps.map fun p => p.cps.toList)
 | [] => rfl
 | [x] => rfl
 | x :: y :: r => by
  rw [PyProof.Rows.join_cons_cons,app_list,app_list,join_toList c (y :: r),List.append_assoc]
  rfl
theorem mid_inj {c:Nat}:∀ {x x' t t':List Nat},c ∉ x→c ∉ x'→x ++ c :: t = x' ++ c :: t'→x = x'∧t = t'
 | [],[],_,_,_,_,h => ⟨rfl,(List.cons.inj h).2⟩
 | [],a :: r,_,_,_,h2,h => absurd (List.cons.inj h).1 fun e => h2 (e▸.head _)
 | a :: r,[],_,_,h1,_,h => absurd (List.cons.inj h).1 fun e => h1 (e▸.head _)
 | a :: r,b :: r',t,t',h1,h2,h => by
  obtain ⟨e1,e2⟩:=List.cons.inj h
  obtain ⟨q1,q2⟩:=mid_inj (x:=r) (x':=r') (fun z => h1 (.tail _ z)) (fun z => h2 (.tail _ z)) e2
  exact ⟨by rw [e1,q1],q2⟩
theorem jl_inj {c:Nat}:∀ {ps qs:List (List Nat)},ps≠[]→qs≠[]→(∀ p∈ps,c ∉ p)→(∀ p∈qs,c ∉ p)→jl c ps = jl c qs→ps = qs
 | [],_,h,_,_,_,_ => absurd rfl h
 | _ :: _,[],_,h,_,_,_ => absurd rfl h
 | [x],[x'],_,_,_,_,e => by rw [show x = x' from e]
 | [x],x' :: y' :: r',_,_,h1,_,e => absurd (show c∈x by rw [show x = x' ++ c :: jl c (y' :: r') from e]; simp) (h1 x (.head _))
 | x :: y :: r,[x'],_,_,_,h2,e => absurd (show c∈x' by rw [show x' = x ++ c :: jl c (y :: r) from e.symm]; simp) (h2 x' (.head _))
 | x :: y :: r,x' :: y' :: r',_,_,h1,h2,e => by
  obtain ⟨e1,e2⟩:=mid_inj (h1 x (.head _)) (h2 x' (.head _)) (show x ++ c :: jl c (y :: r) = x' ++ c :: jl c (y' :: r') from e)
  have:=jl_inj (ps:=y :: r) (qs:=y' :: r') (by simp) (by simp) (fun p hp => h1 p (.tail _ hp)) (fun p hp => h2 p (.tail _ hp)) e2
  rw [e1,this]
theorem toL_inj:∀ {ps qs:List Str},(ps.map fun p => p.cps.toList) = (qs.map fun p => p.cps.toList)→ps = qs
 | [],[],_ => rfl
 | [],_ :: _,h => nomatch h
 | _ :: _,[],h => nomatch h
 | p :: r,q :: t,h => by
  have h:=List.cons.inj h
  rw [str_ext h.1,toL_inj h.2]
theorem split_of_join {c:Nat} {ps:List Str} (hne:ps≠[]) (hf:∀ p∈ps,c ∉ p.cps.toList):Txt.split (Str.join ⟨#[c]⟩ ps) ⟨#[c]⟩ = ps:=by
 have e:=StrLaws.join_split (Str.join ⟨#[c]⟩ ps) ⟨#[c]⟩
 have e2:=congrArg (fun s:Str => s.cps.toList) e
 simp only [join_toList] at e2
 refine toL_inj (jl_inj (fun z => split_ne _ _ (List.map_eq_nil_iff.mp z)) (fun z => hne (List.map_eq_nil_iff.mp z)) (fun p hp => ?_) (fun p hp => ?_) e2)
 ·obtain ⟨q,hq,rfl⟩:=List.mem_map.mp hp
  exact StrLaws.split_free _ c q hq
 ·obtain ⟨q,hq,rfl⟩:=List.mem_map.mp hp
  exact hf q hq
theorem tjoin (y:Str) (ps:List Str):Txt.join y ps = Str.join y ps:=beq_iff_eq.mp (PyProof.Rows.join_closes rfl)
theorem blank_is:(" ":Str) = ⟨#[32]⟩:=by decide +kernel
def rowT (w:Str) (ns:List Int):Str:=Txt.join " " (w :: ns.map tx)
theorem tx_free (c:Nat) (h:c≠45∧(c < 48∨57 < c)) (n:Int):c ∉ (tx n).cps.toList:=fun hm => by
 by_cases hn:0≤n
 ·obtain ⟨k,rfl⟩:=Int.eq_ofNat_of_zero_le hn
  rw [sg] at hm
  have:=sg_dig k c hm
  omega
 ·obtain ⟨k,rfl⟩:∃ k:Nat,n = -((k + 1:Nat):Int):=⟨(-n).toNat - 1,by omega⟩
  have e2:toString (-((k + 1:Nat):Int)) = "-" ++ toString (k + 1):=rfl
  unfold tx at hm
  rw [e2,ofS,String.toList_append,List.map_append] at hm
  have e3:((toString (k + 1):String).toList.map Char.toNat) = (Nat.toDigits 10 (k + 1)).map Char.toNat:=by
   show (Nat.repr (k + 1)).toList.map Char.toNat = _
   rw [Nat.toList_repr]
  rw [e3] at hm
  rcases List.mem_append.mp hm with z | z
  ·have:c = 45:=by simpa using z
   omega
  ·have:=sg_dig (k + 1) c z
   omega
theorem row_split {w:Str} {ns:List Int} (hw:32 ∉ w.cps.toList):Txt.split (rowT w ns) " " = w :: ns.map tx:=by
 unfold rowT
 rw [tjoin,blank_is]
 refine split_of_join (by simp) fun p hp => ?_
 rcases List.mem_cons.mp hp with rfl | hp
 ·exact hw
 ·obtain ⟨n,_,rfl⟩:=List.mem_map.mp hp
  exact tx_free 32 (by decide) n
end Wd
namespace L2
open PySem PySem.Spec PyProof.Rows
section
variable {M:Model} {A:Around} {E:Value→Shared→Prop} {s:Shared} {base:Heap} {env:Env} {outer:List Env} {L e:Addr} {cls:Value} {a0:Value × Value}
end
section
variable {X:Cx} {pins:List (Addr × Obj)} {σ:St} {H H':Hp} {s s':Shared} {ea C:Addr} {a0:Value × Value} {h':Heap} {ch fp:List Addr}
end
section
variable {P:Program} {w:World} {K:PySem.W.Frag} {mg:Str→Option Value} {base:Heap} {N ps:List Str} {qual:Str} {scope:Scope} {f:Addr} {cd:Value} {A:Around} {outer:List Env} {s:Shared} {H:Hp} {E:XK}
end
section
variable {X:Cx} {scope:Scope} {cl:List (Str × Addr)} {own:List Str} {pins pn pl:List (Addr × Obj)} {σ:St} {H H2:Hp} {s s2:Shared} {fp:List Addr} {C:Addr} {xe:Value→Shared→Prop}
end
section
variable {X:Cx} {tg elt iter:Expr} {ifs:List Expr} {scope:Scope} {cl:List (Str × Addr)} {own:List Str} {wi:TI} {g:TG} {tc:TT} {te:TE} {pos:Pos}
end
end L2
namespace L2
open PySem PySem.Spec PyProof.Rows
section
variable {prog:Program} {w:World} {A:Around} {E:Value→Shared→Prop} {s:Shared} {z TI TO i1 i2 i3 l1 l2 l3:Addr} {xs ys zs:Array Value} {k:Nat}
end
section
variable {X:Cx} {elts:List Expr} {kk:Nat} {tpos:Pos}
end
end L2
namespace L2
open PySem PySem.Spec PyProof.Rows
section
variable {X:Cx} {body:List Stmt} {b0:Stmt} {suite:List Stmt} {cn:Str} {np hpos pos:Pos} {C0:Addr} {tb:XK→TS} {th:TS}
end
section
variable {prog:Program} {w:World} {A:Around} {E:Value→Shared→Prop} {s:Shared}
end
section
variable {X:Cx}
end
end L2
namespace L2
open PySem PySem.Spec PyProof.Rows
section
variable {X:Cx} {scope:Scope} {cl:List (Str × Addr)} {own N0:List Str} {pins:List (Addr × Obj)} {σ:St} {H2 H3:Hp} {s2:Shared} {fp:List Addr} {C:Addr} {h1:Heap}
end
section
variable {X:Cx} {tg elt iter:Expr} {ifs:List Expr} {scope:Scope} {cl:List (Str × Addr)} {own N0:List Str} {wi:TI} {g:TG} {tc:TT} {te:TE} {pos:Pos}
end
end L2
namespace L2
open PySem PySem.Spec PyProof.Rows
section
variable {κ:Type} [DecidableEq κ]
end
theorem kV_is {P:Program} {w:World} {k:Key} {u:Value} (r:RelV (kV k) u):(mixKind P w).is k u = true:=by
 cases k with
 | inl i => obtain ⟨t,e⟩:=(show ∃ t,u = Value.int i t from r); subst e; exact mixKind_int P w i t
 | inr x => obtain ⟨t,e⟩:=(show ∃ t,u = Value.str x t from r); subst e; exact mixKind_str P w x t
theorem items_are {P:Program} {w:World}:∀ {ks:List Key} {us:List Value},Vals (ks.map kV) us→ItemsAre (mixKind P w) ks us
 | [],_,r => by rw [List.map_nil] at r; cases r; exact .nil
 | k :: ks,_,r => by
  rw [List.map_cons] at r
  cases r with
  | cons h t => exact .cons (kV_is h) (items_are t)
section
variable {P:Program} {w:World} {H:Hp} {h:Heap} {a:Addr}
theorem key_of {ks:List Key} (ok:HOk P w H h) (e:H a = some (.tup (ks.map kV))):(tupleKind (mixKind P w)).is h ks a:=by
 obtain ⟨_,its,r,o,h1,h2,n,h3⟩:=(show ObjOk P w H h a (.tup (ks.map kV)) from ok a _ e)
 exact ⟨o,its.toArray,n,h1,h2,h3,by simpa using items_are r⟩
end
section
variable {X:Cx} {pins:List (Addr × Obj)} {σ:St} {H:Hp} {s:Shared} {a:Addr} {y v:V} {u r:Value} {o:Option V} {A:Around} {E:Value→Shared→Prop}
end
section
variable {X:Cx} {pins:List (Addr × Obj)} {σ:St} {H:Hp} {s:Shared} {a:Addr} {kvs:List (Key × V)} {k:Key} {u:Value} {A:Around} {E:Value→Shared→Prop}
end
section
variable {X:Cx} {o i e value:Expr} {pos pos' tpos:Pos} {td ty tv:TE}
end
section
variable {X:Cx} {pos:Pos}
end
section
variable {X:Cx} {pins:List (Addr × Obj)} {σ:St} {H:Hp} {s:Shared} {a:Addr} {y d:V} {u r:Value} {o:Option V} {A:Around} {E:Value→Shared→Prop}
end
section
variable {X:Cx} {o e f:Expr} {apos cpos:Pos} {td ty tx:TE}
end
section
variable {X:Cx} {pins:List (Addr × Obj)} {σ:St} {H:Hp} {s:Shared} {a:Addr} {kvs:List (Key × V)} {A:Around} {E:Value→Shared→Prop}
end
section
variable {X:Cx} {pins:List (Addr × Obj)} {σ:St} {H:Hp} {s:Shared} {a:Addr} {y:V} {u:Value} {A:Around} {E:Value→Shared→Prop}
end
section
variable {κ:Type} [DecidableEq κ]
end
end L2
namespace L2
open PySem PySem.Spec PyProof.Rows
section
variable {X:Cx} {elts:List Expr} {kk:Nat} {tpos:Pos}
end
end L2
namespace L2
open PySem PySem.Spec PyProof.Rows
section
variable {X:Cx} {body:List Stmt} {b0:Stmt} {suite:List Stmt} {cn n:Str} {np hpos pos:Pos} {C0:Addr} {i:Nat} {tb:(St→XK)→TS} {th:TS}
end
end L2
namespace L2
open PySem PySem.Spec PyProof.Rows
section
variable {prog:Program} {w:World} {A:Around} {E:Value→Shared→Prop} {env:Env}
variable {nm q:Str} {C N:Addr} {bs bm:List Value} {hdct:Bool} {sn:List Str} {sub:List Value} {ab:Bool} {col:Option Bool} {dd:Option Addr} {k0 k1 k2 k3 k5:Option Value} {newId:String}
end
section
variable {P:Program} {w:World} {K:PySem.W.Frag} {mg:Str→Option Value} {base:Heap} {N ps:List Str} {qual:Str} {scope:Scope} {f:Addr} {cd:Value} {A:Around} {outer:List Env} {s:Shared} {H:Hp} {E:XK}
end
section
variable {X:Cx} {pins:List (Addr × Obj)} {σ:St} {H:Hp} {s:Shared}
end
section
variable {X:Cx} {body:List Stmt} {b0:Stmt} {suite:List Stmt} {cn:Str} {np hpos pos:Pos} {C0:Addr} {tb:XK→TS} {th:TS}
end
end L2
namespace L2
open PySem PySem.Spec PyProof.Rows
section
variable {P:Program} {w:World} {K:PySem.W.Frag} {mg:Str→Option Value} {base:Heap}
end
section
variable {X:Cx}
end
section
variable {X:Cx}
end
end L2
set_option maxHeartbeats 4000000
namespace L2
open PySem Builtin Builtin.Str
section
variable {X:Cx}
end
end L2
namespace TS
open PySem PyProof.Rows L2
def kLt:L2.Key→L2.Key→Bool
 | .inl a,.inl b => decide (a < b)
 | .inr a,.inr b => decide (a.cps.toList < b.cps.toList)
 | .inl _,.inr _ => true
 | .inr _,.inl _ => false
def lx:List L2.Key→List L2.Key→Bool
 | [],[] => false
 | [],_ :: _ => true
 | _ :: _,[] => false
 | a :: r,b :: q => if a = b then lx r q else kLt a b
theorem kLt_irr (a:L2.Key):kLt a a = false:=by
 cases a with
 | inl n => exact decide_eq_false (Int.lt_irrefl n)
 | inr x => exact decide_eq_false (List.lt_irrefl _)
theorem kLt_trans {a b c:L2.Key} (h1:kLt a b = true) (h2:kLt b c = true):kLt a c = true:=by
 cases a with
 | inl n => cases b with
  | inl m => cases c with
   | inl k => exact decide_eq_true (Int.lt_trans (of_decide_eq_true h1) (of_decide_eq_true h2))
   | inr k => rfl
  | inr m => cases c with
   | inl k => cases h2
   | inr k => rfl
 | inr n => cases b with
  | inl m => cases h1
  | inr m => cases c with
   | inl k => cases h2
   | inr k => exact decide_eq_true (List.lt_trans (of_decide_eq_true h1) (of_decide_eq_true h2))
theorem str_of_cps {x y:Str} (h:x.cps.toList = y.cps.toList):x = y:=Str.ext' (Array.toList_inj.mp h)
theorem kLt_tot {a b:L2.Key} (h1:kLt a b = false) (h2:kLt b a = false):a = b:=by
 cases a with
 | inl n => cases b with
  | inl m =>
   have:=of_decide_eq_false h1
   have:=of_decide_eq_false h2
   congr 1; omega
  | inr m => cases h1
 | inr n => cases b with
  | inl m => cases h2
  | inr m => exact congrArg Sum.inr (str_of_cps (List.le_antisymm (List.not_lt.mp (of_decide_eq_false h2)) (List.not_lt.mp (of_decide_eq_false h1))))
theorem kLt_ne {a b:L2.Key} (h:kLt a b = true):a≠b:=fun e => by rw [e,kLt_irr] at h; cases h
theorem lx_irr:∀ a:List L2.Key,lx a a = false
 | [] => rfl
 | a :: r => by unfold lx; rw [if_pos rfl]; exact lx_irr r
theorem lx_tot:∀ {a b:List L2.Key},lx a b = false→lx b a = false→a = b
 | [],[],_,_ => rfl
 | [],_ :: _,h,_ => by cases h
 | _ :: _,[],_,h => by cases h
 | a :: r,b :: q,h1,h2 => by
  unfold lx at h1 h2
  by_cases e:a = b
  ·rw [if_pos e] at h1
   rw [if_pos e.symm] at h2
   rw [e,lx_tot h1 h2]
  ·rw [if_neg e] at h1
   rw [if_neg (fun z => e z.symm)] at h2
   exact absurd (kLt_tot h1 h2) e
theorem lx_trans:∀ {a b c:List L2.Key},lx a b = true→lx b c = true→lx a c = true
 | [],[],_,h,_ => by cases h
 | [],_ :: _,[],_,h => by cases h
 | [],_ :: _,_ :: _,_,_ => rfl
 | _ :: _,[],_,h,_ => by cases h
 | _ :: _,_ :: _,[],_,h => by cases h
 | a :: r,b :: q,c :: p,h1,h2 => by
  unfold lx at h1 h2 ⊢
  by_cases e1:a = b
  ·subst e1
   rw [if_pos rfl] at h1
   by_cases e2:a = c
   ·rw [if_pos e2] at h2 ⊢; exact lx_trans h1 h2
   ·rw [if_neg e2] at h2 ⊢; exact h2
  ·rw [if_neg e1] at h1
   by_cases e2:b = c
   ·subst e2; rw [if_neg e1]; exact h1
   ·rw [if_neg e2] at h2
    have h3:=kLt_trans h1 h2
    rw [if_neg (kLt_ne h3)]; exact h3
theorem lx_neg {a b c:List L2.Key} (h:lx a c = true):lx a b = true∨lx b c = true:=by
 cases h1:lx a b
 ·right
  cases h2:lx b a
  ·rw [← lx_tot h1 h2]; exact h
  ·exact lx_trans h2 h
 ·exact .inl rfl
def kind (kc:Value→List L2.Key):KeyKind where
 α:=List L2.Key
 blt:=lx
 irrefl:=lx_irr
 trans:=fun _ _ _ => lx_trans
 negTrans:=fun _ _ _ => lx_neg
 total:=fun _ _ => lx_tot
 keyOf:=fun v => some (kc v)
 dflt:=[]
def KVal:L2.Key→Value→Prop
 | .inl n,v => ∃ t,v = .int n t
 | .inr x,v => ∃ t,v = .str x t
inductive KVals:List L2.Key→List Value→Prop
 | nil:KVals [] []
 | cons {k v ks vs}:KVal k v→KVals ks vs→KVals (k :: ks) (v :: vs)
def sd (ks:List L2.Key):List Bool:=ks.map Sum.isLeft
theorem keyLt_eq (f:Bool) (x y:Value):keyLt' (tuples' f) x y = (do
  let p ← Builtin.List.listItems x
  let q ← Builtin.List.listItems y
  for ((u,v),i) in (p.toList.zip q.toList).zipIdx do
   if !(← eqBool u v) then return ← oneLt' (f && i == 0) u v
  return p.size < q.size):=rfl
section
variable {prog:Program} {w:World} {A:Around} {E:Value→Shared→Prop} {s:Shared}
theorem one_int (f:Bool) {a b:Int} {t u:Tok} {Q:Bool→Shared→Prop} (h:Q (decide (a < b)) s):wpAny (model prog w) A (oneLt' f (.int a t) (.int b u)) Q E s:=by
 cases f with
 | true => exact oneLt_int h
 | false =>
  rw [oneLt'_eq]
  rw [if_neg Bool.false_ne_true]
  exact wpAny_bind (richCompare_gives (op:=.Lt) (typeIs_int s a t) (typeIs_int s b u) F.slot_int_lt F.entry_int_lt (F.args_int_lt_2 _ _) (gives_int_lt a b t u) (fun z => nomatch z) (wpAny_truthy_bool h))
theorem one_str (f:Bool) {a b:Str} {t u:Tok} {Q:Bool→Shared→Prop} (h:Q (decide (a.cps.toList < b.cps.toList)) s):wpAny (model prog w) A (oneLt' f (.str a t) (.str b u)) Q E s:=by
 cases f with
 | true => exact oneLt_str h
 | false =>
  rw [oneLt'_eq]
  rw [if_neg Bool.false_ne_true]
  exact wpAny_bind (richCompare_gives (op:=.Lt) (typeIs_str s a t) (typeIs_str s b u) F.slot_str_lt F.entry_str_lt (F.args_str_lt_2 _ _) (gives_str_lt a b t u) (fun z => nomatch z) (wpAny_truthy_bool h))
theorem eq_key {c d:L2.Key} {u v:Value} (hs:c.isLeft = d.isLeft) (hc:KVal c u) (hd:KVal d v) {Q:Bool→Shared→Prop} (h:Q (decide (c = d)) s):wpAny (model prog w) A (eqBool u v) Q E s:=by
 cases c with
 | inl n => cases d with
  | inl m =>
   obtain ⟨t,rfl⟩:=hc
   obtain ⟨t',rfl⟩:=hd
   refine wpAny_eqBool_int ?_
   rw [show (n == m) = decide ((Sum.inl n:L2.Key) = Sum.inl m) by rw [Bool.eq_iff_iff,beq_iff_eq,decide_eq_true_iff]; exact ⟨fun e => e▸rfl,fun e => Sum.inl.inj e⟩]
   exact h
  | inr m => cases hs
 | inr n => cases d with
  | inl m => cases hs
  | inr m =>
   obtain ⟨t,rfl⟩:=hc
   obtain ⟨t',rfl⟩:=hd
   refine wpAny_eqBool_str ?_
   rw [show decide (n = m) = decide ((Sum.inr n:L2.Key) = Sum.inr m) by rw [Bool.eq_iff_iff,decide_eq_true_iff,decide_eq_true_iff]; exact ⟨fun e => e▸rfl,fun e => Sum.inr.inj e⟩]
   exact h
theorem one_key (f:Bool) {c d:L2.Key} {u v:Value} (hs:c.isLeft = d.isLeft) (hc:KVal c u) (hd:KVal d v) {Q:Bool→Shared→Prop} (h:Q (kLt c d) s):wpAny (model prog w) A (oneLt' f u v) Q E s:=by
 cases c with
 | inl n => cases d with
  | inl m =>
   obtain ⟨t,rfl⟩:=hc
   obtain ⟨t',rfl⟩:=hd
   exact one_int f h
  | inr m => cases hs
 | inr n => cases d with
  | inl m => cases hs
  | inr m =>
   obtain ⟨t,rfl⟩:=hc
   obtain ⟨t',rfl⟩:=hd
   exact one_str f h
theorem key_loop (f:Bool):∀ {cs ds:List L2.Key} {ps qs:List Value} (k:Nat),sd cs = sd ds→KVals cs ps→KVals ds qs→∀ {R:Option Bool × Unit→Shared→Prop},(cs≠ds→R (some (lx cs ds),()) s)→(cs = ds→R (none,()) s) →
  wpAny (model prog w) A (forIn ((ps.zip qs).zipIdx k) ((none,()):Option Bool × Unit) fun x _ =>
   match x with
   | ((u,v),i) => do
    let r ← eqBool u v
    if (!r) = true then do
      let r ← oneLt' (f && i == 0) u v
      pure (ForInStep.done (some r,()))
     else pure (ForInStep.yield (none,()))) R E s
 | [],[],_,_,k,_,.nil,.nil,R,_,h => by
  show wpAny _ _ (forIn [] _ _) _ _ _
  rw [List.forIn_nil]; exact wpAny_pure (h rfl)
 | [],_ :: _,_,_,_,hs,_,_,_,_,_ => by cases hs
 | _ :: _,[],_,_,_,hs,_,_,_,_,_ => by cases hs
 | c :: cs,d :: ds,_,_,k,hs,.cons hc hcs,.cons hd hds,R,h1,h2 => by
  obtain ⟨e1,e2⟩:=List.cons.inj hs
  rw [List.zip_cons_cons,List.zipIdx_cons,List.forIn_cons]
  refine wpAny_bind (wpAny_bind (eq_key e1 hc hd ?_))
  by_cases e:c = d
  ·rw [decide_eq_true e]
   refine wpAny_pure (key_loop f (k + 1) e2 hcs hds (fun n => ?_) fun z => h2 (by rw [e,z]))
   have:=h1 (fun z => n (List.cons.inj z).2)
   unfold lx at this
   rw [if_pos e] at this
   exact this
  ·rw [decide_eq_false e]
   refine wpAny_bind (one_key _ e1 hc hd (wpAny_pure (wpAny_pure ?_)))
   have:=h1 (fun z => e (List.cons.inj z).1)
   unfold lx at this
   rw [if_neg e] at this
   exact this
theorem KVals.len {cs:List L2.Key} {ps:List Value} (h:KVals cs ps):ps.length = cs.length:=by
 induction h with
 | nil => rfl
 | cons _ _ ih => rw [List.length_cons,List.length_cons,ih]
theorem key_lt (f:Bool) {a b:Addr} {o o':Obj} {ps qs:List Value} {n m:Nat} {cs ds:List L2.Key} (ha:s.heap.get? a = some o) (hd:o.data = .seq ps.toArray n) (hb:s.heap.get? b = some o') (hd':o'.data = .seq qs.toArray m)
  (hs:sd cs = sd ds) (hc:KVals cs ps) (hq:KVals ds qs) {Q:Bool→Shared→Prop} (h:Q (lx cs ds) s):wpAny (model prog w) A (keyLt' (tuples' f) (.ref a) (.ref b)) Q E s:=by
 rw [keyLt_eq]
 refine wpAny_bind (listItems_at ha hd ?_)
 refine wpAny_bind (listItems_at hb hd' ?_)
 refine wpAny_bind (key_loop f 0 hs hc hq (fun _ => wpAny_pure h) fun e => wpAny_pure ?_)
 have l1:=hc.len
 have l2:=hq.len
 rw [e] at l1 h
 rw [lx_irr] at h
 rw [show decide (ps.toArray.size < qs.toArray.size) = false by rw [List.size_toArray,List.size_toArray]; exact decide_eq_false (by omega)]
 exact h
variable {f:Bool} {z:Array Keyed} {o:KeyKind}
def kv (o:KeyKind) (p:Keyed):o.α:=(o.keyOf p.1).getD o.dflt
def Orc (prog:Program) (w:World) (A:Around) (s:Shared) (f:Bool) (o:KeyKind) (z:Array Keyed):Prop:=∀ (E:Value→Shared→Prop) (p q:Keyed) (Q:Bool→Shared→Prop),p∈z.toList→q∈z.toList→Q (o.blt (kv o p) (kv o q)) s→wpAny (model prog w) A (keyLt' (tuples' f) p.1 q.1) Q E s
end
end TS
namespace TS
open PySem PyProof.Rows L2
section
variable {prog:Program} {w:World} {A:Around} {E:Value→Shared→Prop} {s:Shared}
theorem mapM_wp {α β:Type} {g:α→Sem β} {r:α→β} {M:Model}:∀ {l:List α} {R:List β→Shared→Prop},(∀ x∈l,∀ R:β→Shared→Prop,R (r x) s→wpAny M A (g x) R E s)→R (l.map r) s→wpAny M A (l.mapM g) R E s
 | [],R,_,h => by rw [List.mapM_nil]; exact wpAny_pure h
 | a :: l,R,f,h => by
  rw [List.mapM_cons]
  exact wpAny_bind (f a (List.mem_cons_self ..) _ (wpAny_bind (mapM_wp (fun x hx => f x (List.mem_cons_of_mem _ hx)) (wpAny_pure h))))
def TupAt (h:Heap) (v:Value) (ks:List L2.Key):Prop:=∃ a ob vs n,v = .ref a∧h.get? a = some ob∧ob.cls = .type "tuple"∧ob.data = .seq vs.toArray n∧KVals ks vs
theorem first_eq (v:Value):firstOfTuple' v = (do
  if (← typeOf v) != .type "tuple" then return none
  return (← Builtin.List.listItems v)[0]?):=rfl
theorem typ_key {k:L2.Key} {v:Value} (h:KVal k v) {R:Value→Shared→Prop} (q:R (.type (if k.isLeft then "int" else "str")) s):wpAny (model prog w) A (typeOf v) R E s:=by
 cases k with
 | inl n => obtain ⟨t,rfl⟩:=h; exact wpAny_typeOf (typeIs_int s n t) q
 | inr x => obtain ⟨t,rfl⟩:=h; exact wpAny_typeOf (typeIs_str s x t) q
theorem key_kind {kc:Value→List L2.Key} {vs:List Value} {d:List Bool} (h2:2≤vs.length) (ht:∀ v∈vs,TupAt s.heap v (kc v)) (hs:∀ v∈vs,sd (kc v) = d) (hd:d≠[]) {R:SortKind→Shared→Prop} (q:R (tuples' true) s):wpAny (model prog w) A (keyKind' vs.toArray) R E s:=by
 have fx:∃ fv:Value→Value,∀ v∈vs,∃ k r,kc v = k :: r∧k.isLeft = d.headD true∧KVal k (fv v)∧∀ R:Option Value→Shared→Prop,R (some (fv v)) s→wpAny (model prog w) A (firstOfTuple' v) R E s:=by
  have one:∀ v∈vs,∃ x:Value,∃ k r,kc v = k :: r∧k.isLeft = d.headD true∧KVal k x∧∀ R:Option Value→Shared→Prop,R (some x) s→wpAny (model prog w) A (firstOfTuple' v) R E s:=fun v hv => by
   obtain ⟨a,ob,us,n,rfl,ho,hc,hda,hk⟩:=ht v hv
   have e:=hs _ hv
   cases hkc:kc (.ref a) with
   | nil => rw [hkc] at e; exact absurd e.symm hd
   | cons k r =>
    rw [hkc] at hk e
    cases hk with
    | @cons _ x _ xs hx hxs =>
     refine ⟨x,k,r,rfl,by rw [← e]; rfl,hx,fun R hR => ?_⟩
     rw [first_eq]
     refine wpAny_bind (wpAny_typeOf (T:="tuple") ⟨ob,ho,hc⟩ ?_)
     rw [if_neg (by decide)]
     exact wpAny_bind (listItems_at ho hda (wpAny_pure hR))
  refine ⟨fun v => if hv:v∈vs then (one v hv).choose else .none,fun v hv => ?_⟩
  simp only [dif_pos hv]
  exact (one v hv).choose_spec
 obtain ⟨fv,hfv⟩:=fx
 rw [keyKind'_eq,List.mapM_toArray,← bind_pure_comp]
 refine wpAny_bind (wpAny_bind (mapM_wp (r:=fun v => some (fv v)) (fun v hv R hR => by obtain ⟨_,_,_,_,_,f⟩:=hfv v hv; exact f R hR) (wpAny_pure ?_)))
 rw [if_pos (by simp)]
 refine wpAny_bind (wpAny_rule (wpAny_bind ?_))
 rw [show (vs.map fun v => some (fv v)).toArray.filterMap id = (vs.map fv).toArray by simp [List.filterMap_map,Function.comp_def]]
 rw [oneTypeOnly'_eq,List.mapM_toArray,← bind_pure_comp]
 refine wpAny_bind (wpAny_bind (mapM_wp (r:=fun _ => Value.type (if d.headD true then "int" else "str")) (fun x hx R hR => ?_) (wpAny_pure ?_)))
 ·obtain ⟨v,hv,rfl⟩:=List.mem_map.mp hx
  obtain ⟨k,r,_,e,hk,_⟩:=hfv v hv
  rw [← e] at hR
  exact typ_key hk hR
 ·match vs,h2 with
  | a :: b :: r,_ =>
   have e0:((List.map fv (a :: b :: r)).map fun _ => Value.type (if d.headD true then "int" else "str")).toArray[0]? = some (Value.type (if d.headD true then "int" else "str")):=by simp
   rw [e0]
   have ea:(((List.map fv (a :: b :: r)).map fun _ => Value.type (if d.headD true then "int" else "str")).toArray.all fun x => x == Value.type (if d.headD true then "int" else "str")) = true:=by
    simp only [List.all_toArray,List.all_map,List.all_eq_true]
    intro _ _
    cases d.headD true <;> rfl
   show wpAny _ _ (pure (if (((List.map fv (a :: b :: r)).map fun _ => Value.type (if d.headD true then "int" else "str")).toArray.all fun x => x == Value.type (if d.headD true then "int" else "str")) = true then some (Value.type (if d.headD true then "int" else "str")) else none)) _ _ _
   rw [if_pos ea]
   refine wpAny_pure (wpAny_pure ?_)
   have en:((some (Value.type (if d.headD true then "int" else "str"))).any fun x => x != Value.type "tuple") = true:=by cases d.headD true <;> rfl
   rw [en]
   exact q
theorem TupAt.upd {h:Heap} {v:Value} {ks:List L2.Key} (t:TupAt h v ks) {a:Addr} {g:Array Value→Array Value} {ob:Obj} (ho:h.get? a = some ob) (hc:ob.cls = .type "list"):TupAt (h.update a (Obj.mapSeq g)) v ks:=by
 obtain ⟨b,o2,us,n,rfl,e,c,dt,k⟩:=t
 have ne:a≠b:=fun z => by
  rw [z,e] at ho
  cases ho
  rw [c] at hc
  exact absurd hc (by decide)
 exact ⟨b,o2,us,n,rfl,(Heap.get?_update_other _ _ ne).trans e,c,dt,k⟩
theorem TupAt.push {h:Heap} {v:Value} {ks:List L2.Key} (t:TupAt h v ks) (ob:Obj):TupAt (h.push ob) v ks:=by
 obtain ⟨b,o2,us,n,rfl,e,c,dt,k⟩:=t
 exact ⟨b,o2,us,n,rfl,Heap.get?_push_of_some _ e,c,dt,k⟩
theorem mem_pairs {vs:List Value} {p:Keyed} (h:p∈(pairsOf vs).toList):p.1 = p.2∧p.1∈vs:=mem_zip_self (pairsOf_toList vs▸h)
theorem orc_of {kc:Value→List L2.Key} {vs:List Value} {d:List Bool} (ht:∀ v∈vs,TupAt s.heap v (kc v)) (hs:∀ v∈vs,sd (kc v) = d) (f:Bool):Orc prog w A s f (kind kc) (pairsOf vs):=fun E p q Q hp hq h => by
 have m1:=(mem_pairs hp).2
 have m2:=(mem_pairs hq).2
 have h1:Q (lx (kc p.1) (kc q.1)) s:=h
 obtain ⟨a,o1,us,n,e1,ho,_,hd,hk⟩:=ht _ m1
 obtain ⟨b,o2,ws,m,e2,ho2,_,hd2,hk2⟩:=ht _ m2
 rw [e1,e2] at h1
 rw [e1] at hk
 rw [e2] at hk2
 have s1:=(hs _ m1).trans (hs _ m2).symm
 rw [e1,e2] at s1
 rw [e1,e2]
 exact key_lt f ho hd ho2 hd2 s1 hk hk2 h1
end
end TS
namespace TS
open PySem PyProof.Rows L2
def gal:Bool→Keyed→Array Keyed→Nat→Nat→Nat→StateT SortSt Sem (Option Nat):=sortPriv% PySem.Builtin.gallop
def bey (lf:Bool) (ky:Keyed) (xs:Array Keyed) (bs i:Nat):StateT SortSt Sem (Option Bool):=do
 let x ← elem' xs (bs + i)
 if lf then lt' x ky else return (← lt' ky x).map (!·)
theorem gal_eq (lf:Bool) (ky:Keyed) (xs:Array Keyed) (bs n hi0:Nat):gal lf ky xs bs n hi0 = (do
  let mut la:=0
  let mut of:=1
  let mut l:=0
  let mut h:=0
  let some r ← bey lf ky xs bs hi0 | return none
  if r then
   let mx:=n - hi0
   for _ in [0:n] do
    if of ≥ mx then break
    let some m ← bey lf ky xs bs (hi0 + of) | return none
    if !m then break
    la:=of
    of:=2 * of + 1
   l:=hi0 + la + 1
   h:=hi0 + min of mx
  else
   let mx:=hi0 + 1
   for _ in [0:n] do
    if of ≥ mx then break
    let some m ← bey lf ky xs bs (hi0 - of) | return none
    if m then break
    la:=of
    of:=2 * of + 1
   l:=hi0 + 1 - min of mx
   h:=hi0 - la
  for _ in [0:n] do
   if l ≥ h then break
   let m:=l + (h - l) / 2
   let some v ← bey lf ky xs bs m | return none
   if v then l:=m + 1 else h:=m
  return some h):=rfl
section
variable {prog:Program} {w:World} {A:Around} {E:Value→Shared→Prop} {s:Shared} {f:Bool} {z:Array Keyed} {o:KeyKind}
def galEnd (lf:Bool) (ky:Keyed) (xs:Array Keyed) (bs n l0 h0:Nat):StateT SortSt Sem (Option Nat):=do
 let mut l:=l0
 let mut h:=h0
 for _ in [0:n] do
  if l ≥ h then break
  let m:=l + (h - l) / 2
  let some v ← bey lf ky xs bs m | return none
  if v then l:=m + 1 else h:=m
 return some h
theorem galEnd_wp {st:SortSt} {lf:Bool} {ky:Keyed} {xs:Array Keyed} {bs n l0 h0:Nat} {B:Nat→Bool} {Q:Option Nat→SortSt→Prop} (hb:∀ i,i < n→∀ R:Option Bool→SortSt→Prop,R (some (B i)) st→wpS (model prog w) A E s (bey lf ky xs bs i) R st)
  (anti:∀ i j,i≤j→j < n→B j = true→B i = true) (anti2:∀ i j,i≤j→j < n→B i = false→B j = false) (lh:l0≤h0) (hn:h0≤n) (bl:∀ i,i < l0→B i = true) (bh:∀ i,h0≤i→i < n→B i = false)
  (q:∀ k,k≤n→(∀ i,i < k→B i = true)→(∀ i,k≤i→i < n→B i = false)→Q (some k) st):wpS (model prog w) A E s (galEnd lf ky xs bs n l0 h0) Q st:=by
 refine wpS_bind (wpS_mono (wpS_forRange (I:=fun i c y => y = st∧∃ l h,c = (none,l,h)∧l≤h∧h≤n∧h - l≤n - i∧(∀ g,g < l→B g = true)∧∀ g,h≤g→g < n→B g = false) (Q:=fun c y => y = st∧∃ h,c = (none,h,h)∧h≤n∧(∀ g,g < h→B g = true)∧∀ g,h≤g→g < n→B g = false) (fun i c y i1 i2 hy => ?_) (fun c y hy => ?_) ⟨rfl,l0,h0,rfl,lh,hn,by omega,bl,bh⟩) fun c y hy => ?_)
 ·obtain ⟨rfl,l,h,rfl,h1,h2,h3,h4,h5⟩:=hy
  show wpS _ _ _ _ (if l ≥ h then _ else _) _ _
  rcases Nat.lt_or_ge l h with hlh | hlh
  ·rw [if_neg (by omega)]
   have hm:l + (h - l) / 2 < n:=by omega
   refine wpS_bind (hb _ hm _ ?_)
   show wpS _ _ _ _ (if B (l + (h - l) / 2) = true then _ else _) _ _
   cases hv:B (l + (h - l) / 2) with
   | true => rw [if_pos rfl]; exact wpS_pure ⟨rfl,l + (h - l) / 2 + 1,h,rfl,by omega,h2,by omega,fun g hg => anti g (l + (h - l) / 2) (by omega) hm hv,h5⟩
   | false => rw [if_neg Bool.false_ne_true]; exact wpS_pure ⟨rfl,l,l + (h - l) / 2,rfl,by omega,by omega,by omega,h4,fun g g1 g2 => anti2 _ g g1 g2 hv⟩
  ·rw [if_pos hlh]
   obtain rfl:l = h:=by omega
   exact wpS_pure ⟨rfl,l,rfl,h2,h4,h5⟩
 ·obtain ⟨rfl,l,h,rfl,h1,h2,h3,h4,h5⟩:=hy
  obtain rfl:l = h:=by omega
  exact ⟨rfl,l,rfl,h2,h4,h5⟩
 ·obtain ⟨rfl,h,rfl,h2,h4,h5⟩:=hy
  exact wpS_pure (q h h2 h4 h5)
theorem gal_wp {st:SortSt} {lf:Bool} {ky:Keyed} {xs:Array Keyed} {bs n hi0:Nat} {B:Nat→Bool} {Q:Option Nat→SortSt→Prop} (hb:∀ i,i < n→∀ R:Option Bool→SortSt→Prop,R (some (B i)) st→wpS (model prog w) A E s (bey lf ky xs bs i) R st)
  (anti:∀ i j,i≤j→j < n→B j = true→B i = true) (hh:hi0 < n) (q:∀ k,k≤n→(∀ i,i < k→B i = true)→(∀ i,k≤i→i < n→B i = false)→Q (some k) st):wpS (model prog w) A E s (gal lf ky xs bs n hi0) Q st:=by
 have anti2:∀ i j,i≤j→j < n→B i = false→B j = false:=fun i j hij hj hi => by
  cases hj2:B j with
  | false => rfl
  | true => rw [anti i j hij hj hj2] at hi; cases hi
 rw [gal_eq]
 refine wpS_bind (hb hi0 hh _ ?_)
 cases hr:B hi0 with
 | true =>
  refine wpS_bind (wpS_mono (wpS_forRange (I:=fun i c y => y = st∧∃ la k,c = (none,la,k)∧la < k∧i + 1≤k∧(hi0 + la < n→B (hi0 + la) = true)∧hi0 + la < n) (Q:=fun c y => y = st∧∃ la k,c = (none,la,k)∧la < k∧hi0 + la < n∧B (hi0 + la) = true∧(n - hi0≤k∨(hi0 + k < n∧B (hi0 + k) = false))) (fun i c y i1 i2 hy => ?_) (fun c y hy => ?_) ⟨rfl,0,1,rfl,by omega,by omega,fun _ => hr,by omega⟩) fun c y hy => ?_)
  ·obtain ⟨rfl,la,k,rfl,h1,h2,h3,h4⟩:=hy
   show wpS _ _ _ _ (if k ≥ n - hi0 then _ else _) _ _
   rcases Nat.lt_or_ge k (n - hi0) with hk | hk
   ·rw [if_neg (by omega)]
    refine wpS_bind (hb (hi0 + k) (by omega) _ ?_)
    show wpS _ _ _ _ (if (!B (hi0 + k)) = true then _ else _) _ _
    cases hv:B (hi0 + k) with
    | true => exact wpS_pure ⟨rfl,k,2 * k + 1,rfl,by omega,by omega,fun _ => hv,by omega⟩
    | false => exact wpS_pure ⟨rfl,la,k,rfl,h1,h4,h3 h4,.inr ⟨by omega,hv⟩⟩
   ·rw [if_pos hk]
    exact wpS_pure ⟨rfl,la,k,rfl,h1,h4,h3 h4,.inl hk⟩
  ·obtain ⟨rfl,la,k,rfl,h1,h2,h3,h4⟩:=hy
   exact ⟨rfl,la,k,rfl,h1,h4,h3 h4,.inl (by omega)⟩
  ·obtain ⟨rfl,la,k,rfl,h1,h4,h3,h5⟩:=hy
   refine galEnd_wp (l0:=hi0 + la + 1) (h0:=hi0 + min k (n - hi0)) hb anti anti2 ?_ ?_ (fun i hi => anti i _ (by omega) h4 h3) (fun i h6 h7 => ?_) q
   ·rcases h5 with h5 | h5
    ·rw [Nat.min_eq_right h5]; omega
    ·rw [Nat.min_eq_left (by omega)]; omega
   ·omega
   ·rcases h5 with h5 | h5
    ·rw [Nat.min_eq_right h5] at h6; omega
    ·rw [Nat.min_eq_left (by omega)] at h6; exact anti2 _ i h6 h7 h5.2
 | false =>
  refine wpS_bind (wpS_mono (wpS_forRange (I:=fun i c y => y = st∧∃ la k,c = (none,la,k)∧la < k∧i + 1≤k∧la≤hi0∧B (hi0 - la) = false) (Q:=fun c y => y = st∧∃ la k,c = (none,la,k)∧la < k∧la≤hi0∧B (hi0 - la) = false∧(hi0 + 1≤k∨(k≤hi0∧B (hi0 - k) = true))) (fun i c y i1 i2 hy => ?_) (fun c y hy => ?_) ⟨rfl,0,1,rfl,by omega,by omega,by omega,hr⟩) fun c y hy => ?_)
  ·obtain ⟨rfl,la,k,rfl,h1,h2,h3,h4⟩:=hy
   show wpS _ _ _ _ (if k ≥ hi0 + 1 then _ else _) _ _
   rcases Nat.lt_or_ge k (hi0 + 1) with hk | hk
   ·rw [if_neg (by omega)]
    refine wpS_bind (hb (hi0 - k) (by omega) _ ?_)
    show wpS _ _ _ _ (if B (hi0 - k) = true then _ else _) _ _
    cases hv:B (hi0 - k) with
    | true => rw [if_pos rfl]; exact wpS_pure ⟨rfl,la,k,rfl,h1,h3,h4,.inr ⟨by omega,hv⟩⟩
    | false => rw [if_neg Bool.false_ne_true]; exact wpS_pure ⟨rfl,k,2 * k + 1,rfl,by omega,by omega,by omega,hv⟩
   ·rw [if_pos hk]
    exact wpS_pure ⟨rfl,la,k,rfl,h1,h3,h4,.inl hk⟩
  ·obtain ⟨rfl,la,k,rfl,h1,h2,h3,h4⟩:=hy
   exact ⟨rfl,la,k,rfl,h1,h3,h4,.inl (by omega)⟩
  ·obtain ⟨rfl,la,k,rfl,h1,h3,h4,h5⟩:=hy
   refine galEnd_wp (l0:=hi0 + 1 - min k (hi0 + 1)) (h0:=hi0 - la) hb anti anti2 ?_ (by omega) (fun i hi => ?_) (fun i h6 h7 => anti2 _ i h6 h7 h4) q
   ·rcases h5 with h5 | h5
    ·rw [Nat.min_eq_right h5]; omega
    ·rw [Nat.min_eq_left (by omega)]; omega
   ·rcases h5 with h5 | h5
    ·rw [Nat.min_eq_right h5] at hi; omega
    ·rw [Nat.min_eq_left (by omega)] at hi; exact anti i (hi0 - k) (by omega) (by omega) h5.2
end
end TS
namespace TS
open PySem PyProof.Rows L2
def mLo:Array Keyed→Array Keyed→StateT SortSt Sem (Array Keyed):=sortPriv% PySem.Builtin.mergeLo
def mHi:Array Keyed→Array Keyed→StateT SortSt Sem (Array Keyed):=sortPriv% PySem.Builtin.mergeHi
def sMin:Nat→StateT SortSt Sem Unit:=sortPriv% PySem.Builtin.setMinGallop
def dnA (a b out:Array Keyed) (i j:Nat):Array Keyed:=out ++ a.extract i a.size ++ b.extract j b.size
def dnB (a b out:Array Keyed) (i j:Nat):Array Keyed:=out ++ b.extract j b.size ++ a.extract i a.size
theorem mLo_eq (a b:Array Keyed):mLo a b = (do
  liftM (rule "list.sort.merge-lo")
  let tt:=a.size + b.size
  let mut out:Array Keyed:=#[← elem' b 0]
  let mut i:=0
  let mut j:=1
  if j == b.size then return dnA a b out i j
  if i + 1 == a.size then return dnB a b out i j
  let mut mg:=gallopOf (← get)
  for _ in [0:tt] do
   let mut ca:=0
   let mut cb:=0
   for _ in [0:tt] do
    let some bw ← lt' (← elem' b j) (← elem' a i) | return dnA a b out i j
    if bw then
     out:=out.push (← elem' b j); j:=j + 1; cb:=cb + 1; ca:=0
     if j == b.size then return dnA a b out i j
     if cb ≥ mg then break
    else
     out:=out.push (← elem' a i); i:=i + 1; ca:=ca + 1; cb:=0
     if i + 1 == a.size then return dnB a b out i j
     if ca ≥ mg then break
   liftM (rule "list.sort.gallop")
   mg:=mg + 1
   for _ in [0:tt] do
    if mg > 1 then mg:=mg - 1
    sMin mg
    let some k ← gal false (← elem' b j) a i (a.size - i) 0 | return dnA a b out i j
    ca:=k
    if k > 0 then
     out:=out ++ a.extract i (i + k); i:=i + k
     if i + 1 == a.size then return dnB a b out i j
     if i == a.size then return dnA a b out i j
    out:=out.push (← elem' b j); j:=j + 1
    if j == b.size then return dnA a b out i j
    let some k ← gal true (← elem' a i) b j (b.size - j) 0 | return dnA a b out i j
    cb:=k
    if k > 0 then
     out:=out ++ b.extract j (j + k); j:=j + k
     if j == b.size then return dnA a b out i j
    out:=out.push (← elem' a i); i:=i + 1
    if i + 1 == a.size then return dnB a b out i j
    if ca < 7 && cb < 7 then break
   mg:=mg + 1
   sMin mg
  unsupported "internal:list.sort.merge-bound"):=rfl
section
variable {prog:Program} {w:World} {A:Around} {E:Value→Shared→Prop} {s:Shared} {f:Bool} {z:Array Keyed} {o:KeyKind}
structure Sm (x y:SortSt):Prop where
 ar:arrOf y = arrOf x
 kd:kindOf y = kindOf x
 fl:failedOf y = failedOf x
 pd:pendingOf y = pendingOf x
theorem Sm.refl (x:SortSt):Sm x x:=⟨rfl,rfl,rfl,rfl⟩
def le2 (o:KeyKind) (p q:Keyed):Prop:=o.kle (kv o p) (kv o q)
def Up (o:KeyKind) (l:List Keyed):Prop:=l.Pairwise (le2 o)
theorem le2_trans {p q r:Keyed} (h1:le2 o p q) (h2:le2 o q r):le2 o p r:=KeyOrd.kle_trans h1 h2
theorem lt_wp {st:SortSt} {p q:Keyed} {Q:Option Bool→SortSt→Prop} (O:Orc prog w A s f o z) (kd:kindOf st = tuples' f) (hp:p∈z.toList) (hq:q∈z.toList) (h:Q (some (o.blt (kv o p) (kv o q))) st):wpS (model prog w) A E s (lt' p q) Q st:=by
 rw [lt'_eq]
 refine wpS_bind (wpS_get ?_)
 rw [kd]
 exact wpS_bind (wpS_lift (wpAny_attempt (O _ p q _ hp hq ⟨rfl,wpS_pure h⟩)))
theorem el_wp {st:SortSt} {xs:Array Keyed} {i:Nat} {Q:Keyed→SortSt→Prop} (hi:i < xs.size) (h:Q xs[i] st):wpS (model prog w) A E s (elem' xs i) Q st:=by
 rw [elem'_eq,getElem?_pos xs i hi]
 exact wpS_pure h
theorem mem_at {xs:Array Keyed} {i:Nat} (hi:i < xs.size):xs[i]∈xs.toList:=Array.getElem_mem_toList hi
theorem Up.at_ {xs:Array Keyed} (u:Up o xs.toList) {i j:Nat} (hij:i≤j) (hj:j < xs.size):le2 o (xs[i]'(Nat.lt_of_le_of_lt hij hj)) xs[j]:=by
 rcases Nat.lt_or_ge i j with h | h
 ·have:=(List.pairwise_iff_getElem.mp u) i j (by simpa using Nat.lt_of_le_of_lt hij hj) (by simpa using hj) h
  simpa using this
 ·obtain rfl:i = j:=by omega
  exact KeyOrd.kle_refl _
theorem gal_left {st:SortSt} {ky:Keyed} {xs:Array Keyed} {bs n h0:Nat} {Q:Option Nat→SortSt→Prop} (O:Orc prog w A s f o z) (kd:kindOf st = tuples' f) (hx:∀ p∈xs.toList,p∈z.toList) (hk:ky∈z.toList) (hn:bs + n≤xs.size) (hh:h0 < n) (up:∀ i j (hij:i≤j) (hj:bs + j < xs.size),j < n→le2 o (xs[bs + i]'(by omega)) xs[bs + j])
  (q:∀ k,k≤n→(∀ i (hi:bs + i < xs.size),i < k→o.klt (kv o xs[bs + i]) (kv o ky))→(∀ i (hi:bs + i < xs.size),k≤i→i < n→le2 o ky xs[bs + i])→Q (some k) st):wpS (model prog w) A E s (gal true ky xs bs n h0) Q st:=by
 refine gal_wp (B:=fun i => if hi:bs + i < xs.size then o.blt (kv o xs[bs + i]) (kv o ky) else false) (fun i hi R hR => ?_) (fun i j hij hj h => ?_) hh fun k hk1 h1 h2 => q k hk1 (fun i hi hik => ?_) (fun i hi hik hin => ?_)
 ·rw [dif_pos (by omega)] at hR
  refine wpS_bind (el_wp (by omega) ?_)
  rw [if_pos rfl]
  exact lt_wp O kd (hx _ (mem_at _)) hk hR
 ·have hj2:bs + j < xs.size:=by omega
  have hi2:bs + i < xs.size:=by omega
  simp only [dif_pos hj2,dif_pos hi2] at h ⊢
  exact KeyOrd.klt_of_kle_of_klt (up i j hij hj2 hj) h
 ·have:=h1 i hik
  rw [dif_pos hi] at this
  exact this
 ·have:=h2 i hik hin
  rw [dif_pos hi] at this
  exact this
theorem gal_right {st:SortSt} {ky:Keyed} {xs:Array Keyed} {bs n h0:Nat} {Q:Option Nat→SortSt→Prop} (O:Orc prog w A s f o z) (kd:kindOf st = tuples' f) (hx:∀ p∈xs.toList,p∈z.toList) (hk:ky∈z.toList) (hn:bs + n≤xs.size) (hh:h0 < n) (up:∀ i j (hij:i≤j) (hj:bs + j < xs.size),j < n→le2 o (xs[bs + i]'(by omega)) xs[bs + j])
  (q:∀ k,k≤n→(∀ i (hi:bs + i < xs.size),i < k→le2 o xs[bs + i] ky)→(∀ i (hi:bs + i < xs.size),k≤i→i < n→o.klt (kv o ky) (kv o xs[bs + i]))→Q (some k) st):wpS (model prog w) A E s (gal false ky xs bs n h0) Q st:=by
 refine gal_wp (B:=fun i => if hi:bs + i < xs.size then !o.blt (kv o ky) (kv o xs[bs + i]) else false) (fun i hi R hR => ?_) (fun i j hij hj h => ?_) hh fun k hk1 h1 h2 => q k hk1 (fun i hi hik => ?_) (fun i hi hik hin => ?_)
 ·rw [dif_pos (by omega)] at hR
  refine wpS_bind (el_wp (by omega) ?_)
  rw [if_neg Bool.false_ne_true]
  exact wpS_bind (lt_wp O kd hk (hx _ (mem_at _)) (wpS_pure hR))
 ·have hj2:bs + j < xs.size:=by omega
  have hi2:bs + i < xs.size:=by omega
  simp only [dif_pos hj2,dif_pos hi2,Bool.not_eq_true'] at h ⊢
  exact KeyOrd.kle_trans (up i j hij hj2 hj) h
 ·have:=h1 i hik
  rw [dif_pos hi,Bool.not_eq_true'] at this
  exact this
 ·have:=h2 i hik hin
  rw [dif_pos hi,Bool.not_eq_false'] at this
  exact this
structure ML (o:KeyKind) (a b out:Array Keyed) (i j:Nat):Prop where
 pm:(out.toList ++ (a.toList.drop i ++ b.toList.drop j)).Perm (a.toList ++ b.toList)
 up:Up o out.toList
 le:∀ p∈out.toList,∀ q∈a.toList.drop i ++ b.toList.drop j,le2 o p q
theorem ML.mvA {a b out:Array Keyed} {i j k:Nat} (m:ML o a b out i j) (ua:Up o a.toList) (hk:i + k≤a.size) (h:∀ p∈(a.toList.drop i).take k,∀ q∈b.toList.drop j,le2 o p q):ML o a b (out ++ a.extract i (i + k)) (i + k) j:=by
 have e:(out ++ a.extract i (i + k)).toList = out.toList ++ (a.toList.drop i).take k:=by
  rw [Array.toList_append,Array.toList_extract,List.extract_eq_drop_take,Nat.add_sub_cancel_left]
 have e2:a.toList.drop i = (a.toList.drop i).take k ++ a.toList.drop (i + k):=by rw [← List.drop_drop,List.take_append_drop]
 have ud:Up o (a.toList.drop i):=ua.drop
 refine ⟨?_,?_,?_⟩
 ·rw [e,List.append_assoc,← List.append_assoc (List.take _ _),← e2]; exact m.pm
 ·rw [e]
  refine List.pairwise_append.mpr ⟨m.up,ud.take,fun p hp q hq => m.le p hp q (List.mem_append_left _ (List.mem_of_mem_take hq))⟩
 ·rw [e]
  intro p hp q hq
  rcases List.mem_append.mp hp with hp | hp
  ·rcases List.mem_append.mp hq with hq | hq
   ·exact m.le p hp q (List.mem_append_left _ (by rw [e2]; exact List.mem_append_right _ hq))
   ·exact m.le p hp q (List.mem_append_right _ hq)
  ·rcases List.mem_append.mp hq with hq | hq
   ·rw [e2] at ud
    exact (List.pairwise_append.mp ud).2.2 p hp q hq
   ·exact h p hp q hq
theorem ML.mvB {a b out:Array Keyed} {i j k:Nat} (m:ML o a b out i j) (ub:Up o b.toList) (hk:j + k≤b.size) (h:∀ p∈(b.toList.drop j).take k,∀ q∈a.toList.drop i,le2 o p q):ML o a b (out ++ b.extract j (j + k)) i (j + k):=by
 have e:(out ++ b.extract j (j + k)).toList = out.toList ++ (b.toList.drop j).take k:=by
  rw [Array.toList_append,Array.toList_extract,List.extract_eq_drop_take,Nat.add_sub_cancel_left]
 have e2:b.toList.drop j = (b.toList.drop j).take k ++ b.toList.drop (j + k):=by rw [← List.drop_drop,List.take_append_drop]
 have ud:Up o (b.toList.drop j):=ub.drop
 refine ⟨?_,?_,?_⟩
 ·rw [e]
  refine List.Perm.trans ?_ m.pm
  rw [List.append_assoc]
  refine List.Perm.append_left _ ?_
  conv => rhs; rw [e2]
  exact (List.perm_append_comm_assoc _ _ _)
 ·rw [e]
  refine List.pairwise_append.mpr ⟨m.up,ud.take,fun p hp q hq => m.le p hp q (List.mem_append_right _ (List.mem_of_mem_take hq))⟩
 ·rw [e]
  intro p hp q hq
  rcases List.mem_append.mp hp with hp | hp
  ·rcases List.mem_append.mp hq with hq | hq
   ·exact m.le p hp q (List.mem_append_left _ hq)
   ·exact m.le p hp q (List.mem_append_right _ (by rw [e2]; exact List.mem_append_right _ hq))
  ·rcases List.mem_append.mp hq with hq | hq
   ·exact h p hp q hq
   ·rw [e2] at ud
    exact (List.pairwise_append.mp ud).2.2 p hp q hq
theorem ext1 {xs:Array Keyed} {i:Nat} (hi:i < xs.size):xs.extract i (i + 1) = #[xs[i]]:=by
 apply Array.toList_inj.mp
 rw [Array.toList_extract,List.extract_eq_drop_take,Nat.add_sub_cancel_left,List.drop_eq_getElem_cons (by simpa using hi)]
 simp
theorem push_ext {out xs:Array Keyed} {i:Nat} (hi:i < xs.size):out.push xs[i] = out ++ xs.extract i (i + 1):=by
 rw [ext1 hi,Array.push_eq_append]
theorem mem_drop {xs:Array Keyed} {i:Nat} {p:Keyed} (h:p∈xs.toList.drop i):∃ k,∃ hk:i + k < xs.size,p = xs[i + k]:=by
 obtain ⟨k,hk,e⟩:=List.mem_iff_getElem.mp h
 rw [List.length_drop,Array.length_toList] at hk
 refine ⟨k,by omega,?_⟩
 rw [← e,List.getElem_drop,Array.getElem_toList]
theorem mem_tk {xs:Array Keyed} {i n:Nat} {p:Keyed} (h:p∈(xs.toList.drop i).take n):∃ k,∃ hk:i + k < xs.size,k < n∧p = xs[i + k]:=by
 obtain ⟨k,hk,e⟩:=List.mem_iff_getElem.mp h
 rw [List.length_take,List.length_drop,Array.length_toList] at hk
 refine ⟨k,by omega,by omega,?_⟩
 rw [← e,List.getElem_take,List.getElem_drop,Array.getElem_toList]
structure Mg (o:KeyKind) (a b m:Array Keyed):Prop where
 pm:m.toList.Perm (a.toList ++ b.toList)
 up:Up o m.toList
theorem ML.endA {a b out:Array Keyed} {i j:Nat} (m:ML o a b out i j) (ua:Up o a.toList) (ub:Up o b.toList) (h:j = b.size∨i = a.size):Mg o a b (dnA a b out i j):=by
 have e:(dnA a b out i j).toList = out.toList ++ (a.toList.drop i ++ b.toList.drop j):=by
  unfold dnA
  rw [Array.toList_append,Array.toList_append,Array.toList_extract,Array.toList_extract,List.extract_eq_drop_take,List.extract_eq_drop_take,List.append_assoc]
  congr 2 <;> exact List.take_of_length_le (by simp)
 have z0:a.toList.drop i = []∨b.toList.drop j = []:=by
  rcases h with h | h
  ·exact .inr (List.drop_eq_nil_of_le (by simp [h]))
  ·exact .inl (List.drop_eq_nil_of_le (by simp [h]))
 refine ⟨by rw [e]; exact m.pm,?_⟩
 rw [e]
 refine List.pairwise_append.mpr ⟨m.up,?_,m.le⟩
 rcases z0 with z0 | z0 <;> rw [z0]
 ·exact ub.drop
 ·rw [List.append_nil]; exact ua.drop
theorem ML.endB {a b out:Array Keyed} {i j:Nat} (m:ML o a b out i j) (ub:Up o b.toList) (h:i + 1 = a.size) (hl:∀ p∈b.toList,∀ hi:i < a.size,le2 o p a[i]):Mg o a b (dnB a b out i j):=by
 have hi:i < a.size:=by omega
 have e1:a.toList.drop i = [a[i]]:=by
  rw [List.drop_eq_getElem_cons (by simpa using hi),List.drop_eq_nil_of_le (by simp; omega)]; simp
 have e:(dnB a b out i j).toList = out.toList ++ (b.toList.drop j ++ a.toList.drop i):=by
  unfold dnB
  rw [Array.toList_append,Array.toList_append,Array.toList_extract,Array.toList_extract,List.extract_eq_drop_take,List.extract_eq_drop_take,List.append_assoc]
  congr 2 <;> exact List.take_of_length_le (by simp)
 refine ⟨?_,?_⟩
 ·rw [e]
  exact List.Perm.trans (List.Perm.append_left _ List.perm_append_comm) m.pm
 ·rw [e]
  refine List.pairwise_append.mpr ⟨m.up,List.pairwise_append.mpr ⟨ub.drop,by rw [e1]; exact List.pairwise_singleton _ _,fun p hp q hq => ?_⟩,fun p hp q hq => m.le p hp q ?_⟩
  ·rw [e1,List.mem_singleton] at hq
   rw [hq]
   exact hl p (List.mem_of_mem_drop hp) hi
  ·rcases List.mem_append.mp hq with hq | hq
   ·exact List.mem_append_right _ hq
   ·exact List.mem_append_left _ hq
end
end TS
namespace TS
open PySem PyProof.Rows L2
abbrev LS:=Option (Array Keyed) × Array Keyed × Nat × Nat × Nat × Nat × Nat
def lo3 (a b:Array Keyed) (i mg ca cb:Nat) (out:Array Keyed) (j:Nat):StateT SortSt Sem (ForInStep LS):=do
 let x ← elem' a i
 if (i + 1 + 1 == a.size) = true then pure (.done (some (dnB a b (out.push x) (i + 1) j),out.push x,i + 1,j,mg,ca,cb))
 else if (decide (ca < 7) && decide (cb < 7)) = true then pure (.done (none,out.push x,i + 1,j,mg,ca,cb))
 else pure (.yield (none,out.push x,i + 1,j,mg,ca,cb))
def lo2 (a b:Array Keyed) (j mg ca cb:Nat) (out:Array Keyed) (i:Nat):StateT SortSt Sem (ForInStep LS):=do
 let x ← elem' b j
 if (j + 1 == b.size) = true then pure (.done (some (dnA a b (out.push x) i (j + 1)),out.push x,i,j + 1,mg,ca,cb))
 else
  let y ← elem' a i
  let some k ← gal true y b (j + 1) (b.size - (j + 1)) 0 | pure (.done (some (dnA a b (out.push x) i (j + 1)),out.push x,i,j + 1,mg,ca,cb))
  if k > 0 then
   if (j + 1 + k == b.size) = true then pure (.done (some (dnA a b (out.push x ++ b.extract (j + 1) (j + 1 + k)) i (j + 1 + k)),out.push x ++ b.extract (j + 1) (j + 1 + k),i,j + 1 + k,mg,ca,k))
   else lo3 a b i mg ca k (out.push x ++ b.extract (j + 1) (j + 1 + k)) (j + 1 + k)
  else lo3 a b i mg ca k (out.push x) (j + 1)
def lo1 (a b out:Array Keyed) (i j ca cb mg:Nat):StateT SortSt Sem (ForInStep LS):=do
 sMin mg
 let x ← elem' b j
 let some k ← gal false x a i (a.size - i) 0 | pure (.done (some (dnA a b out i j),out,i,j,mg,ca,cb))
 if k > 0 then
  if (i + k + 1 == a.size) = true then pure (.done (some (dnB a b (out ++ a.extract i (i + k)) (i + k) j),out ++ a.extract i (i + k),i + k,j,mg,k,cb))
  else if (i + k == a.size) = true then pure (.done (some (dnA a b (out ++ a.extract i (i + k)) (i + k) j),out ++ a.extract i (i + k),i + k,j,mg,k,cb))
  else lo2 a b j mg k cb (out ++ a.extract i (i + k)) (i + k)
 else lo2 a b j mg k cb out i
section
variable {prog:Program} {w:World} {A:Around} {E:Value→Shared→Prop} {s:Shared} {f:Bool} {z:Array Keyed} {o:KeyKind}
structure LI (o:KeyKind) (a b:Array Keyed) (st:SortSt) (t:Nat) (out:Array Keyed) (i j:Nat) (y:SortSt):Prop where
 sm:Sm st y
 ml:ML o a b out i j
 hi:i + 1 < a.size
 hj:j < b.size
 tt:t≤i + j
def LFin (o:KeyKind) (a b:Array Keyed) (st:SortSt) (t:Nat) (c:LS) (y:SortSt):Prop:=(∃ m,c.1 = some m∧Sm st y∧Mg o a b m)∨(c.1 = none∧LI o a b st t c.2.1 c.2.2.1 c.2.2.2.1 y)
def LPost (o:KeyKind) (a b:Array Keyed) (st:SortSt) (t:Nat):ForInStep LS→SortSt→Prop:=fun r y => match r with | .done c => LFin o a b st t c y | .yield c => c.1 = none∧LI o a b st t c.2.1 c.2.2.1 c.2.2.2.1 y
structure Two (o:KeyKind) (f:Bool) (z a b:Array Keyed) (st:SortSt):Prop where
 kd:kindOf st = tuples' f
 ma:∀ p∈a.toList,p∈z.toList
 mb:∀ p∈b.toList,p∈z.toList
 ua:Up o a.toList
 ub:Up o b.toList
 hl:∀ p∈b.toList,∀ hi:a.size - 1 < a.size,le2 o p a[a.size - 1]
 h0:∀ p∈a.toList,∀ hi:0 < b.size,le2 o b[0] p
theorem Sm.trans {x y u:SortSt} (h:Sm x y) (g:Sm y u):Sm x u:=⟨g.ar.trans h.ar,g.kd.trans h.kd,g.fl.trans h.fl,g.pd.trans h.pd⟩
theorem Two.last {a b:Array Keyed} {st:SortSt} (T:Two o f z a b st) {i:Nat} (h:i + 1 = a.size):∀ p∈b.toList,∀ hi:i < a.size,le2 o p a[i]:=fun p hp hi => by
 have e:a.size - 1 = i:=by omega
 have:=T.hl p hp (by omega)
 simp only [e] at this
 exact this
theorem lo3_wp {a b:Array Keyed} {st y:SortSt} {t i j mg ca cb:Nat} {out:Array Keyed} (T:Two o f z a b st) (sm:Sm st y) (ml:ML o a b out i j) (hi:i + 1 < a.size) (hj:j < b.size) (tt:t≤i + j + 1) (h:∀ q∈b.toList.drop j,le2 o a[i] q) :
  wpS (model prog w) A E s (lo3 a b i mg ca cb out j) (LPost o a b st t) y:=by
 refine wpS_bind (el_wp (by omega) ?_)
 have m2:ML o a b (out.push a[i]) (i + 1) j:=by
  rw [push_ext (by omega)]
  refine ml.mvA T.ua (by omega) fun p hp q hq => ?_
  obtain ⟨k,hk,k1,rfl⟩:=mem_tk hp
  obtain rfl:k = 0:=by omega
  exact h q hq
 rcases Nat.lt_or_ge (i + 1 + 1) a.size with h1 | h1
 ·rw [if_neg (by rw [beq_iff_eq]; omega)]
  have li:LI o a b st t (out.push a[i]) (i + 1) j y:=⟨sm,m2,h1,hj,by omega⟩
  split
  ·exact wpS_pure (.inr ⟨rfl,li⟩)
  ·exact wpS_pure ⟨rfl,li⟩
 ·rw [if_pos (by rw [beq_iff_eq]; omega)]
  exact wpS_pure (.inl ⟨_,rfl,sm,m2.endB T.ub (by omega) (T.last (by omega))⟩)
theorem drop_lt {xs:Array Keyed} {j k:Nat} {q:Keyed} (h:q∈xs.toList.drop (j + k)):∃ g,∃ hg:j + g < xs.size,k≤g∧q = xs[j + g]:=by
 obtain ⟨g,hg,rfl⟩:=mem_drop h
 exact ⟨k + g,by omega,by omega,by congr 1; omega⟩
theorem lo2_wp {a b:Array Keyed} {st y:SortSt} {t i j mg ca cb:Nat} {out:Array Keyed} (O:Orc prog w A s f o z) (T:Two o f z a b st) (sm:Sm st y) (ml:ML o a b out i j) (hi:i + 1 < a.size) (hj:j < b.size) (tt:t≤i + j) (h:∀ q∈a.toList.drop i,le2 o b[j] q) :
  wpS (model prog w) A E s (lo2 a b j mg ca cb out i) (LPost o a b st t) y:=by
 refine wpS_bind (el_wp hj ?_)
 have m2:ML o a b (out.push b[j]) i (j + 1):=by
  rw [push_ext hj]
  refine ml.mvB T.ub (by omega) fun p hp q hq => ?_
  obtain ⟨k,hk,k1,rfl⟩:=mem_tk hp
  obtain rfl:k = 0:=by omega
  exact h q hq
 rcases Nat.lt_or_ge (j + 1) b.size with h1 | h1
 ·rw [if_neg (by rw [beq_iff_eq]; omega)]
  refine wpS_bind (el_wp (by omega) (wpS_bind (gal_left O (sm.kd.trans T.kd) T.mb (T.ma _ (mem_at _)) (by omega) (by omega) (fun g k hgk hk _ => T.ub.at_ (by omega) hk) fun k hk less rest => ?_)))
  show wpS _ _ _ _ (if k > 0 then _ else _) _ _
  have rest2:∀ q∈b.toList.drop (j + 1 + k),le2 o a[i] q:=fun q hq => by
   obtain ⟨g,hg,hkg,rfl⟩:=drop_lt hq
   exact rest g hg hkg (by omega)
  rcases Nat.lt_or_ge 0 k with h2 | h2
  ·rw [if_pos h2]
   have m3:ML o a b (out.push b[j] ++ b.extract (j + 1) (j + 1 + k)) i (j + 1 + k):=m2.mvB T.ub (by omega) fun p hp q hq => by
    obtain ⟨g,hg,g1,rfl⟩:=mem_tk hp
    obtain ⟨g',hg',rfl⟩:=mem_drop hq
    exact le2_trans (KeyOrd.kle_of_klt (less g hg g1)) (T.ua.at_ (by omega) hg')
   rcases Nat.lt_or_ge (j + 1 + k) b.size with h3 | h3
   ·rw [if_neg (by rw [beq_iff_eq]; omega)]
    exact lo3_wp T sm m3 hi h3 (by omega) rest2
   ·rw [if_pos (by rw [beq_iff_eq]; omega)]
    exact wpS_pure (.inl ⟨_,rfl,sm,m3.endA T.ua T.ub (.inl (by omega))⟩)
  ·rw [if_neg (by omega)]
   obtain rfl:k = 0:=by omega
   exact lo3_wp T sm m2 hi h1 (by omega) rest2
 ·rw [if_pos (by rw [beq_iff_eq]; omega)]
  exact wpS_pure (.inl ⟨_,rfl,sm,m2.endA T.ua T.ub (.inl (by omega))⟩)
theorem sMin_wp {y:SortSt} {mg:Nat} {Q:Unit→SortSt→Prop} (h:∀ y',Sm y y'→Q () y'):wpS (model prog w) A E s (sMin mg) Q y:=wpS_modify (h _ ⟨rfl,rfl,rfl,rfl⟩)
theorem lo1_wp {a b:Array Keyed} {st y:SortSt} {t i j mg ca cb:Nat} {out:Array Keyed} (O:Orc prog w A s f o z) (T:Two o f z a b st) (li:LI o a b st t out i j y) :
  wpS (model prog w) A E s (lo1 a b out i j ca cb mg) (LPost o a b st t) y:=by
 obtain ⟨sm0,ml,hi,hj,tt⟩:=li
 refine wpS_bind (sMin_wp fun y' s' => ?_)
 have sm:=sm0.trans s'
 refine wpS_bind (el_wp hj (wpS_bind (gal_right O (sm.kd.trans T.kd) T.ma (T.mb _ (mem_at _)) (by omega) (by omega) (fun g k hgk hk _ => T.ua.at_ (by omega) hk) fun k hk less rest => ?_)))
 show wpS _ _ _ _ (if k > 0 then _ else _) _ _
 have rest2:∀ q∈a.toList.drop (i + k),le2 o b[j] q:=fun q hq => by
  obtain ⟨g,hg,hkg,rfl⟩:=drop_lt hq
  exact KeyOrd.kle_of_klt (rest g hg hkg (by omega))
 rcases Nat.lt_or_ge 0 k with h2 | h2
 ·rw [if_pos h2]
  have m2:ML o a b (out ++ a.extract i (i + k)) (i + k) j:=ml.mvA T.ua (by omega) fun p hp q hq => by
   obtain ⟨g,hg,g1,rfl⟩:=mem_tk hp
   obtain ⟨g',hg',rfl⟩:=mem_drop hq
   exact le2_trans (less g hg g1) (T.ub.at_ (by omega) hg')
  rcases Nat.lt_or_ge (i + k + 1) a.size with h3 | h3
  ·rw [if_neg (by rw [beq_iff_eq]; omega),if_neg (by rw [beq_iff_eq]; omega)]
   exact lo2_wp O T sm m2 h3 hj (by omega) rest2
  ·rcases Nat.lt_or_ge a.size (i + k + 1) with h4 | h4
   ·rw [if_neg (by rw [beq_iff_eq]; omega),if_pos (by rw [beq_iff_eq]; omega)]
    exact wpS_pure (.inl ⟨_,rfl,sm,m2.endA T.ua T.ub (.inr (by omega))⟩)
   ·rw [if_pos (by rw [beq_iff_eq]; omega)]
    exact wpS_pure (.inl ⟨_,rfl,sm,m2.endB T.ub (by omega) (T.last (by omega))⟩)
 ·rw [if_neg (by omega)]
  obtain rfl:k = 0:=by omega
  exact lo2_wp O T sm ml hi hj tt rest2
theorem mLo_wp {st:SortSt} {a b:Array Keyed} {Q:Array Keyed→SortSt→Prop} (O:Orc prog w A s f o z) (T:Two o f z a b st) (ha:0 < a.size) (hb:0 < b.size) (q:∀ m y,Sm st y→Mg o a b m→Q m y):wpS (model prog w) A E s (mLo a b) Q st:=by
 rw [mLo_eq]
 refine wpS_bind (wpS_lift (wpAny_rule ⟨rfl,wpS_bind (el_wp hb ?_)⟩))
 have m1:ML o a b #[b[0]] 0 1:=by
  refine ⟨?_,List.pairwise_singleton _ _,fun p hp q hq => ?_⟩
  ·have e:b.toList = b[0] :: b.toList.drop 1:=by
    have:=List.drop_eq_getElem_cons (l:=b.toList) (i:=0) (by simpa using hb)
    simpa using this
   show (b[0] :: (a.toList ++ b.toList.drop 1)).Perm _
   conv => rhs; rw [e]
   exact List.perm_middle.symm
  ·obtain rfl:=List.mem_singleton.mp hp
   rcases List.mem_append.mp hq with hq | hq
   ·exact T.h0 q hq hb
   ·obtain ⟨k,hk,rfl⟩:=mem_drop hq
    exact T.ub.at_ (Nat.zero_le _) hk
 rcases Nat.lt_or_ge 1 b.size with hb2 | hb2
 rotate_left
 ·rw [if_pos (by rw [beq_iff_eq]; omega)]
  exact wpS_pure (q _ _ (Sm.refl _) (m1.endA T.ua T.ub (.inl (by omega))))
 rw [if_neg (by rw [beq_iff_eq]; omega)]
 rcases Nat.lt_or_ge 1 a.size with ha2 | ha2
 rotate_left
 ·rw [if_pos (by rw [beq_iff_eq]; omega)]
  exact wpS_pure (q _ _ (Sm.refl _) (m1.endB T.ub (by omega) (T.last (by omega))))
 rw [if_neg (by rw [beq_iff_eq]; omega)]
 refine wpS_bind (wpS_get (wpS_bind (wpS_mono (wpS_forRange (I:=fun x c y => c.1 = none∧LI o a b st (1 + x) c.2.1 c.2.2.1 c.2.2.2.1 y) (Q:=fun c y => ∃ m,c.1 = some m∧Sm st y∧Mg o a b m) (fun x c y _ _ hy => ?_) (fun c y hy => ?_) ⟨rfl,Sm.refl _,m1,by show 0 + 1 < _; omega,hb2,by show 1 + 0≤0 + 1; omega⟩) fun c y hy => ?_)))
 ·obtain ⟨c1,out,i,j,mg⟩:=c
  obtain ⟨e1,li⟩:=hy
  refine wpS_bind (wpS_mono (wpS_forRange (I:=fun x' c y => c.1 = none∧LI o a b st (1 + x + x') c.2.1 c.2.2.1 c.2.2.2.1 y) (Q:=fun c y => (∃ m,c.1 = some m∧Sm st y∧Mg o a b m)∨(c.1 = none∧LI o a b st (1 + x + 1) c.2.1 c.2.2.1 c.2.2.2.1 y)) (fun x' c y _ _ hy => ?_) (fun c y hy => ?_) ⟨rfl,li⟩) fun c y hy => ?_)
  ·obtain ⟨c1,out,i,j,ca,cb⟩:=c
   obtain ⟨e1,sm,ml,hi,hj,tt⟩:=hy
   change i + 1 < a.size at hi
   change j < b.size at hj
   change 1 + x + x'≤i + j at tt
   change ML o a b out i j at ml
   refine wpS_bind (el_wp hj (wpS_bind (el_wp (show i < a.size by omega) (wpS_bind (lt_wp O (sm.kd.trans T.kd) (T.mb _ (mem_at _)) (T.ma _ (mem_at _)) ?_)))))
   show wpS _ _ _ _ (if o.blt (kv o b[j]) (kv o a[i]) = true then _ else _) _ _
   cases hv:o.blt (kv o b[j]) (kv o a[i]) with
   | true =>
    rw [if_pos rfl]
    refine wpS_bind (el_wp hj ?_)
    have m2:ML o a b (out.push b[j]) i (j + 1):=by
     rw [push_ext hj]
     refine ml.mvB T.ub (by omega) fun p hp q hq => ?_
     obtain ⟨k,hk,k1,rfl⟩:=mem_tk hp
     obtain rfl:k = 0:=by omega
     obtain ⟨g,hg,rfl⟩:=mem_drop hq
     exact le2_trans (KeyOrd.kle_of_klt hv) (T.ua.at_ (by omega) hg)
    show wpS _ _ _ _ (if (j + 1 == b.size) = true then _ else _) _ _
    rcases Nat.lt_or_ge (j + 1) b.size with h1 | h1
    ·rw [if_neg (by rw [beq_iff_eq]; omega)]
     have li:∀ t,t≤i + (j + 1)→LI o a b st t (out.push b[j]) i (j + 1) y:=fun t ht => ⟨sm,m2,hi,h1,ht⟩
     show wpS _ _ _ _ (if cb + 1 ≥ mg then _ else _) _ _
     split
     ·exact wpS_pure (.inr ⟨rfl,li _ (by omega)⟩)
     ·exact wpS_pure ⟨rfl,li _ (by omega)⟩
    ·rw [if_pos (by rw [beq_iff_eq]; omega)]
     exact wpS_pure (.inl ⟨_,rfl,sm,m2.endA T.ua T.ub (.inl (by omega))⟩)
   | false =>
    rw [if_neg Bool.false_ne_true]
    refine wpS_bind (el_wp (show i < a.size by omega) ?_)
    have m2:ML o a b (out.push a[i]) (i + 1) j:=by
     rw [push_ext (show i < a.size by omega)]
     refine ml.mvA T.ua (by omega) fun p hp q hq => ?_
     obtain ⟨k,hk,k1,rfl⟩:=mem_tk hp
     obtain rfl:k = 0:=by omega
     obtain ⟨g,hg,rfl⟩:=mem_drop hq
     exact le2_trans (show le2 o a[i] b[j] from hv) (T.ub.at_ (by omega) hg)
    show wpS _ _ _ _ (if (i + 1 + 1 == a.size) = true then _ else _) _ _
    rcases Nat.lt_or_ge (i + 1 + 1) a.size with h1 | h1
    ·rw [if_neg (by rw [beq_iff_eq]; omega)]
     have li:∀ t,t≤i + 1 + j→LI o a b st t (out.push a[i]) (i + 1) j y:=fun t ht => ⟨sm,m2,h1,hj,ht⟩
     show wpS _ _ _ _ (if ca + 1 ≥ mg then _ else _) _ _
     split
     ·exact wpS_pure (.inr ⟨rfl,li _ (by omega)⟩)
     ·exact wpS_pure ⟨rfl,li _ (by omega)⟩
    ·rw [if_pos (by rw [beq_iff_eq]; omega)]
     exact wpS_pure (.inl ⟨_,rfl,sm,m2.endB T.ub (by omega) (T.last (by omega))⟩)
  ·obtain ⟨e1,li⟩:=hy
   have h1:=li.hi
   have h2:=li.hj
   exact .inr ⟨e1,li.sm,li.ml,li.hi,li.hj,Nat.le_trans (by omega) li.tt⟩
  ·obtain ⟨c1,out,i,j,ca,cb⟩:=c
   rcases hy with ⟨m,rfl,sm,mm⟩ | ⟨rfl,li⟩
   ·exact wpS_pure ⟨m,rfl,sm,mm⟩
   ·refine wpS_bind (wpS_lift (wpAny_rule ⟨rfl,wpS_bind (wpS_mono (wpS_forRange (I:=fun x' c y => c.1 = none∧LI o a b st (1 + x + 1) c.2.1 c.2.2.1 c.2.2.2.1 y) (Q:=LFin o a b st (1 + x + 1)) (fun x' c y _ _ hy => ?_) (fun c y hy => .inr hy) ⟨rfl,li⟩) fun c y hy => ?_)⟩))
    ·obtain ⟨c1,out,i,j,mg,ca,cb⟩:=c
     obtain ⟨e1,li⟩:=hy
     show wpS _ _ _ _ (if mg > 1 then lo1 a b out i j ca cb (mg - 1) else lo1 a b out i j ca cb mg) _ _
     change LI o a b st (1 + x + 1) out i j y at li
     split
     ·exact wpS_mono (lo1_wp O T li) fun r y h => by cases r <;> exact h
     ·exact wpS_mono (lo1_wp O T li) fun r y h => by cases r <;> exact h
    ·obtain ⟨c1,out,i,j,mg,ca,cb⟩:=c
     rcases hy with ⟨m,rfl,sm,mm⟩ | ⟨rfl,li⟩
     ·exact wpS_pure ⟨m,rfl,sm,mm⟩
     ·exact wpS_bind (sMin_wp fun y' s' => wpS_pure ⟨rfl,li.sm.trans s',li.ml,li.hi,li.hj,by have:=li.tt; omega⟩)
 ·obtain ⟨e1,li⟩:=hy
  have h1:=li.hi
  have h2:=li.hj
  have h3:=li.tt
  omega
 ·obtain ⟨c1,out,i,j,mg⟩:=c
  obtain ⟨m,rfl,sm,mm⟩:=hy
  exact wpS_pure (q m y sm mm)
end
end TS
namespace TS
open PySem PyProof.Rows L2
def dnC (a b out:Array Keyed) (m n:Nat):Array Keyed:=a.extract 0 m ++ b.extract 0 n ++ out.reverse
def dnD (a b out:Array Keyed) (m n:Nat):Array Keyed:=b.extract 0 n ++ a.extract 0 m ++ out.reverse
theorem mHi_eq (a b:Array Keyed):mHi a b = (do
  liftM (rule "list.sort.merge-hi")
  let tt:=a.size + b.size
  let mut m:=a.size - 1
  let mut n:=b.size
  let mut out:Array Keyed:=#[← elem' a m]
  if m == 0 then return dnC a b out m n
  if n == 1 then return dnD a b out m n
  let mut mg:=gallopOf (← get)
  for _ in [0:tt] do
   let mut ca:=0
   let mut cb:=0
   for _ in [0:tt] do
    let some aw ← lt' (← elem' b (n - 1)) (← elem' a (m - 1)) | return dnC a b out m n
    if aw then
     m:=m - 1; out:=out.push (← elem' a m); ca:=ca + 1; cb:=0
     if m == 0 then return dnC a b out m n
     if ca ≥ mg then break
    else
     n:=n - 1; out:=out.push (← elem' b n); cb:=cb + 1; ca:=0
     if n == 1 then return dnD a b out m n
     if cb ≥ mg then break
   liftM (rule "list.sort.gallop")
   mg:=mg + 1
   for _ in [0:tt] do
    if mg > 1 then mg:=mg - 1
    sMin mg
    let some g ← gal false (← elem' b (n - 1)) a 0 m (m - 1) | return dnC a b out m n
    let k:=m - g
    ca:=k
    if k > 0 then
     out:=out ++ (a.extract g m).reverse; m:=g
     if m == 0 then return dnC a b out m n
    n:=n - 1; out:=out.push (← elem' b n)
    if n == 1 then return dnD a b out m n
    let some g ← gal true (← elem' a (m - 1)) b 0 n (n - 1) | return dnC a b out m n
    let k:=n - g
    cb:=k
    if k > 0 then
     out:=out ++ (b.extract g n).reverse; n:=g
     if n == 1 then return dnD a b out m n
     if n == 0 then return dnC a b out m n
    m:=m - 1; out:=out.push (← elem' a m)
    if m == 0 then return dnC a b out m n
    if ca < 7 && cb < 7 then break
   mg:=mg + 1
   sMin mg
  unsupported "internal:list.sort.merge-bound"):=rfl
abbrev HS:=Option (Array Keyed) × Nat × Nat × Array Keyed × Nat × Nat × Nat
def hi3 (a b:Array Keyed) (m mg ca cb:Nat) (out:Array Keyed) (n:Nat):StateT SortSt Sem (ForInStep HS):=do
 let x ← elem' a (m - 1)
 if (m - 1 == 0) = true then pure (.done (some (dnC a b (out.push x) (m - 1) n),m - 1,n,out.push x,mg,ca,cb))
 else if (decide (ca < 7) && decide (cb < 7)) = true then pure (.done (none,m - 1,n,out.push x,mg,ca,cb))
 else pure (.yield (none,m - 1,n,out.push x,mg,ca,cb))
def hi2 (a b:Array Keyed) (n mg ca cb:Nat) (out:Array Keyed) (m:Nat):StateT SortSt Sem (ForInStep HS):=do
 let x ← elem' b (n - 1)
 if (n - 1 == 1) = true then pure (.done (some (dnD a b (out.push x) m (n - 1)),m,n - 1,out.push x,mg,ca,cb))
 else
  let y ← elem' a (m - 1)
  let some g ← gal true y b 0 (n - 1) (n - 1 - 1) | pure (.done (some (dnC a b (out.push x) m (n - 1)),m,n - 1,out.push x,mg,ca,cb))
  if n - 1 - g > 0 then
   if (g == 1) = true then pure (.done (some (dnD a b (out.push x ++ (b.extract g (n - 1)).reverse) m g),m,g,out.push x ++ (b.extract g (n - 1)).reverse,mg,ca,n - 1 - g))
   else if (g == 0) = true then pure (.done (some (dnC a b (out.push x ++ (b.extract g (n - 1)).reverse) m g),m,g,out.push x ++ (b.extract g (n - 1)).reverse,mg,ca,n - 1 - g))
   else hi3 a b m mg ca (n - 1 - g) (out.push x ++ (b.extract g (n - 1)).reverse) g
  else hi3 a b m mg ca (n - 1 - g) (out.push x) (n - 1)
def hi1 (a b out:Array Keyed) (m n ca cb mg:Nat):StateT SortSt Sem (ForInStep HS):=do
 sMin mg
 let x ← elem' b (n - 1)
 let some g ← gal false x a 0 m (m - 1) | pure (.done (some (dnC a b out m n),m,n,out,mg,ca,cb))
 if m - g > 0 then
  if (g == 0) = true then pure (.done (some (dnC a b (out ++ (a.extract g m).reverse) g n),g,n,out ++ (a.extract g m).reverse,mg,m - g,cb))
  else hi2 a b n mg (m - g) cb (out ++ (a.extract g m).reverse) g
 else hi2 a b n mg (m - g) cb out m
section
variable {prog:Program} {w:World} {A:Around} {E:Value→Shared→Prop} {s:Shared} {f:Bool} {z:Array Keyed} {o:KeyKind}
structure MH (o:KeyKind) (a b out:Array Keyed) (m n:Nat):Prop where
 pm:((a.toList.take m ++ b.toList.take n) ++ out.toList.reverse).Perm (a.toList ++ b.toList)
 up:Up o out.toList.reverse
 le:∀ p∈a.toList.take m ++ b.toList.take n,∀ q∈out.toList,le2 o p q
theorem ext_rev {out xs:Array Keyed} {g m:Nat}:(out ++ (xs.extract g m).reverse).toList.reverse = (xs.toList.take m).drop g ++ out.toList.reverse:=by
 rw [Array.toList_append,Array.toList_reverse,Array.toList_extract,List.reverse_append,List.reverse_reverse,List.extract_eq_drop_take,← List.drop_take]
theorem tk_split {l:List Keyed} {g m:Nat} (h:g≤m):l.take m = l.take g ++ (l.take m).drop g:=by
 have:=(List.take_append_drop g (l.take m)).symm
 rwa [List.take_take,Nat.min_eq_left h] at this
theorem MH.mvA {a b out:Array Keyed} {m n g:Nat} (x:MH o a b out m n) (ua:Up o a.toList) (hg:g≤m) (h:∀ p∈(a.toList.take m).drop g,∀ q∈b.toList.take n,le2 o q p):MH o a b (out ++ (a.extract g m).reverse) g n:=by
 have ut:Up o (a.toList.take m):=ua.take
 have e2:=tk_split (l:=a.toList) hg
 have mo:∀ q,q∈(out ++ (a.extract g m).reverse).toList↔q∈(a.toList.take m).drop g∨q∈out.toList:=fun q => by
  rw [← List.mem_reverse,ext_rev,List.mem_append,List.mem_reverse]
 refine ⟨?_,?_,fun p hp q hq => ?_⟩
 ·rw [ext_rev]
  refine List.Perm.trans ?_ x.pm
  rw [← List.append_assoc]
  refine List.Perm.append_right _ ?_
  conv => rhs; rw [e2]
  rw [List.append_assoc,List.append_assoc]
  exact List.Perm.append_left _ List.perm_append_comm
 ·rw [ext_rev]
  refine List.pairwise_append.mpr ⟨ut.drop,x.up,fun p hp q hq => x.le p (List.mem_append_left _ (List.mem_of_mem_drop hp)) q (List.mem_reverse.mp hq)⟩
 ·rcases (mo q).mp hq with hq | hq
  ·rcases List.mem_append.mp hp with hp | hp
   ·rw [e2] at ut
    exact (List.pairwise_append.mp ut).2.2 p hp q hq
   ·exact h q hq p hp
  ·refine x.le p ?_ q hq
   rcases List.mem_append.mp hp with hp | hp
   ·exact List.mem_append_left _ (by rw [e2]; exact List.mem_append_left _ hp)
   ·exact List.mem_append_right _ hp
theorem MH.mvB {a b out:Array Keyed} {m n g:Nat} (x:MH o a b out m n) (ub:Up o b.toList) (hg:g≤n) (h:∀ p∈(b.toList.take n).drop g,∀ q∈a.toList.take m,le2 o q p):MH o a b (out ++ (b.extract g n).reverse) m g:=by
 have ut:Up o (b.toList.take n):=ub.take
 have e2:=tk_split (l:=b.toList) hg
 have mo:∀ q,q∈(out ++ (b.extract g n).reverse).toList↔q∈(b.toList.take n).drop g∨q∈out.toList:=fun q => by
  rw [← List.mem_reverse,ext_rev,List.mem_append,List.mem_reverse]
 refine ⟨?_,?_,fun p hp q hq => ?_⟩
 ·rw [ext_rev]
  refine List.Perm.trans ?_ x.pm
  rw [← List.append_assoc]
  refine List.Perm.append_right _ ?_
  conv => rhs; rw [e2]
  rw [List.append_assoc]
 ·rw [ext_rev]
  refine List.pairwise_append.mpr ⟨ut.drop,x.up,fun p hp q hq => x.le p (List.mem_append_right _ (List.mem_of_mem_drop hp)) q (List.mem_reverse.mp hq)⟩
 ·rcases (mo q).mp hq with hq | hq
  ·rcases List.mem_append.mp hp with hp | hp
   ·exact h q hq p hp
   ·rw [e2] at ut
    exact (List.pairwise_append.mp ut).2.2 p hp q hq
  ·refine x.le p ?_ q hq
   rcases List.mem_append.mp hp with hp | hp
   ·exact List.mem_append_left _ hp
   ·exact List.mem_append_right _ (by rw [e2]; exact List.mem_append_left _ hp)
theorem ext_tk {xs:Array Keyed} {m:Nat}:(xs.extract 0 m).toList = xs.toList.take m:=by
 rw [Array.toList_extract,List.extract_eq_drop_take,List.drop_zero,Nat.sub_zero]
theorem MH.endC {a b out:Array Keyed} {m n:Nat} (x:MH o a b out m n) (ua:Up o a.toList) (ub:Up o b.toList) (h:m = 0∨n = 0):Mg o a b (dnC a b out m n):=by
 have e:(dnC a b out m n).toList = (a.toList.take m ++ b.toList.take n) ++ out.toList.reverse:=by
  unfold dnC
  rw [Array.toList_append,Array.toList_append,ext_tk,ext_tk,Array.toList_reverse]
 refine ⟨by rw [e]; exact x.pm,?_⟩
 rw [e]
 refine List.pairwise_append.mpr ⟨?_,x.up,fun p hp q hq => x.le p hp q (List.mem_reverse.mp hq)⟩
 rcases h with rfl | rfl
 ·rw [List.take_zero,List.nil_append]; exact ub.take
 ·rw [List.take_zero,List.append_nil]; exact ua.take
theorem MH.endD {a b out:Array Keyed} {m n:Nat} (x:MH o a b out m n) (ua:Up o a.toList) (hn:n = 1) (hb:0 < b.size) (h0:∀ p∈a.toList,le2 o b[0] p):Mg o a b (dnD a b out m n):=by
 have e1:b.toList.take n = [b[0]]:=by
  rw [hn,List.take_one]
  have:b.toList.head? = some b[0]:=by rw [List.head?_eq_getElem?]; simp [hb]
  rw [this]; rfl
 have e:(dnD a b out m n).toList = (b.toList.take n ++ a.toList.take m) ++ out.toList.reverse:=by
  unfold dnD
  rw [Array.toList_append,Array.toList_append,ext_tk,ext_tk,Array.toList_reverse]
 refine ⟨?_,?_⟩
 ·rw [e]
  exact List.Perm.trans (List.Perm.append_right _ List.perm_append_comm) x.pm
 ·rw [e]
  refine List.pairwise_append.mpr ⟨List.pairwise_append.mpr ⟨by rw [e1]; exact List.pairwise_singleton _ _,ua.take,fun p hp q hq => ?_⟩,x.up,fun p hp q hq => x.le p ?_ q (List.mem_reverse.mp hq)⟩
  ·rw [e1,List.mem_singleton] at hp
   rw [hp]
   exact h0 q (List.mem_of_mem_take hq)
  ·rcases List.mem_append.mp hp with hp | hp
   ·exact List.mem_append_right _ hp
   ·exact List.mem_append_left _ hp
theorem push_rev {out xs:Array Keyed} {m:Nat} (h1:1≤m) (hm:m≤xs.size):out.push (xs[m - 1]'(by omega)) = out ++ (xs.extract (m - 1) m).reverse:=by
 have:=ext1 (xs:=xs) (i:=m - 1) (by omega)
 rw [show m - 1 + 1 = m by omega] at this
 rw [this,Array.push_eq_append]
 rfl
theorem mem_td {xs:Array Keyed} {g m:Nat} {p:Keyed} (h:p∈(xs.toList.take m).drop g):∃ k,∃ hk:k < xs.size,g≤k∧k < m∧p = xs[k]:=by
 obtain ⟨k,hk,e⟩:=List.mem_iff_getElem.mp h
 rw [List.length_drop,List.length_take,Array.length_toList] at hk
 refine ⟨g + k,by omega,by omega,by omega,?_⟩
 rw [← e,List.getElem_drop,List.getElem_take,Array.getElem_toList]
theorem mem_t {xs:Array Keyed} {m:Nat} {p:Keyed} (h:p∈xs.toList.take m):∃ k,∃ hk:k < xs.size,k < m∧p = xs[k]:=by
 obtain ⟨k,hk,e⟩:=List.mem_iff_getElem.mp h
 rw [List.length_take,Array.length_toList] at hk
 refine ⟨k,by omega,by omega,?_⟩
 rw [← e,List.getElem_take,Array.getElem_toList]
structure HI (o:KeyKind) (a b:Array Keyed) (st:SortSt) (t:Nat) (out:Array Keyed) (m n:Nat) (y:SortSt):Prop where
 sm:Sm st y
 mh:MH o a b out m n
 m1:1≤m
 ma:m≤a.size
 n2:2≤n
 nb:n≤b.size
 tt:m + n + t≤a.size + b.size
def HFin (o:KeyKind) (a b:Array Keyed) (st:SortSt) (t:Nat) (c:HS) (y:SortSt):Prop:=(∃ r,c.1 = some r∧Sm st y∧Mg o a b r)∨(c.1 = none∧HI o a b st t c.2.2.2.1 c.2.1 c.2.2.1 y)
def HPost (o:KeyKind) (a b:Array Keyed) (st:SortSt) (t:Nat):ForInStep HS→SortSt→Prop:=fun r y => match r with | .done c => HFin o a b st t c y | .yield c => c.1 = none∧HI o a b st t c.2.2.2.1 c.2.1 c.2.2.1 y
theorem hi3_wp {a b:Array Keyed} {st y:SortSt} {t m n mg ca cb:Nat} {out:Array Keyed} (T:Two o f z a b st) (sm:Sm st y) (mh:MH o a b out m n) (m1:1≤m) (ma:m≤a.size) (n2:2≤n) (nb:n≤b.size) (tt:m + n + t≤a.size + b.size + 1) (h:∀ q∈b.toList.take n,∀ hm:m - 1 < a.size,le2 o q a[m - 1]) :
  wpS (model prog w) A E s (hi3 a b m mg ca cb out n) (HPost o a b st t) y:=by
 refine wpS_bind (el_wp (show m - 1 < a.size by omega) ?_)
 have m2:MH o a b (out.push a[m - 1]) (m - 1) n:=by
  rw [push_rev m1 ma]
  refine mh.mvA T.ua (by omega) fun p hp q hq => ?_
  obtain ⟨k,hk,k1,k2,rfl⟩:=mem_td hp
  obtain rfl:k = m - 1:=by omega
  exact h q hq hk
 rcases Nat.lt_or_ge 0 (m - 1) with h1 | h1
 ·rw [if_neg (by rw [beq_iff_eq]; omega)]
  have hi:HI o a b st t (out.push a[m - 1]) (m - 1) n y:=⟨sm,m2,h1,by omega,n2,nb,by omega⟩
  split
  ·exact wpS_pure (.inr ⟨rfl,hi⟩)
  ·exact wpS_pure ⟨rfl,hi⟩
 ·rw [if_pos (by rw [beq_iff_eq]; omega)]
  exact wpS_pure (.inl ⟨_,rfl,sm,m2.endC T.ua T.ub (.inl (by omega))⟩)
theorem hi2_wp {a b:Array Keyed} {st y:SortSt} {t m n mg ca cb:Nat} {out:Array Keyed} (O:Orc prog w A s f o z) (T:Two o f z a b st) (sm:Sm st y) (mh:MH o a b out m n) (m1:1≤m) (ma:m≤a.size) (n2:2≤n) (nb:n≤b.size) (tt:m + n + t≤a.size + b.size) (h:∀ q∈a.toList.take m,∀ hn:n - 1 < b.size,le2 o q b[n - 1]) :
  wpS (model prog w) A E s (hi2 a b n mg ca cb out m) (HPost o a b st t) y:=by
 refine wpS_bind (el_wp (show n - 1 < b.size by omega) ?_)
 have m2:MH o a b (out.push b[n - 1]) m (n - 1):=by
  rw [push_rev (by omega) nb]
  refine mh.mvB T.ub (by omega) fun p hp q hq => ?_
  obtain ⟨k,hk,k1,k2,rfl⟩:=mem_td hp
  obtain rfl:k = n - 1:=by omega
  exact h q hq hk
 have h0:∀ p∈a.toList,le2 o b[0] p:=fun p hp => T.h0 p hp (by omega)
 rcases Nat.lt_or_ge 1 (n - 1) with h1 | h1
 ·rw [if_neg (by rw [beq_iff_eq]; omega)]
  refine wpS_bind (el_wp (show m - 1 < a.size by omega) (wpS_bind (gal_left O (sm.kd.trans T.kd) T.mb (T.ma _ (mem_at _)) (by omega) (by omega) (fun g k hgk hk _ => T.ub.at_ (by omega) hk) fun g hg less rest => ?_)))
  simp only [Nat.zero_add] at less rest
  show wpS _ _ _ _ (if n - 1 - g > 0 then _ else _) _ _
  have below:∀ q∈b.toList.take g,∀ hm:m - 1 < a.size,le2 o q a[m - 1]:=fun q hq hm => by
   obtain ⟨k,hk,k1,rfl⟩:=mem_t hq
   exact KeyOrd.kle_of_klt (less k hk k1)
  rcases Nat.lt_or_ge g (n - 1) with h2 | h2
  ·rw [if_pos (by omega)]
   have m3:MH o a b (out.push b[n - 1] ++ (b.extract g (n - 1)).reverse) m g:=m2.mvB T.ub (by omega) fun p hp q hq => by
    obtain ⟨k,hk,k1,k2,rfl⟩:=mem_td hp
    obtain ⟨k',hk',k3,rfl⟩:=mem_t hq
    exact le2_trans (T.ua.at_ (by omega) (show m - 1 < a.size by omega)) (rest k hk k1 (by omega))
   rcases Nat.lt_or_ge 1 g with h3 | h3
   ·rw [if_neg (by rw [beq_iff_eq]; omega),if_neg (by rw [beq_iff_eq]; omega)]
    exact hi3_wp T sm m3 m1 ma h3 (by omega) (by omega) below
   ·rcases Nat.lt_or_ge 0 g with h4 | h4
    ·rw [if_pos (by rw [beq_iff_eq]; omega)]
     exact wpS_pure (.inl ⟨_,rfl,sm,m3.endD T.ua (by omega) (by omega) h0⟩)
    ·rw [if_neg (by rw [beq_iff_eq]; omega),if_pos (by rw [beq_iff_eq]; omega)]
     exact wpS_pure (.inl ⟨_,rfl,sm,m3.endC T.ua T.ub (.inr (by omega))⟩)
  ·rw [if_neg (by omega)]
   obtain rfl:g = n - 1:=by omega
   exact hi3_wp T sm m2 m1 ma h1 (by omega) (by omega) below
 ·rw [if_pos (by rw [beq_iff_eq]; omega)]
  exact wpS_pure (.inl ⟨_,rfl,sm,m2.endD T.ua (by omega) (by omega) h0⟩)
theorem hi1_wp {a b:Array Keyed} {st y:SortSt} {t m n mg ca cb:Nat} {out:Array Keyed} (O:Orc prog w A s f o z) (T:Two o f z a b st) (hi:HI o a b st t out m n y) :
  wpS (model prog w) A E s (hi1 a b out m n ca cb mg) (HPost o a b st t) y:=by
 obtain ⟨sm0,mh,m1,ma,n2,nb,tt⟩:=hi
 refine wpS_bind (sMin_wp fun y' s' => ?_)
 have sm:=sm0.trans s'
 refine wpS_bind (el_wp (show n - 1 < b.size by omega) (wpS_bind (gal_right O (sm.kd.trans T.kd) T.ma (T.mb _ (mem_at _)) (by omega) (by omega) (fun g k hgk hk _ => T.ua.at_ (by omega) hk) fun g hg less rest => ?_)))
 simp only [Nat.zero_add] at less rest
 show wpS _ _ _ _ (if m - g > 0 then _ else _) _ _
 have below:∀ q∈a.toList.take g,∀ hn:n - 1 < b.size,le2 o q b[n - 1]:=fun q hq hn => by
  obtain ⟨k,hk,k1,rfl⟩:=mem_t hq
  exact less k hk k1
 rcases Nat.lt_or_ge g m with h2 | h2
 ·rw [if_pos (by omega)]
  have m2:MH o a b (out ++ (a.extract g m).reverse) g n:=mh.mvA T.ua (by omega) fun p hp q hq => by
   obtain ⟨k,hk,k1,k2,rfl⟩:=mem_td hp
   obtain ⟨k',hk',k3,rfl⟩:=mem_t hq
   exact le2_trans (T.ub.at_ (by omega) (show n - 1 < b.size by omega)) (KeyOrd.kle_of_klt (rest k hk k1 (by omega)))
  rcases Nat.lt_or_ge 0 g with h3 | h3
  ·rw [if_neg (by rw [beq_iff_eq]; omega)]
   exact hi2_wp O T sm m2 h3 (by omega) n2 nb (by omega) below
  ·rw [if_pos (by rw [beq_iff_eq]; omega)]
   exact wpS_pure (.inl ⟨_,rfl,sm,m2.endC T.ua T.ub (.inl (by omega))⟩)
 ·rw [if_neg (by omega)]
  obtain rfl:g = m:=by omega
  exact hi2_wp O T sm mh m1 ma n2 nb tt below
theorem mHi_wp {st:SortSt} {a b:Array Keyed} {Q:Array Keyed→SortSt→Prop} (O:Orc prog w A s f o z) (T:Two o f z a b st) (ha:0 < a.size) (hb:0 < b.size) (q:∀ m y,Sm st y→Mg o a b m→Q m y):wpS (model prog w) A E s (mHi a b) Q st:=by
 rw [mHi_eq]
 have ha1:a.size - 1 < a.size:=by omega
 have h0:∀ p∈a.toList,le2 o b[0] p:=fun p hp => T.h0 p hp hb
 refine wpS_bind (wpS_lift (wpAny_rule ⟨rfl,wpS_bind (el_wp ha1 ?_)⟩))
 have m1:MH o a b #[a[a.size - 1]] (a.size - 1) b.size:=by
  have e:a.toList = a.toList.take (a.size - 1) ++ [a[a.size - 1]]:=by
   have:=(List.take_append_drop (a.size - 1) a.toList).symm
   rw [List.drop_eq_getElem_cons (by simpa using ha1),List.drop_eq_nil_of_le (by simp; omega)] at this
   simpa using this
  have eb:b.toList.take b.size = b.toList:=List.take_of_length_le (by simp)
  refine ⟨?_,List.pairwise_singleton _ _,fun p hp q hq => ?_⟩
  ·rw [eb]
   show ((a.toList.take (a.size - 1) ++ b.toList) ++ [a[a.size - 1]]).Perm _
   conv => rhs; rw [e]
   rw [List.append_assoc,List.append_assoc]
   exact List.Perm.append_left _ List.perm_append_comm
  ·obtain rfl:=List.mem_singleton.mp hq
   rcases List.mem_append.mp hp with hp | hp
   ·obtain ⟨k,hk,k1,rfl⟩:=mem_t hp
    exact T.ua.at_ (by omega) ha1
   ·exact T.hl p (List.mem_of_mem_take hp) ha1
 rcases Nat.lt_or_ge 1 a.size with ha2 | ha2
 rotate_left
 ·rw [if_pos (by rw [beq_iff_eq]; omega)]
  exact wpS_pure (q _ _ (Sm.refl _) (m1.endC T.ua T.ub (.inl (by omega))))
 rw [if_neg (by rw [beq_iff_eq]; omega)]
 rcases Nat.lt_or_ge 1 b.size with hb2 | hb2
 rotate_left
 ·rw [if_pos (by rw [beq_iff_eq]; omega)]
  exact wpS_pure (q _ _ (Sm.refl _) (m1.endD T.ua (by omega) hb h0))
 rw [if_neg (by rw [beq_iff_eq]; omega)]
 refine wpS_bind (wpS_get (wpS_bind (wpS_mono (wpS_forRange (I:=fun x c y => c.1 = none∧HI o a b st (1 + x) c.2.2.2.1 c.2.1 c.2.2.1 y) (Q:=fun c y => ∃ m,c.1 = some m∧Sm st y∧Mg o a b m) (fun x c y _ _ hy => ?_) (fun c y hy => ?_) ⟨rfl,Sm.refl _,m1,by show 1≤a.size - 1; omega,by show a.size - 1≤_; omega,hb2,Nat.le_refl _,by show a.size - 1 + b.size + (1 + 0)≤_; omega⟩) fun c y hy => ?_)))
 ·obtain ⟨c1,m,n,out,mg⟩:=c
  obtain ⟨e1,li⟩:=hy
  refine wpS_bind (wpS_mono (wpS_forRange (I:=fun x' c y => c.1 = none∧HI o a b st (1 + x + x') c.2.2.2.1 c.2.1 c.2.2.1 y) (Q:=fun c y => (∃ m,c.1 = some m∧Sm st y∧Mg o a b m)∨(c.1 = none∧HI o a b st (1 + x + 1) c.2.2.2.1 c.2.1 c.2.2.1 y)) (fun x' c y _ _ hy => ?_) (fun c y hy => ?_) ⟨rfl,li⟩) fun c y hy => ?_)
  ·obtain ⟨c1,m,n,out,ca,cb⟩:=c
   obtain ⟨e1,sm,mh,m1,ma,n2,nb,tt⟩:=hy
   change 1≤m at m1
   change m≤a.size at ma
   change 2≤n at n2
   change n≤b.size at nb
   change m + n + (1 + x + x')≤a.size + b.size at tt
   change MH o a b out m n at mh
   refine wpS_bind (el_wp (show n - 1 < b.size by omega) (wpS_bind (el_wp (show m - 1 < a.size by omega) (wpS_bind (lt_wp O (sm.kd.trans T.kd) (T.mb _ (mem_at _)) (T.ma _ (mem_at _)) ?_)))))
   show wpS _ _ _ _ (if o.blt (kv o (b[n - 1]'(by omega))) (kv o (a[m - 1]'(by omega))) = true then _ else _) _ _
   cases hv:o.blt (kv o (b[n - 1]'(by omega))) (kv o (a[m - 1]'(by omega))) with
   | true =>
    rw [if_pos rfl]
    refine wpS_bind (el_wp (show m - 1 < a.size by omega) ?_)
    have m2:MH o a b (out.push (a[m - 1]'(by omega))) (m - 1) n:=by
     rw [push_rev m1 ma]
     refine mh.mvA T.ua (by omega) fun p hp q hq => ?_
     obtain ⟨k,hk,k1,k2,rfl⟩:=mem_td hp
     obtain rfl:k = m - 1:=by omega
     obtain ⟨g,hg,g1,rfl⟩:=mem_t hq
     exact le2_trans (T.ub.at_ (show g≤n - 1 by omega) (show n - 1 < b.size by omega)) (KeyOrd.kle_of_klt hv)
    show wpS _ _ _ _ (if (m - 1 == 0) = true then _ else _) _ _
    rcases Nat.lt_or_ge 0 (m - 1) with h1 | h1
    ·rw [if_neg (by rw [beq_iff_eq]; omega)]
     have li:∀ t,m - 1 + n + t≤a.size + b.size→HI o a b st t (out.push (a[m - 1]'(by omega))) (m - 1) n y:=fun t ht => ⟨sm,m2,h1,by omega,n2,nb,ht⟩
     show wpS _ _ _ _ (if ca + 1 ≥ mg then _ else _) _ _
     split
     ·exact wpS_pure (.inr ⟨rfl,li _ (by omega)⟩)
     ·exact wpS_pure ⟨rfl,li _ (by omega)⟩
    ·rw [if_pos (by rw [beq_iff_eq]; omega)]
     exact wpS_pure (.inl ⟨_,rfl,sm,m2.endC T.ua T.ub (.inl (by omega))⟩)
   | false =>
    rw [if_neg Bool.false_ne_true]
    refine wpS_bind (el_wp (show n - 1 < b.size by omega) ?_)
    have m2:MH o a b (out.push (b[n - 1]'(by omega))) m (n - 1):=by
     rw [push_rev (show 1≤n by omega) nb]
     refine mh.mvB T.ub (by omega) fun p hp q hq => ?_
     obtain ⟨k,hk,k1,k2,rfl⟩:=mem_td hp
     obtain rfl:k = n - 1:=by omega
     obtain ⟨g,hg,g1,rfl⟩:=mem_t hq
     exact le2_trans (T.ua.at_ (show g≤m - 1 by omega) (show m - 1 < a.size by omega)) hv
    show wpS _ _ _ _ (if (n - 1 == 1) = true then _ else _) _ _
    rcases Nat.lt_or_ge 1 (n - 1) with h1 | h1
    ·rw [if_neg (by rw [beq_iff_eq]; omega)]
     have li:∀ t,m + (n - 1) + t≤a.size + b.size→HI o a b st t (out.push (b[n - 1]'(by omega))) m (n - 1) y:=fun t ht => ⟨sm,m2,m1,ma,h1,by omega,ht⟩
     show wpS _ _ _ _ (if cb + 1 ≥ mg then _ else _) _ _
     split
     ·exact wpS_pure (.inr ⟨rfl,li _ (by omega)⟩)
     ·exact wpS_pure ⟨rfl,li _ (by omega)⟩
    ·rw [if_pos (by rw [beq_iff_eq]; omega)]
     exact wpS_pure (.inl ⟨_,rfl,sm,m2.endD T.ua (by omega) hb h0⟩)
  ·obtain ⟨e1,li⟩:=hy
   exact .inr ⟨e1,li.sm,li.mh,li.m1,li.ma,li.n2,li.nb,Nat.le_trans (by omega) li.tt⟩
  ·obtain ⟨c1,m,n,out,ca,cb⟩:=c
   rcases hy with ⟨m,rfl,sm,mm⟩ | ⟨rfl,li⟩
   ·exact wpS_pure ⟨m,rfl,sm,mm⟩
   ·refine wpS_bind (wpS_lift (wpAny_rule ⟨rfl,wpS_bind (wpS_mono (wpS_forRange (I:=fun x' c y => c.1 = none∧HI o a b st (1 + x + 1) c.2.2.2.1 c.2.1 c.2.2.1 y) (Q:=HFin o a b st (1 + x + 1)) (fun x' c y _ _ hy => ?_) (fun c y hy => .inr hy) ⟨rfl,li⟩) fun c y hy => ?_)⟩))
    ·obtain ⟨c1,m,n,out,mg,ca,cb⟩:=c
     obtain ⟨e1,li⟩:=hy
     show wpS _ _ _ _ (if mg > 1 then hi1 a b out m n ca cb (mg - 1) else hi1 a b out m n ca cb mg) _ _
     change HI o a b st (1 + x + 1) out m n y at li
     split
     ·exact wpS_mono (hi1_wp O T li) fun r y h => by cases r <;> exact h
     ·exact wpS_mono (hi1_wp O T li) fun r y h => by cases r <;> exact h
    ·obtain ⟨c1,m,n,out,mg,ca,cb⟩:=c
     rcases hy with ⟨m,rfl,sm,mm⟩ | ⟨rfl,li⟩
     ·exact wpS_pure ⟨m,rfl,sm,mm⟩
     ·exact wpS_bind (sMin_wp fun y' s' => wpS_pure ⟨rfl,li.sm.trans s',li.mh,li.m1,li.ma,li.n2,li.nb,by have:=li.tt; omega⟩)
 ·obtain ⟨e1,li⟩:=hy
  have h1:=li.m1
  have h2:=li.n2
  have h3:=li.tt
  omega
 ·obtain ⟨c1,m,n,out,mg⟩:=c
  obtain ⟨m,rfl,sm,mm⟩:=hy
  exact wpS_pure (q m y sm mm)
end
end TS
namespace TS
open PySem PyProof.Rows L2
theorem mAt_eq (i:Nat):mergeAt' i = (do
  let t ← get
  let (some (sa,na,pw),some (sb,nb,_)):=((pendingOf t)[i]?,(pendingOf t)[i + 1]?) | unsupported "internal:list.sort.pending"
  set (setPending t (((pendingOf t).setIfInBounds i (sa,na + nb,pw)).eraseIdxIfInBounds (i + 1)))
  let some k ← gal false (← elem' (arrOf t) sb) (arrOf t) sa na 0 | return false
  let (sa,na):=(sa + k,na - k)
  if na == 0 then return true
  let some nb ← gal true (← elem' (arrOf t) (sa + na - 1)) (arrOf t) sb nb (nb - 1) | return false
  if nb == 0 then return true
  let x:=(arrOf t).extract sa sb
  let y:=(arrOf t).extract sb (sb + nb)
  let m ← if na≤nb then mLo x y else mHi x y
  modify fun t => setArr t (m.toList.zipIdx.foldl (fun u (p,j) => u.setIfInBounds (sa + j) p) (arrOf t))
  return (failedOf (← get)).isNone):=rfl
def seg (xs:Array Keyed) (lo n:Nat):List Keyed:=(xs.toList.drop lo).take n
theorem seg_ext {xs:Array Keyed} {lo n:Nat}:(xs.extract lo (lo + n)).toList = seg xs lo n:=by
 rw [Array.toList_extract,List.extract_eq_drop_take,Nat.add_sub_cancel_left]; rfl
theorem seg_split (xs:Array Keyed) (lo k n:Nat) (h:k≤n):seg xs lo n = seg xs lo k ++ seg xs (lo + k) (n - k):=by
 unfold seg
 have:=(List.take_append_drop k ((xs.toList.drop lo).take n)).symm
 rw [List.take_take,Nat.min_eq_left h,List.drop_take,List.drop_drop] at this
 exact this
theorem seg_mem {xs:Array Keyed} {lo n:Nat} {p:Keyed} (h:p∈seg xs lo n):∃ k,∃ hk:lo + k < xs.size,k < n∧p = xs[lo + k]:=mem_tk h
theorem seg_sub {xs:Array Keyed} {lo n:Nat} {p:Keyed} (h:p∈seg xs lo n):p∈xs.toList:=List.mem_of_mem_drop (List.mem_of_mem_take h)
theorem seg_len {xs:Array Keyed} {lo n:Nat} (h:lo + n≤xs.size):(seg xs lo n).length = n:=by
 unfold seg
 rw [List.length_take,List.length_drop,Array.length_toList]; omega
theorem seg_get {xs:Array Keyed} {lo n i:Nat} (h:i < (seg xs lo n).length) (h2:lo + i < xs.size):(seg xs lo n)[i] = xs[lo + i]:=by
 simp only [seg,List.getElem_take,List.getElem_drop,Array.getElem_toList]
section
variable {prog:Program} {w:World} {A:Around} {E:Value→Shared→Prop} {s:Shared} {f:Bool} {z:Array Keyed} {o:KeyKind}
theorem seg_up {xs:Array Keyed} {lo n:Nat} (u:Up o (seg xs lo n)) {i j:Nat} (hij:i≤j) (hj:j < n) (h:lo + j < xs.size):le2 o (xs[lo + i]'(by omega)) xs[lo + j]:=by
 rcases Nat.lt_or_ge i j with hl | hl
 ·have hlen:lo + j < xs.size→j < (seg xs lo n).length:=fun h => by unfold seg; rw [List.length_take,List.length_drop,Array.length_toList]; omega
  have:=(List.pairwise_iff_getElem.mp u) i j (by have:=hlen h; omega) (hlen h) hl
  rw [seg_get _ (by omega),seg_get _ h] at this
  exact this
 ·obtain rfl:i = j:=by omega
  exact KeyOrd.kle_refl _
theorem fold_set:∀ (l:List Keyed) (xs:Array Keyed) (at_ k:Nat),at_ + k + l.length≤xs.size→((l.zipIdx k).foldl (fun (u:Array Keyed) (x:Keyed × Nat) => match x with | (p,j) => u.setIfInBounds (at_ + j) p) xs).toList = xs.toList.take (at_ + k) ++ l ++ xs.toList.drop (at_ + k + l.length)
 | [],xs,at_,k,_ => by
  show xs.toList = _
  rw [List.append_nil,List.length_nil,Nat.add_zero,List.take_append_drop]
 | p :: r,xs,at_,k,h => by
  rw [List.length_cons] at h
  rw [List.zipIdx_cons,List.foldl_cons]
  have e1:(xs.setIfInBounds (at_ + k) p).toList = xs.toList.set (at_ + k) p:=Array.toList_setIfInBounds ..
  have hl:at_ + k < xs.toList.length:=by rw [Array.length_toList]; omega
  have e2:=List.set_eq_take_append_cons_drop (l:=xs.toList) (i:=at_ + k) (a:=p)
  rw [if_pos hl] at e2
  have ih:=fold_set r (xs.setIfInBounds (at_ + k) p) at_ (k + 1) (by rw [Array.size_setIfInBounds]; omega)
  refine ih.trans ?_
  have lt:(xs.toList.take (at_ + k)).length = at_ + k:=by rw [List.length_take]; omega
  have t1:(xs.toList.set (at_ + k) p).take (at_ + (k + 1)) = xs.toList.take (at_ + k) ++ [p]:=by
   rw [e2,List.take_append,lt,show at_ + (k + 1) - (at_ + k) = 1 by omega,List.take_of_length_le (by rw [lt]; omega)]
   rfl
  have t2:(xs.toList.set (at_ + k) p).drop (at_ + (k + 1) + r.length) = xs.toList.drop (at_ + k + (r.length + 1)):=by
   rw [List.drop_set_of_lt (by omega)]
   congr 1; omega
  rw [e1,t1,t2,List.length_cons]
  simp
theorem put_seg {xs ys:Array Keyed} {at_:Nat} {m:List Keyed} (h:at_ + m.length≤xs.size) (e:ys.toList = xs.toList.take at_ ++ m ++ xs.toList.drop (at_ + m.length)) :
  (∀ k n,k + n≤at_→seg ys k n = seg xs k n)∧(∀ k n,at_ + m.length≤k→seg ys k n = seg xs k n)∧seg ys at_ m.length = m:=by
 have lt:(xs.toList.take at_).length = at_:=by rw [List.length_take,Array.length_toList]; omega
 refine ⟨fun k n hk => ?_,fun k n hk => ?_,?_⟩
 ·unfold seg
  rw [e,List.append_assoc,List.drop_append_of_le_length (by rw [lt]; omega),List.take_append_of_le_length (by rw [List.length_drop,lt]; omega),List.drop_take,List.take_take,Nat.min_eq_left (by omega)]
 ·unfold seg
  rw [e,List.drop_append,List.length_append,lt,List.drop_eq_nil_of_le (by rw [List.length_append,lt]; exact hk),List.nil_append,List.drop_drop]
  congr 2; omega
 ·unfold seg
  rw [e,List.append_assoc,List.drop_append,lt,List.drop_eq_nil_of_le (by rw [lt]; omega),List.nil_append,Nat.sub_self,List.drop_zero,List.take_left']
  rfl
structure Gd (f:Bool) (z:Array Keyed) (y:SortSt):Prop where
 pm:(arrOf y).Perm z
 kd:kindOf y = tuples' f
 fl:failedOf y = none
theorem Gd.sz {y:SortSt} (g:Gd f z y):(arrOf y).size = z.size:=g.pm.size_eq
theorem Gd.mem {y:SortSt} (g:Gd f z y):∀ p∈(arrOf y).toList,p∈z.toList:=fun p hp => (Array.perm_iff_toList_perm.mp g.pm).mem_iff.mp hp
theorem pend_merge {l1 l2:List (Nat × Nat × Nat)} {x y v:Nat × Nat × Nat} {ps:Array (Nat × Nat × Nat)} (h:ps.toList = l1 ++ x :: y :: l2):((ps.setIfInBounds l1.length v).eraseIdxIfInBounds (l1.length + 1)).toList = l1 ++ v :: l2:=by
 rw [Array.toList_eraseIdxIfInBounds,Array.toList_setIfInBounds,h]
 induction l1 generalizing ps with
 | nil => rfl
 | cons a r ih => exact congrArg (a :: ·) (ih (ps:=(r ++ x :: y :: l2).toArray) rfl)
theorem pend_at {l1 l2:List (Nat × Nat × Nat)} {x y:Nat × Nat × Nat} {ps:Array (Nat × Nat × Nat)} (h:ps.toList = l1 ++ x :: y :: l2):ps[l1.length]? = some x∧ps[l1.length + 1]? = some y:=by
 rw [← Array.getElem?_toList,← Array.getElem?_toList,h]
 constructor
 ·simp
 ·rw [List.getElem?_append_right (by omega)]; simp
theorem up_merge {a1 a2 b1 b2 m:List Keyed} (ua:Up o (a1 ++ a2)) (ub:Up o (b1 ++ b2)) (um:Up o m) (pm:m.Perm (a2 ++ b1)) (h1:∀ p∈a1,∀ q∈b1 ++ b2,le2 o p q) (h2:∀ p∈a2,∀ q∈b2,le2 o p q):Up o (a1 ++ m ++ b2):=by
 obtain ⟨u1,_,c1⟩:=List.pairwise_append.mp ua
 obtain ⟨_,u2,c2⟩:=List.pairwise_append.mp ub
 refine List.pairwise_append.mpr ⟨List.pairwise_append.mpr ⟨u1,um,fun p hp q hq => ?_⟩,u2,fun p hp q hq => ?_⟩
 ·rcases List.mem_append.mp (pm.mem_iff.mp hq) with hq | hq
  ·exact c1 p hp q hq
  ·exact h1 p hp q (List.mem_append_left _ hq)
 ·rcases List.mem_append.mp hp with hp | hp
  ·exact h1 p hp q (List.mem_append_right _ hq)
  ·rcases List.mem_append.mp (pm.mem_iff.mp hp) with hp | hp
   ·exact h2 p hp q hq
   ·exact c2 p hp q hq
theorem set_wp {v y:SortSt} {Q:PUnit→SortSt→Prop} (h:Q ⟨⟩ v):wpS (model prog w) A E s (set v:StateT SortSt Sem PUnit) Q y:=wpS_modify (f:=fun _ => v) h
theorem mAt_wp {st:SortSt} {l1 l2:List (Nat × Nat × Nat)} {sa na pa sb nb pb:Nat} {Q:Bool→SortSt→Prop} (O:Orc prog w A s f o z) (g:Gd f z st) (hp:(pendingOf st).toList = l1 ++ (sa,na,pa) :: (sb,nb,pb) :: l2) (hsb:sb = sa + na) (n1:1≤na) (n2:1≤nb) (hsz:sb + nb≤z.size) (u1:Up o (seg (arrOf st) sa na)) (u2:Up o (seg (arrOf st) sb nb))
  (q:∀ y,Gd f z y→(pendingOf y).toList = l1 ++ (sa,na + nb,pa) :: l2→Up o (seg (arrOf y) sa (na + nb))→(∀ k n,k + n≤sa→seg (arrOf y) k n = seg (arrOf st) k n)→(∀ k n,sb + nb≤k→seg (arrOf y) k n = seg (arrOf st) k n)→Q true y):wpS (model prog w) A E s (mergeAt' l1.length) Q st:=by
 have gz:=g.sz
 have gm:=g.mem
 generalize hxs:arrOf st = xs at gz gm u1 u2 q
 obtain ⟨p1,p2⟩:=pend_at hp
 rw [mAt_eq]
 refine wpS_bind (wpS_get ?_)
 rw [p1,p2,hxs]
 have hP:=pend_merge (v:=(sa,na + nb,pa)) hp
 show wpS _ _ _ _ ((set (setPending st (((pendingOf st).setIfInBounds l1.length (sa,na + nb,pa)).eraseIdxIfInBounds (l1.length + 1))):StateT SortSt Sem PUnit) >>= _) _ _
 generalize hps:((pendingOf st).setIfInBounds l1.length (sa,na + nb,pa)).eraseIdxIfInBounds (l1.length + 1) = ps at hP
 refine wpS_bind (set_wp ?_)
 have g1:Gd f z (setPending st ps):=⟨g.pm,g.kd,g.fl⟩
 have hsb2:sb < xs.size:=by omega
 have eu:∀ y:SortSt,arrOf y = xs→Up o (seg xs sa (na + nb))→Gd f z y→(pendingOf y).toList = l1 ++ (sa,na + nb,pa) :: l2→Q true y:=fun y ey u gy py => q y gy py (by rw [ey]; exact u) (fun k n _ => by rw [ey]) (fun k n _ => by rw [ey])
 have whole:seg xs sa (na + nb) = seg xs sa na ++ seg xs sb nb:=by
  have:=seg_split xs sa na (na + nb) (by omega)
  rw [this,show na + nb - na = nb by omega,← hsb]
 refine wpS_bind (el_wp hsb2 (wpS_bind (gal_right O g1.kd gm (gm _ (mem_at _)) (by omega) (by omega) (fun i j hij hj hjn => seg_up u1 hij hjn hj) fun k hk less rest => ?_)))
 have b0:∀ q∈seg xs sb nb,le2 o xs[sb] q:=fun q hq => by
  obtain ⟨j,hj,j1,rfl⟩:=seg_mem hq
  exact seg_up u2 (i:=0) (Nat.zero_le _) j1 hj
 have a1b:∀ p∈seg xs sa k,∀ q∈seg xs sb nb,le2 o p q:=fun p hp q hq => by
  obtain ⟨j,hj,j1,rfl⟩:=seg_mem hp
  exact le2_trans (less j hj j1) (b0 q hq)
 have ea:=seg_split xs sa k na hk
 show wpS _ _ _ _ (if (na - k == 0) = true then _ else _) _ _
 rcases Nat.lt_or_ge k na with hkn | hkn
 rotate_left
 ·rw [if_pos (by rw [beq_iff_eq]; omega)]
  obtain rfl:k = na:=by omega
  refine wpS_pure (eu _ hxs ?_ g1 hP)
  rw [whole]
  exact List.pairwise_append.mpr ⟨u1,u2,a1b⟩
 rw [if_neg (by rw [beq_iff_eq]; omega)]
 have hla:sa + k + (na - k) - 1 < xs.size:=by omega
 have eix:sa + k + (na - k) - 1 = sa + (na - 1):=by omega
 refine wpS_bind (el_wp hla (wpS_bind (gal_left O g1.kd gm (gm _ (mem_at _)) (by omega) (by omega) (fun i j hij hj hjn => seg_up u2 hij hjn hj) fun nb' hnb less2 rest2 => ?_)))
 simp only [eix] at less2 rest2
 have eb:=seg_split xs sb nb' nb hnb
 have a2b2:∀ p∈seg xs (sa + k) (na - k),∀ q∈seg xs (sb + nb') (nb - nb'),le2 o p q:=fun p hp q hq => by
  obtain ⟨i,hi,i1,rfl⟩:=seg_mem hp
  obtain ⟨j,hj,j1,rfl⟩:=seg_mem hq
  have h1:=seg_up u1 (i:=k + i) (j:=na - 1) (by omega) (by omega) (by omega)
  have h2:=rest2 (nb' + j) (by omega) (by omega) (by omega)
  have e1:sa + (k + i) = sa + k + i:=by omega
  have e2:sb + (nb' + j) = sb + nb' + j:=by omega
  simp only [e1] at h1
  simp only [e2] at h2
  exact le2_trans h1 h2
 show wpS _ _ _ _ (if (nb' == 0) = true then _ else _) _ _
 rcases Nat.eq_zero_or_pos nb' with h0 | h0
 ·subst h0
  rw [if_pos (by rw [beq_iff_eq])]
  refine wpS_pure (eu _ hxs ?_ g1 hP)
  rw [whole]
  refine List.pairwise_append.mpr ⟨u1,u2,fun p hp q hq => ?_⟩
  rw [ea] at hp
  rcases List.mem_append.mp hp with hp | hp
  ·exact a1b p hp q hq
  ·exact a2b2 p hp q hq
 rw [if_neg (by rw [beq_iff_eq]; omega)]
 have ex:(xs.extract (sa + k) sb).toList = seg xs (sa + k) (na - k):=by
  rw [show sb = sa + k + (na - k) by omega]; exact seg_ext
 have ey:(xs.extract sb (sb + nb')).toList = seg xs sb nb':=seg_ext
 have sx:(xs.extract (sa + k) sb).size = na - k:=by rw [Array.size_extract]; omega
 have sy:(xs.extract sb (sb + nb')).size = nb':=by rw [Array.size_extract]; omega
 have T:Two o f z (xs.extract (sa + k) sb) (xs.extract sb (sb + nb')) (setPending st ps):=by
  refine ⟨g1.kd,fun p hp => ?_,fun p hp => ?_,?_,?_,fun p hp hi => ?_,fun p hp hi => ?_⟩
  ·rw [ex] at hp; exact gm p (seg_sub hp)
  ·rw [ey] at hp; exact gm p (seg_sub hp)
  ·rw [ex]; rw [ea] at u1; exact (List.pairwise_append.mp u1).2.1
  ·rw [ey]; rw [eb] at u2; exact (List.pairwise_append.mp u2).1
  ·rw [ey] at hp
   obtain ⟨j,hj,j1,rfl⟩:=seg_mem hp
   have h:=KeyOrd.kle_of_klt (less2 j hj j1)
   rw [Array.getElem_extract]
   have e1:sa + k + ((xs.extract (sa + k) sb).size - 1) = sa + (na - 1):=by rw [sx]; omega
   simp only [e1]
   exact h
  ·rw [ex] at hp
   obtain ⟨j,hj,j1,rfl⟩:=seg_mem hp
   rw [Array.getElem_extract]
   have h:=KeyOrd.kle_of_klt (rest (k + j) (by omega) (by omega) (by omega))
   have e1:sa + (k + j) = sa + k + j:=by omega
   simp only [e1] at h
   exact h
 have fin:∀ m y,Sm (setPending st ps) y→Mg o (xs.extract (sa + k) sb) (xs.extract sb (sb + nb')) m→wpS (model prog w) A E s (do
   modify fun t => setArr t (m.toList.zipIdx.foldl (fun u (p,j) => u.setIfInBounds (sa + k + j) p) (arrOf t))
   return (failedOf (← get)).isNone) Q y:=fun m y sm mg => by
  have ya:arrOf y = xs:=sm.ar.trans hxs
  have ml:m.toList.length = na - k + nb':=by
   have:=mg.pm.length_eq
   rw [List.length_append,Array.length_toList,Array.length_toList,Array.length_toList,sx,sy] at this
   rw [Array.length_toList]; exact this
  refine wpS_bind (wpS_modify (wpS_bind (wpS_get (wpS_pure ?_))))
  have e:=fold_set m.toList xs (sa + k) 0 (by omega)
  rw [Nat.add_zero] at e
  show Q (failedOf y).isNone (setArr y (m.toList.zipIdx.foldl (fun u (p,j) => u.setIfInBounds (sa + k + j) p) (arrOf y)))
  rw [ya,sm.fl,show failedOf (setPending st ps) = none from g.fl]
  generalize m.toList.zipIdx.foldl (fun (u:Array Keyed) (x:Keyed × Nat) => match x with | (p,j) => u.setIfInBounds (sa + k + j) p) xs = ys at e
  obtain ⟨lo,hi,mid⟩:=put_seg (by omega) e
  have ends:sa + k + m.toList.length = sb + nb':=by omega
  have pmM:m.toList.Perm (seg xs (sa + k) (na - k) ++ seg xs sb nb'):=by rw [← ex,← ey]; exact mg.pm
  refine q (setArr y ys) ⟨?_,sm.kd.trans g1.kd,sm.fl.trans g1.fl⟩ ((congrArg Array.toList sm.pd).trans hP) ?_ (fun k' n hk' => lo k' n (by omega)) (fun k' n hk' => hi k' n (by omega))
  ·show ys.Perm z
   refine Array.Perm.trans (Array.perm_iff_toList_perm.mpr ?_) (hxs▸g.pm)
   rw [e]
   have e3:xs.toList = xs.toList.take (sa + k) ++ (seg xs (sa + k) (na - k) ++ seg xs sb nb') ++ xs.toList.drop (sa + k + m.toList.length):=by
    have h1:=(List.take_append_drop (sa + k) xs.toList).symm
    have h2:=(List.take_append_drop m.toList.length (xs.toList.drop (sa + k))).symm
    rw [List.drop_drop] at h2
    have h3:(xs.toList.drop (sa + k)).take m.toList.length = seg xs (sa + k) (na - k) ++ seg xs sb nb':=by
     have:=seg_split xs (sa + k) (na - k) (na - k + nb') (by omega)
     rw [show na - k + nb' - (na - k) = nb' by omega,show sa + k + (na - k) = sb by omega] at this
     rw [ml]; exact this
    rw [h3] at h2
    rw [h2,← List.append_assoc] at h1
    exact h1
   conv => rhs; rw [e3]
   exact List.Perm.append_right _ (List.Perm.append_left _ pmM)
  ·show Up o (seg ys sa (na + nb))
   have s1:=seg_split ys sa k (na + nb) (by omega)
   have s2:=seg_split ys (sa + k) m.toList.length (na + nb - k) (by omega)
   rw [s1,s2,mid,lo sa k (by omega),hi _ _ (by omega),ends,show na + nb - k - m.toList.length = nb - nb' by omega,← List.append_assoc]
   refine up_merge (a2:=seg xs (sa + k) (na - k)) (b1:=seg xs sb nb') (by rw [← ea]; exact u1) (by rw [← eb]; exact u2) mg.up pmM (fun p hp q hq => a1b p hp q (by rw [eb]; exact hq)) a2b2
 show wpS _ _ _ _ (if na - k≤nb' then mLo (xs.extract (sa + k) sb) (xs.extract sb (sb + nb')) >>= _ else mHi (xs.extract (sa + k) sb) (xs.extract sb (sb + nb')) >>= _) _ _
 split
 ·exact wpS_bind (mLo_wp O T (by omega) (by omega) fin)
 ·exact wpS_bind (mHi_wp O T (by omega) (by omega) fin)
end
end TS
namespace TS
open PySem PyProof.Rows L2
def cUp (lo a n:Nat):StateT SortSt Sem AscSt :=
 forIn [a:n] ((none,a):AscSt) fun _ c => do
  let some r ← ltAt' (lo + c.2) (lo + c.2 - 1) | pure (.done (some none,c.2))
  if r then pure (.done (none,c.2)) else pure (.yield (none,c.2 + 1))
def cDown (lo a n:Nat):StateT SortSt Sem DescSt :=
 forIn [a:n] ((none,a,0):DescSt) fun _ c => do
  let some r ← ltAt' (lo + c.2.1) (lo + c.2.1 - 1) | pure (.done (some none,c.2.1,c.2.2))
  if r then
   if c.2.2 > 0 then
    reverseSlice' (lo + c.2.1 - (c.2.2 + 1)) (lo + c.2.1)
    pure (.yield (none,c.2.1 + 1,0))
   else pure (.yield (none,c.2.1 + 1,0))
  else
   let some r ← ltAt' (lo + c.2.1 - 1) (lo + c.2.1) | pure (.done (some none,c.2.1,c.2.2))
   if r then pure (.done (none,c.2.1,c.2.2)) else pure (.yield (none,c.2.1 + 1,c.2.2 + 1))
section
variable {prog:Program} {w:World} {A:Around} {E:Value→Shared→Prop} {s:Shared} {f:Bool} {z:Array Keyed} {o:KeyKind}
theorem lt_g {st:SortSt} {i j:Nat} {Q:Option Bool→SortSt→Prop} (O:Orc prog w A s f o z) (g:Gd f z st) (hi:i < z.size) (hj:j < z.size) (h:Q (some (o.blt (KK o (arrOf st) i) (KK o (arrOf st) j))) st):wpS (model prog w) A E s (ltAt' i j) Q st:=by
 have kk:∀ {k} (hk:k < (arrOf st).size),KK o (arrOf st) k = kv o (arrOf st)[k]:=fun {k} hk => by unfold KK; rw [getElem?_pos (arrOf st) k hk]; rfl
 have h1:i < (arrOf st).size:=g.sz▸hi
 have h2:j < (arrOf st).size:=g.sz▸hj
 rw [kk h1,kk h2] at h
 rw [ltAt'_eq]
 exact wpS_bind (wpS_get (wpS_bind (el_wp h1 (wpS_bind (el_wp h2 (lt_wp O g.kd (g.mem _ (mem_at h1)) (g.mem _ (mem_at h2)) h))))))
structure Rn (f:Bool) (z:Array Keyed) (x:SortSt) (lo:Nat) (y:SortSt):Prop where
 gd:Gd f z y
 pd:pendingOf y = pendingOf x
 low:∀ k,k < lo→(arrOf y)[k]? = (arrOf x)[k]?
theorem Rn.refl {x:SortSt} (g:Gd f z x) (lo:Nat):Rn f z x lo x:=⟨g,rfl,fun _ _ => rfl⟩
theorem Rn.mir {x y:SortSt} {lo i j:Nat} (r:Rn f z x lo y) (hi:lo≤i) (hj:j≤z.size):Rn f z x lo (setArr y (mirror (arrOf y) i j ((j - i) / 2))):=by
 refine ⟨⟨(mirror_perm _ _ _ _).trans r.gd.pm,r.gd.kd,r.gd.fl⟩,r.pd,fun k hk => ?_⟩
 show (mirror (arrOf y) i j ((j - i) / 2))[k]? = _
 rw [getElem?_mirror_all (by rw [r.gd.sz]; exact hj),if_neg (by omega)]
 exact r.low k hk
def SU (o:KeyKind) (xs:Array Keyed) (lo m:Nat):Prop:=∀ i j,i≤j→j < m→o.kle (KK o xs (lo + i)) (KK o xs (lo + j))
def SD (o:KeyKind) (xs:Array Keyed) (lo m:Nat):Prop:=∀ i j,i≤j→j < m→o.kle (KK o xs (lo + j)) (KK o xs (lo + i))
theorem SU.more {xs:Array Keyed} {lo i:Nat} (u:SU o xs lo i) (h:1≤i) (hl:o.kle (KK o xs (lo + (i - 1))) (KK o xs (lo + i))):SU o xs lo (i + 1):=fun g k hgk hk => by
 rcases Nat.lt_or_ge k i with hki | hki
 ·exact u g k hgk hki
 ·obtain rfl:k = i:=by omega
  rcases Nat.lt_or_ge g k with hg | hg
  ·exact KeyOrd.kle_trans (u g (k - 1) (by omega) (by omega)) hl
  ·obtain rfl:g = k:=by omega
   exact KeyOrd.kle_refl _
theorem SD.more {xs ys:Array Keyed} {lo i:Nat} (hk:∀ k,KK o ys k = KK o xs k) (u:SD o xs lo i) (h:1≤i) (hl:o.kle (KK o xs (lo + i)) (KK o xs (lo + (i - 1)))):SD o ys lo (i + 1):=fun g k hgk hk2 => by
 rw [hk,hk]
 rcases Nat.lt_or_ge k i with hki | hki
 ·exact u g k hgk hki
 ·obtain rfl:k = i:=by omega
  rcases Nat.lt_or_ge g k with hg | hg
  ·exact KeyOrd.kle_trans hl (u g (k - 1) (by omega) (by omega))
  ·obtain rfl:g = k:=by omega
   exact KeyOrd.kle_refl _
theorem cUp_wp {x st:SortSt} {lo a n:Nat} {Q:AscSt→SortSt→Prop} (O:Orc prog w A s f o z) (hn:lo + n≤z.size) (ha:1≤a) (han:a≤n) (r:Rn f z x lo st) (u:SU o (arrOf st) lo a)
  (q:∀ m,a≤m→m≤n→SU o (arrOf st) lo m→(m = n∨o.klt (KK o (arrOf st) (lo + m)) (KK o (arrOf st) (lo + (m - 1))))→Q (none,m) st):wpS (model prog w) A E s (cUp lo a n) Q st:=by
 refine wpS_forRange (I:=fun i c y => y = st∧c = (none,i)∧SU o (arrOf st) lo i) (fun i c y h1 h2 hy => ?_) (fun c y hy => ?_) ⟨rfl,rfl,u⟩
 ·obtain ⟨rfl,rfl,up⟩:=hy
  refine wpS_bind (lt_g O r.gd (show lo + i < _ by omega) (show lo + i - 1 < _ by omega) ?_)
  show wpS _ _ _ _ (if o.blt (KK o (arrOf y) (lo + i)) (KK o (arrOf y) (lo + i - 1)) = true then _ else _) _ _
  rw [show lo + i - 1 = lo + (i - 1) by omega]
  cases hl:o.blt (KK o (arrOf y) (lo + i)) (KK o (arrOf y) (lo + (i - 1))) with
  | true => rw [if_pos rfl]; exact wpS_pure (q i h1 (by omega) up (.inr hl))
  | false => rw [if_neg Bool.false_ne_true]; exact wpS_pure ⟨rfl,rfl,up.more (by omega) hl⟩
 ·obtain ⟨rfl,rfl,up⟩:=hy
  have e:max a n = n:=by omega
  rw [e] at up ⊢
  exact q n han (Nat.le_refl _) up (.inl rfl)
def Goes (k:AscSt→StateT SortSt Sem (Option Nat)):Prop:=∀ m,k (none,m) = pure (some m)
theorem cEnd_wp {k:AscSt→StateT SortSt Sem (Option Nat)} (hk:Goes k) {x st:SortSt} {lo a n:Nat} {Q:Option Nat→SortSt→Prop} (O:Orc prog w A s f o z) (hn:lo + n≤z.size) (ha:1≤a) (han:a≤n) (r:Rn f z x lo st) (d:SD o (arrOf st) lo a)
  (q:∀ m y,Rn f z x lo y→1≤m→m≤n→SU o (arrOf y) lo m→Q (some m) y):wpS (model prog w) A E s (reverseSlice' lo (lo + a) >>= fun _ => cUp lo a n >>= k) Q st:=by
 have hz:lo + a≤(arrOf st).size:=by rw [r.gd.sz]; omega
 have r2:=r.mir (i:=lo) (j:=lo + a) (Nat.le_refl _) (by omega)
 refine wpS_bind (wpS_reverse (wpS_bind (cUp_wp O hn ha han r2 (fun i j hij hj => ?_) fun m h1 h2 up _ => by rw [hk]; exact wpS_pure (q m _ r2 (by omega) h2 up))))
 show o.kle (KK o (mirror (arrOf st) lo (lo + a) _) (lo + i)) (KK o (mirror (arrOf st) lo (lo + a) _) (lo + j))
 rw [KK_mirror hz,KK_mirror hz,if_pos ⟨by omega,by omega⟩,if_pos ⟨by omega,by omega⟩]
 have:=d (a - 1 - j) (a - 1 - i) (by omega) (by omega)
 rw [show lo + (lo + a) - 1 - (lo + i) = lo + (a - 1 - i) by omega,show lo + (lo + a) - 1 - (lo + j) = lo + (a - 1 - j) by omega]
 exact this
theorem cDown_wp {x st:SortSt} {lo a n:Nat} {Q:DescSt→SortSt→Prop} (O:Orc prog w A s f o z) (hn:lo + n≤z.size) (ha:1≤a) (han:a≤n) (r:Rn f z x lo st) (d:SD o (arrOf st) lo a)
  (q:∀ m e y,Rn f z x lo y→a≤m→m≤n→SD o (arrOf y) lo m→e + 1≤m→(∀ i,lo + m - (e + 1)≤i→i < lo + m→KK o (arrOf y) i = KK o (arrOf y) (lo + m - 1))→Q (none,m,e) y):wpS (model prog w) A E s (cDown lo a n) Q st:=by
 refine wpS_forRange (I:=fun i c y => ∃ e,c = (none,i,e)∧Rn f z x lo y∧SD o (arrOf y) lo i∧e + 1≤i∧∀ k,lo + i - (e + 1)≤k→k < lo + i→KK o (arrOf y) k = KK o (arrOf y) (lo + i - 1)) (fun i c y h1 h2 hy => ?_) (fun c y hy => ?_) ⟨0,rfl,r,d,by omega,fun k p1 p2 => congrArg _ (by omega)⟩
 ·obtain ⟨e,rfl,r2,dn,he,eqs⟩:=hy
  have hz:lo + i≤(arrOf y).size:=by rw [r2.gd.sz]; omega
  refine wpS_bind (lt_g O r2.gd (show lo + i < _ by omega) (show lo + i - 1 < _ by omega) ?_)
  show wpS _ _ _ _ (if o.blt (KK o (arrOf y) (lo + i)) (KK o (arrOf y) (lo + i - 1)) = true then _ else _) _ _
  have ei:lo + i - 1 = lo + (i - 1):=by omega
  cases hl:o.blt (KK o (arrOf y) (lo + i)) (KK o (arrOf y) (lo + i - 1)) with
  | true =>
   rw [if_pos rfl]
   have hle:o.kle (KK o (arrOf y) (lo + i)) (KK o (arrOf y) (lo + (i - 1))):=by rw [← ei]; exact KeyOrd.kle_of_klt (O:=o.toKeyOrd) hl
   show wpS _ _ _ _ (if e > 0 then _ else _) _ _
   by_cases h0:e > 0
   ·rw [if_pos h0]
    exact wpS_bind (wpS_reverse (wpS_pure ⟨0,rfl,r2.mir (show lo≤lo + i - (e + 1) by omega) (show lo + i≤_ by omega),SD.more (KK_mirror_equal hz eqs) dn (by omega) hle,by omega,fun k p1 p2 => congrArg _ (by omega)⟩))
   ·rw [if_neg h0]
    exact wpS_pure ⟨0,rfl,r2,SD.more (fun _ => rfl) dn (by omega) hle,by omega,fun k p1 p2 => congrArg _ (by omega)⟩
  | false =>
   rw [if_neg Bool.false_ne_true]
   refine wpS_bind (lt_g O r2.gd (show lo + i - 1 < _ by omega) (show lo + i < _ by omega) ?_)
   show wpS _ _ _ _ (if o.blt (KK o (arrOf y) (lo + i - 1)) (KK o (arrOf y) (lo + i)) = true then _ else _) _ _
   cases hg:o.blt (KK o (arrOf y) (lo + i - 1)) (KK o (arrOf y) (lo + i)) with
   | true => rw [if_pos rfl]; exact wpS_pure (q i e y r2 h1 (by omega) dn he eqs)
   | false =>
    rw [if_neg Bool.false_ne_true]
    have same:KK o (arrOf y) (lo + i) = KK o (arrOf y) (lo + i - 1):=o.total _ _ hl hg
    refine wpS_pure ⟨e + 1,rfl,r2,SD.more (fun _ => rfl) dn (by omega) (by rw [← ei]; exact hg),by omega,fun k p1 p2 => ?_⟩
    rw [show lo + (i + 1) - 1 = lo + i by omega]
    rcases Nat.lt_or_ge k (lo + i) with hk | hk
    ·rw [same]; exact eqs k (by omega) hk
    ·exact congrArg _ (by omega)
 ·obtain ⟨e,rfl,r2,dn,he,eqs⟩:=hy
  have em:max a n = n:=by omega
  rw [em] at dn he eqs ⊢
  exact q n e y r2 han (Nat.le_refl _) dn he eqs
def Goes2 (lo n:Nat) (k:DescSt→StateT SortSt Sem (Option Nat)):Prop:=∃ k1,Goes k1∧∀ m e,k (none,m,e) = if e > 0 then reverseSlice' (lo + m - (e + 1)) (lo + m) >>= fun _ => reverseSlice' lo (lo + m) >>= fun _ => cUp lo m n >>= k1 else reverseSlice' lo (lo + m) >>= fun _ => cUp lo m n >>= k1
theorem cPart_wp {k2:DescSt→StateT SortSt Sem (Option Nat)} {x st:SortSt} {lo a n:Nat} {Q:Option Nat→SortSt→Prop} (hk:Goes2 lo n k2) (O:Orc prog w A s f o z) (hn:lo + n≤z.size) (han:a + 1≤n) (r:Rn f z x lo st) (d:SD o (arrOf st) lo (a + 1))
  (q:∀ m y,Rn f z x lo y→1≤m→m≤n→SU o (arrOf y) lo m→Q (some m) y):wpS (model prog w) A E s (liftM (rule "list.sort.descending-run") >>= fun _ => cDown lo (a + 1) n >>= k2) Q st:=by
 obtain ⟨k1,hk1,hk2⟩:=hk
 refine wpS_bind (wpS_lift (wpAny_rule ⟨rfl,wpS_bind (cDown_wp O hn (by omega) han r d fun m e y r2 h1 h2 dn he eqs => ?_)⟩))
 have hz:lo + m≤(arrOf y).size:=by rw [r2.gd.sz]; omega
 rw [hk2]
 by_cases h0:e > 0
 ·rw [if_pos h0]
  refine wpS_bind (wpS_reverse (cEnd_wp hk1 (a:=m) O hn (by omega) h2 (r2.mir (show lo≤lo + m - (e + 1) by omega) (show lo + m≤_ by omega)) (fun i j hij hj => ?_) q))
  have ek:=KK_mirror_equal hz eqs
  show o.kle (KK o (mirror (arrOf y) (lo + m - (e + 1)) (lo + m) _) (lo + j)) (KK o (mirror (arrOf y) (lo + m - (e + 1)) (lo + m) _) (lo + i))
  rw [ek,ek]
  exact dn i j hij hj
 ·rw [if_neg h0]
  exact cEnd_wp hk1 (a:=m) O hn (by omega) h2 r2 dn q
theorem cnt_wp {st:SortSt} {lo n:Nat} {Q:Option Nat→SortSt→Prop} (O:Orc prog w A s f o z) (hn:lo + n≤z.size) (h1:1≤n) (g:Gd f z st)
  (q:∀ m y,Rn f z st lo y→1≤m→m≤n→SU o (arrOf y) lo m→Q (some m) y):wpS (model prog w) A E s (countRun' lo n) Q st:=by
 rw [countRun'_eq]
 show wpS _ _ _ _ (cUp lo 1 n >>= _) _ _
 have r:=Rn.refl g lo
 refine wpS_bind (cUp_wp O hn (Nat.le_refl 1) h1 r (fun i j hij hj => ?_) fun m m1 m2 up last => ?_)
 ·obtain rfl:i = j:=by omega
  exact KeyOrd.kle_refl _
 show wpS _ _ _ _ (if (m == n) = true then _ else _) _ _
 rcases Nat.lt_or_ge m n with hmn | hmn
 ·rw [if_neg (by rw [beq_iff_eq]; omega)]
  have hl:=last.resolve_left (by omega)
  show wpS _ _ _ _ (if m > 1 then _ else _) _ _
  rcases Nat.lt_or_ge 1 m with hm | hm
  ·rw [if_pos hm]
   refine wpS_bind (lt_g O g (show lo < _ by omega) (show lo + m - 1 < _ by omega) ?_)
   show wpS _ _ _ _ (if o.blt (KK o (arrOf st) lo) (KK o (arrOf st) (lo + m - 1)) = true then _ else _) _ _
   cases hr:o.blt (KK o (arrOf st) lo) (KK o (arrOf st) (lo + m - 1)) with
   | true => rw [if_pos rfl]; exact wpS_pure (q m st r m1 m2 up)
   | false =>
    rw [if_neg Bool.false_ne_true]
    have hz:lo + m≤(arrOf st).size:=by rw [g.sz]; omega
    have eqs:∀ k,lo≤k→k < lo + m→KK o (arrOf st) k = KK o (arrOf st) (lo + m - 1):=fun k k1 k2 => by
     have a1:=up (k - lo) (m - 1) (by omega) (by omega)
     have a2:=up 0 (k - lo) (by omega) (by omega)
     rw [show lo + (k - lo) = k by omega,show lo + (m - 1) = lo + m - 1 by omega] at a1
     rw [show lo + (k - lo) = k by omega,Nat.add_zero] at a2
     exact KeyOrd.kle_antisymm a1 (KeyOrd.kle_trans hr a2)
    have ek:=KK_mirror_equal hz eqs
    refine wpS_bind (wpS_reverse ?_)
    show wpS _ _ _ _ (liftM (rule "list.sort.descending-run") >>= fun _ => cDown lo (m + 1) n >>= _) _ _
    refine cPart_wp ⟨_,fun _ => rfl,fun _ _ => rfl⟩ O hn (by omega) (r.mir (Nat.le_refl _) (by omega)) (SD.more (xs:=arrOf st) ek (fun i j hij hj => ?_) m1 (KeyOrd.kle_of_klt hl)) q
    rw [eqs (lo + i) (by omega) (by omega),eqs (lo + j) (by omega) (by omega)]
    exact KeyOrd.kle_refl _
  ·rw [if_neg (by omega)]
   obtain rfl:m = 1:=by omega
   show wpS _ _ _ _ (liftM (rule "list.sort.descending-run") >>= fun _ => cDown lo (1 + 1) n >>= _) _ _
   refine cPart_wp ⟨_,fun _ => rfl,fun _ _ => rfl⟩ O hn (by omega) r (SD.more (xs:=arrOf st) (fun _ => rfl) (fun i j hij hj => ?_) m1 (KeyOrd.kle_of_klt hl)) q
   obtain rfl:i = j:=by omega
   exact KeyOrd.kle_refl _
 ·rw [if_pos (by rw [beq_iff_eq]; omega)]
  exact wpS_pure (q m st r m1 m2 up)
theorem bin_wp {x st:SortSt} {lo n a:Nat} {Q:Bool→SortSt→Prop} (O:Orc prog w A s f o z) (hn:lo + n≤z.size) (han:a≤n) (r:Rn f z x lo st) (u:SU o (arrOf st) lo a)
  (q:∀ y,Rn f z x lo y→SU o (arrOf y) lo n→Q true y):wpS (model prog w) A E s (binarySort' lo n a) Q st:=by
 rw [binarySort'_eq]
 refine wpS_bind (wpS_mono (wpS_forRange (I:=fun k c y => c = (none,())∧Rn f z x lo y∧SU o (arrOf y) lo (min k n)) (Q:=fun c y => c = (none,())∧Rn f z x lo y∧SU o (arrOf y) lo n) (fun k c y k1 k2 hy => ?_) (fun c y hy => ?_) ⟨rfl,r,fun i j hij hj => ?_⟩) fun c y hy => ?_)
 ·obtain ⟨rfl,b2,up⟩:=hy
  rw [Nat.min_eq_left (by omega)] at up
  have hk:lo + k < z.size:=by omega
  refine wpS_bind (wpS_mono (wpS_forRange (I:=fun i c y' => y' = y∧∃ l r,c = (none,l,r)∧l≤r∧r≤k∧r - l≤k - i∧(∀ g,g < l→o.kle (KK o (arrOf y) (lo + g)) (KK o (arrOf y) (lo + k)))∧∀ g,r≤g→g < k→o.klt (KK o (arrOf y) (lo + k)) (KK o (arrOf y) (lo + g)))
   (Q:=fun c y' => y' = y∧∃ l r,c = (none,l,r)∧l≤k∧(∀ g,g < l→o.kle (KK o (arrOf y) (lo + g)) (KK o (arrOf y) (lo + k)))∧∀ g,l≤g→g < k→o.klt (KK o (arrOf y) (lo + k)) (KK o (arrOf y) (lo + g))) (fun i c y' i1 i2 hy => ?_) (fun c y' hy => ?_) ⟨rfl,0,k,rfl,by omega,by omega,by omega,fun g hg => absurd hg (by omega),fun g p1 p2 => absurd p1 (by omega)⟩) fun c y' hy => ?_)
  ·obtain ⟨rfl,l,r',rfl,lr,rk,fu,lw,hw⟩:=hy
   show wpS _ _ _ _ (if l ≥ r' then _ else _) _ _
   rcases Nat.lt_or_ge l r' with hlr | hlr
   ·rw [if_neg (by omega)]
    refine wpS_bind (lt_g O b2.gd hk (show lo + (l + r') / 2 < _ by omega) ?_)
    show wpS _ _ _ _ (if o.blt (KK o (arrOf y') (lo + k)) (KK o (arrOf y') (lo + (l + r') / 2)) = true then _ else _) _ _
    cases hl:o.blt (KK o (arrOf y') (lo + k)) (KK o (arrOf y') (lo + (l + r') / 2)) with
    | true => rw [if_pos rfl]; exact wpS_pure ⟨rfl,l,(l + r') / 2,rfl,by omega,by omega,by omega,lw,fun g p1 p2 => KeyOrd.klt_of_klt_of_kle hl (up _ _ p1 p2)⟩
    | false => rw [if_neg Bool.false_ne_true]; exact wpS_pure ⟨rfl,(l + r') / 2 + 1,r',rfl,by omega,by omega,by omega,fun g p1 => KeyOrd.kle_trans (up g ((l + r') / 2) (by omega) (by omega)) hl,hw⟩
   ·rw [if_pos hlr]
    obtain rfl:l = r':=by omega
    exact wpS_pure ⟨rfl,l,l,rfl,rk,lw,hw⟩
  ·obtain ⟨rfl,l,r',rfl,lr,rk,fu,lw,hw⟩:=hy
   obtain rfl:l = r':=by omega
   exact ⟨rfl,l,l,rfl,rk,lw,hw⟩
  ·obtain ⟨rfl,l,r',rfl,lk,lw,hw⟩:=hy
   show wpS _ _ _ _ (moveDown' (lo + k) (lo + l) >>= fun _ => pure (ForInStep.yield (none,()))) _ _
   rw [moveDown'_eq]
   have hz:lo + k < (arrOf y').size:=by rw [b2.gd.sz]; exact hk
   refine wpS_bind (wpS_modify (wpS_pure ⟨rfl,⟨⟨(bubble_perm _ _ _).trans b2.gd.pm,b2.gd.kd,b2.gd.fl⟩,b2.pd,fun g hg => ?_⟩,fun i j hij hj => ?_⟩))
   ·show (bubble (arrOf y') (lo + k) (lo + k - (lo + l)))[g]? = _
    rw [getElem?_bubble hz _ (by omega),if_neg (by omega),if_neg (by omega)]
    exact b2.low g hg
   ·have kb:=fun g => KK_bubble (κ:=o) hz (show lo + k - (lo + l)≤lo + k by omega) g
    rw [show lo + k - (lo + k - (lo + l)) = lo + l by omega] at kb
    show o.kle (KK o (bubble (arrOf y') (lo + k) (lo + k - (lo + l))) (lo + i)) (KK o (bubble (arrOf y') (lo + k) (lo + k - (lo + l))) (lo + j))
    rw [kb,kb]
    rw [Nat.min_eq_left (by omega)] at hj
    have dec:∀ g,lo + g - 1 = lo + (g - 1)∨g = 0:=fun g => by omega
    split
    ·split
     ·exact KeyOrd.kle_refl _
     ·split
      ·rw [show lo + j - 1 = lo + (j - 1) by omega]
       exact KeyOrd.kle_of_klt (hw _ (by omega) (by omega))
      ·exact absurd hij (by omega)
    ·split
     ·split
      ·exact absurd hij (by omega)
      ·split
       ·rw [show lo + i - 1 = lo + (i - 1) by omega,show lo + j - 1 = lo + (j - 1) by omega]
        exact up _ _ (by omega) (by omega)
       ·exact absurd hij (by omega)
     ·split
      ·exact lw _ (by omega)
      ·split
       ·rw [show lo + j - 1 = lo + (j - 1) by omega]
        exact up _ _ (by omega) (by omega)
       ·exact up _ _ (by omega) (by omega)
 ·obtain ⟨rfl,b2,up⟩:=hy
  rw [Nat.min_eq_right (by omega)] at up
  exact ⟨rfl,b2,up⟩
 ·rcases Nat.eq_zero_or_pos a with h0 | h0
  ·obtain rfl:i = j:=by omega
   exact KeyOrd.kle_refl _
  ·exact u i j hij (by omega)
 ·obtain ⟨rfl,b2,up⟩:=hy
  exact wpS_pure (q y b2 up)
end
end TS
namespace TS
open PySem PyProof.Rows L2
def Cov (o:KeyKind) (xs:Array Keyed):List (Nat × Nat)→Nat→Nat→Prop
 | [],lo,hi => lo = hi
 | (a,n) :: r,lo,hi => a = lo∧1≤n∧Up o (seg xs lo n)∧Cov o xs r (lo + n) hi
def pr (t:Nat × Nat × Nat):Nat × Nat:=(t.1,t.2.1)
def runs (y:SortSt):List (Nat × Nat):=(pendingOf y).toList.map pr
section
variable {prog:Program} {w:World} {A:Around} {E:Value→Shared→Prop} {s:Shared} {f:Bool} {z:Array Keyed} {o:KeyKind}
theorem Cov.le {xs:Array Keyed}:∀ {l:List (Nat × Nat)} {lo hi:Nat},Cov o xs l lo hi→lo + l.length≤hi
 | [],lo,hi,h => Nat.le_of_eq h
 | (a,n) :: r,lo,hi,⟨_,h1,_,h2⟩ => by
  have:=h2.le
  rw [List.length_cons]; omega
theorem Cov.congr {xs ys:Array Keyed}:∀ {l:List (Nat × Nat)} {lo hi:Nat},Cov o xs l lo hi→(∀ k n,lo≤k→k + n≤hi→seg ys k n = seg xs k n)→Cov o ys l lo hi
 | [],lo,hi,h,_ => h
 | (a,n) :: r,lo,hi,⟨h0,h1,u,h2⟩,e => by
  have:=h2.le
  exact ⟨h0,h1,by rw [e lo n (Nat.le_refl _) (by omega)]; exact u,h2.congr fun k m hk hm => e k m (by omega) hm⟩
theorem Cov.app {xs:Array Keyed}:∀ {l1 l2:List (Nat × Nat)} {lo hi:Nat},Cov o xs (l1 ++ l2) lo hi→∃ mid,Cov o xs l1 lo mid∧Cov o xs l2 mid hi
 | [],l2,lo,hi,h => ⟨lo,rfl,h⟩
 | (a,n) :: r,l2,lo,hi,⟨h0,h1,u,h2⟩ => by
  obtain ⟨mid,c1,c2⟩:=Cov.app h2
  exact ⟨mid,⟨h0,h1,u,c1⟩,c2⟩
theorem Cov.join {xs:Array Keyed}:∀ {l1 l2:List (Nat × Nat)} {lo mid hi:Nat},Cov o xs l1 lo mid→Cov o xs l2 mid hi→Cov o xs (l1 ++ l2) lo hi
 | [],l2,lo,mid,hi,h,c => by obtain rfl:lo = mid:=h; exact c
 | (a,n) :: r,l2,lo,mid,hi,⟨h0,h1,u,h2⟩,c => ⟨h0,h1,u,h2.join c⟩
theorem mAt_cov {st:SortSt} {i hi:Nat} {Q:Bool→SortSt→Prop} (O:Orc prog w A s f o z) (g:Gd f z st) (c:Cov o (arrOf st) (runs st) 0 hi) (hh:hi≤z.size) (hi2:i + 1 < (pendingOf st).size)
  (q:∀ y,Gd f z y→Cov o (arrOf y) (runs y) 0 hi→(pendingOf y).size + 1 = (pendingOf st).size→(∀ k n,hi≤k→seg (arrOf y) k n = seg (arrOf st) k n)→Q true y):wpS (model prog w) A E s (mergeAt' i) Q st:=by
 obtain ⟨l1,x1,x2,l2,hl,h1⟩:∃ l1 x1 x2 l2,(pendingOf st).toList = l1 ++ x1 :: x2 :: l2∧l1.length = i:=by
  have h1:i + 1 < (pendingOf st).toList.length:=by rw [Array.length_toList]; exact hi2
  refine ⟨(pendingOf st).toList.take i,(pendingOf st).toList[i],(pendingOf st).toList[i + 1],(pendingOf st).toList.drop (i + 2),?_,by rw [List.length_take]; omega⟩
  have e:=(List.take_append_drop i (pendingOf st).toList).symm
  rw [List.drop_eq_getElem_cons (by omega),List.drop_eq_getElem_cons h1] at e
  exact e
 obtain ⟨sa,na,pa⟩:=x1
 obtain ⟨sb,nb,pb⟩:=x2
 have er:runs st = l1.map pr ++ (sa,na) :: (sb,nb) :: l2.map pr:=by
  unfold runs
  rw [hl,List.map_append,List.map_cons,List.map_cons]; rfl
 rw [er] at c
 obtain ⟨mid,c1,h2,n1,u1,h3,n2,u2,c2⟩:=c.app
 subst h2
 subst h3
 have l3:=c2.le
 rw [← h1]
 refine mAt_wp O g hl rfl n1 n2 (by omega) u1 u2 fun y gy py up low high => q y gy ?_ ?_ fun k n hk => high k n (by omega)
 ·have ey:runs y = l1.map pr ++ (sa,na + nb) :: l2.map pr:=by
   unfold runs
   rw [py,List.map_append,List.map_cons]; rfl
  rw [ey]
  refine Cov.join (c1.congr fun k n _ hk => low k n hk) ⟨rfl,by omega,up,?_⟩
  rw [← Nat.add_assoc]
  exact c2.congr fun k n hk _ => high k n hk
 ·have e1:=congrArg List.length py
  have e2:=congrArg List.length hl
  simp only [Array.length_toList,List.length_append,List.length_cons] at e1 e2
  omega
theorem seg_low {xs ys:Array Keyed} {k n lo:Nat} (h:∀ i,i < lo→ys[i]? = xs[i]?) (hk:k + n≤lo):seg ys k n = seg xs k n:=by
 apply List.ext_getElem?
 intro i
 unfold seg
 rw [List.getElem?_take,List.getElem?_take]
 split
 ·rw [List.getElem?_drop,List.getElem?_drop,Array.getElem?_toList,Array.getElem?_toList]
  exact h _ (by omega)
 ·rfl
theorem SU.up {xs:Array Keyed} {lo m:Nat} (u:SU o xs lo m) (h:lo + m≤xs.size):Up o (seg xs lo m):=by
 have kk:∀ {k} (hk:k < xs.size),KK o xs k = kv o xs[k]:=fun {k} hk => by unfold KK; rw [getElem?_pos xs k hk]; rfl
 refine List.pairwise_iff_getElem.mpr fun i j hi hj hij => ?_
 rw [seg_len h] at hi hj
 rw [seg_get _ (by omega),seg_get _ (by omega)]
 have:=u i j (by omega) hj
 rw [kk (by omega),kk (by omega)] at this
 exact this
theorem pend_mod {ps:Array (Nat × Nat × Nat)} {i pw:Nat}:(ps.modify i fun (t:Nat × Nat × Nat) => match t with | (a,n,_) => (a,n,pw)).toList.map pr = ps.toList.map pr:=by
 apply List.ext_getElem?
 intro k
 rw [List.getElem?_map,List.getElem?_map,Array.getElem?_toList,Array.getElem?_toList,Array.getElem?_modify]
 split
 ·cases ps[k]? with
  | none => rfl
  | some t => rfl
 ·rfl
structure Bt (o:KeyKind) (f:Bool) (z:Array Keyed) (lo:Nat) (y:SortSt):Prop where
 gd:Gd f z y
 cv:Cov o (arrOf y) (runs y) 0 lo
def mLoop (n pw:Nat):StateT SortSt Sem (Option Unit × Unit) :=
 forIn [0:n] ((none,()):Option Unit × Unit) fun _ _ => do
  let p:=pendingOf (← get)
  let some (_,_,older):=(if p.size > 1 then p[p.size - 2]? else none) | pure (.done (none,()))
  if older≤pw then pure (.done (none,()))
  else
   if !(← mergeAt' (p.size - 2)) then pure (.done (some (),())) else pure (.yield (none,()))
theorem mLoop_wp {st:SortSt} {n pw lo m:Nat} {Q:Option Unit × Unit→SortSt→Prop} (O:Orc prog w A s f o z) (b:Bt o f z lo st) (hl:lo≤z.size) (u:Up o (seg (arrOf st) lo m)) (q:∀ y,Bt o f z lo y→Up o (seg (arrOf y) lo m)→Q (none,()) y):wpS (model prog w) A E s (mLoop n pw) Q st:=by
 refine wpS_forRange (I:=fun _ c y => c = (none,())∧Bt o f z lo y∧Up o (seg (arrOf y) lo m)) (fun i c y _ _ hy => ?_) (fun c y hy => ?_) ⟨rfl,b,u⟩
 ·obtain ⟨rfl,b1,u1⟩:=hy
  refine wpS_bind (wpS_get ?_)
  dsimp only
  rcases Nat.lt_or_ge 1 (pendingOf y).size with h1 | h1
  ·rw [if_pos h1,getElem?_pos (pendingOf y) _ (show (pendingOf y).size - 2 < _ by omega)]
   show wpS _ _ _ _ (if _≤pw then _ else _) _ _
   split
   ·exact wpS_pure (q y b1 u1)
   ·refine wpS_bind (mAt_cov O b1.gd b1.cv hl (by omega) fun y2 g2 c2 _ hi2 => ?_)
    exact wpS_pure ⟨rfl,⟨g2,c2⟩,by rw [hi2 lo m (Nat.le_refl _)]; exact u1⟩
  ·rw [if_neg (by omega)]
   exact wpS_pure (q y b1 u1)
 ·obtain ⟨rfl,b1,u1⟩:=hy
  exact q y b1 u1
theorem Bt.add {lo m:Nat} {y:SortSt} (b:Bt o f z lo y) (u:Up o (seg (arrOf y) lo m)) (hm:1≤m):Bt o f z (lo + m) (setPending y ((pendingOf y).push (lo,m,0))):=by
 refine ⟨⟨b.gd.pm,b.gd.kd,b.gd.fl⟩,?_⟩
 have e:runs (setPending y ((pendingOf y).push (lo,m,0))) = runs y ++ [(lo,m)]:=by
  show ((pendingOf y).push (lo,m,0)).toList.map pr = _
  rw [Array.toList_push,List.map_append]; rfl
 show Cov o (arrOf y) (runs (setPending y ((pendingOf y).push (lo,m,0)))) 0 (lo + m)
 rw [e]
 exact b.cv.join ⟨rfl,hm,u,rfl⟩
theorem Bt.mod {lo i pw:Nat} {y:SortSt} (b:Bt o f z lo y):Bt o f z lo (setPending y ((pendingOf y).modify i fun (t:Nat × Nat × Nat) => match t with | (a,n,_) => (a,n,pw))):=by
 refine ⟨⟨b.gd.pm,b.gd.kd,b.gd.fl⟩,?_⟩
 show Cov o (arrOf y) (((pendingOf y).modify i fun (t:Nat × Nat × Nat) => match t with | (a,n,_) => (a,n,pw)).toList.map pr) 0 lo
 rw [pend_mod]
 exact b.cv
theorem Bt.run {lo:Nat} {x y:SortSt} (b:Bt o f z lo x) (r:Rn f z x lo y):Bt o f z lo y:=by
 refine ⟨r.gd,?_⟩
 have e:runs y = runs x:=by unfold runs; rw [r.pd]
 rw [e]
 exact b.cv.congr fun k n _ hk => seg_low r.low hk
theorem sort_wp {st:SortSt} {Q:Unit→SortSt→Prop} (O:Orc prog w A s f o z) (g:Gd f z st) (p0:pendingOf st = #[]) (h2:2≤z.size)
  (q:∀ y,Gd f z y→Up o (arrOf y).toList→Q () y):wpS (model prog w) A E s sortRuns' Q st:=by
 rw [sortRuns'_eq]
 refine wpS_bind (wpS_get ?_)
 simp only [g.sz]
 generalize minRun' z.size z.size 0 = mr
 have b0:Bt o f z 0 st:=⟨g,by unfold runs; rw [p0]; rfl⟩
 refine wpS_bind (wpS_mono (wpS_forRange (I:=fun i c y => c.1 = none∧c.2≤z.size∧i≤c.2∧Bt o f z c.2 y) (Q:=fun c y => c = (none,z.size)∧Bt o f z z.size y) (fun i c y _ hi hy => ?_) (fun c y hy => ?_) ⟨rfl,Nat.zero_le _,Nat.le_refl _,b0⟩) fun c y hy => ?_)
 ·obtain ⟨c1,lo⟩:=c
  obtain ⟨e1,hl,hil,b⟩:=hy
  change c1 = none at e1
  change lo≤z.size at hl
  change i≤lo at hil
  change Bt o f z lo y at b
  subst e1
  show wpS _ _ _ _ (if lo ≥ z.size then _ else _) _ _
  rcases Nat.lt_or_ge lo z.size with hlo | hlo
  ·rw [if_neg (by omega)]
   refine wpS_bind (cnt_wp O (show lo + (z.size - lo)≤_ by omega) (by omega) b.gd fun m y1 r1 m1 m2 su => ?_)
   have tail:∀ (y2:SortSt) (k:Nat),Bt o f z lo y2→Up o (seg (arrOf y2) lo k)→1≤k→lo + k≤z.size→∀ c:Option Unit × Nat,c = (none,lo + k)→c.1 = none∧c.2≤z.size∧i + 1≤c.2∧Bt o f z c.2 (setPending y2 ((pendingOf y2).push (lo,k,0))):=fun y2 k b2 u2 k1 k2 c hc => by
    subst hc
    exact ⟨rfl,k2,by show i + 1≤lo + k; omega,b2.add u2 k1⟩
   show wpS _ _ _ _ (if m < mr then _ else _) _ _
   have rest:∀ (y2:SortSt) (k:Nat),Rn f z y lo y2→SU o (arrOf y2) lo k→1≤k→lo + k≤z.size→Bt o f z lo y2∧Up o (seg (arrOf y2) lo k):=fun y2 k r2 su2 k1 k2 => ⟨b.run r2,su2.up (by rw [r2.gd.sz]; exact k2)⟩
   split
   ·refine wpS_bind (wpS_lift (wpAny_rule ⟨rfl,wpS_bind (bin_wp (x:=y) O (show lo + min (z.size - lo) mr≤_ by omega) (by omega) r1 su fun y2 r2 su2 => ?_)⟩))
    obtain ⟨b2,u2⟩:=rest y2 _ r2 su2 (by omega) (by omega)
    refine wpS_bind (wpS_get ?_)
    cases hb:(pendingOf y2).back? with
    | none => exact wpS_bind (wpS_modify (wpS_pure (tail y2 _ b2 u2 (by omega) (by omega) _ rfl)))
    | some t =>
     obtain ⟨s1,n1,p1⟩:=t
     show wpS _ _ _ _ (mLoop z.size _ >>= _) _ _
     refine wpS_bind (mLoop_wp O b2 hl u2 fun y3 b3 u3 => ?_)
     exact wpS_bind (wpS_modify (wpS_bind (wpS_modify (wpS_pure (tail _ _ b3.mod u3 (by omega) (by omega) _ rfl)))))
   ·obtain ⟨b2,u2⟩:=rest y1 _ r1 su m1 (by omega)
    refine wpS_bind (wpS_get ?_)
    cases hb:(pendingOf y1).back? with
    | none => exact wpS_bind (wpS_modify (wpS_pure (tail y1 _ b2 u2 m1 (by omega) _ rfl)))
    | some t =>
     obtain ⟨s1,n1,p1⟩:=t
     show wpS _ _ _ _ (mLoop z.size _ >>= _) _ _
     refine wpS_bind (mLoop_wp O b2 hl u2 fun y3 b3 u3 => ?_)
     exact wpS_bind (wpS_modify (wpS_bind (wpS_modify (wpS_pure (tail _ _ b3.mod u3 m1 (by omega) _ rfl)))))
  ·rw [if_pos hlo]
   obtain rfl:lo = z.size:=by omega
   exact wpS_pure ⟨rfl,b⟩
 ·obtain ⟨c1,lo⟩:=c
  obtain ⟨e1,hl,hil,b⟩:=hy
  change c1 = none at e1
  change lo≤z.size at hl
  change max 0 z.size≤lo at hil
  change Bt o f z lo y at b
  obtain rfl:lo = z.size:=by omega
  subst e1
  exact ⟨rfl,b⟩
 ·obtain ⟨rfl,b⟩:=hy
  have len:∀ y',Bt o f z z.size y'→(pendingOf y').size≤z.size:=fun y' b' => by
   have:=b'.cv.le
   unfold runs at this
   rw [List.length_map,Array.length_toList] at this
   omega
  refine wpS_bind (wpS_mono (wpS_forRange (I:=fun i c y => c = (none,())∧Bt o f z z.size y∧((pendingOf y).size≤1∨(pendingOf y).size + i≤z.size)) (Q:=fun c y => c = (none,())∧Bt o f z z.size y∧(pendingOf y).size≤1) (fun i c y _ _ hy => ?_) (fun c y hy => ?_) ⟨rfl,b,.inr (by have:=len y b; omega)⟩) fun c y hy => ?_)
  ·obtain ⟨rfl,b1,hp⟩:=hy
   refine wpS_bind (wpS_get ?_)
   show wpS _ _ _ _ (if (pendingOf y).size≤1 then _ else _) _ _
   rcases Nat.lt_or_ge 1 (pendingOf y).size with h1 | h1
   ·rw [if_neg (by omega)]
    have fin:∀ k,k + 1 < (pendingOf y).size→∀ {R:Bool→SortSt→Prop},(∀ y2,Bt o f z z.size y2→(pendingOf y2).size + 1 = (pendingOf y).size→R true y2)→wpS (model prog w) A E s (mergeAt' k) R y:=fun k hk R hR => mAt_cov O b1.gd b1.cv (Nat.le_refl _) hk fun y2 g2 c2 e2 _ => hR y2 ⟨g2,c2⟩ e2
    refine wpS_bind (fin _ ?_ fun y2 b2 e2 => wpS_pure ⟨rfl,b2,.inr (by omega)⟩)
    have hi:∀ bb:Bool,(if bb = true then (pendingOf y).size - 2 - 1 else (pendingOf y).size - 2) + 1 < (pendingOf y).size:=fun bb => by
     cases bb
     ·rw [if_neg Bool.false_ne_true]; omega
     ·rw [if_pos rfl]; omega
    exact hi _
   ·rw [if_pos h1]
    exact wpS_pure ⟨rfl,b1,h1⟩
  ·obtain ⟨rfl,b1,hp⟩:=hy
   exact ⟨rfl,b1,by omega⟩
  ·obtain ⟨rfl,b1,hp⟩:=hy
   refine wpS_pure (q y b1.gd ?_)
   have cv:=b1.cv
   have hlen:(runs y).length≤1:=by unfold runs; rw [List.length_map,Array.length_toList]; exact hp
   match hr:runs y,hlen with
   | [],_ =>
    rw [hr] at cv
    have:(0:Nat) = z.size:=cv
    omega
   | [(a,n)],_ =>
    rw [hr] at cv
    obtain ⟨_,_,u,e⟩:=cv
    have e2:0 + n = z.size:=e
    have e3:seg (arrOf y) 0 n = (arrOf y).toList:=by
     unfold seg
     rw [List.drop_zero]
     exact List.take_of_length_le (by rw [Array.length_toList,b1.gd.sz]; omega)
    rw [e3] at u
    exact u
end
end TS
namespace TS
open PySem PyProof.Rows L2
section
variable {prog:Program} {w:World} {A:Around} {E:Value→Shared→Prop} {s:Shared} {d t:Addr} {es:Array DictEntry} {ep i:Nat}
end
end TS
namespace TS
open PySem PyProof.Rows L2
section
variable {prog:Program} {w:World} {A:Around} {E:Value→Shared→Prop} {s:Shared}
theorem TupAt.keep {h h':Heap} {v:Value} {ks:List L2.Key} (t:TupAt h v ks) (k:∀ b o,h.get? b = some o→h'.get? b = some o):TupAt h' v ks:=by
 obtain ⟨b,o2,us,n,rfl,e,r⟩:=t
 exact ⟨b,o2,us,n,rfl,k _ _ e,r⟩
theorem out_up {kc:Value→List L2.Key} {vs:List Value} {y:Array Keyed} (pm:y.Perm (pairsOf vs)) (up:Up (kind kc) y.toList) :
  ∃ out:List Value,(y.map (·.2)) = out.toArray∧out.Perm vs∧out.Pairwise fun u v => lx (kc v) (kc u) = false:=by
 have pl:y.toList.Perm (vs.zip vs):=pairsOf_toList vs▸Array.perm_iff_toList_perm.mp pm
 have hm:∀ p∈y.toList,p.1 = p.2:=fun p hp => (mem_zip_self (pl.mem_iff.mp hp)).1
 refine ⟨y.toList.map (·.2),by rw [← Array.toList_map,Array.toArray_toList],?_,?_⟩
 ·have:=pl.map Prod.snd
  rwa [List.map_snd_zip (Nat.le_refl _)] at this
 ·refine List.pairwise_map.mpr (up.imp_of_mem fun {p q} hp hq h => ?_)
  rw [← hm p hp,← hm q hq]
  exact h
theorem sort_any {a:Addr} {vs:List Value} {n:Nat} {P:Fin→Shared→Prop} {kc:Value→List L2.Key} {d:List Bool} (ho:s.heap.get? a = some (seqObj "list" vs.toArray n)) (ht:∀ v∈vs,TupAt s.heap v (kc v)) (hs:∀ v∈vs,sd (kc v) = d) (hd:d≠[]) (hl:vs.length≤sizeLine)
  (q:∀ out:List Value,out.Perm vs→(out.Pairwise fun u v => lx (kc v) (kc u) = false)→P (.done (.ret .none)) { s with heap:=sortedHeap s.heap a vs out.toArray }):wpAny (model prog w) A (Builtin.«list.sort» ⟨[.ref a],[]⟩) P E s:=by
 rw [list_sort_plain]
 refine wpAny_bind (listItems_at ho rfl (wpAny_bind (listUpdate_at ho rfl ?_ (by rw [List.size_toArray]; exact hl))))
 have g1:=get?_update_seq ho (fun _ => #[])
 refine wpAny_bind (seqEpoch_at g1 rfl (wpAny_bind (wpAny_newTuple (wpAny_bind (wpAny_newList (wpAny_holding ?_))))))
 have g2:(((s.heap.update a (Obj.mapSeq fun _ => #[])).push (seqObj "tuple" vs.toArray 0)).push (seqObj "list" #[] 0)).get? a = _:=Heap.get?_push_of_some _ (Heap.get?_push_of_some _ g1)
 have ht2:∀ v∈vs,TupAt (((s.heap.update a (Obj.mapSeq fun _ => #[])).push (seqObj "tuple" vs.toArray 0)).push (seqObj "list" #[] 0)) v (kc v):=fun v hv => (((ht v hv).upd ho rfl).push _).push _
 have room:∀ y:Array Keyed,y.Perm (pairsOf vs)→(y.map (·.2)).size≤sizeLine + 1:=fun y hy => by
  rw [Array.size_map,hy.size_eq,pairsOf_size]; omega
 have fin:∀ y:SortSt,(arrOf y).Perm (pairsOf vs)→Up (kind kc) (arrOf y).toList→P (.done (.ret .none)) { s with heap:=sortedHeap s.heap a vs ((arrOf y).map (·.2)) }:=fun y pm up => by
  obtain ⟨out,e,p,w⟩:=out_up pm up
  rw [e]; exact q out p w
 rcases Nat.lt_or_ge vs.length 2 with h2 | h2
 ·rw [if_pos (by simpa using h2),if_pos (by simpa using h2)]
  refine wpAny_bind (wpAny_pure ?_)
  dsimp only
  rw [StateT.run_pure]
  refine wpAny_bind (wpAny_pure (wpAny_bind (seqEpoch_at g2 rfl (wpAny_bind (listUpdate_at g2 rfl ?_ (hsz2:=room _ (Array.Perm.refl _)))))))
  simp only [bne_self_eq_false,Bool.false_eq_true,if_false]
  refine wpAny_pure (fin (SortSt.mk' general' (pairsOf vs) #[] 7 none) (Array.Perm.refl _) ?_)
  show Up _ (pairsOf vs).toList
  rw [pairsOf_toList]
  match vs,h2 with
  | [],_ => exact List.Pairwise.nil
  | [v],_ => exact List.pairwise_singleton _ _
 ·rw [if_neg (by simpa using h2),if_neg (by simpa using h2)]
  refine wpAny_bind (key_kind h2 ht2 hs hd ?_)
  refine wpAny_bind (wpAny_mono (sort_wp (o:=kind kc) (z:=pairsOf vs) (f:=true) (st:=SortSt.mk' (tuples' true) (vs.toArray.zip vs.toArray) #[] 7 none) (Q:=fun _ y => Gd true (pairsOf vs) y∧Up (kind kc) (arrOf y).toList) (orc_of ht2 hs true) ⟨Array.Perm.refl _,rfl,rfl⟩ rfl (by rw [pairsOf_size]; exact h2) fun y p1 p2 => ⟨p1,p2⟩) ?_ fun _ _ e => e)
  rintro ⟨⟨⟩,y⟩ s2 ⟨rfl,gd,up⟩
  refine wpAny_bind (seqEpoch_at g2 rfl (wpAny_bind (listUpdate_at g2 rfl ?_ (hsz2:=room _ gd.pm))))
  rw [gd.fl]
  simp only [bne_self_eq_false,Bool.false_eq_true,if_false]
  exact wpAny_pure (fin y gd.pm up)
theorem sortedHeap_at {h:Heap} {a:Addr} {vs:List Value} {n:Nat} {out:Array Value} (ho:h.get? a = some (seqObj "list" vs.toArray n)):∃ c,(sortedHeap h a vs out).get? a = some (seqObj "list" out c)∧∀ b o,b≠a→h.get? b = some o→(sortedHeap h a vs out).get? b = some o:=by
 have g1:=get?_update_seq ho (fun _ => #[])
 have g2:(((h.update a (Obj.mapSeq fun _ => #[])).push (seqObj "tuple" vs.toArray 0)).push (seqObj "list" #[] 0)).get? a = _:=Heap.get?_push_of_some _ (Heap.get?_push_of_some _ g1)
 have g3:=get?_update_seq g2 (fun _ => out)
 refine ⟨_,g3,fun b o hb e => ?_⟩
 exact (Heap.get?_update_other _ _ (Ne.symm hb)).trans (Heap.get?_push_of_some _ (Heap.get?_push_of_some _ ((Heap.get?_update_other _ _ (Ne.symm hb)).trans e)))
theorem sorted_of {x:Value} {vs:List Value} {kc:Value→List L2.Key} {d:List Bool} {Q:Value→Shared→Prop} (hc:∀ R:List Value→Shared→Prop,(∀ h' tk,(∀ b o,s.heap.get? b = some o→h'.get? b = some o)→s.heap.objs.size < h'.objs.size→R vs { s with heap:=h',toks:=tk })→wpAny (model prog w) A.in1 (collect x) R E s)
  (ht:∀ v∈vs,TupAt s.heap v (kc v)) (hs:∀ v∈vs,sd (kc v) = d) (hd:d≠[]) (hl:vs.length≤sizeLine)
  (q:∀ (h':Heap) (tk c:Nat) (p:Addr) (out:List Value),(∀ b o,s.heap.get? b = some o→h'.get? b = some o)→s.heap.objs.size≤p→h'.get? p = some (seqObj "list" out.toArray c)→out.Perm vs→(out.Pairwise fun u v => lx (kc v) (kc u) = false)→Q (.ref p) { s with heap:=h',toks:=tk }) :
  wpAny (model prog w) A (call (.builtin "sorted") [x]) Q E s:=by
 refine Calls.call_function_entry kind_sorted plain_sorted entry_sorted (args_sorted1 _) ?_
 refine wpAny_bind (m:=checkCount "sorted" 1 1 _) (wpAny_pure ?_)
 refine wpAny_bind (hc _ fun h' tk kp lt => ?_)
 refine wpAny_bind (wpAny_newList ?_)
 have e1:(h'.push (seqObj "list" vs.toArray 0)).get? h'.objs.size = some (seqObj "list" vs.toArray 0):=Heap.get?_push_size _ rfl
 have kp2:∀ b o,s.heap.get? b = some o→(h'.push (seqObj "list" vs.toArray 0)).get? b = some o:=fun b o e => Heap.get?_push_of_some _ (kp b o e)
 refine wpAny_bind (wpAny_holding (wpAny_call_entry slot_list_sort ⟨_,e1,rfl⟩ entry_list_sort (sort_any e1 (fun v hv => (ht v hv).keep kp2) hs hd hl fun out pm up => ⟨_,rfl,wpAny_pure ⟨_,rfl,?_⟩⟩) (args_list_sort _)))
 obtain ⟨c,g1,g2⟩:=sortedHeap_at (out:=out.toArray) e1
 exact q _ tk c _ out (fun b o e => g2 b o (Nat.ne_of_lt (Nat.lt_trans (Heap.lt_size e) lt)) (kp2 b o e)) (Nat.le_of_lt lt) g1 pm up
end
end TS
namespace L2
open PySem PyProof.Rows TS
def unV:V→Key | .int n => .inl n | .str x => .inr x | _ => .inl 0
theorem unV_kV (k:Key):unV (kV k) = k:=by cases k <;> rfl
def KeyAt (H:Hp) (bs:List Addr) (ks:List (List Key)):Prop:=bs.length = ks.length∧∀ (i:Nat) (b:Addr) (k:List Key),bs[i]? = some b→ks[i]? = some k→H b = some (.tup (k.map kV))
def kcOf (H:Hp):Value→List Key
 | .ref b => match H b with | some (.tup ys) => ys.map unV | _ => []
 | _ => []
theorem kcOf_at {H:Hp} {b:Addr} {k:List Key} (e:H b = some (.tup (k.map kV))):kcOf H (.ref b) = k:=by
 show (match H b with | some (.tup ys) => ys.map unV | _ => []) = k
 rw [e]
 show (k.map kV).map unV = k
 rw [List.map_map]
 exact (List.map_congr_left fun x _ => unV_kV x).trans (List.map_id _)
theorem kVals_of:∀ {ks:List Key} {us:List Value},Vals (ks.map kV) us→KVals ks us
 | [],_,h => by rw [List.map_nil] at h; cases h; exact .nil
 | k :: ks,_,h => by
  rw [List.map_cons] at h
  cases h with
  | cons r t =>
   refine .cons ?_ (kVals_of t)
   cases k with
   | inl n => exact r
   | inr x => exact r
theorem tupAt_of {P:Program} {w:World} {H:Hp} {h:Heap} {b:Addr} {k:List Key} (ok:HOk P w H h) (e:H b = some (.tup (k.map kV))):TS.TupAt h (.ref b) k:=by
 obtain ⟨_,its,r,o,h1,h2,n,h3⟩:=(show ObjOk P w H h b (.tup (k.map kV)) from ok b _ e)
 exact ⟨b,o,its,n,rfl,h1,h2,h3,kVals_of r⟩
def adOf:Value→Addr | .ref b => b | _ => 0
theorem keys_out {H:Hp} {vs out:List Value} {ks:List (List Key)} (hv:∀ v∈vs,∃ (b:Addr) (k:List Key),v = .ref b∧H b = some (.tup (k.map kV))) (hk:vs.map (kcOf H) = ks) (pm:out.Perm vs) (up:out.Pairwise fun u v => lx (kcOf H v) (kcOf H u) = false) :
  Vals ((out.map adOf).map V.ref) out∧KeyAt H (out.map adOf) (out.map (kcOf H))∧(out.map (kcOf H)).Perm ks∧(out.map (kcOf H)).Pairwise fun a b => lx b a = false:=by
 have ho:∀ v∈out,∃ (b:Addr) (k:List Key),v = .ref b∧H b = some (.tup (k.map kV)):=fun v h => hv v (pm.mem_iff.mp h)
 refine ⟨?_,⟨by rw [List.length_map,List.length_map],fun i b k h1 h2 => ?_⟩,hk▸pm.map _,List.pairwise_map.mpr up⟩
 ·clear pm up hk
  induction out with
  | nil => exact .nil
  | cons v r ih =>
   obtain ⟨b,k,rfl,_⟩:=ho v (List.mem_cons_self ..)
   exact .cons rfl (ih fun u hu => ho u (List.mem_cons_of_mem _ hu))
 ·rw [List.getElem?_map] at h1 h2
  obtain ⟨v,e1,rfl⟩:=Option.map_eq_some_iff.mp h1
  rw [e1] at h2
  cases h2
  obtain ⟨b,k,rfl,e⟩:=ho v (List.mem_of_getElem? e1)
  rw [kcOf_at e]
  exact e
section
variable {X:Cx}
end
end L2
namespace L2
open PySem PySem.Spec PyProof.Rows
section
variable {X:Cx} {pins:List (Addr × Obj)} {σ:St} {H:Hp} {s:Shared}
end
end L2
namespace TS
open PySem PyProof.Rows L2
section
variable {prog:Program} {w:World} {A:Around} {E:Value→Shared→Prop} {s:Shared}
variable {K:Type} [DecidableEq K] {knd:HeapKind prog w K}
end
end TS
namespace L2
open PySem PyProof.Rows TS
section
variable {X:Cx}
end
end L2
namespace TS
open PySem PyProof.Rows L2
section
variable {prog:Program} {w:World} {A:Around} {E:Value→Shared→Prop} {s:Shared} {K:Type} [DecidableEq K] {knd:HeapKind prog w K}
end
end TS
namespace L2
open PySem PyProof.Rows TS
section
variable {X:Cx}
end
end L2
namespace L2
open PySem PySem.Spec PyProof.Rows
section
variable {P:Program} {w:World} {K:PySem.W.Frag} {mg:Str→Option Value} {base:Heap}
end
section
variable {X:Cx} {k:Nat} {m:Str} {C:Addr} {ps:List Str} {sp:Sp} {E:XK}
end
end L2
namespace L2
open PySem PyProof.Rows
section
variable {X:Cx}
end
end L2
namespace L2
open PySem PySem.Spec PyProof.Rows
section
variable {X:Cx} {k:Nat} {x m:Str} {C:Addr} {ps:List Str} {sp:Sp} {E:St→XK} {p pos apos:Pos} {e o:Expr} {es:List Expr} {ta:TE} {t:TA}
end
end L2
namespace L2
open PySem PySem.Spec PyProof.Rows TS
section
variable {X:Cx}
open Classical in
end
end L2
namespace L2
open PySem PySem.Spec PyProof.Rows
end L2
namespace L2
open PySem PySem.Spec PyProof.Rows TS
section
variable {X:Cx} {pos:Pos}
end
section
variable {X:Cx} {pins:List (Addr × Obj)} {σ:St} {H:Hp} {s:Shared}
open Classical in
end
end L2
namespace STb
open PySem SetTable
def sm:Nat→Nat
 | 0 => 0
 | n + 1 => 5 * sm n + 1
theorem sm_add (m:Nat):∀ n,sm (n + m) = 5 ^ n * sm m + sm n
 | 0 => by simp [sm]
 | n + 1 => by
  have e:n + 1 + m = (n + m) + 1:=by omega
  rw [e]
  show 5 * sm (n + m) + 1 = 5 ^ (n + 1) * sm m + (5 * sm n + 1)
  rw [sm_add m n,Nat.pow_succ,Nat.mul_add,Nat.mul_comm (5 ^ n) 5,Nat.mul_assoc]
  omega
theorem five_odd (n:Nat):5 ^ n % 4 = 1:=by
 induction n with
 | zero => rfl
 | succ n ih => rw [Nat.pow_succ]; omega
theorem sm_two:∀ k,∃ d,sm (2 ^ k) = 2 ^ k * (2 * d + 1)
 | 0 => ⟨0,rfl⟩
 | k + 1 => by
  obtain ⟨d,hd⟩:=sm_two k
  have e:2 ^ (k + 1) = 2 ^ k + 2 ^ k:=by rw [Nat.pow_succ]; omega
  have h4:=five_odd (2 ^ k)
  obtain ⟨q,hq⟩:∃ q,5 ^ (2 ^ k) = 4 * q + 1:=⟨5 ^ (2 ^ k) / 4,by omega⟩
  refine ⟨2 * d * q + d + q,?_⟩
  rw [e,sm_add,hd,hq]
  have:(4 * q + 1) * (2 ^ k * (2 * d + 1)) + 2 ^ k * (2 * d + 1) = 2 ^ k * ((4 * q + 2) * (2 * d + 1)):=by
   rw [← Nat.mul_assoc,Nat.mul_comm (4 * q + 1),Nat.mul_assoc,← Nat.mul_add]
   congr 1
   rw [show (4 * q + 2) = (4 * q + 1) + 1 by omega,Nat.add_mul (4 * q + 1) 1,Nat.one_mul]
  rw [this,← Nat.two_mul,Nat.mul_comm 2 (2 ^ k),Nat.mul_assoc]
  congr 1
  have:(4 * q + 2) * (2 * d + 1) = 2 * ((2 * q + 1) * (2 * d + 1)):=by rw [← Nat.mul_assoc]; congr 1; omega
  rw [this]
  congr 1
  rw [Nat.add_mul,Nat.mul_add,Nat.one_mul,show 2 * q * (2 * d) = 2 * (2 * d * q) by rw [Nat.mul_assoc,Nat.mul_comm q (2 * d)]]
  omega
theorem sm_all:∀ (k b:Nat),∃ n,n < 2 ^ k∧sm n % 2 ^ k = b % 2 ^ k
 | 0,b => ⟨0,by decide,by simp [Nat.mod_one]⟩
 | k + 1,b => by
  obtain ⟨n,hn,he⟩:=sm_all k b
  have e:2 ^ (k + 1) = 2 ^ k + 2 ^ k:=by rw [Nat.pow_succ]; omega
  have hp:0 < 2 ^ k:=Nat.pow_pos (by decide)
  obtain ⟨d,hd⟩:=sm_two k
  by_cases h:sm n % 2 ^ (k + 1) = b % 2 ^ (k + 1)
  ·exact ⟨n,by omega,h⟩
  ·refine ⟨n + 2 ^ k,by omega,?_⟩
   obtain ⟨c,hc⟩:∃ c,5 ^ n = 2 * c + 1:=⟨5 ^ n / 2,by have:=five_odd n; omega⟩
   have e1:sm (n + 2 ^ k) = sm n + 2 ^ k + 2 ^ (k + 1) * (2 * c * d + c + d):=by
    rw [sm_add,hd,hc,← Nat.mul_assoc,Nat.mul_comm (2 * c + 1),Nat.mul_assoc]
    have:(2 * c + 1) * (2 * d + 1) = 2 * (2 * c * d + c + d) + 1:=by
     rw [Nat.add_mul,Nat.mul_add,Nat.one_mul,show 2 * c * (2 * d) = 2 * (2 * c * d) by rw [Nat.mul_left_comm]]
     omega
    rw [this,Nat.mul_add,Nat.mul_one,← Nat.mul_assoc,← Nat.pow_succ]
    show 2 ^ (k + 1) * _ + 2 ^ k + sm n = _
    omega
   rw [e1,Nat.add_mul_mod_self_left]
   have d1:=Nat.div_add_mod (sm n) (2 ^ (k + 1))
   have d2:=Nat.div_add_mod b (2 ^ (k + 1))
   have m1:=Nat.mod_lt (sm n) (show 0 < 2 ^ (k + 1) by omega)
   have m2:=Nat.mod_lt b (show 0 < 2 ^ (k + 1) by omega)
   have q1:sm n % 2 ^ (k + 1) % 2 ^ k = sm n % 2 ^ k:=Nat.mod_mod_of_dvd _ ⟨2,by rw [Nat.pow_succ]⟩
   have q2:b % 2 ^ (k + 1) % 2 ^ k = b % 2 ^ k:=Nat.mod_mod_of_dvd _ ⟨2,by rw [Nat.pow_succ]⟩
   rw [Nat.add_mod]
   generalize sm n % 2 ^ (k + 1) = x at *
   generalize b % 2 ^ (k + 1) = y at *
   rw [e] at *
   generalize 2 ^ k = p at *
   have hx:x % p = y % p:=by omega
   have px:x % p = if x < p then x else x - p:=by
    split
    ·exact Nat.mod_eq_of_lt ‹_›
    ·rw [Nat.mod_eq_sub_mod (by omega),Nat.mod_eq_of_lt (by omega)]
   have py:y % p = if y < p then y else y - p:=by
    split
    ·exact Nat.mod_eq_of_lt ‹_›
    ·rw [Nat.mod_eq_sub_mod (by omega),Nat.mod_eq_of_lt (by omega)]
   have pp:p % (p + p) = p:=Nat.mod_eq_of_lt (by omega)
   rw [pp]
   rw [px,py] at hx
   by_cases h1:x < p
   ·rw [Nat.mod_eq_of_lt (by omega)]
    split at hx <;> split at hx <;> omega
   ·rw [Nat.mod_eq_sub_mod (by omega),Nat.mod_eq_of_lt (by omega)]
    split at hx <;> split at hx <;> omega
def Fm (mask i:Nat):Nat:=(i * 5 + 1) % (mask + 1)
def itF (mask:Nat) (a:Nat):Nat→Nat
 | 0 => a
 | n + 1 => Fm mask (itF mask a n)
theorem itF_eq {mask k:Nat} (hm:mask + 1 = 2 ^ k) (a:Nat) (ha:a≤mask):∀ n,itF mask a n = (5 ^ n * a + sm n) % 2 ^ k
 | 0 => by
  show a = (5 ^ 0 * a + 0) % 2 ^ k
  rw [Nat.pow_zero,Nat.one_mul,Nat.add_zero,Nat.mod_eq_of_lt (by omega)]
 | n + 1 => by
  show (itF mask a n * 5 + 1) % (mask + 1) = (5 ^ (n + 1) * a + (5 * sm n + 1)) % 2 ^ k
  rw [itF_eq hm a ha n,hm,Nat.add_mod,Nat.mod_mul_mod,← Nat.add_mod]
  congr 1
  rw [Nat.add_mul,Nat.pow_succ,Nat.mul_comm (5 ^ n * a) 5,Nat.mul_comm (5 ^ n) 5,Nat.mul_assoc]
  omega
theorem itF_add (mask a m:Nat):∀ n,itF mask (itF mask a m) n = itF mask a (m + n)
 | 0 => rfl
 | n + 1 => by show Fm mask _ = Fm mask _; rw [itF_add mask a m n]; rfl
theorem itF_all {mask k:Nat} (hm:mask + 1 = 2 ^ k) {a b:Nat} (ha:a≤mask) (hb:b≤mask):∃ n,n≤mask∧itF mask a n = b:=by
 have z:∀ c,c≤mask→∃ n,n < 2 ^ k∧itF mask 0 n = c:=fun c hc => by
  obtain ⟨n,h1,h2⟩:=sm_all k c
  refine ⟨n,h1,?_⟩
  rw [itF_eq hm 0 (Nat.zero_le _),Nat.mul_zero,Nat.zero_add,h2,Nat.mod_eq_of_lt (by omega)]
 have per:∀ n,itF mask 0 (n + 2 ^ k) = itF mask 0 n:=fun n => by
  obtain ⟨d,hd⟩:=sm_two k
  rw [itF_eq hm 0 (Nat.zero_le _),itF_eq hm 0 (Nat.zero_le _),Nat.mul_zero,Nat.zero_add,Nat.mul_zero,Nat.zero_add,sm_add,hd,← Nat.mul_assoc,Nat.mul_comm (5 ^ n),Nat.mul_assoc,Nat.add_comm,Nat.add_mul_mod_self_left]
 obtain ⟨m,m1,rfl⟩:=z a ha
 obtain ⟨m',m2,rfl⟩:=z b hb
 by_cases h:m≤m'
 ·exact ⟨m' - m,by omega,by rw [itF_add]; congr 1; omega⟩
 ·refine ⟨m' + 2 ^ k - m,by omega,?_⟩
  rw [itF_add,← per m']
  congr 1
  omega
def advM (mask:Nat) (p:Probe):Probe :=
 if p.more > 0 then { p with j:=p.j + 1,more:=p.more - 1 } else { p with j:=(leap mask p.i p.perturb).1,more:=runEnd mask (leap mask p.i p.perturb).1 - (leap mask p.i p.perturb).1,i:=(leap mask p.i p.perturb).1,perturb:=(leap mask p.i p.perturb).2 }
theorem adv_eq (t:SetTable) (p:Probe):t.advance p = advM t.mask p:=by
 unfold SetTable.advance advM
 split <;> rfl
def stM (mask:Nat) (h:Int):Probe:={ j:=bits h % (mask + 1),more:=runEnd mask (bits h % (mask + 1)) - bits h % (mask + 1),i:=bits h % (mask + 1),perturb:=bits h,dummy:=none }
def pth (mask:Nat) (h:Int):Nat→Probe
 | 0 => stM mask h
 | n + 1 => advM mask (pth mask h n)
def lp (mask:Nat) (h:Int):Nat→Nat × Nat
 | 0 => (bits h % (mask + 1),bits h)
 | m + 1 => leap mask (lp mask h m).1 (lp mask h m).2
def atRun (mask:Nat) (x:Nat × Nat):Probe:={ j:=x.1,more:=runEnd mask x.1 - x.1,i:=x.1,perturb:=x.2,dummy:=none }
theorem pth_run {mask:Nat} {h:Int} {n:Nat} {x:Nat × Nat} (e:pth mask h n = atRun mask x):∀ d,d≤runEnd mask x.1 - x.1→pth mask h (n + d) = { atRun mask x with j:=x.1 + d,more:=runEnd mask x.1 - x.1 - d }
 | 0,_ => e
 | d + 1,hd => by
  show advM mask (pth mask h (n + d)) = _
  rw [pth_run e d (by omega)]
  unfold advM
  rw [if_pos (by show runEnd mask x.1 - x.1 - d > 0; omega)]
  simp only [atRun,Probe.mk.injEq,true_and,and_true]
  omega
theorem runEnd_le (mask i:Nat):runEnd mask i - i≤9:=by unfold runEnd; split <;> omega
theorem pth_leap (mask:Nat) (h:Int):∀ m,∃ n,n≤10 * m∧pth mask h n = atRun mask (lp mask h m)
 | 0 => ⟨0,Nat.le_refl _,rfl⟩
 | m + 1 => by
  obtain ⟨n,hn,e⟩:=pth_leap mask h m
  have hr:=runEnd_le mask (lp mask h m).1
  refine ⟨n + (runEnd mask (lp mask h m).1 - (lp mask h m).1) + 1,by omega,?_⟩
  show advM mask (pth mask h (n + (runEnd mask (lp mask h m).1 - (lp mask h m).1))) = _
  rw [pth_run e _ (Nat.le_refl _)]
  unfold advM
  rw [if_neg (by show ¬ (runEnd mask (lp mask h m).1 - (lp mask h m).1 - (runEnd mask (lp mask h m).1 - (lp mask h m).1) > 0); omega)]
  rfl
theorem lp_pert (mask:Nat) (h:Int):∀ m,(lp mask h m).2 = bits h / 32 ^ m
 | 0 => by show bits h = _; rw [Nat.pow_zero,Nat.div_one]
 | m + 1 => by
  show (lp mask h m).2 / 32 = _
  rw [lp_pert mask h m,Nat.div_div_eq_div_mul,Nat.pow_succ]
theorem bits_lt (h:Int):bits h < 2 ^ 64:=by
 unfold bits
 have h1:=Int.emod_nonneg h (show ((2:Int) ^ 64)≠0 by decide)
 have h2:=Int.emod_lt_of_pos h (show (0:Int) < 2 ^ 64 by decide)
 omega
theorem lp_le (mask:Nat) (h:Int):∀ m,(lp mask h m).1≤mask
 | 0 => Nat.le_of_lt_succ (Nat.mod_lt _ (Nat.succ_pos _))
 | m + 1 => Nat.le_of_lt_succ (Nat.mod_lt _ (Nat.succ_pos _))
theorem lp_zero (mask:Nat) (h:Int) (m:Nat):(lp mask h (13 + m)).2 = 0:=by
 rw [lp_pert]
 refine Nat.div_eq_of_lt (Nat.lt_of_lt_of_le (bits_lt h) ?_)
 exact Nat.le_trans (by decide:2 ^ 64≤32 ^ 13) (Nat.pow_le_pow_right (by decide) (by omega))
theorem lp_it (mask:Nat) (h:Int):∀ m,(lp mask h (13 + m)).1 = itF mask (lp mask h 13).1 m
 | 0 => rfl
 | m + 1 => by
  show (leap mask (lp mask h (13 + m)).1 (lp mask h (13 + m)).2).1 = Fm mask _
  rw [lp_zero,lp_it mask h m]
  rfl
theorem pth_all {mask k:Nat} (hm:mask + 1 = 2 ^ k) (h:Int) {b:Nat} (hb:b≤mask):∃ n,n < 10 * turns mask∧(pth mask h n).j = b:=by
 obtain ⟨m,m1,e⟩:=itF_all hm (lp_le mask h 13) hb
 obtain ⟨n,n1,e2⟩:=pth_leap mask h (13 + m)
 refine ⟨n,by unfold turns; omega,?_⟩
 rw [e2]
 show (lp mask h (13 + m)).1 = b
 rw [lp_it,e]
theorem pth_dummy (mask:Nat) (h:Int):∀ n,(pth mask h n).dummy = none
 | 0 => rfl
 | n + 1 => by
  show (advM mask (pth mask h n)).dummy = none
  unfold advM
  split
  ·exact pth_dummy mask h n
  ·exact pth_dummy mask h n
end STb
namespace STb
open PySem SetTable
theorem pth_le {mask:Nat} {h:Int} (n:Nat):(pth mask h n).j + (pth mask h n).more≤mask:=by
 have run:∀ i,i≤mask→i + (runEnd mask i - i)≤mask:=fun i hi => by unfold runEnd; split <;> omega
 induction n with
 | zero => exact run _ (Nat.le_of_lt_succ (Nat.mod_lt _ (Nat.succ_pos _)))
 | succ n ih =>
  show (advM mask (pth mask h n)).j + (advM mask (pth mask h n)).more≤mask
  unfold advM
  split
  ·show (pth mask h n).j + 1 + ((pth mask h n).more - 1)≤mask
   omega
  ·exact run _ (Nat.le_of_lt_succ (Nat.mod_lt _ (Nat.succ_pos _)))
theorem pth_j {mask:Nat} {h:Int} (n:Nat):(pth mask h n).j≤mask:=by have:=pth_le (mask:=mask) (h:=h) n; omega
def Ris (xs:Array Nat):Prop:=∀ i k,i < k→k < xs.size→xs.getD i 0 < xs.getD k 0
theorem getD_lt {xs:Array Nat} {i:Nat} (h:i < xs.size) (a b:Nat):xs.getD i a = xs.getD i b:=by simp [Array.getD,h]
theorem Ris.le {xs:Array Nat} (R:Ris xs) {i k:Nat} (h:i≤k) (hk:k < xs.size):xs.getD i 0≤xs.getD k 0:=by
 rcases Nat.lt_or_eq_of_le h with h | h
 ·exact Nat.le_of_lt (R i k h hk)
 ·rw [h]; exact Nat.le_refl _
theorem below_go {xs:Array Nat} {j:Nat} (R:Ris xs):∀ (fuel lo hi:Nat),lo≤hi→hi≤xs.size→hi - lo≤fuel→(∀ i,i < lo→xs.getD i 0 < j)→(∀ i,hi≤i→i < xs.size→j≤xs.getD i 0) →
  below.go xs j fuel lo hi≤xs.size∧(∀ i,i < below.go xs j fuel lo hi→xs.getD i 0 < j)∧∀ i,below.go xs j fuel lo hi≤i→i < xs.size→j≤xs.getD i 0
 | 0,lo,hi,h1,h2,h3,h4,h5 => by
  obtain rfl:lo = hi:=by omega
  exact ⟨h2,h4,h5⟩
 | fuel + 1,lo,hi,h1,h2,h3,h4,h5 => by
  unfold below.go
  split
  ·rename_i hlt
   have m1:(lo + hi) / 2 < hi:=by omega
   have m2:lo≤(lo + hi) / 2:=by omega
   generalize (lo + hi) / 2 = mid at m1 m2
   dsimp only
   rw [getD_lt (by omega) j 0]
   split
   ·rename_i hm
    exact below_go R fuel (mid + 1) hi (by omega) h2 (by omega) (fun i hi2 => Nat.lt_of_le_of_lt (R.le (show i≤mid by omega) (by omega)) hm) h5
   ·rename_i hm
    exact below_go R fuel lo mid m2 (by omega) (by omega) h4 fun i h6 h7 => Nat.le_trans (by omega) (R.le h6 h7)
  ·obtain rfl:lo = hi:=by omega
   exact ⟨h2,h4,h5⟩
theorem below_ok {xs:Array Nat} (R:Ris xs) (j:Nat):below xs j≤xs.size∧(∀ i,i < below xs j→xs.getD i 0 < j)∧∀ i,below xs j≤i→i < xs.size→j≤xs.getD i 0 :=
 below_go R _ _ _ (Nat.zero_le _) (Nat.le_refl _) (Nat.le_refl _) (fun i h => absurd h (Nat.not_lt_zero i)) fun i h1 h2 => by omega
def At (xs:Array Nat) (i j:Nat):Prop:=i < xs.size∧xs.getD i 0 = j
def Tkn (xs:Array Nat) (j:Nat):Prop:=∃ i,At xs i j
theorem At.uniq {xs:Array Nat} (R:Ris xs) {i k j:Nat} (a:At xs i j) (b:At xs k j):i = k:=by
 rcases Nat.lt_trichotomy i k with h | h | h
 ·have:=R i k h b.1
  rw [a.2,b.2] at this
  omega
 ·exact h
 ·have:=R k i h a.1
  rw [a.2,b.2] at this
  omega
theorem get_at {xs:Array Nat} {i j:Nat}:(xs[i]? = some j)↔At xs i j:=by
 unfold At
 constructor
 ·intro h
  obtain ⟨h1,h2⟩:=Array.getElem?_eq_some_iff.mp h
  exact ⟨h1,by simp [Array.getD,h1,h2]⟩
 ·rintro ⟨h1,h2⟩
  rw [Array.getElem?_eq_some_iff]
  exact ⟨h1,by simpa [Array.getD,h1] using h2⟩
theorem slot_live {t:SetTable} (R:Ris t.place) {i j:Nat} (a:At t.place i j):t.slot j = .live i:=by
 obtain ⟨b1,b2,b3⟩:=below_ok R j
 have e:below t.place j = i:=by
  rcases Nat.lt_trichotomy i (below t.place j) with h | h | h
  ·have:=b2 i h
   rw [a.2] at this
   omega
  ·exact h.symm
  ·have h1:=b3 (below t.place j) (Nat.le_refl _) (by have:=a.1; omega)
   have h2:=R (below t.place j) i h a.1
   rw [a.2] at h2
   omega
 unfold SetTable.slot
 rw [e]
 dsimp only
 rw [get_at.mpr a,if_pos (by simp)]
theorem slot_empty {t:SetTable} (R:Ris t.place) (dm:t.dummies = #[]) {j:Nat} (n:¬ Tkn t.place j):t.slot j = .empty:=by
 unfold SetTable.slot
 dsimp only
 rw [if_neg (fun z => n ⟨_,get_at.mp (by simpa using z)⟩),dm]
 rfl
theorem size_insertAt {α:Type} (xs:Array α) {p:Nat} (hp:p≤xs.size) (x:α):(insertAt xs p x).size = xs.size + 1:=by
 unfold insertAt
 simp
 omega
theorem getElem?_insertAt {α:Type} (xs:Array α) {p:Nat} (hp:p≤xs.size) (x:α) (i:Nat):(insertAt xs p x)[i]? = if i < p then xs[i]? else if i = p then some x else xs[i - 1]?:=by
 unfold insertAt
 rw [Array.getElem?_append,Array.size_push,Array.size_extract]
 have e:min p xs.size - 0 = p:=by omega
 rw [e,Array.getElem?_push,Array.size_extract,e]
 by_cases h1:i < p
 ·rw [if_pos (by omega),if_neg (by omega),if_pos h1,Array.getElem?_extract,if_pos (by omega),Nat.zero_add]
 ·rw [if_neg h1]
  by_cases h2:i = p
  ·rw [if_pos (by omega),if_pos h2,if_pos h2]
  ·rw [if_neg (by omega),if_neg h2,Array.getElem?_extract]
   have e2:p + (i - (p + 1)) = i - 1:=by omega
   rw [e2]
   by_cases h3:i - 1 < xs.size
   ·rw [if_pos (by omega)]
   ·rw [if_neg (by omega),Array.getElem?_eq_none (by omega)]
theorem getD_get (xs:Array Nat) (i:Nat):xs.getD i 0 = (xs[i]?).getD 0:=by
 rw [Array.getD_getElem?]
 rfl
theorem getD_ins {xs:Array Nat} {p:Nat} (hp:p≤xs.size) (x i:Nat):(insertAt xs p x).getD i 0 = if i < p then xs.getD i 0 else if i = p then x else xs.getD (i - 1) 0:=by
 rw [getD_get,getElem?_insertAt xs hp,getD_get,getD_get]
 split
 ·rfl
 ·split <;> rfl
theorem ris_ins {xs:Array Nat} (R:Ris xs) {j:Nat} (n:¬ Tkn xs j):Ris (insertAt xs (below xs j) j):=by
 obtain ⟨b1,b2,b3⟩:=below_ok R j
 intro i k hik hk
 rw [size_insertAt xs b1] at hk
 rw [getD_ins b1,getD_ins b1]
 have up:∀ m,below xs j≤m→m < xs.size→j < xs.getD m 0:=fun m h1 h2 => by
  rcases Nat.lt_or_eq_of_le (b3 m h1 h2) with h | h
  ·exact h
  ·exact absurd ⟨m,h2,h.symm⟩ n
 by_cases h1:i < below xs j
 ·rw [if_pos h1]
  by_cases h2:k < below xs j
  ·rw [if_pos h2]; exact R i k hik (by omega)
  ·rw [if_neg h2]
   by_cases h3:k = below xs j
   ·rw [if_pos h3]; exact b2 i h1
   ·rw [if_neg h3]; exact R i (k - 1) (by omega) (by omega)
 ·rw [if_neg h1,if_neg (show ¬ k < below xs j by omega),if_neg (show ¬ k = below xs j by omega)]
  by_cases h3:i = below xs j
  ·rw [if_pos h3]; exact up (k - 1) (by omega) (by omega)
  ·rw [if_neg h3]; exact R (i - 1) (k - 1) (by omega) (by omega)
theorem at_ins {xs:Array Nat} {p:Nat} (hp:p≤xs.size) {x i j:Nat}:At (insertAt xs p x) i j↔if i < p then At xs i j else if i = p then x = j else At xs (i - 1) j∧0 < i:=by
 rw [← get_at,getElem?_insertAt xs hp]
 split
 ·exact get_at
 ·split
  ·simp
  ·rw [get_at]
   exact ⟨fun h => ⟨h,by omega⟩,fun h => h.1⟩
theorem tkn_ins {xs:Array Nat} {p:Nat} (hp:p≤xs.size) {x j:Nat}:Tkn (insertAt xs p x) j↔Tkn xs j∨j = x:=by
 constructor
 ·rintro ⟨i,h⟩
  rw [at_ins hp] at h
  split at h
  ·exact .inl ⟨i,h⟩
  ·split at h
   ·exact .inr h.symm
   ·exact .inl ⟨i - 1,h.1⟩
 ·rintro (⟨i,h⟩ | rfl)
  ·by_cases h1:i < p
   ·exact ⟨i,(at_ins hp).mpr (by rw [if_pos h1]; exact h)⟩
   ·exact ⟨i + 1,(at_ins hp).mpr (by rw [if_neg (by omega),if_neg (by omega)]; exact ⟨h,by omega⟩)⟩
  ·exact ⟨p,(at_ins hp).mpr (by rw [if_neg (by omega),if_pos rfl])⟩
structure Tbl (t:SetTable) (hs:Nat→Int) (n:Nat):Prop where
 size:t.place.size = n
 ris:Ris t.place
 le:∀ j,Tkn t.place j→j≤t.mask
 dm:t.dummies = #[]
 pw:∃ k,t.mask + 1 = 2 ^ k
 room:n≤t.mask
 reach:∀ i j,At t.place i j→∃ m,(pth t.mask (hs i) m).j = j∧∀ m',m' < m→Tkn t.place (pth t.mask (hs i) m').j
theorem pigeon:∀ (n:Nat) (f:Nat→Nat),(∀ j,j≤n→∃ i,i < n∧f i = j)→False
 | 0,f,h => by obtain ⟨i,hi,_⟩:=h 0 (Nat.le_refl _); omega
 | n + 1,f,h => by
  obtain ⟨i0,h0,e0⟩:=h (n + 1) (Nat.le_refl _)
  refine pigeon n (fun i => if i = i0 then f n else f i) fun j hj => ?_
  obtain ⟨i,hi,e⟩:=h j (by omega)
  have ne:i≠i0:=fun z => by rw [z,e0] at e; omega
  by_cases hn:i = n
  ·refine ⟨i0,by omega,?_⟩
   show (if i0 = i0 then f n else f i0) = j
   rw [if_pos rfl,← hn]; exact e
  ·refine ⟨i,by omega,?_⟩
   show (if i = i0 then f n else f i) = j
   rw [if_neg ne]; exact e
theorem Tbl.free {t:SetTable} {hs:Nat→Int} {n:Nat} (T:Tbl t hs n):∃ j,j≤t.mask∧¬ Tkn t.place j:=by
 refine Classical.byContradiction fun z => ?_
 refine pigeon t.mask (fun i => t.place.getD i 0) fun j hj => ?_
 have h1:Tkn t.place j:=Classical.byContradiction fun q => z ⟨j,hj,q⟩
 obtain ⟨i,h2,h3⟩:=h1
 exact ⟨i,by have:=T.room; have:=T.size; omega,h3⟩
def Stp (t:SetTable) (hs:Nat→Int) (h:Int) (m:Nat):Prop:=¬ Tkn t.place (pth t.mask h m).j∨∃ i,At t.place i (pth t.mask h m).j∧hs i = h
theorem probe_go {t:SetTable} {hs:Nat→Int} {n:Nat} (T:Tbl t hs n) {h:Int}:∀ (d fuel m:Nat),d < fuel→Stp t hs h (m + d)→(∀ d',d' < d→¬ Stp t hs h (m + d')) →
  (¬ Tkn t.place (pth t.mask h (m + d)).j∧SetTable.probe.go t hs h fuel (pth t.mask h m) = some (.empty (pth t.mask h (m + d)).j none)) ∨
  ∃ i,At t.place i (pth t.mask h (m + d)).j∧hs i = h∧SetTable.probe.go t hs h fuel (pth t.mask h m) = some (.candidate (pth t.mask h (m + d)).j i (pth t.mask h (m + d + 1)))
 | 0,fuel + 1,m,_,hst,_ => by
  rcases hst with hst | ⟨i,ha,hh⟩
  ·refine .inl ⟨hst,?_⟩
   rw [SetTable.probe.go]
   rw [show m + 0 = m from rfl] at hst ⊢
   rw [slot_empty T.ris T.dm hst]
   show some (Met.empty _ (pth t.mask h m).dummy) = _
   rw [pth_dummy]
  ·refine .inr ⟨i,ha,hh,?_⟩
   rw [SetTable.probe.go]
   rw [show m + 0 = m from rfl] at ha ⊢
   rw [slot_live T.ris ha]
   dsimp only
   rw [if_pos (by rw [hh]; exact beq_self_eq_true _),adv_eq]
   rfl
 | d + 1,fuel + 1,m,hf,hst,hno => by
  have h0:=hno 0 (by omega)
  have ht:Tkn t.place (pth t.mask h m).j:=Classical.byContradiction fun z => h0 (.inl z)
  obtain ⟨i,ha⟩:=ht
  have hne:hs i≠h:=fun z => h0 (.inr ⟨i,ha,z⟩)
  have e:m + 1 + d = m + (d + 1):=by omega
  have ih:=probe_go T d fuel (m + 1) (by omega) (by rw [e]; exact hst) fun d' hd' => by
   have:=hno (d' + 1) (by omega)
   rwa [show m + (d' + 1) = m + 1 + d' by omega] at this
  rw [e] at ih
  have go:SetTable.probe.go t hs h (fuel + 1) (pth t.mask h m) = SetTable.probe.go t hs h fuel (pth t.mask h (m + 1)):=by
   rw [SetTable.probe.go,slot_live T.ris ha]
   dsimp only
   rw [if_neg (by simpa using hne),adv_eq]
   rfl
  rw [go]
  exact ih
theorem least {p:Nat→Prop}:∀ (n:Nat),p n→∃ m,m≤n∧p m∧∀ k,k < m→¬ p k:=by
 intro n
 induction n using Nat.strongRecOn with
 | _ n ih =>
  intro h
  by_cases z:∃ k,k < n∧p k
  ·obtain ⟨k,hk,pk⟩:=z
   obtain ⟨m,h1,h2,h3⟩:=ih k hk pk
   exact ⟨m,by omega,h2,h3⟩
  ·exact ⟨n,Nat.le_refl _,h,fun k hk pk => z ⟨k,hk,pk⟩⟩
theorem Tbl.probe {t:SetTable} {hs:Nat→Int} {n:Nat} (T:Tbl t hs n) (h:Int) {m:Nat} (ahead:∀ m',m' < m→Tkn t.place (pth t.mask h m').j):∃ m2,m≤m2∧m2 < 10 * turns t.mask∧(∀ m',m≤m'→m' < m2→Tkn t.place (pth t.mask h m').j∧∀ i,At t.place i (pth t.mask h m').j→hs i≠h) ∧
  ((¬ Tkn t.place (pth t.mask h m2).j∧t.probe hs h (pth t.mask h m) = some (.empty (pth t.mask h m2).j none)) ∨
   ∃ i,At t.place i (pth t.mask h m2).j∧hs i = h∧t.probe hs h (pth t.mask h m) = some (.candidate (pth t.mask h m2).j i (pth t.mask h (m2 + 1)))):=by
 obtain ⟨b,hb,nb⟩:=T.free
 obtain ⟨k,hk⟩:=T.pw
 obtain ⟨nb',h1,e1⟩:=pth_all hk h hb
 have hm:m≤nb':=Classical.byContradiction fun z => nb (by rw [← e1]; exact ahead nb' (by omega))
 obtain ⟨d,hd,hs1,hs2⟩:=least (p:=fun d => Stp t hs h (m + d)) (nb' - m) (.inl (by rw [show m + (nb' - m) = nb' by omega,e1]; exact nb))
 refine ⟨m + d,by omega,by omega,fun m' g1 g2 => ?_,probe_go T d _ m (by omega) hs1 hs2⟩
 have:=hs2 (m' - m) (by omega)
 rw [show m + (m' - m) = m' by omega] at this
 refine ⟨Classical.byContradiction fun z => this (.inl z),fun i ha z => this (.inr ⟨i,ha,z⟩)⟩
end STb
namespace STb
open PySem SetTable
def Emp (owner:Array (Option Nat)) (j:Nat):Prop:=(owner.getD j (some 0)).isNone = true
theorem free_go {owner:Array (Option Nat)} {mask:Nat} {h:Int} {mb:Nat} (nb:Emp owner (lp mask h mb).1):∀ (fuel m n:Nat),mb < m + fuel→m≤mb→pth mask h n = atRun mask (lp mask h m)→(∀ n',n' < n→¬ Emp owner (pth mask h n').j) →
  ∃ n2,layClean.free mask owner fuel (lp mask h m).1 (lp mask h m).2 = some (pth mask h n2).j∧Emp owner (pth mask h n2).j∧∀ n',n' < n2→¬ Emp owner (pth mask h n').j
 | 0,m,n,hf,hm,_,_ => absurd hf (by omega)
 | fuel + 1,m,n,hf,hm,hn,ahead => by
  have run:=pth_run hn
  have ge:(lp mask h m).1≤runEnd mask (lp mask h m).1:=by unfold runEnd; split <;> omega
  have jd:∀ d,d≤runEnd mask (lp mask h m).1 - (lp mask h m).1→(pth mask h (n + d)).j = (lp mask h m).1 + d:=fun d hd => by rw [run d hd]
  rw [layClean.free]
  cases e:(List.range (runEnd mask (lp mask h m).1 + 1 - (lp mask h m).1)).find? fun k => (owner.getD ((lp mask h m).1 + k) (some 0)).isNone with
  | some k =>
   obtain ⟨h1,as,bs,h2,h3⟩:=List.find?_eq_some_iff_append.mp e
   have hk:k∈List.range (runEnd mask (lp mask h m).1 + 1 - (lp mask h m).1):=by rw [h2]; simp
   rw [List.mem_range] at hk
   have hlen:as.length = k:=by
    have h4:(List.range (runEnd mask (lp mask h m).1 + 1 - (lp mask h m).1))[as.length]? = some k:=by rw [h2]; simp
    have h5:as.length < (List.range (runEnd mask (lp mask h m).1 + 1 - (lp mask h m).1)).length:=(List.getElem?_eq_some_iff.mp h4).1
    rw [List.length_range] at h5
    rw [List.getElem?_range h5] at h4
    exact Option.some.inj h4
   refine ⟨n + k,?_,?_,fun n' hn' => ?_⟩
   ·rw [jd k (by omega)]
   ·rw [jd k (by omega)]; exact h1
   ·by_cases hl:n' < n
    ·exact ahead n' hl
    ·obtain ⟨d,rfl⟩:∃ d,n' = n + d:=⟨n' - n,by omega⟩
     rw [jd d (by omega)]
     intro z
     have hd:d∈as:=by
      have h5:d < (List.range (runEnd mask (lp mask h m).1 + 1 - (lp mask h m).1)).length:=by rw [List.length_range]; omega
      have h6:(List.range (runEnd mask (lp mask h m).1 + 1 - (lp mask h m).1))[d]? = some d:=List.getElem?_range (by rw [List.length_range] at h5; exact h5)
      rw [h2,List.getElem?_append_left (by omega)] at h6
      exact List.mem_of_getElem? h6
     have:=h3 d hd
     rw [z] at this
     cases this
  | none =>
   dsimp only
   have none':=List.find?_eq_none.mp e
   have hall:∀ d,d≤runEnd mask (lp mask h m).1 - (lp mask h m).1→¬ Emp owner ((lp mask h m).1 + d):=fun d hd => none' d (List.mem_range.mpr (by omega))
   have hlt:m < mb:=by
    rcases Nat.lt_or_eq_of_le hm with h1 | h1
    ·exact h1
    ·have:=hall 0 (Nat.zero_le _)
     rw [Nat.add_zero,h1] at this
     exact absurd nb this
   refine free_go nb fuel (m + 1) (n + (runEnd mask (lp mask h m).1 - (lp mask h m).1) + 1) (by omega) (by omega) ?_ fun n' hn' => ?_
   ·show advM mask (pth mask h (n + (runEnd mask (lp mask h m).1 - (lp mask h m).1))) = _
    rw [run _ (Nat.le_refl _)]
    unfold advM
    rw [if_neg (by show ¬ (runEnd mask (lp mask h m).1 - (lp mask h m).1 - (runEnd mask (lp mask h m).1 - (lp mask h m).1) > 0); omega)]
    rfl
   ·by_cases hl:n' < n
    ·exact ahead n' hl
    ·obtain ⟨d,rfl⟩:∃ d,n' = n + d:=⟨n' - n,by omega⟩
     rw [jd d (by omega)]
     exact hall d (by omega)
theorem free_ok {owner:Array (Option Nat)} {mask k:Nat} (hm:mask + 1 = 2 ^ k) (h:Int) {b:Nat} (hb:b≤mask) (nb:Emp owner b):∃ n2,layClean.free mask owner (turns mask) (bits h % (mask + 1)) (bits h) = some (pth mask h n2).j∧Emp owner (pth mask h n2).j∧∀ n',n' < n2→¬ Emp owner (pth mask h n').j:=by
 obtain ⟨m,m1,e⟩:=itF_all hm (lp_le mask h 13) hb
 exact free_go (mb:=13 + m) (by rw [lp_it,e]; exact nb) (turns mask) 0 0 (by unfold turns; omega) (by omega) rfl fun n' h => absurd h (Nat.not_lt_zero _)
structure Own (mask:Nat) (hs:Nat→Int) (owner:Array (Option Nat)) (r:Nat):Prop where
 size:owner.size = mask + 1
 val:∀ (j k:Nat),owner[j]? = some (some k)→k < r
 ex:∀ k:Nat,k < r→∃ j:Nat,owner[j]? = some (some k)
 uq:∀ (j j' k:Nat),owner[j]? = some (some k)→owner[j']? = some (some k)→j = j'
 reach:∀ (j k:Nat),owner[j]? = some (some k)→∃ n,(pth mask (hs k) n).j = j∧∀ n',n' < n→∃ k':Nat,owner[(pth mask (hs k) n').j]? = some (some k')
theorem emp_iff {owner:Array (Option Nat)} {j:Nat} (hj:j < owner.size):Emp owner j↔owner[j]? = some none:=by
 unfold Emp
 rw [Array.getElem?_eq_getElem hj]
 simp only [Array.getD,hj,dite_true]
 show (owner[j]).isNone = true↔some owner[j] = some none
 generalize owner[j] = x
 cases x <;> simp
theorem not_emp {owner:Array (Option Nat)} {j:Nat} (hj:j < owner.size) (h:¬ Emp owner j):∃ k,owner[j]? = some (some k):=by
 rw [emp_iff hj,Array.getElem?_eq_getElem hj] at h
 rw [Array.getElem?_eq_getElem hj]
 cases e:owner[j] with
 | none => rw [e] at h; exact absurd rfl h
 | some k => exact ⟨k,rfl⟩
theorem Own.free {mask:Nat} {hs:Nat→Int} {owner:Array (Option Nat)} {r:Nat} (O:Own mask hs owner r) (hr:r≤mask):∃ j,j≤mask∧Emp owner j:=by
 refine Classical.byContradiction fun z => ?_
 refine pigeon mask (fun i => if h:i < r then Classical.choose (O.ex i h) else 0) fun j hj => ?_
 have hne:¬ Emp owner j:=fun q => z ⟨j,hj,q⟩
 obtain ⟨k,hk⟩:=not_emp (by rw [O.size]; omega) hne
 have hkr:=O.val j k hk
 refine ⟨k,by omega,?_⟩
 show (if h:k < r then Classical.choose (O.ex k h) else 0) = j
 rw [dif_pos hkr]
 exact O.uq _ _ k (Classical.choose_spec (O.ex k hkr)) hk
theorem Own.step {mask p:Nat} {hs:Nat→Int} {owner:Array (Option Nat)} {r:Nat} (hm:mask + 1 = 2 ^ p) (O:Own mask hs owner r) (hr:r≤mask):∃ j,layClean.free mask owner (turns mask) (bits (hs r) % (mask + 1)) (bits (hs r)) = some j∧Own mask hs (owner.setIfInBounds j (some r)) (r + 1):=by
 obtain ⟨b,hb,nb⟩:=O.free hr
 obtain ⟨n2,e1,e2,e3⟩:=free_ok hm (hs r) hb nb
 refine ⟨_,e1,?_⟩
 have hj:(pth mask (hs r) n2).j < owner.size:=by rw [O.size]; have:=pth_j (mask:=mask) (h:=hs r) n2; omega
 have ej:=(emp_iff hj).mp e2
 generalize hjj:(pth mask (hs r) n2).j = j at hj ej
 have get:∀ i:Nat,(owner.setIfInBounds j (some r))[i]? = if i = j then some (some r) else owner[i]?:=fun i => by
  rw [Array.getElem?_setIfInBounds]
  by_cases h:j = i
  ·subst h
   rw [if_pos rfl,if_pos hj,if_pos rfl]
  ·rw [if_neg h,if_neg (fun z => h z.symm)]
 have keep:∀ (i k:Nat),owner[i]? = some (some k)→(owner.setIfInBounds j (some r))[i]? = some (some k):=fun i k h => by
  rw [get,if_neg (fun z => by rw [z,ej] at h; cases h)]
  exact h
 refine ⟨by rw [Array.size_setIfInBounds]; exact O.size,fun i k h => ?_,fun k hk => ?_,fun i i' k h h' => ?_,fun i k h => ?_⟩
 ·rw [get] at h
  split at h
  ·cases h; omega
  ·have:=O.val i k h; omega
 ·by_cases h:k = r
  ·exact ⟨j,by rw [get,if_pos rfl,h]⟩
  ·obtain ⟨i,hi⟩:=O.ex k (by omega)
   exact ⟨i,keep i k hi⟩
 ·rw [get] at h h'
  split at h
  ·cases h
   split at h'
   ·rename_i a b; rw [a,b]
   ·have:=O.val i' r h'; omega
  ·split at h'
   ·cases h'; have:=O.val i r h; omega
   ·exact O.uq i i' k h h'
 ·rw [get] at h
  split at h
  ·rename_i e
   cases h
   refine ⟨n2,by rw [hjj,e],fun n' hn' => ?_⟩
   obtain ⟨k',hk'⟩:=not_emp (by rw [O.size]; have:=pth_j (mask:=mask) (h:=hs r) n'; omega) (e3 n' hn')
   exact ⟨k',keep _ _ hk'⟩
  ·obtain ⟨n,a1,a2⟩:=O.reach i k h
   refine ⟨n,a1,fun n' hn' => ?_⟩
   obtain ⟨k',hk'⟩:=a2 n' hn'
   exact ⟨k',keep _ _ hk'⟩
theorem Own.start (mask:Nat) (hs:Nat→Int):Own mask hs (Array.replicate (mask + 1) none) 0:=by
 have no:∀ (j k:Nat),(Array.replicate (mask + 1) (none:Option Nat))[j]? = some (some k)→False:=fun j k h => by
  rw [Array.getElem?_replicate] at h
  split at h <;> cases h
 exact ⟨by simp,fun j k h => (no j k h).elim,fun k h => absurd h (Nat.not_lt_zero _),fun j j' k h => (no j k h).elim,fun j k h => (no j k h).elim⟩
end STb
namespace STb
open PySem SetTable
theorem lay_fold {mask p:Nat} {hs:Nat→Int} (hm:mask + 1 = 2 ^ p) {f:Option (Array (Option Nat) × Nat)→Int→Option (Array (Option Nat) × Nat)}
  (hf:∀ owner k h,f (some (owner,k)) h = (layClean.free mask owner (turns mask) (bits h % (mask + 1)) (bits h)).bind fun j => some (owner.setIfInBounds j (some k),k + 1)) :
  ∀ (l:List Int) (r:Nat) (owner:Array (Option Nat)),(∀ i h,l[i]? = some h→hs (r + i) = h)→r + l.length≤mask + 1→Own mask hs owner r→∃ owner',l.foldl f (some (owner,r)) = some (owner',r + l.length)∧Own mask hs owner' (r + l.length)
 | [],r,owner,_,_,O => ⟨owner,rfl,O⟩
 | h :: l,r,owner,hh,hr,O => by
  have h0:=hh 0 h rfl
  rw [Nat.add_zero] at h0
  rw [List.length_cons] at hr
  obtain ⟨j,e,O'⟩:=O.step hm (by omega)
  rw [h0] at e
  obtain ⟨o2,e2,O2⟩:=lay_fold hm hf l (r + 1) _ (fun i x hx => by
   have:=hh (i + 1) x hx
   rwa [show r + (i + 1) = r + 1 + i by omega] at this) (by omega) O'
  refine ⟨o2,?_,by rw [List.length_cons,show r + (l.length + 1) = r + 1 + l.length by omega]; exact O2⟩
  rw [List.foldl_cons,hf,e,List.length_cons,show r + (l.length + 1) = r + 1 + l.length by omega]
  exact e2
theorem layClean_ok {mask p:Nat} (hm:mask + 1 = 2 ^ p) (hashes:Array Int) (hn:hashes.size≤mask + 1):∃ owner,layClean mask hashes = some owner∧Own mask (fun i => hashes.getD i 0) owner hashes.size:=by
 unfold layClean
 obtain ⟨o,e,O⟩:=lay_fold (hs:=fun i => hashes.getD i 0) hm (f:=fun acc h => do
  let (owner,k) ← acc
  let j ← layClean.free mask owner (turns mask) (bits h % (mask + 1)) (bits h)
  pure (owner.setIfInBounds j (some k),k + 1)) (fun owner k h => rfl) hashes.toList 0 (Array.replicate (mask + 1) none) (fun i h hi => by
   rw [Nat.zero_add]
   rw [Array.getElem?_toList] at hi
   obtain ⟨h1,h2⟩:=Array.getElem?_eq_some_iff.mp hi
   simp [Array.getD,h1,h2]) (by rw [Array.length_toList]; omega) (Own.start mask _)
 rw [Nat.zero_add,Array.length_toList] at e O
 refine ⟨o,?_,O⟩
 rw [← Array.foldl_toList,e]
 rfl
def liveOf (mask:Nat) (owner:Array (Option Nat)):List (Nat × Nat):=(List.range (mask + 1)).filterMap fun j => (owner.getD j none).map (j,·)
theorem mem_live {mask:Nat} {hs:Nat→Int} {owner:Array (Option Nat)} {n:Nat} (O:Own mask hs owner n) {j k:Nat}:(j,k)∈liveOf mask owner↔owner[j]? = some (some k):=by
 unfold liveOf
 rw [List.mem_filterMap]
 constructor
 ·rintro ⟨a,ha,e⟩
  obtain ⟨x,e1,e2⟩:=Option.map_eq_some_iff.mp e
  cases e2
  rw [List.mem_range] at ha
  have hs:j < owner.size:=by rw [O.size]; exact ha
  rw [Array.getElem?_eq_getElem hs]
  simp only [Array.getD,hs,dite_true] at e1
  rw [← e1]; rfl
 ·intro h
  obtain ⟨h1,h2⟩:=Array.getElem?_eq_some_iff.mp h
  refine ⟨j,List.mem_range.mpr (by rw [← O.size]; exact h1),?_⟩
  simp only [Array.getD,h1,dite_true]
  show Option.map _ owner[j] = _
  rw [h2]; rfl
theorem live_up (mask:Nat) (owner:Array (Option Nat)):(liveOf mask owner).Pairwise fun a b => a.1 < b.1:=by
 unfold liveOf
 refine List.Pairwise.filterMap _ (fun a a' h b hb b' hb' => ?_) List.pairwise_lt_range
 obtain ⟨x,_,rfl⟩:=Option.map_eq_some_iff.mp hb
 obtain ⟨x',_,rfl⟩:=Option.map_eq_some_iff.mp hb'
 exact h
theorem live_perm {mask:Nat} {hs:Nat→Int} {owner:Array (Option Nat)} {n:Nat} (O:Own mask hs owner n):((liveOf mask owner).map (·.2)).Perm (List.range n):=by
 refine (List.perm_ext_iff_of_nodup ?_ List.nodup_range).mpr fun k => ?_
 ·refine List.pairwise_map.mpr ((live_up mask owner).imp_of_mem fun {a b} ha hb h e => ?_)
  have h1:=(mem_live O).mp (show (a.1,a.2)∈liveOf mask owner from ha)
  have h2:=(mem_live O).mp (show (b.1,b.2)∈liveOf mask owner from hb)
  rw [e] at h1
  have:=O.uq _ _ _ h1 h2
  omega
 ·rw [List.mem_map,List.mem_range]
  constructor
  ·rintro ⟨⟨j,k'⟩,h,rfl⟩
   exact O.val j k' ((mem_live O).mp h)
  ·intro hk
   obtain ⟨j,hj⟩:=O.ex k hk
   exact ⟨(j,k),(mem_live O).mpr hj,rfl⟩
theorem live_at {l:List (Nat × Nat)} {i j:Nat} (a:At (l.map (·.1)).toArray i j):∃ k,l[i]? = some (j,k):=by
 have:=get_at.mpr a
 rw [List.getElem?_toArray,List.getElem?_map] at this
 obtain ⟨x,h1,h2⟩:=Option.map_eq_some_iff.mp this
 exact ⟨x.2,by rw [h1,← h2]⟩
theorem at_live {l:List (Nat × Nat)} {i j k:Nat} (h:l[i]? = some (j,k)):At (l.map (·.1)).toArray i j:=by
 refine get_at.mp ?_
 rw [List.getElem?_toArray,List.getElem?_map,h]; rfl
theorem ris_live {l:List (Nat × Nat)} (h:l.Pairwise fun a b => a.1 < b.1):Ris (l.map (·.1)).toArray:=by
 intro i k hik hk
 rw [List.size_toArray,List.length_map] at hk
 rw [getD_get,getD_get,List.getElem?_toArray,List.getElem?_toArray,List.getElem?_map,List.getElem?_map,List.getElem?_eq_getElem (by omega),List.getElem?_eq_getElem hk]
 exact List.pairwise_iff_getElem.mp h i k (by omega) hk hik
theorem order_get {α:Type} {es:Array α}:∀ {l:List Nat},(∀ k∈l,k < es.size)→∀ i:Nat,(l.filterMap (fun k:Nat => es[k]?))[i]? = (l[i]?).bind (fun k:Nat => es[k]?)
 | [],_,i => by simp
 | k :: l,h,i => by
  have hk:=h k (List.mem_cons_self ..)
  have e:es[k]? = some es[k]:=Array.getElem?_eq_getElem hk
  rw [List.filterMap_cons,e]
  dsimp only
  cases i with
  | zero => simp [e]
  | succ i =>
   rw [List.getElem?_cons_succ,List.getElem?_cons_succ]
   exact order_get (fun k hk => h k (List.mem_cons_of_mem _ hk)) i
structure Laid (mask n:Nat) (hashes:Array Int) (place:Array Nat) (order:Array Nat):Prop where
 size:place.size = n
 ris:Ris place
 le:∀ j,Tkn place j→j≤mask
 perm:order.toList.Perm (List.range n)
 reach:∀ i j,At place i j→∃ k,order[i]? = some k∧∃ m,(pth mask (hashes.getD k 0) m).j = j∧∀ m',m' < m→Tkn place (pth mask (hashes.getD k 0) m').j
theorem laid_ok {mask p:Nat} (hm:mask + 1 = 2 ^ p) (hashes:Array Int) (hn:hashes.size≤mask + 1) (finger moves:Nat) (led plain:Bool) :
  ∃ place order,laid mask finger moves led plain hashes = some ({ mask,place,dummies:=#[],finger,led,moves,plain },order)∧Laid mask hashes.size hashes place order:=by
 obtain ⟨owner,e,O⟩:=layClean_ok hm hashes hn
 have lp:=live_perm O
 have mem:∀ j k,(j,k)∈liveOf mask owner↔owner[j]? = some (some k):=fun j k => mem_live O
 have tk:∀ j,Tkn ((liveOf mask owner).map (·.1)).toArray j↔∃ k:Nat,owner[j]? = some (some k):=fun j => by
  constructor
  ·rintro ⟨i,a⟩
   obtain ⟨k,hk⟩:=live_at a
   exact ⟨k,(mem j k).mp (List.mem_of_getElem? hk)⟩
  ·rintro ⟨k,hk⟩
   obtain ⟨i,hi,ei⟩:=List.getElem_of_mem ((mem j k).mpr hk)
   exact ⟨i,at_live (k:=k) (by rw [List.getElem?_eq_getElem hi,ei])⟩
 refine ⟨((liveOf mask owner).map (·.1)).toArray,((liveOf mask owner).map (·.2)).toArray,?_,?_,ris_live (live_up mask owner),fun j hj => ?_,lp,fun i j a => ?_⟩
 ·unfold laid
  rw [e]
  rfl
 ·have:=lp.length_eq
  rw [List.length_map,List.length_range] at this
  rw [List.size_toArray,List.length_map,this]
 ·obtain ⟨k,hk⟩:=(tk j).mp hj
  have:=(Array.getElem?_eq_some_iff.mp hk).1
  rw [O.size] at this
  omega
 ·obtain ⟨k,hk⟩:=live_at a
  obtain ⟨m,h1,h2⟩:=O.reach j k ((mem j k).mp (List.mem_of_getElem? hk))
  refine ⟨k,by rw [List.getElem?_toArray,List.getElem?_map,hk]; rfl,m,h1,fun m' hm' => ?_⟩
  exact (tk _).mpr (h2 m' hm')
theorem sizeAbove_go (n:Nat):∀ (fuel q:Nat),n < 2 ^ (q + fuel)→∃ k,sizeAbove.go n fuel (2 ^ q) = 2 ^ k∧q≤k∧n < 2 ^ k∧(k = q∨2 ^ k≤2 * n)
 | 0,q,h => ⟨q,rfl,Nat.le_refl _,h,.inl rfl⟩
 | fuel + 1,q,h => by
  rw [sizeAbove.go]
  split
  ·rename_i hle
   obtain ⟨k,h1,h2,h3,h4⟩:=sizeAbove_go n fuel (q + 1) (by rw [show q + 1 + fuel = q + (fuel + 1) by omega]; exact h)
   refine ⟨k,by rw [← h1,Nat.pow_succ],by omega,h3,.inr ?_⟩
   rcases h4 with h4 | h4
   ·rw [h4,Nat.pow_succ]; omega
   ·exact h4
  ·rename_i hlt
   exact ⟨q,rfl,Nat.le_refl _,by omega,.inl rfl⟩
theorem sizeAbove_ok {n:Nat} (h:n < 2 ^ 60):∃ k,sizeAbove n = 2 ^ k∧3≤k∧n < 2 ^ k∧(k = 3∨2 ^ k≤2 * n):=by
 have:=sizeAbove_go n 64 3 (Nat.lt_of_lt_of_le h (Nat.pow_le_pow_right (by decide) (by decide)))
 exact this
end STb
namespace STb
open PySem PySem.Spec PyProof.Rows L2 SetTable
section
variable {P:Program} {w:World} {A:Around} {E:Value→Shared→Prop} {s:Shared}
abbrev tk (P:Program) (w:World):HeapKind P w (List Key):=tupleKind (mixKind P w)
theorem items_scan {ks:List Key} {vs:List Value} (h:ItemsAre (mixKind P w) ks vs):∀ v∈vs,v.scannable = true:=by
 induction h with
 | nil => intro v hv; cases hv
 | cons h1 _ ih =>
  intro v hv
  rcases List.mem_cons.mp hv with rfl | hv
  ·rcases keyIs_shape h1 with ⟨i,t,_,rfl⟩ | ⟨x,t,_,rfl⟩ <;> rfl
  ·exact ih v hv
theorem hash_tup {k:List Key} {a:Addr} {Q:Bool→Shared→Prop} (hk:(tk P w).is s.heap k a) (h:∀ b,Q b s):wpAny (model P w) A (hashByValue 8 (.ref a)) Q E s:=by
 have hk:IsTupleKey (mixKind P w) s.heap k a:=hk
 have hT:=hk.typeIs
 obtain ⟨o,items,n,ho,_,hd,hi⟩:=hk
 unfold hashByValue
 refine wpAny_bind (wpAny_specialOf hT PySem.F.slot_tuple_hash.lookup ?_)
 show wpAny _ _ (seqItems? (.ref a) >>= _) _ _ s
 refine wpAny_bind (wpAny_seqItems ho hd ?_)
 refine wpAny_bind ?_
 show wpAny _ _ (forIn items _ _) _ _ s
 rw [← Array.forIn_toList]
 refine wpAny_forIn_list _ (fun rest r s' => r.1 = none∧s' = s∧∀ v∈rest,v.scannable = true) _ ?_ ?_ _ _ ⟨rfl,rfl,items_scan hi⟩
 ·rintro v rest r s' ⟨hr,rfl,hall⟩
  rw [hashByValue_scannable _ (hall v List.mem_cons_self)]
  refine wpAny_bind (wpAny_pure ?_)
  cases plainKind v with
  | true =>
   simp only [Bool.not_true,Bool.false_eq_true,if_false]
   exact wpAny_pure ⟨rfl,rfl,fun u hu' => hall u (List.mem_cons_of_mem _ hu')⟩
  | false =>
   simp only [Bool.not_false,if_true]
   first | exact wpAny_pure (wpAny_pure (h _)) | exact wpAny_bind (wpAny_pure (wpAny_pure (h _))) | exact wpAny_pure (h _)
 ·rintro ⟨r1,r2⟩ s' ⟨hr,rfl,_⟩
  simp only at hr
  subst hr
  exact wpAny_pure (h _)
def Ints (k:List Key):Prop:=∀ x∈k,∃ i,x = Sum.inl i
theorem items_plain {ks:List Key} {vs:List Value} (h:ItemsAre (mixKind P w) ks vs) (hi:Ints ks):∀ v∈vs,v.scannable = true∧plainKind v = true:=by
 induction h with
 | nil => intro v hv; cases hv
 | cons h1 _ ih =>
  intro v hv
  rcases List.mem_cons.mp hv with rfl | hv
  ·obtain ⟨i,e0⟩:=hi _ List.mem_cons_self
   rcases keyIs_shape h1 with ⟨i,t,_,rfl⟩ | ⟨x,t,e,rfl⟩
   ·exact ⟨rfl,rfl⟩
   ·rw [e0] at e; cases e
  ·exact ih (fun x hx => hi x (List.mem_cons_of_mem _ hx)) v hv
theorem hash_tupI {k:List Key} {a:Addr} {Q:Bool→Shared→Prop} (hk:(tk P w).is s.heap k a) (h:∀ b,(Ints k→b = true)→Q b s):wpAny (model P w) A (hashByValue 8 (.ref a)) Q E s:=by
 by_cases hz:Ints k
 ·have h:=h true fun _ => rfl
  have hk:IsTupleKey (mixKind P w) s.heap k a:=hk
  have hT:=hk.typeIs
  obtain ⟨o,items,n,ho,_,hd,hi⟩:=hk
  unfold hashByValue
  refine wpAny_bind (wpAny_specialOf hT PySem.F.slot_tuple_hash.lookup ?_)
  show wpAny _ _ (seqItems? (.ref a) >>= _) _ _ s
  refine wpAny_bind (wpAny_seqItems ho hd ?_)
  refine wpAny_bind ?_
  show wpAny _ _ (forIn items _ _) _ _ s
  rw [← Array.forIn_toList]
  refine wpAny_forIn_list _ (fun rest r s' => r.1 = none∧s' = s∧∀ v∈rest,v.scannable = true∧plainKind v = true) _ ?_ ?_ _ _ ⟨rfl,rfl,items_plain hi hz⟩
  ·rintro v rest r s' ⟨hr,rfl,hall⟩
   rw [hashByValue_scannable _ (hall v List.mem_cons_self).1,(hall v List.mem_cons_self).2]
   refine wpAny_bind (wpAny_pure ?_)
   simp only [Bool.not_true,Bool.false_eq_true,if_false]
   exact wpAny_pure ⟨rfl,rfl,fun u hu' => hall u (List.mem_cons_of_mem _ hu')⟩
  ·rintro ⟨r1,r2⟩ s' ⟨hr,rfl,_⟩
   simp only at hr
   subst hr
   exact wpAny_pure h
 ·exact hash_tup hk fun b => h b fun z => absurd z hz
theorem stmt_val (n:Nat) {v:Value} (h:carriedByValue v = true):ofAClassStatement n v = pure false:=by
 cases v with
 | ref a => cases h
 | _ => first | rfl | (unfold ofAClassStatement; rfl)
theorem stmt_tup {k:List Key} {a:Addr} {Q:Bool→Shared→Prop} (hk:(tk P w).is s.heap k a) (h:Q false s):wpAny (model P w) A (ofAClassStatement 8 (.ref a)) Q E s:=by
 have hk:IsTupleKey (mixKind P w) s.heap k a:=hk
 have hT:=hk.typeIs
 obtain ⟨o,items,n,ho,_,hd,hi⟩:=hk
 unfold ofAClassStatement
 refine wpAny_bind (wpAny_typeOf hT ?_)
 dsimp only
 rw [if_pos (show (("tuple":String) == "tuple") = true by decide)]
 refine wpAny_bind (wpAny_pure ?_)
 simp only [Bool.not_true,Bool.false_eq_true,if_false]
 refine wpAny_bind (wpAny_seqItems ho hd ?_)
 dsimp only
 refine wpAny_bind ?_
 rw [← Array.forIn_toList]
 refine wpAny_forIn_list _ (fun rest r s' => r.1 = none∧s' = s∧∀ v∈rest,carriedByValue v = true) _ ?_ ?_ _ _ ⟨rfl,rfl,hi.byValue⟩
 ·rintro v rest r s' ⟨hr,rfl,hall⟩
  rw [stmt_val _ (hall v List.mem_cons_self)]
  refine wpAny_bind (wpAny_pure ?_)
  simp only [Bool.false_eq_true,if_false]
  exact wpAny_pure ⟨rfl,rfl,fun u hu' => hall u (List.mem_cons_of_mem _ hu')⟩
 ·rintro ⟨r1,r2⟩ s' ⟨hr,rfl,_⟩
  simp only at hr
  subst hr
  exact wpAny_pure h
theorem seen_tup {k:List Key} {a:Addr} {stored:List Value} {Q:Bool→Shared→Prop} (hk:(tk P w).is s.heap k a) (hst:∀ v∈stored,∃ k' b,v = .ref b∧(tk P w).is s.heap k' b) (h:Q false s):wpAny (model P w) A (searchCouldBeSeen (.ref a) stored) Q E s:=by
 unfold searchCouldBeSeen
 refine wpAny_bind ?_
 refine wpAny_forIn_list _ (fun rest r s' => s' = s∧r.1 = none∧∀ v∈rest,∃ k' b,v = .ref b∧(tk P w).is s.heap k' b) _ ?_ ?_ _ _ ⟨rfl,rfl,hst⟩
 ·rintro x rest r s' ⟨rfl,hr,hall⟩
  obtain ⟨k',b,rfl,hb⟩:=hall x List.mem_cons_self
  have hall':∀ v∈rest,∃ k' b,v = .ref b∧(tk P w).is s'.heap k' b:=fun v hv => hall v (List.mem_cons_of_mem _ hv)
  dsimp only
  split
  ·exact wpAny_pure ⟨rfl,rfl,hall'⟩
  ·refine wpAny_bind ((tk P w).quiet hk ?_)
   simp only [Bool.not_true,Bool.false_eq_true,if_false]
   refine wpAny_bind ((tk P w).quiet hb ?_)
   simp only [Bool.not_true,Bool.false_eq_true,if_false]
   refine wpAny_bind (stmt_tup hk ?_)
   simp only [Bool.false_eq_true,if_false]
   refine wpAny_bind (stmt_tup hb ?_)
   simp only [Bool.false_eq_true,if_false]
   exact wpAny_pure ⟨rfl,rfl,hall'⟩
 ·rintro ⟨r1,r2⟩ s' ⟨rfl,hr,_⟩
  simp only at hr
  subst hr
  exact wpAny_pure h
end
end STb
namespace STb
open PySem PySem.Spec PyProof.Rows L2 SetTable
section
variable {P:Program} {w:World} {A:Around} {E:Value→Shared→Prop} {s:Shared}
def hsOf (es:Array (Int × Value)) (i:Nat):Int:=(es[i]?.map (·.1)).getD 0
theorem Tbl.fits {t:SetTable} {hs:Nat→Int} {n:Nat} (T:Tbl t hs n):t.fits n = true:=by
 unfold SetTable.fits SetTable.fill
 rw [T.dm,T.size]
 have:=T.room
 simp
 exact this
theorem Tbl.odd {t:SetTable} {hs:Nat→Int} {n:Nat} (T:Tbl t hs n) (h1:1≤n∨1≤t.mask):t.gaveWay = false:=by
 unfold SetTable.gaveWay
 obtain ⟨k,hk⟩:=T.pw
 have:=T.room
 cases k with
 | zero => simp at hk; omega
 | succ k =>
  rw [Nat.pow_succ] at hk
  have:t.mask % 2 = 1:=by omega
  rw [this]; rfl
structure SIn (P:Program) (w:World) (h:Heap) (a:Addr) (o:Obj) (es:Array (Int × Value)) (ep:Nat) (t:SetTable) (xs:List (List Key × Addr)):Prop where
 get:h.get? a = some o
 ex:o.ExactSet
 data:o.data = .set es ep t
 ent:es.toList = xs.map fun x => ((tk P w).hash x.1,Value.ref x.2)
 tb:Tbl t (hsOf es) es.size
 msk:7≤t.mask∧t.mask≤9000
 load:es.size * 5 < t.mask * 3
 is:∀ x∈xs,(tk P w).is h x.1 x.2
 nd:(xs.map (·.1)).Nodup
theorem SIn.at {h:Heap} {a:Addr} {o:Obj} {es:Array (Int × Value)} {ep:Nat} {t:SetTable} {xs:List (List Key × Addr)} (I:SIn P w h a o es ep t xs) (i:Nat):es[i]? = (xs[i]?).map fun x => ((tk P w).hash x.1,Value.ref x.2):=by
 rw [← Array.getElem?_toList,I.ent,List.getElem?_map]
theorem search_from {a b:Addr} {o:Obj} {es:Array (Int × Value)} {ep:Nat} {t:SetTable} {xs:List (List Key × Addr)} {k:List Key} {Q:SetFound→Shared→Prop} (hu:A.units < cLine) (I:SIn P w s.heap a o es ep t xs) (hk:(tk P w).is s.heap k b)
  (q1:k∈xs.map (·.1)→Q (.there none) s) (q2:k ∉ xs.map (·.1)→∀ n,¬ Tkn t.place (pth t.mask ((tk P w).hash k) n).j→(∀ m',m' < n→Tkn t.place (pth t.mask ((tk P w).hash k) m').j)→Q (.free (pth t.mask ((tk P w).hash k) n).j false) s) :
  ∀ (fuel m:Nat) (stand:Option Probe),10 * turns t.mask - m < fuel→stand.getD (t.probeStart ((tk P w).hash k)) = pth t.mask ((tk P w).hash k) m →
   (∀ m',m' < m→Tkn t.place (pth t.mask ((tk P w).hash k) m').j∧∀ i,At t.place i (pth t.mask ((tk P w).hash k) m').j→∀ x,xs[i]? = some x→x.1≠k) →
   wpAny (model P w) A (setSearchFrom a (.ref b) ((tk P w).hash k) true fuel stand) Q E s
 | 0,m,stand,hf,_,_ => absurd hf (by omega)
 | fuel + 1,m,stand,hf,hst,ahead => by
  have T:=I.tb
  obtain ⟨m2,g1,g2,g3,g4⟩:=T.probe ((tk P w).hash k) (m:=m) fun m' h => (ahead m' h).1
  unfold setSearchFrom
  refine wpAny_bind (wpAny_setState_of I.get I.data T.fits ?_)
  dsimp only
  rw [T.odd (.inr (by have:=I.msk.1; omega))]
  simp only [Bool.false_eq_true,if_false]
  rw [hst]
  have lenx:es.size = xs.length:=by rw [← Array.length_toList,I.ent,List.length_map]
  have hsx:∀ i x,xs[i]? = some x→hsOf es i = (tk P w).hash x.1:=fun i x hx => by unfold hsOf; rw [I.at,hx]; rfl
  rcases g4 with ⟨ne,e⟩ | ⟨i,ha,hh,e⟩
  ·split
   ·rename_i met heq
    have heq':t.probe (hsOf es) ((tk P w).hash k) (pth t.mask ((tk P w).hash k) m) = some met:=heq
    rw [e] at heq'
    cases heq'
    dsimp only
    refine wpAny_pure (q2 (fun hin => ?_) m2 ne fun m' hm' => ?_)
    ·obtain ⟨x,hx,rfl⟩:=List.mem_map.mp hin
     obtain ⟨i0,hi0,ei0⟩:=List.getElem_of_mem hx
     have ex:xs[i0]? = some x:=by rw [List.getElem?_eq_getElem hi0,ei0]
     have hat:At t.place i0 (t.place.getD i0 0):=⟨by rw [T.size,lenx]; exact hi0,rfl⟩
     obtain ⟨m0,r1,r2⟩:=T.reach i0 _ hat
     rw [hsx i0 x ex] at r1 r2
     rw [← r1] at hat
     have h0:m0 < m2:=by
      rcases Nat.lt_trichotomy m0 m2 with h | h | h
      ·exact h
      ·exact absurd ⟨i0,h▸hat⟩ ne
      ·exact absurd (r2 m2 h) ne
     by_cases h1:m0 < m
     ·exact (ahead m0 h1).2 i0 hat x ex rfl
     ·exact (g3 m0 (by omega) h0).2 i0 hat (hsx i0 x ex)
    ·by_cases h1:m' < m
     ·exact (ahead m' h1).1
     ·exact (g3 m' (by omega) hm').1
   ·rename_i heq
    exact absurd e (heq _)
  ·have hi:i < xs.length:=by rw [← lenx,← T.size]; exact ha.1
   have ex:=List.getElem?_eq_getElem hi
   generalize xs[i] = x at ex
   have hx:x∈xs:=List.mem_of_getElem? ex
   have hes:es[i]? = some ((tk P w).hash x.1,Value.ref x.2):=by rw [I.at,ex]; rfl
   have hst:∀ v∈List.map (fun x => x.snd) (Array.filter (fun x => x.fst == (tk P w).hash k) es).toList,∃ k' b,v = .ref b∧(tk P w).is s.heap k' b:=fun v hv => by
    obtain ⟨y,hy,rfl⟩:=List.mem_map.mp hv
    have hy2:y∈es.toList:=by
     rw [Array.toList_filter] at hy
     exact (List.mem_filter.mp hy).1
    rw [I.ent] at hy2
    obtain ⟨z,hz,rfl⟩:=List.mem_map.mp hy2
    exact ⟨z.1,z.2,rfl,I.is z hz⟩
   split
   ·rename_i met heq
    have heq':t.probe (hsOf es) ((tk P w).hash k) (pth t.mask ((tk P w).hash k) m) = some met:=heq
    rw [e] at heq'
    cases heq'
    dsimp only
    split
    all_goals (first | (refine wpAny_bind (seen_tup hk hst ?_); simp only [Bool.false_eq_true,if_false]) | skip)
    all_goals
     rw [hes]
     dsimp only
     refine wpAny_bind (wpAny_holding ((tk P w).eqBool hu (I.is x hx) hk ?_))
     refine wpAny_bind (wpAny_setState_of I.get I.data T.fits ?_)
     dsimp only
     by_cases hxk:x.1 = k
     ·rw [decide_eq_true hxk,if_pos (show (true && true) = true from rfl)]
      exact wpAny_pure (q1 (List.mem_map.mpr ⟨x,hx,hxk⟩))
     ·rw [decide_eq_false hxk,if_neg (by decide)]
      have hsm:t.sameMemory t.moves t.mask = some true:=by unfold SetTable.sameMemory; rw [if_pos (beq_self_eq_true _)]
      rw [hsm]
      dsimp only
      rw [if_pos rfl,slot_live T.ris ha]
      dsimp only
      rw [hes]
      dsimp only
      refine wpAny_bind (wpAny_isSame_ref_self ?_)
      refine wpAny_bind (wpAny_pure ?_)
      rw [if_pos rfl]
      dsimp only
      rw [if_neg (by decide)]
      refine search_from hu I hk q1 q2 fuel (m2 + 1) _ (by omega) rfl fun m' hm' => ?_
      by_cases h1:m' < m
      ·exact ahead m' h1
      ·by_cases h2:m' < m2
       ·obtain ⟨g5,g6⟩:=g3 m' (by omega) h2
        exact ⟨g5,fun i' hi' x' hx' z => g6 i' hi' (by rw [hsx i' x' hx',z])⟩
       ·obtain rfl:m' = m2:=by omega
        refine ⟨⟨i,ha⟩,fun i' hi' x' hx' z => ?_⟩
        rw [hi'.uniq T.ris ha,ex] at hx'
        cases hx'
        exact hxk z
   ·rename_i heq
    exact absurd e (heq _)
end
end STb
namespace STb
open PySem PySem.Spec PyProof.Rows L2 SetTable
section
variable {P:Program} {w:World} {A:Around} {E:Value→Shared→Prop} {s:Shared}
theorem Tbl.put {t:SetTable} {es:Array (Int × Value)} (T:Tbl t (hsOf es) es.size) {h:Int} {v:Value} {n:Nat} (hr:es.size + 1≤t.mask) (ne:¬ Tkn t.place (pth t.mask h n).j) (ahead:∀ m',m' < n→Tkn t.place (pth t.mask h m').j) :
  Tbl (t.put (pth t.mask h n).j).1 (hsOf (insertAt es (t.put (pth t.mask h n).j).2 (h,v))) (insertAt es (t.put (pth t.mask h n).j).2 (h,v)).size∧(t.put (pth t.mask h n).j).2≤es.size∧(t.put (pth t.mask h n).j).1.mask = t.mask:=by
 obtain ⟨b1,b2,b3⟩:=below_ok T.ris (pth t.mask h n).j
 have hjm:=pth_j (mask:=t.mask) (h:=h) n
 have hp:(t.put (pth t.mask h n).j).2 = below t.place (pth t.mask h n).j:=rfl
 have hpl:(t.put (pth t.mask h n).j).1.place = insertAt t.place (below t.place (pth t.mask h n).j) (pth t.mask h n).j:=rfl
 have hmk:(t.put (pth t.mask h n).j).1.mask = t.mask:=rfl
 have b1':below t.place (pth t.mask h n).j≤es.size:=by rw [← T.size]; exact b1
 have hdm:(t.put (pth t.mask h n).j).1.dummies = #[]:=by
  show (if has t.dummies _ then eraseAt t.dummies _ else t.dummies) = #[]
  rw [T.dm]; rfl
 have hs:∀ i,hsOf (insertAt es (below t.place (pth t.mask h n).j) (h,v)) i = if i < below t.place (pth t.mask h n).j then hsOf es i else if i = below t.place (pth t.mask h n).j then h else hsOf es (i - 1):=fun i => by
  unfold hsOf
  rw [getElem?_insertAt es b1']
  split
  ·rfl
  ·split <;> rfl
 refine ⟨⟨?_,?_,fun j hj => ?_,hdm,T.pw,?_,fun i j a => ?_⟩,b1',hmk⟩
 ·rw [hpl,hp,size_insertAt _ b1,size_insertAt _ b1',T.size]
 ·rw [hpl]; exact ris_ins T.ris ne
 ·rw [hpl,tkn_ins b1] at hj
  rcases hj with hj | rfl
  ·exact T.le j hj
  ·exact hjm
 ·rw [hp,size_insertAt _ b1',hmk]; exact hr
 ·rw [hpl,at_ins b1] at a
  rw [hp,hs,hmk,hpl]
  have up:∀ {j'},Tkn t.place j'→Tkn (insertAt t.place (below t.place (pth t.mask h n).j) (pth t.mask h n).j) j':=fun q => (tkn_ins b1).mpr (.inl q)
  split at a
  ·rename_i hlt
   rw [if_pos hlt]
   obtain ⟨m,r1,r2⟩:=T.reach i j a
   exact ⟨m,r1,fun m' h' => up (r2 m' h')⟩
  ·rename_i hlt
   rw [if_neg hlt]
   split at a
   ·rename_i he
    rw [if_pos he]
    exact ⟨n,a,fun m' h' => up (ahead m' h')⟩
   ·rename_i he
    rw [if_neg he]
    obtain ⟨m,r1,r2⟩:=T.reach (i - 1) j a.1
    exact ⟨m,r1,fun m' h' => up (r2 m' h')⟩
theorem range_all {α:Type} (es:Array α):(List.range es.size).filterMap (fun k:Nat => es[k]?) = es.toList:=by
 refine List.ext_getElem? fun i => ?_
 rw [order_get (fun k hk => List.mem_range.mp hk)]
 by_cases h:i < es.size
 ·rw [List.getElem?_range h,Array.getElem?_toList]; rfl
 ·have h1:(List.range es.size)[i]? = none:=List.getElem?_eq_none (by rw [List.length_range]; omega)
  have h2:es.toList[i]? = none:=List.getElem?_eq_none (by rw [Array.length_toList]; omega)
  rw [h1,h2]; rfl
theorem relay_ok {t:SetTable} {es:Array (Int × Value)} (h1:1≤es.size) (h2:es.size≤1000) :
  ∃ t' order,t.relaid (es.map (·.1)) (grown es.size) = some (t',order)∧(order.filterMap (fun k:Nat => es[k]?)).toList.Perm es.toList∧(order.filterMap (fun k:Nat => es[k]?)).size = es.size∧Tbl t' (hsOf (order.filterMap (fun k:Nat => es[k]?))) (order.filterMap (fun k:Nat => es[k]?)).size∧7≤t'.mask∧t'.mask≤9000∧4 * es.size≤t'.mask∧t'.led = t.led∧sizeAbove (grown es.size)≤9000∧t'.plain = t.plain:=by
 have hg:grown es.size = es.size * 4:=by unfold grown; rw [if_neg (by omega)]
 obtain ⟨k,e1,k3,k4,k5⟩:=sizeAbove_ok (n:=grown es.size) (by rw [hg]; exact Nat.lt_of_le_of_lt (show es.size * 4≤4000 by omega) (by decide))
 have hle:2 ^ k≤8000:=by
  rcases k5 with rfl | k5
  ·decide
  ·rw [hg] at k5; omega
 have h8:8≤2 ^ k:=Nat.le_trans (by decide:8≤2 ^ 3) (Nat.pow_le_pow_right (by decide) k3)
 have hm:2 ^ k - 1 + 1 = 2 ^ k:=by omega
 rw [hg] at k4
 obtain ⟨place,order,e2,La⟩:=laid_ok hm (es.map (·.1)) (by rw [Array.size_map]; omega) t.finger (t.movedTo (2 ^ k - 1)) t.led t.plain
 rw [Array.size_map] at La
 have hord:∀ x∈order.toList,x < es.size:=fun x hx => List.mem_range.mp (La.perm.mem_iff.mp hx)
 have tl:(order.filterMap (fun k:Nat => es[k]?)).toList = order.toList.filterMap (fun k:Nat => es[k]?):=Array.toList_filterMap
 have pm:(order.filterMap (fun k:Nat => es[k]?)).toList.Perm es.toList:=by
  rw [tl,← range_all es]
  exact La.perm.filterMap _
 have sz:(order.filterMap (fun k:Nat => es[k]?)).size = es.size:=by rw [← Array.length_toList,pm.length_eq,Array.length_toList]
 refine ⟨{ mask:=2 ^ k - 1,place:=place,dummies:=#[],finger:=t.finger,led:=t.led,moves:=t.movedTo (2 ^ k - 1),plain:=t.plain },order,by unfold relaid; rw [e1]; exact e2,pm,sz,⟨by rw [sz]; exact La.size,La.ris,La.le,rfl,⟨k,hm⟩,by rw [sz]; show es.size≤2 ^ k - 1; omega,fun i j a => ?_⟩,by show 7≤2 ^ k - 1; omega,by show 2 ^ k - 1≤9000; omega,by show 4 * es.size≤2 ^ k - 1; omega,rfl,by rw [e1]; omega,rfl⟩
 obtain ⟨x,o1,m,r1,r2⟩:=La.reach i j a
 have hx:x < es.size:=hord x (by rw [← Array.getElem?_toList] at o1; exact List.mem_of_getElem? o1)
 have hh:hsOf (order.filterMap (fun k:Nat => es[k]?)) i = (es.map (·.1)).getD x 0:=by
  unfold hsOf
  rw [← Array.getElem?_toList,tl,order_get hord,Array.getElem?_toList,o1]
  show (Option.map _ es[x]?).getD 0 = _
  rw [Array.getElem?_eq_getElem hx]
  simp [Array.getD,hx]
 rw [hh]
 exact ⟨m,r1,r2⟩
end
end STb
namespace STb
open PySem PySem.Spec PyProof.Rows L2 SetTable
section
variable {P:Program} {w:World} {A:Around} {E:Value→Shared→Prop} {s:Shared}
theorem is_keeps {h h':Heap} {k:List Key} {b a:Addr} {o:Obj} {es:Array (Int × Value)} {ep:Nat} {t:SetTable} (x:(tk P w).is h k b) (ho:h.get? a = some o) (hd:o.data = .set es ep t) (hs:Heap.SameBut a h h'):(tk P w).is h' k b:=by
 obtain ⟨o',items,n,ho',hc,hd',hi⟩:=x
 have hne:b≠a:=by
  rintro rfl
  obtain rfl:o' = o:=Option.some.inj (ho'.symm.trans ho)
  rw [hd] at hd'; exact nomatch hd'
 exact ⟨o',items,n,(hs.2 b hne).trans ho',hc,hd',hi⟩
theorem toList_insertAt {α:Type} (xs:Array α) {p:Nat} (hp:p≤xs.size) (x:α):(insertAt xs p x).toList = xs.toList.take p ++ x :: xs.toList.drop p:=by
 refine List.ext_getElem? fun i => ?_
 rw [Array.getElem?_toList,getElem?_insertAt xs hp,List.getElem?_append,List.length_take,Array.length_toList]
 have e:min p xs.size = p:=by omega
 rw [e]
 split
 ·rw [List.getElem?_take_of_lt (by assumption),Array.getElem?_toList]
 ·split
  ·rename_i h; subst h; simp
  ·rename_i h1 h2
   obtain ⟨d,rfl⟩:∃ d,i = p + d + 1:=⟨i - p - 1,by omega⟩
   rw [show p + d + 1 - p = d + 1 by omega,List.getElem?_cons_succ,List.getElem?_drop,Array.getElem?_toList]
   rfl
theorem perm_map {α β:Type} {f:α→β} {l l':List β} (p:l.Perm l'):∀ xs:List α,l' = xs.map f→∃ xs':List α,xs'.Perm xs∧l = xs'.map f:=by
 induction p with
 | nil => intro xs h; exact ⟨xs,.refl _,h⟩
 | cons x _ ih =>
  intro xs h
  cases xs with
  | nil => cases h
  | cons y ys =>
   rw [List.map_cons] at h
   injection h with h1 h2
   obtain ⟨zs,q,e⟩:=ih ys h2
   exact ⟨y :: zs,q.cons y,by rw [List.map_cons,← h1,e]⟩
 | swap x y l =>
  intro xs h
  match xs,h with
  | [],h => cases h
  | [_],h => cases h
  | u :: v :: zs,h =>
   rw [List.map_cons,List.map_cons] at h
   injection h with h1 h
   injection h with h2 h3
   exact ⟨v :: u :: zs,List.Perm.swap u v zs,by rw [List.map_cons,List.map_cons,h1,h2,h3]⟩
 | trans _ _ ih1 ih2 =>
  intro xs h
  obtain ⟨ys,q,e⟩:=ih2 xs h
  obtain ⟨zs,q2,e2⟩:=ih1 ys e
  exact ⟨zs,q2.trans q,e2⟩
theorem store_get {h:Heap} {a:Addr} {o:Obj} {es:Array (Int × Value)} {ep:Nat} {t:SetTable} (ho:h.get? a = some o) (hd:o.data = .set es ep t) (es':Array (Int × Value)) (t':SetTable):(h.update a (Obj.putSet es' t')).get? a = some { o with data:=.set es' (ep + 1) t' }:=by
 have:=Heap.get?_update_self (Obj.putSet es' t') ho (by rw [putSet_of es' t' hd]; rfl)
 rw [putSet_of es' t' hd] at this; exact this
theorem add_tup {a b:Addr} {o:Obj} {es:Array (Int × Value)} {ep:Nat} {t:SetTable} {xs:List (List Key × Addr)} {k:List Key} {Q:Bool→Shared→Prop} (hu:A.units < cLine) (I:SIn P w s.heap a o es ep t xs) (hk:(tk P w).is s.heap k b) (hn:xs.length≤990)
  (q1:k∈xs.map (·.1)→Q false s) (q2:k ∉ xs.map (·.1)→∀ h' o' es' ep' t' xs',SIn P w h' a o' es' ep' t' xs'→xs'.Perm ((k,b) :: xs)→Heap.SameBut a s.heap h'→t'.led = t.led→(Ints k→t.plain = true→t'.plain = true)→Q true { s with heap:=h' }) :
  wpAny (model P w) A (setAddHashed a (.ref b) ((tk P w).hash k)) Q E s:=by
 have lenx:es.size = xs.length:=by rw [← Array.length_toList,I.ent,List.length_map]
 unfold setAddHashed setAddHashedIn
 refine wpAny_holding (wpAny_bind (wpAny_setState_of I.get I.data I.tb.fits ?_))
 dsimp only
 rw [show byScan (Value.ref b) es = false from rfl]
 simp only [Bool.false_eq_true,if_false]
 unfold setSearch
 refine wpAny_bind (search_from hu I hk (fun hin => ?_) (fun hni n ne ahead => ?_) 100000 0 none (by have:=I.msk.2; unfold turns; omega) rfl (fun m' h => absurd h (Nat.not_lt_zero _)))
 ·dsimp only
  exact wpAny_pure (q1 hin)
 ·dsimp only
  refine wpAny_bind (wpAny_setState_of I.get I.data I.tb.fits ?_)
  dsimp only
  have hload:=I.load
  have hmsk:=I.msk
  obtain ⟨T1,hp,hmk⟩:=I.tb.put (v:=Value.ref b) (by omega) ne ahead
  have hpl:(t.put (pth t.mask ((tk P w).hash k) n).j).1.led = t.led:=rfl
  have hpp:(t.put (pth t.mask ((tk P w).hash k) n).j).1.plain = t.plain:=rfl
  generalize (t.put (pth t.mask ((tk P w).hash k) n).j).1 = t1 at T1 hmk hpl hpp ⊢
  generalize (t.put (pth t.mask ((tk P w).hash k) n).j).2 = p at T1 hp ⊢
  have ent1:(insertAt es p ((tk P w).hash k,Value.ref b)).toList = (xs.take p ++ (k,b) :: xs.drop p).map fun x => ((tk P w).hash x.1,Value.ref x.2):=by
   rw [toList_insertAt es hp,I.ent,List.map_append,List.map_cons,List.map_take,List.map_drop]
  have pm1:(xs.take p ++ (k,b) :: xs.drop p).Perm ((k,b) :: xs):=by
   refine List.perm_middle.trans ?_
   rw [List.take_append_drop]
  have sz1:(insertAt es p ((tk P w).hash k,Value.ref b)).size = es.size + 1:=size_insertAt es hp _
  generalize insertAt es p ((tk P w).hash k,Value.ref b) = es1 at T1 ent1 sz1 ⊢
  generalize xs.take p ++ (k,b) :: xs.drop p = xs1 at ent1 pm1
  have tail:∀ t2:SetTable,Tbl t2 (hsOf es1) es1.size→t2.mask = t.mask→t2.led = t.led→(Ints k→t.plain = true→t2.plain = true)→wpAny (model P w) A (do
    storeSet a es1 t2
    if (!false && t2.tooFull) = true then do
      setRelay a (grown (es.size + 1))
      pure true
     else pure true) Q E s:=fun t2 T2 m2 l2 p2 => by
   refine wpAny_bind (wpAny_storeSet_of I.get I.data ?_ (by rw [sz1]; exact Nat.le_trans (show _≤1000 by omega) (by decide)))
   have g1:=store_get I.get I.data es1 t2
   have sb1:=Heap.SameBut.update s.heap a (Obj.putSet es1 t2)
   have is1:∀ x∈xs1,(tk P w).is (s.heap.update a (Obj.putSet es1 t2)) x.1 x.2:=fun x hx => by
    rcases List.mem_cons.mp (pm1.mem_iff.mp hx) with rfl | hx
    ·exact is_keeps hk I.get I.data sb1
    ·exact is_keeps (I.is x hx) I.get I.data sb1
   have nd1:(xs1.map (·.1)).Nodup:=((pm1.map (·.1)).nodup_iff).mpr (List.nodup_cons.mpr ⟨hni,I.nd⟩)
   generalize s.heap.update a (Obj.putSet es1 t2) = h1 at g1 sb1 is1 ⊢
   cases hf:t2.tooFull with
   | false =>
    rw [if_neg (by decide)]
    refine wpAny_pure (q2 hni h1 _ es1 (ep + 1) t2 xs1 ⟨g1,I.ex,rfl,ent1,T2,by rw [m2]; exact hmsk,?_,is1,nd1⟩ pm1 sb1 l2 p2)
    unfold SetTable.tooFull SetTable.fill at hf
    rw [T2.size,T2.dm] at hf
    have:=of_decide_eq_false hf
    simp at this
    omega
   | true =>
    rw [if_pos (by rfl)]
    obtain ⟨t3,order,e3,pm3,sz3,T3,k7,k9,k4,l3,ks,p3⟩:=relay_ok (t:=t2) (es:=es1) (by omega) (by omega)
    unfold setRelay
    refine wpAny_bind (wpAny_bind (wpAny_setState_of (s:={ s with heap:=h1 }) g1 rfl T2.fits ?_))
    dsimp only
    rw [sz1] at e3 ks
    rw [if_neg (by have:(9000:Nat)≤sizeLine:=by decide
                   omega),e3]
    refine wpAny_bind (wpAny_of_eq (show _ = pure (order.filterMap (fun k:Nat => es1[k]?),t3) from ?_) ?_)
    ·show (if ((order.filterMap (fun k:Nat => es1[k]?)).size != es1.size) = true then _ else pure (order.filterMap (fun k:Nat => es1[k]?),t3)) = _
     rw [if_neg (by rw [sz3]; simp)]
    obtain ⟨xs3,px,ex3⟩:=perm_map pm3 xs1 ent1
    dsimp only
    refine wpAny_storeSet_of (s:={ s with heap:=h1 }) g1 rfl (wpAny_pure ?_) (by rw [sz3,sz1]; exact Nat.le_trans (show _≤1000 by omega) (by decide))
    have sb2:=Heap.SameBut.update h1 a (Obj.putSet (order.filterMap (fun k:Nat => es1[k]?)) t3)
    refine q2 hni _ _ _ (ep + 1 + 1) t3 xs3 ⟨store_get g1 rfl _ t3,I.ex,rfl,ex3,T3,⟨k7,k9⟩,by rw [sz3]; omega,fun x hx => is_keeps (is1 x (px.mem_iff.mp hx)) g1 rfl sb2,((px.map (·.1)).nodup_iff).mpr nd1⟩ (px.trans pm1) (sb1.trans sb2) (l3.trans l2) fun z1 z2 => p3.trans (p2 z1 z2)
  split
  ·refine wpAny_bind (hash_tupI hk fun bv hbv => ?_)
   cases bv with
   | true => exact tail t1 T1 hmk hpl fun _ z => hpp.trans z
   | false => exact tail { t1 with plain:=false } ⟨T1.size,T1.ris,T1.le,T1.dm,T1.pw,T1.room,T1.reach⟩ hmk hpl fun z => Bool.noConfusion (hbv z)
  ·refine wpAny_bind (wpAny_pure ?_)
   exact tail t1 T1 hmk hpl fun _ z => hpp.trans z
end
end STb
namespace STb
open PySem PySem.Spec PyProof.Rows L2 SetTable
section
variable {P:Program} {w:World}
theorem is_same {h h':Heap} {k:List Key} {b:Addr} (x:(tk P w).is h k b) (e:∀ o,h.get? b = some o→h'.get? b = some o):(tk P w).is h' k b:=by
 obtain ⟨o',items,m',ho,hc,hd,hi⟩:=x
 exact ⟨o',items,m',e _ ho,hc,hd,hi⟩
def Mt (P:Program) (w:World) (S:Addr) (n:Nat) (val:Nat→List Key) (adr:Nat→Addr) (led:Bool) (i:Nat) (h:Heap):Prop :=
 ∃ o es ep t xs,SIn P w h S o es ep t xs∧(t.led = led∧((∀ j,j < n→Ints (val j))→t.plain = true))∧xs.length≤i∧(∀ x∈xs,∃ j,j < n∧x.2 = adr j)∧∀ k,k∈xs.map (·.1)↔∃ j,j < i∧val j = k
theorem Mt.keep {S:Addr} {n:Nat} {val:Nat→List Key} {adr:Nat→Addr} {led:Bool} {i:Nat} {h h':Heap} (m:Mt P w S n val adr led i h) (hS:∀ o,h.get? S = some o→h'.get? S = some o) (hj:∀ j,j < n→∀ o,h.get? (adr j) = some o→h'.get? (adr j) = some o):Mt P w S n val adr led i h':=by
 obtain ⟨o,es,ep,t,xs,I,l1,l2,l3,l4⟩:=m
 refine ⟨o,es,ep,t,xs,⟨hS _ I.get,I.ex,I.data,I.ent,I.tb,I.msk,I.load,fun x hx => ?_,I.nd⟩,l1,l2,l3,l4⟩
 obtain ⟨j,h1,h2⟩:=l3 x hx
 exact is_same (I.is x hx) (by rw [h2]; exact hj j h1)
variable {A:Around} {R:Result→Shared→Prop} {It:Addr} {fp wr:List Addr} {G:Array GenState→Array GenState→Prop} {n:Nat} {Pr:Nat→Value→Prop} {St:Nat→Shared→Prop}
theorem loop_tup (W:WalksS P w A.in1 It fp wr G n Pr St) (hu:A.in1.units < cLine) (S:Addr) (hSf:S ∉ fp) (val:Nat→List Key) (adr:Nat→Addr) (led:Bool) (hval:∀ i v,Pr i v→v = .ref (adr i)) (hb:n≤990) (ha:∀ j,j < n→adr j ∉ wr∧adr j≠S) :
  ∀ (d i:Nat) (s:Shared),n - i = d→i≤n→St i s→(∀ j,j < n→(tk P w).is s.heap (val j) (adr j))→Mt P w S n val adr led i s.heap→(∀ s',Moved (S :: wr) G s s'→Mt P w S n val adr led n s'.heap→R (.ok (.ret .none)) s') →
   codeAny (model P w) A (.builtin "set.update.loop" ⟨[.ref S,.ref It],[]⟩) R s
 | 0,i,s,hd,hi,st,ks,m,hR => by
  obtain rfl:i = n:=by omega
  refine codeAny_builtin PyProof.Rows.F.entry_set_update_loop ?_
  rw [Around.under_plainId PyProof.Rows.F.plain_set_update_loop _]
  refine wpAny_bind (W.done s _ _ st fun s' mv => wpAny_pure (hR s' (mv.mono fun b hb => List.mem_cons_of_mem _ hb) ?_))
  exact m.keep (fun o e => mv.heap S o (fun z => hSf (W.sub _ z)) e) fun j hj o e => mv.heap _ o (ha j hj).1 e
 | d + 1,i,s,hd,hi,st,ks,m,hR => by
  have hlt:i < n:=by omega
  refine codeAny_builtin PyProof.Rows.F.entry_set_update_loop ?_
  rw [Around.under_plainId PyProof.Rows.F.plain_set_update_loop _]
  refine wpAny_bind (W.item i s _ _ hlt st fun v s' hP st' mv => ?_)
  obtain rfl:=hval i v hP
  have ks':∀ j,j < n→(tk P w).is s'.heap (val j) (adr j):=fun j hj => is_same (ks j hj) fun o e => mv.heap _ o (ha j hj).1 e
  obtain ⟨o,es,ep,t,xs,I,l1,l2,l3,l4⟩:=m.keep (h':=s'.heap) (fun o e => mv.heap S o (fun z => hSf (W.sub _ z)) e) fun j hj o e => mv.heap _ o (ha j hj).1 e
  have hup:∀ b∈wr,b∈S :: wr:=fun b hb => List.mem_cons_of_mem _ hb
  refine wpAny_bind (wpAny_holding ?_)
  unfold setAdd
  refine wpAny_holding (wpAny_bind ((tk P w).pyHash hu (ks' i hlt) ?_))
  have go:∀ h':Heap,Heap.SameBut S s'.heap h'→Mt P w S n val adr led (i + 1) h'→codeAny (model P w) A (.builtin "set.update.loop" ⟨[.ref S,.ref It],[]⟩) R { s' with heap:=h',toks:=s'.toks + (tk P w).draws (val i) }:=fun h' sb m' => by
   refine loop_tup W hu S hSf val adr led hval hb ha d (i + 1) _ (by omega) hlt (W.frame _ s' _ _ st' (Nat.le_add_right _ _) fun b hb o e => ?_) (fun j hj => is_same (ks' j hj) fun o e => ?_) m' fun s2 mv2 m2 => hR s2 (Moved.trans W.gtrans ((mv.mono hup).then_heap (Nat.le_add_right _ _) fun b o hb e => ?_) mv2) m2
   ·rw [sb.2 b (fun z:b = S => hSf (by rw [← z]; exact hb))]; exact e
   ·rw [sb.2 _ (ha j hj).2]; exact e
   ·rw [sb.2 b (fun z:b = S => hb (by rw [z]; exact List.mem_cons_self))]; exact e
  refine add_tup (s:={ s' with toks:=s'.toks + (tk P w).draws (val i) }) hu I (ks' i hlt) (by omega) (fun hin => ?_) (fun hni h' o' es' ep' t' xs' I' pm sb hl hp => ?_)
  ·refine wpAny_pure ⟨plainId_quiet PyProof.Rows.F.plain_set_update_loop _,go s'.heap (Heap.SameBut.refl S s'.heap) ⟨o,es,ep,t,xs,I,l1,by omega,l3,fun k => ?_⟩⟩
   rw [l4 k]
   constructor
   ·rintro ⟨j,h1,h2⟩; exact ⟨j,by omega,h2⟩
   ·rintro ⟨j,h1,h2⟩
    by_cases e:j = i
    ·subst e; rw [← h2]; exact (l4 _).mp hin
    ·exact ⟨j,by omega,h2⟩
  ·refine wpAny_pure ⟨plainId_quiet PyProof.Rows.F.plain_set_update_loop _,go h' sb ⟨o',es',ep',t',xs',I',⟨hl.trans l1.1,fun z => hp (z i hlt) (l1.2 z)⟩,?_,fun x hx => ?_,fun k => ?_⟩⟩
   ·rw [pm.length_eq,List.length_cons]; omega
   ·rcases List.mem_cons.mp (pm.mem_iff.mp hx) with rfl | hx
    ·exact ⟨i,hlt,rfl⟩
    ·exact l3 x hx
   ·rw [(pm.map (·.1)).mem_iff,List.map_cons,List.mem_cons,l4 k]
    constructor
    ·rintro (rfl | ⟨j,h1,h2⟩)
     ·exact ⟨i,by omega,rfl⟩
     ·exact ⟨j,by omega,h2⟩
    ·rintro ⟨j,h1,h2⟩
     by_cases e:j = i
     ·subst e; exact .inl h2.symm
     ·exact .inr ⟨j,by omega,h2⟩
end
end STb
namespace STb
open PySem PySem.Spec PyProof.Rows L2 SetTable
section
variable {P:Program} {w:World} {A:Around} {E:Value→Shared→Prop} {s:Shared}
abbrev newS (led:Bool):Obj:={ cls:=.type "set",dict:=none,data:=.set #[] 0 (.fresh 0 0 led) }
theorem mt_new {h:Heap} {S n:Nat} {val:Nat→List Key} {adr:Nat→Addr} {led:Bool} (e:h.get? S = some (newS led)):Mt P w S n val adr led 0 h:=by
 refine ⟨_,#[],0,_,[],⟨e,⟨rfl,rfl,rfl⟩,rfl,rfl,⟨rfl,fun i k _ hk => absurd hk (by simp [SetTable.fresh]),fun j hj => ?_,rfl,⟨3,rfl⟩,by show 0≤7; omega,fun i j a => ?_⟩,by show 7≤7∧7≤9000; omega,by show 0 * 5 < 7 * 3; omega,(fun x hx => by cases hx),List.nodup_nil⟩,⟨rfl,fun _ => rfl⟩,Nat.le_refl _,(fun x hx => by cases hx),fun k => ⟨(fun h => by cases h),(fun ⟨j,h,_⟩ => by omega)⟩⟩
 ·obtain ⟨i,hi,_⟩:=hj
  exact absurd hi (by simp [SetTable.fresh])
 ·exact absurd a.1 (by simp [SetTable.fresh])
theorem code_set_new_2 (a:Value) {Q₁:Value→Shared→Prop}
  (h:Q₁ (.ref s.heap.objs.size) { s with heap:=s.heap.push (newS (!w.params.followText "set-order")) }) :
  codeAny (model P w) A (.call (.builtin "set.__new__") ⟨[.type "set",a],[]⟩) (wants Q₁ E) s:=by
 refine codeAny_of_tree ?_
 show wpAny _ A.in1 (do checkBuiltinCall "set.__new__" ⟨[.type "set",a],[]⟩; again (.builtin "set.__new__" ⟨[.type "set",a],[]⟩)) _ _ s
 refine wpAny_bind (wpAny_of_eq (PySem.F.newCall_set_1 a) (wpAny_pure ⟨plainId_quiet PySem.F.plain_set_new _,codeAny_builtin PySem.F.entry_set_new ?_⟩))
 rw [Around.under_plainId PySem.F.plain_set_new _]
 unfold Builtin.«set.__new__» Builtin.Frozenset.newClass
 have hsub:=sub_set_self
 obtain ⟨hp,g,d,tk,os⟩:=s
 dsimp only
 wp_walk
 refine wpAny_askSetting (wpAny_pure ?_)
 dsimp only
 simp only [newObj]
 refine wpAny_bind (wpAny_alloc (wpAny_pure ?_))
 exact wpAny_pure h
theorem call_set_tups {l:Addr} {items:Array Value} {val:Nat→List Key} {adr:Nat→Addr} {Q:Value→Shared→Prop} (hh:A.handled = none) (hu:A.units + 8 < cLine) (hl:s.heap.IsList l items) (hit:∀ (i:Nat) v,items[i]? = some v→v = .ref (adr i)) (his:∀ j,j < items.size→(tk P w).is s.heap (val j) (adr j)) (hb:items.size≤990)
  (h:∀ (h':Heap) (tok:Nat) (led:Bool),led = (!w.params.followText "set-order")→Mt P w s.heap.objs.size items.size val adr led items.size h'→(∀ b o,b < s.heap.objs.size→s.heap.get? b = some o→h'.get? b = some o)→s.heap.objs.size < h'.objs.size→Q (.ref s.heap.objs.size) { s with heap:=h',toks:=tok }) :
  wpAny (model P w) A (call (.type "set") [.ref l]) Q E s:=by
 obtain ⟨c,tl,hm⟩:=PySem.F.called_set.mro
 have hm1:=PySem.F.called_set.made
 have hm2:=PySem.F.called_set.sub
 refine wpAny_call (codeAny_of_tree ?_)
 show wpAny _ _ (callAny (.type "set") _) _ _ _
 refine wpAny_pure ⟨Code.quiet_builtin _ (by decide +kernel),codeAny_builtin PySem.F.entry_type_call ?_⟩
 rw [Around.under_plain (weight_type_call_type "set" [.ref l] []) rfl]
 have g1:=PySem.F.called_set.notType
 have g2:=PySem.F.called_set.canCreate
 have g3:=PySem.F.typeCall_set_1 (.ref l)
 repeat (any_goals (first | assumption | wp_step))
 refine codeAny_mono (code_set_new_2 (.ref l) (E:=E) (Q₁:=fun v s1 => ∃ led:Bool,led = (!w.params.followText "set-order")∧v = .ref s.heap.objs.size∧s1 = { s with heap:=s.heap.push (newS led) }) ⟨_,rfl,rfl,rfl⟩) fun r s1 hr => ?_
 cases r with
 | error e => exact hr
 | ok f1 =>
  cases f1 with
  | ret v =>
   obtain ⟨led,hled,rfl,rfl⟩:=hr
   have e1:(s.heap.push (newS led)).get? s.heap.objs.size = some (newS led):=Heap.get?_push_size _ rfl
   have ty:Shared.TypeIs { s with heap:=s.heap.push (newS led) } (.ref s.heap.objs.size) "set":=⟨_,e1,rfl⟩
   have g4:=PySem.F.called_set.init.lookup
   have g5:=PySem.F.called_set.init.bind (.ref s.heap.objs.size)
   repeat (any_goals (first | assumption | wp_step))
   refine codeAny_mono (codeAny_call_builtin (R:=wants (fun r s2 => r = .none∧∃ h' tok,s2 = { s with heap:=h',toks:=tok }∧Mt P w s.heap.objs.size items.size val adr led items.size h'∧(∀ b o,b < s.heap.objs.size→s.heap.get? b = some o→h'.get? b = some o)) E) PySem.F.called_set.init.plain F.entry_set_init (check_set_init_1 ty ?_)) fun r2 s2 hr2 => ?_
   ·obtain ⟨ol,hol,hcl,nl,hdl⟩:=hl
    obtain ⟨o1,o2,o3,o4⟩:=ol
    simp only at hcl hdl
    subst hcl; subst hdl
    have hol2:(s.heap.push (newS led)).get? l = some { cls:=.type "list",dict:=o2,data:=.seq items nl,slots:=o4 }:=Heap.get?_push_of_some _ hol
    have g6:=PySem.F.sub_list_set
    have g7:=PySem.F.sub_list_frozenset
    have g8:(Value.type "list" == Value.type "dict") = false:=by decide
    have hl1:(s.heap.push (newS led)).IsList l items:=⟨_,hol2,rfl,nl,rfl⟩
    unfold Builtin.«set.__init__» noKeywords Builtin.Frozenset.updateFrom
    generalize hPI:pyIter = PI
    wp_walk
    subst hPI
    refine wpAny_pyIter_list hl1 (wpAny_bind (wpAny_runValue ?_))
    have hlS:l < s.heap.objs.size:=Heap.lt_size hol
    have hsp:(s.heap.push (newS led)).objs.size = s.heap.objs.size + 1:=Heap.size_push ..
    have a1:∀ j,j < items.size→adr j < s.heap.objs.size:=fun j hj => by
     obtain ⟨oj,_,_,hoj,_⟩:=his j hj
     exact Heap.lt_size hoj
    refine loop_tup ((Walks.list (by simp [hh]) _ l (by rw [hsp]; exact Nat.ne_of_lt (Nat.lt_succ_of_lt hlS)) items).toS) ?hu s.heap.objs.size ?hS val adr led hit hb (fun j hj => ?hA) (items.size - 0) 0 _ (by omega) (Nat.zero_le _) ⟨⟨_,Heap.get?_push_size _ rfl,rfl,rfl⟩,(hl1.push _)⟩ (fun j hj => ?hI) (mt_new (Heap.get?_push_of_some _ e1)) ?hR
    case hu => show A.units + 1 + 1 + 1 < cLine; omega
    case hS => rw [hsp]; simp only [List.mem_cons,List.not_mem_nil,or_false,not_or]; exact ⟨Nat.ne_of_lt (Nat.lt_succ_self _),Nat.ne_of_gt hlS⟩
    case hA => have:=a1 j hj; rw [hsp]; simp only [List.mem_cons,List.not_mem_nil,or_false]; exact ⟨Nat.ne_of_lt (Nat.lt_succ_of_lt this),Nat.ne_of_lt this⟩
    case hI => exact is_same (his j hj) fun o e => Heap.get?_push_of_some _ (Heap.get?_push_of_some _ e)
    case hR =>
     intro s' mv m'
     obtain ⟨h',g',d',tk',os'⟩:=s'
     have eg:g' = s.gens:=mv.gens
     have ed:d' = s.drawn:=mv.drawn
     have eo:os' = s.os:=mv.os
     subst eg; subst ed; subst eo
     refine wpAny_pure (wpAny_pure ⟨rfl,h',tk',rfl,m',fun b o hb e => ?_⟩)
     refine mv.heap b o ?_ (Heap.get?_push_of_some _ (Heap.get?_push_of_some _ e))
     rw [hsp]; simp only [List.mem_cons,List.not_mem_nil,or_false,not_or]; exact ⟨Nat.ne_of_lt hb,Nat.ne_of_lt (Nat.lt_succ_of_lt hb)⟩
   ·cases r2 with
    | error e => exact hr2
    | ok f2 =>
     cases f2 with
     | ret r =>
      obtain ⟨rfl,h',tok,rfl,m',keep⟩:=hr2
      repeat (any_goals (first | assumption | wp_step))
      have m2:=m'
      obtain ⟨o',_,_,_,_,I',_⟩:=m2
      exact h h' tok led hled m' keep (Heap.lt_size I'.get)
     | _ => exact hr2.elim
  | _ => exact hr.elim
end
end STb
namespace L2
open PySem PySem.Spec PyProof.Rows TS STb
def SetE (P:Program) (w:World) (S:Addr) (us:List (List Key × Addr)) (led:Bool) (h:Heap):Prop :=
 ∃ o es ep t,h.get? S = some o∧o.ExactSet∧o.data = .set es ep t∧es.toList = us.map (fun x => ((tk P w).hash x.1,Value.ref x.2))∧Tbl t (hsOf es) es.size∧t.led = led∧led = (!w.params.followText "set-order")∧((∀ x∈us,Ints x.1)→t.plain = true)
theorem SetE.keep {P:Program} {w:World} {S:Addr} {us:List (List Key × Addr)} {led:Bool} {h h':Heap} (x:SetE P w S us led h) (k:∀ o,h.get? S = some o→h'.get? S = some o):SetE P w S us led h':=by
 obtain ⟨o,es,ep,t,e,r⟩:=x
 exact ⟨o,es,ep,t,k _ e,r⟩
section
variable {X:Cx}
theorem call_setT (hc:X.calm = true) (hu:X.A.units + 64 < cLine):CallR X (.type "set") (fun xs H Q => ∃ p bs ks,xs = [.ref p]∧H p = some (.lst (bs.map V.ref))∧KeyAt H bs ks∧ks.length≤990 ∧
  ∀ S us led,H S = none→(us.map (·.1)).Nodup→(∀ k,k∈us.map (·.1)↔k∈ks)→(∀ x∈us,H x.2 = some (.tup (x.1.map kV)))→Q (.ref S) (upd H S (.ext (SetE X.prog X.w S us led)))):=by
 intro pins s σ H xs us Q I r h
 obtain ⟨p,bs,ks,rfl,e,ka,hn,q⟩:=h
 obtain ⟨u,rfl,ru⟩:=vals1 r
 cases ru
 obtain ⟨its,rv,pl,hz⟩:=I.list (SqL.of e)
 obtain rfl:=refs_of rv
 have lb:bs.length = ks.length:=ka.1
 have at_:∀ j,j < bs.length→∃ b k,bs[j]? = some b∧ks[j]? = some k∧bs.getD j 0 = b∧ks.getD j [] = k∧H b = some (.tup (k.map kV)):=fun j hj => by
  have h1:=List.getElem?_eq_getElem hj
  have h2:=List.getElem?_eq_getElem (show j < ks.length by omega)
  exact ⟨_,_,h1,h2,by rw [List.getD_eq_getElem?_getD,h1]; rfl,by rw [List.getD_eq_getElem?_getD,h2]; rfl,ka.2 j _ _ h1 h2⟩
 have sz:(bs.map Value.ref).toArray.size = bs.length:=by simp
 refine call_set_tups (val:=fun j => ks.getD j []) (adr:=fun j => bs.getD j 0) (I.ok.hd hc) (by omega) pl.isList (fun i v hv => ?_) (fun j hj => ?_) (by rw [sz]; omega) fun h' tok led hled m keep hlt => ?_
 ·rw [List.getElem?_toArray,List.getElem?_map] at hv
  obtain ⟨b,h1,h2⟩:=Option.map_eq_some_iff.mp hv
  rw [← h2]
  show Value.ref b = Value.ref (bs.getD i 0)
  rw [List.getD_eq_getElem?_getD,h1]; rfl
 ·rw [sz] at hj
  obtain ⟨b,k,_,_,e1,e2,e3⟩:=at_ j hj
  show (tk X.prog X.w).is s.heap (ks.getD j []) (bs.getD j 0)
  rw [e1,e2]
  exact key_of I.hok e3
 ·rw [sz] at m
  obtain ⟨o,es,ep,t,us,J,l1,l2,l3,l4⟩:=m
  have fresh:=I.hok.fresh (Nat.le_refl s.heap.objs.size)
  refine ⟨.ref s.heap.objs.size,_,I.laid (a:=s.heap.objs.size) (o:=.ext (SetE X.prog X.w s.heap.objs.size us led)) (t':=tok) (fun b u hb => keep b u (Heap.lt_size hb) hb) (Nat.le_refl _) ⟨⟨o,es,ep,t,J.get,J.ex,J.data,J.ent,J.tb,l1.1,hled,fun z => l1.2 fun j hj => (by obtain ⟨x,hx,e⟩:=List.mem_map.mp ((l4 _).mpr ⟨j,hj,rfl⟩); have:=z x hx; rw [e] at this; exact this)⟩,⟨o,J.get⟩,fun h1 h2 x k => x.keep k⟩,rfl,q _ us led fresh J.nd (fun k => ?_) fun x hx => ?_⟩
  ·rw [l4 k]
   constructor
   ·rintro ⟨j,hj,rfl⟩
    obtain ⟨b,k,_,h2,_,e2,_⟩:=at_ j hj
    show ks.getD j []∈ks
    rw [e2]; exact List.mem_of_getElem? h2
   ·intro hk
    obtain ⟨j,hj,ej⟩:=List.getElem_of_mem hk
    exact ⟨j,by omega,by show ks.getD j [] = k; rw [List.getD_eq_getElem?_getD,List.getElem?_eq_getElem hj,ej]; rfl⟩
  ·obtain ⟨j,hj,ej⟩:=l3 x hx
   obtain ⟨b,k,_,_,e1,e2,e3⟩:=at_ j hj
   have ej:x.2 = b:=ej.trans e1
   have i1:=J.is x hx
   have i2:(tk X.prog X.w).is h' k b:=is_same (key_of I.hok e3) fun ob he => keep _ _ (Heap.lt_size he) he
   rw [ej] at i1
   rw [ej,(tk X.prog X.w).inj i1 i2]
   exact e3
end
end L2
namespace STb
open PySem PySem.Spec PyProof.Rows L2 SetTable TS
theorem entry_set_iter:entryFor table "set.__iter__" = some Builtin.«frozenset.__iter__» :=
 entryFor_alias (id':="frozenset.__iter__") (by kernel_rfl) rfl (by decide +kernel) (by kernel_rfl)
theorem owner_set_iterator:Manifest.owners.lookup (String.ofList ['r','o','t','a','r','e','t','i','_','t','e','s'].reverse) = some Manifest.sig_set_iterator:=by kernel_rfl
theorem slot_set_iterator_next:Slot "set_iterator" "__next__" "set_iterator.__next__" :=
 .of (owner:="set_iterator") (n:="__next__") (by rw [typeLookup_type,builtinLookup_eq_fast]; kernel_rfl) (by decide +kernel) (by decide +kernel) (by decide +kernel)
  (by first | exact .inl (by decide +kernel) | exact .inr (by decide +kernel)) (by rw [isSubtype_type]; kernel_rfl)
theorem entry_set_iterator_next:entryFor table "set_iterator.__next__" = some Builtin.«set_iterator.__next__»:=entryFor_of_tree (by kernel_rfl)
theorem args_set_iterator_next_1 (a:Value):argsOk "set_iterator.__next__" ⟨[a],[]⟩:=by
 unfold argsOk; rw [signature?_of (id:="set_iterator.__next__") (n:=['_','_','t','x','e','n','_','_']) (o:=['r','o','t','a','r','e','t','i','_','t','e','s']) (by kernel_rfl) owner_set_iterator]; kernel_rfl
theorem slot_set_iterator_iter:Slot "set_iterator" "__iter__" "set_iterator.__iter__" :=
 .of (owner:="set_iterator") (n:="__iter__") (by rw [typeLookup_type,builtinLookup_eq_fast]; kernel_rfl) (by decide +kernel) (by decide +kernel) (by decide +kernel)
  (by first | exact .inl (by decide +kernel) | exact .inr (by decide +kernel)) (by rw [isSubtype_type]; kernel_rfl)
theorem entry_set_iterator_iter:entryFor table "set_iterator.__iter__" = some Builtin.«dict_keyiterator.__iter__» :=
 entryFor_alias (id':="dict_keyiterator.__iter__") (by kernel_rfl) rfl (by decide +kernel) (by kernel_rfl)
theorem args_set_iterator_iter_1 (a:Value):argsOk "set_iterator.__iter__" ⟨[a],[]⟩:=by
 unfold argsOk; rw [signature?_of (id:="set_iterator.__iter__") (n:=['_','_','r','e','t','i','_','_']) (o:=['r','o','t','a','r','e','t','i','_','t','e','s']) (by kernel_rfl) owner_set_iterator]; kernel_rfl
theorem erase_perm {α:Type}:∀ (l:List α) (i:Nat) (h:i < l.length),(l[i] :: l.eraseIdx i).Perm l
 | a :: l,0,_ => List.Perm.refl _
 | a :: l,i + 1,h => by
  have hl:i < l.length:=by simpa using h
  have:=erase_perm l i hl
  rw [List.getElem_cons_succ,List.eraseIdx_cons_succ]
  exact (List.Perm.swap a l[i] _).trans (this.cons a)
theorem pick_go {α:Type} (next:Nat→Nat):∀ (fuel k:Nat) (left:List α) (out:Array α),left.length = fuel→(pickOrder.go next fuel k left out).toList.Perm (out.toList ++ left)
 | 0,k,left,out,h => by
  have:left = []:=List.length_eq_zero_iff.mp h
  subst this
  unfold pickOrder.go
  rw [List.append_nil]
 | fuel + 1,k,left,out,h => by
  have hlt:next k % left.length < left.length:=Nat.mod_lt _ (by omega)
  unfold pickOrder.go
  rw [List.getElem?_eq_getElem hlt]
  refine (pick_go next fuel (k + 1) _ _ (by rw [List.length_eraseIdx_of_lt hlt]; omega)).trans ?_
  rw [Array.toList_push,List.append_assoc]
  refine List.Perm.append_left _ ?_
  exact erase_perm _ _ hlt
theorem pick_perm {α:Type} (next:Nat→Nat) (xs:Array α):(pickOrder next xs).toList.Perm xs.toList:=by
 have:=pick_go next xs.size 0 xs.toList #[] rfl
 rw [show (#[]:Array α).toList ++ xs.toList = xs.toList from rfl] at this
 exact this
def ordS (w:World) (S ep:Nat) (es:Array (Int × Value)):Array (Int × Value):=if w.params.followText "set-order" then pickOrder (w.params.setOrder S ep) es else es
theorem ord_perm (w:World) (S ep:Nat) (es:Array (Int × Value)):(ordS w S ep es).toList.Perm es.toList:=by
 unfold ordS
 split
 ·exact pick_perm _ _
 ·exact List.Perm.refl _
theorem ord_size (w:World) (S ep:Nat) (es:Array (Int × Value)):(ordS w S ep es).size = es.size:=by
 rw [← Array.length_toList,(ord_perm w S ep es).length_eq,Array.length_toList]
def Wk (w:World) (h:Heap) (S:Addr) (es:Array (Int × Value)) (ep:Nat) (t:SetTable):Prop :=
 ∃ o,h.get? S = some o∧o.ExactSet∧o.data = .set es ep t∧t.fits es.size = true∧Ris t.place∧t.place.size = es.size∧t.led = (!w.params.followText "set-order")∧t.plain = true
theorem Wk.keep {w:World} {h h':Heap} {S:Addr} {es:Array (Int × Value)} {ep:Nat} {t:SetTable} (x:Wk w h S es ep t) (k:∀ o,h.get? S = some o→h'.get? S = some o):Wk w h' S es ep t:=by
 obtain ⟨o,e,r⟩:=x
 exact ⟨o,k _ e,r⟩
theorem Wk.typeIs {w:World} {s:Shared} {S:Addr} {es:Array (Int × Value)} {ep:Nat} {t:SetTable} (x:Wk w s.heap S es ep t):s.TypeIs (.ref S) "set":=by
 obtain ⟨o,e,c,_⟩:=x
 exact ⟨o,e,c.1⟩
def Wi (w:World) (h:Heap) (it S i n ep:Nat) (t:SetTable):Prop :=
 ∃ o slot,h.get? it = some o∧o.cls = .type "set_iterator"∧o.data = .fields #[.int (slot:Nat) 0,.int (i:Nat) 0,.ref S,.int (n:Nat) 0,.int (ep:Nat) 0]∧(w.params.followText "set-order" = false→below t.place slot = i)
theorem Wi.typeIs {w:World} {s:Shared} {it S i n ep:Nat} {t:SetTable} (x:Wi w s.heap it S i n ep t):s.TypeIs (.ref it) "set_iterator":=by
 obtain ⟨o,slot,e,c,_⟩:=x
 exact ⟨o,e,c⟩
theorem below_next {xs:Array Nat} (R:Ris xs) {i:Nat} (h:i < xs.size):below xs (xs.getD i 0 + 1) = i + 1:=by
 obtain ⟨h1,h2,h3⟩:=below_ok R (xs.getD i 0 + 1)
 rcases Nat.lt_trichotomy (below xs (xs.getD i 0 + 1)) (i + 1) with z | z | z
 ·have:=h3 i (by omega) h
  omega
 ·exact z
 ·have:=h2 (i + 1) z
  have:=R i (i + 1) (by omega) (by omega)
  omega
theorem below_zero {xs:Array Nat} (R:Ris xs):below xs 0 = 0:=by
 obtain ⟨h1,h2,h3⟩:=below_ok R 0
 rcases Nat.eq_zero_or_pos (below xs 0) with z | z
 ·exact z
 ·have:=h2 0 z
  omega
section
variable {prog:Program} {w:World} {A:Around} {E:Value→Shared→Prop} {s:Shared} {S t it:Addr} {es:Array (Int × Value)} {ep i:Nat} {tb:SetTable}
theorem wp_byText {Q:Bool→Shared→Prop} (q:Q (w.params.followText "set-order") s):wpAny (model prog w) A setsByText Q E s:=by
 unfold setsByText
 exact wpAny_bind (wpAny_askSetting (wpAny_pure q))
theorem wp_drawn {Q:Bool→Shared→Prop} (x:Wk w s.heap S es ep tb) (q:Q false s):wpAny (model prog w) A (setDrawn S) Q E s:=by
 obtain ⟨o,e,_,d,f,_,_,_,p⟩:=x
 unfold setDrawn
 refine wpAny_bind (wpAny_setState_of e d f (wpAny_bind (wp_byText (wpAny_pure ?_))))
 have:(!w.params.followText "set-order" && (!tb.plain && decide (es.size > 1))) = false:=by rw [p]; simp
 exact this.symm▸q
theorem wp_epoch {Q:Nat→Shared→Prop} (x:Wk w s.heap S es ep tb) (q:Q ep s):wpAny (model prog w) A (setEpoch S) Q E s:=by
 obtain ⟨o,e,_,d,f,_⟩:=x
 unfold setEpoch
 exact wpAny_bind (wpAny_setState_of e d f (wpAny_pure q))
theorem wp_entries {Q:Array (Int × Value)→Shared→Prop} (x:Wk w s.heap S es ep tb) (q:Q es s):wpAny (model prog w) A (setEntries S) Q E s:=by
 obtain ⟨o,e,_,d,f,_⟩:=x
 exact wpAny_setEntries_of e d f q
theorem iter_set {Q:Value→Shared→Prop} (x:Wk w s.heap S es ep tb)
  (q:Q (.ref s.heap.objs.size) { s with heap:=s.heap.push { cls:=.type "set_iterator",data:=.fields #[.int (0:Nat) 0,.int (0:Nat) 0,.ref S,.int es.size 0,.int ep 0] } }):wpAny (model prog w) A (pyIter (.ref S)) Q E s:=by
 have ty:=x.typeIs
 refine wpAny_pyIter_slot ty PySem.F.slot_set_iter (wpAny_call_entry PySem.F.slot_set_iter ty entry_set_iter ?_ (PySem.F.args_set_iter_1 _))
 unfold Builtin.«frozenset.__iter__»
 refine wpAny_bind (m:=Builtin.Frozenset.slot0 "__iter__" _) (wpAny_of_eq (a:=S) rfl ?_)
 refine wpAny_bind (m:=Builtin.Frozenset.sizeOf S) (wpAny_bind (wp_entries x (wpAny_pure ?_)))
 refine wpAny_bind (wp_drawn x ?_)
 rw [if_neg (by decide)]
 refine wpAny_bind (wpAny_pure (wpAny_bind (wp_epoch x ?_)))
 exact wpAny_bind (wpAny_newObj_type (wpAny_pure ⟨_,rfl,"set_iterator",_,⟨_,Heap.get?_push_size _ rfl,rfl⟩,slot_set_iterator_next.lookup,q⟩))
theorem next_raw {Q:Option (Value × Nat)→Shared→Prop} {slot:Nat} (x:Wk w s.heap S es ep tb) (hs:w.params.followText "set-order" = false→below tb.place slot = i)
  (q1:∀ hi:i < es.size,∀ slot',(w.params.followText "set-order" = false→below tb.place slot' = i + 1)→Q (some (((ordS w S ep es)[i]'(by rw [ord_size]; exact hi)).2,slot')) s) (q2:es.size≤i→Q none s):wpAny (model prog w) A (setNext S slot i ep) Q E s:=by
 have x0:=x
 obtain ⟨o,e,_,d,f,R,pz,l,p⟩:=x
 unfold setNext
 refine wpAny_bind (wpAny_setState_of e d f (wpAny_bind (wp_byText ?_)))
 cases hb:w.params.followText "set-order" with
 | true =>
  rw [if_pos rfl]
  dsimp only
  rw [if_neg (by simp)]
  refine wpAny_bind ?_
  unfold setWalk
  refine wpAny_bind (wpAny_setState_of e d f (wpAny_bind (wp_byText ?_)))
  rw [hb,if_pos rfl]
  refine wpAny_bind (wpAny_askSetting (wpAny_pure (wpAny_pure ?_)))
  have eo:ordS w S ep es = pickOrder (w.params.setOrder S ep) es:=by unfold ordS; rw [if_pos hb]
  show Q (Option.map (fun e => (e.2,slot)) (pickOrder (w.params.setOrder S ep) es)[i]?) s
  rw [← eo]
  rcases Nat.lt_or_ge i es.size with hi | hi
  ·rw [Array.getElem?_eq_getElem (by rw [ord_size]; exact hi)]
   exact q1 hi slot fun z => by rw [hb] at z; cases z
  ·rw [Array.getElem?_eq_none (by rw [ord_size]; exact hi)]
   exact q2 hi
 | false =>
  rw [if_neg (by decide)]
  dsimp only
  refine wpAny_ite_split (fun z => absurd (show (!tb.plain && decide (es.size > 1)) = true from z) (by rw [p]; simp)) fun _ => ?_
  have eo:ordS w S ep es = es:=by unfold ordS; rw [if_neg (by rw [hb]; decide)]
  refine wpAny_bind ?_
  refine wpAny_ite_split (M:=model prog w) (fun z => absurd (show (!tb.led && !es.isEmpty) = true from z) (by rw [l,hb]; simp)) fun _ => wpAny_pure ?_
  rw [hs hb]
  refine wpAny_pure ?_
  rcases Nat.lt_or_ge i es.size with hi | hi
  ·have h1:=q1 hi (tb.place.getD i 0 + 1) fun _ => below_next R (by rw [pz]; exact hi)
   have h2:i < tb.place.size:=by rw [pz]; exact hi
   rw [show (ordS w S ep es)[i]'(by rw [ord_size]; exact hi) = es[i] by simp only [eo]] at h1
   rw [Array.getElem?_eq_getElem hi,Array.getElem?_eq_getElem h2]
   rw [show tb.place.getD i 0 = tb.place[i] by simp [Array.getD,h2]] at h1
   exact h1
  ·rw [Array.getElem?_eq_none hi]
   exact q2 hi
theorem next_set {Q:Option Value→Shared→Prop} (k:Wi w s.heap it S i es.size ep tb) (x:Wk w s.heap S es ep tb) (hi:i < es.size)
  (q:∀ h',Wi w h' it S (i + 1) es.size ep tb→Heap.SameBut it s.heap h'→Q (some ((ordS w S ep es)[i]'(by rw [ord_size]; exact hi)).2) { s with heap:=h' }):wpAny (model prog w) A (pyNext (.ref it)) Q E s:=by
 have ty:=k.typeIs
 obtain ⟨oi,slot,e,c,dt,hs⟩:=id k
 refine wpAny_bind (wpAny_attempt (wpAny_callSpecial?_slot (name:=Str.ofString "__next__") ty slot_set_iterator_next (wpAny_call_entry slot_set_iterator_next ty entry_set_iterator_next ?_ (args_set_iterator_next_1 _))))
 unfold Builtin.«set_iterator.__next__»
 refine wpAny_bind (m:=slotArgs "__next__" 0 _) (wpAny_of_eq (a:=(Value.ref it,[])) rfl (wpAny_bind (wpAny_fieldsOf e dt ?_)))
 dsimp only
 refine wpAny_bind (wp_entries x ?_)
 rw [if_neg (by simp)]
 refine wpAny_bind (next_raw (i:=i) x (by simpa using hs) (fun hi' slot' hs' => ?_) fun z => absurd hi (by omega))
 show wpAny _ _ (setField (.ref it) 0 (rawInt (slot':Nat)) >>= fun _ => setField (.ref it) 1 (rawInt ((i:Int) + 1)) >>= fun _ => ret _) _ _ s
 refine wpAny_bind (wpAny_setField e dt (by simp) ?_)
 have g1:=Heap.get?_update_self (Obj.mapFields (·.setIfInBounds 0 (rawInt (slot':Nat)))) e (Obj.isFreed_of_fields (Obj.data_mapFields dt _))
 have d1:(Obj.mapFields (·.setIfInBounds 0 (rawInt (slot':Nat))) oi).data = .fields #[.int (slot':Nat) 0,.int (i:Nat) 0,.ref S,.int es.size 0,.int ep 0]:=by rw [Obj.data_mapFields dt]; simp [rawInt]
 have c1:(Obj.mapFields (·.setIfInBounds 0 (rawInt (slot':Nat))) oi).cls = .type "set_iterator":=(Obj.cls_mapFields ..).trans c
 have sb1:=Heap.SameBut.update s.heap it (Obj.mapFields (·.setIfInBounds 0 (rawInt (slot':Nat))))
 generalize s.heap.update it (Obj.mapFields (·.setIfInBounds 0 (rawInt (slot':Nat)))) = h1 at g1 sb1 ⊢
 generalize Obj.mapFields (·.setIfInBounds 0 (rawInt (slot':Nat))) oi = o1 at g1 d1 c1
 refine wpAny_bind (wpAny_setField (s:={ s with heap:=h1 }) g1 d1 (by simp) ?_)
 have g2:=Heap.get?_update_self (Obj.mapFields (·.setIfInBounds 1 (rawInt ((i:Int) + 1)))) g1 (Obj.isFreed_of_fields (Obj.data_mapFields d1 _))
 refine wpAny_pure ⟨_,rfl,wpAny_pure (q _ ⟨_,slot',g2,(Obj.cls_mapFields ..).trans c1,by rw [Obj.data_mapFields d1]; simp [rawInt],hs'⟩ (sb1.trans (Heap.SameBut.update ..)))⟩
theorem stop_set {Q:Option Value→Shared→Prop} (hh:A.handled = none) (k:Wi w s.heap it S i es.size ep tb) (x:Wk w s.heap S es ep tb) (hi:es.size≤i)
  (q:∀ h',Heap.ExtBut it s.heap h'→Q none { s with heap:=h' }):wpAny (model prog w) A (pyNext (.ref it)) Q E s:=by
 have ty:=k.typeIs
 obtain ⟨oi,slot,e,c,dt,hs⟩:=id k
 refine wpAny_bind (wpAny_attempt (wpAny_callSpecial?_slot (name:=Str.ofString "__next__") ty slot_set_iterator_next (wpAny_call_entry slot_set_iterator_next ty entry_set_iterator_next ?_ (args_set_iterator_next_1 _))))
 unfold Builtin.«set_iterator.__next__»
 refine wpAny_bind (m:=slotArgs "__next__" 0 _) (wpAny_of_eq (a:=(Value.ref it,[])) rfl (wpAny_bind (wpAny_fieldsOf e dt ?_)))
 dsimp only
 refine wpAny_bind (wp_entries x ?_)
 rw [if_neg (by simp)]
 refine wpAny_bind (next_raw (i:=i) x (by simpa using hs) (fun hi' slot' hs' => absurd hi (by omega)) fun z => ?_)
 show wpAny _ _ (setField (.ref it) 2 .none >>= _) _ _ s
 refine wpAny_bind (wpAny_setField e dt (by simp) ?_)
 show wpAny _ _ (newExc (.type "StopIteration") [] >>= _) _ _ _
 refine wpAny_bind ?_
 simp only [newExc,newTuple]
 refine wpAny_bind (wpAny_newObj_type (wpAny_bind (m:=firstArgMember _ _) (wpAny_of_eq (a:=Value.none) (by simp only [firstArgMember]; rfl) (wpAny_newObj_type ?_ (by size_fits)))) (by size_fits))
 simp only [raiseNew]
 refine wpAny_bind (wpAny_handled ?_)
 rw [show A.in1.handled = none from hh]
 refine wpAny_bind (wpAny_pure (wpAny_throw ?_))
 exact wpAny_bind (wpAny_isInstance (T:="StopIteration") (b:=true) ⟨_,Heap.get?_push_size _ rfl,rfl⟩ isSubtype_stop (wpAny_pure (q _ (((Heap.SameBut.update ..).extBut.push _).push _))))
theorem iter_self {Q:Value→Shared→Prop} (k:Wi w s.heap it S i es.size ep tb) (q:Q (.ref it) s):wpAny (model prog w) A (pyIter (.ref it)) Q E s:=by
 refine wpAny_pyIter_slot k.typeIs slot_set_iterator_iter (wpAny_call_entry slot_set_iterator_iter k.typeIs entry_set_iterator_iter ?_ (args_set_iterator_iter_1 _))
 show wpAny _ _ (ret (.ref it)) _ _ s
 exact wpAny_pure ⟨_,rfl,"set_iterator",_,k.typeIs,slot_set_iterator_next.lookup,q⟩
theorem hint_set {Q:Bool→Shared→Prop} (hT:s.TypeIs (.ref S) "set") (h:Q false s):wpAny (model prog w) A (Builtin.List.listLengthHint (.ref S)) Q E s:=by
 unfold Builtin.List.listLengthHint
 refine wpAny_bind (wpAny_specialOf hT PySem.F.slot_set_len.lookup ?_)
 generalize hid:("set.__len__":String) = id0
 wp_delta
 rw [show splitId id0 = some ("set","__len__") from by subst hid; decide +kernel]
 subst hid
 refine wpAny_bind (wpAny_isInstance (T:="set") (b:=true) hT (by rw [isSubtype_type]; kernel_rfl) ?_)
 refine wpAny_ite_split (fun hab => absurd hab (by decide)) (fun _ => ?_)
 refine wpAny_ite_split (fun _ => ?_) (fun hab => absurd (by decide +kernel) hab)
 refine wpAny_bind (wpAny_typeOf hT ?_)
 exact wpAny_pure h
theorem src_set:PySem.W.KdlSrc prog w "set" S S es.size (fun i v => ∃ hi:i < (ordS w S ep es).size,v = (ordS w S ep es)[i].2) (fun h => Wk w h S es ep tb) where
 type:=fun _ x => x.typeIs
 there:=fun _ x => by obtain ⟨ob,e,_⟩:=x; exact ⟨Heap.lt_size e,Heap.lt_size e⟩
 keep:=fun _ _ x k => x.keep fun o e => k S (.inl rfl) o e
 notList:=by decide
 notTuple:=by decide
 hint:=fun _ _ _ _ x q => hint_set x.typeIs q
 iter:=fun A s hh x => by
  have hlt:S < s.heap.objs.size:=by obtain ⟨ob,e,_⟩:=x; exact Heap.lt_size e
  have hR:Ris tb.place:=by obtain ⟨_,_,_,_,_,R,_⟩:=x; exact R
  refine ⟨{ cls:=.type "set_iterator",data:=.fields #[.int (0:Nat) 0,.int (0:Nat) 0,.ref S,.int es.size 0,.int ep 0] },fun i h => Wi w h s.heap.objs.size S i es.size ep tb∧Wk w h S es ep tb,fun E Q q => iter_set x q,?_,⟨_,0,Heap.get?_push_size _ rfl,rfl,rfl,fun _ => below_zero hR⟩,x.keep fun o e => Heap.get?_push_of_some _ e⟩
  refine ⟨fun b hb => by simp at hb; simp [hb],fun i h h' st k => ⟨?_,st.2.keep fun o e => k S (by simp) o e⟩,fun i s' Q E hi st q => ?_,fun s' Q E st q => ?_,fun i s' Q E st q => iter_self st.1 q⟩
  ·obtain ⟨ob,slot,e,r⟩:=st.1
   exact ⟨ob,slot,k _ (by simp) ob e,r⟩
  ·refine next_set st.1 st.2 hi fun h' k' sb => q _ h' s'.toks ⟨by rw [ord_size]; exact hi,rfl⟩ ⟨k',st.2.keep fun o e => sb.extBut S o (Nat.ne_of_lt hlt) e⟩ fun b o hb e => sb.extBut b o (fun z => hb (by simp [z])) e
  ·refine stop_set hh st.1 st.2 (Nat.le_refl _) fun h' eb => q h' s'.toks fun b o hb e => eb b o (fun z => hb (by simp [z])) e
theorem run_set {Q:Value→Shared→Prop} (hh:A.handled = none) (x:Wk w s.heap S es ep tb) (hn:es.size≤sizeLine)
  (q:∀ h' tk acc c,(∀ b o,s.heap.get? b = some o→h'.get? b = some o)→h'.get? s.heap.objs.size = some { cls:=.type "list",dict:=none,data:=.seq acc c,slots:=#[] }→ItemsOf (fun i v => ∃ hi:i < (ordS w S ep es).size,v = (ordS w S ep es)[i].2) acc es.size→Q (.ref s.heap.objs.size) { s with heap:=h',toks:=tk }) :
  wpAny (model prog w) A (runValue (.builtin "proto.collect" ⟨[.ref S],[]⟩)) Q E s:=by
 have hlt:S < s.heap.objs.size:=by obtain ⟨ob,e,_⟩:=x; exact Heap.lt_size e
 have ne:s.heap.objs.size≠S:=Nat.ne_of_gt hlt
 refine wpAny_runValue (codeAny_builtin F.entry_proto_collect ?_)
 rw [Around.under_plainId F.plain_proto_collect _]
 refine wpAny_bind (m:=newList []) (wpAny_newObj_type (wpAny_pure ⟨plainId_quiet F.plain_list_iadd _,codeAny_builtin F.entry_list_iadd ?_⟩))
 rw [Around.under_plainId F.plain_list_iadd _]
 have x2:Wk w (s.heap.push { cls:=.type "list",data:=.seq ([]:List Value).toArray }) S es ep tb:=x.keep fun o e => Heap.get?_push_of_some _ e
 exact PySem.W.kdl_extend (s:={ s with heap:=s.heap.push { cls:=.type "list",data:=.seq ([]:List Value).toArray } }) (R:=fun r s' => match r with | .ok (.ret v) => Q v s' | .ok _ => False | .error e => E e s') (src_set (es:=es) (ep:=ep) (tb:=tb)) hh x2 _ ne ne (.ref s.heap.objs.size) 0 (Heap.get?_push_size _ rfl)
  (fun h' tk acc c kp e items => q h' tk acc c (fun b o hb => kp b o (Nat.ne_of_lt (Heap.lt_size hb)) (Heap.get?_push_of_some _ hb)) e items) hn
theorem collect_set {Q:List Value→Shared→Prop} (hh:A.handled = none) (x:Wk w s.heap S es ep tb) (hn:es.size≤sizeLine)
  (q:∀ h' tk,(∀ b o,s.heap.get? b = some o→h'.get? b = some o)→s.heap.objs.size < h'.objs.size→Q ((ordS w S ep es).toList.map (·.2)) { s with heap:=h',toks:=tk }):wpAny (model prog w) A (collect (.ref S)) Q E s:=by
 refine wpAny_bind (run_set hh x hn fun h' tk acc c kp e items => ?_)
 show wpAny _ A (load s.heap.objs.size >>= _) _ _ _
 refine wpAny_bind (wpAny_load e (wpAny_pure ?_))
 have oz:=ord_size w S ep es
 generalize ordS w S ep es = os at items oz q
 have ea:acc.toList = os.toList.map (·.2):=by
  apply List.ext_getElem?
  intro k
  rw [List.getElem?_map,Array.getElem?_toList,Array.getElem?_toList]
  rcases Nat.lt_or_ge k os.size with hk | hk
  ·have h1:k < acc.size:=by rw [items.1,← oz]; exact hk
   rw [getElem?_pos os k hk,getElem?_pos acc k h1]
   obtain ⟨_,e2⟩:=items.2 k acc[k] (getElem?_pos acc k h1)
   rw [e2]; rfl
  ·rw [getElem?_neg os k (by omega),getElem?_neg acc k (by rw [items.1]; omega)]; rfl
 rw [ea]
 exact q h' tk kp (Heap.lt_size e)
end
end STb
namespace L2
open PySem PySem.Spec PyProof.Rows TS STb
section
variable {X:Cx}
theorem call_sortedS (hc:X.calm = true):CallR X (.builtin "sorted") (fun xs H Q => ∃ S us led d,xs = [.ref S]∧H S = some (.ext (SetE X.prog X.w S us led))∧(∀ x∈us,H x.2 = some (.tup (x.1.map kV)))∧(∀ x∈us,Ints x.1∧sd x.1 = d)∧d≠[]∧us.length≤1000000 ∧
  ∀ l bs' ks',H l = none→KeyAt H bs' ks'→ks'.Perm (us.map (·.1))→(ks'.Pairwise fun a b => lx b a = false)→Q (.ref l) (upd H l (.lst (bs'.map V.ref)))):=by
 intro pins s σ H xs us Q I r h
 obtain ⟨S,vs,led,d,rfl,e,ht,hi,hd,hn,q⟩:=h
 obtain ⟨u,rfl,ru⟩:=vals1 r
 cases ru
 obtain ⟨⟨o,es,ep,t,h1,h2,h3,h4,h5,h6,h7,h8⟩,_⟩:=(show ObjOk X.prog X.w H s.heap S (.ext (SetE X.prog X.w S vs led)) from I.hok S _ e)
 have sz:es.size = vs.length:=by rw [← Array.length_toList,h4,List.length_map]
 have x:Wk X.w s.heap S es ep t:=⟨o,h1,h2,h3,h5.fits,h5.ris,h5.size,h6.trans h7,h8 fun x hx => (hi x hx).1⟩
 have pm0:((ordS X.w S ep es).toList.map (·.2)).Perm (vs.map fun x => Value.ref x.2):=by
  have:=(ord_perm X.w S ep es).map (·.2)
  rw [h4,List.map_map] at this
  exact this
 generalize hos:(ordS X.w S ep es).toList.map (·.2) = os at pm0
 have hv:∀ v∈os,∃ x∈vs,v = .ref x.2∧H x.2 = some (.tup (x.1.map kV)):=fun v hv => by
  obtain ⟨x,hx,rfl⟩:=List.mem_map.mp (pm0.mem_iff.mp hv)
  exact ⟨x,hx,rfl,ht x hx⟩
 have hks:∀ v∈os,sd (kcOf H v) = d:=fun v hv' => by
  obtain ⟨x,hx,rfl,e1⟩:=hv v hv'
  rw [kcOf_at e1]
  exact (hi x hx).2
 have hline:(1000000:Nat)≤sizeLine:=by decide
 have hlen:os.length≤sizeLine:=by
  rw [pm0.length_eq,List.length_map]; omega
 refine sorted_of (kc:=kcOf H) (fun R hR => collect_set (A:=X.A.in1) (I.ok.hd hc) x (by rw [sz]; omega) fun h' tk kp lt => hos▸hR h' tk kp lt) (fun v hv' => ?_) hks hd hlen fun h' tk c p' out kp hp e' pm up => ?_
 ·obtain ⟨x,hx,rfl,e1⟩:=hv v hv'
  rw [kcOf_at e1]
  exact tupAt_of I.hok e1
 ·obtain ⟨rv,ka,pm2,up2⟩:=keys_out (fun v h => by obtain ⟨x,hx,e1,e2⟩:=hv v h; exact ⟨x.2,x.1,e1,e2⟩) rfl pm up
  have pk:(os.map (kcOf H)).Perm (vs.map (·.1)):=by
   have:=pm0.map (kcOf H)
   rw [List.map_map,List.map_congr_left (g:=fun x => x.1) (f:=kcOf H ∘ fun x => Value.ref x.2) fun x hx => kcOf_at (ht x hx)] at this
   exact this
  refine ⟨.ref p',_,I.laid (t':=tk) (o:=.lst ((out.map adOf).map V.ref)) kp hp ⟨?_,out,c,rv,e'⟩,rfl,q p' _ _ (I.hok.fresh hp) ka (pm2.trans pk) up2⟩
  rw [List.length_map,List.length_map,pm.length_eq]
  exact hlen
end
end L2
namespace L2
open PySem PySem.Spec PyProof.Rows
theorem turn_long {P:Program} {w:World} {K:PySem.W.Frag} {tg:Expr} (it:Addr) (lo:Int) (n:Nat):Turn P w K tg (Itr lo n) [it] it (fun i h => IsLongIter h it (lo + (i:Nat)) ((n:Int) - (i:Nat)) 1) true where
 mem:=by simp
 obj:=fun i h st b hb => by
  have e:b = it:=by simpa using hb
  subst e
  exact ⟨_,st,fun v z => by
   have z':Data.fields _ = Data.cell v:=z
   cases z'⟩
 keep:=fun i h h' st k => k it (by simp) _ st
 item:=by
  intro X hP hw hK hc i pins s σ H E I hf st hg
  subst hP hw hK
  obtain ⟨f0,f1,f2,f3,f4,f5⟩:=hf it (by simp)
  refine wpAny_pyNext_long_item st (by have:i < n:=hg; omega) fun h' st' sb => ?_
  obtain ⟨tk,htk⟩:∃ tk,tk = s.toks + 1:=⟨_,rfl⟩
  rw [← htk]
  have I1:Inv X pins σ H { s with heap:=h',toks:=tk }:=I.turned (fun b o hb e => (sb.2 b hb).trans e) f0 f1 f3 f4 f5
  have st2:IsLongIter h' it (lo + ((i + 1:Nat):Int)) ((n:Int) - ((i + 1:Nat):Int)) 1:=by
   rw [show lo + ((i + 1:Nat):Int) = lo + (i:Int) + 1 by omega,show (n:Int) - ((i + 1:Nat):Int) = (n:Int) - (i:Int) - 1 by omega]; exact st'
  exact ⟨_,rfl,go_of (s:={ s with heap:=h',toks:=tk }) (n:="longrange_iterator") st' rfl rfl (by decide) ⟨.int (lo + i),H,I1,⟨s.toks,rfl⟩,⟨rfl,rfl⟩,st2,fun b hb => (hf b hb).1⟩⟩
 done:=by
  intro X hP hw hK hc i pins s σ H E I hf st hg
  subst hP hw hK
  obtain ⟨f0,f1,f2,f3,f4,f5⟩:=hf it (by simp)
  exact wpAny_pyNext_long_end (I.ok.hd (hc rfl)) st (by have:n≤i:=hg; omega) fun h' eb => ⟨rfl,I.turned (t':=s.toks) (fun b o hb e => eb b o hb e) f0 f1 f3 f4 f5⟩
 self:=fun _ _ _ _ _ st h => wpAny_pyIter_longiter st h
section
variable {X:Cx} {tg:Expr}
theorem range_itL (hc:X.calm = true) {pins:List (Addr × Obj)} {σ:St} {H:Hp} {s:Shared} {R:It→Hp→Prop} {E:Value→Shared→Prop} {lo hi:Int} {t u v:Tok} {tk:Nat} (I:Inv X pins σ H s)
  (q:R (Itr lo (hi - lo).toNat) H):wpAny (model X.prog X.w) X.A (pyIter (.ref s.heap.objs.size)) (PIE X pins σ tg R) E { s with heap:=s.heap.push { cls:=.type "range",data:=.fields #[.int lo t,.int hi u,.int 1 v] },toks:=tk }:=by
 have I1:Inv X pins σ H { s with heap:=s.heap.push { cls:=.type "range",data:=.fields #[.int lo t,.int hi u,.int 1 v] },toks:=tk }:=I.kept fun b o e => Heap.get?_push_of_some _ e
 have e2:(((hi - lo).toNat:Nat):Int) - ((0:Nat):Int) = Builtin.Range.rangeSize lo hi 1:=by rw [rangeSize_one]; split <;> omega
 cases hs:Builtin.Range.small lo hi 1 with
 | true =>
  refine wpAny_pyIter_range (IsRange.new ..) hs ?_
  refine ⟨(s.heap.push { cls:=.type "range",data:=.fields #[.int lo t,.int hi u,.int 1 v] }).objs.size,[(s.heap.push { cls:=.type "range",data:=.fields #[.int lo t,.int hi u,.int 1 v] }).objs.size],_,_,H,rfl,
   I1.kept (t':=tk) fun b o e => Heap.get?_push_of_some _ e,TurnX.of (turn_range _ lo (hi - lo).toNat),?_,fun b hb => ?_,q⟩
  ·have e1:lo + ((0:Nat):Int) * 1 = lo:=by simp
   show IsRangeIter _ _ (lo + ((0:Nat):Int) * 1) ((((hi - lo).toNat:Nat):Int) - ((0:Nat):Int)) 1
   rw [e1,e2]
   exact Heap.get?_push_size _ rfl
  ·have e:b = (s.heap.push { cls:=.type "range",data:=.fields #[.int lo t,.int hi u,.int 1 v] }).objs.size:=by simpa using hb
   subst e
   exact I1.fpOk (Nat.le_refl _) (I1.hok.fresh (Nat.le_refl _))
 | false =>
  refine wpAny_pyIter_longrange (IsRange.new ..) hs ?_
  refine ⟨(s.heap.push { cls:=.type "range",data:=.fields #[.int lo t,.int hi u,.int 1 v] }).objs.size,[(s.heap.push { cls:=.type "range",data:=.fields #[.int lo t,.int hi u,.int 1 v] }).objs.size],_,_,H,rfl,
   I1.kept (t':=tk) fun b o e => Heap.get?_push_of_some _ e,⟨true,turn_long _ lo (hi - lo).toNat,fun _ => hc⟩,?_,fun b hb => ?_,q⟩
  ·have e1:lo + ((0:Nat):Int) = lo:=by simp
   show IsLongIter _ _ (lo + ((0:Nat):Int)) ((((hi - lo).toNat:Nat):Int) - ((0:Nat):Int)) 1
   rw [e1,e2]
   exact Heap.get?_push_size _ rfl
  ·have e:b = (s.heap.push { cls:=.type "range",data:=.fields #[.int lo t,.int hi u,.int 1 v] }).objs.size:=by simpa using hb
   subst e
   exact I1.fpOk (Nat.le_refl _) (I1.hok.fresh (Nat.le_refl _))
def iRngL (ta:TA):TI:=fun σ H R => ta σ H fun vs H1 => ∃ i j:Int,vs = [.int i,.int j]∧R (Itr i (j - i).toNat) H1
theorem pi_rangeL (hc:X.calm = true) {a b:Expr} {ta:TA} {p pos:Pos} (hg:Gl X "range") (hm:X.mg "range" = none) (ha:PA X [a,b] ta) (hs:starEach [a,b] X.env = [(false,eval a X.env),(false,eval b X.env)]:=by rfl) (hs2:starEach [b] X.env = [(false,eval b X.env)]:=by rfl) :
  PI X tg (.Call (.Name "range" p) [a,b] [] pos) (iRngL ta):=by
 intro pins s σ H R I h
 refine Call_ (ld_blt I hg hm boot_range (PyProof.Rows.callWith_type1 (thn (ha pos pins s σ H _ I h) fun us s1 ⟨vs,H1,I1,r1,q1⟩ => ?_) (by rw [hs,hs2]) (by rw [hs2]; rfl)))
 obtain ⟨i,j,e,q⟩:=q1
 subst e
 cases r1 with
 | cons r rr =>
  cases rr with
  | cons r' rr =>
   cases rr
   obtain ⟨t,rfl⟩:=r
   obtain ⟨t',rfl⟩:=r'
   exact call_range_2 (range_itL hc I1 q)
end
end L2
namespace L2
open PySem PySem.Spec PyProof.Rows
section
variable {prog:Program} {w:World} {A:Around} {E:Value→Shared→Prop} {s:Shared} {z TI TO i1 i2 l1 l2:Addr} {xs ys:Array Value} {k:Nat}
theorem nxt_item {it t:Addr} {i:Nat} {items:Array Value} {x:Value} {Q:Value→Shared→Prop} (hit:s.heap.IsTupleIter it t i) (ht:s.heap.IsTuple t items) (hx:items[i]? = some x)
  (hQ:∀ h',h'.IsTupleIter it t (i + 1)→Heap.SameBut it s.heap h'→Q x { s with heap:=h' }):wpAny (model prog w) A (Builtin.SmallTypes.nextOf (.ref it)) Q E s:=by
 obtain ⟨o,ho,hc,hd⟩:=id hit
 obtain ⟨ol,hol,_,nl,hdl⟩:=ht
 unfold Builtin.SmallTypes.nextOf
 refine wpAny_bind (wpAny_callSpecial?_slot (name:=Str.ofString "__next__") hit.typeIs F.slot_tuple_iterator_next (wpAny_call_entry F.slot_tuple_iterator_next hit.typeIs F.entry_tuple_iterator_next ?_ (F.args_tuple_iterator_next_1 _)))
 show wpAny _ _ (field (.ref it) 0 >>= _) _ _ s
 refine wpAny_bind (wpAny_field ho hd (x:=.ref t) rfl ?_)
 show wpAny _ _ (if (Value.ref t == Value.none) = true then _ else _) _ _ s
 rw [if_neg (show ¬ ((Value.ref t == Value.none) = true) from Bool.false_ne_true)]
 show wpAny _ _ (field (.ref it) 1 >>= _) _ _ s
 refine wpAny_bind (wpAny_field ho hd (x:=.int i 0) rfl ?_)
 show wpAny _ _ (seqItems? (.ref t) >>= _) _ _ s
 refine wpAny_bind (wpAny_seqItems hol hdl ?_)
 simp only [Int.toNat_natCast,hx]
 refine wpAny_bind (wpAny_setField ho hd (by simp) (wpAny_pure ⟨x,rfl,wpAny_pure (hQ _ ?_ (Heap.SameBut.update ..))⟩))
 exact ⟨_,Heap.get?_update_self _ ho (Obj.isFreed_of_fields (Obj.data_mapFields hd _)),(Obj.cls_mapFields ..).trans hc,by rw [Obj.data_mapFields hd]; simp [rawInt]⟩
theorem nxt_end {it t:Addr} {i:Nat} {items:Array Value} {Q:Value→Shared→Prop} (hh:A.handled = none) (hit:s.heap.IsTupleIter it t i) (ht:s.heap.IsTuple t items) (hx:items[i]? = none)
  (hE:∀ h' e,Heap.ExtBut it s.heap h'→(∃ o,h'.get? e = some o∧o.cls = .type "StopIteration")→E (.ref e) { s with heap:=h' }):wpAny (model prog w) A (Builtin.SmallTypes.nextOf (.ref it)) Q E s:=by
 obtain ⟨o,ho,hc,hd⟩:=id hit
 obtain ⟨ol,hol,_,nl,hdl⟩:=ht
 unfold Builtin.SmallTypes.nextOf
 refine wpAny_bind (wpAny_callSpecial?_slot (name:=Str.ofString "__next__") hit.typeIs F.slot_tuple_iterator_next (wpAny_call_entry F.slot_tuple_iterator_next hit.typeIs F.entry_tuple_iterator_next ?_ (F.args_tuple_iterator_next_1 _)))
 show wpAny _ _ (field (.ref it) 0 >>= _) _ _ s
 refine wpAny_bind (wpAny_field ho hd (x:=.ref t) rfl ?_)
 show wpAny _ _ (if (Value.ref t == Value.none) = true then _ else _) _ _ s
 rw [if_neg (show ¬ ((Value.ref t == Value.none) = true) from Bool.false_ne_true)]
 show wpAny _ _ (field (.ref it) 1 >>= _) _ _ s
 refine wpAny_bind (wpAny_field ho hd (x:=.int i 0) rfl ?_)
 show wpAny _ _ (seqItems? (.ref t) >>= _) _ _ s
 refine wpAny_bind (wpAny_seqItems hol hdl ?_)
 simp only [Int.toNat_natCast,hx]
 refine wpAny_bind (wpAny_rule (wpAny_bind (wpAny_setField ho hd (by simp) ?_)))
 show wpAny _ _ (newExc (.type "StopIteration") [] >>= _) _ _ _
 refine wpAny_bind ?_
 simp only [newExc,newTuple]
 refine wpAny_bind (wpAny_newObj_type ?_ (by size_fits))
 refine wpAny_bind (m:=firstArgMember _ _) (wpAny_of_eq (a:=Value.none) (by first | rfl | (simp only [firstArgMember]; rfl)) ?_)
 refine wpAny_newObj_type ?_ (by size_fits)
 simp only [raiseNew]
 refine wpAny_bind (wpAny_handled ?_)
 first | rw [show A.in1.handled = none from hh] | rw [hh]
 refine wpAny_bind (wpAny_pure (wpAny_throw ?_))
 exact hE _ _ (((Heap.SameBut.update ..).extBut.push _).push _) ⟨_,Heap.get?_push_size _ rfl,rfl⟩
theorem upd_two {M:Model} {vs:Array Value} {j:Nat} {x:Value} {Q:Unit→Shared→Prop} (h:s.heap.get? TO = some { cls:=.type "tuple",data:=.seq vs }) (hv:vs.size = 2)
  (k:∀ h',h'.get? TO = some { cls:=.type "tuple",data:=.seq (vs.setIfInBounds j x) }→Heap.SameBut TO s.heap h'→Q () { s with heap:=h' }):wpAny M A (updateSeq TO fun v => v.setIfInBounds j x) Q E s:=by
 refine wpAny_updateSeq h rfl (k _ ?_ (Heap.SameBut.update ..)) (by rw [hv]; decide) (by rw [Array.size_setIfInBounds,hv]; decide)
 have e:=Heap.get?_update_self (Obj.mapSeq fun v => v.setIfInBounds j x) h rfl
 rw [e]
 simp [Obj.mapSeq]
theorem Tup.ext {h h':Heap} {b l:Addr} {xs:Array Value} (x:h.IsTuple l xs) (e:Heap.ExtBut b h h') (n:l≠b):h'.IsTuple l xs:=by
 obtain ⟨o,ho,r⟩:=x
 exact ⟨o,e _ _ n ho,r⟩
theorem zipT_item (D:ZipApart z TI TO i1 i2 l1 l2) (hz:IsZip s.heap z TI TO .none) (hT:IsPair s.heap TI (.ref i1) (.ref i2)) {a b:Value} (hO:IsPair s.heap TO a b) (h1:s.heap.IsTupleIter i1 l1 k) (h2:s.heap.IsTupleIter i2 l2 k)
  (hl1:s.heap.IsTuple l1 xs) (hl2:s.heap.IsTuple l2 ys) {x y:Value} (hx:xs[k]? = some x) (hy:ys[k]? = some y) {Q:Option Value→Shared→Prop}
  (hQ:∀ h',IsZip h' z TI TO (rawInt s.heap.objs.size)→IsPair h' TO x y→h'.IsTupleIter i1 l1 (k + 1)→h'.IsTupleIter i2 l2 (k + 1)→IsPair h' s.heap.objs.size x y→(∀ c o,c≠z→c≠TO→c≠i1→c≠i2→s.heap.get? c = some o→h'.get? c = some o)→Q (some (.ref s.heap.objs.size)) { s with heap:=h' }) :
  wpAny (model prog w) A (pyNext (.ref z)) Q E s:=by
 have ht:s.TypeIs (.ref z) "zip":=⟨_,hz,rfl⟩
 unfold pyNext
 refine wpAny_bind (wpAny_attempt (wpAny_callSpecial?_slot (name:=Str.ofString "__next__") ht F.slot_zip_next (wpAny_call_entry F.slot_zip_next ht F.entry_zip_next ?_ (F.args_zip_next_1 _))))
 unfold Builtin.«zip.__next__»
 refine wpAny_bind (wpAny_of_eq (a:=(.ref z,[])) rfl ?_)
 refine wpAny_bind (wpAny_field (i:=2) hz rfl (x:=.bool false) rfl ?_)
 refine wpAny_bind (wpAny_field (i:=3) hz rfl (x:=.ref TI) rfl (wpAny_bind (wpAny_seqItems hT rfl ?_)))
 refine wpAny_bind ?_
 unfold Builtin.SmallTypes.ownedTupleIsFree
 refine wpAny_bind (wpAny_field (i:=0) hz rfl (x:=.none) rfl (wpAny_pure ?_))
 simp only [if_true]
 refine wpAny_bind (wpAny_rule (wpAny_bind (wpAny_field (i:=4) hz rfl (x:=.ref TO) rfl ?_)))
 refine wpAny_bind (wpAny_setField_rec hz (by simp) fun g0 z0 k0 => ?_)
 simp only [List.zipIdx_cons,List.zipIdx_nil,List.forIn_cons,List.forIn_nil]
 refine wpAny_bind (wpAny_bind (wpAny_bind (wpAny_onRaise ?_)))
 show wpAny _ _ (Builtin.SmallTypes.nextOf (.ref i1) >>= _) _ _ _
 refine wpAny_bind (nxt_item (s:={ s with heap:=g0 }) (h1.extBut k0.extBut D.i1z) (Tup.ext hl1 k0.extBut D.l1z) hx fun g1 d1 k1 => wpAny_pure ?_)
 dsimp only
 have o1:IsPair g1 TO a b:=(k1.2 TO D.TOi1).trans ((k0.2 TO D.TOz).trans hO)
 refine wpAny_bind (wpAny_seqItems o1 rfl ?_)
 dsimp only
 refine wpAny_bind (upd_two (s:={ s with heap:=g1 }) o1 rfl fun g2 o2 k2 => wpAny_bind (wpAny_letGo (wpAny_pure ?_)))
 dsimp only
 refine wpAny_bind (wpAny_bind (wpAny_onRaise ?_))
 show wpAny _ _ (Builtin.SmallTypes.nextOf (.ref i2) >>= _) _ _ _
 have e2:g2.IsTupleIter i2 l2 k:=((h2.extBut k0.extBut D.i2z).extBut k1.extBut (Ne.symm D.i12)).extBut k2.extBut (Ne.symm D.TOi2)
 have f2:g2.IsTuple l2 ys:=Tup.ext (Tup.ext (Tup.ext hl2 k0.extBut D.l2z) k1.extBut D.l2i1) k2.extBut D.l2TO
 refine wpAny_bind (nxt_item (s:={ s with heap:=g2 }) e2 f2 hy fun g3 d2 k3 => wpAny_pure ?_)
 dsimp only
 have o3:=(k3.2 TO D.TOi2).trans o2
 refine wpAny_bind (wpAny_seqItems o3 rfl ?_)
 dsimp only
 refine wpAny_bind (upd_two (s:={ s with heap:=g3 }) o3 rfl fun g4 o4 k4 => wpAny_bind (wpAny_letGo (wpAny_pure ?_)))
 dsimp only
 refine wpAny_pure ?_
 dsimp only
 refine wpAny_bind (wpAny_seqItems o4 rfl ?_)
 dsimp only
 have o4':IsPair g4 TO x y:=o4
 have hsz:g4.objs.size = s.heap.objs.size:=by rw [k4.1,k3.1,k2.1,k1.1,k0.1]
 refine wpAny_bind (wpAny_newTuple (s:={ s with heap:=g4 }) ?_ (by show 2≤sizeLine; decide))
 have z4:g4.get? z = some { cls:=.type "zip",data:=.fields #[.ellipsis,.bool false,.bool false,.ref TI,.ref TO] } :=
  (k4.2 z (Ne.symm D.TOz)).trans ((k3.2 z (Ne.symm D.i2z)).trans ((k2.2 z (Ne.symm D.TOz)).trans ((k1.2 z (Ne.symm D.i1z)).trans z0)))
 have psh:∀ ob c u,g4.get? c = some u→(g4.push ob).get? c = some u:=fun ob c u e => Heap.get?_push_of_some _ e
 have nT:g4.objs.size≠z:=Nat.ne_of_gt (Heap.lt_size z4)
 have tN:(g4.push { cls:=.type "tuple",data:=.seq #[x,y] }).get? g4.objs.size = some { cls:=.type "tuple",data:=.seq #[x,y] }:=Heap.get?_push_size g4 rfl
 unfold Builtin.SmallTypes.ownedTupleHandOut
 refine wpAny_bind (wpAny_bind (wpAny_setField_rec (psh _ _ _ z4) (by simp) fun g7 z7 k7 => wpAny_setField_rec z7 (by simp) fun g8 z8 k8 => ?_))
 refine wpAny_pure ⟨_,rfl,wpAny_pure ?_⟩
 rw [hsz] at z8
 rw [hsz] at *
 have up:∀ c o,c≠z→c≠TO→c≠i1→c≠i2→s.heap.get? c = some o→g4.get? c = some o:=fun c o n1 n2 n3 n4 e =>
  (k4.2 c n2).trans ((k3.2 c n4).trans ((k2.2 c n2).trans ((k1.2 c n3).trans ((k0.2 c n1).trans e))))
 have to8:∀ c o,c≠z→g4.get? c = some o→g8.get? c = some o:=fun c o n e => (k8.2 c n).trans ((k7.2 c n).trans (psh _ c o e))
 refine hQ g8 z8 (to8 _ _ D.TOz o4') ?_ ?_ ?_ fun c o n1 n2 n3 n4 e => to8 c o n1 (up c o n1 n2 n3 n4 e)
 ·exact (((d1.extBut k2.extBut (Ne.symm D.TOi1)).extBut k3.extBut D.i12).extBut k4.extBut (Ne.symm D.TOi1)).at fun o e => to8 _ _ D.i1z e
 ·exact (d2.extBut k4.extBut (Ne.symm D.TOi2)).at fun o e => to8 _ _ D.i2z e
 ·exact (k8.2 _ nT).trans ((k7.2 _ nT).trans tN)
theorem zipT_end (hh:A.handled = none) (D:ZipApart z TI TO i1 i2 l1 l2) (hz:IsZip s.heap z TI TO .none) (hT:IsPair s.heap TI (.ref i1) (.ref i2)) {a b:Value} (hO:IsPair s.heap TO a b) (h1:s.heap.IsTupleIter i1 l1 k) (h2:s.heap.IsTupleIter i2 l2 k)
  (hl1:s.heap.IsTuple l1 xs) (hl2:s.heap.IsTuple l2 ys) {x:Value} (hx:xs[k]? = some x) (hy:ys[k]? = none) {Q:Option Value→Shared→Prop}
  (hQ:∀ h',(∀ c o,c≠z→c≠TO→c≠i1→c≠i2→s.heap.get? c = some o→h'.get? c = some o)→Q none { s with heap:=h' }):wpAny (model prog w) A (pyNext (.ref z)) Q E s:=by
 have ht:s.TypeIs (.ref z) "zip":=⟨_,hz,rfl⟩
 unfold pyNext
 refine wpAny_bind (wpAny_attempt (wpAny_callSpecial?_slot (name:=Str.ofString "__next__") ht F.slot_zip_next (wpAny_call_entry F.slot_zip_next ht F.entry_zip_next ?_ (F.args_zip_next_1 _))))
 unfold Builtin.«zip.__next__»
 refine wpAny_bind (wpAny_of_eq (a:=(.ref z,[])) rfl ?_)
 refine wpAny_bind (wpAny_field (i:=2) hz rfl (x:=.bool false) rfl ?_)
 refine wpAny_bind (wpAny_field (i:=3) hz rfl (x:=.ref TI) rfl (wpAny_bind (wpAny_seqItems hT rfl ?_)))
 refine wpAny_bind ?_
 unfold Builtin.SmallTypes.ownedTupleIsFree
 refine wpAny_bind (wpAny_field (i:=0) hz rfl (x:=.none) rfl (wpAny_pure ?_))
 simp only [if_true]
 refine wpAny_bind (wpAny_rule (wpAny_bind (wpAny_field (i:=4) hz rfl (x:=.ref TO) rfl ?_)))
 refine wpAny_bind (wpAny_setField_rec hz (by simp) fun g0 z0 k0 => ?_)
 simp only [List.zipIdx_cons,List.zipIdx_nil,List.forIn_cons,List.forIn_nil]
 refine wpAny_bind (wpAny_bind (wpAny_bind (wpAny_onRaise ?_)))
 show wpAny _ _ (Builtin.SmallTypes.nextOf (.ref i1) >>= _) _ _ _
 refine wpAny_bind (nxt_item (s:={ s with heap:=g0 }) (h1.extBut k0.extBut D.i1z) (Tup.ext hl1 k0.extBut D.l1z) hx fun g1 d1 k1 => wpAny_pure ?_)
 dsimp only
 have o1:IsPair g1 TO a b:=(k1.2 TO D.TOi1).trans ((k0.2 TO D.TOz).trans hO)
 refine wpAny_bind (wpAny_seqItems o1 rfl ?_)
 dsimp only
 refine wpAny_bind (upd_two (s:={ s with heap:=g1 }) o1 rfl fun g2 o2 k2 => wpAny_bind (wpAny_letGo (wpAny_pure ?_)))
 dsimp only
 refine wpAny_bind (wpAny_bind (wpAny_onRaise ?_))
 show wpAny _ _ (Builtin.SmallTypes.nextOf (.ref i2) >>= _) _ _ _
 have e2:g2.IsTupleIter i2 l2 k:=((h2.extBut k0.extBut D.i2z).extBut k1.extBut (Ne.symm D.i12)).extBut k2.extBut (Ne.symm D.TOi2)
 have f2:g2.IsTuple l2 ys:=Tup.ext (Tup.ext (Tup.ext hl2 k0.extBut D.l2z) k1.extBut D.l2i1) k2.extBut D.l2TO
 refine wpAny_bind (nxt_end (s:={ s with heap:=g2 }) hh e2 f2 hy fun g3 e k3 he => ?_)
 have z3:g3.get? z = some { cls:=.type "zip",data:=.fields #[.ellipsis,.bool false,.bool false,.ref TI,.ref TO] }:=k3 z _ (Ne.symm D.i2z) ((k2.2 z (Ne.symm D.TOz)).trans ((k1.2 z (Ne.symm D.i1z)).trans z0))
 obtain ⟨oe,he1,he2⟩:=he
 refine wpAny_setField_rec (s:={ s with heap:=g3 }) z3 (by simp) fun g4 z4 k4 => ?_
 have nez:e≠z:=fun q => by rw [q,z3] at he1; cases he1; injection he2 with he3; exact absurd he3 (by decide)
 exact stopped (s:={ s with heap:=g4 }) ⟨oe,(k4.2 e nez).trans he1,he2⟩ (hQ g4 fun c o n1 n2 n3 n4 q => (k4.2 c n1).trans (k3 c o n4 ((k2.2 c n2).trans ((k1.2 c n3).trans ((k0.2 c n1).trans q)))))
theorem call_zipT {Q:Value→Shared→Prop} (hl1:s.heap.IsTuple l1 xs) (hl2:s.heap.IsTuple l2 ys)
  (h:∀ h',IsZip h' (s.heap.objs.size + 4) (s.heap.objs.size + 2) (s.heap.objs.size + 3) .none→IsPair h' (s.heap.objs.size + 2) (.ref s.heap.objs.size) (.ref (s.heap.objs.size + 1))→IsPair h' (s.heap.objs.size + 3) .none .none →
   h'.IsTupleIter s.heap.objs.size l1 0→h'.IsTupleIter (s.heap.objs.size + 1) l2 0→(∀ c o,s.heap.get? c = some o→h'.get? c = some o)→Q (.ref (s.heap.objs.size + 4)) { s with heap:=h' }) :
  wpAny (model prog w) A (call (.type "zip") [.ref l1,.ref l2]) Q E s:=by
 refine callType_newIn F.called_zip (by decide) (F.typeCall_zip_2 _ _) (F.newCall_zip_2 _ _) (fun obj => F.args_object_init_3 obj _ _) F.entry_zip_new (MeetsIn.of_wp (S:=fun A R s => wpAny (model prog w) A.in1 (Builtin.«zip.__new__» ⟨[.type "zip",.ref l1,.ref l2],[]⟩) (fun fin s' => ∃ v,fin = .done (.ret v)∧R (.ok (.ret v)) s') (fun e s' => R (.error e) s') s) fun _ _ _ h => h) ?_
 unfold Builtin.«zip.__new__»
 refine wpAny_bind (wpAny_of_eq (a:=(.type "zip",[.ref l1,.ref l2])) (by first | rfl | kernel_rfl) ?_)
 dsimp only
 rw [if_neg (by decide)]
 unfold Builtin.SmallTypes.iterAll
 simp only [List.forIn_cons,List.forIn_nil]
 refine wpAny_bind (wpAny_bind (wpAny_bind (wpAny_bind (wpAny_holding (wpAny_pyIter_tuple hl1 (wpAny_pure ?_))))))
 dsimp only
 refine wpAny_bind (wpAny_bind (wpAny_holding (wpAny_pyIter_tuple (s:={ s with heap:=_ }) (hl2.push _) (wpAny_pure ?_))))
 dsimp only
 refine wpAny_pure (wpAny_pure ?_)
 refine wpAny_bind (wpAny_newTuple (s:={ s with heap:=_ }) ?_ (by show 2≤sizeLine; decide))
 refine wpAny_bind (wpAny_newTuple (s:={ s with heap:=_ }) ?_ (by show 2≤sizeLine; decide))
 unfold Builtin.SmallTypes.newRecord Builtin.SmallTypes.ownedTupleFields
 dsimp only
 refine wpAny_bind ?_
 refine wpAny_newObj_type ?_ ?_
 rotate_left
 ·first | decide | size_fits
 refine wpAny_pure ⟨_,rfl,?_⟩
 simp only [Heap.size_push]
 have g:∀ {hh:Heap} {ob ob2:Obj} {c:Addr},hh.get? c = some ob→(hh.push ob2).get? c = some ob:=fun e => Heap.get?_push_of_some _ e
 have zz:∀ (hh:Heap) (ob:Obj) (n:Nat),hh.objs.size = n→ob.isFreed = false→(hh.push ob).get? n = some ob:=fun hh ob n e f => e▸Heap.get?_push_size hh f
 refine ⟨⟨_,zz _ _ _ (by simp only [Heap.size_push]) rfl,rfl⟩,h _ (zz _ _ _ (by simp only [Heap.size_push]) rfl) (g (g (zz _ _ _ (by simp only [Heap.size_push]) rfl))) (g (zz _ _ _ (by simp only [Heap.size_push]) rfl)) ⟨_,g (g (g (g (zz _ _ _ rfl rfl)))),rfl,rfl⟩ ⟨_,g (g (g (zz _ _ _ (by simp only [Heap.size_push]) rfl))),rfl,rfl⟩ fun c o e => g (g (g (g (g e))))⟩
end
def Itzt (K:PySem.W.Frag) (a b:Addr):It :=
 ⟨fun i H => ∃ xs ys x y,SqT K H a xs∧SqT K H b ys∧xs[i]? = some x∧ys[i]? = some y,
  fun i H v H' => ∃ p x y,H p = none∧v = .ref p∧H' = upd H p (.tup [x,y])∧∀ xs ys,SqT K H a xs→SqT K H b ys→xs[i]? = some x∧ys[i]? = some y,
  fun i H => ∃ xs ys x,SqT K H a xs∧SqT K H b ys∧xs[i]? = some x∧ys.length≤i⟩
theorem turn_zipT {P:Program} {w:World} {K:PySem.W.Frag} {elts:List Expr} {kk:Nat} {tpos:Pos} (z TI TO i1 i2 l1 l2:Addr) (D:ZipApart z TI TO i1 i2 l1 l2) :
  Turn P w K (.Tuple elts kk tpos) (Itzt K l1 l2) [z,TI,TO,i1,i2] z (fun i h => IsZip h z TI TO .none∧IsPair h TI (.ref i1) (.ref i2)∧(∃ a b,IsPair h TO a b)∧h.IsTupleIter i1 l1 i∧h.IsTupleIter i2 l2 i) true where
 mem:=by simp
 obj:=fun i h st b hb => by
  obtain ⟨q1,q2,⟨_,_,q3⟩,⟨o4,q4,_,d4⟩,⟨o5,q5,_,d5⟩⟩:=st
  simp only [List.mem_cons,List.not_mem_nil,or_false] at hb
  rcases hb with rfl | rfl | rfl | rfl | rfl
  ·exact ⟨_,q1,fun v e => by cases e⟩
  ·exact ⟨_,q2,fun v e => by cases e⟩
  ·exact ⟨_,q3,fun v e => by cases e⟩
  ·exact ⟨_,q4,fun v e => by rw [d4] at e; cases e⟩
  ·exact ⟨_,q5,fun v e => by rw [d5] at e; cases e⟩
 keep:=fun i h h' st k => by
  obtain ⟨q1,q2,⟨a,b,q3⟩,q4,q5⟩:=st
  exact ⟨k z (by simp) _ q1,k TI (by simp) _ q2,⟨a,b,k TO (by simp) _ q3⟩,q4.at fun o e => k i1 (by simp) o e,q5.at fun o e => k i2 (by simp) o e⟩
 item:=by
  intro X hP hw hK hc i pins s σ H E I hf st hg
  subst hP hw hK
  obtain ⟨xs,ys,x,y,hx,hy,ex,ey⟩:=hg
  obtain ⟨its,rv,p,_⟩:=I.tuple hx
  obtain ⟨jts,rw',p',_⟩:=I.tuple hy
  obtain ⟨u,hu,ru⟩:=rv.get ex
  obtain ⟨v,hv,rv'⟩:=rw'.get ey
  obtain ⟨q1,q2,⟨a,b,q3⟩,q4,q5⟩:=st
  refine zipT_item D q1 q2 q3 q4 q5 (show s.heap.IsTuple l1 its.toArray from p) (show s.heap.IsTuple l2 jts.toArray from p') (x:=u) (y:=v) (by simpa using hu) (by simpa using hv) fun h1 z1 z2 z3 z4 z5 z7 => ?_
  refine ⟨_,rfl,wpAny_letOwnedTupleGo_zip (s:={ s with heap:=h1 }) z1 fun h2 z1' sb => ?_⟩
  have keep:∀ c o,c ∉ [z,TO,i1,i2]→s.heap.get? c = some o→h2.get? c = some o:=fun c o hc e => by
   simp only [List.mem_cons,List.not_mem_nil,or_false,not_or] at hc
   exact (sb.2 c hc.1).trans (z7 c o hc.1 hc.2.1 hc.2.2.1 hc.2.2.2 e)
  have hlt:∀ {c o},s.heap.get? c = some o→c≠s.heap.objs.size:=fun e => Nat.ne_of_lt (Heap.lt_size e)
  have g4:=q4
  have g5:=q5
  obtain ⟨o4,e4,_,_⟩:=g4
  obtain ⟨o5,e5,_,_⟩:=g5
  have I1:Inv X pins σ H { s with heap:=h2 }:=I.turnedL (t':=s.toks) (fun c hc => hf c (by
   simp only [List.mem_cons,List.not_mem_nil,or_false] at hc ⊢
   rcases hc with h | h | h | h <;> simp [h])) keep
  have hp:H s.heap.objs.size = none:=I.fresh
  have tp:h2.get? s.heap.objs.size = some { cls:=.type "tuple",data:=.seq #[u,v] }:=(sb.2 _ (Ne.symm (hlt q1))).trans z5
  have I2:Inv X pins σ (upd H s.heap.objs.size (.tup [x,y])) { s with heap:=h2 }:=I1.track hp (Heap.get?_none_of_le I.sz) (Nat.ne_of_gt I.lt)
   (fun n c e zz => by obtain ⟨v0,o0,h0,_⟩:=I.cell n c e; exact hlt h0 zz) (fun q hq zz => hlt (I.pin q hq).1 zz) ⟨by show 2≤sizeLine; decide,[u,v],.cons ru (.cons rv' .nil),_,tp,rfl,_,rfl⟩
  refine ⟨.ref s.heap.objs.size,_,I2,rfl,⟨_,x,y,hp,rfl,rfl,fun xs' ys' hx' hy' => ?_⟩,⟨z1',?_,⟨u,v,(sb.2 _ D.TOz).trans z2⟩,z3.extBut sb.extBut D.i1z,z4.extBut sb.extBut D.i2z⟩,fun c hc => ?_⟩
  ·rw [I.tuple_inj hx' hx,I.tuple_inj hy' hy]; exact ⟨ex,ey⟩
  ·exact (sb.2 _ D.TIz).trans (z7 _ _ D.TIz D.TITO D.TIi1 D.TIi2 q2)
  ·have hcn:=(hf c hc).1
   rw [upd_ne ?_]
   ·exact hcn
   ·simp only [List.mem_cons,List.not_mem_nil,or_false] at hc
    rcases hc with rfl | rfl | rfl | rfl | rfl
    ·exact hlt q1
    ·exact hlt q2
    ·exact hlt q3
    ·exact hlt e4
    ·exact hlt e5
 done:=by
  intro X hP hw hK hc i pins s σ H E I hf st hg
  subst hP hw hK
  obtain ⟨xs,ys,x,hx,hy,ex,hend⟩:=hg
  obtain ⟨its,rv,p,_⟩:=I.tuple hx
  obtain ⟨jts,rw',p',_⟩:=I.tuple hy
  obtain ⟨u,hu,ru⟩:=rv.get ex
  obtain ⟨q1,q2,⟨a,b,q3⟩,q4,q5⟩:=st
  have hl':=rw'.length
  refine zipT_end (I.ok.hd (hc rfl)) D q1 q2 q3 q4 q5 (show s.heap.IsTuple l1 its.toArray from p) (show s.heap.IsTuple l2 jts.toArray from p') (x:=u) (by simpa using hu) (by simp; omega) fun h1 k => ⟨rfl,?_⟩
  refine I.turnedL (t':=s.toks) (ch:=[z,TO,i1,i2]) (fun c hc => hf c ?_) fun c o hc e => ?_
  ·simp only [List.mem_cons,List.not_mem_nil,or_false] at hc ⊢
   rcases hc with h | h | h | h <;> simp [h]
  ·simp only [List.mem_cons,List.not_mem_nil,or_false,not_or] at hc
   exact k c o hc.1 hc.2.1 hc.2.2.1 hc.2.2.2 e
 self:=fun _ _ _ _ _ st h => wpAny_pyIter_zip st.1 h
section
variable {X:Cx} {elts:List Expr} {kk:Nat} {tpos:Pos}
def iZipT (K:PySem.W.Frag) (ta:TA):TI:=fun σ H R => ta σ H fun vs H1 => ∃ a b,vs = [.ref a,.ref b]∧(∃ xs,SqT K H1 a xs)∧(∃ ys,SqT K H1 b ys)∧R (Itzt K a b) H1
theorem pi_zipT {a b:Expr} {ta:TA} {p pos:Pos} (hcm:X.calm = true) (hg:Gl X "zip") (hm:X.mg "zip" = none) (ha:PA X [a,b] ta) (hs:starEach [a,b] X.env = [(false,eval a X.env),(false,eval b X.env)]:=by rfl) (hs2:starEach [b] X.env = [(false,eval b X.env)]:=by rfl) :
  PI X (.Tuple elts kk tpos) (.Call (.Name "zip" p) [a,b] [] pos) (iZipT X.K ta):=by
 intro pins s σ H R I h
 refine Call_ (ld_blt I hg hm boot_zip (PyProof.Rows.callWith_type1 (thn (ha pos pins s σ H _ I h) fun us s1 ⟨vs,H1,I1,r1,q1⟩ => ?_) (by rw [hs,hs2]) (by rw [hs2]; rfl)))
 obtain ⟨l1,l2,e,⟨xs,hx⟩,⟨ys,hy⟩,q⟩:=q1
 subst e
 obtain ⟨u,v,rfl,ru,rv⟩:=vals2 r1
 cases ru
 cases rv
 obtain ⟨its,_,p1,_⟩:=I1.tuple hx
 obtain ⟨jts,_,p2,_⟩:=I1.tuple hy
 have t1:s1.heap.IsTuple l1 its.toArray:=p1
 have t2:s1.heap.IsTuple l2 jts.toArray:=p2
 have a1:l1 < s1.heap.objs.size:=by obtain ⟨_,e,_⟩:=t1; exact Heap.lt_size e
 have a2:l2 < s1.heap.objs.size:=by obtain ⟨_,e,_⟩:=t2; exact Heap.lt_size e
 refine call_zipT t1 t2 fun h' z1 z2 z3 z4 z5 k => wpAny_pyIter_zip (s:={ s1 with heap:=h' }) z1 ?_
 have I2:Inv X pins σ H1 { s1 with heap:=h' }:=I1.kept (t':=s1.toks) k
 refine ⟨s1.heap.objs.size + 4,[s1.heap.objs.size + 4,s1.heap.objs.size + 2,s1.heap.objs.size + 3,s1.heap.objs.size,s1.heap.objs.size + 1],_,_,H1,rfl,I2,⟨true,turn_zipT _ _ _ _ _ l1 l2 (zipApart_new a1 a2),fun _ => hcm⟩,⟨z1,z2,⟨_,_,z3⟩,z4,z5⟩,fun c hc => ?_,q⟩
 have le:s1.heap.objs.size≤c:=by
  simp only [List.mem_cons,List.not_mem_nil,or_false] at hc
  rcases hc with rfl | rfl | rfl | rfl | rfl <;> omega
 exact I1.fpOk le (I1.hok.fresh le)
end
theorem for_zipT {K:PySem.W.Frag} {a b:Addr} {xs ys:List V} {g:TG} {tb:TS} {D:Ends} {σ:St} {H:Hp} (Pv:Nat→St→Hp→Prop) (hlen:ys.length < xs.length) (h0:Pv 0 σ H) (hl:∀ i σ H,i≤ys.length→Pv i σ H→SqT K H a xs∧SqT K H b ys)
  (hs:∀ i x y p σ H,xs[i]? = some x→ys[i]? = some y→H p = none→Pv i σ H→g (.ref p) σ (upd H p (.tup [x,y])) fun σ2 H2 => tb { D with nx:=Pv (i + 1),ct:=Pv (i + 1),bk:=D.nx } σ2 H2) (hd:∀ σ H,Pv ys.length σ H→D.nx σ H) :
  ∃ W:Nat→Nat→St→Hp→Prop,(∃ m,W 0 m σ H)∧∀ i m σ H,W i m σ H →
   ((Itzt K a b).stop i H∧D.nx σ H)∨((Itzt K a b).go i H∧∃ N:St→Hp→Prop,(∀ σ' H',N σ' H'→∃ m',m' < m∧W (i + 1) m' σ' H')∧∀ x H',(Itzt K a b).yld i H x H'→g x σ H' fun σ2 H2 => tb { D with nx:=N,ct:=N,bk:=D.nx } σ2 H2):=by
 refine ⟨fun i m σ H => m = ys.length - i∧i≤ys.length∧Pv i σ H,⟨ys.length,by simp,Nat.zero_le _,h0⟩,?_⟩
 rintro i m σ H ⟨rfl,hi,p⟩
 obtain ⟨qa,qb⟩:=hl i σ H hi p
 have h1:i < xs.length:=by omega
 by_cases hlt:i < ys.length
 ·refine .inr ⟨⟨xs,ys,xs[i],ys[i],qa,qb,by simp [h1],by simp [hlt]⟩,Pv (i + 1),fun σ' H' p' => ⟨ys.length - (i + 1),by omega,rfl,hlt,p'⟩,fun v H' yy => ?_⟩
  obtain ⟨t,x,y,ht,rfl,rfl,hxy⟩:=yy
  obtain ⟨ex,ey⟩:=hxy xs ys qa qb
  exact hs i x y t σ H ex ey ht p
 ·obtain rfl:i = ys.length:=by omega
  exact .inl ⟨⟨xs,ys,xs[ys.length],qa,qb,by simp [h1],Nat.le_refl _⟩,hd σ H p⟩
section
variable {prog:Program} {w:World} {A:Around} {E:Value→Shared→Prop} {s:Shared}
theorem args_min4 (a b c d:Value):argsOk "min" ⟨[a,b,c,d],[]⟩:=by unfold argsOk; kernel_rfl
theorem min_four {a b c d:Value} {Q:Value→Shared→Prop}
  (h:wpAny (model prog w) A.in1 (pyIter (.ref s.heap.objs.size)) (fun it s2 => ∃ I fp wr n P St bt,it = .ref I∧Walks prog w A.in1 I fp wr n P St∧St 0 s2.heap∧(∀ b∈fp,b < s2.heap.objs.size)∧0 < n∧CmpOf prog w A.in1 .Lt P bt ∧
   ∀ v h' tk,P (argBest bt (n - 1)) v→(∀ b o,b ∉ wr→s2.heap.get? b = some o→h'.get? b = some o)→Q v { s2 with heap:=h',toks:=tk }) E
   { s with heap:=s.heap.push { cls:=.type "tuple",data:=.seq #[a,b,c,d] } }) :
  wpAny (model prog w) A (call (.builtin "min") [a,b,c,d]) Q E s:=by
 have hname:(toString "min" ++ toString ".loop":String) = "min.loop":=by decide
 refine call_function_tree PySem.F.kind_min PySem.F.plain_min PySem.F.entry_min (args_min4 _ _ _ _) ?_
 show wpAny _ A.in1 (Builtin.Builtins.bindParams "min" ["key","default"] 0 ⟨[],[]⟩ >>= _) _ _ s
 refine wpAny_bind (wpAny_of_eq (show Builtin.Builtins.bindParams "min" ["key","default"] 0 ⟨[],[]⟩ = pure [none,none] from rfl) ?_)
 show wpAny _ A.in1 (newTuple [a,b,c,d] >>= _) _ _ s
 refine wpAny_bind (wpAny_newObj_type ?_)
 refine wpAny_bind (wpAny_mono h (fun it s2 h2 => ?_) fun _ _ e => e)
 obtain ⟨I,fp,wr,n,P,St,bt,rfl,W,hst,hfp,hn,hcmp,hQ⟩:=h2
 refine wpAny_bind (wpAny_newObj_type ?_)
 have hSf:s2.heap.objs.size ∉ fp:=fun hm => Nat.lt_irrefl _ (hfp _ hm)
 rw [hname]
 refine wpAny_pure ⟨plainId_quiet PySem.F.plain_min_loop _,codeAny_min_loop_first W bt hcmp s2.heap.objs.size hSf hn (W.frame _ _ _ hst fun b _ o e => Heap.get?_push_of_some _ e) (Heap.get?_push_size _ rfl) fun v h' tk hP hk => ?_⟩
 exact hQ v h' tk hP fun b o hbw e => hk b o hbw (Nat.ne_of_lt (Heap.lt_size e)) (Heap.get?_push_of_some _ e)
end
section
variable {X:Cx}
theorem call_min4 (hc:X.calm = true):CallR X (.builtin "min") (fun xs H Q => ∃ a b c d:Int,xs = [.int a,.int b,.int c,.int d]∧∀ M,M∈[a,b,c,d]→(∀ x∈[a,b,c,d],M≤x)→Q (.int M) H):=by
 intro pins s σ H xs us Q I r h
 obtain ⟨a,b,c,d,rfl,q⟩:=h
 cases r with
 | cons r1 r => cases r with
  | cons r2 r => cases r with
   | cons r3 r => cases r with
    | cons r4 r =>
     cases r
     obtain ⟨t1,rfl⟩:=r1
     obtain ⟨t2,rfl⟩:=r2
     obtain ⟨t3,rfl⟩:=r3
     obtain ⟨t4,rfl⟩:=r4
     have hT:(s.heap.push { cls:=.type "tuple",data:=.seq #[.int a t1,.int b t2,.int c t3,.int d t4] }).IsTuple s.heap.objs.size (intItems #[(a,t1),(b,t2),(c,t3),(d,t4)]):=⟨_,Heap.get?_push_size _ rfl,rfl,0,by simp [intItems]⟩
     obtain ⟨zs,hzs⟩:∃ zs,zs = #[(a,t1),(b,t2),(c,t3),(d,t4)]:=⟨_,rfl⟩
     have hns:[a,b,c,d] = zs.toList.map (·.1):=by rw [hzs]; rfl
     have hsz:zs.size = 4:=by rw [hzs]; rfl
     rw [← hzs] at hT
     refine min_four (wpAny_pyIter_tuple hT ?_)
     have hsp:(s.heap.push { cls:=.type "tuple",data:=.seq #[.int a t1,.int b t2,.int c t3,.int d t4] }).objs.size = s.heap.objs.size + 1:=Heap.size_push ..
     refine ⟨_,[_,s.heap.objs.size],[_],_,_,_,_,rfl,Walks.tuple (A:=X.A.in1) (I.ok.hd hc) _ s.heap.objs.size (by rw [hsp]; exact Nat.ne_of_lt (Nat.lt_succ_self _)) (intItems zs),⟨⟨_,Heap.get?_push_size _ rfl,rfl,rfl⟩,hT.push _⟩,fun x hx => ?_,by simp [intItems,hsz],CmpOf.ints_lt (numAt zs) (fun _ _ => intItems_at),fun v h' tk hv hk => ?_⟩
     ·simp only [List.mem_cons,List.not_mem_nil,or_false] at hx
      show x < ((s.heap.push _).push _).objs.size
      rw [Heap.size_push,hsp]
      rcases hx with rfl | rfl
      ·rw [hsp]; exact Nat.lt_succ_self _
      ·exact Nat.lt_succ_of_lt (Nat.lt_succ_self _)
     ·have hv:(intItems zs)[argBest (fun i j => decide (numAt zs i < numAt zs j)) (zs.size - 1)]? = some v:=by simpa [intItems] using hv
      obtain ⟨t,rfl⟩:=intItems_at hv
      obtain ⟨h1,h2⟩:=argBest_lt (numAt zs) (zs.size - 1)
      refine ⟨.int _,H,I.kept fun b o e => hk b o (fun hm => ?_) (Heap.get?_push_of_some _ (Heap.get?_push_of_some _ e)),⟨t,rfl⟩,q _ ?_ fun x hx => ?_⟩
      ·rw [List.mem_singleton.mp hm,hsp] at e
       exact absurd (show s.heap.objs.size + 1 < s.heap.objs.size from Heap.lt_size e) (by omega)
      ·rw [hns,numAt_eq]; exact getD_mem (by rw [List.length_map,Array.length_toList]; omega)
      ·rw [hns] at hx
       obtain ⟨j,hj,rfl⟩:=mem_getD hx
       rw [List.length_map,Array.length_toList] at hj
       rw [← numAt_eq]; exact h2 j (by omega)
end
section
variable {X:Cx} {e:Expr} {f:Str} {pos:Pos} {ta:TE}
theorem pe_fldK {K:PySem.W.Frag} (hK:X.K = K) (he:PE X e ta) (hb:attributeBase e f X.env (eval e X.env) = eval e X.env):PE X (.Attribute e f pos) (tFld K ta f):=hK▸pe_fld he hb
end
end L2
namespace L2
open PySem PySem.Spec PyProof.Rows
section
variable {prog:Program} {w:World} {A:Around} {E:Value→Shared→Prop} {s:Shared}
open HT in
theorem cut_whole {t sl:Addr} {items:Array Value} {vl vu:Value} {lo hi:Option Int} {Q:Value→Shared→Prop} (ht:IsTup s.heap t items) (hs:s.heap.IsSliceOf sl vl vu .none) (pl:IsPart vl lo) (pu:IsPart vu hi)
  (h1:sIx items.size 0 lo = 0) (h2:sIx items.size items.size hi = items.size) (h:Q (.ref t) s):wpAny (model prog w) A (getItem (.ref t) (.ref sl)) Q E s:=by
 obtain ⟨os,hos,hcs,hds⟩:=id hs
 have hTs:s.TypeIs (.ref sl) "slice":=⟨os,hos,hcs⟩
 unfold getItem
 try with_reducible refine wpAny_holding ?_
 first | refine wpAny_bind (wpAny_pure ?_) | skip
 refine wpAny_bind (wpAny_sequenceKey ht.typeIs (by decide) ?_)
 refine wpAny_bind (wpAny_callSpecial?_slot (name:=Str.ofString "__getitem__") ht.typeIs PyProof.Rows.slot_tuple_getitem
  (wpAny_call_entry PyProof.Rows.slot_tuple_getitem ht.typeIs entry_tuple_getitem ?_ (args_tuple_getitem _ _)))
 show wpAny _ _ (Builtin.Tuple.tupleItemsOf (.ref t) >>= _) _ _ s
 refine wpAny_bind (tupleItemsOf_ ht ?_)
 refine wpAny_bind (wpAny_typeOf hTs ?_)
 rw [if_pos (by decide)]
 refine wpAny_bind (sliceApplied_gen hs pl pu ?_)
 show wpAny _ _ (if (((sIx items.size 0 lo:Nat):Int) == 0 && (1:Int) == 1 && (sIx items.size items.size hi - sIx items.size 0 lo) == items.size) = true then _ else _) _ _ s
 rw [if_pos (by rw [h1,h2]; simp)]
 refine wpAny_bind (m:=Builtin.Tuple.tupleIsExact (.ref t)) ?_
 unfold Builtin.Tuple.tupleIsExact
 refine wpAny_bind (wpAny_typeOf ht.typeIs (wpAny_pure ?_))
 rw [if_pos (by decide)]
 first
  | exact wpAny_bind (wpAny_rule (wpAny_pure ⟨_,rfl,wpAny_pure h⟩))
  | exact wpAny_bind (wpAny_rule (wpAny_bind (wpAny_pure (wpAny_pure ⟨_,rfl,wpAny_pure h⟩))))
end
section
variable {X:Cx}
def rSlW (K:PySem.W.Frag):V→Option Int→Option Int→Hp→VK→Prop:=fun x lo hi H Q => ∃ a xs,x = .ref a∧SqT K H a xs ∧
 ((HT.sIx xs.length 0 lo = 0∧HT.sIx xs.length xs.length hi = xs.length)→Q (.ref a) H)∧(¬ (HT.sIx xs.length 0 lo = 0∧HT.sIx xs.length xs.length hi = xs.length)→∀ p,H p = none→Q (.ref p) (upd H p (.tup (cutV xs lo hi))))
theorem sl_tupW:SlR X (rSlW X.K):=by
 intro pins s σ H x v vl vu lo hi sl Q I rx hs pl pu h
 obtain ⟨a,xs,rfl,hx,q1,q2⟩:=h
 by_cases hw:HT.sIx xs.length 0 lo = 0∧HT.sIx xs.length xs.length hi = xs.length
 ·cases rx
  obtain ⟨its,r,ht,hz⟩:=I.tuple hx
  have hlen:its.toArray.size = xs.length:=by rw [List.size_toArray]; exact r.length.symm
  refine ⟨"tuple",_,PyProof.Rows.slot_tuple_getitem.lookup,ht.typeIs,?_⟩
  exact cut_whole ht hs pl pu (by rw [hlen]; exact hw.1) (by rw [hlen]; exact hw.2) ⟨.ref a,H,I,rfl,q1 hw⟩
 ·exact sl_tup pins s σ H (.ref a) v vl vu lo hi sl Q I rx hs pl pu ⟨a,xs,rfl,hx,hw,q2 hw⟩
end
end L2
namespace K03
open PySem L2
def top (i:Nat):Stmt:=PySem.Challenge.pw_copperbook_k03_shapes_as_texts.main.body.getD i (.Pass ⟨0,0,0,0⟩)
abbrev s_is_whole:Stmt:=top 7
theorem sc_is_whole:FnScope ["value"] ["value"] (defScope s_is_whole):=⟨rfl,rfl,rfl,by decide +kernel,rfl,by decide +kernel,by decide +kernel⟩
abbrev s_need_whole:Stmt:=top 18
theorem sc_need_whole:FnScope ["numbers","number"] ["numbers"] (defScope s_need_whole):=⟨rfl,rfl,rfl,by decide +kernel,rfl,by decide +kernel,by decide +kernel⟩
abbrev s_need_from_one:Stmt:=top 19
theorem sc_need_from_one:FnScope ["numbers"] ["numbers"] (defScope s_need_from_one):=⟨rfl,rfl,rfl,by decide +kernel,rfl,by decide +kernel,by decide +kernel⟩
abbrev s_need_corners:Stmt:=top 20
theorem sc_need_corners:FnScope ["corners","corner","one","other"] ["corners"] (defScope s_need_corners):=⟨rfl,rfl,rfl,by decide +kernel,rfl,by decide +kernel,by decide +kernel⟩
abbrev s_tell_row:Stmt:=top 10
theorem sc_tell_row:FnScope ["word","numbers"] ["word","numbers"] (defScope s_tell_row):=⟨rfl,rfl,rfl,by decide +kernel,rfl,by decide +kernel,by decide +kernel⟩
abbrev s_read_number:Stmt:=top 8
theorem sc_read_number:FnScope ["word","figures"] ["word"] (defScope s_read_number):=⟨rfl,rfl,rfl,by decide +kernel,rfl,by decide +kernel,by decide +kernel⟩
abbrev s_read_row:Stmt:=top 9
theorem sc_read_row:FnScope ["text","words","numbers"] ["text"] (defScope s_read_row):=⟨rfl,rfl,rfl,by decide +kernel,rfl,by decide +kernel,by decide +kernel⟩
abbrev s_read_shape:Stmt:=top 22
theorem sc_read_shape:FnScope ["text","row","word","numbers"] ["text"] (defScope s_read_shape):=⟨rfl,rfl,rfl,by decide +kernel,rfl,by decide +kernel,by decide +kernel⟩
abbrev s_box_places:Stmt:=top 21
theorem sc_box_places:FnScope ["x","y","wide","high","places","column"] ["x","y","wide","high"] (defScope s_box_places):=⟨rfl,rfl,rfl,by decide +kernel,rfl,by decide +kernel,by decide +kernel⟩
abbrev s_Block_init:Stmt:=inClass (top 15) 0
theorem sc_Block_init:FnScope ["self","x","y","wide","high"] ["self","x","y","wide","high"] (defScope s_Block_init):=⟨rfl,rfl,rfl,by decide +kernel,rfl,by decide +kernel,by decide +kernel⟩
abbrev s_Block_told:Stmt:=inClass (top 15) 6
theorem sc_Block_told:FnScope ["self"] ["self"] (defScope s_Block_told):=⟨rfl,rfl,rfl,by decide +kernel,rfl,by decide +kernel,by decide +kernel⟩
abbrev s_Block_cells:Stmt:=inClass (top 15) 1
theorem sc_Block_cells:FnScope ["self"] ["self"] (defScope s_Block_cells):=⟨rfl,rfl,rfl,by decide +kernel,rfl,by decide +kernel,by decide +kernel⟩
abbrev s_Line_init:Stmt:=inClass (top 16) 0
theorem sc_Line_init:FnScope ["self","corners","width"] ["self","corners","width"] (defScope s_Line_init):=⟨rfl,rfl,rfl,by decide +kernel,rfl,by decide +kernel,by decide +kernel⟩
abbrev s_Line_told:Stmt:=inClass (top 16) 6
theorem sc_Line_told:FnScope ["self","numbers","corner"] ["self"] (defScope s_Line_told):=⟨rfl,rfl,rfl,by decide +kernel,rfl,by decide +kernel,by decide +kernel⟩
abbrev s_Line_cells:Stmt:=inClass (top 16) 1
theorem sc_Line_cells:FnScope ["self","half","places","one","other","x","y","wide","high"] ["self"] (defScope s_Line_cells):=⟨rfl,rfl,rfl,by decide +kernel,rfl,by decide +kernel,by decide +kernel⟩
abbrev s_Frame_init:Stmt:=inClass (top 17) 0
theorem sc_Frame_init:FnScope ["self","x","y","wide","high","thick"] ["self","x","y","wide","high","thick"] (defScope s_Frame_init):=⟨rfl,rfl,rfl,by decide +kernel,rfl,by decide +kernel,by decide +kernel⟩
abbrev s_Frame_told:Stmt:=inClass (top 17) 7
theorem sc_Frame_told:FnScope ["self"] ["self"] (defScope s_Frame_told):=⟨rfl,rfl,rfl,by decide +kernel,rfl,by decide +kernel,by decide +kernel⟩
abbrev s_Frame_cells:Stmt:=inClass (top 17) 1
theorem sc_Frame_cells:FnScope ["self","places"] ["self"] (defScope s_Frame_cells):=⟨rfl,rfl,rfl,by decide +kernel,rfl,by decide +kernel,by decide +kernel⟩
abbrev s_Frame_steps_from_edge:Stmt:=inClass (top 17) 3
theorem sc_Frame_steps_from_edge:FnScope ["self","place","across","down"] ["self","place"] (defScope s_Frame_steps_from_edge):=⟨rfl,rfl,rfl,by decide +kernel,rfl,by decide +kernel,by decide +kernel⟩
abbrev s_law_cell:Stmt:=top 24
theorem sc_law_cell:FnScope ["_law_script","_law_k"] ["_law_script","_law_k"] (defScope s_law_cell):=⟨rfl,rfl,rfl,by decide +kernel,rfl,by decide +kernel,by decide +kernel⟩
abbrev s_law_mixed:Stmt:=top 25
theorem sc_law_mixed:FnScope ["_law_cell_here","_law_k","_law_number"] ["_law_cell_here","_law_k"] (defScope s_law_mixed):=⟨rfl,rfl,rfl,by decide +kernel,rfl,by decide +kernel,by decide +kernel⟩
abbrev s_law_twice:Stmt:=top 26
theorem sc_law_twice:FnScope ["_law_cell_here","_law_k","_law_number"] ["_law_cell_here","_law_k"] (defScope s_law_twice):=⟨rfl,rfl,rfl,by decide +kernel,rfl,by decide +kernel,by decide +kernel⟩
abbrev s_law_well:Stmt:=top 27
theorem sc_law_well:FnScope ["_law_script","_law_k"] ["_law_script","_law_k"] (defScope s_law_well):=⟨rfl,rfl,rfl,by decide +kernel,rfl,by decide +kernel,by decide +kernel⟩
abbrev s_law_draw:Stmt:=top 28
theorem sc_law_draw:FnScope ["_law_well_here","_law_most","_law_number"] ["_law_well_here","_law_most"] (defScope s_law_draw):=⟨rfl,rfl,rfl,by decide +kernel,rfl,by decide +kernel,by decide +kernel⟩
abbrev s_law_far:Stmt:=top 29
theorem sc_law_far:FnScope ["_law_well_here","_law_number"] ["_law_well_here"] (defScope s_law_far):=⟨rfl,rfl,rfl,by decide +kernel,rfl,by decide +kernel,by decide +kernel⟩
abbrev s_law_numbers:Stmt:=top 30
theorem sc_law_numbers:FnScope ["_law_well_here","_law_kind","_law_x","_law_y","_law_numbers_here","_law_k","_law_step"] ["_law_well_here"] (defScope s_law_numbers):=⟨rfl,rfl,rfl,by decide +kernel,rfl,by decide +kernel,by decide +kernel⟩
abbrev s_law_shape:Stmt:=top 31
theorem sc_law_shape:FnScope ["_law_kind","_law_numbers_here"] ["_law_kind","_law_numbers_here"] (defScope s_law_shape):=⟨rfl,rfl,rfl,by decide +kernel,rfl,by decide +kernel,by decide +kernel⟩
abbrev s_law_is_sort:Stmt:=top 32
theorem sc_law_is_sort:FnScope ["_law_shape_here","_law_kind"] ["_law_shape_here","_law_kind"] (defScope s_law_is_sort):=⟨rfl,rfl,rfl,by decide +kernel,rfl,by decide +kernel,by decide +kernel⟩
abbrev s_law:Stmt:=top 33
theorem sc_law:FnScope ["_law_script","_law_kind","_law_numbers_here","_law_far_here","_law_shape_here","_law_due","_law_again"] ["_law_script"] (defScope s_law):=⟨rfl,rfl,rfl,by decide +kernel,rfl,by decide +kernel,by decide +kernel⟩
structure Adr where
 c_Block:Addr
 c_Line:Addr
 c_Frame:Addr
 f_is_whole:Addr
 f_need_whole:Addr
 f_need_from_one:Addr
 f_need_corners:Addr
 f_tell_row:Addr
 f_read_number:Addr
 f_read_row:Addr
 f_read_shape:Addr
 f_box_places:Addr
 f_Block_init:Addr
 f_Block_told:Addr
 f_Block_cells:Addr
 f_Line_init:Addr
 f_Line_told:Addr
 f_Line_cells:Addr
 f_Frame_init:Addr
 f_Frame_told:Addr
 f_Frame_cells:Addr
 f_Frame_steps_from_edge:Addr
 f_law_cell:Addr
 f_law_mixed:Addr
 f_law_twice:Addr
 f_law_well:Addr
 f_law_draw:Addr
 f_law_far:Addr
 f_law_numbers:Addr
 f_law_shape:Addr
 f_law_is_sort:Addr
 f_law:Addr
 c_NoShape:Addr
 tk_MOST_CORNERS:Tok
 tk_MOST_FIGURES:Tok
 tk_FIGURES:Tok
 a_WIDTHS:Addr
structure Txt (K:PySem.W.Frag) (mg:Str→Option Value) (t:Adr):Prop where
 g_Block:mg "Block" = some (.ref t.c_Block)
 g_Line:mg "Line" = some (.ref t.c_Line)
 g_Frame:mg "Frame" = some (.ref t.c_Frame)
 cl_Block:Cls K t.c_Block
 na_Block_x:NoAttr K t.c_Block "x"
 na_Block_y:NoAttr K t.c_Block "y"
 na_Block_wide:NoAttr K t.c_Block "wide"
 na_Block_high:NoAttr K t.c_Block "high"
 ty_Block:∀ H a dx fs,H a = some (.ins t.c_Block dx fs)→TyOf K H (.ref a) (.ref t.c_Block)
 cl_Line:Cls K t.c_Line
 na_Line_corners:NoAttr K t.c_Line "corners"
 na_Line_width:NoAttr K t.c_Line "width"
 ty_Line:∀ H a dx fs,H a = some (.ins t.c_Line dx fs)→TyOf K H (.ref a) (.ref t.c_Line)
 cl_Frame:Cls K t.c_Frame
 na_Frame_x:NoAttr K t.c_Frame "x"
 na_Frame_y:NoAttr K t.c_Frame "y"
 na_Frame_wide:NoAttr K t.c_Frame "wide"
 na_Frame_high:NoAttr K t.c_Frame "high"
 na_Frame_thick:NoAttr K t.c_Frame "thick"
 ty_Frame:∀ H a dx fs,H a = some (.ins t.c_Frame dx fs)→TyOf K H (.ref a) (.ref t.c_Frame)
 F_is_whole:∃ fd,Fun K "is_whole" "is_whole" s_is_whole t.f_is_whole fd∧Binds K fd ["value"] []
 g_is_whole:mg "is_whole" = some (.ref t.f_is_whole)
 F_need_whole:∃ fd,Fun K "need_whole" "need_whole" s_need_whole t.f_need_whole fd∧Binds K fd ["numbers"] []
 g_need_whole:mg "need_whole" = some (.ref t.f_need_whole)
 F_need_from_one:∃ fd,Fun K "need_from_one" "need_from_one" s_need_from_one t.f_need_from_one fd∧Binds K fd ["numbers"] []
 g_need_from_one:mg "need_from_one" = some (.ref t.f_need_from_one)
 F_need_corners:∃ fd,Fun K "need_corners" "need_corners" s_need_corners t.f_need_corners fd∧Binds K fd ["corners"] []
 g_need_corners:mg "need_corners" = some (.ref t.f_need_corners)
 F_tell_row:∃ fd,Fun K "tell_row" "tell_row" s_tell_row t.f_tell_row fd∧Binds K fd ["word","numbers"] []
 g_tell_row:mg "tell_row" = some (.ref t.f_tell_row)
 F_read_number:∃ fd,Fun K "read_number" "read_number" s_read_number t.f_read_number fd∧Binds K fd ["word"] []
 g_read_number:mg "read_number" = some (.ref t.f_read_number)
 F_read_row:∃ fd,Fun K "read_row" "read_row" s_read_row t.f_read_row fd∧Binds K fd ["text"] []
 g_read_row:mg "read_row" = some (.ref t.f_read_row)
 F_read_shape:∃ fd,Fun K "read_shape" "read_shape" s_read_shape t.f_read_shape fd∧Binds K fd ["text"] []
 g_read_shape:mg "read_shape" = some (.ref t.f_read_shape)
 F_box_places:∃ fd,Fun K "box_places" "box_places" s_box_places t.f_box_places fd∧Binds K fd ["x","y","wide","high"] []
 g_box_places:mg "box_places" = some (.ref t.f_box_places)
 F_Block_init:∃ fd,Fun K "__init__" "Block.__init__" s_Block_init t.f_Block_init fd∧Binds K fd ["self","x","y","wide","high"] []
 K_Block:Mk K t.c_Block t.f_Block_init
 F_Block_told:∃ fd,Fun K "told" "Block.told" s_Block_told t.f_Block_told fd∧Binds K fd ["self"] []
 M_Block_told:Meth K t.c_Block "told" t.f_Block_told
 F_Block_cells:∃ fd,Fun K "cells" "Block.cells" s_Block_cells t.f_Block_cells fd∧Binds K fd ["self"] []
 M_Block_cells:Meth K t.c_Block "cells" t.f_Block_cells
 F_Line_init:∃ fd,Fun K "__init__" "Line.__init__" s_Line_init t.f_Line_init fd∧Binds K fd ["self","corners","width"] []
 K_Line:Mk K t.c_Line t.f_Line_init
 F_Line_told:∃ fd,Fun K "told" "Line.told" s_Line_told t.f_Line_told fd∧Binds K fd ["self"] []
 M_Line_told:Meth K t.c_Line "told" t.f_Line_told
 F_Line_cells:∃ fd,Fun K "cells" "Line.cells" s_Line_cells t.f_Line_cells fd∧Binds K fd ["self"] []
 M_Line_cells:Meth K t.c_Line "cells" t.f_Line_cells
 F_Frame_init:∃ fd,Fun K "__init__" "Frame.__init__" s_Frame_init t.f_Frame_init fd∧Binds K fd ["self","x","y","wide","high","thick"] []
 K_Frame:Mk K t.c_Frame t.f_Frame_init
 F_Frame_told:∃ fd,Fun K "told" "Frame.told" s_Frame_told t.f_Frame_told fd∧Binds K fd ["self"] []
 M_Frame_told:Meth K t.c_Frame "told" t.f_Frame_told
 F_Frame_cells:∃ fd,Fun K "cells" "Frame.cells" s_Frame_cells t.f_Frame_cells fd∧Binds K fd ["self"] []
 M_Frame_cells:Meth K t.c_Frame "cells" t.f_Frame_cells
 F_Frame_steps_from_edge:∃ fd,Fun K "steps_from_edge" "Frame.steps_from_edge" s_Frame_steps_from_edge t.f_Frame_steps_from_edge fd∧Binds K fd ["self","place"] []
 M_Frame_steps_from_edge:Meth K t.c_Frame "steps_from_edge" t.f_Frame_steps_from_edge
 F_law_cell:∃ fd,Fun K "_law_cell" "_law_cell" s_law_cell t.f_law_cell fd∧Binds K fd ["_law_script","_law_k"] []
 g__law_cell:mg "_law_cell" = some (.ref t.f_law_cell)
 F_law_mixed:∃ fd,Fun K "_law_mixed" "_law_mixed" s_law_mixed t.f_law_mixed fd∧Binds K fd ["_law_cell_here","_law_k"] []
 g__law_mixed:mg "_law_mixed" = some (.ref t.f_law_mixed)
 F_law_twice:∃ fd,Fun K "_law_twice" "_law_twice" s_law_twice t.f_law_twice fd∧Binds K fd ["_law_cell_here","_law_k"] []
 g__law_twice:mg "_law_twice" = some (.ref t.f_law_twice)
 F_law_well:∃ fd,Fun K "_law_well" "_law_well" s_law_well t.f_law_well fd∧Binds K fd ["_law_script","_law_k"] []
 g__law_well:mg "_law_well" = some (.ref t.f_law_well)
 F_law_draw:∃ fd,Fun K "_law_draw" "_law_draw" s_law_draw t.f_law_draw fd∧Binds K fd ["_law_well_here","_law_most"] []
 g__law_draw:mg "_law_draw" = some (.ref t.f_law_draw)
 F_law_far:∃ fd,Fun K "_law_far" "_law_far" s_law_far t.f_law_far fd∧Binds K fd ["_law_well_here"] []
 g__law_far:mg "_law_far" = some (.ref t.f_law_far)
 F_law_numbers:∃ fd,Fun K "_law_numbers" "_law_numbers" s_law_numbers t.f_law_numbers fd∧Binds K fd ["_law_well_here"] []
 g__law_numbers:mg "_law_numbers" = some (.ref t.f_law_numbers)
 F_law_shape:∃ fd,Fun K "_law_shape" "_law_shape" s_law_shape t.f_law_shape fd∧Binds K fd ["_law_kind","_law_numbers_here"] []
 g__law_shape:mg "_law_shape" = some (.ref t.f_law_shape)
 F_law_is_sort:∃ fd,Fun K "_law_is_sort" "_law_is_sort" s_law_is_sort t.f_law_is_sort fd∧Binds K fd ["_law_shape_here","_law_kind"] []
 g__law_is_sort:mg "_law_is_sort" = some (.ref t.f_law_is_sort)
 F_law:∃ fd,Fun K "law" "law" s_law t.f_law fd∧∀ (s:Shared) (u:Value),BindsTo s fd ⟨[u],[]⟩ [("_law_script",u)]
 g_law:mg "law" = some (.ref t.f_law)
 g_NoShape:mg "NoShape" = some (.ref t.c_NoShape)
 e_NoShape:Err K mg "NoShape" t.c_NoShape
 ki_Block_Block:PySem.W.kitOne K (.ref t.c_Block) (.ref t.c_Block) = some true
 ki_Frame_Frame:PySem.W.kitOne K (.ref t.c_Frame) (.ref t.c_Frame) = some true
 ki_Line_Line:PySem.W.kitOne K (.ref t.c_Line) (.ref t.c_Line) = some true
 n_isinstance:mg "isinstance" = none
 n_int:mg "int" = none
 n_bool:mg "bool" = none
 n_min:mg "min" = none
 n_list:mg "list" = none
 n_tuple:mg "tuple" = none
 n_len:mg "len" = none
 n_zip:mg "zip" = none
 n_str:mg "str" = none
 n_range:mg "range" = none
 n_all:mg "all" = none
 n_abs:mg "abs" = none
 n_sorted:mg "sorted" = none
 n_set:mg "set" = none
 g_MOST_CORNERS:mg "MOST_CORNERS" = some (.int 40 t.tk_MOST_CORNERS)
 g_MOST_FIGURES:mg "MOST_FIGURES" = some (.int 40 t.tk_MOST_FIGURES)
 g_FIGURES:mg "FIGURES" = some (.str "0123456789" t.tk_FIGURES)
 g_WIDTHS:mg "WIDTHS" = some (.ref t.a_WIDTHS)
 q_WIDTHS:∀ H,SqT K H t.a_WIDTHS [.int 1,.int 3]
theorem txt_mk {K:PySem.W.Frag} {h:Heap} {mg:Str→Option Value} {c_Block c_Line c_Frame f_is_whole f_need_whole f_need_from_one f_need_corners f_tell_row f_read_number f_read_row f_read_shape f_box_places f_Block_init f_Block_told f_Block_cells f_Line_init f_Line_told f_Line_cells f_Frame_init f_Frame_told f_Frame_cells f_Frame_steps_from_edge f_law_cell f_law_mixed f_law_twice f_law_well f_law_draw f_law_far f_law_numbers f_law_shape f_law_is_sort f_law c_NoShape a_WIDTHS:Addr} {tk_MOST_CORNERS tk_MOST_FIGURES tk_FIGURES t0_WIDTHS t1_WIDTHS:Tok} {dd_WIDTHS:Option Addr} {n_WIDTHS_:Nat} {ss_WIDTHS:Array (Option Value)}
  {od_is_whole an_is_whole od_need_whole an_need_whole od_need_from_one an_need_from_one od_need_corners an_need_corners od_tell_row an_tell_row od_read_number an_read_number od_read_row an_read_row od_read_shape an_read_shape od_box_places an_box_places od_Block_init an_Block_init od_Block_told an_Block_told od_Block_cells an_Block_cells od_Line_init an_Line_init od_Line_told an_Line_told od_Line_cells an_Line_cells od_Frame_init an_Frame_init od_Frame_told an_Frame_told od_Frame_cells an_Frame_cells od_Frame_steps_from_edge an_Frame_steps_from_edge od_law_cell an_law_cell od_law_mixed an_law_mixed od_law_twice an_law_twice od_law_well an_law_well od_law_draw an_law_draw od_law_far an_law_far od_law_numbers an_law_numbers od_law_shape an_law_shape od_law_is_sort an_law_is_sort od_law an_law:Option Addr} {sl_is_whole sl_need_whole sl_need_from_one sl_need_corners sl_tell_row sl_read_number sl_read_row sl_read_shape sl_box_places sl_Block_init sl_Block_told sl_Block_cells sl_Line_init sl_Line_told sl_Line_cells sl_Frame_init sl_Frame_told sl_Frame_cells sl_Frame_steps_from_edge sl_law_cell sl_law_mixed sl_law_twice sl_law_well sl_law_draw sl_law_far sl_law_numbers sl_law_shape sl_law_is_sort sl_law:Array (Option Value)} {oc_is_whole kV_is_whole dc_is_whole pm_is_whole cd_is_whole ct_is_whole oc_need_whole kV_need_whole dc_need_whole pm_need_whole cd_need_whole ct_need_whole oc_need_from_one kV_need_from_one dc_need_from_one pm_need_from_one cd_need_from_one ct_need_from_one oc_need_corners kV_need_corners dc_need_corners pm_need_corners cd_need_corners ct_need_corners oc_tell_row kV_tell_row dc_tell_row pm_tell_row cd_tell_row ct_tell_row oc_read_number kV_read_number dc_read_number pm_read_number cd_read_number ct_read_number oc_read_row kV_read_row dc_read_row pm_read_row cd_read_row ct_read_row oc_read_shape kV_read_shape dc_read_shape pm_read_shape cd_read_shape ct_read_shape oc_box_places kV_box_places dc_box_places pm_box_places cd_box_places ct_box_places oc_Block_init kV_Block_init dc_Block_init pm_Block_init cd_Block_init ct_Block_init oc_Block_told kV_Block_told dc_Block_told pm_Block_told cd_Block_told ct_Block_told oc_Block_cells kV_Block_cells dc_Block_cells pm_Block_cells cd_Block_cells ct_Block_cells oc_Line_init kV_Line_init dc_Line_init pm_Line_init cd_Line_init ct_Line_init oc_Line_told kV_Line_told dc_Line_told pm_Line_told cd_Line_told ct_Line_told oc_Line_cells kV_Line_cells dc_Line_cells pm_Line_cells cd_Line_cells ct_Line_cells oc_Frame_init kV_Frame_init dc_Frame_init pm_Frame_init cd_Frame_init ct_Frame_init oc_Frame_told kV_Frame_told dc_Frame_told pm_Frame_told cd_Frame_told ct_Frame_told oc_Frame_cells kV_Frame_cells dc_Frame_cells pm_Frame_cells cd_Frame_cells ct_Frame_cells oc_Frame_steps_from_edge kV_Frame_steps_from_edge dc_Frame_steps_from_edge pm_Frame_steps_from_edge cd_Frame_steps_from_edge ct_Frame_steps_from_edge oc_law_cell kV_law_cell dc_law_cell pm_law_cell cd_law_cell ct_law_cell oc_law_mixed kV_law_mixed dc_law_mixed pm_law_mixed cd_law_mixed ct_law_mixed oc_law_twice kV_law_twice dc_law_twice pm_law_twice cd_law_twice ct_law_twice oc_law_well kV_law_well dc_law_well pm_law_well cd_law_well ct_law_well oc_law_draw kV_law_draw dc_law_draw pm_law_draw cd_law_draw ct_law_draw oc_law_far kV_law_far dc_law_far pm_law_far cd_law_far ct_law_far oc_law_numbers kV_law_numbers dc_law_numbers pm_law_numbers cd_law_numbers ct_law_numbers oc_law_shape kV_law_shape dc_law_shape pm_law_shape cd_law_shape ct_law_shape oc_law_is_sort kV_law_is_sort dc_law_is_sort pm_law_is_sort cd_law_is_sort ct_law_is_sort oc_law kV_law dc_law pm_law cd_law ct_law:Value} (X:K.In h) (G:h.Ns mainGlobals mg)
  (g_Block:PySem.W.nsIn K mainGlobals "Block" = some (some (.ref c_Block)))
  (g_Line:PySem.W.nsIn K mainGlobals "Line" = some (some (.ref c_Line)))
  (g_Frame:PySem.W.nsIn K mainGlobals "Frame" = some (some (.ref c_Frame)))
  (pg_Block:PySem.W.plainGet K c_Block Str.empty = true)
  (hd_Block:PySem.W.hasDictIn K c_Block = true)
  (po_Block:PySem.W.plainOver K c_Block = true)
  (sa_Block:PySem.W.findIn K (.ref c_Block) "__setattr__" = some (some (.builtin "object.__setattr__")))
  (mk_Block:PySem.W.makesIn K c_Block = true)
  (kc_Block:PySem.W.keepIn K (.ref c_Block) = true)
  (na_Block_x:PySem.W.findIn K (.ref c_Block) "x" = some none)
  (na_Block_y:PySem.W.findIn K (.ref c_Block) "y" = some none)
  (na_Block_wide:PySem.W.findIn K (.ref c_Block) "wide" = some none)
  (na_Block_high:PySem.W.findIn K (.ref c_Block) "high" = some none)
  (ha_Block:PySem.W.findIn K (.ref c_Block) "__class__" = some (some (.builtin "object.__class__")))
  (hn_Block:PySem.W.specialIn K (.builtin "object.__class__") "__get__" = some (some (.builtin "getset_descriptor.__get__")))
  (ht_Block:PySem.W.takesIn K (.builtin "object.__class__") = some true)
  (hm_Block:PySem.W.mroIn K c_Block (.type "object") = some true)
  (pg_Line:PySem.W.plainGet K c_Line Str.empty = true)
  (hd_Line:PySem.W.hasDictIn K c_Line = true)
  (po_Line:PySem.W.plainOver K c_Line = true)
  (sa_Line:PySem.W.findIn K (.ref c_Line) "__setattr__" = some (some (.builtin "object.__setattr__")))
  (mk_Line:PySem.W.makesIn K c_Line = true)
  (kc_Line:PySem.W.keepIn K (.ref c_Line) = true)
  (na_Line_corners:PySem.W.findIn K (.ref c_Line) "corners" = some none)
  (na_Line_width:PySem.W.findIn K (.ref c_Line) "width" = some none)
  (ha_Line:PySem.W.findIn K (.ref c_Line) "__class__" = some (some (.builtin "object.__class__")))
  (hn_Line:PySem.W.specialIn K (.builtin "object.__class__") "__get__" = some (some (.builtin "getset_descriptor.__get__")))
  (ht_Line:PySem.W.takesIn K (.builtin "object.__class__") = some true)
  (hm_Line:PySem.W.mroIn K c_Line (.type "object") = some true)
  (pg_Frame:PySem.W.plainGet K c_Frame Str.empty = true)
  (hd_Frame:PySem.W.hasDictIn K c_Frame = true)
  (po_Frame:PySem.W.plainOver K c_Frame = true)
  (sa_Frame:PySem.W.findIn K (.ref c_Frame) "__setattr__" = some (some (.builtin "object.__setattr__")))
  (mk_Frame:PySem.W.makesIn K c_Frame = true)
  (kc_Frame:PySem.W.keepIn K (.ref c_Frame) = true)
  (na_Frame_x:PySem.W.findIn K (.ref c_Frame) "x" = some none)
  (na_Frame_y:PySem.W.findIn K (.ref c_Frame) "y" = some none)
  (na_Frame_wide:PySem.W.findIn K (.ref c_Frame) "wide" = some none)
  (na_Frame_high:PySem.W.findIn K (.ref c_Frame) "high" = some none)
  (na_Frame_thick:PySem.W.findIn K (.ref c_Frame) "thick" = some none)
  (ha_Frame:PySem.W.findIn K (.ref c_Frame) "__class__" = some (some (.builtin "object.__class__")))
  (hn_Frame:PySem.W.specialIn K (.builtin "object.__class__") "__get__" = some (some (.builtin "getset_descriptor.__get__")))
  (ht_Frame:PySem.W.takesIn K (.builtin "object.__class__") = some true)
  (hm_Frame:PySem.W.mroIn K c_Frame (.type "object") = some true)
  (a_is_whole:PySem.W.nsIn K mainGlobals "is_whole" = some (some (.ref f_is_whole)))
  (l_is_whole:K.lookup f_is_whole = some ⟨oc_is_whole,od_is_whole,.func (PySem.W.fnOf "is_whole" "is_whole" (defArgs s_is_whole) (defBody s_is_whole) (defScope s_is_whole) .none kV_is_whole dc_is_whole pm_is_whole an_is_whole cd_is_whole ct_is_whole),sl_is_whole⟩)
  (cc_is_whole:PySem.W.codeIn K cd_is_whole "is_whole" = true)
  (k_is_whole:PySem.W.keepIn K (.ref f_is_whole) = true)
  (a_need_whole:PySem.W.nsIn K mainGlobals "need_whole" = some (some (.ref f_need_whole)))
  (l_need_whole:K.lookup f_need_whole = some ⟨oc_need_whole,od_need_whole,.func (PySem.W.fnOf "need_whole" "need_whole" (defArgs s_need_whole) (defBody s_need_whole) (defScope s_need_whole) .none kV_need_whole dc_need_whole pm_need_whole an_need_whole cd_need_whole ct_need_whole),sl_need_whole⟩)
  (cc_need_whole:PySem.W.codeIn K cd_need_whole "need_whole" = true)
  (k_need_whole:PySem.W.keepIn K (.ref f_need_whole) = true)
  (a_need_from_one:PySem.W.nsIn K mainGlobals "need_from_one" = some (some (.ref f_need_from_one)))
  (l_need_from_one:K.lookup f_need_from_one = some ⟨oc_need_from_one,od_need_from_one,.func (PySem.W.fnOf "need_from_one" "need_from_one" (defArgs s_need_from_one) (defBody s_need_from_one) (defScope s_need_from_one) .none kV_need_from_one dc_need_from_one pm_need_from_one an_need_from_one cd_need_from_one ct_need_from_one),sl_need_from_one⟩)
  (cc_need_from_one:PySem.W.codeIn K cd_need_from_one "need_from_one" = true)
  (k_need_from_one:PySem.W.keepIn K (.ref f_need_from_one) = true)
  (a_need_corners:PySem.W.nsIn K mainGlobals "need_corners" = some (some (.ref f_need_corners)))
  (l_need_corners:K.lookup f_need_corners = some ⟨oc_need_corners,od_need_corners,.func (PySem.W.fnOf "need_corners" "need_corners" (defArgs s_need_corners) (defBody s_need_corners) (defScope s_need_corners) .none kV_need_corners dc_need_corners pm_need_corners an_need_corners cd_need_corners ct_need_corners),sl_need_corners⟩)
  (cc_need_corners:PySem.W.codeIn K cd_need_corners "need_corners" = true)
  (k_need_corners:PySem.W.keepIn K (.ref f_need_corners) = true)
  (a_tell_row:PySem.W.nsIn K mainGlobals "tell_row" = some (some (.ref f_tell_row)))
  (l_tell_row:K.lookup f_tell_row = some ⟨oc_tell_row,od_tell_row,.func (PySem.W.fnOf "tell_row" "tell_row" (defArgs s_tell_row) (defBody s_tell_row) (defScope s_tell_row) .none kV_tell_row dc_tell_row pm_tell_row an_tell_row cd_tell_row ct_tell_row),sl_tell_row⟩)
  (cc_tell_row:PySem.W.codeIn K cd_tell_row "tell_row" = true)
  (k_tell_row:PySem.W.keepIn K (.ref f_tell_row) = true)
  (a_read_number:PySem.W.nsIn K mainGlobals "read_number" = some (some (.ref f_read_number)))
  (l_read_number:K.lookup f_read_number = some ⟨oc_read_number,od_read_number,.func (PySem.W.fnOf "read_number" "read_number" (defArgs s_read_number) (defBody s_read_number) (defScope s_read_number) .none kV_read_number dc_read_number pm_read_number an_read_number cd_read_number ct_read_number),sl_read_number⟩)
  (cc_read_number:PySem.W.codeIn K cd_read_number "read_number" = true)
  (k_read_number:PySem.W.keepIn K (.ref f_read_number) = true)
  (a_read_row:PySem.W.nsIn K mainGlobals "read_row" = some (some (.ref f_read_row)))
  (l_read_row:K.lookup f_read_row = some ⟨oc_read_row,od_read_row,.func (PySem.W.fnOf "read_row" "read_row" (defArgs s_read_row) (defBody s_read_row) (defScope s_read_row) .none kV_read_row dc_read_row pm_read_row an_read_row cd_read_row ct_read_row),sl_read_row⟩)
  (cc_read_row:PySem.W.codeIn K cd_read_row "read_row" = true)
  (k_read_row:PySem.W.keepIn K (.ref f_read_row) = true)
  (a_read_shape:PySem.W.nsIn K mainGlobals "read_shape" = some (some (.ref f_read_shape)))
  (l_read_shape:K.lookup f_read_shape = some ⟨oc_read_shape,od_read_shape,.func (PySem.W.fnOf "read_shape" "read_shape" (defArgs s_read_shape) (defBody s_read_shape) (defScope s_read_shape) .none kV_read_shape dc_read_shape pm_read_shape an_read_shape cd_read_shape ct_read_shape),sl_read_shape⟩)
  (cc_read_shape:PySem.W.codeIn K cd_read_shape "read_shape" = true)
  (k_read_shape:PySem.W.keepIn K (.ref f_read_shape) = true)
  (a_box_places:PySem.W.nsIn K mainGlobals "box_places" = some (some (.ref f_box_places)))
  (l_box_places:K.lookup f_box_places = some ⟨oc_box_places,od_box_places,.func (PySem.W.fnOf "box_places" "box_places" (defArgs s_box_places) (defBody s_box_places) (defScope s_box_places) .none kV_box_places dc_box_places pm_box_places an_box_places cd_box_places ct_box_places),sl_box_places⟩)
  (cc_box_places:PySem.W.codeIn K cd_box_places "box_places" = true)
  (k_box_places:PySem.W.keepIn K (.ref f_box_places) = true)
  (a_Block_init:PySem.W.findIn K (.ref c_Block) "__init__" = some (some (.ref f_Block_init)))
  (i_Block_init:PySem.W.isFn K (.ref f_Block_init) = true)
  (l_Block_init:K.lookup f_Block_init = some ⟨oc_Block_init,od_Block_init,.func (PySem.W.fnOf "__init__" "Block.__init__" (defArgs s_Block_init) (defBody s_Block_init) (defScope s_Block_init) .none kV_Block_init dc_Block_init pm_Block_init an_Block_init cd_Block_init ct_Block_init),sl_Block_init⟩)
  (cc_Block_init:PySem.W.codeIn K cd_Block_init "Block.__init__" = true)
  (k_Block_init:PySem.W.keepIn K (.ref f_Block_init) = true)
  (a_Block_told:PySem.W.findIn K (.ref c_Block) "told" = some (some (.ref f_Block_told)))
  (i_Block_told:PySem.W.isFn K (.ref f_Block_told) = true)
  (l_Block_told:K.lookup f_Block_told = some ⟨oc_Block_told,od_Block_told,.func (PySem.W.fnOf "told" "Block.told" (defArgs s_Block_told) (defBody s_Block_told) (defScope s_Block_told) .none kV_Block_told dc_Block_told pm_Block_told an_Block_told cd_Block_told ct_Block_told),sl_Block_told⟩)
  (cc_Block_told:PySem.W.codeIn K cd_Block_told "Block.told" = true)
  (k_Block_told:PySem.W.keepIn K (.ref f_Block_told) = true)
  (a_Block_cells:PySem.W.findIn K (.ref c_Block) "cells" = some (some (.ref f_Block_cells)))
  (i_Block_cells:PySem.W.isFn K (.ref f_Block_cells) = true)
  (l_Block_cells:K.lookup f_Block_cells = some ⟨oc_Block_cells,od_Block_cells,.func (PySem.W.fnOf "cells" "Block.cells" (defArgs s_Block_cells) (defBody s_Block_cells) (defScope s_Block_cells) .none kV_Block_cells dc_Block_cells pm_Block_cells an_Block_cells cd_Block_cells ct_Block_cells),sl_Block_cells⟩)
  (cc_Block_cells:PySem.W.codeIn K cd_Block_cells "Block.cells" = true)
  (k_Block_cells:PySem.W.keepIn K (.ref f_Block_cells) = true)
  (a_Line_init:PySem.W.findIn K (.ref c_Line) "__init__" = some (some (.ref f_Line_init)))
  (i_Line_init:PySem.W.isFn K (.ref f_Line_init) = true)
  (l_Line_init:K.lookup f_Line_init = some ⟨oc_Line_init,od_Line_init,.func (PySem.W.fnOf "__init__" "Line.__init__" (defArgs s_Line_init) (defBody s_Line_init) (defScope s_Line_init) .none kV_Line_init dc_Line_init pm_Line_init an_Line_init cd_Line_init ct_Line_init),sl_Line_init⟩)
  (cc_Line_init:PySem.W.codeIn K cd_Line_init "Line.__init__" = true)
  (k_Line_init:PySem.W.keepIn K (.ref f_Line_init) = true)
  (a_Line_told:PySem.W.findIn K (.ref c_Line) "told" = some (some (.ref f_Line_told)))
  (i_Line_told:PySem.W.isFn K (.ref f_Line_told) = true)
  (l_Line_told:K.lookup f_Line_told = some ⟨oc_Line_told,od_Line_told,.func (PySem.W.fnOf "told" "Line.told" (defArgs s_Line_told) (defBody s_Line_told) (defScope s_Line_told) .none kV_Line_told dc_Line_told pm_Line_told an_Line_told cd_Line_told ct_Line_told),sl_Line_told⟩)
  (cc_Line_told:PySem.W.codeIn K cd_Line_told "Line.told" = true)
  (k_Line_told:PySem.W.keepIn K (.ref f_Line_told) = true)
  (a_Line_cells:PySem.W.findIn K (.ref c_Line) "cells" = some (some (.ref f_Line_cells)))
  (i_Line_cells:PySem.W.isFn K (.ref f_Line_cells) = true)
  (l_Line_cells:K.lookup f_Line_cells = some ⟨oc_Line_cells,od_Line_cells,.func (PySem.W.fnOf "cells" "Line.cells" (defArgs s_Line_cells) (defBody s_Line_cells) (defScope s_Line_cells) .none kV_Line_cells dc_Line_cells pm_Line_cells an_Line_cells cd_Line_cells ct_Line_cells),sl_Line_cells⟩)
  (cc_Line_cells:PySem.W.codeIn K cd_Line_cells "Line.cells" = true)
  (k_Line_cells:PySem.W.keepIn K (.ref f_Line_cells) = true)
  (a_Frame_init:PySem.W.findIn K (.ref c_Frame) "__init__" = some (some (.ref f_Frame_init)))
  (i_Frame_init:PySem.W.isFn K (.ref f_Frame_init) = true)
  (l_Frame_init:K.lookup f_Frame_init = some ⟨oc_Frame_init,od_Frame_init,.func (PySem.W.fnOf "__init__" "Frame.__init__" (defArgs s_Frame_init) (defBody s_Frame_init) (defScope s_Frame_init) .none kV_Frame_init dc_Frame_init pm_Frame_init an_Frame_init cd_Frame_init ct_Frame_init),sl_Frame_init⟩)
  (cc_Frame_init:PySem.W.codeIn K cd_Frame_init "Frame.__init__" = true)
  (k_Frame_init:PySem.W.keepIn K (.ref f_Frame_init) = true)
  (a_Frame_told:PySem.W.findIn K (.ref c_Frame) "told" = some (some (.ref f_Frame_told)))
  (i_Frame_told:PySem.W.isFn K (.ref f_Frame_told) = true)
  (l_Frame_told:K.lookup f_Frame_told = some ⟨oc_Frame_told,od_Frame_told,.func (PySem.W.fnOf "told" "Frame.told" (defArgs s_Frame_told) (defBody s_Frame_told) (defScope s_Frame_told) .none kV_Frame_told dc_Frame_told pm_Frame_told an_Frame_told cd_Frame_told ct_Frame_told),sl_Frame_told⟩)
  (cc_Frame_told:PySem.W.codeIn K cd_Frame_told "Frame.told" = true)
  (k_Frame_told:PySem.W.keepIn K (.ref f_Frame_told) = true)
  (a_Frame_cells:PySem.W.findIn K (.ref c_Frame) "cells" = some (some (.ref f_Frame_cells)))
  (i_Frame_cells:PySem.W.isFn K (.ref f_Frame_cells) = true)
  (l_Frame_cells:K.lookup f_Frame_cells = some ⟨oc_Frame_cells,od_Frame_cells,.func (PySem.W.fnOf "cells" "Frame.cells" (defArgs s_Frame_cells) (defBody s_Frame_cells) (defScope s_Frame_cells) .none kV_Frame_cells dc_Frame_cells pm_Frame_cells an_Frame_cells cd_Frame_cells ct_Frame_cells),sl_Frame_cells⟩)
  (cc_Frame_cells:PySem.W.codeIn K cd_Frame_cells "Frame.cells" = true)
  (k_Frame_cells:PySem.W.keepIn K (.ref f_Frame_cells) = true)
  (a_Frame_steps_from_edge:PySem.W.findIn K (.ref c_Frame) "steps_from_edge" = some (some (.ref f_Frame_steps_from_edge)))
  (i_Frame_steps_from_edge:PySem.W.isFn K (.ref f_Frame_steps_from_edge) = true)
  (l_Frame_steps_from_edge:K.lookup f_Frame_steps_from_edge = some ⟨oc_Frame_steps_from_edge,od_Frame_steps_from_edge,.func (PySem.W.fnOf "steps_from_edge" "Frame.steps_from_edge" (defArgs s_Frame_steps_from_edge) (defBody s_Frame_steps_from_edge) (defScope s_Frame_steps_from_edge) .none kV_Frame_steps_from_edge dc_Frame_steps_from_edge pm_Frame_steps_from_edge an_Frame_steps_from_edge cd_Frame_steps_from_edge ct_Frame_steps_from_edge),sl_Frame_steps_from_edge⟩)
  (cc_Frame_steps_from_edge:PySem.W.codeIn K cd_Frame_steps_from_edge "Frame.steps_from_edge" = true)
  (k_Frame_steps_from_edge:PySem.W.keepIn K (.ref f_Frame_steps_from_edge) = true)
  (a_law_cell:PySem.W.nsIn K mainGlobals "_law_cell" = some (some (.ref f_law_cell)))
  (l_law_cell:K.lookup f_law_cell = some ⟨oc_law_cell,od_law_cell,.func (PySem.W.fnOf "_law_cell" "_law_cell" (defArgs s_law_cell) (defBody s_law_cell) (defScope s_law_cell) .none kV_law_cell dc_law_cell pm_law_cell an_law_cell cd_law_cell ct_law_cell),sl_law_cell⟩)
  (cc_law_cell:PySem.W.codeIn K cd_law_cell "_law_cell" = true)
  (k_law_cell:PySem.W.keepIn K (.ref f_law_cell) = true)
  (a_law_mixed:PySem.W.nsIn K mainGlobals "_law_mixed" = some (some (.ref f_law_mixed)))
  (l_law_mixed:K.lookup f_law_mixed = some ⟨oc_law_mixed,od_law_mixed,.func (PySem.W.fnOf "_law_mixed" "_law_mixed" (defArgs s_law_mixed) (defBody s_law_mixed) (defScope s_law_mixed) .none kV_law_mixed dc_law_mixed pm_law_mixed an_law_mixed cd_law_mixed ct_law_mixed),sl_law_mixed⟩)
  (cc_law_mixed:PySem.W.codeIn K cd_law_mixed "_law_mixed" = true)
  (k_law_mixed:PySem.W.keepIn K (.ref f_law_mixed) = true)
  (a_law_twice:PySem.W.nsIn K mainGlobals "_law_twice" = some (some (.ref f_law_twice)))
  (l_law_twice:K.lookup f_law_twice = some ⟨oc_law_twice,od_law_twice,.func (PySem.W.fnOf "_law_twice" "_law_twice" (defArgs s_law_twice) (defBody s_law_twice) (defScope s_law_twice) .none kV_law_twice dc_law_twice pm_law_twice an_law_twice cd_law_twice ct_law_twice),sl_law_twice⟩)
  (cc_law_twice:PySem.W.codeIn K cd_law_twice "_law_twice" = true)
  (k_law_twice:PySem.W.keepIn K (.ref f_law_twice) = true)
  (a_law_well:PySem.W.nsIn K mainGlobals "_law_well" = some (some (.ref f_law_well)))
  (l_law_well:K.lookup f_law_well = some ⟨oc_law_well,od_law_well,.func (PySem.W.fnOf "_law_well" "_law_well" (defArgs s_law_well) (defBody s_law_well) (defScope s_law_well) .none kV_law_well dc_law_well pm_law_well an_law_well cd_law_well ct_law_well),sl_law_well⟩)
  (cc_law_well:PySem.W.codeIn K cd_law_well "_law_well" = true)
  (k_law_well:PySem.W.keepIn K (.ref f_law_well) = true)
  (a_law_draw:PySem.W.nsIn K mainGlobals "_law_draw" = some (some (.ref f_law_draw)))
  (l_law_draw:K.lookup f_law_draw = some ⟨oc_law_draw,od_law_draw,.func (PySem.W.fnOf "_law_draw" "_law_draw" (defArgs s_law_draw) (defBody s_law_draw) (defScope s_law_draw) .none kV_law_draw dc_law_draw pm_law_draw an_law_draw cd_law_draw ct_law_draw),sl_law_draw⟩)
  (cc_law_draw:PySem.W.codeIn K cd_law_draw "_law_draw" = true)
  (k_law_draw:PySem.W.keepIn K (.ref f_law_draw) = true)
  (a_law_far:PySem.W.nsIn K mainGlobals "_law_far" = some (some (.ref f_law_far)))
  (l_law_far:K.lookup f_law_far = some ⟨oc_law_far,od_law_far,.func (PySem.W.fnOf "_law_far" "_law_far" (defArgs s_law_far) (defBody s_law_far) (defScope s_law_far) .none kV_law_far dc_law_far pm_law_far an_law_far cd_law_far ct_law_far),sl_law_far⟩)
  (cc_law_far:PySem.W.codeIn K cd_law_far "_law_far" = true)
  (k_law_far:PySem.W.keepIn K (.ref f_law_far) = true)
  (a_law_numbers:PySem.W.nsIn K mainGlobals "_law_numbers" = some (some (.ref f_law_numbers)))
  (l_law_numbers:K.lookup f_law_numbers = some ⟨oc_law_numbers,od_law_numbers,.func (PySem.W.fnOf "_law_numbers" "_law_numbers" (defArgs s_law_numbers) (defBody s_law_numbers) (defScope s_law_numbers) .none kV_law_numbers dc_law_numbers pm_law_numbers an_law_numbers cd_law_numbers ct_law_numbers),sl_law_numbers⟩)
  (cc_law_numbers:PySem.W.codeIn K cd_law_numbers "_law_numbers" = true)
  (k_law_numbers:PySem.W.keepIn K (.ref f_law_numbers) = true)
  (a_law_shape:PySem.W.nsIn K mainGlobals "_law_shape" = some (some (.ref f_law_shape)))
  (l_law_shape:K.lookup f_law_shape = some ⟨oc_law_shape,od_law_shape,.func (PySem.W.fnOf "_law_shape" "_law_shape" (defArgs s_law_shape) (defBody s_law_shape) (defScope s_law_shape) .none kV_law_shape dc_law_shape pm_law_shape an_law_shape cd_law_shape ct_law_shape),sl_law_shape⟩)
  (cc_law_shape:PySem.W.codeIn K cd_law_shape "_law_shape" = true)
  (k_law_shape:PySem.W.keepIn K (.ref f_law_shape) = true)
  (a_law_is_sort:PySem.W.nsIn K mainGlobals "_law_is_sort" = some (some (.ref f_law_is_sort)))
  (l_law_is_sort:K.lookup f_law_is_sort = some ⟨oc_law_is_sort,od_law_is_sort,.func (PySem.W.fnOf "_law_is_sort" "_law_is_sort" (defArgs s_law_is_sort) (defBody s_law_is_sort) (defScope s_law_is_sort) .none kV_law_is_sort dc_law_is_sort pm_law_is_sort an_law_is_sort cd_law_is_sort ct_law_is_sort),sl_law_is_sort⟩)
  (cc_law_is_sort:PySem.W.codeIn K cd_law_is_sort "_law_is_sort" = true)
  (k_law_is_sort:PySem.W.keepIn K (.ref f_law_is_sort) = true)
  (a_law:PySem.W.nsIn K mainGlobals "law" = some (some (.ref f_law)))
  (l_law:K.lookup f_law = some ⟨oc_law,od_law,.func (PySem.W.fnOf "law" "law" (defArgs s_law) (defBody s_law) (defScope s_law) .none kV_law dc_law pm_law an_law cd_law ct_law),sl_law⟩)
  (cc_law:PySem.W.codeIn K cd_law "law" = true)
  (k_law:PySem.W.keepIn K (.ref f_law) = true)
  (g_NoShape:PySem.W.nsIn K mainGlobals "NoShape" = some (some (.ref c_NoShape)))
  (x_NoShape:PySem.W.excIn K c_NoShape bmV "ValueError.__new__" = true)
  (ki_Block_Block:PySem.W.kitOne K (.ref c_Block) (.ref c_Block) = some true)
  (ki_Frame_Frame:PySem.W.kitOne K (.ref c_Frame) (.ref c_Frame) = some true)
  (ki_Line_Line:PySem.W.kitOne K (.ref c_Line) (.ref c_Line) = some true)
  (n_isinstance:PySem.W.nsIn K mainGlobals "isinstance" = some none)
  (n_int:PySem.W.nsIn K mainGlobals "int" = some none)
  (n_bool:PySem.W.nsIn K mainGlobals "bool" = some none)
  (n_min:PySem.W.nsIn K mainGlobals "min" = some none)
  (n_list:PySem.W.nsIn K mainGlobals "list" = some none)
  (n_tuple:PySem.W.nsIn K mainGlobals "tuple" = some none)
  (n_len:PySem.W.nsIn K mainGlobals "len" = some none)
  (n_zip:PySem.W.nsIn K mainGlobals "zip" = some none)
  (n_str:PySem.W.nsIn K mainGlobals "str" = some none)
  (n_range:PySem.W.nsIn K mainGlobals "range" = some none)
  (n_all:PySem.W.nsIn K mainGlobals "all" = some none)
  (n_abs:PySem.W.nsIn K mainGlobals "abs" = some none)
  (n_sorted:PySem.W.nsIn K mainGlobals "sorted" = some none)
  (n_set:PySem.W.nsIn K mainGlobals "set" = some none)
  (g_MOST_CORNERS:PySem.W.nsIn K mainGlobals "MOST_CORNERS" = some (some (.int 40 tk_MOST_CORNERS)))
  (g_MOST_FIGURES:PySem.W.nsIn K mainGlobals "MOST_FIGURES" = some (some (.int 40 tk_MOST_FIGURES)))
  (g_FIGURES:PySem.W.nsIn K mainGlobals "FIGURES" = some (some (.str "0123456789" tk_FIGURES)))
  (g_WIDTHS:PySem.W.nsIn K mainGlobals "WIDTHS" = some (some (.ref a_WIDTHS)))
  (tl_WIDTHS:K.lookup a_WIDTHS = some ⟨.type "tuple",dd_WIDTHS,.seq [.int 1 t0_WIDTHS,.int 3 t1_WIDTHS].toArray n_WIDTHS_,ss_WIDTHS⟩) :
  ∃ t:Adr,Txt K mg t :=
 ⟨{ c_Block:=c_Block,c_Line:=c_Line,c_Frame:=c_Frame,f_is_whole:=f_is_whole,f_need_whole:=f_need_whole,f_need_from_one:=f_need_from_one,f_need_corners:=f_need_corners,f_tell_row:=f_tell_row,f_read_number:=f_read_number,f_read_row:=f_read_row,f_read_shape:=f_read_shape,f_box_places:=f_box_places,f_Block_init:=f_Block_init,f_Block_told:=f_Block_told,f_Block_cells:=f_Block_cells,f_Line_init:=f_Line_init,f_Line_told:=f_Line_told,f_Line_cells:=f_Line_cells,f_Frame_init:=f_Frame_init,f_Frame_told:=f_Frame_told,f_Frame_cells:=f_Frame_cells,f_Frame_steps_from_edge:=f_Frame_steps_from_edge,f_law_cell:=f_law_cell,f_law_mixed:=f_law_mixed,f_law_twice:=f_law_twice,f_law_well:=f_law_well,f_law_draw:=f_law_draw,f_law_far:=f_law_far,f_law_numbers:=f_law_numbers,f_law_shape:=f_law_shape,f_law_is_sort:=f_law_is_sort,f_law:=f_law,c_NoShape:=c_NoShape,tk_MOST_CORNERS:=tk_MOST_CORNERS,tk_MOST_FIGURES:=tk_MOST_FIGURES,tk_FIGURES:=tk_FIGURES,a_WIDTHS:=a_WIDTHS },{ g_Block:=PySem.W.mg_of X G g_Block,g_Line:=PySem.W.mg_of X G g_Line,g_Frame:=PySem.W.mg_of X G g_Frame,cl_Block:=⟨pg_Block,hd_Block,po_Block,sa_Block⟩,na_Block_x:=na_Block_x,na_Block_y:=na_Block_y,na_Block_wide:=na_Block_wide,na_Block_high:=na_Block_high,ty_Block:=fun H a dx fs e => .ins e ⟨pg_Block,hd_Block,po_Block,sa_Block⟩ ha_Block hn_Block ht_Block hm_Block,cl_Line:=⟨pg_Line,hd_Line,po_Line,sa_Line⟩,na_Line_corners:=na_Line_corners,na_Line_width:=na_Line_width,ty_Line:=fun H a dx fs e => .ins e ⟨pg_Line,hd_Line,po_Line,sa_Line⟩ ha_Line hn_Line ht_Line hm_Line,cl_Frame:=⟨pg_Frame,hd_Frame,po_Frame,sa_Frame⟩,na_Frame_x:=na_Frame_x,na_Frame_y:=na_Frame_y,na_Frame_wide:=na_Frame_wide,na_Frame_high:=na_Frame_high,na_Frame_thick:=na_Frame_thick,ty_Frame:=fun H a dx fs e => .ins e ⟨pg_Frame,hd_Frame,po_Frame,sa_Frame⟩ ha_Frame hn_Frame ht_Frame hm_Frame,F_is_whole:=⟨_,fun_mk (st:=s_is_whole) l_is_whole cc_is_whole k_is_whole,(fun_mk (st:=s_is_whole) l_is_whole cc_is_whole k_is_whole).binds (ps:=["value"]) fun _ _ _ _ _ _ us hl => match us,hl with | [_],_ => rfl⟩,g_is_whole:=PySem.W.mg_of X G a_is_whole,F_need_whole:=⟨_,fun_mk (st:=s_need_whole) l_need_whole cc_need_whole k_need_whole,(fun_mk (st:=s_need_whole) l_need_whole cc_need_whole k_need_whole).binds (ps:=["numbers"]) fun _ _ _ _ _ _ us hl => match us,hl with | [_],_ => rfl⟩,g_need_whole:=PySem.W.mg_of X G a_need_whole,F_need_from_one:=⟨_,fun_mk (st:=s_need_from_one) l_need_from_one cc_need_from_one k_need_from_one,(fun_mk (st:=s_need_from_one) l_need_from_one cc_need_from_one k_need_from_one).binds (ps:=["numbers"]) fun _ _ _ _ _ _ us hl => match us,hl with | [_],_ => rfl⟩,g_need_from_one:=PySem.W.mg_of X G a_need_from_one,F_need_corners:=⟨_,fun_mk (st:=s_need_corners) l_need_corners cc_need_corners k_need_corners,(fun_mk (st:=s_need_corners) l_need_corners cc_need_corners k_need_corners).binds (ps:=["corners"]) fun _ _ _ _ _ _ us hl => match us,hl with | [_],_ => rfl⟩,g_need_corners:=PySem.W.mg_of X G a_need_corners,F_tell_row:=⟨_,fun_mk (st:=s_tell_row) l_tell_row cc_tell_row k_tell_row,(fun_mk (st:=s_tell_row) l_tell_row cc_tell_row k_tell_row).binds (ps:=["word","numbers"]) fun _ _ _ _ _ _ us hl => match us,hl with | [_,_],_ => rfl⟩,g_tell_row:=PySem.W.mg_of X G a_tell_row,F_read_number:=⟨_,fun_mk (st:=s_read_number) l_read_number cc_read_number k_read_number,(fun_mk (st:=s_read_number) l_read_number cc_read_number k_read_number).binds (ps:=["word"]) fun _ _ _ _ _ _ us hl => match us,hl with | [_],_ => rfl⟩,g_read_number:=PySem.W.mg_of X G a_read_number,F_read_row:=⟨_,fun_mk (st:=s_read_row) l_read_row cc_read_row k_read_row,(fun_mk (st:=s_read_row) l_read_row cc_read_row k_read_row).binds (ps:=["text"]) fun _ _ _ _ _ _ us hl => match us,hl with | [_],_ => rfl⟩,g_read_row:=PySem.W.mg_of X G a_read_row,F_read_shape:=⟨_,fun_mk (st:=s_read_shape) l_read_shape cc_read_shape k_read_shape,(fun_mk (st:=s_read_shape) l_read_shape cc_read_shape k_read_shape).binds (ps:=["text"]) fun _ _ _ _ _ _ us hl => match us,hl with | [_],_ => rfl⟩,g_read_shape:=PySem.W.mg_of X G a_read_shape,F_box_places:=⟨_,fun_mk (st:=s_box_places) l_box_places cc_box_places k_box_places,(fun_mk (st:=s_box_places) l_box_places cc_box_places k_box_places).binds (ps:=["x","y","wide","high"]) fun _ _ _ _ _ _ us hl => match us,hl with | [_,_,_,_],_ => rfl⟩,g_box_places:=PySem.W.mg_of X G a_box_places,F_Block_init:=⟨_,fun_mk (st:=s_Block_init) l_Block_init cc_Block_init k_Block_init,(fun_mk (st:=s_Block_init) l_Block_init cc_Block_init k_Block_init).binds (ps:=["self","x","y","wide","high"]) fun _ _ _ _ _ _ us hl => match us,hl with | [_,_,_,_,_],_ => rfl⟩,K_Block:=⟨mk_Block,a_Block_init,i_Block_init,kc_Block⟩,F_Block_told:=⟨_,fun_mk (st:=s_Block_told) l_Block_told cc_Block_told k_Block_told,(fun_mk (st:=s_Block_told) l_Block_told cc_Block_told k_Block_told).binds (ps:=["self"]) fun _ _ _ _ _ _ us hl => match us,hl with | [_],_ => rfl⟩,M_Block_told:=⟨a_Block_told,i_Block_told,k_Block_told⟩,F_Block_cells:=⟨_,fun_mk (st:=s_Block_cells) l_Block_cells cc_Block_cells k_Block_cells,(fun_mk (st:=s_Block_cells) l_Block_cells cc_Block_cells k_Block_cells).binds (ps:=["self"]) fun _ _ _ _ _ _ us hl => match us,hl with | [_],_ => rfl⟩,M_Block_cells:=⟨a_Block_cells,i_Block_cells,k_Block_cells⟩,F_Line_init:=⟨_,fun_mk (st:=s_Line_init) l_Line_init cc_Line_init k_Line_init,(fun_mk (st:=s_Line_init) l_Line_init cc_Line_init k_Line_init).binds (ps:=["self","corners","width"]) fun _ _ _ _ _ _ us hl => match us,hl with | [_,_,_],_ => rfl⟩,K_Line:=⟨mk_Line,a_Line_init,i_Line_init,kc_Line⟩,F_Line_told:=⟨_,fun_mk (st:=s_Line_told) l_Line_told cc_Line_told k_Line_told,(fun_mk (st:=s_Line_told) l_Line_told cc_Line_told k_Line_told).binds (ps:=["self"]) fun _ _ _ _ _ _ us hl => match us,hl with | [_],_ => rfl⟩,M_Line_told:=⟨a_Line_told,i_Line_told,k_Line_told⟩,F_Line_cells:=⟨_,fun_mk (st:=s_Line_cells) l_Line_cells cc_Line_cells k_Line_cells,(fun_mk (st:=s_Line_cells) l_Line_cells cc_Line_cells k_Line_cells).binds (ps:=["self"]) fun _ _ _ _ _ _ us hl => match us,hl with | [_],_ => rfl⟩,M_Line_cells:=⟨a_Line_cells,i_Line_cells,k_Line_cells⟩,F_Frame_init:=⟨_,fun_mk (st:=s_Frame_init) l_Frame_init cc_Frame_init k_Frame_init,(fun_mk (st:=s_Frame_init) l_Frame_init cc_Frame_init k_Frame_init).binds (ps:=["self","x","y","wide","high","thick"]) fun _ _ _ _ _ _ us hl => match us,hl with | [_,_,_,_,_,_],_ => rfl⟩,K_Frame:=⟨mk_Frame,a_Frame_init,i_Frame_init,kc_Frame⟩,F_Frame_told:=⟨_,fun_mk (st:=s_Frame_told) l_Frame_told cc_Frame_told k_Frame_told,(fun_mk (st:=s_Frame_told) l_Frame_told cc_Frame_told k_Frame_told).binds (ps:=["self"]) fun _ _ _ _ _ _ us hl => match us,hl with | [_],_ => rfl⟩,M_Frame_told:=⟨a_Frame_told,i_Frame_told,k_Frame_told⟩,F_Frame_cells:=⟨_,fun_mk (st:=s_Frame_cells) l_Frame_cells cc_Frame_cells k_Frame_cells,(fun_mk (st:=s_Frame_cells) l_Frame_cells cc_Frame_cells k_Frame_cells).binds (ps:=["self"]) fun _ _ _ _ _ _ us hl => match us,hl with | [_],_ => rfl⟩,M_Frame_cells:=⟨a_Frame_cells,i_Frame_cells,k_Frame_cells⟩,F_Frame_steps_from_edge:=⟨_,fun_mk (st:=s_Frame_steps_from_edge) l_Frame_steps_from_edge cc_Frame_steps_from_edge k_Frame_steps_from_edge,(fun_mk (st:=s_Frame_steps_from_edge) l_Frame_steps_from_edge cc_Frame_steps_from_edge k_Frame_steps_from_edge).binds (ps:=["self","place"]) fun _ _ _ _ _ _ us hl => match us,hl with | [_,_],_ => rfl⟩,M_Frame_steps_from_edge:=⟨a_Frame_steps_from_edge,i_Frame_steps_from_edge,k_Frame_steps_from_edge⟩,F_law_cell:=⟨_,fun_mk (st:=s_law_cell) l_law_cell cc_law_cell k_law_cell,(fun_mk (st:=s_law_cell) l_law_cell cc_law_cell k_law_cell).binds (ps:=["_law_script","_law_k"]) fun _ _ _ _ _ _ us hl => match us,hl with | [_,_],_ => rfl⟩,g__law_cell:=PySem.W.mg_of X G a_law_cell,F_law_mixed:=⟨_,fun_mk (st:=s_law_mixed) l_law_mixed cc_law_mixed k_law_mixed,(fun_mk (st:=s_law_mixed) l_law_mixed cc_law_mixed k_law_mixed).binds (ps:=["_law_cell_here","_law_k"]) fun _ _ _ _ _ _ us hl => match us,hl with | [_,_],_ => rfl⟩,g__law_mixed:=PySem.W.mg_of X G a_law_mixed,F_law_twice:=⟨_,fun_mk (st:=s_law_twice) l_law_twice cc_law_twice k_law_twice,(fun_mk (st:=s_law_twice) l_law_twice cc_law_twice k_law_twice).binds (ps:=["_law_cell_here","_law_k"]) fun _ _ _ _ _ _ us hl => match us,hl with | [_,_],_ => rfl⟩,g__law_twice:=PySem.W.mg_of X G a_law_twice,F_law_well:=⟨_,fun_mk (st:=s_law_well) l_law_well cc_law_well k_law_well,(fun_mk (st:=s_law_well) l_law_well cc_law_well k_law_well).binds (ps:=["_law_script","_law_k"]) fun _ _ _ _ _ _ us hl => match us,hl with | [_,_],_ => rfl⟩,g__law_well:=PySem.W.mg_of X G a_law_well,F_law_draw:=⟨_,fun_mk (st:=s_law_draw) l_law_draw cc_law_draw k_law_draw,(fun_mk (st:=s_law_draw) l_law_draw cc_law_draw k_law_draw).binds (ps:=["_law_well_here","_law_most"]) fun _ _ _ _ _ _ us hl => match us,hl with | [_,_],_ => rfl⟩,g__law_draw:=PySem.W.mg_of X G a_law_draw,F_law_far:=⟨_,fun_mk (st:=s_law_far) l_law_far cc_law_far k_law_far,(fun_mk (st:=s_law_far) l_law_far cc_law_far k_law_far).binds (ps:=["_law_well_here"]) fun _ _ _ _ _ _ us hl => match us,hl with | [_],_ => rfl⟩,g__law_far:=PySem.W.mg_of X G a_law_far,F_law_numbers:=⟨_,fun_mk (st:=s_law_numbers) l_law_numbers cc_law_numbers k_law_numbers,(fun_mk (st:=s_law_numbers) l_law_numbers cc_law_numbers k_law_numbers).binds (ps:=["_law_well_here"]) fun _ _ _ _ _ _ us hl => match us,hl with | [_],_ => rfl⟩,g__law_numbers:=PySem.W.mg_of X G a_law_numbers,F_law_shape:=⟨_,fun_mk (st:=s_law_shape) l_law_shape cc_law_shape k_law_shape,(fun_mk (st:=s_law_shape) l_law_shape cc_law_shape k_law_shape).binds (ps:=["_law_kind","_law_numbers_here"]) fun _ _ _ _ _ _ us hl => match us,hl with | [_,_],_ => rfl⟩,g__law_shape:=PySem.W.mg_of X G a_law_shape,F_law_is_sort:=⟨_,fun_mk (st:=s_law_is_sort) l_law_is_sort cc_law_is_sort k_law_is_sort,(fun_mk (st:=s_law_is_sort) l_law_is_sort cc_law_is_sort k_law_is_sort).binds (ps:=["_law_shape_here","_law_kind"]) fun _ _ _ _ _ _ us hl => match us,hl with | [_,_],_ => rfl⟩,g__law_is_sort:=PySem.W.mg_of X G a_law_is_sort,F_law:=⟨_,fun_mk (st:=s_law) l_law cc_law k_law,fun s u => .of_eq rfl⟩,g_law:=PySem.W.mg_of X G a_law,g_NoShape:=PySem.W.mg_of X G g_NoShape,e_NoShape:=⟨PySem.W.mg_of X G g_NoShape,x_NoShape⟩,ki_Block_Block:=ki_Block_Block,ki_Frame_Frame:=ki_Frame_Frame,ki_Line_Line:=ki_Line_Line,n_isinstance:=PySem.W.mg_none_of X G n_isinstance,n_int:=PySem.W.mg_none_of X G n_int,n_bool:=PySem.W.mg_none_of X G n_bool,n_min:=PySem.W.mg_none_of X G n_min,n_list:=PySem.W.mg_none_of X G n_list,n_tuple:=PySem.W.mg_none_of X G n_tuple,n_len:=PySem.W.mg_none_of X G n_len,n_zip:=PySem.W.mg_none_of X G n_zip,n_str:=PySem.W.mg_none_of X G n_str,n_range:=PySem.W.mg_none_of X G n_range,n_all:=PySem.W.mg_none_of X G n_all,n_abs:=PySem.W.mg_none_of X G n_abs,n_sorted:=PySem.W.mg_none_of X G n_sorted,n_set:=PySem.W.mg_none_of X G n_set,g_MOST_CORNERS:=PySem.W.mg_of X G g_MOST_CORNERS,g_MOST_FIGURES:=PySem.W.mg_of X G g_MOST_FIGURES,g_FIGURES:=PySem.W.mg_of X G g_FIGURES,g_WIDTHS:=PySem.W.mg_of X G g_WIDTHS,q_WIDTHS:=fun H => .inr ⟨_,_,_,tl_WIDTHS,rfl,rfl,(by show 2≤sizeLine; decide),.cons ⟨t0_WIDTHS,rfl⟩ (.cons ⟨t1_WIDTHS,rfl⟩ .nil)⟩ }⟩
def isN:V→Bool | .int _ => true | .bl _ => true | _ => false
def isW:V→Bool | .int _ => true | _ => false
def ge1:V→Bool | .int i => decide (1≤i) | _ => false
theorem ints_of:∀ {xs:List V},xs.all isW = true→∃ ns:List Int,xs = ns.map V.int
 | [],_ => ⟨[],rfl⟩
 | .int i :: r,h => by
  rw [List.all_cons,Bool.and_eq_true] at h
  obtain ⟨ns,e⟩:=ints_of h.2
  exact ⟨i :: ns,by rw [e]; rfl⟩
 | .non :: _,h => by simp [isW] at h
 | .bl _ :: _,h => by simp [isW] at h
 | .str _ :: _,h => by simp [isW] at h
 | .byt _ :: _,h => by simp [isW] at h
 | .flt _ :: _,h => by simp [isW] at h
 | .ref _ :: _,h => by simp [isW] at h
 | .ty _ :: _,h => by simp [isW] at h
theorem ge1_isW {v:V} (h:ge1 v = true):isW v = true:=by cases v <;> simp_all [ge1,isW]
theorem all_imp {p q:V→Bool} (f:∀ v,p v = true→q v = true) {xs:List V} (h:xs.all p = true):xs.all q = true:=List.all_eq_true.mpr fun v hv => f v (List.all_eq_true.mp h v hv)
theorem iteNB {b:Bool} {A B:Prop} (h1:b = false→A) (h2:b = true→B):if (!b) = true then A else B:=by
 cases b
 ·exact (if_pos (show (!false) = true from rfl))▸h1 rfl
 ·rw [if_neg (by decide)]; exact h2 rfl
theorem iteD {c A B:Prop} [Decidable c] (h1:c→A) (h2:¬ c→B):if decide c = true then A else B:=by
 by_cases h:c
 ·rw [if_pos (decide_eq_true h)]; exact h1 h
 ·rw [if_neg (by simp [h])]; exact h2 h
section
variable {P:Program} {w:World} {K:PySem.W.Frag} {mg:Str→Option Value} {base:Heap} {t:Adr}
def spIsWhole:Sp:=fun vs H Q _ => ∃ v,vs = [v]∧isN v = true∧Q (.bl (isW v)) H
theorem ok_is_whole (T:Txt K mg t):GoodF P w K mg base 1 "is_whole" ["value"] spIsWhole:=by
 obtain ⟨fd,F,b⟩:=T.F_is_whole
 refine ⟨_,fd,F.okX sc_is_whole (fun vs H Q E h => ?_) (fun cdv A outer s H vs Q E hr h => ?_),b,F.kp,T.g_is_whole⟩
 ·obtain ⟨v,rfl,_⟩:=h
  rfl
 ·obtain ⟨v,rfl,hv,k⟩:=h
  refine ⟨_,(pss_one (ps_ret (pe_and (pe_callB call_isi (by rfl) T.n_isinstance b_isinstance (pa_cons (pv 0) (pa_cons (pe_bltn (v:=.ty "int") (by rfl) T.n_int b_int rfl) pa_nil))) (pe_one (pe_not (pe_callB call_isi (by rfl) T.n_isinstance b_isinstance (pa_cons (pv 0) (pa_cons (pe_bltn (v:=.ty "bool") (by rfl) T.n_bool b_bool rfl) pa_nil)))))))),?_⟩
  cases v with
  | int i => exact ⟨_,rfl,.int i,.ty "int",_,_,true,rfl,.int i,.ty _,by kernel_rfl,true,rfl,iteT ⟨_,rfl,.int i,.ty "bool",_,_,false,rfl,.int i,.ty _,by kernel_rfl,false,rfl,k⟩⟩
  | bl x => exact ⟨_,rfl,.bl x,.ty "int",_,_,true,rfl,.bl x,.ty _,by kernel_rfl,true,rfl,iteT ⟨_,rfl,.bl x,.ty "bool",_,_,true,rfl,.bl x,.ty _,by kernel_rfl,true,rfl,k⟩⟩
  | _ => cases hv
def spNeedWhole (K:PySem.W.Frag) (C:Addr):Sp:=fun vs H Q E => ∃ a xs,vs = [.ref a]∧(SqL K H a xs∨SqT K H a xs)∧xs.all isN = true∧(xs.all isW = true→Q .non H)∧(xs.all isW = false→E (.ref C) none H)
theorem ok_need_whole (T:Txt K mg t):GoodF P w K mg base 2 "need_whole" ["numbers"] (spNeedWhole K t.c_NoShape):=by
 obtain ⟨fd,F,b⟩:=T.F_need_whole
 have G_is_whole:=ok_is_whole (P:=P) (w:=w) (base:=base) T
 refine ⟨_,fd,F.okX sc_need_whole (fun vs H Q E h => ?_) (fun cdv A outer s H vs Q E hr h => ?_),b,F.kp,T.g_need_whole⟩
 ·obtain ⟨a,xs,rfl,_⟩:=h
  rfl
 ·obtain ⟨a,xs,rfl,hq,hN,kQ,kE⟩:=h
  refine ⟨_,(pss_one (ps_for owns_of (pi_seq (pv 0)) (pg_name (i:=1) sc_need_whole.nd rfl (Or.inl rfl)) (pss_one (ps_if (pt_not (pt_val (pe_callG G_is_whole (hr.mono (by decide)) passes_of (by rfl) (pa_cons (pv 1) pa_nil)))) (pss_one (ps_raise throws_of rfl T.e_NoShape rfl (pa_cons pe_str pa_nil))) pss_nil)))),?_⟩
  have turn:∀ (bk:St→Hp→Prop) (rt:VK) (i:Nat) (x:V) (σ:St) (H2:Hp),xs[i]? = some x→(∃ v,σ = [some (.ref a),v]∧H2 = H∧(xs.take i).all isW = true) →
    gName 1 x σ H2 fun σ2 H3 => tIfS (tNot (tB (tCall spIsWhole [] E (tCons (tVar 1) tNil)))) (tRaise t.c_NoShape (tCons (tC (.str "a shape's numbers are whole numbers")) tNil) E) tNext { nx:=fun σ H2 => ∃ v,σ = [some (.ref a),v]∧H2 = H∧(xs.take (i + 1)).all isW = true,rt:=rt,bk:=bk,ct:=fun σ H2 => ∃ v,σ = [some (.ref a),v]∧H2 = H∧(xs.take (i + 1)).all isW = true } σ2 H3:=by
   rintro bk rt i x σ H2 hx ⟨v,rfl,rfl,hw⟩
   have hm:x∈xs:=List.mem_of_getElem? hx
   refine ⟨x,rfl,x,rfl,List.all_eq_true.mp hN x hm,_,rfl,iteNB (fun hf => ⟨by show 1≤sizeLine; decide,kE ?_⟩) fun ht => ⟨_,rfl,rfl,?_⟩⟩
   ·exact Bool.eq_false_iff.mpr fun z => by rw [List.all_eq_true.mp z x hm] at hf; cases hf
   ·rw [List.take_add_one,hx,List.all_append,hw]; simp [ht]
  rcases hq with hq | hq
  ·refine ⟨_,rfl,a,rfl,.inl ⟨⟨xs,hq⟩,for_list (xs:=xs) (fun i σ H2 => ∃ v,σ = [some (.ref a),v]∧H2 = H∧(xs.take i).all isW = true) ⟨_,rfl,rfl,by simp⟩ (fun i σ H2 _ ⟨_,_,e,_⟩ => e▸hq) (fun i x σ H2 hx hp => turn _ _ i x σ H2 hx hp) ?_⟩⟩
   rintro σ H2 ⟨v,rfl,rfl,hw⟩
   exact kQ (by simpa using hw)
  ·refine ⟨_,rfl,a,rfl,.inr ⟨⟨xs,hq⟩,for_tup (xs:=xs) (fun i σ H2 => ∃ v,σ = [some (.ref a),v]∧H2 = H∧(xs.take i).all isW = true) ⟨_,rfl,rfl,by simp⟩ (fun i σ H2 _ ⟨_,_,e,_⟩ => e▸hq) (fun i x σ H2 hx hp => turn _ _ i x σ H2 hx hp) ?_⟩⟩
   rintro σ H2 ⟨v,rfl,rfl,hw⟩
   exact kQ (by simpa using hw)
def spNeedOne (K:PySem.W.Frag) (C:Addr):Sp:=fun vs H Q E => ∃ a xs,vs = [.ref a]∧SqL K H a xs∧xs≠[]∧xs.all isN = true∧(xs.all ge1 = true→Q .non H)∧(xs.all ge1 = false→E (.ref C) none H)
theorem ok_need_from_one (T:Txt K mg t):GoodF P w K mg base 3 "need_from_one" ["numbers"] (spNeedOne K t.c_NoShape):=by
 obtain ⟨fd,F,b⟩:=T.F_need_from_one
 have G_need_whole:=ok_need_whole (P:=P) (w:=w) (base:=base) T
 refine ⟨_,fd,F.okX sc_need_from_one (fun vs H Q E h => ?_) (fun cdv A outer s H vs Q E hr h => ?_),b,F.kp,T.g_need_from_one⟩
 ·obtain ⟨a,xs,rfl,_⟩:=h
  rfl
 ·obtain ⟨a,xs,rfl,hq,hne,hN,kQ,kE⟩:=h
  refine ⟨_,(pss_cons (ps_expr (pe_callG G_need_whole (hr.mono (by decide)) passes_of (by rfl) (pa_cons (pv 0) pa_nil)))
   (pss_one (ps_if (pt_cmpR op_lt (pe_callB call_min_list (by rfl) T.n_min b_min (pa_cons (pv 0) pa_nil)) pe_int (nomark _)) (pss_one (ps_raise throws_of rfl T.e_NoShape rfl (pa_cons pe_str pa_nil))) pss_nil))),?_⟩
  refine ⟨_,rfl,a,xs,rfl,.inl hq,hN,fun hw => ?_,fun hw => kE (Bool.eq_false_iff.mpr fun z => ?_)⟩
  ·obtain ⟨ns,rfl⟩:=ints_of hw
   refine ⟨_,rfl,a,ns,rfl,hq,by cases ns <;> simp_all,fun M hM hmin => ⟨M,1,rfl,rfl,_,rfl,iteD (fun hlt => ⟨by show 1≤sizeLine; decide,kE ?_⟩) fun hge => kQ ?_⟩⟩
   ·refine Bool.eq_false_iff.mpr fun z => ?_
    have:=List.all_eq_true.mp z (.int M) (List.mem_map_of_mem hM)
    simp only [ge1,decide_eq_true_eq] at this
    omega
   ·refine List.all_eq_true.mpr fun v hv => ?_
    obtain ⟨n,hn,rfl⟩:=List.mem_map.mp hv
    have:=hmin n hn
    simp only [ge1,decide_eq_true_eq]
    omega
  ·rw [all_imp (fun v => ge1_isW) z] at hw; cases hw
def spCell (K:PySem.W.Frag):Sp:=fun vs H Q _ => ∃ (a:Addr) (ns:List Int) (k:Int),vs = [.ref a,.int k]∧SqL K H a (ns.map V.int)∧0≤k∧k < 1000∧ns.length≤63∧Q (.int (ns.getD k.toNat 0)) H
theorem ok_law_cell (T:Txt K mg t):GoodF P w K mg base 1 "_law_cell" ["_law_script","_law_k"] (spCell K):=by
 obtain ⟨fd,F,b⟩:=T.F_law_cell
 refine ⟨_,fd,F.okX sc_law_cell (fun vs H Q E h => ?_) (fun cdv A outer s H vs Q E hr h => ?_),b,F.kp,T.g__law_cell⟩
 ·obtain ⟨a,ns,k,rfl,_⟩:=h
  rfl
 ·obtain ⟨a,ns,k,rfl,hq,h0,h1,hl,q⟩:=h
  refine ⟨_,(pss_cons (ps_if (pt_cmpR op_lt (pv 1) (pe_callB call_len_seq (by rfl) T.n_len b_len (pa_cons (pv 0) pa_nil)) (nomark _)) (pss_one (ps_ret (pe_ix ix_list (pv 0) (pv 1) (fun _ _ => rfl)))) pss_nil)
   (pss_one (ps_ret pe_int))),?_⟩
  refine ⟨_,rfl,_,rfl,a,_,rfl,.inl hq,k,_,rfl,rfl,_,rfl,iteD (fun hlt => ?_) fun hge => ?_⟩
  ·rw [List.length_map] at hlt
   have e:((k.toNat:Nat):Int) = k:=by omega
   refine ⟨_,rfl,_,rfl,a,_,k,.int (ns.getD k.toNat 0),rfl,rfl,hq,?_,q⟩
   have hlt2:k.toNat < ns.length:=by omega
   have hz:(ns.map V.int)[k.toNat]? = some (V.int (ns.getD k.toNat 0)):=by
    rw [List.getElem?_map,List.getD_eq_getElem?_getD,List.getElem?_eq_getElem hlt2]; rfl
   have hz2:=atI_nat hz
   rwa [e] at hz2
  ·rw [List.length_map] at hge
   have e:ns.getD k.toNat 0 = 0:=by rw [List.getD_eq_getElem?_getD,List.getElem?_eq_none (by omega)]; rfl
   rw [e] at q
   exact q
def spMix:Sp:=fun vs H Q _ => ∃ c k,vs = [.int c,.int k]∧∀ r,0≤r→r < 2147483647→Q (.int r) H
theorem ok_law_mixed (T:Txt K mg t):GoodF P w K mg base 1 "_law_mixed" ["_law_cell_here","_law_k"] spMix:=by
 obtain ⟨fd,F,b⟩:=T.F_law_mixed
 refine ⟨_,fd,F.okX sc_law_mixed (fun vs H Q E h => ?_) (fun cdv A outer s H vs Q E hr h => ?_),b,F.kp,T.g__law_mixed⟩
 ·obtain ⟨c,k,rfl,_⟩:=h
  rfl
 ·obtain ⟨c,k,rfl,q⟩:=h
  refine ⟨_,(pss_cons (ps_set (i:=2) sc_law_mixed.nd rfl (Or.inl rfl) (pe_op op_mod (pe_op op_mul (pe_op op_add (pe_op op_add (pv 0) (pe_op op_mul pe_int (pv 1))) pe_int) pe_int) pe_int))
   (pss_one (ps_ret (pe_op op_mod (pe_op op_mul (pv 2) (pe_op op_add (pe_op op_fdiv (pv 2) pe_int) pe_int)) pe_int)))),?_⟩
  refine ⟨_,rfl,_,rfl,7919,k,rfl,rfl,.inl ⟨by decide,by decide⟩,_,_,rfl,rfl,_,_,rfl,rfl,_,48271,rfl,rfl,.inr ⟨by decide,by decide⟩,_,_,rfl,rfl,(by show (0:Int) < 2147483647; decide),?_⟩
  have h0:0≤(c + 7919 * k + 1) * 48271 % 2147483647:=Int.emod_nonneg _ (by decide)
  have h1:(c + 7919 * k + 1) * 48271 % 2147483647 < 2147483647:=Int.emod_lt_of_pos _ (by decide)
  obtain ⟨n,hn⟩:∃ n,n = (c + 7919 * k + 1) * 48271 % 2147483647:=⟨_,rfl⟩
  rw [← hn] at h0 h1
  refine ⟨_,rfl,_,rfl,n,1009,congrArg V.int hn.symm,rfl,⟨by decide,by decide⟩,_,_,rfl,rfl,n,_,congrArg V.int hn.symm,rfl,.inl ⟨by omega,by omega⟩,_,_,rfl,rfl,(by show (0:Int) < 2147483647; decide),?_⟩
  exact q _ (Int.emod_nonneg _ (by decide)) (Int.emod_lt_of_pos _ (by decide))
theorem ok_law_twice (T:Txt K mg t):GoodF P w K mg base 2 "_law_twice" ["_law_cell_here","_law_k"] spMix:=by
 obtain ⟨fd,F,b⟩:=T.F_law_twice
 have G_law_mixed:=ok_law_mixed (P:=P) (w:=w) (base:=base) T
 refine ⟨_,fd,F.okX sc_law_twice (fun vs H Q E h => ?_) (fun cdv A outer s H vs Q E hr h => ?_),b,F.kp,T.g__law_twice⟩
 ·obtain ⟨c,k,rfl,_⟩:=h
  rfl
 ·obtain ⟨c,k,rfl,q⟩:=h
  refine ⟨_,(pss_cons (ps_set (i:=2) sc_law_twice.nd rfl (Or.inl rfl) (pe_op op_mod (pe_op op_mul (pe_op op_add (pe_op op_add (pe_callG G_law_mixed (hr.mono (by decide)) passes_of (by rfl) (pa_cons (pv 0) (pa_cons (pv 1) pa_nil))) (pe_op op_mul pe_int (pv 1))) pe_int) pe_int) pe_int))
   (pss_one (ps_ret (pe_op op_mod (pe_op op_mul (pv 2) (pe_op op_add (pe_op op_fdiv (pv 2) pe_int) pe_int)) pe_int)))),?_⟩
  refine ⟨_,rfl,_,rfl,c,k,rfl,fun r hr0 hr1 => ?_⟩
  refine ⟨_,rfl,104729,k,rfl,rfl,.inl ⟨by decide,by decide⟩,r,_,rfl,rfl,_,_,rfl,rfl,_,69621,rfl,rfl,.inr ⟨by decide,by decide⟩,_,_,rfl,rfl,(by show (0:Int) < 2147483647; decide),?_⟩
  have h0:0≤(r + 104729 * k + 11) * 69621 % 2147483647:=Int.emod_nonneg _ (by decide)
  have h1:(r + 104729 * k + 11) * 69621 % 2147483647 < 2147483647:=Int.emod_lt_of_pos _ (by decide)
  obtain ⟨n,hn⟩:∃ n,n = (r + 104729 * k + 11) * 69621 % 2147483647:=⟨_,rfl⟩
  rw [← hn] at h0 h1
  refine ⟨_,rfl,_,rfl,n,1013,congrArg V.int hn.symm,rfl,⟨by decide,by decide⟩,_,_,rfl,rfl,n,_,congrArg V.int hn.symm,rfl,.inl ⟨by omega,by omega⟩,_,_,rfl,rfl,(by show (0:Int) < 2147483647; decide),?_⟩
  exact q _ (Int.emod_nonneg _ (by decide)) (Int.emod_lt_of_pos _ (by decide))
end
end K03
namespace K03
open PySem L2
def Well (H:Hp) (a:Addr):Prop:=∃ m c j:Int,H a = some (.lst [.int m,.int c,.int j])
def Keep (a:Addr) (H H':Hp):Prop:=∀ b o,b≠a→H b = some o→H' b = some o
theorem Keep.trans {a:Addr} {H H1 H2:Hp} (x:Keep a H H1) (y:Keep a H1 H2):Keep a H H2:=fun b o n e => y b o n (x b o n e)
theorem Keep.upd {a:Addr} {H:Hp} (o:HO):Keep a H (upd H a o):=fun b u n e => by rw [upd_ne n]; exact e
theorem Keep.new {a p:Addr} {H H':Hp} {o:HO} (x:Keep a H H') (hp:H' p = none):Keep a H (L2.upd H' p o):=fun b u n e => by
 have:=x b u n e
 rw [upd_ne (ne_of_none this hp)]; exact this
theorem Well.ne {H:Hp} {a p:Addr} (W:Well H a) (hp:H p = none):a≠p:=by
 obtain ⟨m,c,j,e⟩:=W
 exact ne_of_none e hp
theorem Well.new {H:Hp} {a p:Addr} {o:HO} (W:Well H a) (hp:H p = none):Well (L2.upd H p o) a:=by
 obtain ⟨m,c,j,e⟩:=id W
 exact ⟨m,c,j,by rw [upd_ne (W.ne hp)]; exact e⟩
theorem Keep.fresh {a p:Addr} {H H':Hp} (k:Keep a H H') (W:Well H' a) (hp:H' p = none):H p = none:=by
 cases e:H p with
 | none => rfl
 | some u => rw [k p u (fun z => W.ne hp z.symm) e] at hp; cases hp
theorem same_new {p:Addr} {H H':Hp} {o:HO} (x:Same H H') (hp:H' p = none):Same H (L2.upd H' p o):=fun b u e => by
 have:=x b u e
 rw [upd_ne (ne_of_none this hp)]; exact this
section
variable {P:Program} {w:World} {K:PySem.W.Frag} {mg:Str→Option Value} {base:Heap} {t:Adr}
def spWell (K:PySem.W.Frag):Sp:=fun vs H Q _ => ∃ (a:Addr) (ns:List Int) (k:Int),vs = [.ref a,.int k]∧SqL K H a (ns.map V.int)∧0≤k∧k < 1000∧ns.length≤63∧∀ p m c,H p = none→Q (.ref p) (upd H p (.lst [.int m,.int c,.int 0]))
theorem ok_law_well (T:Txt K mg t):GoodF P w K mg base 2 "_law_well" ["_law_script","_law_k"] (spWell K):=by
 obtain ⟨fd,F,b⟩:=T.F_law_well
 have G_law_cell:=ok_law_cell (P:=P) (w:=w) (base:=base) T
 refine ⟨_,fd,F.okX sc_law_well (fun vs H Q E h => ?_) (fun cdv A outer s H vs Q E hr h => ?_),b,F.kp,T.g__law_well⟩
 ·obtain ⟨a,ns,k,rfl,_⟩:=h
  rfl
 ·obtain ⟨a,ns,k,rfl,hq,h0,h1,hl,q⟩:=h
  refine ⟨_,(pss_one (ps_ret (pe_lst (pa_cons (pe_op op_mod (pe_callG G_law_cell (hr.mono (by decide)) passes_of (by rfl) (pa_cons (pv 0) (pa_cons pe_int pa_nil))) pe_int) (pa_cons (pe_callG G_law_cell (hr.mono (by decide)) passes_of (by rfl) (pa_cons (pv 0) (pa_cons (pv 1) pa_nil))) (pa_cons pe_int pa_nil)))))),?_⟩
  refine ⟨_,rfl,a,ns,0,rfl,hq,by decide,by decide,hl,_,2,rfl,rfl,(by show (0:Int) < 2; decide),_,rfl,_,rfl,a,ns,k,rfl,hq,h0,h1,hl,(by show 3≤sizeLine; decide),fun p hp => q p _ _ hp⟩
def spDraw:Sp:=fun vs H Q _ => ∃ a n,vs = [.ref a,.int n]∧Well H a∧0 < n∧n < 1073741824∧∀ r H',0≤r→r < n→Well H' a→Keep a H H'→Q (.int r) H'
theorem ok_law_draw (T:Txt K mg t):GoodF P w K mg base 3 "_law_draw" ["_law_well_here","_law_most"] spDraw:=by
 obtain ⟨fd,F,b⟩:=T.F_law_draw
 have G_law_twice:=ok_law_twice (P:=P) (w:=w) (base:=base) T
 refine ⟨_,fd,F.okX sc_law_draw (fun vs H Q E h => ?_) (fun cdv A outer s H vs Q E hr h => ?_),b,F.kp,T.g__law_draw⟩
 ·obtain ⟨a,n,rfl,_⟩:=h
  rfl
 ·obtain ⟨a,n,rfl,⟨m,c,j,hw⟩,hn,hn2,q⟩:=h
  refine ⟨_,(pss_cons (ps_if (pt_cmpR op_eq (pe_ix ix_list (pv 0) pe_int (fun _ _ => rfl)) pe_int (nomark _)) (pss_cons (ps_set (i:=2) sc_law_draw.nd rfl (Or.inl rfl) (pe_op op_mod (pe_ix ix_list (pv 0) pe_int (fun _ _ => rfl)) (pv 1)))
   (pss_cons (ps_asg (pe_op op_fdiv (pe_ix ix_list (pv 0) pe_int (fun _ _ => rfl)) (pv 1)) (pg_sub (pv 0) pe_int set_list))
   (pss_one (ps_ret (pv 2))))) pss_nil)
   (pss_cons (ps_asg (pe_op op_add (pe_ix ix_list (pv 0) pe_int (fun _ _ => rfl)) pe_int) (pg_sub (pv 0) pe_int set_list))
   (pss_one (ps_ret (pe_op op_mod (pe_callG G_law_twice (hr.mono (by decide)) passes_of (by rfl) (pa_cons (pe_ix ix_list (pv 0) pe_int (fun _ _ => rfl)) (pa_cons (pe_ix ix_list (pv 0) pe_int (fun _ _ => rfl)) pa_nil))) (pv 1)))))),?_⟩
  have S:SqL K H a [.int m,.int c,.int j]:=SqL.of hw
  refine ⟨_,rfl,a,_,0,.int m,rfl,rfl,S,rfl,rfl,_,rfl,iteD (fun _ => ?_) fun _ => ?_⟩
  ·refine ⟨_,rfl,a,_,1,.int c,rfl,rfl,S,rfl,_,rfl,c,n,rfl,rfl,hn,?_⟩
   refine ⟨_,rfl,a,_,1,.int c,rfl,rfl,S,rfl,_,rfl,c,n,rfl,rfl,⟨hn,hn2⟩,_,rfl,a,_,1,1,rfl,rfl,hw,rfl,?_⟩
   exact ⟨_,rfl,q _ _ (Int.emod_nonneg _ (by omega)) (Int.emod_lt_of_pos _ hn) ⟨m,c / n,j,upd_same⟩ (Keep.upd _)⟩
  ·refine ⟨_,rfl,a,_,2,.int j,rfl,rfl,S,rfl,j,1,rfl,rfl,_,rfl,a,_,2,2,rfl,rfl,hw,rfl,?_⟩
   have S2:SqL K (upd H a (.lst [.int m,.int c,.int (j + 1)])) a [.int m,.int c,.int (j + 1)]:=SqL.of upd_same
   refine ⟨_,rfl,a,_,1,.int c,rfl,rfl,S2,rfl,_,rfl,a,_,2,.int (j + 1),rfl,rfl,S2,rfl,c,j + 1,rfl,fun r h0 h1 => ?_⟩
   exact ⟨_,rfl,r,n,rfl,rfl,hn,q _ _ (Int.emod_nonneg _ (by omega)) (Int.emod_lt_of_pos _ hn) ⟨m,c,j + 1,upd_same⟩ (Keep.upd _)⟩
abbrev B38:Int:=100000000000000000000000000000000000000
theorem pow38:(10:Int) ^ (38:Int).toNat = B38:=by decide
def spFar:Sp:=fun vs H Q _ => ∃ a,vs = [.ref a]∧Well H a∧∀ z H',-4≤z→z≤B38→Well H' a→Keep a H H'→Q (.int z) H'
theorem ok_law_far (T:Txt K mg t):GoodF P w K mg base 4 "_law_far" ["_law_well_here"] spFar:=by
 obtain ⟨fd,F,b⟩:=T.F_law_far
 have G_law_draw:=ok_law_draw (P:=P) (w:=w) (base:=base) T
 refine ⟨_,fd,F.okX sc_law_far (fun vs H Q E h => ?_) (fun cdv A outer s H vs Q E hr h => ?_),b,F.kp,T.g__law_far⟩
 ·obtain ⟨a,rfl,_⟩:=h
  rfl
 ·obtain ⟨a,rfl,W,q⟩:=h
  refine ⟨_,(pss_cons (ps_set (i:=1) sc_law_far.nd rfl (Or.inl rfl) (pe_ix ix_list (pe_lst (pa_cons (pe_callG G_law_draw (hr.mono (by decide)) passes_of (by rfl) (pa_cons (pv 0) (pa_cons pe_int pa_nil))) (pa_cons (pe_op op_sub (pe_callG G_law_draw (hr.mono (by decide)) passes_of (by rfl) (pa_cons (pv 0) (pa_cons pe_int pa_nil))) pe_int) (pa_cons (pe_op op_sub (pe_op op_pow pe_int pe_int) (pe_callG G_law_draw (hr.mono (by decide)) passes_of (by rfl) (pa_cons (pv 0) (pa_cons pe_int pa_nil)))) pa_nil)))) (pe_callG G_law_draw (hr.mono (by decide)) passes_of (by rfl) (pa_cons (pv 0) (pa_cons pe_int pa_nil))) (fun _ _ => rfl)))
   (pss_one (ps_ret (pv 1)))),?_⟩
  refine ⟨_,rfl,a,9,rfl,W,by decide,by decide,fun r1 H1 a1 b1 W1 K1 => ?_⟩
  refine ⟨_,rfl,a,9,rfl,W1,by decide,by decide,fun r2 H2 a2 b2 W2 K2 => ⟨r2,4,rfl,rfl,?_⟩⟩
  refine ⟨10,38,rfl,rfl,⟨by decide,by decide,by decide⟩,_,rfl,a,9,rfl,W2,by decide,by decide,fun r3 H3 a3 b3 W3 K3 => ⟨_,r3,rfl,rfl,(by show 3≤sizeLine; decide),fun p hp => ?_⟩⟩
  refine ⟨_,rfl,a,3,rfl,W3.new hp,by decide,by decide,fun r4 H4 a4 b4 W4 K4 => ?_⟩
  have e4:H4 p = some (.lst [.int r1,.int (r2 - 4),.int ((10:Int) ^ (38:Int).toNat - r3)]):=K4 p _ (Ne.symm (W3.ne hp)) upd_same
  have KK:Keep a H H4:=(((K1.trans K2).trans K3).new hp).trans K4
  have h4:r4 = 0∨r4 = 1∨r4 = 2:=by omega
  have hB:B38 = 100000000000000000000000000000000000000:=rfl
  rcases h4 with rfl | rfl | rfl
  ·exact ⟨p,_,0,.int r1,rfl,rfl,SqL.of e4,rfl,_,rfl,q _ _ (by omega) (by omega) W4 KK⟩
  ·exact ⟨p,_,1,.int (r2 - 4),rfl,rfl,SqL.of e4,rfl,_,rfl,q _ _ (by omega) (by omega) W4 KK⟩
  ·refine ⟨p,_,2,.int ((10:Int) ^ (38:Int).toNat - r3),rfl,rfl,SqL.of e4,rfl,_,rfl,q _ _ ?_ ?_ W4 KK⟩
   ·rw [pow38]; omega
   ·rw [pow38]; omega
def flat:List (Int × Int)→List Int
 | [] => []
 | p :: r => p.1 :: p.2 :: flat r
theorem flat_snoc (p:Int × Int):∀ ps,flat (ps ++ [p]) = flat ps ++ [p.1,p.2]
 | [] => rfl
 | q :: r => by
  show q.1 :: q.2 :: flat (r ++ [p]) = q.1 :: q.2 :: (flat r ++ [p.1,p.2])
  rw [flat_snoc p r]
theorem flat_length:∀ ps,(flat ps).length = 2 * ps.length
 | [] => rfl
 | q :: r => by
  show (flat r).length + 1 + 1 = 2 * (r.length + 1)
  rw [flat_length r]; omega
def nr (p q:Int × Int):Prop:=(p.1 = q.1∧-10≤q.2 - p.2∧q.2 - p.2≤10)∨(p.2 = q.2∧-10≤q.1 - p.1∧q.1 - p.1≤10)
def inl:List (Int × Int)→Prop
 | p :: q :: r => nr p q∧inl (q :: r)
 | _ => True
theorem inl_snoc {p q:Int × Int} (h:nr q p):∀ {ps:List (Int × Int)},inl (ps ++ [q])→inl (ps ++ [q] ++ [p])
 | [],_ => ⟨h,trivial⟩
 | [x],i => ⟨i.1,h,trivial⟩
 | x :: y :: r,i => ⟨i.1,inl_snoc (ps:=y :: r) h i.2⟩
theorem flat_mem {z:Int}:∀ {ps:List (Int × Int)},z∈flat ps→∃ p∈ps,z = p.1∨z = p.2
 | p :: r,h => by
  rcases List.mem_cons.mp h with e | h
  ·exact ⟨p,.head _,.inl e⟩
  ·rcases List.mem_cons.mp h with e | h
   ·exact ⟨p,.head _,.inr e⟩
   ·obtain ⟨q,hq,e⟩:=flat_mem (ps:=r) h
    exact ⟨q,.tail _ hq,e⟩
inductive OkN:Int→List Int→Prop
 | block (x y w h:Int):1≤w→w≤6→1≤h→h≤6→OkN 0 [x,y,w,h]
 | frame (x y w h k:Int):1≤w→w≤7→1≤h→h≤7→1≤k→k≤4→OkN 1 [x,y,w,h,k]
 | line (w:Int) (ps:List (Int × Int)):(w = 1∨w = 3)→ps≠[]→ps.length≤6→inl ps→OkN 2 (w :: flat ps)
def Bnd (n:Int):Prop:=-1000 - B38≤n∧n≤B38 + 1000
def LnI (a:Addr) (H:Hp) (wd:Int) (i:Nat) (σ:St) (H':Hp):Prop :=
 ∃ x y l ps k5 k6,σ = [some (.ref a),some (.int 2),some (.int x),some (.int y),some (.ref l),k5,k6]∧H' l = some (.lst ((wd :: flat (ps ++ [(x,y)])).map V.int))∧ps.length = i∧inl (ps ++ [(x,y)]) ∧
  (-4 - 3 * (i:Int)≤x∧x≤B38 + 3 * i∧-4 - 3 * (i:Int)≤y∧y≤B38 + 3 * i)∧(∀ p∈ps,Bnd p.1∧Bnd p.2)∧Well H' a∧Keep a H H'∧l≠a∧H l = none
theorem ln_step {a l l2 p:Addr} {H H8:Hp} {wd x y x' y':Int} {i:Nat} {ps:List (Int × Int)} {k5 k6:Option V} (hl8:H8 l = some (.lst ((wd :: flat (ps ++ [(x,y)])).map V.int))) (hps:ps.length = i) (hin:inl (ps ++ [(x,y)]))
  (hx:-4 - 3 * (i:Int)≤x∧x≤B38 + 3 * i∧-4 - 3 * (i:Int)≤y∧y≤B38 + 3 * i) (hb:∀ p∈ps,Bnd p.1∧Bnd p.2) (W8:Well H8 a) (K9:Keep a H H8) (hi:i < 6) (hxy:nr (x,y) (x',y'))
  (hx':-4 - 3 * ((i + 1:Nat):Int)≤x'∧x'≤B38 + 3 * ((i + 1:Nat):Int)∧-4 - 3 * ((i + 1:Nat):Int)≤y'∧y'≤B38 + 3 * ((i + 1:Nat):Int)) (hl2:H8 l2 = none) (hp:L2.upd H8 l2 (.lst [.int x',.int y']) p = none) :
  LnI a H wd (i + 1) [some (.ref a),some (.int 2),some (.int x'),some (.int y'),some (.ref p),k5,k6] (L2.upd (L2.upd H8 l2 (.lst [.int x',.int y'])) p (.lst ((wd :: flat (ps ++ [(x,y)])).map V.int ++ [.int x',.int y']))):=by
 refine ⟨x',y',p,ps ++ [(x,y)],k5,k6,rfl,?_,by rw [List.length_append,hps]; rfl,inl_snoc hxy hin,hx',fun q hq => ?_,(W8.new hl2).new hp,(K9.new hl2).new hp,Ne.symm ((W8.new hl2).ne hp),(K9.new hl2).fresh (W8.new hl2) hp⟩
 ·rw [upd_same,flat_snoc (x',y') (ps ++ [(x,y)])]
  simp
 ·rcases List.mem_append.mp hq with h | h
  ·exact hb q h
  ·obtain rfl:q = (x,y):=by simpa using h
   unfold Bnd
   dsimp only
   omega
def spNumbers:Sp:=fun vs H Q _ => ∃ a,vs = [.ref a]∧Well H a∧∀ kind ns p l H',OkN kind ns→(∀ n∈ns,Bnd n)→H' p = some (.tup [.int kind,.ref l])→H' l = some (.lst (ns.map V.int))→Well H' a→Keep a H H'→l≠a→H l = none→Q (.ref p) H'
theorem ok_law_numbers (T:Txt K mg t):GoodF P w K mg base 5 "_law_numbers" ["_law_well_here"] spNumbers:=by
 obtain ⟨fd,F,b⟩:=T.F_law_numbers
 have G_law_draw:=ok_law_draw (P:=P) (w:=w) (base:=base) T
 have G_law_far:=ok_law_far (P:=P) (w:=w) (base:=base) T
 refine ⟨_,fd,F.okX sc_law_numbers (fun vs H Q E h => ?_) (fun cdv A outer s H vs Q E hr h => ?_),b,F.kp,T.g__law_numbers⟩
 ·obtain ⟨a,rfl,_⟩:=h
  rfl
 ·obtain ⟨a,rfl,W,q⟩:=h
  refine ⟨_,(pss_cons (ps_set (i:=1) sc_law_numbers.nd rfl (Or.inl rfl) (pe_callG G_law_draw (hr.mono (by decide)) passes_of (by rfl) (pa_cons (pv 0) (pa_cons pe_int pa_nil))))
   (pss_cons (ps_set (i:=2) sc_law_numbers.nd rfl (Or.inl rfl) (pe_callG G_law_far (hr.mono (by decide)) passes_of (by rfl) (pa_cons (pv 0) pa_nil)))
   (pss_cons (ps_set (i:=3) sc_law_numbers.nd rfl (Or.inl rfl) (pe_callG G_law_far (hr.mono (by decide)) passes_of (by rfl) (pa_cons (pv 0) pa_nil)))
   (pss_cons (ps_if (pt_cmpR op_eq (pv 1) pe_int (nomark _)) (pss_one (ps_ret (pe_tup (pa_cons (pv 1) (pa_cons (pe_lst (pa_cons (pv 2) (pa_cons (pv 3) (pa_cons (pe_op op_add pe_int (pe_callG G_law_draw (hr.mono (by decide)) passes_of (by rfl) (pa_cons (pv 0) (pa_cons pe_int pa_nil)))) (pa_cons (pe_op op_add pe_int (pe_callG G_law_draw (hr.mono (by decide)) passes_of (by rfl) (pa_cons (pv 0) (pa_cons pe_int pa_nil)))) pa_nil))))) pa_nil))))) pss_nil)
   (pss_cons (ps_if (pt_cmpR op_eq (pv 1) pe_int (nomark _)) (pss_one (ps_ret (pe_tup (pa_cons (pv 1) (pa_cons (pe_lst (pa_cons (pv 2) (pa_cons (pv 3) (pa_cons (pe_op op_add pe_int (pe_callG G_law_draw (hr.mono (by decide)) passes_of (by rfl) (pa_cons (pv 0) (pa_cons pe_int pa_nil)))) (pa_cons (pe_op op_add pe_int (pe_callG G_law_draw (hr.mono (by decide)) passes_of (by rfl) (pa_cons (pv 0) (pa_cons pe_int pa_nil)))) (pa_cons (pe_op op_add pe_int (pe_callG G_law_draw (hr.mono (by decide)) passes_of (by rfl) (pa_cons (pv 0) (pa_cons pe_int pa_nil)))) pa_nil)))))) pa_nil))))) pss_nil)
   (pss_cons (ps_set (i:=4) sc_law_numbers.nd rfl (Or.inl rfl) (pe_lst (pa_cons (pe_op op_add pe_int (pe_op op_mul pe_int (pe_callG G_law_draw (hr.mono (by decide)) passes_of (by rfl) (pa_cons (pv 0) (pa_cons pe_int pa_nil))))) (pa_cons (pv 2) (pa_cons (pv 3) pa_nil)))))
   (pss_cons (ps_for owns_of (pi_range1 rfl T.n_range (pa_cons (pe_callG G_law_draw (hr.mono (by decide)) passes_of (by rfl) (pa_cons (pv 0) (pa_cons pe_int pa_nil))) pa_nil)) (pg_name (i:=5) sc_law_numbers.nd rfl (Or.inl rfl)) (pss_cons (ps_set (i:=6) sc_law_numbers.nd rfl (Or.inl rfl) (pe_op op_sub (pe_callG G_law_draw (hr.mono (by decide)) passes_of (by rfl) (pa_cons (pv 0) (pa_cons pe_int pa_nil))) pe_int))
   (pss_cons (ps_if (pt_cmpR op_eq (pe_callG G_law_draw (hr.mono (by decide)) passes_of (by rfl) (pa_cons (pv 0) (pa_cons pe_int pa_nil))) pe_int (nomark _)) (pss_one (ps_set (i:=2) sc_law_numbers.nd rfl (Or.inl rfl) (pe_op op_add (pv 2) (pv 6)))) (pss_one (ps_set (i:=3) sc_law_numbers.nd rfl (Or.inl rfl) (pe_op op_add (pv 3) (pv 6)))))
   (pss_one (ps_set (i:=4) sc_law_numbers.nd rfl (Or.inl rfl) (pe_op op_cat (pv 4) (pe_lst (pa_cons (pv 2) (pa_cons (pv 3) pa_nil)))))))))
   (pss_one (ps_ret (pe_tup (pa_cons (pv 1) (pa_cons (pv 4) pa_nil)))))))))))),?_⟩
  refine ⟨_,rfl,a,3,rfl,W,by decide,by decide,fun kd H1 a1 b1 W1 K1 => ?_⟩
  refine ⟨_,rfl,a,rfl,W1,fun x H2 a2 b2 W2 K2 => ?_⟩
  refine ⟨_,rfl,a,rfl,W2,fun y H3 a3 b3 W3 K3 => ?_⟩
  have KK:Keep a H H3:=(K1.trans K2).trans K3
  refine ⟨_,rfl,rfl,_,rfl,iteD (fun e0 => ?_) fun n0 => ?_⟩
  ·
   obtain rfl:kd = 0:=by cases e0; rfl
   refine ⟨_,rfl,_,rfl,_,rfl,_,rfl,a,6,rfl,W3,by decide,by decide,fun r4 H4 a4 b4 W4 K4 => ⟨1,r4,rfl,rfl,_,rfl,a,6,rfl,W4,by decide,by decide,fun r5 H5 a5 b5 W5 K5 => ⟨1,r5,rfl,rfl,(by show 4≤sizeLine; decide),fun l hl => ⟨(by show 2≤sizeLine; decide),fun p hp => ?_⟩⟩⟩⟩
   have K6:=(((KK.trans K4).trans K5).new (o:=.lst [.int x,.int y,.int (1 + r4),.int (1 + r5)]) hl).new (o:=.tup [.int 0,.ref l]) hp
   have npl:l≠p:=fun z => by rw [z,upd_same] at hp; cases hp
   refine q 0 [x,y,1 + r4,1 + r5] p l _ (.block x y _ _ (by omega) (by omega) (by omega) (by omega)) (fun n hn => ?_) upd_same (by rw [upd_ne npl]; exact upd_same) ((W5.new hl).new hp) K6 (Ne.symm (W5.ne hl)) (((KK.trans K4).trans K5).fresh W5 hl)
   simp only [List.mem_cons,List.not_mem_nil,or_false] at hn
   unfold Bnd
   rcases hn with rfl | rfl | rfl | rfl <;> omega
  ·refine ⟨_,rfl,rfl,_,rfl,iteD (fun e1 => ?_) fun n1 => ?_⟩
   ·
    obtain rfl:kd = 1:=by cases e1; rfl
    refine ⟨_,rfl,_,rfl,_,rfl,_,rfl,a,7,rfl,W3,by decide,by decide,fun r4 H4 a4 b4 W4 K4 => ⟨1,r4,rfl,rfl,_,rfl,a,7,rfl,W4,by decide,by decide,fun r5 H5 a5 b5 W5 K5 => ⟨1,r5,rfl,rfl,_,rfl,a,4,rfl,W5,by decide,by decide,fun r6 H6 a6 b6 W6 K6 => ⟨1,r6,rfl,rfl,(by show 5≤sizeLine; decide),fun l hl => ⟨(by show 2≤sizeLine; decide),fun p hp => ?_⟩⟩⟩⟩⟩
    have K7:=((((KK.trans K4).trans K5).trans K6).new (o:=.lst [.int x,.int y,.int (1 + r4),.int (1 + r5),.int (1 + r6)]) hl).new (o:=.tup [.int 1,.ref l]) hp
    have npl:l≠p:=fun z => by rw [z,upd_same] at hp; cases hp
    refine q 1 [x,y,1 + r4,1 + r5,1 + r6] p l _ (.frame x y _ _ _ (by omega) (by omega) (by omega) (by omega) (by omega) (by omega)) (fun n hn => ?_) upd_same (by rw [upd_ne npl]; exact upd_same) ((W6.new hl).new hp) K7 (Ne.symm (W6.ne hl)) ((((KK.trans K4).trans K5).trans K6).fresh W6 hl)
    simp only [List.mem_cons,List.not_mem_nil,or_false] at hn
    unfold Bnd
    rcases hn with rfl | rfl | rfl | rfl | rfl <;> omega
   ·
    obtain rfl:kd = 2:=by
     have h0:kd≠0:=fun z => n0 (by rw [z])
     have h1:kd≠1:=fun z => n1 (by rw [z])
     omega
    refine ⟨_,rfl,a,2,rfl,W3,by decide,by decide,fun r4 H4 a4 b4 W4 K4 => ⟨2,r4,rfl,rfl,.inl ⟨by decide,by decide⟩,1,_,rfl,rfl,_,rfl,_,rfl,(by show 3≤sizeLine; decide),fun l hl => ?_⟩⟩
    have K5:Keep a H (upd H4 l (.lst [.int (1 + 2 * r4),.int x,.int y])):=(KK.trans K4).new hl
    refine ⟨_,rfl,a,6,rfl,W4.new hl,by decide,by decide,fun n H5 a5 b5 W5 K6 => ⟨n,rfl,by omega,by omega,?_⟩⟩
    refine for_range (lo:=0) (n:=n.toNat) (LnI a H (1 + 2 * r4)) ?_ ?_ ?_
    ·exact ⟨x,y,l,[],none,none,rfl,K6 l _ (Ne.symm (W4.ne hl)) upd_same,rfl,trivial,⟨by omega,by omega,by omega,by omega⟩,(fun p hp => nomatch hp),W5,K5.trans K6,Ne.symm (W4.ne hl),(KK.trans K4).fresh W4 hl⟩
    ·rintro i σ H' hi ⟨x,y,l,ps,k5,k6,rfl,hl',hps,hin,⟨x0,x1,y0,y1⟩,hb,W',K',nla,hfr⟩
     have hi6:(i:Int) < 6:=by omega
     refine ⟨_,rfl,a,7,rfl,W',by decide,by decide,fun r H7 a7 b7 W7 K7 => ⟨r,3,rfl,rfl,?_⟩⟩
     refine ⟨_,rfl,a,2,rfl,W7,by decide,by decide,fun r2 H8 a8 b8 W8 K8 => ⟨rfl,_,rfl,?_⟩⟩
     have hl8:H8 l = some (.lst (((1 + 2 * r4) :: flat (ps ++ [(x,y)])).map V.int)):=K8 l _ nla (K7 l _ nla hl')
     have K9:Keep a H H8:=(K'.trans K7).trans K8
     have hlen:((1 + 2 * r4) :: flat (ps ++ [(x,y)])).length≤100:=by
      rw [List.length_cons,flat_length,List.length_append,List.length_singleton]; omega
     have hz:((1 + 2 * r4) :: flat (ps ++ [(x,y)])).length + 2≤sizeLine:=Nat.le_trans (Nat.add_le_add_right hlen 2) (by decide)
     refine iteD (fun _ => ?_) fun _ => ?_
     ·refine ⟨_,rfl,_,rfl,x,r - 3,rfl,rfl,_,rfl,_,rfl,_,rfl,(by show 2≤sizeLine; decide),fun l2 hl2 => ⟨l,l2,_,_,rfl,rfl,by rw [upd_ne (ne_of_none hl8 hl2)]; exact hl8,upd_same,by rw [List.length_map]; exact hz,fun p hp => ?_⟩⟩
      exact ln_step hl8 hps hin ⟨x0,x1,y0,y1⟩ hb W8 K9 (by omega) (.inr ⟨rfl,by dsimp only; omega,by dsimp only; omega⟩) ⟨by omega,by omega,by omega,by omega⟩ hl2 hp
     ·refine ⟨_,rfl,_,rfl,y,r - 3,rfl,rfl,_,rfl,_,rfl,_,rfl,(by show 2≤sizeLine; decide),fun l2 hl2 => ⟨l,l2,_,_,rfl,rfl,by rw [upd_ne (ne_of_none hl8 hl2)]; exact hl8,upd_same,by rw [List.length_map]; exact hz,fun p hp => ?_⟩⟩
      exact ln_step hl8 hps hin ⟨x0,x1,y0,y1⟩ hb W8 K9 (by omega) (.inl ⟨rfl,by dsimp only; omega,by dsimp only; omega⟩) ⟨by omega,by omega,by omega,by omega⟩ hl2 hp
    ·rintro σ H' ⟨x,y,l,ps,k5,k6,rfl,hl',hps,hin,⟨x0,x1,y0,y1⟩,hb,W',K',nla,hfr⟩
     refine ⟨_,rfl,_,rfl,(by show 2≤sizeLine; decide),fun p hp => ?_⟩
     refine q 2 ((1 + 2 * r4) :: flat (ps ++ [(x,y)])) p l _ (.line _ _ (by omega) (by simp) (by rw [List.length_append,List.length_singleton]; omega) hin) (fun z hz => ?_) upd_same (by rw [upd_ne (ne_of_none hl' hp)]; exact hl') (W'.new hp) (K'.new hp) nla hfr
     rcases List.mem_cons.mp hz with rfl | hz
     ·unfold Bnd; omega
     ·obtain ⟨pp,hpp,e⟩:=flat_mem hz
      rcases List.mem_append.mp hpp with h | h
      ·rcases e with rfl | rfl
       ·exact (hb _ h).1
       ·exact (hb _ h).2
      ·obtain rfl:pp = (x,y):=by simpa using h
       unfold Bnd
       rcases e with rfl | rfl <;> omega
end
end K03
namespace K03
open PySem L2
structure Corners (K:PySem.W.Frag) (H:Hp) (ps:List Addr) (cs:List (V × V)):Prop where
 len:ps.length = cs.length
 at_:∀ (i:Nat) (p:Addr) (c:V × V),ps[i]? = some p→cs[i]? = some c→H p = some (.tup [c.1,c.2])
theorem Corners.same {K:PySem.W.Frag} {H H':Hp} {ps:List Addr} {cs:List (V × V)} (C:Corners K H ps cs) (s:Same H H'):Corners K H' ps cs:=⟨C.len,fun i p c h1 h2 => s _ _ (C.at_ i p c h1 h2)⟩
def inlC (cs:List (V × V)):Prop:=∀ (i:Nat) (x y:V × V),cs[i]? = some x→cs[i + 1]? = some y→x.1 = y.1∨x.2 = y.2
def wC (c:V × V):Bool:=isW c.1 && isW c.2
def nC (c:V × V):Bool:=isN c.1 && isN c.2
def GoodCs (cs:List (V × V)):Prop:=1≤cs.length∧cs.length≤40∧cs.all wC = true∧inlC cs
theorem isW_scal {x y:V} (hx:isW x = true) (hy:isW y = true):scal x y = true:=by
 cases x <;> cases y <;> simp_all [isW,scal]
theorem cut1 (xs:List V):cutV xs (some 1) none = xs.drop 1:=by
 unfold cutV
 rw [show (some (1:Int)) = some ((1:Nat):Int) from rfl,HT.sIx_nat,HT.sIx_none]
 cases xs with
 | nil => rfl
 | cons x r =>
  have e:min 1 (x :: r).length = 1:=by simp
  rw [e]
  exact List.take_of_length_le (by simp)
section
variable {P:Program} {w:World} {K:PySem.W.Frag} {mg:Str→Option Value} {base:Heap} {t:Adr}
def spNeedCorners (K:PySem.W.Frag) (C:Addr):Sp:=fun vs H Q E => ∃ (a:Addr) (ps:List Addr) (cs:List (V × V)),vs = [.ref a]∧H a = some (.lst (ps.map V.ref))∧Corners K H ps cs∧cs.all nC = true∧cs.length≤200000 ∧
 (GoodCs cs→∀ H',Same H H'→Q .non H')∧(¬ GoodCs cs→∀ H',Same H H'→E (.ref C) none H')
theorem ok_need_corners (T:Txt K mg t):GoodF P w K mg base 3 "need_corners" ["corners"] (spNeedCorners K t.c_NoShape):=by
 obtain ⟨fd,F,b⟩:=T.F_need_corners
 have G_need_whole:=ok_need_whole (P:=P) (w:=w) (base:=base) T
 refine ⟨_,fd,F.okX sc_need_corners (fun vs H Q E h => ?_) (fun cdv A outer s H vs Q E hr h => ?_),b,F.kp,T.g_need_corners⟩
 ·obtain ⟨a,ps,cs,rfl,_⟩:=h
  rfl
 ·obtain ⟨a,ps,cs,rfl,ha,C,hN,h100,kQ,kE⟩:=h
  refine ⟨_,(pss_cons (ps_if (pw_or (pt_not (pt_val (pe_callB call_isi (by rfl) T.n_isinstance b_isinstance (pa_cons (pv 0) (pa_cons (pe_bltn (v:=.ty "list") (by rfl) T.n_list b_list rfl) pa_nil))))) (pw_or1 (pt_not (pt_chain op_le op_le pe_int (pe_callB call_len_seq (by rfl) T.n_len b_len (pa_cons (pv 0) pa_nil)) (pe_glob (v:=.int 40) (by rfl) T.g_MOST_CORNERS ⟨_,rfl⟩))))).pt (pss_one (ps_raise throws_of rfl T.e_NoShape rfl (pa_cons (pe_fstr3 (by decide) (by decide) (pe_glob (v:=.int 40) (by rfl) T.g_MOST_CORNERS ⟨_,rfl⟩)) pa_nil))) pss_nil)
   (pss_cons (ps_for owns_of (pi_list (pv 0)) (pg_name (i:=1) sc_need_corners.nd rfl (Or.inl rfl)) (pss_cons (ps_if (pw_or (pt_not (pt_val (pe_callB call_isi (by rfl) T.n_isinstance b_isinstance (pa_cons (pv 1) (pa_cons (pe_bltn (v:=.ty "tuple") (by rfl) T.n_tuple b_tuple rfl) pa_nil))))) (pw_or1 (pt_cmpR op_ne (pe_callB call_len_seq (by rfl) T.n_len b_len (pa_cons (pv 1) pa_nil)) pe_int (nomark _)))).pt (pss_one (ps_raise throws_of rfl T.e_NoShape rfl (pa_cons pe_str pa_nil))) pss_nil)
   (pss_one (ps_expr (pe_callG G_need_whole (hr.mono (by decide)) passes_of (by rfl) (pa_cons (pv 1) pa_nil))))))
   (pss_one (ps_for owns_of (pi_zip rfl rfl T.n_zip (pa_cons (pv 0) (pa_cons (pe_slice sl_list (pv 0) (po_some pe_int) po_none) pa_nil))) (pg_tup rfl (pgs_cons (pg_name (i:=2) sc_need_corners.nd rfl (Or.inl rfl)) (pgs_cons (pg_name (i:=3) sc_need_corners.nd rfl (Or.inl rfl)) pgs_nil))) (pss_one (ps_if (pw_and (pt_cmpR op_ne (pe_ix ix_tup (pv 2) pe_int (fun _ _ => rfl)) (pe_ix ix_tup (pv 3) pe_int (fun _ _ => rfl)) (nomark _)) (pw_and1 (pt_cmpR op_ne (pe_ix ix_tup (pv 2) pe_int (fun _ _ => rfl)) (pe_ix ix_tup (pv 3) pe_int (fun _ _ => rfl)) (nomark _)))).pt (pss_one (ps_raise throws_of rfl T.e_NoShape rfl (pa_cons pe_str pa_nil))) pss_nil)))))),?_⟩
  have hl:(ps.map V.ref).length = cs.length:=by rw [List.length_map,C.len]
  have bad:∀ H',¬ GoodCs cs→Same H H'→(1≤sizeLine∧E (.ref t.c_NoShape) none H'):=fun H' hb hs => ⟨by decide,kE hb H' hs⟩
  refine ⟨_,rfl,.ref a,.ty "list",_,_,true,rfl,.lst ha,.ty _,by kernel_rfl,true,rfl,iteF ?_⟩
  refine ⟨_,rfl,a,_,rfl,.inl (SqL.of ha),1,_,rfl,rfl,_,rfl,?_⟩
  rw [hl]
  refine iteD (fun h1 => ?_) fun h1 => ?_
  ·refine ⟨_,40,rfl,rfl,_,rfl,?_⟩
   refine iteNB (fun h40 => ?_) fun h40 => ?_
   ·exact ⟨40,rfl,by decide,fun z => bad H (fun g => by have:=g.2.1; simp at h40; omega) (Same.refl H)⟩
   ·have h1:1≤cs.length:=by omega
    have h40:cs.length≤40:=by simp at h40; omega
    refine ⟨_,rfl,a,rfl,⟨_,SqL.of ha⟩,for_list (xs:=ps.map V.ref) (fun i σ H2 => ∃ v,σ = [some (.ref a),v,none,none]∧H = H2∧(cs.take i).all wC = true) ⟨_,rfl,rfl,by simp⟩ (fun i σ H2 _ ⟨_,_,e,_⟩ => e▸SqL.of ha) ?_ ?_⟩
    ·
     rintro i x σ H2 hx ⟨v,rfl,rfl,hw⟩
     rw [List.getElem?_map] at hx
     obtain ⟨p,hp,rfl⟩:=Option.map_eq_some_iff.mp hx
     have hi:i < cs.length:=by rw [← C.len]; exact (List.getElem?_eq_some_iff.mp hp).1
     obtain ⟨c,hc⟩:∃ c,cs[i]? = some c:=⟨cs[i],List.getElem?_eq_getElem hi⟩
     have ht:=C.at_ i p c hp hc
     have hm:c∈cs:=List.mem_of_getElem? hc
     have hn:isN c.1 = true∧isN c.2 = true:=by have:=List.all_eq_true.mp hN c hm; simpa [nC] using this
     refine ⟨_,rfl,.ref p,.ty "tuple",_,_,true,rfl,.tup ht,.ty _,by kernel_rfl,true,rfl,iteF ?_⟩
     refine ⟨_,rfl,p,_,rfl,.inr (SqT.of ht),rfl,_,rfl,iteNS rfl ?_⟩
     refine ⟨_,rfl,p,[c.1,c.2],rfl,.inr (SqT.of ht),by simp [hn.1,hn.2],fun hw2 => ⟨_,rfl,rfl,?_⟩,fun hw2 => kE (fun g => ?_) H (Same.refl H)⟩
     ·rw [List.take_add_one,hc,List.all_append,hw]
      simpa [wC] using hw2
     ·have:=List.all_eq_true.mp g.2.2.1 c hm
      simp [wC] at this
      simp [this] at hw2
    ·
     rintro σ H2 ⟨v,rfl,rfl,hw⟩
     rw [hl,List.take_length] at hw
     refine ⟨_,rfl,_,rfl,1,rfl,a,_,rfl,SqL.of ha,fun q hq => ?_⟩
     have e1:cutV (ps.map V.ref) (some 1) none = (ps.map V.ref).drop 1:=cut1 _
     have sm:Same H (upd H q (.lst (cutV (ps.map V.ref) (some 1) none))):=same_new (Same.refl H) hq
     refine ⟨a,q,rfl,⟨_,SqL.of (sm _ _ ha)⟩,⟨_,SqL.of upd_same⟩,for_zip (xs:=ps.map V.ref) (ys:=cutV (ps.map V.ref) (some 1) none)
      (fun i σ H2 => ∃ v1 v2 v3,σ = [some (.ref a),v1,v2,v3]∧Same (upd H q (.lst (cutV (ps.map V.ref) (some 1) none))) H2∧∀ (j:Nat) (x y:V × V),j < i→cs[j]? = some x→cs[j + 1]? = some y→x.1 = y.1∨x.2 = y.2) ?_ ?_ ?_ ?_⟩
     ·exact ⟨_,_,_,rfl,Same.refl _,fun j _ _ hj => absurd hj (by omega)⟩
     ·rintro i σ H2 _ ⟨_,_,_,_,s2,_⟩
      exact ⟨SqL.of (s2 _ _ (sm _ _ ha)),SqL.of (s2 _ _ upd_same)⟩
     ·rintro i x y r σ H2 hxy hr2 ⟨v1,v2,v3,rfl,s2,hin⟩
      rw [List.getElem?_zip_eq_some,e1,List.getElem?_drop,List.getElem?_map,List.getElem?_map] at hxy
      obtain ⟨hx,hy⟩:=hxy
      obtain ⟨p1,hp1,rfl⟩:=Option.map_eq_some_iff.mp hx
      obtain ⟨p2,hp2,rfl⟩:=Option.map_eq_some_iff.mp hy
      rw [Nat.add_comm] at hp2
      have hi1:i < cs.length:=by rw [← C.len]; exact (List.getElem?_eq_some_iff.mp hp1).1
      have hi2:i + 1 < cs.length:=by rw [← C.len]; exact (List.getElem?_eq_some_iff.mp hp2).1
      obtain ⟨c1,hc1⟩:∃ c,cs[i]? = some c:=⟨cs[i],List.getElem?_eq_getElem hi1⟩
      obtain ⟨c2,hc2⟩:∃ c,cs[i + 1]? = some c:=⟨cs[i + 1],List.getElem?_eq_getElem hi2⟩
      have s3:Same H (upd H2 r (.tup [.ref p1,.ref p2])):=same_new (Same.trans sm s2) hr2
      have t1:=s3 _ _ (C.at_ i p1 c1 hp1 hc1)
      have t2:=s3 _ _ (C.at_ (i + 1) p2 c2 hp2 hc2)
      have w1:isW c1.1 = true∧isW c1.2 = true:=by have:=List.all_eq_true.mp hw c1 (List.mem_of_getElem? hc1); simpa [wC] using this
      have w2:isW c2.1 = true∧isW c2.2 = true:=by have:=List.all_eq_true.mp hw c2 (List.mem_of_getElem? hc2); simpa [wC] using this
      refine ⟨r,_,rfl,SqT.of upd_same,rfl,_,_,rfl,_,_,rfl,rfl,?_⟩
      have s4:Same (upd H q (.lst (cutV (ps.map V.ref) (some 1) none))) (upd H2 r (.tup [.ref p1,.ref p2])):=same_new s2 hr2
      have go:(c1.1 = c2.1∨c1.2 = c2.2)→∃ u1 u2 u3,[some (V.ref a),v1,some (.ref p1),some (.ref p2)] = [some (.ref a),u1,u2,u3]∧Same (upd H q (.lst (cutV (ps.map V.ref) (some 1) none))) (upd H2 r (.tup [.ref p1,.ref p2])) ∧
        ∀ (j:Nat) (x y:V × V),j < i + 1→cs[j]? = some x→cs[j + 1]? = some y→x.1 = y.1∨x.2 = y.2:=fun g => ⟨v1,_,_,rfl,s4,fun j x y hj hx' hy' => by
       by_cases h:j = i
       ·subst h
        rw [hc1] at hx'; rw [hc2] at hy'
        cases hx'; cases hy'
        exact g
       ·exact hin j x y (by omega) hx' hy'⟩
      refine ⟨_,rfl,p1,_,0,c1.1,rfl,rfl,SqT.of t1,rfl,_,rfl,p2,_,0,c2.1,rfl,rfl,SqT.of t2,rfl,isW_scal w1.1 w2.1,_,rfl,?_⟩
      refine iteNB (fun d1 => ?_) fun d1 => iteF (go (.inl (of_decide_eq_true d1)))
      refine ⟨_,rfl,p1,_,1,c1.2,rfl,rfl,SqT.of t1,rfl,_,rfl,p2,_,1,c2.2,rfl,rfl,SqT.of t2,rfl,isW_scal w1.2 w2.2,_,rfl,?_⟩
      refine iteNB (fun d2 => ⟨by show 1≤sizeLine; decide,kE (fun g => ?_) _ s3⟩) fun d2 => go (.inr (of_decide_eq_true d2))
      rcases g.2.2.2 i c1 c2 hc1 hc2 with z | z
      ·exact absurd (decide_eq_true z) (by rw [d1]; decide)
      ·exact absurd (decide_eq_true z) (by rw [d2]; decide)
     ·rintro σ H2 ⟨v1,v2,v3,rfl,s2,hin⟩
      refine kQ ⟨h1,h40,hw,fun i x y hx hy => hin i x y ?_ hx hy⟩ H2 (Same.trans sm s2)
      have:=(List.getElem?_eq_some_iff.mp hy).1
      rw [e1,List.length_zip,List.length_drop,hl]
      omega
  ·exact ⟨_,rfl,iteT ⟨40,rfl,by decide,fun z => bad H (fun g => by have:=g.1; simp at h1; omega) (Same.refl H)⟩⟩
end
end K03
namespace K03
open PySem L2 Wd
def But (o:Addr) (H H':Hp):Prop:=∀ b u,b≠o→H b = some u→H' b = some u
def fB (x y w h:V):List (Str × V):=[("x",x),("y",y),("wide",w),("high",h)]
def fF (x y w h k:V):List (Str × V):=[("x",x),("y",y),("wide",w),("high",h),("thick",k)]
def fL (c w:V):List (Str × V):=[("corners",c),("width",w)]
theorem fB_put (x y w h:V):putF "high" h (putF "wide" w (putF "y" y (putF "x" x []))) = fB x y w h:=by kernel_rfl
theorem fF_put (x y w h k:V):putF "thick" k (putF "high" h (putF "wide" w (putF "y" y (putF "x" x [])))) = fF x y w h k:=by kernel_rfl
theorem fL_put (c w:V):putF "width" w (putF "corners" c []) = fL c w:=by kernel_rfl
section
variable {P:Program} {w:World} {K:PySem.W.Frag} {mg:Str→Option Value} {base:Heap} {t:Adr}
def spBlock (C NS:Addr):Sp:=fun vs H Q E => ∃ o dx x y wd hg,vs = [.ref o,x,y,wd,hg]∧H o = some (.ins C dx [])∧[x,y,wd,hg].all isN = true ∧
 ([x,y].all isW = true→[wd,hg].all ge1 = true→∀ H',But o H H'→H' o = some (.ins C dx (fB x y wd hg))→Q .non H')∧(¬ ([x,y].all isW = true∧[wd,hg].all ge1 = true)→∀ H',Same H H'→E (.ref NS) none H')
theorem ok_Block_init (T:Txt K mg t):GoodC P w K mg base 4 "Block" t.c_Block ["self","x","y","wide","high"] (spBlock t.c_Block t.c_NoShape):=by
 obtain ⟨fd,F,b⟩:=T.F_Block_init
 have G_need_whole:=ok_need_whole (P:=P) (w:=w) (base:=base) T
 have G_need_from_one:=ok_need_from_one (P:=P) (w:=w) (base:=base) T
 refine ⟨_,fd,T.K_Block,F.okX sc_Block_init (fun vs H Q E h => ?_) (fun cdv A outer s H vs Q E hr h => ?_),b,T.g_Block⟩
 ·obtain ⟨o,dx,x,y,wd,hg,rfl,_⟩:=h
  rfl
 ·obtain ⟨o,dx,x,y,wd,hg,rfl,ho,hN,kQ,kE⟩:=h
  simp only [List.all_cons,List.all_nil,Bool.and_true,Bool.and_eq_true] at hN
  refine ⟨_,(pss_cons (ps_expr (pe_callG G_need_whole (hr.mono (by decide)) passes_of (by rfl) (pa_cons (pe_lst (pa_cons (pv 1) (pa_cons (pv 2) pa_nil))) pa_nil)))
   (pss_cons (ps_expr (pe_callG G_need_from_one (hr.mono (by decide)) passes_of (by rfl) (pa_cons (pe_lst (pa_cons (pv 3) (pa_cons (pv 4) pa_nil))) pa_nil)))
   (pss_cons (ps_fld (pv 0) (pv 1) rfl)
   (pss_cons (ps_fld (pv 0) (pv 2) rfl)
   (pss_cons (ps_fld (pv 0) (pv 3) rfl)
   (pss_one (ps_fld (pv 0) (pv 4) rfl))))))),?_⟩
  refine ⟨_,rfl,_,rfl,(by show 2≤sizeLine; decide),fun l hl => ⟨l,[x,y],rfl,.inl (SqL.of upd_same),by simp [hN],fun hw => ?_,fun hw => kE (fun g => by rw [g.1] at hw; cases hw) _ (same_new (Same.refl H) hl)⟩⟩
  refine ⟨_,rfl,_,rfl,(by show 2≤sizeLine; decide),fun l2 hl2 => ⟨l2,[wd,hg],rfl,SqL.of upd_same,by simp,by simp [hN],fun hw2 => ?_,fun hw2 => kE (fun g => by rw [g.2] at hw2; cases hw2) _ (same_new (same_new (Same.refl H) hl) hl2)⟩⟩
  have s2:Same H (upd (upd H l (.lst [x,y])) l2 (.lst [wd,hg])):=same_new (same_new (Same.refl H) hl) hl2
  refine ⟨_,rfl,_,rfl,o,_,dx,_,rfl,s2 _ _ ho,T.cl_Block,T.na_Block_x,(by decide),?_⟩
  refine ⟨_,rfl,_,rfl,o,_,dx,_,rfl,upd_same,T.cl_Block,T.na_Block_y,Nat.le_of_ble_eq_true (by kernel_rfl),?_⟩
  refine ⟨_,rfl,_,rfl,o,_,dx,_,rfl,upd_same,T.cl_Block,T.na_Block_wide,Nat.le_of_ble_eq_true (by kernel_rfl),?_⟩
  refine ⟨_,rfl,_,rfl,o,_,dx,_,rfl,upd_same,T.cl_Block,T.na_Block_high,Nat.le_of_ble_eq_true (by kernel_rfl),?_⟩
  refine kQ hw hw2 _ (fun c u hc e => ?_) ?_
  ·rw [upd_ne hc,upd_ne hc,upd_ne hc,upd_ne hc]; exact s2 _ _ e
  ·rw [upd_same,fB_put]
def spFrame (C NS:Addr):Sp:=fun vs H Q E => ∃ o dx x y wd hg k,vs = [.ref o,x,y,wd,hg,k]∧H o = some (.ins C dx [])∧[x,y,wd,hg,k].all isN = true ∧
 ([x,y].all isW = true→[wd,hg,k].all ge1 = true→∀ H',But o H H'→H' o = some (.ins C dx (fF x y wd hg k))→Q .non H')∧(¬ ([x,y].all isW = true∧[wd,hg,k].all ge1 = true)→∀ H',Same H H'→E (.ref NS) none H')
theorem ok_Frame_init (T:Txt K mg t):GoodC P w K mg base 4 "Frame" t.c_Frame ["self","x","y","wide","high","thick"] (spFrame t.c_Frame t.c_NoShape):=by
 obtain ⟨fd,F,b⟩:=T.F_Frame_init
 have G_need_whole:=ok_need_whole (P:=P) (w:=w) (base:=base) T
 have G_need_from_one:=ok_need_from_one (P:=P) (w:=w) (base:=base) T
 refine ⟨_,fd,T.K_Frame,F.okX sc_Frame_init (fun vs H Q E h => ?_) (fun cdv A outer s H vs Q E hr h => ?_),b,T.g_Frame⟩
 ·obtain ⟨o,dx,x,y,wd,hg,k,rfl,_⟩:=h
  rfl
 ·obtain ⟨o,dx,x,y,wd,hg,k,rfl,ho,hN,kQ,kE⟩:=h
  simp only [List.all_cons,List.all_nil,Bool.and_true,Bool.and_eq_true] at hN
  refine ⟨_,(pss_cons (ps_expr (pe_callG G_need_whole (hr.mono (by decide)) passes_of (by rfl) (pa_cons (pe_lst (pa_cons (pv 1) (pa_cons (pv 2) pa_nil))) pa_nil)))
   (pss_cons (ps_expr (pe_callG G_need_from_one (hr.mono (by decide)) passes_of (by rfl) (pa_cons (pe_lst (pa_cons (pv 3) (pa_cons (pv 4) (pa_cons (pv 5) pa_nil)))) pa_nil)))
   (pss_cons (ps_fld (pv 0) (pv 1) rfl)
   (pss_cons (ps_fld (pv 0) (pv 2) rfl)
   (pss_cons (ps_fld (pv 0) (pv 3) rfl)
   (pss_cons (ps_fld (pv 0) (pv 4) rfl)
   (pss_one (ps_fld (pv 0) (pv 5) rfl)))))))),?_⟩
  refine ⟨_,rfl,_,rfl,(by show 2≤sizeLine; decide),fun l hl => ⟨l,[x,y],rfl,.inl (SqL.of upd_same),by simp [hN],fun hw => ?_,fun hw => kE (fun g => by rw [g.1] at hw; cases hw) _ (same_new (Same.refl H) hl)⟩⟩
  refine ⟨_,rfl,_,rfl,_,rfl,(by show 3≤sizeLine; decide),fun l2 hl2 => ⟨l2,[wd,hg,k],rfl,SqL.of upd_same,by simp,by simp [hN],fun hw2 => ?_,fun hw2 => kE (fun g => by rw [g.2] at hw2; cases hw2) _ (same_new (same_new (Same.refl H) hl) hl2)⟩⟩
  have s2:Same H (upd (upd H l (.lst [x,y])) l2 (.lst [wd,hg,k])):=same_new (same_new (Same.refl H) hl) hl2
  refine ⟨_,rfl,_,rfl,o,_,dx,_,rfl,s2 _ _ ho,T.cl_Frame,T.na_Frame_x,(by decide),?_⟩
  refine ⟨_,rfl,_,rfl,o,_,dx,_,rfl,upd_same,T.cl_Frame,T.na_Frame_y,Nat.le_of_ble_eq_true (by kernel_rfl),?_⟩
  refine ⟨_,rfl,_,rfl,o,_,dx,_,rfl,upd_same,T.cl_Frame,T.na_Frame_wide,Nat.le_of_ble_eq_true (by kernel_rfl),?_⟩
  refine ⟨_,rfl,_,rfl,o,_,dx,_,rfl,upd_same,T.cl_Frame,T.na_Frame_high,Nat.le_of_ble_eq_true (by kernel_rfl),?_⟩
  refine ⟨_,rfl,_,rfl,o,_,dx,_,rfl,upd_same,T.cl_Frame,T.na_Frame_thick,Nat.le_of_ble_eq_true (by kernel_rfl),?_⟩
  refine kQ hw hw2 _ (fun c u hc e => ?_) ?_
  ·rw [upd_ne hc,upd_ne hc,upd_ne hc,upd_ne hc,upd_ne hc]; exact s2 _ _ e
  ·rw [upd_same,fF_put]
def spTell (K:PySem.W.Frag):Sp:=fun vs H Q _ => ∃ (wd:Str) (a:Addr) (ns:List Int),vs = [.str wd,.ref a]∧wd.length≤100∧SqL K H a (ns.map V.int)∧ns.length≤2000∧(∀ n∈ns,Lg n)∧∀ H',Same H H'→Q (.str (Txt.join " " (wd :: ns.map tx))) H'
theorem ok_tell_row (T:Txt K mg t):GoodF P w K mg base 1 "tell_row" ["word","numbers"] (spTell K):=by
 obtain ⟨fd,F,b⟩:=T.F_tell_row
 refine ⟨_,fd,F.okX sc_tell_row (fun vs H Q E h => ?_) (fun cdv A outer s H vs Q E hr h => ?_),b,F.kp,T.g_tell_row⟩
 ·obtain ⟨wd,a,ns,rfl,_⟩:=h
  rfl
 ·obtain ⟨wd,a,ns,rfl,hwd,hq,hl,hlog,q⟩:=h
  refine ⟨_,(pss_one (ps_ret (pe_bm PySem.F.plainAttrs_str PySem.F.slot_str_join PySem.F.type_str_join mt_join pe_str (pa_cons (pe_op op_cat (pe_lst (pa_cons (pv 0) pa_nil)) (pe_comp (own:=["number"]) (cs_nil (N:=["word","numbers"]) rfl (by rfl) (by decide +kernel) (by decide +kernel) (by decide +kernel)) (pi_list (pv 1)) (fun _ _ _ _ _ => pg_name (i:=2) (by show (["word","numbers","number"]:List Str).Nodup; decide +kernel) rfl (Or.inl rfl)) (fun _ _ _ _ _ => pf_nil) (fun _ _ _ _ _ => (pe_callTy call_str_int (by rfl) T.n_str b_str (pa_cons (pv 2) pa_nil))))) pa_nil)))),?_⟩
  refine ⟨rfl,_,rfl,(by show 1≤sizeLine; decide),fun l hl1 => ?_⟩
  have s1:Same H (upd H l (.lst [.str wd])):=same_new (Same.refl H) hl1
  refine ⟨_,rfl,a,rfl,⟨_,s1.seq hq⟩,comp_pure (xs:=ns.map V.int) (fun _ => true) (fun v => match v with | .int n => .str (tx n) | v => v) (s1.seq hq) (by rw [List.length_map]; exact Nat.le_trans hl (by decide)) ?_ fun D hD => ?_⟩
  ·rintro x hx H' Qy Qn _ hy _
   obtain ⟨n,hn,rfl⟩:=List.mem_map.mp hx
   exact ⟨⟨_,rfl,rfl⟩,iteT ⟨_,rfl,n,rfl,hlog n hn,hy rfl⟩⟩
  ·have e:((ns.map V.int).filter fun _ => true).map (fun v => match v with | .int n => V.str (tx n) | v => v) = (ns.map tx).map V.str:=by
    rw [List.filter_eq_self.mpr (fun _ _ => rfl),List.map_map,List.map_map]; rfl
   rw [e]
   refine ⟨l,D,[.str wd],(ns.map tx).map V.str,rfl,rfl,?_,upd_same,?_,fun p hp => ?_⟩
   ·rw [upd_ne (ne_of_none (upd_same (H:=H) (a:=l)) hD)]; exact upd_same
   ·simp only [List.length_map,List.length_cons,List.length_nil]
    exact Nat.le_trans (by omega) (show 2001≤sizeLine by decide)
   ·refine ⟨" ",p,wd :: ns.map tx,rfl,rfl,SqL.of upd_same,?_,q _ (same_new (same_new s1 hD) hp)⟩
    have hs:((ns.map tx).map (·.length)).sum≤1921 * ns.length:=by
     clear hq hl q s1 hD hp e
     induction ns with
     | nil => simp
     | cons n r ih =>
      have h1:=PyProof.Rows.int_text_len_1921 (hlog n (List.mem_cons_self ..))
      have h2:=ih fun m hm => hlog m (List.mem_cons_of_mem _ hm)
      simp only [List.map_cons,List.sum_cons,List.length_cons]
      show (tx n).length + _≤_
      unfold tx at h1 ⊢
      unfold tx at h2
      omega
    simp only [List.map_cons,List.sum_cons,List.length_cons,List.length_map]
    have e1:(" ":Str).length = 1:=by decide +kernel
    rw [e1]
    omega
end
end K03
namespace K03
open PySem L2 Wd
def pv2 (q:Int × Int):V × V:=(.int q.1,.int q.2)
def ok13 (v:V):Prop:=v = .int 1∨v = .int 3
theorem in13 (n:Int):inV (.int n) [.int 1,.int 3] = true↔ok13 (.int n):=by
 unfold inV ok13
 simp only [List.any_cons,List.any_nil,Bool.or_false,Bool.or_eq_true,V.int.injEq]
 constructor
 ·rintro (h | h)
  ·exact .inl (of_decide_eq_true h).symm
  ·exact .inr (of_decide_eq_true h).symm
 ·rintro (rfl | rfl)
  ·exact .inl (by decide)
  ·exact .inr (by decide)
section
variable {P:Program} {w:World} {K:PySem.W.Frag} {mg:Str→Option Value} {base:Heap} {t:Adr}
def spLine (K:PySem.W.Frag) (C NS:Addr):Sp:=fun vs H Q E => ∃ (o:Addr) (dx:Addr) (a:Addr) (ps:List Addr) (cs:List (V × V)) (wd:V),vs = [.ref o,.ref a,wd]∧H o = some (.ins C dx [])∧H a = some (.lst (ps.map V.ref))∧Corners K H ps cs∧cs.all nC = true∧cs.length≤200000∧isN wd = true ∧
 (GoodCs cs→ok13 wd→∀ p H',But o H H'→H' p = some (.tup (ps.map V.ref))→H' o = some (.ins C dx (fL (.ref p) wd))→Q .non H')∧(¬ (GoodCs cs∧ok13 wd)→∀ H',Same H H'→E (.ref NS) none H')
theorem ok_Line_init (T:Txt K mg t):GoodC P w K mg base 4 "Line" t.c_Line ["self","corners","width"] (spLine K t.c_Line t.c_NoShape):=by
 obtain ⟨fd,F,b⟩:=T.F_Line_init
 have G_need_corners:=ok_need_corners (P:=P) (w:=w) (base:=base) T
 have G_is_whole:=ok_is_whole (P:=P) (w:=w) (base:=base) T
 refine ⟨_,fd,T.K_Line,F.okX sc_Line_init (fun vs H Q E h => ?_) (fun cdv A outer s H vs Q E hr h => ?_),b,T.g_Line⟩
 ·obtain ⟨o,dx,a,ps,cs,wd,rfl,_⟩:=h
  rfl
 ·obtain ⟨o,dx,a,ps,cs,wd,rfl,ho,ha,C,hN,h100,hwd,kQ,kE⟩:=h
  refine ⟨_,(pss_cons (ps_expr (pe_callG G_need_corners (hr.mono (by decide)) passes_of (by rfl) (pa_cons (pv 1) pa_nil)))
   (pss_cons (ps_if (pw_or (pt_not (pt_val (pe_callG G_is_whole (hr.mono (by decide)) passes_of (by rfl) (pa_cons (pv 2) pa_nil)))) (pw_or1 (pt_cmpR op_notIn_seq (pv 2) (pe_glob (v:=.ref t.a_WIDTHS) (by rfl) T.g_WIDTHS rfl) (by with_unfolding_all rfl)))).pt (pss_one (ps_raise throws_of rfl T.e_NoShape rfl (pa_cons pe_str pa_nil))) pss_nil)
   (pss_cons (ps_fld (pv 0) (pe_callTy call_tuple_of (by rfl) T.n_tuple b_tuple (pa_cons (pv 1) pa_nil)) rfl)
   (pss_one (ps_fld (pv 0) (pv 2) rfl))))),?_⟩
  refine ⟨_,rfl,a,ps,cs,rfl,ha,C,hN,h100,fun g H1 s1 => ?_,fun g H1 s1 => kE (fun z => g z.1) H1 s1⟩
  refine ⟨_,rfl,wd,rfl,hwd,_,rfl,iteNB (fun hf => ⟨by show 1≤sizeLine; decide,kE (fun z => ?_) H1 s1⟩) fun ht => ?_⟩
  ·rcases z.2 with rfl | rfl <;> cases hf
  ·cases wd with
   | int n =>
    refine ⟨_,rfl,t.a_WIDTHS,[.int 1,.int 3],rfl,.inr (T.q_WIDTHS _),rfl,rfl,_,rfl,iteNB (fun hf => ⟨by show 1≤sizeLine; decide,kE (fun z => ?_) H1 s1⟩) fun hi => ?_⟩
    ·rw [(in13 n).mpr z.2] at hf; cases hf
    ·have h13:ok13 (.int n):=(in13 n).mp hi
     refine ⟨_,rfl,a,_,rfl,.inl ⟨SqL.of (s1 _ _ ha),fun p hp => ?_⟩⟩
     have s2:Same H (upd H1 p (.tup (ps.map V.ref))):=same_new s1 hp
     have nop:p≠o:=fun z => by rw [z,s1 _ _ ho] at hp; cases hp
     refine ⟨_,rfl,o,_,dx,_,rfl,s2 _ _ ho,T.cl_Line,T.na_Line_corners,(by decide),?_⟩
     refine ⟨_,rfl,_,rfl,o,_,dx,_,rfl,upd_same,T.cl_Line,T.na_Line_width,Nat.le_of_ble_eq_true (by kernel_rfl),?_⟩
     refine kQ g h13 p _ (fun c u hc e => ?_) ?_ ?_
     ·rw [upd_ne hc,upd_ne hc]; exact s2 _ _ e
     ·rw [upd_ne nop,upd_ne nop]; exact upd_same
     ·rw [upd_same,fL_put]
   | _ => cases ht
def spToldB (C:Addr):Sp:=fun vs H Q _ => ∃ (o dx:Addr) (x y wd hg:Int),vs = [.ref o]∧H o = some (.ins C dx (fB (.int x) (.int y) (.int wd) (.int hg)))∧Lg x∧Lg y∧Lg wd∧Lg hg∧∀ H',Same H H'→Q (.str (PySem.Txt.join " " ("block" :: [x,y,wd,hg].map tx))) H'
theorem ok_Block_told (T:Txt K mg t):GoodM P w K mg base 2 t.c_Block "told" ["self"] (spToldB t.c_Block):=by
 obtain ⟨fd,F,b⟩:=T.F_Block_told
 have G_tell_row:=ok_tell_row (P:=P) (w:=w) (base:=base) T
 refine ⟨T.cl_Block,_,fd,T.M_Block_told,F.okX sc_Block_told (fun vs H Q E h => ?_) (fun cdv A outer s H vs Q E hr h => ?_),b⟩
 ·obtain ⟨o,dx,x,y,wd,hg,rfl,_⟩:=h
  rfl
 ·obtain ⟨o,dx,x,y,wd,hg,rfl,ho,bx,by_,bw,bh,q⟩:=h
  refine ⟨_,(pss_one (ps_ret (pe_callG G_tell_row (hr.mono (by decide)) passes_of (by rfl) (pa_cons pe_str (pa_cons (pe_lst (pa_cons (pe_fld (pv 0) rfl) (pa_cons (pe_fld (pv 0) rfl) (pa_cons (pe_fld (pv 0) rfl) (pa_cons (pe_fld (pv 0) rfl) pa_nil))))) pa_nil))))),?_⟩
  refine ⟨_,rfl,o,_,dx,_,.int x,rfl,ho,T.cl_Block,T.na_Block_x,by kernel_rfl,?_⟩
  refine ⟨_,rfl,o,_,dx,_,.int y,rfl,ho,T.cl_Block,T.na_Block_y,by kernel_rfl,?_⟩
  refine ⟨_,rfl,o,_,dx,_,.int wd,rfl,ho,T.cl_Block,T.na_Block_wide,by kernel_rfl,?_⟩
  refine ⟨_,rfl,o,_,dx,_,.int hg,rfl,ho,T.cl_Block,T.na_Block_high,by kernel_rfl,(by show 4≤sizeLine; decide),fun l hl => ?_⟩
  refine ⟨"block",l,[x,y,wd,hg],rfl,by decide +kernel,SqL.of upd_same,(by show _≤2000; exact Nat.le_of_ble_eq_true rfl),fun n hn => ?_,fun H' s' => q H' (Same.trans (same_new (Same.refl H) hl) s')⟩
  simp only [List.mem_cons,List.not_mem_nil,or_false] at hn
  rcases hn with rfl | rfl | rfl | rfl
  ·exact bx
  ·exact by_
  ·exact bw
  ·exact bh
def spToldF (C:Addr):Sp:=fun vs H Q _ => ∃ (o dx:Addr) (x y wd hg k:Int),vs = [.ref o]∧H o = some (.ins C dx (fF (.int x) (.int y) (.int wd) (.int hg) (.int k)))∧Lg x∧Lg y∧Lg wd∧Lg hg∧Lg k∧∀ H',Same H H'→Q (.str (PySem.Txt.join " " ("frame" :: [x,y,wd,hg,k].map tx))) H'
theorem ok_Frame_told (T:Txt K mg t):GoodM P w K mg base 2 t.c_Frame "told" ["self"] (spToldF t.c_Frame):=by
 obtain ⟨fd,F,b⟩:=T.F_Frame_told
 have G_tell_row:=ok_tell_row (P:=P) (w:=w) (base:=base) T
 refine ⟨T.cl_Frame,_,fd,T.M_Frame_told,F.okX sc_Frame_told (fun vs H Q E h => ?_) (fun cdv A outer s H vs Q E hr h => ?_),b⟩
 ·obtain ⟨o,dx,x,y,wd,hg,k,rfl,_⟩:=h
  rfl
 ·obtain ⟨o,dx,x,y,wd,hg,k,rfl,ho,bx,by_,bw,bh,bk,q⟩:=h
  refine ⟨_,(pss_one (ps_ret (pe_callG G_tell_row (hr.mono (by decide)) passes_of (by rfl) (pa_cons pe_str (pa_cons (pe_lst (pa_cons (pe_fld (pv 0) rfl) (pa_cons (pe_fld (pv 0) rfl) (pa_cons (pe_fld (pv 0) rfl) (pa_cons (pe_fld (pv 0) rfl) (pa_cons (pe_fld (pv 0) rfl) pa_nil)))))) pa_nil))))),?_⟩
  refine ⟨_,rfl,o,_,dx,_,.int x,rfl,ho,T.cl_Frame,T.na_Frame_x,by kernel_rfl,?_⟩
  refine ⟨_,rfl,o,_,dx,_,.int y,rfl,ho,T.cl_Frame,T.na_Frame_y,by kernel_rfl,?_⟩
  refine ⟨_,rfl,o,_,dx,_,.int wd,rfl,ho,T.cl_Frame,T.na_Frame_wide,by kernel_rfl,?_⟩
  refine ⟨_,rfl,o,_,dx,_,.int hg,rfl,ho,T.cl_Frame,T.na_Frame_high,by kernel_rfl,?_⟩
  refine ⟨_,rfl,o,_,dx,_,.int k,rfl,ho,T.cl_Frame,T.na_Frame_thick,by kernel_rfl,(by show 5≤sizeLine; decide),fun l hl => ?_⟩
  refine ⟨"frame",l,[x,y,wd,hg,k],rfl,by decide +kernel,SqL.of upd_same,(by show _≤2000; exact Nat.le_of_ble_eq_true rfl),fun n hn => ?_,fun H' s' => q H' (Same.trans (same_new (Same.refl H) hl) s')⟩
  simp only [List.mem_cons,List.not_mem_nil,or_false] at hn
  rcases hn with rfl | rfl | rfl | rfl | rfl
  ·exact bx
  ·exact by_
  ·exact bw
  ·exact bh
  ·exact bk
theorem flat_take {qs:List (Int × Int)} {i:Nat} {q:Int × Int} (h:qs[i]? = some q):flat (qs.take (i + 1)) = flat (qs.take i) ++ [q.1,q.2]:=by
 rw [List.take_add_one,h]
 exact flat_snoc q _
def spToldL (K:PySem.W.Frag) (C:Addr):Sp:=fun vs H Q _ => ∃ (o dx p:Addr) (wd:Int) (ps:List Addr) (qs:List (Int × Int)),vs = [.ref o]∧H o = some (.ins C dx (fL (.ref p) (.int wd)))∧H p = some (.tup (ps.map V.ref))∧Corners K H ps (qs.map pv2)∧qs.length≤40∧Lg wd∧(∀ q∈qs,Lg q.1∧Lg q.2)∧∀ H',Same H H'→Q (.str (PySem.Txt.join " " ("line" :: (wd :: flat qs).map tx))) H'
theorem ok_Line_told (T:Txt K mg t):GoodM P w K mg base 2 t.c_Line "told" ["self"] (spToldL K t.c_Line):=by
 obtain ⟨fd,F,b⟩:=T.F_Line_told
 have G_tell_row:=ok_tell_row (P:=P) (w:=w) (base:=base) T
 refine ⟨T.cl_Line,_,fd,T.M_Line_told,F.okX sc_Line_told (fun vs H Q E h => ?_) (fun cdv A outer s H vs Q E hr h => ?_),b⟩
 ·obtain ⟨o,dx,p,wd,ps,qs,rfl,_⟩:=h
  rfl
 ·obtain ⟨o,dx,p,wd,ps,qs,rfl,ho,hp,C,h40,bw,bq,q⟩:=h
  refine ⟨_,(pss_cons (ps_set (i:=1) sc_Line_told.nd rfl (Or.inl rfl) (pe_lst (pa_cons (pe_fld (pv 0) rfl) pa_nil)))
   (pss_cons (ps_for owns_of (pi_tup (pe_fld (pv 0) rfl)) (pg_name (i:=2) sc_Line_told.nd rfl (Or.inl rfl)) (pss_one (ps_expr (pe_bm PySem.F.plainAttrs_list PySem.F.slot_list_extend PySem.F.type_list_extend mt_extT (pv 1) (pa_cons (pv 2) pa_nil)))))
   (pss_one (ps_ret (pe_callG G_tell_row (hr.mono (by decide)) passes_of (by rfl) (pa_cons pe_str (pa_cons (pv 1) pa_nil))))))),?_⟩
  refine ⟨_,rfl,o,_,dx,_,.int wd,rfl,ho,T.cl_Line,T.na_Line_width,by kernel_rfl,(by show 1≤sizeLine; decide),fun l hl => ?_⟩
  have s1:Same H (upd H l (.lst [.int wd])):=same_new (Same.refl H) hl
  refine ⟨_,rfl,o,_,dx,_,.ref p,rfl,s1 _ _ ho,T.cl_Line,T.na_Line_corners,by kernel_rfl,p,rfl,⟨_,SqT.of (s1 _ _ hp)⟩,?_⟩
  refine for_tup (xs:=ps.map V.ref) (fun i σ H2 => ∃ v,σ = [some (.ref o),some (.ref l),v]∧H2 l = some (.lst ((wd :: flat (qs.take i)).map V.int))∧Same H H2) ⟨_,rfl,upd_same,s1⟩ (fun i σ H2 _ ⟨_,_,_,e⟩ => SqT.of (e _ _ hp)) ?_ ?_
  ·rintro i x σ H2 hx ⟨v,rfl,hl2,s2⟩
   rw [List.getElem?_map] at hx
   obtain ⟨r,hr,rfl⟩:=Option.map_eq_some_iff.mp hx
   have hi:i < qs.length:=by
    have:=(List.getElem?_eq_some_iff.mp hr).1
    rw [C.len,List.length_map] at this; exact this
   have hc:qs[i]? = some qs[i]:=List.getElem?_eq_getElem hi
   have ht:=C.at_ i r (pv2 qs[i]) hr (by rw [List.getElem?_map,hc]; rfl)
   have hfl:=flat_length (qs.take i)
   rw [List.length_take] at hfl
   refine ⟨_,rfl,.inl ⟨rfl,_,SqL.of hl2⟩,_,rfl,l,r,_,_,rfl,rfl,hl2,SqT.of (s2 _ _ ht),?_,?_⟩
   ·rw [List.length_map,List.length_cons,hfl]
    exact Nat.le_trans (show _≤200 by show 2 * min i qs.length + 1 + 2≤200; omega) (by decide)
   ·refine ⟨_,rfl,?_,fun c u e => ?_⟩
    ·rw [upd_same,flat_take hc]; simp [pv2]
    ·rw [upd_ne (ne_of_none e hl)]; exact s2 _ _ e
  ·rintro σ H2 ⟨v,rfl,hl2,s2⟩
   have e:qs.take (ps.map V.ref).length = qs:=by rw [List.length_map,C.len,List.length_map,List.take_length]
   rw [e] at hl2
   refine ⟨_,rfl,"line",l,wd :: flat qs,rfl,by decide +kernel,SqL.of hl2,?_,fun n hn => ?_,fun H' s' => q H' (Same.trans s2 s')⟩
   ·rw [List.length_cons,flat_length]; omega
   ·rcases List.mem_cons.mp hn with rfl | hn
    ·exact bw
    ·obtain ⟨q,hq,rfl | rfl⟩:=flat_mem hn
     ·exact (bq q hq).1
     ·exact (bq q hq).2
end
end K03
namespace K03
open PySem L2 Wd
theorem num_f1 {l:List Nat} (h:¬ (1≤(figs l).length∧(figs l).length≤40)):isNumL l = false:=by
 refine Bool.eq_false_iff.mpr fun z => h ?_
 have:=numOk z
 exact ⟨this.one,this.few⟩
theorem num_f2 {l:List Nat} (h:(figs l).all isDig = false):isNumL l = false:=by
 unfold isNumL; rw [h]; simp
theorem num_f3 {l:List Nat} (h:(figs l).head? = some 48) (h2:l≠[48]):isNumL l = false:=Bool.eq_false_iff.mpr fun z => h2 ((numOk z).lead h)
theorem num_t {l:List Nat} (h1:1≤(figs l).length) (h2:(figs l).length≤40) (h3:(figs l).all isDig = true) (h4:(figs l).head? = some 48→l = [48]):isNumL l = true:=by
 unfold isNumL
 rw [h3,decide_eq_true h1,decide_eq_true h2]
 by_cases z:(figs l).head? = some 48
 ·obtain rfl:l = [48]:=h4 z
  rfl
 ·have:((figs l).head? == some 48) = false:=by rw [beq_eq_false_iff_ne]; exact z
  rw [this]; rfl
def numV (w:Str):V:=if isNumL w.cps.toList = true then .int (numL w.cps.toList) else .non
theorem numV_t {w:Str} (h:isNumL w.cps.toList = true):numV w = .int (numL w.cps.toList):=if_pos h
theorem numV_f {w:Str} (h:isNumL w.cps.toList = false):numV w = .non:=if_neg (by rw [h]; decide)
theorem minus:("-":Str) = ⟨#[45]⟩:=by decide +kernel
theorem nought:("0":Str) = ⟨#[48]⟩:=by decide +kernel
theorem is_nought (w:Str):w = (⟨#[48]⟩:Str)↔w.cps.toList = [48]:=by
 constructor
 ·rintro rfl; rfl
 ·intro h; exact str_ext h
theorem cons_of_head {l:List Nat} {c:Nat} (h:l.head? = some c):∃ r,l = c :: r:=by
 cases l with
 | nil => cases h
 | cons a r => cases h; exact ⟨r,rfl⟩
section
variable {P:Program} {w:World} {K:PySem.W.Frag} {mg:Str→Option Value} {base:Heap} {t:Adr}
def spReadNum:Sp:=fun vs H Q _ => ∃ z:Str,vs = [.str z]∧z.length≤300000∧∀ H',Same H H'→Q (numV z) H'
theorem ok_read_number (T:Txt K mg t):GoodF P w K mg base 1 "read_number" ["word"] spReadNum:=by
 obtain ⟨fd,F,b⟩:=T.F_read_number
 refine ⟨_,fd,F.okX sc_read_number (fun vs H Q E h => ?_) (fun cdv A outer s H vs Q E hr h => ?_),b,F.kp,T.g_read_number⟩
 ·obtain ⟨z,rfl,_⟩:=h
  rfl
 ·obtain ⟨z,rfl,hz,q⟩:=h
  refine ⟨_,(pss_cons (ps_set (i:=1) sc_read_number.nd rfl (Or.inl rfl) (pe_ifExp (pt_val (pe_bm PySem.F.plainAttrs_str PySem.F.slot_str_startswith PySem.F.type_str_startswith mt_startswith (pv 0) (pa_cons pe_str pa_nil))) (pe_slice sl_str (pv 0) (po_some pe_int) po_none) (pv 0)))
   (pss_cons (ps_if (pt_not (pt_chain op_le op_le pe_int (pe_callB call_len_str (by rfl) T.n_len b_len (pa_cons (pv 1) pa_nil)) (pe_glob (v:=.int 40) (by rfl) T.g_MOST_FIGURES ⟨_,rfl⟩))) (pss_one (ps_ret pe_non)) pss_nil)
   (pss_cons (ps_if (pt_not (pt_val (pe_callB (call_all_bools rfl) (by rfl) T.n_all b_all (pa_cons (pe_comp (own:=["sign"]) (cs_nil (N:=["word","figures"]) rfl (by rfl) (by decide +kernel) (by decide +kernel) (by decide +kernel)) (pi_str (pv 1)) (fun _ _ _ _ _ => pg_name (i:=2) (by show (["word","figures","sign"]:List Str).Nodup; decide +kernel) rfl (Or.inl rfl)) (fun _ _ _ _ _ => pf_nil) (fun _ _ _ _ _ => (pe_cmpR op_in_str (pv 2) (pe_glob (v:=.str "0123456789") (by rfl) T.g_FIGURES ⟨_,rfl⟩) (by with_unfolding_all rfl)))) pa_nil)))) (pss_one (ps_ret pe_non)) pss_nil)
   (pss_cons (ps_if (pw_and (pt_val (pe_bm PySem.F.plainAttrs_str PySem.F.slot_str_startswith PySem.F.type_str_startswith mt_startswith (pv 1) (pa_cons pe_str pa_nil))) (pw_and1 (pt_cmpR op_ne (pv 0) pe_str (nomark _)))).pt (pss_one (ps_ret pe_non)) pss_nil)
   (pss_one (ps_ret (pe_callTy call_int_text (by rfl) T.n_int b_int (pa_cons (pv 0) pa_nil)))))))),?_⟩
  have h3:(300000:Nat)≤sizeLine:=by decide
  have qn:∀ H',isNumL z.cps.toList = false→Same H H'→Q .non H':=fun H' e s => numV_f e▸q H' s
  refine ⟨_,rfl,rfl,z,"-",rfl,rfl,_,rfl,?_⟩
  rw [minus,starts_one]
  refine iteD (fun hd => ?g1) fun hd => ?g2
  case' g1 =>
   obtain ⟨r,hr2⟩:=cons_of_head hd
   refine ⟨_,rfl,1,rfl,z,rfl,Nat.le_trans hz h3,?_⟩
   have hf:(Txt.slice z (some 1) none).cps.toList = figs z.cps.toList:=by rw [slice1 (by rw [hr2]; simp),hr2]; rfl
   have hs:(Txt.slice z (some 1) none).length≤300000:=Nat.le_trans (Txt.slice_le _ _ _) hz
   generalize Txt.slice z (some 1) none = fs at hf hs
  case' g2 =>
   refine ⟨_,rfl,?_⟩
   have hf:z.cps.toList = figs z.cps.toList:=(figs_pos hd).symm
   have hs:=hz
  all_goals
   have hn:=(len_list _).trans (congrArg List.length hf)
   refine ⟨_,rfl,_,rfl,Nat.le_trans hs h3,1,_,rfl,rfl,_,rfl,iteD (fun h1 => ⟨_,40,rfl,rfl,_,rfl,iteNB (fun h40 => qn H (num_f1 fun g => ?_) (Same.refl H)) fun h40 => ?_⟩) fun h1 => ⟨_,rfl,iteT (qn H (num_f1 fun g => ?_) (Same.refl H))⟩⟩
   ·simp at h40; omega
   ·have h1:1≤(figs z.cps.toList).length:=by omega
    have h40:(figs z.cps.toList).length≤40:=by simp at h40; omega
    refine ⟨_,rfl,_,rfl,comp_str (fun _ => true) (fun c => .bl (isDig c)) (Nat.le_trans hs h3) (fun c hc H' Qy Qn s' kY kN => ⟨⟨[some (.str ⟨#[c]⟩)],rfl,rfl⟩,iteT ⟨_,rfl,_,_,rfl,rfl,?_⟩⟩) fun D H1 hD s1 eD => ?_⟩
    ·rw [fig_in]; exact kY rfl H' (Same.refl H')
    ·have eD':H1 D = some (.lst (((figs z.cps.toList).map isDig).map V.bl)):=by
      rw [eD,List.filter_eq_self.mpr (fun _ _ => rfl),List.map_map]
      exact congrArg (fun l:List Nat => some (HO.lst (l.map fun c => V.bl (isDig c)))) hf
     refine ⟨D,(figs z.cps.toList).map isDig,rfl,SqL.of eD',_,rfl,iteNB (fun ha => qn H1 (num_f2 ?_) s1) fun ha => ?_⟩
     ·rw [List.all_map] at ha; exact ha
     ·have ha:(figs z.cps.toList).all isDig = true:=by rw [List.all_map] at ha; exact ha
      refine ⟨_,rfl,rfl,_,_,rfl,rfl,_,rfl,?_⟩
      rw [nought,starts_one]
      have fin:((figs z.cps.toList).head? = some 48→z.cps.toList = [48])→∃ z' n,[V.str z] = [V.str z']∧intText? z' = some n∧z'.length≤640∧Q (.int n) H1:=fun h4 => by
       have num:=num_t h1 h40 ha h4
       have ok:=numOk num
       refine ⟨z,_,rfl,int_of ok,?_,numV_t num▸q H1 s1⟩
       have:=ok.len
       rw [len_list]; omega
      refine iteD (fun h0 => ⟨_,rfl,rfl,_,rfl,iteNB (fun hn => qn H1 (num_f3 ?_ fun e => ?_) s1) fun he => ⟨_,rfl,fin fun _ => ?_⟩⟩) fun h0 => iteF ⟨_,rfl,fin fun g => absurd ?_ h0⟩
      ·exact (congrArg List.head? hf).symm.trans h0
      ·exact absurd (congrArg V.str (is_nought z |>.mpr e)) (of_decide_eq_false hn)
      ·exact (is_nought z).mp (V.str.inj (of_decide_eq_true he))
      ·exact (congrArg List.head? hf).trans g
   ·omega
end
end K03
namespace K03
open PySem L2 Wd
theorem in_non (ws:List Str):inV .non (ws.map numV) = !ws.all (fun w => isNumL w.cps.toList):=by
 unfold inV
 induction ws with
 | nil => rfl
 | cons a r ih =>
  rw [List.map_cons,List.any_cons,List.all_cons,ih,Bool.not_and]
  congr 1
  cases h:isNumL a.cps.toList with
  | true => rw [numV_t h]; rfl
  | false => rw [numV_f h]; rfl
theorem flat_num (ws:List Str):(ws.map numV).all flatV = true:=by
 rw [List.all_map,List.all_eq_true]
 intro a _
 show flatV (numV a) = true
 unfold numV
 split <;> rfl
theorem all_num {ws:List Str} (h:ws.all (fun w => isNumL w.cps.toList) = true):ws.map numV = ws.map fun w => V.int (numL w.cps.toList) :=
 List.map_congr_left fun a ha => numV_t (List.all_eq_true.mp h a ha)
def vNum:V→V | .str w => numV w | v => v
section
variable {P:Program} {w:World} {K:PySem.W.Frag} {mg:Str→Option Value} {base:Heap} {t:Adr}
def spReadRow:Sp:=fun vs H Q _ => ∃ z w0 ws,vs = [.str z]∧z.length≤300000∧Txt.split z " " = w0 :: ws∧(ws.all (fun w => isNumL w.cps.toList) = false→∀ H',Same H H'→Q .non H') ∧
 (ws.all (fun w => isNumL w.cps.toList) = true→∀ p l H',Same H H'→H' p = some (.tup [.str w0,.ref l])→H' l = some (.lst (ws.map fun w => .int (numL w.cps.toList)))→Q (.ref p) H')
theorem ok_read_row (T:Txt K mg t):GoodF P w K mg base 2 "read_row" ["text"] spReadRow:=by
 obtain ⟨fd,F,b⟩:=T.F_read_row
 have G_read_number:=ok_read_number (P:=P) (w:=w) (base:=base) T
 refine ⟨_,fd,F.okX sc_read_row (fun vs H Q E h => ?_) (fun cdv A outer s H vs Q E hr h => ?_),b,F.kp,T.g_read_row⟩
 ·obtain ⟨z,w0,ws,rfl,_⟩:=h
  rfl
 ·obtain ⟨z,w0,ws,rfl,hz,hsp,qn,qy⟩:=h
  refine ⟨_,(pss_cons (ps_if (pt_not (pt_val (pe_callB call_isi (by rfl) T.n_isinstance b_isinstance (pa_cons (pv 0) (pa_cons (pe_bltn (v:=.ty "str") (by rfl) T.n_str b_str rfl) pa_nil))))) (pss_one (ps_ret pe_non)) pss_nil)
   (pss_cons (ps_set (i:=1) sc_read_row.nd rfl (Or.inl rfl) (pe_bm PySem.F.plainAttrs_str PySem.F.slot_str_split PySem.F.type_str_split mt_split (pv 0) (pa_cons pe_str pa_nil)))
   (pss_cons (ps_setcomp (i:=2) sc_read_row.nd rfl (Or.inl rfl) (own:=["word"]) (cs_nil (N:=["text","words","numbers"]) rfl (by rfl) (by decide +kernel) (by decide +kernel) (by decide +kernel)) (pi_list (pe_slice sl_list (pv 1) (po_some pe_int) po_none)) (fun _ _ _ _ _ => pg_name (i:=3) (by show (["text","words","numbers","word"]:List Str).Nodup; decide +kernel) rfl (Or.inl rfl)) (fun _ _ _ _ _ => pf_nil) (fun _ _ _ _ _ => (pe_callG G_read_number (hr.mono (by decide)) passX0 (by rfl) (pa_cons (pv 3) pa_nil))))
   (pss_cons (ps_if (pt_cmpR op_in_seq pe_non (pv 2) (by with_unfolding_all rfl)) (pss_one (ps_ret pe_non)) pss_nil)
   (pss_one (ps_ret (pe_tup (pa_cons (pe_ix ix_list (pv 1) pe_int (fun _ _ => rfl)) (pa_cons (pv 2) pa_nil))))))))),?_⟩
  have hw:(w0 :: ws).length≤300002:=by rw [← hsp]; exact Nat.le_trans (PyProof.Rows.split_le z " ") (by omega)
  have hz1:z.length≤sizeLine:=Nat.le_trans hz (by decide)
  have hw1:(w0 :: ws).length≤sizeLine:=Nat.le_trans hw (by decide)
  have hshort:∀ a∈ws,a.length≤300000:=fun a ha => Nat.le_trans (PyProof.Rows.part_short (y:=" ") (hsp▸List.mem_cons_of_mem _ ha)) hz
  refine ⟨_,rfl,_,_,_,_,_,rfl,.str z,.ty _,rfl,_,rfl,iteF ?_⟩
  refine ⟨_,rfl,rfl,z," ",rfl,rfl,by decide,hz1,by rw [hsp]; exact hw1,fun p hp => ?_⟩
  rw [hsp]
  refine ⟨_,rfl,_,rfl,p,_,rfl,SqL.of upd_same,fun q hq => ?_⟩
  rw [cut1]
  have sp0:Same H (upd H p (.lst ((w0 :: ws).map V.str))):=same_new (Same.refl H) hp
  have sq0:=same_new (o:=.lst (((w0 :: ws).map V.str).drop 1)) sp0 hq
  have npq:p≠q:=fun z => by rw [z,upd_same] at hq; cases hq
  refine ⟨q,rfl,⟨_,SqL.of upd_same⟩,comp_grow (xs:=ws.map V.str) (fun _ => true) vNum (SqL.of upd_same) (by rw [List.length_map]; exact Nat.le_trans (Nat.le_succ _) hw1) (fun x hx H' Qy Qn s' kY kN => ?_) fun D H1 hD s1 eD => ?_⟩
  ·obtain ⟨a,ha,rfl⟩:=List.mem_map.mp hx
   exact ⟨⟨[some (.str a)],rfl,rfl⟩,iteT ⟨_,rfl,a,rfl,hshort a ha,fun H'' s'' => kY rfl H'' s''⟩⟩
  ·have eN:H1 D = some (.lst (ws.map numV)):=by
    rw [eD,List.filter_eq_self.mpr (fun _ _ => rfl),List.map_map]; rfl
   have s2:Same H H1:=Same.trans sq0 s1
   refine ⟨_,rfl,D,_,rfl,.inl (SqL.of eN),rfl,flat_num ws,_,rfl,?_⟩
   show (if inV .non (ws.map numV) = true then _ else _)
   rw [in_non]
   refine iteNB (fun hf => qn hf H1 s2) fun ht => ?_
   have ep:H1 p = some (.lst ((w0 :: ws).map V.str)):=s1 _ _ (by rw [upd_ne npq]; exact upd_same)
   refine ⟨_,rfl,p,_,0,.str w0,rfl,rfl,SqL.of ep,atI_nat (j:=0) rfl,_,rfl,by show 2≤sizeLine; decide,fun r hr => qy ht r D _ (same_new s2 hr) upd_same ?_⟩
   rw [upd_ne (ne_of_none eN hr),eN,all_num ht]
end
end K03
namespace K03
open PySem L2 Wd
def nsOf (ws:List Str):List Int:=ws.map fun w => numL w.cps.toList
def allN (ws:List Str):Bool:=ws.all fun w => isNumL w.cps.toList
def inlI (qs:List (Int × Int)):Prop:=∀ (i:Nat) (x y:Int × Int),qs[i]? = some x→qs[i + 1]? = some y→x.1 = y.1∨x.2 = y.2
def Sh (w0:Str) (ns:List Int):Prop :=
 (w0 = ("block":Str)∧ns.length = 4∧∀ n∈ns.drop 2,1≤n)∨(w0 = ("frame":Str)∧ns.length = 5∧∀ n∈ns.drop 2,1≤n) ∨
 (w0 = ("line":Str)∧∃ wd qs,ns = wd :: flat qs∧(wd = 1∨wd = 3)∧1≤qs.length∧qs.length≤40∧inlI qs)
theorem flat_1:∀ (cs:List (Int × Int)) (i:Nat),(flat cs)[2 * i]? = cs[i]?.map Prod.fst
 | [],i => by simp [flat]
 | p :: r,0 => rfl
 | p :: r,i + 1 => by
  show (p.1 :: p.2 :: flat r)[2 * i + 2]? = (p :: r)[i + 1]?.map Prod.fst
  rw [List.getElem?_cons_succ,List.getElem?_cons_succ,List.getElem?_cons_succ]
  exact flat_1 r i
theorem flat_2:∀ (cs:List (Int × Int)) (i:Nat),(flat cs)[2 * i + 1]? = cs[i]?.map Prod.snd
 | [],i => by simp [flat]
 | p :: r,0 => rfl
 | p :: r,i + 1 => by
  show (p.1 :: p.2 :: flat r)[2 * i + 1 + 2]? = (p :: r)[i + 1]?.map Prod.snd
  rw [List.getElem?_cons_succ,List.getElem?_cons_succ,List.getElem?_cons_succ]
  exact flat_2 r i
theorem flat_inj:∀ {a b:List (Int × Int)},flat a = flat b→a = b
 | [],[],_ => rfl
 | [],_ :: _,h => nomatch h
 | _ :: _,[],h => nomatch h
 | (x,y) :: r,(x',y') :: r',h => by
  have h1:=List.cons.inj h
  have h2:=List.cons.inj h1.2
  have e1:x = x':=h1.1
  have e2:y = y':=h2.1
  rw [e1,e2,flat_inj h2.2]
theorem pairs_of:∀ (n:Nat) (ys:List Int),ys.length = 2 * n→∃ qs:List (Int × Int),ys = flat qs∧qs.length = n
 | 0,ys,h => ⟨[],List.length_eq_zero_iff.mp (by omega),rfl⟩
 | n + 1,a :: b :: r,h => by
  obtain ⟨qs,e,hc⟩:=pairs_of n r (by simp only [List.length_cons] at h; omega)
  exact ⟨(a,b) :: qs,by rw [e]; rfl,by rw [List.length_cons,hc]⟩
 | n + 1,[a],h => by simp only [List.length_cons,List.length_nil] at h; omega
 | n + 1,[],h => by simp at h
theorem line_of {ns:List Int} (h:ns.length % 2 = 1):∃ wd qs,ns = wd :: flat qs∧ns.length = 2 * qs.length + 1:=by
 cases ns with
 | nil => simp at h
 | cons a r =>
  rw [List.length_cons] at h
  obtain ⟨qs,rfl,e⟩:=pairs_of (r.length / 2) r (by omega)
  exact ⟨a,qs,rfl,by rw [List.length_cons,flat_length]⟩
theorem at_flat {n v:Int} {qs:List (Int × Int)} {j:Nat} {i:Int} (e:i = ((j + 1:Nat):Int)) (h:(flat qs)[j]? = some v):atI ((n :: flat qs).map V.int) i = some (.int v):=by
 rw [e]; exact atI_nat (by rw [List.map_cons,List.getElem?_cons_succ,List.getElem?_map,h]; rfl)
theorem wd_bf:("block":Str)≠("frame":Str):=by decide +kernel
theorem wd_bl:("block":Str)≠("line":Str):=by decide +kernel
theorem wd_fl:("frame":Str)≠("line":Str):=by decide +kernel
theorem Sh.block {w0:Str} {ns:List Int} (e:w0 = ("block":Str)):Sh w0 ns↔ns.length = 4∧∀ n∈ns.drop 2,1≤n:=by
 subst e
 constructor
 ·rintro (h | h | h)
  ·exact h.2
  ·exact absurd h.1 wd_bf
  ·exact absurd h.1 wd_bl
 ·exact fun h => .inl ⟨rfl,h⟩
theorem Sh.frame {w0:Str} {ns:List Int} (e:w0 = ("frame":Str)):Sh w0 ns↔ns.length = 5∧∀ n∈ns.drop 2,1≤n:=by
 subst e
 constructor
 ·rintro (h | h | h)
  ·exact absurd h.1.symm wd_bf
  ·exact h.2
  ·exact absurd h.1 wd_fl
 ·exact fun h => .inr (.inl ⟨rfl,h⟩)
theorem Sh.line {w0:Str} {ns:List Int} (h1:w0≠("block":Str)) (h2:w0≠("frame":Str)):Sh w0 ns↔w0 = ("line":Str)∧∃ wd qs,ns = wd :: flat qs∧(wd = 1∨wd = 3)∧1≤qs.length∧qs.length≤40∧inlI qs:=by
 constructor
 ·rintro (h | h | h)
  ·exact absurd h.1 h1
  ·exact absurd h.1 h2
  ·exact h
 ·exact fun h => .inr (.inr h)
theorem make_same {H H1:Hp} {o dx:Addr} {i:HO} (s:Same H H1) (ho:H1 o = none) (hdx:H1 dx = none):Same H (L2.upd (L2.upd H1 dx (.own o)) o i):=fun b u e => by
 have e1:=s b u e
 rw [upd_ne (ne_of_none e1 ho),upd_ne (ne_of_none e1 hdx)]; exact e1
theorem make_but {H H1 H':Hp} {o dx:Addr} {i:HO} (s:Same H H1) (ho:H1 o = none) (hdx:H1 dx = none) (k:But o (L2.upd (L2.upd H1 dx (.own o)) o i) H'):Same H H':=fun b u e =>
 k b u (ne_of_none (s b u e) ho) (make_same s ho hdx b u e)
theorem alt_1:∀ qs:List (Int × Int),alt ((flat qs).map V.int) = qs.map fun q => V.int q.1
 | [] => rfl
 | q :: r => congrArg (V.int q.1 :: ·) (alt_1 r)
theorem alt_2:∀ qs:List (Int × Int),alt (((flat qs).map V.int).drop 1) = qs.map fun q => V.int q.2
 | [] => rfl
 | [q] => rfl
 | q :: q' :: r => congrArg (V.int q.2 :: ·) (alt_2 (q' :: r))
theorem zip_pv (qs:List (Int × Int)):(qs.map fun q => V.int q.1).zip (qs.map fun q => V.int q.2) = qs.map pv2:=by
 induction qs with
 | nil => rfl
 | cons q r ih => rw [List.map_cons,List.map_cons,List.zip_cons_cons,ih]; rfl
theorem pv_all (qs:List (Int × Int)):(qs.map pv2).all wC = true:=by
 rw [List.all_map,List.all_eq_true]; intro _ _; rfl
theorem pv_nC (qs:List (Int × Int)):(qs.map pv2).all nC = true:=by
 rw [List.all_map,List.all_eq_true]; intro _ _; rfl
theorem pv_inl {qs:List (Int × Int)}:inlC (qs.map pv2)↔inlI qs:=by
 constructor
 ·intro h i x y hx hy
  rcases h i (pv2 x) (pv2 y) (by rw [List.getElem?_map,hx]; rfl) (by rw [List.getElem?_map,hy]; rfl) with e | e
  ·exact .inl (V.int.inj e)
  ·exact .inr (V.int.inj e)
 ·intro h i x y hx hy
  rw [List.getElem?_map] at hx hy
  obtain ⟨a,ha,rfl⟩:=Option.map_eq_some_iff.mp hx
  obtain ⟨b,hb,rfl⟩:=Option.map_eq_some_iff.mp hy
  exact (h i a b ha hb).elim (fun e => .inl (congrArg V.int e)) fun e => .inr (congrArg V.int e)
theorem pv_good {wd:Int} {qs:List (Int × Int)}:GoodCs (qs.map pv2)∧ok13 (.int wd)↔(wd = 1∨wd = 3)∧1≤qs.length∧qs.length≤40∧inlI qs:=by
 unfold GoodCs
 rw [List.length_map,pv_inl]
 constructor
 ·rintro ⟨⟨h1,h2,_,h4⟩,h5⟩
  exact ⟨h5.elim (fun e => .inl (V.int.inj e)) fun e => .inr (V.int.inj e),h1,h2,h4⟩
 ·rintro ⟨h5,h1,h2,h4⟩
  exact ⟨⟨h1,h2,pv_all qs,h4⟩,h5.elim (fun e => .inl (congrArg V.int e)) fun e => .inr (congrArg V.int e)⟩
theorem ge_all (ms:List Int):(ms.map V.int).all ge1 = true↔∀ n∈ms,1≤n:=by
 rw [List.all_map,List.all_eq_true]
 constructor
 ·intro h n hn; exact of_decide_eq_true (h n hn)
 ·intro h n hn; exact decide_eq_true (h n hn)
theorem of_4 {ns:List Int} (h:ns.length = 4):∃ a b c d,ns = [a,b,c,d]:=by
 match ns,h with
 | [a,b,c,d],_ => exact ⟨a,b,c,d,rfl⟩
theorem of_5 {ns:List Int} (h:ns.length = 5):∃ a b c d e,ns = [a,b,c,d,e]:=by
 match ns,h with
 | [a,b,c,d,e],_ => exact ⟨a,b,c,d,e,rfl⟩
theorem sh_line {wd:Int} {qs:List (Int × Int)}:Sh ("line":Str) (wd :: flat qs)↔(wd = 1∨wd = 3)∧1≤qs.length∧qs.length≤40∧inlI qs:=by
 rw [Sh.line (fun e => wd_bl e.symm) (fun e => wd_fl e.symm)]
 constructor
 ·rintro ⟨_,wd',qs',e,h⟩
  obtain ⟨rfl,e2⟩:=List.cons.inj e
  obtain rfl:=flat_inj e2
  exact h
 ·exact fun h => ⟨rfl,wd,qs,rfl,h⟩
inductive Ob (K:PySem.W.Frag) (t:Adr) (H:Hp) (o:Addr):Str→List Int→Prop
 | block (dx:Addr) (x y wd hg:Int):H o = some (.ins t.c_Block dx (fB (.int x) (.int y) (.int wd) (.int hg)))→Ob K t H o "block" [x,y,wd,hg]
 | frame (dx:Addr) (x y wd hg k:Int):H o = some (.ins t.c_Frame dx (fF (.int x) (.int y) (.int wd) (.int hg) (.int k)))→Ob K t H o "frame" [x,y,wd,hg,k]
 | line (dx p:Addr) (wd:Int) (ps:List Addr) (qs:List (Int × Int)):H o = some (.ins t.c_Line dx (fL (.ref p) (.int wd)))→H p = some (.tup (ps.map V.ref))→Corners K H ps (qs.map pv2)→qs.length≤40→Ob K t H o "line" (wd :: flat qs)
section
variable {P:Program} {w:World} {K:PySem.W.Frag} {mg:Str→Option Value} {base:Heap} {t:Adr}
def spReadShape (K:PySem.W.Frag) (t:Adr):Sp:=fun vs H Q E => ∃ z w0 ws,vs = [.str z]∧z.length≤300000∧PySem.Txt.split z " " = w0 :: ws∧(allN ws = true∧Sh w0 (nsOf ws)→∀ o H',Same H H'→Ob K t H' o w0 (nsOf ws)→Q (.ref o) H')∧(¬ (allN ws = true∧Sh w0 (nsOf ws))→∀ H',Same H H'→E (.ref t.c_NoShape) none H')
theorem ok_read_shape (T:Txt K mg t):GoodF P w K mg base 6 "read_shape" ["text"] (spReadShape K t):=by
 obtain ⟨fd,F,b⟩:=T.F_read_shape
 have G_read_row:=ok_read_row (P:=P) (w:=w) (base:=base) T
 have G_Block:=ok_Block_init (P:=P) (w:=w) (base:=base) T
 have G_Frame:=ok_Frame_init (P:=P) (w:=w) (base:=base) T
 have G_Line:=ok_Line_init (P:=P) (w:=w) (base:=base) T
 refine ⟨_,fd,F.okX sc_read_shape (fun vs H Q E h => ?_) (fun cdv A outer s H vs Q E hr h => ?_),b,F.kp,T.g_read_shape⟩
 ·obtain ⟨z,w0,ws,rfl,_⟩:=h
  rfl
 ·obtain ⟨z,w0,ws,rfl,hz,hsp,kQ,kE⟩:=h
  refine ⟨_,(pss_cons (ps_set (i:=1) sc_read_shape.nd rfl (Or.inl rfl) (pe_callG G_read_row (hr.mono (by decide)) passes_of (by rfl) (pa_cons (pv 0) pa_nil)))
   (pss_cons (ps_if (pt_cmp (pc_isN (pv 1))) (pss_one (ps_raise throws_of rfl T.e_NoShape rfl (pa_cons pe_str pa_nil))) pss_nil)
   (pss_cons (ps_set (i:=2) sc_read_shape.nd rfl (Or.inl rfl) (pe_ix ix_tup (pv 1) pe_int (fun _ _ => rfl)))
   (pss_cons (ps_set (i:=3) sc_read_shape.nd rfl (Or.inl rfl) (pe_ix ix_tup (pv 1) pe_int (fun _ _ => rfl)))
   (pss_cons (ps_if (pw_and (pt_cmpR op_eq (pv 2) pe_str (nomark _)) (pw_and1 (pt_cmpR op_eq (pe_callB call_len_seq (by rfl) T.n_len b_len (pa_cons (pv 3) pa_nil)) pe_int (nomark _)))).pt (pss_one (ps_ret (pe_makeG G_Block (hr.mono (by decide)) passes_of (by rfl) (pa_cons (pe_ix ix_list (pv 3) pe_int (fun _ _ => rfl)) (pa_cons (pe_ix ix_list (pv 3) pe_int (fun _ _ => rfl)) (pa_cons (pe_ix ix_list (pv 3) pe_int (fun _ _ => rfl)) (pa_cons (pe_ix ix_list (pv 3) pe_int (fun _ _ => rfl)) pa_nil))))))) pss_nil)
   (pss_cons (ps_if (pw_and (pt_cmpR op_eq (pv 2) pe_str (nomark _)) (pw_and1 (pt_cmpR op_eq (pe_op op_mod (pe_callB call_len_seq (by rfl) T.n_len b_len (pa_cons (pv 3) pa_nil)) pe_int) pe_int (nomark _)))).pt (pss_one (ps_ret (pe_makeG G_Line (hr.mono (by decide)) passes_of (by rfl) (pa_cons (pe_listzip rfl (by rfl) T.n_list (by rfl) T.n_zip (pa_cons (pe_alt 1 (pv 3)) (pa_cons (pe_alt 2 (pv 3)) pa_nil))) (pa_cons (pe_ix ix_list (pv 3) pe_int (fun _ _ => rfl)) pa_nil))))) pss_nil)
   (pss_cons (ps_if (pw_and (pt_cmpR op_eq (pv 2) pe_str (nomark _)) (pw_and1 (pt_cmpR op_eq (pe_callB call_len_seq (by rfl) T.n_len b_len (pa_cons (pv 3) pa_nil)) pe_int (nomark _)))).pt (pss_one (ps_ret (pe_makeG G_Frame (hr.mono (by decide)) passes_of (by rfl) (pa_cons (pe_ix ix_list (pv 3) pe_int (fun _ _ => rfl)) (pa_cons (pe_ix ix_list (pv 3) pe_int (fun _ _ => rfl)) (pa_cons (pe_ix ix_list (pv 3) pe_int (fun _ _ => rfl)) (pa_cons (pe_ix ix_list (pv 3) pe_int (fun _ _ => rfl)) (pa_cons (pe_ix ix_list (pv 3) pe_int (fun _ _ => rfl)) pa_nil)))))))) pss_nil)
   (pss_one (ps_raise throws_of rfl T.e_NoShape rfl (pa_cons pe_str pa_nil)))))))))),?_⟩
  have hns:ws.map (fun w => V.int (numL w.cps.toList)) = (nsOf ws).map V.int:=by unfold nsOf; rw [List.map_map]; rfl
  have rs:∀ (G:Prop) {H':Hp},Same H H'→(allN ws = true∧Sh w0 (nsOf ws)→False)→([V.str "x"].length≤sizeLine∧E (.ref t.c_NoShape) none H'):=fun _ _ s' n => ⟨by show 1≤sizeLine; decide,kE n _ s'⟩
  refine ⟨_,rfl,z,w0,ws,rfl,hz,hsp,fun hf H1 s1 => ?_,fun ha p l H1 s1 ep el => ?_⟩
  ·exact ⟨_,rfl,_,rfl,iteD (fun _ => ⟨by show 1≤sizeLine; decide,kE (fun g => by have:=g.1; unfold allN at this; rw [this] at hf; cases hf) H1 s1⟩) fun h => absurd rfl h⟩
  ·have ha:allN ws = true:=ha
   rw [hns] at el
   have hnl:(nsOf ws).length≤300002:=by
    unfold nsOf
    rw [List.length_map]
    have:=PyProof.Rows.split_le z " "
    rw [hsp,List.length_cons] at this; omega
   generalize nsOf ws = ns at el kQ kE hnl
   have kQ:Sh w0 ns→∀ o H',Same H H'→Ob K t H' o w0 ns→Q (.ref o) H':=fun g => kQ ⟨ha,g⟩
   have kE:¬ Sh w0 ns→∀ H',Same H H'→E (.ref t.c_NoShape) none H':=fun g => kE fun z => g z.2
   have hml:((ns.map V.int).length:Int) = ns.length:=by rw [List.length_map]
   have rs:¬ Sh w0 ns→[V.str ("":Str)].length≤sizeLine∧E (.ref t.c_NoShape) none H1:=fun g => ⟨by show 1≤sizeLine; decide,kE g H1 s1⟩
   refine ⟨_,rfl,_,rfl,iteD (fun h => nomatch h) fun _ => ?_⟩
   refine ⟨_,rfl,p,_,0,.str w0,rfl,rfl,SqT.of ep,atI_nat (j:=0) rfl,?_⟩
   refine ⟨_,rfl,p,_,1,.ref l,rfl,rfl,SqT.of ep,atI_nat (j:=1) rfl,?_⟩
   refine ⟨_,rfl,rfl,_,rfl,iteD (fun hb => ⟨_,rfl,l,_,rfl,.inl (SqL.of el),rfl,_,rfl,iteD (fun h4 => ?_) fun h4 => ?_⟩) fun hb => iteF ?_⟩
   ·
    have hb:=V.str.inj hb
    have h4:ns.length = 4:=by have:=V.int.inj h4; omega
    subst hb
    obtain ⟨x,y,wd,hg,rfl⟩:=of_4 h4
    have shb:=Sh.block (w0:="block") (ns:=[x,y,wd,hg]) rfl
    refine ⟨_,rfl,l,_,0,.int x,rfl,rfl,SqL.of el,atI_nat (j:=0) rfl,_,rfl,l,_,1,.int y,rfl,rfl,SqL.of el,atI_nat (j:=1) rfl,_,rfl,l,_,2,.int wd,rfl,rfl,SqL.of el,atI_nat (j:=2) rfl,_,rfl,l,_,3,.int hg,rfl,rfl,SqL.of el,atI_nat (j:=3) rfl,?_⟩
    intro o dx ho hdx hne
    exact ⟨o,dx,.int x,.int y,.int wd,.int hg,rfl,upd_same,rfl,fun h1 h2 H' k e => ⟨rfl,kQ (shb.mpr ⟨rfl,(ge_all [wd,hg]).mp h2⟩) o H' (make_but s1 ho hdx k) (.block dx x y wd hg e)⟩,fun ng H' s' => kE (fun g => ng ⟨rfl,(ge_all [wd,hg]).mpr (shb.mp g).2⟩) H' (Same.trans (make_same s1 ho hdx) s')⟩
   ·have hb:=V.str.inj hb
    have shb:=Sh.block (ns:=ns) hb
    exact ⟨_,rfl,rfl,_,rfl,iteD (fun h => absurd (hb.symm.trans (V.str.inj h)) wd_bl) fun _ => iteF ⟨_,rfl,rfl,_,rfl,iteD (fun h => absurd (hb.symm.trans (V.str.inj h)) wd_bf) fun _ => iteF ⟨by show 1≤sizeLine; decide,kE (fun g => h4 (by rw [hml,(shb.mp g).1]; rfl)) H1 s1⟩⟩⟩
   ·have nb:w0≠("block":Str):=fun e => hb (congrArg V.str e)
    refine ⟨_,rfl,rfl,_,rfl,iteD (fun hl => ⟨_,rfl,l,_,rfl,.inl (SqL.of el),_,2,rfl,rfl,(by show (0:Int) < 2; decide),rfl,_,rfl,iteD (fun hodd => ?_) fun hodd => ?_⟩) fun hl => iteF ?_⟩
    ·have hl:=V.str.inj hl
     subst hl
     have hodd:ns.length % 2 = 1:=by
      have:((ns.map V.int).length:Int) % 2 = 1:=V.int.inj hodd
      rw [hml] at this; omega
     obtain ⟨wd,qs,rfl,hlen⟩:=line_of hodd
     refine ⟨_,rfl,l,_,rfl,SqL.of el,fun q1 hq1 => ?_⟩
     rw [show alt (((wd :: flat qs).map V.int).drop 1) = qs.map (fun q => V.int q.1) from alt_1 qs]
     have sa:=same_new (o:=.lst (qs.map fun q => V.int q.1)) (Same.refl H1) hq1
     have ea:upd H1 q1 (.lst (qs.map fun q => V.int q.1)) q1 = some (.lst (qs.map fun q => V.int q.1)):=upd_same
     generalize upd H1 q1 (.lst (qs.map fun q => V.int q.1)) = Ha at sa ea
     refine ⟨_,rfl,l,_,rfl,SqL.of (sa _ _ el),fun q2 hq2 => ?_⟩
     rw [show alt (((wd :: flat qs).map V.int).drop 2) = qs.map (fun q => V.int q.2) from alt_2 qs]
     have sb:=same_new (o:=.lst (qs.map fun q => V.int q.2)) (Same.refl Ha) hq2
     have eb:upd Ha q2 (.lst (qs.map fun q => V.int q.2)) q2 = some (.lst (qs.map fun q => V.int q.2)):=upd_same
     generalize upd Ha q2 (.lst (qs.map fun q => V.int q.2)) = Hb at sb eb
     refine ⟨q1,q2,_,_,rfl,SqL.of (sb _ _ ea),SqL.of eb,fun pz ts H2 s2 hp ez hts hat hnew => ?_⟩
     rw [zip_pv] at hts hat
     have s3:Same H H2:=Same.trans (Same.trans (Same.trans s1 sa) sb) s2
     have C2:Corners K H2 ts (qs.map pv2):=⟨hts,fun i p c h1 h2 => hat i p c.1 c.2 h1 h2⟩
     refine ⟨_,rfl,l,_,0,.int wd,rfl,rfl,SqL.of (s2 _ _ (sb _ _ (sa _ _ el))),atI_nat (j:=0) rfl,?_⟩
     intro o dx ho hdx hne
     refine ⟨o,dx,pz,ts,qs.map pv2,.int wd,rfl,upd_same,make_same (Same.refl H2) ho hdx _ _ ez,C2.same (make_same (Same.refl H2) ho hdx),pv_nC qs,?_,rfl,fun g g13 p' H' k ep' eo => ⟨rfl,?_⟩,fun ng H' s' => kE (fun z => ng (pv_good.mpr (sh_line.mp z))) H' (Same.trans (make_same s3 ho hdx) s')⟩
     ·rw [List.length_map]; omega
     ·have gg:=pv_good.mp ⟨g,g13⟩
      exact kQ (sh_line.mpr gg) o H' (make_but s3 ho hdx k) (.line dx p' wd ts qs eo ep' (C2.same (make_but (Same.refl H2) ho hdx k)) gg.2.2.1)
    ·have hl:=V.str.inj hl
     refine ⟨_,rfl,rfl,_,rfl,iteD (fun h => absurd ((V.str.inj h).symm.trans hl) wd_fl) fun _ => iteF ⟨by show 1≤sizeLine; decide,kE (fun g => hodd ?_) H1 s1⟩⟩
     obtain ⟨_,wd,qs,e,_⟩:=(Sh.line nb (fun e => wd_fl (e.symm.trans hl))).mp g
     have hlen:ns.length = 2 * qs.length + 1:=by rw [e,List.length_cons,flat_length]
     show V.int (((ns.map V.int).length:Int) % 2) = V.int 1
     rw [hml]
     exact congrArg V.int (by omega)
    ·refine ⟨_,rfl,rfl,_,rfl,iteD (fun hf => ⟨_,rfl,l,_,rfl,.inl (SqL.of el),rfl,_,rfl,iteD (fun h5 => ?_) fun h5 => ?_⟩) fun hf => iteF ?_⟩
     ·have hf:=V.str.inj hf
      have h5:ns.length = 5:=by have:=V.int.inj h5; omega
      subst hf
      obtain ⟨x,y,wd,hg,kk,rfl⟩:=of_5 h5
      have shb:=Sh.frame (w0:="frame") (ns:=[x,y,wd,hg,kk]) rfl
      refine ⟨_,rfl,l,_,0,.int x,rfl,rfl,SqL.of el,atI_nat (j:=0) rfl,_,rfl,l,_,1,.int y,rfl,rfl,SqL.of el,atI_nat (j:=1) rfl,_,rfl,l,_,2,.int wd,rfl,rfl,SqL.of el,atI_nat (j:=2) rfl,_,rfl,l,_,3,.int hg,rfl,rfl,SqL.of el,atI_nat (j:=3) rfl,_,rfl,l,_,4,.int kk,rfl,rfl,SqL.of el,atI_nat (j:=4) rfl,?_⟩
      intro o dx ho hdx hne
      exact ⟨o,dx,.int x,.int y,.int wd,.int hg,.int kk,rfl,upd_same,rfl,fun h1 h2 H' k e => ⟨rfl,kQ (shb.mpr ⟨rfl,(ge_all [wd,hg,kk]).mp h2⟩) o H' (make_but s1 ho hdx k) (.frame dx x y wd hg kk e)⟩,fun ng H' s' => kE (fun g => ng ⟨rfl,(ge_all [wd,hg,kk]).mpr (shb.mp g).2⟩) H' (Same.trans (make_same s1 ho hdx) s')⟩
     ·have shb:=Sh.frame (ns:=ns) (V.str.inj hf)
      exact ⟨by show 1≤sizeLine; decide,kE (fun g => h5 (by rw [hml,(shb.mp g).1]; rfl)) H1 s1⟩
     ·exact ⟨by show 1≤sizeLine; decide,kE (fun g => hl (congrArg V.str ((Sh.line nb (fun e => hf (congrArg V.str e))).mp g).1)) H1 s1⟩
end
end K03
namespace K03
open PySem L2 Wd TS STb
theorem b_sorted:bootBuiltins "sorted" = some (.builtin "sorted"):=by decide +kernel
theorem b_set:bootBuiltins "set" = some (.type "set"):=by decide +kernel
def plI (x y:Int) (wd hg:Nat):List (Int × Int):=(List.range wd).flatMap fun (i:Nat) => (List.range hg).map fun (j:Nat) => (x + (i:Int),y + (j:Int))
theorem plI_succ (x y:Int) (n hg:Nat):plI x y (n + 1) hg = plI x y n hg ++ (List.range hg).map fun (j:Nat) => (x + (n:Int),y + (j:Int)):=by
 unfold plI
 rw [List.range_succ,List.flatMap_append]
 simp
theorem plI_len (x y:Int) (hg:Nat):∀ n,(plI x y n hg).length = n * hg
 | 0 => by simp [plI]
 | n + 1 => by rw [plI_succ,List.length_append,plI_len x y hg n,List.length_map,List.length_range,Nat.add_mul,Nat.one_mul]
def Prs (H:Hp) (ps:List Addr) (pl:List (Int × Int)):Prop:=ps.length = pl.length∧∀ (i:Nat) (p:Addr) (c:Int × Int),ps[i]? = some p→pl[i]? = some c→H p = some (.tup [.int c.1,.int c.2])
theorem Prs.nil {H:Hp}:Prs H [] []:=⟨rfl,fun i p c h => by cases h⟩
theorem Prs.same {H H':Hp} {ps:List Addr} {pl:List (Int × Int)} (C:Prs H ps pl) (s:Same H H'):Prs H' ps pl:=⟨C.1,fun i p c h1 h2 => s _ _ (C.2 i p c h1 h2)⟩
theorem Prs.app {H:Hp} {ps qs:List Addr} {cl dl:List (Int × Int)} (C:Prs H ps cl) (D:Prs H qs dl):Prs H (ps ++ qs) (cl ++ dl):=⟨by rw [List.length_append,List.length_append,C.1,D.1],fun i q d h1 h2 => by
 by_cases h:i < ps.length
 ·rw [List.getElem?_append_left h] at h1
  rw [List.getElem?_append_left (C.1▸h)] at h2
  exact C.2 i q d h1 h2
 ·rw [List.getElem?_append_right (by omega)] at h1
  rw [List.getElem?_append_right (by rw [← C.1]; omega),← C.1] at h2
  exact D.2 _ q d h1 h2⟩
theorem Prs.one {H:Hp} {p:Addr} {c:Int × Int} (h:H p = some (.tup [.int c.1,.int c.2])):Prs H [p] [c]:=⟨rfl,fun i q d h1 h2 => by
 cases i with
 | zero => cases h1; cases h2; exact h
 | succ j => cases h1⟩
theorem Prs.wr {H:Hp} {D:Addr} {ps:List Addr} {pl:List (Int × Int)} {ys ys':List V} (C:Prs H ps pl) (hD:H D = some (.lst ys)):Prs (upd H D (.lst ys')) ps pl:=⟨C.1,fun i q d h1 h2 => by
 have e:=C.2 i q d h1 h2
 rw [upd_ne (ne_of e hD (by intro z; cases z))]; exact e⟩
section
variable {P:Program} {w:World} {K:PySem.W.Frag} {mg:Str→Option Value} {base:Heap} {t:Adr}
def spPlaces:Sp:=fun vs H Q _ => ∃ (x y:Int) (wd hg:Nat),vs = [.int x,.int y,.int wd,.int hg]∧wd≤13∧hg≤13∧∀ D ps H',Same H H'→H' D = some (.lst (ps.map V.ref))→Prs H' ps (plI x y wd hg)→Q (.ref D) H'
theorem ok_box_places (T:Txt K mg t):GoodF P w K mg base 1 "box_places" ["x","y","wide","high"] spPlaces:=by
 obtain ⟨fd,F,b⟩:=T.F_box_places
 refine ⟨_,fd,F.okX sc_box_places (fun vs H Q E h => ?_) (fun cdv A outer s H vs Q E hr h => ?_),b,F.kp,T.g_box_places⟩
 ·obtain ⟨x,y,wd,hg,rfl,_⟩:=h
  rfl
 ·obtain ⟨x,y,wd,hg,rfl,w1,h1,q⟩:=h
  refine ⟨_,(pss_cons (ps_set (i:=4) sc_box_places.nd rfl (Or.inl rfl) (pe_lst pa_nil))
   (pss_cons (ps_for owns_of (pi_rangeL rfl rfl T.n_range (pa_cons (pv 0) (pa_cons (pe_op op_add (pv 0) (pv 2)) pa_nil))) (pg_name (i:=5) sc_box_places.nd rfl (Or.inr rfl)) (pss_one (ps_expr (pe_bm PySem.F.plainAttrs_list PySem.F.slot_list_extend PySem.F.type_list_extend mt_extend (pv 4) (pa_cons (pe_comp (own:=["row"]) (cs_one (n:="column") (N:=["x","y","wide","high","places","column"]) rfl (by rfl) (by rfl) rfl (by rfl) (by decide +kernel) (by decide +kernel) (by decide +kernel)) (pi_rangeL rfl rfl T.n_range (pa_cons (pv 1) (pa_cons (pe_op op_add (pv 1) (pv 3)) pa_nil))) (fun _ _ _ _ _ => pg_name (i:=6) (by show (["x","y","wide","high","places","column","row"]:List Str).Nodup; decide +kernel) rfl (Or.inl rfl)) (fun _ _ _ _ _ => pf_nil) (fun _ _ _ _ _ => (pe_tup (pa_cons (pv 5) (pa_cons (pv 6) pa_nil))))) pa_nil)))))
   (pss_one (ps_ret (pv 4))))),?_⟩
  refine ⟨(by show 0≤sizeLine; decide),fun D hD => ?_⟩
  have s0:=same_new (o:=.lst []) (Same.refl H) hD
  have n1:(x + (wd:Int) - x).toNat = wd:=by omega
  have n2:(y + (hg:Int) - y).toNat = hg:=by omega
  refine ⟨_,rfl,_,rfl,_,rfl,x,(wd:Int),rfl,rfl,x,x + (wd:Int),rfl,for_range (fun i σ H2 => ∃ (v:Option V) (ps:List Addr),σ = [some (.int x),some (.int y),some (.int wd),some (.int hg),some (.ref D),v]∧Same H H2∧H2 D = some (.lst (ps.map V.ref))∧Prs H2 ps (plI x y i hg)) ⟨_,[],rfl,s0,upd_same,Prs.nil⟩ ?_ ?_⟩
  ·rintro i σ H2 hi ⟨v,ps,rfl,s2,e2,C2⟩
   rw [n1] at hi
   refine ⟨_,rfl,.inl ⟨rfl,_,SqL.of e2⟩,_,rfl,_,rfl,_,rfl,y,(hg:Int),rfl,rfl,y,y + (hg:Int),rfl,comp_range (fun D2 j ys H' => ∃ qs:List Addr,ys = qs.map V.ref∧H2 D2 = none∧Same H2 H'∧H' D2 = some (.lst ys)∧ys.length = j∧Prs H' qs ((List.range j).map fun (j:Nat) => (x + (i:Int),y + (j:Int)))) (by rw [n2]; exact Nat.le_trans h1 (by decide)) (fun D2 hD2 => ⟨[],rfl,hD2,same_new (Same.refl _) hD2,upd_same,rfl,Prs.nil⟩) (fun D2 j ys H' ⟨qs,_,_,_,e,l,_⟩ => ⟨e,l⟩) ?_ ?_⟩
   ·rintro D2 j ys H' Qy Qn hj ⟨qs,rfl,d1,d2,d3,d4,d5⟩ hy
    refine ⟨⟨_,rfl,rfl⟩,iteT ⟨_,rfl,_,rfl,(by show 2≤sizeLine; decide),fun p hp => ?_⟩⟩
    have npD:p≠D2:=fun z => by rw [z,d3] at hp; cases hp
    have sp:=same_new (o:=.tup [.int (x + (i:Int)),.int (y + (j:Int))]) (Same.refl H') hp
    refine hy _ _ (by rw [upd_ne (Ne.symm npD)]; exact d3) ⟨qs ++ [p],by rw [List.map_append]; rfl,d1,fun b u e => ?_,upd_same,by rw [List.length_append,d4]; rfl,?_⟩
    ·have:=d2 b u e
     rw [upd_ne (ne_of_none e d1),upd_ne (ne_of_none this hp)]; exact this
    ·rw [List.range_succ,List.map_append]
     exact ((d5.same sp).app (Prs.one (c:=(x + (i:Int),y + (j:Int))) upd_same)).wr (sp _ _ d3)
   ·rintro D2 ys H' hD2 ⟨qs,rfl,d1,d2,d3,d4,d5⟩
    rw [n2] at d4 d5
    have eD:=d2 _ _ e2
    have l1:=C2.1
    rw [plI_len] at l1
    have l2:i * hg≤13 * 13:=Nat.mul_le_mul (by omega) h1
    refine ⟨D,D2,_,_,rfl,rfl,eD,d3,?_,_,ps ++ qs,rfl,fun b u e => ?_,by rw [upd_same,List.map_append],?_⟩
    ·rw [d4,List.length_map,l1]
     exact Nat.le_trans (show _≤1000 by omega) (by decide)
    ·rw [upd_ne (ne_of_none e hD)]
     exact d2 _ _ (s2 _ _ e)
    ·rw [plI_succ]
     exact ((C2.same d2).app d5).wr eD
  ·rintro σ H2 ⟨v,ps,rfl,s2,e2,C2⟩
   rw [n1] at C2
   exact ⟨_,rfl,q D ps H2 s2 e2 C2⟩
def spCellsB (C:Addr):Sp:=fun vs H Q _ => ∃ (o dx:Addr) (x y:Int) (wd hg:Nat),vs = [.ref o]∧H o = some (.ins C dx (fB (.int x) (.int y) (.int wd) (.int hg)))∧wd≤13∧hg≤13∧∀ D ps H',Same H H'→H' D = some (.lst (ps.map V.ref))→Prs H' ps (plI x y wd hg)→Q (.ref D) H'
theorem ok_Block_cells (T:Txt K mg t):GoodM P w K mg base 2 t.c_Block "cells" ["self"] (spCellsB t.c_Block):=by
 obtain ⟨fd,F,b⟩:=T.F_Block_cells
 have G_box_places:=ok_box_places (P:=P) (w:=w) (base:=base) T
 refine ⟨T.cl_Block,_,fd,T.M_Block_cells,F.okX sc_Block_cells (fun vs H Q E h => ?_) (fun cdv A outer s H vs Q E hr h => ?_),b⟩
 ·obtain ⟨o,dx,x,y,wd,hg,rfl,_⟩:=h
  rfl
 ·obtain ⟨o,dx,x,y,wd,hg,rfl,ho,w1,h1,q⟩:=h
  refine ⟨_,(pss_one (ps_ret (pe_callG G_box_places (hr.mono (by decide)) passes_of (by rfl) (pa_cons (pe_fld (pv 0) rfl) (pa_cons (pe_fld (pv 0) rfl) (pa_cons (pe_fld (pv 0) rfl) (pa_cons (pe_fld (pv 0) rfl) pa_nil))))))),?_⟩
  refine ⟨_,rfl,o,_,dx,_,.int x,rfl,ho,T.cl_Block,T.na_Block_x,by kernel_rfl,?_⟩
  refine ⟨_,rfl,o,_,dx,_,.int y,rfl,ho,T.cl_Block,T.na_Block_y,by kernel_rfl,?_⟩
  refine ⟨_,rfl,o,_,dx,_,.int wd,rfl,ho,T.cl_Block,T.na_Block_wide,by kernel_rfl,?_⟩
  exact ⟨_,rfl,o,_,dx,_,.int hg,rfl,ho,T.cl_Block,T.na_Block_high,by kernel_rfl,x,y,wd,hg,rfl,w1,h1,q⟩
def edg (x y wd hg:Int) (q:Int × Int):Int:=min (min (q.1 - x) (wd - 1 - (q.1 - x))) (min (q.2 - y) (hg - 1 - (q.2 - y)))
def spSteps (C:Addr):Sp:=fun vs H Q _ => ∃ (o dx p:Addr) (x y wd hg k:Int) (q:Int × Int),vs = [.ref o,.ref p]∧H o = some (.ins C dx (fF (.int x) (.int y) (.int wd) (.int hg) (.int k)))∧H p = some (.tup [.int q.1,.int q.2])∧Q (.int (edg x y wd hg q)) H
theorem ok_Frame_steps (T:Txt K mg t):GoodM P w K mg base 1 t.c_Frame "steps_from_edge" ["self","place"] (spSteps t.c_Frame):=by
 obtain ⟨fd,F,b⟩:=T.F_Frame_steps_from_edge
 refine ⟨T.cl_Frame,_,fd,T.M_Frame_steps_from_edge,F.okX sc_Frame_steps_from_edge (fun vs H Q E h => ?_) (fun cdv A outer s H vs Q E hr h => ?_),b⟩
 ·obtain ⟨o,dx,p,x,y,wd,hg,k,q,rfl,_⟩:=h
  rfl
 ·obtain ⟨o,dx,p,x,y,wd,hg,k,q,rfl,ho,hp,kq⟩:=h
  refine ⟨_,(pss_cons (ps_set (i:=2) sc_Frame_steps_from_edge.nd rfl (Or.inl rfl) (pe_op op_sub (pe_ix ix_tup (pv 1) pe_int (fun _ _ => rfl)) (pe_fld (pv 0) rfl)))
   (pss_cons (ps_set (i:=3) sc_Frame_steps_from_edge.nd rfl (Or.inl rfl) (pe_op op_sub (pe_ix ix_tup (pv 1) pe_int (fun _ _ => rfl)) (pe_fld (pv 0) rfl)))
   (pss_one (ps_ret (pe_callB (call_min4 rfl) (by rfl) T.n_min b_min (pa_cons (pv 2) (pa_cons (pe_op op_sub (pe_op op_sub (pe_fld (pv 0) rfl) pe_int) (pv 2)) (pa_cons (pv 3) (pa_cons (pe_op op_sub (pe_op op_sub (pe_fld (pv 0) rfl) pe_int) (pv 3)) pa_nil))))))))),?_⟩
  refine ⟨_,rfl,p,_,0,.int q.1,rfl,rfl,SqT.of hp,atI_nat (j:=0) rfl,_,rfl,o,_,dx,_,.int x,rfl,ho,T.cl_Frame,T.na_Frame_x,by kernel_rfl,q.1,x,rfl,rfl,?_⟩
  refine ⟨_,rfl,p,_,1,.int q.2,rfl,rfl,SqT.of hp,atI_nat (j:=1) rfl,_,rfl,o,_,dx,_,.int y,rfl,ho,T.cl_Frame,T.na_Frame_y,by kernel_rfl,q.2,y,rfl,rfl,?_⟩
  refine ⟨_,rfl,_,rfl,o,_,dx,_,.int wd,rfl,ho,T.cl_Frame,T.na_Frame_wide,by kernel_rfl,wd,1,rfl,rfl,_,rfl,wd - 1,q.1 - x,rfl,rfl,_,rfl,_,rfl,o,_,dx,_,.int hg,rfl,ho,T.cl_Frame,T.na_Frame_high,by kernel_rfl,hg,1,rfl,rfl,_,rfl,hg - 1,q.2 - y,rfl,rfl,_,_,_,_,rfl,fun M hM hm => ?_⟩
  have e:M = edg x y wd hg q:=by
   have m1:=hm (q.1 - x) (by simp)
   have m2:=hm (wd - 1 - (q.1 - x)) (by simp)
   have m3:=hm (q.2 - y) (by simp)
   have m4:=hm (hg - 1 - (q.2 - y)) (by simp)
   simp only [List.mem_cons,List.not_mem_nil,or_false] at hM
   unfold edg
   omega
  rw [e]
  exact kq
end
end K03
namespace K03
open PySem L2 Wd TS STb
theorem comp_pickP {K:PySem.W.Frag} {g:TG} {tc:TT} {te:TE} {k:Nat} {σ:St} {H:Hp} {Q:VK} {a:Addr} {ps:List Addr} {cl:List (Int × Int)} (f:Int × Int→Bool) (hz:cl.length≤sizeLine) (ha:H a = some (.lst (ps.map V.ref))) (C:Prs H ps cl)
  (hg:∀ (r:Addr) (c:Int × Int) (H':Hp) (Qy:VK) (Qn:Hp→Prop),Same H H'→H' r = some (.tup [.int c.1,.int c.2])→(f c = true→∀ H2,Same H' H2→Qy (.ref r) H2)→(f c = false→∀ H2,Same H' H2→Qn H2)→g (.ref r) (σ ++ List.replicate k none) H' fun σ2 H2 => (∃ zs,σ2 = σ ++ zs∧zs.length = k)∧tc σ2 H2 fun b H3 => if b = true then te σ2 H3 Qy else Qn H3)
  (q:∀ D rs H',Same H H'→H D = none→H' D = some (.lst (rs.map V.ref))→Prs H' rs (cl.filter f)→Q (.ref D) H'):compT k g tc te σ Q (Itl K a) H:=by
 refine comp_list (xs:=ps.map V.ref) (fun D i ys H' => H D = none∧Same H H'∧H' D = some (.lst ys)∧ys.length≤i∧∃ rs:List Addr,ys = rs.map V.ref∧Prs H' rs ((cl.take i).filter f)) (by rw [List.length_map,C.1]; exact hz) (fun D hD => ⟨hD,same_new (Same.refl _) hD,upd_same,Nat.le_refl _,[],rfl,⟨rfl,fun i p c h => by cases h⟩⟩) (fun D i ys H' hv => ⟨hv.2.2.1,hv.2.2.2.1,SqL.of (hv.2.1 _ _ ha)⟩) ?_ ?_
 ·rintro D i v ys H' Qy Qn hx ⟨d1,d2,d3,d4,rs,rfl,C'⟩ hy hn
  rw [List.getElem?_map] at hx
  obtain ⟨r,hx1,rfl⟩:=Option.map_eq_some_iff.mp hx
  have hi:i < cl.length:=by rw [← C.1]; exact (List.getElem?_eq_some_iff.mp hx1).1
  have hs:=List.getElem?_eq_getElem hi
  have er:=d2 _ _ (C.2 i r _ hx1 hs)
  have tk:∀ b:Bool,f cl[i] = b→(cl.take (i + 1)).filter f = (cl.take i).filter f ++ (if b = true then [cl[i]] else []):=fun b hb => by
   rw [List.take_add_one,hs,List.filter_append]
   congr 1
   cases b <;> simp [hb]
  generalize cl[i] = cc at er tk
  refine hg r cc H' Qy Qn d2 er (fun hb H2 s2 => ?_) fun hb H2 s2 => ?_
  ·have d3':=s2 _ _ d3
   refine hy _ _ d3' ⟨d1,fun b u e => ?_,upd_same,by rw [List.length_append]; exact Nat.succ_le_succ d4,rs ++ [r],by rw [List.map_append]; rfl,?_⟩
   ·rw [upd_ne (ne_of_none e d1)]; exact s2 _ _ (d2 _ _ e)
   ·rw [tk true hb,if_pos rfl]
    exact ((C'.same s2).app (Prs.one (s2 _ _ er))).wr d3'
  ·refine hn _ ⟨d1,Same.trans d2 s2,s2 _ _ d3,by omega,rs,rfl,?_⟩
   rw [tk false hb,if_neg (by decide),List.append_nil]
   exact C'.same s2
 ·rintro D ys H3 hD ⟨d1,d2,d3,d4,rs,rfl,C'⟩
  rw [List.length_map,C.1,List.take_length] at C'
  exact q D rs H3 d2 d1 d3 C'
section
variable {P:Program} {w:World} {K:PySem.W.Frag} {mg:Str→Option Value} {base:Heap} {t:Adr}
def spCellsF (C:Addr):Sp:=fun vs H Q _ => ∃ (o dx:Addr) (x y k:Int) (wd hg:Nat),vs = [.ref o]∧H o = some (.ins C dx (fF (.int x) (.int y) (.int wd) (.int hg) (.int k)))∧wd≤13∧hg≤13∧∀ D ps H',Same H H'→H' D = some (.lst (ps.map V.ref))→Prs H' ps ((plI x y wd hg).filter fun q => decide (edg x y wd hg q < k))→Q (.ref D) H'
theorem ok_Frame_cells (T:Txt K mg t):GoodM P w K mg base 2 t.c_Frame "cells" ["self"] (spCellsF t.c_Frame):=by
 obtain ⟨fd,F,b⟩:=T.F_Frame_cells
 have G_box_places:=ok_box_places (P:=P) (w:=w) (base:=base) T
 have G_Frame_steps_from_edge:=ok_Frame_steps (P:=P) (w:=w) (base:=base) T
 refine ⟨T.cl_Frame,_,fd,T.M_Frame_cells,F.okX sc_Frame_cells (fun vs H Q E h => ?_) (fun cdv A outer s H vs Q E hr h => ?_),b⟩
 ·obtain ⟨o,dx,x,y,k,wd,hg,rfl,_⟩:=h
  rfl
 ·obtain ⟨o,dx,x,y,k,wd,hg,rfl,ho,w1,h1,q⟩:=h
  refine ⟨_,(pss_cons (ps_set (i:=1) sc_Frame_cells.nd rfl (Or.inl rfl) (pe_callG G_box_places (hr.mono (by decide)) passes_of (by rfl) (pa_cons (pe_fld (pv 0) rfl) (pa_cons (pe_fld (pv 0) rfl) (pa_cons (pe_fld (pv 0) rfl) (pa_cons (pe_fld (pv 0) rfl) pa_nil))))))
   (pss_one (ps_ret (pe_comp (own:=["place"]) (cs_one (n:="self") (N:=["self","places"]) rfl (by rfl) (by rfl) rfl (by rfl) (by decide +kernel) (by decide +kernel) (by decide +kernel)) (pi_list (pv 1)) (fun _ _ _ _ _ => pg_name (i:=2) (by show (["self","places","place"]:List Str).Nodup; decide +kernel) rfl (Or.inl rfl)) (fun _ _ _ _ _ => pf_one (pt_cmpR op_lt (pe_methG (pv 0) G_Frame_steps_from_edge (hr.mono (by decide)) passX0 (pa_cons (pv 2) pa_nil)) (pe_fldK (K:=K) rfl (pv 0) rfl) (nomark _))) (fun _ _ _ _ _ => (pv 2)))))),?_⟩
  refine ⟨_,rfl,o,_,dx,_,.int x,rfl,ho,T.cl_Frame,T.na_Frame_x,by kernel_rfl,?_⟩
  refine ⟨_,rfl,o,_,dx,_,.int y,rfl,ho,T.cl_Frame,T.na_Frame_y,by kernel_rfl,?_⟩
  refine ⟨_,rfl,o,_,dx,_,.int wd,rfl,ho,T.cl_Frame,T.na_Frame_wide,by kernel_rfl,?_⟩
  refine ⟨_,rfl,o,_,dx,_,.int hg,rfl,ho,T.cl_Frame,T.na_Frame_high,by kernel_rfl,x,y,wd,hg,rfl,w1,h1,fun D ps H1 s1 e1 C1 => ?_⟩
  have l2:wd * hg≤13 * 13:=Nat.mul_le_mul w1 h1
  refine ⟨_,rfl,D,rfl,⟨_,SqL.of e1⟩,comp_pickP (fun q => decide (edg x y wd hg q < k)) (by rw [plI_len]; exact Nat.le_trans l2 (by decide)) e1 C1 (fun r c H' Qy Qn s' er kY kN => ?_) fun D2 rs H' s' _ e2 C2 => q D2 rs H' (Same.trans s1 s') e2 C2⟩
  have ho':=s' _ _ (s1 _ _ ho)
  refine ⟨⟨_,rfl,rfl⟩,_,rfl,o,dx,_,rfl,ho',by kernel_rfl,_,rfl,o,dx,r,x,y,wd,hg,k,c,rfl,ho',er,_,rfl,o,_,dx,_,.int k,rfl,ho',T.cl_Frame,T.na_Frame_thick,by kernel_rfl,_,_,rfl,rfl,_,rfl,?_⟩
  exact iteD (fun h => ⟨_,rfl,kY (decide_eq_true h) H' (Same.refl H')⟩) fun h => kN (decide_eq_false h) H' (Same.refl H')
end
end K03
namespace K03
open PySem L2 Wd TS STb
def k2 (q:Int × Int):List Key:=[.inl q.1,.inl q.2]
def bx (wd:Int) (a b:Int × Int):List (Int × Int):=plI ((if b.1 < a.1 then b.1 else a.1) - wd / 2) ((if b.2 < a.2 then b.2 else a.2) - wd / 2) ((if a.1 - b.1 < 0 then -(a.1 - b.1) else a.1 - b.1) + wd).toNat ((if a.2 - b.2 < 0 then -(a.2 - b.2) else a.2 - b.2) + wd).toNat
def bxs (wd:Int) (zs:List ((Int × Int) × (Int × Int))):List (Int × Int):=zs.flatMap fun z => bx wd z.1 z.2
def zsL (q0:Int × Int) (r:List (Int × Int)):List ((Int × Int) × (Int × Int)):=(q0 :: q0 :: r).zip (q0 :: r)
def lnP (wd:Int) (q0:Int × Int) (r:List (Int × Int)):List (Int × Int):=bxs wd (zsL q0 r)
def IsLn (wd:Int) (q0:Int × Int) (r:List (Int × Int)) (ks:List (List Key)):Prop:=(ks.Pairwise fun a b => lx b a = false)∧ks.Nodup∧∀ k,k∈ks↔k∈(lnP wd q0 r).map k2
theorem sorted_eq:∀ {a b:List (List Key)},a.Perm b→(a.Pairwise fun x y => lx y x = false)→(b.Pairwise fun x y => lx y x = false)→a = b
 | [],b,p,_,_ => (List.nil_perm.mp p).symm
 | x :: a,b,p,ha,hb => by
  cases b with
  | nil => exact absurd (List.perm_nil.mp p) (by simp)
  | cons y b =>
   obtain ⟨h1,ha2⟩:=List.pairwise_cons.mp ha
   obtain ⟨h2,hb2⟩:=List.pairwise_cons.mp hb
   have e:x = y:=by
    rcases List.mem_cons.mp (p.mem_iff.mp (List.mem_cons_self ..)) with e | hx
    ·exact e
    ·rcases List.mem_cons.mp (p.mem_iff.mpr (List.mem_cons_self ..)) with e | hy
     ·exact e.symm
     ·exact lx_tot (h2 x hx) (h1 y hy)
   subst e
   rw [sorted_eq (List.perm_cons x |>.mp p) ha2 hb2]
theorem IsLn.uniq {wd:Int} {q0:Int × Int} {r:List (Int × Int)} {a b:List (List Key)} (x:IsLn wd q0 r a) (y:IsLn wd q0 r b):a = b :=
 sorted_eq ((List.perm_ext_iff_of_nodup x.2.1 y.2.1).mpr fun k => (x.2.2 k).trans (y.2.2 k).symm) x.1 y.1
theorem inl_step:∀ {l:List (Int × Int)} {i:Nat} {a b:Int × Int},inl l→l[i]? = some a→l[i + 1]? = some b→nr a b
 | [],i,a,b,_,h1,_ => by cases h1
 | [x],i,a,b,_,_,h2 => by cases h2
 | x :: y :: l,0,a,b,h,h1,h2 => by cases h1; cases h2; exact h.1
 | x :: y :: l,i + 1,a,b,h,h1,h2 => inl_step (l:=y :: l) (i:=i) h.2 h1 h2
theorem nr_at {q0:Int × Int} {r:List (Int × Int)} {i:Nat} {a b:Int × Int} (h:inl (q0 :: r)) (h1:(q0 :: q0 :: r)[i]? = some a) (h2:(q0 :: r)[i]? = some b):nr a b:=by
 cases i with
 | zero => cases h1; cases h2; exact .inl ⟨rfl,by omega,by omega⟩
 | succ i => exact inl_step h h1 h2
theorem area {wd:Int} {a b:Int × Int} (hw:wd = 1∨wd = 3) (h:nr a b) :
  ∃ W G:Nat,((if a.1 - b.1 < 0 then -(a.1 - b.1) else a.1 - b.1) + wd) = (W:Int)∧((if a.2 - b.2 < 0 then -(a.2 - b.2) else a.2 - b.2) + wd) = (G:Int)∧W≤13∧G≤13∧W * G≤39:=by
 obtain ⟨W,hW⟩:∃ W:Nat,((if a.1 - b.1 < 0 then -(a.1 - b.1) else a.1 - b.1) + wd) = (W:Int):=⟨((if a.1 - b.1 < 0 then -(a.1 - b.1) else a.1 - b.1) + wd).toNat,by split <;> omega⟩
 obtain ⟨G,hG⟩:∃ G:Nat,((if a.2 - b.2 < 0 then -(a.2 - b.2) else a.2 - b.2) + wd) = (G:Int):=⟨((if a.2 - b.2 < 0 then -(a.2 - b.2) else a.2 - b.2) + wd).toNat,by split <;> omega⟩
 refine ⟨W,G,hW,hG,?_⟩
 rcases h with ⟨h1,h2,h3⟩ | ⟨h1,h2,h3⟩
 ·have w3:W≤3:=by split at hW <;> omega
  have g13:G≤13:=by split at hG <;> omega
  exact ⟨by omega,g13,Nat.mul_le_mul w3 g13⟩
 ·have w13:W≤13:=by split at hW <;> omega
  have g3:G≤3:=by split at hG <;> omega
  exact ⟨w13,by omega,Nat.mul_le_mul w13 g3⟩
theorem cor_at {K:PySem.W.Frag} {H:Hp} {p0:Addr} {ps:List Addr} {q0:Int × Int} {r:List (Int × Int)} (C:Corners K H (p0 :: ps) ((q0 :: r).map pv2)) {i:Nat} {p:Addr} {q:Int × Int} (h1:(p0 :: ps)[i]? = some p) (h2:(q0 :: r)[i]? = some q):H p = some (.tup [.int q.1,.int q.2]) :=
 C.at_ i p (pv2 q) h1 (by rw [List.getElem?_map,h2]; rfl)
theorem cor_at' {K:PySem.W.Frag} {H:Hp} {p0:Addr} {ps:List Addr} {q0:Int × Int} {r:List (Int × Int)} (C:Corners K H (p0 :: ps) ((q0 :: r).map pv2)) {i:Nat} {p:Addr} {q:Int × Int} (h1:(p0 :: p0 :: ps)[i]? = some p) (h2:(q0 :: q0 :: r)[i]? = some q):H p = some (.tup [.int q.1,.int q.2]):=by
 cases i with
 | zero => cases h1; cases h2; exact cor_at C (i:=0) rfl rfl
 | succ i => exact cor_at C h1 h2
theorem slW_go {K:PySem.W.Frag} {H:Hp} {p p0:Addr} {ps:List Addr} {Q:VK} (h:H p = some (.tup ((p0 :: ps).map V.ref))) (hQ:∀ a1 Hc,Same H Hc→Hc a1 = some (.tup [V.ref p0])→Q (.ref a1) Hc):rSlW K (.ref p) none (some 1) H Q:=by
 have e0:∀ n:Nat,HT.sIx (n + 1) 0 none = 0:=fun n => rfl
 have e1:∀ n:Nat,HT.sIx (n + 1) (n + 1) (some 1) = 1:=fun n => by
  simp [HT.sIx]
  try omega
 refine ⟨p,_,rfl,SqT.of h,fun hw => ?_,fun hw p1 hp1 => ?_⟩
 ·have:=hw.2
  rw [show ((p0 :: ps).map V.ref).length = ps.length + 1 by simp,e1] at this
  have:ps = []:=List.length_eq_zero_iff.mp (by omega)
  subst this
  exact hQ p H (Same.refl H) h
 ·have e:cutV ((p0 :: ps).map V.ref) none (some 1) = [V.ref p0]:=by
   unfold cutV
   rw [show ((p0 :: ps).map V.ref).length = ps.length + 1 by simp,e0,e1]
   rfl
  rw [e]
  exact hQ p1 _ (same_new (Same.refl H) hp1) upd_same
theorem KeyAt.same {H H':Hp} {bs:List Addr} {ks:List (List Key)} (x:KeyAt H bs ks) (s:Same H H'):KeyAt H' bs ks:=⟨x.1,fun i b k h1 h2 => s _ _ (x.2 i b k h1 h2)⟩
theorem Prs.keys {H:Hp} {ps:List Addr} {pl:List (Int × Int)} (C:Prs H ps pl):KeyAt H ps (pl.map k2):=⟨by rw [C.1,List.length_map],fun i b k h1 h2 => by
 rw [List.getElem?_map] at h2
 obtain ⟨q,e,rfl⟩:=Option.map_eq_some_iff.mp h2
 exact C.2 i b q h1 e⟩
theorem args4 {x y W G W' G':Int} (h1:W = W') (h2:G = G'):[V.int x,V.int y,V.int W,V.int G] = [V.int x,V.int y,V.int W',V.int G']:=by rw [h1,h2]
section
variable {P:Program} {w:World} {K:PySem.W.Frag} {mg:Str→Option Value} {base:Heap} {t:Adr}
def spCellsL (K:PySem.W.Frag) (C:Addr):Sp:=fun vs H Q _ => ∃ (o dx p p0:Addr) (wd:Int) (ps:List Addr) (q0:Int × Int) (r:List (Int × Int)),vs = [.ref o]∧H o = some (.ins C dx (fL (.ref p) (.int wd)))∧H p = some (.tup ((p0 :: ps).map V.ref))∧Corners K H (p0 :: ps) ((q0 :: r).map pv2)∧(wd = 1∨wd = 3)∧r.length≤5∧inl (q0 :: r) ∧
 ∀ D bs ks H',Same H H'→H' D = some (.lst (bs.map V.ref))→KeyAt H' bs ks→IsLn wd q0 r ks→Q (.ref D) H'
theorem ok_Line_cells (T:Txt K mg t):GoodM P w K mg base 2 t.c_Line "cells" ["self"] (spCellsL K t.c_Line):=by
 obtain ⟨fd,F,b⟩:=T.F_Line_cells
 have G_box_places:=ok_box_places (P:=P) (w:=w) (base:=base) T
 refine ⟨T.cl_Line,_,fd,T.M_Line_cells,F.okX sc_Line_cells (fun vs H Q E h => ?_) (fun cdv A outer s H vs Q E hr h => ?_),b⟩
 ·obtain ⟨o,dx,p,p0,wd,ps,q0,r,rfl,_⟩:=h
  rfl
 ·obtain ⟨o,dx,p,p0,wd,ps,q0,r,rfl,ho,hp,C,hw,hl,hin,q⟩:=h
  refine ⟨_,(pss_cons (ps_set (i:=1) sc_Line_cells.nd rfl (Or.inl rfl) (pe_op op_fdiv (pe_fld (pv 0) rfl) pe_int))
   (pss_cons (ps_set (i:=2) sc_Line_cells.nd rfl (Or.inl rfl) (pe_lst pa_nil))
   (pss_cons (ps_for owns_of (pi_zipT rfl rfl T.n_zip (pa_cons (pe_op op_catT (pe_slice sl_tupW (pe_fld (pv 0) rfl) po_none (po_some pe_int)) (pe_fld (pv 0) rfl)) (pa_cons (pe_fld (pv 0) rfl) pa_nil))) (pg_tup rfl (pgs_cons (pg_name (i:=3) sc_Line_cells.nd rfl (Or.inl rfl)) (pgs_cons (pg_name (i:=4) sc_Line_cells.nd rfl (Or.inl rfl)) pgs_nil))) (pss_cons (ps_set (i:=5) sc_Line_cells.nd rfl (Or.inl rfl) (pe_op op_sub (pe_callB (call_min2 rfl) (by rfl) T.n_min b_min (pa_cons (pe_ix ix_tup (pv 3) pe_int (fun _ _ => rfl)) (pa_cons (pe_ix ix_tup (pv 4) pe_int (fun _ _ => rfl)) pa_nil))) (pv 1)))
   (pss_cons (ps_set (i:=6) sc_Line_cells.nd rfl (Or.inl rfl) (pe_op op_sub (pe_callB (call_min2 rfl) (by rfl) T.n_min b_min (pa_cons (pe_ix ix_tup (pv 3) pe_int (fun _ _ => rfl)) (pa_cons (pe_ix ix_tup (pv 4) pe_int (fun _ _ => rfl)) pa_nil))) (pv 1)))
   (pss_cons (ps_set (i:=7) sc_Line_cells.nd rfl (Or.inl rfl) (pe_op op_add (pe_callB call_abs (by rfl) T.n_abs b_abs (pa_cons (pe_op op_sub (pe_ix ix_tup (pv 3) pe_int (fun _ _ => rfl)) (pe_ix ix_tup (pv 4) pe_int (fun _ _ => rfl))) pa_nil)) (pe_fld (pv 0) rfl)))
   (pss_cons (ps_set (i:=8) sc_Line_cells.nd rfl (Or.inl rfl) (pe_op op_add (pe_callB call_abs (by rfl) T.n_abs b_abs (pa_cons (pe_op op_sub (pe_ix ix_tup (pv 3) pe_int (fun _ _ => rfl)) (pe_ix ix_tup (pv 4) pe_int (fun _ _ => rfl))) pa_nil)) (pe_fld (pv 0) rfl)))
   (pss_one (ps_expr (pe_bm PySem.F.plainAttrs_list PySem.F.slot_list_extend PySem.F.type_list_extend mt_extend (pv 2) (pa_cons (pe_callG G_box_places (hr.mono (by decide)) passes_of (by rfl) (pa_cons (pv 5) (pa_cons (pv 6) (pa_cons (pv 7) (pa_cons (pv 8) pa_nil))))) pa_nil)))))))))
   (pss_one (ps_ret (pe_callB (call_sortedS rfl) (by rfl) T.n_sorted b_sorted (pa_cons (pe_callTy (call_setT rfl hr.units) (by rfl) T.n_set b_set (pa_cons (pv 2) pa_nil)) pa_nil))))))),?_⟩
  refine ⟨_,rfl,o,_,dx,_,.int wd,rfl,ho,T.cl_Line,T.na_Line_width,by kernel_rfl,wd,2,rfl,rfl,⟨by decide,by decide⟩,(by show 0≤sizeLine; decide),fun D hD => ?_⟩
  have s1:=same_new (o:=.lst []) (Same.refl H) hD
  have eD1:upd H D (.lst []) D = some (.lst []):=upd_same
  generalize upd H D (.lst []) = H1 at s1 eD1
  refine ⟨_,rfl,o,_,dx,_,.ref p,rfl,s1 _ _ ho,T.cl_Line,T.na_Line_corners,by kernel_rfl,1,rfl,slW_go (s1 _ _ hp) fun a1 Hc sc ec => ?_⟩
  have s2:=Same.trans s1 sc
  have lenp:(p0 :: ps).length = (q0 :: r).length:=by have:=C.len; rw [List.length_map] at this; exact this
  refine ⟨_,rfl,o,_,dx,_,.ref p,rfl,s2 _ _ ho,T.cl_Line,T.na_Line_corners,by kernel_rfl,a1,p,_,_,rfl,rfl,SqT.of ec,SqT.of (s2 _ _ hp),(fun z => by cases z),?_,(fun z => by cases z),fun _ pc hpc => ?_⟩
  ·rw [List.length_map,lenp]
   exact Nat.le_trans (show _≤100 by simp; omega) (by decide)
  have s3:=same_new (o:=.tup ([V.ref p0] ++ (p0 :: ps).map V.ref)) s2 hpc
  have ex:upd Hc pc (.tup ([V.ref p0] ++ (p0 :: ps).map V.ref)) pc = some (.tup ((p0 :: p0 :: ps).map V.ref)):=upd_same
  have eD3:upd Hc pc (.tup ([V.ref p0] ++ (p0 :: ps).map V.ref)) D = some (.lst []):=by
   have:=sc _ _ eD1
   rw [upd_ne (ne_of_none this hpc)]; exact this
  generalize upd Hc pc (.tup ([V.ref p0] ++ (p0 :: ps).map V.ref)) = H3 at s3 ex eD3
  have nD:∀ {b u},H b = some u→b≠D:=fun e => ne_of_none e hD
  refine ⟨_,rfl,o,_,dx,_,.ref p,rfl,s3 _ _ ho,T.cl_Line,T.na_Line_corners,by kernel_rfl,pc,p,rfl,⟨_,SqT.of ex⟩,⟨_,SqT.of (s3 _ _ hp)⟩,for_zipT (xs:=(p0 :: p0 :: ps).map V.ref) (ys:=(p0 :: ps).map V.ref)
   (fun i σ H2 => ∃ (v3 v4 v5 v6 v7 v8:Option V) (as:List Addr),σ = [some (.ref o),some (.int (wd / 2)),some (.ref D),v3,v4,v5,v6,v7,v8]∧Same H H2∧H2 pc = some (.tup ((p0 :: p0 :: ps).map V.ref))∧H2 D = some (.lst (as.map V.ref))∧as.length≤39 * i∧Prs H2 as (bxs wd ((zsL q0 r).take i))) (by simp) ⟨_,_,_,_,_,_,[],rfl,s3,ex,eD3,Nat.zero_le _,Prs.nil⟩ ?_ ?_ ?_⟩
  ·rintro i σ H2 _ ⟨_,_,_,_,_,_,as,rfl,s4,e4,_⟩
   exact ⟨SqT.of e4,SqT.of (s4 _ _ hp)⟩
  ·rintro i x y pz σ H2 hx hy hpz ⟨v3,v4,v5,v6,v7,v8,as,rfl,s4,e4,eD,la,C4⟩
   rw [List.getElem?_map] at hx hy
   obtain ⟨pa,ha,rfl⟩:=Option.map_eq_some_iff.mp hx
   obtain ⟨pb,hb,rfl⟩:=Option.map_eq_some_iff.mp hy
   have hi:i < (q0 :: r).length:=by rw [← lenp]; exact (List.getElem?_eq_some_iff.mp hb).1
   obtain ⟨qb,hqb⟩:∃ qb,(q0 :: r)[i]? = some qb:=⟨_,List.getElem?_eq_getElem hi⟩
   obtain ⟨qa,hqa⟩:∃ qa,(q0 :: q0 :: r)[i]? = some qa:=⟨_,List.getElem?_eq_getElem (by rw [List.length_cons]; omega)⟩
   have ea0:=s4 _ _ (cor_at' C ha hqa)
   have eb0:=s4 _ _ (cor_at C hb hqb)
   obtain ⟨W,G,hW,hG,w13,g13,ar⟩:=area hw (nr_at hin hqa hqb)
   have s5:=same_new (o:=.tup [V.ref pa,V.ref pb]) (Same.refl H2) hpz
   have ez:upd H2 pz (.tup [V.ref pa,V.ref pb]) pz = some (.tup [V.ref pa,V.ref pb]):=upd_same
   generalize upd H2 pz (.tup [V.ref pa,V.ref pb]) = H5 at s5 ez
   have ea:=s5 _ _ ea0
   have eb:=s5 _ _ eb0
   have ho5:=s5 _ _ (s4 _ _ ho)
   have bxe:bxs wd ((zsL q0 r).take (i + 1)) = bxs wd ((zsL q0 r).take i) ++ plI ((if qb.1 < qa.1 then qb.1 else qa.1) - wd / 2) ((if qb.2 < qa.2 then qb.2 else qa.2) - wd / 2) W G:=by
    have hz:(zsL q0 r)[i]? = some (qa,qb):=by unfold zsL; rw [List.getElem?_zip_eq_some]; exact ⟨hqa,hqb⟩
    unfold bxs
    rw [List.take_add_one,hz,List.flatMap_append]
    simp only [Option.toList_some,List.flatMap_cons,List.flatMap_nil,List.append_nil]
    congr 1
    unfold bx
    rw [hW,hG]
    rfl
   refine ⟨pz,_,rfl,SqT.of ez,rfl,_,_,rfl,_,_,rfl,rfl,?_⟩
   refine ⟨_,rfl,pa,_,0,.int qa.1,rfl,rfl,SqT.of ea,atI_nat (j:=0) rfl,_,rfl,pb,_,0,.int qb.1,rfl,rfl,SqT.of eb,atI_nat (j:=0) rfl,_,_,rfl,_,rfl,_,_,rfl,rfl,?_⟩
   refine ⟨_,rfl,pa,_,1,.int qa.2,rfl,rfl,SqT.of ea,atI_nat (j:=1) rfl,_,rfl,pb,_,1,.int qb.2,rfl,rfl,SqT.of eb,atI_nat (j:=1) rfl,_,_,rfl,_,rfl,_,_,rfl,rfl,?_⟩
   refine ⟨_,rfl,pa,_,0,.int qa.1,rfl,rfl,SqT.of ea,atI_nat (j:=0) rfl,_,rfl,pb,_,0,.int qb.1,rfl,rfl,SqT.of eb,atI_nat (j:=0) rfl,_,_,rfl,rfl,_,rfl,_,rfl,o,_,dx,_,.int wd,rfl,ho5,T.cl_Line,T.na_Line_width,by kernel_rfl,_,_,rfl,rfl,?_⟩
   refine ⟨_,rfl,pa,_,1,.int qa.2,rfl,rfl,SqT.of ea,atI_nat (j:=1) rfl,_,rfl,pb,_,1,.int qb.2,rfl,rfl,SqT.of eb,atI_nat (j:=1) rfl,_,_,rfl,rfl,_,rfl,_,rfl,o,_,dx,_,.int wd,rfl,ho5,T.cl_Line,T.na_Line_width,by kernel_rfl,_,_,rfl,rfl,?_⟩
   refine ⟨_,rfl,.inl ⟨rfl,_,SqL.of (s5 _ _ eD)⟩,_,rfl,_,rfl,_,rfl,_,rfl,_,_,W,G,args4 hW hG,w13,g13,fun D2 bs2 H6 s6 e6 C6 => ?_⟩
   have eD6:=s6 _ _ (s5 _ _ eD)
   have l6:bs2.length≤39:=by rw [C6.1,plI_len]; exact ar
   have hi6:i < 6:=by rw [List.length_cons] at hi; omega
   refine ⟨D,D2,_,_,rfl,rfl,eD6,e6,?_,_,_,_,_,_,_,as ++ bs2,rfl,fun b u e => ?_,?_,by rw [upd_same,List.map_append],?_,?_⟩
   ·rw [List.length_map,List.length_map]
    exact Nat.le_trans (show _≤1000 by omega) (by decide)
   ·rw [upd_ne (nD e)]
    exact s6 _ _ (s5 _ _ (s4 _ _ e))
   ·have:=s6 _ _ (s5 _ _ e4)
    rw [upd_ne (ne_of this eD6 (by intro z; cases z))]; exact this
   ·rw [List.length_append]; omega
   ·rw [bxe]
    exact (((C4.same s5).same s6).app C6).wr eD6
  ·rintro σ H2 ⟨v3,v4,v5,v6,v7,v8,as,rfl,s4,e4,eD,la,C4⟩
   have full:(zsL q0 r).take ((p0 :: ps).map V.ref).length = zsL q0 r:=List.take_of_length_le (by unfold zsL; rw [List.length_zip,List.length_map,lenp]; exact Nat.min_le_right _ _)
   rw [full] at C4
   have C4:Prs H2 as (lnP wd q0 r):=C4
   have ll:((p0 :: ps).map V.ref).length≤6:=by rw [List.length_map,lenp,List.length_cons]; omega
   refine ⟨_,rfl,D,as,_,rfl,eD,C4.keys,?_,fun S us led hS nd mem lk => ?_⟩
   ·rw [List.length_map,← C4.1]; omega
   have form:∀ x∈us,∃ c,x.1 = k2 c:=fun x hx => by
    have:=(mem x.1).mp (List.mem_map_of_mem hx)
    obtain ⟨c,_,e⟩:=List.mem_map.mp this
    exact ⟨c,e.symm⟩
   have s7:Same H2 (upd H2 S (.ext (SetE P w S us led))):=same_new (Same.refl H2) hS
   refine ⟨S,us,led,sd (k2 (0,0)),rfl,upd_same,fun x hx => s7 _ _ (lk x hx),fun x hx => ?_,by decide,?_,fun l bs' ks' hl' ka pm up => q l bs' ks' _ (Same.trans (Same.trans s4 s7) (same_new (Same.refl _) hl')) upd_same (KeyAt.same ka (same_new (Same.refl _) hl')) ⟨up,pm.nodup_iff.mpr nd,fun k => pm.mem_iff.trans (mem k)⟩⟩
   ·obtain ⟨c,e⟩:=form x hx
    rw [e]
    exact ⟨fun y hy => by
     simp only [k2,List.mem_cons,List.not_mem_nil,or_false] at hy
     rcases hy with rfl | rfl <;> exact ⟨_,rfl⟩,rfl⟩
   ·have h1:(us.map (·.1)).length≤((lnP wd q0 r).map k2).length:=List.Nodup.length_le_of_subset nd fun k hk => (mem k).mp hk
    rw [List.length_map,List.length_map,← C4.1] at h1
    omega
end
end K03
namespace K03
open PySem L2 Wd TS STb
def wK (kind:Int):Str:=if kind = 0 then "block" else if kind = 1 then "frame" else "line"
theorem Corners.but {K:PySem.W.Frag} {o:Addr} {H H':Hp} {ps:List Addr} {cs:List (V × V)} (C:Corners K H ps cs) (k:But o H H') (hn:∀ c,H o≠some (.tup c)):Corners K H' ps cs :=
 ⟨C.len,fun i p c h1 h2 => k _ _ (fun z => hn _ (z▸C.at_ i p c h1 h2)) (C.at_ i p c h1 h2)⟩
theorem Corners.snoc {K:PySem.W.Frag} {H:Hp} {ps:List Addr} {cs:List (V × V)} {p D:Addr} {c:V × V} {ys ys':List V} (C:Corners K H ps cs) (hp:H p = none) (hD:H D = some (.lst ys)) :
  Corners K (L2.upd (L2.upd H p (.tup [c.1,c.2])) D (.lst ys')) (ps ++ [p]) (cs ++ [c]):=by
 refine ⟨by rw [List.length_append,List.length_append,C.len]; rfl,fun j q d h1 h2 => ?_⟩
 by_cases hj:j < ps.length
 ·rw [List.getElem?_append_left hj] at h1
  rw [List.getElem?_append_left (C.len▸hj)] at h2
  have e:=C.at_ j q d h1 h2
  have n1:q≠D:=fun z => by rw [z,hD] at e; cases e
  rw [upd_ne n1,upd_ne (ne_of_none e hp)]; exact e
 ·rw [List.getElem?_append_right (by omega)] at h1
  rw [List.getElem?_append_right (by rw [← C.len]; omega),← C.len] at h2
  obtain ⟨m,hm⟩:∃ m,m = j - ps.length:=⟨_,rfl⟩
  rw [← hm] at h1 h2
  cases m with
  | zero =>
   cases h1; cases h2
   have n1:p≠D:=fun z => by rw [z,hD] at hp; cases hp
   rw [upd_ne n1,upd_same]
  | succ m => cases h1
theorem size12b (c:Nat):(Builtin.Range.rangeSize 1 (((2 * c + 1:Nat)):Int) 2).toNat = c:=by
 unfold Builtin.Range.rangeSize
 rw [if_pos (by decide)]
 by_cases h:(1:Int) < (((2 * c + 1:Nat)):Int)
 ·rw [if_pos h]; omega
 ·rw [if_neg h]; omega
theorem inl_inlI {qs:List (Int × Int)} (h:inl qs):inlI qs:=fun i x y h1 h2 => by
 rcases inl_step h h1 h2 with z | z
 ·exact .inl z.1
 ·exact .inr z.1
section
variable {P:Program} {w:World} {K:PySem.W.Frag} {mg:Str→Option Value} {base:Heap} {t:Adr}
def spShape (K:PySem.W.Frag) (t:Adr):Sp:=fun vs H Q E => ∃ (kind:Int) (a:Addr) (ns:List Int),vs = [.int kind,.ref a]∧SqL K H a (ns.map V.int)∧OkN kind ns∧∀ o H',Same H H'→Ob K t H' o (wK kind) ns→Q (.ref o) H'
theorem ok_law_shape (T:Txt K mg t):GoodF P w K mg base 6 "_law_shape" ["_law_kind","_law_numbers_here"] (spShape K t):=by
 obtain ⟨fd,F,b⟩:=T.F_law_shape
 have G_Block:=ok_Block_init (P:=P) (w:=w) (base:=base) T
 have G_Frame:=ok_Frame_init (P:=P) (w:=w) (base:=base) T
 have G_Line:=ok_Line_init (P:=P) (w:=w) (base:=base) T
 refine ⟨_,fd,F.okX sc_law_shape (fun vs H Q E h => ?_) (fun cdv A outer s H vs Q E hr h => ?_),b,F.kp,T.g__law_shape⟩
 ·obtain ⟨kind,a,ns,rfl,_⟩:=h
  rfl
 ·obtain ⟨kind,a,ns,rfl,hq,sh,kQ⟩:=h
  refine ⟨_,(pss_cons (ps_if (pt_cmpR op_eq (pv 0) pe_int (nomark _)) (pss_one (ps_ret (pe_makeG G_Block (hr.mono (by decide)) passes_of (by rfl) (pa_cons (pe_ix ix_list (pv 1) pe_int (fun _ _ => rfl)) (pa_cons (pe_ix ix_list (pv 1) pe_int (fun _ _ => rfl)) (pa_cons (pe_ix ix_list (pv 1) pe_int (fun _ _ => rfl)) (pa_cons (pe_ix ix_list (pv 1) pe_int (fun _ _ => rfl)) pa_nil))))))) pss_nil)
   (pss_cons (ps_if (pt_cmpR op_eq (pv 0) pe_int (nomark _)) (pss_one (ps_ret (pe_makeG G_Frame (hr.mono (by decide)) passes_of (by rfl) (pa_cons (pe_ix ix_list (pv 1) pe_int (fun _ _ => rfl)) (pa_cons (pe_ix ix_list (pv 1) pe_int (fun _ _ => rfl)) (pa_cons (pe_ix ix_list (pv 1) pe_int (fun _ _ => rfl)) (pa_cons (pe_ix ix_list (pv 1) pe_int (fun _ _ => rfl)) (pa_cons (pe_ix ix_list (pv 1) pe_int (fun _ _ => rfl)) pa_nil)))))))) pss_nil)
   (pss_one (ps_ret (pe_makeG G_Line (hr.mono (by decide)) passes_of (by rfl) (pa_cons (pe_comp (own:=["_law_at"]) (cs_one (n:="_law_numbers_here") (N:=["_law_kind","_law_numbers_here"]) rfl (by rfl) (by rfl) rfl (by rfl) (by decide +kernel) (by decide +kernel) (by decide +kernel)) (pi_range3 rfl T.n_range (pa_cons pe_int (pa_cons (pe_callB call_len_seq (by rfl) T.n_len b_len (pa_cons (pv 1) pa_nil)) (pa_cons pe_int pa_nil)))) (fun _ _ _ _ _ => pg_name (i:=2) (by show (["_law_kind","_law_numbers_here","_law_at"]:List Str).Nodup; decide +kernel) rfl (Or.inl rfl)) (fun _ _ _ _ _ => pf_nil) (fun _ _ _ _ _ => (pe_tup (pa_cons (pe_ix (ix_listK (K:=K) rfl) (pv 1) (pv 2) (fun _ _ => rfl)) (pa_cons (pe_ix (ix_listK (K:=K) rfl) (pv 1) (pe_op op_add (pv 2) pe_int) (fun _ _ => rfl)) pa_nil))))) (pa_cons (pe_ix ix_list (pv 1) pe_int (fun _ _ => rfl)) pa_nil))))))),?_⟩
  refine ⟨_,rfl,rfl,_,rfl,?_⟩
  cases sh with
  | block x y wd hg h1 h2 h3 h4 =>
   refine iteD (fun _ => ?_) fun h => absurd rfl h
   refine ⟨_,rfl,a,_,0,.int x,rfl,rfl,hq,atI_nat (j:=0) rfl,_,rfl,a,_,1,.int y,rfl,rfl,hq,atI_nat (j:=1) rfl,_,rfl,a,_,2,.int wd,rfl,rfl,hq,atI_nat (j:=2) rfl,_,rfl,a,_,3,.int hg,rfl,rfl,hq,atI_nat (j:=3) rfl,?_⟩
   intro o dx ho hdx hne
   have g2:[V.int wd,V.int hg].all ge1 = true:=(ge_all [wd,hg]).mpr fun n hn => by simp at hn; rcases hn with rfl | rfl <;> assumption
   exact ⟨o,dx,.int x,.int y,.int wd,.int hg,rfl,upd_same,rfl,fun _ _ H' k e => ⟨rfl,kQ o H' (make_but (Same.refl H) ho hdx k) (.block dx x y wd hg e)⟩,fun ng => absurd ⟨rfl,g2⟩ ng⟩
  | frame x y wd hg k h1 h2 h3 h4 h5 h6 =>
   refine iteD (fun h => nomatch h) fun _ => ?_
   refine ⟨_,rfl,rfl,_,rfl,iteD (fun _ => ?_) fun h => absurd rfl h⟩
   refine ⟨_,rfl,a,_,0,.int x,rfl,rfl,hq,atI_nat (j:=0) rfl,_,rfl,a,_,1,.int y,rfl,rfl,hq,atI_nat (j:=1) rfl,_,rfl,a,_,2,.int wd,rfl,rfl,hq,atI_nat (j:=2) rfl,_,rfl,a,_,3,.int hg,rfl,rfl,hq,atI_nat (j:=3) rfl,_,rfl,a,_,4,.int k,rfl,rfl,hq,atI_nat (j:=4) rfl,?_⟩
   intro o dx ho hdx hne
   have g2:[V.int wd,V.int hg,V.int k].all ge1 = true:=(ge_all [wd,hg,k]).mpr fun n hn => by simp at hn; rcases hn with rfl | rfl | rfl <;> assumption
   exact ⟨o,dx,.int x,.int y,.int wd,.int hg,.int k,rfl,upd_same,rfl,fun _ _ H' kk e => ⟨rfl,kQ o H' (make_but (Same.refl H) ho hdx kk) (.frame dx x y wd hg k e)⟩,fun ng => absurd ⟨rfl,g2⟩ ng⟩
  | line wd qs hw hne' hl hin =>
   refine iteD (fun h => nomatch h) fun _ => ?_
   refine ⟨_,rfl,rfl,_,rfl,iteD (fun h => nomatch h) fun _ => ?_⟩
   have hlen:((wd :: flat qs).map V.int).length = 2 * qs.length + 1:=by rw [List.length_map,List.length_cons,flat_length]
   refine ⟨_,rfl,a,_,rfl,.inl hq,1,_,2,rfl,⟨by decide,by decide,by decide,by decide,?_,?_⟩,?_⟩
   ·rw [hlen]; omega
   ·rw [hlen]; omega
   rw [hlen,size12b]
   intro D hD
   refine ⟨fun i m ys H' => m = qs.length - i∧i≤qs.length∧Same H H'∧H' D = some (.lst ys)∧∃ ps:List Addr,ys = ps.map V.ref∧Corners K H' ps ((qs.take i).map pv2),⟨qs.length,by simp,Nat.zero_le _,same_new (Same.refl H) hD,upd_same,[],rfl,rfl,fun j p c h1 => by cases h1⟩,?_⟩
   rintro i m ys H' ⟨rfl,hi,s',eD,ps,rfl,C⟩
   refine ⟨eD,?_⟩
   have hq':=s'.seq hq
   by_cases hlt:i < qs.length
   ·
    refine .inr ⟨hlt,?_,?_⟩
    ·rw [List.length_map,C.len,List.length_map,List.length_take]
     exact Nat.lt_of_lt_of_le (show _ < 100 by omega) (by decide)
    ·rintro x H'' ⟨rfl,rfl⟩
     obtain ⟨c,hc1⟩:∃ c,qs[i]? = some c:=⟨qs[i],List.getElem?_eq_getElem hlt⟩
     have A1:atI ((wd :: flat qs).map V.int) (1 + (i:Int) * 2) = some (.int c.1):=at_flat (j:=2 * i) (by omega) (by rw [flat_1,hc1]; rfl)
     have A3:atI ((wd :: flat qs).map V.int) (1 + (i:Int) * 2 + 1) = some (.int c.2):=at_flat (j:=2 * i + 1) (by omega) (by rw [flat_2,hc1]; rfl)
     refine ⟨⟨_,rfl,rfl⟩,iteT ⟨_,rfl,_,rfl,a,_,_,.int c.1,rfl,rfl,hq',A1,_,rfl,_,rfl,_,1,rfl,rfl,a,_,_,.int c.2,rfl,rfl,hq',A3,(by show 2≤sizeLine; decide),fun p hp => ?_⟩⟩
     have nDp:D≠p:=ne_of_none eD hp
     refine ⟨by rw [upd_ne nDp]; exact eD,qs.length - (i + 1),by omega,rfl,hlt,fun b u e => ?_,upd_same,ps ++ [p],by simp,?_⟩
     ·have e1:=s' b u e
      rw [upd_ne (ne_of_none e hD),upd_ne (ne_of_none e1 hp)]; exact e1
     ·rw [List.take_add_one,hc1,List.map_append]
      exact C.snoc (c:=pv2 c) hp eD
   ·
    obtain rfl:i = qs.length:=by omega
    rw [List.take_length] at C
    refine .inl ⟨Nat.le_refl _,?_⟩
    refine ⟨_,rfl,a,_,0,.int wd,rfl,rfl,hq',atI_nat (j:=0) rfl,?_⟩
    intro o dx ho hdx hne
    have sm:Same H' (upd (upd H' dx (.own o)) o (.ins t.c_Line dx [])):=make_same (Same.refl H') ho hdx
    have good:=pv_good (wd:=wd) (qs:=qs) |>.mpr ⟨hw,List.length_pos_iff.mpr hne',by omega,inl_inlI hin⟩
    refine ⟨o,dx,D,ps,qs.map pv2,.int wd,rfl,upd_same,sm _ _ eD,C.same sm,pv_nC qs,by rw [List.length_map]; omega,rfl,fun g g13 p H'' k ep eo => ⟨rfl,?_⟩,fun ng => absurd good ng⟩
    have C2:=(C.same sm).but k (fun c z => by rw [upd_same] at z; cases z)
    exact kQ o H'' (make_but s' ho hdx k) (.line dx p wd ps qs eo ep C2 (by omega))
end
end K03
namespace K03
open PySem L2 Wd TS STb
theorem ng_num {n:Nat} (h1:1≤n) (h:n < 10 ^ 40):isNumL (tx (-(n:Int))).cps.toList = true∧numL (tx (-(n:Int))).cps.toList = -(n:Int):=by
 have hd:=sg_dig n
 have hne:(Nat.toDigits 10 n).map Char.toNat≠[]:=fun e => Nat.toDigits_ne_nil (List.map_eq_nil_iff.mp e)
 have hl:((Nat.toDigits 10 n).map Char.toNat).length≤40:=by rw [List.length_map]; exact (Nat.length_toDigits_le_iff (by decide) (by decide)).mpr h
 have lead:=sg_lead n
 have val:=sg_val n
 generalize (Nat.toDigits 10 n).map Char.toNat = D at hd hne hl lead val
 have ok:isNumL (45 :: D) = true:=by
  have g1:1≤D.length:=List.length_pos_iff.mpr hne
  have g3:D.all isDig = true:=List.all_eq_true.mpr fun c hc => by
   have:=hd c hc
   unfold isDig
   rw [decide_eq_true this.1,decide_eq_true this.2]; rfl
  have g4:(D.head? == some 48) = false:=by
   rw [beq_eq_false_iff_ne]; exact fun e => absurd (lead e) (by omega)
  unfold isNumL
  rw [figs_neg,decide_eq_true g1,decide_eq_true hl,g3,g4]
  rfl
 have e:numL (45 :: D) = -(n:Int):=by
  unfold numL
  rw [if_pos (show (45 :: D).head? = some 45 from rfl),figs_neg,val]
 have tw:=tx_num (w:=⟨(45 :: D).toArray⟩) (numOk ok)
 rw [show (⟨(45 :: D).toArray⟩:Str).cps.toList = 45 :: D from rfl,e] at tw
 rw [tw]
 exact ⟨ok,e⟩
abbrev B40:Int:=10000000000000000000000000000000000000000
def Sm (n:Int):Prop:=-B40 < n∧n < B40
theorem sm_num {n:Int} (h:Sm n):isNumL (tx n).cps.toList = true∧numL (tx n).cps.toList = n:=by
 have hB:B40 = 10000000000000000000000000000000000000000:=rfl
 have hp:(10:Nat) ^ 40 = 10000000000000000000000000000000000000000:=by decide
 obtain ⟨h1,h2⟩:=h
 rcases Int.le_total 0 n with z | z
 ·obtain ⟨k,rfl⟩:=Int.eq_ofNat_of_zero_le z
  exact sg_num (by rw [hp]; omega)
 ·by_cases e:n = 0
  ·subst e; exact sg_num (n:=0) (by decide)
  ·obtain ⟨k,rfl⟩:∃ k:Nat,n = -(k:Int):=⟨n.natAbs,by omega⟩
   exact ng_num (by omega) (by rw [hp]; omega)
theorem all_tx {ns:List Int} (h:∀ n∈ns,Sm n):allN (ns.map tx) = true:=List.all_eq_true.mpr fun x hx => by
 obtain ⟨n,hn,rfl⟩:=List.mem_map.mp hx
 exact (sm_num (h n hn)).1
theorem nsOf_tx {ns:List Int} (h:∀ n∈ns,Sm n):nsOf (ns.map tx) = ns:=by
 unfold nsOf
 rw [List.map_map]
 refine (List.map_congr_left fun n hn => ?_).trans (List.map_id' ns)
 exact (sm_num (h n hn)).2
theorem sm_lg {n:Int} (h:Sm n):Lg n:=by
 have:=sm_num h
 rw [← this.2]
 exact (numOk this.1).lg
theorem wK_free (kind:Int):32 ∉ (wK kind).cps.toList:=by
 unfold wK
 split
 ·decide +kernel
 ·split <;> decide +kernel
theorem wK_len (kind:Int):(wK kind).length≤2000:=by
 unfold wK
 split
 ·decide +kernel
 ·split <;> decide +kernel
theorem OkN.sh {kind:Int} {ns:List Int} (h:OkN kind ns):Sh (wK kind) ns:=by
 cases h with
 | block x y wd hg h1 h2 h3 h4 => exact (Sh.block (w0:="block") rfl).mpr ⟨rfl,fun n hn => by simp at hn; rcases hn with rfl | rfl <;> assumption⟩
 | frame x y wd hg k h1 h2 h3 h4 h5 h6 => exact (Sh.frame (w0:="frame") rfl).mpr ⟨rfl,fun n hn => by simp at hn; rcases hn with rfl | rfl | rfl <;> assumption⟩
 | line wd qs hw hne hl hin => exact sh_line.mpr ⟨hw,List.length_pos_iff.mpr hne,by omega,inl_inlI hin⟩
theorem OkN.few {k:Int} {ns:List Int} (h:OkN k ns):0≤k∧k < 3∧ns.length≤13:=by
 cases h with
 | block => exact ⟨by decide,by decide,by show 4≤13; decide⟩
 | frame => exact ⟨by decide,by decide,by show 5≤13; decide⟩
 | line w ps _ hne hl _ =>
  refine ⟨by decide,by decide,?_⟩
  rw [List.length_cons,flat_length]; omega
def Cl (kind:Int) (ns:List Int) (ks:List (List Key)):Prop :=
 (∃ (x y:Int) (wd hg:Nat),kind = 0∧ns = [x,y,(wd:Int),(hg:Int)]∧ks = (plI x y wd hg).map k2) ∨
 (∃ (x y k:Int) (wd hg:Nat),kind = 1∧ns = [x,y,(wd:Int),(hg:Int),k]∧ks = ((plI x y wd hg).filter fun q => decide (edg x y wd hg q < k)).map k2) ∨
 (∃ (wd:Int) (q0:Int × Int) (r:List (Int × Int)),kind = 2∧ns = wd :: flat (q0 :: r)∧IsLn wd q0 r ks)
theorem Cl.uniq {kind:Int} {ns:List Int} {a b:List (List Key)} (hx:Cl kind ns a) (hy:Cl kind ns b):a = b:=by
 rcases hx with ⟨x,y,wd,hg,rfl,rfl,rfl⟩ | ⟨x,y,k,wd,hg,rfl,rfl,rfl⟩ | ⟨wd,q0,r,rfl,rfl,h⟩
 ·rcases hy with ⟨x2,y2,wd2,hg2,_,hns,rfl⟩ | ⟨_,_,_,_,_,hk,_⟩ | ⟨_,_,_,hk,_⟩
  ·simp only [List.cons.injEq,and_true,Int.ofNat_inj] at hns
   obtain ⟨rfl,rfl,e3,e4⟩:=hns
   obtain rfl:wd = wd2:=by omega
   obtain rfl:hg = hg2:=by omega
   rfl
  ·cases hk
  ·cases hk
 ·rcases hy with ⟨_,_,_,_,hk,_⟩ | ⟨x2,y2,k2,wd2,hg2,_,hns,rfl⟩ | ⟨_,_,_,hk,_⟩
  ·cases hk
  ·simp only [List.cons.injEq,and_true,Int.ofNat_inj] at hns
   obtain ⟨rfl,rfl,e3,e4,rfl⟩:=hns
   obtain rfl:wd = wd2:=by omega
   obtain rfl:hg = hg2:=by omega
   rfl
  ·cases hk
 ·rcases hy with ⟨_,_,_,_,hk,_⟩ | ⟨_,_,_,_,_,hk,_⟩ | ⟨wd2,q2,r2,_,hns,h2⟩
  ·cases hk
  ·cases hk
  ·injection hns with e1 hns
   obtain rfl:=e1
   have:=flat_inj hns
   injection this with e2 e3
   subst e2; subst e3
   exact h.uniq h2
section
variable {P:Program} {w:World} {K:PySem.W.Frag} {mg:Str→Option Value} {base:Heap} {t:Adr}
def spSort (K:PySem.W.Frag) (t:Adr):Sp:=fun vs H Q _ => ∃ (o:Addr) (kind:Int) (ns:List Int),vs = [.ref o,.int kind]∧0≤kind∧kind < 3∧Ob K t H o (wK kind) ns∧Q (.bl true) H
theorem ok_law_is_sort (T:Txt K mg t):GoodF P w K mg base 1 "_law_is_sort" ["_law_shape_here","_law_kind"] (spSort K t):=by
 obtain ⟨fd,F,b⟩:=T.F_law_is_sort
 refine ⟨_,fd,F.okX sc_law_is_sort (fun vs H Q E h => ?_) (fun cdv A outer s H vs Q E hr h => ?_),b,F.kp,T.g__law_is_sort⟩
 ·obtain ⟨o,kind,ns,rfl,_⟩:=h
  rfl
 ·obtain ⟨o,kind,ns,rfl,h0,h3,ob,q⟩:=h
  refine ⟨_,(pss_cons (ps_if (pt_cmpR op_eq (pv 1) pe_int (nomark _)) (pss_one (ps_ret (pe_callB call_isi (by rfl) T.n_isinstance b_isinstance (pa_cons (pv 0) (pa_cons (pe_glob (v:=.ref t.c_Block) (by rfl) T.g_Block rfl) pa_nil))))) pss_nil)
   (pss_cons (ps_if (pt_cmpR op_eq (pv 1) pe_int (nomark _)) (pss_one (ps_ret (pe_callB call_isi (by rfl) T.n_isinstance b_isinstance (pa_cons (pv 0) (pa_cons (pe_glob (v:=.ref t.c_Frame) (by rfl) T.g_Frame rfl) pa_nil))))) pss_nil)
   (pss_one (ps_ret (pe_callB call_isi (by rfl) T.n_isinstance b_isinstance (pa_cons (pv 0) (pa_cons (pe_glob (v:=.ref t.c_Line) (by rfl) T.g_Line rfl) pa_nil))))))),?_⟩
  refine ⟨_,rfl,rfl,_,rfl,?_⟩
  have hk:kind = 0∨kind = 1∨kind = 2:=by omega
  rcases hk with rfl | rfl | rfl
  ·refine iteD (fun _ => ?_) fun h => absurd rfl h
   have e0:wK 0 = "block":=rfl
   rw [e0] at ob
   generalize hw:("block":Str) = w0 at ob
   cases ob with
   | block dx x y wd hg e => exact ⟨_,rfl,.ref o,.ref t.c_Block,_,_,true,rfl,T.ty_Block _ _ _ _ e,.ref _,T.ki_Block_Block,q⟩
   | frame => exact absurd hw wd_bf
   | line => exact absurd hw wd_bl
  ·refine iteD (fun h => nomatch h) fun _ => ?_
   refine ⟨_,rfl,rfl,_,rfl,iteD (fun _ => ?_) fun h => absurd rfl h⟩
   have e0:wK 1 = "frame":=rfl
   rw [e0] at ob
   generalize hw:("frame":Str) = w0 at ob
   cases ob with
   | frame dx x y wd hg k e => exact ⟨_,rfl,.ref o,.ref t.c_Frame,_,_,true,rfl,T.ty_Frame _ _ _ _ e,.ref _,T.ki_Frame_Frame,q⟩
   | block => exact absurd hw.symm wd_bf
   | line => exact absurd hw wd_fl
  ·refine iteD (fun h => nomatch h) fun _ => ?_
   refine ⟨_,rfl,rfl,_,rfl,iteD (fun h => nomatch h) fun _ => ?_⟩
   have e0:wK 2 = "line":=rfl
   rw [e0] at ob
   generalize hw:("line":Str) = w0 at ob
   cases ob with
   | line dx p wd ps qs e => exact ⟨_,rfl,.ref o,.ref t.c_Line,_,_,true,rfl,T.ty_Line _ _ _ _ e,.ref _,T.ki_Line_Line,q⟩
   | block => exact absurd hw.symm wd_bl
   | frame => exact absurd hw.symm wd_fl
end
end K03
namespace K03
open PySem L2 Wd TS STb
theorem seq_gen {a b:TS} {D:Ends} {σ:St} {H:Hp} (R:St→Hp→Prop) (h1:∀ B:TS,(∀ σ H,R σ H→B D σ H)→tSeq a B D σ H) (h2:∀ σ H,R σ H→b D σ H):tSeq a b D σ H:=h1 b h2
theorem same_well {H H1 H2:Hp} {p:Addr} {o:HO} (s:Same H H1) (hp:H1 p = none) (k:Keep p (upd H1 p o) H2):Same H H2:=fun c u e => by
 have e1:=s c u e
 have nc:=ne_of_none e1 hp
 exact k c u nc (by rw [upd_ne nc]; exact e1)
theorem Ob.same {K:PySem.W.Frag} {t:Adr} {H H':Hp} {o:Addr} {w0:Str} {ns:List Int} (x:Ob K t H o w0 ns) (s:Same H H'):Ob K t H' o w0 ns:=by
 cases x with
 | block dx x y wd hg e => exact .block dx x y wd hg (s _ _ e)
 | frame dx x y wd hg k e => exact .frame dx x y wd hg k (s _ _ e)
 | line dx p wd ps qs e ep C h => exact .line dx p wd ps qs (s _ _ e) (s _ _ ep) (C.same s) h
theorem flat_both {q:Int × Int}:∀ {qs:List (Int × Int)},q∈qs→q.1∈flat qs∧q.2∈flat qs
 | a :: r,h => by
  rcases List.mem_cons.mp h with rfl | h
  ·exact ⟨.head _,.tail _ (.head _)⟩
  ·exact ⟨.tail _ (.tail _ (flat_both h).1),.tail _ (.tail _ (flat_both h).2)⟩
theorem told_go {K:PySem.W.Frag} {t:Adr} {H:Hp} {o:Addr} {w0:Str} {ns:List Int} {E:XK} {Q:VK} (ob:Ob K t H o w0 ns) (hlg:∀ n∈ns,Lg n) (q:∀ H',Same H H'→Q (.str (rowT w0 ns)) H') :
  rMeth0 t.c_Block "told" (spToldB t.c_Block) E (.ref o) H Q∨rMeth0 t.c_Frame "told" (spToldF t.c_Frame) E (.ref o) H Q∨rMeth0 t.c_Line "told" (spToldL K t.c_Line) E (.ref o) H Q:=by
 cases ob with
 | block dx x y wd hg e => exact .inl ⟨o,dx,_,rfl,e,by kernel_rfl,o,dx,x,y,wd,hg,rfl,e,hlg _ (by simp),hlg _ (by simp),hlg _ (by simp),hlg _ (by simp),q⟩
 | frame dx x y wd hg k e => exact .inr (.inl ⟨o,dx,_,rfl,e,by kernel_rfl,o,dx,x,y,wd,hg,k,rfl,e,hlg _ (by simp),hlg _ (by simp),hlg _ (by simp),hlg _ (by simp),hlg _ (by simp),q⟩)
 | line dx p wd ps qs e ep C h40 => exact .inr (.inr ⟨o,dx,_,rfl,e,by kernel_rfl,o,dx,p,wd,ps,qs,rfl,e,ep,C,h40,hlg _ (by simp),fun q hq => ⟨hlg _ (.tail _ (flat_both hq).1),hlg _ (.tail _ (flat_both hq).2)⟩,q⟩)
theorem cells_go {K:PySem.W.Frag} {t:Adr} {H:Hp} {o:Addr} {kind:Int} {ns:List Int} {E:XK} {Q:VK} (okn:OkN kind ns) (ob:Ob K t H o (wK kind) ns) (q:∀ D bs ks H',Same H H'→H' D = some (.lst (bs.map V.ref))→KeyAt H' bs ks→Cl kind ns ks→Q (.ref D) H') :
  rMeth0 t.c_Block "cells" (spCellsB t.c_Block) E (.ref o) H Q∨rMeth0 t.c_Frame "cells" (spCellsF t.c_Frame) E (.ref o) H Q∨rMeth0 t.c_Line "cells" (spCellsL K t.c_Line) E (.ref o) H Q:=by
 cases okn with
 | block x y wd hg h1 h2 h3 h4 =>
  generalize hw:wK 0 = w0 at ob
  generalize hns:[x,y,wd,hg] = ns at ob
  cases ob with
  | block dx x2 y2 wd2 hg2 e =>
   simp only [List.cons.injEq,and_true] at hns
   obtain ⟨rfl,rfl,rfl,rfl⟩:=hns
   obtain ⟨W,rfl⟩:=Int.eq_ofNat_of_zero_le (show 0≤wd by omega)
   obtain ⟨G,rfl⟩:=Int.eq_ofNat_of_zero_le (show 0≤hg by omega)
   exact .inl ⟨o,dx,_,rfl,e,by kernel_rfl,o,dx,x,y,W,G,rfl,e,by omega,by omega,fun D ps H' s' e' C => q D ps _ H' s' e' C.keys (.inl ⟨x,y,W,G,rfl,rfl,rfl⟩)⟩
  | frame => exact absurd (show ("block":Str) = "frame" from hw) wd_bf
  | line => exact absurd (show ("block":Str) = "line" from hw) wd_bl
 | frame x y wd hg k h1 h2 h3 h4 h5 h6 =>
  generalize hw:wK 1 = w0 at ob
  generalize hns:[x,y,wd,hg,k] = ns at ob
  cases ob with
  | frame dx x2 y2 wd2 hg2 k2 e =>
   simp only [List.cons.injEq,and_true] at hns
   obtain ⟨rfl,rfl,rfl,rfl,rfl⟩:=hns
   obtain ⟨W,rfl⟩:=Int.eq_ofNat_of_zero_le (show 0≤wd by omega)
   obtain ⟨G,rfl⟩:=Int.eq_ofNat_of_zero_le (show 0≤hg by omega)
   exact .inr (.inl ⟨o,dx,_,rfl,e,by kernel_rfl,o,dx,x,y,k,W,G,rfl,e,by omega,by omega,fun D ps H' s' e' C => q D ps _ H' s' e' C.keys (.inr (.inl ⟨x,y,k,W,G,rfl,rfl,rfl⟩))⟩)
  | block => exact absurd (show ("frame":Str) = "block" from hw).symm wd_bf
  | line => exact absurd (show ("frame":Str) = "line" from hw) wd_fl
 | line wd qs hw' hne hl hin =>
  generalize hw:wK 2 = w0 at ob
  generalize hns:wd :: flat qs = ns at ob
  cases ob with
  | line dx p wd2 ps qs2 e ep C h40 =>
   injection hns with e1 e2
   obtain rfl:=e1
   obtain rfl:=flat_inj e2
   obtain ⟨q0,r,rfl⟩:∃ q0 r,qs = q0 :: r:=by
    cases qs with
    | nil => exact absurd rfl hne
    | cons q0 r => exact ⟨q0,r,rfl⟩
   have len:=C.len
   obtain ⟨p0,ps',rfl⟩:∃ p0 ps',ps = p0 :: ps':=by
    cases ps with
    | nil => simp at len
    | cons p0 ps' => exact ⟨p0,ps',rfl⟩
   rw [List.length_cons] at hl
   exact .inr (.inr ⟨o,dx,_,rfl,e,by kernel_rfl,o,dx,p,p0,wd,ps',q0,r,rfl,e,ep,C,hw',by omega,hin,fun D bs ks H' s' e' ka ln => q D bs ks H' s' e' ka (.inr (.inr ⟨wd,q0,r,rfl,rfl,ln⟩))⟩)
  | block => exact absurd (show ("line":Str) = "block" from hw).symm wd_bl
  | frame => exact absurd (show ("line":Str) = "frame" from hw).symm wd_fl
def unI:Key→Int | .inl n => n | .inr _ => 0
theorem tups_of {K:PySem.W.Frag} {H:Hp} {bs:List Addr} {ks:List (List Key)} (ka:KeyAt H bs ks) (hi:∀ k∈ks,∀ c∈k,∃ n,c = Sum.inl n):Tups K H bs (ks.map fun k => k.map unI):=by
 refine ⟨by rw [ka.1,List.length_map],fun i p ns h1 h2 => ?_⟩
 rw [List.getElem?_map] at h2
 obtain ⟨k,e2,rfl⟩:=Option.map_eq_some_iff.mp h2
 have:=ka.2 i p k h1 e2
 refine SqT.of (this.trans ?_)
 rw [List.map_map]
 congr 2
 refine List.map_congr_left fun c hc => ?_
 obtain ⟨n,rfl⟩:=hi k (List.mem_of_getElem? e2) c hc
 rfl
theorem k2_ints {pl:List (Int × Int)}:∀ k∈pl.map k2,∀ c∈k,∃ n,c = Sum.inl n:=fun k hk c hc => by
 obtain ⟨q,_,rfl⟩:=List.mem_map.mp hk
 simp only [k2,List.mem_cons,List.not_mem_nil,or_false] at hc
 rcases hc with rfl | rfl <;> exact ⟨_,rfl⟩
theorem Cl.ints {kind:Int} {ns:List Int} {ks:List (List Key)} (h:Cl kind ns ks):∀ k∈ks,∀ c∈k,∃ n,c = Sum.inl n:=by
 rcases h with ⟨x,y,wd,hg,rfl,rfl,rfl⟩ | ⟨x,y,k,wd,hg,rfl,rfl,rfl⟩ | ⟨wd,q0,r,rfl,rfl,h⟩
 ·exact k2_ints
 ·exact k2_ints
 ·exact fun k hk => k2_ints k ((h.2.2 k).mp hk)
theorem bnd_sm {n:Int} (h:Bnd n):Sm n:=by
 have h1:B38 = 100000000000000000000000000000000000000:=rfl
 have h2:B40 = 10000000000000000000000000000000000000000:=rfl
 unfold Bnd at h
 unfold Sm
 omega
theorem pow40:(10:Int) ^ (40:Int).toNat = B40:=by decide
def Far (f:Int):Prop:=f = 0∨f = B40 - 1∨f = 1 - B40
theorem Far.sm {f:Int} (h:Far f):Sm f:=by
 have h2:B40 = 10000000000000000000000000000000000000000:=rfl
 unfold Far at h
 unfold Sm
 omega
theorem far_at {r:Int} (h0:0≤r) (h1:r < 3):∃ f,Far f∧atI [V.int 0,V.int ((10:Int) ^ (40:Int).toNat - 1),V.int (1 - (10:Int) ^ (40:Int).toNat)] r = some (.int f):=by
 rw [pow40]
 rcases (by omega:r = 0∨r = 1∨r = 2) with rfl | rfl | rfl
 ·exact ⟨0,.inl rfl,rfl⟩
 ·exact ⟨B40 - 1,.inr (.inl rfl),rfl⟩
 ·exact ⟨1 - B40,.inr (.inr rfl),rfl⟩
theorem OkN.put {kind:Int} {ns:List Int} (h:OkN kind ns) (hk:kind < 2) (f:Int) {r:Int} (h0:0≤r) (h1:r < 2):∃ j,ixN ((ns.map V.int).length) r = some j∧OkN kind (ns.set j f)∧∀ n∈ns.set j f,n = f∨n∈ns:=by
 have hm:∀ (j:Nat),∀ n∈ns.set j f,n = f∨n∈ns:=fun j n hn => by
  rcases List.mem_or_eq_of_mem_set hn with z | z
  ·exact .inr z
  ·exact .inl z
 cases h with
 | block x y wd hg a1 a2 a3 a4 =>
  rcases (by omega:r = 0∨r = 1) with rfl | rfl
  ·exact ⟨0,rfl,.block f y wd hg a1 a2 a3 a4,hm 0⟩
  ·exact ⟨1,rfl,.block x f wd hg a1 a2 a3 a4,hm 1⟩
 | frame x y wd hg k a1 a2 a3 a4 a5 a6 =>
  rcases (by omega:r = 0∨r = 1) with rfl | rfl
  ·exact ⟨0,rfl,.frame f y wd hg k a1 a2 a3 a4 a5 a6,hm 0⟩
  ·exact ⟨1,rfl,.frame x f wd hg k a1 a2 a3 a4 a5 a6,hm 1⟩
 | line => omega
theorem tx_le {n:Int} (h:Sm n):(tx n).length≤2000:=Nat.le_trans (PyProof.Rows.int_text_len_1921 (sm_lg h)) (by decide)
theorem join_len {L n:Nat} {ys:List Str} (hl:ys.length≤n) (hy:∀ y∈ys,y.length≤L):(PySem.Txt.join " " ys).length≤n * (L + 1):=by
 rw [show PySem.Txt.join " " ys = PySem.Str.join " " ys from beq_iff_eq.mp (PyProof.Rows.join_closes rfl)]
 have hs:∀ zs:List Str,(∀ y∈zs,y.length≤L)→(zs.map (·.length)).sum≤zs.length * L:=fun zs => by
  induction zs with
  | nil => intro _; simp
  | cons a r ih =>
   intro h
   have h1:=h a (List.mem_cons_self ..)
   have h2:=ih fun y hy => h y (List.mem_cons_of_mem _ hy)
   simp only [List.map_cons,List.sum_cons,List.length_cons,Nat.succ_mul]
   omega
 cases ys with
 | nil =>
  have:(PySem.Str.join " " []).length = 0:=by decide +kernel
  omega
 | cons a r =>
  rw [PyProof.Rows.len_join_cons]
  have h1:=hs _ hy
  have e1:(" ":Str).length = 1:=by decide +kernel
  rw [e1,Nat.mul_one]
  rw [List.length_cons] at hl h1
  have h2:(r.length + 1) * (L + 1)≤n * (L + 1):=Nat.mul_le_mul_right _ hl
  rw [Nat.mul_succ] at h2
  omega
theorem sum_le {L:Nat}:∀ {ys:List Str},(∀ y∈ys,y.length≤L)→(ys.map (·.length)).sum≤L * ys.length
 | [],_ => by simp
 | a :: r,h => by
  have h1:=h a (List.mem_cons_self ..)
  have h2:=sum_le (ys:=r) fun y hy => h y (List.mem_cons_of_mem _ hy)
  simp only [List.map_cons,List.sum_cons,List.length_cons,Nat.mul_succ]
  omega
theorem wK_at {kind:Int} (h0:0≤kind) (h1:kind < 3):atI [V.str "block",V.str "frame",V.str "line"] kind = some (.str (wK kind)):=by
 rcases (by omega:kind = 0∨kind = 1∨kind = 2) with rfl | rfl | rfl <;> rfl
def vTx:V→V | .int n => .str (tx n) | v => v
end K03
namespace K03
open PySem L2 Wd TS STb
section
variable {P:Program} {w:World} {K:PySem.W.Frag} {mg:Str→Option Value} {base:Heap} {t:Adr}
def spLaw (K:PySem.W.Frag):Sp:=fun vs H Q _ => ∃ (a:Addr) (ns:List Int),vs = [.ref a]∧SqL K H a (ns.map V.int)∧ns.length≤63∧∀ H',Q (.bl true) H'
theorem law_fn (T:Txt K mg t):∃ fd:FuncData,(∀ (s:Shared) (u:Value),BindsTo s fd ⟨[u],[]⟩ [("_law_script",u)])∧∀ base:Heap,K.In base→base.Ns mainGlobals mg→FnOk P w K mg base (XC P w) 8 t.f_law fd ["_law_script"] (spLaw K):=by
 obtain ⟨fd,F,b⟩:=T.F_law
 refine ⟨fd,b,fun base _ _ => ?_⟩
 have G_law_well:=ok_law_well (P:=P) (w:=w) (base:=base) T
 have G_law_cell:=ok_law_cell (P:=P) (w:=w) (base:=base) T
 have G_law_numbers:=ok_law_numbers (P:=P) (w:=w) (base:=base) T
 have G_law_shape:=ok_law_shape (P:=P) (w:=w) (base:=base) T
 have G_law_is_sort:=ok_law_is_sort (P:=P) (w:=w) (base:=base) T
 have G_read_shape:=ok_read_shape (P:=P) (w:=w) (base:=base) T
 have G_Block_told:=ok_Block_told (P:=P) (w:=w) (base:=base) T
 have G_Frame_told:=ok_Frame_told (P:=P) (w:=w) (base:=base) T
 have G_Line_told:=ok_Line_told (P:=P) (w:=w) (base:=base) T
 have G_Block_cells:=ok_Block_cells (P:=P) (w:=w) (base:=base) T
 have G_Frame_cells:=ok_Frame_cells (P:=P) (w:=w) (base:=base) T
 have G_Line_cells:=ok_Line_cells (P:=P) (w:=w) (base:=base) T
 refine F.okX sc_law (fun vs H Q E h => ?_) (fun cdv A outer s H vs Q E hr h => ?_)
 ·obtain ⟨a,ns,rfl,_⟩:=h
  rfl
 ·obtain ⟨a,ns,rfl,hS,hlen,q⟩:=h
  refine ⟨_,(pss_cons (ps_asg (pe_callG G_law_numbers (hr.mono (by decide)) passes_of (by rfl) (pa_cons (pe_callG G_law_well (hr.mono (by decide)) passes_of (by rfl) (pa_cons (pv 0) (pa_cons pe_int pa_nil))) pa_nil)) (pg_tup rfl (pgs_cons (pg_name (i:=1) sc_law.nd rfl (Or.inl rfl)) (pgs_cons (pg_name (i:=2) sc_law.nd rfl (Or.inl rfl)) pgs_nil))))
   (pss_cons (ps_set (i:=3) sc_law.nd rfl (Or.inl rfl) (pe_ix ix_list (pe_lst (pa_cons pe_int (pa_cons (pe_op op_sub (pe_op op_pow pe_int pe_int) pe_int) (pa_cons (pe_op op_sub pe_int (pe_op op_pow pe_int pe_int)) pa_nil)))) (pe_op op_mod (pe_callG G_law_cell (hr.mono (by decide)) passes_of (by rfl) (pa_cons (pv 0) (pa_cons pe_int pa_nil))) pe_int) (fun _ _ => rfl)))
   (pss_cons (ps_if (pw_and (pt_cmpR op_ne (pv 3) pe_int (nomark _)) (pw_and1 (pt_cmpR op_lt (pv 1) pe_int (nomark _)))).pt (pss_one (ps_asg (pv 3) (pg_sub (pv 2) (pe_op op_mod (pe_callG G_law_cell (hr.mono (by decide)) passes_of (by rfl) (pa_cons (pv 0) (pa_cons pe_int pa_nil))) pe_int) set_list))) pss_nil)
   (pss_cons (ps_if (pw_and (pt_cmpR op_ne (pv 3) pe_int (nomark _)) (pw_and1 (pt_cmpR op_eq (pv 1) pe_int (nomark _)))).pt (pss_one (ps_set (i:=2) sc_law.nd rfl (Or.inl rfl) (pe_lst (pa_cons (pe_ix ix_list (pv 2) pe_int (fun _ _ => rfl)) (pa_cons (pv 3) (pa_cons pe_int (pa_cons (pv 3) (pa_cons (pe_un un_neg pe_int) pa_nil)))))))) pss_nil)
   (pss_cons (ps_set (i:=4) sc_law.nd rfl (Or.inl rfl) (pe_callG G_law_shape (hr.mono (by decide)) passes_of (by rfl) (pa_cons (pv 1) (pa_cons (pv 2) pa_nil))))
   (pss_cons (ps_set (i:=5) sc_law.nd rfl (Or.inl rfl) (pe_bm PySem.F.plainAttrs_str PySem.F.slot_str_join PySem.F.type_str_join mt_join pe_str (pa_cons (pe_op op_cat (pe_lst (pa_cons (pe_ix ix_list (pe_lst (pa_cons pe_str (pa_cons pe_str (pa_cons pe_str pa_nil)))) (pv 1) (fun _ _ => rfl)) pa_nil)) (pe_comp (own:=["_law_number"]) (cs_nil (N:=["_law_script","_law_kind","_law_numbers_here","_law_far_here","_law_shape_here","_law_due","_law_again"]) rfl (by rfl) (by decide +kernel) (by decide +kernel) (by decide +kernel)) (pi_list (pv 2)) (fun _ _ _ _ _ => pg_name (i:=7) (by show (["_law_script","_law_kind","_law_numbers_here","_law_far_here","_law_shape_here","_law_due","_law_again","_law_number"]:List Str).Nodup; decide +kernel) rfl (Or.inl rfl)) (fun _ _ _ _ _ => pf_nil) (fun _ _ _ _ _ => (pe_callTy call_str_int (by rfl) T.n_str b_str (pa_cons (pv 7) pa_nil))))) pa_nil)))
   (pss_cons (ps_if (pw_or (pt_not (pt_val (pe_callB call_isi (by rfl) T.n_isinstance b_isinstance (pa_cons (pe_meth0G ((m0_of G_Block_told (hr.mono (by decide)) passes_of).or ((m0_of G_Frame_told (hr.mono (by decide)) passes_of).or (m0_of G_Line_told (hr.mono (by decide)) passes_of))) (pv 4)) (pa_cons (pe_bltn (v:=.ty "str") (by rfl) T.n_str b_str rfl) pa_nil))))) (pw_or1 (pt_cmpR op_ne (pe_meth0G ((m0_of G_Block_told (hr.mono (by decide)) passes_of).or ((m0_of G_Frame_told (hr.mono (by decide)) passes_of).or (m0_of G_Line_told (hr.mono (by decide)) passes_of))) (pv 4)) (pv 5) (nomark _)))).pt (pss_one (ps_ret pe_bl)) pss_nil)
   (pss_cons (ps_set (i:=6) sc_law.nd rfl (Or.inl rfl) (pe_callG G_read_shape (hr.mono (by decide)) passes_of (by rfl) (pa_cons (pv 5) pa_nil)))
   (pss_cons (ps_if (pw_or (pt_not (pt_val (pe_callG G_law_is_sort (hr.mono (by decide)) passes_of (by rfl) (pa_cons (pv 6) (pa_cons (pv 1) pa_nil))))) (pw_or1 (pt_cmpR op_ne (pe_meth0G ((m0_of G_Block_told (hr.mono (by decide)) passes_of).or ((m0_of G_Frame_told (hr.mono (by decide)) passes_of).or (m0_of G_Line_told (hr.mono (by decide)) passes_of))) (pv 6)) (pv 5) (nomark _)))).pt (pss_one (ps_ret pe_bl)) pss_nil)
   (pss_one (ps_ret (pe_cmpR (op_eqLT hr.units) (pe_meth0G ((m0_of G_Block_cells (hr.mono (by decide)) passes_of).or ((m0_of G_Frame_cells (hr.mono (by decide)) passes_of).or (m0_of G_Line_cells (hr.mono (by decide)) passes_of))) (pv 6)) (pe_meth0G ((m0_of G_Block_cells (hr.mono (by decide)) passes_of).or ((m0_of G_Frame_cells (hr.mono (by decide)) passes_of).or (m0_of G_Line_cells (hr.mono (by decide)) passes_of))) (pv 4)) (nomark _))))))))))))),?_⟩
  have well:∀ {H':Hp} {p:Addr} {m c:Int},Well (upd H' p (.lst [.int m,.int c,.int 0])) p:=fun {H' p m c} => ⟨m,c,0,upd_same⟩
  refine seq_gen (fun σ H' => ∃ (kind:Int) (nums:List Int) (l:Addr),σ = [some (.ref a),some (.int kind),some (.ref l),none,none,none,none]∧Same H H'∧OkN kind nums∧(∀ n∈nums,Sm n)∧H' l = some (.lst (nums.map V.int))∧H l = none) (fun B hB => ?_) ?_
  ·refine ⟨_,rfl,a,ns,1,rfl,hS,by decide,by decide,hlen,fun p m c hp => ?_⟩
   refine ⟨p,rfl,well,fun kind nums tp l H2 okn bnd etp el W2 K2 nlp hfr => ⟨tp,_,rfl,SqT.of etp,rfl,_,_,rfl,_,_,rfl,rfl,?_⟩⟩
   have hl0:H l = none:=by
    cases e:H l with
    | none => rfl
    | some u => rw [upd_ne nlp,e] at hfr; cases hfr
   exact hB _ _ ⟨kind,nums,l,rfl,same_well (Same.refl H) hp K2,okn,fun n hn => bnd_sm (bnd n hn),el,hl0⟩
  rintro σ H1 ⟨kind,nums,l,rfl,s1,okn,hsm,el,hl0⟩
  refine seq_gen (fun σ H' => ∃ (f:Int),σ = [some (.ref a),some (.int kind),some (.ref l),some (.int f),none,none,none]∧Far f∧Same H H'∧H' l = some (.lst (nums.map V.int))) (fun B hB => ?_) ?_
  ·refine ⟨10,40,rfl,rfl,⟨by decide,by decide,by decide⟩,_,1,rfl,rfl,10,40,rfl,rfl,⟨by decide,by decide,by decide⟩,1,_,rfl,rfl,(by show 3≤sizeLine; decide),fun lf hlf => ?_⟩
   have s2:=same_new (o:=.lst [V.int 0,V.int ((10:Int) ^ (40:Int).toNat - 1),V.int (1 - (10:Int) ^ (40:Int).toNat)]) (Same.refl H1) hlf
   have e2:upd H1 lf (.lst [V.int 0,V.int ((10:Int) ^ (40:Int).toNat - 1),V.int (1 - (10:Int) ^ (40:Int).toNat)]) lf = some (.lst [V.int 0,V.int ((10:Int) ^ (40:Int).toNat - 1),V.int (1 - (10:Int) ^ (40:Int).toNat)]):=upd_same
   have r0:0≤(ns.getD (2:Int).toNat 0) % 3:=Int.emod_nonneg _ (by decide)
   have r3:(ns.getD (2:Int).toNat 0) % 3 < 3:=Int.emod_lt_of_pos _ (by decide)
   obtain ⟨f,hf,hat⟩:=far_at r0 r3
   refine ⟨_,rfl,a,ns,2,rfl,(Same.trans s1 s2).seq hS,by decide,by decide,hlen,_,3,rfl,rfl,(by show (0:Int) < 3; decide),lf,_,_,.int f,rfl,rfl,SqL.of e2,hat,?_⟩
   exact hB _ _ ⟨f,rfl,hf,Same.trans s1 s2,s2 _ _ el⟩
  clear s1 el H1
  rintro σ H1 ⟨f,rfl,hf,s1,el⟩
  refine seq_gen (fun σ H' => ∃ (nums:List Int),σ = [some (.ref a),some (.int kind),some (.ref l),some (.int f),none,none,none]∧Same H H'∧OkN kind nums∧(∀ n∈nums,Sm n)∧H' l = some (.lst (nums.map V.int))) (fun B hB => ?_) ?_
  ·have stay:=hB _ H1 ⟨nums,rfl,s1,okn,hsm,el⟩
   refine ⟨_,rfl,rfl,_,rfl,iteNB (fun _ => ⟨_,rfl,kind,2,rfl,rfl,_,rfl,iteD (fun hk => ?_) fun _ => stay⟩) fun _ => iteF stay⟩
   have r0:0≤(ns.getD (3:Int).toNat 0) % 2:=Int.emod_nonneg _ (by decide)
   have r2:(ns.getD (3:Int).toNat 0) % 2 < 2:=Int.emod_lt_of_pos _ (by decide)
   obtain ⟨j,hj,ok2,mem2⟩:=okn.put hk f r0 r2
   refine ⟨_,rfl,_,rfl,_,rfl,a,ns,3,rfl,s1.seq hS,by decide,by decide,hlen,_,2,rfl,rfl,(by show (0:Int) < 2; decide),l,_,_,j,rfl,rfl,el,hj,?_⟩
   refine hB _ _ ⟨nums.set j f,rfl,fun b u e => ?_,ok2,fun n hn => ?_,?_⟩
   ·rw [upd_ne (ne_of_none e hl0)]; exact s1 _ _ e
   ·rcases mem2 n hn with rfl | z
    ·exact hf.sm
    ·exact hsm n z
   ·rw [upd_same,List.map_set]
  clear s1 el okn hsm H1 nums
  rintro σ H1 ⟨nums,rfl,s1,okn,hsm,el⟩
  refine seq_gen (fun σ H' => ∃ (l:Addr) (nums:List Int),σ = [some (.ref a),some (.int kind),some (.ref l),some (.int f),none,none,none]∧Same H H'∧OkN kind nums∧(∀ n∈nums,Sm n)∧H' l = some (.lst (nums.map V.int))) (fun B hB => ?_) ?_
  ·have stay:=hB _ H1 ⟨l,nums,rfl,s1,okn,hsm,el⟩
   refine ⟨_,rfl,rfl,_,rfl,iteNB (fun _ => ⟨_,rfl,rfl,_,rfl,iteD (fun hk => ?_) fun _ => stay⟩) fun _ => iteF stay⟩
   have hk:kind = 2:=V.int.inj hk
   subst hk
   obtain ⟨wd,rest,rfl,hw⟩:∃ wd rest,nums = wd :: rest∧(wd = 1∨wd = 3):=by
    generalize hkk:(2:Int) = kk at okn
    cases okn with
    | block => cases hkk
    | frame => cases hkk
    | line wd qs hw => exact ⟨wd,_,rfl,hw⟩
   refine ⟨_,rfl,l,_,0,.int wd,rfl,rfl,SqL.of el,atI_nat (j:=0) rfl,_,rfl,_,rfl,3,rfl,(by show 5≤sizeLine; decide),fun l2 hl2 => ?_⟩
   have hB40:B40 = 10000000000000000000000000000000000000000:=rfl
   refine hB _ _ ⟨l2,[wd,f,7,f,-3],rfl,same_new s1 hl2,.line wd [(f,7),(f,-3)] hw (by simp) (by simp) ⟨.inl ⟨rfl,show (-10:Int)≤-3 - 7 by decide,show (-3:Int) - 7≤10 by decide⟩,trivial⟩,fun n hn => ?_,upd_same⟩
   simp only [List.mem_cons,List.not_mem_nil,or_false] at hn
   rcases hn with rfl | rfl | rfl | rfl | rfl
   ·unfold Sm; omega
   ·exact hf.sm
   ·unfold Sm; omega
   ·exact hf.sm
   ·unfold Sm; omega
  clear s1 el okn hsm H1 nums hl0 l
  rintro σ H1 ⟨l,nums,rfl,s1,okn,hsm,el⟩
  refine seq_gen (fun σ H' => ∃ (o:Addr),σ = [some (.ref a),some (.int kind),some (.ref l),some (.int f),some (.ref o),none,none]∧Ob K t H' o (wK kind) nums∧H' l = some (.lst (nums.map V.int))) (fun B hB => ?_) ?_
  ·exact ⟨_,rfl,_,rfl,kind,l,nums,rfl,SqL.of el,okn,fun o H2 s2 ob => hB _ _ ⟨o,rfl,ob,s2 _ _ el⟩⟩
  clear s1 el H1
  rintro σ H1 ⟨o,rfl,ob,el⟩
  have few:=okn.few
  have hy:∀ y∈wK kind :: nums.map tx,y.length≤2000:=fun y hy => by
   rcases List.mem_cons.mp hy with rfl | h
   ·exact wK_len kind
   ·obtain ⟨n,hn,rfl⟩:=List.mem_map.mp h
    exact tx_le (hsm n hn)
  have hwl:(wK kind :: nums.map tx).length≤14:=by rw [List.length_cons,List.length_map]; omega
  have lg:∀ n∈nums,Lg n:=fun n hn => sm_lg (hsm n hn)
  have hz:(rowT (wK kind) nums).length≤300000:=Nat.le_trans (join_len hwl hy) (by decide)
  refine seq_gen (fun σ H' => σ = [some (.ref a),some (.int kind),some (.ref l),some (.int f),some (.ref o),some (.str (rowT (wK kind) nums)),none]∧Ob K t H' o (wK kind) nums) (fun B hB => ?_) ?_
  ·refine ⟨rfl,by show 3≤sizeLine; decide,fun q1 hq1 => ⟨_,rfl,q1,_,kind,.str (wK kind),rfl,rfl,SqL.of upd_same,wK_at few.1 few.2.1,(by show 1≤sizeLine; decide),fun q2 hq2 => ?_⟩⟩
   have s4:=same_new (o:=.lst [V.str (wK kind)]) (same_new (o:=.lst [V.str "block",.str "frame",.str "line"]) (Same.refl H1) hq1) hq2
   have e2:upd (upd H1 q1 (.lst [V.str "block",.str "frame",.str "line"])) q2 (.lst [V.str (wK kind)]) q2 = some (.lst [.str (wK kind)]):=upd_same
   generalize upd (upd H1 q1 (.lst [V.str "block",.str "frame",.str "line"])) q2 (.lst [V.str (wK kind)]) = H4 at s4 e2
   have el4:=s4 _ _ el
   refine ⟨_,rfl,l,rfl,⟨_,SqL.of el4⟩,comp_grow (xs:=nums.map V.int) (fun _ => true) vTx (SqL.of el4) (by rw [List.length_map]; exact Nat.le_trans few.2.2 (by decide)) (fun v hv H' Qy Qn s' kY kN => ?_) fun D H5 hD s5 eD => ?_⟩
   ·obtain ⟨n,hn,rfl⟩:=List.mem_map.mp hv
    exact ⟨⟨[some (.int n)],rfl,rfl⟩,iteT ⟨_,rfl,n,rfl,lg n hn,kY rfl H' (Same.refl H')⟩⟩
   have eD':H5 D = some (.lst ((nums.map tx).map V.str)):=by
    rw [eD,List.filter_eq_self.mpr (fun _ _ => rfl),List.map_map,List.map_map]; rfl
   refine ⟨q2,D,_,_,rfl,rfl,s5 _ _ e2,eD',?_,fun p3 hp3 => ?_⟩
   ·simp only [List.length_map,List.length_cons,List.length_nil]
    exact Nat.le_trans (by omega) (show 100≤sizeLine by decide)
   have sx:Same H1 (upd H5 p3 (.lst ([V.str (wK kind)] ++ (nums.map tx).map V.str))):=same_new (Same.trans s4 s5) hp3
   have ex:upd H5 p3 (.lst ([V.str (wK kind)] ++ (nums.map tx).map V.str)) p3 = some (.lst ((wK kind :: nums.map tx).map V.str)):=upd_same
   generalize upd H5 p3 (.lst ([V.str (wK kind)] ++ (nums.map tx).map V.str)) = H6 at sx ex
   refine ⟨" ",p3,wK kind :: nums.map tx,rfl,rfl,SqL.of ex,?_,?_⟩
   ·have h1:=sum_le hy
    have e1:(" ":Str).length = 1:=by decide +kernel
    have hS2:(30000:Nat)≤sizeLine:=by decide
    rw [e1]
    have:2000 * (wK kind :: nums.map tx).length≤2000 * 14:=Nat.mul_le_mul_left _ hwl
    omega
   ·exact hB _ _ ⟨rfl,ob.same sx⟩
  clear el ob H1
  rintro σ H1 ⟨rfl,ob⟩
  refine seq_gen (fun σ H' => σ = [some (.ref a),some (.int kind),some (.ref l),some (.int f),some (.ref o),some (.str (rowT (wK kind) nums)),none]∧Ob K t H' o (wK kind) nums) (fun B hB => ?_) ?_
  ·refine ⟨_,rfl,told_go ob lg fun H2 s2 => ?_⟩
   refine ⟨_,_,_,_,true,rfl,.str _,.ty _,by kernel_rfl,true,rfl,iteF ⟨_,rfl,told_go (ob.same s2) lg fun H3 s3 => ?_⟩⟩
   exact ⟨_,rfl,rfl,_,rfl,iteNS rfl (hB _ _ ⟨rfl,(ob.same s2).same s3⟩)⟩
  clear ob H1
  rintro σ H1 ⟨rfl,ob⟩
  refine seq_gen (fun σ H' => ∃ o2,σ = [some (.ref a),some (.int kind),some (.ref l),some (.int f),some (.ref o),some (.str (rowT (wK kind) nums)),some (.ref o2)]∧Ob K t H' o (wK kind) nums∧Ob K t H' o2 (wK kind) nums) (fun B hB => ?_) ?_
  ·refine ⟨_,rfl,rowT (wK kind) nums,wK kind,nums.map tx,rfl,hz,row_split (wK_free kind),fun _ o2 H2 s2 ob2 => ?_,fun ng => absurd ⟨all_tx hsm,by rw [nsOf_tx hsm]; exact okn.sh⟩ ng⟩
   rw [nsOf_tx hsm] at ob2
   exact hB _ _ ⟨o2,rfl,ob.same s2,ob2⟩
  clear ob H1
  rintro σ H1 ⟨o2,rfl,ob,ob2⟩
  refine seq_gen (fun σ H' => σ = [some (.ref a),some (.int kind),some (.ref l),some (.int f),some (.ref o),some (.str (rowT (wK kind) nums)),some (.ref o2)]∧Ob K t H' o (wK kind) nums∧Ob K t H' o2 (wK kind) nums) (fun B hB => ?_) ?_
  ·refine ⟨_,rfl,_,rfl,o2,kind,nums,rfl,few.1,few.2.1,ob2,true,rfl,iteF ⟨_,rfl,told_go ob2 lg fun H2 s2 => ?_⟩⟩
   exact ⟨_,rfl,rfl,_,rfl,iteNS rfl (hB _ _ ⟨rfl,ob.same s2,ob2.same s2⟩)⟩
  clear ob ob2 H1
  rintro σ H1 ⟨rfl,ob,ob2⟩
  refine ⟨_,rfl,cells_go okn ob2 fun D1 b1 k1 H2 s2 e1 ka1 c1 => ⟨_,rfl,cells_go okn (ob.same s2) fun D2 b2 k2 H3 s3 e2 ka2 c2 => ⟨D1,D2,b1,b2,_,_,rfl,rfl,SqL.of (s3 _ _ e1),SqL.of e2,tups_of (KeyAt.same ka1 s3) c1.ints,tups_of ka2 c2.ints,?_⟩⟩⟩
  rw [decide_eq_true (by rw [c1.uniq c2])]
  exact q _
end
theorem walk {l:PySem.W.OpenLaw} {q:Program} {loose:List Str} {XP:(Str→Option Value)→Heap→Prop} {YP:World→Heap→Prop} {d:DefRec} {K:Params→PySem.W.Frag} (hn:l.most = some 63) (hdf:d.params.defaults = [])
  (hY:∀ (w:World) (h:Heap),YP w h→(K w.params).In h)
  (F:∀ (w:World) (mg:Str→Option Value) (fa:Addr) (h:Heap),(K w.params).In h→h.Ns mainGlobals mg→mg d.name = some (.ref fa) →
   ∃ fd:FuncData,(∀ (s:Shared) (u:Value),BindsTo s fd ⟨[u],[]⟩ [("_law_script",u)])∧∀ base:Heap,(K w.params).In base→base.Ns mainGlobals mg→FnOk l.prog w (K w.params) mg base (XC l.prog w) 8 fa fd ["_law_script"] (spLaw (K w.params))) :
  PySem.W.WalkO q loose XP YP l.row.toRowW d [] (fun f vs => PySem.call f vs) :=
 L2.walk_of (n:=63) (k:=8) (x:="_law_script") (CX:=fun w => XC l.prog w) (sp:=fun w => spLaw (K w.params)) hn (by decide) hdf ⟨fun _ => rfl,by decide,by decide⟩ hY F (fun _ _ a ns hl _ hS => ⟨a,ns,rfl,hS,hl,fun _ => rfl⟩) fun w H s e s' z => by
  obtain ⟨_,_,_,_,_,_,_,_,_,q⟩:=z
  exact q
end K03
open PySem PySem.W PyProof.Rows
set_option maxRecDepth 100000 in
set_option maxHeartbeats 0 in
theorem PySem.Challenge.cw_copperbook_k03_shapes_as_texts_holds : PySem.Challenge.rw_copperbook_k03_shapes_as_texts.Holds := by
 w_on; o_law; k_head; (case hw => w_witness2)
 k_fill
 refine K03.walk (l:=PySem.Challenge.rw_copperbook_k03_shapes_as_texts) rfl rfl (fun w h Y => PySem.W.kIn_of Y) ?F
 case F =>
  intro w mg fa h KX G hmg
  have TT:∃ t:K03.Adr,K03.Txt (L2.KOf KX) mg t:=by
   dsimp only [L2.KOf]
   refine' K03.txt_mk KX G ?g_Block ?g_Line ?g_Frame ?pg_Block ?hd_Block ?po_Block ?sa_Block ?mk_Block ?kc_Block ?na_Block_x ?na_Block_y ?na_Block_wide ?na_Block_high ?ha_Block ?hn_Block ?ht_Block ?hm_Block ?pg_Line ?hd_Line ?po_Line ?sa_Line ?mk_Line ?kc_Line ?na_Line_corners ?na_Line_width ?ha_Line ?hn_Line ?ht_Line ?hm_Line ?pg_Frame ?hd_Frame ?po_Frame ?sa_Frame ?mk_Frame ?kc_Frame ?na_Frame_x ?na_Frame_y ?na_Frame_wide ?na_Frame_high ?na_Frame_thick ?ha_Frame ?hn_Frame ?ht_Frame ?hm_Frame ?a_is_whole ?l_is_whole ?cc_is_whole ?k_is_whole ?a_need_whole ?l_need_whole ?cc_need_whole ?k_need_whole ?a_need_from_one ?l_need_from_one ?cc_need_from_one ?k_need_from_one ?a_need_corners ?l_need_corners ?cc_need_corners ?k_need_corners ?a_tell_row ?l_tell_row ?cc_tell_row ?k_tell_row ?a_read_number ?l_read_number ?cc_read_number ?k_read_number ?a_read_row ?l_read_row ?cc_read_row ?k_read_row ?a_read_shape ?l_read_shape ?cc_read_shape ?k_read_shape ?a_box_places ?l_box_places ?cc_box_places ?k_box_places ?a_Block_init ?i_Block_init ?l_Block_init ?cc_Block_init ?k_Block_init ?a_Block_told ?i_Block_told ?l_Block_told ?cc_Block_told ?k_Block_told ?a_Block_cells ?i_Block_cells ?l_Block_cells ?cc_Block_cells ?k_Block_cells ?a_Line_init ?i_Line_init ?l_Line_init ?cc_Line_init ?k_Line_init ?a_Line_told ?i_Line_told ?l_Line_told ?cc_Line_told ?k_Line_told ?a_Line_cells ?i_Line_cells ?l_Line_cells ?cc_Line_cells ?k_Line_cells ?a_Frame_init ?i_Frame_init ?l_Frame_init ?cc_Frame_init ?k_Frame_init ?a_Frame_told ?i_Frame_told ?l_Frame_told ?cc_Frame_told ?k_Frame_told ?a_Frame_cells ?i_Frame_cells ?l_Frame_cells ?cc_Frame_cells ?k_Frame_cells ?a_Frame_steps_from_edge ?i_Frame_steps_from_edge ?l_Frame_steps_from_edge ?cc_Frame_steps_from_edge ?k_Frame_steps_from_edge ?a_law_cell ?l_law_cell ?cc_law_cell ?k_law_cell ?a_law_mixed ?l_law_mixed ?cc_law_mixed ?k_law_mixed ?a_law_twice ?l_law_twice ?cc_law_twice ?k_law_twice ?a_law_well ?l_law_well ?cc_law_well ?k_law_well ?a_law_draw ?l_law_draw ?cc_law_draw ?k_law_draw ?a_law_far ?l_law_far ?cc_law_far ?k_law_far ?a_law_numbers ?l_law_numbers ?cc_law_numbers ?k_law_numbers ?a_law_shape ?l_law_shape ?cc_law_shape ?k_law_shape ?a_law_is_sort ?l_law_is_sort ?cc_law_is_sort ?k_law_is_sort ?a_law ?l_law ?cc_law ?k_law ?g_NoShape ?x_NoShape ?ki_Block_Block ?ki_Frame_Frame ?ki_Line_Line ?n_isinstance ?n_int ?n_bool ?n_min ?n_list ?n_tuple ?n_len ?n_zip ?n_str ?n_range ?n_all ?n_abs ?n_sorted ?n_set ?g_MOST_CORNERS ?g_MOST_FIGURES ?g_FIGURES ?g_WIDTHS ?tl_WIDTHS
   (case g_Block => k_is)
   (case g_Line => k_is)
   (case g_Frame => k_is)
   (case pg_Block => k_is)
   (case hd_Block => k_is)
   (case po_Block => k_is)
   (case sa_Block => k_is)
   (case mk_Block => k_is)
   (case kc_Block => k_is)
   (case na_Block_x => k_is)
   (case na_Block_y => k_is)
   (case na_Block_wide => k_is)
   (case na_Block_high => k_is)
   (case ha_Block => k_is)
   (case hn_Block => k_is)
   (case ht_Block => k_is)
   (case hm_Block => k_is)
   (case pg_Line => k_is)
   (case hd_Line => k_is)
   (case po_Line => k_is)
   (case sa_Line => k_is)
   (case mk_Line => k_is)
   (case kc_Line => k_is)
   (case na_Line_corners => k_is)
   (case na_Line_width => k_is)
   (case ha_Line => k_is)
   (case hn_Line => k_is)
   (case ht_Line => k_is)
   (case hm_Line => k_is)
   (case pg_Frame => k_is)
   (case hd_Frame => k_is)
   (case po_Frame => k_is)
   (case sa_Frame => k_is)
   (case mk_Frame => k_is)
   (case kc_Frame => k_is)
   (case na_Frame_x => k_is)
   (case na_Frame_y => k_is)
   (case na_Frame_wide => k_is)
   (case na_Frame_high => k_is)
   (case na_Frame_thick => k_is)
   (case ha_Frame => k_is)
   (case hn_Frame => k_is)
   (case ht_Frame => k_is)
   (case hm_Frame => k_is)
   (case a_is_whole => k_is)
   (case l_is_whole => k_is)
   (case cc_is_whole => k_is)
   (case k_is_whole => k_is)
   (case a_need_whole => k_is)
   (case l_need_whole => k_is)
   (case cc_need_whole => k_is)
   (case k_need_whole => k_is)
   (case a_need_from_one => k_is)
   (case l_need_from_one => k_is)
   (case cc_need_from_one => k_is)
   (case k_need_from_one => k_is)
   (case a_need_corners => k_is)
   (case l_need_corners => k_is)
   (case cc_need_corners => k_is)
   (case k_need_corners => k_is)
   (case a_tell_row => k_is)
   (case l_tell_row => k_is)
   (case cc_tell_row => k_is)
   (case k_tell_row => k_is)
   (case a_read_number => k_is)
   (case l_read_number => k_is)
   (case cc_read_number => k_is)
   (case k_read_number => k_is)
   (case a_read_row => k_is)
   (case l_read_row => k_is)
   (case cc_read_row => k_is)
   (case k_read_row => k_is)
   (case a_read_shape => k_is)
   (case l_read_shape => k_is)
   (case cc_read_shape => k_is)
   (case k_read_shape => k_is)
   (case a_box_places => k_is)
   (case l_box_places => k_is)
   (case cc_box_places => k_is)
   (case k_box_places => k_is)
   (case a_Block_init => k_is)
   (case i_Block_init => k_is)
   (case l_Block_init => k_is)
   (case cc_Block_init => k_is)
   (case k_Block_init => k_is)
   (case a_Block_told => k_is)
   (case i_Block_told => k_is)
   (case l_Block_told => k_is)
   (case cc_Block_told => k_is)
   (case k_Block_told => k_is)
   (case a_Block_cells => k_is)
   (case i_Block_cells => k_is)
   (case l_Block_cells => k_is)
   (case cc_Block_cells => k_is)
   (case k_Block_cells => k_is)
   (case a_Line_init => k_is)
   (case i_Line_init => k_is)
   (case l_Line_init => k_is)
   (case cc_Line_init => k_is)
   (case k_Line_init => k_is)
   (case a_Line_told => k_is)
   (case i_Line_told => k_is)
   (case l_Line_told => k_is)
   (case cc_Line_told => k_is)
   (case k_Line_told => k_is)
   (case a_Line_cells => k_is)
   (case i_Line_cells => k_is)
   (case l_Line_cells => k_is)
   (case cc_Line_cells => k_is)
   (case k_Line_cells => k_is)
   (case a_Frame_init => k_is)
   (case i_Frame_init => k_is)
   (case l_Frame_init => k_is)
   (case cc_Frame_init => k_is)
   (case k_Frame_init => k_is)
   (case a_Frame_told => k_is)
   (case i_Frame_told => k_is)
   (case l_Frame_told => k_is)
   (case cc_Frame_told => k_is)
   (case k_Frame_told => k_is)
   (case a_Frame_cells => k_is)
   (case i_Frame_cells => k_is)
   (case l_Frame_cells => k_is)
   (case cc_Frame_cells => k_is)
   (case k_Frame_cells => k_is)
   (case a_Frame_steps_from_edge => k_is)
   (case i_Frame_steps_from_edge => k_is)
   (case l_Frame_steps_from_edge => k_is)
   (case cc_Frame_steps_from_edge => k_is)
   (case k_Frame_steps_from_edge => k_is)
   (case a_law_cell => k_is)
   (case l_law_cell => k_is)
   (case cc_law_cell => k_is)
   (case k_law_cell => k_is)
   (case a_law_mixed => k_is)
   (case l_law_mixed => k_is)
   (case cc_law_mixed => k_is)
   (case k_law_mixed => k_is)
   (case a_law_twice => k_is)
   (case l_law_twice => k_is)
   (case cc_law_twice => k_is)
   (case k_law_twice => k_is)
   (case a_law_well => k_is)
   (case l_law_well => k_is)
   (case cc_law_well => k_is)
   (case k_law_well => k_is)
   (case a_law_draw => k_is)
   (case l_law_draw => k_is)
   (case cc_law_draw => k_is)
   (case k_law_draw => k_is)
   (case a_law_far => k_is)
   (case l_law_far => k_is)
   (case cc_law_far => k_is)
   (case k_law_far => k_is)
   (case a_law_numbers => k_is)
   (case l_law_numbers => k_is)
   (case cc_law_numbers => k_is)
   (case k_law_numbers => k_is)
   (case a_law_shape => k_is)
   (case l_law_shape => k_is)
   (case cc_law_shape => k_is)
   (case k_law_shape => k_is)
   (case a_law_is_sort => k_is)
   (case l_law_is_sort => k_is)
   (case cc_law_is_sort => k_is)
   (case k_law_is_sort => k_is)
   (case a_law => k_is)
   (case l_law => k_is)
   (case cc_law => k_is)
   (case k_law => k_is)
   (case g_NoShape => k_is)
   (case x_NoShape => k_exc)
   (case ki_Block_Block => kit_is)
   (case ki_Frame_Frame => kit_is)
   (case ki_Line_Line => kit_is)
   (case n_isinstance => k_is)
   (case n_int => k_is)
   (case n_bool => k_is)
   (case n_min => k_is)
   (case n_list => k_is)
   (case n_tuple => k_is)
   (case n_len => k_is)
   (case n_zip => k_is)
   (case n_str => k_is)
   (case n_range => k_is)
   (case n_all => k_is)
   (case n_abs => k_is)
   (case n_sorted => k_is)
   (case n_set => k_is)
   (case g_MOST_CORNERS => k_is)
   (case g_MOST_FIGURES => k_is)
   (case g_FIGURES => k_is)
   (case g_WIDTHS => k_is)
   (case tl_WIDTHS => k_is)
  obtain ⟨t,T⟩:=TT
  have e:=hmg.symm.trans T.g_law
  cases e
  exact K03.law_fn T
