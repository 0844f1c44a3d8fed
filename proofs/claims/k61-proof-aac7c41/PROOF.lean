import PyProof.Rows.All
import Wide.All
import OpenK.AllK
import Wide.FinOn
import PyProof.Seq
import PyProof.RangeIter
import PyProof.TupleIter
import PyProof.StrLoop
import PyProof.WalkInts
import PyProof.StationsW
import PyProof.ZipIter
import PyProof.ListNew
import Lean
import PyProof.EqAt
import PyProof.EqKinds
import PyProof.TupleCall
import PyProof.NeKinds
import KE.IntTextLaws
import KE.KIntText
import PyProof.Draws
import PyProof.EnumMake
import PyProof.EnumFor
import PyProof.NsDelKeeps
import PyProof.Rows.StrFit
import PyProof.Rows.SortShellK
import PyProof.DictKinds
import KE.KDictList
import PyProof.DictWalks
import KE.KEqDict
import PyProof.RaisesDict
import PySem.SetOps
import PyProof.FactsAll.set_1
import PyProof.FactsAll.set_2
import PyProof.LongRange
import PyProof.MaxThree
import KE.KDictOf
import PyProof.AttrMissHeap
import PySem.Challenge.RW_copperbook_k61_whole_least_dear
set_option Elab.async false
set_option linter.all false
set_option maxRecDepth 100000
/- These names keep the theorem's opening from writing out equations that only make the build larger: what is built must stay
   below 64 MiB. They say nothing and are used nowhere. -/
namespace PySem.W.Fast
def tw14093741223921284495:=0
def tw14743643477701845829:=0
def tw14113097947143104002:=0
def tw2688501190302600672:=0
def tw3240703237303800113:=0
def tw4631775919634674766:=0
def tw6336615381983943176:=0
def tw16773684908247867436:=0
def tw16162910965528317478:=0
def tw3269152690775165743:=0
def tw17900370869788524219:=0
def tw2792884537447177420:=0
def tw12309871745033762129:=0
def tw8640259116915317158:=0
def tw15092104709510563951:=0
def tw12551861906658724700:=0
def tw4400760449703125618:=0
def tw12108853618128677916:=0
def tw4329845883928766922:=0
def tw8504974651614739678:=0
def tw1198102537533447450:=0
def tw7483054204839652461:=0
def tw17817176581135417865:=0
def tw3224611105849450719:=0
def tw13277865800571351148:=0
def tw6315081098012830929:=0
def tw6657328036798409979:=0
def tw11293216508184526684:=0
def tw11366552269102284906:=0
def tw6894505120034574599:=0
def tw7534309578231832088:=0
def tw7508623462099648021:=0
def tw15928503699121599975:=0
def tw11384499216700842344:=0
def tw15125781979623521966:=0
def tw18432691117528539041:=0
def tw2085992081920868686:=0
def tw11781885182699401891:=0
def te3775956393284007625:=0
def tw6886358687922720340:=0
def tw6949353935394276189:=0
def tw15846441505032458527:=0
def tw1063307491916785892:=0
def tw7135610541565332461:=0
end PySem.W.Fast
namespace L2
open PySem
inductive Chn (h:Heap) (D:List Addr):Value→Prop
 | nil:Chn h D .none
 | cons {b:Addr} {ob:Obj} {us:Array Value} {c:Value}:b∈D→h.get? b = some ob→ob.data = .fields us→us[2]? = some c→Chn h D c→Chn h D (.ref b)
theorem Chn.kept {h h':Heap} {D D':List Addr} {v:Value} (n:Chn h D v) (k:∀ b∈D,∀ o,h.get? b = some o→h'.get? b = some o) (d:∀ b∈D,b∈D'):Chn h' D' v:=by
 induction n with
 | nil => exact .nil
 | cons q1 q2 q3 q4 _ ih => exact .cons (d _ q1) (k _ q1 _ q2) q3 q4 ih
theorem Chn.small {h:Heap} {D:List Addr} {v:Value} (n:Chn h D v):∃ D',Chn h D' v∧∀ b∈D',∃ (o:Obj) (us:Array Value),h.get? b = some o∧o.data = .fields us∧2 < us.size:=by
 induction n with
 | nil => exact ⟨[],.nil,fun b hb => absurd hb (by simp)⟩
 | @cons b ob us c q1 q2 q3 q4 _ ih =>
  obtain ⟨D',m,l⟩:=ih
  refine ⟨b :: D',.cons (by simp) q2 q3 q4 (m.kept (fun _ _ _ e => e) fun d hd => List.mem_cons_of_mem _ hd),fun d hd => ?_⟩
  rcases List.mem_cons.mp hd with rfl | hd
  ·exact ⟨ob,us,q2,q3,(Array.getElem?_eq_some_iff.mp q4).1⟩
  ·exact l d hd
def HdL (A:Around) (h:Heap) (D:List Addr):Prop:=A.handled = none∨∃ ea:Addr,A.handled = some (.ref ea)∧Chn h D (.ref ea)
def HdN (A:Around) (h:Heap):Prop:=∃ D,HdL A h D
theorem HdL.keptD {A:Around} {h h':Heap} {D:List Addr} (n:HdL A h D) (k:∀ b∈D,∀ o,h.get? b = some o→h'.get? b = some o):HdL A h' D:=by
 rcases n with z | ⟨ea,h1,h2⟩
 ·exact .inl z
 ·exact .inr ⟨ea,h1,h2.kept k fun _ q => q⟩
theorem HdN.small {A:Around} {h:Heap} (n:HdN A h):∃ D,HdL A h D∧∀ b∈D,∃ (o:Obj) (us:Array Value),h.get? b = some o∧o.data = .fields us∧2 < us.size:=by
 obtain ⟨D,n⟩:=n
 rcases n with z | ⟨ea,h1,h2⟩
 ·exact ⟨[],.inl z,fun b hb => absurd hb (by simp)⟩
 ·obtain ⟨D',m,l⟩:=h2.small
  exact ⟨D',.inr ⟨ea,h1,m⟩,l⟩
theorem HdN.but {A:Around} {h h':Heap} {it:Addr} (n:HdN A h) (k:Heap.SameBut it h h') (ne:∃ (o:Obj) (us:Array Value),h.get? it = some o∧o.data = .fields us∧us.size≤2):HdN A h':=by
 obtain ⟨D,n,l⟩:=n.small
 refine ⟨D,n.keptD fun b hb o e => (k.2 b fun q => ?_).trans e⟩
 obtain ⟨o1,us1,e1,e2,e3⟩:=l b hb
 obtain ⟨o2,us2,f1,f2,f3⟩:=ne
 rw [q,f1] at e1; cases e1
 rw [f2] at e2; cases e2
 omega
theorem entry_unchain:entryFor table "proto.unchain" = some Builtin.«proto.unchain»:=entryFor_of_tree (by kernel_rfl)
section
variable {prog:Program} {w:World} {A:Around} {E:Value→Shared→Prop} {s:Shared}
inductive Pth (h:Heap):Addr→Addr→Prop
 | refl (a:Addr):Pth h a a
 | step {a b o:Addr} {ob:Obj} {us:Array Value}:h.get? a = some ob→ob.data = .fields us→us[2]? = some (.ref b)→Pth h b o→Pth h a o
theorem Pth.snoc {h:Heap} {a o b:Addr} {ob:Obj} {us:Array Value} (p:Pth h a o) (h1:h.get? o = some ob) (h2:ob.data = .fields us) (h3:us[2]? = some (.ref b)):Pth h a b:=by
 induction p with
 | refl a => exact .step h1 h2 h3 (.refl b)
 | step q1 q2 q3 _ ih => exact .step q1 q2 q3 (ih h1)
def Far (h:Heap) (a o:Addr):Prop:=∃ (b:Addr) (ob:Obj) (us:Array Value),h.get? a = some ob∧ob.data = .fields us∧us[2]? = some (.ref b)∧Pth h b o
theorem Pth.far {h:Heap} {a o b:Addr} {ob:Obj} {us:Array Value} (p:Pth h a o) (h1:h.get? o = some ob) (h2:ob.data = .fields us) (h3:us[2]? = some (.ref b)):Far h a b:=by
 cases p with
 | refl => exact ⟨b,ob,us,h1,h2,h3,.refl b⟩
 | step q1 q2 q3 p => exact ⟨_,_,_,q1,q2,q3,p.snoc h1 h2 h3⟩
theorem unchain_on {e:Addr} {D:List Addr} {R:Result→Shared→Prop} (new:e ∉ D) (h:R (.ok (.ret .none)) s) {v:Value} (n:Chn s.heap D v):∀ (o slow:Addr) (tg:Bool),v = .ref o→Pth s.heap slow o→(tg = true→Far s.heap slow o) →
  codeAny (model prog w) A (.builtin "proto.unchain" ⟨[.ref e,.ref o,.ref slow,.bool tg],[]⟩) R s:=by
 induction n with
 | nil => intro o slow tg q; cases q
 | @cons b ob us c q1 q2 q3 q4 m ih =>
  intro o slow tg q p far
  cases q
  refine codeAny_builtin entry_unchain ?_
  unfold Builtin.«proto.unchain»
  dsimp only
  refine wpAny_bind (wpAny_field q2 q3 (x:=c) q4 ?_)
  cases m with
  | nil => exact wpAny_pure h
  | @cons b2 ob2 us2 c2 r1 r2 r3 r4 m2 =>
   have nbe:b2≠e:=fun q => new (q▸r1)
   rw [if_neg (show ¬ ((Value.ref b2 == Value.none) = true) from Bool.false_ne_true),if_neg (show ¬ ((Value.ref b2 == Value.ref e) = true) by simpa using nbe)]
   by_cases hs:b2 = slow
   ·subst hs
    rw [if_pos (by simp)]
    exact wpAny_bind (wpAny_rule (wpAny_pure h))
   ·rw [if_neg (show ¬ ((Value.ref b2 == Value.ref slow) = true) by simpa using hs)]
    cases tg with
    | false => exact wpAny_bind (wpAny_pure (wpAny_pure ⟨Code.quiet_builtin _ (by decide +kernel),ih b2 slow true rfl (p.snoc q2 q3 q4) fun _ => p.far q2 q3 q4⟩))
    | true =>
     obtain ⟨b3,ob3,us3,f1,f2,f3,p3⟩:=far rfl
     exact wpAny_bind (wpAny_field f1 f2 (x:=.ref b3) f3 (wpAny_pure ⟨Code.quiet_builtin _ (by decide +kernel),ih b2 b3 false rfl (p3.snoc q2 q3 q4) fun z => by cases z⟩))
theorem raise_on {α:Type} {Q:α→Shared→Prop} {e:Addr} {oe:Obj} {vs:Array Value} {D:List Addr} (hn:HdL A s.heap D) (he:s.heap.get? e = some oe) (hd:oe.data = .fields vs) (h2:2 < vs.size)
  (new:e ∉ D)
  (h:∀ h',(h' = s.heap∧A.handled = none)∨(∃ ea,A.handled = some (.ref ea)∧h' = s.heap.update e (Obj.mapFields (·.setIfInBounds 2 (.ref ea))))→Heap.SameBut e s.heap h'→(∃ o,h'.get? e = some o∧o.cls = oe.cls)→E (.ref e) { s with heap:=h' }):wpAny (model prog w) A (raiseNew (.ref e):Sem α) Q E s:=by
 unfold raiseNew
 refine wpAny_bind (wpAny_handled ?_)
 rcases hn with z | ⟨ea,z,n⟩
 ·rw [z]
  exact wpAny_bind (wpAny_pure (wpAny_throw (h s.heap (.inl ⟨rfl,z⟩) ⟨rfl,fun _ _ => rfl⟩ ⟨oe,he,rfl⟩)))
 ·have ne:ea≠e:=fun q => by cases n with | cons q1 => exact new (q▸q1)
  rw [z]
  dsimp only
  have hne:(Value.ref ea != Value.ref e) = true:=by
   rw [bne_iff_ne]; intro q; exact ne (Value.ref.inj q)
  rw [hne]
  have wf:∀ {P:Unit→Shared→Prop},P () { s with heap:=s.heap.update e (Obj.mapFields (·.setIfInBounds 2 (.ref ea))) }→wpAny (model prog w) A (updateField e 2 (.ref ea)) P E s:=fun {P} q => wpAny_setField he hd h2 q
  refine wpAny_bind (wpAny_holding (wpAny_runValue (unchain_on new ?_ n ea ea false rfl (.refl ea) fun z => by cases z)))
  exact wpAny_bind (wf (wpAny_throw (h _ (.inr ⟨ea,z,rfl⟩) (Heap.SameBut.update ..) ⟨_,Heap.get?_update_self _ he (Obj.isFreed_of_fields (Obj.data_mapFields hd _)),Obj.cls_mapFields ..⟩)))
theorem stop_on {α:Type} {Q:α→Shared→Prop} (hn:HdN A s.heap) (h:∀ h' e,(∀ b o,s.heap.get? b = some o→h'.get? b = some o)→(∃ o,h'.get? e = some o∧o.cls = .type "StopIteration")→E (.ref e) { s with heap:=h' }) :
  wpAny (model prog w) A (newExc (.type "StopIteration") [] >>= fun x => (raiseNew x:Sem α)) Q E s:=by
 refine wpAny_bind ?_
 unfold newExc newTuple
 refine wpAny_bind (wpAny_newObj_type ?_ (by show 0≤sizeLine; decide))
 refine wpAny_bind (m:=firstArgMember (.type "StopIteration") []) (wpAny_of_eq (a:=Value.none) rfl (wpAny_newObj_type ?_ (by size_fits)))
 generalize hp:s.heap.push _ = h1
 have k1:∀ b o,s.heap.get? b = some o→h1.get? b = some o:=fun b o e => hp▸Heap.get?_push_of_some _ e
 have k2:∀ ob b o,h1.get? b = some o→(h1.push ob).get? b = some o:=fun ob b o e => Heap.get?_push_of_some _ e
 obtain ⟨D,nD,lD⟩:=hn.small
 refine raise_on (e:=h1.objs.size) (vs:=_) (D:=D) ((nD.keptD fun b _ o e => k1 b o e).keptD fun b _ o e => k2 _ b o e) (Heap.get?_push_size _ rfl) rfl (by show 2 < 6; decide) (fun q => ?_) fun h' _ sb ex => h h' _ (fun b o e => (sb.2 b ?_).trans (k2 _ b o (k1 b o e))) ex
 ·obtain ⟨o,_,eo,_⟩:=lD _ q
  exact absurd (Heap.lt_size (k1 _ _ eo)) (Nat.lt_irrefl _)
 ·exact Nat.ne_of_lt (Heap.lt_size (k1 b o e))
theorem stopped {Q:Option Value→Shared→Prop} {e:Addr} (ex:∃ o,s.heap.get? e = some o∧o.cls = .type "StopIteration") (h:Q none s) :
  wpAny (model prog w) A (do if (← isInstance (.ref e) (.type "StopIteration")) = true then pure (none:Option Value) else throw (.ref e)) Q E s:=by
 obtain ⟨o,h1,h2⟩:=ex
 refine wpAny_bind (wpAny_isInstance (T:="StopIteration") (b:=true) ⟨o,h1,h2⟩ isSubtype_stop ?_)
 exact wpAny_pure h
theorem list_on {it l:Addr} {i:Nat} {items:Array Value} {Q:Option Value→Shared→Prop} (hn:HdN A s.heap) (hit:s.heap.IsListIter it l i) (hl:s.heap.IsList l items) (hx:items[i]? = none)
  (hQ:∀ h',Heap.ExtBut it s.heap h'→Q none { s with heap:=h' }):wpAny (model prog w) A (pyNext (.ref it)) Q E s:=by
 obtain ⟨o,ho,hc,hd⟩:=id hit
 obtain ⟨ol,hol,_,nl,hdl⟩:=hl
 unfold pyNext
 refine wpAny_bind (wpAny_attempt (wpAny_callSpecial?_slot (name:=Str.ofString "__next__") hit.typeIs slot_listiter_next (wpAny_call_entry slot_listiter_next hit.typeIs entry_listiter_next ?_ (args_listiter_next _))))
 refine (show ∀ {R:Fin→Shared→Prop} {F:Value→Shared→Prop},wpAny (model prog w) A.in1 (field (.ref it) 0 >>= _) R F s→wpAny (model prog w) A.in1 (Builtin.«list_iterator.__next__» _) R F s from fun z => z) (wpAny_bind (wpAny_field ho hd (x:=.ref l) rfl ?_))
 rw [if_neg (show ¬ ((Value.ref l == Value.none) = true) from Bool.false_ne_true)]
 refine wpAny_bind (wpAny_field (i:=1) ho hd (x:=.int i 0) rfl (wpAny_bind (wpAny_seqItems hol hdl ?_)))
 simp only [Int.toNat_natCast,hx]
 refine wpAny_bind (wpAny_rule (wpAny_bind (wpAny_setField ho hd (by simp) ?_)))
 have sb:Heap.SameBut it s.heap (s.heap.update it (Obj.mapFields (·.setIfInBounds 0 .none))):=Heap.SameBut.update ..
 refine stop_on (A:=A.in1) (s:={ s with heap:=_ }) (hn.but sb ⟨o,_,ho,hd,by simp⟩) fun h' e k ex => stopped (s:={ s with heap:=h' }) ex (hQ h' fun b o hb q => k b o ((sb.2 b hb).trans q))
theorem range_on {it:Addr} {x left step:Int} {Q:Option Value→Shared→Prop} (hn:HdN A s.heap) (hit:IsRangeIter s.heap it x left step) (hleft:left≤0)
  (hQ:∀ h',Heap.ExtBut it s.heap h'→Q none { s with heap:=h' }):wpAny (model prog w) A (pyNext (.ref it)) Q E s:=by
 have hT:s.TypeIs (.ref it) "range_iterator":=⟨_,hit,rfl⟩
 unfold pyNext
 refine wpAny_bind (wpAny_attempt (wpAny_callSpecial?_slot (name:=Str.ofString "__next__") hT F.slot_range_iterator_next (wpAny_call_entry F.slot_range_iterator_next hT F.entry_range_iterator_next ?_ (F.args_range_iterator_next_1 _))))
 refine (show ∀ {R:Fin→Shared→Prop} {F:Value→Shared→Prop},wpAny (model prog w) A.in1 (field (.ref it) 0 >>= _) R F s→wpAny (model prog w) A.in1 (Builtin.«range_iterator.__next__» _) R F s from fun z => z) (wpAny_bind (wpAny_field hit rfl (x:=rawInt x) rfl ?_))
 refine (show ∀ {k:Value→Sem Fin} {R:Fin→Shared→Prop} {F:Value→Shared→Prop},wpAny (model prog w) A.in1 (k (rawInt left)) R F s→wpAny (model prog w) A.in1 (field (.ref it) 1 >>= k) R F s from fun z => wpAny_bind (wpAny_field hit rfl (x:=rawInt left) rfl z)) ?_
 refine (show ∀ {k:Value→Sem Fin} {R:Fin→Shared→Prop} {F:Value→Shared→Prop},wpAny (model prog w) A.in1 (k (rawInt step)) R F s→wpAny (model prog w) A.in1 (field (.ref it) 2 >>= k) R F s from fun z => wpAny_bind (wpAny_field hit rfl (x:=rawInt step) rfl z)) ?_
 refine (show ∀ {a b:Sem Fin} {R:Fin→Shared→Prop} {F:Value→Shared→Prop},wpAny (model prog w) A.in1 a R F s→wpAny (model prog w) A.in1 (if left≤0 then a else b) R F s from fun z => by rw [if_pos hleft]; exact z) ?_
 refine wpAny_bind (wpAny_rule (wpAny_bind ?_))
 exact stop_on (A:=A.in1) hn fun h' e k ex => stopped (s:={ s with heap:=h' }) ex (hQ h' fun b o _ q => k b o q)
theorem walks_on (I ax:Addr) (hne:ax≠I) (D:List Addr) (hI:I ∉ D) (items:Array Value) :
  Walks prog w A I ([I,ax] ++ D) [I] items.size (fun i v => items[i]? = some v) (fun i h => (h.IsListIter I ax i∧h.IsList ax items)∧HdL A h D) where
 sub:=fun b hb => by simp at hb; simp [hb]
 frame:=fun i h h' st k => ⟨⟨st.1.1.at fun o e => k I (by simp) o e,st.1.2.at fun o e => k ax (by simp) o e⟩,st.2.keptD fun b hb o e => k b (by simp [hb]) o e⟩
 item:=fun i s Q E hi st hQ => by
  refine wpAny_pyNext_list_item st.1.1 st.1.2 (x:=items[i]) (by simp [hi]) fun h' hit' sb => ?_
  refine hQ _ h' s.toks (by simp [hi]) ⟨⟨hit',st.1.2.extBut sb.extBut hne⟩,st.2.keptD fun b hb o e => (sb.2 b fun q => hI (q▸hb)).trans e⟩ fun b o hb e => (sb.2 b fun q => hb (by simp [q])).trans e
 done:=fun s Q E st hQ => list_on ⟨D,st.2⟩ st.1.1 st.1.2 (by simp) fun h' k => hQ h' s.toks fun b o hb e => k b o (fun q => hb (by simp [q])) e
 self:=fun _ _ _ _ st hQ => wpAny_pyIter_listiter st.1.1 hQ
theorem min_on {l:Addr} {xs:Array (Int × Tok)} {Q:Value→Shared→Prop} (hn:HdN A s.heap) (hl:s.heap.IsList l (intItems xs)) (hne:0 < xs.size)
  (h:∀ v h' tk,(intItems xs)[argBest (fun i j => decide (numAt xs i < numAt xs j)) (xs.size - 1)]? = some v→(∀ b o,s.heap.get? b = some o→h'.get? b = some o)→Q v { s with heap:=h',toks:=tk }) :
  wpAny (model prog w) A (call (.builtin "min") [.ref l]) Q E s:=by
 obtain ⟨D,nD,lD⟩:=hn.small
 have hlt:∀ b∈D,b < s.heap.objs.size:=fun b hb => let ⟨_,_,e,_⟩:=lD b hb; Heap.lt_size e
 refine call_min_walk (iter_intList hl fun s2 e st hfp hlI => ?_)
 subst e
 have nI:s.heap.objs.size ∉ D:=fun z => absurd (hlt _ z) (Nat.lt_irrefl _)
 refine ⟨_,_,_,_,_,_,_,rfl,walks_on (A:=A.in1) s.heap.objs.size l hlI D nI (intItems xs),⟨st,HdL.keptD (A:=A.in1) nD fun b _ o e => Heap.get?_push_of_some _ e⟩,fun b hb => ?_,by simpa [intItems] using hne,CmpOf.ints_lt (numAt xs) (fun _ _ => intItems_at),fun v h' tk hP hk => ?_⟩
 ·rcases List.mem_append.mp hb with z | z
  ·exact hfp b z
  ·rw [Heap.size_push]; exact Nat.lt_succ_of_lt (hlt b z)
 ·exact h v h' tk (by simpa [intItems] using hP) (old_kept hk)
end
end L2
namespace L2
open PySem
def TrC (h base:Heap) (e:Addr) (cls:Value) (a0:Value × Value) (fl:Value):Prop :=
 ∃ oe vs T oT ts,h.get? e = some oe∧(oe.cls = cls∧vs[0]? = some a0.1∧vs[2]? = some a0.2)∧oe.data = .fields vs∧vs[1]? = some (.ref T)∧base.get? T = none∧T≠e∧h.get? T = some oT∧oT.data = .fields ts∧ts[3]? = some fl
structure StepC (base:Heap) (l:List Env) (e:Addr) (cls:Value) (a0:Value × Value) (fl:Value) (h h':Heap):Prop where
 st:base.StaysIn h'
 ff:h'.FunFrames base l
 tr:TrC h' base e cls a0 fl
 up:h.UpToSlots h'
section
variable {M:Model} {A:Around} {E:Value→Shared→Prop} {s:Shared} {base:Heap} {env:Env} {outer:List Env} {L e:Addr} {cls:Value} {a0:Value × Value}
theorem entry_c {oe:Obj} {vs:Array Value} {head:Value} {hadNext:Bool} {Q:Unit→Shared→Prop} (hfr:A.frames = some (env :: outer)) (hl:s.heap.FunFrames base (env :: outer)) (hf:env.frame = some L)
  (he:s.heap.get? e = some oe) (hkb:base.StaysIn s.heap) (hen:base.get? e = none) (hd:oe.data = .fields vs) (hsz:1 < vs.size) (h0:vs[0]? = some a0.1) (h2:vs[2]? = some a0.2)
  (h:∀ h',StepC base (env :: outer) e oe.cls a0 (rawInt L) s.heap h'→Q () { s with heap:=h' }) :
  wpAny M A (do let a ← frameOf env; let pl ← entryPlaceOf L hadNext; let b ← EntryCells.newEntry head a .none (rawInt L) .none pl; setField (.ref e) 1 b) Q E s:=by
 have rec1:∀ b o,s.heap.get? b = some o→(∀ us,o.data≠.fields us)→b≠e:=fun b o hb hn q => by
  subst q
  rw [he] at hb; cases hb
  exact hn vs hd
 have efr:e ∉ (env :: outer).filterMap (·.frame):=fun hm => by
  obtain ⟨_,o,ho,hn⟩:=hl.mem hm
  exact rec1 e o ho hn rfl
 refine wpAny_bind (wpAny_frameOf_fun hfr hl hf fun g hg => wpAny_bind (wpAny_entryPlaceOf fun pl hpl => ?_))
 unfold EntryCells.newEntry newFields
 refine wpAny_bind (wpAny_newObj_type ?_ (hpl.sizeOk5 _ _ _ _ _))
 generalize ho:(Obj.mk (.type "traceback") none (.fields ([head,.ref L,.none,rawInt L,.none] ++ (if pl.isEmpty then List.replicate 6 Value.none else pl)).toArray) #[]) = ot
 have hoc:ot.data = .fields ([head,.ref L,.none,rawInt L,.none] ++ (if pl.isEmpty then List.replicate 6 Value.none else pl)).toArray:=by rw [← ho]
 have eg:g.get? e = some oe:=(hg.2.1 e efr).trans he
 have bg:base.StaysIn g:=fun b o hb => (hg.2.1 b fun hm => by rw [(hl.mem hm).1] at hb; cases hb).trans (hkb b o hb)
 have nT:g.objs.size≠e:=Nat.ne_of_gt (Heap.lt_size eg)
 have e2:(g.push ot).get? e = some oe:=Heap.get?_push_of_some _ eg
 refine wpAny_setField e2 hd hsz (h _ ?_)
 have d3:=Obj.data_mapFields hd (·.setIfInBounds 1 (Value.ref g.objs.size))
 have e3:=Heap.get?_update_self (Obj.mapFields (·.setIfInBounds 1 (Value.ref g.objs.size))) e2 (Obj.isFreed_of_fields d3)
 have keep:∀ b o,b≠e→g.get? b = some o→((g.push ot).update e (Obj.mapFields (·.setIfInBounds 1 (Value.ref g.objs.size)))).get? b = some o:=fun b o hb q => by
  rw [Heap.get?_update_other _ _ (Ne.symm hb)]
  exact Heap.get?_push_of_some _ q
 have T3:((g.push ot).update e (Obj.mapFields (·.setIfInBounds 1 (Value.ref g.objs.size)))).get? g.objs.size = some ot:=by
  rw [Heap.get?_update_other _ _ (Ne.symm nT)]
  exact Heap.get?_push_size g (by rw [← ho]; rfl)
 refine ⟨fun b o hb => keep b o (fun q => by rw [q,hen] at hb; cases hb) (bg b o hb),hl.of_keeps fun b o hb hn => ?_,⟨_,_,g.objs.size,ot,_,e3,⟨Obj.cls_mapFields _ _,?_,?_⟩,d3,by simp [hsz],bg.fresh,nT,T3,hoc,?_⟩,fun b o hb hn => ?_⟩
 ·obtain ⟨sl,q⟩:=hg.2.2 b o hb
  exact ⟨_,keep b _ (rec1 b o hb hn) q,rfl⟩
 ·rw [Array.getElem?_setIfInBounds_ne (by decide)]; exact h0
 ·rw [Array.getElem?_setIfInBounds_ne (by decide)]; exact h2
 ·first | (simp; done) | (rcases hpl with rfl | ⟨_,_,_,_,_,_,_,rfl⟩ <;> simp)
 ·obtain ⟨sl,q⟩:=hg.2.2 b o hb
  exact ⟨sl,keep b _ (rec1 b o hb hn) q⟩
theorem flight_c {l:List Env} {fl:Value} {Q:Unit→Shared→Prop} (hkb:base.StaysIn s.heap) (hl:s.heap.FunFrames base l) (ht:TrC s.heap base e cls a0 fl)
  (h:∀ h',StepC base l e cls a0 .none s.heap h'→(∀ b o,s.heap.get? b = some o→(∀ us,o.data≠.fields us)→h'.get? b = some o)→Q () { s with heap:=h' }):wpAny M A (setFlight (.ref e) none) Q E s:=by
 obtain ⟨oe,vs,T,oT,ts,he,hc,hd,h1,hnT,hTe,hT,hdT,h3⟩:=ht
 have z3:3 < ts.size:=(Array.getElem?_eq_some_iff.mp h3).1
 have nrec:∀ b o,s.heap.get? b = some o→(∀ us,o.data≠.fields us)→T≠b:=fun b o hb hn q => by
  subst q
  rw [hT] at hb; cases hb
  exact hn ts hdT
 unfold setFlight
 refine wpAny_bind (wpAny_field he hd h1 ?_)
 rw [if_pos (show (Value.ref T != Value.none) = true by simp)]
 refine wpAny_setField hT hdT z3 (h _ ⟨fun b o hb => ?_,hl.of_keeps fun b o hb hn => ⟨o,?_,rfl⟩,⟨oe,vs,T,_,_,?_,hc,hd,h1,hnT,hTe,Heap.get?_update_self _ hT (Obj.isFreed_of_fields (Obj.data_mapFields hdT _)),Obj.data_mapFields hdT _,by simp [z3]⟩,fun b o hb hn => ⟨o.slots,?_⟩⟩ fun b o hb hn => ?_)
 ·rw [Heap.get?_update_other _ _ (fun q => by rw [← q,hnT] at hb; cases hb)]; exact hkb b o hb
 ·rw [Heap.get?_update_other _ _ (nrec b o hb hn)]; exact hb
 ·rw [Heap.get?_update_other _ _ hTe]; exact he
 ·rw [Heap.get?_update_other _ _ (nrec b o hb hn)]; exact hb
 ·rw [Heap.get?_update_other _ _ (nrec b o hb hn)]; exact hb
theorem note_next {Q:Unit→Shared→Prop} (hfr:A.frames = some (env :: outer)) (hl:s.heap.FunFrames base (env :: outer)) (hf:env.frame = some L) (ht:TrC s.heap base e cls a0 .none) (hkb:base.StaysIn s.heap) (hen:base.get? e = none)
  (h:∀ h',StepC base (env :: outer) e cls a0 (rawInt L) s.heap h'→Q () { s with heap:=h' }):wpAny M A (noteFrame (.ref e) env) Q E s:=by
 obtain ⟨oe,vs,T,oT,ts,he,⟨hc,h0,h2⟩,hd,h1,hnT,hTe,hT,hdT,h3⟩:=ht
 subst hc
 have nrec:∀ b o,s.heap.get? b = some o→(∀ us,o.data≠.fields us)→T≠b:=fun b o hb hn q => by
  subst q
  rw [hT] at hb; cases hb
  exact hn ts hdT
 unfold noteFrame
 simp only [hf]
 refine wpAny_bind (wpAny_field he hd h1 ?_)
 rw [if_pos (show (Value.ref T != Value.none) = true by simp)]
 refine wpAny_bind (wpAny_field hT hdT h3 ?_)
 rw [if_neg (show ¬ ((Value.none == rawInt L) = true) by simp [rawInt])]
 refine wpAny_bind (wpAny_setField hT hdT (Array.getElem?_eq_some_iff.mp h3).1 ?_)
 refine entry_c (s:={ s with heap:=_ }) hfr (hl.of_keeps fun b o hb hn => ⟨o,by rw [Heap.get?_update_other _ _ (nrec b o hb hn)]; exact hb,rfl⟩) hf (by rw [Heap.get?_update_other _ _ hTe]; exact he) (fun b o hb => by
  rw [Heap.get?_update_other _ _ (fun q => by rw [← q,hnT] at hb; cases hb)]; exact hkb b o hb) hen hd (Array.getElem?_eq_some_iff.mp h1).1 h0 h2 fun h' S => h h' ⟨S.st,S.ff,S.tr,fun b o hb hn => S.up b o (by rw [Heap.get?_update_other _ _ (nrec b o hb hn)]; exact hb) hn⟩
theorem leave_next {Q:Unit→Shared→Prop} (hfr:A.frames = some (env :: outer)) (hl:s.heap.FunFrames base (env :: outer)) (hf:env.frame = some L) (ht:TrC s.heap base e cls a0 .none) (hkb:base.StaysIn s.heap) (hen:base.get? e = none)
  (h:∀ h',StepC base (env :: outer) e cls a0 .none s.heap h'→Q () { s with heap:=h' }):wpAny M A (leaving env (.ref e)) Q E s:=by
 unfold leaving
 refine wpAny_bind (note_next hfr hl hf ht hkb hen fun h1 S => flight_c (s:={ s with heap:=h1 }) S.st S.ff S.tr fun h2 S2 _ => h h2 ⟨S2.st,S2.ff,S2.tr,S.up.trans S2.up⟩)
end
end L2
namespace L2
open PySem
section
variable {prog:Program} {w:World} {A:Around} {E:Value→Shared→Prop} {s:Shared} {z TI TO i1 i2 l1 l2:Addr} {xs ys:Array Value}
end
end L2
namespace L2
open PySem PySem.Spec PyProof.Rows
abbrev Key:=Sum Int Str
def keyIs:Key→Value→Bool
 | .inl k,v => Value.isInt k v
 | .inr x,v => Value.isStrOf x v
def keyH (w:World):Key→Int
 | .inl k => hashInt k
 | .inr x => hashStr w x
theorem keyIs_shape:∀ {k:Key} {v:Value},keyIs k v = true→(∃ i t,k = Sum.inl i∧v = Value.int i t)∨(∃ x t,k = Sum.inr x∧v = Value.str x t)
 | .inl i,v,h => by
  obtain ⟨t,e⟩:=Value.isInt_shape (k:=i) (v:=v) h
  exact .inl ⟨i,t,rfl,e⟩
 | .inr x,v,h => by
  obtain ⟨t,e⟩:=Value.isStrOf_shape (x:=x) (v:=v) h
  exact .inr ⟨x,t,rfl,e⟩
theorem keyIs_int (i:Int) (t:Tok):keyIs (.inl i) (.int i t) = true:=by simp [keyIs,Value.isInt]
theorem keyIs_str (x:Str) (t:Tok):keyIs (.inr x) (.str x t) = true:=by simp [keyIs,Value.isStrOf]
theorem key_ll (a b:Int):decide ((Sum.inl a:Key) = Sum.inl b) = (a == b):=by
 by_cases e:a = b
 ·subst e; simp
 ·have h:¬ (Sum.inl a:Key) = Sum.inl b:=fun q => e (Sum.inl.inj q)
  rw [decide_eq_false h]
  exact (beq_eq_false_iff_ne.mpr e).symm
theorem key_rr (a b:Str):decide ((Sum.inr a:Key) = Sum.inr b) = decide (a = b):=by
 by_cases e:a = b
 ·subst e; simp
 ·have h:¬ (Sum.inr a:Key) = Sum.inr b:=fun q => e (Sum.inr.inj q)
  rw [decide_eq_false h,decide_eq_false e]
theorem key_lr (a:Int) (b:Str):decide ((Sum.inl a:Key) = Sum.inr b) = false:=decide_eq_false (fun q => nomatch q)
theorem key_rl (a:Str) (b:Int):decide ((Sum.inr a:Key) = Sum.inl b) = false:=decide_eq_false (fun q => nomatch q)
def mixKind (prog:Program) (w:World):PySem.KeyKind prog w Key where
 is:=keyIs
 hash:=keyH w
 inj:=fun v a b ha hb => by
  rcases keyIs_shape ha with ⟨i,t,rfl,rfl⟩ | ⟨x,t,rfl,rfl⟩
  ·rcases keyIs_shape hb with ⟨j,u,rfl,e⟩ | ⟨y,u,rfl,e⟩
   ·injection e with e1 _; rw [e1]
   ·exact nomatch e
  ·rcases keyIs_shape hb with ⟨j,u,rfl,e⟩ | ⟨y,u,rfl,e⟩
   ·exact nomatch e
   ·injection e with e1 _; rw [e1]
 byValue:=fun k v h => by
  rcases keyIs_shape h with ⟨i,t,rfl,rfl⟩ | ⟨x,t,rfl,rfl⟩ <;> rfl
 pyHash:=fun hv h => by
  rcases keyIs_shape hv with ⟨i,t,rfl,rfl⟩ | ⟨x,t,rfl,rfl⟩
  ·exact wpAny_pyHash_int h
  ·exact wpAny_pyHash_str h
 eqBool:=fun hu hv h => by
  rcases keyIs_shape hu with ⟨i,t,rfl,rfl⟩ | ⟨x,t,rfl,rfl⟩
  ·rcases keyIs_shape hv with ⟨j,u,rfl,rfl⟩ | ⟨y,u,rfl,rfl⟩
   ·rw [key_ll] at h; exact wpAny_eqBool_int h
   ·rw [key_lr] at h; exact SeqAt.EqAt.int_str i t y u _ _ _ _ h
  ·rcases keyIs_shape hv with ⟨j,u,rfl,rfl⟩ | ⟨y,u,rfl,rfl⟩
   ·rw [key_rl] at h; exact SeqAt.EqAt.str_int x t j u _ _ _ _ h
   ·rw [key_rr] at h; exact wpAny_eqBool_str h
 «strs»:=fun k x t v h => by
  rcases keyIs_shape h with ⟨i,u,rfl,e⟩ | ⟨y,u,rfl,e⟩
  ·exact nomatch e
  ·injection e with e1 _
   subst e1
   cases v <;> rfl
theorem mixKind_int (prog:Program) (w:World) (i:Int) (t:Tok):(mixKind prog w).is (.inl i) (.int i t) = true:=keyIs_int i t
theorem mixKind_str (prog:Program) (w:World) (x:Str) (t:Tok):(mixKind prog w).is (.inr x) (.str x t) = true:=keyIs_str x t
end L2
namespace L2
open PySem PySem.Spec PyProof.Rows
inductive V where
 | non | bl (b:Bool) | int (i:Int) | str (x:Str) | byt (b:Array UInt8) | flt (b:UInt64) | ref (a:Addr) | ty (n:String)
 deriving DecidableEq
def RelV:V→Value→Prop
 | .non,u => u = Value.none
 | .bl b,u => u = Value.bool b
 | .int i,u => ∃ t,u = Value.int i t
 | .str x,u => ∃ t,u = Value.str x t
 | .byt b,u => ∃ t,u = Value.bytes b t
 | .flt b,u => ∃ t,u = Value.float b t
 | .ref a,u => u = Value.ref a
 | .ty n,u => u = Value.type n
abbrev Vals:List V→List Value→Prop:=Paired RelV
theorem Vals.length {xs:List V} {us:List Value} (r:Vals xs us):xs.length = us.length:=Paired.length r
theorem Vals.get:∀ {xs:List V} {us:List Value} {i:Nat} {x:V},Vals xs us→xs[i]? = some x→∃ u,us[i]? = some u∧RelV x u
 | _,_,_,_,.nil,e => by simp at e
 | _,_,0,_,.cons r _,e => by simp at e; subst e; exact ⟨_,rfl,r⟩
 | _,_,i + 1,x,.cons _ t,e => by
  obtain ⟨u,h1,h2⟩:=Vals.get (i:=i) (x:=x) t (by simpa using e)
  exact ⟨u,by simpa using h1,h2⟩
theorem Vals.append:∀ {xs ys:List V} {us ws:List Value},Vals xs us→Vals ys ws→Vals (xs ++ ys) (us ++ ws)
 | _,_,_,_,.nil,s => s
 | _,_,_,_,.cons r t,s => .cons r (Vals.append t s)
theorem Vals.take:∀ {xs:List V} {us:List Value} (n:Nat),Vals xs us→Vals (xs.take n) (us.take n)
 | _,_,0,_ => .nil
 | _,_,_ + 1,.nil => .nil
 | _,_,n + 1,.cons r t => .cons r (Vals.take n t)
theorem Vals.drop:∀ {xs:List V} {us:List Value} (n:Nat),Vals xs us→Vals (xs.drop n) (us.drop n)
 | _,_,0,r => r
 | _,_,_ + 1,.nil => .nil
 | _,_,n + 1,.cons _ t => Vals.drop n t
def RelO:Option V→Option Value→Prop
 | some v,some u => RelV v u
 | none,none => True
 | _,_ => False
def KV {κ:Type}:List (κ × V)→List (κ × Value)→Prop:=Paired fun (p:κ × V) (q:κ × Value) => p.1 = q.1∧RelV p.2 q.2
def kV:Key→V
 | .inl i => .int i
 | .inr x => .str x
inductive HO where
 | lst (xs:List V)
 | tup (xs:List V)
 | dK (kvs:List (Key × V)) | dT (kvs:List (List Key × V))
 | set (S:Int→Bool) (n:Nat)
 | ins (C dx:Addr) (fs:List (Str × V))
 | own (x:Addr)
 | xd (fs:List (Str × V))
 | met (f x:Addr)
 | rng (lo hi:Int)
 | frz (o:Obj) (u:HO)
 | tbl (ps:Array Value)
 | ext (φ:Heap→Prop)
abbrev Hp:=Addr→Option HO
def upd (H:Hp) (a:Addr) (o:HO):Hp:=fun b => if b = a then some o else H b
theorem upd_same {H:Hp} {a:Addr} {o:HO}:upd H a o a = some o:=by unfold upd; rw [if_pos rfl]
theorem upd_ne {H:Hp} {a b:Addr} {o:HO} (h:b≠a):upd H a o b = H b:=by unfold upd; rw [if_neg h]
theorem ne_of {H:Hp} {a b:Addr} {o u:HO} (h:H a = some o) (h':H b = some u) (d:o≠u):a≠b:=by
 intro e; subst e; rw [h] at h'; exact d (Option.some.inj h')
theorem ne_of_none {H:Hp} {a b:Addr} {o:HO} (h:H a = some o) (h':H b = none):a≠b:=by
 intro e; subst e; rw [h] at h'; cases h'
section
variable (P:Program) (w:World)
def ObjOk (H:Hp) (h:Heap) (a:Addr):HO→Prop
 | .lst xs => xs.length≤sizeLine∧∃ (its:List Value) (n:Nat),Vals xs its∧h.get? a = some { cls:=.type "list",data:=.seq its.toArray n }
 | .tup xs => xs.length≤sizeLine∧∃ its:List Value,Vals xs its∧IsTup h a its.toArray
 | .dK kvs => kvs.length≤sizeLine∧(a == sysModules) = false∧∃ vs,KV kvs vs∧h.DictOf (mixKind P w) a vs
 | .dT kvs => kvs.length≤sizeLine∧(a == sysModules) = false∧∃ xs:List (List Key × Addr × Value),
   Paired (fun (p:List Key × V) (q:List Key × Addr × Value) => p.1 = q.1∧H q.2.1 = some (.tup (p.1.map kV))∧RelV p.2 q.2.2) kvs xs ∧
   ∃ o es ep,h.get? a = some o∧o.ExactDict∧o.data = .dict es ep∧es.toList = xs.map (entryOfKey (tupleKind (mixKind P w)))∧(xs.map (·.1)).Nodup
 | .set S n => h.SetOf (intKind P w) a S n
 | .ins C dx fs => H dx = some (.own a)∧fs.length≤1000∧dx≠a∧h.get? a = some (PySem.W.instObj C dx) ∧
   ∃ mA,h.Ns1 dx mA∧(∀ f,RelO (fs.lookup f) (mA f))∧PySem.Within mA (fs.map (·.1))
 | .own _ => ∃ o,h.get? a = some o
 | .xd fs => ∃ mA,h.Ns1 a mA∧∀ f,RelO (fs.lookup f) (mA f)
 | .rng lo hi => ∃ t u v,h.get? a = some { cls:=.type "range",data:=.fields #[.int lo t,.int hi u,.int 1 v] }
 | .frz o u => h.get? a = some o∧ObjOk H h a u
 | .tbl ps => h.get? a = some { cls:=.none,data:=.fields ps }
 | .met f x => h.get? a = some (PySem.W.methodObj (.ref f) (.ref x))
 | .ext φ => φ h∧(∃ o,h.get? a = some o)∧∀ h1 h2:Heap,φ h1→(∀ o,h1.get? a = some o→h2.get? a = some o)→φ h2
def HOk (H:Hp) (h:Heap):Prop:=∀ a o,H a = some o→ObjOk P w H h a o
end
section
variable {P:Program} {w:World} {H H':Hp} {h h':Heap} {a:Addr} {o:HO}
theorem ObjOk.lt (x:ObjOk P w H h a o):a < h.objs.size:=by
 cases o with
 | lst xs => obtain ⟨_,_,_,_,e⟩:=x; exact Heap.lt_size e
 | tup xs => obtain ⟨_,_,_,p⟩:=x; exact p.lt
 | dK kvs => obtain ⟨_,_,_,_,o,_,_,e,_⟩:=x; exact Heap.lt_size e
 | dT kvs => obtain ⟨_,_,_,_,o,_,_,e,_⟩:=x; exact Heap.lt_size e
 | set S n => obtain ⟨o,_,_,_,e,_⟩:=x; exact Heap.lt_size e
 | ins C dx fs => obtain ⟨_,_,_,e,_⟩:=x; exact Heap.lt_size e
 | own y => obtain ⟨_,e⟩:=x; exact Heap.lt_size e
 | xd fs => obtain ⟨_,⟨_,_,_,e,_⟩,_⟩:=x; exact Heap.lt_size e
 | rng lo hi => obtain ⟨_,_,_,e⟩:=x; exact Heap.lt_size e
 | frz ob u => obtain ⟨e,_⟩:=x; exact Heap.lt_size e
 | tbl ps => exact Heap.lt_size (show h.get? a = some _ from x)
 | met f y => exact Heap.lt_size (show h.get? a = some _ from x)
 | ext φ => obtain ⟨_,⟨_,e⟩,_⟩:=x; exact Heap.lt_size e
theorem Paired.mapP {α β:Type} {F G:α→β→Prop}:∀ {l₁:List α} {l₂:List β},Paired F l₁ l₂→(∀ a b,F a b→G a b)→Paired G l₁ l₂
 | _,_,.nil,_ => .nil
 | _,_,.cons r t,f => .cons (f _ _ r) (Paired.mapP t f)
theorem ObjOk.stay (x:ObjOk P w H h a o) (k:∀ b u,(b = a∨H b = some (.own a))→h.get? b = some u→h'.get? b = some u)
  (ho:∀ b,H b = some (.own a)→H' b = some (.own a)) (ht:∀ b xs,H b = some (.tup xs)→H' b = some (.tup xs)):ObjOk P w H' h' a o:=by
 induction o with
 | lst xs => obtain ⟨z,its,n,r,e⟩:=x; exact ⟨z,its,n,r,k _ _ (.inl rfl) e⟩
 | tup xs => obtain ⟨z,its,r,ob,e,c⟩:=x; exact ⟨z,its,r,ob,k _ _ (.inl rfl) e,c⟩
 | dK kvs => obtain ⟨z,y,vs,r,ob,es,ep,e,c⟩:=x; exact ⟨z,y,vs,r,ob,es,ep,k _ _ (.inl rfl) e,c⟩
 | dT kvs =>
  obtain ⟨z,y,xs,r,ob,es,ep,e,c⟩:=x
  exact ⟨z,y,xs,Paired.mapP r fun p q z => ⟨z.1,ht _ _ z.2.1,z.2.2⟩,ob,es,ep,k _ _ (.inl rfl) e,c⟩
 | set S n => obtain ⟨ob,es,ep,t,e,c⟩:=x; exact ⟨ob,es,ep,t,k _ _ (.inl rfl) e,c⟩
 | ins C dx fs =>
  obtain ⟨d,z,ne,e,mA,⟨od,es,ep,e2,c⟩,r⟩:=x
  exact ⟨ho _ d,z,ne,k _ _ (.inl rfl) e,mA,⟨od,es,ep,k _ _ (.inr d) e2,c⟩,r⟩
 | own y => obtain ⟨ob,e⟩:=x; exact ⟨ob,k _ _ (.inl rfl) e⟩
 | xd fs => obtain ⟨mA,⟨od,es,ep,e,c⟩,r⟩:=x; exact ⟨mA,⟨od,es,ep,k _ _ (.inl rfl) e,c⟩,r⟩
 | rng lo hi => obtain ⟨t,u,v,e⟩:=x; exact ⟨t,u,v,k _ _ (.inl rfl) e⟩
 | frz ob u ih => obtain ⟨e,q⟩:=x; exact ⟨k _ _ (.inl rfl) e,ih q⟩
 | tbl ps =>
  have e:h.get? a = some { cls:=.none,data:=.fields ps }:=x
  show h'.get? a = some { cls:=.none,data:=.fields ps }
  exact k a _ (.inl rfl) e
 | met f y =>
  have e:h.get? a = some (PySem.W.methodObj (.ref f) (.ref y)):=x
  show h'.get? a = some (PySem.W.methodObj (.ref f) (.ref y))
  exact k a _ (.inl rfl) e
 | ext φ => obtain ⟨p,⟨o,e⟩,st⟩:=x; exact ⟨st _ _ p fun o q => k _ _ (.inl rfl) q,⟨o,k _ _ (.inl rfl) e⟩,st⟩
theorem HOk.lt (x:HOk P w H h) (e:H a = some o):a < h.objs.size:=(x a o e).lt
theorem HOk.fresh (x:HOk P w H h) (e:h.objs.size≤a):H a = none:=by
 cases q:H a with
 | none => rfl
 | some u => exact absurd (Nat.lt_of_lt_of_le (x.lt q) e) (Nat.lt_irrefl _)
theorem HOk.kept (x:HOk P w H h) (k:∀ b u,h.get? b = some u→h'.get? b = some u):HOk P w H h':=fun a o e =>
 (x a o e).stay (fun b u _ q => k b u q) (fun _ q => q) fun _ _ q => q
theorem HOk.laid (x:HOk P w H h) (k:∀ b u,h.get? b = some u→h'.get? b = some u) (hp:h.objs.size≤a) (new:ObjOk P w (upd H a o) h' a o):HOk P w (upd H a o) h':=fun b u e => by
 have hn:=x.fresh hp
 by_cases hb:b = a
 ·subst hb; rw [upd_same] at e; cases e; exact new
 ·rw [upd_ne hb] at e
  exact (x b u e).stay (fun c v _ q => k c v q) (fun c q => by rw [upd_ne (ne_of_none q hn)]; exact q) fun c xs q => by rw [upd_ne (ne_of_none q hn)]; exact q
end
def Rd (H:Hp) (a:Addr) (u:HO):Prop:=H a = some u∨∃ o,H a = some (.frz o u)
theorem Rd.ok {P:Program} {w:World} {H:Hp} {h:Heap} {a:Addr} {u:HO} (r:Rd H a u) (x:HOk P w H h):ObjOk P w H h a u:=by
 rcases r with r | ⟨o,r⟩
 ·exact x a u r
 ·obtain ⟨_,q⟩:=x a _ r
  exact q
def Mut:Option HO→Prop
 | some (.lst _) => True
 | some (.dK _) => True
 | some (.dT _) => True
 | some (.set _ _) => True
 | some (.ins _ _ _) => True
 | some (.ext _) => True
 | _ => False
section
variable {P:Program} {w:World} {H:Hp} {h h':Heap} {x e:Addr} {o':HO}
theorem HOk.write (ok:HOk P w H h) (mu:Mut (H x)) (he:e = x∨H e = some (.own x)) (k:∀ b u,b≠e→h.get? b = some u→h'.get? b = some u) (heo:∃ u,h'.get? e = some u)
  (new:ObjOk P w (upd H x o') h' x o'):HOk P w (upd H x o') h':=fun b u q => by
 have nown:∀ c y,H c = some (.own y)→c≠x:=fun c y r z => by subst z; rw [r] at mu; exact mu
 have ntup:∀ c xs,H c = some (.tup xs)→c≠x:=fun c xs r z => by subst z; rw [r] at mu; exact mu
 by_cases hb:b = x
 ·subst hb; rw [upd_same] at q; cases q; exact new
 ·rw [upd_ne hb] at q
  by_cases hbe:b = e
  ·have q':H b = some (.own x):=by
    rcases he with z | z
    ·exact absurd (hbe.trans z) hb
    ·rw [hbe]; exact z
   rw [q] at q'; cases q'
   obtain ⟨v,hv⟩:=heo
   exact ⟨v,by rw [hbe]; exact hv⟩
  ·refine (ok b u q).stay (fun c v hc r => k c v ?_ r) (fun c r => by rw [upd_ne (nown c b r)]; exact r) fun c xs r => by rw [upd_ne (ntup c xs r)]; exact r
   rcases hc with rfl | hc
   ·exact hbe
   ·rintro rfl
    rcases he with z | z
    ·exact nown c b hc z
    ·rw [hc] at z; cases z; exact hb rfl
end
structure Un (fs ex:List Addr) (H H':Hp) (h h':Heap):Prop where
 keep:∀ b o,h.get? b = some o→H b = none→b ∉ fs→b ∉ ex→h'.get? b = some o
 slot:∀ b o,h.get? b = some o→H b = none→b∈fs→b ∉ ex→∃ sl,h'.get? b = some { o with slots:=sl }
 free:∀ b o,h.get? b = some o→H b = none→b ∉ ex→H' b = none
 there:∀ b o,h.get? b = some o→b ∉ ex→∃ o',h'.get? b = some o'
 tups:∀ b xs,H b = some (.tup xs)→H' b = some (.tup xs)
 frzs:∀ b o u,H b = some (.frz o u)→H' b = some (.frz o u)
 tbls:∀ b ps,H b = some (.tbl ps)→∃ more,H' b = some (.tbl (ps ++ more))
section
variable {fs fs' ex ex':List Addr} {H H1 H2:Hp} {h h1 h2 h':Heap} {a x e:Addr} {o:HO}
theorem Un.any (u:Un fs ex H H1 h h1) {b:Addr} {ob:Obj} (q:h.get? b = some ob) (n:H b = none) (hx:b ∉ ex):∃ sl,h1.get? b = some { ob with slots:=sl }:=by
 by_cases hb:b∈fs
 ·exact u.slot b ob q n hb hx
 ·exact ⟨ob.slots,u.keep b ob q n hb hx⟩
theorem Un.kept (k:∀ b u,h.get? b = some u→h'.get? b = some u):Un fs ex H H h h' :=
 ⟨fun b ob q _ _ _ => k b ob q,fun b ob q _ _ _ => ⟨ob.slots,k b ob q⟩,fun _ _ _ n _ => n,fun b ob q _ => ⟨ob,k b ob q⟩,fun _ _ q => q,fun _ _ _ q => q,fun _ ps q => ⟨#[],by rw [q]; simp⟩⟩
theorem Un.refl:Un fs ex H H h h:=Un.kept fun _ _ q => q
theorem Un.laid (k:∀ b u,h.get? b = some u→h'.get? b = some u) (hp:h.objs.size≤a) (hn:H a = none):Un fs ex H (upd H a o) h h' where
 keep:=fun b u q _ _ _ => k b u q
 slot:=fun b u q _ _ _ => ⟨u.slots,k b u q⟩
 free:=fun b u q n _ => by rw [upd_ne (Nat.ne_of_lt (Nat.lt_of_lt_of_le (Heap.lt_size q) hp))]; exact n
 there:=fun b u q _ => ⟨u,k b u q⟩
 tups:=fun b xs q => by rw [upd_ne (ne_of_none q hn)]; exact q
 frzs:=fun b u xs q => by rw [upd_ne (ne_of_none q hn)]; exact q
 tbls:=fun b ps q => ⟨#[],by rw [upd_ne (ne_of_none q hn),q]; simp⟩
theorem Un.write (mu:Mut (H x)) (he:e = x∨H e = some (.own x)) (k:∀ b u,b≠e→h.get? b = some u→h'.get? b = some u) (heo:∃ u,h'.get? e = some u):Un fs ex H (upd H x o) h h':=by
 have hx:∀ b,H b = none→b≠x:=fun b n z => by subst z; rw [n] at mu; exact mu
 have hb:∀ b,H b = none→b≠e:=fun b n z => by
  subst z
  rcases he with r | r
  ·exact hx b n r
  ·rw [n] at r; cases r
 have hm:∀ b u,H b = some u→¬ Mut (some u)→b≠x:=fun b u q nm z => by subst z; rw [q] at mu; exact nm mu
 refine ⟨fun b u q n _ _ => k b u (hb b n) q,fun b u q n _ _ => ⟨u.slots,k b u (hb b n) q⟩,fun b u q n _ => by rw [upd_ne (hx b n)]; exact n,fun b u q _ => ?_,
  fun b xs q => by rw [upd_ne (hm b _ q fun z => z)]; exact q,fun b u xs q => by rw [upd_ne (hm b _ q fun z => z)]; exact q,fun b ps q => ⟨#[],by rw [upd_ne (hm b _ q fun z => z),q]; simp⟩⟩
 by_cases hbe:b = e
 ·subst hbe; exact heo
 ·exact ⟨u,k b u hbe q⟩
end
def trk (h:Heap) (H:Hp):List Addr:=(List.range h.objs.size).filter fun a => (H a).isSome
def hidT (h:Heap) (H:Hp):Heap:=PySem.W.hideAll h (trk h H)
theorem hidT_size (h:Heap) (H:Hp):(hidT h H).objs.size = h.objs.size:=PySem.W.hideAll_size _ _
theorem hidT_get {h:Heap} {H:Hp} {b:Addr} {o:Obj} (e:h.get? b = some o) (n:H b = none):(hidT h H).get? b = some o :=
 PySem.W.hideAll_get _ e fun hm => by
  have q:(H b).isSome = true:=(List.mem_filter.mp hm).2
  rw [n] at q; simp at q
theorem of_hidT {h:Heap} {H:Hp} {b:Addr} {o:Obj} (e:(hidT h H).get? b = some o):h.get? b = some o∧H b = none:=by
 have e':h.get? b = some o:=PySem.W.of_hideAll (trk h H) e
 refine ⟨e',?_⟩
 cases q:H b with
 | none => rfl
 | some x =>
  have hm:b∈trk h H:=List.mem_filter.mpr ⟨List.mem_range.mpr (Heap.lt_size e'),by simp [q]⟩
  have z:(hidT h H).get? b = none:=PySem.W.hideAll_none (trk h H) hm
  rw [z] at e; cases e
end L2
namespace L2
open PySem PySem.Spec PyProof.Rows
structure Mod (K:PySem.W.Frag) (mg:Str→Option Value) (base:Heap):Prop where
 kin:K.In base
 glob:base.Ns mainGlobals mg
 blt:∃ mb,base.Ns builtinsNs mb∧∀ x:Str,x≠"__name__"→mb x = bootBuiltins x
 nolimit:base.NoLimit
structure Cx where
 prog:Program
 w:World
 K:PySem.W.Frag
 mg:Str→Option Value
 base:Heap
 A:Around
 N:List Str
 s₀:Shared
 H₀:Hp
 env:Env
 outer:List Env
 stack:List Env
 ex:List Addr
 fn:Str→Bool
 calm:Bool
 pn:List (Addr × Obj)
 xe:Value→Shared→Prop
def frs (l:List Env):List Addr:=l.filterMap (·.frame)
abbrev Cx.fs (X:Cx):List Addr:=frs X.outer
def Vis (sc:Scope) (x:Str):Prop:=sc.names.lookup x = some .local∨sc.names.lookup x = some .cell∨sc.names.lookup x = some .free
def Loc (sc:Scope) (x:Str):Prop:=sc.names.lookup x = some .local∨sc.names.lookup x = some .cell
def Look (env:Env) (h:Heap) (m:Str→Option Value) (x:Str) (u:Value):Prop :=
 (env.kindOf x = some .local∧m x = some u)∨((env.kindOf x = some .cell∨env.kindOf x = some .free)∧∃ c,env.cells.lookup x = some c∧h.IsCell c (some u))
structure Cx.Ok (X:Cx):Prop where
 mod:Mod X.K X.mg X.base
 kind:X.env.scope.kind = .function
 glob:X.env.globals = mainGlobals
 blt:X.env.builtins = builtinsNs
 above:X.s₀.heap.objs.size≤X.env.locals
 inj:∀ x y c,X.env.cells.lookup x = some c→X.env.cells.lookup y = some c→x = y
 has:∀ x,(X.env.kindOf x = some .cell∨X.env.kindOf x = some .free)→∃ c,X.env.cells.lookup x = some c
 cab:∀ x c,X.fn x = true→X.env.cells.lookup x = some c→X.s₀.heap.objs.size≤c
 hd:X.calm = true→X.A.handled = none
 frames:X.A.frames = some X.stack
 stk:X.stack = X.outer∨(X.stack = X.env :: X.outer∧X.env.frame = some X.env.locals)
 exf:∀ b∈X.ex,b≠X.env.locals∧∀ x c,X.env.cells.lookup x = some c→c≠b
 bs:∀ b o,X.base.get? b = some o→X.s₀.heap.get? b = some o∧X.H₀ b = none
 bsz:X.base.objs.size≤X.s₀.heap.objs.size
 noex:∀ b o,X.base.get? b = some o→b ∉ X.ex
 exfs:∀ b∈X.ex,b ∉ X.fs
 funs:X.s₀.heap.FunFrames X.base X.outer
 frf:∀ b∈X.fs,X.H₀ b = none
inductive CxO (H:Hp):Value→Prop
 | nil:CxO H .none
 | cons {b:Addr} {ob:Obj} {us:Array Value} {u:HO} {c:Value}:H b = some (.frz ob u)→ob.data = .fields us→us[2]? = some c→CxO H c→CxO H (.ref b)
theorem CxO.mono {H H':Hp} {c:Value} (h:CxO H c) (k:∀ b o u,H b = some (.frz o u)→H' b = some (.frz o u)):CxO H' c:=by
 induction h with
 | nil => exact .nil
 | cons q1 q2 q3 _ ih => exact .cons (k _ _ _ q1) q2 q3 ih
theorem CxO.chn {P:Program} {w:World} {H:Hp} {h:Heap} {c:Value} (n:CxO H c) (ok:HOk P w H h):∃ D,Chn h D c∧∀ b∈D,∃ o u,H b = some (.frz o u):=by
 induction n with
 | nil => exact ⟨[],.nil,fun b hb => absurd hb (by simp)⟩
 | @cons b ob us u c q1 q2 q3 _ ih =>
  obtain ⟨D,m,l⟩:=ih
  refine ⟨b :: D,.cons (by simp) (ok b _ q1).1 q2 q3 (m.kept (fun _ _ _ e => e) fun d hd => List.mem_cons_of_mem _ hd),fun d hd => ?_⟩
  rcases List.mem_cons.mp hd with rfl | hd
  ·exact ⟨_,_,q1⟩
  ·exact l d hd
def HdF (A:Around) (H:Hp):Prop:=A.handled = none∨∃ ea:Addr,A.handled = some (.ref ea)∧CxO H (.ref ea)
theorem HdF.mono {A:Around} {H H':Hp} (h:HdF A H) (k:∀ b o u,H b = some (.frz o u)→H' b = some (.frz o u)):HdF A H':=by
 rcases h with z | ⟨ea,h1,h2⟩
 ·exact .inl z
 ·exact .inr ⟨ea,h1,h2.mono k⟩
theorem HdF.now {P:Program} {w:World} {A:Around} {H:Hp} {h:Heap} (n:HdF A H) (ok:HOk P w H h):HdN A h:=by
 rcases n with z | ⟨ea,h1,h2⟩
 ·exact ⟨[],.inl z⟩
 ·obtain ⟨D,m,_⟩:=h2.chn ok
  exact ⟨D,.inr ⟨ea,h1,m⟩⟩
structure Inv (X:Cx) (pins:List (Addr × Obj)) (σ:List (Option V)) (H:Hp) (s:Shared):Prop where
 ok:X.Ok
 os:s.os = X.s₀.os
 bare:AllBare s.gens
 base:Un X.fs X.ex X.H₀ H X.s₀.heap s.heap
 loc:∃ m,s.heap.Ns X.env.locals m∧∀ (i:Nat) (x:Str) (v:V),X.N[i]? = some x→σ[i]? = some (some v)→Vis X.env.scope x→∃ u,RelV v u∧Look X.env s.heap m x u
 cell:∀ x c,X.env.cells.lookup x = some c→∃ v,s.heap.IsCell c v
 free:H X.env.locals = none
 freeC:∀ x c,X.env.cells.lookup x = some c→H c = none
 pin:∀ p∈X.pn ++ pins,s.heap.get? p.1 = some p.2∧H p.1 = none∧p.1≠X.env.locals∧p.1 ∉ X.fs∧∀ v,p.2.data≠.cell v
 hok:HOk X.prog X.w H s.heap
 len:σ.length = X.N.length
 hn:HdF X.A H
section
variable {X:Cx} {pins:List (Addr × Obj)} {σ:List (Option V)} {H H':Hp} {s:Shared} {h':Heap}
theorem Cx.Ok.nofr (ok:X.Ok) {b:Addr} {o:Obj} (e:X.base.get? b = some o):b ∉ X.fs:=fun hb => by
 have:=(ok.funs.mem hb).1
 rw [e] at this; cases this
theorem Inv.bs (I:Inv X pins σ H s):∀ b o,X.base.get? b = some o→s.heap.get? b = some o∧H b = none:=fun b o e =>
 ⟨I.base.keep b o (I.ok.bs b o e).1 (I.ok.bs b o e).2 (I.ok.nofr e) (I.ok.noex b o e),I.base.free b o (I.ok.bs b o e).1 (I.ok.bs b o e).2 (I.ok.noex b o e)⟩
theorem Inv.bk (I:Inv X pins σ H s):∀ b o,X.base.get? b = some o→s.heap.get? b = some o:=fun b o e => (I.bs b o e).1
theorem Inv.mod (I:Inv X pins σ H s):Mod X.K X.mg X.base:=I.ok.mod
theorem Inv.kIn (I:Inv X pins σ H s):X.K.In s.heap:=I.ok.mod.kin.keeps I.bk
theorem Inv.fr (I:Inv X pins σ H s):∃ m,Fr X.base X.env.locals s.heap m :=
 let ⟨m,hn,_⟩:=I.loc
 ⟨m,hn,I.bk,Nat.le_trans I.ok.bsz I.ok.above⟩
theorem Inv.lt (I:Inv X pins σ H s):X.env.locals < s.heap.objs.size:=let ⟨_,hn,_⟩:=I.loc; hn.lt
theorem Inv.sz (I:Inv X pins σ H s):X.s₀.heap.objs.size≤s.heap.objs.size:=Nat.le_trans I.ok.above (Nat.le_of_lt I.lt)
theorem Inv.nofs (I:Inv X pins σ H s) {a:Addr} (h:s.heap.objs.size≤a):a ∉ X.fs:=fun hb => by
 obtain ⟨_,o,ho,_⟩:=I.ok.funs.mem hb
 exact absurd (Nat.lt_of_lt_of_le (Heap.lt_size ho) (Nat.le_trans I.sz h)) (Nat.lt_irrefl _)
theorem Inv.cne (I:Inv X pins σ H s):∀ x c,X.env.cells.lookup x = some c→c≠X.env.locals:=fun x c e z => by
 obtain ⟨v,o,ho,hd⟩:=I.cell x c e
 obtain ⟨m,⟨o',es,ep,ho',hd',_⟩,_⟩:=I.loc
 rw [z,ho'] at ho; cases ho; rw [hd'] at hd; cases hd
theorem Inv.funs (I:Inv X pins σ H s):s.heap.FunFrames X.base X.outer:=by
 have all:∀ (l:List Env),(∀ b∈frs l,b∈X.fs)→X.s₀.heap.FunFrames X.base l→s.heap.FunFrames X.base l:=by
  intro l
  induction l with
  | nil => intro _ _; trivial
  | cons env r ih =>
   intro hs hl
   obtain ⟨hk,⟨L,o,hf,hn,ho,hd⟩,hr⟩:=hl
   have hL:L∈X.fs:=hs L (by unfold frs; rw [List.filterMap_cons,hf]; exact List.mem_cons_self)
   obtain ⟨sl,e⟩:=I.base.slot L o ho (I.ok.frf L hL) hL fun z => I.ok.exfs L z hL
   exact ⟨hk,⟨L,_,hf,hn,e,hd⟩,ih (fun b hb => hs b (by unfold frs; rw [List.filterMap_cons,hf]; exact List.mem_cons_of_mem _ hb)) hr⟩
 exact all X.outer (fun _ hb => hb) I.ok.funs
theorem Inv.stack (I:Inv X pins σ H s):s.heap.FunFrames X.base X.stack:=by
 rcases I.ok.stk with e | ⟨e,hf⟩
 ·rw [e]; exact I.funs
 ·rw [e]
  obtain ⟨m,hn,_⟩:=I.loc
  refine .cons (by rw [I.ok.kind]; decide) hf hn ?_ I.funs
  exact Heap.get?_none_of_le (Nat.le_trans I.ok.bsz I.ok.above)
theorem Inv.stkSub (I:Inv X pins σ H s):∀ b∈frs X.stack,b∈X.env.locals :: X.fs:=fun b hb => by
 rcases I.ok.stk with e | ⟨e,hf⟩
 ·rw [e] at hb; exact List.mem_cons_of_mem _ hb
 ·rw [e] at hb
  unfold frs at hb
  rw [List.filterMap_cons,hf] at hb
  exact hb
theorem Inv.stkFree (I:Inv X pins σ H s):∀ b∈frs X.stack,H b = none:=fun b hb => by
 rcases List.mem_cons.mp (I.stkSub b hb) with e | hb
 ·rw [e]; exact I.free
 ·obtain ⟨_,o,ho,_⟩:=I.ok.funs.mem hb
  exact I.base.free b o ho (I.ok.frf b hb) fun z => I.ok.exfs b z hb
theorem Inv.step {g':Array GenState} {t':Nat} {d':Drawn} {ch:List Addr} (I:Inv X pins σ H s)
  (hch:∀ b∈ch,(b∈X.ex∨X.s₀.heap.objs.size≤b)∧b≠X.env.locals∧(∀ x c,X.env.cells.lookup x = some c→c≠b)∧∀ p∈X.pn ++ pins,p.1≠b)
  (keep:∀ b o,b≠X.env.locals→b ∉ X.fs→b ∉ ch→s.heap.get? b = some o→H b = none→h'.get? b = some o)
  (slot:∀ b o,b≠X.env.locals→b∈X.fs→b ∉ ch→s.heap.get? b = some o→H b = none→∃ sl,h'.get? b = some { o with slots:=sl }) (free:∀ b o,b ∉ ch→s.heap.get? b = some o→H b = none→H' b = none)
  (there:∀ b o,b ∉ ch→s.heap.get? b = some o→∃ o',h'.get? b = some o')
  (tups:∀ b xs,H b = some (.tup xs)→H' b = some (.tup xs)) (frzs:∀ b o u,H b = some (.frz o u)→H' b = some (.frz o u)) (tbls:∀ b ps,H b = some (.tbl ps)→∃ more,H' b = some (.tbl (ps ++ more)))
  (ns:∀ m,s.heap.Ns X.env.locals m→h'.Ns X.env.locals m) (hok:HOk X.prog X.w H' h') (hg:AllBare g') :
  Inv X pins σ H' { s with heap:=h',gens:=g',drawn:=d',toks:=t' }:=by
 have neL:∀ b o,X.s₀.heap.get? b = some o→b≠X.env.locals:=fun b o e => Nat.ne_of_lt (Nat.lt_of_lt_of_le (Heap.lt_size e) I.ok.above)
 have neC:∀ b o,X.s₀.heap.get? b = some o→b ∉ X.ex→b ∉ ch:=fun b o e hx hb => by
  rcases (hch b hb).1 with z | z
  ·exact hx z
  ·exact absurd (Nat.lt_of_lt_of_le (Heap.lt_size e) z) (Nat.lt_irrefl _)
 have cellK:∀ x c,X.env.cells.lookup x = some c→∀ v,s.heap.IsCell c v→h'.IsCell c v:=fun x c e v ⟨o,ho,hd⟩ => by
  have nch:c ∉ ch:=fun z => (hch c z).2.2.1 x c e rfl
  by_cases hc:c∈X.fs
  ·obtain ⟨sl,q⟩:=slot c o (I.cne x c e) hc nch ho (I.freeC x c e)
   exact ⟨_,q,hd⟩
  ·exact ⟨o,keep c o (I.cne x c e) hc nch ho (I.freeC x c e),hd⟩
 refine ⟨I.ok,I.os,hg,⟨fun b o e n hb hx => ?_,fun b o e n hb hx => ?_,fun b o e n hx => ?_,fun b o e hx => ?_,fun b xs e => tups b xs (I.base.tups b xs e),fun b o xs e => frzs b o xs (I.base.frzs b o xs e),fun b ps e => ?_⟩,?_,fun x c e => ?_,?_,fun x c e => ?_,fun p hp => ?_,hok,I.len,I.hn.mono frzs⟩
 ·exact keep b o (neL b o e) hb (neC b o e hx) (I.base.keep b o e n hb hx) (I.base.free b o e n hx)
 ·obtain ⟨sl,e1⟩:=I.base.slot b o e n hb hx
  obtain ⟨sl',e2⟩:=slot b _ (neL b o e) hb (neC b o e hx) e1 (I.base.free b o e n hx)
  exact ⟨sl',e2⟩
 ·obtain ⟨o',e1⟩:=I.base.there b o e hx
  exact free b o' (neC b o e hx) e1 (I.base.free b o e n hx)
 ·obtain ⟨o',e1⟩:=I.base.there b o e hx
  exact there b o' (neC b o e hx) e1
 ·obtain ⟨m1,e1⟩:=I.base.tbls b ps e
  obtain ⟨m2,e2⟩:=tbls b _ e1
  exact ⟨m1 ++ m2,by rw [e2,Array.append_assoc]⟩
 ·obtain ⟨m,hn,hl⟩:=I.loc
  refine ⟨m,ns m hn,fun i x v e1 e2 e3 => ?_⟩
  obtain ⟨u,r,l⟩:=hl i x v e1 e2 e3
  refine ⟨u,r,?_⟩
  rcases l with l | ⟨k,c,e,z⟩
  ·exact .inl l
  ·exact .inr ⟨k,c,e,cellK x c e _ z⟩
 ·obtain ⟨v,z⟩:=I.cell x c e
  exact ⟨v,cellK x c e v z⟩
 ·obtain ⟨m,⟨o,_,_,ho,_⟩,_⟩:=I.loc
  exact free _ o (fun z => (hch _ z).2.1 rfl) ho I.free
 ·obtain ⟨v,o,ho,hd⟩:=I.cell x c e
  exact free c o (fun z => (hch c z).2.2.1 x c e rfl) ho (I.freeC x c e)
 ·obtain ⟨e,n,ne,nf,d⟩:=I.pin p hp
  have nch:p.1 ∉ ch:=fun z => (hch p.1 z).2.2.2 p hp rfl
  exact ⟨keep p.1 p.2 ne nf nch e n,free p.1 p.2 nch e n,ne,nf,d⟩
theorem Inv.un {t':Nat} (I:Inv X pins σ H s) (u:Un X.fs [] H H' s.heap h') (hok:HOk X.prog X.w H' h'):Inv X pins σ H' { s with heap:=h',toks:=t' }:=by
 obtain ⟨m,⟨o,es,ep,ho,r⟩,_⟩:=id I.loc
 obtain ⟨sl,hL⟩:=u.any ho I.free (by simp)
 exact I.step (g':=s.gens) (d':=s.drawn) (ch:=[]) (fun _ z => nomatch z) (fun b o _ hb _ e n => u.keep b o e n hb (by simp)) (fun b o _ hb _ e n => u.slot b o e n hb (by simp)) (fun b o _ e n => u.free b o e n (by simp)) (fun b o _ e => u.there b o e (by simp)) u.tups u.frzs u.tbls (fun m' hm => by
  obtain ⟨o',es',ep',ho',r'⟩:=hm
  rw [ho] at ho'; cases ho'
  exact ⟨_,es',ep',hL,r'⟩) hok I.bare
theorem Inv.call {g':Array GenState} {t':Nat} {d':Drawn} {ch:List Addr} (I:Inv X pins σ H s) (u:Un (frs X.stack) ch H H' s.heap h') (hok:HOk X.prog X.w H' h') (hg:AllBare g')
  (hch:∀ b∈ch,(b∈X.ex∨X.s₀.heap.objs.size≤b)∧b≠X.env.locals∧(∀ x c,X.env.cells.lookup x = some c→c≠b)∧∀ p∈X.pn ++ pins,p.1≠b) :
  Inv X pins σ H' { s with heap:=h',gens:=g',drawn:=d',toks:=t' }:=by
 obtain ⟨m,⟨o,es,ep,ho,r⟩,_⟩:=id I.loc
 obtain ⟨sl,hL⟩:=u.any ho I.free fun z => (hch _ z).2.1 rfl
 exact I.step (ch:=ch) hch (fun b o hL hb hc e n => u.keep b o e n (fun z => (List.mem_cons.mp (I.stkSub b z)).elim hL hb) hc) (fun b o _ _ hc e n => u.any e n hc) (fun b o hc e n => u.free b o e n hc) (fun b o hc e => u.there b o e hc) u.tups u.frzs u.tbls (fun m' hm => by
  obtain ⟨o',es',ep',ho',r'⟩:=hm
  rw [ho] at ho'; cases ho'
  exact ⟨_,es',ep',hL,r'⟩) hok hg
theorem Inv.turned {t':Nat} {it:Addr} (I:Inv X pins σ H s) (k:∀ b o,b≠it→s.heap.get? b = some o→h'.get? b = some o) (hn:H it = none) (hL:it≠X.env.locals)
  (h1:it∈X.ex∨X.s₀.heap.objs.size≤it) (h2:∀ x c,X.env.cells.lookup x = some c→c≠it) (h3:∀ p∈X.pn ++ pins,p.1≠it):Inv X pins σ H { s with heap:=h',toks:=t' }:=by
 have nit:∀ b u,H b = some u→b≠it:=fun b u e z => by rw [z,hn] at e; cases e
 refine I.step (g':=s.gens) (d':=s.drawn) (ch:=[it]) (fun b hb => ?_) (fun b o _ _ hc e _ => k b o (fun z => hc (by simp [z])) e) (fun b o _ _ hc e _ => ⟨o.slots,k b o (fun z => hc (by simp [z])) e⟩) (fun _ _ _ _ n => n)
  (fun b o hc e => ⟨o,k b o (fun z => hc (by simp [z])) e⟩) (fun _ _ e => e) (fun _ _ _ e => e) (fun b ps e => ⟨#[],by rw [e]; simp⟩) (fun m hm => ?_) (fun b u e => ?_) I.bare
 ·have e:b = it:=by simpa using hb
  subst e
  exact ⟨h1,hL,h2,h3⟩
 ·obtain ⟨o,es,ep,ho,r⟩:=hm
  exact ⟨o,es,ep,k _ o (Ne.symm hL) ho,r⟩
 ·refine (I.hok b u e).stay (fun c v hc q => k c v ?_ q) (fun _ q => q) fun _ _ q => q
  rcases hc with z | z
  ·rw [z]; exact nit b u e
  ·exact nit c _ z
theorem Inv.tok (I:Inv X pins σ H s) (t:Nat):Inv X pins σ H { s with toks:=t }:=I.un (h':=s.heap) (t':=t) Un.refl I.hok
theorem Inv.kept {t':Nat} (I:Inv X pins σ H s) (k:∀ b u,s.heap.get? b = some u→h'.get? b = some u):Inv X pins σ H { s with heap:=h',toks:=t' }:=I.un (Un.kept k) (I.hok.kept k)
theorem Inv.laid {a:Addr} {o:HO} {t':Nat} (I:Inv X pins σ H s) (k:∀ b u,s.heap.get? b = some u→h'.get? b = some u) (hp:s.heap.objs.size≤a) (new:ObjOk X.prog X.w (upd H a o) h' a o) :
  Inv X pins σ (upd H a o) { s with heap:=h',toks:=t' }:=I.un (Un.laid k hp (I.hok.fresh hp)) (I.hok.laid k hp new)
theorem Inv.write {x e:Addr} {o:HO} {t':Nat} (I:Inv X pins σ H s) (mu:Mut (H x)) (he:e = x∨H e = some (.own x)) (k:∀ b u,b≠e→s.heap.get? b = some u→h'.get? b = some u) (heo:∃ u,h'.get? e = some u)
  (new:ObjOk X.prog X.w (upd H x o) h' x o):Inv X pins σ (upd H x o) { s with heap:=h',toks:=t' }:=I.un (Un.write mu he k heo) (I.hok.write mu he k heo new)
theorem Inv.weak {σ':List (Option V)} (I:Inv X pins σ H s) (hl:σ'.length = σ.length) (w:∀ (i:Nat) v,σ'[i]? = some (some v)→σ[i]? = some (some v)):Inv X pins σ' H s :=
 ⟨I.ok,I.os,I.bare,I.base,let ⟨m,hn,hl'⟩:=I.loc; ⟨m,hn,fun i x v e1 e2 e3 => hl' i x v e1 (w i v e2) e3⟩,I.cell,I.free,I.freeC,I.pin,I.hok,hl.trans I.len,I.hn⟩
theorem Inv.pins_of {pins':List (Addr × Obj)} (I:Inv X pins σ H s) (h:∀ p∈pins',s.heap.get? p.1 = some p.2∧H p.1 = none∧p.1≠X.env.locals∧p.1 ∉ X.fs∧∀ v,p.2.data≠.cell v):Inv X pins' σ H s :=
 ⟨I.ok,I.os,I.bare,I.base,I.loc,I.cell,I.free,I.freeC,fun p hp => (List.mem_append.mp hp).elim (fun z => I.pin p (List.mem_append_left _ z)) (h p),I.hok,I.len,I.hn⟩
theorem nodup_ix {N:List Str} (hN:N.Nodup) {i j:Nat} {x:Str} (a:N[i]? = some x) (b:N[j]? = some x):i = j:=by
 obtain ⟨h1,e1⟩:=List.getElem?_eq_some_iff.mp a
 obtain ⟨h2,e2⟩:=List.getElem?_eq_some_iff.mp b
 exact (List.getElem_inj hN).mp (e1.trans e2.symm)
theorem store_ok2 {M:Model} {A:Around} {E:Value→Shared→Prop} {i:Nat} {x:Str} {v:V} {u:Value} {Q:Unit→Shared→Prop} (I:Inv X pins σ H s) (hN:X.N.Nodup) (hi:X.N[i]? = some x) (hx:Loc X.env.scope x) (r:RelV v u)
  (h:∀ s',Inv X pins (σ.set i (some v)) H s'→(∃ a,Heap.SameBut a s.heap s'.heap∧(a = X.env.locals∨X.env.cells.lookup x = some a))→Q () s') (hf:X.fn x = true∨X.env.scope.names.lookup x = some .local:=by first | exact .inl rfl | exact .inr rfl | assumption):wpAny M A (storeName X.env x u) Q E s:=by
 obtain ⟨m,hn,hl⟩:=id I.loc
 have hcls:(X.env.scope.kind == .class || (X.env.scope.kind == .module && X.env.locals != X.env.globals)) = false:=by rw [I.ok.kind]; rfl
 have hiσ:i < σ.length:=by rw [I.len]; exact (List.getElem?_eq_some_iff.mp hi).1
 have cne:=I.cne
 have tracked:∀ {a:Addr} {h':Heap},(∃ o,s.heap.get? a = some o∧H a = none)→Heap.SameBut a s.heap h'→HOk X.prog X.w H h':=fun {a h'} ha hs b ob e => by
  obtain ⟨_,_,hfree⟩:=ha
  refine (I.hok b ob e).stay (fun c w' hc q => (hs.2 c ?_).trans q) (fun _ q => q) fun _ _ q => q
  rintro rfl
  rcases hc with rfl | hc
  ·rw [hfree] at e; cases e
  ·rw [hfree] at hc; cases hc
 rcases hx with hk | hk
 ·refine wpAny_storeName_local hk hn (fun h' hn' hs => ?_) hcls
  obtain ⟨oL,_,_,hoL,_⟩:=id hn
  refine h _ ⟨I.ok,I.os,I.bare,⟨fun b o e n hb hx => ?_,fun b o e n hb hx => ?_,I.base.free,fun b o e hx => ?_,I.base.tups,I.base.frzs,I.base.tbls⟩,⟨_,hn',fun j y v' e1 e2 e3 => ?_⟩,fun y c e => ?_,I.free,I.freeC,fun p hp => ?_,tracked ⟨oL,hoL,I.free⟩ hs,by simpa using I.len,I.hn⟩ ⟨_,hs,.inl rfl⟩
  ·exact (hs.2 b (Nat.ne_of_lt (Nat.lt_of_lt_of_le (Heap.lt_size e) I.ok.above))).trans (I.base.keep b o e n hb hx)
  ·obtain ⟨sl,e1⟩:=I.base.slot b o e n hb hx
   exact ⟨sl,(hs.2 b (Nat.ne_of_lt (Nat.lt_of_lt_of_le (Heap.lt_size e) I.ok.above))).trans e1⟩
  ·obtain ⟨o',e1⟩:=I.base.there b o e hx
   exact ⟨o',(hs.2 b (Nat.ne_of_lt (Nat.lt_of_lt_of_le (Heap.lt_size e) I.ok.above))).trans e1⟩
  ·by_cases hj:j = i
   ·subst hj
    rw [hi] at e1; cases e1
    rw [List.getElem?_set_self hiσ] at e2
    cases e2
    exact ⟨u,r,.inl ⟨hk,by simp⟩⟩
   ·rw [List.getElem?_set_ne (Ne.symm hj)] at e2
    obtain ⟨u',r',q⟩:=hl j y v' e1 e2 e3
    refine ⟨u',r',?_⟩
    rcases q with ⟨k,e⟩ | ⟨k,c,e,z⟩
    ·refine .inl ⟨k,?_⟩
     have:y≠x:=fun e => hj (nodup_ix hN e1 (e▸hi))
     simp [this,e]
    ·exact .inr ⟨k,c,e,z.sameBut hs (cne y c e)⟩
  ·obtain ⟨w',z⟩:=I.cell y c e
   exact ⟨w',z.sameBut hs (cne y c e)⟩
  ·obtain ⟨e,n,ne,nf,d⟩:=I.pin p hp
   exact ⟨(hs.2 p.1 ne).trans e,n,ne,nf,d⟩
 ·have hfn:X.fn x = true:=by
   rcases hf with z | z
   ·exact z
   ·rw [z] at hk; cases hk
  obtain ⟨c,hc⟩:=I.ok.has x (.inl hk)
  obtain ⟨w',z⟩:=I.cell x c hc
  refine wpAny_storeName_cell I.ok.kind hk hc z (fun h' hc' hs => ?_)
  obtain ⟨oc,hoc,hocd⟩:=id z
  refine h { s with heap:=h' } ⟨I.ok,I.os,I.bare,⟨fun b o e n hb hx => ?_,fun b o e n hb hx => ?_,I.base.free,fun b o e hx => ?_,I.base.tups,I.base.frzs,I.base.tbls⟩,⟨m,hn.sameBut hs (Ne.symm (cne x c hc)),fun j y v' e1 e2 e3 => ?_⟩,fun y c' e => ?_,I.free,I.freeC,fun p hp => ?_,tracked ⟨oc,hoc,I.freeC x c hc⟩ hs,by simpa using I.len,I.hn⟩ ⟨c,hs,.inr hc⟩
  ·exact (hs.2 b (Nat.ne_of_lt (Nat.lt_of_lt_of_le (Heap.lt_size e) (I.ok.cab x c hfn hc)))).trans (I.base.keep b o e n hb hx)
  ·obtain ⟨sl,e1⟩:=I.base.slot b o e n hb hx
   exact ⟨sl,(hs.2 b (Nat.ne_of_lt (Nat.lt_of_lt_of_le (Heap.lt_size e) (I.ok.cab x c hfn hc)))).trans e1⟩
  ·obtain ⟨o',e1⟩:=I.base.there b o e hx
   exact ⟨o',(hs.2 b (Nat.ne_of_lt (Nat.lt_of_lt_of_le (Heap.lt_size e) (I.ok.cab x c hfn hc)))).trans e1⟩
  ·by_cases hj:j = i
   ·subst hj
    rw [hi] at e1; cases e1
    rw [List.getElem?_set_self hiσ] at e2
    cases e2
    exact ⟨u,r,.inr ⟨.inl hk,c,hc,hc'⟩⟩
   ·rw [List.getElem?_set_ne (Ne.symm hj)] at e2
    obtain ⟨u',r',q⟩:=hl j y v' e1 e2 e3
    refine ⟨u',r',?_⟩
    rcases q with q | ⟨k,c',e,z'⟩
    ·exact .inl q
    ·refine .inr ⟨k,c',e,z'.sameBut hs ?_⟩
     rintro rfl
     exact hj (nodup_ix hN e1 (I.ok.inj _ _ _ e hc▸hi))
  ·by_cases hcc:c' = c
   ·subst hcc; exact ⟨_,hc'⟩
   ·obtain ⟨w2,z2⟩:=I.cell y c' e
    exact ⟨w2,z2.sameBut hs hcc⟩
  ·obtain ⟨e,n,ne,nf,d⟩:=I.pin p hp
   refine ⟨(hs.2 p.1 ?_).trans e,n,ne,nf,d⟩
   intro q
   rw [q,hoc] at e
   have q':oc = p.2:=Option.some.inj e
   exact d w' (by rw [← q']; exact hocd)
theorem store_ok {M:Model} {A:Around} {E:Value→Shared→Prop} {i:Nat} {x:Str} {v:V} {u:Value} {Q:Unit→Shared→Prop} (I:Inv X pins σ H s) (hN:X.N.Nodup) (hi:X.N[i]? = some x) (hx:Loc X.env.scope x) (r:RelV v u)
  (h:∀ s',Inv X pins (σ.set i (some v)) H s'→Q () s') (hf:X.fn x = true∨X.env.scope.names.lookup x = some .local:=by first | exact .inl rfl | exact .inr rfl | assumption):wpAny M A (storeName X.env x u) Q E s :=
 store_ok2 I hN hi hx r (fun s' I' _ => h s' I') hf
theorem Inv.call' {s':Shared} {ch:List Addr} (I:Inv X pins σ H s) (ho:s'.os = s.os) (u:Un (frs X.stack) ch H H' s.heap s'.heap) (hok:HOk X.prog X.w H' s'.heap) (hg:AllBare s'.gens)
  (hch:∀ b∈ch,(b∈X.ex∨X.s₀.heap.objs.size≤b)∧b≠X.env.locals∧(∀ x c,X.env.cells.lookup x = some c→c≠b)∧∀ p∈X.pn ++ pins,p.1≠b):Inv X pins σ H' s':=by
 obtain ⟨h',g',d',t',o'⟩:=s'
 have e:o' = s.os:=ho
 subst e
 exact I.call (g':=g') (t':=t') (d':=d') u hok hg hch
end
abbrev XK:=Value→Option Addr→Hp→Prop
abbrev St:=List (Option V)
abbrev VK:=V→Hp→Prop
abbrev TE:=St→Hp→VK→Prop
abbrev TT:=St→Hp→(Bool→Hp→Prop)→Prop
abbrev TA:=St→Hp→(List V→Hp→Prop)→Prop
structure Ends where
 nx:St→Hp→Prop
 rt:VK
 bk:St→Hp→Prop:=fun _ _ => False
 ct:St→Hp→Prop:=fun _ _ => False
abbrev TS:=Ends→St→Hp→Prop
def EP (X:Cx) (pins:List (Addr × Obj)) (σ:St) (Q:VK) (u:Value) (s':Shared):Prop:=∃ v H',Inv X pins σ H' s'∧RelV v u∧Q v H'
def TP (X:Cx) (pins:List (Addr × Obj)) (σ:St) (Q:Bool→Hp→Prop) (b:Bool) (s':Shared):Prop:=∃ H',Inv X pins σ H' s'∧Q b H'
def AP (X:Cx) (pins:List (Addr × Obj)) (σ:St) (Q:List V→Hp→Prop) (us:List Value) (s':Shared):Prop:=∃ vs H',Inv X pins σ H' s'∧Vals vs us∧Q vs H'
def SP (X:Cx) (pins:List (Addr × Obj)) (D:Ends) (f:Flow) (s':Shared):Prop :=
 match f with
 | .next => ∃ σ' H',Inv X pins σ' H' s'∧D.nx σ' H'
 | .brk => ∃ σ' H',Inv X pins σ' H' s'∧D.bk σ' H'
 | .cont => ∃ σ' H',Inv X pins σ' H' s'∧D.ct σ' H'
 | .ret u => ∃ v σ' H',Inv X pins σ' H' s'∧RelV v u∧D.rt v H'
def PE (X:Cx) (e:Expr) (t:TE):Prop :=
 ∀ (pins:List (Addr × Obj)) (s:Shared) (σ:St) (H:Hp) (Q:VK),Inv X pins σ H s→t σ H Q→wpAny (model X.prog X.w) X.A (eval e X.env) (EP X pins σ Q) X.xe s
def PT (X:Cx) (e:Expr) (t:TT):Prop :=
 ∀ (pins:List (Addr × Obj)) (s:Shared) (σ:St) (H:Hp) (Q:Bool→Hp→Prop),Inv X pins σ H s→t σ H Q→wpAny (model X.prog X.w) X.A (isTrue e X.env (eval e X.env)) (TP X pins σ Q) X.xe s
def PW (X:Cx) (e:Expr) (t:TT):Prop :=
 ∀ (whole:Sem Value) (pins:List (Addr × Obj)) (s:Shared) (σ:St) (H:Hp) (Q:Bool→Hp→Prop),Inv X pins σ H s→t σ H Q→wpAny (model X.prog X.w) X.A (isTrue e X.env whole) (TP X pins σ Q) X.xe s
theorem PW.pt {X:Cx} {e:Expr} {t:TT} (h:PW X e t):PT X e t:=h _
def PA (X:Cx) (es:List Expr) (t:TA):Prop :=
 ∀ (pos:Pos) (pins:List (Addr × Obj)) (s:Shared) (σ:St) (H:Hp) (Q:List V→Hp→Prop),Inv X pins σ H s→t σ H Q→wpAny (model X.prog X.w) X.A (spliced (backTo pos (starEach es X.env))) (AP X pins σ Q) X.xe s
def PS (X:Cx) (st:Stmt) (t:TS):Prop :=
 ∀ (pins:List (Addr × Obj)) (s:Shared) (σ:St) (H:Hp) (D:Ends),Inv X pins σ H s→t D σ H→wpAny (model X.prog X.w) X.A (exec st X.env) (SP X pins D) X.xe s
def PSs (X:Cx) (st:List Stmt) (t:TS):Prop :=
 ∀ (pins:List (Addr × Obj)) (s:Shared) (σ:St) (H:Hp) (D:Ends),Inv X pins σ H s→t D σ H→wpAny (model X.prog X.w) X.A (execs st X.env) (SP X pins D) X.xe s
theorem thn {α:Type} {t:Sem α} {Q Q':α→Shared→Prop} {M:Model} {A:Around} {E:Value→Shared→Prop} {s:Shared} (h:wpAny M A t Q E s) (hQ:∀ a s,Q a s→Q' a s):wpAny M A t Q' E s:=wpAny_mono h hQ fun _ _ x => x
end L2
namespace L2
open PySem PySem.Spec PyProof.Rows
section
variable {X:Cx}
theorem bin {a b:Expr} {ta tb:TE} (ha:PE X a ta) (hb:PE X b tb) {pins:List (Addr × Obj)} {s:Shared} {σ:St} {H:Hp} {R:V→V→Hp→Prop} (I:Inv X pins σ H s) (h:ta σ H fun x H1 => tb σ H1 fun y H2 => R x y H2)
  {α:Type} {Q:α→Shared→Prop} {f:Value→Value→Sem α}
  (hf:∀ v u s2 x y H2,Inv X pins σ H2 s2→RelV x v→RelV y u→R x y H2→wpAny (model X.prog X.w) X.A (f v u) Q X.xe s2) :
  wpAny (model X.prog X.w) X.A (eval a X.env) (fun v s₁ => wpAny (model X.prog X.w) X.A (eval b X.env) (fun u s₂ => wpAny (model X.prog X.w) X.A (f v u) Q X.xe s₂) X.xe s₁) X.xe s:=by
 refine thn (ha pins s σ H _ I h) fun v s1 ⟨x,H1,I1,r1,q1⟩ => ?_
 refine thn (hb pins s1 σ H1 _ I1 q1) fun u s2 ⟨y,H2,I2,r2,q2⟩ => ?_
 exact hf v u s2 x y H2 I2 r1 r2 q2
def tVar (i:Nat):TE:=fun σ H Q => ∃ v,σ[i]? = some (some v)∧Q v H
def tC (v:V):TE:=fun _ H Q => Q v H
theorem pe_var {i:Nat} {x:Str} {pos:Pos} (hN:X.N[i]? = some x) (hv:Vis X.env.scope x) (hd:(x == ("__debug__":Str)) = false:=by decide) (hcd:(x == ("__classdict__":Str)) = false:=by decide):PE X (.Name x pos) (tVar i):=by
 intro pins s σ H Q I h
 obtain ⟨v,e,h⟩:=h
 obtain ⟨m,hn,hl⟩:=I.loc
 obtain ⟨u,r,l⟩:=hl i x v hN e hv
 have fin:EP X pins σ Q u s:=⟨v,H,I,r,h⟩
 rcases l with ⟨hk,hm⟩ | ⟨hk,c,hc,hcell⟩
 ·exact wpAny_Name (wpAny_loadName_local I.ok.kind hk hn hm fin) hd
 ·rcases hk with hk | hk
  ·exact wpAny_Name (wpAny_loadName_cell I.ok.kind hk hc hcell fin) hd
  ·exact wpAny_Name (wpAny_loadName_free I.ok.kind hk hc hcell fin hcd) hd
theorem pe_int {i j pos}:PE X (.Constant (.int i) j pos) (tC (.int i)):=fun _ _ _ H _ I h => wpAny_Constant_int ⟨.int i,H,I.tok _,⟨_,rfl⟩,h⟩
theorem pe_bl {b j pos}:PE X (.Constant (.bool b) j pos) (tC (.bl b)):=fun _ _ _ H _ I h => Constant_bool ⟨.bl b,H,I,rfl,h⟩
theorem pe_non {j pos}:PE X (.Constant .none j pos) (tC .non):=fun _ _ _ H _ I h => Constant_none ⟨.non,H,I,rfl,h⟩
theorem pe_str {x j pos}:PE X (.Constant (.str x) j pos) (tC (.str x)):=fun _ _ _ H _ I h => Calls.Constant_str ⟨.str x,H,I.tok _,⟨_,rfl⟩,h⟩
def Gl (X:Cx) (x:Str):Prop:=X.env.kindOf x = some .globalImplicit
theorem ld_glob {E:Value→Shared→Prop} {pins:List (Addr × Obj)} {s:Shared} {σ:St} {H:Hp} {x:Str} {u:Value} {pos:Pos} {Q:Value→Shared→Prop} (I:Inv X pins σ H s) (hg:Gl X x) (hm:X.mg x = some u) (h:Q u s)
  (hd:(x == ("__debug__":Str)) = false:=by decide):wpAny (model X.prog X.w) X.A (eval (.Name x pos) X.env) Q E s :=
 Calls.Name_function_global I.ok.kind hg (Calls.loadGlobal_global (by rw [I.ok.glob]; exact I.mod.glob.keeps I.bk) hm h) hd
theorem ld_blt {E:Value→Shared→Prop} {pins:List (Addr × Obj)} {s:Shared} {σ:St} {H:Hp} {x:Str} {u:Value} {pos:Pos} {Q:Value→Shared→Prop} (I:Inv X pins σ H s) (hg:Gl X x) (hm:X.mg x = none) (hv:bootBuiltins x = some u) (h:Q u s)
  (hn:x≠"__name__":=by decide) (hd:(x == ("__debug__":Str)) = false:=by decide):wpAny (model X.prog X.w) X.A (eval (.Name x pos) X.env) Q E s:=by
 obtain ⟨mb,h1,h2⟩:=I.mod.blt
 exact Calls.Name_function_global I.ok.kind hg (Calls.loadGlobal_builtin (by rw [I.ok.glob]; exact I.mod.glob.keeps I.bk) hm (by rw [I.ok.blt]; exact h1.keeps I.bk) ((h2 x hn).trans hv) h) hd
theorem pe_bltn {x:Str} {v:V} {u:Value} {pos:Pos} (hg:Gl X x) (hm:X.mg x = none) (hv:bootBuiltins x = some u) (r:RelV v u) (hn:x≠"__name__":=by decide) (hd:(x == ("__debug__":Str)) = false:=by decide):PE X (.Name x pos) (tC v) :=
 fun _ _ _ H _ I h => ld_blt I hg hm hv ⟨v,H,I,r,h⟩ hn hd
variable {a b:Expr} {ta tb:TE} {pos:Pos}
def PC (X:Cx) (op:CmpOp) (a b:Expr) (t:TE):Prop :=
 ∀ (pins:List (Addr × Obj)) (s:Shared) (σ:St) (H:Hp) (Q:VK),Inv X pins σ H s→t σ H Q →
  wpAny (model X.prog X.w) X.A (eval a X.env) (fun v s₁ => wpAny (model X.prog X.w) X.A (eval b X.env) (fun u s₂ => wpAny (model X.prog X.w) X.A (compareOp op v u) (EP X pins σ Q) X.xe s₂) X.xe s₁) X.xe s
theorem nobehind (b:Expr) {op:CmpOp} (h:op≠.In) (h2:op≠.NotIn):behindInMarks op b = false:=by
 have e1:(op == CmpOp.In) = false:=by cases op <;> first | rfl | exact absurd rfl h
 have e2:(op == CmpOp.NotIn) = false:=by cases op <;> first | rfl | exact absurd rfl h2
 cases b <;> simp [behindInMarks,e1,e2]
def tNotN (ta:TE):TE:=fun σ H Q => ta σ H fun x H1 => Q (.bl (!decide (x = .non))) H1
theorem RelV.none_iff {x:V} {v:Value} (r:RelV x v):(v == Value.none) = decide (x = .non):=by
 cases x with
 | non => cases r; rfl
 | bl _ => cases r; rfl
 | int _ => obtain ⟨t,rfl⟩:=r; rfl
 | str _ => obtain ⟨t,rfl⟩:=r; rfl
 | byt _ => obtain ⟨t,rfl⟩:=r; rfl
 | flt _ => obtain ⟨t,rfl⟩:=r; rfl
 | ref _ => cases r; rfl
 | ty _ => cases r; rfl
theorem pc_notN {j pos'} (ha:PE X a ta):PC X .IsNot a (.Constant .none j pos') (tNotN ta):=by
 intro pins s σ H Q I h
 refine thn (ha pins s σ H _ I h) fun v s1 ⟨x,H1,I1,r1,q1⟩ => ?_
 exact Constant_none (isnot_none_gen ⟨.bl _,H1,I1,by rw [r1.none_iff]; rfl,q1⟩)
def tB (t:TE):TT:=fun σ H Q => t σ H fun x H1 => ∃ c,x = .bl c∧Q c H1
theorem pe_cmp {op:CmpOp} {t:TE} (h:PC X op a b t) (h1:behindInMarks op b = false:=by first | exact nobehind _ (by decide) (by decide) | rfl):PE X (.Compare a [op] [b] pos) t:=fun pins s σ H Q I hw => wpAny_Compare1 (h pins s σ H Q I hw) h1
theorem pt_cmp {op:CmpOp} {t:TE} (h:PC X op a b t) (h1:behindInMarks op b = false:=by first | exact nobehind _ (by decide) (by decide) | rfl):PT X (.Compare a [op] [b] pos) (tB t):=by
 intro pins s σ H Q I hw
 refine wpAny_isTrue_Compare1 (thn (h pins s σ H _ I hw) fun v s1 h1 => thn h1 fun u s2 h2 => thn h2 fun c s3 ⟨x,H1,I1,r1,q1⟩ => ?_) h1
 obtain ⟨d,rfl,q⟩:=q1
 cases r1
 exact wpAny_truthy_bool ⟨H1,I1,q⟩
theorem pt_val {e:Expr} {t:TE} (h:PE X e t) (he:∀ whole,isTrue e X.env whole = (do let v ← whole; standAt e.pos; holding [v] (truthy v)):=by intro _; rfl):PT X e (tB t):=by
 intro pins s σ H Q I hw
 refine isTrue_plain (thn (h pins s σ H _ I hw) fun v s1 ⟨x,H1,I1,r1,q1⟩ => ?_) (he _)
 obtain ⟨d,rfl,q⟩:=q1
 cases r1
 exact wpAny_truthy_bool ⟨H1,I1,q⟩
variable {tA tB':TT} {rest:List Expr}
def tAnd (t u:TT):TT:=fun σ H Q => t σ H fun c H1 => if c = true then u σ H1 Q else Q false H1
def tOr (t u:TT):TT:=fun σ H Q => t σ H fun c H1 => if c = true then Q true H1 else u σ H1 Q
def tNot (t:TT):TT:=fun σ H Q => t σ H fun c H1 => Q (!c) H1
theorem pw_and1 (ha:PT X a tA):PW X (.BoolOp .And [a] pos) tA:=by
 intro wh pins s σ H Q I h
 refine isTrue_and (thn (ha pins s σ H Q I h) fun c s1 e => ?_)
 cases c with
 | true => exact isTrue_and_nil e
 | false => exact e
theorem pw_or1 (ha:PT X a tA):PW X (.BoolOp .Or [a] pos) tA:=by
 intro wh pins s σ H Q I h
 refine isTrue_or (thn (ha pins s σ H Q I h) fun c s1 e => ?_)
 cases c with
 | false => exact isTrue_or_nil e
 | true => exact e
theorem pw_and (ha:PT X a tA) (hb:PW X (.BoolOp .And (b :: rest) pos) tB'):PW X (.BoolOp .And (a :: b :: rest) pos) (tAnd tA tB'):=by
 intro wh pins s σ H Q I h
 refine isTrue_and (thn (ha pins s σ H _ I h) fun c s1 ⟨H1,I1,q1⟩ => ?_)
 cases c with
 | true => exact hb wh pins s1 σ H1 Q I1 q1
 | false => exact ⟨H1,I1,q1⟩
theorem pw_or (ha:PT X a tA) (hb:PW X (.BoolOp .Or (b :: rest) pos) tB'):PW X (.BoolOp .Or (a :: b :: rest) pos) (tOr tA tB'):=by
 intro wh pins s σ H Q I h
 refine isTrue_or (thn (ha pins s σ H _ I h) fun c s1 ⟨H1,I1,q1⟩ => ?_)
 cases c with
 | true => exact ⟨H1,I1,q1⟩
 | false => exact hb wh pins s1 σ H1 Q I1 q1
theorem pt_not (ha:PT X a tA):PT X (.UnaryOp .Not a pos) (tNot tA):=by
 intro pins s σ H Q I h
 exact isTrue_not (ha pins s σ H (fun c H1 => Q (!c) H1) I h)
def tAndV (ta tb:TE):TE:=fun σ H Q => ta σ H fun x H1 => ∃ c,x = .bl c∧if c = true then tb σ H1 Q else Q (.bl false) H1
theorem pe_one {op} {t:TE} (h:PE X a t):PE X (.BoolOp op [a] pos) t:=fun pins s σ H Q I hw => BoolOp_one (h pins s σ H Q I hw)
theorem pe_and (ha:PE X a ta) (hb:PE X (.BoolOp .And (b :: rest) pos) tb):PE X (.BoolOp .And (a :: b :: rest) pos) (tAndV ta tb):=by
 intro pins s σ H Q I h
 refine BoolOp_and (thn (ha pins s σ H _ I h) fun v s1 ⟨x,H1,I1,r1,q1⟩ => ?_)
 obtain ⟨c,rfl,q1⟩:=q1
 cases r1
 refine wpAny_truthy_bool ?_
 cases c with
 | true => exact hb pins s1 σ H1 Q I1 q1
 | false => exact ⟨.bl false,H1,I1,rfl,q1⟩
end
end L2
namespace L2
open PySem PySem.Spec PyProof.Rows
def SqL (K:PySem.W.Frag) (H:Hp) (a:Addr) (xs:List V):Prop :=
 Rd H a (.lst xs) ∨
  ∃ (o:Obj) (its:Array Value) (n:Nat),K.lookup a = some o∧o.cls = .type "list"∧o.dict = none∧o.data = .seq its n∧its.size≤sizeLine∧Vals xs its.toList
def SqT (K:PySem.W.Frag) (H:Hp) (a:Addr) (xs:List V):Prop :=
 Rd H a (.tup xs) ∨
  ∃ (o:Obj) (its:Array Value) (n:Nat),K.lookup a = some o∧o.cls = .type "tuple"∧o.data = .seq its n∧its.size≤sizeLine∧Vals xs its.toList
def absV:Value→Option V
 | .none => some .non
 | .bool b => some (.bl b)
 | .int i _ => some (.int i)
 | .str x _ => some (.str x)
 | .bytes b _ => some (.byt b)
 | .float b _ => some (.flt b)
 | .ref a => some (.ref a)
 | .type n => some (.ty n)
 | _ => none
theorem RelV.abs {x:V} {u:Value} (r:RelV x u):absV u = some x:=by
 cases x with
 | non => cases r; rfl
 | bl _ => cases r; rfl
 | int _ => obtain ⟨t,rfl⟩:=r; rfl
 | str _ => obtain ⟨t,rfl⟩:=r; rfl
 | byt _ => obtain ⟨t,rfl⟩:=r; rfl
 | flt _ => obtain ⟨t,rfl⟩:=r; rfl
 | ref _ => cases r; rfl
 | ty _ => cases r; rfl
theorem RelV.inj {x y:V} {u:Value} (r:RelV x u) (q:RelV y u):x = y:=Option.some.inj (r.abs.symm.trans q.abs)
theorem Vals.inj:∀ {xs ys:List V} {us:List Value},Vals xs us→Vals ys us→xs = ys
 | _,_,_,.nil,.nil => rfl
 | _,_,_,.cons r t,.cons r' t' => by rw [r.inj r',Vals.inj t t']
section
variable {X:Cx} {pins:List (Addr × Obj)} {σ:St} {H:Hp} {s:Shared} {a:Addr} {xs ys:List V}
theorem SqL.of {K:PySem.W.Frag} (h:H a = some (.lst xs)):SqL K H a xs:=.inl (.inl h)
theorem SqT.of {K:PySem.W.Frag} (h:H a = some (.tup xs)):SqT K H a xs:=.inl (.inl h)
theorem Inv.list (I:Inv X pins σ H s) (h:SqL X.K H a xs):∃ its:List Value,Vals xs its∧PlainL s.heap a its.toArray∧xs.length≤sizeLine:=by
 rcases h with h | ⟨o,its,n,hk,hc,hd,hs,hz,r⟩
 ·obtain ⟨z,its,n,r,e⟩:=h.ok I.hok
  exact ⟨its,r,⟨_,n,e,rfl,rfl,rfl⟩,z⟩
 ·refine ⟨its.toList,r,⟨o,n,I.kIn a o hk,hc,hd,by simpa using hs⟩,?_⟩
  have e:=r.length
  simp only [Array.length_toList] at e
  omega
theorem Inv.tuple (I:Inv X pins σ H s) (h:SqT X.K H a xs):∃ its:List Value,Vals xs its∧IsTup s.heap a its.toArray∧xs.length≤sizeLine:=by
 rcases h with h | ⟨o,its,n,hk,hc,hs,hz,r⟩
 ·obtain ⟨z,its,r,p⟩:=h.ok I.hok
  exact ⟨its,r,p,z⟩
 ·refine ⟨its.toList,r,⟨o,I.kIn a o hk,hc,n,by simpa using hs⟩,?_⟩
  have e:=r.length
  simp only [Array.length_toList] at e
  omega
theorem Inv.list_inj (I:Inv X pins σ H s) (h:SqL X.K H a xs) (h':SqL X.K H a ys):xs = ys:=by
 obtain ⟨its,r,⟨o,n,e,_,_,d⟩,_⟩:=I.list h
 obtain ⟨its',r',⟨o',n',e',_,_,d'⟩,_⟩:=I.list h'
 rw [e] at e'; cases e'
 rw [d] at d'
 injection d' with d1 _
 have:its = its':=by simpa using congrArg Array.toList d1
 subst this
 exact r.inj r'
theorem Inv.tuple_inj (I:Inv X pins σ H s) (h:SqT X.K H a xs) (h':SqT X.K H a ys):xs = ys:=by
 obtain ⟨its,r,⟨o,e,_,n,d⟩,_⟩:=I.tuple h
 obtain ⟨its',r',⟨o',e',_,n',d'⟩,_⟩:=I.tuple h'
 rw [e] at e'; cases e'
 rw [d] at d'
 injection d' with d1 _
 have:its = its':=by simpa using congrArg Array.toList d1
 subst this
 exact r.inj r'
end
section
variable {X:Cx} {pins:List (Addr × Obj)} {σ:St} {H:Hp} {s:Shared} {E:Value→Shared→Prop}
end
section
variable {X:Cx} {st:Stmt} {rest:List Stmt} {t u:TS} {e:Expr} {te:TE} {pos:Pos}
def tNext:TS:=fun D σ H => D.nx σ H
def tSeq (t u:TS):TS:=fun D σ H => t { D with nx:=u D } σ H
theorem pss_nil:PSs X [] tNext:=fun _ _ σ H _ I h => wpAny_execs_nil ⟨σ,H,I,h⟩
theorem pss_cons (h1:PS X st t) (h2:PSs X rest u):PSs X (st :: rest) (tSeq t u):=by
 intro pins s σ H D I h
 refine wpAny_execs_cons (thn (h1 pins s σ H { D with nx:=u D } I h) fun f s1 q => ?_)
 cases f with
 | next =>
  obtain ⟨σ',H',I',q⟩:=q
  exact h2 pins s1 σ' H' D I' q
 | ret v => exact q
 | brk => exact q
 | cont => exact q
theorem pss_one (h1:PS X st t):PSs X [st] t:=by
 intro pins s σ H D I h
 refine wpAny_execs_cons (thn (h1 pins s σ H D I h) fun f s1 q => ?_)
 cases f with
 | next => exact wpAny_execs_nil q
 | ret v => exact q
 | brk => exact q
 | cont => exact q
def tCont:TS:=fun D σ H => D.ct σ H
theorem ps_continue:PS X (.Continue pos) tCont:=fun _ _ σ H _ I h => wpAny_Continue ⟨σ,H,I,h⟩
theorem Inv.quiet {pins:List (Addr × Obj)} {σ:St} {H:Hp} {s:Shared} (I:Inv X pins σ H s):interactive X.env = false:=by simp [interactive,I.ok.kind]
def tDrop (te:TE):TS:=fun D σ H => te σ H fun _ H1 => D.nx σ H1
theorem ps_expr (he:PE X e te) (hs:swapsWith e none pos.line X.env = pure false:=by rfl):PS X (.Expr e pos) (tDrop te):=by
 intro pins s σ H D I h
 exact wpAny_Expr_any (thn (he pins s σ H _ I h) fun v s1 ⟨x,H1,I1,r1,q1⟩ => ⟨σ,H1,I1,q1⟩) I.quiet hs
def tRet (te:TE):TS:=fun D σ H => te σ H D.rt
theorem ps_ret (he:PE X e te):PS X (.Return (some e) pos) (tRet te):=by
 intro pins s σ H D I h
 exact wpAny_Return_some (thn (he pins s σ H _ I h) fun v s1 ⟨x,H1,I1,r1,q1⟩ => ⟨x,σ,H1,I1,r1,q1⟩)
def tIfS (c:TT) (t u:TS):TS:=fun D σ H => c σ H fun b H1 => if b = true then t D σ H1 else u D σ H1
theorem ps_if {c:Expr} {a b:List Stmt} {tc:TT} (hc:PT X c tc) (ha:PSs X a t) (hb:PSs X b u):PS X (.If c a b pos) (tIfS tc t u):=by
 intro pins s σ H D I h
 refine wpAny_If (thn (hc pins s σ H _ I h) fun d s1 ⟨H1,I1,q1⟩ => ?_)
 cases d with
 | true => exact ha pins s1 σ H1 D I1 q1
 | false => exact hb pins s1 σ H1 D I1 q1
end
abbrev TG:=V→St→Hp→(St→Hp→Prop)→Prop
abbrev TGs:=List V→St→Hp→(St→Hp→Prop)→Prop
def PG (X:Cx) (target:Expr) (t:TG):Prop :=
 ∀ (pins:List (Addr × Obj)) (s:Shared) (σ:St) (H:Hp) (v:V) (u:Value) (Q:St→Hp→Prop),Inv X pins σ H s→RelV v u→t v σ H Q →
  wpAny (model X.prog X.w) X.A (assign target X.env u) (fun _ s' => ∃ σ' H',Inv X pins σ' H' s'∧Q σ' H') X.xe s
def PGs (X:Cx) (ts:List Expr) (t:TGs):Prop :=
 ∀ (pins:List (Addr × Obj)) (s:Shared) (σ:St) (H:Hp) (vs:List V) (us:List Value) (Q:St→Hp→Prop),Inv X pins σ H s→Vals vs us→t vs σ H Q →
  wpAny (model X.prog X.w) X.A (assignInOrder ((assignEach ts X.env).map (·.2)) us) (fun _ s' => ∃ σ' H',Inv X pins σ' H' s'∧Q σ' H') X.xe s
section
variable {X:Cx} {pos:Pos}
def gName (i:Nat):TG:=fun v σ H Q => Q (σ.set i (some v)) H
theorem pg_name {i:Nat} {x:Str} (hN:X.N.Nodup) (hi:X.N[i]? = some x) (hx:Loc X.env.scope x) (hf:X.fn x = true∨X.env.scope.names.lookup x = some .local:=by first | exact .inl rfl | exact .inr rfl | assumption):PG X (.Name x pos) (gName i):=by
 intro pins s σ H v u Q I r h
 exact wpAny_assign_Name (store_ok I hN hi hx r (fun s' I' => ⟨_,H,I',h⟩) hf)
def gNil:TGs:=fun vs σ H Q => vs = []∧Q σ H
def gCons (t:TG) (u:TGs):TGs:=fun vs σ H Q => ∃ v r,vs = v :: r∧t v σ H fun σ' H' => u r σ' H' Q
theorem pgs_nil:PGs X [] gNil:=by
 intro pins s σ H vs us Q I r h
 obtain ⟨e,h⟩:=h
 subst e
 cases r
 exact assignInOrder_nil ⟨σ,H,I,h⟩
theorem pgs_cons {e:Expr} {es:List Expr} {t:TG} {u:TGs} (h1:PG X e t) (h2:PGs X es u)
  (hs:(assignEach (e :: es) X.env).map (·.2) = assign e X.env :: (assignEach es X.env).map (·.2):=by rfl):PGs X (e :: es) (gCons t u):=by
 intro pins s σ H vs us Q I r h
 obtain ⟨v,vr,e1,h⟩:=h
 subst e1
 cases r with
 | cons r rr =>
  rw [hs]
  refine assignInOrder_cons (thn (h1 pins s σ H _ _ _ I r h) fun _ s1 ⟨σ1,H1,I1,q1⟩ => ?_)
  exact h2 pins s1 σ1 H1 _ _ Q I1 rr q1
def gTup (K:PySem.W.Frag) (n:Nat) (t:TGs):TG:=fun v σ H Q => ∃ a xs,v = .ref a∧SqT K H a xs∧xs.length = n∧t xs σ H Q
theorem pg_tup {es:List Expr} {k:Nat} {t:TGs} {n:Nat} (hc:X.calm = true) (h:PGs X es t)
  (hn:(assignEach es X.env).length = n:=by rfl) (hst:(assignEach es X.env).findIdx? (·.1) = none:=by rfl):PG X (.Tuple es k pos) (gTup X.K n t):=by
 intro pins s σ H v u Q I r hw
 obtain ⟨a,xs,e1,hq,hl,hw⟩:=hw
 subst e1
 cases r
 obtain ⟨its,rv,ht,hz⟩:=I.tuple hq
 refine assign_Tuple_tuple (I.ok.hd hc) ht (by simp [hn,← hl,rv.length]) hst fun h' hx => ?_
 have I1:Inv X pins σ H { s with heap:=h' }:=I.kept (t':=s.toks) fun b o e => hx b o (Nat.ne_of_lt (Heap.lt_size e)) e
 exact h pins _ σ H xs _ Q I1 (by simpa using rv) hw
def tAsg (te:TE) (g:TG):TS:=fun D σ H => te σ H fun x H1 => g x σ H1 D.nx
theorem ps_asg {tg e:Expr} {te:TE} {g:TG} (he:PE X e te) (hg:PG X tg g) (hs:swapsWithSole [tg] e pos.line X.env = pure false:=by rfl) (hw:swappedStores [tg] e X.env = pure none:=by rfl)
  (h1:(assignEach [tg] X.env).map (·.2) = [assign tg X.env]:=by rfl):PS X (.Assign [tg] e pos) (tAsg te g):=by
 intro pins s σ H D I h
 refine wpAny_Assign_stores (thn (he pins s σ H _ I h) fun v s1 ⟨x,H1,I1,r1,q1⟩ => ?_) hs hw
 rw [h1]
 exact thn (hg pins s1 σ H1 x v _ I1 r1 q1) fun _ s2 q => q
theorem ps_set {i:Nat} {x:Str} {e:Expr} {te:TE} {pos':Pos} (hN:X.N.Nodup) (hi:X.N[i]? = some x) (hx:Loc X.env.scope x) (he:PE X e te) (hs:swapsWith e (some (.Name x pos')) pos.line X.env = pure false:=by rfl) (hf:X.fn x = true∨X.env.scope.names.lookup x = some .local:=by first | exact .inl rfl | exact .inr rfl | assumption) :
  PS X (.Assign [.Name x pos'] e pos) (tAsg te (gName i)):=by
 intro pins s σ H D I h
 refine wpAny_Assign_Name (thn (he pins s σ H _ I h) fun v s1 ⟨y,H1,I1,r1,q1⟩ => ?_) hs
 exact store_ok I1 hN hi hx r1 (fun s2 I2 => ⟨_,H1,I2,q1⟩) hf
end
section
variable {X:Cx} {pos:Pos}
def tWhile (c:TT) (tb:TS):TS:=fun D σ H => ∃ W:Nat→St→Hp→Prop,(∃ m,W m σ H)∧∀ m σ H,W m σ H →
 c σ H fun b H1 => if b = true then ∃ N:St→Hp→Prop,(∀ σ' H',N σ' H'→∃ m',m' < m∧W m' σ' H')∧tb { D with nx:=N,ct:=N,bk:=D.nx } σ H1 else D.nx σ H1
theorem ps_while {c:Expr} {body:List Stmt} {tc:TT} {tb:TS} (hp:PassesOwn (model X.prog X.w) X.A X.env X.xe) (hc:PT X c tc) (hb:PSs X body tb):PS X (.While c body [] pos) (tWhile tc tb):=by
 intro pins s σ H D I h
 obtain ⟨W,⟨m0,w0⟩,turn⟩:=h
 refine wpAny_While (codeAny_whileLoop (fun n s' => ∃ σ' H',Inv X pins σ' H' s'∧W n σ' H') ?_ m0 ⟨σ,H,I,w0⟩)
 rintro n s1 ⟨σ1,H1,I1,w1⟩
 refine wpAny_passesOwn hp (thn (hc pins s1 σ1 H1 _ I1 (turn n σ1 H1 w1)) fun b s2 ⟨H2,I2,q2⟩ => ?_)
 cases b with
 | true =>
  obtain ⟨N,hN,q2⟩:=q2
  rw [if_pos rfl]
  refine wpAny_passesOwn hp (thn (hb pins s2 σ1 H2 _ I2 q2) fun f s3 q3 => ?_)
  cases f with
  | next =>
   obtain ⟨σ3,H3,I3,n3⟩:=q3
   obtain ⟨m',hm,w3⟩:=hN σ3 H3 n3
   exact ⟨m',hm,σ3,H3,I3,w3⟩
  | cont =>
   obtain ⟨σ3,H3,I3,n3⟩:=q3
   obtain ⟨m',hm,w3⟩:=hN σ3 H3 n3
   exact ⟨m',hm,σ3,H3,I3,w3⟩
  | brk => exact q3
  | ret v => exact q3
 | false =>
  rw [if_neg Bool.false_ne_true]
  exact wpAny_execs_nil ⟨σ1,H2,I2,q2⟩
end
structure It where
 go:Nat→Hp→Prop
 yld:Nat→Hp→V→Hp→Prop
 stop:Nat→Hp→Prop
def FpOk (X:Cx) (pins:List (Addr × Obj)) (H:Hp) (b:Addr):Prop :=
 H b = none∧b≠X.env.locals∧b ∉ X.fs∧(b∈X.ex∨X.s₀.heap.objs.size≤b)∧(∀ x c,X.env.cells.lookup x = some c→c≠b)∧∀ p∈X.pn ++ pins,p.1≠b
theorem Inv.fpOk {X:Cx} {pins:List (Addr × Obj)} {σ:St} {H H':Hp} {s:Shared} {b:Addr} (I:Inv X pins σ H s) (hb:s.heap.objs.size≤b) (hn:H' b = none):FpOk X pins H' b:=by
 refine ⟨hn,Nat.ne_of_gt (Nat.lt_of_lt_of_le I.lt hb),I.nofs hb,.inr (Nat.le_trans I.sz hb),fun x c e z => ?_,fun p hp z => ?_⟩
 ·obtain ⟨v,q⟩:=I.cell x c e
  exact absurd (Nat.lt_of_lt_of_le q.lt (by rw [z]; exact hb)) (Nat.lt_irrefl _)
 ·exact absurd (Nat.lt_of_lt_of_le (Heap.lt_size (I.pin p hp).1) (by rw [z]; exact hb)) (Nat.lt_irrefl _)
structure Turn (P:Program) (w:World) (K:PySem.W.Frag) (tg:Expr) (J:It) (fp:List Addr) (it:Addr) (tn:Nat→Heap→Prop) (nm:Bool):Prop where
 mem:it∈fp
 obj:∀ i h,tn i h→∀ b∈fp,∃ o,h.get? b = some o∧∀ v,o.data≠.cell v
 keep:∀ i h h',tn i h→(∀ b∈fp,∀ o,h.get? b = some o→h'.get? b = some o)→tn i h'
 item:∀ (X:Cx),X.prog = P→X.w = w→X.K = K→(nm = true→X.calm = true)→∀ (i:Nat) (pins:List (Addr × Obj)) (s:Shared) (σ:St) (H:Hp) (E:Value→Shared→Prop),Inv X pins σ H s→(∀ b∈fp,FpOk X pins H b)→tn i s.heap→J.go i H →
  wpAny (model P w) X.A (pyNext (.ref it)) (fun r s1 => ∃ u,r = some u ∧
   wpAny (model P w) X.A (letOwnedTupleGo tg (.ref it) u) (fun _ s2 => ∃ x H',Inv X pins σ H' s2∧RelV x u∧J.yld i H x H'∧tn (i + 1) s2.heap∧∀ b∈fp,H' b = none) E s1) E s
 done:∀ (X:Cx),X.prog = P→X.w = w→X.K = K→(nm = true→X.calm = true)→∀ (i:Nat) (pins:List (Addr × Obj)) (s:Shared) (σ:St) (H:Hp) (E:Value→Shared→Prop),Inv X pins σ H s→(∀ b∈fp,FpOk X pins H b)→tn i s.heap→J.stop i H →
  wpAny (model P w) X.A (pyNext (.ref it)) (fun r s1 => r = none∧Inv X pins σ H s1) E s
 self:∀ (A:Around) (i:Nat) (s:Shared) (Q:Value→Shared→Prop) (E:Value→Shared→Prop),tn i s.heap→Q (.ref it) s→wpAny (model P w) A (pyIter (.ref it)) Q E s
def TurnX (X:Cx) (tg:Expr) (J:It) (fp:List Addr) (it:Addr) (tn:Nat→Heap→Prop):Prop:=∃ nm,Turn X.prog X.w X.K tg J fp it tn nm∧(nm = true→X.calm = true)
theorem TurnX.of {X:Cx} {tg:Expr} {J:It} {fp:List Addr} {it:Addr} {tn:Nat→Heap→Prop} (T:Turn X.prog X.w X.K tg J fp it tn false):TurnX X tg J fp it tn:=⟨false,T,fun z => by cases z⟩
abbrev TI:=St→Hp→(It→Hp→Prop)→Prop
def PIE (X:Cx) (pins:List (Addr × Obj)) (σ:St) (tg:Expr) (R:It→Hp→Prop) (itv:Value) (s2:Shared):Prop :=
 ∃ (it:Addr) (fp:List Addr) (tn:Nat→Heap→Prop) (J:It) (H':Hp),itv = .ref it∧Inv X pins σ H' s2∧TurnX X tg J fp it tn∧tn 0 s2.heap∧(∀ b∈fp,FpOk X pins H' b)∧R J H'
def PI (X:Cx) (tg iter:Expr) (wi:TI):Prop :=
 ∀ (pins:List (Addr × Obj)) (s:Shared) (σ:St) (H:Hp) (R:It→Hp→Prop),Inv X pins σ H s→wi σ H R →
  wpAny (model X.prog X.w) X.A (eval iter X.env) (fun v s1 => wpAny (model X.prog X.w) X.A (pyIter v) (PIE X pins σ tg R) X.xe s1) X.xe s
theorem go_of {M:Model} {A:Around} {E:Value→Shared→Prop} {s:Shared} {tg:Expr} {it:Addr} {u:Value} {o:Obj} {n:String} {vs:Array Value} {Q:Unit→Shared→Prop} (ho:s.heap.get? it = some o) (hc:o.cls = .type n) (hd:o.data = .fields vs)
  (hn:["enumerate","zip","dict_itemiterator","dict_reverseitemiterator","odict_iterator","itertools.zip_longest","itertools.pairwise"].contains n = false) (hQ:Q () s):wpAny M A (letOwnedTupleGo tg (.ref it) u) Q E s:=by
 unfold letOwnedTupleGo
 cases tg <;> first
  | exact wpAny_pure hQ
  | (cases u <;> first
    | exact wpAny_pure hQ
    | (refine wpAny_bind (wpAny_load ho ?_)
       rw [hc,hd]
       show wpAny M A (if (["enumerate","zip","dict_itemiterator","dict_reverseitemiterator","odict_iterator","itertools.zip_longest","itertools.pairwise"].contains n && vs[0]? == some (rawInt _)) = true then _ else _) Q E s
       rw [if_neg (by intro h; rw [hn,Bool.false_and] at h; cases h)]
       exact wpAny_pure hQ))
def Itl (K:PySem.W.Frag) (a:Addr):It :=
 ⟨fun i H => ∃ xs x,SqL K H a xs∧xs[i]? = some x,fun i H x H' => H' = H∧∀ xs,SqL K H a xs→xs[i]? = some x,fun i H => ∃ xs,SqL K H a xs∧xs.length≤i⟩
def Itr (lo:Int) (n:Nat):It:=⟨fun i _ => i < n,fun i H x H' => H' = H∧x = .int (lo + i),fun i _ => n≤i⟩
theorem turn_list {P:Program} {w:World} {K:PySem.W.Frag} {tg:Expr} (a it:Addr):Turn P w K tg (Itl K a) [it] it (fun i h => h.IsListIter it a i) false where
 mem:=by simp
 obj:=fun i h st b hb => by
  have e:b = it:=by simpa using hb
  subst e
  obtain ⟨o,e,c,d⟩:=st
  exact ⟨o,e,fun v z => by rw [d] at z; cases z⟩
 keep:=fun i h h' st k => st.at fun o e => k it (by simp) o e
 item:=by
  intro X hP hw hK hc i pins s σ H E I hf st hg
  subst hP hw hK
  obtain ⟨xs,x,hq,hx⟩:=hg
  obtain ⟨its,rv,p,hz⟩:=I.list hq
  obtain ⟨u,hu,ru⟩:=rv.get hx
  obtain ⟨f0,f1,f2,f3,f4,f5⟩:=hf it (by simp)
  refine wpAny_pyNext_list_item st p.isList (x:=u) (by simpa using hu) fun h' st' sb => ?_
  have I1:Inv X pins σ H { s with heap:=h' }:=I.turned (t':=s.toks) (fun b o hb e => (sb.2 b hb).trans e) f0 f1 f3 f4 f5
  obtain ⟨o,e,c,d⟩:=id st'
  exact ⟨u,rfl,go_of (s:={ s with heap:=h' }) e c d (by decide) ⟨x,H,I1,ru,⟨rfl,fun ys hy => by rw [I.list_inj hy hq]; exact hx⟩,st',fun b hb => (hf b hb).1⟩⟩
 done:=by
  intro X hP hw hK hc i pins s σ H E I hf st hg
  subst hP hw hK
  obtain ⟨xs,hq,hx⟩:=hg
  obtain ⟨its,rv,p,hz⟩:=I.list hq
  obtain ⟨f0,f1,f2,f3,f4,f5⟩:=hf it (by simp)
  have hl:=rv.length
  exact list_on (I.hn.now I.hok) st p.isList (by simp; omega) fun h' eb => ⟨rfl,I.turned (t':=s.toks) (fun b o hb e => eb b o hb e) f0 f1 f3 f4 f5⟩
 self:=fun _ _ _ _ _ st h => wpAny_pyIter_listiter st h
theorem turn_range {P:Program} {w:World} {K:PySem.W.Frag} {tg:Expr} (it:Addr) (lo:Int) (n:Nat):Turn P w K tg (Itr lo n) [it] it (fun i h => IsRangeIter h it (lo + (i:Nat) * 1) ((n:Int) - (i:Nat)) 1) false where
 mem:=by simp
 obj:=fun i h st b hb => by
  have e:b = it:=by simpa using hb
  subst e
  exact ⟨_,st,fun v z => by
   have z':Data.fields _ = Data.cell v:=z
   cases z'⟩
 keep:=fun i h h' st k => k it (by simp) _ st
 item:=by
  intro X hP hw hK hc i pins s σ H E I hf st hg
  subst hP hw hK
  obtain ⟨f0,f1,f2,f3,f4,f5⟩:=hf it (by simp)
  refine wpAny_pyNext_range_item st (by have:i < n:=hg; omega) fun h' st' sb => ?_
  obtain ⟨tk,htk⟩:∃ tk,tk = s.toks + 1:=⟨_,rfl⟩
  rw [← htk]
  have I1:Inv X pins σ H { s with heap:=h',toks:=tk }:=I.turned (fun b o hb e => (sb.2 b hb).trans e) f0 f1 f3 f4 f5
  have st2:IsRangeIter h' it (lo + ((i + 1:Nat):Int) * 1) ((n:Int) - ((i + 1:Nat):Int)) 1:=by
   rw [show lo + ((i + 1:Nat):Int) * 1 = lo + (i:Int) * 1 + 1 by omega,show (n:Int) - ((i + 1:Nat):Int) = (n:Int) - (i:Int) - 1 by omega]; exact st'
  refine ⟨_,rfl,go_of (s:={ s with heap:=h',toks:=tk }) (n:="range_iterator") st' rfl rfl (by decide) ⟨.int (lo + i),H,I1,⟨s.toks,?_⟩,⟨rfl,rfl⟩,st2,fun b hb => (hf b hb).1⟩⟩
  rw [Int.mul_one]
 done:=by
  intro X hP hw hK hc i pins s σ H E I hf st hg
  subst hP hw hK
  obtain ⟨f0,f1,f2,f3,f4,f5⟩:=hf it (by simp)
  exact range_on (I.hn.now I.hok) st (by have:n≤i:=hg; omega) fun h' eb => ⟨rfl,I.turned (t':=s.toks) (fun b o hb e => eb b o hb e) f0 f1 f3 f4 f5⟩
 self:=fun _ _ _ _ _ st h => wpAny_pyIter_rangeiter st h
end L2
namespace L2
open PySem PySem.Spec PyProof.Rows
section
variable {X:Cx} {tg:Expr}
def iList (K:PySem.W.Frag) (tl:TE):TI:=fun σ H R => tl σ H fun x H1 => ∃ a,x = .ref a∧(∃ xs,SqL K H1 a xs)∧R (Itl K a) H1
theorem pi_list {l:Expr} {tl:TE} (hl:PE X l tl):PI X tg l (iList X.K tl):=by
 intro pins s σ H R I h
 refine thn (hl pins s σ H _ I h) fun v s1 ⟨x,H1,I1,r1,q1⟩ => ?_
 obtain ⟨a,e,⟨xs,hq⟩,q⟩:=q1
 subst e
 cases r1
 obtain ⟨its,rv,p,hz⟩:=I1.list hq
 refine wpAny_pyIter_list p.isList ?_
 refine ⟨s1.heap.objs.size,[s1.heap.objs.size],_,_,H1,rfl,I1.kept (t':=s1.toks) fun b o e => Heap.get?_push_of_some _ e,TurnX.of (turn_list a _),⟨_,Heap.get?_push_size _ rfl,rfl,rfl⟩,fun b hb => ?_,q⟩
 have e:b = s1.heap.objs.size:=by simpa using hb
 subst e
 exact I1.fpOk (Nat.le_refl _) (I1.hok.fresh (Nat.le_refl _))
theorem range_it {pins:List (Addr × Obj)} {σ:St} {H:Hp} {s:Shared} {R:It→Hp→Prop} {E:Value→Shared→Prop} {lo hi:Int} {t u v:Tok} {tk:Nat} (I:Inv X pins σ H s) (h1:-(2 ^ 62)≤lo) (h2:lo < 2 ^ 62) (h3:-(2 ^ 62)≤hi) (h4:hi < 2 ^ 62)
  (q:R (Itr lo (hi - lo).toNat) H):wpAny (model X.prog X.w) X.A (pyIter (.ref s.heap.objs.size)) (PIE X pins σ tg R) E { s with heap:=s.heap.push { cls:=.type "range",data:=.fields #[.int lo t,.int hi u,.int 1 v] },toks:=tk }:=by
 refine wpAny_pyIter_range (IsRange.new ..) (small_one h1 h2 h3 h4) ?_
 have I1:Inv X pins σ H { s with heap:=s.heap.push { cls:=.type "range",data:=.fields #[.int lo t,.int hi u,.int 1 v] },toks:=tk }:=I.kept fun b o e => Heap.get?_push_of_some _ e
 refine ⟨(s.heap.push { cls:=.type "range",data:=.fields #[.int lo t,.int hi u,.int 1 v] }).objs.size,[(s.heap.push { cls:=.type "range",data:=.fields #[.int lo t,.int hi u,.int 1 v] }).objs.size],_,_,H,rfl,
  I1.kept (t':=tk) fun b o e => Heap.get?_push_of_some _ e,TurnX.of (turn_range _ lo (hi - lo).toNat),?_,fun b hb => ?_,q⟩
 ·have e1:lo + ((0:Nat):Int) * 1 = lo:=by simp
  have e2:(((hi - lo).toNat:Nat):Int) - ((0:Nat):Int) = Builtin.Range.rangeSize lo hi 1:=by rw [rangeSize_one]; split <;> omega
  show IsRangeIter _ _ (lo + ((0:Nat):Int) * 1) ((((hi - lo).toNat:Nat):Int) - ((0:Nat):Int)) 1
  rw [e1,e2]
  exact Heap.get?_push_size _ rfl
 ·have e:b = (s.heap.push { cls:=.type "range",data:=.fields #[.int lo t,.int hi u,.int 1 v] }).objs.size:=by simpa using hb
  subst e
  exact I1.fpOk (Nat.le_refl _) (I1.hok.fresh (Nat.le_refl _))
def iRng1 (ta:TA):TI:=fun σ H R => ta σ H fun vs H1 => ∃ j:Int,vs = [.int j]∧-(2 ^ 62)≤j∧j < 2 ^ 62∧R (Itr 0 j.toNat) H1
def iRng2 (ta:TA):TI:=fun σ H R => ta σ H fun vs H1 => ∃ i j:Int,vs = [.int i,.int j]∧(-(2 ^ 62)≤i∧i < 2 ^ 62∧-(2 ^ 62)≤j∧j < 2 ^ 62)∧R (Itr i (j - i).toNat) H1
theorem pi_range1 {a:Expr} {ta:TA} {p pos:Pos} (hg:Gl X "range") (hm:X.mg "range" = none) (ha:PA X [a] ta) (hs:starEach [a] X.env = [(false,eval a X.env)]:=by rfl):PI X tg (.Call (.Name "range" p) [a] [] pos) (iRng1 ta):=by
 intro pins s σ H R I h
 refine Call_ (ld_blt I hg hm boot_range (PyProof.Rows.callWith_type1 (thn (ha pos pins s σ H _ I h) fun us s1 ⟨vs,H1,I1,r1,q1⟩ => ?_) hs rfl))
 obtain ⟨j,e,q1,q2,q⟩:=q1
 subst e
 cases r1 with
 | cons r rr =>
  cases rr
  obtain ⟨t,rfl⟩:=r
  exact call_range_1 (range_it I1 (by omega) (by omega) q1 q2 (by simpa using q))
theorem pi_range2 {a b:Expr} {ta:TA} {p pos:Pos} (hg:Gl X "range") (hm:X.mg "range" = none) (ha:PA X [a,b] ta) (hs:starEach [a,b] X.env = [(false,eval a X.env),(false,eval b X.env)]:=by rfl) (hs2:starEach [b] X.env = [(false,eval b X.env)]:=by rfl) :
  PI X tg (.Call (.Name "range" p) [a,b] [] pos) (iRng2 ta):=by
 intro pins s σ H R I h
 refine Call_ (ld_blt I hg hm boot_range (PyProof.Rows.callWith_type1 (thn (ha pos pins s σ H _ I h) fun us s1 ⟨vs,H1,I1,r1,q1⟩ => ?_) (by rw [hs,hs2]) (by rw [hs2]; rfl)))
 obtain ⟨i,j,e,⟨q1,q2,q3,q4⟩,q⟩:=q1
 subst e
 cases r1 with
 | cons r rr =>
  cases rr with
  | cons r' rr =>
   cases rr
   obtain ⟨t,rfl⟩:=r
   obtain ⟨t',rfl⟩:=r'
   exact call_range_2 (range_it I1 q1 q2 q3 q4 q)
def tFor (wi:TI) (g:TG) (tb:TS):TS:=fun D σ H => wi σ H fun J H1 => ∃ W:Nat→Nat→St→Hp→Prop,(∃ m,W 0 m σ H1)∧∀ i m σ H,W i m σ H →
 (J.stop i H∧D.nx σ H)∨(J.go i H∧∃ N:St→Hp→Prop,(∀ σ' H',N σ' H'→∃ m',m' < m∧W (i + 1) m' σ' H')∧∀ x H',J.yld i H x H'→g x σ H' fun σ2 H2 => tb { D with nx:=N,ct:=N,bk:=D.nx } σ2 H2)
def pinsAt (fp:List Addr) (h:Heap):List (Addr × Obj):=fp.filterMap fun b => (h.get? b).map fun o => (b,o)
theorem mem_pinsAt {fp:List Addr} {h:Heap} {b:Addr} {o:Obj} (hb:b∈fp) (e:h.get? b = some o):(b,o)∈pinsAt fp h:=List.mem_filterMap.mpr ⟨b,hb,by rw [e]; rfl⟩
theorem of_pinsAt {fp:List Addr} {h:Heap} {p:Addr × Obj} (hp:p∈pinsAt fp h):p.1∈fp∧h.get? p.1 = some p.2:=by
 obtain ⟨b,hb,e⟩:=List.mem_filterMap.mp hp
 cases q:h.get? b with
 | none => rw [q] at e; cases e
 | some o =>
  rw [q] at e
  have e':(b,o) = p:=Option.some.inj e
  subst e'
  exact ⟨hb,q⟩
theorem Inv.pinned {pins:List (Addr × Obj)} {σ:St} {H:Hp} {s:Shared} {fp:List Addr} (I:Inv X pins σ H s) (hf:∀ b∈fp,FpOk X pins H b) (ho:∀ b∈fp,∃ o,s.heap.get? b = some o∧∀ v,o.data≠.cell v):Inv X (pins ++ pinsAt fp s.heap) σ H s :=
 I.pins_of fun p hp => (List.mem_append.mp hp).elim (fun z => I.pin p (List.mem_append_right _ z)) fun z => by
  obtain ⟨hb,e⟩:=of_pinsAt z
  obtain ⟨f0,f1,f2,_⟩:=hf p.1 hb
  obtain ⟨o,e',d⟩:=ho p.1 hb
  rw [e] at e'; cases e'
  exact ⟨e,f0,f1,f2,d⟩
theorem Inv.unpinned {pins pl:List (Addr × Obj)} {σ:St} {H:Hp} {s:Shared} (I:Inv X (pins ++ pl) σ H s):Inv X pins σ H s:=I.pins_of fun p hp => I.pin p (List.mem_append_right _ (List.mem_append_left _ hp))
theorem ps_for {iter:Expr} {body:List Stmt} {wi:TI} {g:TG} {tb:TS} {pos:Pos} (hp:PassesOwn (model X.prog X.w) X.A X.env X.xe) (hi:PI X tg iter wi) (hg:PG X tg g) (hb:PSs X body tb)
  (hs:∀ x,foldedSetIterable iter X.env x = pure x:=by intro _; rfl):PS X (.For tg iter body [] pos) (tFor wi g tb):=by
 intro pins s σ H D I h
 refine wpAny_For (thn (hi pins s σ H _ I h) fun v s1 h1 => thn h1 fun itv s2 h2 => ?_) hs
 obtain ⟨it,fp,tn,J,H2,e,I2,T,st2,f2,W,⟨m0,w0⟩,turn⟩:=h2
 subst e
 obtain ⟨nm,T,hc⟩:=T
 have stat:∀ {H':Hp},(∀ b∈fp,H' b = none)→∀ b∈fp,FpOk X pins H' b:=fun hn b hb => ⟨hn b hb,(f2 b hb).2⟩
 refine codeAny_forLoop_any (fun n s' => ∃ i σ' H',Inv X pins σ' H' s'∧tn i s'.heap∧(∀ b∈fp,H' b = none)∧W i n σ' H') ?_ m0 ⟨0,σ,H2,I2,st2,fun b hb => (f2 b hb).1,w0⟩
 rintro n s3 ⟨i,σ3,H3,I3,st3,fr3,w3⟩
 rcases turn i n σ3 H3 w3 with ⟨stop,qn⟩ | ⟨go,N,hN,step⟩
 ·refine wpAny_passesOwn hp (thn (T.done X rfl rfl rfl hc i pins s3 σ3 H3 X.xe I3 (stat fr3) st3 stop) fun r s4 ⟨hr,I4⟩ => ?_)
  subst hr
  exact wpAny_execs_nil ⟨σ3,H3,I4,qn⟩
 ·refine wpAny_passesOwn hp (thn (T.item X rfl rfl rfl hc i pins s3 σ3 H3 X.xe I3 (stat fr3) st3 go) fun r s4 ⟨u,hr,h4⟩ => ?_)
  subst hr
  refine wpAny_passesOwn hp (thn h4 fun _ s5 hh => ?_)
  obtain ⟨x,H5,I5,r5,y5,st5,fr5⟩:=hh
  have I5':=I5.pinned (stat fr5) (T.obj _ _ st5)
  refine wpAny_passesOwn hp (thn (hg _ s5 σ3 H5 x u _ I5' r5 (step x H5 y5)) fun _ s6 ⟨σ6,H6,I6,q6⟩ => ?_)
  refine wpAny_passesOwn hp (thn (hb _ s6 σ6 H6 _ I6 q6) fun f s7 q7 => ?_)
  have again:∀ {σ7:St} {H7:Hp},Inv X (pins ++ pinsAt fp s5.heap) σ7 H7 s7→N σ7 H7→∃ m,m < n∧∃ i σ' H',Inv X pins σ' H' s7∧tn i s7.heap∧(∀ b∈fp,H' b = none)∧W i m σ' H':=fun {σ7 H7} I7 n7 => by
   obtain ⟨m',hm,w7⟩:=hN σ7 H7 n7
   refine ⟨m',hm,i + 1,σ7,H7,I7.unpinned,T.keep _ _ _ st5 fun b hb o e => (I7.pin (b,o) (List.mem_append_right _ (List.mem_append_right _ (mem_pinsAt hb e)))).1,fun b hb => ?_,w7⟩
   obtain ⟨o,e,d⟩:=T.obj _ _ st5 b hb
   exact (I7.pin (b,o) (List.mem_append_right _ (List.mem_append_right _ (mem_pinsAt hb e)))).2.1
  cases f with
  | next => obtain ⟨σ7,H7,I7,n7⟩:=q7; exact again I7 n7
  | cont => obtain ⟨σ7,H7,I7,n7⟩:=q7; exact again I7 n7
  | brk => obtain ⟨σ7,H7,I7,q7⟩:=q7; exact ⟨σ7,H7,I7.unpinned,q7⟩
  | ret v => obtain ⟨x7,σ7,H7,I7,r7,q7⟩:=q7; exact ⟨x7,σ7,H7,I7.unpinned,r7,q7⟩
end
theorem for_list {K:PySem.W.Frag} {a:Addr} {xs:List V} {g:TG} {tb:TS} {D:Ends} {σ:St} {H:Hp} (Pv:Nat→St→Hp→Prop) (h0:Pv 0 σ H) (hl:∀ i σ H,i≤xs.length→Pv i σ H→SqL K H a xs)
  (hs:∀ i x σ H,xs[i]? = some x→Pv i σ H→g x σ H fun σ2 H2 => tb { D with nx:=Pv (i + 1),ct:=Pv (i + 1),bk:=D.nx } σ2 H2) (hd:∀ σ H,Pv xs.length σ H→D.nx σ H) :
  ∃ W:Nat→Nat→St→Hp→Prop,(∃ m,W 0 m σ H)∧∀ i m σ H,W i m σ H →
   ((Itl K a).stop i H∧D.nx σ H)∨((Itl K a).go i H∧∃ N:St→Hp→Prop,(∀ σ' H',N σ' H'→∃ m',m' < m∧W (i + 1) m' σ' H')∧∀ x H',(Itl K a).yld i H x H'→g x σ H' fun σ2 H2 => tb { D with nx:=N,ct:=N,bk:=D.nx } σ2 H2):=by
 refine ⟨fun i m σ H => m = xs.length - i∧i≤xs.length∧Pv i σ H,⟨xs.length,by simp,Nat.zero_le _,h0⟩,?_⟩
 rintro i m σ H ⟨rfl,hi,p⟩
 have q:=hl i σ H hi p
 by_cases hlt:i < xs.length
 ·refine .inr ⟨⟨xs,xs[i],q,by simp [hlt]⟩,Pv (i + 1),fun σ' H' p' => ⟨xs.length - (i + 1),by omega,rfl,hlt,p'⟩,fun x H' y => ?_⟩
  obtain ⟨e,y⟩:=y
  subst e
  exact hs i x σ _ (y xs q) p
 ·have e:i = xs.length:=by omega
  subst e
  exact .inl ⟨⟨xs,q,Nat.le_refl _⟩,hd σ H p⟩
theorem for_range {lo:Int} {n:Nat} {g:TG} {tb:TS} {D:Ends} {σ:St} {H:Hp} (Pv:Nat→St→Hp→Prop) (h0:Pv 0 σ H)
  (hs:∀ i σ H,i < n→Pv i σ H→g (.int (lo + i)) σ H fun σ2 H2 => tb { D with nx:=Pv (i + 1),ct:=Pv (i + 1),bk:=D.nx } σ2 H2) (hd:∀ σ H,Pv n σ H→D.nx σ H) :
  ∃ W:Nat→Nat→St→Hp→Prop,(∃ m,W 0 m σ H)∧∀ i m σ H,W i m σ H →
   ((Itr lo n).stop i H∧D.nx σ H)∨((Itr lo n).go i H∧∃ N:St→Hp→Prop,(∀ σ' H',N σ' H'→∃ m',m' < m∧W (i + 1) m' σ' H')∧∀ x H',(Itr lo n).yld i H x H'→g x σ H' fun σ2 H2 => tb { D with nx:=N,ct:=N,bk:=D.nx } σ2 H2):=by
 refine ⟨fun i m σ H => m = n - i∧i≤n∧Pv i σ H,⟨n,by simp,Nat.zero_le _,h0⟩,?_⟩
 rintro i m σ H ⟨rfl,hi,p⟩
 by_cases hlt:i < n
 ·refine .inr ⟨hlt,Pv (i + 1),fun σ' H' p' => ⟨n - (i + 1),by omega,rfl,hlt,p'⟩,fun x H' y => ?_⟩
  obtain ⟨e,y⟩:=y
  subst e y
  exact hs i σ _ hlt p
 ·have e:i = n:=by omega
  subst e
  exact .inl ⟨Nat.le_refl _,hd σ H p⟩
end L2
namespace L2
open PySem PySem.Spec PyProof.Rows
abbrev R2:=V→V→Hp→VK→Prop
def OpR (X:Cx) (f:Value→Value→Sem Value) (r:R2):Prop :=
 ∀ (pins:List (Addr × Obj)) (s:Shared) (σ:St) (H:Hp) (x y:V) (v u:Value) (Q:VK),Inv X pins σ H s→RelV x v→RelV y u→r x y H Q →
  wpAny (model X.prog X.w) X.A (f v u) (EP X pins σ Q) X.xe s
def UnR (X:Cx) (f:Value→Sem Value) (r:V→Hp→VK→Prop):Prop :=
 ∀ (pins:List (Addr × Obj)) (s:Shared) (σ:St) (H:Hp) (x:V) (v:Value) (Q:VK),Inv X pins σ H s→RelV x v→r x H Q →
  wpAny (model X.prog X.w) X.A (f v) (EP X pins σ Q) X.xe s
def CallR (X:Cx) (f:Value) (r:List V→Hp→VK→Prop):Prop :=
 ∀ (pins:List (Addr × Obj)) (s:Shared) (σ:St) (H:Hp) (xs:List V) (us:List Value) (Q:VK),Inv X pins σ H s→Vals xs us→r xs H Q →
  wpAny (model X.prog X.w) X.A (call f us) (EP X pins σ Q) X.xe s
def TruR (X:Cx) (r:V→Hp→(Bool→Hp→Prop)→Prop):Prop :=
 ∀ (pins:List (Addr × Obj)) (s:Shared) (σ:St) (H:Hp) (x:V) (v:Value) (Q:Bool→Hp→Prop),Inv X pins σ H s→RelV x v→r x H Q →
  wpAny (model X.prog X.w) X.A (truthy v) (TP X pins σ Q) X.xe s
def tOp (r:R2) (ta tb:TE):TE:=fun σ H Q => ta σ H fun x H1 => tb σ H1 fun y H2 => r x y H2 Q
def tUn (r:V→Hp→VK→Prop) (ta:TE):TE:=fun σ H Q => ta σ H fun x H1 => r x H1 Q
def rI (C:Int→Int→Prop) (g:Int→Int→V):R2:=fun x y H Q => ∃ i j,x = .int i∧y = .int j∧C i j∧Q (g i j) H
def rI0 (g:Int→Int→V):R2:=fun x y H Q => ∃ i j,x = .int i∧y = .int j∧Q (g i j) H
def rU (g:Int→V):V→Hp→VK→Prop:=fun x H Q => ∃ i,x = .int i∧Q (g i) H
section
variable {X:Cx} {a b c:Expr} {ta tb tc:TE} {pos:Pos}
theorem binT (ha:PE X a ta) (hb:PE X b tb) {pins:List (Addr × Obj)} {s:Shared} {σ:St} {H:Hp} {R:V→V→Hp→Prop} (I:Inv X pins σ H s)
  (h:ta σ H fun x H1 => tb σ H1 fun y H2 => R x y H2) {Q:Value→Shared→Prop} {f:Value→Value→Sem Value}
  (hf:∀ v u s2 x y H2,Inv X pins σ H2 s2→RelV x v→RelV y u→R x y H2→wpAny (model X.prog X.w) X.A (f v u) Q X.xe s2) :
  wpAny (model X.prog X.w) X.A (eval a X.env) (fun v s₁ => wpAny (model X.prog X.w) X.A (eval b X.env) (fun u s₂ => wpAny (model X.prog X.w) X.A (f v u) Q X.xe s₂) X.xe s₁) X.xe s:=by
 refine thn (ha pins s σ H _ I h) fun v s1 ⟨x,H1,I1,r1,q1⟩ => ?_
 refine thn (hb pins s1 σ H1 _ I1 q1) fun u s2 ⟨y,H2,I2,r2,q2⟩ => ?_
 exact hf v u s2 x y H2 I2 r1 r2 q2
theorem pe_op {op:Operator} {r:R2} (ho:OpR X (binaryOp op) r) (ha:PE X a ta) (hb:PE X b tb):PE X (.BinOp a op b pos) (tOp r ta tb):=by
 intro pins s σ H Q I h
 exact wpAny_BinOp (binT ha hb I h fun v u s2 x y H2 I2 rx ry q => ho pins s2 σ H2 x y v u Q I2 rx ry q)
theorem pe_un {op:UnaryOp} {r:V→Hp→VK→Prop} (ho:UnR X (unaryOp op) r) (ha:PE X a ta):PE X (.UnaryOp op a pos) (tUn r ta):=by
 intro pins s σ H Q I h
 exact UnaryOp_ (thn (ha pins s σ H _ I h) fun v s1 ⟨x,H1,I1,r1,q1⟩ => ho pins s1 σ H1 x v Q I1 r1 q1)
theorem opI {f:Value→Value→Sem Value} {C:Int→Int→Prop} {g:Int→Int→Int}
  (rule:∀ (i j:Int) (t u:Tok) (s:Shared) (Q:Value→Shared→Prop) (E:Value→Shared→Prop),C i j→Q (.int (g i j) s.toks) { s with toks:=s.toks + 1 }→wpAny (model X.prog X.w) X.A (f (.int i t) (.int j u)) Q E s) :
  OpR X f (rI C fun i j => .int (g i j)):=by
 intro pins s σ H x y v u Q I rx ry h
 obtain ⟨i,j,rfl,rfl,hc,q⟩:=h
 obtain ⟨t,rfl⟩:=rx
 obtain ⟨t',rfl⟩:=ry
 exact rule i j t t' s _ _ hc ⟨.int (g i j),H,I.tok _,⟨_,rfl⟩,q⟩
theorem opI0 {f:Value→Value→Sem Value} {g:Int→Int→Int}
  (rule:∀ (i j:Int) (t u:Tok) (s:Shared) (Q:Value→Shared→Prop) (E:Value→Shared→Prop),Q (.int (g i j) s.toks) { s with toks:=s.toks + 1 }→wpAny (model X.prog X.w) X.A (f (.int i t) (.int j u)) Q E s) :
  OpR X f (rI0 fun i j => .int (g i j)):=by
 intro pins s σ H x y v u Q I rx ry h
 obtain ⟨i,j,rfl,rfl,q⟩:=h
 obtain ⟨t,rfl⟩:=rx
 obtain ⟨t',rfl⟩:=ry
 exact rule i j t t' s _ _ ⟨.int (g i j),H,I.tok _,⟨_,rfl⟩,q⟩
theorem opB0 {f:Value→Value→Sem Value} {g:Int→Int→Bool}
  (rule:∀ (i j:Int) (t u:Tok) (s:Shared) (Q:Value→Shared→Prop) (E:Value→Shared→Prop),Q (.bool (g i j)) s→wpAny (model X.prog X.w) X.A (f (.int i t) (.int j u)) Q E s) :
  OpR X f (rI0 fun i j => .bl (g i j)):=by
 intro pins s σ H x y v u Q I rx ry h
 obtain ⟨i,j,rfl,rfl,q⟩:=h
 obtain ⟨t,rfl⟩:=rx
 obtain ⟨t',rfl⟩:=ry
 exact rule i j t t' s _ _ ⟨.bl (g i j),H,I,rfl,q⟩
def CDiv (i j:Int):Prop:=0 < j∧j < 1073741824
def CPow (i j:Int):Prop:=0≤j∧j≤1000000∧i.natAbs < 2 ^ 64
def CMul (i j:Int):Prop:=(-(2 ^ 64) < i∧i < 2 ^ 64)∨(-(2 ^ 64) < j∧j < 2 ^ 64)
theorem CMul.ok {i j:Int} (h:CMul i j):IntMulOk i j:=by
 rcases h with ⟨h1,h2⟩ | ⟨h1,h2⟩
 ·exact .of_left (intBits_le_64 h1 h2)
 ·exact .of_right (intBits_le_64 h1 h2)
theorem op_add:OpR X (binaryOp .Add) (rI0 fun i j => .int (i + j)):=opI0 fun _ _ _ _ _ _ _ q => add_int q
theorem op_sub:OpR X (binaryOp .Sub) (rI0 fun i j => .int (i - j)):=opI0 fun _ _ _ _ _ _ _ q => sub_int q
theorem op_mul:OpR X (binaryOp .Mult) (rI CMul fun i j => .int (i * j)):=opI fun _ _ _ _ _ _ _ hc q => mul_int q hc.ok
theorem op_fdiv:OpR X (binaryOp .FloorDiv) (rI CDiv fun i j => .int (i / j)):=opI fun i j _ _ _ _ _ hc q => by
 have h1:(0:Int) < j:=hc.1
 have h2:j < 1073741824:=hc.2
 exact floordiv_int (by omega) (by rw [Int.fdiv_eq_ediv_of_nonneg i (by omega)]; exact q) (.inl (PyProof.noPylong_small (by omega)))
theorem op_mod:OpR X (binaryOp .Mod) (rI (fun _ j => 0 < j) fun i j => .int (i % j)):=opI fun i j _ _ _ _ _ hc q => by
 have h1:(0:Int) < j:=hc
 exact mod_int' (by omega) (by rw [Int.fmod_eq_emod_of_nonneg i (by omega)]; exact q)
theorem op_pow:OpR X (binaryOp .Pow) (rI CPow fun i j => .int (i ^ j.toNat)):=opI fun _ _ _ _ _ _ _ hc q => pow_int_small hc.1 hc.2.1 hc.2.2 q
theorem unI {f:Value→Sem Value} {g:Int→Int}
  (rule:∀ (i:Int) (t:Tok) (s:Shared) (Q:Value→Shared→Prop) (E:Value→Shared→Prop),Q (.int (g i) s.toks) { s with toks:=s.toks + 1 }→wpAny (model X.prog X.w) X.A (f (.int i t)) Q E s) :
  UnR X f (rU fun i => .int (g i)):=by
 intro pins s σ H x v Q I rx h
 obtain ⟨i,rfl,q⟩:=h
 obtain ⟨t,rfl⟩:=rx
 exact rule i t s _ _ ⟨.int (g i),H,I.tok _,⟨_,rfl⟩,q⟩
theorem un_neg:UnR X (unaryOp .USub) (rU fun i => .int (-i)):=unI fun _ _ _ _ _ q => neg_int q
end
def scal:V→V→Bool
 | .non,.non => true | .non,.int _ => true | .int _,.non => true | .non,.bl _ => true | .bl _,.non => true | .non,.str _ => true | .str _,.non => true
 | .int _,.int _ => true | .bl _,.bl _ => true | .str _,.str _ => true | .byt _,.byt _ => true
 | .int _,.str _ => true | .str _,.int _ => true | .bl _,.str _ => true | .str _,.bl _ => true
 | _,_ => false
def rEq:R2:=fun x y H Q => scal x y = true∧Q (.bl (decide (x = y))) H
def rNe:R2:=fun x y H Q => scal x y = true∧Q (.bl (!decide (x = y))) H
theorem dec_int {i j:Int}:decide (V.int i = V.int j) = (i == j):=by
 rw [Bool.eq_iff_iff]
 simp
theorem dec_bl {i j:Bool}:decide (V.bl i = V.bl j) = (i == j):=by
 rw [Bool.eq_iff_iff]
 simp
theorem dec_str {i j:Str}:decide (V.str i = V.str j) = (i == j):=by
 rw [Bool.eq_iff_iff]
 simp
theorem dec_byt {i j:Array UInt8}:decide (V.byt i = V.byt j) = (i.toList == j.toList):=by
 rw [Bool.eq_iff_iff]
 cases i
 cases j
 simp
section
variable {X:Cx} {a b c:Expr} {ta tb tc:TE} {pos:Pos}
theorem fin_bl {pins:List (Addr × Obj)} {σ:St} {H:Hp} {s:Shared} {Q:VK} {k k':Bool} (I:Inv X pins σ H s) (q:Q (.bl k) H) (e:k = k'):EP X pins σ Q (.bool k') s:=by
 subst e
 exact ⟨.bl k,H,I,rfl,q⟩
theorem op_eq:OpR X (compareOp .Eq) rEq:=by
 intro pins s σ H x y v u Q I rx ry h
 obtain ⟨hs,q⟩:=h
 cases x with
 | non =>
  cases rx
  cases y with
  | non => cases ry; exact PySem.EqNone.eq_none_none (fin_bl I q (by simp))
  | bl j => cases ry; exact PySem.EqNone.eq_none_bool (fin_bl I q (by simp))
  | int j => obtain ⟨t',rfl⟩:=ry; exact PySem.EqNone.eq_none_int (fin_bl I q (by simp))
  | str j => obtain ⟨t',rfl⟩:=ry; exact PySem.EqNone.eq_none_str (fin_bl I q (by simp))
  | _ => exact absurd (show false = true from hs) Bool.false_ne_true
 | bl i =>
  cases rx
  cases y with
  | non => cases ry; exact PySem.EqNone.eq_bool_none (fin_bl I q (by simp))
  | bl j => cases ry; exact eq_bool (fin_bl I q dec_bl)
  | str j => obtain ⟨t',rfl⟩:=ry; exact PySem.EqMixed.eq_bool_str (fin_bl I q (by simp))
  | _ => exact absurd (show false = true from hs) Bool.false_ne_true
 | int i =>
  obtain ⟨t,rfl⟩:=rx
  cases y with
  | non => cases ry; exact PySem.EqNone.eq_int_none (fin_bl I q (by simp))
  | int j => obtain ⟨t',rfl⟩:=ry; exact eq_int (fin_bl I q dec_int)
  | str j => obtain ⟨t',rfl⟩:=ry; exact PySem.EqMixed.eq_int_str (fin_bl I q (by simp))
  | _ => exact absurd (show false = true from hs) Bool.false_ne_true
 | str i =>
  obtain ⟨t,rfl⟩:=rx
  cases y with
  | non => cases ry; exact PySem.EqNone.eq_str_none (fin_bl I q (by simp))
  | bl j => cases ry; exact PySem.EqMixed.eq_str_bool (fin_bl I q (by simp))
  | int j => obtain ⟨t',rfl⟩:=ry; exact PySem.EqMixed.eq_str_int (fin_bl I q (by simp))
  | str j => obtain ⟨t',rfl⟩:=ry; exact eq_str (fin_bl I q dec_str)
  | _ => exact absurd (show false = true from hs) Bool.false_ne_true
 | byt i =>
  obtain ⟨t,rfl⟩:=rx
  cases y with
  | byt j => obtain ⟨t',rfl⟩:=ry; exact PySem.W.eq_bytes (fin_bl I q dec_byt)
  | _ => exact absurd (show false = true from hs) Bool.false_ne_true
 | _ => cases y <;> exact absurd (show false = true from hs) Bool.false_ne_true
theorem op_ne:OpR X (compareOp .NotEq) rNe:=by
 intro pins s σ H x y v u Q I rx ry h
 obtain ⟨hs,q⟩:=h
 cases x with
 | non =>
  cases rx
  cases y with
  | non => cases ry; exact PySem.EqNone.ne_none_none (fin_bl I q (by simp))
  | bl j => cases ry; exact PySem.EqNone.ne_none_bool (fin_bl I q (by simp))
  | int j => obtain ⟨t',rfl⟩:=ry; exact PySem.EqNone.ne_none_int (fin_bl I q (by simp))
  | str j => obtain ⟨t',rfl⟩:=ry; exact PySem.EqNone.ne_none_str (fin_bl I q (by simp))
  | _ => exact absurd (show false = true from hs) Bool.false_ne_true
 | bl i =>
  cases rx
  cases y with
  | non => cases ry; exact PySem.EqNone.ne_bool_none (fin_bl I q (by simp))
  | bl j => cases ry; exact ne_bool (fin_bl I q (congrArg not dec_bl))
  | str j => obtain ⟨t',rfl⟩:=ry; exact PySem.EqMixed.ne_bool_str (fin_bl I q (by simp))
  | _ => exact absurd (show false = true from hs) Bool.false_ne_true
 | int i =>
  obtain ⟨t,rfl⟩:=rx
  cases y with
  | non => cases ry; exact PySem.EqNone.ne_int_none (fin_bl I q (by simp))
  | int j => obtain ⟨t',rfl⟩:=ry; exact ne_int (fin_bl I q (congrArg not dec_int))
  | str j => obtain ⟨t',rfl⟩:=ry; exact PySem.EqMixed.ne_int_str (fin_bl I q (by simp))
  | _ => exact absurd (show false = true from hs) Bool.false_ne_true
 | str i =>
  obtain ⟨t,rfl⟩:=rx
  cases y with
  | non => cases ry; exact PySem.EqNone.ne_str_none (fin_bl I q (by simp))
  | bl j => cases ry; exact PySem.EqMixed.ne_str_bool (fin_bl I q (by simp))
  | int j => obtain ⟨t',rfl⟩:=ry; exact PySem.EqMixed.ne_str_int (fin_bl I q (by simp))
  | str j => obtain ⟨t',rfl⟩:=ry; exact ne_str (fin_bl I q (congrArg not dec_str))
  | _ => exact absurd (show false = true from hs) Bool.false_ne_true
 | byt i =>
  obtain ⟨t,rfl⟩:=rx
  cases y with
  | byt j => obtain ⟨t',rfl⟩:=ry; exact PySem.W.ne_bytes (fin_bl I q (congrArg not dec_byt))
  | _ => exact absurd (show false = true from hs) Bool.false_ne_true
 | _ => cases y <;> exact absurd (show false = true from hs) Bool.false_ne_true
theorem op_lt:OpR X (compareOp .Lt) (rI0 fun i j => .bl (decide (i < j))):=opB0 fun _ _ _ _ _ _ _ q => lt_int q
theorem op_le:OpR X (compareOp .LtE) (rI0 fun i j => .bl (decide (i≤j))):=opB0 fun _ _ _ _ _ _ _ q => le_int q
theorem op_gt:OpR X (compareOp .Gt) (rI0 fun i j => .bl (decide (j < i))):=opB0 fun _ _ _ _ _ _ _ q => gt_int q
theorem nomark (b:Expr) {op:CmpOp} (h:op≠.In:=by decide) (h2:op≠.NotIn:=by decide):behindInMarks op b = false:=by
 have e1:(op == CmpOp.In) = false:=by cases op <;> first | rfl | exact absurd rfl h
 have e2:(op == CmpOp.NotIn) = false:=by cases op <;> first | rfl | exact absurd rfl h2
 cases b <;> simp [behindInMarks,e1,e2]
theorem pe_cmpR {op:CmpOp} {r:R2} (ho:OpR X (compareOp op) r) (ha:PE X a ta) (hb:PE X b tb) (hm:behindInMarks op b = false):PE X (.Compare a [op] [b] pos) (tOp r ta tb):=by
 intro pins s σ H Q I h
 exact wpAny_Compare1 (binT ha hb I h fun v u s2 x y H2 I2 rx ry q => ho pins s2 σ H2 x y v u Q I2 rx ry q) hm
def tTest (t:TE):TT:=fun σ H Q => t σ H fun x H' => ∃ k,x = .bl k∧Q k H'
theorem pt_cmpR {op:CmpOp} {r:R2} (ho:OpR X (compareOp op) r) (ha:PE X a ta) (hb:PE X b tb) (hm:behindInMarks op b = false):PT X (.Compare a [op] [b] pos) (tTest (tOp r ta tb)):=by
 intro pins s σ H Q I h
 refine wpAny_isTrue_Compare1 (thn (ha pins s σ H _ I h) fun v s1 ⟨x,H1,I1,r1,q1⟩ => thn (hb pins s1 σ H1 _ I1 q1) fun u s2 ⟨y,H2,I2,r2,q2⟩ =>
  thn (ho pins s2 σ H2 x y v u _ I2 r1 r2 q2) fun c s3 ⟨z,H3,I3,r3,k,e,q3⟩ => ?_) hm
 subst e
 cases r3
 exact wpAny_truthy_bool ⟨H3,I3,q3⟩
def tChain (r r':R2) (ta tb tc:TE):TE:=fun σ H Q => ta σ H fun x H1 => tb σ H1 fun y H2 => r x y H2 fun z H3 => ∃ k,z = .bl k ∧
 (if k = true then tc σ H3 fun w' H4 => r' y w' H4 Q else Q (.bl false) H3)
theorem pe_chain {op op':CmpOp} {r r':R2} (ho:OpR X (compareOp op) r) (ho':OpR X (compareOp op') r') (ha:PE X a ta) (hb:PE X b tb) (hc:PE X c tc)
  (hm:lastMarks [op,op'] [b,c] = false:=by with_unfolding_all rfl):PE X (.Compare a [op,op'] [b,c] pos) (tChain r r' ta tb tc):=by
 intro pins s σ H Q I h
 refine Compare_chain (thn (ha pins s σ H _ I h) fun v s1 ⟨x,H1,I1,r1,q1⟩ => chain_link (thn (hb pins s1 σ H1 _ I1 q1) fun u s2 ⟨y,H2,I2,r2,q2⟩ =>
  thn (ho pins s2 σ H2 x y v u _ I2 r1 r2 q2) fun d s3 ⟨z,H3,I3,r3,k,e,q3⟩ => ?_)) hm
 subst e
 cases r3
 refine wpAny_truthy_bool ?_
 cases k with
 | false => exact ite_ff ⟨.bl false,H3,I3,rfl,q3⟩
 | true => exact ite_tt (chain_last (thn (hc pins s3 σ H3 _ I3 q3) fun w' s4 ⟨z',H4,I4,r4,q4⟩ => ho' pins s4 σ H4 y z' u w' Q I4 r2 r4 q4))
def TruV (K:PySem.W.Frag) (x:V) (H:Hp) (k:Bool):Prop :=
 match x with
 | .non => k = false
 | .bl b => k = b
 | .int i => k = (i != 0)
 | .str y => y.length≤sizeLine∧k = ((y.length:Int) != 0)
 | .byt y => y.size≤sizeLine∧k = ((y.size:Int) != 0)
 | .ref p => (∃ xs,SqL K H p xs∧k = !xs.isEmpty)∨(∃ xs,SqT K H p xs∧k = !xs.isEmpty)∨∃ kvs,H p = some (.dK kvs)∧k = !kvs.isEmpty
 | _ => False
theorem isEmpty_kv {κ:Type} {kvs:List (κ × V)} {vs:List (κ × Value)} (r:KV kvs vs):(!vs.isEmpty) = !kvs.isEmpty:=by
 cases r <;> rfl
theorem isEmpty_of {xs:List V} {its:List Value} (r:Vals xs its):(!its.toArray.isEmpty) = !xs.isEmpty:=by
 cases r <;> simp
theorem line63:(sizeLine:Nat) < 2 ^ 63:=by rw [sizeLine_eq]; decide
theorem tru_ok:TruR X (fun x H Q => ∃ k,TruV X.K x H k∧Q k H):=by
 intro pins s σ H x v Q I rx h
 obtain ⟨k,e,q⟩:=h
 have hl:=line63
 have hs:sizeLine = 16777216:=sizeLine_eq
 cases x with
 | non =>
  cases rx
  have e':k = false:=e
  subst e'
  exact truthy_none ⟨H,I,q⟩
 | bl b =>
  cases rx
  have e':k = b:=e
  subst e'
  exact wpAny_truthy_bool ⟨H,I,q⟩
 | int i =>
  obtain ⟨t,rfl⟩:=rx
  have e':k = (i != 0):=e
  subst e'
  exact PySem.P.truthy_int ⟨H,I,q⟩
 | str y =>
  obtain ⟨t,rfl⟩:=rx
  obtain ⟨hy,e'⟩:y.length≤sizeLine∧k = ((y.length:Int) != 0):=e
  subst e'
  exact PySem.P.truthy_str (by omega) ⟨H,I.tok _,q⟩
 | byt y =>
  obtain ⟨t,rfl⟩:=rx
  obtain ⟨hy,e'⟩:y.size≤sizeLine∧k = ((y.size:Int) != 0):=e
  subst e'
  exact PySem.W.truthy_bytes (by omega) ⟨H,I.tok _,q⟩
 | ref p =>
  cases rx
  have e':(∃ xs,SqL X.K H p xs∧k = !xs.isEmpty)∨(∃ xs,SqT X.K H p xs∧k = !xs.isEmpty)∨∃ kvs,H p = some (.dK kvs)∧k = !kvs.isEmpty:=e
  rcases e' with ⟨xs,hx,e'⟩ | ⟨xs,hx,e'⟩ | ⟨kvs,hx,e'⟩
  ·subst e'
   obtain ⟨its,r,pl,hz⟩:=I.list hx
   have hlen:=r.length
   exact wpAny_truthy_list pl.isList (by simp only [List.size_toArray]; omega) ⟨H,I.tok _,by rw [isEmpty_of r]; exact q⟩
  ·subst e'
   obtain ⟨its,r,pl,hz⟩:=I.tuple hx
   have hlen:=r.length
   exact truthy_tuple pl (by simp only [List.size_toArray]; omega) ⟨H,I.tok _,by rw [isEmpty_of r]; exact q⟩
  ·subst e'
   obtain ⟨hz,hS,vs,r,m⟩:kvs.length≤sizeLine∧(p == sysModules) = false∧∃ vs,KV kvs vs∧s.heap.DictOf (mixKind X.prog X.w) p vs:=I.hok p _ hx
   have hlen:kvs.length = vs.length:=Paired.length r
   exact wpAny_truthy_dict hS m (by omega) ⟨H,I.tok _,by rw [isEmpty_kv r]; exact q⟩
 | _ => exact (show False from e).elim
theorem pt_truth (ha:PE X a ta) (he:∀ whole,isTrue a X.env whole = (do let v ← whole; standAt a.pos; holding [v] (truthy v))) :
  PT X a (fun σ H Q => ta σ H fun x H' => ∃ k,TruV X.K x H' k∧Q k H'):=by
 intro pins s σ H Q I h
 exact isTrue_plain (thn (ha pins s σ H _ I h) fun v s1 ⟨x,H1,I1,r1,q1⟩ => tru_ok pins s1 σ H1 x v Q I1 r1 q1) (he _)
theorem vals1 {x:V} {us:List Value} (r:Vals [x] us):∃ u,us = [u]∧RelV x u:=by
 cases r with
 | cons r1 r2 => cases r2; exact ⟨_,rfl,r1⟩
theorem vals2 {x y:V} {us:List Value} (r:Vals [x,y] us):∃ u w',us = [u,w']∧RelV x u∧RelV y w':=by
 cases r with
 | cons r1 r2 =>
  cases r2 with
  | cons r3 r4 => cases r4; exact ⟨_,_,rfl,r1,r3⟩
theorem call_int1:CallR X (.type "int") (fun xs H Q => (∃ i,xs = [.int i]∧Q (.int i) H)∨∃ k,xs = [.bl k]∧Q (.int (if k then 1 else 0)) H):=by
 intro pins s σ H xs us Q I r h
 rcases h with ⟨i,rfl,q⟩ | ⟨k,rfl,q⟩
 ·obtain ⟨u,rfl,t,rfl⟩:=vals1 r
  exact call_int_int ⟨.int i,H,I,⟨_,rfl⟩,q⟩
 ·obtain ⟨u,rfl,r1⟩:=vals1 r
  cases r1
  exact call_int_bool ⟨.int (if k then 1 else 0),H,I.tok _,⟨_,rfl⟩,q⟩
theorem call_divmod:CallR X (.builtin "divmod") (fun xs H Q => ∃ i j,xs = [.int i,.int j]∧CDiv i j∧∀ p,H p = none→Q (.ref p) (upd H p (.tup [.int (i / j),.int (i % j)]))):=by
 intro pins s σ H xs us Q I r h
 obtain ⟨i,j,rfl,⟨h1,h2⟩,q⟩:=h
 obtain ⟨u,w',rfl,⟨t,rfl⟩,⟨t',rfl⟩⟩:=vals2 r
 refine divmod_int (by omega) ?_ (.inl (PyProof.noPylong_small (by omega)))
 rw [Int.fdiv_eq_ediv_of_nonneg i (by omega),Int.fmod_eq_emod_of_nonneg i (by omega)]
 have hn:H s.heap.objs.size = none:=I.hok.fresh (Nat.le_refl _)
 refine ⟨.ref s.heap.objs.size,_,?_,rfl,q _ hn⟩
 refine I.laid (fun b o e => Heap.get?_push_of_some _ e) (Nat.le_refl _) ⟨by simp only [List.length_cons,List.length_nil]; rw [sizeLine_eq]; decide,[.int (i / j) s.toks,.int (i % j) (s.toks + 1)],.cons ⟨_,rfl⟩ (.cons ⟨_,rfl⟩ .nil),?_⟩
 exact ⟨_,Heap.get?_push_size s.heap rfl,rfl,0,rfl⟩
end
end L2
namespace L2
open PySem PySem.Spec PyProof.Rows
structure ObjM (h:Heap) (x dx C:Addr) (mA:Str→Option Value):Prop where
 obj:h.get? x = some (PySem.W.instObj C dx)
 ns:h.Ns1 dx mA
 ne:dx≠x
theorem lookIn_ns {h:Heap} {dx:Addr} {mA:Str→Option Value} (n:h.Ns1 dx mA):∃ od,h.get? dx = some od∧∀ name,PySem.W.lookIn name od = some (mA name):=by
 obtain ⟨o,es,ep,ho,hd,hk,_,hm⟩:=n
 refine ⟨o,ho,fun name => ?_⟩
 have e:=hm name
 unfold nsFind findBy at e
 rw [← Array.find?_toList] at e
 unfold PySem.W.lookIn
 rw [hd]
 dsimp only
 split
 ·rename_i y q
  rw [q] at e
  exact congrArg some e
 ·rename_i q
  rw [q] at e
  have a:es.toList.any (·.refKey) = false:=by
   rw [List.any_eq_false]
   intro y hy
   obtain ⟨z,t,hkey⟩:=hk y (Array.mem_toList_iff.mp hy)
   simp [DictEntry.refKey,hkey]
  have a':¬ es.toList.any (·.refKey) = true:=by rw [a]; exact Bool.false_ne_true
  rw [if_neg a']
  exact congrArg some e
theorem ObjM.look {h:Heap} {x dx C:Addr} {mA:Str→Option Value} (I:ObjM h x dx C mA):∃ od,PySem.W.InstAt h x (PySem.W.instObj C dx) C (some od)∧∀ name,PySem.W.lookIn name od = some (mA name) :=
 let ⟨od,ho,hl⟩:=lookIn_ns I.ns
 ⟨od,⟨I.obj,rfl,rfl,ho⟩,hl⟩
section
variable {prog:Program} {w:World} {A:Around} {E:Value→Shared→Prop} {s:Shared} {K:PySem.W.Frag} {x dx C f:Addr} {mA:Str→Option Value} {name:Str} {v:Value}
end
theorem RelO.some_of {v:V} {o:Option Value} (r:RelO (some v) o):∃ u,o = some u∧RelV v u:=by
 cases o with
 | none => exact (show False from r).elim
 | some u => exact ⟨u,rfl,r⟩
section
variable {P:Program} {w:World} {H H':Hp} {h h':Heap} {a C dx:Addr} {fs fs':List (Str × V)}
theorem ins_get (hok:HOk P w H h) (e:H a = some (.ins C dx fs)):∃ mA,ObjM h a dx C mA∧(∀ f,RelO (fs.lookup f) (mA f))∧PySem.Within mA (fs.map (·.1))∧fs.length≤1000∧H dx = some (.own a):=by
 obtain ⟨d,z,ne,ob,mA,n,r,q⟩:=(show ObjOk P w H h a (.ins C dx fs) from hok a _ e)
 exact ⟨mA,⟨ob,n,ne⟩,r,q,z,d⟩
end
structure Cls (K:PySem.W.Frag) (C:Addr):Prop where
 pg:PySem.W.plainGet K C Str.empty = true
 hd:PySem.W.hasDictIn K C = true
 po:PySem.W.plainOver K C = true
 sa:PySem.W.findIn K (.ref C) "__setattr__" = some (some (.builtin "object.__setattr__"))
theorem Cls.get {K:PySem.W.Frag} {C:Addr} (c:Cls K C) (f:Str):PySem.W.plainGet K C f = true:=c.pg
section
variable {X:Cx} {pins:List (Addr × Obj)} {σ:St} {H:Hp} {s:Shared} {a C dx:Addr} {fs:List (Str × V)} {f:Str} {v:V} {A:Around} {E:Value→Shared→Prop}
end
section
variable {X:Cx} {o e value:Expr} {f:Str} {pos pos' tpos:Pos} {ta tv:TE}
end
section
variable {X:Cx} {pins:List (Addr × Obj)} {σ:St} {H:Hp} {s:Shared} {A:Around} {E:Value→Shared→Prop} {Q:Value→Shared→Prop} {c:Value} {b:Bool}
inductive TyOf (K:PySem.W.Frag) (H:Hp):V→Value→Prop where
 | non:TyOf K H .non (.type "NoneType")
 | bl (x:Bool):TyOf K H (.bl x) (.type "bool")
 | int (i:Int):TyOf K H (.int i) (.type "int")
 | str (x:Str):TyOf K H (.str x) (.type "str")
 | flt (x:UInt64):TyOf K H (.flt x) (.type "float")
 | lst {a:Addr} {xs:List V} (e:H a = some (.lst xs)):TyOf K H (.ref a) (.type "list")
 | frz {a:Addr} {o:Obj} {xs:List V} (e:H a = some (.frz o (.lst xs))):TyOf K H (.ref a) (.type "list")
 | tup {a:Addr} {xs:List V} (e:H a = some (.tup xs)):TyOf K H (.ref a) (.type "tuple")
 | dK {a:Addr} {kvs:List (Key × V)} (e:H a = some (.dK kvs)):TyOf K H (.ref a) (.type "dict")
 | dT {a:Addr} {kvs:List (List Key × V)} (e:H a = some (.dT kvs)):TyOf K H (.ref a) (.type "dict")
 | ins {a C dx:Addr} {fs:List (Str × V)} (e:H a = some (.ins C dx fs)) (cl:Cls K C) (ha:PySem.W.findIn K (.ref C) "__class__" = some (some (.builtin "object.__class__")))
   (hn:PySem.W.specialIn K (.builtin "object.__class__") "__get__" = some (some (.builtin "getset_descriptor.__get__"))) (htk:PySem.W.takesIn K (.builtin "object.__class__") = some true)
   (hm:PySem.W.mroIn K C (.type "object") = some true):TyOf K H (.ref a) (.ref C)
theorem isinst_ok {x:V} {u t:Value} (I:Inv X pins σ H s) (rx:RelV x u) (ty:TyOf X.K H x t) (e:PySem.W.kitOne X.K t c = some b) (h:∀ tk,Q (.bool b) { s with toks:=tk }) :
  wpAny (model X.prog X.w) A (call (.builtin "isinstance") [u,c]) Q E s:=by
 cases ty with
 | non => cases (show u = Value.none from rx); exact PySem.W.kia_one PySem.W.kitx_none I.kIn True.intro e (fun z => nomatch z) h
 | bl y => cases (show u = Value.bool y from rx); exact PySem.W.kia_one PySem.W.kitx_bool I.kIn True.intro e (fun z => nomatch z) h
 | int i => obtain ⟨t,q⟩:=(show ∃ t,u = Value.int i t from rx); cases q; exact PySem.W.kia_one PySem.W.kitx_int I.kIn True.intro e (fun z => nomatch z) h
 | str y => obtain ⟨t,q⟩:=(show ∃ t,u = Value.str y t from rx); cases q; exact PySem.W.kia_one PySem.W.kitx_str I.kIn True.intro e (fun z => nomatch z) h
 | flt y => obtain ⟨t,q⟩:=(show ∃ t,u = Value.float y t from rx); cases q; exact PySem.W.kia_one PySem.W.kitx_float I.kIn True.intro e (fun z => nomatch z) h
 | @lst a xs ea =>
  cases (show u = Value.ref a from rx)
  obtain ⟨_,_,n,_,h1⟩:=(show ObjOk X.prog X.w H s.heap a (.lst xs) from I.hok a _ ea)
  exact PySem.W.kia_one PySem.W.kitx_list I.kIn ⟨_,h1,rfl⟩ e (fun z => nomatch z) h
 | @frz a ob xs ea =>
  cases (show u = Value.ref a from rx)
  obtain ⟨_,_,_,n,_,h1⟩:=(show ObjOk X.prog X.w H s.heap a (.frz ob (.lst xs)) from I.hok a _ ea)
  exact PySem.W.kia_one PySem.W.kitx_list I.kIn ⟨_,h1,rfl⟩ e (fun z => nomatch z) h
 | @tup a xs ea =>
  cases (show u = Value.ref a from rx)
  obtain ⟨_,_,_,p⟩:=(show ObjOk X.prog X.w H s.heap a (.tup xs) from I.hok a _ ea)
  obtain ⟨o,h1,h2,_⟩:=p
  exact PySem.W.kia_one PySem.W.kitx_tuple I.kIn ⟨o,h1,h2⟩ e (fun z => nomatch z) h
 | @dK a kvs ea =>
  cases (show u = Value.ref a from rx)
  obtain ⟨_,_,vs,_,p⟩:=(show ObjOk X.prog X.w H s.heap a (.dK kvs) from I.hok a _ ea)
  obtain ⟨o,es,ep,h1,h2,_⟩:=p
  exact PySem.W.kia_one PySem.W.kitx_dict I.kIn ⟨o,h1,h2.1⟩ e (fun z => nomatch z) h
 | @dT a kvs ea =>
  cases (show u = Value.ref a from rx)
  obtain ⟨_,_,xs,_,o,es,ep,h1,h2,_⟩:=(show ObjOk X.prog X.w H s.heap a (.dT kvs) from I.hok a _ ea)
  exact PySem.W.kia_one PySem.W.kitx_dict I.kIn ⟨o,h1,h2.1⟩ e (fun z => nomatch z) h
 | @ins a C dx fs ea cl ha hn htk hm =>
  cases (show u = Value.ref a from rx)
  obtain ⟨mA,O,_⟩:=ins_get I.hok ea
  obtain ⟨od,J,_⟩:=O.look
  exact PySem.W.kia_one (PySem.W.kitx_own (cl.get _) cl.hd ha hn htk hm) I.kIn J e (fun z => nomatch z) h
end
end L2
namespace L2
open PySem PySem.Spec PyProof.Rows
structure RoomC (c:Bool) (k:Nat) (A:Around):Prop where
 hd:c = true→A.handled = none
 dp:A.depth + 3 * k + 5 < recursionLimit
 un:A.units + 16 * k + 200 < cLine
abbrev Room:=RoomC true
theorem RoomC.mono {c c':Bool} {j k:Nat} {A:Around} (r:RoomC c k A) (h:j≤k) (hc:c' = true→c = true:=by decide):RoomC c' j A:=⟨fun z => r.hd (hc z),by have:=r.dp; omega,by have:=r.un; omega⟩
theorem RoomC.deeper {c:Bool} {k:Nat} {A:Around} (r:RoomC c (k + 1) A) (env:Env):RoomC c k (A.deeper env) :=
 ⟨r.hd,by have:=r.dp; show A.depth + 1 + 3 * k + 5 < _; omega,by have:=r.un; show A.units + 3 + 16 * k + 200 < _; omega⟩
theorem RoomC.depth {c:Bool} {k:Nat} {A:Around} (r:RoomC c k A):A.depth < recursionLimit:=by have:=r.dp; omega
theorem RoomC.units {c:Bool} {k:Nat} {A:Around} (r:RoomC c k A):A.units + 64 < cLine:=by have:=r.un; omega
theorem RoomC.units0 {c:Bool} {k:Nat} {A:Around} (r:RoomC c k A):A.units < cLine:=by have:=r.un; omega
def tNil:TA:=fun _ H Q => Q [] H
def tCons (ta:TE) (tr:TA):TA:=fun σ H Q => ta σ H fun x H1 => tr σ H1 fun xs H2 => Q (x :: xs) H2
section
variable {X:Cx} {e:Expr} {es:List Expr} {te:TE} {t:TA} {pos:Pos}
theorem pa_nil:PA X [] tNil:=fun _ _ _ _ H Q I h => Calls.spliced_nil ⟨[],H,I,.nil,h⟩
theorem pa_cons (ha:PE X e te) (hr:PA X es t) (hs:starEach (e :: es) X.env = (false,eval e X.env) :: starEach es X.env:=by rfl):PA X (e :: es) (tCons te t):=by
 intro pos pins s σ H Q I h
 rw [hs]
 show wpAny _ _ (spliced ((false,eval e X.env) :: backTo pos (starEach es X.env))) _ _ s
 refine Calls.spliced_cons (thn (ha pins s σ H _ I h) fun u s1 ⟨x,H1,I1,r1,q1⟩ => ?_)
 exact thn (hr pos pins s1 σ H1 _ I1 q1) fun us s2 ⟨xs,H2,I2,r2,q2⟩ => ⟨x :: xs,H2,I2,.cons r1 r2,q2⟩
def tTup (t:TA):TE:=fun σ H Q => t σ H fun xs H1 => xs.length≤sizeLine∧∀ p,H1 p = none→Q (.ref p) (upd H1 p (.tup xs))
def tLst (t:TA):TE:=fun σ H Q => t σ H fun xs H1 => xs.length≤sizeLine∧∀ p,H1 p = none→Q (.ref p) (upd H1 p (.lst xs))
theorem pe_tup {x1} (h:PA X es t):PE X (.Tuple es x1 pos) (tTup t):=by
 intro pins s σ H Q I hq
 refine wpAny_Tuple_spliced (thn (h pos pins s σ H _ I hq) fun us s1 ⟨xs,H1,I1,r,z,q⟩ => ⟨by rw [← r.length]; exact z,?_⟩)
 have hf:H1 s1.heap.objs.size = none:=I1.hok.fresh (Nat.le_refl _)
 refine ⟨.ref s1.heap.objs.size,upd H1 s1.heap.objs.size (.tup xs),I1.laid (t':=s1.toks) (fun b u e => Heap.get?_push_of_some _ e) (Nat.le_refl _) ?_,rfl,q _ hf⟩
 exact ⟨z,us,r,⟨_,Heap.get?_push_size _ rfl,rfl,_,rfl⟩⟩
theorem pe_lst (h:PA X es t):PE X (.List es pos) (tLst t):=by
 intro pins s σ H Q I hq
 refine wpAny_List_spliced (thn (h pos pins s σ H _ I hq) fun us s1 ⟨xs,H1,I1,r,z,q⟩ => ⟨by rw [← r.length]; exact z,?_⟩)
 have hf:H1 s1.heap.objs.size = none:=I1.hok.fresh (Nat.le_refl _)
 refine ⟨.ref s1.heap.objs.size,upd H1 s1.heap.objs.size (.lst xs),I1.laid (t':=s1.toks) (fun b u e => Heap.get?_push_of_some _ e) (Nat.le_refl _) ?_,rfl,q _ hf⟩
 exact ⟨z,us,0,r,Heap.get?_push_size _ rfl⟩
end
abbrev Sp:=List V→Hp→VK→XK→Prop
abbrev CXT:=List Env→Hp→Shared→XK→Value→Shared→Prop
structure Env0 (P:Program) (w:World) (K:PySem.W.Frag) (mg:Str→Option Value) (base:Heap) (A:Around) (outer:List Env) (s:Shared) (H:Hp):Prop where
 frames:A.frames = some outer
 mod:Mod K mg base
 bs:∀ b o,base.get? b = some o→s.heap.get? b = some o∧H b = none
 bsz:base.objs.size≤s.heap.objs.size
 funs:s.heap.FunFrames base outer
 frf:∀ b∈frs outer,H b = none
 hok:HOk P w H s.heap
 bare:AllBare s.gens
 hn:HdF A H
def CE (outer:List Env) (P:Program) (w:World) (H:Hp) (s:Shared) (Q:VK) (u:Value) (s':Shared):Prop :=
 ∃ v H',s'.os = s.os∧AllBare s'.gens∧Un (frs outer) [] H H' s.heap s'.heap∧HOk P w H' s'.heap∧RelV v u∧Q v H'
def CR (CX:CXT) (outer:List Env) (P:Program) (w:World) (H:Hp) (s:Shared) (Q:VK) (E:XK) (r:Result) (s':Shared):Prop :=
 match r with
 | .ok (.ret u) => CE outer P w H s Q u s'
 | .ok _ => False
 | .error e => CX outer H s E e s'
structure FnOk (P:Program) (w:World) (K:PySem.W.Frag) (mg:Str→Option Value) (base:Heap) (CX:CXT) (k:Nat) (f:Addr) (fd:FuncData) (ps:List Str) (sp:Sp) (c:Bool:=true):Prop where
 len:∀ vs H Q E,sp vs H Q E→vs.length = ps.length
 run:∀ (A:Around) (outer:List Env) (s:Shared) (H:Hp) (args:Args) (us:List Value) (vs:List V) (Q:VK) (E:XK),RoomC c k A→Env0 P w K mg base A outer s H→BindsTo s fd args (ps.zip us)→Vals vs us→sp vs H Q E →
  codeAny (model P w) A (.call (.ref f) args) (CR CX outer P w H s Q E) s
section
variable {X:Cx} {pins:List (Addr × Obj)} {σ:St} {H:Hp} {s s':Shared}
theorem Inv.env0 (I:Inv X pins σ H s):Env0 X.prog X.w X.K X.mg X.base X.A X.stack s H :=
 ⟨I.ok.frames,I.ok.mod,I.bs,Nat.le_trans I.ok.bsz I.sz,I.stack,I.stkFree,I.hok,I.bare,I.hn⟩
theorem Inv.after {Q:VK} {u:Value} (I:Inv X pins σ H s) (h:CE X.stack X.prog X.w H s Q u s'):EP X pins σ Q u s':=by
 obtain ⟨v,H',os,bare,un,hok,r,q⟩:=h
 obtain ⟨hh,g,d,t,os'⟩:=s'
 obtain rfl:os' = s.os:=os
 exact ⟨v,H',I.call (h':=hh) (g':=g) (d':=d) (t':=t) (ch:=[]) un hok bare (fun b z => absurd z (by simp)),r,q⟩
end
def tCall (sp:Sp) (dvs:List V) (E:XK) (t:TA):TE:=fun σ H Q => t σ H fun vs H1 => sp (vs ++ dvs) H1 Q E
def Binds (K:PySem.W.Frag) (fd:FuncData) (ps:List Str) (ds:List Value):Prop :=
 ∀ (s:Shared) (us:List Value),K.In s.heap→(us ++ ds).length = ps.length→BindsTo s fd ⟨us,[]⟩ (ps.zip (us ++ ds))
theorem Binds.all {K:PySem.W.Frag} {fd:FuncData} {ps:List Str} (h:∀ us:List Value,us.length = ps.length→bindArgs fd ⟨us,[]⟩ = pure (ps.zip us)):Binds K fd ps []:=fun s us _ hl => by
 rw [List.append_nil] at hl ⊢
 exact .of_eq (h us hl)
def Passes (CX:CXT) (X:Cx) (E:XK):Prop:=∀ (pins:List (Addr × Obj)) (σ:St) (H:Hp) (s:Shared) (e:Value) (s':Shared),Inv X pins σ H s→CX X.stack H s E e s'→X.xe e s'
section
variable {X:Cx} {CX:CXT} {k:Nat} {f C:Addr} {fd:FuncData} {ps:List Str} {sp:Sp} {dvs:List V} {ds:List Value} {E:XK} {x m:Str} {p pos apos:Pos} {e o:Expr} {es:List Expr} {ta:TE} {t:TA}
theorem run_fn {pins:List (Addr × Obj)} {σ:St} {H:Hp} {s:Shared} {Q:VK} {us:List Value} {vs:List V} {cm:Bool} (F:FnOk X.prog X.w X.K X.mg X.base CX k f fd ps sp cm) (hr:RoomC cm k X.A) (hb:Binds X.K fd ps ds) (hd:Vals dvs ds) (hx:Passes CX X E)
  (I:Inv X pins σ H s) (r:Vals vs us) (h:sp (vs ++ dvs) H Q E):wpAny (model X.prog X.w) X.A (call (.ref f) us) (EP X pins σ Q) X.xe s:=by
 have r2:Vals (vs ++ dvs) (us ++ ds):=r.append hd
 have hl:(us ++ ds).length = ps.length:=by rw [← r2.length]; exact F.len _ _ _ _ h
 refine wpAny_call (codeAny_mono (F.run X.A X.stack s H ⟨us,[]⟩ (us ++ ds) (vs ++ dvs) Q E hr I.env0 (hb s us I.kIn hl) r2 h) fun r s' hq => ?_)
 cases r with
 | error e => exact hx pins σ H s e s' I hq
 | ok fl =>
  cases fl with
  | ret u => exact I.after hq
  | next => exact False.elim hq
  | brk => exact False.elim hq
  | cont => exact False.elim hq
theorem pe_call {cm:Bool} (F:FnOk X.prog X.w X.K X.mg X.base CX k f fd ps sp cm) (hr:RoomC cm k X.A) (hg:Gl X x) (hm:X.mg x = some (.ref f)) (hk:PySem.W.keepIn X.K (.ref f) = true) (hb:Binds X.K fd ps ds) (hd:Vals dvs ds) (hx:Passes CX X E)
  (ha:PA X (e :: es) t) (hdb:(x == ("__debug__":Str)) = false:=by decide) (he:starEach (e :: es) X.env = (false,eval e X.env) :: starEach es X.env:=by rfl) (hpl:(backTo pos (starEach es X.env)).any (·.1) = false:=by rfl) :
  PE X (.Call (.Name x p) (e :: es) [] pos) (tCall sp dvs E t):=by
 intro pins s σ H Q I h
 refine wpAny_Call_Name_kw (ld_glob I hg hm ?_ hdb)
 refine PySem.W.callWith_K (h₀:=X.base) I.ok.mod.kin hk (thn (ha pos pins s σ H _ I h) fun us s1 ⟨vs,H1,I1,r,q⟩ => ⟨I1.kIn,?_⟩) he hpl
 exact run_fn F hr hb hd hx I1 r q
end
section
variable {X:Cx} {CX:CXT} {k:Nat} {f C:Addr} {fd:FuncData} {ps ks:List Str} {sp:Sp} {E:XK} {x m:Str} {p pos apos kpos:Pos} {e o:Expr} {es:List Expr} {kws:List Keyword} {te ta:TE} {t tk:TA} {nm:Option Str}
variable {g:List Value→List Value→List Value} {gV:List V→List V→List V}
end
structure FnScope (N P:List Str) (sc:Scope):Prop where
 kind:sc.kind = .function
 co:sc.isCoroutine = false
 gen:sc.isGenerator = false
 nd:N.Nodup
 pre:N.take P.length = P
 par:∀ x∈P,sc.names.lookup x = some .local∨sc.names.lookup x = some .cell
 nofree:∀ y∈sc.names,y.2≠.free
theorem bindL_out {kindOf:Str→Option NameKind} {x:Str}:∀ {binds:List (Str × Value)} {m:Str→Option Value},(∀ v,(x,v) ∉ binds)→bindL kindOf binds m x = m x
 | [],_,_ => rfl
 | (n,v) :: r,m,h => by
  unfold bindL
  rw [bindL_out fun w hw => h w (List.mem_cons_of_mem _ hw)]
  split
  ·have:x≠n:=by rintro rfl; exact h v List.mem_cons_self
   simp [this]
  ·rfl
theorem bindC_out {kindOf:Str→Option NameKind} {x:Str}:∀ {binds:List (Str × Value)} {m:Str→Option Value},(∀ v,(x,v) ∉ binds)→bindC kindOf binds m x = m x
 | [],_,_ => rfl
 | (n,v) :: r,m,h => by
  unfold bindC
  rw [bindC_out fun w hw => h w (List.mem_cons_of_mem _ hw)]
  split
  ·rfl
  ·have:x≠n:=by rintro rfl; exact h v List.mem_cons_self
   simp [this]
theorem bindL_get {kindOf:Str→Option NameKind} {x:Str} {v:Value}:∀ {P:List Str} {vs:List Value} {i:Nat} {m:Str→Option Value},P.Nodup→P[i]? = some x→vs[i]? = some v→kindOf x = some .local →
  bindL kindOf (P.zip vs) m x = some v
 | [],_,_,_,_,h,_,_ => by simp at h
 | _ :: _,[],_,_,_,_,h,_ => by simp at h
 | p :: P,w :: vs,0,m,nd,h1,h2,hk => by
  simp at h1 h2; subst h1; subst h2
  show bindL kindOf ((p,w) :: P.zip vs) m p = _
  unfold bindL
  rw [bindL_out fun v hv => (List.nodup_cons.mp nd).1 (List.of_mem_zip hv).1,if_pos hk]
  simp
 | p :: P,w :: vs,i + 1,m,nd,h1,h2,hk => by
  show bindL kindOf ((p,w) :: P.zip vs) m x = _
  unfold bindL
  exact bindL_get (i:=i) (List.nodup_cons.mp nd).2 (by simpa using h1) (by simpa using h2) hk
theorem bindC_get {kindOf:Str→Option NameKind} {x:Str} {v:Value}:∀ {P:List Str} {vs:List Value} {i:Nat} {m:Str→Option Value},P.Nodup→P[i]? = some x→vs[i]? = some v→kindOf x≠some .local →
  bindC kindOf (P.zip vs) m x = some v
 | [],_,_,_,_,h,_,_ => by simp at h
 | _ :: _,[],_,_,_,_,h,_ => by simp at h
 | p :: P,w :: vs,0,m,nd,h1,h2,hk => by
  simp at h1 h2; subst h1; subst h2
  show bindC kindOf ((p,w) :: P.zip vs) m p = _
  unfold bindC
  rw [bindC_out fun v hv => (List.nodup_cons.mp nd).1 (List.of_mem_zip hv).1,if_neg hk]
  simp
 | p :: P,w :: vs,i + 1,m,nd,h1,h2,hk => by
  show bindC kindOf ((p,w) :: P.zip vs) m x = _
  unfold bindC
  exact bindC_get (i:=i) (List.nodup_cons.mp nd).2 (by simpa using h1) (by simpa using h2) hk
def start (N:List Str) (vs:List V):St:=vs.map some ++ List.replicate (N.length - vs.length) none
def cxOf (CX:CXT) (P:Program) (w:World) (K:PySem.W.Frag) (mg:Str→Option Value) (base:Heap) (N:List Str) (qual:Str) (scope:Scope) (f:Addr) (cd:Value) (A:Around) (outer:List Env) (s:Shared) (H:Hp) (E:XK) (c:Bool:=true):Cx where
 prog:=P
 w:=w
 K:=K
 mg:=mg
 base:=base
 A:=A.deeper (envOfC qual scope s.heap.objs.size f cd)
 N:=N
 s₀:=s
 H₀:=H
 env:=envOfC qual scope s.heap.objs.size f cd
 outer:=outer
 stack:=envOfC qual scope s.heap.objs.size f cd :: outer
 ex:=[]
 calm:=c
 fn:=fun _ => true
 pn:=[]
 xe:=fun e s' => wpAny (model P w) (A.deeper (envOfC qual scope s.heap.objs.size f cd)) (leaving (envOfC qual scope s.heap.objs.size f cd) e) (fun _ s'' => CX outer H s E e s'') (fun e' s'' => CX outer H s E e' s'') s'
theorem cell_has {sc:Scope} {n:Nat} {x:Str} (h:sc.names.lookup x = some .cell):∃ c,(cellsFrom n sc.names []).lookup x = some c:=by
 have q:=PySem.W.cellsFrom_some sc.names n [] (.inl h)
 exact Option.isSome_iff_exists.mp q
theorem inv_start {CX:CXT} {P:Program} {w:World} {K:PySem.W.Frag} {mg:Str→Option Value} {base:Heap} {N ps:List Str} {qual:Str} {scope:Scope} {f:Addr} {cd:Value} {A:Around} {outer:List Env} {s s1:Shared} {H:Hp} {E:XK} {us:List Value} {vs:List V}
  {c:Bool} (S:FnScope N ps scope) (hd:c = true→A.handled = none) (e0:Env0 P w K mg base A outer s H) (hl:vs.length = ps.length) (r:Vals vs us)
  (x:InCallC s s.heap.objs.size (bindL (envOfC qual scope s.heap.objs.size f cd).kindOf (ps.zip us) fun _ => none) (cellsFrom (s.heap.objs.size + 1) scope.names []) (bindC (envOfC qual scope s.heap.objs.size f cd).kindOf (ps.zip us) fun _ => none) s1) :
  Inv (cxOf CX P w K mg base N qual scope f cd A outer s H E c) [] (start N vs) H s1:=by
 have hpl:ps.length≤N.length:=by have:=congrArg List.length S.pre; rw [List.length_take] at this; omega
 obtain ⟨h1,tk,rfl,hk⟩:=x.done
 have noA:∀ b:Addr,b ∉ (cxOf CX P w K mg base N qual scope f cd A outer s H E c).ex:=fun b z => absurd (show b∈([]:List Addr) from z) (by simp)
 refine ⟨⟨e0.mod,S.kind,rfl,rfl,Nat.le_refl _,fun y z c h1 h2 => ?_,fun y hy => ?_,fun y c' _ h => ?_,hd,Around.frames_deeper e0.frames,.inr ⟨rfl,rfl⟩,fun b z => absurd z (noA b),e0.bs,e0.bsz,fun b _ _ => noA b,fun b z => absurd z (noA b),e0.funs,e0.frf⟩,
  rfl,e0.bare,Un.kept hk,⟨_,x.toInCall.ns,fun i y v h1 h2 h3 => ?_⟩,fun y c h => ⟨_,x.cell y c h⟩,e0.hok.fresh (Nat.le_refl _),fun y c h => ?_,fun p hp => absurd (show p∈([]:List (Addr × Obj)) from hp) (by simp),e0.hok.kept hk,?_,e0.hn⟩
 ·exact name_of_addr x.apart (PySem.mem_of_lookup h1) (PySem.mem_of_lookup h2)
 ·have hy:scope.names.lookup y = some .cell∨scope.names.lookup y = some .free:=hy
  rcases hy with hy | hy
  ·exact cell_has hy
  ·exact absurd rfl (S.nofree _ (PySem.mem_of_lookup hy))
 ·exact Nat.le_of_lt (x.above y c' (PySem.mem_of_lookup h))
 ·have hi:i < vs.length:=by
   unfold start at h2
   by_cases hi:i < vs.length
   ·exact hi
   ·rw [List.getElem?_append_right (by simpa using hi)] at h2
    rw [List.getElem?_replicate] at h2
    split at h2 <;> cases h2
  have ha:vs[i]? = some v:=by
   unfold start at h2
   rw [List.getElem?_append_left (by simpa using hi),List.getElem?_map] at h2
   cases e:vs[i]? with
   | none => rw [e] at h2; cases h2
   | some a => rw [e] at h2; cases h2; rfl
  obtain ⟨u,hu,rv⟩:=r.get ha
  have hp:ps[i]? = some y:=by
   rw [← S.pre,List.getElem?_take_of_lt (by omega)]; exact h1
  have ndP:ps.Nodup:=by rw [← S.pre]; exact S.nd.sublist (List.take_sublist _ _)
  refine ⟨u,rv,?_⟩
  rcases S.par y (List.mem_of_getElem? hp) with k | k
  ·exact .inl ⟨k,bindL_get ndP hp hu k⟩
  ·obtain ⟨c,e⟩:=cell_has (n:=s.heap.objs.size + 1) k
   refine .inr ⟨.inl k,c,e,?_⟩
   have q:=x.cell y c e
   rw [bindC_get ndP hp hu (by show scope.names.lookup y≠_; rw [k]; decide)] at q
   exact q
 ·exact e0.hok.fresh (Nat.le_of_lt (x.above y c (PySem.mem_of_lookup h)))
 ·unfold start
  show _ = N.length
  rw [List.length_append,List.length_map,List.length_replicate]
  omega
theorem fn_of {CX:CXT} {P:Program} {w:World} {K:PySem.W.Frag} {mg:Str→Option Value} {base:Heap} {k:Nat} {f:Addr} {name qual:Str} {params:Arguments} {body:List Stmt} {scope:Scope} {dV kV doc pm cdv ct oc:Value} {an od:Option Addr}
  {osl:Array (Option Value)} {N ps:List Str} {sp:Sp} {c:Bool} (lk:K.lookup f = some ⟨oc,od,.func (PySem.W.fnOf name qual params body scope dV kV doc pm an cdv ct),osl⟩) (hcd:PySem.W.codeIn K cdv qual = true) (S:FnScope N ps scope)
  (len:∀ vs H Q E,sp vs H Q E→vs.length = ps.length)
  (hbody:∀ (A:Around) (outer:List Env) (s:Shared) (H:Hp) (vs:List V) (Q:VK) (E:XK),RoomC c k (A.deeper (envOfC qual scope s.heap.objs.size f cdv))→sp vs H Q E →
   ∃ t,PSs (cxOf CX P w K mg base N qual scope f cdv A outer s H E c) body t∧t { nx:=fun _ H' => Q .non H',rt:=Q } (start N vs) H) :
  FnOk P w K mg base CX (k + 1) f (PySem.W.fnOf name qual params body scope dV kV doc pm an cdv ct) ps sp c:=by
 refine ⟨len,fun A outer s H args us vs Q E hr e0 hb r hsp => ?_⟩
 have hl:=len _ _ _ _ hsp
 have KX:K.In s.heap:=e0.mod.kin.keeps fun b o e => (e0.bs b o e).1
 have lim:s.heap.NoLimit:=e0.mod.nolimit.keeps fun b o e => (e0.bs b o e).1
 have hkind:∀ y∈ps.zip us,scope.names.lookup y.1 = some .local∨(scope.names.lookup y.1 = some .cell∧((cellsFrom (s.heap.objs.size + 1) scope.names []).lookup y.1).isSome = true):=fun ⟨n,v⟩ hy => by
  rcases S.par n (List.of_mem_zip hy).1 with q | q
  ·exact .inl q
  ·exact .inr ⟨q,PySem.W.cellsFrom_some _ _ _ (.inl q)⟩
 refine codeAny_call_function hr.depth (KX _ _ lk) rfl S.co S.gen rfl (PySem.W.codeRec_of KX hcd) (hb _ _ _ _ ?_)
 refine wpAny_newFunctionEnv_cells S.kind hkind fun env he s1 x => ?_
 subst he
 refine ⟨lim.keeps x.toInCall.keep,codeAny_func ?_⟩
 obtain ⟨t,ht,hq⟩:=hbody A outer s H vs Q E (hr.deeper _) hsp
 have I:Inv (cxOf CX P w K mg base N qual scope f cdv A outer s H E c) [] (start N vs) H s1:=inv_start S hr.hd e0 hl r x
 refine wpAny_mono (ht [] s1 (start N vs) H _ I hq) (fun fl s' hs => ?_) fun e s' hs => hs
 have fin:∀ {σ':St} {H':Hp} {v:V} {u:Value},Inv (cxOf CX P w K mg base N qual scope f cdv A outer s H E c) [] σ' H' s'→RelV v u→Q v H'→CE outer P w H s Q u s' :=
  fun {σ' H' v u} J rv q => ⟨v,H',J.os,J.bare,J.base,J.hok,rv,q⟩
 cases fl with
 | ret u =>
  obtain ⟨v,σ',H',J,rv,q⟩:=hs
  exact fin J rv q
 | next =>
  obtain ⟨σ',H',J,q⟩:=hs
  exact fin (v:=V.non) (u:=Value.none) J rfl q
 | brk =>
  obtain ⟨_,_,_,q⟩:=hs
  exact False.elim q
 | cont =>
  obtain ⟨_,_,_,q⟩:=hs
  exact False.elim q
end L2
namespace L2
open PySem PySem.Spec PyProof.Rows
section
variable {X:Cx} {x:Str} {p pos:Pos} {e:Expr} {es:List Expr} {t:TA} {id T:String} {r:List V→Hp→VK→Prop}
def tCB (r:List V→Hp→VK→Prop) (t:TA):TE:=fun σ H Q => t σ H fun vs H1 => r vs H1 Q
theorem pe_callB (hc:CallR X (.builtin id) r) (hg:Gl X x) (hm:X.mg x = none) (hv:bootBuiltins x = some (.builtin id)) (ha:PA X (e :: es) t) (hn:x≠"__name__":=by decide) (hdb:(x == ("__debug__":Str)) = false:=by decide)
  (he:starEach (e :: es) X.env = (false,eval e X.env) :: starEach es X.env:=by rfl) (hpl:(backTo pos (starEach es X.env)).any (·.1) = false:=by rfl):PE X (.Call (.Name x p) (e :: es) [] pos) (tCB r t):=by
 intro pins s σ H Q I h
 refine wpAny_Call_Name_kw (ld_blt I hg hm hv ?_ hn hdb)
 exact PyProof.Rows.callWith_builtin1 (thn (ha pos pins s σ H _ I h) fun us s1 ⟨vs,H1,I1,r1,q1⟩ => hc pins s1 σ H1 vs us Q I1 r1 q1) he hpl
theorem pe_callTy (hc:CallR X (.type T) r) (hg:Gl X x) (hm:X.mg x = none) (hv:bootBuiltins x = some (.type T)) (ha:PA X (e :: es) t) (hn:x≠"__name__":=by decide) (hdb:(x == ("__debug__":Str)) = false:=by decide)
  (he:starEach (e :: es) X.env = (false,eval e X.env) :: starEach es X.env:=by rfl) (hpl:(backTo pos (starEach es X.env)).any (·.1) = false:=by rfl):PE X (.Call (.Name x p) (e :: es) [] pos) (tCB r t):=by
 intro pins s σ H Q I h
 refine wpAny_Call_Name_kw (ld_blt I hg hm hv ?_ hn hdb)
 exact PyProof.Rows.callWith_type1 (thn (ha pos pins s σ H _ I h) fun us s1 ⟨vs,H1,I1,r1,q1⟩ => hc pins s1 σ H1 vs us Q I1 r1 q1) he hpl
end
end L2
namespace HT
open PySem PyProof.Rows
section
open PySem.SeqAt
open PySem.AutoSeq1 (wpAny_loadPart')
open PySem.MeetsSeq PySem.MeetsSeq2 PySem.MeetsSeq3
end
section
variable {prog:Program} {w:World} {A:Around} {E:Value→Shared→Prop} {s:Shared}
theorem cat_tup {t b:Addr} {vs ws:List Value} {Q:Value→Shared→Prop} (ht:IsTup s.heap t vs.toArray) (hb:IsTup s.heap b ws.toArray) (hv:vs≠[])
  (h1:ws = []→Q (.ref t) s) (h2:ws≠[]→Q (.ref s.heap.objs.size) { s with heap:=s.heap.push { cls:=.type "tuple",data:=.seq (vs ++ ws).toArray } })
  (hsz:vs.length + ws.length≤sizeLine):wpAny (model prog w) A (binaryOp .Add (.ref t) (.ref b)) Q E s:=by
 obtain ⟨⟨cls,dd,data,sl⟩,ho,hc,n,hd⟩:=id ht
 obtain ⟨⟨cls2,dd2,data2,sl2⟩,ho2,hc2,n2,hd2⟩:=id hb
 simp only at hc hd hc2 hd2
 subst hc hd hc2 hd2
 have e:vs.toArray ++ ws.toArray = (vs ++ ws).toArray:=by simp
 by_cases hw:ws = []
 ·exact concat_meets ⟨_,ho,rfl⟩ ⟨_,ho2,rfl⟩ noFill_tuple_add seq_tuple_add PySem.F.slot_tuple_add PySem.F.entry_tuple_add (PySem.F.args_tuple_add_2 _ _)
   (tuple_addW1 t b vs.toArray ws.toArray n n2 dd dd2 sl sl2 (by simpa using hv) (by simp [hw])) ⟨ho,ho2,h1 hw⟩
 ·refine concat_meets ⟨_,ho,rfl⟩ ⟨_,ho2,rfl⟩ noFill_tuple_add seq_tuple_add PySem.F.slot_tuple_add PySem.F.entry_tuple_add (PySem.F.args_tuple_add_2 _ _)
   (tuple_addW2 t b vs.toArray ws.toArray n n2 dd dd2 sl sl2 (by simpa using hv) (by simpa using hw) (by rw [List.size_toArray,List.size_toArray]; exact hsz)) ⟨ho,ho2,?_⟩
  rw [e]
  exact h2 hw
def sIx (n d:Nat):Option Int→Nat
 | none => d
 | some v => if v < 0 then (v + (n:Int)).toNat else min v.toNat n
end
end HT
namespace L2
open PySem PySem.Spec PyProof.Rows
theorem intsAre_of {ns:List Int}:∀ {us:List Value},Vals (ns.map V.int) us→IntsAre us ns:=by
 induction ns with
 | nil => intro us r; rw [List.map_nil] at r; cases r; exact .nil
 | cons n ns ih =>
  intro us r
  rw [List.map_cons] at r
  cases r with
  | cons r1 r2 =>
   obtain ⟨t,e⟩:=r1
   subst e
   exact .cons n t (ih r2)
section
variable {X:Cx} {e:Expr} {te:TE} {lo hi:Option Expr} {tl th:TO} {pos p2:Pos}
def SlR (X:Cx) (r:V→Option Int→Option Int→Hp→VK→Prop):Prop :=
 ∀ (pins:List (Addr × Obj)) (s:Shared) (σ:St) (H:Hp) (x:V) (v vl vu:Value) (lo hi:Option Int) (sl:Addr) (Q:VK),Inv X pins σ H s→RelV x v→s.heap.IsSliceOf sl vl vu .none→IsPart vl lo→IsPart vu hi→r x lo hi H Q →
  ∃ T id,typeLookup (.type T) "__getitem__" = pure (some (.builtin id))∧s.TypeIs v T∧wpAny (model X.prog X.w) X.A (getItem v (.ref sl)) (EP X pins σ Q) X.xe s
def cutV (xs:List V) (lo hi:Option Int):List V:=(xs.drop (HT.sIx xs.length 0 lo)).take (HT.sIx xs.length xs.length hi - HT.sIx xs.length 0 lo)
theorem cutV_length (xs:List V) (lo hi:Option Int):(cutV xs lo hi).length≤xs.length:=by
 unfold cutV
 rw [List.length_take,List.length_drop]
 omega
def rCatT (K:PySem.W.Frag):R2:=fun x y H Q => ∃ a b xs ys,x = .ref a∧y = .ref b∧SqT K H a xs∧SqT K H b ys∧xs≠[]∧xs.length + ys.length≤sizeLine ∧
 (ys = []→Q (.ref a) H)∧(ys≠[]→∀ p,H p = none→Q (.ref p) (upd H p (.tup (xs ++ ys))))
theorem Vals.nil_iff {xs:List V} {us:List Value} (r:Vals xs us):us = []↔xs = []:=by
 cases r with
 | nil => simp
 | cons _ _ => simp
theorem op_catT:OpR X (binaryOp .Add) (rCatT X.K):=by
 intro pins s σ H x y v u Q I rx ry h
 obtain ⟨a,b,xs,ys,rfl,rfl,ha,hb,hx,hz,q1,q2⟩:=h
 cases rx
 cases ry
 obtain ⟨its,r1,p1,_⟩:=I.tuple ha
 obtain ⟨its2,r2,p2,_⟩:=I.tuple hb
 refine HT.cat_tup p1 p2 (fun z => hx (r1.nil_iff.mp z)) (fun z => ⟨.ref a,H,I,rfl,q1 (r2.nil_iff.mp z)⟩) (fun z => ?_) (by rw [← r1.length,← r2.length]; exact hz)
 refine ⟨.ref s.heap.objs.size,_,I.laid (t':=s.toks) (o:=.tup (xs ++ ys)) (fun b ob q => Heap.get?_push_of_some _ q) (Nat.le_refl _) ?_,rfl,q2 (fun w => z (r2.nil_iff.mpr w)) _ (I.hok.fresh (Nat.le_refl _))⟩
 exact ⟨by rw [List.length_append]; exact hz,_,r1.append r2,IsTup.new _ _⟩
end
end L2
namespace L2
open PySem PySem.Spec PyProof.Rows
def ixN (n:Nat) (i:Int):Option Nat:=if 0≤i then (if i < n then some i.toNat else none) else if -(n:Int)≤i then some (i + n).toNat else none
def atI {α:Type} (xs:List α) (i:Int):Option α:=(ixN xs.length i).bind fun j => xs[j]?
theorem ixN_seq {n:Nat} {i:Int} {j:Nat} (h:ixN n i = some j):seqIndex? i n = some j∧j < n∧-(n:Int)≤i∧i < n:=by
 unfold ixN at h
 by_cases h0:0≤i
 ·rw [if_pos h0] at h
  by_cases h1:i < n
  ·rw [if_pos h1] at h
   have e:i.toNat = j:=Option.some.inj h
   exact ⟨by rw [seqIndex_of h0 h1,e],by omega,by omega,h1⟩
  ·rw [if_neg h1] at h; cases h
 ·rw [if_neg h0] at h
  by_cases h1:-(n:Int)≤i
  ·rw [if_pos h1] at h
   have e:(i + n).toNat = j:=Option.some.inj h
   exact ⟨by rw [seqIndex_neg (by omega) h1,e],by omega,h1,by omega⟩
  ·rw [if_neg h1] at h; cases h
theorem atI_get {α:Type} {xs:List α} {i:Int} {v:α} (h:atI xs i = some v):∃ j,seqIndex? i xs.length = some j∧xs[j]? = some v∧j < xs.length∧-(xs.length:Int)≤i∧i < xs.length:=by
 unfold atI at h
 cases e:ixN xs.length i with
 | none => rw [e] at h; cases h
 | some j =>
  rw [e] at h
  obtain ⟨h1,h2,h3,h4⟩:=ixN_seq e
  exact ⟨j,h1,h,h2,h3,h4⟩
theorem atI_nat {α:Type} {xs:List α} {j:Nat} {v:α} (h:xs[j]? = some v):atI xs (j:Int) = some v:=by
 have hj:j < xs.length:=(List.getElem?_eq_some_iff.mp h).1
 have e:ixN xs.length (j:Int) = some j:=by
  unfold ixN
  rw [if_pos (by omega),if_pos (by omega)]; simp
 unfold atI; rw [e]; exact h
theorem atI_last {α:Type} (xs:List α) (v:α):atI (xs ++ [v]) (-1) = some v:=by
 have hl:(xs ++ [v]).length = xs.length + 1:=by simp
 have e:ixN (xs ++ [v]).length (-1) = some xs.length:=by
  unfold ixN
  rw [hl,if_neg (by decide),if_pos (by omega)]
  congr 1
  omega
 unfold atI
 rw [e]
 show (xs ++ [v])[xs.length]? = some v
 simp
def PlainIx (b:Expr):Prop:=∀ o i,subscripted b false o i = operate [o,i] (getItem o i)
def IxR (X:Cx) (r:R2):Prop :=
 ∀ (value slice:Expr) (pins:List (Addr × Obj)) (s:Shared) (σ:St) (H:Hp) (x y:V) (v u:Value) (Q:VK),Inv X pins σ H s→RelV x v→RelV y u→r x y H Q →
  subscripted slice false v u = operate [v,u] (getItem v u)→wpAny (model X.prog X.w) X.A (subscriptTail value slice v u) (EP X pins σ Q) X.xe s
def MtR (X:Cx) (id:String) (r:V→List V→Hp→VK→Prop):Prop :=
 ∀ (pins:List (Addr × Obj)) (s:Shared) (σ:St) (H:Hp) (x:V) (xs:List V) (v:Value) (us:List Value) (Q:VK),Inv X pins σ H s→RelV x v→Vals xs us→r x xs H Q →
  wpAny (model X.prog X.w) X.A (call (.builtin id) (v :: us)) (EP X pins σ Q) X.xe s
section
variable {X:Cx} {a b:Expr} {ta tb:TE} {pos:Pos}
theorem pe_ix {r:R2} (hr:IxR X r) (ha:PE X a ta) (hb:PE X b tb) (hs:PlainIx b):PE X (.Subscript a b pos) (tOp r ta tb):=by
 intro pins s σ H Q I h
 exact Subscript_ (binT ha hb I h fun v u s2 x y H2 I2 rx ry q => hr a b pins s2 σ H2 x y v u Q I2 rx ry q (hs _ _))
def rIxL (K:PySem.W.Frag):R2:=fun x y H Q => ∃ p xs i v,x = .ref p∧y = .int i∧SqL K H p xs∧atI xs i = some v∧Q v H
def rIxT (K:PySem.W.Frag):R2:=fun x y H Q => ∃ p xs i v,x = .ref p∧y = .int i∧SqT K H p xs∧atI xs i = some v∧Q v H
theorem ix_list:IxR X (rIxL X.K):=by
 intro value slice pins s σ H x y v u Q I rx ry h hs
 obtain ⟨p,xs,i,z,rfl,rfl,hq,he,q⟩:=h
 cases rx
 obtain ⟨t,rfl⟩:=ry
 obtain ⟨its,r,pl,hz⟩:=I.list hq
 obtain ⟨j,h1,h2,h3,h4,h5⟩:=atI_get he
 obtain ⟨w,ew,rw'⟩:=r.get h2
 have hl:=r.length
 have hn:=line63
 have fin:EP X pins σ Q w s:=⟨z,H,I,rw',q⟩
 by_cases h0:0≤i
 ·have hj:i.toNat = j:=by
   rw [seqIndex_of h0 h5] at h1
   exact Option.some.inj h1
  exact item_listR pl.isList h0 (by omega) (by rw [hj]; simpa using ew) fin hs
 ·have hj:(i + (its.toArray.size:Int)).toNat = j:=by
   rw [seqIndex_neg (by omega) h4] at h1
   rw [List.size_toArray,← hl]
   exact Option.some.inj h1
  exact subscriptTail_builtinR (x:=w) pl.isList.typeIs slot_list_getitem.lookup
   (wpAny_getItem_list_neg (Q:=fun r s' => r = w∧EP X pins σ Q r s') pl.isList (by omega) (by rw [List.size_toArray] <;> omega) (by omega) (by rw [hj]; simpa using ew) ⟨rfl,fin⟩) hs
theorem ix_tup:IxR X (rIxT X.K):=by
 intro value slice pins s σ H x y v u Q I rx ry h hs
 obtain ⟨p,xs,i,z,rfl,rfl,hq,he,q⟩:=h
 cases rx
 obtain ⟨t,rfl⟩:=ry
 obtain ⟨its,r,pl,hz⟩:=I.tuple hq
 obtain ⟨j,h1,h2,h3,h4,h5⟩:=atI_get he
 obtain ⟨w,ew,rw'⟩:=r.get h2
 have hl:=r.length
 have hn:=line63
 have fin:EP X pins σ Q w s:=⟨z,H,I,rw',q⟩
 exact subscriptTail_builtinR (x:=w) pl.typeIs slot_tuple_getitem.lookup
  (getItem_tuple (j:=j) (Q:=fun r s' => r = w∧EP X pins σ Q r s') pl (by omega) (by omega) (by rw [List.size_toArray,← hl]; exact h1) (by simpa using ew) ⟨rfl,fin⟩) hs
theorem slice_bounds (lo hi:Option Int) (n:Nat):(sliceBounds lo hi none n).1 = ((HT.sIx n 0 lo:Nat):Int)∧(sliceBounds lo hi none n).2.1 = ((HT.sIx n n hi:Nat):Int)∧(sliceBounds lo hi none n).2.2 = 1:=by
 refine ⟨?_,?_,rfl⟩
 ·cases lo with
  | none => simp [sliceBounds,HT.sIx]
  | some i =>
   simp only [sliceBounds,HT.sIx,Option.getD_none,show (1:Int) > 0 by decide,if_true]
   by_cases h:i < 0
   ·simp only [h,if_true] <;> omega
   ·simp only [h,if_false] <;> omega
 ·cases hi with
  | none => simp [sliceBounds,HT.sIx]
  | some i =>
   simp only [sliceBounds,HT.sIx,Option.getD_none,show (1:Int) > 0 by decide,if_true]
   by_cases h:i < 0
   ·simp only [h,if_true] <;> omega
   ·simp only [h,if_false] <;> omega
theorem slicePick_cut (its:List Value) (lo hi:Option Int):slicePick its.toArray lo hi none = ((its.drop (HT.sIx its.length 0 lo)).take (HT.sIx its.length its.length hi - HT.sIx its.length 0 lo)).toArray:=by
 obtain ⟨h1,h2,h3⟩:=slice_bounds lo hi its.toArray.size
 unfold slicePick
 rw [h1,h2,h3]
 simp only [sliceRange_one,pick_run,List.size_toArray] <;> rfl
def rSlL (K:PySem.W.Frag):V→Option Int→Option Int→Hp→VK→Prop:=fun x lo hi H Q => ∃ a xs,x = .ref a∧SqL K H a xs∧∀ p,H p = none→Q (.ref p) (upd H p (.lst (cutV xs lo hi)))
theorem sl_list:SlR X (rSlL X.K):=by
 intro pins s σ H x v vl vu lo hi sl Q I rx hs pl pu h
 obtain ⟨a,xs,rfl,hx,q⟩:=h
 cases rx
 obtain ⟨its,r,ht,hz⟩:=I.list hx
 have hlen:=r.length
 refine ⟨"list",_,slot_list_getitem.lookup,ht.isList.typeIs,?_⟩
 refine wpAny_getItem_list_slice ht.isList hs pl pu .none (by simp) ?_ (by rw [List.size_toArray] <;> omega)
 rw [slicePick_cut,← hlen]
 refine ⟨.ref s.heap.objs.size,_,I.laid (t':=s.toks) (o:=.lst (cutV xs lo hi)) (fun b ob q => Heap.get?_push_of_some _ q) (Nat.le_refl _) ?_,rfl,q _ (I.hok.fresh (Nat.le_refl _))⟩
 exact ⟨Nat.le_trans (cutV_length xs lo hi) hz,_,0,(r.drop (HT.sIx xs.length 0 lo)).take (HT.sIx xs.length xs.length hi - HT.sIx xs.length 0 lo),Heap.get?_push_size _ rfl⟩
def flatV:V→Bool
 | .non => true
 | .bl _ => true
 | .int _ => true
 | .str _ => true
 | _ => false
def eqV:V→V→Bool
 | .non,.non => true
 | .bl a,.bl b => a == b
 | .bl a,.int b => (if a then 1 else 0) == b
 | .int a,.bl b => a == (if b then 1 else 0)
 | .int a,.int b => a == b
 | .str a,.str b => a == b
 | _,_ => false
theorem eqAt_V {A:Around} {s:Shared} {y x:V} {u v:Value} (ry:RelV y u) (rx:RelV x v) (fy:flatV y = true) (fx:flatV x = true):SeqAt.EqAt A s u v (eqV y x):=by
 cases y with
 | non =>
  cases ry
  cases x with
  | non => cases rx; exact SeqAt.EqAt.same _
  | bl b => cases rx; exact SeqAt.EqAt.none_bool b
  | int b => obtain ⟨t,rfl⟩:=rx; exact SeqAt.EqAt.none_int b t
  | str b => obtain ⟨t,rfl⟩:=rx; exact SeqAt.EqAt.none_str b t
  | _ => exact absurd (show false = true from fx) Bool.false_ne_true
 | bl a =>
  cases ry
  cases x with
  | non => cases rx; exact SeqAt.EqAt.bool_none a
  | bl b => cases rx; exact SeqAt.EqAt.bool_bool a b
  | int b => obtain ⟨t,rfl⟩:=rx; exact SeqAt.EqAt.bool_int a b t
  | str b => obtain ⟨t,rfl⟩:=rx; exact SeqAt.EqAt.bool_str a b t
  | _ => exact absurd (show false = true from fx) Bool.false_ne_true
 | int a =>
  obtain ⟨t',rfl⟩:=ry
  cases x with
  | non => cases rx; exact SeqAt.EqAt.int_none a t'
  | bl b => cases rx; exact SeqAt.EqAt.int_bool a t' b
  | int b => obtain ⟨t,rfl⟩:=rx; exact SeqAt.EqAt.int_int a t' b t
  | str b => obtain ⟨t,rfl⟩:=rx; exact SeqAt.EqAt.int_str a t' b t
  | _ => exact absurd (show false = true from fx) Bool.false_ne_true
 | str a =>
  obtain ⟨t',rfl⟩:=ry
  cases x with
  | non => cases rx; exact SeqAt.EqAt.str_none a t'
  | bl b => cases rx; exact SeqAt.EqAt.str_bool a t' b
  | int b => obtain ⟨t,rfl⟩:=rx; exact SeqAt.EqAt.str_int a t' b t
  | str b => obtain ⟨t,rfl⟩:=rx; exact SeqAt.EqAt.str_str a t' b t
  | _ => exact absurd (show false = true from fx) Bool.false_ne_true
 | _ => exact absurd (show false = true from fy) Bool.false_ne_true
def eqU (x:V) (u:Value):Bool:=match u with
 | .none => eqV .non x
 | .bool b => eqV (.bl b) x
 | .int i _ => eqV (.int i) x
 | .str z _ => eqV (.str z) x
 | _ => false
theorem eqU_of {x y:V} {u:Value} (r:RelV y u) (f:flatV y = true):eqU x u = eqV y x:=by
 cases y with
 | non => cases r; rfl
 | bl b => cases r; rfl
 | int i => obtain ⟨t,rfl⟩:=r; rfl
 | str z => obtain ⟨t,rfl⟩:=r; rfl
 | _ => exact absurd (show false = true from f) Bool.false_ne_true
theorem any_eqU {x:V}:∀ {xs:List V} {us:List Value},Vals xs us→xs.all flatV = true→us.any (eqU x) = xs.any fun y => eqV y x
 | _,_,.nil,_ => rfl
 | y :: xs,u :: us,.cons r t,f => by
  rw [List.all_cons,Bool.and_eq_true] at f
  rw [List.any_cons,List.any_cons,eqU_of r f.1,any_eqU t f.2]
theorem mem_eqAt {A:Around} {s:Shared} {x:V} {v:Value} (rx:RelV x v) (fx:flatV x = true):∀ {xs:List V} {us:List Value},Vals xs us→xs.all flatV = true→∀ u∈us,SeqAt.EqAt A s u v (eqU x u)
 | _,_,.nil,_ => fun u hu => by cases hu
 | y :: xs,u :: us,.cons r t,f => fun u' hu => by
  rw [List.all_cons,Bool.and_eq_true] at f
  rcases List.mem_cons.mp hu with rfl | hu
  ·rw [eqU_of r f.1]; exact eqAt_V r rx f.1 fx
  ·exact mem_eqAt rx fx t f.2 u' hu
def inV (x:V) (xs:List V):Bool:=xs.any fun y => eqV y x
def rIn (K:PySem.W.Frag) (neg:Bool):R2:=fun x y H Q => ∃ p xs,y = .ref p∧(SqL K H p xs∨SqT K H p xs)∧flatV x = true∧xs.all flatV = true∧Q (.bl (if neg then !inV x xs else inV x xs)) H
theorem op_in_seq:OpR X (compareOp .In) (rIn X.K false):=by
 intro pins s σ H x y v u Q I rx ry h
 obtain ⟨p,xs,rfl,hq,fx,fs,q⟩:=h
 cases ry
 rcases hq with hq | hq
 ·obtain ⟨its,r,pl,hz⟩:=I.list hq
  refine SeqAt.in_listAt (eqU x) pl.isList (fun w hw => mem_eqAt rx fx r fs w (by simpa using hw)) ⟨.bl _,H,I,rfl,?_⟩
  rw [show its.toArray.any (eqU x) = its.any (eqU x) by simp,any_eqU r fs]
  exact q
 ·obtain ⟨its,r,pl,hz⟩:=I.tuple hq
  refine SeqAt.in_tupleAt (eqU x) pl (fun w hw => mem_eqAt rx fx r fs w (by simpa using hw)) ⟨.bl _,H,I,rfl,?_⟩
  rw [show its.toArray.any (eqU x) = its.any (eqU x) by simp,any_eqU r fs]
  exact q
theorem call_len_seq:CallR X (.builtin "len") (fun xs H Q => ∃ p ys,xs = [.ref p]∧(SqL X.K H p ys∨SqT X.K H p ys)∧Q (.int ys.length) H):=by
 intro pins s σ H xs us Q I r h
 obtain ⟨p,ys,rfl,hq,q⟩:=h
 obtain ⟨u,rfl,rx⟩:=vals1 r
 cases rx
 have hn:=line63
 rcases hq with hq | hq
 ·obtain ⟨its,r',pl,hz⟩:=I.list hq
  have hlen:=r'.length
  exact Calls.call_len_list pl.isList (by simp only [List.size_toArray] <;> omega) ⟨.int ys.length,H,I.tok _,⟨s.toks + 1,by rw [List.size_toArray,hlen]⟩,q⟩
 ·obtain ⟨its,r',pl,hz⟩:=I.tuple hq
  have hlen:=r'.length
  exact len_tuple pl (by simp only [List.size_toArray] <;> omega) ⟨.int ys.length,H,I.tok _,⟨s.toks + 1,by rw [List.size_toArray,hlen]⟩,q⟩
theorem call_list_of:CallR X (.type "list") (fun xs H Q => ∃ p ys,xs = [.ref p]∧(SqL X.K H p ys∨SqT X.K H p ys)∧∀ l,H l = none→Q (.ref l) (upd H l (.lst ys))):=by
 intro pins s σ H xs us Q I r h
 obtain ⟨p,ys,rfl,hq,q⟩:=h
 obtain ⟨u,rfl,rx⟩:=vals1 r
 cases rx
 have fin:∀ (its:List Value),Vals ys its→ys.length≤sizeLine→∀ (h':Heap) (c':Nat),(∀ b o',s.heap.get? b = some o'→h'.get? b = some o') →
   h'.get? s.heap.objs.size = some { cls:=.type "list",dict:=none,data:=.seq its.toArray c',slots:=#[] }→EP X pins σ Q (.ref s.heap.objs.size) { s with heap:=h' }:=fun its r' hz h' c' kp e =>
  ⟨.ref s.heap.objs.size,_,I.laid (t':=s.toks) kp (Nat.le_refl _) (show ObjOk X.prog X.w _ h' _ (.lst ys) from ⟨hz,its,c',r',e⟩),rfl,q _ (I.hok.fresh (Nat.le_refl _))⟩
 rcases hq with hq | hq
 ·obtain ⟨its,r',pl,hz⟩:=I.list hq
  have hlen:=r'.length
  obtain ⟨o,ho,hc,n,hd⟩:=pl.isList
  exact call_list_seq p (.inl rfl) ho hc hd (fun h' c' kp e => fin its r' hz h' c' kp e) (by simp only [List.size_toArray] <;> omega)
 ·obtain ⟨its,r',pl,hz⟩:=I.tuple hq
  have hlen:=r'.length
  obtain ⟨o,ho,hc,n,hd⟩:=pl
  exact call_list_seq p (.inr rfl) ho hc hd (fun h' c' kp e => fin its r' hz h' c' kp e) (by simp only [List.size_toArray] <;> omega)
def tyV (K:PySem.W.Frag) (T:String) (x:V) (H:Hp):Prop:=match x with
 | .str _ => T = "str"
 | .int _ => T = "int"
 | .ref p => (T = "list"∧∃ xs,SqL K H p xs)∨(T = "tuple"∧∃ o,K.lookup p = some o∧o.cls = .type "tuple"∧o.dict = none) ∨
   (T = "dict"∧((∃ kvs,H p = some (.dK kvs))∨∃ kvs,H p = some (.dT kvs)))∨(T = "set"∧∃ S n,H p = some (.set S n))
 | _ => False
theorem tyV_is {pins:List (Addr × Obj)} {σ:St} {H:Hp} {s:Shared} {T:String} {x:V} {v:Value} (I:Inv X pins σ H s) (r:RelV x v) (ty:tyV X.K T x H) :
  s.TypeIs v T∧∀ a,v = .ref a→∃ ob,s.heap.get? a = some ob∧ob.dict = none:=by
 cases x with
 | str z =>
  obtain ⟨t,rfl⟩:=r
  cases (show T = "str" from ty)
  exact ⟨typeIs_str s z t,fun _ e => nomatch e⟩
 | int i =>
  obtain ⟨t,rfl⟩:=r
  cases (show T = "int" from ty)
  exact ⟨typeIs_int s i t,fun _ e => nomatch e⟩
 | ref p =>
  cases r
  rcases ty with ⟨rfl,xs,hq⟩ | ⟨rfl,o,hk,hc,hd⟩ | ⟨rfl,hk⟩ | ⟨rfl,S,n,hk⟩
  ·obtain ⟨its,_,pl,_⟩:=I.list hq
   refine ⟨pl.isList.typeIs,fun a e => ?_⟩
   cases e
   obtain ⟨o,n,e,c,hd,_⟩:=pl
   exact ⟨o,e,hd⟩
  ·refine ⟨⟨o,I.kIn p o hk,hc⟩,fun a e => ?_⟩
   cases e
   exact ⟨o,I.kIn _ o hk,hd⟩
  ·have z:∃ o,s.heap.get? p = some o∧o.ExactDict:=by
    rcases hk with ⟨kvs,hk⟩ | ⟨kvs,hk⟩
    ·obtain ⟨_,_,_,_,o,_,_,e,ex,_⟩:=I.hok p _ hk
     exact ⟨o,e,ex⟩
    ·obtain ⟨_,_,_,_,o,_,_,e,ex,_⟩:=I.hok p _ hk
     exact ⟨o,e,ex⟩
   obtain ⟨o,e,ex⟩:=z
   refine ⟨⟨o,e,ex.1⟩,fun a e2 => ?_⟩
   cases e2
   exact ⟨o,e,ex.2.1⟩
  ·obtain ⟨o,_,_,_,e,ex,_⟩:=I.hok p _ hk
   refine ⟨⟨o,e,ex.1⟩,fun a e2 => ?_⟩
   cases e2
   exact ⟨o,e,ex.2.1⟩
 | _ => exact False.elim ty
def tBM0 (K:PySem.W.Frag) (T:String) (r:V→List V→Hp→VK→Prop) (to:TE):TE:=fun σ H Q => to σ H fun x H1 => tyV K T x H1∧r x [] H1 Q
def tBM (K:PySem.W.Frag) (T:String) (r:V→List V→Hp→VK→Prop) (to:TE) (t:TA):TE:=fun σ H Q => to σ H fun x H1 => tyV K T x H1∧t σ H1 fun xs H2 => r x xs H2 Q
variable {o e:Expr} {es:List Expr} {to:TE} {t:TA} {name:Str} {apos cpos:Pos} {T id:String} {r:V→List V→Hp→VK→Prop}
theorem pe_bm0 (pa:PlainAttrs T) (slot:Slot T name id) (hty:typeOf (.builtin id) = pure (.type "method_descriptor")) (hm:MtR X id r) (ho:PE X o to)
  (hbase:attributeBase o name X.env (eval o X.env) = eval o X.env:=by rfl) (hline:(apos.endLine == cpos.line) = true:=by rfl):PE X (.Call (.Attribute o name apos) [] [] cpos) (tBM0 X.K T r to):=by
 intro pins s σ H Q I h
 refine wpAny_Call_method0_late hbase hline (thn (ho pins s σ H _ I h) fun v s1 hh => ?_)
 obtain ⟨x,H1,I1,r1,ty,q1⟩:=hh
 obtain ⟨h1,h2⟩:=tyV_is I1 r1 ty
 exact ⟨T,id,pa,slot,hty,h1,h2,Calls.callWith_builtin rfl (PySem.evalArgs_none (hm pins s1 σ H1 x [] v [] Q I1 r1 .nil q1))⟩
theorem pe_bm (pa:PlainAttrs T) (slot:Slot T name id) (hty:typeOf (.builtin id) = pure (.type "method_descriptor")) (hm:MtR X id r) (ho:PE X o to) (ha:PA X (e :: es) t)
  (hbase:attributeBase o name X.env (eval o X.env) = eval o X.env:=by rfl)
  (hfew:((backTo cpos (starEach (e :: es) X.env)).all (fun x => !x.1) && (backToKw cpos (keywordEach [] X.env)).all (fun x => x.1.isSome)
   && decide ((e :: es).length + ([]:List Keyword).length + (if ([]:List Keyword).isEmpty then 0 else 1) < 30)) = true:=by rfl)
  (hline:(apos.endLine == cpos.line) = true:=by rfl) (hs:starEach (e :: es) X.env = (false,eval e X.env) :: starEach es X.env:=by rfl) (hplain:(backTo cpos (starEach es X.env)).any (·.1) = false:=by rfl) :
  PE X (.Call (.Attribute o name apos) (e :: es) [] cpos) (tBM X.K T r to t):=by
 intro pins s σ H Q I h
 refine wpAny_Call_method_late hbase hfew hline rfl (thn (ho pins s σ H _ I h) fun v s1 hh => ?_)
 obtain ⟨x,H1,I1,r1,ty,q1⟩:=hh
 obtain ⟨h1,h2⟩:=tyV_is I1 r1 ty
 refine ⟨T,id,pa,slot,hty,h1,h2,?_⟩
 have hA:=ha cpos pins s1 σ H1 _ I1 q1
 rw [hs] at hA ⊢
 refine Calls.callWith_builtin (by show (false || (backTo cpos (starEach es X.env)).any (·.1)) = false; rw [hplain] <;> rfl) (Calls.evalArgs_plain ?_)
 exact thn hA fun us s2 ⟨vs,H2,I2,r2,q2⟩ => hm pins s2 σ H2 x vs v us Q I2 r1 r2 q2
end
end L2
namespace L2
open PySem PySem.Spec PyProof.Rows
def MtM (X:Cx) (id:String) (r:V→List V→Hp→VK→Prop):Prop :=
 ∀ (pins:List (Addr × Obj)) (s:Shared) (σ:St) (H:Hp) (x:V) (xs:List V) (v:Value) (us:List Value) (Q:VK),Inv X pins σ H s→RelV x v→Vals xs us→r x xs H Q →
  wpAny (model X.prog X.w) X.A (call (.builtin id) (v :: us)) (EP X pins σ Q) X.xe s
theorem Vals.one:∀ {x:V} {us:List Value},Vals [x] us→∃ u,us = [u]∧RelV x u
 | _,_,.cons r .nil => ⟨_,rfl,r⟩
theorem Vals.zero:∀ {us:List Value},Vals [] us→us = []
 | _,.nil => rfl
theorem Vals.dropLast {xs:List V} {us:List Value} (h:Vals xs us):Vals xs.dropLast us.dropLast:=by
 induction h with
 | nil => exact .nil
 | cons r t ih =>
  cases t with
  | nil => exact .nil
  | cons q t' => exact .cons r ih
theorem Vals.reverse {xs:List V} {us:List Value} (h:Vals xs us):Vals xs.reverse us.reverse:=by
 induction h with
 | nil => exact .nil
 | cons r t ih => rw [List.reverse_cons,List.reverse_cons]; exact Vals.append ih (.cons r .nil)
theorem erase_last {α:Type} (l:List α):l.eraseIdx (l.length - 1) = l.dropLast:=by
 induction l with
 | nil => rfl
 | cons a r ih =>
  cases r with
  | nil => rfl
  | cons b r =>
   have e:(a :: b :: r).length - 1 = ((b :: r).length - 1) + 1:=by
    have h1:(a :: b :: r).length = r.length + 2:=rfl
    have h2:(b :: r).length = r.length + 1:=rfl
    omega
   rw [e,List.eraseIdx_cons_succ,ih]
   all_goals rfl
section
variable {X:Cx} {pins:List (Addr × Obj)} {σ:St} {H:Hp} {s:Shared} {l b:Addr} {xs ys zs:List V}
theorem Inv.lset {its its':List Value} {n:Nat} {f:Array Value→Array Value} {t':Nat} (I:Inv X pins σ H s) (hH:H l = some (.lst xs))
  (e:s.heap.get? l = some { cls:=.type "list",data:=.seq its.toArray n }) (hf:f its.toArray = its'.toArray) (hv:Vals ys its') (hz:ys.length≤sizeLine) :
  Inv X pins σ (upd H l (.lst ys)) { s with heap:=s.heap.update l (Obj.mapSeq f),toks:=t' }:=by
 have q:=PySem.IsL.update e f
 rw [hf] at q
 refine I.write (x:=l) (e:=l) (by rw [hH]; exact trivial) (.inl rfl) (fun b' u hb hu => (Heap.get?_update_other s.heap (Obj.mapSeq f) (Ne.symm hb)).trans hu) ⟨_,q⟩ ?_
 exact ⟨hz,its',_,hv,q⟩
theorem Inv.fresh (I:Inv X pins σ H s):H s.heap.objs.size = none:=I.hok.fresh (Nat.le_refl _)
theorem Inv.lstM (I:Inv X pins σ H s) (hH:H l = some (.lst xs)):xs.length≤sizeLine∧∃ (its:List Value) (n:Nat),Vals xs its∧xs.length = its.length∧s.heap.get? l = some { cls:=.type "list",data:=.seq its.toArray n }:=by
 obtain ⟨z,its,n,r,e⟩:=I.hok l _ hH
 exact ⟨z,its,n,r,r.length,e⟩
theorem notLongL {n:Nat} (h:n≤sizeLine):Builtin.List.listTooLong n = false:=by
 unfold Builtin.List.listTooLong
 exact decide_eq_false (by omega)
end
section
variable {X:Cx}
def rAppend:V→List V→Hp→VK→Prop:=fun x vs H Q => ∃ l xs y,x = .ref l∧vs = [y]∧H l = some (.lst xs)∧xs.length < sizeLine∧Q .non (upd H l (.lst (xs ++ [y])))
theorem mt_append:MtM X "list.append" rAppend:=by
 intro pins s σ H x vs v us Q I rx rv h
 obtain ⟨l,xs,y,rfl,rfl,hH,hz,q⟩:=h
 cases rx
 obtain ⟨u,rfl,ru⟩:=rv.one
 obtain ⟨z,its,n,r,hl,e⟩:=I.lstM hH
 refine call_meets F.slot_list_append ⟨_,e,rfl⟩ F.entry_list_append (F.args_list_append_2 _ _) (PySem.list_append l its.toArray n u (by rw [List.size_toArray]; omega)) ⟨e,?_⟩
 refine ⟨.non,_,I.lset (its':=its ++ [u]) hH e (by simp) (r.append (.cons ru .nil)) ?_,rfl,q⟩
 rw [List.length_append,List.length_singleton]
 omega
def rExtend:V→List V→Hp→VK→Prop:=fun x vs H Q => ∃ l b xs zs,x = .ref l∧vs = [.ref b]∧H l = some (.lst xs)∧H b = some (.lst zs)∧xs.length + zs.length≤sizeLine∧Q .non (upd H l (.lst (xs ++ zs)))
theorem mt_extend:MtM X "list.extend" rExtend:=by
 intro pins s σ H x vs v us Q I rx rv h
 obtain ⟨l,b,xs,zs,rfl,rfl,hH,hB,hz,q⟩:=h
 cases rx
 obtain ⟨u,rfl,ru⟩:=rv.one
 cases ru
 obtain ⟨z,its,n,r,hl,e⟩:=I.lstM hH
 obtain ⟨z2,its2,n2,r2,hl2,e2⟩:=I.lstM hB
 have hsz:its.toArray.size + its2.toArray.size≤sizeLine:=by rw [List.size_toArray,List.size_toArray]; omega
 have hlong:¬ (!its.toArray.isEmpty && Builtin.List.listTooLong (its.toArray.size + its2.toArray.size)) = true:=by
  rw [notLongL hsz,Bool.and_false]
  exact Bool.false_ne_true
 refine call_meets F.slot_list_extend ⟨_,e,rfl⟩ F.entry_list_extend (F.args_list_extend_2 _ _)
  (AutoSeq1.list_extend_list_list_0 l its.toArray n b its2.toArray n2 hlong (by rw [List.size_toArray]; omega) (by omega)) ⟨e,e2,?_⟩
 refine ⟨.non,_,I.lset (its':=its ++ its2) hH e (by simp) (r.append r2) ?_,rfl,q⟩
 rw [List.length_append]
 omega
def rPop:V→List V→Hp→VK→Prop:=fun x vs H Q => ∃ l xs y,x = .ref l∧vs = []∧H l = some (.lst xs)∧xs[xs.length - 1]? = some y∧Q y (upd H l (.lst xs.dropLast))
theorem mt_pop:MtM X "list.pop" rPop:=by
 intro pins s σ H x vs v us Q I rx rv h
 obtain ⟨l,xs,y,rfl,rfl,hH,hy,q⟩:=h
 cases rx
 have hus:=rv.zero
 subst hus
 obtain ⟨z,its,n,r,hl,e⟩:=I.lstM hH
 obtain ⟨u,hu,ru⟩:=r.get hy
 have hy':its.toArray[its.toArray.size - 1]? = some u:=by
  show its.toArray[its.length - 1]? = some u
  rw [← Array.getElem?_toList,← hl]
  exact hu
 refine call_meets F.slot_list_pop ⟨_,e,rfl⟩ F.entry_list_pop (F.args_list_pop_1 _) (MeetsSeq.list_pop_last l its.toArray n u hy' (by rw [List.size_toArray]; omega)) ⟨e,?_⟩
 refine ⟨y,_,I.lset (its':=its.dropLast) hH e ?_ r.dropLast ?_,ru,q⟩
 ·show its.toArray.eraseIdxIfInBounds (its.toArray.size - 1) = its.dropLast.toArray
  rw [List.size_toArray,List.eraseIdxIfInBounds_toArray,erase_last]
 ·rw [List.length_dropLast]
  omega
def rReverse:V→List V→Hp→VK→Prop:=fun x vs H Q => ∃ l xs,x = .ref l∧vs = []∧H l = some (.lst xs)∧Q .non (upd H l (.lst xs.reverse))
theorem mt_reverse:MtM X "list.reverse" rReverse:=by
 intro pins s σ H x vs v us Q I rx rv h
 obtain ⟨l,xs,rfl,rfl,hH,q⟩:=h
 cases rx
 have hus:=rv.zero
 subst hus
 obtain ⟨z,its,n,r,hl,e⟩:=I.lstM hH
 refine call_meets F.slot_list_reverse ⟨_,e,rfl⟩ F.entry_list_reverse (F.args_list_reverse_1 _) (AutoSeq1.list_reverse_list_0 l its.toArray n (by rw [List.size_toArray]; omega)) ⟨e,?_⟩
 refine ⟨.non,_,I.lset (its':=its.reverse) hH e (by simp) r.reverse ?_,rfl,q⟩
 rw [List.length_reverse]
 omega
def rClear:V→List V→Hp→VK→Prop:=fun x vs H Q => ∃ l xs,x = .ref l∧vs = []∧H l = some (.lst xs)∧Q .non (upd H l (.lst []))
theorem mt_clear:MtM X "list.clear" rClear:=by
 intro pins s σ H x vs v us Q I rx rv h
 obtain ⟨l,xs,rfl,rfl,hH,q⟩:=h
 cases rx
 have hus:=rv.zero
 subst hus
 obtain ⟨z,its,n,r,hl,e⟩:=I.lstM hH
 refine call_meets F.slot_list_clear ⟨_,e,rfl⟩ F.entry_list_clear (F.args_list_clear_1 _) (AutoSeq1.list_clear_list_0 l its.toArray n (by rw [List.size_toArray]; omega)) ⟨e,?_⟩
 exact ⟨.non,_,I.lset (its':=[]) (ys:=[]) hH e rfl .nil (Nat.zero_le _),rfl,q⟩
end
section
variable {prog:Program} {w:World} {A:Around} {E:Value→Shared→Prop} {s:Shared}
end
section
variable {X:Cx}
end
end L2
namespace Att
open PySem PySem.W PySem.Calls PyProof.Rows
theorem ints_of_wellAll {P:Params} {h:Heap}:∀ (ns:List Int) (vs:List Value),WellAll P h vs (ns.map WData.int)→IntsAre vs ns:=by
 intro ns
 induction ns with
 | nil =>
  intro vs w
  rw [List.map_nil] at w
  cases w
  exact .nil
 | cons n ns ih =>
  intro vs w
  rw [List.map_cons] at w
  cases w with
  | cons a b =>
   cases a
   exact .cons _ _ (ih _ b)
theorem script_of {l:OpenLaw} {n:Nat} (hn:l.most = some n) {P:Params} {h:Heap} {args:List WData} {vals:List Value}
  (hpre:l.row.toRowW.claim.pre args = true) (hwl:WellAll P h vals args) :
  ∃ a vs ns,vals = [Value.ref a]∧args = [WData.list (ns.map WData.int)]∧h.get? a = some { cls:=.type "list",data:=.seq vs.toArray }∧IntsAre vs ns∧ns.length≤n:=by
 have hsh:WShape.hasAll [] args [.list .int] = true:=(pre_splitW hpre).1
 have hc:l.pre.holds [] { args:=args } = true:=(pre_splitW hpre).2
 obtain ⟨d,r,rfl,h1,h2⟩:=hasAllW_cons hsh
 obtain rfl:=hasAllW_nil h2
 obtain ⟨xs,rfl,h3⟩:=hasW_list h1
 obtain ⟨ns,rfl⟩:=items_int h3
 have hlen:ns.length≤n:=by
  unfold OpenLaw.pre at hc
  have h4:(WTm.not (.lt (.lit (.int (n:Int))) (.len (.arg 0)))).holds [] { args:=[.list (ns.map .int)] } = true:=by
   have h4:=(holds_andW hc).1
   rw [hn] at h4
   exact h4
  have h5:=condW_of h4 (w_not (w_lt w_lit (w_len_list (w_arg rfl))))
  rw [List.length_map] at h5
  refine Nat.le_of_not_lt fun q => ?_
  have q':(n:Int) < ((ns.length:Nat):Int):=by omega
  first
   | (rw [decide_eq_true q'] at h5; exact absurd h5 (by decide))
   | (simp at h5; omega)
 cases hwl with
 | cons w1 w2 =>
  cases w2
  cases w1 with
  | list ho hall => exact ⟨_,_,ns,rfl,rfl,ho,ints_of_wellAll ns _ hall,hlen⟩
theorem post_true (l:OpenLaw) (args:List WData):l.row.toRowW.claim.post args (.bool true) args = true :=
 postW_of (r:=l.row.toRowW) (X:=(true == true))
  (show WShape.has [] (.bool true) .bool = true by first | rfl | decide | simp [WShape.has,WShape.arms,WShape.armsAll])
  (show (WTm.eq .res (.lit (.bool true))).value [] { args:=args,res:=some (.bool true),after:=args } = some (.bool (true == true)) from w_eq_bool (w_res rfl) w_lit) rfl
theorem attach_call {l:OpenLaw} {n:Nat} {q:Program} {loose:List Str} {XP:(Str→Option Value)→Heap→Prop} {YP:World→Heap→Prop} {d:DefRec}
  (hn:l.most = some n) (hdf:d.params.defaults = [])
  (call:∀ (w:World) (s₀ s₁:Shared) (mg mb:Str→Option Value) (fa:Addr) (o:Obj) (pm cd doc:Value) (a:Addr) (vs:List Value) (ns:List Int),
   Ground q loose [] XP w s₀ mg mb s₁.heap→YP w s₁.heap →
   s₁.heap.get? fa = some o→o.data = .func (docDef d.name d.params d.body d.scope pm cd doc)→s₁.heap.CodeRec cd d.name→mg d.name = some (.ref fa) →
   s₁.heap.get? a = some { cls:=.type "list",data:=.seq vs.toArray }→IntsAre vs ns→ns.length≤n→s₁.gens = #[] →
   codeAny (model l.prog w) callerA (.call (.ref fa) ⟨[.ref a],[]⟩) (fun r s' => r = .ok (.ret (.bool true))∧OldK s₁.heap s'.heap∧s'.os = s₁.os∧AllBare s'.gens) s₁) :
  WalkO q loose XP YP l.row.toRowW d [] (fun f vs => PySem.call f vs):=by
 intro w s₀ s₁ mg mb G Y fa o pm cd doc dV kV ho hd hcd hD hmg hg args vals as hpre hlay hrd hwl hlo
 obtain rfl:dV = .none:=Dflts.none hD hdf
 obtain rfl:kV = .none:=Dflts.noKw hD
 obtain ⟨a,vs,ns,rfl,rfl,hobj,hints,hlen⟩:=script_of hn hpre hwl
 refine enter_call (codeAny_mono (call w s₀ s₁ mg mb fa o pm cd doc a vs ns G Y ho (fd_plain hd) hcd hmg hobj hints hlen hg) fun r s' hq => ?_)
 obtain ⟨rfl,h2,h3,h4⟩:=hq
 exact ⟨.inl ⟨.bool true,.bool true,[],rfl,fun _ => rfl,.bool true,post_true l _,fun _ => ⟨List.Pairwise.nil,fun _ hm => (nomatch hm)⟩⟩,h2,h3,h4⟩
section
variable {prog:Program} {w:World} {A:Around} {E:Value→Shared→Prop} {s:Shared} {K:Frag}
end
end Att
namespace L2
open PySem PySem.Spec PyProof.Rows
theorem vals_ints:∀ {vs:List Value} {ns:List Int},IntsAre vs ns→Vals (ns.map V.int) vs
 | _,_,.nil => .nil
 | _,_,.cons n t h => .cons ⟨t,rfl⟩ (vals_ints h)
end L2
namespace L2
open PySem PySem.Spec PyProof.Rows
abbrev KOf {K:PySem.W.Frag} {h:Heap} (_:K.In h):PySem.W.Frag:=K
end L2
namespace L2
open PySem PySem.Spec PyProof.Rows
def defArgs (s:Stmt):Arguments:=match s with
 | .FunctionDef _ a _ _ _ _ _ _ _ _ => a
 | _ => { posonlyargs:=[],args:=[],vararg:=none,kwonlyargs:=[],kw_defaults:=[],kwarg:=none,defaults:=[] }
def defBody (s:Stmt):List Stmt:=match s with
 | .FunctionDef _ _ b _ _ _ _ _ _ _ => b
 | _ => []
def defScope (s:Stmt):Scope:=match s with
 | .FunctionDef _ _ _ _ _ _ sc _ _ _ => sc
 | _ => { kind:=.function,names:=[],isGenerator:=false,isCoroutine:=false }
structure Fun (K:PySem.W.Frag) (x qual:Str) (st:Stmt) (f:Addr) (fd:FuncData):Prop where
 ex:∃ (oc:Value) (od:Option Addr) (kV doc pm:Value) (an:Option Addr) (cdv ct:Value) (osl:Array (Option Value)),
  fd = PySem.W.fnOf x qual (defArgs st) (defBody st) (defScope st) .none kV doc pm an cdv ct∧K.lookup f = some ⟨oc,od,.func fd,osl⟩∧PySem.W.codeIn K cdv qual = true
 kp:PySem.W.keepIn K (.ref f) = true
section
variable {P:Program} {w:World} {K:PySem.W.Frag} {mg:Str→Option Value} {base:Heap}
theorem Fun.binds {x qual:Str} {st:Stmt} {f:Addr} {fd:FuncData} {ps:List Str} (F:Fun K x qual st f fd)
  (h:∀ (kV doc pm:Value) (an:Option Addr) (cdv ct:Value) (us:List Value),us.length = ps.length→bindArgs (PySem.W.fnOf x qual (defArgs st) (defBody st) (defScope st) .none kV doc pm an cdv ct) ⟨us,[]⟩ = pure (ps.zip us)):Binds K fd ps []:=by
 obtain ⟨oc,od,kV,doc,pm,an,cdv,ct,osl,rfl,lk,hcd⟩:=F.ex
 exact .all (h kV doc pm an cdv ct)
theorem fun_mk {x qual:Str} {st:Stmt} {f:Addr} {oc:Value} {od an:Option Addr} {osl:Array (Option Value)} {kV doc pm cdv ct:Value} (l:K.lookup f = some ⟨oc,od,.func (PySem.W.fnOf x qual (defArgs st) (defBody st) (defScope st) .none kV doc pm an cdv ct),osl⟩)
  (c:PySem.W.codeIn K cdv qual = true) (k:PySem.W.keepIn K (.ref f) = true):Fun K x qual st f (PySem.W.fnOf x qual (defArgs st) (defBody st) (defScope st) .none kV doc pm an cdv ct):=⟨⟨oc,od,kV,doc,pm,an,cdv,ct,osl,rfl,l,c⟩,k⟩
end
theorem hu_of {A:Around} {k:Nat} (hr:Room k A):A.units + 1 < cLine:=Nat.lt_of_le_of_lt (Nat.add_le_add_left (by decide:1≤64) _) hr.units
section
variable {X:Cx}
theorem pv (i:Nat) {x:Str} {pos:Pos} (hN:X.N[i]? = some x:=by rfl) (hv:Vis X.env.scope x:=by first | exact Or.inl rfl | exact Or.inr (Or.inl rfl) | exact Or.inr (Or.inr rfl)) (hd:(x == ("__debug__":Str)) = false:=by decide)
  (hcd:(x == ("__classdict__":Str)) = false:=by decide):PE X (.Name x pos) (tVar i):=pe_var hN hv hd hcd
end
theorem iteF {A B:Prop} (h:B):if false = true then A else B:=by
 rw [if_neg Bool.false_ne_true]
 exact h
theorem iteT {A B:Prop} (h:A):if true = true then A else B:=by
 rw [if_pos rfl]
 exact h
theorem iteNS {c A B:Prop} [Decidable c] (hc:c) (h:B):if (!decide c) = true then A else B:=by
 rw [decide_eq_true hc]
 exact iteF h
def Same (H H':Hp):Prop:=∀ b o,H b = some o→H' b = some o
theorem Same.refl (H:Hp):Same H H:=fun _ _ h => h
theorem Same.trans {H H1 H2:Hp} (a:Same H H1) (b:Same H1 H2):Same H H2:=fun c o h => b c o (a c o h)
theorem Same.seq {K:PySem.W.Frag} {H H':Hp} {a:Addr} {xs:List V} (e:Same H H') (h:SqL K H a xs):SqL K H' a xs:=by
 rcases h with (h | ⟨o,h⟩) | h
 ·exact .inl (.inl (e _ _ h))
 ·exact .inl (.inr ⟨o,e _ _ h⟩)
 ·exact .inr h
end L2
namespace L2
open PySem PySem.Spec PyProof.Rows
theorem ObjOk.there {P:Program} {w:World} {H:Hp} {h:Heap} {a:Addr} {o:HO} (x:ObjOk P w H h a o):∃ u,h.get? a = some u:=by
 cases o with
 | lst xs => obtain ⟨_,_,_,_,e⟩:=x; exact ⟨_,e⟩
 | tup xs => obtain ⟨_,_,_,ob,e,_⟩:=x; exact ⟨_,e⟩
 | dK kvs => obtain ⟨_,_,_,_,ob,_,_,e,_⟩:=x; exact ⟨_,e⟩
 | dT kvs => obtain ⟨_,_,_,_,ob,_,_,e,_⟩:=x; exact ⟨_,e⟩
 | set S n => obtain ⟨ob,_,_,_,e,_⟩:=x; exact ⟨_,e⟩
 | ins C dx fs => obtain ⟨_,_,_,e,_⟩:=x; exact ⟨_,e⟩
 | own y => exact x
 | xd fs => obtain ⟨_,⟨_,_,_,e,_⟩,_⟩:=x; exact ⟨_,e⟩
 | rng lo hi => obtain ⟨_,_,_,e⟩:=x; exact ⟨_,e⟩
 | frz ob u => obtain ⟨e,_⟩:=x; exact ⟨_,e⟩
 | tbl ps => exact ⟨_,(show h.get? a = some _ from x)⟩
 | met f y => exact ⟨_,(show h.get? a = some _ from x)⟩
 | ext φ => obtain ⟨_,e,_⟩:=x; exact e
theorem HOk.free_of {P:Program} {w:World} {H:Hp} {h:Heap} {a:Addr} (x:HOk P w H h) (e:h.get? a = none):H a = none:=by
 cases q:H a with
 | none => rfl
 | some o => obtain ⟨u,z⟩:=(x a o q).there; rw [e] at z; cases z
structure Flies (h0 h:Heap) (H:Hp) (e C:Addr):Prop where
 ex:∃ oe vs T oT ts,∃ a0:Value × Value,h.get? e = some oe∧oe.cls = .ref C∧vs[0]? = some a0.1∧oe.data = .fields vs∧vs[1]? = some (.ref T)∧T≠e∧h.get? T = some oT∧oT.data = .fields ts∧ts[3]? = some .none∧h0.get? T = none∧H T = none∧vs[2]? = some a0.2∧CxO H a0.2
 new:h0.get? e = none
 free:H e = none
def XC (P:Program) (w:World):CXT:=fun outer H s E e s' => ∃ (ea C:Addr) (H':Hp),e = .ref ea∧s'.os = s.os∧AllBare s'.gens∧Un (frs outer) [] H H' s.heap s'.heap∧HOk P w H' s'.heap∧Flies s.heap s'.heap H' ea C∧E (.ref C) none H'
theorem Un.late {fs ex ch:List Addr} {H H':Hp} {h h1 h2:Heap} (u:Un fs ex H H' h h1) (fresh:∀ b∈ch,h.get? b = none)
  (k:∀ b o,b ∉ fs→b ∉ ch→h1.get? b = some o→h2.get? b = some o) (ks:∀ b o,b∈fs→h1.get? b = some o→∃ sl,h2.get? b = some { o with slots:=sl }):Un fs ex H H' h h2:=by
 have nch:∀ b o,h.get? b = some o→b ∉ ch:=fun b o q z => by have:=fresh b z; rw [q] at this; cases this
 refine ⟨fun b o q n hb hx => k b o hb (nch b o q) (u.keep b o q n hb hx),fun b o q n hb hx => ?_,u.free,fun b o q hx => ?_,u.tups,u.frzs,u.tbls⟩
 ·obtain ⟨sl,e1⟩:=u.slot b o q n hb hx
  obtain ⟨sl',e2⟩:=ks b _ hb e1
  exact ⟨sl',e2⟩
 ·obtain ⟨o',e1⟩:=u.there b o q hx
  by_cases hb:b∈fs
  ·obtain ⟨sl,e2⟩:=ks b o' hb e1
   exact ⟨_,e2⟩
  ·exact ⟨o',k b o' hb (nch b o q) e1⟩
section
variable {X:Cx} {pins:List (Addr × Obj)} {σ:St} {H H':Hp} {s s':Shared} {ea C:Addr} {a0:Value × Value} {h':Heap} {ch:List Addr}
theorem fly_after (I:Inv X pins σ H s) (hst:X.stack = X.env :: X.outer) (os:s'.os = s.os) (bare:AllBare s'.gens) (un:Un (frs X.stack) [] H H' s.heap s'.heap) (hok:HOk X.prog X.w H' s'.heap)
  (hch:∀ b∈ch,s.heap.get? b = none∧H' b = none) (hea:ea∈ch) (hcx:CxO H' a0.2) (L:StepC (PySem.W.hideAll s'.heap (ch ++ frs X.stack)) (X.env :: X.outer) ea (.ref C) a0 .none s'.heap h') :
  Inv X pins σ H' { s' with heap:=h' }∧Flies s.heap h' H' ea C:=by
 have I1:Inv X pins σ H' s':=I.call' (ch:=[]) os un hok bare (fun b z => absurd z (by simp))
 obtain ⟨st,ff,tr,up⟩:=L
 have FF:s'.heap.FunFrames X.base X.stack:=I1.stack
 have keep:∀ b o,b ∉ frs X.stack→b ∉ ch→s'.heap.get? b = some o→h'.get? b = some o:=fun b o hb hc e => st b o (PySem.W.hideAll_get _ e fun z => (List.mem_append.mp z).elim hc hb)
 have slots:∀ b o,b∈frs X.stack→s'.heap.get? b = some o→∃ sl,h'.get? b = some { o with slots:=sl }:=fun b o hb e => by
  obtain ⟨_,o',ho',hd⟩:=FF.mem hb
  rw [e] at ho'; cases ho'
  exact up b o e hd
 have un2:Un (frs X.stack) [] H H' s.heap h':=un.late (ch:=ch) (fun b hb => (hch b hb).1) keep slots
 have free:∀ b,H' b≠none→b ∉ frs X.stack∧b ∉ ch:=fun b n => ⟨fun z => n (I1.stkFree b z),fun z => n (hch b z).2⟩
 have hok2:HOk X.prog X.w H' h':=fun b o e => (hok b o e).stay (fun c u hc q => by
  have n:H' c≠none:=by
   rcases hc with z | z
   ·rw [z,e]; simp
   ·rw [z]; simp
  exact keep c u (free c n).1 (free c n).2 q) (fun _ q => q) fun _ _ q => q
 refine ⟨I.call' (s':={ s' with heap:=h' }) (ch:=[]) os un2 hok2 bare (fun b z => absurd z (by simp)),⟨?_,(hch ea hea).1,(hch ea hea).2⟩⟩
 obtain ⟨oe,vs,T,oT,ts,e1,⟨e2,e3,c3⟩,e4,e5,e6,e7,e8,e9,e10⟩:=tr
 have hT:s.heap.get? T = none∧H' T = none:=by
  cases q:s'.heap.get? T with
  | none =>
   refine ⟨?_,hok.free_of q⟩
   cases q2:s.heap.get? T with
   | none => rfl
   | some o => obtain ⟨o',z⟩:=un.there T o q2 (by simp); rw [q] at z; cases z
  | some o =>
   by_cases hc:T∈ch
   ·exact hch T hc
   ·by_cases hf:T∈frs X.stack
    ·have hf2:T∈frs (X.env :: X.outer):=hst▸hf
     obtain ⟨_,o',ho',hd⟩:=ff.mem hf2
     rw [e8] at ho'; cases ho'
     exact absurd e9 (hd ts)
    ·rw [PySem.W.hideAll_get _ q fun z => (List.mem_append.mp z).elim hc hf] at e6
     cases e6
 exact ⟨oe,vs,T,oT,ts,a0,e1,e2,e3,e4,e5,e7,e8,e9,e10,hT.1,hT.2,c3,hcx⟩
theorem frames_hid (I:Inv X pins σ H' s') (hst:X.stack = X.env :: X.outer) (ch:List Addr):s'.heap.FunFrames (PySem.W.hideAll s'.heap (ch ++ frs X.stack)) (X.env :: X.outer):=by
 have FF:s'.heap.FunFrames X.base X.stack:=I.stack
 rw [← hst]
 exact PySem.W.funFrames_hide FF fun env he a hf => List.mem_append_right _ (List.mem_filterMap.mpr ⟨env,he,hf⟩)
theorem leave_on (I:Inv X pins σ H s) (hst:X.stack = X.env :: X.outer) (hf:X.env.frame = some X.env.locals) (os:s'.os = s.os) (bare:AllBare s'.gens) (un:Un (frs X.stack) [] H H' s.heap s'.heap) (hok:HOk X.prog X.w H' s'.heap)
  (fl:Flies s.heap s'.heap H' ea C) {M:Model} {E:Value→Shared→Prop} {Q:Unit→Shared→Prop} (h:∀ h',Inv X pins σ H' { s' with heap:=h' }→Flies s.heap h' H' ea C→Q () { s' with heap:=h' }) :
  wpAny M X.A (leaving X.env (.ref ea)) Q E s':=by
 have I1:Inv X pins σ H' s':=I.call' (ch:=[]) os un hok bare (fun b z => absurd z (by simp))
 obtain ⟨oe,vs,T,oT,ts,a0,e1,e2,e3,e4,e5,e7,e8,e9,e10,e11,e12,c3,cx⟩:=fl.ex
 have hfr:X.A.frames = some (X.env :: X.outer):=by rw [← hst]; exact I.ok.frames
 refine leave_next (base:=PySem.W.hideAll s'.heap ([ea,T] ++ frs X.stack)) (cls:=.ref C) (a0:=a0) hfr (frames_hid I1 hst [ea,T]) hf
  ⟨oe,vs,T,oT,ts,e1,⟨e2,e3,c3⟩,e4,e5,PySem.W.hideAll_none _ (by simp),e7,e8,e9,e10⟩ (fun b o q => PySem.W.of_hideAll _ q) (PySem.W.hideAll_none _ (by simp)) fun h' L => ?_
 obtain ⟨J,F⟩:=fly_after (ch:=[ea,T]) I hst os bare un hok (fun b hb => by
  rcases List.mem_cons.mp hb with rfl | hb
  ·exact ⟨fl.new,fl.free⟩
  ·obtain rfl:b = T:=by simpa using hb
   exact ⟨e11,e12⟩) (by simp) cx L
 exact h h' J F
end
section
variable {P:Program} {w:World} {K:PySem.W.Frag} {mg:Str→Option Value} {base:Heap} {N ps:List Str} {qual:Str} {scope:Scope} {f:Addr} {cd:Value} {A:Around} {outer:List Env} {s:Shared} {H:Hp} {E:XK}
abbrev cxE (P:Program) (w:World) (K:PySem.W.Frag) (mg:Str→Option Value) (base:Heap) (N:List Str) (qual:Str) (scope:Scope) (f:Addr) (cd:Value) (A:Around) (outer:List Env) (s:Shared) (H:Hp) (E:XK) (c:Bool:=true):Cx :=
 cxOf (XC P w) P w K mg base N qual scope f cd A outer s H E c
theorem fresh_start {c:Bool} {pins:List (Addr × Obj)} {σ:St} {H1 H':Hp} {s1:Shared} {h':Heap} {ea C:Addr} (I:Inv (cxE P w K mg base N qual scope f cd A outer s H E c) pins σ H1 s1) (F:Flies s1.heap h' H' ea C):Flies s.heap h' H' ea C:=by
 have z:∀ b,s1.heap.get? b = none→s.heap.get? b = none:=fun b q => by
  cases q2:s.heap.get? b with
  | none => rfl
  | some o => obtain ⟨o',e⟩:=I.base.there b o q2 (by simp [cxOf]); rw [q] at e; cases e
 obtain ⟨oe,vs,T,oT,ts,a0,e1,e2,e3,e4,e5,e7,e8,e9,e10,e11,e12,c3,cx⟩:=F.ex
 exact ⟨⟨oe,vs,T,oT,ts,a0,e1,e2,e3,e4,e5,e7,e8,e9,e10,z _ e11,e12,c3,cx⟩,z _ F.new,F.free⟩
theorem passes_of {c:Bool}:Passes (XC P w) (cxE P w K mg base N qual scope f cd A outer s H E c) E:=by
 intro pins σ H1 s1 e s' I h
 obtain ⟨ea,C',H',rfl,os,bare,un,hok,fl,q⟩:=h
 refine leave_on I rfl rfl os bare un hok fl fun h' J F => ?_
 exact ⟨ea,C',H',rfl,J.os,J.bare,J.base,J.hok,fresh_start I F,q⟩
theorem owns_of {c:Bool}:PassesOwn (model P w) (cxE P w K mg base N qual scope f cd A outer s H E c).A (cxE P w K mg base N qual scope f cd A outer s H E c).env (cxE P w K mg base N qual scope f cd A outer s H E c).xe:=PassesOwn.leaving
theorem Fun.okX {x:Str} {st:Stmt} {fd:FuncData} {k:Nat} {sp:Sp} {c:Bool} (F:Fun K x qual st f fd) (S:FnScope N ps (defScope st)) (len:∀ vs H Q E,sp vs H Q E→vs.length = ps.length)
  (hbody:∀ (cdv:Value) (A:Around) (outer:List Env) (s:Shared) (H:Hp) (vs:List V) (Q:VK) (E:XK),RoomC c k (A.deeper (envOfC qual (defScope st) s.heap.objs.size f cdv))→sp vs H Q E →
   ∃ t,PSs (cxE P w K mg base N qual (defScope st) f cdv A outer s H E c) (defBody st) t∧t { nx:=fun _ H' => Q .non H',rt:=Q } (start N vs) H):FnOk P w K mg base (XC P w) (k + 1) f fd ps sp c:=by
 obtain ⟨oc,od,kV,doc,pm,an,cdv,ct,osl,rfl,lk,hcd⟩:=F.ex
 exact fn_of lk hcd S len fun A outer s H vs Q E hr hsp => hbody cdv A outer s H vs Q E hr hsp
end
end L2
namespace L2
open PySem PySem.Spec PyProof.Rows
theorem comp_turns {prog:Program} {w:World} {A:Around} {R:Result→Shared→Prop} {s:Shared} {elt tg iter:Expr} {ifs:List Expr} {scope:Scope} {pos:Pos} {it acc:Value} {env:Env} (J:Nat→Shared→Prop)
  (turn:∀ n s,J n s→wpAny (model prog w) A (pyNext it) (fun r s1 => match r with
   | none => R (.ok .next) s1
   | some v => wpAny (model prog w) A (letOwnedTupleGo tg it v) (fun _ s2 => wpAny (model prog w) A (assign tg env v) (fun _ s3 =>
     wpAny (model prog w) A (forIn ifs true fun c r => if r = true then do let ok ← isTrue c env (eval c env); pure (ForInStep.yield ok) else pure (ForInStep.yield r)) (fun ok s4 =>
      if ok = true then wpAny (model prog w) A (eval elt env) (fun x s5 => wpAny (model prog w) A (call (.builtin "list.append") [acc,x]) (fun _ s6 => ∃ m,m < n∧J m s6) (fun _ _ => False) s5) (fun _ _ => False) s4
      else ∃ m,m < n∧J m s4) (fun _ _ => False) s3) (fun _ _ => False) s2) (fun _ _ => False) s1) (fun _ _ => False) s)
  (n:Nat) (h:J n s):codeAny (model prog w) A (.compLoop (.ListComp elt [⟨tg,iter,ifs,0⟩] scope pos) 0 it acc env) R s:=by
 refine codeAny_loop rfl J (fun n s hJ => ?_) n h
 show wpAny _ A ((compTurn (.ListComp elt [⟨tg,iter,ifs,0⟩] scope pos) 0 it acc env).onRaise _) _ _ s
 refine wpAny_noted (wpAny_noRaise ?_)
 rw [compTurn_list]
 refine wpAny_bind (wpAny_standAt (wpAny_bind (thn (turn n s hJ) fun r s1 h1 => ?_)))
 cases r with
 | none => exact wpAny_pure h1
 | some v =>
  refine wpAny_bind (thn h1 fun _ s2 h2 => wpAny_bind (thn h2 fun _ s3 h3 => wpAny_bind (thn h3 fun ok s4 h4 => ?_)))
  cases ok with
  | false => exact wpAny_pure ⟨rfl,h4⟩
  | true => exact wpAny_bind (wpAny_bind (thn h4 fun x s5 h5 => wpAny_bind (thn h5 fun _ s6 h6 => wpAny_pure (wpAny_pure ⟨rfl,h6⟩))))
abbrev Cx.blk (X:Cx) (scope:Scope) (cl:List (Str × Addr)) (C:Addr) (own:List Str) (s:Shared) (H:Hp) (fp:List Addr) (pins:List (Addr × Obj)):Cx :=
 { X with N:=X.N ++ own,env:=compEnvC scope cl C X.env,s₀:=s,H₀:=H,outer:=X.stack,ex:=fp,fn:=fun _ => false,pn:=X.pn ++ pins,xe:=fun _ _ => False }
theorem lookup_relab {env:Env} {x:Str}:∀ {names:List (Str × NameKind)},(names.map fun (n,k) => if (k == NameKind.free && env.scope.kind == .function && env.kindOf n == some .cell) then (n,NameKind.cell) else (n,k)).lookup x =
  (names.lookup x).map fun k => if (k == NameKind.free && env.scope.kind == .function && env.kindOf x == some .cell) then NameKind.cell else k
 | [] => rfl
 | (n,k) :: r => by
  have ih:=@lookup_relab env x r
  rw [List.map_cons]
  show List.lookup x ((if (k == NameKind.free && env.scope.kind == .function && env.kindOf n == some .cell) = true then (n,NameKind.cell) else (n,k)) :: _) = _
  have e:(if (k == NameKind.free && env.scope.kind == .function && env.kindOf n == some .cell) = true then (n,NameKind.cell) else (n,k)) = (n,if (k == NameKind.free && env.scope.kind == .function && env.kindOf n == some .cell) = true then NameKind.cell else k):=by
   split <;> rfl
  rw [e]
  cases q:x == n with
  | true =>
   obtain rfl:x = n:=by simpa using q
   simp [List.lookup_cons]
  | false => simp only [List.lookup_cons,q]; exact ih
structure CompScope (X:Cx) (scope:Scope) (cl:List (Str × Addr)):Prop where
 clos:closureFor scope X.env = pure cl
 kind:scope.kind = .function
 nocell:∀ y∈scope.names,y.2≠.cell
 names:∀ y∈scope.names,y.2 = .local→scope.names.lookup y.1 = some .local
 sub:∀ x c,cl.lookup x = some c→X.env.cells.lookup x = some c
 has:∀ x,scope.names.lookup x = some .free→∃ c,cl.lookup x = some c
 apart:∀ x∈X.N,scope.names.lookup x≠some .local
 outer:∀ x,scope.names.lookup x = some .free→X.env.kindOf x = some .cell∨X.env.kindOf x = some .free
theorem lookup_mem {α β:Type} [BEq α] [LawfulBEq α] {l:List (α × β)} {x:α} {b:β} (h:l.lookup x = some b):(x,b)∈l:=by
 induction l with
 | nil => simp at h
 | cons p r ih =>
  obtain ⟨a,c⟩:=p
  rw [List.lookup_cons] at h
  split at h
  ·rename_i q
   obtain rfl:x = a:=by simpa using q
   cases h; exact .head _
  ·exact .tail _ (ih h)
section
variable {X:Cx} {scope:Scope} {cl:List (Str × Addr)} {own:List Str} {pins:List (Addr × Obj)} {σ:St} {H2 H3:Hp} {s2:Shared} {fp:List Addr} {C:Addr} {h1:Heap}
theorem stk_no {b:Addr} (I2:Inv X pins σ H2 s2) (n1:b≠X.env.locals) (n2:b ∉ X.fs):b ∉ frs X.stack:=fun z => (List.mem_cons.mp (I2.stkSub b z)).elim n1 n2
theorem blk_in (S:CompScope X scope cl) (I2:Inv X pins σ H2 s2) (f2:∀ b∈fp,FpOk X pins H2 b) (hlt:∀ b∈fp,b < s2.heap.objs.size) (hC:s2.heap.objs.size≤C) {m:Str→Option Value} (hns:h1.Ns C m)
  (keep:∀ b o,s2.heap.get? b = some o→h1.get? b = some o) (hH:∀ b o,s2.heap.get? b = some o→H2 b = none→H3 b = none) (un:Un (frs X.stack) fp H2 H3 s2.heap h1) (hok:HOk X.prog X.w H3 h1) (hCf:H3 C = none) {tk:Nat} :
  Inv (X.blk scope cl C own s2 H2 fp pins) [] (σ ++ List.replicate own.length none) H3 { s2 with heap:=h1,toks:=tk }:=by
 have neC:∀ b o,s2.heap.get? b = some o→b≠C:=fun b o e => Nat.ne_of_lt (Nat.lt_of_lt_of_le (Heap.lt_size e) hC)
 have kof:∀ x,(compEnvC scope cl C X.env).kindOf x = (scope.names.lookup x).map fun k => if (k == NameKind.free && X.env.scope.kind == .function && X.env.kindOf x == some .cell) then NameKind.cell else k:=fun x => lookup_relab
 have isfree:∀ x,((compEnvC scope cl C X.env).kindOf x = some .cell∨(compEnvC scope cl C X.env).kindOf x = some .free)→scope.names.lookup x = some .free:=fun x hx => by
  rw [kof x] at hx
  cases q:scope.names.lookup x with
  | none => rw [q] at hx; rcases hx with z | z <;> cases z
  | some k =>
   rw [q] at hx
   have nc:=S.nocell _ (lookup_mem q)
   cases k <;> simp_all
 refine ⟨⟨I2.ok.mod,S.kind,I2.ok.glob,I2.ok.blt,hC,fun x y c e1 e2 => I2.ok.inj x y c (S.sub x c e1) (S.sub y c e2),fun x hx => S.has x (isfree x hx),fun x c z _ => (by cases z),I2.ok.hd,I2.ok.frames,.inl rfl,
  fun b hb => ⟨Nat.ne_of_lt (Nat.lt_of_lt_of_le (hlt b hb) hC),fun x c e => (f2 b hb).2.2.2.2.1 x c (S.sub x c e)⟩,fun b o e => ⟨(I2.bs b o e).1,(I2.bs b o e).2⟩,Nat.le_trans I2.ok.bsz I2.sz,fun b o e hb => ?_,fun b hb => stk_no I2 (f2 b hb).2.1 (f2 b hb).2.2.1,I2.stack,I2.stkFree⟩,
  rfl,I2.bare,un,⟨m,hns,fun i x v e1 e2 e3 => ?_⟩,fun x c e => ?_,hCf,fun x c e => ?_,fun p hp => ?_,hok,?_,I2.hn.mono un.frzs⟩
 ·rcases (f2 b hb).2.2.2.1 with z | z
  ·exact I2.ok.noex b o e z
  ·exact absurd (Nat.lt_of_lt_of_le (Nat.lt_of_lt_of_le (Heap.lt_size e) I2.ok.bsz) z) (Nat.lt_irrefl _)
 ·
  have hi:i < σ.length:=by
   apply Classical.byContradiction
   intro hn
   rw [List.getElem?_append_right (by omega),List.getElem?_replicate] at e2
   split at e2 <;> cases e2
  rw [List.getElem?_append_left hi] at e2
  have hi2:i < X.N.length:=by rw [← I2.len]; exact hi
  have e1':X.N[i]? = some x:=by rw [← List.getElem?_append_left (l₂:=own) hi2]; exact e1
  have hx:x∈X.N:=List.mem_of_getElem? e1'
  have e3':(compEnvC scope cl C X.env).kindOf x = some .local∨(compEnvC scope cl C X.env).kindOf x = some .cell∨(compEnvC scope cl C X.env).kindOf x = some .free:=e3
  have nl:(compEnvC scope cl C X.env).kindOf x≠some .local:=fun z => by
   rw [kof x] at z
   cases q:scope.names.lookup x with
   | none => rw [q] at z; cases z
   | some k =>
    rw [q,Option.map_some] at z
    have na:=S.apart x hx
    rw [q] at na
    cases k <;> first
     | exact na rfl
     | (have z':=Option.some.inj z; split at z' <;> cases z')
  have hcf:(compEnvC scope cl C X.env).kindOf x = some .cell∨(compEnvC scope cl C X.env).kindOf x = some .free:=e3'.resolve_left nl
  obtain ⟨c,hc⟩:=S.has x (isfree x hcf)
  obtain ⟨m0,hn0,hl0⟩:=I2.loc
  have hcX:=S.sub x c hc
  have ho:=S.outer x (isfree x hcf)
  obtain ⟨u,r,l⟩:=hl0 i x v e1' e2 (.inr ho)
  refine ⟨u,r,.inr ⟨hcf,c,hc,?_⟩⟩
  rcases l with ⟨z,_⟩ | ⟨_,c',hc',oc,hoc,hdc⟩
  ·rcases ho with y | y <;> (rw [y] at z; cases z)
  ·rw [hcX] at hc'
   cases hc'
   exact ⟨oc,keep _ _ hoc,hdc⟩
 ·obtain ⟨v,⟨oc,hoc,hdc⟩⟩:=I2.cell x c (S.sub x c e)
  exact ⟨v,oc,keep _ _ hoc,hdc⟩
 ·obtain ⟨v,⟨oc,hoc,hdc⟩⟩:=I2.cell x c (S.sub x c e)
  exact hH c oc hoc (I2.freeC x c (S.sub x c e))
 ·obtain ⟨q1,q2,q3,q4,q5⟩:=I2.pin p (by simpa using hp)
  exact ⟨keep _ _ q1,hH _ _ q1 q2,neC _ _ q1,stk_no I2 q3 q4,q5⟩
 ·show (σ ++ List.replicate own.length none).length = (X.N ++ own).length
  rw [List.length_append,List.length_append,List.length_replicate,I2.len]
theorem blk_out (I2:Inv X pins σ H2 s2) (f2:∀ b∈fp,FpOk X pins H2 b) (hC:s2.heap.objs.size≤C) {pl:List (Addr × Obj)} {σ':St} {s4:Shared} {h':Heap} (I4:Inv (X.blk scope cl C own s2 H2 fp pins) pl σ' H3 s4) (sb:Heap.SameBut C s4.heap h') :
  Inv X pins σ H3 { s4 with heap:=h' }:=by
 have un:Un (frs X.stack) fp H2 H3 s2.heap s4.heap:=I4.base
 have nC:s2.heap.get? C = none:=Heap.get?_none_of_le hC
 have CF:C ∉ frs X.stack:=fun z => by
  obtain ⟨_,o,ho,_⟩:=I2.stack.mem z
  rw [nC] at ho; cases ho
 have un2:Un (frs X.stack) fp H2 H3 s2.heap h':=un.late (ch:=[C]) (fun b hb => by
  obtain rfl:b = C:=by simpa using hb
  exact nC) (fun b o _ hb e => (sb.2 b (by simpa using hb)).trans e) fun b o hb e => ⟨o.slots,(sb.2 b fun z => CF (z▸hb)).trans e⟩
 have hf:H3 C = none:=I4.free
 have hok:HOk X.prog X.w H3 h':=fun b o e => (I4.hok b o e).stay (fun c u hc q => (sb.2 c fun z => by
  subst z
  rcases hc with z | z
  ·rw [z,e] at hf; cases hf
  ·rw [z] at hf; cases hf).trans q) (fun _ q => q) fun _ _ q => q
 exact I2.call' (s':={ s4 with heap:=h' }) (ch:=fp) I4.os un2 hok I4.bare fun b hb => ⟨(f2 b hb).2.2.2.1,(f2 b hb).2.1,(f2 b hb).2.2.2.2.1,(f2 b hb).2.2.2.2.2⟩
end
def PF (X:Cx) (ifs:List Expr) (t:TT):Prop :=
 ∀ (pins:List (Addr × Obj)) (s:Shared) (σ:St) (H:Hp) (Q:Bool→Hp→Prop),Inv X pins σ H s→t σ H Q →
  wpAny (model X.prog X.w) X.A (forIn ifs true fun c r => if r = true then do let ok ← isTrue c X.env (eval c X.env); pure (ForInStep.yield ok) else pure (ForInStep.yield r)) (TP X pins σ Q) X.xe s
theorem pf_nil {X:Cx}:PF X [] (fun _ H Q => Q true H):=fun _ _ _ H _ I h => wpAny_tests_nil ⟨H,I,h⟩
theorem pf_one {X:Cx} {c:Expr} {t:TT} (h:PT X c t):PF X [c] t:=fun pins s σ H Q I q => wpAny_tests_one (h pins s σ H Q I q)
def compT (k:Nat) (g:TG) (tc:TT) (te:TE) (σ:St) (Q:VK):It→Hp→Prop:=fun J H1 => ∀ D,H1 D = none→∃ W:Nat→Nat→List V→Hp→Prop,(∃ m,W 0 m [] (upd H1 D (.lst [])))∧∀ i m ys H,W i m ys H →
 H D = some (.lst ys)∧((J.stop i H∧Q (.ref D) H)∨(J.go i H∧ys.length < sizeLine∧∀ x H',J.yld i H x H'→g x (σ ++ List.replicate k none) H' fun σ2 H2 => (∃ zs,σ2 = σ ++ zs∧zs.length = k)∧tc σ2 H2 fun b H3 =>
  if b = true then te σ2 H3 fun y H4 => H4 D = some (.lst ys)∧∃ m',m' < m∧W (i + 1) m' (ys ++ [y]) (upd H4 D (.lst (ys ++ [y]))) else ∃ m',m' < m∧W (i + 1) m' ys H3))
def tComp (wi:TI) (k:Nat) (g:TG) (tc:TT) (te:TE):TE:=fun σ H Q => wi σ H (compT k g tc te σ Q)
section
variable {X:Cx} {tg elt iter:Expr} {ifs:List Expr} {scope:Scope} {cl:List (Str × Addr)} {own:List Str} {wi:TI} {g:TG} {tc:TT} {te:TE} {pos:Pos}
theorem comp_core {p2:Pos} {use:Option (Value→Sem Unit)} {QV:Value→Shared→Prop} {pins:List (Addr × Obj)} {s:Shared} {σ:St} {H:Hp} {Q:VK} (S:CompScope X scope cl) (hi:PI X tg iter wi)
  (hg:∀ C s H fp pins,PG (X.blk scope cl C own s H fp pins) tg g) (ht:∀ C s H fp pins,PF (X.blk scope cl C own s H fp pins) ifs tc) (he:∀ C s H fp pins,PE (X.blk scope cl C own s H fp pins) elt te)
  (hs:∀ x,foldedSetIterable iter X.env x = pure x) (I:Inv X pins σ H s) (h:tComp wi own.length g tc te σ H Q)
  (fin:∀ D C s2 H2 H3 s4,Inv X pins σ H2 s2→s2.heap.objs.size≤C→H3 C = none→(∃ m,s4.heap.Ns C m)→(∀ h',Heap.SameBut C s4.heap h'→Inv X pins σ H3 { s4 with heap:=h' })→Q (.ref D) H3→compPost (model X.prog X.w) X.A X.xe use QV (.ref D) C (.ok .next) s4) :
  wpAny (model X.prog X.w) X.A (comprehension (.ListComp elt [⟨tg,iter,ifs,0⟩] scope pos) scope X.env p2 (newList []) false (eval iter X.env) use) QV X.xe s:=by
 refine wpAny_comprehension_free (use:=use) rfl hs S.clos S.kind S.names (thn (hi pins s σ H _ I h) fun v s1 h1 => thn h1 fun itv s2 h2 => ?_)
 obtain ⟨it,fp,tn,J,H2,e,I2,T,st2,f2,R⟩:=h2
 subst e
 obtain ⟨nm,T,hc⟩:=T
 refine wpAny_newObj_type (wpAny_newFunctionEnv S.nocell (by intro y hy; simp at hy) (fun h1 hns hsb => ?_) S.kind)
 dsimp only at hns hsb ⊢
 have hlt:∀ b∈fp,b < s2.heap.objs.size:=fun b hb => by
  obtain ⟨o,ho,_⟩:=T.obj 0 _ st2 b hb
  exact Heap.lt_size ho
 generalize hp:s2.heap.push { cls:=.type "list",dict:=none,data:=.seq ([]:List Value).toArray } = hl at hns hsb ⊢
 have hC:hl.objs.size = s2.heap.objs.size + 1:=by rw [← hp,Heap.size_push]
 have hCle:s2.heap.objs.size≤hl.objs.size:=by rw [hC]; exact Nat.le_succ _
 have hDC:s2.heap.objs.size≠hl.objs.size:=by rw [hC]; exact Nat.ne_of_lt (Nat.lt_succ_self _)
 have old:∀ b o,hl.get? b = some o→h1.get? b = some o:=fun b o e => hsb.extBut b o (Nat.ne_of_lt (Heap.lt_size e)) (Heap.get?_push_of_some _ e)
 have old2:∀ b o,s2.heap.get? b = some o→h1.get? b = some o:=fun b o e => old b o (hp▸Heap.get?_push_of_some _ e)
 have Dn:H2 s2.heap.objs.size = none:=I2.fresh
 have Cn:H2 hl.objs.size = none:=I2.hok.fresh hCle
 obtain ⟨W,⟨m0,w0⟩,step⟩:=R s2.heap.objs.size Dn
 have hobj:h1.get? s2.heap.objs.size = some { cls:=.type "list",data:=.seq ([]:List Value).toArray }:=old _ _ (hp▸Heap.get?_push_size _ rfl)
 have I3:Inv (X.blk scope cl hl.objs.size own s2 H2 fp pins) [] (σ ++ List.replicate own.length none) (upd H2 s2.heap.objs.size (.lst [])) { s2 with heap:=h1,toks:=s2.toks + ([]:List (Str × Value)).length } :=
  blk_in S I2 f2 hlt hCle hns old2 (fun b o e n => by rw [upd_ne (Nat.ne_of_lt (Heap.lt_size e))]; exact n) (Un.laid old2 (Nat.le_refl _) Dn) (I2.hok.laid old2 (Nat.le_refl _) (show ObjOk X.prog X.w (upd H2 s2.heap.objs.size (.lst [])) h1 s2.heap.objs.size (.lst []) from ⟨Nat.zero_le _,[],0,.nil,hobj⟩)) (by rw [upd_ne (Ne.symm hDC)]; exact Cn)
 have fpn:∀ b∈fp,upd H2 s2.heap.objs.size (.lst []) b = none:=fun b hb => by rw [upd_ne (Nat.ne_of_lt (hlt b hb))]; exact (f2 b hb).1
 have stat:∀ {H':Hp},(∀ b∈fp,H' b = none)→∀ b∈fp,FpOk (X.blk scope cl hl.objs.size own s2 H2 fp pins) [] H' b:=fun hn b hb =>
  ⟨hn b hb,Nat.ne_of_lt (Nat.lt_of_lt_of_le (hlt b hb) hCle),stk_no I2 (f2 b hb).2.1 (f2 b hb).2.2.1,.inl hb,fun x c e => (f2 b hb).2.2.2.2.1 x c (S.sub x c e),fun p hp => (f2 b hb).2.2.2.2.2 p (by simpa using hp)⟩
 have loop:∀ s3:Shared,s3 = { s2 with heap:=h1,toks:=s2.toks + ([]:List (Str × Value)).length } →
   codeAny (model X.prog X.w) X.A (.compLoop (.ListComp elt [⟨tg,iter,ifs,0⟩] scope pos) 0 (.ref it) (.ref s2.heap.objs.size) (compEnvC scope cl hl.objs.size X.env)) (compPost (model X.prog X.w) X.A X.xe use QV (.ref s2.heap.objs.size) hl.objs.size) s3:=by
  rintro s3 rfl
  refine comp_turns (fun n s' => ∃ i ys H',Inv (X.blk scope cl hl.objs.size own s2 H2 fp pins) [] (σ ++ List.replicate own.length none) H' s'∧tn i s'.heap∧(∀ b∈fp,H' b = none)∧W i n ys H') ?_ m0
   ⟨0,[],_,I3,T.keep 0 _ _ st2 (fun b _ o e => old2 b o e),fpn,w0⟩
  rintro n s3 ⟨i,ys,H3,J3,st3,fr3,w3⟩
  obtain ⟨hD,⟨stop,q⟩ | ⟨go,hlen,turn⟩⟩:=step i n ys H3 w3
  ·refine thn (T.done (X.blk scope cl hl.objs.size own s2 H2 fp pins) rfl rfl rfl hc i [] s3 _ H3 _ J3 (stat fr3) st3 stop) fun r s4 ⟨hr,J4⟩ => ?_
   subst hr
   obtain ⟨m4,hn4,_⟩:=J4.loc
   exact fin _ _ s2 H2 H3 s4 I2 hCle J4.free ⟨m4,hn4⟩ (fun h' sb => blk_out I2 f2 hCle J4 sb) q
  ·refine thn (T.item (X.blk scope cl hl.objs.size own s2 H2 fp pins) rfl rfl rfl hc i [] s3 _ H3 _ J3 (stat fr3) st3 go) fun r s4 ⟨u,hr,h4⟩ => ?_
   subst hr
   refine thn h4 fun _ s5 hh => ?_
   obtain ⟨x,H5,J5,r5,y5,st5,fr5⟩:=hh
   have J5':=J5.pinned (stat fr5) (T.obj _ _ st5)
   refine thn (hg _ _ _ _ _ _ s5 _ H5 x u _ J5' r5 (turn x H5 y5)) fun _ s6 hh => ?_
   obtain ⟨σ6,H6,J6,⟨ts,e6,hts⟩,q6⟩:=hh
   subst e6
   refine thn (ht _ _ _ _ _ _ s6 _ H6 _ J6 q6) fun ok s7 ⟨H7,J7,q7⟩ => ?_
   have again:∀ {s8:Shared} {H8:Hp} {zs:List V},Inv (X.blk scope cl hl.objs.size own s2 H2 fp pins) ([] ++ pinsAt fp s5.heap) (σ ++ ts) H8 s8→(∃ m',m' < n∧W (i + 1) m' zs H8) →
     ∃ m,m < n∧∃ i ys H',Inv (X.blk scope cl hl.objs.size own s2 H2 fp pins) [] (σ ++ List.replicate own.length none) H' s8∧tn i s8.heap∧(∀ b∈fp,H' b = none)∧W i m ys H':=fun {s8 H8 zs} J8 ⟨m',hm,w8⟩ => by
    refine ⟨m',hm,i + 1,zs,H8,?_,T.keep _ _ _ st5 fun b hb o e => (J8.pin (b,o) (List.mem_append_right _ (List.mem_append_right _ (mem_pinsAt hb e)))).1,fun b hb => ?_,w8⟩
    ·refine J8.unpinned.weak (by rw [List.length_append,List.length_append,List.length_replicate,hts]) fun j v ej => ?_
     by_cases hj:j < σ.length
     ·rw [List.getElem?_append_left hj] at ej ⊢
      exact ej
     ·rw [List.getElem?_append_right (by omega),List.getElem?_replicate] at ej
      split at ej <;> cases ej
    ·obtain ⟨o,e,d⟩:=T.obj _ _ st5 b hb
     exact (J8.pin (b,o) (List.mem_append_right _ (List.mem_append_right _ (mem_pinsAt hb e)))).2.1
   cases ok with
   | false => exact again J7 q7
   | true =>
    refine thn (he _ _ _ _ _ _ s7 _ H7 _ J7 q7) fun z s8 hh => ?_
    obtain ⟨y,H8,J8,r8,hD8,q8⟩:=hh
    refine thn (mt_append _ s8 _ H8 (.ref s2.heap.objs.size) [y] _ [z] (fun _ H9 => ∃ m',m' < n∧W (i + 1) m' (ys ++ [y]) H9) J8 rfl (.cons r8 .nil) ⟨_,ys,y,rfl,rfl,hD8,hlen,q8⟩) fun _ s9 ⟨_,H9,J9,_,q9⟩ => again J9 q9
 exact codeAny_compStart_list (loop _ rfl) (T.self _ 0 _ _ _ (T.keep 0 _ _ st2 fun b _ o e => old2 b o e) (loop _ rfl))
theorem pe_comp (S:CompScope X scope cl) (hi:PI X tg iter wi)
  (hg:∀ C s H fp pins,PG (X.blk scope cl C own s H fp pins) tg g) (ht:∀ C s H fp pins,PF (X.blk scope cl C own s H fp pins) ifs tc) (he:∀ C s H fp pins,PE (X.blk scope cl C own s H fp pins) elt te)
  (hs:∀ x,foldedSetIterable iter X.env x = pure x:=by intro _; rfl):PE X (.ListComp elt [⟨tg,iter,ifs,0⟩] scope pos) (tComp wi own.length g tc te):=by
 intro pins s σ H Q I h
 rw [eval_ListComp]
 exact comp_core (use:=none) (QV:=EP X pins σ Q) S hi hg ht he hs I h fun D C s2 H2 H3 s4 _ _ _ hn inv q => hn.elim fun m hn => ⟨m,hn,fun h' sb => ⟨.ref D,H3,inv h' sb,rfl,q⟩⟩
theorem Inv.let_go {pins:List (Addr × Obj)} {σ σ2:St} {H H2:Hp} {s s2:Shared} {C:Addr} {h':Heap} (I:Inv X pins σ H s) (I2:Inv X pins σ2 H2 s2) (hC:s2.heap.objs.size≤C) (hf:H C = none) (sb:Heap.SameBut C s.heap h'):Inv X pins σ H { s with heap:=h' }:=by
 have nC:s2.heap.get? C = none:=Heap.get?_none_of_le hC
 have CF:C ∉ frs X.stack:=fun z => by
  obtain ⟨_,o,ho,_⟩:=I2.stack.mem z
  rw [nC] at ho; cases ho
 have off:∀ b o,s2.heap.get? b = some o→b≠C:=fun b o e z => by rw [z,nC] at e; cases e
 have un:Un (frs X.stack) [C] H H s.heap h':=⟨fun b o q _ _ hx => (sb.2 b fun z => hx (by simp [z])).trans q,fun b o q _ hb _ => ⟨o.slots,(sb.2 b fun z => CF (z▸hb)).trans q⟩,fun _ _ _ n _ => n,fun b o q hx => ⟨o,(sb.2 b fun z => hx (by simp [z])).trans q⟩,fun _ _ q => q,fun _ _ _ q => q,fun b ps q => ⟨#[],by rw [Array.append_empty]; exact q⟩⟩
 have hok:HOk X.prog X.w H h':=fun b o e => (I.hok b o e).stay (fun c u hc q => (sb.2 c fun z => by
  subst z
  rcases hc with z | z
  ·rw [z,e] at hf; cases hf
  ·rw [z] at hf; cases hf).trans q) (fun _ q => q) fun _ _ q => q
 refine I.call' (s':={ s with heap:=h' }) (ch:=[C]) rfl un hok I.bare fun b hb => ?_
 obtain rfl:b = C:=by simpa using hb
 obtain ⟨_,hn,_⟩:=I2.loc
 obtain ⟨_,_,_,hL,_⟩:=hn
 refine ⟨.inr (Nat.le_trans I2.sz hC),fun z => off _ _ hL z.symm,fun x c e => ?_,fun p hp => off _ _ (I2.pin p hp).1⟩
 obtain ⟨_,_,hc,_⟩:=I2.cell x c e
 exact off _ _ hc
theorem ps_setcomp {i:Nat} {x:Str} {pos' spos:Pos} (hN:X.N.Nodup) (hix:X.N[i]? = some x) (hx:Loc X.env.scope x) (S:CompScope X scope cl) (hi:PI X tg iter wi)
  (hg:∀ C s H fp pins,PG (X.blk scope cl C own s H fp pins) tg g) (ht:∀ C s H fp pins,PF (X.blk scope cl C own s H fp pins) ifs tc) (he:∀ C s H fp pins,PE (X.blk scope cl C own s H fp pins) elt te)
  (hs:∀ x,foldedSetIterable iter X.env x = pure x:=by intro _; rfl) (hsw:swapsWith (.ListComp elt [⟨tg,iter,ifs,0⟩] scope pos) (some (.Name x pos')) spos.line X.env = pure true:=by rfl)
  (hf:X.fn x = true∨X.env.scope.names.lookup x = some .local:=by first | exact .inl rfl | exact .inr rfl | assumption) :
  PS X (.Assign [.Name x pos'] (.ListComp elt [⟨tg,iter,ifs,0⟩] scope pos) spos) (tAsg (tComp wi own.length g tc te) (gName i)):=by
 intro pins s σ H D I h
 rw [exec_Assign_Name_used _ _ _ _ hsw]
 refine wpAny_bind (wpAny_standAt (wpAny_bind ?_))
 show wpAny _ X.A (do let _ ← comprehension (.ListComp elt [⟨tg,iter,ifs,0⟩] scope pos) scope X.env _ (newList []) false (eval iter X.env) (some (assign (.Name x pos') X.env))) _ _ s
 refine wpAny_bind (wpAny_mono (comp_core (pos:=pos) (use:=some (assign (.Name x pos') X.env)) (QV:=fun _ s' => SP X pins D .next s') S hi hg ht he hs I h fun Da C s2 H2 H3 s4 I2 hC hfree hn inv q => ?_) (fun _ s' hq => wpAny_pure (wpAny_pure hq)) fun _ _ e => e)
 obtain ⟨m,hn⟩:=hn
 have I4:Inv X pins σ H3 s4:=inv s4.heap (Heap.SameBut.refl _ _)
 have nC:s2.heap.get? C = none:=Heap.get?_none_of_le hC
 refine wpAny_assign_Name (store_ok2 I4 hN hix hx (show RelV (.ref Da) (.ref Da) from rfl) (fun s5 I5 ⟨a,sb,ha⟩ => ⟨m,hn.sameBut sb ?_,fun h' sb' => ⟨_,H3,I5.let_go I2 hC hfree sb',q⟩⟩) hf)
 rintro rfl
 rcases ha with z | z
 ·obtain ⟨_,hn2,_⟩:=I2.loc
  obtain ⟨_,_,_,hL,_⟩:=hn2
  rw [← z,nC] at hL; cases hL
 ·obtain ⟨_,_,hc,_⟩:=I2.cell x _ z
  rw [nC] at hc; cases hc
end
end L2
namespace L2
open PySem PySem.Spec PyProof.Rows
section
variable {X:Cx} {k:Nat} {f:Addr} {fd:FuncData} {ps:List Str} {sp:Sp} {E:St→XK} {x:Str} {p pos:Pos} {e:Expr} {es:List Expr} {t:TA}
end
section
variable {X:Cx} {pins pl:List (Addr × Obj)} {σ:St} {H:Hp} {s:Shared} {E:Value→Shared→Prop}
end
section
variable {X:Cx} {body:List Stmt} {b0:Stmt} {suite:List Stmt} {cn n:Str} {np hpos pos:Pos} {C0:Addr} {i:Nat} {tb:(St→XK)→TS} {th:TS}
end
end L2
namespace L2
open PySem PySem.Spec PyProof.Rows
section
variable {P:Program} {w:World} {K:PySem.W.Frag} {mg:Str→Option Value} {base:Heap} {k:Nat} {x m:Str} {C:Addr} {ps:List Str} {sp:Sp}
structure GoodF (P:Program) (w:World) (K:PySem.W.Frag) (mg:Str→Option Value) (base:Heap) (k:Nat) (x:Str) (ps:List Str) (sp:Sp) (c:Bool:=true):Prop where
 ex:∃ f fd,FnOk P w K mg base (XC P w) k f fd ps sp c∧Binds K fd ps []∧PySem.W.keepIn K (.ref f) = true∧mg x = some (.ref f)
end
section
variable {X:Cx} {k:Nat} {x m:Str} {C:Addr} {ps:List Str} {sp:Sp} {E:XK} {p pos apos:Pos} {e o:Expr} {es:List Expr} {ta:TE} {t:TA}
theorem pe_callG {cm:Bool} (G:GoodF X.prog X.w X.K X.mg X.base k x ps sp cm) (hr:RoomC cm k X.A) (hx:Passes (XC X.prog X.w) X E) (hg:Gl X x) (ha:PA X (e :: es) t)
  (hdb:(x == ("__debug__":Str)) = false:=by decide) (he:starEach (e :: es) X.env = (false,eval e X.env) :: starEach es X.env:=by rfl) (hpl:(backTo pos (starEach es X.env)).any (·.1) = false:=by rfl) :
  PE X (.Call (.Name x p) (e :: es) [] pos) (tCall sp [] E t):=by
 obtain ⟨f,fd,F,b,kp,mgx⟩:=G.ex
 exact pe_call F hr hg mgx kp b .nil hx ha hdb he hpl
end
inductive ClsV:V→Value→Prop where
 | ty (n:String):ClsV (.ty n) (.type n)
 | ref (a:Addr):ClsV (.ref a) (.ref a)
theorem ClsV.val {c:V} {cv u:Value} (h:ClsV c cv) (r:RelV c u):u = cv:=by cases h <;> exact r
section
variable {X:Cx}
theorem call_isi:CallR X (.builtin "isinstance") (fun xs H Q => ∃ x c t cv b,xs = [x,c]∧TyOf X.K H x t∧ClsV c cv∧PySem.W.kitOne X.K t cv = some b∧Q (.bl b) H):=by
 intro pins s σ H xs us Q I r h
 obtain ⟨x,c,t,cv,b,rfl,ty,hc,e,q⟩:=h
 obtain ⟨u,w,rfl,ru,rc⟩:=vals2 r
 obtain rfl:=hc.val rc
 exact isinst_ok I ru ty e fun tk => ⟨.bl b,H,I.tok tk,rfl,q⟩
end
section
variable {X:Cx} {elts:List Expr} {kk:Nat} {tpos:Pos}
end
section
variable {X:Cx} {tg:Expr}
end
end L2
namespace L2
open PySem PySem.Spec PyProof.Rows
theorem b_int:bootBuiltins "int" = some (.type "int"):=by decide +kernel
theorem b_bool:bootBuiltins "bool" = some (.type "bool"):=by decide +kernel
theorem b_list:bootBuiltins "list" = some (.type "list"):=by decide +kernel
theorem b_tuple:bootBuiltins "tuple" = some (.type "tuple"):=by decide +kernel
theorem b_dict:bootBuiltins "dict" = some (.type "dict"):=by decide +kernel
theorem b_isinstance:bootBuiltins "isinstance" = some (.builtin "isinstance"):=by decide +kernel
theorem b_min:bootBuiltins "min" = some (.builtin "min"):=by decide +kernel
theorem b_len:bootBuiltins "len" = some (.builtin "len"):=by decide +kernel
theorem passX0 {X:Cx}:Passes (XC X.prog X.w) X (fun _ _ _ => False):=by
 intro pins σ H s e s' I h
 obtain ⟨_,_,_,_,_,_,_,_,_,q⟩:=h
 exact q.elim
section
variable {X:Cx} {tg:Expr}
end
section
variable {X:Cx}
theorem call_min_list:CallR X (.builtin "min") (fun xs H Q => ∃ (p:Addr) (ns:List Int),xs = [.ref p]∧SqL X.K H p (ns.map V.int)∧0 < ns.length∧∀ M,M∈ns→(∀ a∈ns,M≤a)→Q (.int M) H):=by
 intro pins s σ H xs us Q I r h
 obtain ⟨p,ns,rfl,hq,hne,q⟩:=h
 obtain ⟨u,rfl,ru⟩:=vals1 r
 cases ru
 obtain ⟨its,rv,pl,_⟩:=I.list hq
 have hi:=intsAre_of rv
 obtain ⟨zs,e⟩:=hi.allInts.items
 have hns:ns = zs.toList.map (·.1):=by rw [← hi.numsOf,← nums_intItems,← e]
 have hsz:0 < zs.size:=by rw [hns,List.length_map,Array.length_toList] at hne; exact hne
 have hl:s.heap.IsList p (intItems zs):=e▸pl.isList
 refine min_on (I.hn.now I.hok) hl hsz fun v h' tk hv hk => ?_
 obtain ⟨t,rfl⟩:=intItems_at hv
 obtain ⟨h1,h2⟩:=argBest_lt (numAt zs) (zs.size - 1)
 refine ⟨.int _,H,I.kept hk,⟨t,rfl⟩,q _ ?_ fun a ha => ?_⟩
 ·rw [hns,numAt_eq]; exact getD_mem (by rw [List.length_map,Array.length_toList]; omega)
 ·rw [hns] at ha
  obtain ⟨j,hj,rfl⟩:=mem_getD ha
  rw [List.length_map,Array.length_toList] at hj
  rw [← numAt_eq]; exact h2 j (by omega)
theorem op_ne_nil (hu:X.A.units < cLine):OpR X (compareOp .NotEq) (fun x y H Q => ∃ a b xs,x = .ref a∧y = .ref b∧SqL X.K H a xs∧SqL X.K H b []∧Q (.bl (!xs.isEmpty)) H):=by
 intro pins s σ H x y v u Q I rx ry h
 obtain ⟨a,b,xs,rfl,rfl,ha,hb,q⟩:=h
 cases rx
 cases ry
 obtain ⟨its,rv,p,_⟩:=I.list ha
 obtain ⟨jts,rw',p',_⟩:=I.list hb
 cases rw'
 cases rv with
 | nil => exact EqBoolInt.of_rcne (SeqAt.RcNeAt.lists (e:=fun _ => true) p.isList p'.isList rfl hu (fun j h1 => absurd h1 (by simp))) ⟨.bl false,H,I,rfl,q⟩
 | cons r t => exact EqBoolInt.of_rcne (SeqAt.RcNeAt.lists_lengths p.isList p'.isList (by simp) hu) ⟨.bl true,H,I,rfl,q⟩
end
theorem cs_nil {X:Cx} {scope:Scope} {N:List Str} (hN:X.N = N) (hk:scope.kind = .function) (h1:(scope.names.all fun y => y.2 != .free && y.2 != .cell) = true) (h2:(scope.names.all fun y => y.2 != .local || scope.names.lookup y.1 == some .local) = true)
  (h3:(N.all fun x => scope.names.lookup x != some .local) = true):CompScope X scope [] where
 clos:=closureFor_none fun y hy => by
  have:=List.all_eq_true.mp h1 y hy
  simp only [Bool.and_eq_true,bne_iff_ne] at this
  exact this.1
 kind:=hk
 nocell:=fun y hy => by
  have:=List.all_eq_true.mp h1 y hy
  simp only [Bool.and_eq_true,bne_iff_ne] at this
  exact this.2
 names:=fun y hy e => by
  have:=List.all_eq_true.mp h2 y hy
  rw [e] at this
  simpa using this
 sub:=fun x c e => by cases e
 has:=fun x e => by
  have:=List.all_eq_true.mp h1 _ (lookup_mem e)
  simp at this
 apart:=fun x hx => by
  have:=List.all_eq_true.mp h3 x (hN▸hx)
  simpa using this
 outer:=fun x e => by
  have:=List.all_eq_true.mp h1 _ (lookup_mem e)
  simp at this
theorem cs_one {X:Cx} {scope:Scope} {N:List Str} {n:Str} {a:Addr} (hN:X.N = N) (hk:scope.kind = .function) (hcl:closureFor scope X.env = pure [(n,a)]) (hsub:X.env.cells.lookup n = some a) (hout:X.env.kindOf n = some .cell)
  (h1:(scope.names.all fun y => y.2 != .cell && (y.2 != .free || y.1 == n)) = true) (h2:(scope.names.all fun y => y.2 != .local || scope.names.lookup y.1 == some .local) = true)
  (h3:(N.all fun x => scope.names.lookup x != some .local) = true):CompScope X scope [(n,a)] where
 clos:=hcl
 kind:=hk
 nocell:=fun y hy => by
  have:=List.all_eq_true.mp h1 y hy
  simp only [Bool.and_eq_true,bne_iff_ne] at this
  exact this.1
 names:=fun y hy e => by
  have:=List.all_eq_true.mp h2 y hy
  rw [e] at this
  simpa using this
 sub:=fun x c e => by
  rw [List.lookup_cons] at e
  split at e
  ·rename_i q
   obtain rfl:x = n:=by simpa using q
   cases e; exact hsub
  ·cases e
 has:=fun x e => by
  have:=List.all_eq_true.mp h1 _ (lookup_mem e)
  simp at this
  exact ⟨a,by rw [this]; simp [List.lookup_cons]⟩
 apart:=fun x hx => by
  have:=List.all_eq_true.mp h3 x (hN▸hx)
  simpa using this
 outer:=fun x e => by
  have:=List.all_eq_true.mp h1 _ (lookup_mem e)
  simp at this
  exact .inl (this▸hout)
end L2
namespace L2
open PySem PySem.Spec PyProof.Rows PySem.W
section
variable {prog:Program} {w:World} {A:Around} {E:Value→Shared→Prop} {s:Shared} {K:PySem.W.Frag} {x C:Addr}
end
section
variable {K:PySem.W.Frag} {x C:Addr}
end
section
variable {X:Cx}
theorem refs_of:∀ {cs:List Addr} {us:List Value},Vals (cs.map V.ref) us→us = cs.map Value.ref
 | [],_,.nil => rfl
 | _ :: _,_,.cons r t => by cases r; rw [refs_of t]; rfl
theorem ix_listK {K:PySem.W.Frag} (h:X.K = K):IxR X (rIxL K):=by
 subst h; exact ix_list
theorem ix_tupK {K:PySem.W.Frag} (h:X.K = K):IxR X (rIxT K):=by
 subst h; exact ix_tup
end
end L2
namespace L2
open PySem PySem.Spec PyProof.Rows PySem.W
section
variable {X:Cx}
end
end L2
namespace L2
open PySem PySem.Spec PyProof.Rows PySem.W
section
variable {X:Cx} {tg:Expr}
end
end L2
namespace L2
open PySem PySem.Spec PyProof.Rows PySem.W
section
variable {X:Cx} {e:Expr} {te:TE} {pos p2 q1 q2:Pos} {j1 j2:Nat}
end
end L2
namespace L2
open PySem PySem.Spec PyProof.Rows PySem.W
section
variable {X:Cx}
end
section
variable {X:Cx}
end
end L2
namespace Wd
open PySem L2 PySem.NumText PySem.W
end Wd
namespace L2
open PySem PySem.Spec PyProof.Rows
end L2
namespace L2
open PySem PySem.Spec PyProof.Rows PySem.W
theorem all_same {α:Type} [DecidableEq α] (d:α) (xs ys:List α):((List.range (min xs.length ys.length)).all (fun j => decide (xs.getD j d = ys.getD j d)) && xs.length == ys.length) = decide (xs = ys):=by
 rw [Bool.eq_iff_iff,Bool.and_eq_true,List.all_eq_true,decide_eq_true_iff,beq_iff_eq]
 constructor
 ·rintro ⟨h,hl⟩
  refine List.ext_getElem hl fun j h1 h2 => ?_
  have:=of_decide_eq_true (h j (List.mem_range.mpr (by omega)))
  rwa [List.getD_eq_getElem?_getD,List.getD_eq_getElem?_getD,List.getElem?_eq_getElem h1,List.getElem?_eq_getElem h2] at this
 ·rintro rfl
  exact ⟨fun j _ => decide_eq_true rfl,rfl⟩
structure Tups (K:PySem.W.Frag) (H:Hp) (ps:List Addr) (nss:List (List Int)):Prop where
 len:ps.length = nss.length
 at_:∀ (i:Nat) (p:Addr) (ns:List Int),ps[i]? = some p→nss[i]? = some ns→SqT K H p (ns.map V.int)
section
variable {X:Cx} {pins:List (Addr × Obj)} {σ:St} {H:Hp} {s:Shared}
theorem eqAt_ints {A:Around} {its its2:List Value} {ns ms:List Int} (r1:Vals (ns.map V.int) its) (r2:Vals (ms.map V.int) its2) (j:Nat) (h1:j < its.toArray.size) (h2:j < its2.toArray.size) :
  SeqAt.EqAt A s its.toArray[j] its2.toArray[j] (decide (ns.getD j 0 = ms.getD j 0)):=by
 have l1:=r1.length
 have l2:=r2.length
 rw [List.length_map] at l1 l2
 rw [List.size_toArray] at h1 h2
 have g1:j < ns.length:=by omega
 have g2:j < ms.length:=by omega
 obtain ⟨u,hu,ru⟩:=r1.get (i:=j) (x:=V.int ns[j]) (by simp [g1])
 obtain ⟨v,hv,rv⟩:=r2.get (i:=j) (x:=V.int ms[j]) (by simp [g2])
 obtain ⟨t,rfl⟩:=ru
 obtain ⟨t2,rfl⟩:=rv
 have e1:its.toArray[j] = .int ns[j] t:=by
  rw [List.getElem_toArray]
  exact Option.some.inj ((List.getElem?_eq_getElem h1).symm.trans hu)
 have e2:its2.toArray[j] = .int ms[j] t2:=by
  rw [List.getElem_toArray]
  exact Option.some.inj ((List.getElem?_eq_getElem h2).symm.trans hv)
 rw [e1,e2]
 have e3:(ns[j] == ms[j]) = decide (ns.getD j 0 = ms.getD j 0):=by
  rw [List.getD_eq_getElem?_getD,List.getD_eq_getElem?_getD,List.getElem?_eq_getElem g1,List.getElem?_eq_getElem g2]
  rw [Bool.eq_iff_iff,beq_iff_eq,decide_eq_true_iff]; rfl
 rw [← e3]
 exact SeqAt.EqAt.int_int _ _ _ _
theorem tups_bool {its its2:List Value} {ns ms:List Int} (r1:Vals (ns.map V.int) its) (r2:Vals (ms.map V.int) its2) :
  ((List.range (min its.toArray.size its2.toArray.size)).all (fun j => decide (ns.getD j 0 = ms.getD j 0)) && its.toArray.size == its2.toArray.size) = decide (ns = ms):=by
 have l1:=r1.length
 have l2:=r2.length
 rw [List.length_map] at l1 l2
 rw [List.size_toArray,List.size_toArray,← l1,← l2]
 exact all_same 0 ns ms
theorem eqAt_tup (I:Inv X pins σ H s) {A:Around} {a b:Addr} {ns ms:List Int} (hu:A.units < cLine) (ha:SqT X.K H a (ns.map V.int)) (hb:SqT X.K H b (ms.map V.int)):SeqAt.EqAt A s (.ref a) (.ref b) (decide (ns = ms)):=by
 by_cases hab:a = b
 ·subst hab
  have e:=I.tuple_inj ha hb
  have e2:ns = ms:=(List.map_inj_right (f:=V.int) fun x y h => V.int.inj h).mp e
  rw [decide_eq_true e2]
  exact SeqAt.EqAt.same _
 ·obtain ⟨its,r1,p1,_⟩:=I.tuple ha
  obtain ⟨its2,r2,p2,_⟩:=I.tuple hb
  rw [← tups_bool r1 r2]
  exact SeqAt.EqAt.of_refs hab (SeqAt.RcAt.tuples p1 p2 hu fun j h1 h2 => eqAt_ints r1 r2 j h1 h2)
theorem op_neT (hu:X.A.units < cLine):OpR X (compareOp .NotEq) (fun x y H Q => ∃ (a b:Addr) (ns ms:List Int),x = .ref a∧y = .ref b∧SqT X.K H a (ns.map V.int)∧SqT X.K H b (ms.map V.int)∧Q (.bl (!decide (ns = ms))) H):=by
 intro pins s σ H x y v u Q I rx ry h
 obtain ⟨a,b,ns,ms,rfl,rfl,ha,hb,q⟩:=h
 cases rx
 cases ry
 obtain ⟨its,r1,p1,_⟩:=I.tuple ha
 obtain ⟨its2,r2,p2,_⟩:=I.tuple hb
 rw [← tups_bool r1 r2] at q
 exact EqBoolInt.of_rcne (SeqAt.RcNeAt.tuples p1 p2 hu fun j h1 h2 => eqAt_ints r1 r2 j h1 h2) ⟨.bl _,H,I,rfl,q⟩
theorem eqAt_refs (I:Inv X pins σ H s) {A:Around} {its its2:List Value} {ps qs:List Addr} {nss mss:List (List Int)} (hu:A.units < cLine) (T1:Tups X.K H ps nss) (T2:Tups X.K H qs mss) (r1:Vals (ps.map V.ref) its) (r2:Vals (qs.map V.ref) its2) (j:Nat) (h1:j < its.toArray.size) (h2:j < its2.toArray.size) :
  SeqAt.EqAt A s its.toArray[j] its2.toArray[j] (decide (nss.getD j [] = mss.getD j [])):=by
 have e1:=refs_of r1
 have e2:=refs_of r2
 subst e1 e2
 rw [List.size_toArray,List.length_map] at h1 h2
 have g1:j < nss.length:=by rw [← T1.len]; exact h1
 have g2:j < mss.length:=by rw [← T2.len]; exact h2
 rw [List.getElem_toArray,List.getElem_toArray,List.getElem_map,List.getElem_map,List.getD_eq_getElem?_getD,List.getD_eq_getElem?_getD,List.getElem?_eq_getElem g1,List.getElem?_eq_getElem g2]
 exact eqAt_tup I hu (T1.at_ j _ _ (List.getElem?_eq_getElem h1) (List.getElem?_eq_getElem g1)) (T2.at_ j _ _ (List.getElem?_eq_getElem h2) (List.getElem?_eq_getElem g2))
theorem lists_bool {its its2:List Value} {ps qs:List Addr} {nss mss:List (List Int)} (l1:ps.length = nss.length) (l2:qs.length = mss.length) (r1:Vals (ps.map V.ref) its) (r2:Vals (qs.map V.ref) its2) (hz:its.toArray.size = its2.toArray.size) :
  (List.range its.toArray.size).all (fun j => decide (nss.getD j [] = mss.getD j [])) = decide (nss = mss):=by
 have e1:=r1.length
 have e2:=r2.length
 rw [List.length_map] at e1 e2
 rw [List.size_toArray] at hz ⊢
 rw [List.size_toArray] at hz
 rw [← all_same [] nss mss,show min nss.length mss.length = its.length by omega,show (nss.length == mss.length) = true by rw [beq_iff_eq]; omega,Bool.and_true]
end
theorem comp_range {lo:Int} {n:Nat} {g:TG} {tc:TT} {te:TE} {k:Nat} {σ:St} {H:Hp} {Q:VK} (Pv:Addr→Nat→List V→Hp→Prop) (hn:n≤sizeLine)
  (h0:∀ D,H D = none→Pv D 0 [] (upd H D (.lst []))) (hD:∀ D i ys H',Pv D i ys H'→H' D = some (.lst ys)∧ys.length = i)
  (step:∀ D i ys H' (Qy:VK) (Qn:Hp→Prop),i < n→Pv D i ys H'→(∀ y H4,H4 D = some (.lst ys)→Pv D (i + 1) (ys ++ [y]) (upd H4 D (.lst (ys ++ [y])))→Qy y H4) →
   g (.int (lo + i)) (σ ++ List.replicate k none) H' fun σ2 H2 => (∃ zs,σ2 = σ ++ zs∧zs.length = k)∧tc σ2 H2 fun b H3 => if b = true then te σ2 H3 Qy else Qn H3)
  (q:∀ D ys H',H D = none→Pv D n ys H'→Q (.ref D) H'):compT k g tc te σ Q (Itr lo n) H:=by
 intro D hDn
 refine ⟨fun i m ys H' => m = n - i∧i≤n∧Pv D i ys H',⟨n,by simp,Nat.zero_le _,h0 D hDn⟩,?_⟩
 rintro i m ys H' ⟨rfl,hi,p⟩
 obtain ⟨e,hl⟩:=hD D i ys H' p
 refine ⟨e,?_⟩
 by_cases hlt:i < n
 ·refine .inr ⟨hlt,by omega,fun x H2 y => ?_⟩
  obtain ⟨rfl,rfl⟩:=y
  exact step D i ys H2 _ _ hlt p fun y H4 e4 p4 => ⟨e4,n - (i + 1),by omega,rfl,hlt,p4⟩
 ·obtain rfl:i = n:=by omega
  exact .inl ⟨Nat.le_refl _,q D ys H' hDn p⟩
theorem comp_list {K:PySem.W.Frag} {a:Addr} {xs:List V} {g:TG} {tc:TT} {te:TE} {k:Nat} {σ:St} {H:Hp} {Q:VK} (Pv:Addr→Nat→List V→Hp→Prop) (hz:xs.length≤sizeLine)
  (h0:∀ D,H D = none→Pv D 0 [] (upd H D (.lst []))) (hD:∀ D i ys H',Pv D i ys H'→H' D = some (.lst ys)∧ys.length≤i∧SqL K H' a xs)
  (step:∀ D i x ys H' (Qy:VK) (Qn:Hp→Prop),xs[i]? = some x→Pv D i ys H'→(∀ y H4,H4 D = some (.lst ys)→Pv D (i + 1) (ys ++ [y]) (upd H4 D (.lst (ys ++ [y])))→Qy y H4)→(∀ H4,Pv D (i + 1) ys H4→Qn H4) →
   g x (σ ++ List.replicate k none) H' fun σ2 H2 => (∃ zs,σ2 = σ ++ zs∧zs.length = k)∧tc σ2 H2 fun b H3 => if b = true then te σ2 H3 Qy else Qn H3)
  (q:∀ D ys H',H D = none→Pv D xs.length ys H'→Q (.ref D) H'):compT k g tc te σ Q (Itl K a) H:=by
 intro D hDn
 refine ⟨fun i m ys H' => m = xs.length - i∧i≤xs.length∧Pv D i ys H',⟨xs.length,by simp,Nat.zero_le _,h0 D hDn⟩,?_⟩
 rintro i m ys H' ⟨rfl,hi,p⟩
 obtain ⟨e,hl,q1⟩:=hD D i ys H' p
 refine ⟨e,?_⟩
 by_cases hlt:i < xs.length
 ·refine .inr ⟨⟨xs,xs[i],q1,by simp [hlt]⟩,by omega,fun x H2 y => ?_⟩
  obtain ⟨rfl,y⟩:=y
  exact step D i x ys H2 _ _ (y xs q1) p (fun y H4 e4 p4 => ⟨e4,xs.length - (i + 1),by omega,rfl,hlt,p4⟩) fun H4 p4 => ⟨xs.length - (i + 1),by omega,rfl,hlt,p4⟩
 ·obtain rfl:i = xs.length:=by omega
  exact .inl ⟨⟨xs,q1,Nat.le_refl _⟩,q D ys H' hDn p⟩
section
variable {X:Cx} {K:PySem.W.Frag}
theorem call_len_seqK (h:X.K = K):CallR X (.builtin "len") (fun xs H Q => ∃ p ys,xs = [.ref p]∧(SqL K H p ys∨SqT K H p ys)∧Q (.int ys.length) H):=by
 subst h; exact call_len_seq
end
end L2
namespace Wd
open PySem L2 PySem.NumText PySem.W
end Wd
namespace L2
open PySem PySem.Spec PyProof.Rows
section
variable {M:Model} {A:Around} {E:Value→Shared→Prop} {s:Shared} {base:Heap} {env:Env} {outer:List Env} {L e:Addr} {cls:Value} {a0:Value × Value}
end
section
variable {X:Cx} {pins:List (Addr × Obj)} {σ:St} {H H':Hp} {s s':Shared} {ea C:Addr} {a0:Value × Value} {h':Heap} {ch fp:List Addr}
end
section
variable {P:Program} {w:World} {K:PySem.W.Frag} {mg:Str→Option Value} {base:Heap} {N ps:List Str} {qual:Str} {scope:Scope} {f:Addr} {cd:Value} {A:Around} {outer:List Env} {s:Shared} {H:Hp} {E:XK}
end
section
variable {X:Cx} {scope:Scope} {cl:List (Str × Addr)} {own:List Str} {pins pn pl:List (Addr × Obj)} {σ:St} {H H2:Hp} {s s2:Shared} {fp:List Addr} {C:Addr} {xe:Value→Shared→Prop}
end
section
variable {X:Cx} {tg elt iter:Expr} {ifs:List Expr} {scope:Scope} {cl:List (Str × Addr)} {own:List Str} {wi:TI} {g:TG} {tc:TT} {te:TE} {pos:Pos}
end
end L2
namespace L2
open PySem PySem.Spec PyProof.Rows
section
variable {prog:Program} {w:World} {A:Around} {E:Value→Shared→Prop} {s:Shared} {z TI TO i1 i2 i3 l1 l2 l3:Addr} {xs ys zs:Array Value} {k:Nat}
end
section
variable {X:Cx} {elts:List Expr} {kk:Nat} {tpos:Pos}
end
end L2
namespace L2
open PySem PySem.Spec PyProof.Rows
section
variable {X:Cx} {body:List Stmt} {b0:Stmt} {suite:List Stmt} {cn:Str} {np hpos pos:Pos} {C0:Addr} {tb:XK→TS} {th:TS}
end
section
variable {prog:Program} {w:World} {A:Around} {E:Value→Shared→Prop} {s:Shared}
end
section
variable {X:Cx}
def rInsert:V→List V→Hp→VK→Prop:=fun x vs H Q => ∃ l xs y,∃ i:Int,x = .ref l∧vs = [.int i,y]∧H l = some (.lst xs)∧xs.length < sizeLine∧0≤i∧i < 2 ^ 63∧Q .non (upd H l (.lst (xs.take (min i.toNat xs.length) ++ [y] ++ xs.drop (min i.toNat xs.length))))
theorem mt_insert:MtM X "list.insert" rInsert:=by
 intro pins s σ H x vs v us Q I rx rv h
 obtain ⟨l,xs,y,i,rfl,rfl,hH,hz,h0,hi,q⟩:=h
 cases rx
 cases rv with
 | cons ra rr =>
  cases rr with
  | cons rb rr =>
   cases rr
   obtain ⟨t,rfl⟩:=ra
   rename_i yv
   obtain ⟨z,its,n,r,hl,e⟩:=I.lstM hH
   have hlen:=r.length
   have hfit:¬(!Builtin.List.listFitsIndex i) = true:=by rw [fitsIndex_both (by omega) hi]; decide
   have hm:=AutoListH.list_insert_list_int_val_1 l its.toArray n i t yv hfit (by rw [List.size_toArray]; omega)
   refine call_meets F.slot_list_insert ⟨_,e,rfl⟩ F.entry_list_insert (F.args_list_insert_3 _ _ _) hm ⟨e,?_⟩
   refine ⟨.non,_,I.lset (its':=its.take (min i.toNat xs.length) ++ [yv] ++ its.drop (min i.toNat xs.length)) hH e ?_ (((r.take _).append (.cons rb .nil)).append (r.drop _)) ?_,rfl,q⟩
   ·dsimp only
    rw [if_neg (by omega),List.size_toArray,hlen]
    apply Array.toList_inj.mp
    simp only [Array.toList_append,Array.toList_push,Array.toList_extract,List.append_assoc]
    have e1:its.extract 0 (min i.toNat its.length) = its.take (min i.toNat its.length):=by simp [List.extract_eq_drop_take]
    have e2:its.extract (min i.toNat its.length) = its.drop (min i.toNat its.length):=by
     rw [List.extract_eq_drop_take]
     exact List.take_of_length_le (by rw [List.length_drop]; omega)
    rw [e1,e2]
   ·rw [List.length_append,List.length_append,List.length_take,List.length_drop,List.length_singleton]
    omega
end
end L2
namespace L2
open PySem PySem.Spec PyProof.Rows
abbrev Cx.blkN (X:Cx) (N0:List Str) (scope:Scope) (cl:List (Str × Addr)) (C:Addr) (own:List Str) (s:Shared) (H:Hp) (fp:List Addr) (pins:List (Addr × Obj)):Cx :=
 { X.blk scope cl C own s H fp pins with N:=N0 ++ own }
structure CompScopeN (X:Cx) (N0:List Str) (scope:Scope) (cl:List (Str × Addr)):Prop where
 clos:closureFor scope X.env = pure cl
 kind:scope.kind = .function
 nocell:∀ y∈scope.names,y.2≠.cell
 names:∀ y∈scope.names,y.2 = .local→scope.names.lookup y.1 = some .local
 sub:∀ x c,cl.lookup x = some c→X.env.cells.lookup x = some c
 has:∀ x,scope.names.lookup x = some .free→∃ c,cl.lookup x = some c
 outer:∀ x,scope.names.lookup x = some .free→X.env.kindOf x = some .cell∨X.env.kindOf x = some .free
 lenN:N0.length = X.N.length
 nm:∀ (i:Nat) (x:Str),N0[i]? = some x→(X.N[i]? = some x∧scope.names.lookup x≠some .local)∨scope.names.lookup x = none
theorem cs_nilN {X:Cx} {N0:List Str} {scope:Scope} {N:List Str} (hN:X.N = N) (hk:scope.kind = .function) (h1:(scope.names.all fun y => y.2 != .free && y.2 != .cell) = true) (h2:(scope.names.all fun y => y.2 != .local || scope.names.lookup y.1 == some .local) = true)
  (hl:N0.length = N.length) (h3:((N0.zip N).all fun y => (y.1 == y.2 && scope.names.lookup y.1 != some .local) || scope.names.lookup y.1 == none) = true):CompScopeN X N0 scope [] where
 clos:=closureFor_none fun y hy => by
  have:=List.all_eq_true.mp h1 y hy
  simp only [Bool.and_eq_true,bne_iff_ne] at this
  exact this.1
 kind:=hk
 nocell:=fun y hy => by
  have:=List.all_eq_true.mp h1 y hy
  simp only [Bool.and_eq_true,bne_iff_ne] at this
  exact this.2
 names:=fun y hy e => by
  have:=List.all_eq_true.mp h2 y hy
  rw [e] at this
  simpa using this
 sub:=fun x c e => by cases e
 has:=fun x e => by
  have:=List.all_eq_true.mp h1 _ (lookup_mem e)
  simp at this
 outer:=fun x e => by
  have:=List.all_eq_true.mp h1 _ (lookup_mem e)
  simp at this
 lenN:=by rw [hN]; exact hl
 nm:=fun i x e => by
  have hi:i < N.length:=by rw [← hl]; exact (List.getElem?_eq_some_iff.mp e).1
  have hz:(N0.zip N)[i]? = some (x,N[i]):=by rw [List.getElem?_zip_eq_some]; exact ⟨e,List.getElem?_eq_getElem hi⟩
  have:=List.all_eq_true.mp h3 _ (List.mem_of_getElem? hz)
  simp only [Bool.or_eq_true,Bool.and_eq_true,beq_iff_eq,bne_iff_ne] at this
  rcases this with ⟨q1,q2⟩ | q
  ·exact .inl ⟨by rw [hN,List.getElem?_eq_getElem hi,← q1],q2⟩
  ·exact .inr q
section
variable {X:Cx} {scope:Scope} {cl:List (Str × Addr)} {own N0:List Str} {pins:List (Addr × Obj)} {σ:St} {H2 H3:Hp} {s2:Shared} {fp:List Addr} {C:Addr} {h1:Heap}
theorem blkN_in (S:CompScopeN X N0 scope cl) (I2:Inv X pins σ H2 s2) (f2:∀ b∈fp,FpOk X pins H2 b) (hlt:∀ b∈fp,b < s2.heap.objs.size) (hC:s2.heap.objs.size≤C) {m:Str→Option Value} (hns:h1.Ns C m)
  (keep:∀ b o,s2.heap.get? b = some o→h1.get? b = some o) (hH:∀ b o,s2.heap.get? b = some o→H2 b = none→H3 b = none) (un:Un (frs X.stack) fp H2 H3 s2.heap h1) (hok:HOk X.prog X.w H3 h1) (hCf:H3 C = none) {tk:Nat} :
  Inv (X.blkN N0 scope cl C own s2 H2 fp pins) [] (σ ++ List.replicate own.length none) H3 { s2 with heap:=h1,toks:=tk }:=by
 have neC:∀ b o,s2.heap.get? b = some o→b≠C:=fun b o e => Nat.ne_of_lt (Nat.lt_of_lt_of_le (Heap.lt_size e) hC)
 have kof:∀ x,(compEnvC scope cl C X.env).kindOf x = (scope.names.lookup x).map fun k => if (k == NameKind.free && X.env.scope.kind == .function && X.env.kindOf x == some .cell) then NameKind.cell else k:=fun x => lookup_relab
 have isfree:∀ x,((compEnvC scope cl C X.env).kindOf x = some .cell∨(compEnvC scope cl C X.env).kindOf x = some .free)→scope.names.lookup x = some .free:=fun x hx => by
  rw [kof x] at hx
  cases q:scope.names.lookup x with
  | none => rw [q] at hx; rcases hx with z | z <;> cases z
  | some k =>
   rw [q] at hx
   have nc:=S.nocell _ (lookup_mem q)
   cases k <;> simp_all
 refine ⟨⟨I2.ok.mod,S.kind,I2.ok.glob,I2.ok.blt,hC,fun x y c e1 e2 => I2.ok.inj x y c (S.sub x c e1) (S.sub y c e2),fun x hx => S.has x (isfree x hx),fun x c z _ => (by cases z),I2.ok.hd,I2.ok.frames,.inl rfl,
  fun b hb => ⟨Nat.ne_of_lt (Nat.lt_of_lt_of_le (hlt b hb) hC),fun x c e => (f2 b hb).2.2.2.2.1 x c (S.sub x c e)⟩,fun b o e => ⟨(I2.bs b o e).1,(I2.bs b o e).2⟩,Nat.le_trans I2.ok.bsz I2.sz,fun b o e hb => ?_,fun b hb => stk_no I2 (f2 b hb).2.1 (f2 b hb).2.2.1,I2.stack,I2.stkFree⟩,
  rfl,I2.bare,un,⟨m,hns,fun i x v e1 e2 e3 => ?_⟩,fun x c e => ?_,hCf,fun x c e => ?_,fun p hp => ?_,hok,?_,I2.hn.mono un.frzs⟩
 ·rcases (f2 b hb).2.2.2.1 with z | z
  ·exact I2.ok.noex b o e z
  ·exact absurd (Nat.lt_of_lt_of_le (Nat.lt_of_lt_of_le (Heap.lt_size e) I2.ok.bsz) z) (Nat.lt_irrefl _)
 ·
  have hi:i < σ.length:=by
   apply Classical.byContradiction
   intro hn
   rw [List.getElem?_append_right (by omega),List.getElem?_replicate] at e2
   split at e2 <;> cases e2
  rw [List.getElem?_append_left hi] at e2
  have hi2:i < N0.length:=by rw [S.lenN,← I2.len]; exact hi
  have e0':N0[i]? = some x:=by rw [← List.getElem?_append_left (l₂:=own) hi2]; exact e1
  have hnm:=S.nm i x e0'
  have e3':(compEnvC scope cl C X.env).kindOf x = some .local∨(compEnvC scope cl C X.env).kindOf x = some .cell∨(compEnvC scope cl C X.env).kindOf x = some .free:=e3
  have hnm:X.N[i]? = some x∧scope.names.lookup x≠some .local:=hnm.resolve_right fun z => by
   have k0:=kof x
   rw [z] at k0
   rcases e3' with q | q | q <;> (rw [k0] at q; cases q)
  have e1':X.N[i]? = some x:=hnm.1
  have nl:(compEnvC scope cl C X.env).kindOf x≠some .local:=fun z => by
   rw [kof x] at z
   cases q:scope.names.lookup x with
   | none => rw [q] at z; cases z
   | some k =>
    rw [q,Option.map_some] at z
    have na:=hnm.2
    rw [q] at na
    cases k <;> first
     | exact na rfl
     | (have z':=Option.some.inj z; split at z' <;> cases z')
  have hcf:(compEnvC scope cl C X.env).kindOf x = some .cell∨(compEnvC scope cl C X.env).kindOf x = some .free:=e3'.resolve_left nl
  obtain ⟨c,hc⟩:=S.has x (isfree x hcf)
  obtain ⟨m0,hn0,hl0⟩:=I2.loc
  have hcX:=S.sub x c hc
  have ho:=S.outer x (isfree x hcf)
  obtain ⟨u,r,l⟩:=hl0 i x v e1' e2 (.inr ho)
  refine ⟨u,r,.inr ⟨hcf,c,hc,?_⟩⟩
  rcases l with ⟨z,_⟩ | ⟨_,c',hc',oc,hoc,hdc⟩
  ·rcases ho with y | y <;> (rw [y] at z; cases z)
  ·rw [hcX] at hc'
   cases hc'
   exact ⟨oc,keep _ _ hoc,hdc⟩
 ·obtain ⟨v,⟨oc,hoc,hdc⟩⟩:=I2.cell x c (S.sub x c e)
  exact ⟨v,oc,keep _ _ hoc,hdc⟩
 ·obtain ⟨v,⟨oc,hoc,hdc⟩⟩:=I2.cell x c (S.sub x c e)
  exact hH c oc hoc (I2.freeC x c (S.sub x c e))
 ·obtain ⟨q1,q2,q3,q4,q5⟩:=I2.pin p (by simpa using hp)
  exact ⟨keep _ _ q1,hH _ _ q1 q2,neC _ _ q1,stk_no I2 q3 q4,q5⟩
 ·show (σ ++ List.replicate own.length none).length = (N0 ++ own).length
  rw [List.length_append,List.length_append,List.length_replicate,I2.len,S.lenN]
theorem blkN_out (I2:Inv X pins σ H2 s2) (f2:∀ b∈fp,FpOk X pins H2 b) (hC:s2.heap.objs.size≤C) {pl:List (Addr × Obj)} {σ':St} {s4:Shared} {h':Heap} (I4:Inv (X.blkN N0 scope cl C own s2 H2 fp pins) pl σ' H3 s4) (sb:Heap.SameBut C s4.heap h') :
  Inv X pins σ H3 { s4 with heap:=h' }:=by
 have un:Un (frs X.stack) fp H2 H3 s2.heap s4.heap:=I4.base
 have nC:s2.heap.get? C = none:=Heap.get?_none_of_le hC
 have CF:C ∉ frs X.stack:=fun z => by
  obtain ⟨_,o,ho,_⟩:=I2.stack.mem z
  rw [nC] at ho; cases ho
 have un2:Un (frs X.stack) fp H2 H3 s2.heap h':=un.late (ch:=[C]) (fun b hb => by
  obtain rfl:b = C:=by simpa using hb
  exact nC) (fun b o _ hb e => (sb.2 b (by simpa using hb)).trans e) fun b o hb e => ⟨o.slots,(sb.2 b fun z => CF (z▸hb)).trans e⟩
 have hf:H3 C = none:=I4.free
 have hok:HOk X.prog X.w H3 h':=fun b o e => (I4.hok b o e).stay (fun c u hc q => (sb.2 c fun z => by
  subst z
  rcases hc with z | z
  ·rw [z,e] at hf; cases hf
  ·rw [z] at hf; cases hf).trans q) (fun _ q => q) fun _ _ q => q
 exact I2.call' (s':={ s4 with heap:=h' }) (ch:=fp) I4.os un2 hok I4.bare fun b hb => ⟨(f2 b hb).2.2.2.1,(f2 b hb).2.1,(f2 b hb).2.2.2.2.1,(f2 b hb).2.2.2.2.2⟩
end
section
variable {X:Cx} {tg elt iter:Expr} {ifs:List Expr} {scope:Scope} {cl:List (Str × Addr)} {own N0:List Str} {wi:TI} {g:TG} {tc:TT} {te:TE} {pos:Pos}
theorem comp_coreN {p2:Pos} {use:Option (Value→Sem Unit)} {QV:Value→Shared→Prop} {pins:List (Addr × Obj)} {s:Shared} {σ:St} {H:Hp} {Q:VK} (S:CompScopeN X N0 scope cl) (hi:PI X tg iter wi)
  (hg:∀ C s H fp pins,PG (X.blkN N0 scope cl C own s H fp pins) tg g) (ht:∀ C s H fp pins,PF (X.blkN N0 scope cl C own s H fp pins) ifs tc) (he:∀ C s H fp pins,PE (X.blkN N0 scope cl C own s H fp pins) elt te)
  (hs:∀ x,foldedSetIterable iter X.env x = pure x) (I:Inv X pins σ H s) (h:tComp wi own.length g tc te σ H Q)
  (fin:∀ D C s2 H2 H3 s4,Inv X pins σ H2 s2→s2.heap.objs.size≤C→H3 C = none→(∃ m,s4.heap.Ns C m)→(∀ h',Heap.SameBut C s4.heap h'→Inv X pins σ H3 { s4 with heap:=h' })→Q (.ref D) H3→compPost (model X.prog X.w) X.A X.xe use QV (.ref D) C (.ok .next) s4) :
  wpAny (model X.prog X.w) X.A (comprehension (.ListComp elt [⟨tg,iter,ifs,0⟩] scope pos) scope X.env p2 (newList []) false (eval iter X.env) use) QV X.xe s:=by
 refine wpAny_comprehension_free (use:=use) rfl hs S.clos S.kind S.names (thn (hi pins s σ H _ I h) fun v s1 h1 => thn h1 fun itv s2 h2 => ?_)
 obtain ⟨it,fp,tn,J,H2,e,I2,T,st2,f2,R⟩:=h2
 subst e
 obtain ⟨nm,T,hc⟩:=T
 refine wpAny_newObj_type (wpAny_newFunctionEnv S.nocell (by intro y hy; simp at hy) (fun h1 hns hsb => ?_) S.kind)
 dsimp only at hns hsb ⊢
 have hlt:∀ b∈fp,b < s2.heap.objs.size:=fun b hb => by
  obtain ⟨o,ho,_⟩:=T.obj 0 _ st2 b hb
  exact Heap.lt_size ho
 generalize hp:s2.heap.push { cls:=.type "list",dict:=none,data:=.seq ([]:List Value).toArray } = hl at hns hsb ⊢
 have hC:hl.objs.size = s2.heap.objs.size + 1:=by rw [← hp,Heap.size_push]
 have hCle:s2.heap.objs.size≤hl.objs.size:=by rw [hC]; exact Nat.le_succ _
 have hDC:s2.heap.objs.size≠hl.objs.size:=by rw [hC]; exact Nat.ne_of_lt (Nat.lt_succ_self _)
 have old:∀ b o,hl.get? b = some o→h1.get? b = some o:=fun b o e => hsb.extBut b o (Nat.ne_of_lt (Heap.lt_size e)) (Heap.get?_push_of_some _ e)
 have old2:∀ b o,s2.heap.get? b = some o→h1.get? b = some o:=fun b o e => old b o (hp▸Heap.get?_push_of_some _ e)
 have Dn:H2 s2.heap.objs.size = none:=I2.fresh
 have Cn:H2 hl.objs.size = none:=I2.hok.fresh hCle
 obtain ⟨W,⟨m0,w0⟩,step⟩:=R s2.heap.objs.size Dn
 have hobj:h1.get? s2.heap.objs.size = some { cls:=.type "list",data:=.seq ([]:List Value).toArray }:=old _ _ (hp▸Heap.get?_push_size _ rfl)
 have I3:Inv (X.blkN N0 scope cl hl.objs.size own s2 H2 fp pins) [] (σ ++ List.replicate own.length none) (upd H2 s2.heap.objs.size (.lst [])) { s2 with heap:=h1,toks:=s2.toks + ([]:List (Str × Value)).length } :=
  blkN_in S I2 f2 hlt hCle hns old2 (fun b o e n => by rw [upd_ne (Nat.ne_of_lt (Heap.lt_size e))]; exact n) (Un.laid old2 (Nat.le_refl _) Dn) (I2.hok.laid old2 (Nat.le_refl _) (show ObjOk X.prog X.w (upd H2 s2.heap.objs.size (.lst [])) h1 s2.heap.objs.size (.lst []) from ⟨Nat.zero_le _,[],0,.nil,hobj⟩)) (by rw [upd_ne (Ne.symm hDC)]; exact Cn)
 have fpn:∀ b∈fp,upd H2 s2.heap.objs.size (.lst []) b = none:=fun b hb => by rw [upd_ne (Nat.ne_of_lt (hlt b hb))]; exact (f2 b hb).1
 have stat:∀ {H':Hp},(∀ b∈fp,H' b = none)→∀ b∈fp,FpOk (X.blkN N0 scope cl hl.objs.size own s2 H2 fp pins) [] H' b:=fun hn b hb =>
  ⟨hn b hb,Nat.ne_of_lt (Nat.lt_of_lt_of_le (hlt b hb) hCle),stk_no I2 (f2 b hb).2.1 (f2 b hb).2.2.1,.inl hb,fun x c e => (f2 b hb).2.2.2.2.1 x c (S.sub x c e),fun p hp => (f2 b hb).2.2.2.2.2 p (by simpa using hp)⟩
 have loop:∀ s3:Shared,s3 = { s2 with heap:=h1,toks:=s2.toks + ([]:List (Str × Value)).length } →
   codeAny (model X.prog X.w) X.A (.compLoop (.ListComp elt [⟨tg,iter,ifs,0⟩] scope pos) 0 (.ref it) (.ref s2.heap.objs.size) (compEnvC scope cl hl.objs.size X.env)) (compPost (model X.prog X.w) X.A X.xe use QV (.ref s2.heap.objs.size) hl.objs.size) s3:=by
  rintro s3 rfl
  refine comp_turns (fun n s' => ∃ i ys H',Inv (X.blkN N0 scope cl hl.objs.size own s2 H2 fp pins) [] (σ ++ List.replicate own.length none) H' s'∧tn i s'.heap∧(∀ b∈fp,H' b = none)∧W i n ys H') ?_ m0
   ⟨0,[],_,I3,T.keep 0 _ _ st2 (fun b _ o e => old2 b o e),fpn,w0⟩
  rintro n s3 ⟨i,ys,H3,J3,st3,fr3,w3⟩
  obtain ⟨hD,⟨stop,q⟩ | ⟨go,hlen,turn⟩⟩:=step i n ys H3 w3
  ·refine thn (T.done (X.blkN N0 scope cl hl.objs.size own s2 H2 fp pins) rfl rfl rfl hc i [] s3 _ H3 _ J3 (stat fr3) st3 stop) fun r s4 ⟨hr,J4⟩ => ?_
   subst hr
   obtain ⟨m4,hn4,_⟩:=J4.loc
   exact fin _ _ s2 H2 H3 s4 I2 hCle J4.free ⟨m4,hn4⟩ (fun h' sb => blkN_out I2 f2 hCle J4 sb) q
  ·refine thn (T.item (X.blkN N0 scope cl hl.objs.size own s2 H2 fp pins) rfl rfl rfl hc i [] s3 _ H3 _ J3 (stat fr3) st3 go) fun r s4 ⟨u,hr,h4⟩ => ?_
   subst hr
   refine thn h4 fun _ s5 hh => ?_
   obtain ⟨x,H5,J5,r5,y5,st5,fr5⟩:=hh
   have J5':=J5.pinned (stat fr5) (T.obj _ _ st5)
   refine thn (hg _ _ _ _ _ _ s5 _ H5 x u _ J5' r5 (turn x H5 y5)) fun _ s6 hh => ?_
   obtain ⟨σ6,H6,J6,⟨ts,e6,hts⟩,q6⟩:=hh
   subst e6
   refine thn (ht _ _ _ _ _ _ s6 _ H6 _ J6 q6) fun ok s7 ⟨H7,J7,q7⟩ => ?_
   have again:∀ {s8:Shared} {H8:Hp} {zs:List V},Inv (X.blkN N0 scope cl hl.objs.size own s2 H2 fp pins) ([] ++ pinsAt fp s5.heap) (σ ++ ts) H8 s8→(∃ m',m' < n∧W (i + 1) m' zs H8) →
     ∃ m,m < n∧∃ i ys H',Inv (X.blkN N0 scope cl hl.objs.size own s2 H2 fp pins) [] (σ ++ List.replicate own.length none) H' s8∧tn i s8.heap∧(∀ b∈fp,H' b = none)∧W i m ys H':=fun {s8 H8 zs} J8 ⟨m',hm,w8⟩ => by
    refine ⟨m',hm,i + 1,zs,H8,?_,T.keep _ _ _ st5 fun b hb o e => (J8.pin (b,o) (List.mem_append_right _ (List.mem_append_right _ (mem_pinsAt hb e)))).1,fun b hb => ?_,w8⟩
    ·refine J8.unpinned.weak (by rw [List.length_append,List.length_append,List.length_replicate,hts]) fun j v ej => ?_
     by_cases hj:j < σ.length
     ·rw [List.getElem?_append_left hj] at ej ⊢
      exact ej
     ·rw [List.getElem?_append_right (by omega),List.getElem?_replicate] at ej
      split at ej <;> cases ej
    ·obtain ⟨o,e,d⟩:=T.obj _ _ st5 b hb
     exact (J8.pin (b,o) (List.mem_append_right _ (List.mem_append_right _ (mem_pinsAt hb e)))).2.1
   cases ok with
   | false => exact again J7 q7
   | true =>
    refine thn (he _ _ _ _ _ _ s7 _ H7 _ J7 q7) fun z s8 hh => ?_
    obtain ⟨y,H8,J8,r8,hD8,q8⟩:=hh
    refine thn (mt_append _ s8 _ H8 (.ref s2.heap.objs.size) [y] _ [z] (fun _ H9 => ∃ m',m' < n∧W (i + 1) m' (ys ++ [y]) H9) J8 rfl (.cons r8 .nil) ⟨_,ys,y,rfl,rfl,hD8,hlen,q8⟩) fun _ s9 ⟨_,H9,J9,_,q9⟩ => again J9 q9
 exact codeAny_compStart_list (loop _ rfl) (T.self _ 0 _ _ _ (T.keep 0 _ _ st2 fun b _ o e => old2 b o e) (loop _ rfl))
theorem pe_compN (S:CompScopeN X N0 scope cl) (hi:PI X tg iter wi)
  (hg:∀ C s H fp pins,PG (X.blkN N0 scope cl C own s H fp pins) tg g) (ht:∀ C s H fp pins,PF (X.blkN N0 scope cl C own s H fp pins) ifs tc) (he:∀ C s H fp pins,PE (X.blkN N0 scope cl C own s H fp pins) elt te)
  (hs:∀ x,foldedSetIterable iter X.env x = pure x:=by intro _; rfl):PE X (.ListComp elt [⟨tg,iter,ifs,0⟩] scope pos) (tComp wi own.length g tc te):=by
 intro pins s σ H Q I h
 rw [eval_ListComp]
 exact comp_coreN (use:=none) (QV:=EP X pins σ Q) S hi hg ht he hs I h fun D C s2 H2 H3 s4 _ _ _ hn inv q => hn.elim fun m hn => ⟨m,hn,fun h' sb => ⟨.ref D,H3,inv h' sb,rfl,q⟩⟩
end
theorem cs_oneN {X:Cx} {N0:List Str} {scope:Scope} {N:List Str} {n:Str} {a:Addr} (hN:X.N = N) (hk:scope.kind = .function) (hcl:closureFor scope X.env = pure [(n,a)]) (hsub:X.env.cells.lookup n = some a) (hout:X.env.kindOf n = some .cell)
  (h1:(scope.names.all fun y => y.2 != .cell && (y.2 != .free || y.1 == n)) = true) (h2:(scope.names.all fun y => y.2 != .local || scope.names.lookup y.1 == some .local) = true)
  (hl:N0.length = N.length) (h3:((N0.zip N).all fun y => (y.1 == y.2 && scope.names.lookup y.1 != some .local) || scope.names.lookup y.1 == none) = true):CompScopeN X N0 scope [(n,a)] where
 clos:=hcl
 kind:=hk
 nocell:=fun y hy => by
  have:=List.all_eq_true.mp h1 y hy
  simp only [Bool.and_eq_true,bne_iff_ne] at this
  exact this.1
 names:=fun y hy e => by
  have:=List.all_eq_true.mp h2 y hy
  rw [e] at this
  simpa using this
 sub:=fun x c e => by
  rw [List.lookup_cons] at e
  split at e
  ·rename_i q
   obtain rfl:x = n:=by simpa using q
   cases e; exact hsub
  ·cases e
 has:=fun x e => by
  have:=List.all_eq_true.mp h1 _ (lookup_mem e)
  simp at this
  exact ⟨a,by rw [this]; simp [List.lookup_cons]⟩
 outer:=fun x e => by
  have:=List.all_eq_true.mp h1 _ (lookup_mem e)
  simp at this
  exact .inl (this▸hout)
 lenN:=by rw [hN]; exact hl
 nm:=fun i x e => by
  have hi:i < N.length:=by rw [← hl]; exact (List.getElem?_eq_some_iff.mp e).1
  have hz:(N0.zip N)[i]? = some (x,N[i]):=by rw [List.getElem?_zip_eq_some]; exact ⟨e,List.getElem?_eq_getElem hi⟩
  have:=List.all_eq_true.mp h3 _ (List.mem_of_getElem? hz)
  simp only [Bool.or_eq_true,Bool.and_eq_true,beq_iff_eq,bne_iff_ne] at this
  rcases this with ⟨q1,q2⟩ | q
  ·exact .inl ⟨by rw [hN,List.getElem?_eq_getElem hi,← q1],q2⟩
  ·exact .inr q
end L2
namespace L2
open PySem PySem.Spec PyProof.Rows
section
variable {κ:Type} [DecidableEq κ]
def valV (kvs:List (κ × V)) (k:κ):Option V:=(kvs.find? fun kv => decide (kv.1 = k)).map (·.2)
def putK (kvs:List (κ × V)) (k:κ) (v:V):List (κ × V) :=
 if (kvs.any fun kv => decide (kv.1 = k)) = true then kvs.map (fun kv => if kv.1 = k then (kv.1,v) else kv) else kvs ++ [(k,v)]
theorem valV_pos {p:κ × V} {r:List (κ × V)} {k:κ} (e:p.1 = k):valV (p :: r) k = some p.2:=by simp [valV,List.find?_cons,e]
theorem valV_neg {p:κ × V} {r:List (κ × V)} {k:κ} (e:¬ p.1 = k):valV (p :: r) k = valV r k:=by simp [valV,List.find?_cons,e]
theorem valV_any (k:κ):∀ kvs:List (κ × V),(kvs.any fun kv => decide (kv.1 = k)) = (valV kvs k).isSome
 | [] => rfl
 | p :: r => by
  rw [List.any_cons]
  by_cases e:p.1 = k
  ·simp only [valV_pos e,decide_eq_true e,Bool.true_or,Option.isSome_some]
  ·rw [valV_neg e,decide_eq_false e,Bool.false_or]; exact valV_any k r
theorem valV_map (k j:κ) (y:V):∀ kvs:List (κ × V),valV (kvs.map fun kv => if kv.1 = k then (kv.1,y) else kv) j = (valV kvs j).map fun x => if j = k then y else x
 | [] => rfl
 | p :: r => by
  have ih:=valV_map k j y r
  rw [List.map_cons]
  by_cases h:p.1 = k
  ·rw [if_pos h]
   by_cases e:p.1 = j
   ·rw [valV_pos (p:=(p.1,y)) e,valV_pos e,Option.map_some,if_pos (e.symm.trans h)]
   ·rw [valV_neg (p:=(p.1,y)) e,valV_neg e,ih]
  ·rw [if_neg h]
   by_cases e:p.1 = j
   ·rw [valV_pos (p:=p) e,valV_pos e,Option.map_some,if_neg (fun z => h (e.trans z))]
   ·rw [valV_neg (p:=p) e,valV_neg e,ih]
theorem valV_snoc (k j:κ) (y:V):∀ kvs:List (κ × V),valV kvs k = none→valV (kvs ++ [(k,y)]) j = if j = k then some y else valV kvs j
 | [],_ => by
  by_cases e:k = j
  ·rw [if_pos e.symm]; exact valV_pos (p:=(k,y)) e
  ·rw [if_neg (fun z => e z.symm)]; exact valV_neg (p:=(k,y)) e
 | p :: r,hn => by
  rw [List.cons_append]
  have hk:¬ p.1 = k:=fun z => by rw [valV_pos z] at hn; cases hn
  rw [valV_neg hk] at hn
  have ih:=valV_snoc k j y r hn
  by_cases e:p.1 = j
  ·rw [valV_pos e,valV_pos e,if_neg (fun z => hk (e.trans z))]
  ·rw [valV_neg e,valV_neg e,ih]
theorem valV_put (kvs:List (κ × V)) (k j:κ) (y:V):valV (putK kvs k y) j = if j = k then some y else valV kvs j:=by
 unfold putK
 by_cases a:(kvs.any fun kv => decide (kv.1 = k)) = true
 ·rw [if_pos a,valV_map]
  rw [valV_any] at a
  by_cases e:j = k
  ·obtain ⟨x,hx⟩:=Option.isSome_iff_exists.mp a
   rw [if_pos e,e,hx,Option.map_some,if_pos rfl]
  ·rw [if_neg e]
   cases valV kvs j with
   | none => rfl
   | some x => rw [Option.map_some,if_neg e]
 ·rw [if_neg a]
  refine valV_snoc k j y kvs ?_
  rw [valV_any] at a
  cases q:valV kvs k with
  | none => rfl
  | some x => rw [q] at a; exact (a rfl).elim
theorem length_putK (kvs:List (κ × V)) (k:κ) (v:V):(putK kvs k v).length≤kvs.length + 1:=by
 unfold putK
 split
 ·rw [List.length_map]; omega
 ·rw [List.length_append,List.length_cons,List.length_nil]; omega
theorem putK_new {kvs:List (κ × V)} {k:κ} (v:V) (h:valV kvs k = none):putK kvs k v = kvs ++ [(k,v)]:=by
 unfold putK
 rw [valV_any,h]
 exact if_neg (by decide)
theorem RelO.isSome_eq {o:Option V} {u:Option Value} (r:RelO o u):o.isSome = u.isSome:=by
 cases o with
 | none => cases u with
  | none => rfl
  | some _ => exact (show False from r).elim
 | some _ => cases u with
  | none => exact (show False from r).elim
  | some _ => rfl
theorem RelO.getD {o:Option V} {u:Option Value} {d:V} {d':Value} (r:RelO o u) (rd:RelV d d'):RelV (o.getD d) (u.getD d'):=by
 cases o with
 | none => cases u with
  | none => exact rd
  | some _ => exact (show False from r).elim
 | some _ => cases u with
  | none => exact (show False from r).elim
  | some _ => exact r
theorem KV.val {kvs:List (κ × V)} {vs:List (κ × Value)} (r:KV kvs vs) (k:κ):RelO (valV kvs k) (valueAt vs k):=by
 unfold KV at r
 induction r with
 | nil => exact True.intro
 | @cons p q ps qs h t ih =>
  obtain ⟨h1,h2⟩:=h
  by_cases e:p.1 = k
  ·have e':q.1 = k:=h1.symm.trans e
   have b:valueAt (q :: qs) k = some q.2:=by simp [valueAt,List.find?_cons,e']
   rw [valV_pos e,b]; exact h2
  ·have e':¬ q.1 = k:=fun z => e (h1.trans z)
   have b:valueAt (q :: qs) k = valueAt qs k:=by simp [valueAt,List.find?_cons,e']
   rw [valV_neg e,b]; exact ih
theorem KV.any {kvs:List (κ × V)} {vs:List (κ × Value)} (r:KV kvs vs) (k:κ):(kvs.any fun kv => decide (kv.1 = k)) = vs.any fun kv => decide (kv.1 = k):=by
 unfold KV at r
 induction r with
 | nil => rfl
 | cons h t ih => rw [List.any_cons,List.any_cons,ih,h.1]
theorem KV.repl {kvs:List (κ × V)} {vs:List (κ × Value)} (r:KV kvs vs) (k:κ) {y:V} {u:Value} (ry:RelV y u) :
  KV (kvs.map fun kv => if kv.1 = k then (kv.1,y) else kv) (vs.map fun kv => if kv.1 = k then (kv.1,u) else kv):=by
 unfold KV at r ⊢
 induction r with
 | nil => exact .nil
 | @cons p q ps qs h t ih =>
  rw [List.map_cons,List.map_cons]
  refine .cons ?_ ih
  obtain ⟨h1,h2⟩:=h
  by_cases e:p.1 = k
  ·rw [if_pos e,if_pos (h1.symm.trans e)]; exact ⟨h1,ry⟩
  ·rw [if_neg e,if_neg (fun z => e (h1.trans z))]; exact ⟨h1,h2⟩
theorem KV.put {kvs:List (κ × V)} {vs:List (κ × Value)} (r:KV kvs vs) (k:κ) {y:V} {u:Value} (ry:RelV y u):KV (putK kvs k y) (stored vs k u):=by
 unfold putK stored
 rw [r.any k]
 by_cases e:(vs.any fun kv => decide (kv.1 = k)) = true
 ·rw [if_pos e,if_pos e]; exact r.repl k ry
 ·rw [if_neg e,if_neg e]; exact Paired.snoc r ⟨rfl,ry⟩
theorem KV.length {kvs:List (κ × V)} {vs:List (κ × Value)} (r:KV kvs vs):kvs.length = vs.length:=Paired.length r
end
theorem kV_is {P:Program} {w:World} {k:Key} {u:Value} (r:RelV (kV k) u):(mixKind P w).is k u = true:=by
 cases k with
 | inl i => obtain ⟨t,e⟩:=(show ∃ t,u = Value.int i t from r); subst e; exact mixKind_int P w i t
 | inr x => obtain ⟨t,e⟩:=(show ∃ t,u = Value.str x t from r); subst e; exact mixKind_str P w x t
theorem items_are {P:Program} {w:World}:∀ {ks:List Key} {us:List Value},Vals (ks.map kV) us→ItemsAre (mixKind P w) ks us
 | [],_,r => by rw [List.map_nil] at r; cases r; exact .nil
 | k :: ks,_,r => by
  rw [List.map_cons] at r
  cases r with
  | cons h t => exact .cons (kV_is h) (items_are t)
abbrev KT (H:Hp):List (List Key × V)→List (List Key × Addr × Value)→Prop:=Paired fun p q => p.1 = q.1∧H q.2.1 = some (.tup (p.1.map kV))∧RelV p.2 q.2.2
theorem KT.val {H:Hp} {kvs:List (List Key × V)} {xs:List (List Key × Addr × Value)} (r:KT H kvs xs) (k:List Key):RelO (valV kvs k) ((atKey xs k).map (·.2)):=by
 induction r with
 | nil => exact True.intro
 | @cons p q ps qs h t ih =>
  obtain ⟨h1,_,h2⟩:=h
  by_cases e:p.1 = k
  ·have e':q.1 = k:=h1.symm.trans e
   have b:atKey (q :: qs) k = some q.2:=by simp [atKey,List.find?_cons,e']
   rw [valV_pos e,b]; exact h2
  ·have e':¬ q.1 = k:=fun z => e (h1.trans z)
   have b:atKey (q :: qs) k = atKey qs k:=by simp [atKey,List.find?_cons,e']
   rw [valV_neg e,b]; exact ih
theorem KT.repl {H:Hp} {kvs:List (List Key × V)} {xs:List (List Key × Addr × Value)} (r:KT H kvs xs) (k:List Key) {y:V} {u:Value} (ry:RelV y u) :
  KT H (kvs.map fun kv => if kv.1 = k then (kv.1,y) else kv) (xs.map (putAt k u)):=by
 induction r with
 | nil => exact .nil
 | @cons p q ps qs h t ih =>
  rw [List.map_cons,List.map_cons]
  refine .cons ?_ ih
  obtain ⟨h1,h2,h3⟩:=h
  unfold putAt
  by_cases e:p.1 = k
  ·rw [if_pos e,if_pos (h1.symm.trans e)]; exact ⟨h1,h2,ry⟩
  ·rw [if_neg e,if_neg (fun z => e (h1.trans z))]; exact ⟨h1,h2,h3⟩
theorem KT.put {H:Hp} {kvs:List (List Key × V)} {xs:List (List Key × Addr × Value)} (r:KT H kvs xs) (k:List Key) {b:Addr} {y:V} {u:Value} (hb:H b = some (.tup (k.map kV))) (ry:RelV y u) :
  KT H (putK kvs k y) (storedH xs k b u):=by
 have e:(kvs.any fun kv => decide (kv.1 = k)) = (atKey xs k).isSome:=by
  rw [valV_any,(r.val k).isSome_eq,Option.isSome_map]
 unfold putK storedH
 rw [e]
 by_cases q:(atKey xs k).isSome = true
 ·rw [if_pos q,if_pos q]; exact r.repl k ry
 ·rw [if_neg q,if_neg q]; exact Paired.snoc r ⟨rfl,hb,ry⟩
theorem KT.keeps {H H':Hp} {kvs:List (List Key × V)} {xs:List (List Key × Addr × Value)} (r:KT H kvs xs) (ht:∀ b ys,H b = some (.tup ys)→H' b = some (.tup ys)):KT H' kvs xs :=
 Paired.mapP r fun _ _ z => ⟨z.1,ht _ _ z.2.1,z.2.2⟩
section
variable {P:Program} {w:World} {H:Hp} {h:Heap} {a:Addr}
theorem rd_of {u:HO} (ok:HOk P w H h) (e:Rd H a u):ObjOk P w H h a u:=e.ok ok
theorem dk_rd {kvs:List (Key × V)} (ok:HOk P w H h) (e:Rd H a (.dK kvs)):kvs.length≤sizeLine∧(a == sysModules) = false∧∃ vs,KV kvs vs∧h.DictOf (mixKind P w) a vs :=
 show ObjOk P w H h a (.dK kvs) from rd_of ok e
theorem dk_of {kvs:List (Key × V)} (ok:HOk P w H h) (e:H a = some (.dK kvs)):kvs.length≤sizeLine∧(a == sysModules) = false∧∃ vs,KV kvs vs∧h.DictOf (mixKind P w) a vs:=dk_rd ok (.inl e)
theorem key_of {ks:List Key} (ok:HOk P w H h) (e:H a = some (.tup (ks.map kV))):(tupleKind (mixKind P w)).is h ks a:=by
 obtain ⟨_,its,r,o,h1,h2,n,h3⟩:=(show ObjOk P w H h a (.tup (ks.map kV)) from ok a _ e)
 exact ⟨o,its.toArray,n,h1,h2,h3,by simpa using items_are r⟩
theorem dt_rd {kvs:List (List Key × V)} (ok:HOk P w H h) (e:Rd H a (.dT kvs)):kvs.length≤sizeLine∧(a == sysModules) = false ∧
  ∃ xs,KT H kvs xs∧h.DictOfH (tupleKind (mixKind P w)) a xs:=by
 obtain ⟨z,y,xs,r,o,es,ep,h1,h2,h3,h4,h5⟩:=(show ObjOk P w H h a (.dT kvs) from rd_of ok e)
 refine ⟨z,y,xs,r,o,es,ep,h1,h2,h3,h4,fun x hx => ?_,h5⟩
 have all:∀ {l:List (List Key × V)} {m:List (List Key × Addr × Value)},KT H l m→∀ x∈m,(tupleKind (mixKind P w)).is h x.1 x.2.1:=by
  intro l m q
  induction q with
  | nil => intro x hx; exact nomatch hx
  | @cons p q ps qs hq t ih =>
   intro x hx
   rcases List.mem_cons.mp hx with e | hx
   ·subst e
    exact key_of ok (by rw [← hq.1]; exact hq.2.1)
   ·exact ih x hx
 exact all r x hx
theorem dt_of {kvs:List (List Key × V)} (ok:HOk P w H h) (e:H a = some (.dT kvs)):kvs.length≤sizeLine∧(a == sysModules) = false ∧
  ∃ xs,KT H kvs xs∧h.DictOfH (tupleKind (mixKind P w)) a xs:=dt_rd ok (.inl e)
end
def DGet (H:Hp) (a:Addr) (y:V) (r:Option V):Prop :=
 (∃ kvs k,Rd H a (.dK kvs)∧y = kV k∧r = valV kvs k)∨∃ kvs k b,Rd H a (.dT kvs)∧y = .ref b∧H b = some (.tup (k.map kV))∧r = valV kvs k
def DPut (H:Hp) (a:Addr) (y v:V) (H':Hp):Prop :=
 (∃ kvs k,H a = some (.dK kvs)∧y = kV k∧kvs.length < sizeLine∧H' = upd H a (.dK (putK kvs k v))) ∨
 ∃ kvs k b,H a = some (.dT kvs)∧y = .ref b∧H b = some (.tup (k.map kV))∧kvs.length < sizeLine∧H' = upd H a (.dT (putK kvs k v))
theorem DGet.t {H:Hp} {a b:Addr} {kvs:List (List Key × V)} {k:List Key} (e:H a = some (.dT kvs)) (eb:H b = some (.tup (k.map kV))):DGet H a (.ref b) (valV kvs k):=.inr ⟨kvs,k,b,.inl e,rfl,eb,rfl⟩
theorem DPut.t {H:Hp} {a b:Addr} {kvs:List (List Key × V)} {k:List Key} {v:V} (e:H a = some (.dT kvs)) (eb:H b = some (.tup (k.map kV))) (hl:kvs.length < sizeLine) :
  DPut H a (.ref b) v (upd H a (.dT (putK kvs k v))):=.inr ⟨kvs,k,b,e,rfl,eb,hl,rfl⟩
section
variable {X:Cx} {pins:List (Addr × Obj)} {σ:St} {H:Hp} {s:Shared} {a:Addr} {y v:V} {u r:Value} {o:Option V} {A:Around} {E:Value→Shared→Prop}
theorem Inv.big (I:Inv X pins σ H s):sysModules < s.heap.objs.size:=by
 have h:mainGlobals < s.heap.objs.size:=(I.mod.glob.keeps I.bk).lt
 exact Nat.lt_trans (by decide) h
theorem d_getItem {Q:Value→Shared→Prop} (hu:A.units + 1 < cLine) (I:Inv X pins σ H s) (g:DGet H a y (some v)) (ry:RelV y u) (h:∀ w' s',Inv X pins σ H s'→RelV v w'→Q w' s') :
  wpAny (model X.prog X.w) A (getItem (.ref a) u) Q E s:=by
 rcases g with ⟨kvs,k,e,ey,l⟩ | ⟨kvs,k,b,e,ey,eb,l⟩
 ·subst ey
  obtain ⟨z,hd,vs,rel,dd⟩:=dk_rd I.hok e
  obtain ⟨w',hw,rw'⟩:=RelO.some_of (v:=v) (o:=valueAt vs k) (by rw [l]; exact rel.val k)
  exact wpAny_getItem_of (kV_is ry) dd.mapOf hw (h w' _ (I.tok _) rw')
 ·subst ey
  cases (show u = Value.ref b from ry)
  obtain ⟨z,hd,xs,rel,dd⟩:=dt_rd I.hok e
  obtain ⟨w',hw,rw'⟩:=RelO.some_of (v:=v) (o:=(atKey xs k).map (·.2)) (by rw [l]; exact rel.val k)
  obtain ⟨p,hp,hp2⟩:=Option.map_eq_some_iff.mp hw
  refine wpAny_getItem_heap (tupleKind_room_in1 hu) (key_of I.hok eb) dd hp ?_
  rw [hp2]
  exact h w' _ (I.tok _) rw'
theorem d_in {Q:Value→Shared→Prop} (hu:A.units + 1 < cLine) (I:Inv X pins σ H s) (g:DGet H a y o) (ry:RelV y u) (h:∀ s',Inv X pins σ H s'→Q (.bool o.isSome) s') :
  wpAny (model X.prog X.w) A (compareOp .In u (.ref a)) Q E s:=by
 rcases g with ⟨kvs,k,e,ey,l⟩ | ⟨kvs,k,b,e,ey,eb,l⟩
 ·subst ey
  obtain ⟨z,hd,vs,rel,dd⟩:=dk_rd I.hok e
  refine wpAny_in_of (kV_is ry) hd dd.mapOf ?_
  rw [← (rel.val k).isSome_eq,← l]
  exact h _ (I.tok _)
 ·subst ey
  cases (show u = Value.ref b from ry)
  obtain ⟨z,hd,xs,rel,dd⟩:=dt_rd I.hok e
  refine wpAny_in_heap (tupleKind_room_in1 hu) (key_of I.hok eb) hd dd ?_
  have q:=(rel.val k).isSome_eq
  rw [Option.isSome_map] at q
  rw [← q,← l]
  exact h _ (I.tok _)
theorem d_notIn {Q:Value→Shared→Prop} (hu:A.units + 1 < cLine) (I:Inv X pins σ H s) (g:DGet H a y o) (ry:RelV y u) (h:∀ s',Inv X pins σ H s'→Q (.bool (!o.isSome)) s') :
  wpAny (model X.prog X.w) A (compareOp .NotIn u (.ref a)) Q E s:=by
 rcases g with ⟨kvs,k,e,ey,l⟩ | ⟨kvs,k,b,e,ey,eb,l⟩
 ·subst ey
  obtain ⟨z,hd,vs,rel,dd⟩:=dk_rd I.hok e
  refine wpAny_notIn_of (kV_is ry) hd dd.mapOf ?_
  rw [← (rel.val k).isSome_eq,← l]
  exact h _ (I.tok _)
 ·subst ey
  cases (show u = Value.ref b from ry)
  obtain ⟨z,hd,xs,rel,dd⟩:=dt_rd I.hok e
  refine wpAny_notIn_heap (tupleKind_room_in1 hu) (key_of I.hok eb) hd dd ?_
  have q:=(rel.val k).isSome_eq
  rw [Option.isSome_map] at q
  rw [← q,← l]
  exact h _ (I.tok _)
theorem d_write {h':Heap} {t':Nat} {ob:HO} (I:Inv X pins σ H s) (mu:Mut (H a)) (hs:Heap.SameBut a s.heap h') (he:∃ q,h'.get? a = some q) (new:ObjOk X.prog X.w (upd H a ob) h' a ob) :
  Inv X pins σ (upd H a ob) { s with heap:=h',toks:=t' } :=
 I.write (x:=a) (e:=a) mu (.inl rfl) (fun b q hb z => (hs.2 b hb).trans z) he new
theorem dk_new {P:Program} {w:World} {H':Hp} {h':Heap} {kvs:List (Key × V)} {vs:List (Key × Value)} (z:kvs.length≤sizeLine) (hd:(a == sysModules) = false) (rel:KV kvs vs) (dd:h'.DictOf (mixKind P w) a vs) :
  ObjOk P w H' h' a (.dK kvs):=⟨z,hd,vs,rel,dd⟩
theorem d_setItem {H':Hp} {Q:Unit→Shared→Prop} (hu:A.units + 1 < cLine) (I:Inv X pins σ H s) (g:DPut H a y v H') (ry:RelV y u) (rv:RelV v r) (h:∀ s',Inv X pins σ H' s'→Q () s') :
  wpAny (model X.prog X.w) A (setItem (.ref a) u r) Q E s:=by
 rcases g with ⟨kvs,k,e,ey,l,eH⟩ | ⟨kvs,k,b,e,ey,eb,l,eH⟩
 ·subst ey eH
  obtain ⟨z,hd,vs,rel,dd⟩:=dk_of I.hok e
  have hz:vs.length≤sizeLine:=by rw [← rel.length]; exact z
  have hl:(putK kvs k v).length≤sizeLine:=by have:=length_putK kvs k v; omega
  refine wpAny_setItem_pairs (hsz:=hz) (kV_is ry) dd fun h' dd' hs => h _ ?_
  have he:∃ q,h'.get? a = some q:=let ⟨q,_,_,hq,_⟩:=dd'; ⟨q,hq⟩
  exact d_write I (by rw [e]; exact True.intro) hs he (dk_new hl hd (rel.put k rv) dd')
 ·subst ey eH
  cases (show u = Value.ref b from ry)
  obtain ⟨z,hd,xs,rel,dd⟩:=dt_of I.hok e
  have hz:xs.length≤sizeLine:=by rw [← Paired.length rel]; exact z
  have hl:(putK kvs k v).length≤sizeLine:=by have:=length_putK kvs k v; omega
  refine wpAny_setItem_heap (hsz:=hz) (tupleKind_room_in1 hu) (key_of I.hok eb) dd fun h' dd' hs => h _ ?_
  obtain ⟨q,es,ep,hq,h2,h3,h4,_,h5⟩:=dd'
  refine d_write I (by rw [e]; exact True.intro) hs ⟨q,hq⟩ ⟨hl,hd,_,(rel.put k eb rv).keeps fun c ys ec => ?_,q,es,ep,hq,h2,h3,h4,h5⟩
  rw [upd_ne (ne_of ec e (fun z => nomatch z))]
  exact ec
end
section
variable {X:Cx} {pins:List (Addr × Obj)} {σ:St} {H:Hp} {s:Shared} {a:Addr} {kvs:List (Key × V)} {k:Key} {u:Value} {A:Around} {E:Value→Shared→Prop}
end
def NoSl (i:Expr):Prop:=∀ ov iv,subscripted i false ov iv = operate [ov,iv] (getItem ov iv)
theorem subD_of {prog:Program} {w:World} {A:Around} {E:Value→Shared→Prop} {s:Shared} {env:Env} {value slice:Expr} {pos:Pos} {T id:String} {Q:Value→Shared→Prop}
  (hl:typeLookup (.type T) "__getitem__" = pure (some (.builtin id))) (hs:NoSl slice)
  (h:wpAny (model prog w) A (eval value env) (fun o s₁ => wpAny (model prog w) A (eval slice env) (fun i s₂ => s₂.TypeIs o T∧wpAny (model prog w) A (getItem o i) Q E s₂) E s₁) E s) :
  wpAny (model prog w) A (eval (.Subscript value slice pos) env) Q E s:=by
 refine Subscript_ (wpAny_mono h (fun o s₁ h₁ => wpAny_mono h₁ (fun i s₂ h₂ => ?_) fun _ _ x => x) fun _ _ x => x)
 obtain ⟨hT,h₂⟩:=h₂
 unfold subscriptTail
 refine wpAny_bind ?_
 rw [getitemInPython_of_ne hT.not_modules]
 refine wpAny_bind (wpAny_specialOf hT hl ?_)
 have fin:wpAny (model prog w) A (subscripted slice false o i) (fun r s₃ => wpAny (model prog w) A (letTemporaryGo value o r >>= fun _ => pure r) Q E s₃) E s₂:=by
  rw [hs o i]
  exact wpAny_operating (wpAny_mono h₂ (fun r s₃ h₃ => wpAny_bind (wpAny_letTemporaryGo (wpAny_pure h₃))) fun _ _ x => x)
 first
  | exact wpAny_pure (wpAny_bind fin)
  | exact wpAny_bind (wpAny_pure (wpAny_bind fin))
  | exact wpAny_bind fin
theorem dict_typeIs {X:Cx} {pins:List (Addr × Obj)} {σ:St} {H:Hp} {s:Shared} {a:Addr} {y:V} {o:Option V} (I:Inv X pins σ H s) (g:DGet H a y o):s.TypeIs (.ref a) "dict":=by
 rcases g with ⟨kvs,k,e,_,_⟩ | ⟨kvs,k,b,e,_,_,_⟩
 ·obtain ⟨_,_,vs,_,dd⟩:=dk_rd I.hok e
  exact dd.typeIs
 ·obtain ⟨_,_,xs,_,dd⟩:=dt_rd I.hok e
  exact dd.typeIs
def tDGet (td ty:TE):TE:=fun σ H Q => td σ H fun x H1 => ty σ H1 fun y H2 => ∃ a v,x = .ref a∧DGet H2 a y (some v)∧Q v H2
def tDIn (ty td:TE):TE:=fun σ H Q => ty σ H fun y H1 => td σ H1 fun x H2 => ∃ a o,x = .ref a∧DGet H2 a y o∧Q (.bl o.isSome) H2
def tDNotIn (ty td:TE):TE:=fun σ H Q => ty σ H fun y H1 => td σ H1 fun x H2 => ∃ a o,x = .ref a∧DGet H2 a y o∧Q (.bl (!o.isSome)) H2
def sDPut (td ty tv:TE):TS:=fun D σ H => tv σ H fun v H1 => td σ H1 fun x H2 => ty σ H2 fun y H3 => ∃ a H4,x = .ref a∧DPut H3 a y v H4∧D.nx σ H4
section
variable {X:Cx} {o i e value:Expr} {pos pos' tpos:Pos} {td ty tv:TE}
theorem pe_dget (hu:X.A.units + 1 < cLine) (ho:PE X o td) (hi:PE X i ty) (hs:NoSl i):PE X (.Subscript o i pos) (tDGet td ty):=by
 intro pins s σ H Q I h
 refine subD_of PySem.F.slot_dict_getitem.lookup hs (thn (ho pins s σ H _ I h) fun u s1 ⟨x,H1,I1,rx,q1⟩ => thn (hi pins s1 σ H1 _ I1 q1) fun iv s2 hh => ?_)
 obtain ⟨y,H2,I2,ry,a,v,ex,g,q2⟩:=hh
 subst ex
 obtain rfl:u = Value.ref a:=rx
 exact ⟨dict_typeIs I2 g,d_getItem hu I2 g ry fun w' s3 I3 rw' => ⟨v,H2,I3,rw',q2⟩⟩
theorem pc_din (hu:X.A.units + 1 < cLine) (hi:PE X i ty) (ho:PE X o td):PC X .In i o (tDIn ty td):=by
 intro pins s σ H Q I h
 refine thn (hi pins s σ H _ I h) fun iv s1 ⟨y,H1,I1,ry,q1⟩ => thn (ho pins s1 σ H1 _ I1 q1) fun u s2 hh => ?_
 obtain ⟨x,H2,I2,rx,a,ov,ex,g,q2⟩:=hh
 subst ex
 obtain rfl:u = Value.ref a:=rx
 exact d_in hu I2 g ry fun s3 I3 => ⟨.bl ov.isSome,H2,I3,rfl,q2⟩
theorem pc_dnotin (hu:X.A.units + 1 < cLine) (hi:PE X i ty) (ho:PE X o td):PC X .NotIn i o (tDNotIn ty td):=by
 intro pins s σ H Q I h
 refine thn (hi pins s σ H _ I h) fun iv s1 ⟨y,H1,I1,ry,q1⟩ => thn (ho pins s1 σ H1 _ I1 q1) fun u s2 hh => ?_
 obtain ⟨x,H2,I2,rx,a,ov,ex,g,q2⟩:=hh
 subst ex
 obtain rfl:u = Value.ref a:=rx
 exact d_notIn hu I2 g ry fun s3 I3 => ⟨.bl (!ov.isSome),H2,I3,rfl,q2⟩
theorem ps_dput (hu:X.A.units + 1 < cLine) (ho:PE X o td) (hi:PE X i ty) (hv:PE X value tv) (hs:swapsWith value (some (.Subscript o i pos')) pos.line X.env = pure false) :
  PS X (.Assign [.Subscript o i pos'] value pos) (sDPut td ty tv):=by
 intro pins s σ H D I h
 refine wpAny_Assign_Subscript (thn (hv pins s σ H _ I h) fun r s1 ⟨v,H1,I1,rv,q1⟩ => thn (ho pins s1 σ H1 _ I1 q1) fun u s2 ⟨x,H2,I2,rx,q2⟩ => thn (hi pins s2 σ H2 _ I2 q2) fun iv s3 hh => ?_) hs
 obtain ⟨y,H3,I3,ry,a,H4,ex,g,q3⟩:=hh
 subst ex
 obtain rfl:u = Value.ref a:=rx
 exact d_setItem hu I3 g ry rv fun s4 I4 => ⟨σ,H4,I4,q3⟩
end
theorem dt_empty {P:Program} {w:World} {H:Hp} (h:Heap) (hb:sysModules < h.objs.size):ObjOk P w H (h.push { cls:=.type "dict",data:=.dict #[] }) h.objs.size (.dT []) :=
 ⟨Nat.zero_le _,beq_eq_false_iff_ne.mpr (Ne.symm (Nat.ne_of_lt hb)),[],.nil,_,#[],0,Heap.get?_push_size _ rfl,⟨rfl,rfl,rfl⟩,rfl,rfl,List.nodup_nil⟩
def tDNewT:TE:=fun _ H Q => ∀ p,H p = none→Q (.ref p) (upd H p (.dT []))
section
variable {X:Cx} {pos:Pos}
theorem pe_dnewT:PE X (.Dict [] [] pos) tDNewT:=fun pins s σ H Q I h =>
 wpAny_Dict_empty ⟨.ref s.heap.objs.size,_,I.laid (a:=s.heap.objs.size) (o:=.dT []) (t':=s.toks) (fun _ _ q => Heap.get?_push_of_some _ q) (Nat.le_refl _) (dt_empty s.heap I.big),rfl,h _ (I.hok.fresh (Nat.le_refl _))⟩
end
structure M1 (X:Cx) (o:Expr) (m:Str) (apos:Pos) (e:Expr) (cpos:Pos):Prop where
 base:attributeBase o m X.env (eval o X.env) = eval o X.env
 few:((backTo cpos (starEach [e] X.env)).all (fun x => !x.1) && (backToKw cpos (keywordEach [] X.env)).all (fun x => x.1.isSome)
  && decide (([e]:List Expr).length + ([]:List Keyword).length + (if ([]:List Keyword).isEmpty then 0 else 1) < 30)) = true
 line:(apos.endLine == cpos.line) = true
 trees:backTo cpos (starEach [e] X.env) = [(false,eval e X.env)]
def IsD (H:Hp) (a:Addr):Prop:=(∃ kvs,Rd H a (.dK kvs))∨∃ kvs,Rd H a (.dT kvs)
theorem isD_at {X:Cx} {pins:List (Addr × Obj)} {σ:St} {H:Hp} {s:Shared} {a:Addr} (I:Inv X pins σ H s) (d:IsD H a) :
  s.TypeIs (.ref a) "dict"∧(∀ b,Value.ref a = .ref b→∃ ob,s.heap.get? b = some ob∧ob.dict = none)∧(a == sysModules) = false:=by
 rcases d with ⟨kvs,e⟩ | ⟨kvs,e⟩
 ·obtain ⟨_,hd,vs,_,dd⟩:=dk_rd I.hok e
  refine ⟨dd.typeIs,fun b q => ?_,hd⟩
  cases q
  obtain ⟨ob,_,_,h1,h2,_⟩:=dd
  exact ⟨ob,h1,h2.2.1⟩
 ·obtain ⟨_,hd,xs,_,dd⟩:=dt_rd I.hok e
  refine ⟨dd.typeIs,fun b q => ?_,hd⟩
  cases q
  obtain ⟨ob,_,_,h1,h2,_⟩:=dd
  exact ⟨ob,h1,h2.2.1⟩
section
variable {X:Cx} {pins:List (Addr × Obj)} {σ:St} {H:Hp} {s:Shared} {a:Addr} {y d:V} {u r:Value} {o:Option V} {A:Around} {E:Value→Shared→Prop}
theorem d_get1 {Q:Value→Shared→Prop} (hu:A.units + 1 < cLine) (I:Inv X pins σ H s) (g:DGet H a y o) (ry:RelV y u) (h:∀ w' s',Inv X pins σ H s'→RelV (o.getD .non) w'→Q w' s') :
  wpAny (model X.prog X.w) A (call (.builtin "dict.get") [.ref a,u]) Q E s:=by
 rcases g with ⟨kvs,k,e,ey,l⟩ | ⟨kvs,k,b,e,ey,eb,l⟩
 ·subst ey
  obtain ⟨z,hd,vs,rel,dd⟩:=dk_rd I.hok e
  refine call_meetsIn PySem.F.slot_dict_get dd.typeIs PySem.F.entry_dict_get (PySem.F.args_dict_get_2 _ _) (meets_dict_get (mixKind X.prog X.w) a (kV_is ry) hd) ⟨_,dd.mapOf,h _ _ (I.tok _) ?_⟩
  rw [l]
  exact (rel.val k).getD rfl
 ·subst ey
  cases (show u = Value.ref b from ry)
  obtain ⟨z,hd,xs,rel,dd⟩:=dt_rd I.hok e
  refine call_meetsIn PySem.F.slot_dict_get dd.typeIs PySem.F.entry_dict_get (PySem.F.args_dict_get_2 _ _) (meetsH_dict_get (tupleKind (mixKind X.prog X.w)) a b hd) ⟨tupleKind_room_in1 hu,k,xs,key_of I.hok eb,dd,h _ _ (I.tok _) ?_⟩
  rw [l]
  exact (rel.val k).getD rfl
end
def tDGet1 (td ty:TE):TE:=fun σ H Q => td σ H fun x H1 => ∃ a,x = .ref a∧IsD H1 a∧ty σ H1 fun y H2 => ∃ o,DGet H2 a y o∧Q (o.getD .non) H2
section
variable {X:Cx} {o e f:Expr} {apos cpos:Pos} {td ty tx:TE}
theorem pe_dget1 (hu:X.A.units + 1 < cLine) (ho:PE X o td) (he:PE X e ty) (m:M1 X o "get" apos e cpos):PE X (.Call (.Attribute o "get" apos) [e] [] cpos) (tDGet1 td ty):=by
 intro pins s σ H Q I h
 refine wpAny_Call_method m.base m.few m.line PySem.F.plainAttrs_dict PySem.F.slot_dict_get PySem.F.type_dict_get (thn (ho pins s σ H _ I h) fun u s1 hh => ?_)
 obtain ⟨x,H1,I1,rx,a,ex,d,q1⟩:=hh
 subst ex
 obtain rfl:u = Value.ref a:=rx
 obtain ⟨t1,t2,_⟩:=isD_at I1 d
 refine ⟨t1,t2,?_⟩
 rw [m.trees]
 refine Calls.callWith_builtin rfl (Calls.evalArgs_plain (Calls.spliced_cons (thn (he pins s1 σ H1 _ I1 q1) fun iv s2 ⟨y,H2,I2,ry,ov,g,q2⟩ => Calls.spliced_nil ?_)))
 exact d_get1 hu I2 g ry fun w' s3 I3 rw' => ⟨_,H2,I3,rw',q2⟩
end
section
variable {X:Cx} {pins:List (Addr × Obj)} {σ:St} {H:Hp} {s:Shared} {a:Addr} {kvs:List (Key × V)} {A:Around} {E:Value→Shared→Prop}
end
section
variable {X:Cx} {pins:List (Addr × Obj)} {σ:St} {H:Hp} {s:Shared} {a:Addr} {y:V} {u:Value} {A:Around} {E:Value→Shared→Prop}
end
section
variable {κ:Type} [DecidableEq κ]
end
end L2
namespace L2
open PySem PySem.Spec PyProof.Rows
section
variable {X:Cx} {elts:List Expr} {kk:Nat} {tpos:Pos}
end
end L2
namespace L2
open PySem PySem.Spec PyProof.Rows
section
variable {X:Cx} {body:List Stmt} {b0:Stmt} {suite:List Stmt} {cn n:Str} {np hpos pos:Pos} {C0:Addr} {i:Nat} {tb:(St→XK)→TS} {th:TS}
end
end L2
namespace L2
open PySem PySem.Spec PyProof.Rows
section
variable {prog:Program} {w:World} {A:Around} {E:Value→Shared→Prop} {env:Env}
variable {nm q:Str} {C N:Addr} {bs bm:List Value} {hdct:Bool} {sn:List Str} {sub:List Value} {ab:Bool} {col:Option Bool} {dd:Option Addr} {k0 k1 k2 k3 k5:Option Value} {newId:String}
end
section
variable {P:Program} {w:World} {K:PySem.W.Frag} {mg:Str→Option Value} {base:Heap} {N ps:List Str} {qual:Str} {scope:Scope} {f:Addr} {cd:Value} {A:Around} {outer:List Env} {s:Shared} {H:Hp} {E:XK}
end
section
variable {X:Cx} {pins:List (Addr × Obj)} {σ:St} {H:Hp} {s:Shared}
end
section
variable {X:Cx} {body:List Stmt} {b0:Stmt} {suite:List Stmt} {cn:Str} {np hpos pos:Pos} {C0:Addr} {tb:XK→TS} {th:TS}
end
end L2
namespace L2
open PySem PySem.Spec PyProof.Rows
section
variable {P:Program} {w:World} {K:PySem.W.Frag} {mg:Str→Option Value} {base:Heap}
end
section
variable {X:Cx}
end
theorem cs_three {X:Cx} {scope:Scope} {N:List Str} {n1 n2 n3:Str} {a1 a2 a3:Addr} (hN:X.N = N) (hk:scope.kind = .function) (hcl:closureFor scope X.env = pure [(n1,a1),(n2,a2),(n3,a3)]) (s1:X.env.cells.lookup n1 = some a1) (s2:X.env.cells.lookup n2 = some a2) (s3:X.env.cells.lookup n3 = some a3)
  (o1:X.env.kindOf n1 = some .cell) (o2:X.env.kindOf n2 = some .cell) (o3:X.env.kindOf n3 = some .cell)
  (h1:(scope.names.all fun y => y.2 != .cell && (y.2 != .free || (y.1 == n1 || y.1 == n2 || y.1 == n3))) = true) (h2:(scope.names.all fun y => y.2 != .local || scope.names.lookup y.1 == some .local) = true)
  (h3:(N.all fun x => scope.names.lookup x != some .local) = true):CompScope X scope [(n1,a1),(n2,a2),(n3,a3)] where
 clos:=hcl
 kind:=hk
 nocell:=fun y hy => by
  have:=List.all_eq_true.mp h1 y hy
  simp only [Bool.and_eq_true,bne_iff_ne] at this
  exact this.1
 names:=fun y hy e => by
  have:=List.all_eq_true.mp h2 y hy
  rw [e] at this
  simpa using this
 sub:=fun x c e => by
  rw [List.lookup_cons] at e
  split at e
  ·rename_i q
   obtain rfl:x = n1:=by simpa using q
   cases e; exact s1
  ·rw [List.lookup_cons] at e
   split at e
   ·rename_i q
    obtain rfl:x = n2:=by simpa using q
    cases e; exact s2
   ·rw [List.lookup_cons] at e
    split at e
    ·rename_i q
     obtain rfl:x = n3:=by simpa using q
     cases e; exact s3
    ·cases e
 has:=fun x e => by
  have:=List.all_eq_true.mp h1 _ (lookup_mem e)
  simp only [Bool.and_eq_true,Bool.or_eq_true,bne_iff_ne,ne_eq,beq_iff_eq] at this
  simp only [List.lookup_cons]
  by_cases q1:x = n1
  ·exact ⟨a1,by simp [q1]⟩
  ·by_cases q2:x = n2
   ·subst q2; exact ⟨a2,by rw [show (x == n1) = false by simpa using q1]; simp⟩
   ·by_cases q3:x = n3
    ·subst q3; exact ⟨a3,by rw [show (x == n1) = false by simpa using q1,show (x == n2) = false by simpa using q2]; simp⟩
    ·rcases this.2 with z | (z | z) | z
     ·exact absurd trivial z
     ·exact absurd z q1
     ·exact absurd z q2
     ·exact absurd z q3
 apart:=fun x hx => by
  have:=List.all_eq_true.mp h3 x (hN▸hx)
  simpa using this
 outer:=fun x e => by
  have:=List.all_eq_true.mp h1 _ (lookup_mem e)
  simp only [Bool.and_eq_true,Bool.or_eq_true,bne_iff_ne,ne_eq,beq_iff_eq] at this
  rcases this.2 with z | (z | z) | z
  ·exact absurd trivial z
  ·exact .inl (z▸o1)
  ·exact .inl (z▸o2)
  ·exact .inl (z▸o3)
section
variable {X:Cx}
end
end L2
set_option maxHeartbeats 4000000
namespace L2
open PySem Builtin Builtin.Str
section
variable {X:Cx}
end
end L2
namespace TS
open PySem PyProof.Rows L2
def kLt:L2.Key→L2.Key→Bool
 | .inl a,.inl b => decide (a < b)
 | .inr a,.inr b => decide (a.cps.toList < b.cps.toList)
 | .inl _,.inr _ => true
 | .inr _,.inl _ => false
theorem kLt_irr (a:L2.Key):kLt a a = false:=by
 cases a with
 | inl n => exact decide_eq_false (Int.lt_irrefl n)
 | inr x => exact decide_eq_false (List.lt_irrefl _)
theorem kLt_trans {a b c:L2.Key} (h1:kLt a b = true) (h2:kLt b c = true):kLt a c = true:=by
 cases a with
 | inl n => cases b with
  | inl m => cases c with
   | inl k => exact decide_eq_true (Int.lt_trans (of_decide_eq_true h1) (of_decide_eq_true h2))
   | inr k => rfl
  | inr m => cases c with
   | inl k => cases h2
   | inr k => rfl
 | inr n => cases b with
  | inl m => cases h1
  | inr m => cases c with
   | inl k => cases h2
   | inr k => exact decide_eq_true (List.lt_trans (of_decide_eq_true h1) (of_decide_eq_true h2))
theorem str_of_cps {x y:Str} (h:x.cps.toList = y.cps.toList):x = y:=Str.ext' (Array.toList_inj.mp h)
theorem kLt_tot {a b:L2.Key} (h1:kLt a b = false) (h2:kLt b a = false):a = b:=by
 cases a with
 | inl n => cases b with
  | inl m =>
   have:=of_decide_eq_false h1
   have:=of_decide_eq_false h2
   congr 1; omega
  | inr m => cases h1
 | inr n => cases b with
  | inl m => cases h2
  | inr m => exact congrArg Sum.inr (str_of_cps (List.le_antisymm (List.not_lt.mp (of_decide_eq_false h2)) (List.not_lt.mp (of_decide_eq_false h1))))
def KVal:L2.Key→Value→Prop
 | .inl n,v => ∃ t,v = .int n t
 | .inr x,v => ∃ t,v = .str x t
section
variable {prog:Program} {w:World} {A:Around} {E:Value→Shared→Prop} {s:Shared}
variable {f:Bool} {z:Array Keyed} {o:KeyKind}
end
end TS
namespace TS
open PySem PyProof.Rows L2
section
variable {prog:Program} {w:World} {A:Around} {E:Value→Shared→Prop} {s:Shared}
end
end TS
namespace TS
open PySem PyProof.Rows L2
section
variable {prog:Program} {w:World} {A:Around} {E:Value→Shared→Prop} {s:Shared} {f:Bool} {z:Array Keyed} {o:KeyKind}
end
end TS
namespace TS
open PySem PyProof.Rows L2
section
variable {prog:Program} {w:World} {A:Around} {E:Value→Shared→Prop} {s:Shared} {f:Bool} {z:Array Keyed} {o:KeyKind}
end
end TS
namespace TS
open PySem PyProof.Rows L2
section
variable {prog:Program} {w:World} {A:Around} {E:Value→Shared→Prop} {s:Shared} {f:Bool} {z:Array Keyed} {o:KeyKind}
end
end TS
namespace TS
open PySem PyProof.Rows L2
section
variable {prog:Program} {w:World} {A:Around} {E:Value→Shared→Prop} {s:Shared} {f:Bool} {z:Array Keyed} {o:KeyKind}
end
end TS
namespace TS
open PySem PyProof.Rows L2
section
variable {prog:Program} {w:World} {A:Around} {E:Value→Shared→Prop} {s:Shared} {f:Bool} {z:Array Keyed} {o:KeyKind}
end
end TS
namespace TS
open PySem PyProof.Rows L2
section
variable {prog:Program} {w:World} {A:Around} {E:Value→Shared→Prop} {s:Shared} {f:Bool} {z:Array Keyed} {o:KeyKind}
end
end TS
namespace TS
open PySem PyProof.Rows L2
section
variable {prog:Program} {w:World} {A:Around} {E:Value→Shared→Prop} {s:Shared} {f:Bool} {z:Array Keyed} {o:KeyKind}
end
end TS
namespace TS
open PySem PyProof.Rows L2
def Dct (h:Heap) (d:Addr) (es:Array DictEntry) (ep:Nat):Prop:=∃ ob,h.get? d = some ob∧ob.ExactDict∧ob.data = .dict es ep
theorem Dct.typeIs {s:Shared} {d:Addr} {es:Array DictEntry} {ep:Nat} (x:Dct s.heap d es ep):s.TypeIs (.ref d) "dict":=by
 obtain ⟨ob,e,c,_⟩:=x
 exact ⟨ob,e,c.1⟩
section
variable {prog:Program} {w:World} {A:Around} {E:Value→Shared→Prop} {s:Shared} {d t:Addr} {es:Array DictEntry} {ep i:Nat}
theorem iter_dct {Q:Value→Shared→Prop} (hd:(d == sysModules) = false) (x:Dct s.heap d es ep)
  (q:Q (.ref s.heap.objs.size) { s with heap:=s.heap.push { cls:=.type "dict_keyiterator",data:=.fields #[.ref d,.int 0 0,.int es.size 0,.int ep 0] } }):wpAny (model prog w) A (pyIter (.ref d)) Q E s:=by
 have ty:=x.typeIs
 obtain ⟨ob,e,c,dt⟩:=x
 refine wpAny_pyIter_slot ty F.slot_dict_iter (wpAny_call_entry F.slot_dict_iter ty F.entry_dict_iter (wpAny_bind ?_) (F.args_dict_iter_1 _))
 refine wpAny_bind (wpAny_notOrdered_dict ty ?_)
 show wpAny _ _ (pure (Value.ref d)) _ _ s
 refine wpAny_pure ?_
 show wpAny _ _ (Builtin.Dict.showsAll d >>= _) _ _ s
 unfold Builtin.Dict.showsAll
 rw [if_neg (by rw [hd]; decide)]
 refine wpAny_bind (wpAny_pure (wpAny_bind (wpAny_dictEntries e dt (wpAny_bind (wpAny_dictEpoch e dt ?_)))))
 exact wpAny_bind (wpAny_newObj_type (wpAny_pure ⟨_,rfl,"dict_keyiterator",_,⟨_,Heap.get?_push_size _ rfl,rfl⟩,F.slot_dict_keyiterator_next.lookup,q⟩))
theorem next_dct {Q:Option Value→Shared→Prop} (k:s.heap.IsKeyIter t d i es.size ep) (x:Dct s.heap d es ep) (hi:i < es.size)
  (q:∀ h',h'.IsKeyIter t d (i + 1) es.size ep→Heap.SameBut t s.heap h'→Q (some es[i].key) { s with heap:=h' }):wpAny (model prog w) A (pyNext (.ref t)) Q E s:=by
 have ty:=k.typeIs
 obtain ⟨oi,e,c,dt⟩:=id k
 obtain ⟨ob,e2,_,dt2⟩:=x
 refine wpAny_bind (wpAny_attempt (wpAny_callSpecial?_slot (name:=Str.ofString "__next__") ty F.slot_dict_keyiterator_next (wpAny_call_entry F.slot_dict_keyiterator_next ty F.entry_dict_keyiterator_next (wpAny_bind (wpAny_pure (wpAny_bind (wpAny_bind ?_)))) (F.args_dict_keyiterator_next_1 _))))
 refine wpAny_bind (wpAny_typeNameOfWhole_keyiter ty (wpAny_pure (wpAny_bind (wpAny_fieldsOf e dt ?_))))
 rw [show Builtin.Dict_items.ownsTuple "dict_keyiterator" = false by decide]
 show wpAny _ _ (if (Value.ref d == Value.none) = true then _ else _) _ _ s
 rw [if_neg (fun z => Bool.false_ne_true z)]
 refine wpAny_bind (wpAny_pure (wpAny_bind (wpAny_dictEntries e2 dt2 ?_)))
 rw [if_neg (by simp)]
 refine wpAny_bind (wpAny_pure (wpAny_bind (wpAny_dictEpoch e2 dt2 ?_)))
 rw [if_neg (by simp)]
 refine wpAny_pure ?_
 simp only [show ¬ ((i:Int) < 0) by omega,if_false,Int.toNat_natCast,Array.getElem?_eq_getElem hi]
 refine wpAny_bind (wpAny_bind (wpAny_typeNameOfWhole_keyiter ty (wpAny_pure (wpAny_bind (wpAny_isOneOf_keyiter ty ?_)))))
 show wpAny _ _ (setField (.ref t) 1 (rawInt ((i:Int) + 1)) >>= _) _ _ s
 refine wpAny_bind (wpAny_setField e dt (by simp) ?_)
 have k2:(s.heap.update t (Obj.mapFields (·.setIfInBounds 1 (rawInt ((i:Int) + 1))))).IsKeyIter t d (i + 1) es.size ep:=⟨_,Heap.get?_update_self _ e (Obj.isFreed_of_fields (Obj.data_mapFields dt _)),(Obj.cls_mapFields ..).trans c,by rw [Obj.data_mapFields dt]; simp [rawInt]⟩
 refine wpAny_bind (wpAny_holding (wpAny_bind (wpAny_isOneOf_keyiter (s:={ s with heap:=s.heap.update t (Obj.mapFields (·.setIfInBounds 1 (rawInt ((i:Int) + 1)))) }) k2.typeIs ?_)))
 show wpAny _ _ (pure es[i].key) _ _ _
 exact wpAny_pure (wpAny_pure ⟨_,rfl,wpAny_pure (q _ k2 (Heap.SameBut.update ..))⟩)
theorem stop_dct {Q:Option Value→Shared→Prop} (hh:A.handled = none) (k:s.heap.IsKeyIter t d i es.size ep) (x:Dct s.heap d es ep) (hi:es.size≤i)
  (q:∀ h',Heap.ExtBut t s.heap h'→Q none { s with heap:=h' }):wpAny (model prog w) A (pyNext (.ref t)) Q E s:=by
 have ty:=k.typeIs
 obtain ⟨oi,e,c,dt⟩:=id k
 obtain ⟨ob,e2,_,dt2⟩:=x
 refine wpAny_bind (wpAny_attempt (wpAny_callSpecial?_slot (name:=Str.ofString "__next__") ty F.slot_dict_keyiterator_next (wpAny_call_entry F.slot_dict_keyiterator_next ty F.entry_dict_keyiterator_next (wpAny_bind (wpAny_pure (wpAny_bind (wpAny_bind ?_)))) (F.args_dict_keyiterator_next_1 _))))
 refine wpAny_bind (wpAny_typeNameOfWhole_keyiter ty (wpAny_pure (wpAny_bind (wpAny_fieldsOf e dt ?_))))
 rw [show Builtin.Dict_items.ownsTuple "dict_keyiterator" = false by decide]
 show wpAny _ _ (if (Value.ref d == Value.none) = true then _ else _) _ _ s
 rw [if_neg (fun z => Bool.false_ne_true z)]
 refine wpAny_bind (wpAny_pure (wpAny_bind (wpAny_dictEntries e2 dt2 ?_)))
 rw [if_neg (by simp)]
 refine wpAny_bind (wpAny_pure (wpAny_bind (wpAny_dictEpoch e2 dt2 ?_)))
 rw [if_neg (by simp)]
 refine wpAny_pure ?_
 simp only [show ¬ ((i:Int) < 0) by omega,if_false,Int.toNat_natCast,Array.getElem?_eq_none hi]
 refine wpAny_bind (wpAny_bind (wpAny_typeNameOfWhole_keyiter ty (wpAny_pure ?_)))
 show wpAny _ _ (setField (.ref t) 0 .none >>= _) _ _ s
 refine wpAny_bind (wpAny_setField e dt (by simp) ?_)
 show wpAny _ _ (newExc (.type "StopIteration") [] >>= _) _ _ _
 refine wpAny_bind ?_
 simp only [newExc,newTuple]
 refine wpAny_bind (wpAny_newObj_type (wpAny_bind (m:=firstArgMember _ _) (wpAny_of_eq (a:=Value.none) (by simp only [firstArgMember]; rfl) (wpAny_newObj_type ?_ (by size_fits)))) (by size_fits))
 simp only [raiseNew]
 refine wpAny_bind (wpAny_handled ?_)
 rw [show A.in1.handled = none from hh]
 refine wpAny_bind (wpAny_pure (wpAny_throw ?_))
 exact wpAny_bind (wpAny_isInstance (T:="StopIteration") (b:=true) ⟨_,Heap.get?_push_size _ rfl,rfl⟩ isSubtype_stop (wpAny_pure (q _ (((Heap.SameBut.update ..).extBut.push _).push _))))
end
end TS
namespace TS
open PySem PyProof.Rows L2
section
variable {prog:Program} {w:World} {A:Around} {E:Value→Shared→Prop} {s:Shared}
end
end TS
namespace L2
open PySem PyProof.Rows TS
def KeyAt (H:Hp) (bs:List Addr) (ks:List (List Key)):Prop:=bs.length = ks.length∧∀ (i:Nat) (b:Addr) (k:List Key),bs[i]? = some b→ks[i]? = some k→H b = some (.tup (k.map kV))
theorem paired_mem {α β:Type} {F:α→β→Prop}:∀ {l:List α} {m:List β} {y:β},Paired F l m→y∈m→∃ x∈l,F x y
 | _,_,_,.nil,h => by cases h
 | _,_,y,.cons r t,h => by
  rcases List.mem_cons.mp h with rfl | h
  ·exact ⟨_,List.mem_cons_self ..,r⟩
  ·obtain ⟨x,hx,hf⟩:=paired_mem t h
   exact ⟨x,List.mem_cons_of_mem _ hx,hf⟩
theorem paired_map {α β γ:Type} {F:α→β→Prop} {g:α→γ} {g':β→γ}:∀ {l:List α} {m:List β},Paired F l m→(∀ x y,F x y→g' y = g x)→l.map g = m.map g'
 | _,_,.nil,_ => rfl
 | _,_,.cons r t,h => by rw [List.map_cons,List.map_cons,h _ _ r,paired_map t h]
section
variable {X:Cx}
end
end L2
namespace L2
open PySem PySem.Spec PyProof.Rows
section
variable {X:Cx} {pins:List (Addr × Obj)} {σ:St} {H:Hp} {s:Shared}
structure LT (K:PySem.W.Frag) (H:Hp) (a:Addr) (nss:List (List Int)):Prop where
 ex:∃ ps:List Addr,SqL K H a (ps.map V.ref)∧Tups K H ps nss
theorem eqAt_lt (I:Inv X pins σ H s) {A:Around} {a b:Addr} {nss mss:List (List Int)} (hu:A.units + 2 < cLine) (ha:LT X.K H a nss) (hb:LT X.K H b mss) (hab:a≠b):SeqAt.EqAt A s (.ref a) (.ref b) (decide (nss = mss)):=by
 obtain ⟨ps,h1,T1⟩:=ha.ex
 obtain ⟨qs,h2,T2⟩:=hb.ex
 obtain ⟨its,r1,p1,_⟩:=I.list h1
 obtain ⟨its2,r2,p2,_⟩:=I.list h2
 have hu1:A.units < cLine:=by omega
 have hu2:A.in1.units < cLine:=by show A.units + 1 < cLine; omega
 by_cases hz:its.toArray.size = its2.toArray.size
 ·rw [← lists_bool T1.len T2.len r1 r2 hz]
  exact SeqAt.EqAt.of_refs hab (SeqAt.RcAt.lists p1.isList p2.isList hz hu1 fun j g1 g2 => eqAt_refs I hu2 T1 T2 r1 r2 j g1 g2)
 ·have hne:nss≠mss:=fun e => by
   have e1:=r1.length
   have e2:=r2.length
   rw [List.length_map] at e1 e2
   rw [List.size_toArray,List.size_toArray] at hz
   have:=T1.len
   have:=T2.len
   rw [e] at *
   omega
  rw [decide_eq_false hne]
  exact SeqAt.EqAt.of_refs hab (SeqAt.RcAt.lists_lengths p1.isList p2.isList (bne_iff_ne.mpr hz) hu1)
theorem op_ne2L (hu:X.A.units + 64 < cLine):OpR X (compareOp .NotEq) (fun x y H Q => ∃ (p q a1 a2 b1 b2:Addr) (n1 n2 m1 m2:List (List Int)),x = .ref p∧y = .ref q∧SqT X.K H p [.ref a1,.ref a2]∧SqT X.K H q [.ref b1,.ref b2]∧LT X.K H a1 n1∧LT X.K H a2 n2∧LT X.K H b1 m1∧LT X.K H b2 m2∧a1≠b1∧a2≠b2∧Q (.bl (!(decide (n1 = m1) && decide (n2 = m2)))) H):=by
 intro pins s σ H x y v u Q I rx ry h
 obtain ⟨p,q,a1,a2,b1,b2,n1,n2,m1,m2,rfl,rfl,hp,hq,l1,l2,l3,l4,d1,d2,k⟩:=h
 cases rx
 cases ry
 obtain ⟨its,r1,p1,_⟩:=I.tuple hp
 obtain ⟨its2,r2,p2,_⟩:=I.tuple hq
 obtain ⟨v1,w1,rfl,e1,f1⟩:∃ v w,its = [v,w]∧v = .ref a1∧w = .ref a2:=by
  cases r1 with
  | cons x t => cases t with
   | cons y t => cases t with
    | nil => exact ⟨_,_,rfl,x,y⟩
 obtain ⟨v2,w2,rfl,e2,f2⟩:∃ v w,its2 = [v,w]∧v = .ref b1∧w = .ref b2:=by
  cases r2 with
  | cons x t => cases t with
   | cons y t => cases t with
    | nil => exact ⟨_,_,rfl,x,y⟩
 subst e1 f1 e2 f2
 have hu1:X.A.units < cLine:=by omega
 have hu2:X.A.in1.units + 2 < cLine:=by show X.A.units + 1 + 2 < cLine; omega
 have key:∀ (j:Nat) (g1:j < #[Value.ref a1,Value.ref a2].size) (g2:j < #[Value.ref b1,Value.ref b2].size),SeqAt.EqAt X.A.in1 s #[Value.ref a1,Value.ref a2][j] #[Value.ref b1,Value.ref b2][j] ((fun j => if j = 0 then decide (n1 = m1) else decide (n2 = m2)) j):=fun j g1 g2 => by
  match j,g1,g2 with
  | 0,_,_ => exact eqAt_lt I hu2 l1 l3 d1
  | 1,_,_ => exact eqAt_lt I hu2 l2 l4 d2
 refine EqBoolInt.of_rcne (SeqAt.RcNeAt.tuples p1 p2 hu1 key) ⟨.bl _,H,I,rfl,?_⟩
 have ev:((List.range 2).all (fun j => if j = 0 then decide (n1 = m1) else decide (n2 = m2)) && (2 == 2)) = (decide (n1 = m1) && decide (n2 = m2)):=by
  show ((decide (n1 = m1)) && ((decide (n2 = m2)) && true) && true) = _
  cases decide (n1 = m1) <;> cases decide (n2 = m2) <;> rfl
 rw [← ev] at k
 exact k
end
end L2
namespace TS
open PySem PyProof.Rows L2
section
variable {prog:Program} {w:World} {A:Around} {E:Value→Shared→Prop} {s:Shared}
theorem for_list_wp {β:Type} {M:Model} {A:Around} {E:Value→Shared→Prop} {s:Shared} {g:Nat→β→Sem (ForInStep β)} (I:Nat→β→Prop) {Q:β→Shared→Prop} (n:Nat)
  (step:∀ i c,i < n→I i c→wpAny M A (g i c) (fun r s' => s' = s∧match r with | .done c' => Q c' s | .yield c' => I (i + 1) c') E s) (fin:∀ c,I n c→Q c s):∀ (k i:Nat) (c:β),i + k = n→I i c→wpAny M A (forIn (List.range' i k 1) c g) Q E s
 | 0,i,c,h,hi => by
  rw [List.range'_zero,List.forIn_nil]
  obtain rfl:i = n:=by omega
  exact wpAny_pure (fin c hi)
 | k + 1,i,c,h,hi => by
  rw [List.range'_succ,List.forIn_cons]
  refine wpAny_bind (wpAny_mono (step i c (by omega) hi) (fun r s' hr => ?_) fun _ _ e => e)
  obtain ⟨rfl,hr⟩:=hr
  cases r with
  | done c' => exact wpAny_pure hr
  | yield c' => exact for_list_wp I n step fin k (i + 1) c' (by omega) hr
theorem for_range_wp {β:Type} {M:Model} {g:Nat→β→Sem (ForInStep β)} (I:Nat→β→Prop) {Q:β→Shared→Prop} {n:Nat} {c:β}
  (step:∀ i c,i < n→I i c→wpAny M A (g i c) (fun r s' => s' = s∧match r with | .done c' => Q c' s | .yield c' => I (i + 1) c') E s) (fin:∀ c,I n c→Q c s) (h0:I 0 c):wpAny M A (forIn [0:n] c g) Q E s:=by
 rw [Std.Legacy.Range.forIn_eq_forIn_range']
 have hsz:([0:n]:Std.Legacy.Range).size = n:=by simp [Std.Legacy.Range.size]
 show wpAny M A (forIn (List.range' 0 ([0:n]:Std.Legacy.Range).size 1) c g) Q E s
 rw [hsz]
 exact for_list_wp I n step fin n 0 c (by omega) h0
variable {K:Type} [DecidableEq K] {knd:HeapKind prog w K}
end
end TS
namespace L2
open PySem PyProof.Rows TS
section
variable {X:Cx}
end
end L2
namespace TS
open PySem PyProof.Rows L2
section
variable {prog:Program} {w:World} {A:Around} {E:Value→Shared→Prop} {s:Shared} {K:Type} [DecidableEq K] {knd:HeapKind prog w K}
end
end TS
namespace L2
open PySem PyProof.Rows TS
section
variable {X:Cx}
end
end L2
namespace L2
open PySem PySem.Spec PyProof.Rows
section
variable {P:Program} {w:World} {K:PySem.W.Frag} {mg:Str→Option Value} {base:Heap}
end
section
variable {X:Cx} {k:Nat} {m:Str} {C:Addr} {ps:List Str} {sp:Sp} {E:XK}
end
end L2
namespace L2
open PySem PyProof.Rows
section
variable {X:Cx}
end
end L2
namespace L2
open PySem PySem.Spec PyProof.Rows
theorem op_catTK {X:Cx} {K:PySem.W.Frag} (h:X.K = K):OpR X (binaryOp .Add) (rCatT K):=h▸op_catT
section
variable {X:Cx} {k:Nat} {x m:Str} {C:Addr} {ps:List Str} {sp:Sp} {E:St→XK} {p pos apos:Pos} {e o:Expr} {es:List Expr} {ta:TE} {t:TA}
end
end L2
namespace L2
open PySem PySem.Spec PyProof.Rows TS
section
variable {X:Cx}
def rInT (K:PySem.W.Frag) (neg:Bool):R2:=fun x y H Q => ∃ (p a:Addr) (ns:List Int) (nss:List (List Int)),x = .ref p∧y = .ref a∧SqT K H p (ns.map V.int)∧LT K H a nss∧Q (.bl (if neg then !decide (ns∈nss) else decide (ns∈nss))) H
open Classical in
theorem tup_fun {pins:List (Addr × Obj)} {σ:St} {H:Hp} {s:Shared} (I:Inv X pins σ H s):∃ f:Addr→List Int,∀ p ns,SqT X.K H p (ns.map V.int)→f p = ns :=
 ⟨fun p => if h:∃ ns:List Int,SqT X.K H p (ns.map V.int) then Classical.choose h else [],fun p ns h => by
  have hx:∃ ns:List Int,SqT X.K H p (ns.map V.int):=⟨ns,h⟩
  show (if h:∃ ns:List Int,SqT X.K H p (ns.map V.int) then Classical.choose h else []) = ns
  rw [dif_pos hx]
  have e:=I.tuple_inj (Classical.choose_spec hx) h
  exact (List.map_inj_right (f:=V.int) fun x y h => V.int.inj h).mp e⟩
theorem in_tups {pins:List (Addr × Obj)} {σ:St} {H:Hp} {s:Shared} (I:Inv X pins σ H s) (hu:X.A.units + 2 < cLine) {p a:Addr} {ns:List Int} {nss:List (List Int)} (hp:SqT X.K H p (ns.map V.int)) (ha:LT X.K H a nss) :
  ∃ (its:List Value) (e:Value→Bool),s.heap.IsList a its.toArray∧(∀ y,y∈its.toArray→SeqAt.EqAt X.A.in1 s y (.ref p) (e y))∧its.toArray.any e = decide (ns∈nss):=by
 obtain ⟨ps,h1,T⟩:=ha.ex
 obtain ⟨its,r1,p1,_⟩:=I.list h1
 obtain rfl:=refs_of r1
 obtain ⟨f,hf⟩:=tup_fun I
 have hu1:X.A.in1.units < cLine:=by show X.A.units + 1 < cLine; omega
 have at_:∀ q∈ps,∃ ms∈nss,SqT X.K H q (ms.map V.int):=fun q hq => by
  obtain ⟨i,hi,e⟩:=List.getElem_of_mem hq
  have hi2:i < nss.length:=by rw [← T.len]; exact hi
  exact ⟨nss[i],List.getElem_mem hi2,T.at_ i q nss[i] (by rw [List.getElem?_eq_getElem hi,e]) (List.getElem?_eq_getElem hi2)⟩
 refine ⟨ps.map Value.ref,fun v => match v with | .ref q => decide (f q = ns) | _ => false,p1.isList,fun y hy => ?_,?_⟩
 ·obtain ⟨q,hq,rfl⟩:=List.mem_map.mp (by simpa using hy:y∈ps.map Value.ref)
  obtain ⟨ms,_,hq2⟩:=at_ q hq
  show SeqAt.EqAt _ _ _ _ (decide (f q = ns))
  rw [hf q ms hq2]
  exact eqAt_tup I hu1 hq2 hp
 ·rw [Bool.eq_iff_iff,decide_eq_true_iff]
  constructor
  ·intro h
   obtain ⟨q,hq,e2⟩:∃ q,q∈ps∧f q = ns:=by simpa using h
   obtain ⟨ms,hm,hq2⟩:=at_ q hq
   rw [hf q ms hq2] at e2
   rw [← e2]; exact hm
  ·intro h
   obtain ⟨i,hi,e⟩:=List.getElem_of_mem h
   have hi2:i < ps.length:=by rw [T.len]; exact hi
   have hq:=T.at_ i ps[i] ns (List.getElem?_eq_getElem hi2) (by rw [List.getElem?_eq_getElem hi,e])
   have:∃ q,q∈ps∧f q = ns:=⟨ps[i],List.getElem_mem hi2,hf _ ns hq⟩
   simpa using this
theorem op_inT (hu:X.A.units + 64 < cLine):OpR X (compareOp .In) (rInT X.K false):=by
 intro pins s σ H x y v u Q I rx ry h
 obtain ⟨p,a,ns,nss,rfl,rfl,hp,ha,q⟩:=h
 cases rx
 cases ry
 obtain ⟨its,e,hl,he,ev⟩:=in_tups I (by omega) hp ha
 refine SeqAt.in_listAt e hl he ⟨.bl _,H,I,rfl,?_⟩
 rw [ev]; exact q
theorem op_notInT (hu:X.A.units + 64 < cLine):OpR X (compareOp .NotIn) (rInT X.K true):=by
 intro pins s σ H x y v u Q I rx ry h
 obtain ⟨p,a,ns,nss,rfl,rfl,hp,ha,q⟩:=h
 cases rx
 cases ry
 obtain ⟨its,e,hl,he,ev⟩:=in_tups I (by omega) hp ha
 refine SeqAt.notIn_listAt e hl he ⟨.bl _,H,I,rfl,?_⟩
 rw [ev]; exact q
end
end L2
namespace L2
open PySem PySem.Spec PyProof.Rows
theorem cs_two {X:Cx} {scope:Scope} {N:List Str} {n1 n2:Str} {a1 a2:Addr} (hN:X.N = N) (hk:scope.kind = .function) (hcl:closureFor scope X.env = pure [(n1,a1),(n2,a2)]) (s1:X.env.cells.lookup n1 = some a1) (s2:X.env.cells.lookup n2 = some a2)
  (o1:X.env.kindOf n1 = some .cell) (o2:X.env.kindOf n2 = some .cell)
  (h1:(scope.names.all fun y => y.2 != .cell && (y.2 != .free || (y.1 == n1 || y.1 == n2))) = true) (h2:(scope.names.all fun y => y.2 != .local || scope.names.lookup y.1 == some .local) = true)
  (h3:(N.all fun x => scope.names.lookup x != some .local) = true):CompScope X scope [(n1,a1),(n2,a2)] where
 clos:=hcl
 kind:=hk
 nocell:=fun y hy => by
  have:=List.all_eq_true.mp h1 y hy
  simp only [Bool.and_eq_true,bne_iff_ne] at this
  exact this.1
 names:=fun y hy e => by
  have:=List.all_eq_true.mp h2 y hy
  rw [e] at this
  simpa using this
 sub:=fun x c e => by
  rw [List.lookup_cons] at e
  split at e
  ·rename_i q
   obtain rfl:x = n1:=by simpa using q
   cases e; exact s1
  ·rw [List.lookup_cons] at e
   split at e
   ·rename_i q
    obtain rfl:x = n2:=by simpa using q
    cases e; exact s2
   ·cases e
 has:=fun x e => by
  have:=List.all_eq_true.mp h1 _ (lookup_mem e)
  simp only [Bool.and_eq_true,Bool.or_eq_true,bne_iff_ne,ne_eq,beq_iff_eq] at this
  simp only [List.lookup_cons]
  by_cases q1:x = n1
  ·exact ⟨a1,by simp [q1]⟩
  ·by_cases q2:x = n2
   ·subst q2; exact ⟨a2,by rw [show (x == n1) = false by simpa using q1]; simp⟩
   ·rcases this.2 with z | z | z
    ·exact absurd trivial z
    ·exact absurd z q1
    ·exact absurd z q2
 apart:=fun x hx => by
  have:=List.all_eq_true.mp h3 x (hN▸hx)
  simpa using this
 outer:=fun x e => by
  have:=List.all_eq_true.mp h1 _ (lookup_mem e)
  simp only [Bool.and_eq_true,Bool.or_eq_true,bne_iff_ne,ne_eq,beq_iff_eq] at this
  rcases this.2 with z | z | z
  ·exact absurd trivial z
  ·exact .inl (z▸o1)
  ·exact .inl (z▸o2)
theorem cs_twoN {X:Cx} {N0:List Str} {scope:Scope} {N:List Str} {n1 n2:Str} {a1 a2:Addr} (hN:X.N = N) (hk:scope.kind = .function) (hcl:closureFor scope X.env = pure [(n1,a1),(n2,a2)]) (s1:X.env.cells.lookup n1 = some a1) (s2:X.env.cells.lookup n2 = some a2)
  (o1:X.env.kindOf n1 = some .cell) (o2:X.env.kindOf n2 = some .cell)
  (h1:(scope.names.all fun y => y.2 != .cell && (y.2 != .free || (y.1 == n1 || y.1 == n2))) = true) (h2:(scope.names.all fun y => y.2 != .local || scope.names.lookup y.1 == some .local) = true)
  (hl:N0.length = N.length) (h3:((N0.zip N).all fun y => (y.1 == y.2 && scope.names.lookup y.1 != some .local) || scope.names.lookup y.1 == none) = true):CompScopeN X N0 scope [(n1,a1),(n2,a2)] where
 clos:=hcl
 kind:=hk
 nocell:=fun y hy => by
  have:=List.all_eq_true.mp h1 y hy
  simp only [Bool.and_eq_true,bne_iff_ne] at this
  exact this.1
 names:=fun y hy e => by
  have:=List.all_eq_true.mp h2 y hy
  rw [e] at this
  simpa using this
 sub:=fun x c e => by
  rw [List.lookup_cons] at e
  split at e
  ·rename_i q
   obtain rfl:x = n1:=by simpa using q
   cases e; exact s1
  ·rw [List.lookup_cons] at e
   split at e
   ·rename_i q
    obtain rfl:x = n2:=by simpa using q
    cases e; exact s2
   ·cases e
 has:=fun x e => by
  have:=List.all_eq_true.mp h1 _ (lookup_mem e)
  simp only [Bool.and_eq_true,Bool.or_eq_true,bne_iff_ne,ne_eq,beq_iff_eq] at this
  simp only [List.lookup_cons]
  by_cases q1:x = n1
  ·exact ⟨a1,by simp [q1]⟩
  ·by_cases q2:x = n2
   ·subst q2; exact ⟨a2,by rw [show (x == n1) = false by simpa using q1]; simp⟩
   ·rcases this.2 with z | z | z
    ·exact absurd trivial z
    ·exact absurd z q1
    ·exact absurd z q2
 outer:=fun x e => by
  have:=List.all_eq_true.mp h1 _ (lookup_mem e)
  simp only [Bool.and_eq_true,Bool.or_eq_true,bne_iff_ne,ne_eq,beq_iff_eq] at this
  rcases this.2 with z | z | z
  ·exact absurd trivial z
  ·exact .inl (z▸o1)
  ·exact .inl (z▸o2)
 lenN:=by rw [hN]; exact hl
 nm:=fun i x e => by
  have hi:i < N.length:=by rw [← hl]; exact (List.getElem?_eq_some_iff.mp e).1
  have hz:(N0.zip N)[i]? = some (x,N[i]):=by rw [List.getElem?_zip_eq_some]; exact ⟨e,List.getElem?_eq_getElem hi⟩
  have:=List.all_eq_true.mp h3 _ (List.mem_of_getElem? hz)
  simp only [Bool.or_eq_true,Bool.and_eq_true,beq_iff_eq,bne_iff_ne] at this
  rcases this with ⟨q1,q2⟩ | q
  ·exact .inl ⟨by rw [hN,List.getElem?_eq_getElem hi,← q1],q2⟩
  ·exact .inr q
theorem comp_rangeN {lo:Int} {n:Nat} {g:TG} {tc:TT} {te:TE} {k:Nat} {σ:St} {H:Hp} {Q:VK} (Pv:Addr→Nat→List V→Hp→Prop) (hn:n≤sizeLine)
  (h0:∀ D,H D = none→Pv D 0 [] (upd H D (.lst []))) (hD:∀ D i ys H',Pv D i ys H'→H' D = some (.lst ys)∧ys.length≤i)
  (step:∀ D i ys H' (Qy:VK) (Qn:Hp→Prop),i < n→Pv D i ys H'→(∀ y H4,H4 D = some (.lst ys)→Pv D (i + 1) (ys ++ [y]) (upd H4 D (.lst (ys ++ [y])))→Qy y H4)→(∀ H4,Pv D (i + 1) ys H4→Qn H4) →
   g (.int (lo + i)) (σ ++ List.replicate k none) H' fun σ2 H2 => (∃ zs,σ2 = σ ++ zs∧zs.length = k)∧tc σ2 H2 fun b H3 => if b = true then te σ2 H3 Qy else Qn H3)
  (q:∀ D ys H',H D = none→Pv D n ys H'→Q (.ref D) H'):compT k g tc te σ Q (Itr lo n) H:=by
 intro D hDn
 refine ⟨fun i m ys H' => m = n - i∧i≤n∧Pv D i ys H',⟨n,by simp,Nat.zero_le _,h0 D hDn⟩,?_⟩
 rintro i m ys H' ⟨rfl,hi,p⟩
 obtain ⟨e,hl⟩:=hD D i ys H' p
 refine ⟨e,?_⟩
 by_cases hlt:i < n
 ·refine .inr ⟨hlt,by omega,fun x H2 y => ?_⟩
  obtain ⟨rfl,rfl⟩:=y
  exact step D i ys H2 _ _ hlt p (fun y H4 e4 p4 => ⟨e4,n - (i + 1),by omega,rfl,hlt,p4⟩) fun H4 p4 => ⟨n - (i + 1),by omega,rfl,hlt,p4⟩
 ·obtain rfl:i = n:=by omega
  exact .inl ⟨Nat.le_refl _,q D ys H' hDn p⟩
end L2
namespace L2
open PySem PySem.Spec PyProof.Rows TS
section
variable {X:Cx} {pos:Pos}
end
section
variable {X:Cx} {pins:List (Addr × Obj)} {σ:St} {H:Hp} {s:Shared}
theorem op_eq_nil (hu:X.A.units < cLine):OpR X (compareOp .Eq) (fun x y H Q => ∃ a b xs,x = .ref a∧y = .ref b∧SqL X.K H a xs∧SqL X.K H b []∧Q (.bl xs.isEmpty) H):=by
 intro pins s σ H x y v u Q I rx ry h
 obtain ⟨a,b,xs,rfl,rfl,ha,hb,q⟩:=h
 cases rx
 cases ry
 obtain ⟨its,rv,p,_⟩:=I.list ha
 obtain ⟨jts,rw',p',_⟩:=I.list hb
 cases rw'
 cases rv with
 | nil => exact EqBoolInt.of_rc (SeqAt.RcAt.lists (e:=fun _ => true) p.isList p'.isList rfl hu (fun j h1 => absurd h1 (by simp))) ⟨.bl true,H,I,rfl,q⟩
 | cons r t => exact EqBoolInt.of_rc (SeqAt.RcAt.lists_lengths p.isList p'.isList (by simp) hu) ⟨.bl false,H,I,rfl,q⟩
open Classical in
end
end L2
namespace STb
open PySem SetTable
end STb
namespace STb
open PySem SetTable
end STb
namespace STb
open PySem SetTable
end STb
namespace STb
open PySem SetTable
end STb
namespace STb
open PySem PySem.Spec PyProof.Rows L2 SetTable
section
variable {P:Program} {w:World} {A:Around} {E:Value→Shared→Prop} {s:Shared}
abbrev tk (P:Program) (w:World):HeapKind P w (List Key):=tupleKind (mixKind P w)
end
end STb
namespace STb
open PySem PySem.Spec PyProof.Rows L2 SetTable
section
variable {P:Program} {w:World} {A:Around} {E:Value→Shared→Prop} {s:Shared}
end
end STb
namespace STb
open PySem PySem.Spec PyProof.Rows L2 SetTable
section
variable {P:Program} {w:World} {A:Around} {E:Value→Shared→Prop} {s:Shared}
end
end STb
namespace STb
open PySem PySem.Spec PyProof.Rows L2 SetTable
section
variable {P:Program} {w:World} {A:Around} {E:Value→Shared→Prop} {s:Shared}
end
end STb
namespace STb
open PySem PySem.Spec PyProof.Rows L2 SetTable
section
variable {P:Program} {w:World}
theorem is_same {h h':Heap} {k:List Key} {b:Addr} (x:(tk P w).is h k b) (e:∀ o,h.get? b = some o→h'.get? b = some o):(tk P w).is h' k b:=by
 obtain ⟨o',items,m',ho,hc,hd,hi⟩:=x
 exact ⟨o',items,m',e _ ho,hc,hd,hi⟩
variable {A:Around} {R:Result→Shared→Prop} {It:Addr} {fp wr:List Addr} {G:Array GenState→Array GenState→Prop} {n:Nat} {Pr:Nat→Value→Prop} {St:Nat→Shared→Prop}
end
end STb
namespace STb
open PySem PySem.Spec PyProof.Rows L2 SetTable
section
variable {P:Program} {w:World} {A:Around} {E:Value→Shared→Prop} {s:Shared}
end
end STb
namespace L2
open PySem PySem.Spec PyProof.Rows TS STb
section
variable {X:Cx}
end
end L2
namespace L2
open PySem PySem.Spec PyProof.Rows
def CodeE (c:Addr) (qual:Str):HO:=.ext fun h => h.CodeRec (.ref c) qual
def Tbl (H:Hp) (P:Addr) (pos:Pos) (qual:Str):Prop :=
 ∃ ps,H P = some (.tbl ps)∧TriplesOk ps.toList∧(codeAmong pos ps.toList = none∨∃ c,codeAmong pos ps.toList = some (.ref c)∧H c = some (CodeE c qual))
def OffP (P:Addr) (H H':Hp):Prop:=∀ b u,b≠P→H b = some u→H' b = some u
theorem Tbl.same {P:Addr} {H H':Hp} {pos:Pos} {qual:Str} (t:Tbl H P pos qual) (a:Same H H'):Tbl H' P pos qual:=by
 obtain ⟨qs,e,tr,k⟩:=t
 refine ⟨qs,a _ _ e,tr,?_⟩
 rcases k with k | ⟨c,k,hc⟩
 ·exact .inl k
 ·exact .inr ⟨c,k,a _ _ hc⟩
def BMod (mg:Str→Option Value) (base:Heap):Prop :=
 ∃ bm ob,mg "__builtins__" = some (.ref bm)∧bm≠builtinsNs∧base.get? bm = some ob∧ob.cls = .type "module"∧ob.dict = some builtinsNs∧ob.data = .plain
section
variable {X:Cx} {params:Arguments} {body:Expr} {scope:Scope} {pos:Pos} {cl:List (Str × Addr)} {c0 P:Addr}
theorem codeE_ok {Pr:Program} {w:World} {H:Hp} {h:Heap} {c:Addr} {qual:Str} (r:h.CodeRec (.ref c) qual):ObjOk Pr w H h c (CodeE c qual):=by
 obtain ⟨c',o,vs,t,e,g,r'⟩:=id r
 cases e
 refine ⟨r,⟨o,g⟩,fun h1 h2 z k => ?_⟩
 obtain ⟨c',o,vs,t,e,g,r'⟩:=z
 cases e
 exact ⟨_,o,vs,t,rfl,k _ g,r'⟩
end
end L2
namespace L2
open PySem PySem.Spec PyProof.Rows
end L2
namespace L2
open PySem PySem.Spec PyProof.Rows
abbrev FrzO (c:Addr) (o:Obj):HO:=.frz o (.ext fun h => h.get? c = some o)
def CellO (o:Obj) (v:V):Prop:=∃ u,RelV v u∧o.data = .cell (some u)
def FrzC (H:Hp) (c:Addr) (v:V):Prop:=∃ o,H c = some (FrzO c o)∧CellO o v
section
variable {X:Cx} {k:Nat} {f C:Addr} {fd:FuncData} {ps:List Str} {sp:Sp} {x m:Str} {p pos apos:Pos} {e o:Expr} {es:List Expr} {ta:TE} {t:TA} {i:Nat} {y:Str} {c:Addr}
def Calls (P:Program) (w:World) (K:PySem.W.Frag) (mg:Str→Option Value) (base:Heap) (k:Nat) (f:Addr) (sp:Sp):Prop :=
 ∀ (A:Around) (outer:List Env) (s:Shared) (H:Hp) (us:List Value) (vs:List V) (Q:VK),Room k A→Env0 P w K mg base A outer s H→Vals vs us→sp vs H Q (fun _ _ _ => False) →
  codeAny (model P w) A (.call (.ref f) ⟨us,[]⟩) (CR (XC P w) outer P w H s Q (fun _ _ _ => False)) s
end
def unfs (H:Hp) (cl:List (Str × Addr)):Hp:=fun b => if b∈cl.map (·.2) then none else H b
def refs (H H':Hp) (cl:List (Str × Addr)):Hp:=fun b => if b∈cl.map (·.2) then H b else H' b
theorem unfs_ne {H:Hp} {cl:List (Str × Addr)} {b:Addr} (n:b ∉ cl.map (·.2)):unfs H cl b = H b:=if_neg n
theorem unfs_in {H:Hp} {cl:List (Str × Addr)} {b:Addr} (n:b∈cl.map (·.2)):unfs H cl b = none:=if_pos n
theorem refs_ne {H H':Hp} {cl:List (Str × Addr)} {b:Addr} (n:b ∉ cl.map (·.2)):refs H H' cl b = H' b:=if_neg n
theorem refs_in {H H':Hp} {cl:List (Str × Addr)} {b:Addr} (n:b∈cl.map (·.2)):refs H H' cl b = H b:=if_pos n
structure LamScope (N ps:List Str) (scope:Scope) (cl:List (Str × Addr)):Prop where
 kind:scope.kind = .function
 co:scope.isCoroutine = false
 gen:scope.isGenerator = false
 nocell:∀ y∈scope.names,y.2≠.cell
 nd:ps.Nodup
 N:N = ps ++ cl.map (·.1)
 par:∀ x∈ps,scope.names.lookup x = some .local
 fre:∀ q∈cl,scope.names.lookup q.1 = some .free∧cl.lookup q.1 = some q.2
 has:∀ x,scope.names.lookup x = some .free→∃ c,cl.lookup x = some c
 inj:∀ x y c,cl.lookup x = some c→cl.lookup y = some c→x = y
def cxL (P:Program) (w:World) (K:PySem.W.Frag) (mg:Str→Option Value) (base:Heap) (N:List Str) (qual:Str) (scope:Scope) (f c:Addr) (cl:List (Str × Addr)) (A:Around) (outer:List Env) (s:Shared) (H:Hp):Cx where
 prog:=P
 w:=w
 K:=K
 mg:=mg
 base:=base
 A:=A.deeper (PySem.W.envX qual scope s.heap.objs.size f (.ref c) cl)
 N:=N
 s₀:=s
 H₀:=H
 env:=PySem.W.envX qual scope s.heap.objs.size f (.ref c) cl
 outer:=outer
 stack:=PySem.W.envX qual scope s.heap.objs.size f (.ref c) cl :: outer
 ex:=[]
 calm:=true
 fn:=fun _ => false
 pn:=[]
 xe:=fun _ _ => False
theorem zip_rev_lookup {x:Str} {u:Value}:∀ {ps:List Str} {us:List Value} {i:Nat},ps.Nodup→ps[i]? = some x→us[i]? = some u→(ps.zip us).reverse.lookup x = some u
 | [],_,_,_,h,_ => by simp at h
 | _ :: _,[],_,_,_,h => by simp at h
 | p :: ps,v :: us,0,nd,h1,h2 => by
  simp at h1 h2; subst h1; subst h2
  have:(ps.zip us).reverse.lookup p = none:=by
   cases e:(ps.zip us).reverse.lookup p with
   | none => rfl
   | some w => exact absurd (List.of_mem_zip (List.mem_reverse.mp (lookup_mem e))).1 (List.nodup_cons.mp nd).1
  rw [List.zip_cons_cons,List.reverse_cons,List.lookup_append,this]; simp
 | p :: ps,v :: us,i + 1,nd,h1,h2 => by
  have:=zip_rev_lookup (ps:=ps) (us:=us) (i:=i) (List.nodup_cons.mp nd).2 (by simpa using h1) (by simpa using h2)
  rw [List.zip_cons_cons,List.reverse_cons,List.lookup_append,this]; simp
theorem paired_get {α β:Type} {F:α→β→Prop}:∀ {l₁:List α} {l₂:List β} {i:Nat} {a:α},Paired F l₁ l₂→l₁[i]? = some a→∃ b,l₂[i]? = some b∧F a b
 | _,_,_,_,.nil,e => by simp at e
 | _,_,0,_,.cons r _,e => by simp at e; subst e; exact ⟨_,rfl,r⟩
 | _,_,i + 1,a,.cons _ t,e => by
  obtain ⟨u,h1,h2⟩:=paired_get (i:=i) (a:=a) t (by simpa using e)
  exact ⟨u,by simpa using h1,h2⟩
section
variable {P:Program} {w:World} {K:PySem.W.Frag} {mg:Str→Option Value} {base:Heap} {N ps:List Str} {qual:Str} {params:Arguments} {body:Expr} {scope:Scope} {cl:List (Str × Addr)} {cvs:List V} {f c:Addr} {k:Nat}
 {A:Around} {outer:List Env} {s:Shared} {H:Hp} {us:List Value} {vs:List V} {Q:VK} {E:XK}
end
end L2
namespace L2
open PySem PySem.Spec PyProof.Rows
structure FunC (K:PySem.W.Frag) (x qual:Str) (st:Stmt) (f:Addr) (fd:FuncData) (c P:Addr):Prop where
 ex:∃ (oc:Value) (od:Option Addr) (kV doc pm:Value) (an:Option Addr) (ct:Value) (osl:Array (Option Value)),
  fd = PySem.W.fnOf x qual (defArgs st) (defBody st) (defScope st) .none kV doc pm an (.ref c) ct∧K.lookup f = some ⟨oc,od,.func fd,osl⟩∧PySem.W.codeIn K (.ref c) qual = true
 kp:PySem.W.keepIn K (.ref f) = true
 hd:PySem.W.codeHdIn K c P = true
section
variable {P:Program} {w:World} {K:PySem.W.Frag} {mg:Str→Option Value} {base:Heap} {N ps:List Str} {x qual:Str} {st:Stmt} {f c Pl:Addr} {fd:FuncData}
theorem FunC.okX {k:Nat} {sp:Sp} {cm:Bool} (F:FunC K x qual st f fd c Pl) (S:FnScope N ps (defScope st)) (len:∀ vs H Q E,sp vs H Q E→vs.length = ps.length)
  (hbody:∀ (A:Around) (outer:List Env) (s:Shared) (H:Hp) (vs:List V) (Q:VK) (E:XK),RoomC cm k (A.deeper (envOfC qual (defScope st) s.heap.objs.size f (.ref c)))→sp vs H Q E →
   ∃ t,PSs (cxE P w K mg base N qual (defScope st) f (.ref c) A outer s H E cm) (defBody st) t∧t { nx:=fun _ H' => Q .non H',rt:=Q } (start N vs) H):FnOk P w K mg base (XC P w) (k + 1) f fd ps sp cm:=by
 obtain ⟨oc,od,kV,doc,pm,an,ct,osl,rfl,lk,hcd⟩:=F.ex
 exact fn_of lk hcd S len fun A outer s H vs Q E hr hsp => hbody A outer s H vs Q E hr hsp
theorem FunC.binds (F:FunC K x qual st f fd c Pl)
  (h:∀ (kV doc pm:Value) (an:Option Addr) (cdv ct:Value) (us:List Value),us.length = ps.length→bindArgs (PySem.W.fnOf x qual (defArgs st) (defBody st) (defScope st) .none kV doc pm an cdv ct) ⟨us,[]⟩ = pure (ps.zip us)):Binds K fd ps []:=by
 obtain ⟨oc,od,kV,doc,pm,an,ct,osl,rfl,lk,hcd⟩:=F.ex
 exact .all (h kV doc pm an _ ct)
theorem funC_mk {oc:Value} {od an:Option Addr} {osl:Array (Option Value)} {kV doc pm ct:Value} (l:K.lookup f = some ⟨oc,od,.func (PySem.W.fnOf x qual (defArgs st) (defBody st) (defScope st) .none kV doc pm an (.ref c) ct),osl⟩)
  (h:PySem.W.codeIn K (.ref c) qual = true) (k:PySem.W.keepIn K (.ref f) = true) (d:PySem.W.codeHdIn K c Pl = true):FunC K x qual st f (PySem.W.fnOf x qual (defArgs st) (defBody st) (defScope st) .none kV doc pm an (.ref c) ct) c Pl:=⟨⟨oc,od,kV,doc,pm,an,ct,osl,rfl,l,h⟩,k,d⟩
end
theorem law_callT {P:Program} {w:World} {K:PySem.W.Frag} {mg mb:Str→Option Value} {k:Nat} {fa a:Addr} {fd:FuncData} {x:Str} {sp:Sp} {s₁:Shared} {vs:List Value} {ns:List Int} {tabs:List Addr}
  (KX:K.In s₁.heap) (hns:s₁.heap.Ns mainGlobals mg) (hb:s₁.heap.Ns builtinsNs mb) (hbb:∀ x:Str,x≠"__name__"→mb x = bootBuiltins x) (hlim:s₁.heap.NoLimit) (hg:s₁.gens = #[]) (hBM:BMod mg s₁.heap)
  (hT:∀ p∈tabs,isCodeTable s₁.heap p∧s₁.heap.get? p = some (PySem.W.tabObj #[])∧K.lookup p = none)
  (ha:s₁.heap.get? a = some { cls:=.type "list",data:=.seq vs.toArray }) (hi:IntsAre vs ns) (hl:ns.length≤sizeLine) (hr:Room k callerA)
  (F:∀ base:Heap,K.In base→base.Ns mainGlobals mg→BMod mg base→FnOk P w K mg base (XC P w) k fa fd [x] sp) (hbind:∀ (s:Shared) (u:Value),BindsTo s fd ⟨[u],[]⟩ [(x,u)])
  (hsp:∀ H:Hp,SqL K H a (ns.map V.int)→(∀ p∈tabs,H p = some (.tbl #[]))→sp [.ref a] H (fun v _ => v = .bl true) fun _ _ _ => False) :
  codeAny (model P w) callerA (.call (.ref fa) ⟨[.ref a],[]⟩) (fun r s' => r = .ok (.ret (.bool true))∧OldK s₁.heap s'.heap∧s'.os = s₁.os∧AllBare s'.gens) s₁:=by
 have rv:=vals_ints hi
 have lenV:=hi.length
 have core:∀ H:Hp,SqL K H a (ns.map V.int)→HOk P w H s₁.heap→(∀ b u,H b = some u→(b∈tabs∧u = .tbl #[])∨(b = a∧K.lookup a = none∧∃ o xs,u = .frz o (.lst xs)))→(∀ p∈tabs,H p = some (.tbl #[])) →
   codeAny (model P w) callerA (.call (.ref fa) ⟨[.ref a],[]⟩) (fun r s' => r = .ok (.ret (.bool true))∧OldK s₁.heap s'.heap∧s'.os = s₁.os∧AllBare s'.gens) s₁:=by
  intro H hS hok hA hTb
  have base_of:∀ {b:Addr} {o:Obj},s₁.heap.get? b = some o→H b = none→(hidT s₁.heap H).get? b = some o:=fun e n => hidT_get e n
  have noA:∀ {b:Addr} {o:Obj},s₁.heap.get? b = some o→(∀ qs,o.data≠.fields qs)→(∀ xs n,o.data≠.seq xs n)→H b = none:=fun {b o} e d1 d2 => by
   cases q:H b with
   | none => rfl
   | some u =>
    rcases hA b u q with ⟨z,_⟩ | ⟨z,_⟩
    ·rw [(hT b z).2.1] at e; cases e; exact absurd rfl (d1 _)
    ·subst z; rw [ha] at e; cases e; exact absurd rfl (d2 _ _)
  have nsK:∀ {b:Addr} {m:Str→Option Value},s₁.heap.Ns b m→(hidT s₁.heap H).Ns b m:=fun {b m} ⟨o,es,ep,e,d,r⟩ => ⟨o,es,ep,base_of e (noA e (fun qs z => by rw [d] at z; cases z) fun xs n z => by rw [d] at z; cases z),d,r⟩
  have hKb:K.In (hidT s₁.heap H):=fun b o e => base_of (KX b o e) (by
   cases q:H b with
   | none => rfl
   | some u =>
    rcases hA b u q with ⟨z,_⟩ | ⟨z,z2,_⟩
    ·rw [(hT b z).2.2] at e; cases e
    ·subst z; rw [z2] at e; cases e)
  have hBb:BMod mg (hidT s₁.heap H):=by
   obtain ⟨bm,ob,b1,b2,b3,b4,b5,b6⟩:=hBM
   exact ⟨bm,ob,b1,b2,base_of b3 (noA b3 (fun qs z => by rw [b6] at z; cases z) fun xs n z => by rw [b6] at z; cases z),b4,b5,b6⟩
  have hM:Mod K mg (hidT s₁.heap H):=⟨hKb,nsK hns,⟨mb,nsK hb,hbb⟩,let ⟨mc,h1,h2⟩:=hlim; ⟨mc,nsK h1,h2⟩⟩
  have e0:Env0 P w K mg (hidT s₁.heap H) callerA [] s₁ H:=⟨rfl,hM,fun b o e => of_hidT e,Nat.le_of_eq (hidT_size _ _),trivial,fun b hb => absurd (show b∈([]:List Addr) from hb) (by simp),hok,.of_eq hg,.inl rfl⟩
  refine codeAny_mono ((F _ hKb (nsK hns) hBb).run callerA [] s₁ H ⟨[.ref a],[]⟩ [.ref a] [.ref a] _ _ hr e0 (hbind s₁ (.ref a)) (.cons rfl .nil) (hsp H hS hTb)) fun r s' h => ?_
  cases r with
  | error e =>
   obtain ⟨_,_,_,_,_,_,_,_,_,z⟩:=h
   exact z.elim
  | ok fl =>
   cases fl with
   | next => exact False.elim h
   | brk => exact False.elim h
   | cont => exact False.elim h
   | ret u =>
    obtain ⟨v,H',os,bare,un,hok',r',q⟩:=h
    have q':v = .bl true:=q
    subst q'
    obtain rfl:u = Value.bool true:=r'
    refine ⟨rfl,⟨fun b o e => ?_,fun b o e => un.there b o e (by simp)⟩,os,bare⟩
    cases q:H b with
    | none => exact .inl (un.keep b o e q (by intro z; exact absurd (show b∈([]:List Addr) from z) (by simp)) (by simp))
    | some u =>
     rcases hA b u q with ⟨z,rfl⟩ | ⟨z,_,ob,xs,rfl⟩
     ·obtain ⟨more,z2⟩:=un.tbls b _ q
      have z3:s'.heap.get? b = some (PySem.W.tabObj (#[] ++ more)):=hok' b _ z2
      rw [(hT b z).2.1] at e; cases e
      exact .inr (.inl ⟨(hT b z).1,rfl,#[],more,rfl,z3⟩)
     ·have z2:=un.frzs b ob _ q
      obtain ⟨e1,_⟩:=hok b _ q
      obtain ⟨e2,_⟩:=hok' b _ z2
      rw [e] at e1; cases e1
      exact .inl e2
 have at':a ∉ tabs:=fun z => by
  have:=(hT a z).2.1
  rw [ha] at this; cases this
 cases hk:K.lookup a with
 | some o =>
  have e:=KX a o hk
  rw [ha] at e
  cases e
  refine core (fun b => if b∈tabs then some (.tbl #[]) else none) (.inr ⟨_,vs.toArray,_,hk,rfl,rfl,rfl,by rw [List.size_toArray,lenV]; exact hl,by simpa using rv⟩) (fun b u z => ?_) (fun b u z => ?_) fun p hp => if_pos hp
  ·by_cases hb:b∈tabs
   ·have z':=(if_pos hb).symm.trans z
    cases z'
    exact (hT b hb).2.1
   ·have z':=(if_neg hb).symm.trans z
    cases z'
  ·by_cases hb:b∈tabs
   ·have z':=(if_pos hb).symm.trans z
    cases z'
    exact .inl ⟨hb,rfl⟩
   ·have z':=(if_neg hb).symm.trans z
    cases z'
 | none =>
  have eH:∀ b,b≠a→(fun b => if b = a then some (HO.frz { cls:=.type "list",data:=.seq vs.toArray } (.lst (ns.map V.int))) else if b∈tabs then some (HO.tbl #[]) else none) b = if b∈tabs then some (HO.tbl #[]) else none:=fun b n => if_neg n
  refine core (fun b => if b = a then some (.frz { cls:=.type "list",data:=.seq vs.toArray } (.lst (ns.map V.int))) else if b∈tabs then some (.tbl #[]) else none) (.inl (.inr ⟨{ cls:=.type "list",data:=.seq vs.toArray },if_pos rfl⟩)) (fun b u z => ?_) (fun b u z => ?_) fun p hp => ?_
  ·by_cases hb:b = a
   ·have z':=(if_pos hb).symm.trans z
    cases z'
    subst hb
    exact ⟨ha,by rw [List.length_map]; exact hl,vs,_,rv,ha⟩
   ·replace z:=(eH b hb).symm.trans z
    by_cases hb2:b∈tabs
    ·rw [if_pos hb2] at z; cases z
     exact (hT b hb2).2.1
    ·rw [if_neg hb2] at z; cases z
  ·by_cases hb:b = a
   ·have z':=(if_pos hb).symm.trans z
    cases z'
    exact .inr ⟨hb,hk,_,_,rfl⟩
   ·replace z:=(eH b hb).symm.trans z
    by_cases hb2:b∈tabs
    ·rw [if_pos hb2] at z; cases z
     exact .inl ⟨hb2,rfl⟩
    ·rw [if_neg hb2] at z; cases z
  ·have n:p≠a:=fun z => at' (z▸hp)
   exact (eH p n).trans (if_pos hp)
theorem walk_ofT {l:PySem.W.OpenLaw} {n k:Nat} {q:Program} {loose:List Str} {XP:(Str→Option Value)→Heap→Prop} {YP:World→Heap→Prop} {d:DefRec} {K:Params→PySem.W.Frag} {sp:PySem.W.Frag→List Addr→Sp} {x:Str}
  (hn:l.most = some n) (hn2:n≤sizeLine) (hdf:d.params.defaults = []) (hr:Room k callerA)
  (hY:∀ (w:World) (h:Heap),YP w h→(K w.params).In h)
  (F:∀ (w:World) (mg:Str→Option Value) (fa:Addr) (h:Heap),YP w h→(K w.params).In h→h.Ns mainGlobals mg→mg d.name = some (.ref fa) →
   ∃ (fd:FuncData) (tabs:List Addr),(∀ (s:Shared) (u:Value),BindsTo s fd ⟨[u],[]⟩ [(x,u)])∧(∀ p∈tabs,isCodeTable h p∧h.get? p = some (PySem.W.tabObj #[])∧(K w.params).lookup p = none) ∧
    ∀ base:Heap,(K w.params).In base→base.Ns mainGlobals mg→BMod mg base→FnOk l.prog w (K w.params) mg base (XC l.prog w) k fa fd [x] (sp (K w.params) tabs))
  (hsp:∀ (K:PySem.W.Frag) (tabs:List Addr) (H:Hp) (a:Addr) (ns:List Int),ns.length≤n→SqL K H a (ns.map V.int)→(∀ p∈tabs,H p = some (.tbl #[]))→sp K tabs [.ref a] H (fun v _ => v = .bl true) fun _ _ _ => False) :
  PySem.W.WalkO q loose XP YP l.row.toRowW d [] (fun f vs => PySem.call f vs):=by
 refine Att.attach_call hn hdf fun w s₀ s₁ mg mb fa o pm cd doc a vs ns G Y ho hd hcd hmg hobj hints hlen hg => ?_
 have KX:=hY w _ Y
 obtain ⟨fd,tabs,hb,hT,hF⟩:=F w mg fa _ Y KX G.T.g hmg
 exact law_callT KX G.T.g G.T.b G.T.builtins G.T.nolimit hg G.T.bmain hT hobj hints (Nat.le_trans hlen hn2) hr hF hb (fun H hS hTb => hsp _ tabs H a ns hlen hS hTb)
end L2
namespace L2
open PySem PySem.Spec PyProof.Rows
section
variable {X:Cx}
end
end L2
namespace L2
open PySem PySem.Spec PyProof.Rows
section
variable {X:Cx} {k:Nat} {x:Str} {p pos:Pos} {e:Expr} {es:List Expr} {ta:TE} {t:TA}
theorem pg_tupK {K:PySem.W.Frag} {es:List Expr} {j:Nat} {t:TGs} {n:Nat} (hK:X.K = K) (hc:X.calm = true) (h:PGs X es t)
  (hn:(assignEach es X.env).length = n:=by rfl) (hst:(assignEach es X.env).findIdx? (·.1) = none:=by rfl):PG X (.Tuple es j pos) (gTup K n t):=by
 subst hK; exact pg_tup hc h hn hst
end
end L2
namespace STb
open PySem PySem.Spec PyProof.Rows L2 SetTable TS
section
variable {prog:Program} {w:World} {A:Around} {E:Value→Shared→Prop} {s:Shared} {S t it:Addr} {es:Array (Int × Value)} {ep i:Nat} {tb:SetTable}
end
end STb
namespace L2
open PySem PySem.Spec PyProof.Rows TS STb
section
variable {X:Cx}
end
end L2
namespace L2
open PySem PySem.Spec PyProof.Rows
section
variable {X:Cx} {tg:Expr}
end
end L2
namespace L2
open PySem PySem.Spec PyProof.Rows
section
variable {prog:Program} {w:World} {A:Around} {E:Value→Shared→Prop} {s:Shared} {z TI TO i1 i2 l1 l2:Addr} {xs ys:Array Value} {k:Nat}
end
section
variable {X:Cx} {elts:List Expr} {kk:Nat} {tpos:Pos}
end
section
variable {prog:Program} {w:World} {A:Around} {E:Value→Shared→Prop} {s:Shared}
end
section
variable {X:Cx}
end
section
variable {X:Cx} {e:Expr} {f:Str} {pos:Pos} {ta:TE}
end
end L2
namespace L2
open PySem PySem.Spec PyProof.Rows
section
variable {prog:Program} {w:World} {A:Around} {E:Value→Shared→Prop} {s:Shared}
open HT in
end
section
variable {X:Cx}
end
end L2
namespace L2
open PySem PyProof PyProof.Rows
section
variable {prog:Program} {w:World} {A:Around} {E:Value→Shared→Prop} {s:Shared}
end
section
variable {X:Cx}
end
end L2
namespace L2
open PySem PySem.Spec PyProof.Rows
section
variable {P:Program} {w:World} {K:PySem.W.Frag} {mg:Str→Option Value} {base:Heap}
end
section
variable {X:Cx} {k:Nat} {x m:Str} {C:Addr} {ps:List Str} {sp:Sp} {dv:V} {E:XK} {p pos apos:Pos} {e o:Expr} {es:List Expr} {ta:TE} {t:TA}
end
end L2
namespace TS
open PySem PyProof.Rows L2
section
variable {prog:Program} {w:World} {A:Around} {E:Value→Shared→Prop} {s:Shared}
theorem efe_tup {id:String} {d:Addr} {o:Obj} {es:Array DictEntry} {ep:Nat} {Q:Array DictEntry→Shared→Prop} (ho:s.heap.get? d = some o) (hd:o.data = .dict es ep) (hk:∀ e∈es.toList,∃ a,e.key = .ref a∧s.TypeIs (.ref a) "tuple")
  (hn:∀ e∈es.toList,¬ (es.filter (·.hash == e.hash)).size > 1) (q:Q es s):wpAny (model prog w) A (Builtin.Dict.entriesForEmpty id d) Q E s:=by
 unfold Builtin.Dict.entriesForEmpty
 refine wpAny_bind (wpAny_dictEntries ho hd (wpAny_bind ?_))
 rw [← Array.forIn_toList]
 refine wpAny_forIn_list _ (fun rest _ s' => s' = s∧∀ e∈rest,e∈es.toList) _ ?_ ?_ _ _ ⟨rfl,fun e h => h⟩
 ·rintro x rest b s' ⟨rfl,hr⟩
  have hx:=hr x (List.mem_cons_self ..)
  obtain ⟨a,ea,ty⟩:=hk x hx
  refine wpAny_bind ?_
  rw [ea]
  refine wpAny_bind (wpAny_specialOf ty F.slot_tuple_eq.lookup (wpAny_pure ?_))
  rw [show (some (Value.builtin "tuple.__eq__") == some (Value.builtin "object.__eq__")) = false by decide,if_pos (by decide),if_neg (hn x hx)]
  exact wpAny_pure ⟨rfl,fun e he => hr e (List.mem_cons_of_mem _ he)⟩
 ·rintro b s' ⟨rfl,_⟩
  exact wpAny_pure q
theorem merge_tup {nm:String} {d o:Addr} {od oo:Obj} {es:Array DictEntry} {epd epo:Nat} {Q:Unit→Shared→Prop} (ne:d≠o) (hoS:(o == sysModules) = false) (hod:s.heap.get? d = some od) (hdd:od.data = .dict #[] epd) (hoo:s.heap.get? o = some oo) (hdo:oo.data = .dict es epo)
  (hk:∀ e∈es.toList,∃ a,e.key = .ref a∧s.TypeIs (.ref a) "tuple") (hn:∀ e∈es.toList,¬ (es.filter (·.hash == e.hash)).size > 1) (hz:es.size≤sizeLine)
  (q0:es = #[]→Q () s) (q:Q () { s with heap:=s.heap.update d (Obj.mapDictKeys fun _ => es) }):wpAny (model prog w) A (Builtin.Dict.mergeDict nm d o) Q E s:=by
 unfold Builtin.Dict.mergeDict Builtin.Dict.showsAll
 rw [if_neg (by simpa using ne),if_neg (by rw [hoS]; exact Bool.false_ne_true)]
 refine wpAny_bind (wpAny_pure (wpAny_bind (wpAny_dictEntries hoo hdo ?_)))
 dsimp only
 by_cases h0:es = #[]
 ·rw [if_neg (by subst h0; simp)]
  refine wpAny_bind (wpAny_dictEpoch hoo hdo (wpAny_bind (wpAny_dictEntries hoo hdo (wpAny_bind ?_))))
  subst h0
  rw [Std.Legacy.Range.forIn_eq_forIn_range']
  simp only [Std.Legacy.Range.size,Nat.sub_zero,Nat.add_sub_cancel,Nat.div_one]
  exact wpAny_pure (wpAny_pure (q0 rfl))
 ·obtain ⟨x,hx⟩:∃ x,x∈es.toList:=by
   cases e:es.toList with
   | nil => exact absurd (Array.toList_eq_nil_iff.mp e) h0
   | cons x r => exact ⟨x,List.mem_cons_self ..⟩
  have nf:(decide (es.size≤8) && es.all fun e => (keyPart e.key).isSome) = false:=by
   rw [Bool.and_eq_false_iff]
   right
   rw [Bool.eq_false_iff]
   intro z
   rw [← Array.all_toList,List.all_eq_true] at z
   have:=z x hx
   obtain ⟨a,ea,_⟩:=hk x hx
   rw [ea] at this
   cases this
  rw [nf,if_pos (by decide)]
  refine wpAny_bind (wpAny_dictEntries hod hdd ?_)
  rw [if_pos (by decide)]
  refine wpAny_bind (efe_tup hoo hdo hk hn ?_)
  rw [if_pos (by simpa using h0)]
  exact wpAny_bind (wpAny_updateDictKeysTo hod hdd (wpAny_pure q) (by show es.size≤_; omega))
theorem dict_tup {K:Type} [DecidableEq K] {knd:KeyKind prog w K} {o:Addr} {xs:List (List K × Addr × Value)} {Q:Value→Shared→Prop} (hoS:(o == sysModules) = false) (hd:s.heap.DictOfH (tupleKind knd) o xs) (hz:xs.length≤sizeLine) (nd:(xs.map fun x => (tupleKind knd).hash x.1).Nodup)
  (q:∀ h',(∀ b u,s.heap.get? b = some u→h'.get? b = some u)→h'.DictOfH (tupleKind knd) s.heap.objs.size xs→Q (.ref s.heap.objs.size) { s with heap:=h' }):wpAny (model prog w) A (call (.type "dict") [.ref o]) Q E s:=by
 obtain ⟨oo,es,ep,e1,c1,d1,l1,i1,n1⟩:=id hd
 refine callType_codes (Q₁:=fun obj s₁ => obj = .ref s.heap.objs.size∧s₁ = { s with heap:=s.heap.push { cls:=.type "dict",data:=.dict #[] } }) F.kt_called_dict (F.kt_typeCall_dict_1 _) F.entry_dict_init (kt_code_dict_new _ ⟨rfl,rfl⟩) ?_
 rintro obj s₁ ⟨rfl,rfl⟩
 have enew:(s.heap.push { cls:=.type "dict",data:=.dict #[] }).get? s.heap.objs.size = some { cls:=.type "dict",data:=.dict #[] }:=Heap.get?_push_size _ rfl
 have eo:(s.heap.push { cls:=.type "dict",data:=.dict #[] }).get? o = some oo:=Heap.get?_push_of_some _ e1
 have ne:s.heap.objs.size≠o:=fun e => absurd (Heap.lt_size e1) (by rw [e]; exact Nat.lt_irrefl _)
 have tn:Shared.TypeIs { s with heap:=s.heap.push { cls:=.type "dict",data:=.dict #[] } } (.ref s.heap.objs.size) "dict":=⟨_,enew,rfl⟩
 have to:Shared.TypeIs { s with heap:=s.heap.push { cls:=.type "dict",data:=.dict #[] } } (.ref o) "dict":=⟨_,eo,c1.1⟩
 refine ⟨tn,F.args_dict_init_2 _ _,?_⟩
 unfold Builtin.«dict.__init__»
 refine wpAny_bind ?_
 unfold Builtin.Dict.selfAndRest
 refine wpAny_bind (wpAny_notOrdered_dict tn ?_)
 show wpAny _ _ (pure (s.heap.objs.size,[Value.ref o])) _ _ _
 refine wpAny_pure ?_
 show wpAny _ _ (Builtin.Dict.updateFrom "dict.__init__" s.heap.objs.size (.ref o) [] .none) _ _ _
 unfold Builtin.Dict.updateFrom
 refine wpAny_bind (wpAny_typeOf to ?_)
 rw [if_neg (by decide)]
 refine wpAny_bind ?_
 unfold Builtin.Dict.merge
 refine wpAny_bind ?_
 unfold Builtin.Dict.readDirectly
 refine wpAny_bind (wpAny_isInstance to isSubtype_dict_dict ?_)
 simp only [Bool.not_true,Bool.false_eq_true,if_false]
 refine wpAny_bind (wpAny_specialOf to F.slot_dict_iter.lookup (wpAny_pure ?_))
 simp only [beq_self_eq_true,if_true]
 refine wpAny_bind (wpAny_pure ?_)
 have szx:es.size = xs.length:=size_of_entries l1
 have keep:∀ b u,s.heap.get? b = some u→(s.heap.push { cls:=.type "dict",data:=.dict #[] }).get? b = some u:=fun b u e => Heap.get?_push_of_some _ e
 have tup:∀ e∈es.toList,∃ a,e.key = .ref a∧Shared.TypeIs { s with heap:=s.heap.push { cls:=.type "dict",data:=.dict #[] } } (.ref a) "tuple":=fun e he => by
  rw [l1] at he
  obtain ⟨x,hx,rfl⟩:=List.mem_map.mp he
  obtain ⟨ot,its,n,g1,g2,_⟩:=i1 x hx
  exact ⟨x.2.1,rfl,ot,keep _ _ g1,g2⟩
 have one:∀ e∈es.toList,¬ (es.filter (·.hash == e.hash)).size > 1:=fun e he => by
  rw [← Array.length_toList,Array.toList_filter,l1]
  rw [l1] at he
  obtain ⟨x,hx,rfl⟩:=List.mem_map.mp he
  rw [List.filter_map,List.length_map]
  have:∀ ys:List (List K × Addr × Value),(ys.map fun x => (tupleKind knd).hash x.1).Nodup→(ys.filter ((fun y:DictEntry => y.hash == (entryOfKey (tupleKind knd) x).hash) ∘ entryOfKey (tupleKind knd))).length≤1:=by
   intro ys
   induction ys with
   | nil => intro _; exact Nat.zero_le _
   | cons y r ih =>
    intro n
    obtain ⟨n1,n2⟩:=List.nodup_cons.mp n
    rw [List.filter_cons]
    split
    ·rename_i hy
     have hy:(tupleKind knd).hash y.1 = (tupleKind knd).hash x.1:=beq_iff_eq.mp hy
     rw [List.filter_eq_nil_iff.mpr ?_]
     ·exact Nat.le_refl _
     ·intro z hz hz2
      have hz2:(tupleKind knd).hash z.1 = (tupleKind knd).hash x.1:=beq_iff_eq.mp hz2
      exact n1 (List.mem_map.mpr ⟨z,hz,hz2.trans hy.symm⟩)
    ·exact ih n2
  exact Nat.not_lt.mpr (this xs nd)
 refine merge_tup ne hoS enew rfl eo d1 tup one (by omega) (fun h0 => ?_) ?_
 ·have x0:xs = []:=List.length_eq_zero_iff.mp (by rw [← szx,h0]; rfl)
  subst x0
  refine wpAny_bind (wpAny_pure (wpAny_pure ⟨rfl,q _ keep ⟨_,_,_,enew,⟨rfl,rfl,rfl⟩,rfl,rfl,fun x hx => (by cases hx),List.nodup_nil⟩⟩))
 ·have k2:∀ b u,s.heap.get? b = some u→((s.heap.push { cls:=.type "dict",data:=.dict #[] }).update s.heap.objs.size (Obj.mapDictKeys fun _ => es)).get? b = some u:=fun b u e => by
   rw [(Heap.SameBut.update ..).2 b (Nat.ne_of_lt (Heap.lt_size e))]; exact keep b u e
  refine wpAny_bind (wpAny_pure (wpAny_pure ⟨rfl,q _ k2 ⟨_,es,1,Heap.get?_update_self _ enew (Obj.isFreed_of_dict (Obj.data_mapDictKeys rfl _)),⟨rfl,rfl,rfl⟩,Obj.data_mapDictKeys rfl _,l1,fun x hx => ?_,n1⟩⟩))
  obtain ⟨ot,its,n,g1,g2,g3⟩:=i1 x hx
  exact ⟨ot,its,n,k2 _ _ g1,g2,g3⟩
end
end TS
namespace L2
open PySem PySem.Spec PyProof.Rows TS
def Exo (a:Addr) (o:Obj):HO:=.ext fun h => h.get? a = some o
def DRaw (P:Program) (w:World) (o:Obj) (xs:List (List Key × Addr × Value)):Prop:=∃ es ep,o.ExactDict∧o.data = .dict es ep∧es.toList = xs.map (entryOfKey (tupleKind (mixKind P w)))∧(xs.map (·.1)).Nodup
def Itd (a:Addr) (o:Obj) (xs:List (List Key × Addr × Value)):It:=⟨fun i H => H a = some (Exo a o)∧i < xs.length,fun i H x H' => H' = H∧∃ y,xs[i]? = some y∧x = .ref y.2.1,fun i H => H a = some (Exo a o)∧xs.length≤i⟩
theorem exo_get {P:Program} {w:World} {H:Hp} {h:Heap} {a:Addr} {o:Obj} (ok:HOk P w H h) (e:H a = some (Exo a o)):h.get? a = some o:=(show ObjOk P w H h a (Exo a o) from ok a _ e).1
theorem turn_dict {P:Program} {w:World} {K:PySem.W.Frag} {tg:Expr} (a it:Addr) (o:Obj) (xs:List (List Key × Addr × Value)) {es:Array DictEntry} {ep:Nat} (ex:o.ExactDict) (hd:o.data = .dict es ep) (he:es.toList = xs.map (entryOfKey (tupleKind (mixKind P w)))) :
  Turn P w K tg (Itd a o xs) [it] it (fun i h => h.IsKeyIter it a i es.size ep) true where
 mem:=by simp
 obj:=fun i h st b hb => by
  obtain rfl:b = it:=by simpa using hb
  obtain ⟨o,e,c,d⟩:=st
  exact ⟨o,e,fun v z => by rw [d] at z; cases z⟩
 keep:=fun i h h' st k => by
  obtain ⟨o,e,r⟩:=st
  exact ⟨o,k it (by simp) o e,r⟩
 item:=by
  intro X hP hw hK hc i pins s σ H E I hf st hg
  subst hP hw hK
  obtain ⟨ea,hi⟩:=hg
  have sz:=size_of_entries he
  have hi2:i < es.size:=by omega
  obtain ⟨f0,f1,f2,f3,f4,f5⟩:=hf it (by simp)
  refine next_dct st ⟨o,exo_get I.hok ea,ex,hd⟩ hi2 fun h' st' sb => ?_
  have I1:Inv X pins σ H { s with heap:=h' }:=I.turned (t':=s.toks) (fun b o hb e => (sb.2 b hb).trans e) f0 f1 f3 f4 f5
  obtain ⟨oi,e,c,d⟩:=id st'
  have ey:es[i]? = some (entryOfKey (tupleKind (mixKind X.prog X.w)) xs[i]):=by rw [entry_at he,List.getElem?_eq_getElem hi]; rfl
  have ek:es[i].key = .ref xs[i].2.1:=by
   have:=(List.getElem?_eq_some_iff.mp (by rw [Array.getElem?_toList]; exact ey)).2
   rw [Array.getElem_toList] at this
   rw [this]; rfl
  exact ⟨_,rfl,go_of (s:={ s with heap:=h' }) e c d (by decide) ⟨.ref xs[i].2.1,H,I1,ek,⟨rfl,xs[i],List.getElem?_eq_getElem hi,rfl⟩,st',fun b hb => (hf b hb).1⟩⟩
 done:=by
  intro X hP hw hK hc i pins s σ H E I hf st hg
  subst hP hw hK
  obtain ⟨ea,hi⟩:=hg
  have sz:=size_of_entries he
  obtain ⟨f0,f1,f2,f3,f4,f5⟩:=hf it (by simp)
  exact stop_dct (I.ok.hd (hc rfl)) st ⟨o,exo_get I.hok ea,ex,hd⟩ (by omega) fun h' eb => ⟨rfl,I.turned (t':=s.toks) (fun b o hb e => eb b o hb e) f0 f1 f3 f4 f5⟩
 self:=fun _ _ _ _ _ st h => wpAny_pyIter_keyiter st h
section
variable {X:Cx} {tg:Expr}
def iDict (P:Program) (w:World) (te:TE):TI:=fun σ H R => te σ H fun x H1 => ∃ a kvs,x = .ref a∧H1 a = some (.dT kvs)∧∀ o xs,kvs.length≤sizeLine→(a == sysModules) = false→KT H1 kvs xs→DRaw P w o xs→R (Itd a o xs) (upd H1 a (Exo a o))
theorem pi_dictT {l:Expr} {tl:TE} (hc:X.calm = true) (hl:PE X l tl):PI X tg l (iDict X.prog X.w tl):=by
 intro pins s σ H R I h
 refine thn (hl pins s σ H _ I h) fun v s1 hh => ?_
 obtain ⟨x,H1,I1,r1,a,kvs,e,ha,q⟩:=hh
 subst e
 cases r1
 obtain ⟨z,hm,xs,kt,o,es,ep,h1,h2,h3,h4,h5,h6⟩:=dt_of I1.hok ha
 refine iter_dct hm ⟨o,h1,h2,h3⟩ ?_
 have I2:Inv X pins σ (upd H1 a (Exo a o)) { s1 with heap:=s1.heap,toks:=s1.toks }:=I1.write (x:=a) (e:=a) (h':=s1.heap) (t':=s1.toks) (by rw [ha]; exact True.intro) (.inl rfl) (fun b u _ e => e) ⟨o,h1⟩ ⟨h1,⟨o,h1⟩,fun g1 g2 x k => k _ x⟩
 have I3:Inv X pins σ (upd H1 a (Exo a o)) { s1 with heap:=s1.heap.push { cls:=.type "dict_keyiterator",data:=.fields #[.ref a,.int 0 0,.int es.size 0,.int ep 0] } }:=I2.kept (t':=s1.toks) fun b o e => Heap.get?_push_of_some _ e
 refine ⟨s1.heap.objs.size,[s1.heap.objs.size],_,_,_,rfl,I3,⟨true,turn_dict a _ o xs h2 h3 h4,fun _ => hc⟩,⟨_,Heap.get?_push_size _ rfl,rfl,rfl⟩,fun b hb => ?_,q o xs z hm kt ⟨es,ep,h2,h3,h4,h6⟩⟩
 obtain rfl:b = s1.heap.objs.size:=by simpa using hb
 exact I2.fpOk (Nat.le_refl _) (I2.hok.fresh (Nat.le_refl _))
def tThaw (P:Program) (w:World) (t:TE):TE:=fun σ H Q => t σ H fun v H' => ∃ a o kvs xs,H' a = some (Exo a o)∧(a == sysModules) = false∧KT H' kvs xs∧DRaw P w o xs∧kvs.length≤sizeLine∧Q v (upd H' a (.dT kvs))
theorem pe_thaw {e:Expr} {t:TE} (h:PE X e t):PE X e (tThaw X.prog X.w t):=by
 intro pins s σ H Q I q
 refine thn (h pins s σ H _ I q) fun v s1 hh => ?_
 obtain ⟨x,H1,I1,r1,a,o,kvs,xs,ha,hm,kt,⟨es,ep,h2,h3,h4,h6⟩,hz,q⟩:=hh
 have g:=exo_get I1.hok ha
 have I2:Inv X pins σ (upd H1 a (.dT kvs)) { s1 with heap:=s1.heap,toks:=s1.toks }:=I1.write (x:=a) (e:=a) (h':=s1.heap) (t':=s1.toks) (by rw [ha]; exact True.intro) (.inl rfl) (fun b u _ e => e) ⟨o,g⟩ ⟨hz,hm,xs,Paired.mapP kt fun x y r => ⟨r.1,?_,r.2.2⟩,o,es,ep,g,h2,h3,h4,h6⟩
 ·exact ⟨x,_,I2,r1,q⟩
 ·rw [upd_ne (ne_of r.2.1 ha (fun z => nomatch z))]; exact r.2.1
theorem call_dictT:CallR X (.type "dict") (fun xs H Q => ∃ p kvs,xs = [.ref p]∧H p = some (.dT kvs)∧(kvs.map fun kv => (tupleKind (mixKind X.prog X.w)).hash kv.1).Nodup∧∀ l,H l = none→Q (.ref l) (upd H l (.dT kvs))):=by
 intro pins s σ H xs us Q I r h
 obtain ⟨p,kvs,rfl,e,nd,q⟩:=h
 obtain ⟨u,rfl,ru⟩:=vals1 r
 cases ru
 obtain ⟨z,hm,ys,kt,d⟩:=dt_of I.hok e
 have m1:kvs.map (fun kv => (tupleKind (mixKind X.prog X.w)).hash kv.1) = ys.map fun x => (tupleKind (mixKind X.prog X.w)).hash x.1:=paired_map kt fun x y h => by rw [h.1]
 refine dict_tup hm d (by rw [← Paired.length kt]; exact z) (by rw [← m1]; exact nd) fun h' keep d' => ?_
 have fresh:=I.hok.fresh (Nat.le_refl s.heap.objs.size)
 obtain ⟨o,es,ep,g1,g2,g3,g4,g5,g6⟩:=d'
 have big:(s.heap.objs.size == sysModules) = false:=by
  have:=(dt_empty (P:=X.prog) (w:=X.w) (H:=H) s.heap I.big).2.1
  exact this
 exact ⟨.ref s.heap.objs.size,_,I.laid (a:=s.heap.objs.size) (o:=.dT kvs) (t':=s.toks) keep (Nat.le_refl _) ⟨z,big,ys,Paired.mapP kt fun x y r => ⟨r.1,by rw [upd_ne (ne_of_none r.2.1 fresh)]; exact r.2.1,r.2.2⟩,o,es,ep,g1,g2,g3,g4,g6⟩,rfl,q _ fresh⟩
end
end L2
namespace L2
open PySem PyProof.Rows TS
section
variable {X:Cx} {pins:List (Addr × Obj)} {σ:St} {H:Hp} {s:Shared}
end
end L2
namespace TS
open PySem PyProof.Rows L2
section
variable {prog:Program} {w:World} {A:Around} {E:Value→Shared→Prop} {s:Shared}
end
end TS
namespace L2
open PySem PySem.Spec PyProof.Rows
section
variable {X:Cx} {x:Str} {p pos kp:Pos} {e l:Expr} {es:List Expr} {t:TA} {tk:TE} {id:String} {r:List V→V→Hp→VK→Prop}
end
end L2
namespace TS
open PySem PyProof.Rows L2
end TS
namespace L2
open PySem PyProof.Rows TS
end L2
namespace L2
open PySem PyProof.Rows TS
section
variable {X:Cx}
end
end L2
namespace STb
open PySem PySem.Spec PyProof.Rows L2 SetTable
section
variable {P:Program} {w:World}
variable {A:Around} {R:Result→Shared→Prop} {It:Addr} {fp wr:List Addr} {G:Array GenState→Array GenState→Prop} {Pr:Nat→Value→Prop} {St:Nat→Shared→Prop} {ks:List Str}
end
end STb
namespace STb
open PySem PySem.Spec PyProof.Rows L2 SetTable
section
variable {P:Program} {w:World} {A:Around} {E:Value→Shared→Prop} {s:Shared}
end
end STb
namespace L2
open PySem PySem.Spec PyProof.Rows TS STb
section
variable {X:Cx}
end
end L2
namespace L2
open PySem PySem.Spec PyProof.Rows TS STb
section
variable {X:Cx}
end
end L2
namespace L2
open PySem PySem.Spec PyProof.Rows TS STb
section
variable {X:Cx}
end
end L2
namespace L2
open PySem
abbrev oR (a:Addr):Option V:=some (.ref a)
theorem sL0:0≤sizeLine:=by decide
theorem sL1:1≤sizeLine:=by decide
theorem sL2:2≤sizeLine:=by decide
theorem sL3:3≤sizeLine:=by decide
theorem sL4:4≤sizeLine:=by decide
theorem seq_gen {a b:TS} {D:Ends} {σ:St} {H:Hp} (R:St→Hp→Prop) (h1:∀ B:TS,(∀ σ H,R σ H→B D σ H)→tSeq a B D σ H) (h2:∀ σ H,R σ H→b D σ H):tSeq a b D σ H:=h1 b h2
theorem sg0 {a b:TS} {D:Ends} {σ:St} {H:Hp} (s:St) (I:Hp→Prop) (h1:∀ B:TS,(∀ H,I H→B D s H)→tSeq a B D σ H) (h2:∀ H,I H→b D s H):tSeq a b D σ H:=h1 b h2
theorem sg1 {a b:TS} {D:Ends} {σ:St} {H:Hp} {α:Type} (s:α→St) (I:α→Hp→Prop) (h1:∀ B:TS,(∀ x H,I x H→B D (s x) H)→tSeq a B D σ H) (h2:∀ x H,I x H→b D (s x) H):tSeq a b D σ H:=h1 b h2
theorem sg2 {a b:TS} {D:Ends} {σ:St} {H:Hp} {α β:Type} (s:α→β→St) (I:α→β→Hp→Prop) (h1:∀ B:TS,(∀ x y H,I x y H→B D (s x y) H)→tSeq a B D σ H) (h2:∀ x y H,I x y H→b D (s x y) H):tSeq a b D σ H:=h1 b h2
theorem sg3 {a b:TS} {D:Ends} {σ:St} {H:Hp} {α β γ:Type} (s:α→β→γ→St) (I:α→β→γ→Hp→Prop) (h1:∀ B:TS,(∀ x y z H,I x y z H→B D (s x y z) H)→tSeq a B D σ H) (h2:∀ x y z H,I x y z H→b D (s x y z) H):tSeq a b D σ H:=h1 b h2
theorem sg4 {a b:TS} {D:Ends} {σ:St} {H:Hp} {α β γ δ:Type} (s:α→β→γ→δ→St) (I:α→β→γ→δ→Hp→Prop) (h1:∀ B:TS,(∀ x y z u H,I x y z u H→B D (s x y z u) H)→tSeq a B D σ H) (h2:∀ x y z u H,I x y z u H→b D (s x y z u) H):tSeq a b D σ H:=h1 b h2
theorem gName_go {i:Nat} {x:V} {σ:St} {H:Hp} {Q:St→Hp→Prop} (h:Q (σ.set i (some x)) H):gName i x σ H Q:=h
end L2
namespace L2
open PySem PySem.Spec PyProof.Rows TS STb
theorem eqAt_key {A:Around} {s:Shared} {k j:Key} {u v:Value} (hu:RelV (kV k) u) (hv:RelV (kV j) v):SeqAt.EqAt A s u v (decide (k = j)):=by
 cases k with
 | inl a =>
  obtain ⟨t,rfl⟩:=hu
  cases j with
  | inl b =>
   obtain ⟨t',rfl⟩:=hv
   have:=SeqAt.EqAt.int_int (A:=A) (s:=s) a t b t'
   rwa [show (a == b) = decide ((Sum.inl a:Key) = Sum.inl b) from Bool.eq_iff_iff.mpr (by rw [beq_iff_eq,decide_eq_true_eq]; exact ⟨fun z => by rw [z],fun z => Sum.inl.inj z⟩)] at this
  | inr b =>
   obtain ⟨t',rfl⟩:=hv
   rw [decide_eq_false (fun z => by cases z)]
   exact SeqAt.EqAt.int_str a t b t'
 | inr a =>
  obtain ⟨t,rfl⟩:=hu
  cases j with
  | inl b =>
   obtain ⟨t',rfl⟩:=hv
   rw [decide_eq_false (fun z => by cases z)]
   exact SeqAt.EqAt.str_int a t b t'
  | inr b =>
   obtain ⟨t',rfl⟩:=hv
   have:=SeqAt.EqAt.str_str (A:=A) (s:=s) a t b t'
   rwa [show (a == b) = decide ((Sum.inr a:Key) = Sum.inr b) from Bool.eq_iff_iff.mpr (by rw [beq_iff_eq,decide_eq_true_eq]; exact ⟨fun z => by rw [z],fun z => Sum.inr.inj z⟩)] at this
section
variable {X:Cx} {pins:List (Addr × Obj)} {σ:St} {H:Hp} {s:Shared}
end
end L2
namespace PySem.SeqAt
open PySem PySem.Spec
open MeetsSeq MeetsSeq2 MeetsSeq3 SeqRoads2
def LtAt (A:Around) (s:Shared) (y x:Value) (b:Bool):Prop :=
 ∀ (prog:Program) (w:World) (E:Value→Shared→Prop) (Q:Value→Shared→Prop),Q (.bool b) s→wpAny (model prog w) A (richCompare .Lt y x) Q E s
theorem tuple_ltAt (l b:Addr) (items items2:Array Value) (n n2:Nat) (dd dd2:Option Addr) (sl sl2:Array (Option Value)) (e:Nat→Bool) (r:Bool) :
  Meets (Builtin.«tuple.__lt__» ⟨[.ref l,.ref b],[]⟩)
   (fun A R s => s.heap.get? l = some { cls:=.type "tuple",dict:=dd,data:=.seq items n,slots:=sl }∧s.heap.get? b = some { cls:=.type "tuple",dict:=dd2,data:=.seq items2 n2,slots:=sl2 } ∧
    (∀ j (h1:j < items.size) (h2:j < items2.size),(∀ i,i < j→e i = true)→EqAt A.in1 s items[j] items2[j] (e j)) ∧
    (∀ j (h1:j < items.size) (h2:j < items2.size),(∀ i,i < j→e i = true)→e j = false→LtAt A.in1 s items[j] items2[j] r) ∧
    ((∀ i,i < min items.size items2.size→e i = true)→r = decide (items.size < items2.size)) ∧
    R (.ok (.ret (.bool r))) s) :=
 .of_wp fun prog w A R s h => by
  obtain ⟨hp,g,d,tk,os⟩:=s; obtain ⟨hl,hb,he,hlt,hr,h⟩:=h
  have f2:=AutoSeq1.sub_tuple_tuple
  have hZ:(items.toList.zip items2.toList).length = min items.size items2.size:=by simp
  wp_walk using AutoSeq1.wpAny_loadPart' hl,AutoSeq1.wpAny_loadPart' hb,wpAny_forIn_list _ (fun rest b s' => b.1 = none∧s' = ⟨hp,g,d,tk,os⟩∧∃ i,rest = (items.toList.zip items2.toList).drop i∧∀ j,j < i→e j = true) _
  case turn =>
   rintro ⟨y,x⟩ rest b s' ⟨hb',rfl,i,hz,hR⟩
   have hlt2:i < (items.toList.zip items2.toList).length:=by
    rcases Nat.lt_or_ge i (items.toList.zip items2.toList).length with h' | h'
    ·exact h'
    ·rw [List.drop_of_length_le h'] at hz; cases hz
   have hm:i < min items.size items2.size:=hZ▸hlt2
   have h1:i < items.size:=Nat.lt_of_lt_of_le hm (Nat.min_le_left _ _)
   have h2:i < items2.size:=Nat.lt_of_lt_of_le hm (Nat.min_le_right _ _)
   rw [List.drop_eq_getElem_cons hlt2] at hz
   injection hz with hyx hrest
   have hy:y = items[i]:=by have:=congrArg Prod.fst hyx; simpa using this
   have hx:x = items2[i]:=by have:=congrArg Prod.snd hyx; simpa using this
   subst hy hx
   refine wpAny_bind (he i h1 h2 hR prog w _ _ ?_)
   cases hy:e i with
   | true =>
    wp_walk
    exact ⟨rfl,rfl,i + 1,hrest,fun j hj => by
     rcases Nat.lt_or_eq_of_le (Nat.le_of_lt_succ hj) with z | rfl
     ·exact hR j z
     ·exact hy⟩
   | false =>
    have q:=hlt i h1 h2 hR hy prog w
    generalize richCompare CmpOp.Lt items[i] items2[i] = m at q ⊢
    wp_walk using q _ _
    wp_walk
    exact ⟨_,rfl,h⟩
  case fin =>
   rintro ⟨b1,b2⟩ s' ⟨hb',rfl,i,hz,hR⟩
   simp only at hb'
   subst hb'
   have hge:min items.size items2.size≤i:=by
    rcases Nat.lt_or_ge i (items.toList.zip items2.toList).length with h' | h'
    ·rw [List.drop_eq_getElem_cons h'] at hz; cases hz
    ·exact hZ▸h'
   rw [hr fun j hj => hR j (Nat.lt_of_lt_of_le hj hge)] at h
   wp_walk
   exact ⟨_,rfl,by simpa [Builtin.Tuple.tupleCompareSizes] using h⟩
  case h =>
   exact ⟨rfl,rfl,0,rfl,fun j hj => absurd hj (Nat.not_lt_zero _)⟩
theorem tuple_eqPre (l b:Addr) (items items2:Array Value) (n n2:Nat) (dd dd2:Option Addr) (sl sl2:Array (Option Value)) (e:Nat→Bool) (r:Bool) :
  Meets (Builtin.«tuple.__eq__» ⟨[.ref l,.ref b],[]⟩)
   (fun A R s => s.heap.get? l = some { cls:=.type "tuple",dict:=dd,data:=.seq items n,slots:=sl }∧s.heap.get? b = some { cls:=.type "tuple",dict:=dd2,data:=.seq items2 n2,slots:=sl2 } ∧
    (∀ j (h1:j < items.size) (h2:j < items2.size),(∀ i,i < j→e i = true)→EqAt A.in1 s items[j] items2[j] (e j)) ∧
    (∀ j (h1:j < items.size) (h2:j < items2.size),(∀ i,i < j→e i = true)→e j = false→r = false) ∧
    ((∀ i,i < min items.size items2.size→e i = true)→r = (items.size == items2.size)) ∧
    R (.ok (.ret (.bool r))) s) :=
 .of_wp fun prog w A R s h => by
  obtain ⟨hp,g,d,tk,os⟩:=s; obtain ⟨hl,hb,he,hlt,hr,h⟩:=h
  have f2:=AutoSeq1.sub_tuple_tuple
  have hZ:(items.toList.zip items2.toList).length = min items.size items2.size:=by simp
  wp_walk using AutoSeq1.wpAny_loadPart' hl,AutoSeq1.wpAny_loadPart' hb,wpAny_forIn_list _ (fun rest b s' => b.1 = none∧s' = ⟨hp,g,d,tk,os⟩∧∃ i,rest = (items.toList.zip items2.toList).drop i∧∀ j,j < i→e j = true) _
  case turn =>
   rintro ⟨y,x⟩ rest b s' ⟨hb',rfl,i,hz,hR⟩
   have hlt2:i < (items.toList.zip items2.toList).length:=by
    rcases Nat.lt_or_ge i (items.toList.zip items2.toList).length with h' | h'
    ·exact h'
    ·rw [List.drop_of_length_le h'] at hz; cases hz
   have hm:i < min items.size items2.size:=hZ▸hlt2
   have h1:i < items.size:=Nat.lt_of_lt_of_le hm (Nat.min_le_left _ _)
   have h2:i < items2.size:=Nat.lt_of_lt_of_le hm (Nat.min_le_right _ _)
   rw [List.drop_eq_getElem_cons hlt2] at hz
   injection hz with hyx hrest
   have hy:y = items[i]:=by have:=congrArg Prod.fst hyx; simpa using this
   have hx:x = items2[i]:=by have:=congrArg Prod.snd hyx; simpa using this
   subst hy hx
   refine wpAny_bind (he i h1 h2 hR prog w _ _ ?_)
   cases hy:e i with
   | true =>
    wp_walk
    exact ⟨rfl,rfl,i + 1,hrest,fun j hj => by
     rcases Nat.lt_or_eq_of_le (Nat.le_of_lt_succ hj) with z | rfl
     ·exact hR j z
     ·exact hy⟩
   | false =>
    rw [hlt i h1 h2 hR hy] at h
    wp_walk
    exact ⟨_,rfl,h⟩
  case fin =>
   rintro ⟨b1,b2⟩ s' ⟨hb',rfl,i,hz,hR⟩
   simp only at hb'
   subst hb'
   have hge:min items.size items2.size≤i:=by
    rcases Nat.lt_or_ge i (items.toList.zip items2.toList).length with h' | h'
    ·rw [List.drop_eq_getElem_cons h'] at hz; cases hz
    ·exact hZ▸h'
   rw [hr fun j hj => hR j (Nat.lt_of_lt_of_le hj hge)] at h
   wp_walk
   exact ⟨_,rfl,by simpa [Builtin.Tuple.tupleCompareSizes] using h⟩
  case h =>
   exact ⟨rfl,rfl,0,rfl,fun j hj => absurd hj (Nat.not_lt_zero _)⟩
section
variable {A:Around} {s:Shared}
theorem LtAt.tuples {l b:Addr} {items items2:Array Value} {e:Nat→Bool} {r:Bool} (hl:s.heap.IsTuple l items) (hb:s.heap.IsTuple b items2) (hu:A.units < cLine)
  (he:∀ j (h1:j < items.size) (h2:j < items2.size),(∀ i,i < j→e i = true)→EqAt A.in1 s items[j] items2[j] (e j))
  (hlt:∀ j (h1:j < items.size) (h2:j < items2.size),(∀ i,i < j→e i = true)→e j = false→LtAt A.in1 s items[j] items2[j] r)
  (hr:(∀ i,i < min items.size items2.size→e i = true)→r = decide (items.size < items2.size)):LtAt A s (.ref l) (.ref b) r:=fun prog w E Q h => by
 obtain ⟨⟨cls,dd,data,sl⟩,ho,hc,n,hd⟩:=id hl
 obtain ⟨⟨cls2,dd2,data2,sl2⟩,ho2,hc2,n2,hd2⟩:=id hb
 simp only at hc hd hc2 hd2
 subst hc hd hc2 hd2
 exact richCompare_meets_room (op:=.Lt) ⟨_,ho,rfl⟩ ⟨_,ho2,rfl⟩ F.slot_tuple_lt F.entry_tuple_lt (F.args_tuple_lt_2 _ _) (tuple_ltAt l b items items2 n n2 dd dd2 sl sl2 e r)
  ⟨ho,ho2,he,hlt,hr,show Value.bool r≠Value.notImplemented∧Q (.bool r) s from ⟨(fun x => nomatch x),h⟩⟩ hu
theorem EqAt.tuplesP {l b:Addr} {items items2:Array Value} {e:Nat→Bool} {r:Bool} (hne:l≠b) (hl:s.heap.IsTuple l items) (hb:s.heap.IsTuple b items2) (hu:A.units < cLine)
  (he:∀ j (h1:j < items.size) (h2:j < items2.size),(∀ i,i < j→e i = true)→EqAt A.in1 s items[j] items2[j] (e j))
  (hlt:∀ j (h1:j < items.size) (h2:j < items2.size),(∀ i,i < j→e i = true)→e j = false→r = false)
  (hr:(∀ i,i < min items.size items2.size→e i = true)→r = (items.size == items2.size)):EqAt A s (.ref l) (.ref b) r:=EqAt.of_refs hne fun prog w E Q h => by
 obtain ⟨⟨cls,dd,data,sl⟩,ho,hc,n,hd⟩:=id hl
 obtain ⟨⟨cls2,dd2,data2,sl2⟩,ho2,hc2,n2,hd2⟩:=id hb
 simp only at hc hd hc2 hd2
 subst hc hd hc2 hd2
 exact richCompare_meets_room (op:=.Eq) ⟨_,ho,rfl⟩ ⟨_,ho2,rfl⟩ F.slot_tuple_eq F.entry_tuple_eq (F.args_tuple_eq_2 _ _) (tuple_eqPre l b items items2 n n2 dd dd2 sl sl2 e r)
  ⟨ho,ho2,he,hlt,hr,show Value.bool r≠Value.notImplemented∧Q (.bool r) s from ⟨(fun x => nomatch x),h⟩⟩ hu
end
end PySem.SeqAt
namespace L2
open PySem PySem.Spec PyProof.Rows TS
structure Od where
 α:Type
 deq:DecidableEq α
 lt:α→α→Bool
 irr:∀ a,lt a a = false
 trans:∀ {a b c},lt a b = true→lt b c = true→lt a c = true
 tot:∀ {a b},lt a b = false→lt b a = false→a = b
 R:Heap→Value→α→Prop
 V_:Hp→V→α→Prop
 cmp:α→α→Prop
 deep:Nat
 keep:∀ {h h':Heap} {u a},(∀ b o,h.get? b = some o→o.cls = .type "tuple"→h'.get? b = some o)→R h u a→R h' u a
 mono:∀ {H H':Hp} {x a},(∀ p xs,H p = some (.tup xs)→H' p = some (.tup xs))→V_ H x a→V_ H' x a
 raw:∀ {P w H h x u a},HOk P w H h→V_ H x a→RelV x u→R h u a
 uniq:∀ {h u a b},R h u a→R h u b→a = b
 eq:∀ {A:Around} {s:Shared} {u v a b},A.units + deep < cLine→cmp a b→R s.heap u a→R s.heap v b→SeqAt.EqAt A s u v (@decide (a = b) (deq a b))
 less:∀ {A:Around} {s:Shared} {u v a b},A.units + deep < cLine→cmp a b→R s.heap u a→R s.heap v b→SeqAt.LtAt A s u v (lt a b)
instance (O:Od):DecidableEq O.α:=O.deq
theorem kval_rel {k:Key} {u:Value}:RelV (kV k) u↔KVal k u:=by cases k <;> exact Iff.rfl
abbrev keyOd:Od where
 α:=Key
 deq:=inferInstance
 lt:=kLt
 irr:=kLt_irr
 trans:=kLt_trans
 tot:=kLt_tot
 R:=fun _ u k => KVal k u
 V_:=fun _ x k => x = kV k
 cmp:=fun a b => a.isLeft = b.isLeft
 deep:=0
 keep:=fun _ h => h
 mono:=fun _ h => h
 raw:=fun _ h r => by rw [h] at r; exact kval_rel.mp r
 uniq:=fun {h u a b} h1 h2 => by
  cases a <;> cases b <;> (obtain ⟨t,rfl⟩:=h1; obtain ⟨t',e⟩:=h2; first | (cases e; done) | (cases e; rfl))
 eq:=fun _ _ h1 h2 => eqAt_key (kval_rel.mpr h1) (kval_rel.mpr h2)
 less:=fun {A s u v a b} _ hc h1 h2 prog w E Q h => by
  cases a with
  | inl a => cases b with
   | inl b =>
    obtain ⟨t,rfl⟩:=h1
    obtain ⟨t',rfl⟩:=h2
    exact richCompare_gives (op:=.Lt) (typeIs_int s a t) (typeIs_int s b t') F.slot_int_lt F.entry_int_lt (F.args_int_lt_2 _ _) (gives_int_lt a b t t') (fun z => nomatch z) h
   | inr b => cases hc
  | inr a => cases b with
   | inl b => cases hc
   | inr b =>
    obtain ⟨t,rfl⟩:=h1
    obtain ⟨t',rfl⟩:=h2
    exact richCompare_gives (op:=.Lt) (typeIs_str s a t) (typeIs_str s b t') F.slot_str_lt F.entry_str_lt (F.args_str_lt_2 _ _) (gives_str_lt a b t t') (fun z => nomatch z) h
section
variable (O:Od)
def ltL:List O.α→List O.α→Bool
 | _,[] => false
 | [],_ :: _ => true
 | a :: as,b :: bs => if a = b then ltL as bs else O.lt a b
def cmpL:List O.α→List O.α→Prop
 | [],_ => True
 | _ :: _,[] => True
 | a :: as,b :: bs => O.cmp a b∧(a = b→cmpL as bs)
variable {O}
theorem Od.ne_ {a b:O.α} (h:O.lt a b = true):a≠b:=fun e => by rw [e,O.irr] at h; cases h
theorem ltL_irr:∀ a:List O.α,ltL O a a = false
 | [] => rfl
 | a :: as => by unfold ltL; rw [if_pos rfl]; exact ltL_irr as
theorem ltL_tot:∀ {a b:List O.α},ltL O a b = false→ltL O b a = false→a = b
 | [],[],_,_ => rfl
 | [],b :: bs,h,_ => by unfold ltL at h; cases h
 | a :: as,[],_,h => by unfold ltL at h; cases h
 | a :: as,b :: bs,h1,h2 => by
  unfold ltL at h1 h2
  by_cases e:a = b
  ·rw [if_pos e] at h1
   rw [if_pos e.symm] at h2
   rw [e,ltL_tot h1 h2]
  ·rw [if_neg e] at h1
   rw [if_neg (Ne.symm e)] at h2
   exact absurd (O.tot h1 h2) e
theorem ltL_trans:∀ {a b c:List O.α},ltL O a b = true→ltL O b c = true→ltL O a c = true
 | a,b,[],_,h => by unfold ltL at h; cases h
 | a,[],c,h,_ => by unfold ltL at h; cases h
 | [],b :: bs,c :: cs,_,_ => by unfold ltL; rfl
 | a :: as,b :: bs,c :: cs,h1,h2 => by
  unfold ltL at h1 h2 ⊢
  by_cases e1:a = b
  ·subst e1
   rw [if_pos rfl] at h1
   by_cases e2:a = c
   ·rw [if_pos e2] at h2 ⊢
    exact ltL_trans h1 h2
   ·rw [if_neg e2] at h2 ⊢
    exact h2
  ·rw [if_neg e1] at h1
   by_cases e2:b = c
   ·subst e2
    rw [if_neg e1]
    exact h1
   ·rw [if_neg e2] at h2
    have h3:=O.trans h1 h2
    rw [if_neg (Od.ne_ h3)]
    exact h3
theorem paired_imp {α β:Type} {F G:α→β→Prop} (f:∀ x y,F x y→G x y):∀ {l:List α} {m:List β},Paired F l m→Paired G l m
 | _,_,.nil => .nil
 | _,_,.cons r t => .cons (f _ _ r) (paired_imp f t)
theorem paired_uniq {α β:Type} {F:α→β→Prop} (f:∀ x y z,F x y→F x z→y = z):∀ {l:List α} {m n:List β},Paired F l m→Paired F l n→m = n
 | _,_,_,.nil,.nil => rfl
 | _,_,_,.cons r t,.cons r' t' => by rw [f _ _ _ r r',paired_uniq f t t']
theorem paired_len {α β:Type} {F:α→β→Prop}:∀ {l:List α} {m:List β},Paired F l m→l.length = m.length
 | _,_,.nil => rfl
 | _,_,.cons _ t => by rw [List.length_cons,List.length_cons,paired_len t]
theorem paired_at {α β:Type} {F:α→β→Prop}:∀ {l:List α} {m:List β} (p:Paired F l m) {i:Nat} (h1:i < l.length) (h2:i < m.length),F l[i] m[i]
 | _,_,.cons r _,0,_,_ => r
 | _,_,.cons _ t,i + 1,h1,h2 => paired_at t (by simpa using h1) (by simpa using h2)
theorem raw_pair {P:Program} {w:World} {H:Hp} {h:Heap} (ok:HOk P w H h):∀ {xs:List V} {us:List Value} {l:List O.α},Paired (O.V_ H) xs l→Vals xs us→Paired (O.R h) us l
 | _,_,_,.nil,.nil => .nil
 | _,_,_,.cons r t,.cons r' t' => .cons (O.raw ok r r') (raw_pair ok t t')
theorem cmpL_at:∀ {as bs:List O.α},cmpL O as bs→∀ (j:Nat) (h1:j < as.length) (h2:j < bs.length),(∀ i (g1:i < as.length) (g2:i < bs.length),i < j→as[i] = bs[i])→O.cmp as[j] bs[j]
 | a :: as,b :: bs,h,0,_,_,_ => by unfold cmpL at h; exact h.1
 | a :: as,b :: bs,h,j + 1,h1,h2,e => by
  unfold cmpL at h
  exact cmpL_at (h.2 (e 0 (Nat.succ_pos _) (Nat.succ_pos _) (Nat.succ_pos _))) j (by simpa using h1) (by simpa using h2) fun i g1 g2 hi => by
   have:=e (i + 1) (by simpa using g1) (by simpa using g2) (by omega)
   simpa using this
theorem ltL_at:∀ {as bs:List O.α} (j:Nat) (h1:j < as.length) (h2:j < bs.length),(∀ i (g1:i < as.length) (g2:i < bs.length),i < j→as[i] = bs[i])→as[j]≠bs[j]→ltL O as bs = O.lt as[j] bs[j]
 | a :: as,b :: bs,0,_,_,_,n => by unfold ltL; rw [if_neg (by simpa using n)]; rfl
 | a :: as,b :: bs,j + 1,h1,h2,e,n => by
  have e0:a = b:=e 0 (Nat.succ_pos _) (Nat.succ_pos _) (Nat.succ_pos _)
  unfold ltL
  rw [if_pos e0]
  refine (ltL_at j (by simpa using h1) (by simpa using h2) (fun i g1 g2 hi => ?_) (by simpa using n)).trans (by simp)
  have:=e (i + 1) (by simpa using g1) (by simpa using g2) (by omega)
  simpa using this
theorem ltL_pre:∀ {as bs:List O.α},(∀ i (g1:i < as.length) (g2:i < bs.length),as[i] = bs[i])→ltL O as bs = decide (as.length < bs.length)
 | as,[],_ => by unfold ltL; exact (decide_eq_false (Nat.not_lt_zero _)).symm
 | [],b :: bs,_ => by unfold ltL; exact (decide_eq_true (Nat.succ_pos _)).symm
 | a :: as,b :: bs,e => by
  have e0:a = b:=e 0 (Nat.succ_pos _) (Nat.succ_pos _)
  unfold ltL
  rw [if_pos e0,ltL_pre (fun i g1 g2 => by
   have:=e (i + 1) (by simpa using g1) (by simpa using g2)
   simpa using this)]
  simp
theorem eq_iff_at {as bs:List O.α}:as = bs↔as.length = bs.length∧∀ i (g1:i < as.length) (g2:i < bs.length),as[i] = bs[i] :=
 ⟨fun e => by subst e; exact ⟨rfl,fun _ _ _ => rfl⟩,fun h => List.ext_getElem h.1 fun i h1 h2 => h.2 i h1 h2⟩
def eAt (as bs:List O.α) (j:Nat):Bool:=decide (as[j]? = bs[j]?)
theorem eAt_iff {as bs:List O.α} {j:Nat} (h1:j < as.length) (h2:j < bs.length):eAt as bs j = decide (as[j] = bs[j]):=by
 unfold eAt
 rw [List.getElem?_eq_getElem h1,List.getElem?_eq_getElem h2,Bool.eq_iff_iff,decide_eq_true_iff,decide_eq_true_iff]
 exact ⟨fun e => Option.some.inj e,fun e => by rw [e]⟩
theorem eAt_pre {as bs:List O.α} {j:Nat} (h:∀ i,i < j→eAt as bs i = true):∀ i (g1:i < as.length) (g2:i < bs.length),i < j→as[i] = bs[i]:=fun i g1 g2 hi => by
 have:=h i hi
 rw [eAt_iff g1 g2] at this
 exact of_decide_eq_true this
end
abbrev tupOd (O:Od):Od where
 α:=List O.α
 deq:=inferInstance
 lt:=ltL O
 irr:=ltL_irr
 trans:=ltL_trans
 tot:=ltL_tot
 R:=fun h u l => ∃ a vs,u = .ref a∧h.IsTuple a vs.toArray∧Paired (O.R h) vs l
 V_:=fun H x l => ∃ a xs,x = .ref a∧H a = some (.tup xs)∧Paired (O.V_ H) xs l
 cmp:=cmpL O
 deep:=O.deep + 1
 keep:=fun k ⟨a,vs,e,⟨o,h1,h2,h3⟩,p⟩ => ⟨a,vs,e,⟨o,k a o h1 h2,h2,h3⟩,paired_imp (fun _ _ r => O.keep k r) p⟩
 mono:=fun k ⟨a,xs,e,h,p⟩ => ⟨a,xs,e,k _ _ h,paired_imp (fun _ _ r => O.mono k r) p⟩
 raw:=fun {P w H h x u l} ok ⟨a,xs,e,hh,p⟩ r => by
  subst e
  cases r
  obtain ⟨_,its,rv,it⟩:=(show ObjOk P w H h a (.tup xs) from ok a _ hh)
  exact ⟨a,its,rfl,it,raw_pair ok p rv⟩
 uniq:=fun ⟨a,vs,e,⟨o,h1,_,n,h3⟩,p⟩ ⟨a',vs',e',⟨o',h1',_,n',h3'⟩,p'⟩ => by
  subst e
  cases e'
  rw [h1] at h1'
  cases h1'
  rw [h3] at h3'
  injection h3' with e1 _
  have e2:vs = vs':=by simpa using e1
  subst e2
  exact paired_uniq (F:=O.R _) (fun _ _ _ r r' => O.uniq r r') p p'
 eq:=fun {A s u v as bs} hu hc h1 h2 => by
  obtain ⟨a,vs,rfl,t1,p1⟩:=id h1
  obtain ⟨b,ws,rfl,t2,p2⟩:=id h2
  have l1:=paired_len p1
  have l2:=paired_len p2
  by_cases hab:a = b
  ·subst hab
   have e:as = bs:=by
    obtain ⟨o,g1,_,n,g3⟩:=t1
    obtain ⟨o',g1',_,n',g3'⟩:=t2
    rw [g1] at g1'
    cases g1'
    rw [g3] at g3'
    injection g3' with e1 _
    have e2:vs = ws:=by simpa using e1
    subst e2
    exact paired_uniq (F:=O.R s.heap) (fun _ _ _ r r' => O.uniq r r') p1 p2
   rw [decide_eq_true e]
   exact SeqAt.EqAt.same _
  ·refine SeqAt.EqAt.tuplesP (e:=eAt as bs) hab t1 t2 (by omega) (fun j g1 g2 pre => ?_) (fun j g1 g2 pre ej => ?_) fun all => ?_
   ·have k1:j < as.length:=by rw [← l1]; simpa using g1
    have k2:j < bs.length:=by rw [← l2]; simpa using g2
    rw [eAt_iff k1 k2,List.getElem_toArray,List.getElem_toArray]
    exact O.eq (by show A.units + 1 + O.deep < cLine; omega) (cmpL_at hc j k1 k2 (eAt_pre pre)) (paired_at p1 _ k1) (paired_at p2 _ k2)
   ·have k1:j < as.length:=by rw [← l1]; simpa using g1
    have k2:j < bs.length:=by rw [← l2]; simpa using g2
    refine decide_eq_false fun e => ?_
    subst e
    rw [eAt_iff k1 k2] at ej
    exact absurd rfl (of_decide_eq_false ej)
   ·rw [List.size_toArray,List.size_toArray,l1,l2] at all ⊢
    rw [Bool.eq_iff_iff,decide_eq_true_iff,beq_iff_eq,eq_iff_at]
    refine ⟨fun z => z.1,fun z => ⟨z,fun i g1 g2 => ?_⟩⟩
    have:=all i (by omega)
    rw [eAt_iff g1 g2] at this
    exact of_decide_eq_true this
 less:=fun {A s u v as bs} hu hc h1 h2 => by
  obtain ⟨a,vs,rfl,t1,p1⟩:=id h1
  obtain ⟨b,ws,rfl,t2,p2⟩:=id h2
  have l1:=paired_len p1
  have l2:=paired_len p2
  refine SeqAt.LtAt.tuples (e:=eAt as bs) t1 t2 (by omega) (fun j g1 g2 pre => ?_) (fun j g1 g2 pre ej => ?_) fun all => ?_
  ·have k1:j < as.length:=by rw [← l1]; simpa using g1
   have k2:j < bs.length:=by rw [← l2]; simpa using g2
   rw [eAt_iff k1 k2,List.getElem_toArray,List.getElem_toArray]
   exact O.eq (by show A.units + 1 + O.deep < cLine; omega) (cmpL_at hc j k1 k2 (eAt_pre pre)) (paired_at p1 _ k1) (paired_at p2 _ k2)
  ·have k1:j < as.length:=by rw [← l1]; simpa using g1
   have k2:j < bs.length:=by rw [← l2]; simpa using g2
   rw [eAt_iff k1 k2] at ej
   have ne:=of_decide_eq_false ej
   rw [ltL_at j k1 k2 (eAt_pre pre) ne,List.getElem_toArray,List.getElem_toArray]
   exact O.less (by show A.units + 1 + O.deep < cLine; omega) (cmpL_at hc j k1 k2 (eAt_pre pre)) (paired_at p1 _ k1) (paired_at p2 _ k2)
  ·rw [List.size_toArray,List.size_toArray,l1,l2] at all ⊢
   refine ltL_pre fun i g1 g2 => ?_
   have:=all i (by omega)
   rw [eAt_iff g1 g2] at this
   exact of_decide_eq_true this
theorem eqAt_congr {A:Around} {s:Shared} {u v:Value} {p q:Prop} {d:Decidable p} {d':Decidable q} (h:p↔q) (x:SeqAt.EqAt A s u v (@decide p d)):SeqAt.EqAt A s u v (@decide q d'):=(@decide_eq_decide p q d d').mpr h▸x
abbrev sumOd (O:Od) (hd:∀ h u l,¬ (KVal l u∧∃ a,O.R h u a)):Od where
 α:=Key ⊕ O.α
 deq:=inferInstance
 lt:=fun a b => match a,b with | .inl a,.inl b => kLt a b | .inl _,.inr _ => true | .inr _,.inl _ => false | .inr a,.inr b => O.lt a b
 irr:=fun a => by cases a <;> first | exact kLt_irr _ | exact O.irr _
 trans:=fun {a b c} h1 h2 => by
  cases a <;> cases b <;> cases c <;> first | exact kLt_trans h1 h2 | exact O.trans h1 h2 | rfl | exact absurd h1 Bool.false_ne_true | exact absurd h2 Bool.false_ne_true
 tot:=fun {a b} h1 h2 => by
  cases a <;> cases b <;> first | exact congrArg _ (kLt_tot h1 h2) | exact congrArg _ (O.tot h1 h2) | exact absurd h1.symm Bool.false_ne_true | exact absurd h2.symm Bool.false_ne_true
 R:=fun h u a => match a with | .inl k => KVal k u | .inr a => O.R h u a
 V_:=fun H x a => match a with | .inl k => x = kV k | .inr a => O.V_ H x a
 cmp:=fun a b => match a,b with | .inl a,.inl b => a.isLeft = b.isLeft | .inr a,.inr b => O.cmp a b | _,_ => False
 deep:=O.deep
 keep:=fun {h h' u a} k r => by cases a <;> first | exact r | exact O.keep k r
 mono:=fun {H H' x a} k r => by cases a <;> first | exact r | exact O.mono k r
 raw:=fun {P w H h x u a} ok r q => by
  cases a with
  | inl k => rw [show x = kV k from r] at q; exact kval_rel.mp q
  | inr a => exact O.raw ok r q
 uniq:=fun {h u a b} r q => by
  cases a with
  | inl a => cases b with
   | inl b => exact congrArg _ (keyOd.uniq (h:=h) r q)
   | inr b => exact absurd ⟨r,_,q⟩ (hd h u a)
  | inr a => cases b with
   | inl b => exact absurd ⟨q,_,r⟩ (hd h u b)
   | inr b => exact congrArg _ (O.uniq r q)
 eq:=fun {A s u v a b} hu hc r q => by
  cases a with
  | inl a => cases b with
   | inl b =>
    exact eqAt_congr ⟨fun e => by rw [e],fun e => Sum.inl.inj e⟩ (keyOd.eq (A:=A) (s:=s) (by show A.units + 0 < cLine; omega) hc r q)
   | inr b => exact absurd hc id
  | inr a => cases b with
   | inl b => exact absurd hc id
   | inr b =>
    exact eqAt_congr ⟨fun e => by rw [e],fun e => Sum.inr.inj e⟩ (O.eq (A:=A) (s:=s) hu hc r q)
 less:=fun {A s u v a b} hu hc r q => by
  cases a with
  | inl a => cases b with
   | inl b => exact keyOd.less (A:=A) (s:=s) (by show A.units + 0 < cLine; omega) hc r q
   | inr b => exact absurd hc id
  | inr a => cases b with
   | inl b => exact absurd hc id
   | inr b => exact O.less hu hc r q
theorem key_not_tup (O:Od):∀ h u l,¬ (KVal l u∧∃ a,(tupOd O).R h u a):=fun h u l ⟨k,a,b,_,e,_⟩ => by
 subst e
 cases l <;> (obtain ⟨t,z⟩:=k; cases z)
abbrev nOd:Od:=sumOd (tupOd keyOd) (key_not_tup keyOd)
end L2
namespace L2
open PySem PySem.Spec PyProof.Rows TS
section
variable {prog:Program} {w:World} {A:Around} {E:Value→Shared→Prop} {s:Shared}
section
variable {O:Od} {hd:∀ h u l,¬ (KVal l u∧∃ a,O.R h u a)}
end
end
end L2
namespace L2
open PySem PySem.Spec PyProof.Rows TS
section
variable {prog:Program} {w:World} {A:Around} {E:Value→Shared→Prop} {s:Shared} {O:Od} {hd:∀ h u l,¬ (KVal l u∧∃ a,O.R h u a)}
end
end L2
namespace L2
open PySem PySem.Spec PyProof.Rows TS
def NAt (M:Od) (H:Hp) (bs:List Addr) (ks:List M.α):Prop:=Paired (fun b k => M.V_ H (.ref b) k) bs ks
theorem paired_app {α β:Type} {F:α→β→Prop}:∀ {a b:List α} {c d:List β},Paired F a c→Paired F b d→Paired F (a ++ b) (c ++ d)
 | _,_,_,_,.nil,s => s
 | _,_,_,_,.cons r t,s => .cons r (paired_app t s)
open Classical in
section
variable {X:Cx} {O:Od} {hd:∀ h u l,¬ (KVal l u∧∃ a,O.R h u a)}
end
section
variable {X:Cx} {M:Od}
end
end L2
namespace L2
open PySem PySem.Spec PyProof.Rows TS
structure Fz (P:Program) (w:World) (H:Hp) (a:Addr) (o:Obj) (kvs:List (List Key × V)) (xs:List (List Key × Addr × Value)):Prop where
 e:H a = some (Exo a o)
 hm:(a == sysModules) = false
 kt:KT H kvs xs
 dr:DRaw P w o xs
 hz:kvs.length≤sizeLine
theorem Fz.len {P:Program} {w:World} {H:Hp} {a:Addr} {o:Obj} {kvs:List (List Key × V)} {xs:List (List Key × Addr × Value)} (F:Fz P w H a o kvs xs):xs.length = kvs.length:=(Paired.length F.kt).symm
theorem kt_at {H:Hp}:∀ {kvs:List (List Key × V)} {xs:List (List Key × Addr × Value)} {i:Nat} {y:List Key × Addr × Value},KT H kvs xs→xs[i]? = some y→∃ kv,kvs[i]? = some kv∧H y.2.1 = some (.tup (kv.1.map kV))
 | _,_,_,_,.nil,e => by simp at e
 | _,_,0,_,.cons r _,e => by simp at e; subst e; exact ⟨_,rfl,r.2.1⟩
 | _,_,i + 1,y,.cons _ t,e => by
  obtain ⟨kv,h1,h2⟩:=kt_at (i:=i) t (by simpa using e)
  exact ⟨kv,by simpa using h1,h2⟩
theorem fz_start {P:Program} {w:World} {H:Hp} {a:Addr} {o:Obj} {kvs:List (List Key × V)} {xs:List (List Key × Addr × Value)} (ha:H a = some (.dT kvs)) (hz:kvs.length≤sizeLine) (hm:(a == sysModules) = false) (kt:KT H kvs xs) (dr:DRaw P w o xs) :
  Fz P w (upd H a (Exo a o)) a o kvs xs∧(∀ b u,b≠a→H b = some u→upd H a (Exo a o) b = some u)∧(∀ b,upd H a (Exo a o) b = none→H b = none)∧∀ H',Same (upd H a (Exo a o)) H'→Same H (upd H' a (.dT kvs)):=by
 refine ⟨⟨upd_same,hm,kt.keeps fun b ys e => by rw [upd_ne (ne_of e ha (fun z => nomatch z))]; exact e,dr,hz⟩,fun b u n e => by rw [upd_ne n]; exact e,fun b e => ?_,fun H' s b u e => ?_⟩
 ·by_cases h:b = a
  ·subst h; rw [upd_same] at e; cases e
  ·rwa [upd_ne h] at e
 ·by_cases h:b = a
  ·subst h
   rw [ha] at e
   cases e
   exact upd_same
  ·rw [upd_ne h]
   exact s b u (by rw [upd_ne h]; exact e)
theorem for_dict {P:Program} {w:World} {a:Addr} {o:Obj} {kvs:List (List Key × V)} {xs:List (List Key × Addr × Value)} {g:TG} {tb:TS} {D:Ends} {σ:St} {H:Hp} (F:Fz P w H a o kvs xs) (Pv:Nat→St→Hp→Prop) (h0:Pv 0 σ H) (hl:∀ i σ H',i≤kvs.length→Pv i σ H'→H' a = some (Exo a o))
  (hs:∀ i kv p σ H',kvs[i]? = some kv→H p = some (.tup (kv.1.map kV))→Pv i σ H'→g (.ref p) σ H' fun σ2 H2 => tb { D with nx:=Pv (i + 1),ct:=Pv (i + 1),bk:=D.nx } σ2 H2) (hd:∀ σ H',Pv kvs.length σ H'→D.nx σ H') :
  ∃ W:Nat→Nat→St→Hp→Prop,(∃ m,W 0 m σ H)∧∀ i m σ H,W i m σ H →
   ((Itd a o xs).stop i H∧D.nx σ H)∨((Itd a o xs).go i H∧∃ N:St→Hp→Prop,(∀ σ' H',N σ' H'→∃ m',m' < m∧W (i + 1) m' σ' H')∧∀ x H',(Itd a o xs).yld i H x H'→g x σ H' fun σ2 H2 => tb { D with nx:=N,ct:=N,bk:=D.nx } σ2 H2):=by
 have le:=F.len
 refine ⟨fun i m σ H => m = kvs.length - i∧i≤kvs.length∧Pv i σ H,⟨kvs.length,by simp,Nat.zero_le _,h0⟩,?_⟩
 rintro i m σ H1 ⟨rfl,hi,p⟩
 have q:=hl i σ H1 hi p
 by_cases hlt:i < kvs.length
 ·refine .inr ⟨⟨q,by omega⟩,Pv (i + 1),fun σ' H' p' => ⟨kvs.length - (i + 1),by omega,rfl,hlt,p'⟩,fun x H' y => ?_⟩
  obtain ⟨e,z,hz,rfl⟩:=y
  subst e
  obtain ⟨kv,h1,h2⟩:=kt_at F.kt hz
  exact hs i kv _ σ _ h1 h2 p
 ·have e:i = kvs.length:=by omega
  subst e
  exact .inl ⟨⟨q,by omega⟩,hd σ H1 p⟩
theorem comp_fz {P:Program} {w:World} {a:Addr} {o:Obj} {kvs:List (List Key × V)} {xs:List (List Key × Addr × Value)} {g:TG} {tc:TT} {te:TE} {k:Nat} {σ:St} {H:Hp} {Q:VK} (F:Fz P w H a o kvs xs) (Pv:Addr→Nat→List V→Hp→Prop)
  (h0:∀ D,H D = none→Pv D 0 [] (upd H D (.lst []))) (hD:∀ D i ys H',Pv D i ys H'→H' D = some (.lst ys)∧ys.length≤i∧H' a = some (Exo a o))
  (step:∀ D i kv p ys H' (Qy:VK) (Qn:Hp→Prop),kvs[i]? = some kv→H p = some (.tup (kv.1.map kV))→Pv D i ys H'→(∀ y H4,H4 D = some (.lst ys)→Pv D (i + 1) (ys ++ [y]) (upd H4 D (.lst (ys ++ [y])))→Qy y H4)→(∀ H4,Pv D (i + 1) ys H4→Qn H4) →
   g (.ref p) (σ ++ List.replicate k none) H' fun σ2 H2 => (∃ zs,σ2 = σ ++ zs∧zs.length = k)∧tc σ2 H2 fun b H3 => if b = true then te σ2 H3 Qy else Qn H3)
  (q:∀ D ys H',H D = none→Pv D kvs.length ys H'→Q (.ref D) H'):compT k g tc te σ Q (Itd a o xs) H:=by
 have le:=F.len
 have hz:=F.hz
 intro D hDn
 refine ⟨fun i m ys H' => m = kvs.length - i∧i≤kvs.length∧Pv D i ys H',⟨kvs.length,by simp,Nat.zero_le _,h0 D hDn⟩,?_⟩
 rintro i m ys H' ⟨rfl,hi,p⟩
 obtain ⟨e,hl,q1⟩:=hD D i ys H' p
 refine ⟨e,?_⟩
 by_cases hlt:i < kvs.length
 ·refine .inr ⟨⟨q1,by omega⟩,by omega,fun x H2 y => ?_⟩
  obtain ⟨rfl,z,hz,rfl⟩:=y
  obtain ⟨kv,h1,h2⟩:=kt_at F.kt hz
  exact step D i kv _ ys _ _ _ h1 h2 p (fun y H4 e4 p4 => ⟨e4,kvs.length - (i + 1),by omega,rfl,hlt,p4⟩) fun H4 p4 => ⟨kvs.length - (i + 1),by omega,rfl,hlt,p4⟩
 ·obtain rfl:i = kvs.length:=by omega
  exact .inl ⟨⟨q1,by omega⟩,q D ys H' hDn p⟩
section
variable {X:Cx}
def sThaw (P:Program) (w:World) (t:TS):TS:=fun D σ H => t { D with nx:=fun σ' H' => ∃ a o kvs xs,Fz P w H' a o kvs xs∧D.nx σ' (upd H' a (.dT kvs)) } σ H
theorem ps_thaw {st:Stmt} {t:TS} (h:PS X st t):PS X st (sThaw X.prog X.w t):=by
 intro pins s σ H D I q
 refine thn (h pins s σ H _ I q) fun f s1 hh => ?_
 cases f with
 | next =>
  obtain ⟨σ',H1,I1,a,o,kvs,xs,F,q⟩:=hh
  obtain ⟨es,ep,h2,h3,h4,h6⟩:=F.dr
  have g:=exo_get I1.hok F.e
  have I2:Inv X pins σ' (upd H1 a (.dT kvs)) { s1 with heap:=s1.heap,toks:=s1.toks }:=I1.write (x:=a) (e:=a) (h':=s1.heap) (t':=s1.toks) (by rw [F.e]; exact True.intro) (.inl rfl) (fun b u _ e => e) ⟨o,g⟩ ⟨F.hz,F.hm,xs,Paired.mapP F.kt fun x y r => ⟨r.1,?_,r.2.2⟩,o,es,ep,g,h2,h3,h4,h6⟩
  ·exact ⟨σ',_,I2,q⟩
  ·rw [upd_ne (ne_of r.2.1 F.e (fun z => nomatch z))]; exact r.2.1
 | ret v => exact hh
 | brk => exact hh
 | cont => exact hh
def DAny (P:Program) (w:World) (H:Hp) (a:Addr) (y:V) (r:Option V):Prop:=DGet H a y r∨∃ o kvs xs k b,Fz P w H a o kvs xs∧y = .ref b∧H b = some (.tup (k.map kV))∧r = valV kvs k
theorem DAny.z {P:Program} {w:World} {H:Hp} {a b:Addr} {o:Obj} {kvs:List (List Key × V)} {xs:List (List Key × Addr × Value)} {k:List Key} (F:Fz P w H a o kvs xs) (eb:H b = some (.tup (k.map kV))):DAny P w H a (.ref b) (valV kvs k):=.inr ⟨o,kvs,xs,k,b,F,rfl,eb,rfl⟩
theorem DAny.t {P:Program} {w:World} {H:Hp} {a b:Addr} {kvs:List (List Key × V)} {k:List Key} (e:H a = some (.dT kvs)) (eb:H b = some (.tup (k.map kV))):DAny P w H a (.ref b) (valV kvs k):=.inl (DGet.t e eb)
theorem fz_of {P:Program} {w:World} {H:Hp} {h:Heap} {a:Addr} {o:Obj} {kvs:List (List Key × V)} {xs:List (List Key × Addr × Value)} (ok:HOk P w H h) (F:Fz P w H a o kvs xs):h.DictOfH (tupleKind (mixKind P w)) a xs:=by
 obtain ⟨es,ep,h2,h3,h4,h6⟩:=F.dr
 refine ⟨o,es,ep,exo_get ok F.e,h2,h3,h4,fun x hx => ?_,h6⟩
 have all:∀ {l:List (List Key × V)} {m:List (List Key × Addr × Value)},KT H l m→∀ x∈m,(tupleKind (mixKind P w)).is h x.1 x.2.1:=by
  intro l m q
  induction q with
  | nil => intro x hx; exact nomatch hx
  | @cons p q ps qs hq t ih =>
   intro x hx
   rcases List.mem_cons.mp hx with e | hx
   ·subst e
    exact key_of ok (by rw [← hq.1]; exact hq.2.1)
   ·exact ih x hx
 exact all F.kt x hx
variable {pins:List (Addr × Obj)} {σ:St} {H:Hp} {s:Shared} {a:Addr} {y v:V} {u r:Value} {o:Option V} {A:Around} {E:Value→Shared→Prop}
theorem x_getItem {Q:Value→Shared→Prop} (hu:A.units + 1 < cLine) (I:Inv X pins σ H s) (g:DAny X.prog X.w H a y (some v)) (ry:RelV y u) (h:∀ w' s',Inv X pins σ H s'→RelV v w'→Q w' s') :
  wpAny (model X.prog X.w) A (getItem (.ref a) u) Q E s:=by
 rcases g with g | ⟨o,kvs,xs,k,b,F,ey,eb,l⟩
 ·exact d_getItem hu I g ry h
 ·subst ey
  cases (show u = Value.ref b from ry)
  have dd:=fz_of I.hok F
  obtain ⟨w',hw,rw'⟩:=RelO.some_of (v:=v) (o:=(atKey xs k).map (·.2)) (by rw [l]; exact F.kt.val k)
  obtain ⟨p,hp,hp2⟩:=Option.map_eq_some_iff.mp hw
  refine wpAny_getItem_heap (tupleKind_room_in1 hu) (key_of I.hok eb) dd hp ?_
  rw [hp2]
  exact h w' _ (I.tok _) rw'
theorem x_in {Q:Value→Shared→Prop} (hu:A.units + 1 < cLine) (I:Inv X pins σ H s) (g:DAny X.prog X.w H a y o) (ry:RelV y u) (h:∀ s',Inv X pins σ H s'→Q (.bool o.isSome) s') :
  wpAny (model X.prog X.w) A (compareOp .In u (.ref a)) Q E s:=by
 rcases g with g | ⟨ob,kvs,xs,k,b,F,ey,eb,l⟩
 ·exact d_in hu I g ry h
 ·subst ey
  cases (show u = Value.ref b from ry)
  have dd:=fz_of I.hok F
  refine wpAny_in_heap (tupleKind_room_in1 hu) (key_of I.hok eb) F.hm dd ?_
  have q:=(F.kt.val k).isSome_eq
  rw [Option.isSome_map] at q
  rw [← q,← l]
  exact h _ (I.tok _)
theorem x_notIn {Q:Value→Shared→Prop} (hu:A.units + 1 < cLine) (I:Inv X pins σ H s) (g:DAny X.prog X.w H a y o) (ry:RelV y u) (h:∀ s',Inv X pins σ H s'→Q (.bool (!o.isSome)) s') :
  wpAny (model X.prog X.w) A (compareOp .NotIn u (.ref a)) Q E s:=by
 rcases g with g | ⟨ob,kvs,xs,k,b,F,ey,eb,l⟩
 ·exact d_notIn hu I g ry h
 ·subst ey
  cases (show u = Value.ref b from ry)
  have dd:=fz_of I.hok F
  refine wpAny_notIn_heap (tupleKind_room_in1 hu) (key_of I.hok eb) F.hm dd ?_
  have q:=(F.kt.val k).isSome_eq
  rw [Option.isSome_map] at q
  rw [← q,← l]
  exact h _ (I.tok _)
theorem x_typeIs {o:Option V} (I:Inv X pins σ H s) (g:DAny X.prog X.w H a y o):s.TypeIs (.ref a) "dict":=by
 rcases g with g | ⟨ob,kvs,xs,k,b,F,_⟩
 ·exact dict_typeIs I g
 ·exact (fz_of I.hok F).typeIs
end
def xDGet (P:Program) (w:World) (td ty:TE):TE:=fun σ H Q => td σ H fun x H1 => ty σ H1 fun y H2 => ∃ a v,x = .ref a∧DAny P w H2 a y (some v)∧Q v H2
def xDIn (P:Program) (w:World) (ty td:TE):TE:=fun σ H Q => ty σ H fun y H1 => td σ H1 fun x H2 => ∃ a o,x = .ref a∧DAny P w H2 a y o∧Q (.bl o.isSome) H2
def xDNotIn (P:Program) (w:World) (ty td:TE):TE:=fun σ H Q => ty σ H fun y H1 => td σ H1 fun x H2 => ∃ a o,x = .ref a∧DAny P w H2 a y o∧Q (.bl (!o.isSome)) H2
section
variable {X:Cx} {o i e value:Expr} {pos pos' tpos:Pos} {td ty tv:TE}
theorem pe_dgetX (hu:X.A.units + 1 < cLine) (ho:PE X o td) (hi:PE X i ty) (hs:NoSl i):PE X (.Subscript o i pos) (xDGet X.prog X.w td ty):=by
 intro pins s σ H Q I h
 refine subD_of PySem.F.slot_dict_getitem.lookup hs (thn (ho pins s σ H _ I h) fun u s1 ⟨x,H1,I1,rx,q1⟩ => thn (hi pins s1 σ H1 _ I1 q1) fun iv s2 hh => ?_)
 obtain ⟨y,H2,I2,ry,a,v,ex,g,q2⟩:=hh
 subst ex
 obtain rfl:u = Value.ref a:=rx
 exact ⟨x_typeIs I2 g,x_getItem hu I2 g ry fun w' s3 I3 rw' => ⟨v,H2,I3,rw',q2⟩⟩
theorem pc_dinX (hu:X.A.units + 1 < cLine) (hi:PE X i ty) (ho:PE X o td):PC X .In i o (xDIn X.prog X.w ty td):=by
 intro pins s σ H Q I h
 refine thn (hi pins s σ H _ I h) fun iv s1 ⟨y,H1,I1,ry,q1⟩ => thn (ho pins s1 σ H1 _ I1 q1) fun u s2 hh => ?_
 obtain ⟨x,H2,I2,rx,a,ov,ex,g,q2⟩:=hh
 subst ex
 obtain rfl:u = Value.ref a:=rx
 exact x_in hu I2 g ry fun s3 I3 => ⟨.bl ov.isSome,H2,I3,rfl,q2⟩
theorem pc_dnotinX (hu:X.A.units + 1 < cLine) (hi:PE X i ty) (ho:PE X o td):PC X .NotIn i o (xDNotIn X.prog X.w ty td):=by
 intro pins s σ H Q I h
 refine thn (hi pins s σ H _ I h) fun iv s1 ⟨y,H1,I1,ry,q1⟩ => thn (ho pins s1 σ H1 _ I1 q1) fun u s2 hh => ?_
 obtain ⟨x,H2,I2,rx,a,ov,ex,g,q2⟩:=hh
 subst ex
 obtain rfl:u = Value.ref a:=rx
 exact x_notIn hu I2 g ry fun s3 I3 => ⟨.bl (!ov.isSome),H2,I3,rfl,q2⟩
end
end L2
namespace PySem.SeqAt
open PySem PySem.Spec
open MeetsSeq MeetsSeq2 MeetsSeq3 SeqRoads2
end PySem.SeqAt
namespace L2
open PySem PySem.Spec PyProof.Rows TS
section
variable {X:Cx}
end
end L2
namespace TS
open PySem PySem.Spec PyProof.Rows L2 STb
theorem list_keys_none:typeLookup (.type "list") "keys" = pure none:=by rw [typeLookup_type,builtinLookup_eq_fast]; kernel_rfl
theorem entry_dict_update_loop:entryFor table "dict.update.loop" = some Builtin.«dict.update.loop»:=entryFor_of_tree (by kernel_rfl)
theorem plain_dict_update_loop:plainId "dict.update.loop" = true:=by decide +kernel
theorem keys_miss {prog:Program} {w:World} {A:Around} {E:Value→Shared→Prop} {s:Shared} {a:Addr} {o:Obj} {xs:Array Value} {k:Nat} {Q:Option Value→Shared→Prop}
  (hx:s.heap.get? a = some o) (hc:o.cls = .type "list") (hdat:o.data = .seq xs k) (hd:o.dict = none) (hA:A.handled = none)
  (h:∀ h' tk,(∀ b o,s.heap.get? b = some o→h'.get? b = some o)→Q none { s with heap:=h',toks:=tk }) :
  wpAny (model prog w) A (getAttr? (.ref a) "keys") Q E s:=by
 obtain ⟨c,dct,dat,sl⟩:=o
 simp only at hc hdat hd
 subst hc hdat hd
 obtain ⟨hp,g,d,tk,os⟩:=s
 have hT:∀ tk',(⟨hp,g,d,tk',os⟩:Shared).TypeIs (.ref a) "list":=fun _ => ⟨_,hx,rfl⟩
 have f1:=sub_AttributeError
 have f3:=F.slot_list_getattribute.lookup
 have f4:=F.slot_list_getattribute.bind (.ref a)
 have f5:=am_list_getattr_none
 unfold getAttr? getAttrBy? getAttrBy
 repeat (any_goals (first | assumption | exact hT _ | ((with_reducible show wpAny _ _ (call (Value.builtin "list.__getattribute__") _ _) _ _ _); refine call_meets F.slot_list_getattribute (hT _) am_entry_list_getattribute (F.args_list_getattribute_2 _ _) (meets_getattribute_miss_list a xs k sl "keys" _ list_keys_none (by decide) (by size_fits)) ⟨hx,hA,fun h' tk' e hx' => ?_⟩) | wp_step))
 obtain ⟨t',u',he⟩:=hx'.there
 show wpAny _ _ (getattributeRaised _ _ _ _ _ _ _) _ _ _
 unfold getattributeRaised
 repeat (any_goals (first | assumption | wp_step))
 exact h _ _ hx'.of.keeps
section
variable {P:Program} {w:World} {A:Around} {R:Result→Shared→Prop} {It:Addr} {fp wr:List Addr} {G:Array GenState→Array GenState→Prop} {n:Nat} {Pr:Nat→Value→Prop} {St:Nat→Shared→Prop}
def accP (val:Nat→List L2.Key) (adr:Nat→Addr) (vv:Nat→Value):Nat→List (List L2.Key × Addr × Value)
 | 0 => []
 | i + 1 => storedH (accP val adr vv i) (val i) (adr i) (vv i)
abbrev tkk (P:Program) (w:World):=tupleKind (mixKind P w)
theorem accP_len (val:Nat→List L2.Key) (adr:Nat→Addr) (vv:Nat→Value):∀ i,(accP val adr vv i).length≤i
 | 0 => Nat.le_refl _
 | i + 1 => by
  have ih:=accP_len val adr vv i
  show (storedH _ _ _ _).length≤_
  unfold storedH
  split
  ·rw [List.length_map]; omega
  ·rw [List.length_append]; simp; omega
theorem accP_mem (val:Nat→List L2.Key) (adr:Nat→Addr) (vv:Nat→Value):∀ i,∀ x∈accP val adr vv i,∃ j,j < i∧x.1 = val j∧x.2.1 = adr j
 | 0,x,h => by cases h
 | i + 1,x,h => by
  have ih:=accP_mem val adr vv i
  have h:x∈storedH (accP val adr vv i) (val i) (adr i) (vv i):=h
  unfold storedH at h
  split at h
  ·obtain ⟨y,hy,rfl⟩:=List.mem_map.mp h
   obtain ⟨j,h1,h2,h3⟩:=ih y hy
   refine ⟨j,by omega,?_⟩
   unfold putAt
   split
   ·exact ⟨h2,h3⟩
   ·exact ⟨h2,h3⟩
  ·rcases List.mem_append.mp h with h | h
   ·obtain ⟨j,h1,h2⟩:=ih x h
    exact ⟨j,by omega,h2⟩
   ·obtain rfl:x = (val i,adr i,vv i):=by simpa using h
    exact ⟨i,by omega,rfl,rfl⟩
theorem dh_keep {h h':Heap} {D:Addr} {xs:List (List L2.Key × Addr × Value)} (m:h.DictOfH (tkk P w) D xs) (hD:∀ o,h.get? D = some o→h'.get? D = some o) (is:∀ x∈xs,(tkk P w).is h' x.1 x.2.1):h'.DictOfH (tkk P w) D xs:=by
 obtain ⟨o,es,ep,g,c,d,e,_,nd⟩:=m
 exact ⟨o,es,ep,hD _ g,c,d,e,is,nd⟩
theorem loop_pairs (W:WalksS P w A.in1 It fp wr G n Pr St) (hu:A.units + 8 < cLine) (D:Addr) (hDf:D ∉ fp) (val:Nat→List L2.Key) (adr qa:Nat→Addr) (vv:Nat→Value) (hval:∀ i v,Pr i v→v = .ref (qa i)) (hb:n≤sizeLine) (ha:∀ j,j < n→adr j ∉ wr∧adr j≠D∧qa j ∉ wr∧qa j≠D) :
  ∀ (d i:Nat) (s:Shared),n - i = d→i≤n→St i s→(∀ j,j < n→(tkk P w).is s.heap (val j) (adr j)∧s.heap.IsTuple (qa j) #[.ref (adr j),vv j])→s.heap.DictOfH (tkk P w) D (accP val adr vv i)→(∀ s',Moved (D :: wr) G s s'→s'.heap.DictOfH (tkk P w) D (accP val adr vv n)→R (.ok (.ret .none)) s') →
   codeAny (model P w) A (.builtin "dict.update.loop" ⟨[.ref D,.ref It,rawInt i,.none],[]⟩) R s
 | 0,i,s,hd,hi,st,ks,m,hR => by
  obtain rfl:i = n:=by omega
  refine codeAny_builtin entry_dict_update_loop ?_
  rw [Around.under_plainId plain_dict_update_loop _]
  refine wpAny_bind (W.done s _ _ st fun s' mv => ?_)
  show wpAny _ _ (Builtin.Dict.addKeywords D [] >>= _) _ _ _
  refine wpAny_bind (wpAny_pure (wpAny_pure (hR s' (mv.mono fun b hb => List.mem_cons_of_mem _ hb) ?_)))
  refine dh_keep m (fun o e => mv.heap D o (fun z => hDf (W.sub _ z)) e) fun x hx => ?_
  obtain ⟨j,h1,h2,h3⟩:=accP_mem val adr vv _ x hx
  rw [h2,h3]
  exact is_same (ks j h1).1 fun o e => mv.heap _ o (ha j h1).1 e
 | d + 1,i,s,hd,hi,st,ks,m,hR => by
  have hlt:i < n:=by omega
  refine codeAny_builtin entry_dict_update_loop ?_
  rw [Around.under_plainId plain_dict_update_loop _]
  refine wpAny_bind (W.item i s _ _ hlt st fun v s' hP st' mv => ?_)
  obtain rfl:=hval i v hP
  have ks':∀ j,j < n→(tkk P w).is s'.heap (val j) (adr j)∧s'.heap.IsTuple (qa j) #[.ref (adr j),vv j]:=fun j hj => ⟨is_same (ks j hj).1 fun o e => mv.heap _ o (ha j hj).1 e,by
   obtain ⟨o,e,r⟩:=(ks j hj).2
   exact ⟨o,mv.heap _ o (ha j hj).2.2.1 e,r⟩⟩
  have m':s'.heap.DictOfH (tkk P w) D (accP val adr vv i):=dh_keep m (fun o e => mv.heap D o (fun z => hDf (W.sub _ z)) e) fun x hx => by
   obtain ⟨j,h1,h2,h3⟩:=accP_mem val adr vv _ x hx
   rw [h2,h3]
   exact (ks' j (by omega)).1
  have hup:∀ b∈wr,b∈D :: wr:=fun b hb => List.mem_cons_of_mem _ hb
  obtain ⟨o,ho,hc,m2,hda⟩:=(ks' i hlt).2
  dsimp only
  refine wpAny_bind (wpAny_holding (wpAny_bind (wpAny_tryCatch ?_)))
  unfold Builtin.Dict.pairItems
  refine wpAny_bind (wpAny_typeOf (T:="tuple") ⟨o,ho,hc⟩ ?_)
  rw [if_pos (by decide)]
  refine wpAny_bind (wpAny_seqItems ho hda (wpAny_pure ?_))
  show wpAny _ _ (holding _ (dictSet D (.ref (adr i)) (vv i))) _ _ _
  have lz:=accP_len val adr vv i
  refine wpAny_holding (wpAny_dictSet_heap (knd:=tkk P w) (hsz:=by omega) (show A.units + 1 < cLine by omega) (ks' i hlt).1 m' fun h2 dd sb => wpAny_pure ⟨plainId_quiet plain_dict_update_loop _,?_⟩)
  have hc1:((i:Int) + 1) = ((i + 1:Nat):Int):=by push_cast; rfl
  rw [hc1]
  refine loop_pairs W hu D hDf val adr qa vv hval hb ha d (i + 1) _ (by omega) hlt (W.frame _ s' _ _ st' (Nat.le_add_right _ _) fun b hb o e => ?_) (fun j hj => ⟨is_same (ks' j hj).1 fun o e => ?_,?_⟩) dd fun s2 mv2 m2 => hR s2 (Moved.trans W.gtrans ((mv.mono hup).then_heap (Nat.le_add_right _ _) fun b o hb e => ?_) mv2) m2
  ·rw [sb.2 b (fun z:b = D => hDf (by rw [← z]; exact hb))]; exact e
  ·rw [sb.2 _ (ha j hj).2.1]; exact e
  ·obtain ⟨o,e,r⟩:=(ks' j hj).2
   exact ⟨o,by rw [sb.2 _ (ha j hj).2.2.2]; exact e,r⟩
  ·rw [sb.2 b (fun z:b = D => hb (by rw [z]; exact List.mem_cons_self))]; exact e
end
section
variable {P:Program} {w:World} {A:Around} {E:Value→Shared→Prop} {s:Shared}
theorem dict_pairs {l:Addr} {ol:Obj} {items:Array Value} {k:Nat} {val:Nat→List L2.Key} {adr qa:Nat→Addr} {vv:Nat→Value} {Q:Value→Shared→Prop} (hA:A.handled = none) (hu:A.units + 16 < cLine) (ho:s.heap.get? l = some ol) (hc:ol.cls = .type "list") (hda:ol.data = .seq items k) (hdd:ol.dict = none)
  (hit:∀ (i:Nat) v,items[i]? = some v→v = .ref (qa i)) (his:∀ j,j < items.size→(tkk P w).is s.heap (val j) (adr j)∧s.heap.IsTuple (qa j) #[.ref (adr j),vv j]) (hb:items.size≤sizeLine)
  (q:∀ h' tk,(∀ b u,s.heap.get? b = some u→h'.get? b = some u)→h'.DictOfH (tkk P w) s.heap.objs.size (accP val adr vv items.size)→Q (.ref s.heap.objs.size) { s with heap:=h',toks:=tk }):wpAny (model P w) A (call (.type "dict") [.ref l]) Q E s:=by
 refine callType_codes (Q₁:=fun obj s₁ => obj = .ref s.heap.objs.size∧s₁ = { s with heap:=s.heap.push { cls:=.type "dict",data:=.dict #[] } }) F.kt_called_dict (F.kt_typeCall_dict_1 _) F.entry_dict_init (kt_code_dict_new _ ⟨rfl,rfl⟩) ?_
 rintro obj s₁ ⟨rfl,rfl⟩
 have enew:(s.heap.push { cls:=.type "dict",data:=.dict #[] }).get? s.heap.objs.size = some { cls:=.type "dict",data:=.dict #[] }:=Heap.get?_push_size _ rfl
 have eo:(s.heap.push { cls:=.type "dict",data:=.dict #[] }).get? l = some ol:=Heap.get?_push_of_some _ ho
 have tn:Shared.TypeIs { s with heap:=s.heap.push { cls:=.type "dict",data:=.dict #[] } } (.ref s.heap.objs.size) "dict":=⟨_,enew,rfl⟩
 have tl:Shared.TypeIs { s with heap:=s.heap.push { cls:=.type "dict",data:=.dict #[] } } (.ref l) "list":=⟨_,eo,hc⟩
 refine ⟨tn,F.args_dict_init_2 _ _,?_⟩
 unfold Builtin.«dict.__init__»
 refine wpAny_bind ?_
 unfold Builtin.Dict.selfAndRest
 refine wpAny_bind (wpAny_notOrdered_dict tn ?_)
 show wpAny _ _ (pure (s.heap.objs.size,[Value.ref l])) _ _ _
 refine wpAny_pure ?_
 show wpAny _ _ (Builtin.Dict.updateFrom "dict.__init__" s.heap.objs.size (.ref l) [] .none) _ _ _
 unfold Builtin.Dict.updateFrom
 refine wpAny_bind (wpAny_typeOf tl ?_)
 rw [if_pos (by decide)]
 refine wpAny_bind (keys_miss eo hc hda hdd (by show A.handled = none; exact hA) fun h1 tk1 kp => ?_)
 rw [if_pos (show (none:Option Value).isNone = true from rfl)]
 have eo1:=kp _ _ eo
 have hl1:h1.IsList l items:=⟨ol,eo1,hc,k,hda⟩
 have en1:=kp _ _ enew
 have hlS:l < h1.objs.size:=Heap.lt_size eo1
 have hDS:s.heap.objs.size < h1.objs.size:=Heap.lt_size en1
 have lD:l < s.heap.objs.size:=Heap.lt_size ho
 have a1:∀ j,j < items.size→adr j < s.heap.objs.size∧qa j < s.heap.objs.size:=fun j hj => by
  obtain ⟨⟨oj,_,_,hoj,_⟩,oq,hoq,_⟩:=his j hj
  exact ⟨Heap.lt_size hoj,Heap.lt_size hoq⟩
 refine wpAny_bind (wpAny_rule (wpAny_bind (wpAny_pyIter_list hl1 (wpAny_pure ⟨plainId_quiet plain_dict_update_loop _,?_⟩))))
 refine loop_pairs (P:=P) (w:=w) (A:=A.in1) ((Walks.list (by show A.handled = none; exact hA) h1.objs.size l (Nat.ne_of_lt hlS) items).toS) (by show A.units + 1 + 8 < cLine; omega) s.heap.objs.size ?hS val adr qa vv hit hb (fun j hj => ?hA) (items.size - 0) 0 _ (by omega) (Nat.zero_le _) ⟨⟨_,Heap.get?_push_size _ rfl,rfl,rfl⟩,(hl1.push _)⟩ (fun j hj => ?hI) ?hM ?hR
 case hS => simp only [List.mem_cons,List.not_mem_nil,or_false,not_or]; exact ⟨Nat.ne_of_lt hDS,Nat.ne_of_gt lD⟩
 case hA =>
  obtain ⟨z1,z2⟩:=a1 j hj
  simp only [List.mem_cons,List.not_mem_nil,or_false]
  exact ⟨Nat.ne_of_lt (Nat.lt_trans z1 hDS),Nat.ne_of_lt z1,Nat.ne_of_lt (Nat.lt_trans z2 hDS),Nat.ne_of_lt z2⟩
 case hI =>
  obtain ⟨z1,o,e,r⟩:=his j hj
  exact ⟨is_same z1 fun o e => Heap.get?_push_of_some _ (kp _ _ (Heap.get?_push_of_some _ e)),o,Heap.get?_push_of_some _ (kp _ _ (Heap.get?_push_of_some _ e)),r⟩
 case hM => exact ⟨_,#[],0,Heap.get?_push_of_some _ en1,⟨rfl,rfl,rfl⟩,rfl,rfl,(fun x hx => by cases hx),List.nodup_nil⟩
 case hR =>
  intro s' mv m'
  obtain ⟨h',g',d',tk',os'⟩:=s'
  have eg:g' = s.gens:=mv.gens
  have ed:d' = s.drawn:=mv.drawn
  have eo:os' = s.os:=mv.os
  subst eg; subst ed; subst eo
  refine ⟨rfl,q h' tk' (fun b o e => ?_) m'⟩
  refine mv.heap b o ?_ (Heap.get?_push_of_some _ (kp _ _ (Heap.get?_push_of_some _ e)))
  have hb2:b < s.heap.objs.size:=Heap.lt_size e
  simp only [List.mem_cons,List.not_mem_nil,or_false,not_or]; exact ⟨Nat.ne_of_lt hb2,Nat.ne_of_lt (Nat.lt_trans hb2 hDS)⟩
end
end TS
namespace L2
open PySem PySem.Spec PyProof.Rows TS STb
theorem paired_idx {α β:Type} {F:α→β→Prop}:∀ {l:List α} {m:List β},l.length = m.length→(∀ i (h1:i < l.length) (h2:i < m.length),F l[i] m[i])→Paired F l m
 | [],[],_,_ => .nil
 | [],_ :: _,h,_ => by cases h
 | _ :: _,[],h,_ => by cases h
 | a :: l,b :: m,h,f => .cons (f 0 (Nat.succ_pos _) (Nat.succ_pos _)) (paired_idx (by simpa using h) fun i h1 h2 => by
   have:=f (i + 1) (by simpa using h1) (by simpa using h2)
   simpa using this)
theorem accP_new {val:Nat→List Key} {adr:Nat→Addr} {vv:Nat→Value} {n:Nat} (nd:∀ i j,i < j→j < n→val i≠val j):∀ i,i≤n→accP val adr vv i = (List.range i).map fun j => (val j,adr j,vv j)
 | 0,_ => rfl
 | i + 1,h => by
  have ih:=accP_new (adr:=adr) (vv:=vv) nd i (by omega)
  show storedH (accP val adr vv i) (val i) (adr i) (vv i) = _
  have hno:atKey ((List.range i).map fun j => (val j,adr j,vv j)) (val i) = none:=by
   unfold atKey
   rw [Option.map_eq_none_iff,List.find?_eq_none]
   intro x hx z
   obtain ⟨j,hj,rfl⟩:=List.mem_map.mp hx
   exact nd j i (List.mem_range.mp hj) h (of_decide_eq_true z)
  rw [ih,storedH_new hno,List.range_succ,List.map_append]
  rfl
def kvD (kvs:List (List Key × V)) (i:Nat):List Key × V:=kvs.getD i (([]:List Key),V.non)
theorem kvD_at {kvs:List (List Key × V)} {i:Nat} (h:i < kvs.length):kvD kvs i = kvs[i]:=by unfold kvD; rw [List.getD_eq_getElem?_getD,List.getElem?_eq_getElem h]; rfl
section
variable {X:Cx}
theorem call_dictP (hc:X.calm = true) (hu:X.A.units + 64 < cLine):CallR X (.type "dict") (fun xs H Q => ∃ (p:Addr) (qs bs:List Addr) (kvs:List (List Key × V)),xs = [.ref p]∧H p = some (.lst (qs.map V.ref))∧qs.length = kvs.length∧bs.length = kvs.length ∧
  (∀ (i:Nat) (q b:Addr) (kv:List Key × V),qs[i]? = some q→bs[i]? = some b→kvs[i]? = some kv→H q = some (.tup [.ref b,kv.2])∧H b = some (.tup (kv.1.map kV)))∧(kvs.map (·.1)).Nodup∧∀ l,H l = none→Q (.ref l) (upd H l (.dT kvs))):=by
 intro pins s σ H xs us Q I r h
 obtain ⟨p,qs,bs,kvs,rfl,e,hq,hb,hat,nd,q⟩:=h
 obtain ⟨u,rfl,ru⟩:=vals1 r
 cases ru
 obtain ⟨z,its,n,rv,hl,eo⟩:=I.lstM e
 obtain rfl:=refs_of rv
 rw [List.length_map] at z
 have one:∀ i,i < kvs.length→∃ u,s.heap.IsTuple (qs.getD i 0) #[.ref (bs.getD i 0),u]∧RelV (kvD kvs i).2 u∧(tupleKind (mixKind X.prog X.w)).is s.heap (kvD kvs i).1 (bs.getD i 0)∧H (bs.getD i 0) = some (.tup ((kvD kvs i).1.map kV)):=fun i hi => by
  have e1:qs[i]? = some (qs.getD i 0):=by rw [List.getD_eq_getElem?_getD,List.getElem?_eq_getElem (by omega)]; rfl
  have e2:bs[i]? = some (bs.getD i 0):=by rw [List.getD_eq_getElem?_getD,List.getElem?_eq_getElem (by omega)]; rfl
  have e3:kvs[i]? = some (kvD kvs i):=by rw [kvD_at hi,List.getElem?_eq_getElem hi]
  obtain ⟨h1,h2⟩:=hat i _ _ _ e1 e2 e3
  generalize qs.getD i 0 = q0 at h1
  generalize bs.getD i 0 = b0 at h1 h2
  generalize kvD kvs i = kv0 at h1 h2
  obtain ⟨its,r1,p1,_⟩:=I.tuple (SqT.of h1)
  cases r1 with
  | cons rx t => cases t with
   | cons ry t2 => cases t2 with
    | nil =>
     cases rx
     exact ⟨_,p1,ry,key_of I.hok h2,h2⟩
 obtain ⟨vv,hv⟩:∃ vv:Nat→Value,∀ i,i < kvs.length→s.heap.IsTuple (qs.getD i 0) #[.ref (bs.getD i 0),vv i]∧RelV (kvD kvs i).2 (vv i):=by
  classical
  refine ⟨fun i => if h:i < kvs.length then (one i h).choose else .none,fun i hi => ?_⟩
  have:=(one i hi).choose_spec
  simp only [dif_pos hi]
  exact ⟨this.1,this.2.1⟩
 have sz:(qs.map Value.ref).toArray.size = kvs.length:=by simp [hq]
 refine dict_pairs (val:=fun i => (kvD kvs i).1) (adr:=fun i => bs.getD i 0) (qa:=fun i => qs.getD i 0) (vv:=vv) (I.ok.hd hc) (by omega) eo rfl rfl rfl (fun i v hi => ?_) (fun j hj => ?_) (by simpa using z) fun h' tk kp dd => ?_
 ·have:(qs.map Value.ref)[i]? = some v:=by simpa using hi
  rw [List.getElem?_map] at this
  obtain ⟨q',e1,rfl⟩:=Option.map_eq_some_iff.mp this
  rw [List.getD_eq_getElem?_getD,e1]; rfl
 ·rw [sz] at hj
  obtain ⟨_,_,_,h3,_⟩:=one j hj
  exact ⟨h3,(hv j hj).1⟩
 ·rw [sz,accP_new (n:=kvs.length) (fun i j hij hj z => ?_) _ (Nat.le_refl _)] at dd
  ·have fresh:=I.hok.fresh (Nat.le_refl s.heap.objs.size)
   obtain ⟨o,es,ep,g1,g2,g3,g4,g5,g6⟩:=dd
   have big:(s.heap.objs.size == sysModules) = false:=(dt_empty (P:=X.prog) (w:=X.w) (H:=H) s.heap I.big).2.1
   refine ⟨.ref s.heap.objs.size,_,I.laid (a:=s.heap.objs.size) (o:=.dT kvs) (t':=tk) kp (Nat.le_refl _) ⟨by omega,big,_,paired_idx (by simp) fun i h1 h2 => ?_,o,es,ep,g1,g2,g3,g4,g6⟩,rfl,q _ fresh⟩
   obtain ⟨_,_,_,_,h4⟩:=one i h1
   have e3:kvD kvs i = kvs[i]:=kvD_at h1
   have h5:=(hv i h1).2
   rw [e3] at h4 h5
   rw [List.getElem_map,List.getElem_range]
   refine ⟨by rw [e3],?_,h5⟩
   rw [upd_ne (ne_of_none h4 fresh)]
   exact h4
  ·have hi:i < kvs.length:=by omega
   rw [kvD_at hi,kvD_at hj] at z
   have:=List.pairwise_iff_getElem.mp nd i j (by simpa using hi) (by simpa using hj) hij
   simp at this
   exact this z
end
end L2
namespace L2
open PySem PySem.Spec PyProof.Rows
end L2
namespace L2
open PySem PySem.Spec PyProof.Rows
section
variable {X:Cx} {P:Program} {w:World} {o i:Expr} {pos:Pos} {td ty:TE}
theorem pe_dgetXK (hP:X.prog = P) (hw:X.w = w) (hu:X.A.units + 1 < cLine) (ho:PE X o td) (hi:PE X i ty) (hs:NoSl i):PE X (.Subscript o i pos) (xDGet P w td ty):=by subst hP hw; exact pe_dgetX hu ho hi hs
theorem pc_dinXK (hP:X.prog = P) (hw:X.w = w) (hu:X.A.units + 1 < cLine) (hi:PE X i ty) (ho:PE X o td):PC X .In i o (xDIn P w ty td):=by subst hP hw; exact pc_dinX hu hi ho
theorem pc_dnotinXK (hP:X.prog = P) (hw:X.w = w) (hu:X.A.units + 1 < cLine) (hi:PE X i ty) (ho:PE X o td):PC X .NotIn i o (xDNotIn P w ty td):=by subst hP hw; exact pc_dnotinX hu hi ho
end
end L2
namespace L2
open PySem PySem.Spec PyProof.Rows
def FunE (f:Addr) (name qual:Str) (params:Arguments) (body:List Stmt) (scope:Scope) (cl:List (Str × Addr)) (c:Addr):HO :=
 .ext fun h => ∃ doc pm ct,h.get? f = some (PySem.W.fnMade name qual params body scope cl doc pm c ct)
theorem funE_ok {Pr:Program} {w:World} {H:Hp} {h:Heap} {f c:Addr} {name qual:Str} {params:Arguments} {body:List Stmt} {scope:Scope} {cl:List (Str × Addr)} {doc pm ct:Value} (e:h.get? f = some (PySem.W.fnMade name qual params body scope cl doc pm c ct)):ObjOk Pr w H h f (FunE f name qual params body scope cl c) :=
 ⟨⟨doc,pm,ct,e⟩,⟨_,e⟩,fun h1 h2 ⟨doc,pm,ct,z⟩ k => ⟨doc,pm,ct,k _ z⟩⟩
theorem codeAmong_other {pos pos':Pos} {c:Value} (ne:pos'.line≠pos.line∨pos'.col≠pos.col) (l:List Value) (h:TriplesOk l) :
  codeAmong pos' (l ++ [rawInt pos.line,rawInt pos.col,c]) = codeAmong pos' l:=by
 fun_induction TriplesOk l with
 | case1 =>
  have:¬ (((pos.line:Int) == (pos'.line:Int)) && ((pos.col:Int) == (pos'.col:Int))) = true:=by
   simp only [Bool.and_eq_true,beq_iff_eq,not_and]
   intro e e2
   omega
  simp only [List.nil_append,codeAmong,rawInt]
  rw [if_neg this]
 | case2 a t b u x rest ih =>
  simp only [List.cons_append,codeAmong]
  split
  ·rfl
  ·exact ih h
 | case3 l h1 h2 => exact h.elim
def sDef (i:Nat) (P:Addr) (name qual:Str) (params:Arguments) (body:List Stmt) (scope:Scope) (cl:List (Str × Addr)) (pos:Pos):TS:=fun D σ H =>
 Tbl H P pos qual∧∀ c f H',OffP P H H'→Tbl H' P pos qual→(∀ pos' q,(pos'.line≠pos.line∨pos'.col≠pos.col)→Tbl H P pos' q→Tbl H' P pos' q)→H f = none→H' f = some (FunE f name qual params body scope cl c)→H' c = some (CodeE c qual)→D.nx (σ.set i (some (.ref f))) H'
section
variable {X:Cx} {name:Str} {params:Arguments} {body:List Stmt} {scope:Scope} {pos:Pos} {cl:List (Str × Addr)} {c0 P:Addr} {i:Nat}
theorem ps_def (hN:X.N.Nodup) (hi:X.N[i]? = some name) (hx:Loc X.env.scope name) (hd0:params.defaults = []) (hk0:params.kw_defaults = []) (ha:annTrees params none X.env = []) (hcl:closureFor scope X.env = pure cl) (hcode:X.env.code = .ref c0) (C:PySem.W.codeHdIn X.K c0 P = true) (hB:BMod X.mg X.base)
  (hf:X.fn name = true∨X.env.scope.names.lookup name = some .local:=by first | exact .inl rfl | exact .inr rfl | assumption) :
  PS X (.FunctionDef name params body [] none [] scope none name pos) (sDef i P name (qualnameIn X.env name name) params body scope cl pos):=by
 intro pins s σ H D I h
 obtain ⟨⟨ps,hP,ht,hcase⟩,q⟩:=h
 refine PySem.W.nestDef_K hd0 hk0 ha ?_
 have hg:s.heap.Ns mainGlobals X.mg:=I.mod.glob.keeps I.bk
 have CH:PySem.W.CodeHd s.heap c0 P:=PySem.W.codeHd_of_K I.kIn C
 have hPo:s.heap.get? P = some (PySem.W.tabObj ps):=I.hok P _ hP
 have inb:∀ b o,X.base.get? b = some o→b≠P:=fun b o e z => by
  have:=(I.bs b o e).2
  rw [z,hP] at this; cases this
 obtain ⟨bm,ob,b1,b2,b3,b4,b5,b6⟩:=hB
 have hgP:mainGlobals≠P:=by
  obtain ⟨o,es,ep,e,_⟩:=I.mod.glob
  exact inb _ _ e
 have hne:bm≠mainGlobals:=fun z => by
  obtain ⟨o,es,ep,e,hd,_⟩:=I.mod.glob
  rw [z,e] at b3; cases b3; rw [hd] at b6; cases b6
 have hb:s.heap.BuiltinsAt X.mg P:=⟨bm,ob,b1,b2,hne,inb _ _ b3,I.bk _ _ b3,b4,b5,b6⟩
 generalize hq:qualnameIn X.env name name = qual at q ⊢ hcase
 rcases hcase with hnf | ⟨c,hf',hc⟩
 ·refine PySem.W.makeFunction_K (mg:=X.mg) hcl I.ok.glob hg hcode CH hPo ht hnf hgP hb fun c ctv doc h' tk hx' hge hlt hrec htb => ?_
  have hfn:H h'.objs.size = none:=I.hok.fresh (Nat.le_trans hge (Nat.le_of_lt hlt))
  have hcn:H c = none:=I.hok.fresh hge
  have ncP:c≠P:=fun z => by rw [z,hP] at hcn; cases hcn
  have nfP:h'.objs.size≠P:=fun z => by rw [z,hP] at hfn; cases hfn
  have nfc:h'.objs.size≠c:=Nat.ne_of_gt hlt
  generalize hps:ps ++ #[rawInt pos.line,rawInt pos.col,.ref c] = ps2 at htb
  generalize hH:upd (upd (upd H P (.tbl ps2)) c (CodeE c qual)) h'.objs.size (FunE h'.objs.size name qual params body scope cl c) = H2
  have e1:H2 h'.objs.size = some (FunE h'.objs.size name qual params body scope cl c):=by rw [← hH,upd_same]
  have e2:H2 c = some (CodeE c qual):=by rw [← hH,upd_ne (Ne.symm nfc),upd_same]
  have e3:H2 P = some (.tbl ps2):=by rw [← hH,upd_ne (Ne.symm nfP),upd_ne (Ne.symm ncP),upd_same]
  have e4:∀ b,b≠P→b≠c→b≠h'.objs.size→H2 b = H b:=fun b n1 n2 n3 => by rw [← hH,upd_ne n3,upd_ne n2,upd_ne n1]
  have off:OffP P H H2:=fun b u n e => by rw [e4 b n (ne_of_none e hcn) (ne_of_none e hfn)]; exact e
  have kp:∀ b o,b≠P→s.heap.get? b = some o→(h'.push (PySem.W.fnMade name qual params body scope cl doc ((X.mg "__name__").getD .none) c ctv)).get? b = some o:=fun b o n e => Heap.get?_push_of_some _ (hx' b o n e)
  have low:∀ b o,s.heap.get? b = some o→b≠c∧b≠h'.objs.size:=fun b o e => ⟨Nat.ne_of_lt (Nat.lt_of_lt_of_le (Heap.lt_size e) hge),Nat.ne_of_lt (Nat.lt_trans (Nat.lt_of_lt_of_le (Heap.lt_size e) hge) hlt)⟩
  have un:Un X.fs [] H H2 s.heap (h'.push (PySem.W.fnMade name qual params body scope cl doc ((X.mg "__name__").getD .none) c ctv)):=by
   refine ⟨fun b o e n _ _ => kp b o (fun z => by rw [z,hP] at n; cases n) e,fun b o e n _ _ => ⟨o.slots,kp b o (fun z => by rw [z,hP] at n; cases n) e⟩,fun b o e n _ => ?_,fun b o e _ => ?_,fun b xs e => off b _ (fun z => by rw [z,hP] at e; cases e) e,fun b o u e => off b _ (fun z => by rw [z,hP] at e; cases e) e,fun b qs e => ?_⟩
   ·rw [e4 b (fun z => by rw [z,hP] at n; cases n) (low b o e).1 (low b o e).2]; exact n
   ·by_cases z:b = P
    ·exact ⟨_,Heap.get?_push_of_some _ (z▸htb)⟩
    ·exact ⟨o,kp b o z e⟩
   ·by_cases z:b = P
    ·rw [z,hP] at e; cases e
     exact ⟨#[rawInt pos.line,rawInt pos.col,.ref c],by rw [z,e3,hps]⟩
    ·exact ⟨#[],by rw [off b _ z e]; simp⟩
  have hok:HOk X.prog X.w H2 (h'.push (PySem.W.fnMade name qual params body scope cl doc ((X.mg "__name__").getD .none) c ctv)):=fun b o e => by
   by_cases z1:b = h'.objs.size
   ·subst z1
    rw [e1] at e; cases e
    exact funE_ok (Heap.get?_push_size _ rfl)
   ·by_cases z2:b = c
    ·subst z2
     rw [e2] at e; cases e
     exact codeE_ok (hrec.push _)
    ·by_cases z3:b = P
     ·subst z3
      rw [e3] at e; cases e
      exact (show _ = _ from Heap.get?_push_of_some _ htb)
     ·rw [e4 b z3 z2 z1] at e
      refine (I.hok b o e).stay (fun d u hd g => kp d u (fun z => ?_) g) (fun d g => off d _ (fun z => by rw [z,hP] at g; cases g) g) fun d xs g => off d _ (fun z => by rw [z,hP] at g; cases g) g
      rcases hd with w1 | w1
      ·exact z3 (w1▸z)
      ·rw [z,hP] at w1; cases w1
  have tl:(ps ++ #[rawInt pos.line,rawInt pos.col,Value.ref c]).toList = ps.toList ++ [rawInt pos.line,rawInt pos.col,.ref c]:=by simp
  have J:=I.un (t':=tk) un hok
  refine store_ok J hN hi hx (v:=.ref h'.objs.size) rfl (fun s2 I2 => ⟨_,H2,I2,q c _ H2 off ⟨ps2,e3,?_,.inr ⟨c,?_,e2⟩⟩ (fun pos' q' ne tb => ?_) hfn e1 e2⟩) hf
  ·rw [← hps,tl]; exact TriplesOk_snoc _ _ _ _ ht
  ·rw [← hps,tl]; exact codeAmong_snoc _ ht hnf
  ·obtain ⟨qs,eq,tr,kk⟩:=tb
   rw [hP] at eq; cases eq
   refine ⟨ps2,e3,by rw [← hps,tl]; exact TriplesOk_snoc _ _ _ _ ht,?_⟩
   rw [← hps,tl,codeAmong_other ne _ ht]
   rcases kk with k | ⟨c',k,hc'⟩
   ·exact .inl k
   ·exact .inr ⟨c',k,off _ _ (fun z => by rw [z,hP] at hc'; cases hc') hc'⟩
 ·refine PySem.W.makeFunction_hit (mg:=X.mg) hcl I.ok.glob hg hcode CH hPo ht hf' hb fun ctv doc h' tk hk hsz => ?_
  have hfn:H h'.objs.size = none:=I.hok.fresh hsz
  have nf:∀ {b:Addr} {u:HO},H b = some u→b≠h'.objs.size:=fun e => ne_of_none e hfn
  have J:=I.laid (a:=h'.objs.size) (o:=FunE h'.objs.size name qual params body scope cl c) (t':=tk) (h':=h'.push (PySem.W.fnMade name qual params body scope cl doc ((X.mg "__name__").getD .none) c ctv))
   (fun b u e => Heap.get?_push_of_some _ (hk b u e)) hsz (funE_ok (Heap.get?_push_size _ rfl))
  have sm:Same H (upd H h'.objs.size (FunE h'.objs.size name qual params body scope cl c)):=fun b u e => by rw [upd_ne (nf e)]; exact e
  refine store_ok J hN hi hx (v:=.ref h'.objs.size) rfl (fun s2 I2 => ⟨_,_,I2,q c _ _ (fun b u _ e => sm b u e) ⟨ps,sm _ _ hP,ht,.inr ⟨c,hf',sm _ _ hc⟩⟩ (fun pos' q' _ tb => tb.same sm) hfn upd_same (sm _ _ hc)⟩) hf
end
end L2
namespace L2
open PySem PySem.Spec PyProof.Rows
def unfA (H:Hp) (as:List Addr):Hp:=fun b => if b∈as then none else H b
theorem unfA_ne {H:Hp} {as:List Addr} {b:Addr} (n:b ∉ as):unfA H as b = H b:=if_neg n
theorem unfA_in {H:Hp} {as:List Addr} {b:Addr} (n:b∈as):unfA H as b = none:=if_pos n
section
variable {X:Cx} {k:Nat} {f:Addr} {fd:FuncData} {ps:List Str} {sp:Sp} {x:Str} {p pos:Pos} {e:Expr} {es:List Expr} {t:TA} {cs:List (Nat × Str × Addr)}
structure CellsOf (X:Cx) (cs:List (Nat × Str × Addr)):Prop where
 ok:∀ y∈cs,X.N[y.1]? = some y.2.1∧X.env.scope.names.lookup y.2.1 = some .cell∧X.env.cells.lookup y.2.1 = some y.2.2∧X.fn y.2.1 = true
theorem run_fnA {pins:List (Addr × Obj)} {σ:St} {H:Hp} {s:Shared} {Q:VK} {us:List Value} {vs cvs:List V} {cm:Bool} (F:FnOk X.prog X.w X.K X.mg X.base (XC X.prog X.w) k f fd ps sp cm) (hr:RoomC cm k X.A) (hb:Binds X.K fd ps [])
  (I:Inv X pins σ H s) (r:Vals vs us) (C:CellsOf X cs) (hv:Paired (fun (y:Nat × Str × Addr) v => σ[y.1]? = some (some v)) cs cvs)
  (h:(∀ y∈cs,H y.2.2 = none)→∀ H1,(∀ b,b ∉ cs.map (·.2.2)→H1 b = H b)→Paired (fun (y:Nat × Str × Addr) v => FrzC H1 y.2.2 v) cs cvs→sp vs H1 (fun r H' => Q r (unfA H' (cs.map (·.2.2)))) (fun _ _ _ => False)):wpAny (model X.prog X.w) X.A (call (.ref f) us) (EP X pins σ Q) X.xe s:=by
 obtain ⟨mm,hn,hl⟩:=I.loc
 have cell:∀ (j:Nat) y v,cs[j]? = some y→cvs[j]? = some v→∃ oc,s.heap.get? y.2.2 = some oc∧CellO oc v:=fun j y v e1 e2 => by
  obtain ⟨hi,hy,hc,_⟩:=C.ok y (List.mem_of_getElem? e1)
  obtain ⟨v',e3,hv'⟩:=paired_get hv e1
  rw [e2] at e3; cases e3
  obtain ⟨u,ru,l⟩:=hl _ _ v hi hv' (.inr (.inl hy))
  rcases l with ⟨z,_⟩ | ⟨_,c',hc',z⟩
  ·have z':X.env.scope.names.lookup y.2.1 = some .local:=z
   rw [hy] at z'; cases z'
  ·rw [hc] at hc'; cases hc'
   obtain ⟨oc,h1,h2⟩:=z
   exact ⟨oc,h1,u,ru,h2⟩
 have lenC:cs.length = cvs.length:=Paired.length hv
 have inC:∀ b∈cs.map (·.2.2),H b = none∧(∃ oc,s.heap.get? b = some oc)∧(∀ d o,X.s₀.heap.get? d = some o→d≠b)∧∀ d∈frs X.stack,d≠b:=fun b hb => by
  obtain ⟨y,hy,rfl⟩:=List.mem_map.mp hb
  obtain ⟨j,hj,e⟩:=List.getElem_of_mem hy
  obtain ⟨hi,hy',hc,hfn⟩:=C.ok y hy
  obtain ⟨oc,h1,_⟩:=cell j y _ (by rw [List.getElem?_eq_getElem hj,e]) (List.getElem?_eq_getElem (by omega))
  have cfs:∀ d o,X.s₀.heap.get? d = some o→d≠y.2.2:=fun d o e => Nat.ne_of_lt (Nat.lt_of_lt_of_le (Heap.lt_size e) (I.ok.cab y.2.1 y.2.2 hfn hc))
  refine ⟨I.freeC _ _ hc,⟨oc,h1⟩,cfs,fun d hd => ?_⟩
  rcases List.mem_cons.mp (I.stkSub d hd) with z | z
  ·rw [z]; exact Ne.symm (I.cne _ _ hc)
  ·obtain ⟨_,o,ho,_⟩:=I.ok.funs.mem z
   exact cfs d o ho
 have none_ne:∀ {b:Addr} {u:HO},H b = some u→b ∉ cs.map (·.2.2):=fun e hb => by rw [(inC _ hb).1] at e; cases e
 generalize hA:cs.map (·.2.2) = as at inC none_ne h
 generalize hH1:(fun b => if b∈as then (s.heap.get? b).map (FrzO b) else H b:Hp) = H1
 have e1:∀ b,b ∉ as→H1 b = H b:=fun b n => by rw [← hH1]; exact if_neg n
 have e2:∀ b∈as,∀ o,s.heap.get? b = some o→H1 b = some (FrzO b o):=fun b n o e => by rw [← hH1]; show (if b∈as then _ else _) = _; rw [if_pos n,e]; rfl
 have q:=h (fun y hy => (inC y.2.2 (hA▸List.mem_map.mpr ⟨y,hy,rfl⟩)).1) H1 e1 (by
  refine paired_idx lenC fun i h1 h2 => ?_
  obtain ⟨oc,g1,g2⟩:=cell i _ _ (List.getElem?_eq_getElem h1) (List.getElem?_eq_getElem h2)
  exact ⟨oc,e2 _ (hA▸List.mem_map.mpr ⟨_,List.getElem_mem h1,rfl⟩) _ g1,g2⟩)
 have hok1:HOk X.prog X.w H1 s.heap:=fun b o e => by
  by_cases hb:b∈as
  ·obtain ⟨_,⟨oc,hoc⟩,_⟩:=inC b hb
   rw [e2 b hb oc hoc] at e; cases e
   exact ⟨hoc,hoc,⟨_,hoc⟩,fun h1 h2 a k => k _ a⟩
  ·rw [e1 b hb] at e
   exact (I.hok b o e).stay (fun _ _ _ q => q) (fun d g => by rw [e1 d (none_ne g)]; exact g) fun d xs g => by rw [e1 d (none_ne g)]; exact g
 have nb:∀ b∈frs X.stack,b ∉ as:=fun b hb z => (inC b z).2.2.2 b hb rfl
 have e0:Env0 X.prog X.w X.K X.mg X.base X.A X.stack s H1 :=
  ⟨I.ok.frames,I.ok.mod,fun b o e => ⟨(I.bs b o e).1,by rw [e1 b fun z => (inC b z).2.2.1 b o (I.ok.bs b o e).1 rfl]; exact (I.bs b o e).2⟩,Nat.le_trans I.ok.bsz I.sz,I.stack,fun b hb => by rw [e1 b (nb b hb)]; exact I.stkFree b hb,hok1,I.bare,
   I.hn.mono fun b o u e => by rw [e1 b (none_ne e)]; exact e⟩
 have hl':(us ++ []).length = ps.length:=by rw [List.append_nil,← r.length]; exact F.len _ _ _ _ q
 have hb':=hb s us I.kIn hl'
 rw [List.append_nil] at hb'
 refine wpAny_call (codeAny_mono (F.run X.A X.stack s _ ⟨us,[]⟩ us vs _ _ hr e0 hb' r q) fun r s' hq => ?_)
 cases r with
 | error e =>
  obtain ⟨_,_,_,_,_,_,_,_,_,z⟩:=hq
  exact z.elim
 | ok fl =>
  cases fl with
  | next => exact False.elim hq
  | brk => exact False.elim hq
  | cont => exact False.elim hq
  | ret u =>
   obtain ⟨v',H',os,bare,un,hok',rv,q'⟩:=hq
   have zc:∀ b∈as,∀ o,s.heap.get? b = some o→H' b = some (FrzO b o):=fun b hb o e => un.frzs b o _ (e2 b hb o e)
   have nf:∀ {b:Addr} {w:HO},H' b = some w→(∀ o u,w≠.frz o u)→b ∉ as:=fun {b w} e n z => by
    obtain ⟨_,⟨oc,hoc⟩,_⟩:=inC b z
    rw [zc b z oc hoc] at e; exact n _ _ (Option.some.inj e).symm
   have un2:Un (frs X.stack) [] H (unfA H' as) s.heap s'.heap:=by
    refine ⟨fun b o e n hb hx => ?_,fun b o e n hb hx => un.slot b o e (by rw [e1 b (nb b hb)]; exact n) hb hx,fun b o e n hx => ?_,fun b o e hx => un.there b o e hx,fun b xs e => ?_,fun b o w e => ?_,fun b qs e => ?_⟩
    ·by_cases z:b∈as
     ·exact (hok' b _ (zc b z o e)).1
     ·exact un.keep b o e (by rw [e1 b z]; exact n) hb hx
    ·by_cases z:b∈as
     ·rw [unfA_in z]
     ·rw [unfA_ne z]; exact un.free b o e (by rw [e1 b z]; exact n) hx
    ·have z:=none_ne e
     rw [unfA_ne z]; exact un.tups b xs (by rw [e1 b z]; exact e)
    ·have z:=none_ne e
     rw [unfA_ne z]; exact un.frzs b o w (by rw [e1 b z]; exact e)
    ·have z:=none_ne e
     rw [unfA_ne z]; exact un.tbls b qs (by rw [e1 b z]; exact e)
   have hok2:HOk X.prog X.w (unfA H' as) s'.heap:=fun b o e => by
    by_cases z:b∈as
    ·rw [unfA_in z] at e; cases e
    ·rw [unfA_ne z] at e
     exact (hok' b o e).stay (fun _ _ _ g => g) (fun d g => by rw [unfA_ne (nf g (by intro o u z; cases z))]; exact g) fun d xs g => by rw [unfA_ne (nf g (by intro o u z; cases z))]; exact g
   exact ⟨v',_,I.call' (ch:=[]) os un2 hok2 bare (fun b z => absurd z (by simp)),rv,q'⟩
def tCallA (sp:Sp) (cs:List (Nat × Str × Addr)) (t:TA):TE:=fun σ H Q => t σ H fun vs H2 => ∃ cvs,Paired (fun (y:Nat × Str × Addr) v => σ[y.1]? = some (some v)) cs cvs ∧
 ((∀ y∈cs,H2 y.2.2 = none)→∀ H1,(∀ b,b ∉ cs.map (·.2.2)→H1 b = H2 b)→Paired (fun (y:Nat × Str × Addr) v => FrzC H1 y.2.2 v) cs cvs→sp vs H1 (fun r H' => Q r (unfA H' (cs.map (·.2.2)))) (fun _ _ _ => False))
theorem pe_callA {cm:Bool} (G:GoodF X.prog X.w X.K X.mg X.base k x ps sp cm) (hr:RoomC cm k X.A) (hg:Gl X x) (C:CellsOf X cs) (ha:PA X (e :: es) t)
  (hdb:(x == ("__debug__":Str)) = false:=by decide) (he:starEach (e :: es) X.env = (false,eval e X.env) :: starEach es X.env:=by rfl) (hpl:(backTo pos (starEach es X.env)).any (·.1) = false:=by rfl) :
  PE X (.Call (.Name x p) (e :: es) [] pos) (tCallA sp cs t):=by
 obtain ⟨f,fd,F,b,kp,mgx⟩:=G.ex
 intro pins s σ H Q I h
 refine wpAny_Call_Name_kw (ld_glob I hg mgx ?_ hdb)
 refine PySem.W.callWith_K (first:=[]) (h₀:=X.base) I.ok.mod.kin kp (thn (ha pos pins s σ H _ I h) fun us s2 ⟨vs,H2,I2,r,cvs,hv,q2⟩ => ⟨I2.kIn,?_⟩) he hpl
 exact run_fnA (us:=us) F hr b I2 r C hv q2
def FnU (H:Hp) (f:Addr):Prop:=∃ name qual params body scope cl c,H f = some (FunE f name qual params body scope cl c)
theorem FnU.at {P:Program} {w:World} {H:Hp} {h:Heap} {f:Addr} (x:FnU H f) (ok:HOk P w H h):PySem.W.FnAt f h:=by
 obtain ⟨name,qual,params,body,scope,cl,c,e⟩:=x
 obtain ⟨⟨doc,pm,ct,z⟩,_⟩:=ok _ _ e
 exact ⟨_,_,_,_,z⟩
def tCallU (P:Program) (w:World) (K:PySem.W.Frag) (mg:Str→Option Value) (base:Heap) (k:Nat) (ta:TE) (t:TA):TE:=fun σ H Q => ta σ H fun x H1 => ∃ f,x = .ref f∧FnU H1 f∧t σ H1 fun vs H2 => FnU H2 f ∧
 ∃ sp,Calls P w K mg base k f sp∧sp vs H2 Q (fun _ _ _ => False)
theorem pe_callU {P:Program} {w:World} {K:PySem.W.Frag} {mg:Str→Option Value} {base:Heap} {ta:TE} (e1:X.prog = P) (e2:X.w = w) (e3:X.K = K) (e4:X.mg = mg) (e5:X.base = base) (hf:PE X (.Name x p) ta) (hr:Room k X.A) (ha:PA X (e :: es) t)
  (he:starEach (e :: es) X.env = (false,eval e X.env) :: starEach es X.env:=by rfl) (hpl:(backTo pos (starEach es X.env)).any (·.1) = false:=by rfl) :
  PE X (.Call (.Name x p) (e :: es) [] pos) (tCallU P w K mg base k ta t):=by
 subst e1 e2 e3 e4 e5
 intro pins s σ H Q I h
 refine wpAny_Call_Name_kw (thn (hf pins s σ H _ I h) fun u s1 hh => ?_)
 obtain ⟨v,H1,I1,rv,f,ev,hF,q⟩:=hh
 subst ev
 obtain rfl:u = Value.ref f:=rv
 refine PySem.W.callWith_F (first:=[]) (hF.at I1.hok) (thn (ha pos pins s1 σ H1 _ I1 q) fun us s2 ⟨vs,H2,I2,r,hF2,sp,C,q2⟩ => ⟨hF2.at I2.hok,?_⟩) he hpl
 refine wpAny_call (codeAny_mono (C X.A X.stack s2 H2 us vs Q hr I2.env0 r q2) fun r s' hq => ?_)
 cases r with
 | error e =>
  obtain ⟨_,_,_,_,_,_,_,_,_,z⟩:=hq
  exact z.elim
 | ok fl =>
  cases fl with
  | ret u => exact I2.after hq
  | next => exact False.elim hq
  | brk => exact False.elim hq
  | cont => exact False.elim hq
end
section
variable {P:Program} {w:World} {K:PySem.W.Frag} {mg:Str→Option Value} {base:Heap} {N ps:List Str} {name qual:Str} {params:Arguments} {body:List Stmt} {scope:Scope} {cl:List (Str × Addr)} {cvs:List V} {f c:Addr} {k:Nat}
 {A:Around} {outer:List Env} {s:Shared} {H:Hp} {us:List Value} {vs:List V} {Q:VK} {E:XK}
theorem fun_call (S:LamScope N ps scope cl) (hb:∀ (doc pm ct:Value) (us:List Value),us.length = ps.length→bindArgs (PySem.W.fnX name qual params body scope cl .none .none doc pm none (.ref c) ct) ⟨us,[]⟩ = pure (ps.zip us))
  (hr:Room (k + 1) A) (e0:Env0 P w K mg base A outer s H) (r:Vals vs us) (hl:vs.length = ps.length) (hf:H f = some (FunE f name qual params body scope cl c)) (hc:H c = some (CodeE c qual))
  (hcs:Paired (fun (p:Str × Addr) v => FrzC H p.2 v) cl cvs)
  (hbody:Room k (A.deeper (PySem.W.envX qual scope s.heap.objs.size f (.ref c) cl))→∃ ts,PSs (cxL P w K mg base N qual scope f c cl A outer s (unfs H cl)) body ts ∧
   ts { nx:=fun _ _ => False,rt:=fun r H' => (∀ p∈cl,H' p.2 = none)→Q r (refs H H' cl) } (vs.map some ++ cvs.map some) (unfs H cl)) :
  codeAny (model P w) A (.call (.ref f) ⟨us,[]⟩) (CR (XC P w) outer P w H s Q E) s:=by
 obtain ⟨⟨doc,pm,ct,ho⟩,_⟩:=e0.hok f _ hf
 have hcd:s.heap.CodeRec (.ref c) qual:=(e0.hok c _ hc).1
 have lim:s.heap.NoLimit:=e0.mod.nolimit.keeps fun b o e => (e0.bs b o e).1
 have frz:∀ b∈cl.map (·.2),∃ ob u,H b = some (FrzO b ob)∧s.heap.get? b = some ob∧ob.data = .cell (some u):=fun b hb => by
  obtain ⟨p,hp,rfl⟩:=List.mem_map.mp hb
  obtain ⟨i,hi,e⟩:=List.getElem_of_mem hp
  obtain ⟨v,_,ob,e1,u,_,e2⟩:=paired_get (i:=i) (a:=p) hcs (by rw [List.getElem?_eq_getElem hi,e])
  exact ⟨ob,u,e1,(e0.hok _ _ e1).1,e2⟩
 have nin:∀ {b:Addr},H b = none→b ∉ cl.map (·.2):=fun n hb => by
  obtain ⟨_,_,e,_⟩:=frz _ hb
  rw [n] at e; cases e
 have nin2:∀ {b:Addr} {u:HO},H b = some u→(∀ o z,u≠.frz o z)→b ∉ cl.map (·.2):=fun e n hb => by
  obtain ⟨_,_,e',_⟩:=frz _ hb
  rw [e] at e'; exact n _ _ (Option.some.inj e')
 have e1:Env0 P w K mg base A outer s (unfs H cl):=by
  refine ⟨e0.frames,e0.mod,fun b o e => ⟨(e0.bs b o e).1,?_⟩,e0.bsz,e0.funs,fun b hb => ?_,fun b o e => ?_,e0.bare,.inl (hr.hd rfl)⟩
  ·have n:=(e0.bs b o e).2
   rw [unfs_ne (nin n)]; exact n
  ·have n:=e0.frf b hb
   rw [unfs_ne (nin n)]; exact n
  ·by_cases z:b∈cl.map (·.2)
   ·rw [unfs_in z] at e; cases e
   ·rw [unfs_ne z] at e
    exact (e0.hok b o e).stay (fun _ _ _ q => q) (fun d g => by rw [unfs_ne (nin2 g (by intro o u z; cases z))]; exact g) fun d xs g => by rw [unfs_ne (nin2 g (by intro o u z; cases z))]; exact g
 have hlu:us.length = ps.length:=by rw [← r.length]; exact hl
 refine codeAny_call_def (fd:=PySem.W.fnX name qual params body scope cl .none .none doc pm none (.ref c) ct) (body:=body) (binds:=ps.zip us) hr.depth ho rfl lim hcd rfl (.of_eq (hb doc pm ct us hlu)) S.nocell (fun y hy => S.par _ (List.of_mem_zip hy).1) (fun h₁ hns hk₁ => ?_) S.co S.gen S.kind
 obtain ⟨ts,ht,hq⟩:=hbody (hr.deeper _)
 have hcl:∀ x d,cl.lookup x = some d→d∈cl.map (·.2):=fun x d e => List.mem_map.mpr ⟨_,lookup_mem e,rfl⟩
 have kof:∀ x,(PySem.W.envX qual scope s.heap.objs.size f (.ref c) cl).kindOf x = scope.names.lookup x:=fun _ => rfl
 have I:Inv (cxL P w K mg base N qual scope f c cl A outer s (unfs H cl)) [] (vs.map some ++ cvs.map some) (unfs H cl) { s with heap:=h₁,toks:=s.toks + (ps.zip us).length }:=by
  have noA:∀ b:Addr,b ∉ (cxL P w K mg base N qual scope f c cl A outer s (unfs H cl)).ex:=fun b z => absurd (show b∈([]:List Addr) from z) (by simp)
  refine ⟨⟨e1.mod,S.kind,rfl,rfl,Nat.le_refl _,S.inj,fun x hx => S.has x ?_,fun x d z => (by cases z),fun _ => hr.hd rfl,Around.frames_deeper e1.frames,.inr ⟨rfl,rfl⟩,fun b z => absurd z (noA b),e1.bs,e1.bsz,fun b _ _ => noA b,fun b z => absurd z (noA b),e1.funs,e1.frf⟩,
   rfl,e1.bare,Un.kept hk₁,⟨_,hns,fun i x v h1 h2 h3 => ?_⟩,fun x d e => ?_,e1.hok.fresh (Nat.le_refl _),fun x d e => unfs_in (hcl x d e),fun p hp => absurd (show p∈([]:List (Addr × Obj)) from hp) (by simp),e1.hok.kept hk₁,?_,e1.hn⟩
  ·rcases hx with z | z
   ·exact absurd rfl (S.nocell _ (lookup_mem (show scope.names.lookup x = some .cell from z)))
   ·exact z
  ·have h1':(ps ++ cl.map (·.1))[i]? = some x:=by rw [← S.N]; exact h1
   by_cases hi:i < vs.length
   ·rw [List.getElem?_append_left (by rw [List.length_map]; exact hi),List.getElem?_map] at h2
    cases ev:vs[i]? with
    | none => rw [ev] at h2; cases h2
    | some v' =>
     rw [ev] at h2; cases h2
     obtain ⟨u,hu,rv⟩:=r.get ev
     rw [List.getElem?_append_left (by omega)] at h1'
     exact ⟨u,rv,.inl ⟨S.par x (List.mem_of_getElem? h1'),zip_rev_lookup S.nd h1' hu⟩⟩
   ·rw [List.getElem?_append_right (by rw [List.length_map]; omega),List.getElem?_map,List.length_map] at h2
    rw [List.getElem?_append_right (by omega),List.getElem?_map,← hl] at h1'
    obtain ⟨p,ep,rfl⟩:=Option.map_eq_some_iff.mp h1'
    obtain ⟨v',ev,ob,g1,u,g2,g3⟩:=paired_get hcs ep
    rw [ev] at h2; cases h2
    obtain ⟨k1,k2⟩:=S.fre p (List.mem_of_getElem? ep)
    exact ⟨u,g2,.inr ⟨.inr k1,p.2,k2,ob,hk₁ _ _ (e0.hok _ _ g1).1,g3⟩⟩
  ·obtain ⟨ob,u,_,g,d2⟩:=frz d (hcl x d e)
   exact ⟨_,ob,hk₁ _ _ g,d2⟩
  ·show (vs.map some ++ cvs.map some).length = N.length
   have lc:cl.length = cvs.length:=Paired.length hcs
   rw [S.N,List.length_append,List.length_append,List.length_map,List.length_map,List.length_map,hl,lc]
 refine wpAny_mono (ht [] _ _ _ _ I hq) (fun fl s' hs => ?_) fun _ _ z => z.elim
 cases fl with
 | next => obtain ⟨_,_,_,z⟩:=hs; exact z.elim
 | brk => obtain ⟨_,_,_,z⟩:=hs; exact z.elim
 | cont => obtain ⟨_,_,_,z⟩:=hs; exact z.elim
 | ret u =>
  obtain ⟨v,σ',H',J,rv,q⟩:=hs
  have jc:∀ b∈cl.map (·.2),H' b = none:=fun b hb => by
   obtain ⟨p,hp,rfl⟩:=List.mem_map.mp hb
   exact J.freeC p.1 p.2 (S.fre p hp).2
  have jb:Un (frs outer) [] (unfs H cl) H' s.heap s'.heap:=J.base
  have nj:∀ {b:Addr} {u:HO},H' b = some u→b ∉ cl.map (·.2):=fun e hb => by rw [jc _ hb] at e; cases e
  refine ⟨v,refs H H' cl,J.os,J.bare,?_,fun b o e => ?_,rv,q fun p hp => jc _ (List.mem_map_of_mem hp)⟩
  ·refine ⟨fun b o e n hb hx => jb.keep b o e (by rw [unfs_ne (nin n)]; exact n) hb hx,fun b o e n hb hx => jb.slot b o e (by rw [unfs_ne (nin n)]; exact n) hb hx,fun b o e n hx => ?_,fun b o e hx => jb.there b o e hx,fun b xs e => ?_,fun b o z e => ?_,fun b qs e => ?_⟩
   ·rw [refs_ne (nin n)]; exact jb.free b o e (by rw [unfs_ne (nin n)]; exact n) hx
   ·have n:=nin2 e (by intro o u z; cases z)
    rw [refs_ne n]; exact jb.tups b xs (by rw [unfs_ne n]; exact e)
   ·by_cases n:b∈cl.map (·.2)
    ·rw [refs_in n]; exact e
    ·rw [refs_ne n]; exact jb.frzs b o z (by rw [unfs_ne n]; exact e)
   ·have n:=nin2 e (by intro o u z; cases z)
    rw [refs_ne n]; exact jb.tbls b qs (by rw [unfs_ne n]; exact e)
  ·by_cases n:b∈cl.map (·.2)
   ·rw [refs_in n] at e
    obtain ⟨ob,u,g1,g2,g3⟩:=frz b n
    rw [g1] at e; cases e
    have g4:s'.heap.get? b = some ob:=jb.keep b ob g2 (unfs_in n) (fun z => by rw [e0.frf b z] at g1; cases g1) (by simp)
    exact ⟨g4,g4,⟨_,g4⟩,fun h1 h2 a k => k _ a⟩
   ·rw [refs_ne n] at e
    exact (J.hok b o e).stay (fun _ _ _ g => g) (fun d g => by rw [refs_ne (nj g)]; exact g) fun d xs g => by rw [refs_ne (nj g)]; exact g
end
end L2
namespace L2
open PySem PySem.Spec PyProof.Rows
section
variable {prog:Program} {w:World} {A:Around} {R:Result→Shared→Prop} {I S:Addr} {fp wr:List Addr} {n:Nat} {Pr:Nat→Value→Prop} {St:Nat→Heap→Prop} {h0:Heap} {bt:Nat→Nat→Bool}
abbrev Old (h0 h:Heap):Prop:=∀ b o,h0.get? b = some o→h.get? b = some o
def LtIn (prog:Program) (w:World) (A:Around) (h0:Heap) (Pr:Nat→Value→Prop) (bt:Nat→Nat→Bool):Prop :=
 ∀ i j x y (s:Shared) (Q E:Value→Shared→Prop),Old h0 s.heap→Pr i x→Pr j y→Q (.bool (bt i j)) s→wpAny (model prog w) A (richCompare .Lt x y) Q E s
theorem minT_loop (W:Walks prog w A.in1 I fp wr n Pr St) (cm:LtIn prog w A.in1 h0 Pr bt) (nS:S ∉ fp) (oS:h0.get? S = none) (ow:∀ b∈wr,h0.get? b = none) :
  ∀ (k j:Nat) (s:Shared) (vb:Value) (c:Nat),n = k + (j + 1)→St (j + 1) s.heap→Old h0 s.heap→Pr (argBest bt j) vb →
  s.heap.get? S = some { cls:=.type "list",dict:=none,data:=.seq #[vb,vb] c,slots:=#[] } →
  (∀ v h' tk,Pr (argBest bt (n - 1)) v→Old h0 h'→R (.ok (.ret v)) { s with heap:=h',toks:=tk }) →
  codeAny (model prog w) A (.builtin "min.loop" ⟨[.ref I,.none,.ref S],[]⟩) R s:=by
 have wS:S ∉ wr:=fun z => nS (W.sub _ z)
 have nm:(toString "min" ++ toString ".loop":String) = "min.loop":=by decide
 have offW:∀ {h h':Heap},Old h0 h→(∀ b o,b ∉ wr→h.get? b = some o→h'.get? b = some o)→Old h0 h':=fun g k b o e => k b o (fun z => by rw [ow b z] at e; cases e) (g b o e)
 have offS:∀ {h:Heap} (f:Obj→Obj),Old h0 h→Old h0 (h.update S f):=fun f g b o e => (Heap.get?_update_other _ _ (fun z:S = b => by rw [← z,oS] at e; cases e)).trans (g b o e)
 intro k
 induction k with
 | zero =>
  intro j s vb c hn st g pb eS kR
  refine codeAny_builtin PySem.F.entry_min_loop ?_
  rw [Around.under_plainId PySem.F.plain_min_loop _]
  show wpAny _ A.in1 (seqItems? (.ref S) >>= _) _ _ s
  refine wpAny_bind (wpAny_seqItems eS rfl ?_)
  refine wpAny_bind (wpAny_tryCatch (W.done s _ _ ((show n = j + 1 by omega)▸st) fun h1 tk k1 => ?_))
  show wpAny _ A.in1 (updateSeq S (fun _ => #[]) >>= _) _ _ _
  refine wpAny_bind (wpAny_updateSeq (k1 S _ wS eS) rfl (wpAny_bind (wpAny_letGo (wpAny_pure ?_))))
  exact kR vb _ tk ((show n - 1 = j by omega)▸pb) (offS _ (offW g k1))
 | succ k ih =>
  intro j s vb c hn st g pb eS kR
  refine codeAny_builtin PySem.F.entry_min_loop ?_
  rw [Around.under_plainId PySem.F.plain_min_loop _]
  show wpAny _ A.in1 (seqItems? (.ref S) >>= _) _ _ s
  refine wpAny_bind (wpAny_seqItems eS rfl ?_)
  refine wpAny_bind (wpAny_tryCatch (W.item (j + 1) s _ _ (by omega) st fun x h1 tk px st1 k1 => ?_))
  have g1:=offW g k1
  have eS1:=k1 S _ wS eS
  show wpAny _ A.in1 (tryCatch (holding [x,x] (richCompare .Lt x vb >>= _)) _ >>= _) _ _ _
  refine wpAny_bind (wpAny_tryCatch (wpAny_holding (wpAny_bind (cm (j + 1) (argBest bt j) x vb _ _ _ g1 px pb ?_))))
  refine wpAny_bind (wpAny_holding (wpAny_truthy_bool ?_))
  refine wpAny_bind (wpAny_letGo (wpAny_pure ?_))
  cases hb:bt (j + 1) (argBest bt j) with
  | true =>
   simp only [if_true]
   refine wpAny_bind (wpAny_updateSeq eS1 rfl (wpAny_bind (wpAny_letGo ?_)))
   rw [nm]
   refine wpAny_pure ⟨plainId_quiet PySem.F.plain_min_loop _,ih (j + 1) _ x _ (by omega) (W.frame _ _ _ st1 fun b hf o e => ?_) (offS _ g1) (by simp only [argBest,hb,if_true]; exact px) (Heap.get?_update_self _ eS1 rfl) fun v h2 tk2 pv g2 => kR v h2 tk2 pv g2⟩
   exact (Heap.get?_update_other _ _ (fun z:S = b => nS (by rw [z]; exact hf))).trans e
  | false =>
   simp only [Bool.false_eq_true,if_false]
   refine wpAny_bind (wpAny_letGo ?_)
   rw [nm]
   exact wpAny_pure ⟨plainId_quiet PySem.F.plain_min_loop _,ih (j + 1) _ vb c (by omega) st1 g1 (by simp only [argBest,hb,Bool.false_eq_true,if_false]; exact pb) eS1 fun v h2 tk2 pv g2 => kR v h2 tk2 pv g2⟩
theorem minT_first (W:Walks prog w A.in1 I fp wr n Pr St) (cm:LtIn prog w A.in1 h0 Pr bt) (nS:S ∉ fp) (oS:h0.get? S = none) (ow:∀ b∈wr,h0.get? b = none) (hn:0 < n) {s:Shared} {c:Nat} (st:St 0 s.heap) (g:Old h0 s.heap)
  (eS:s.heap.get? S = some { cls:=.type "list",dict:=none,data:=.seq #[] c,slots:=#[] })
  (kR:∀ v h' tk,Pr (argBest bt (n - 1)) v→Old h0 h'→R (.ok (.ret v)) { s with heap:=h',toks:=tk }) :
  codeAny (model prog w) A (.builtin "min.loop" ⟨[.ref I,.none,.ref S],[]⟩) R s:=by
 have wS:S ∉ wr:=fun z => nS (W.sub _ z)
 have nm:(toString "min" ++ toString ".loop":String) = "min.loop":=by decide
 refine codeAny_builtin PySem.F.entry_min_loop ?_
 rw [Around.under_plainId PySem.F.plain_min_loop _]
 show wpAny _ A.in1 (seqItems? (.ref S) >>= _) _ _ s
 refine wpAny_bind (wpAny_seqItems eS rfl ?_)
 refine wpAny_bind (wpAny_tryCatch (W.item 0 s _ _ hn st fun x h1 tk px st1 k1 => ?_))
 have eS1:=k1 S _ wS eS
 have g1:Old h0 h1:=fun b o e => k1 b o (fun z => by rw [ow b z] at e; cases e) (g b o e)
 show wpAny _ A.in1 (updateSeq S (fun _ => #[x,x]) >>= _) _ _ _
 refine wpAny_bind (wpAny_updateSeq eS1 rfl ?_)
 rw [nm]
 refine wpAny_pure ⟨plainId_quiet PySem.F.plain_min_loop _,minT_loop W cm nS oS ow (n - 1) 0 _ x _ (by omega) (W.frame _ _ _ st1 fun b hf o e => ?_) (fun b o e => ?_) px (Heap.get?_update_self _ eS1 rfl) fun v h2 tk2 pv g2 => kR v h2 tk2 pv g2⟩
 ·exact (Heap.get?_update_other _ _ (fun z:S = b => nS (by rw [z]; exact hf))).trans e
 ·exact (Heap.get?_update_other _ _ (fun z:S = b => by rw [← z,oS] at e; cases e)).trans (g1 b o e)
end
section
variable {prog:Program} {w:World} {A:Around} {E:Value→Shared→Prop} {s:Shared}
theorem minT_call {l:Addr} {items:Array Value} {bt:Nat→Nat→Bool} {Q:Value→Shared→Prop} (hh:A.handled = none) (hl:s.heap.IsList l items) (hn:0 < items.size) (cm:LtIn prog w A.in1 s.heap (fun i v => items[i]? = some v) bt)
  (h:∀ v h' tk,items[argBest bt (items.size - 1)]? = some v→Old s.heap h'→Q v { s with heap:=h',toks:=tk }):wpAny (model prog w) A (call (.builtin "min") [.ref l]) Q E s:=by
 have nm:(toString "min" ++ toString ".loop":String) = "min.loop":=by decide
 have ll:l < s.heap.objs.size:=by obtain ⟨_,e,_⟩:=hl; exact Heap.lt_size e
 refine call_function_tree PySem.F.kind_min PySem.F.plain_min PySem.F.entry_min (PySem.F.args_min1 _) ?_
 show wpAny _ A.in1 (Builtin.Builtins.bindParams "min" ["key","default"] 0 ⟨[],[]⟩ >>= _) _ _ s
 refine wpAny_bind (wpAny_of_eq (show Builtin.Builtins.bindParams "min" ["key","default"] 0 ⟨[],[]⟩ = pure [none,none] from rfl) (wpAny_bind (wpAny_pure (wpAny_bind ?_))))
 refine wpAny_pyIter_list hl ?_
 refine wpAny_bind (wpAny_newObj_type ?_)
 rw [nm]
 have W:=Walks.list (prog:=prog) (w:=w) (A:=A.in1) hh s.heap.objs.size l (Nat.ne_of_lt ll) items
 have out:∀ b,s.heap.objs.size≤b→s.heap.get? b = none:=fun b z => Heap.get?_none_of_le z
 refine wpAny_pure ⟨plainId_quiet PySem.F.plain_min_loop _,minT_first W cm (fun z => ?_) (out _ (by rw [Heap.size_push]; omega)) (fun b z => ?_) hn (W.frame _ _ _ ⟨⟨_,Heap.get?_push_size _ rfl,rfl,rfl⟩,hl.push _⟩ fun b _ o e => Heap.get?_push_of_some _ e) (fun b o e => Heap.get?_push_of_some _ (Heap.get?_push_of_some _ e)) (Heap.get?_push_size _ rfl) fun v h' tk pv g => h v h' tk pv g⟩
 ·simp only [List.mem_cons,List.not_mem_nil,or_false] at z
  rcases z with z | z
  ·exact absurd z (Nat.ne_of_gt (Nat.lt_of_lt_of_eq (Nat.lt_succ_self _) (Heap.size_push ..).symm))
  ·exact absurd z (Nat.ne_of_gt (Nat.lt_of_lt_of_eq (Nat.lt_succ_of_lt ll) (Heap.size_push ..).symm))
 ·simp only [List.mem_cons,List.not_mem_nil,or_false] at z
  exact out b (Nat.le_of_eq z.symm)
end
theorem argBest_min {α:Type} (lt:α→α→Bool) (irr:∀ a,lt a a = false) (tr:∀ a b c,lt a b = true→lt b c = true→lt a c = true) (tot:∀ a b,lt a b = false→lt b a = false→a = b) (f:Nat→α):∀ n,argBest (fun i j => lt (f i) (f j)) n≤n∧∀ j,j≤n→lt (f j) (f (argBest (fun i j => lt (f i) (f j)) n)) = false
 | 0 => ⟨Nat.le_refl _,fun j hj => (show 0 = j by omega) ▸ irr _⟩
 | n + 1 => by
  obtain ⟨h1,h2⟩:=argBest_min lt irr tr tot f n
  by_cases hb:lt (f (n + 1)) (f (argBest (fun i j => lt (f i) (f j)) n)) = true
  ·have e:argBest (fun i j => lt (f i) (f j)) (n + 1) = n + 1:=by simp only [argBest,hb,if_true]
   rw [e]
   refine ⟨Nat.le_refl _,fun j hj => ?_⟩
   by_cases z:j = n + 1
   ·rw [z]; exact irr _
   ·cases q:lt (f j) (f (n + 1)) with
    | false => rfl
    | true => have:=tr _ _ _ q hb; rw [h2 j (by omega)] at this; cases this
  ·have e:argBest (fun i j => lt (f i) (f j)) (n + 1) = argBest (fun i j => lt (f i) (f j)) n:=by simp only [argBest,hb,if_false,Bool.false_eq_true]
   rw [e]
   refine ⟨by omega,fun j hj => ?_⟩
   by_cases z:j = n + 1
   ·rw [z]; simpa using hb
   ·exact h2 j (by omega)
section
variable {X:Cx} {M:Od}
theorem call_minO (M:Od) (hc:X.calm = true) (hu:X.A.units + 64 < cLine) (hdp:M.deep≤8):CallR X (.builtin "min") (fun xs H Q => ∃ (p:Addr) (bs:List Addr) (ks:List M.α),xs = [.ref p]∧H p = some (.lst (bs.map V.ref))∧NAt M H bs ks∧bs≠[]∧(∀ a∈ks,∀ b∈ks,M.cmp a b) ∧
  ∀ (i:Nat) (b:Addr) (k:M.α),bs[i]? = some b→ks[i]? = some k→(∀ a∈ks,M.lt a k = false)→Q (.ref b) H):=by
 intro pins s σ H xs us Q I r h
 obtain ⟨p,bs,ks,rfl,hp,T,hne,hcm,q⟩:=h
 obtain ⟨u,rfl,ru⟩:=vals1 r
 cases ru
 obtain ⟨_,its,n,rv,hg⟩:=I.hok p _ hp
 obtain rfl:=refs_of rv
 have hl:s.heap.IsList p (bs.map Value.ref).toArray:=⟨_,hg,rfl,n,rfl⟩
 have lk:=paired_len T
 obtain ⟨k0,hk0⟩:∃ k0,k0∈ks:=by
  cases ks with
  | nil => exact absurd (List.length_eq_zero_iff.mp lk) hne
  | cons a _ => exact ⟨a,List.mem_cons_self ..⟩
 have lp:0 < bs.length:=List.length_pos_iff.mpr hne
 have hraw:∀ (i:Nat) (b:Addr) (k:M.α),bs[i]? = some b→ks[i]? = some k→M.R s.heap (.ref b) k:=fun i b k e1 e2 => by
  obtain ⟨g1,e1⟩:=List.getElem?_eq_some_iff.mp e1
  obtain ⟨g2,e2⟩:=List.getElem?_eq_some_iff.mp e2
  have:=paired_at T g1 g2
  rw [e1,e2] at this
  exact M.raw I.hok this rfl
 have gd:∀ i,i < ks.length→ks[i]? = some (ks.getD i k0):=fun i hi => by rw [List.getD_eq_getElem?_getD,List.getElem?_eq_getElem hi]; rfl
 have at_:∀ (i:Nat) (v:Value),(bs.map Value.ref).toArray[i]? = some v→∃ b,bs[i]? = some b∧v = .ref b:=fun i v e => by
  rw [List.getElem?_toArray,List.getElem?_map] at e
  obtain ⟨b,e1,e2⟩:=Option.map_eq_some_iff.mp e
  exact ⟨b,e1,e2.symm⟩
 obtain ⟨b1,b2⟩:=argBest_min M.lt M.irr (fun _ _ _ => M.trans) (fun _ _ => M.tot) (fun i => ks.getD i k0) (bs.length - 1)
 have sz:(bs.map Value.ref).toArray.size = bs.length:=by simp
 refine minT_call (bt:=fun i j => M.lt (ks.getD i k0) (ks.getD j k0)) (I.ok.hd hc) hl (by rw [sz]; exact lp) (fun i j x y s' Q' E' old px py q' => ?_) fun v h' tk hv old => ?_
 ·obtain ⟨b,e1,rfl⟩:=at_ i x px
  obtain ⟨b',e2,rfl⟩:=at_ j y py
  have i1:i < ks.length:=by rw [← lk]; exact (List.getElem?_eq_some_iff.mp e1).1
  have i2:j < ks.length:=by rw [← lk]; exact (List.getElem?_eq_some_iff.mp e2).1
  refine M.less (A:=X.A.in1) (s:=s') (by have:X.A.in1.units = X.A.units + 1:=rfl; omega) (hcm _ (List.mem_of_getElem? (gd i i1)) _ (List.mem_of_getElem? (gd j i2))) (M.keep (fun b o e _ => old b o e) (hraw i b _ e1 (gd i i1))) (M.keep (fun b o e _ => old b o e) (hraw j b' _ e2 (gd j i2))) _ _ _ _ q'
 ·rw [sz] at hv
  obtain ⟨b,e1,rfl⟩:=at_ _ v hv
  refine ⟨.ref b,H,I.kept old,rfl,q _ b _ e1 (gd _ (by omega)) fun a ha => ?_⟩
  obtain ⟨j,hj,rfl⟩:=List.getElem_of_mem ha
  have:=b2 j (by omega)
  have e3:=gd j hj
  rw [List.getElem?_eq_getElem hj] at e3
  rw [Option.some.inj e3]
  exact this
end
end L2
namespace TS
open PySem PyProof.Rows L2
section
variable {prog:Program} {w:World} {A:Around} {E:Value→Shared→Prop} {s:Shared} {K:Type} [DecidableEq K] {knd:HeapKind prog w K}
theorem sameI_wp {id:String} {a b:Addr} {xs ys:List (K × Addr × Value)} {Q:Bool→Shared→Prop} (hu:knd.room A) (ha:(a == sysModules) = false) (hb:(b == sysModules) = false) (h1:s.heap.DictOfH knd a xs) (h2:s.heap.DictOfH knd b ys) (hl:xs.length = ys.length)
  (tx:∀ x∈xs,∃ y∈ys,y.1 = x.1) (ti:∀ x∈xs,∀ y∈ys,y.1 = x.1→∃ n t t',x.2.2 = .int n t∧y.2.2 = .int n t') (q:Q true s):wpAny (model prog w) A (Builtin.Dict.samePairs id a b) Q E s:=by
 obtain ⟨oa,ea,epa,e1,_,d1,l1,i1,n1⟩:=h1
 obtain ⟨ob,eb,epb,e2,_,d2,l2,i2,n2⟩:=h2
 have s1:ea.size = xs.length:=by have:=congrArg List.length l1; simpa using this
 have s2:eb.size = ys.length:=by have:=congrArg List.length l2; simpa using this
 unfold Builtin.Dict.samePairs Builtin.Dict.showsAll
 rw [ha,hb]
 refine wpAny_bind (wpAny_pure (wpAny_bind (wpAny_pure (wpAny_bind (wpAny_dictEntries e1 d1 (wpAny_bind (wpAny_dictEntries e2 d2 ?_)))))))
 rw [if_neg (by rw [s1,s2]; simpa using hl)]
 refine wpAny_bind (wpAny_dictEpoch e1 d1 (wpAny_bind (for_range_wp (n:=ea.size) (I:=fun i c => c = (none,())) (fun i c hi hc => ?_) (fun c hc => ?_) rfl)))
 ·subst hc
  have hi2:i < xs.length:=by omega
  have ee:ea[i]? = some (entryOfKey knd xs[i]):=by
   rw [← Array.getElem?_toList,l1,List.getElem?_map,List.getElem?_eq_getElem hi2]; rfl
  refine wpAny_bind (wpAny_dictEntries e1 d1 ?_)
  rw [ee]
  have hx:xs[i]∈xs:=List.getElem_mem hi2
  refine wpAny_bind (wpAny_holding (wpAny_bind (wpAny_dictFind_heap hu (i1 _ hx) e2 d2 l2 i2 n2 (fun no => ?_) fun j p hj => ?_)))
  ·obtain ⟨y,hy,ey⟩:=tx _ hx
   obtain ⟨j,hj,e3⟩:=List.mem_iff_getElem.mp hy
   exact absurd (show ys[j]? = some (xs[i].1,y.2) by rw [List.getElem?_eq_getElem hj,e3,← ey]) (no j y.2)
  ·have hj2:eb[j]? = some (entryOfKey knd (xs[i].1,p)):=by
    rw [← Array.getElem?_toList,l2,List.getElem?_map,hj]; rfl
   refine wpAny_bind (wpAny_dictEntries e2 d2 ?_)
   rw [hj2]
   have hy:(xs[i].1,p)∈ys:=List.mem_of_getElem? hj
   show wpAny _ _ (holding [_] (eqBool xs[i].2.2 p.2)) _ _ _
   obtain ⟨n,t,t',ex,ey⟩:=ti _ hx _ hy rfl
   rw [ex,show p.2 = .int n t' from ey]
   refine wpAny_holding (SeqAt.EqAt.int_int n t n t' prog w _ _ ?_)
   rw [show (n == n) = true from beq_self_eq_true n,if_neg (by decide)]
   refine wpAny_bind (wpAny_dictEpoch e1 d1 ?_)
   rw [if_neg (by simp)]
   exact wpAny_pure ⟨rfl,rfl⟩
 ·subst hc
  exact wpAny_pure q
end
end TS
namespace L2
open PySem PyProof.Rows TS
theorem paired_find {kvs:List (List Key × V)} {xs:List (List Key × Addr × Value)} {H:Hp} (r:KT H kvs xs) {x:List Key × Addr × Value} (hx:x∈xs):∃ kv∈kvs,kv.1 = x.1∧RelV kv.2 x.2.2:=by
 obtain ⟨kv,h1,h2,_,h3⟩:=paired_mem r hx
 exact ⟨kv,h1,h2,h3⟩
theorem valV_of_mem {kvs:List (List Key × V)} (nd:(kvs.map (·.1)).Nodup) {kv:List Key × V} (h:kv∈kvs):valV kvs kv.1 = some kv.2:=by
 induction kvs with
 | nil => cases h
 | cons p r ih =>
  rw [List.map_cons,List.nodup_cons] at nd
  rcases List.mem_cons.mp h with rfl | h
  ·exact valV_pos rfl
  ·rw [valV_neg (fun e => nd.1 (e▸List.mem_map.mpr ⟨kv,h,rfl⟩))]
   exact ih nd.2 h
theorem mem_of_valV {kvs:List (List Key × V)} {k:List Key} {v:V} (h:valV kvs k = some v):(k,v)∈kvs:=by
 induction kvs with
 | nil => cases h
 | cons p r ih =>
  by_cases e:p.1 = k
  ·rw [valV_pos e] at h
   cases h
   subst e
   exact List.mem_cons_self ..
  ·rw [valV_neg e] at h
   exact List.mem_cons_of_mem _ (ih h)
section
variable {X:Cx}
theorem op_eqDI (hu:X.A.units + 64 < cLine):OpR X (compareOp .Eq) (fun x y H Q => ∃ (a b:Addr) (kvs mvs:List (List Key × V)),x = .ref a∧y = .ref b∧H a = some (.dT kvs)∧H b = some (.dT mvs)∧kvs.length = mvs.length∧(∀ k v,valV kvs k = some v→valV mvs k = some v∧∃ n,v = .int n)∧Q (.bl true) H):=by
 intro pins s σ H x y v u Q I rx ry h
 obtain ⟨a,b,kvs,mvs,rfl,rfl,ha,hb,hl,hv,q⟩:=h
 cases rx
 cases ry
 obtain ⟨_,na,xs,k1,d1⟩:=dt_of I.hok ha
 obtain ⟨_,nb,ys,k2,d2⟩:=dt_of I.hok hb
 have t1:s.TypeIs (.ref a) "dict":=by obtain ⟨ob,es,ep,e,c,_⟩:=d1; exact ⟨ob,e,c.1⟩
 have t2:s.TypeIs (.ref b) "dict":=by obtain ⟨ob,es,ep,e,c,_⟩:=d2; exact ⟨ob,e,c.1⟩
 have m1:kvs.map (·.1) = xs.map (·.1):=paired_map k1 fun x y h => h.1.symm
 have m2:mvs.map (·.1) = ys.map (·.1):=paired_map k2 fun x y h => h.1.symm
 have nd1:(kvs.map (·.1)).Nodup:=by rw [m1]; obtain ⟨_,_,_,_,_,_,_,_,n⟩:=d1; exact n
 have nd2:(mvs.map (·.1)).Nodup:=by rw [m2]; obtain ⟨_,_,_,_,_,_,_,_,n⟩:=d2; exact n
 refine wpAny_richCompare_same_room (op:=.Eq) t1 t2 PySem.F.slot_dict_eq (wpAny_call_entry PySem.F.slot_dict_eq t1 PySem.F.entry_dict_eq (wpAny_bind ?_) (PySem.F.args_dict_eq_2 _ _)) (by omega)
 refine wpAny_bind (wpAny_notOrdered_dict t1 ?_)
 show wpAny _ _ (pure (Value.ref a,Value.ref b)) _ _ s
 refine wpAny_pure (wpAny_bind (wpAny_isInstance (T:="dict") t2 PySem.F.sub_dict_dict ?_))
 rw [if_neg (by decide)]
 refine wpAny_bind (wpAny_pure (wpAny_bind (wpAny_pure (wpAny_bind (sameI_wp (tupleKind_room_in1 (by omega)) na nb d1 d2 ?_ (fun x hx => ?_) (fun x hx y hy e => ?_) ?_)))))
 ·rw [← Paired.length k1,← Paired.length k2]; exact hl
 ·obtain ⟨kv,h1,h2,_⟩:=paired_find k1 hx
  have h3:=mem_of_valV (hv _ _ (valV_of_mem nd1 h1)).1
  have:kv.1∈ys.map (·.1):=by rw [← m2]; exact List.mem_map.mpr ⟨_,h3,rfl⟩
  obtain ⟨y,hy,e⟩:=List.mem_map.mp this
  exact ⟨y,hy,e.trans h2⟩
 ·obtain ⟨kv,h1,h2,r1⟩:=paired_find k1 hx
  obtain ⟨mv,g1,g2,r2⟩:=paired_find k2 hy
  obtain ⟨h4,n,en⟩:=hv _ _ (valV_of_mem nd1 h1)
  have h5:=valV_of_mem nd2 g1
  rw [g2,e,← h2,h4] at h5
  have h6:=Option.some.inj h5
  rw [← h6,en] at r2
  rw [en] at r1
  obtain ⟨t,e1⟩:=r1
  obtain ⟨t',e2⟩:=r2
  exact ⟨n,t,t',e1,e2⟩
 ·exact wpAny_pure ⟨_,rfl,fun z => (nomatch z),.bl _,H,I,rfl,q⟩
def rClearT:V→List V→Hp→VK→Prop:=fun x vs H Q => ∃ (a:Addr) (kvs:List (List Key × V)),x = .ref a∧vs = []∧H a = some (.dT kvs)∧Q .non (upd H a (.dT []))
theorem mt_clearT:MtM X "dict.clear" rClearT:=by
 intro pins s σ H x vs v us Q I rx rv h
 obtain ⟨a,kvs,rfl,rfl,ea,q⟩:=h
 cases rx
 have hus:=rv.zero
 subst hus
 obtain ⟨z,na,xs,k1,d1⟩:=dt_of I.hok ea
 have tI:s.TypeIs (.ref a) "dict":=by obtain ⟨ob,es,ep,e,c,_⟩:=d1; exact ⟨ob,e,c.1⟩
 obtain ⟨ob,es,ep,ho,hc,hd,he,_,_⟩:=d1
 have hes:es.size≤sizeLine:=by
  have:=congrArg List.length he
  rw [Array.length_toList,List.length_map,← Paired.length k1] at this
  omega
 refine wpAny_call_entry PySem.F.slot_dict_clear tI PySem.F.entry_dict_clear (wpAny_bind ?_) (PySem.F.args_dict_clear_1 _)
 refine wpAny_bind (wpAny_notOrdered_dict tI ?_)
 show wpAny _ _ (pure a) _ _ s
 refine wpAny_pure (wpAny_bind (wpAny_dictEntries ho hd (wpAny_bind ?_)))
 refine wpAny_bind (wpAny_load ho (wpAny_pure ?_))
 refine wpAny_bind (wpAny_updateDictKeys (hz:=hes) ho hd ?_)
 have sb:Heap.SameBut a s.heap (s.heap.update a (Obj.mapDictKeys fun _ => #[])):=Heap.SameBut.update ..
 have e2:=Heap.get?_update_self (Obj.mapDictKeys fun _ => #[]) ho (Obj.isFreed_of_dict (Obj.data_mapDictKeys hd _))
 have fin:EP X pins σ Q .none { s with heap:=s.heap.update a (Obj.mapDictKeys fun _ => #[]) }:=by
  refine ⟨.non,_,d_write (t':=s.toks) I (by rw [ea]; exact True.intro) sb ⟨_,e2⟩ (ob:=.dT []) ?_,rfl,q⟩
  exact ⟨Nat.zero_le _,na,[],.nil,_,_,ep + 1,e2,hc.mapDictKeys _,Obj.data_mapDictKeys hd _,rfl,List.nodup_nil⟩
 split
 ·exact wpAny_bind (wpAny_letGo (wpAny_pure ⟨.none,rfl,fin⟩))
 ·exact wpAny_bind (wpAny_pure (wpAny_pure ⟨.none,rfl,fin⟩))
theorem op_eqPair (hu:X.A.units + 64 < cLine):OpR X (compareOp .Eq) (fun x y H Q => ∃ (p q d:Addr) (z:Str),x = .ref p∧y = .ref q∧SqT X.K H p [.str z,.ref d]∧SqT X.K H q [.str z,.ref d]∧Q (.bl true) H):=by
 intro pins s σ H x y v u Q I rx ry h
 obtain ⟨p,q,d,z,rfl,rfl,hp,hq,k⟩:=h
 cases rx
 cases ry
 obtain ⟨its,r1,p1,_⟩:=I.tuple hp
 obtain ⟨its2,r2,p2,_⟩:=I.tuple hq
 obtain ⟨t1,rfl⟩:∃ t,its = [.str z t,.ref d]:=by
  cases r1 with
  | cons x t => cases t with
   | cons y t => cases t with
    | nil =>
     obtain ⟨t,rfl⟩:=x
     cases y
     exact ⟨t,rfl⟩
 obtain ⟨t2,rfl⟩:∃ t,its2 = [.str z t,.ref d]:=by
  cases r2 with
  | cons x t => cases t with
   | cons y t => cases t with
    | nil =>
     obtain ⟨t,rfl⟩:=x
     cases y
     exact ⟨t,rfl⟩
 have key:∀ (m:Nat) (g1:m < #[Value.str z t1,Value.ref d].size) (g2:m < #[Value.str z t2,Value.ref d].size),SeqAt.EqAt X.A.in1 s #[Value.str z t1,Value.ref d][m] #[Value.str z t2,Value.ref d][m] ((fun _ => true) m):=fun m g1 g2 => by
  match m,g1,g2 with
  | 0,_,_ =>
   have:=SeqAt.EqAt.str_str (A:=X.A.in1) (s:=s) z t1 z t2
   rwa [show (z == z) = true from beq_self_eq_true z] at this
  | 1,_,_ => exact SeqAt.EqAt.same _
 exact EqBoolInt.of_rc (SeqAt.RcAt.tuples p1 p2 (by omega) key) ⟨.bl _,H,I,rfl,k⟩
end
end L2
namespace L2
open PySem PySem.Spec PyProof.Rows
theorem cells_nil {X:Cx}:CellsOf X []:=⟨fun y hy => by cases hy⟩
theorem cells_cons {X:Cx} {cs:List (Nat × Str × Addr)} {i:Nat} {n:Str} {a:Addr} (h1:X.N[i]? = some n) (h2:X.env.scope.names.lookup n = some .cell) (h3:X.env.cells.lookup n = some a) (h4:X.fn n = true) (C:CellsOf X cs):CellsOf X ((i,n,a) :: cs) :=
 ⟨fun y hy => by
  rcases List.mem_cons.mp hy with rfl | hy
  ·exact ⟨h1,h2,h3,h4⟩
  ·exact C.ok y hy⟩
theorem b_divmod:bootBuiltins "divmod" = some (.builtin "divmod"):=by decide +kernel
end L2
namespace K61
open PySem L2 Wd
def top (i:Nat):Stmt:=PySem.Challenge.pw_copperbook_k61_whole_least_dear.main.body.getD i (.Pass ⟨0,0,0,0⟩)
abbrev s_beside:Stmt:=top 1
theorem sc_beside:FnScope ["cell","x","y","z"] ["cell"] (defScope s_beside):=⟨rfl,rfl,rfl,by decide +kernel,rfl,by decide +kernel,by decide +kernel⟩
abbrev s_over_and_under:Stmt:=top 2
theorem sc_over_and_under:FnScope ["cell","layers"] ["cell","layers"] (defScope s_over_and_under):=⟨rfl,rfl,rfl,by decide +kernel,rfl,by decide +kernel,by decide +kernel⟩
abbrev s_wave:Stmt:=top 4
theorem sc_wave:FnScope ["size","price","through","starts","goals","reached","numbers","cell","ends","end"] ["size","price","through","starts","goals"] (defScope s_wave):=⟨rfl,rfl,rfl,by decide +kernel,rfl,by decide +kernel,by decide +kernel⟩
abbrev s_spread_wave:Stmt:=top 5
theorem sc_spread_wave:FnScope ["size","price","through","starts","waiting","reached","entry","cell","other","cost"] ["size","price","through","starts"] (defScope s_spread_wave):=⟨rfl,rfl,rfl,by decide +kernel,rfl,by decide +kernel,by decide +kernel⟩
abbrev s_steps:Stmt:=top 6
theorem sc_steps:FnScope ["size","price","through","cell","found","hole"] ["size","price","through","cell"] (defScope s_steps):=⟨rfl,rfl,rfl,by decide +kernel,rfl,by decide +kernel,by decide +kernel⟩
abbrev s_priced:Stmt:=top 7
theorem sc_priced:FnScope ["price","cells","more","prices"] ["price","cells","more"] (defScope s_priced):=⟨rfl,rfl,rfl,by decide +kernel,rfl,by decide +kernel,by decide +kernel⟩
abbrev s_in_size:Stmt:=top 8
theorem sc_in_size:FnScope ["size","cell"] ["size","cell"] (defScope s_in_size):=⟨rfl,rfl,rfl,by decide +kernel,rfl,by decide +kernel,by decide +kernel⟩
abbrev s_put_in:Stmt:=top 9
theorem sc_put_in:FnScope ["waiting","entry","low","high","middle"] ["waiting","entry"] (defScope s_put_in):=⟨rfl,rfl,rfl,by decide +kernel,rfl,by decide +kernel,by decide +kernel⟩
abbrev s_way_to:Stmt:=top 10
theorem sc_way_to:FnScope ["cell","reached","cells"] ["cell","reached"] (defScope s_way_to):=⟨rfl,rfl,rfl,by decide +kernel,rfl,by decide +kernel,by decide +kernel⟩
abbrev s_law_cell_at:Stmt:=top 12
theorem sc_law_cell_at:FnScope ["_law_script","_law_k"] ["_law_script","_law_k"] (defScope s_law_cell_at):=⟨rfl,rfl,rfl,by decide +kernel,rfl,by decide +kernel,by decide +kernel⟩
abbrev s_law_mixed:Stmt:=top 13
theorem sc_law_mixed:FnScope ["_law_cell","_law_k","_law_number"] ["_law_cell","_law_k"] (defScope s_law_mixed):=⟨rfl,rfl,rfl,by decide +kernel,rfl,by decide +kernel,by decide +kernel⟩
abbrev s_law_prices:Stmt:=top 14
theorem sc_law_prices:FnScope ["_law_cell","_law_cells","_law_mixed_here","_law_times","_law_found","_law_rest","_law_k","_law_draw"] ["_law_cell","_law_cells","_law_mixed_here","_law_times"] (defScope s_law_prices):=⟨rfl,rfl,rfl,by decide +kernel,rfl,by decide +kernel,by decide +kernel⟩
abbrev s_law_field:Stmt:=top 15
theorem sc_law_field:FnScope ["_law_script","_law_cell","_law_size","_law_squares","_law_cells","_law_often","_law_prices_here","_law_changes"] ["_law_script"] (defScope s_law_field):=⟨rfl,rfl,rfl,by decide +kernel,rfl,by decide +kernel,by decide +kernel⟩
abbrev s_law_some:Stmt:=top 16
theorem sc_law_some:FnScope ["_law_script","_law_at","_law_cells","_law_count"] ["_law_script","_law_at","_law_cells"] (defScope s_law_some):=⟨rfl,rfl,rfl,by decide +kernel,rfl,by decide +kernel,by decide +kernel⟩
abbrev s_law_steps:Stmt:=top 17
theorem sc_law_steps:FnScope ["_law_size","_law_prices_here","_law_changes","_law_cell","_law_x","_law_y","_law_z","_law_found","_law_spot","_law_layer"] ["_law_size","_law_prices_here","_law_changes","_law_cell"] (defScope s_law_steps):=⟨rfl,rfl,rfl,by decide +kernel,rfl,by decide +kernel,by decide +kernel⟩
abbrev s_law_numbers:Stmt:=top 18
theorem sc_law_numbers:FnScope ["_law_field_here","_law_numbers_here","_law_starts","_law_size","_law_cells","_law_prices_here","_law_changes","_law_cell","_law_shown","_law_come","_law_other","_law_price"] ["_law_field_here","_law_numbers_here","_law_starts"] (defScope s_law_numbers):=⟨rfl,rfl,rfl,by decide +kernel,rfl,by decide +kernel,by decide +kernel⟩
abbrev s_law_way:Stmt:=top 19
theorem sc_law_way:FnScope ["_law_field_here","_law_line","_law_sums","_law_goal","_law_size","_law_cells","_law_prices_here","_law_changes","_law_k","_law_leads"] ["_law_field_here","_law_line","_law_sums","_law_goal"] (defScope s_law_way):=⟨rfl,rfl,rfl,by decide +kernel,rfl,by decide +kernel,by decide +kernel⟩
abbrev s_law_told:Stmt:=top 20
theorem sc_law_told:FnScope ["_law_field_here","_law_found","_law_starts","_law_goals","_law_size","_law_cells","_law_prices_here","_law_changes","_law_numbers_here","_law_reached","_law_goal"] ["_law_field_here","_law_found","_law_starts","_law_goals"] (defScope s_law_told):=⟨rfl,rfl,rfl,by decide +kernel,rfl,by decide +kernel,by decide +kernel⟩
abbrev s_law:Stmt:=top 21
theorem sc_law:FnScope ["_law_script","_law_field_here","_law_size","_law_cells","_law_starts","_law_goals","_law_handed","_law_cell","_law_price","_law_through","_law_found","_law_again","_law_numbers_here","_law_more","_law_asked","_law_changes","_law_prices_here","_law_spots"] ["_law_script"] (defScope s_law):=⟨rfl,rfl,rfl,by decide +kernel,rfl,by decide +kernel,by decide +kernel⟩
structure Adr where
 f_beside:Addr
 f_over_and_under:Addr
 f_wave:Addr
 f_spread_wave:Addr
 f_steps:Addr
 f_priced:Addr
 f_in_size:Addr
 f_put_in:Addr
 f_way_to:Addr
 f_law_cell_at:Addr
 f_law_mixed:Addr
 f_law_prices:Addr
 f_law_field:Addr
 f_law_some:Addr
 f_law_steps:Addr
 f_law_numbers:Addr
 f_law_way:Addr
 f_law_told:Addr
 f_law:Addr
 cd_law:Addr
 pl_law:Addr
structure Txt (K:PySem.W.Frag) (mg:Str→Option Value) (t:Adr):Prop where
 F_beside:∃ fd,Fun K "beside" "beside" s_beside t.f_beside fd∧Binds K fd ["cell"] []
 g_beside:mg "beside" = some (.ref t.f_beside)
 F_over_and_under:∃ fd,Fun K "over_and_under" "over_and_under" s_over_and_under t.f_over_and_under fd∧Binds K fd ["cell","layers"] []
 g_over_and_under:mg "over_and_under" = some (.ref t.f_over_and_under)
 F_wave:∃ fd,Fun K "wave" "wave" s_wave t.f_wave fd∧Binds K fd ["size","price","through","starts","goals"] []
 g_wave:mg "wave" = some (.ref t.f_wave)
 F_spread_wave:∃ fd,Fun K "spread_wave" "spread_wave" s_spread_wave t.f_spread_wave fd∧Binds K fd ["size","price","through","starts"] []
 g_spread_wave:mg "spread_wave" = some (.ref t.f_spread_wave)
 F_steps:∃ fd,Fun K "steps" "steps" s_steps t.f_steps fd∧Binds K fd ["size","price","through","cell"] []
 g_steps:mg "steps" = some (.ref t.f_steps)
 F_priced:∃ fd,Fun K "priced" "priced" s_priced t.f_priced fd∧Binds K fd ["price","cells","more"] []
 g_priced:mg "priced" = some (.ref t.f_priced)
 F_in_size:∃ fd,Fun K "in_size" "in_size" s_in_size t.f_in_size fd∧Binds K fd ["size","cell"] []
 g_in_size:mg "in_size" = some (.ref t.f_in_size)
 F_put_in:∃ fd,Fun K "put_in" "put_in" s_put_in t.f_put_in fd∧Binds K fd ["waiting","entry"] []
 g_put_in:mg "put_in" = some (.ref t.f_put_in)
 F_way_to:∃ fd,Fun K "way_to" "way_to" s_way_to t.f_way_to fd∧Binds K fd ["cell","reached"] []
 g_way_to:mg "way_to" = some (.ref t.f_way_to)
 F_law_cell_at:∃ fd,Fun K "_law_cell_at" "_law_cell_at" s_law_cell_at t.f_law_cell_at fd∧Binds K fd ["_law_script","_law_k"] []
 g__law_cell_at:mg "_law_cell_at" = some (.ref t.f_law_cell_at)
 F_law_mixed:∃ fd,Fun K "_law_mixed" "_law_mixed" s_law_mixed t.f_law_mixed fd∧Binds K fd ["_law_cell","_law_k"] []
 g__law_mixed:mg "_law_mixed" = some (.ref t.f_law_mixed)
 F_law_prices:∃ fd,Fun K "_law_prices" "_law_prices" s_law_prices t.f_law_prices fd∧Binds K fd ["_law_cell","_law_cells","_law_mixed_here","_law_times"] []
 g__law_prices:mg "_law_prices" = some (.ref t.f_law_prices)
 F_law_field:∃ fd,Fun K "_law_field" "_law_field" s_law_field t.f_law_field fd∧Binds K fd ["_law_script"] []
 g__law_field:mg "_law_field" = some (.ref t.f_law_field)
 F_law_some:∃ fd,Fun K "_law_some" "_law_some" s_law_some t.f_law_some fd∧Binds K fd ["_law_script","_law_at","_law_cells"] []
 g__law_some:mg "_law_some" = some (.ref t.f_law_some)
 F_law_steps:∃ fd,Fun K "_law_steps" "_law_steps" s_law_steps t.f_law_steps fd∧Binds K fd ["_law_size","_law_prices_here","_law_changes","_law_cell"] []
 g__law_steps:mg "_law_steps" = some (.ref t.f_law_steps)
 F_law_numbers:∃ fd,Fun K "_law_numbers" "_law_numbers" s_law_numbers t.f_law_numbers fd∧Binds K fd ["_law_field_here","_law_numbers_here","_law_starts"] []
 g__law_numbers:mg "_law_numbers" = some (.ref t.f_law_numbers)
 F_law_way:∃ fd,Fun K "_law_way" "_law_way" s_law_way t.f_law_way fd∧Binds K fd ["_law_field_here","_law_line","_law_sums","_law_goal"] []
 g__law_way:mg "_law_way" = some (.ref t.f_law_way)
 F_law_told:∃ fd,Fun K "_law_told" "_law_told" s_law_told t.f_law_told fd∧Binds K fd ["_law_field_here","_law_found","_law_starts","_law_goals"] []
 g__law_told:mg "_law_told" = some (.ref t.f_law_told)
 hd_law:PySem.W.codeHdIn K t.cd_law t.pl_law = true
 nl_law:K.lookup t.pl_law = none
 F_law:∃ fd,FunC K "law" "law" s_law t.f_law fd t.cd_law t.pl_law∧Binds K fd ["_law_script"] []
 g_law:mg "law" = some (.ref t.f_law)
 n_isinstance:mg "isinstance" = none
 n_int:mg "int" = none
 n_bool:mg "bool" = none
 n_list:mg "list" = none
 n_tuple:mg "tuple" = none
 n_dict:mg "dict" = none
 n_len:mg "len" = none
 n_range:mg "range" = none
 n_min:mg "min" = none
 n_divmod:mg "divmod" = none
theorem txt_mk {K:PySem.W.Frag} {h:Heap} {mg:Str→Option Value} {f_beside f_over_and_under f_wave f_spread_wave f_steps f_priced f_in_size f_put_in f_way_to f_law_cell_at f_law_mixed f_law_prices f_law_field f_law_some f_law_steps f_law_numbers f_law_way f_law_told f_law cd_law pl_law:Addr}
  {od_beside an_beside od_over_and_under an_over_and_under od_wave an_wave od_spread_wave an_spread_wave od_steps an_steps od_priced an_priced od_in_size an_in_size od_put_in an_put_in od_way_to an_way_to od_law_cell_at an_law_cell_at od_law_mixed an_law_mixed od_law_prices an_law_prices od_law_field an_law_field od_law_some an_law_some od_law_steps an_law_steps od_law_numbers an_law_numbers od_law_way an_law_way od_law_told an_law_told od_law an_law:Option Addr} {sl_beside sl_over_and_under sl_wave sl_spread_wave sl_steps sl_priced sl_in_size sl_put_in sl_way_to sl_law_cell_at sl_law_mixed sl_law_prices sl_law_field sl_law_some sl_law_steps sl_law_numbers sl_law_way sl_law_told sl_law:Array (Option Value)} {oc_beside kV_beside dc_beside pm_beside cd_beside ct_beside oc_over_and_under kV_over_and_under dc_over_and_under pm_over_and_under cd_over_and_under ct_over_and_under oc_wave kV_wave dc_wave pm_wave cd_wave ct_wave oc_spread_wave kV_spread_wave dc_spread_wave pm_spread_wave cd_spread_wave ct_spread_wave oc_steps kV_steps dc_steps pm_steps cd_steps ct_steps oc_priced kV_priced dc_priced pm_priced cd_priced ct_priced oc_in_size kV_in_size dc_in_size pm_in_size cd_in_size ct_in_size oc_put_in kV_put_in dc_put_in pm_put_in cd_put_in ct_put_in oc_way_to kV_way_to dc_way_to pm_way_to cd_way_to ct_way_to oc_law_cell_at kV_law_cell_at dc_law_cell_at pm_law_cell_at cd_law_cell_at ct_law_cell_at oc_law_mixed kV_law_mixed dc_law_mixed pm_law_mixed cd_law_mixed ct_law_mixed oc_law_prices kV_law_prices dc_law_prices pm_law_prices cd_law_prices ct_law_prices oc_law_field kV_law_field dc_law_field pm_law_field cd_law_field ct_law_field oc_law_some kV_law_some dc_law_some pm_law_some cd_law_some ct_law_some oc_law_steps kV_law_steps dc_law_steps pm_law_steps cd_law_steps ct_law_steps oc_law_numbers kV_law_numbers dc_law_numbers pm_law_numbers cd_law_numbers ct_law_numbers oc_law_way kV_law_way dc_law_way pm_law_way cd_law_way ct_law_way oc_law_told kV_law_told dc_law_told pm_law_told cd_law_told ct_law_told oc_law kV_law dc_law pm_law ct_law:Value} {k1_law:Value} {k2_law:Option Addr} {kv_law:Array Value} {k4_law:Array (Option Value)} (X:K.In h) (G:h.Ns mainGlobals mg)
  (a_beside:PySem.W.nsIn K mainGlobals "beside" = some (some (.ref f_beside)))
  (l_beside:K.lookup f_beside = some ⟨oc_beside,od_beside,.func (PySem.W.fnOf "beside" "beside" (defArgs s_beside) (defBody s_beside) (defScope s_beside) .none kV_beside dc_beside pm_beside an_beside cd_beside ct_beside),sl_beside⟩)
  (cc_beside:PySem.W.codeIn K cd_beside "beside" = true)
  (k_beside:PySem.W.keepIn K (.ref f_beside) = true)
  (a_over_and_under:PySem.W.nsIn K mainGlobals "over_and_under" = some (some (.ref f_over_and_under)))
  (l_over_and_under:K.lookup f_over_and_under = some ⟨oc_over_and_under,od_over_and_under,.func (PySem.W.fnOf "over_and_under" "over_and_under" (defArgs s_over_and_under) (defBody s_over_and_under) (defScope s_over_and_under) .none kV_over_and_under dc_over_and_under pm_over_and_under an_over_and_under cd_over_and_under ct_over_and_under),sl_over_and_under⟩)
  (cc_over_and_under:PySem.W.codeIn K cd_over_and_under "over_and_under" = true)
  (k_over_and_under:PySem.W.keepIn K (.ref f_over_and_under) = true)
  (a_wave:PySem.W.nsIn K mainGlobals "wave" = some (some (.ref f_wave)))
  (l_wave:K.lookup f_wave = some ⟨oc_wave,od_wave,.func (PySem.W.fnOf "wave" "wave" (defArgs s_wave) (defBody s_wave) (defScope s_wave) .none kV_wave dc_wave pm_wave an_wave cd_wave ct_wave),sl_wave⟩)
  (cc_wave:PySem.W.codeIn K cd_wave "wave" = true)
  (k_wave:PySem.W.keepIn K (.ref f_wave) = true)
  (a_spread_wave:PySem.W.nsIn K mainGlobals "spread_wave" = some (some (.ref f_spread_wave)))
  (l_spread_wave:K.lookup f_spread_wave = some ⟨oc_spread_wave,od_spread_wave,.func (PySem.W.fnOf "spread_wave" "spread_wave" (defArgs s_spread_wave) (defBody s_spread_wave) (defScope s_spread_wave) .none kV_spread_wave dc_spread_wave pm_spread_wave an_spread_wave cd_spread_wave ct_spread_wave),sl_spread_wave⟩)
  (cc_spread_wave:PySem.W.codeIn K cd_spread_wave "spread_wave" = true)
  (k_spread_wave:PySem.W.keepIn K (.ref f_spread_wave) = true)
  (a_steps:PySem.W.nsIn K mainGlobals "steps" = some (some (.ref f_steps)))
  (l_steps:K.lookup f_steps = some ⟨oc_steps,od_steps,.func (PySem.W.fnOf "steps" "steps" (defArgs s_steps) (defBody s_steps) (defScope s_steps) .none kV_steps dc_steps pm_steps an_steps cd_steps ct_steps),sl_steps⟩)
  (cc_steps:PySem.W.codeIn K cd_steps "steps" = true)
  (k_steps:PySem.W.keepIn K (.ref f_steps) = true)
  (a_priced:PySem.W.nsIn K mainGlobals "priced" = some (some (.ref f_priced)))
  (l_priced:K.lookup f_priced = some ⟨oc_priced,od_priced,.func (PySem.W.fnOf "priced" "priced" (defArgs s_priced) (defBody s_priced) (defScope s_priced) .none kV_priced dc_priced pm_priced an_priced cd_priced ct_priced),sl_priced⟩)
  (cc_priced:PySem.W.codeIn K cd_priced "priced" = true)
  (k_priced:PySem.W.keepIn K (.ref f_priced) = true)
  (a_in_size:PySem.W.nsIn K mainGlobals "in_size" = some (some (.ref f_in_size)))
  (l_in_size:K.lookup f_in_size = some ⟨oc_in_size,od_in_size,.func (PySem.W.fnOf "in_size" "in_size" (defArgs s_in_size) (defBody s_in_size) (defScope s_in_size) .none kV_in_size dc_in_size pm_in_size an_in_size cd_in_size ct_in_size),sl_in_size⟩)
  (cc_in_size:PySem.W.codeIn K cd_in_size "in_size" = true)
  (k_in_size:PySem.W.keepIn K (.ref f_in_size) = true)
  (a_put_in:PySem.W.nsIn K mainGlobals "put_in" = some (some (.ref f_put_in)))
  (l_put_in:K.lookup f_put_in = some ⟨oc_put_in,od_put_in,.func (PySem.W.fnOf "put_in" "put_in" (defArgs s_put_in) (defBody s_put_in) (defScope s_put_in) .none kV_put_in dc_put_in pm_put_in an_put_in cd_put_in ct_put_in),sl_put_in⟩)
  (cc_put_in:PySem.W.codeIn K cd_put_in "put_in" = true)
  (k_put_in:PySem.W.keepIn K (.ref f_put_in) = true)
  (a_way_to:PySem.W.nsIn K mainGlobals "way_to" = some (some (.ref f_way_to)))
  (l_way_to:K.lookup f_way_to = some ⟨oc_way_to,od_way_to,.func (PySem.W.fnOf "way_to" "way_to" (defArgs s_way_to) (defBody s_way_to) (defScope s_way_to) .none kV_way_to dc_way_to pm_way_to an_way_to cd_way_to ct_way_to),sl_way_to⟩)
  (cc_way_to:PySem.W.codeIn K cd_way_to "way_to" = true)
  (k_way_to:PySem.W.keepIn K (.ref f_way_to) = true)
  (a_law_cell_at:PySem.W.nsIn K mainGlobals "_law_cell_at" = some (some (.ref f_law_cell_at)))
  (l_law_cell_at:K.lookup f_law_cell_at = some ⟨oc_law_cell_at,od_law_cell_at,.func (PySem.W.fnOf "_law_cell_at" "_law_cell_at" (defArgs s_law_cell_at) (defBody s_law_cell_at) (defScope s_law_cell_at) .none kV_law_cell_at dc_law_cell_at pm_law_cell_at an_law_cell_at cd_law_cell_at ct_law_cell_at),sl_law_cell_at⟩)
  (cc_law_cell_at:PySem.W.codeIn K cd_law_cell_at "_law_cell_at" = true)
  (k_law_cell_at:PySem.W.keepIn K (.ref f_law_cell_at) = true)
  (a_law_mixed:PySem.W.nsIn K mainGlobals "_law_mixed" = some (some (.ref f_law_mixed)))
  (l_law_mixed:K.lookup f_law_mixed = some ⟨oc_law_mixed,od_law_mixed,.func (PySem.W.fnOf "_law_mixed" "_law_mixed" (defArgs s_law_mixed) (defBody s_law_mixed) (defScope s_law_mixed) .none kV_law_mixed dc_law_mixed pm_law_mixed an_law_mixed cd_law_mixed ct_law_mixed),sl_law_mixed⟩)
  (cc_law_mixed:PySem.W.codeIn K cd_law_mixed "_law_mixed" = true)
  (k_law_mixed:PySem.W.keepIn K (.ref f_law_mixed) = true)
  (a_law_prices:PySem.W.nsIn K mainGlobals "_law_prices" = some (some (.ref f_law_prices)))
  (l_law_prices:K.lookup f_law_prices = some ⟨oc_law_prices,od_law_prices,.func (PySem.W.fnOf "_law_prices" "_law_prices" (defArgs s_law_prices) (defBody s_law_prices) (defScope s_law_prices) .none kV_law_prices dc_law_prices pm_law_prices an_law_prices cd_law_prices ct_law_prices),sl_law_prices⟩)
  (cc_law_prices:PySem.W.codeIn K cd_law_prices "_law_prices" = true)
  (k_law_prices:PySem.W.keepIn K (.ref f_law_prices) = true)
  (a_law_field:PySem.W.nsIn K mainGlobals "_law_field" = some (some (.ref f_law_field)))
  (l_law_field:K.lookup f_law_field = some ⟨oc_law_field,od_law_field,.func (PySem.W.fnOf "_law_field" "_law_field" (defArgs s_law_field) (defBody s_law_field) (defScope s_law_field) .none kV_law_field dc_law_field pm_law_field an_law_field cd_law_field ct_law_field),sl_law_field⟩)
  (cc_law_field:PySem.W.codeIn K cd_law_field "_law_field" = true)
  (k_law_field:PySem.W.keepIn K (.ref f_law_field) = true)
  (a_law_some:PySem.W.nsIn K mainGlobals "_law_some" = some (some (.ref f_law_some)))
  (l_law_some:K.lookup f_law_some = some ⟨oc_law_some,od_law_some,.func (PySem.W.fnOf "_law_some" "_law_some" (defArgs s_law_some) (defBody s_law_some) (defScope s_law_some) .none kV_law_some dc_law_some pm_law_some an_law_some cd_law_some ct_law_some),sl_law_some⟩)
  (cc_law_some:PySem.W.codeIn K cd_law_some "_law_some" = true)
  (k_law_some:PySem.W.keepIn K (.ref f_law_some) = true)
  (a_law_steps:PySem.W.nsIn K mainGlobals "_law_steps" = some (some (.ref f_law_steps)))
  (l_law_steps:K.lookup f_law_steps = some ⟨oc_law_steps,od_law_steps,.func (PySem.W.fnOf "_law_steps" "_law_steps" (defArgs s_law_steps) (defBody s_law_steps) (defScope s_law_steps) .none kV_law_steps dc_law_steps pm_law_steps an_law_steps cd_law_steps ct_law_steps),sl_law_steps⟩)
  (cc_law_steps:PySem.W.codeIn K cd_law_steps "_law_steps" = true)
  (k_law_steps:PySem.W.keepIn K (.ref f_law_steps) = true)
  (a_law_numbers:PySem.W.nsIn K mainGlobals "_law_numbers" = some (some (.ref f_law_numbers)))
  (l_law_numbers:K.lookup f_law_numbers = some ⟨oc_law_numbers,od_law_numbers,.func (PySem.W.fnOf "_law_numbers" "_law_numbers" (defArgs s_law_numbers) (defBody s_law_numbers) (defScope s_law_numbers) .none kV_law_numbers dc_law_numbers pm_law_numbers an_law_numbers cd_law_numbers ct_law_numbers),sl_law_numbers⟩)
  (cc_law_numbers:PySem.W.codeIn K cd_law_numbers "_law_numbers" = true)
  (k_law_numbers:PySem.W.keepIn K (.ref f_law_numbers) = true)
  (a_law_way:PySem.W.nsIn K mainGlobals "_law_way" = some (some (.ref f_law_way)))
  (l_law_way:K.lookup f_law_way = some ⟨oc_law_way,od_law_way,.func (PySem.W.fnOf "_law_way" "_law_way" (defArgs s_law_way) (defBody s_law_way) (defScope s_law_way) .none kV_law_way dc_law_way pm_law_way an_law_way cd_law_way ct_law_way),sl_law_way⟩)
  (cc_law_way:PySem.W.codeIn K cd_law_way "_law_way" = true)
  (k_law_way:PySem.W.keepIn K (.ref f_law_way) = true)
  (a_law_told:PySem.W.nsIn K mainGlobals "_law_told" = some (some (.ref f_law_told)))
  (l_law_told:K.lookup f_law_told = some ⟨oc_law_told,od_law_told,.func (PySem.W.fnOf "_law_told" "_law_told" (defArgs s_law_told) (defBody s_law_told) (defScope s_law_told) .none kV_law_told dc_law_told pm_law_told an_law_told cd_law_told ct_law_told),sl_law_told⟩)
  (cc_law_told:PySem.W.codeIn K cd_law_told "_law_told" = true)
  (k_law_told:PySem.W.keepIn K (.ref f_law_told) = true)
  (a_law:PySem.W.nsIn K mainGlobals "law" = some (some (.ref f_law)))
  (l_law:K.lookup f_law = some ⟨oc_law,od_law,.func (PySem.W.fnOf "law" "law" (defArgs s_law) (defBody s_law) (defScope s_law) .none kV_law dc_law pm_law an_law (.ref cd_law) ct_law),sl_law⟩)
  (cc_law:PySem.W.codeIn K (.ref cd_law) "law" = true)
  (k_law:PySem.W.keepIn K (.ref f_law) = true)
  (ko_law:K.lookup cd_law = some ⟨k1_law,k2_law,.fields kv_law,k4_law⟩)
  (kp_law:kv_law[11]? = some (.ref pl_law))
  (ch_law:PySem.W.codeHdIn K cd_law pl_law = true)
  (nl_law:K.lookup pl_law = none)
  (tb_law:h.get? pl_law = some (PySem.W.tabObj #[]))
  (n_isinstance:PySem.W.nsIn K mainGlobals "isinstance" = some none)
  (n_int:PySem.W.nsIn K mainGlobals "int" = some none)
  (n_bool:PySem.W.nsIn K mainGlobals "bool" = some none)
  (n_list:PySem.W.nsIn K mainGlobals "list" = some none)
  (n_tuple:PySem.W.nsIn K mainGlobals "tuple" = some none)
  (n_dict:PySem.W.nsIn K mainGlobals "dict" = some none)
  (n_len:PySem.W.nsIn K mainGlobals "len" = some none)
  (n_range:PySem.W.nsIn K mainGlobals "range" = some none)
  (n_min:PySem.W.nsIn K mainGlobals "min" = some none)
  (n_divmod:PySem.W.nsIn K mainGlobals "divmod" = some none) :
  ∃ t:Adr,Txt K mg t∧∀ p∈[t.pl_law],h.get? p = some (PySem.W.tabObj #[]) :=
 ⟨{ f_beside:=f_beside,f_over_and_under:=f_over_and_under,f_wave:=f_wave,f_spread_wave:=f_spread_wave,f_steps:=f_steps,f_priced:=f_priced,f_in_size:=f_in_size,f_put_in:=f_put_in,f_way_to:=f_way_to,f_law_cell_at:=f_law_cell_at,f_law_mixed:=f_law_mixed,f_law_prices:=f_law_prices,f_law_field:=f_law_field,f_law_some:=f_law_some,f_law_steps:=f_law_steps,f_law_numbers:=f_law_numbers,f_law_way:=f_law_way,f_law_told:=f_law_told,f_law:=f_law,cd_law:=cd_law,pl_law:=pl_law },{ F_beside:=⟨_,fun_mk (st:=s_beside) l_beside cc_beside k_beside,(fun_mk (st:=s_beside) l_beside cc_beside k_beside).binds (ps:=["cell"]) fun _ _ _ _ _ _ us hl => match us,hl with | [_],_ => rfl⟩,g_beside:=PySem.W.mg_of X G a_beside,F_over_and_under:=⟨_,fun_mk (st:=s_over_and_under) l_over_and_under cc_over_and_under k_over_and_under,(fun_mk (st:=s_over_and_under) l_over_and_under cc_over_and_under k_over_and_under).binds (ps:=["cell","layers"]) fun _ _ _ _ _ _ us hl => match us,hl with | [_,_],_ => rfl⟩,g_over_and_under:=PySem.W.mg_of X G a_over_and_under,F_wave:=⟨_,fun_mk (st:=s_wave) l_wave cc_wave k_wave,(fun_mk (st:=s_wave) l_wave cc_wave k_wave).binds (ps:=["size","price","through","starts","goals"]) fun _ _ _ _ _ _ us hl => match us,hl with | [_,_,_,_,_],_ => rfl⟩,g_wave:=PySem.W.mg_of X G a_wave,F_spread_wave:=⟨_,fun_mk (st:=s_spread_wave) l_spread_wave cc_spread_wave k_spread_wave,(fun_mk (st:=s_spread_wave) l_spread_wave cc_spread_wave k_spread_wave).binds (ps:=["size","price","through","starts"]) fun _ _ _ _ _ _ us hl => match us,hl with | [_,_,_,_],_ => rfl⟩,g_spread_wave:=PySem.W.mg_of X G a_spread_wave,F_steps:=⟨_,fun_mk (st:=s_steps) l_steps cc_steps k_steps,(fun_mk (st:=s_steps) l_steps cc_steps k_steps).binds (ps:=["size","price","through","cell"]) fun _ _ _ _ _ _ us hl => match us,hl with | [_,_,_,_],_ => rfl⟩,g_steps:=PySem.W.mg_of X G a_steps,F_priced:=⟨_,fun_mk (st:=s_priced) l_priced cc_priced k_priced,(fun_mk (st:=s_priced) l_priced cc_priced k_priced).binds (ps:=["price","cells","more"]) fun _ _ _ _ _ _ us hl => match us,hl with | [_,_,_],_ => rfl⟩,g_priced:=PySem.W.mg_of X G a_priced,F_in_size:=⟨_,fun_mk (st:=s_in_size) l_in_size cc_in_size k_in_size,(fun_mk (st:=s_in_size) l_in_size cc_in_size k_in_size).binds (ps:=["size","cell"]) fun _ _ _ _ _ _ us hl => match us,hl with | [_,_],_ => rfl⟩,g_in_size:=PySem.W.mg_of X G a_in_size,F_put_in:=⟨_,fun_mk (st:=s_put_in) l_put_in cc_put_in k_put_in,(fun_mk (st:=s_put_in) l_put_in cc_put_in k_put_in).binds (ps:=["waiting","entry"]) fun _ _ _ _ _ _ us hl => match us,hl with | [_,_],_ => rfl⟩,g_put_in:=PySem.W.mg_of X G a_put_in,F_way_to:=⟨_,fun_mk (st:=s_way_to) l_way_to cc_way_to k_way_to,(fun_mk (st:=s_way_to) l_way_to cc_way_to k_way_to).binds (ps:=["cell","reached"]) fun _ _ _ _ _ _ us hl => match us,hl with | [_,_],_ => rfl⟩,g_way_to:=PySem.W.mg_of X G a_way_to,F_law_cell_at:=⟨_,fun_mk (st:=s_law_cell_at) l_law_cell_at cc_law_cell_at k_law_cell_at,(fun_mk (st:=s_law_cell_at) l_law_cell_at cc_law_cell_at k_law_cell_at).binds (ps:=["_law_script","_law_k"]) fun _ _ _ _ _ _ us hl => match us,hl with | [_,_],_ => rfl⟩,g__law_cell_at:=PySem.W.mg_of X G a_law_cell_at,F_law_mixed:=⟨_,fun_mk (st:=s_law_mixed) l_law_mixed cc_law_mixed k_law_mixed,(fun_mk (st:=s_law_mixed) l_law_mixed cc_law_mixed k_law_mixed).binds (ps:=["_law_cell","_law_k"]) fun _ _ _ _ _ _ us hl => match us,hl with | [_,_],_ => rfl⟩,g__law_mixed:=PySem.W.mg_of X G a_law_mixed,F_law_prices:=⟨_,fun_mk (st:=s_law_prices) l_law_prices cc_law_prices k_law_prices,(fun_mk (st:=s_law_prices) l_law_prices cc_law_prices k_law_prices).binds (ps:=["_law_cell","_law_cells","_law_mixed_here","_law_times"]) fun _ _ _ _ _ _ us hl => match us,hl with | [_,_,_,_],_ => rfl⟩,g__law_prices:=PySem.W.mg_of X G a_law_prices,F_law_field:=⟨_,fun_mk (st:=s_law_field) l_law_field cc_law_field k_law_field,(fun_mk (st:=s_law_field) l_law_field cc_law_field k_law_field).binds (ps:=["_law_script"]) fun _ _ _ _ _ _ us hl => match us,hl with | [_],_ => rfl⟩,g__law_field:=PySem.W.mg_of X G a_law_field,F_law_some:=⟨_,fun_mk (st:=s_law_some) l_law_some cc_law_some k_law_some,(fun_mk (st:=s_law_some) l_law_some cc_law_some k_law_some).binds (ps:=["_law_script","_law_at","_law_cells"]) fun _ _ _ _ _ _ us hl => match us,hl with | [_,_,_],_ => rfl⟩,g__law_some:=PySem.W.mg_of X G a_law_some,F_law_steps:=⟨_,fun_mk (st:=s_law_steps) l_law_steps cc_law_steps k_law_steps,(fun_mk (st:=s_law_steps) l_law_steps cc_law_steps k_law_steps).binds (ps:=["_law_size","_law_prices_here","_law_changes","_law_cell"]) fun _ _ _ _ _ _ us hl => match us,hl with | [_,_,_,_],_ => rfl⟩,g__law_steps:=PySem.W.mg_of X G a_law_steps,F_law_numbers:=⟨_,fun_mk (st:=s_law_numbers) l_law_numbers cc_law_numbers k_law_numbers,(fun_mk (st:=s_law_numbers) l_law_numbers cc_law_numbers k_law_numbers).binds (ps:=["_law_field_here","_law_numbers_here","_law_starts"]) fun _ _ _ _ _ _ us hl => match us,hl with | [_,_,_],_ => rfl⟩,g__law_numbers:=PySem.W.mg_of X G a_law_numbers,F_law_way:=⟨_,fun_mk (st:=s_law_way) l_law_way cc_law_way k_law_way,(fun_mk (st:=s_law_way) l_law_way cc_law_way k_law_way).binds (ps:=["_law_field_here","_law_line","_law_sums","_law_goal"]) fun _ _ _ _ _ _ us hl => match us,hl with | [_,_,_,_],_ => rfl⟩,g__law_way:=PySem.W.mg_of X G a_law_way,F_law_told:=⟨_,fun_mk (st:=s_law_told) l_law_told cc_law_told k_law_told,(fun_mk (st:=s_law_told) l_law_told cc_law_told k_law_told).binds (ps:=["_law_field_here","_law_found","_law_starts","_law_goals"]) fun _ _ _ _ _ _ us hl => match us,hl with | [_,_,_,_],_ => rfl⟩,g__law_told:=PySem.W.mg_of X G a_law_told,hd_law:=ch_law,nl_law:=nl_law,F_law:=⟨_,funC_mk (st:=s_law) l_law cc_law k_law ch_law,(funC_mk (st:=s_law) l_law cc_law k_law ch_law).binds (ps:=["_law_script"]) fun _ _ _ _ _ _ us hl => match us,hl with | [_],_ => rfl⟩,g_law:=PySem.W.mg_of X G a_law,n_isinstance:=PySem.W.mg_none_of X G n_isinstance,n_int:=PySem.W.mg_none_of X G n_int,n_bool:=PySem.W.mg_none_of X G n_bool,n_list:=PySem.W.mg_none_of X G n_list,n_tuple:=PySem.W.mg_none_of X G n_tuple,n_dict:=PySem.W.mg_none_of X G n_dict,n_len:=PySem.W.mg_none_of X G n_len,n_range:=PySem.W.mg_none_of X G n_range,n_min:=PySem.W.mg_none_of X G n_min,n_divmod:=PySem.W.mg_none_of X G n_divmod },List.forall_mem_cons.mpr ⟨tb_law,fun _ h => nomatch h⟩⟩
theorem iteB {b:Bool} {A B:Prop} (h1:b = true→A) (h2:b = false→B):if b = true then A else B:=by
 cases b
 ·rw [if_neg Bool.false_ne_true]; exact h2 rfl
 ·rw [if_pos rfl]; exact h1 rfl
theorem iteNB {b:Bool} {A B:Prop} (h1:b = false→A) (h2:b = true→B):if (!b) = true then A else B:=by
 cases b
 ·exact (if_pos (show (!false) = true from rfl))▸h1 rfl
 ·rw [if_neg (by decide)]; exact h2 rfl
theorem iteD {c A B:Prop} [Decidable c] (h1:c→A) (h2:¬ c→B):if decide c = true then A else B:=by
 by_cases h:c
 ·rw [if_pos (decide_eq_true h)]; exact h1 h
 ·rw [if_neg (by simp [h])]; exact h2 h
theorem same_new {p:Addr} {H H':Hp} {o:HO} (x:Same H H') (hp:H' p = none):Same H (L2.upd H' p o):=fun b u e => by
 have:=x b u e
 rw [upd_ne (ne_of_none this hp)]; exact this
theorem _root_.L2.Same.nn {H H':Hp} (x:Same H H') {p:Addr} (hp:H' p = none):H p = none:=by
 cases e:H p with
 | none => rfl
 | some u => rw [x _ _ e] at hp; cases hp
theorem _root_.L2.OffP.refl (a:Addr) (H:Hp):OffP a H H:=fun _ _ _ e => e
theorem _root_.L2.OffP.trans {a:Addr} {H H1 H2:Hp} (x:OffP a H H1) (y:OffP a H1 H2):OffP a H H2:=fun b o n e => y b o n (x b o n e)
theorem _root_.L2.OffP.of {a:Addr} {H H':Hp} (x:Same H H'):OffP a H H':=fun b o _ e => x b o e
theorem _root_.L2.OffP.upd {a:Addr} {H:Hp} (o:HO):OffP a H (upd H a o):=fun b u n e => by rw [upd_ne n]; exact e
theorem _root_.L2.OffP.nn {a:Addr} {H H':Hp} (x:OffP a H H') {p:Addr} (hp:H' p = none) (hn:p≠a):H p = none:=by
 cases e:H p with
 | none => rfl
 | some u => rw [x _ _ hn e] at hp; cases hp
abbrev Cl:=Int × Int × Int
abbrev k3 (c:Cl):List Key:=[.inl c.1,.inl c.2.1,.inl c.2.2]
abbrev v3 (c:Cl):List V:=[.int c.1,.int c.2.1,.int c.2.2]
def Cells (H:Hp) (ps:List Addr) (cl:List Cl):Prop:=ps.length = cl.length∧∀ (i:Nat) (p:Addr) (c:Cl),ps[i]? = some p→cl[i]? = some c→H p = some (.tup (v3 c))
theorem Cells.mono {H H':Hp} {ps:List Addr} {cl:List Cl} (C:Cells H ps cl) (k:∀ p xs,H p = some (.tup xs)→H' p = some (.tup xs)):Cells H' ps cl:=⟨C.1,fun i p c h1 h2 => k _ _ (C.2 i p c h1 h2)⟩
theorem Cells.nil {H:Hp}:Cells H [] []:=⟨rfl,fun i p c h => by cases h⟩
theorem Cells.snoc {H:Hp} {ps:List Addr} {cl:List Cl} {p:Addr} {c:Cl} (C:Cells H ps cl) (hp:H p = some (.tup (v3 c))):Cells H (ps ++ [p]) (cl ++ [c]):=⟨by rw [List.length_append,List.length_append,C.1]; rfl,fun i q d h1 h2 => by
 by_cases h:i < ps.length
 ·rw [List.getElem?_append_left h] at h1
  rw [List.getElem?_append_left (C.1▸h)] at h2
  exact C.2 i q d h1 h2
 ·rw [List.getElem?_append_right (by omega)] at h1
  rw [List.getElem?_append_right (by rw [← C.1]; omega),← C.1] at h2
  generalize i - ps.length = m at h1 h2
  cases m with
  | zero => cases h1; cases h2; exact hp
  | succ m => cases h1⟩
theorem Cells.at_ {H:Hp} {ps:List Addr} {cl:List Cl} (C:Cells H ps cl) {i:Nat} {p:Addr} (h:ps[i]? = some p):∃ c,cl[i]? = some c∧H p = some (.tup (v3 c)):=by
 have h1:=(List.getElem?_eq_some_iff.mp h).1
 have h2:i < cl.length:=by rw [← C.1]; exact h1
 exact ⟨_,List.getElem?_eq_getElem h2,C.2 i _ _ h (List.getElem?_eq_getElem h2)⟩
theorem k3_inj {c d:Cl} (h:k3 c = k3 d):c = d:=by
 obtain ⟨a,b,e⟩:=c
 obtain ⟨a',b',e'⟩:=d
 simp only [k3,List.cons.injEq,Sum.inl.injEq,and_true] at h
 obtain ⟨rfl,rfl,rfl⟩:=h
 rfl
section
variable {P:Program} {w:World} {K:PySem.W.Frag} {mg:Str→Option Value} {base:Heap} {t:Adr}
def spCellAt (K:PySem.W.Frag):Sp:=fun vs H Q _ => ∃ (a:Addr) (ns:List Int) (k:Int),vs = [.ref a,.int k]∧SqL K H a (ns.map V.int)∧0≤k∧k < 1000∧ns.length≤63∧Q (.int (ns.getD k.toNat 0)) H
theorem ok_law_cell_at (T:Txt K mg t):GoodF P w K mg base 1 "_law_cell_at" ["_law_script","_law_k"] (spCellAt K):=by
 obtain ⟨fd,F,b⟩:=T.F_law_cell_at
 refine ⟨_,fd,F.okX sc_law_cell_at (fun vs H Q E h => ?_) (fun cdv A outer s H vs Q E hr h => ?_),b,F.kp,T.g__law_cell_at⟩
 ·obtain ⟨a,ns,k,rfl,_⟩:=h
  rfl
 ·obtain ⟨a,ns,k,rfl,hq,h0,h1,hl,q⟩:=h
  refine ⟨_,(pss_cons (ps_if (pt_cmpR op_lt (pv 1) (pe_callB call_len_seq (by rfl) T.n_len b_len (pa_cons (pv 0) pa_nil)) (nomark _)) (pss_one (ps_ret (pe_ix ix_list (pv 0) (pv 1) (fun _ _ => rfl)))) pss_nil)
   (pss_one (ps_ret pe_int))),?_⟩
  refine ⟨_,rfl,_,rfl,a,_,rfl,.inl hq,k,_,rfl,rfl,_,rfl,iteD (fun hlt => ?_) fun hge => ?_⟩
  ·rw [List.length_map] at hlt
   have e:((k.toNat:Nat):Int) = k:=by omega
   refine ⟨_,rfl,_,rfl,a,_,k,.int (ns.getD k.toNat 0),rfl,rfl,hq,?_,q⟩
   have hlt2:k.toNat < ns.length:=by omega
   have hz:(ns.map V.int)[k.toNat]? = some (V.int (ns.getD k.toNat 0)):=by
    rw [List.getElem?_map,List.getD_eq_getElem?_getD,List.getElem?_eq_getElem hlt2]; rfl
   have hz2:=atI_nat hz
   rwa [e] at hz2
  ·rw [List.length_map] at hge
   have e:ns.getD k.toNat 0 = 0:=by rw [List.getD_eq_getElem?_getD,List.getElem?_eq_none (by omega)]; rfl
   rw [e] at q
   exact q
def spMix:Sp:=fun vs H Q _ => ∃ c k,vs = [.int c,.int k]∧∀ r,0≤r→r < 2147483647→Q (.int r) H
theorem ok_law_mixed (T:Txt K mg t):GoodF P w K mg base 1 "_law_mixed" ["_law_cell","_law_k"] spMix:=by
 obtain ⟨fd,F,b⟩:=T.F_law_mixed
 refine ⟨_,fd,F.okX sc_law_mixed (fun vs H Q E h => ?_) (fun cdv A outer s H vs Q E hr h => ?_),b,F.kp,T.g__law_mixed⟩
 ·obtain ⟨c,k,rfl,_⟩:=h
  rfl
 ·obtain ⟨c,k,rfl,q⟩:=h
  refine ⟨_,(pss_cons (ps_set (i:=2) sc_law_mixed.nd rfl (Or.inl rfl) (pe_op op_mod (pe_op op_mul (pe_op op_add (pe_op op_add (pe_op op_mod (pv 0) pe_int) (pe_op op_mul pe_int (pv 1))) pe_int) pe_int) pe_int))
   (pss_cons (ps_set (i:=2) sc_law_mixed.nd rfl (Or.inl rfl) (pe_op op_mod (pe_op op_mul (pv 2) (pe_op op_add (pe_op op_fdiv (pv 2) pe_int) pe_int)) pe_int))
   (pss_one (ps_ret (pe_op op_mod (pe_op op_mul (pe_op op_mod (pe_op op_add (pv 2) (pe_op op_mul pe_int (pv 1))) pe_int) (pe_op op_add (pe_op op_fdiv (pv 2) pe_int) pe_int)) pe_int))))),?_⟩
  refine ⟨_,rfl,c,2147483647,rfl,rfl,(by show (0:Int) < 2147483647; decide),_,rfl,7919,k,rfl,rfl,.inl ⟨by decide,by decide⟩,_,_,rfl,rfl,_,1,rfl,rfl,_,48271,rfl,rfl,.inr ⟨by decide,by decide⟩,_,_,rfl,rfl,(by show (0:Int) < 2147483647; decide),?_⟩
  have h0:0≤(c % 2147483647 + 7919 * k + 1) * 48271 % 2147483647:=Int.emod_nonneg _ (by decide)
  have h1:(c % 2147483647 + 7919 * k + 1) * 48271 % 2147483647 < 2147483647:=Int.emod_lt_of_pos _ (by decide)
  obtain ⟨n,hn⟩:∃ n,n = (c % 2147483647 + 7919 * k + 1) * 48271 % 2147483647:=⟨_,rfl⟩
  rw [← hn] at h0 h1
  refine ⟨_,rfl,_,rfl,n,1009,congrArg V.int hn.symm,rfl,⟨by decide,by decide⟩,_,_,rfl,rfl,n,_,congrArg V.int hn.symm,rfl,.inl ⟨by omega,by omega⟩,_,_,rfl,rfl,(by show (0:Int) < 2147483647; decide),?_⟩
  have g0:0≤n * (n / 1009 + 69621) % 2147483647:=Int.emod_nonneg _ (by decide)
  have g1:n * (n / 1009 + 69621) % 2147483647 < 2147483647:=Int.emod_lt_of_pos _ (by decide)
  obtain ⟨m,hm⟩:∃ m,m = n * (n / 1009 + 69621) % 2147483647:=⟨_,rfl⟩
  rw [← hm] at g0 g1
  have u0:0≤(m + 104729 * k) % 2147483647:=Int.emod_nonneg _ (by decide)
  have u1:(m + 104729 * k) % 2147483647 < 2147483647:=Int.emod_lt_of_pos _ (by decide)
  refine ⟨_,rfl,_,rfl,104729,k,rfl,rfl,.inl ⟨by decide,by decide⟩,m,_,congrArg V.int hm.symm,rfl,_,2147483647,rfl,rfl,(by show (0:Int) < 2147483647; decide),_,rfl,m,2003,congrArg V.int hm.symm,rfl,⟨by decide,by decide⟩,_,16807,rfl,rfl,_,_,rfl,rfl,.inl ⟨by omega,by omega⟩,_,_,rfl,rfl,(by show (0:Int) < 2147483647; decide),?_⟩
  exact q _ (Int.emod_nonneg _ (by decide)) (Int.emod_lt_of_pos _ (by decide))
def four (c:Cl):List Cl:=[(c.1 - 1,c.2.1,c.2.2),(c.1 + 1,c.2.1,c.2.2),(c.1,c.2.1 - 1,c.2.2),(c.1,c.2.1 + 1,c.2.2)]
def spBeside:Sp:=fun vs H Q _ => ∃ (p:Addr) (c:Cl),vs = [.ref p]∧H p = some (.tup (v3 c))∧∀ D ps H',Same H H'→H D = none→H' D = some (.lst (ps.map V.ref))→Cells H' ps (four c)→Q (.ref D) H'
theorem ok_beside (T:Txt K mg t):GoodF P w K mg base 1 "beside" ["cell"] spBeside:=by
 obtain ⟨fd,F,b⟩:=T.F_beside
 refine ⟨_,fd,F.okX sc_beside (fun vs H Q E h => ?_) (fun cdv A outer s H vs Q E hr h => ?_),b,F.kp,T.g_beside⟩
 ·obtain ⟨p,c,rfl,_⟩:=h
  rfl
 ·obtain ⟨p,⟨x,y,z⟩,rfl,hp,q⟩:=h
  refine ⟨_,(pss_cons (ps_set (i:=1) sc_beside.nd rfl (Or.inl rfl) (pe_ix ix_tup (pv 0) pe_int (fun _ _ => rfl)))
   (pss_cons (ps_set (i:=2) sc_beside.nd rfl (Or.inl rfl) (pe_ix ix_tup (pv 0) pe_int (fun _ _ => rfl)))
   (pss_cons (ps_set (i:=3) sc_beside.nd rfl (Or.inl rfl) (pe_ix ix_tup (pv 0) pe_int (fun _ _ => rfl)))
   (pss_one (ps_ret (pe_lst (pa_cons (pe_tup (pa_cons (pe_op op_sub (pv 1) pe_int) (pa_cons (pv 2) (pa_cons (pv 3) pa_nil)))) (pa_cons (pe_tup (pa_cons (pe_op op_add (pv 1) pe_int) (pa_cons (pv 2) (pa_cons (pv 3) pa_nil)))) (pa_cons (pe_tup (pa_cons (pv 1) (pa_cons (pe_op op_sub (pv 2) pe_int) (pa_cons (pv 3) pa_nil)))) (pa_cons (pe_tup (pa_cons (pv 1) (pa_cons (pe_op op_add (pv 2) pe_int) (pa_cons (pv 3) pa_nil)))) pa_nil)))))))))),?_⟩
  have S:SqT K H p [.int x,.int y,.int z]:=SqT.of hp
  refine ⟨_,rfl,p,_,0,.int x,rfl,rfl,S,rfl,_,rfl,p,_,1,.int y,rfl,rfl,S,rfl,_,rfl,p,_,2,.int z,rfl,rfl,S,rfl,?_⟩
  refine ⟨_,rfl,x,1,rfl,rfl,_,rfl,_,rfl,sL3,fun p1 h1 => ?_⟩
  have s1:=same_new (o:=.tup [.int (x - 1),.int y,.int z]) (Same.refl H) h1
  have e1:upd H p1 (.tup [.int (x - 1),.int y,.int z]) p1 = some (.tup [.int (x - 1),.int y,.int z]):=upd_same
  generalize upd H p1 (.tup [.int (x - 1),.int y,.int z]) = H1 at s1 e1 ⊢
  refine ⟨_,rfl,x,1,rfl,rfl,_,rfl,_,rfl,sL3,fun p2 h2 => ?_⟩
  have s2:=same_new (o:=.tup [.int (x + 1),.int y,.int z]) (Same.refl H1) h2
  have e2:upd H1 p2 (.tup [.int (x + 1),.int y,.int z]) p2 = some (.tup [.int (x + 1),.int y,.int z]):=upd_same
  generalize upd H1 p2 (.tup [.int (x + 1),.int y,.int z]) = H2 at s2 e2 ⊢
  refine ⟨_,rfl,_,rfl,y,1,rfl,rfl,_,rfl,sL3,fun p3 h3 => ?_⟩
  have s3:=same_new (o:=.tup [.int x,.int (y - 1),.int z]) (Same.refl H2) h3
  have e3:upd H2 p3 (.tup [.int x,.int (y - 1),.int z]) p3 = some (.tup [.int x,.int (y - 1),.int z]):=upd_same
  generalize upd H2 p3 (.tup [.int x,.int (y - 1),.int z]) = H3 at s3 e3 ⊢
  refine ⟨_,rfl,_,rfl,y,1,rfl,rfl,_,rfl,sL3,fun p4 h4 => ?_⟩
  have s4:=same_new (o:=.tup [.int x,.int (y + 1),.int z]) (Same.refl H3) h4
  have e4:upd H3 p4 (.tup [.int x,.int (y + 1),.int z]) p4 = some (.tup [.int x,.int (y + 1),.int z]):=upd_same
  generalize upd H3 p4 (.tup [.int x,.int (y + 1),.int z]) = H4 at s4 e4 ⊢
  refine ⟨sL4,fun D hD => ?_⟩
  have s5:=same_new (o:=.lst [.ref p1,.ref p2,.ref p3,.ref p4]) (Same.refl H4) hD
  have s04:=Same.trans s1 (Same.trans s2 (Same.trans s3 s4))
  refine q D [p1,p2,p3,p4] _ (Same.trans s04 s5) (Same.nn s04 hD) upd_same ⟨rfl,fun i r c g1 g2 => ?_⟩
  match i with
  | 0 => cases g1; cases g2; exact s5 _ _ (s4 _ _ (s3 _ _ (s2 _ _ e1)))
  | 1 => cases g1; cases g2; exact s5 _ _ (s4 _ _ (s3 _ _ e2))
  | 2 => cases g1; cases g2; exact s5 _ _ (s4 _ _ e3)
  | 3 => cases g1; cases g2; exact s5 _ _ e4
  | i + 4 => cases g1
def overs (c:Cl) (n:Nat):List Cl:=((List.range n).filter fun (k:Nat) => decide ((k:Int)≠c.2.2)).map fun (k:Nat) => (c.1,c.2.1,(k:Int))
theorem overs_snoc (c:Cl) (n:Nat):overs c (n + 1) = overs c n ++ (if (n:Int)≠c.2.2 then [(c.1,c.2.1,(n:Int))] else []):=by
 unfold overs
 rw [List.range_succ,List.filter_append,List.map_append]
 congr 1
 by_cases h:(n:Int) = c.2.2 <;> simp [h]
theorem Cells.add {H:Hp} {ps:List Addr} {cl:List Cl} {p D:Addr} {ys ys':List V} {c:Cl} (C:Cells H ps cl) (hp:H p = none) (hD:H D = some (.lst ys)):Cells (upd (upd H p (.tup (v3 c))) D (.lst ys')) (ps ++ [p]) (cl ++ [c]):=by
 have npD:p≠D:=fun z => by rw [z,hD] at hp; cases hp
 have k:Cells (upd (upd H p (.tup (v3 c))) D (.lst ys')) ps cl:=⟨C.1,fun i q d h1 h2 => by
  have e:=C.2 i q d h1 h2
  have n1:q≠D:=fun z => by rw [z,hD] at e; cases e
  rw [upd_ne n1,upd_ne (ne_of_none e hp)]; exact e⟩
 exact k.snoc (by rw [upd_ne npD]; exact upd_same)
def spOver:Sp:=fun vs H Q _ => ∃ (p:Addr) (c:Cl) (l:Nat),vs = [.ref p,.int l]∧H p = some (.tup (v3 c))∧l≤100∧∀ D ps H',Same H H'→H D = none→H' D = some (.lst (ps.map V.ref))→Cells H' ps (overs c l)→Q (.ref D) H'
theorem ok_over_and_under (T:Txt K mg t):GoodF P w K mg base 1 "over_and_under" ["cell","layers"] spOver:=by
 obtain ⟨fd,F,b⟩:=T.F_over_and_under
 refine ⟨_,fd,F.okX sc_over_and_under (fun vs H Q E h => ?_) (fun cdv A outer s H vs Q E hr h => ?_),b,F.kp,T.g_over_and_under⟩
 ·obtain ⟨p,c,l,rfl,_⟩:=h
  rfl
 ·obtain ⟨p,⟨x,y,z⟩,l,rfl,hp,hl,q⟩:=h
  refine ⟨_,(pss_one (ps_ret (pe_comp (own:=["z"]) (cs_one (n:="cell") (N:=["cell","layers"]) rfl (by rfl) (by rfl) rfl (by rfl) (by decide +kernel) (by decide +kernel) (by decide +kernel)) (pi_range1 rfl T.n_range (pa_cons (pv 1) pa_nil)) (fun _ _ _ _ _ => pg_name (i:=2) (by show (["cell","layers","z"]:List Str).Nodup; decide +kernel) rfl (Or.inl rfl)) (fun _ _ _ _ _ => pf_one (pt_cmpR op_ne (pv 2) (pe_ix (ix_tupK (K:=K) rfl) (pv 0) pe_int (fun _ _ => rfl)) (nomark _))) (fun _ _ _ _ _ => (pe_tup (pa_cons (pe_ix (ix_tupK (K:=K) rfl) (pv 0) pe_int (fun _ _ => rfl)) (pa_cons (pe_ix (ix_tupK (K:=K) rfl) (pv 0) pe_int (fun _ _ => rfl)) (pa_cons (pv 2) pa_nil)))))))),?_⟩
  refine ⟨_,rfl,(l:Int),rfl,by omega,by omega,comp_rangeN (lo:=0) (fun D i ys H' => H D = none∧Same H H'∧H' D = some (.lst ys)∧ys.length≤i∧∃ ps:List Addr,ys = ps.map V.ref∧Cells H' ps (overs (x,y,z) i)) (by rw [Int.toNat_natCast]; exact Nat.le_trans hl (by decide)) (fun D hD => ⟨hD,same_new (Same.refl H) hD,upd_same,Nat.le_refl _,[],rfl,Cells.nil⟩) (fun D i ys H' hv => ⟨hv.2.2.1,hv.2.2.2.1⟩) ?_ ?_⟩
  ·rintro D i ys H' Qy Qn hi ⟨d1,d2,d3,d4,ps,rfl,C⟩ hy hn
   have e0:(0:Int) + (i:Int) = (i:Int):=by omega
   rw [e0]
   have hp':=d2 _ _ hp
   refine ⟨⟨_,rfl,rfl⟩,_,rfl,_,rfl,p,_,2,.int z,rfl,rfl,SqT.of hp',rfl,rfl,_,rfl,iteNB (fun hf => ?_) fun ht => hn _ ⟨d1,d2,d3,by omega,ps,rfl,?_⟩⟩
   ·have hne:(i:Int)≠z:=fun e => of_decide_eq_false hf (congrArg V.int e)
    refine ⟨_,rfl,p,_,0,.int x,rfl,rfl,SqT.of hp',rfl,_,rfl,p,_,1,.int y,rfl,rfl,SqT.of hp',rfl,_,rfl,sL3,fun p1 hp1 => ?_⟩
    refine hy _ _ (by rw [upd_ne (ne_of_none d3 hp1)]; exact d3) ⟨d1,fun b u e => ?_,upd_same,by rw [List.length_append]; exact Nat.succ_le_succ d4,ps ++ [p1],by rw [List.map_append]; rfl,?_⟩
    ·have:=d2 b u e
     rw [upd_ne (ne_of_none e d1),upd_ne (ne_of_none this hp1)]; exact this
    ·rw [overs_snoc,if_pos hne]
     exact C.add hp1 d3
   ·have he:(i:Int) = z:=by have:=of_decide_eq_true ht; injection this
    rw [overs_snoc,if_neg (by simp [he]),List.append_nil]; exact C
  ·rintro D ys H' hD ⟨d1,d2,d3,d4,ps,rfl,C⟩
   rw [Int.toNat_natCast] at C
   exact q D ps H' d2 d1 d3 C
def inXY (W Hh:Int) (c:Cl):Bool:=decide (0≤c.1) && decide (c.1 < W) && (decide (0≤c.2.1) && decide (c.2.1 < Hh))
def spIn:Sp:=fun vs H Q _ => ∃ (s p:Addr) (W Hh L:Int) (c:Cl),vs = [.ref s,.ref p]∧H s = some (.tup [.int W,.int Hh,.int L])∧H p = some (.tup (v3 c))∧Q (.bl (inXY W Hh c)) H
theorem ok_in_size (T:Txt K mg t):GoodF P w K mg base 1 "in_size" ["size","cell"] spIn:=by
 obtain ⟨fd,F,b⟩:=T.F_in_size
 refine ⟨_,fd,F.okX sc_in_size (fun vs H Q E h => ?_) (fun cdv A outer s H vs Q E hr h => ?_),b,F.kp,T.g_in_size⟩
 ·obtain ⟨s,p,W,Hh,L,c,rfl,_⟩:=h
  rfl
 ·obtain ⟨s,p,W,Hh,L,⟨x,y,z⟩,rfl,hs,hp,q⟩:=h
  refine ⟨_,(pss_one (ps_ret (pe_and (pe_chain op_le op_lt pe_int (pe_ix ix_tup (pv 1) pe_int (fun _ _ => rfl)) (pe_ix ix_tup (pv 0) pe_int (fun _ _ => rfl))) (pe_one (pe_chain op_le op_lt pe_int (pe_ix ix_tup (pv 1) pe_int (fun _ _ => rfl)) (pe_ix ix_tup (pv 0) pe_int (fun _ _ => rfl))))))),?_⟩
  have Sp:SqT K H p [.int x,.int y,.int z]:=SqT.of hp
  have Ss:SqT K H s [.int W,.int Hh,.int L]:=SqT.of hs
  have no:inXY W Hh (x,y,z) = false→Q (.bl false) H:=fun e => by rwa [e] at q
  refine ⟨_,rfl,p,_,0,.int x,rfl,rfl,Sp,rfl,0,x,rfl,rfl,_,rfl,iteD (fun g1 => ⟨_,rfl,s,_,0,.int W,rfl,rfl,Ss,rfl,x,W,rfl,rfl,_,rfl,iteD (fun g2 => ?_) fun g2 => no (by simp [inXY,g2])⟩) fun g1 => ⟨false,rfl,iteF (no (by simp [inXY,g1]))⟩⟩
  refine ⟨_,rfl,p,_,1,.int y,rfl,rfl,Sp,rfl,0,y,rfl,rfl,_,rfl,iteD (fun g3 => ⟨_,rfl,s,_,1,.int Hh,rfl,rfl,Ss,rfl,y,Hh,rfl,rfl,?_⟩) fun g3 => no (by simp [inXY,g3])⟩
  have e:inXY W Hh (x,y,z) = decide (y < Hh):=by simp [inXY,g1,g2,g3]
  rwa [e] at q
end
end K61
namespace K61
open PySem L2 Wd TS
structure Fld where
 W:Int
 Hh:Int
 L:Nat
 pr:Cl→Option Int
 ch:Int→Int→Option Int
def Fld.on (f:Fld) (c:Cl):Prop:=0≤c.1∧c.1 < f.W∧0≤c.2.1∧c.2.1 < f.Hh∧0≤c.2.2∧c.2.2 < (f.L:Int)
structure Fld.Ok (f:Fld):Prop where
 w:1≤f.W∧f.W≤12
 h:1≤f.Hh∧f.Hh≤12
 l:1≤f.L∧f.L≤3
 on:∀ c n,f.pr c = some n→f.on c
 pos:∀ c n,f.pr c = some n→0 < n
 cp:∀ x y n,f.ch x y = some n→0 < n
def optV:Option Int→V | none => .non | some n => .int n
def Ask (H:Hp) (A:Addr) (n:Nat):Prop:=H A = some (.lst (List.replicate n (.bl true)))
def spPr (H0:Hp) (A:Addr) (f:Fld):Sp:=fun vs H Q _ => ∃ (p:Addr) (c:Cl) (n:Nat),vs = [.ref p]∧OffP A H0 H∧H p = some (.tup (v3 c))∧f.on c∧Ask H A n∧n < 100000∧∀ H',OffP A H H'→Ask H' A (n + 1)→Q (optV (f.pr c)) H'
def spTh (H0:Hp) (A:Addr) (f:Fld):Sp:=fun vs H Q _ => ∃ (x y:Int) (n:Nat),vs = [.int x,.int y]∧OffP A H0 H∧(0≤x∧x < f.W∧0≤y∧y < f.Hh)∧Ask H A n∧n < 100000∧∀ H',OffP A H H'→Ask H' A (n + 1)→Q (optV (f.ch x y)) H'
section
variable (P:Program) (w:World) (K:PySem.W.Frag) (mg:Str→Option Value) (base:Heap)
structure Wld (H0:Hp) (A fp ft:Addr) (f:Fld):Prop where
 ok:f.Ok
 cp:Calls P w K mg base 2 fp (spPr H0 A f)
 ct:Calls P w K mg base 2 ft (spTh H0 A f)
 up:FnU H0 fp
 ut:FnU H0 ft
 np:fp≠A
 nt:ft≠A
end
theorem _root_.L2.FnU.off {A f:Addr} {H H':Hp} (u:FnU H f) (n:f≠A) (o:OffP A H H'):FnU H' f:=by
 obtain ⟨a,b,c,d,e,g,h,z⟩:=u
 exact ⟨a,b,c,d,e,g,h,o _ _ n z⟩
theorem Ask.ne {H:Hp} {A:Addr} {n:Nat} (a:Ask H A n) {p:Addr} (hp:H p = none):p≠A:=fun z => by rw [z,a] at hp; cases hp
theorem Ask.neT {H:Hp} {A:Addr} {n:Nat} (a:Ask H A n) {p:Addr} {xs:List V} (hp:H p = some (.tup xs)):p≠A:=fun z => by rw [z,a] at hp; cases hp
theorem Ask.offT {H H':Hp} {A:Addr} {n:Nat} (a:Ask H A n) (o:OffP A H H'):∀ p xs,H p = some (.tup xs)→H' p = some (.tup xs):=fun p xs e => o _ _ (a.neT e) e
theorem Ask.upd {H:Hp} {A D:Addr} {n:Nat} (a:Ask H A n) (h:D≠A) (o:HO):Ask (upd H D o) A n:=by unfold Ask; rw [upd_ne (Ne.symm h)]; exact a
theorem Ask.same {H H':Hp} {A:Addr} {n:Nat} (a:Ask H A n) (s:Same H H'):Ask H' A n:=s _ _ a
def Prs (H:Hp) (rs:List Addr) (l:List (Cl × V)):Prop:=rs.length = l.length∧∀ (i:Nat) (r:Addr) (s:Cl × V),rs[i]? = some r→l[i]? = some s→∃ p,H r = some (.tup [.ref p,s.2])∧H p = some (.tup (v3 s.1))
theorem Prs.mono {H H':Hp} {rs:List Addr} {l:List (Cl × V)} (C:Prs H rs l) (k:∀ p xs,H p = some (.tup xs)→H' p = some (.tup xs)):Prs H' rs l:=⟨C.1,fun i r s h1 h2 => let ⟨p,a,b⟩:=C.2 i r s h1 h2; ⟨p,k _ _ a,k _ _ b⟩⟩
theorem Prs.nil {H:Hp}:Prs H [] []:=⟨rfl,fun i p c h => by cases h⟩
theorem Prs.app {H:Hp} {ps qs:List Addr} {cl dl:List (Cl × V)} (C:Prs H ps cl) (D:Prs H qs dl):Prs H (ps ++ qs) (cl ++ dl):=⟨by rw [List.length_append,List.length_append,C.1,D.1],fun i q d h1 h2 => by
 by_cases h:i < ps.length
 ·rw [List.getElem?_append_left h] at h1
  rw [List.getElem?_append_left (C.1▸h)] at h2
  exact C.2 i q d h1 h2
 ·rw [List.getElem?_append_right (by omega)] at h1
  rw [List.getElem?_append_right (by rw [← C.1]; omega),← C.1] at h2
  exact D.2 _ q d h1 h2⟩
theorem Prs.one {H:Hp} {r p:Addr} {s:Cl × V} (h1:H r = some (.tup [.ref p,s.2])) (h2:H p = some (.tup (v3 s.1))):Prs H [r] [s]:=⟨rfl,fun i q d g1 g2 => by
 cases i with
 | zero => cases g1; cases g2; exact ⟨p,h1,h2⟩
 | succ m => cases g1⟩
theorem Prs.at_ {H:Hp} {ps:List Addr} {cl:List (Cl × V)} (C:Prs H ps cl) {i:Nat} {r:Addr} (h:ps[i]? = some r):∃ s p,cl[i]? = some s∧H r = some (.tup [.ref p,s.2])∧H p = some (.tup (v3 s.1)):=by
 have h1:=(List.getElem?_eq_some_iff.mp h).1
 have h2:i < cl.length:=by rw [← C.1]; exact h1
 obtain ⟨p,a,b⟩:=C.2 i _ _ h (List.getElem?_eq_getElem h2)
 exact ⟨_,p,List.getElem?_eq_getElem h2,a,b⟩
def iV (l:List (Cl × Int)):List (Cl × V):=l.map fun s => (s.1,.int s.2)
theorem iV_app (a b:List (Cl × Int)):iV (a ++ b) = iV a ++ iV b:=List.map_append
def pricedL (f:Fld) (cl:List Cl) (m:Int):List (Cl × Int):=cl.filterMap fun c => (f.pr c).map fun n => (c,n + m)
theorem pricedL_app (f:Fld) (a b:List Cl) (m:Int):pricedL f (a ++ b) m = pricedL f a m ++ pricedL f b m:=List.filterMap_append
theorem take_snoc {α:Type} {l:List α} {i:Nat} {x:α} (h:l[i]? = some x):l.take (i + 1) = l.take i ++ [x]:=by rw [List.take_succ,h]; rfl
theorem take_all {α:Type} {l:List α} {n:Nat} (h:l.length = n):l.take n = l:=by rw [← h,List.take_length]
theorem _root_.L2.OffP.put {a r D:Addr} {H H2:Hp} {x y:HO} (o:OffP a H H2) (hr:H2 r = none) (d:H D = none):OffP a H (L2.upd (L2.upd H2 r x) D y):=fun b u n e => by rw [upd_ne (ne_of_none e d),upd_ne (ne_of_none (o b u n e) hr)]; exact o b u n e
theorem _root_.L2.Same.put {r D:Addr} {H H2:Hp} {x y:HO} (o:Same H H2) (hr:H2 r = none) (d:H D = none):Same H (L2.upd (L2.upd H2 r x) D y):=fun b u e => by rw [upd_ne (ne_of_none e d),upd_ne (ne_of_none (o b u e) hr)]; exact o b u e
section
variable {P:Program} {w:World} {K:PySem.W.Frag} {mg:Str→Option Value} {base:Heap} {t:Adr}
def spPriced (P:Program) (w:World) (K:PySem.W.Frag) (mg:Str→Option Value) (base:Heap):Sp:=fun vs H Q _ => ∃ (H0:Hp) (A fp ft:Addr) (f:Fld) (n:Nat) (lc:Addr) (ps:List Addr) (cl:List Cl) (m:Int),vs = [.ref fp,.ref lc,.int m]∧Wld P w K mg base H0 A fp ft f∧OffP A H0 H∧Ask H A n∧H lc = some (.lst (ps.map V.ref))∧lc≠A∧Cells H ps cl∧(∀ c∈cl,f.on c)∧n + cl.length≤90000∧cl.length≤100 ∧
 ∀ D rs H',OffP A H H'→Ask H' A (n + cl.length)→H D = none→H' D = some (.lst (rs.map V.ref))→Prs H' rs (iV (pricedL f cl m))→Q (.ref D) H'
theorem ok_priced (T:Txt K mg t):GoodF P w K mg base 3 "priced" ["price","cells","more"] (spPriced P w K mg base):=by
 obtain ⟨fd,F,b⟩:=T.F_priced
 refine ⟨_,fd,F.okX sc_priced (fun vs H Q E h => ?_) (fun cdv A outer s H vs Q E hr h => ?_),b,F.kp,T.g_priced⟩
 ·obtain ⟨H0,A,fp,ft,f,n,lc,ps,cl,m,rfl,_⟩:=h
  rfl
 ·obtain ⟨H0,A,fp,ft,f,n,lc,ps,cl,m,rfl,Wd,off,ask,hlc,nlc,C,hon,hn,hl,q⟩:=h
  refine ⟨_,(pss_cons (ps_setcomp (i:=3) sc_priced.nd rfl (Or.inl rfl) (own:=["cell"]) (cs_one (n:="price") (N:=["price","cells","more","prices"]) rfl (by rfl) (by rfl) rfl (by rfl) (by decide +kernel) (by decide +kernel) (by decide +kernel)) (pi_list (pv 1)) (fun _ _ _ _ _ => pg_name (i:=4) (by show (["price","cells","more","prices","cell"]:List Str).Nodup; decide +kernel) rfl (Or.inl rfl)) (fun _ _ _ _ _ => pf_nil) (fun _ _ _ _ _ => (pe_tup (pa_cons (pv 4) (pa_cons (pe_callU (k:=2) (P:=P) (w:=w) (K:=K) (mg:=mg) (base:=base) rfl rfl rfl rfl rfl (pv 0) (hr.mono (by decide)) (pa_cons (pv 4) pa_nil)) pa_nil)))))
   (pss_one (ps_ret (pe_comp (own:=["cell","number"]) (cs_one (n:="more") (N:=["price","cells","more","prices"]) rfl (by rfl) (by rfl) rfl (by rfl) (by decide +kernel) (by decide +kernel) (by decide +kernel)) (pi_list (pv 3)) (fun _ _ _ _ _ => pg_tupK (K:=K) (n:=2) rfl rfl (pgs_cons (pg_name (i:=4) (by show (["price","cells","more","prices","cell","number"]:List Str).Nodup; decide +kernel) rfl (Or.inl rfl)) (pgs_cons (pg_name (i:=5) (by show (["price","cells","more","prices","cell","number"]:List Str).Nodup; decide +kernel) rfl (Or.inl rfl)) pgs_nil))) (fun _ _ _ _ _ => pf_one (pt_cmp (pc_notN (pv 5)))) (fun _ _ _ _ _ => (pe_tup (pa_cons (pv 4) (pa_cons (pe_op op_add (pv 5) (pv 2)) pa_nil)))))))),?_⟩
  have lz:(ps.map V.ref).length≤sizeLine:=by rw [List.length_map,C.1]; exact Nat.le_trans hl (by decide)
  refine sg1 (fun (D:Addr) => [oR fp,oR lc,some (.int m),oR D]) (fun D H' => OffP A H H'∧Ask H' A (n + cl.length)∧H D = none∧∃ rs,H' D = some (.lst (rs.map V.ref))∧Prs H' rs (cl.map fun c => (c,optV (f.pr c)))) (fun B hB => ?_) ?_
  ·refine ⟨_,rfl,lc,rfl,⟨_,SqL.of hlc⟩,comp_list (xs:=ps.map V.ref) (fun D i ys H' => OffP A H H'∧Ask H' A (n + i)∧H D = none∧H' D = some (.lst ys)∧H' lc = some (.lst (ps.map V.ref))∧i≤cl.length∧ys.length = i∧∃ rs:List Addr,ys = rs.map V.ref∧Prs H' rs ((cl.take i).map fun c => (c,optV (f.pr c)))) lz (fun D hD => ⟨OffP.of (same_new (Same.refl H) hD),Ask.same ask (same_new (Same.refl H) hD),hD,upd_same,same_new (Same.refl H) hD _ _ hlc,Nat.zero_le _,rfl,[],rfl,Prs.nil⟩) (fun D i ys H' hv => ⟨hv.2.2.2.1,Nat.le_of_eq hv.2.2.2.2.2.2.1,SqL.of hv.2.2.2.2.1⟩) ?_ ?_⟩
   ·rintro D i x ys H' Qy Qn hx ⟨o1,a1,d1,e1,l1,i1,y1,rs,rfl,R⟩ hy hn'
    rw [List.getElem?_map] at hx
    obtain ⟨p,hp,rfl⟩:=Option.map_eq_some_iff.mp hx
    obtain ⟨c,hc,ep⟩:=C.at_ hp
    have ic:i < cl.length:=(List.getElem?_eq_some_iff.mp hc).1
    have ep1:=ask.offT o1 _ _ ep
    have nD:D≠A:=ask.ne d1
    have U1:=Wd.up.off Wd.np (off.trans o1)
    refine ⟨⟨_,rfl,rfl⟩,iteT ⟨_,rfl,_,rfl,fp,rfl,U1,_,rfl,U1,_,Wd.cp,p,c,n + i,rfl,off.trans o1,ep1,hon c (List.mem_of_getElem? hc),a1,by omega,fun H2 o2 a2 => ⟨sL2,fun r hr => ?_⟩⟩⟩
    have e12:=o2 _ _ nD e1
    have l12:=o2 _ _ nlc l1
    have nrD:r≠D:=Ne.symm (ne_of_none e12 hr)
    have kt:∀ q xs,H' q = some (.tup xs)→upd (upd H2 r (.tup [.ref p,optV (f.pr c)])) D (.lst (rs.map V.ref ++ [.ref r])) q = some (.tup xs):=fun q xs e => by
     have e2:=a1.offT o2 q xs e
     rw [upd_ne (ne_of e2 e12 (fun z => nomatch z)),upd_ne (ne_of_none e2 hr)]; exact e2
    refine hy _ _ (by rw [upd_ne (ne_of_none e12 hr)]; exact e12) ⟨(o1.trans o2).put hr d1,(a2.upd (a2.ne hr) _).upd nD _,d1,upd_same,by rw [upd_ne (ne_of_none hlc d1),upd_ne (ne_of_none l12 hr)]; exact l12,ic,by rw [List.length_append,y1]; rfl,rs ++ [r],by rw [List.map_append]; rfl,?_⟩
    rw [take_snoc hc,List.map_append]
    exact (R.mono kt).app (Prs.one (p:=p) (by rw [upd_ne nrD]; exact upd_same) (kt p _ ep1))
   ·rintro D ys H' hD ⟨o1,a1,d1,e1,l1,i1,y1,rs,rfl,R⟩
    rw [List.length_map,C.1] at a1 R
    rw [take_all rfl] at R
    exact hB D H' ⟨o1,a1,d1,rs,e1,R⟩
  rintro D H1 ⟨o1,a1,d1,rs,e1,R⟩
  have nD:D≠A:=ask.ne d1
  refine ⟨_,rfl,D,rfl,⟨_,SqL.of e1⟩,comp_list (xs:=rs.map V.ref) (fun E i ys H' => Same H1 H'∧H1 E = none∧H' E = some (.lst ys)∧ys.length≤i∧i≤cl.length∧∃ rs':List Addr,ys = rs'.map V.ref∧Prs H' rs' (iV (pricedL f (cl.take i) m))) (by rw [List.length_map,R.1,List.length_map]; exact Nat.le_trans hl (by decide)) (fun E hE => ⟨same_new (Same.refl H1) hE,hE,upd_same,Nat.zero_le _,Nat.zero_le _,[],rfl,Prs.nil⟩) (fun E i ys H' hv => ⟨hv.2.2.1,hv.2.2.2.1,SqL.of (hv.1 _ _ e1)⟩) ?_ ?_⟩
  ·rintro E i x ys H' Qy Qn hx ⟨s1,hE,eE,y1,i1,rs',rfl,R'⟩ hy hn'
   rw [List.getElem?_map] at hx
   obtain ⟨r,hr1,rfl⟩:=Option.map_eq_some_iff.mp hx
   obtain ⟨s,p,hs,er,ep⟩:=R.at_ hr1
   rw [List.getElem?_map] at hs
   obtain ⟨c,hc,rfl⟩:=Option.map_eq_some_iff.mp hs
   have ic:i < cl.length:=(List.getElem?_eq_some_iff.mp hc).1
   refine ⟨r,_,rfl,SqT.of (s1 _ _ er),rfl,_,_,rfl,_,_,rfl,rfl,⟨_,rfl,rfl⟩,?_⟩
   have tk:=take_snoc hc
   cases hpr:f.pr c with
   | none =>
    rw [hpr] at er
    refine ⟨_,rfl,_,rfl,iteF (hn' _ ⟨s1,hE,eE,by omega,ic,rs',rfl,?_⟩)⟩
    rw [tk,pricedL_app,show pricedL f [c] m = [] by simp [pricedL,hpr],List.append_nil]
    exact R'
   | some v =>
    rw [hpr] at er
    refine ⟨_,rfl,_,rfl,iteT ⟨_,rfl,_,rfl,_,rfl,v,m,rfl,rfl,sL2,fun r2 hr2 => ?_⟩⟩
    have nE:r2≠E:=Ne.symm (ne_of_none eE hr2)
    have kt:∀ q xs,H' q = some (.tup xs)→upd (upd H' r2 (.tup [.ref p,.int (v + m)])) E (.lst (rs'.map V.ref ++ [.ref r2])) q = some (.tup xs):=fun q xs e => by
     rw [upd_ne (ne_of e eE (fun z => nomatch z)),upd_ne (ne_of_none e hr2)]; exact e
    refine hy _ _ (by rw [upd_ne (ne_of_none eE hr2)]; exact eE) ⟨Same.put s1 hr2 hE,hE,upd_same,by rw [List.length_append]; exact Nat.succ_le_succ y1,ic,rs' ++ [r2],by rw [List.map_append]; rfl,?_⟩
    rw [tk,pricedL_app,show pricedL f [c] m = [(c,v + m)] by simp [pricedL,hpr],iV_app]
    exact (R'.mono kt).app (Prs.one (s:=(c,.int (v + m))) (p:=p) (by rw [upd_ne nE]; exact upd_same) (kt p _ (s1 _ _ ep)))
  ·rintro E ys H' hE ⟨s1,_,eE,y1,i1,rs',rfl,R'⟩
   rw [List.length_map,R.1,List.length_map,take_all rfl] at R'
   have sE:H E = none:=o1.nn hE (a1.ne hE)
   exact q E rs' H' (o1.trans (OffP.of s1)) (a1.same s1) sE eE R'
end
end K61
namespace K61
open PySem L2 Wd TS
def stpL (f:Fld) (c:Cl):List (Cl × Int):=pricedL f ((four c).filter (inXY f.W f.Hh)) 0 ++ (match f.ch c.1 c.2.1 with | none => [] | some m => pricedL f (overs c f.L) m)
theorem four_on {f:Fld} {c d:Cl} (hc:f.on c) (hd:d∈(four c).filter (inXY f.W f.Hh)):f.on d:=by
 obtain ⟨h1,h2⟩:=List.mem_filter.mp hd
 simp only [inXY,Bool.and_eq_true,decide_eq_true_eq] at h2
 obtain ⟨⟨a1,a2⟩,a3,a4⟩:=h2
 have hz:d.2.2 = c.2.2:=by
  simp only [four,List.mem_cons,List.not_mem_nil,or_false] at h1
  rcases h1 with rfl | rfl | rfl | rfl <;> rfl
 exact ⟨a1,a2,a3,a4,by rw [hz]; exact hc.2.2.2.2.1,by rw [hz]; exact hc.2.2.2.2.2⟩
theorem overs_on {f:Fld} {c d:Cl} (hc:f.on c) (hd:d∈overs c f.L):f.on d:=by
 obtain ⟨k,hk,rfl⟩:=List.mem_map.mp hd
 have:=List.mem_range.mp (List.mem_filter.mp hk).1
 exact ⟨hc.1,hc.2.1,hc.2.2.1,hc.2.2.2.1,by show (0:Int)≤k; omega,by show (k:Int) < f.L; omega⟩
theorem overs_len (c:Cl) (n:Nat):(overs c n).length≤n:=by
 unfold overs
 rw [List.length_map]
 exact Nat.le_trans (List.length_filter_le _ _) (by rw [List.length_range]; exact Nat.le_refl _)
theorem pricedL_len (f:Fld) (cl:List Cl) (m:Int):(pricedL f cl m).length≤cl.length:=List.length_filterMap_le _ _
theorem iV_len (l:List (Cl × Int)):(iV l).length = l.length:=List.length_map ..
section
variable {P:Program} {w:World} {K:PySem.W.Frag} {mg:Str→Option Value} {base:Heap} {t:Adr}
def spSteps (P:Program) (w:World) (K:PySem.W.Frag) (mg:Str→Option Value) (base:Heap):Sp:=fun vs H Q _ => ∃ (H0:Hp) (A fp ft:Addr) (f:Fld) (n:Nat) (sz p:Addr) (c:Cl),vs = [.ref sz,.ref fp,.ref ft,.ref p]∧Wld P w K mg base H0 A fp ft f∧OffP A H0 H∧Ask H A n∧H sz = some (.tup [.int f.W,.int f.Hh,.int f.L])∧H p = some (.tup (v3 c))∧f.on c∧n≤80000 ∧
 ∀ D rs H' k,k≤8→OffP A H H'→Ask H' A (n + k)→H D = none→H' D = some (.lst (rs.map V.ref))→Prs H' rs (iV (stpL f c))→Q (.ref D) H'
theorem ok_steps (T:Txt K mg t):GoodF P w K mg base 4 "steps" ["size","price","through","cell"] (spSteps P w K mg base):=by
 obtain ⟨fd,F,b⟩:=T.F_steps
 have G_beside:=ok_beside (P:=P) (w:=w) (base:=base) T
 have G_over_and_under:=ok_over_and_under (P:=P) (w:=w) (base:=base) T
 have G_in_size:=ok_in_size (P:=P) (w:=w) (base:=base) T
 have G_priced:=ok_priced (P:=P) (w:=w) (base:=base) T
 refine ⟨_,fd,F.okX sc_steps (fun vs H Q E h => ?_) (fun cdv A outer s H vs Q E hr h => ?_),b,F.kp,T.g_steps⟩
 ·obtain ⟨H0,A,fp,ft,f,n,sz,p,c,rfl,_⟩:=h
  rfl
 ·obtain ⟨H0,A,fp,ft,f,n,sz,p,c,rfl,Wd,off,ask,hsz,hp,hon,hn,q⟩:=h
  refine ⟨_,(pss_cons (ps_set (i:=4) sc_steps.nd rfl (Or.inl rfl) (pe_callG G_priced (hr.mono (by decide)) passes_of (by rfl) (pa_cons (pv 1) (pa_cons (pe_comp (own:=["spot"]) (cs_one (n:="size") (N:=["size","price","through","cell","found","hole"]) rfl (by rfl) (by rfl) rfl (by rfl) (by decide +kernel) (by decide +kernel) (by decide +kernel)) (pi_list (pe_callG G_beside (hr.mono (by decide)) passes_of (by rfl) (pa_cons (pv 3) pa_nil))) (fun _ _ _ _ _ => pg_name (i:=6) (by show (["size","price","through","cell","found","hole","spot"]:List Str).Nodup; decide +kernel) rfl (Or.inl rfl)) (fun _ _ _ _ _ => pf_one (pt_val (pe_callG G_in_size (hr.mono (by decide)) passX0 (by rfl) (pa_cons (pv 0) (pa_cons (pv 6) pa_nil))))) (fun _ _ _ _ _ => (pv 6))) (pa_cons pe_int pa_nil)))))
   (pss_cons (ps_set (i:=5) sc_steps.nd rfl (Or.inl rfl) (pe_callU (k:=2) (P:=P) (w:=w) (K:=K) (mg:=mg) (base:=base) rfl rfl rfl rfl rfl (pv 2) (hr.mono (by decide)) (pa_cons (pe_ix ix_tup (pv 3) pe_int (fun _ _ => rfl)) (pa_cons (pe_ix ix_tup (pv 3) pe_int (fun _ _ => rfl)) pa_nil))))
   (pss_cons (ps_if (pt_cmp (pc_notN (pv 5))) (pss_one (ps_expr (pe_bm PySem.F.plainAttrs_list PySem.F.slot_list_extend PySem.F.type_list_extend mt_extend (pv 4) (pa_cons (pe_callG G_priced (hr.mono (by decide)) passes_of (by rfl) (pa_cons (pv 1) (pa_cons (pe_callG G_over_and_under (hr.mono (by decide)) passes_of (by rfl) (pa_cons (pv 3) (pa_cons (pe_ix ix_tup (pv 0) pe_int (fun _ _ => rfl)) pa_nil))) (pa_cons (pv 5) pa_nil)))) pa_nil)))) pss_nil)
   (pss_one (ps_ret (pv 4)))))),?_⟩
  refine sg1 (fun (D:Addr) => [oR sz,oR fp,oR ft,oR p,oR D,none]) (fun D H' => OffP A H H'∧(∃ k,k≤4∧Ask H' A (n + k))∧H D = none∧∃ rs,H' D = some (.lst (rs.map V.ref))∧Prs H' rs (iV (pricedL f ((four c).filter (inXY f.W f.Hh)) 0))) (fun B hB => ?_) ?_
  ·refine ⟨_,rfl,_,rfl,p,c,rfl,hp,fun D1 ps H1 s1 hD1 e1 C1 => ⟨D1,rfl,⟨_,SqL.of e1⟩,comp_list (xs:=ps.map V.ref) (fun E i ys H' => Same H1 H'∧H1 E = none∧H' E = some (.lst ys)∧ys.length≤i∧i≤4∧∃ qs:List Addr,ys = qs.map V.ref∧Cells H' qs (((four c).take i).filter (inXY f.W f.Hh))) (by rw [List.length_map,C1.1]; show 4≤sizeLine; decide) (fun E hE => ⟨same_new (Same.refl H1) hE,hE,upd_same,Nat.zero_le _,Nat.zero_le _,[],rfl,Cells.nil⟩) (fun E i ys H' hv => ⟨hv.2.2.1,hv.2.2.2.1,SqL.of (hv.1 _ _ e1)⟩) ?_ ?_⟩⟩
   ·rintro E i x ys H' Qy Qn hx ⟨s2,hE,eE,y1,i1,qs,rfl,R⟩ hy hn'
    rw [List.getElem?_map] at hx
    obtain ⟨r,hr1,rfl⟩:=Option.map_eq_some_iff.mp hx
    obtain ⟨d,hd,er⟩:=C1.at_ hr1
    have ic:i < 4:=(List.getElem?_eq_some_iff.mp hd).1
    have s12:=Same.trans s1 s2
    refine ⟨⟨_,rfl,rfl⟩,_,rfl,_,rfl,sz,r,f.W,f.Hh,f.L,d,rfl,s12 _ _ hsz,s2 _ _ er,?_⟩
    rw [take_snoc hd,List.filter_append] at hy hn'
    refine ⟨_,rfl,iteB (fun g => ⟨_,rfl,hy _ _ eE ⟨fun b u e => ?_,hE,upd_same,by rw [List.length_append]; exact Nat.succ_le_succ y1,ic,qs ++ [r],by rw [List.map_append]; rfl,?_⟩⟩) fun g => hn' _ ⟨s2,hE,eE,by omega,ic,qs,rfl,?_⟩⟩
    ·rw [upd_ne (ne_of_none e hE)]; exact s2 b u e
    ·have e5:[d].filter (inXY f.W f.Hh) = [d]:=by simp [g]
     rw [e5]
     have kt:∀ q xs,H' q = some (.tup xs)→upd H' E (.lst (qs.map V.ref ++ [.ref r])) q = some (.tup xs):=fun q xs e => by rw [upd_ne (ne_of e eE (fun z => nomatch z))]; exact e
     exact (R.mono kt).snoc (kt _ _ (s2 _ _ er))
    ·have e5:[d].filter (inXY f.W f.Hh) = []:=by simp [g]
     rw [e5,List.append_nil]; exact R
   ·rintro E ys H' hE ⟨s2,_,eE,y1,i1,qs,rfl,R⟩
    rw [List.length_map,C1.1,take_all rfl] at R
    have s12:=Same.trans s1 s2
    have l4:((four c).filter (inXY f.W f.Hh)).length≤4:=List.length_filter_le _ (four c)
    have hE0:H E = none:=Same.nn s1 hE
    refine ⟨H0,A,fp,ft,f,n,E,qs,_,0,rfl,Wd,off.trans (OffP.of s12),ask.same s12,eE,ask.ne hE0,R,fun d hd => four_on hon hd,by omega,by omega,fun D rs H2 o2 a2 hD e2 R2 => ?_⟩
    exact hB D H2 ⟨(OffP.of s12).trans o2,⟨_,l4,a2⟩,Same.nn s12 hD,rs,e2,R2⟩
  rintro D H1 ⟨o1,⟨k1,hk1,a1⟩,d1,rs,e1,R⟩
  have nD:D≠A:=ask.ne d1
  have hp1:=ask.offT o1 _ _ hp
  have hsz1:=ask.offT o1 _ _ hsz
  have ut:=Wd.ut.off Wd.nt (off.trans o1)
  refine sg0 [oR sz,oR fp,oR ft,oR p,oR D,some (optV (f.ch c.1 c.2.1))] (fun H' => OffP A H1 H'∧Ask H' A (n + k1 + 1)) (fun B hB => ?_) ?_
  ·refine ⟨_,rfl,ft,rfl,ut,_,rfl,p,_,0,.int c.1,rfl,rfl,SqT.of hp1,rfl,_,rfl,p,_,1,.int c.2.1,rfl,rfl,SqT.of hp1,rfl,ut,_,Wd.ct,c.1,c.2.1,n + k1,rfl,off.trans o1,⟨hon.1,hon.2.1,hon.2.2.1,hon.2.2.2.1⟩,a1,by omega,fun H' o a => hB _ ⟨o,a⟩⟩
  rintro H2 ⟨o2,a2⟩
  have e2:=o2 _ _ nD e1
  have R2:=R.mono (a1.offT o2)
  have hp2:=a1.offT o2 _ _ hp1
  have hsz2:=a1.offT o2 _ _ hsz1
  cases hch:f.ch c.1 c.2.1 with
  | none =>
   refine ⟨_,rfl,_,rfl,iteF ⟨_,rfl,q D rs H2 (k1 + 1) (by omega) (o1.trans o2) a2 d1 e2 ?_⟩⟩
   unfold stpL
   rw [hch,List.append_nil]
   exact R2
  | some m =>
   have hL:=Wd.ok.l.2
   have lo:=overs_len c f.L
   have l4:(pricedL f ((four c).filter (inXY f.W f.Hh)) 0).length≤4:=Nat.le_trans (pricedL_len _ _ _) (List.length_filter_le _ (four c))
   have lp:=pricedL_len f (overs c f.L) m
   refine ⟨_,rfl,_,rfl,iteT ⟨_,rfl,.inl ⟨rfl,_,SqL.of e2⟩,_,rfl,_,rfl,_,rfl,sz,_,2,.int f.L,rfl,rfl,SqT.of hsz2,rfl,p,c,f.L,rfl,hp2,by omega,fun D3 ps H3 s3 hD3 e3 C3 => ⟨_,rfl,H0,A,fp,ft,f,n + k1 + 1,D3,ps,overs c f.L,m,rfl,Wd,((off.trans o1).trans o2).trans (OffP.of s3),a2.same s3,e3,a2.ne hD3,C3,fun d hd => overs_on hon hd,by omega,by omega,fun D4 rs4 H4 o4 a4 hD4 e4 R4 => ?_⟩⟩⟩
   have e34:=o4 _ _ nD (s3 _ _ e2)
   have R24:=(R2.mono fun p xs e => s3 _ _ e).mono ((a2.same s3).offT o4)
   have len:(rs.map V.ref).length + (rs4.map V.ref).length≤sizeLine:=by
    rw [List.length_map,List.length_map,R.1,R4.1,iV_len,iV_len]
    exact Nat.le_trans (show _≤7 by omega) (by decide)
   have kt:∀ q xs,H4 q = some (.tup xs)→upd H4 D (.lst (rs.map V.ref ++ rs4.map V.ref)) q = some (.tup xs):=fun q xs e => by rw [upd_ne (ne_of e e34 (fun z => nomatch z))]; exact e
   refine ⟨D,D4,_,_,rfl,rfl,e34,e4,len,_,rfl,q D (rs ++ rs4) _ (k1 + 1 + (overs c f.L).length) (by omega) (fun b u nb e => ?_) ?_ d1 (by rw [upd_same,List.map_append]) ?_⟩
   ·rw [upd_ne (ne_of_none e d1)]
    exact o4 _ _ nb (s3 _ _ (o2 _ _ nb (o1 _ _ nb e)))
   ·exact Ask.upd (n:=n + (k1 + 1 + (overs c f.L).length)) (by rw [← Nat.add_assoc,← Nat.add_assoc]; exact a4) nD _
   ·unfold stpL
    rw [hch,iV_app]
    exact (R24.mono kt).app (R4.mono kt)
end
end K61
namespace K61
open PySem L2 Wd TS
def Nums (H:Hp) (es:List Addr) (ns:List Int):Prop:=es.length = ns.length∧∀ (i:Nat) (e:Addr) (n:Int),es[i]? = some e→ns[i]? = some n→∃ xs,H e = some (.tup (.int n :: xs))
theorem ix0 {xs:List V} {n:Int}:atI (.int n :: xs) 0 = some (.int n):=atI_nat (j:=0) (by simp)
section
variable {P:Program} {w:World} {K:PySem.W.Frag} {mg:Str→Option Value} {base:Heap} {t:Adr}
def spPut:Sp:=fun vs H Q _ => ∃ (wt e:Addr) (es:List Addr) (ns:List Int) (n:Int) (xs:List V),vs = [.ref wt,.ref e]∧H wt = some (.lst (es.map V.ref))∧Nums H es ns∧(ns.Pairwise fun a b => b≤a)∧H e = some (.tup (.int n :: xs))∧es.length≤100000 ∧
 ∀ i,i≤es.length→(∀ (j:Nat) m,j < i→ns[j]? = some m→n < m)→(∀ (j:Nat) m,i≤j→ns[j]? = some m→m≤n)→Q .non (upd H wt (.lst ((es.take i ++ [e] ++ es.drop i).map V.ref)))
theorem ok_put_in (T:Txt K mg t):GoodF P w K mg base 1 "put_in" ["waiting","entry"] spPut:=by
 obtain ⟨fd,F,b⟩:=T.F_put_in
 refine ⟨_,fd,F.okX sc_put_in (fun vs H Q E h => ?_) (fun cdv A outer s H vs Q E hr h => ?_),b,F.kp,T.g_put_in⟩
 ·obtain ⟨wt,e,es,ns,n,xs,rfl,_⟩:=h
  rfl
 ·obtain ⟨wt,e,es,ns,n,xs,rfl,hw,N,srt,he,hl,q⟩:=h
  refine ⟨_,(pss_cons (ps_set (i:=2) sc_put_in.nd rfl (Or.inl rfl) pe_int)
   (pss_cons (ps_set (i:=3) sc_put_in.nd rfl (Or.inl rfl) (pe_callB call_len_seq (by rfl) T.n_len b_len (pa_cons (pv 0) pa_nil)))
   (pss_cons (ps_while owns_of (pt_cmpR op_lt (pv 2) (pv 3) (nomark _)) (pss_cons (ps_set (i:=4) sc_put_in.nd rfl (Or.inl rfl) (pe_op op_fdiv (pe_op op_add (pv 2) (pv 3)) pe_int))
   (pss_one (ps_if (pt_cmpR op_gt (pe_ix ix_tup (pe_ix ix_list (pv 0) (pv 4) (fun _ _ => rfl)) pe_int (fun _ _ => rfl)) (pe_ix ix_tup (pv 1) pe_int (fun _ _ => rfl)) (nomark _)) (pss_one (ps_set (i:=2) sc_put_in.nd rfl (Or.inl rfl) (pe_op op_add (pv 4) pe_int))) (pss_one (ps_set (i:=3) sc_put_in.nd rfl (Or.inl rfl) (pv 4)))))))
   (pss_one (ps_expr (pe_bm PySem.F.plainAttrs_list PySem.F.slot_list_insert PySem.F.type_list_insert mt_insert (pv 0) (pa_cons (pv 2) (pa_cons (pv 1) pa_nil)))))))),?_⟩
  refine sg0 [oR wt,oR e,some (.int 0),none,none] (fun H' => H' = H) (fun B hB => hB _ rfl) ?_
  rintro H1 rfl
  refine sg0 [oR wt,oR e,some (.int 0),some (.int es.length),none] (fun H' => H' = H1) (fun B hB => ?_) ?_
  ·have:=hB _ rfl
   refine ⟨_,rfl,wt,_,rfl,.inl (SqL.of hw),?_⟩
   rw [List.length_map]
   exact this
  rintro H2 rfl
  refine sg2 (fun (lo:Nat) (v:Option V) => [oR wt,oR e,some (.int lo),some (.int lo),v]) (fun lo _ H' => H' = H2∧lo≤es.length∧(∀ (j:Nat) m,j < lo→ns[j]? = some m→n < m)∧∀ (j:Nat) m,lo≤j→ns[j]? = some m→m≤n) (fun B hB => ?_) ?_
  ·refine ⟨fun m σ H' => ∃ (lo hi:Nat) (v:Option V),m = hi - lo∧σ = [oR wt,oR e,some (.int lo),some (.int hi),v]∧H' = H2∧lo≤hi∧hi≤es.length∧(∀ (j:Nat) m,j < lo→ns[j]? = some m→n < m)∧∀ (j:Nat) m,hi≤j→ns[j]? = some m→m≤n,⟨_,0,es.length,none,rfl,rfl,rfl,Nat.zero_le _,Nat.le_refl _,fun j m h => absurd h (Nat.not_lt_zero _),fun j m h e => ?_⟩,?_⟩
   ·have:=(List.getElem?_eq_some_iff.mp e).1
    rw [← N.1] at this
    omega
   rintro mm σ H' ⟨lo,hi,v,rfl,rfl,rfl,h1,h2,h3,h4⟩
   refine ⟨_,rfl,_,rfl,_,_,rfl,rfl,_,rfl,iteD (fun hlt => ⟨_,fun _ _ h => h,?_⟩) fun hge => ?_⟩
   ·have hlt':lo < hi:=by omega
    have em:((lo:Int) + (hi:Int)) / 2 = (((lo + hi) / 2:Nat):Int):=by omega
    generalize hmid:(lo + hi) / 2 = mid at em
    have m1:lo≤mid:=by omega
    have m2:mid < hi:=by omega
    have m3:mid < es.length:=by omega
    have m4:mid < ns.length:=by rw [← N.1]; exact m3
    have ge:=List.getElem?_eq_getElem m3
    have gn:=List.getElem?_eq_getElem m4
    obtain ⟨ys,ey⟩:=N.2 mid _ _ ge gn
    generalize es[mid] = em_ at ge ey
    generalize ns[mid] = nm at gn ey
    have pw:∀ (i j:Nat) a b,i≤j→ns[i]? = some a→ns[j]? = some b→b≤a:=fun i j a b hij ea eb => by
     obtain ⟨i1,rfl⟩:=List.getElem?_eq_some_iff.mp ea
     obtain ⟨j1,rfl⟩:=List.getElem?_eq_some_iff.mp eb
     rcases Nat.lt_or_eq_of_le hij with z | rfl
     ·exact List.pairwise_iff_getElem.mp srt i j i1 j1 z
     ·exact Int.le_refl _
    refine ⟨_,rfl,_,rfl,lo,hi,rfl,rfl,_,2,rfl,rfl,⟨by decide,by decide⟩,?_⟩
    refine ⟨_,rfl,_,rfl,wt,_,(mid:Int),.ref em_,rfl,congrArg V.int em,SqL.of hw,atI_nat (by rw [List.getElem?_map,ge]; rfl),em_,_,0,.int nm,rfl,rfl,SqT.of ey,ix0,_,rfl,e,_,0,.int n,rfl,rfl,SqT.of he,ix0,nm,n,rfl,rfl,_,rfl,iteD (fun g => ?_) fun g => ?_⟩
    ·refine ⟨_,rfl,(mid:Int),1,congrArg V.int em,rfl,hi - (mid + 1),by omega,mid + 1,hi,_,rfl,rfl,rfl,by omega,h2,fun j m hj ej => ?_,h4⟩
     have:=pw j mid m nm (by omega) ej gn
     omega
    ·refine ⟨_,rfl,mid - lo,by omega,lo,mid,some (.int (((lo:Int) + (hi:Int)) / 2)),rfl,?_,rfl,m1,by omega,h3,fun j m hj ej => ?_⟩
     ·rw [← em]; rfl
     ·have:=pw mid j nm m hj gn ej
      omega
   ·have:lo = hi:=by omega
    subst this
    exact hB lo v _ ⟨rfl,h2,h3,h4⟩
  rintro lo v H3 ⟨rfl,h1,h2,h3⟩
  refine ⟨_,rfl,.inl ⟨rfl,_,SqL.of hw⟩,_,rfl,_,rfl,wt,_,.ref e,(lo:Int),rfl,rfl,hw,?_,by omega,by omega,?_⟩
  ·rw [List.length_map]
   exact Nat.lt_of_le_of_lt hl (by decide)
  ·have:=q lo h1 h2 h3
   rw [List.map_append,List.map_append,List.map_take,List.map_drop] at this
   rw [Int.toNat_natCast,Nat.min_eq_left (by rw [List.length_map]; exact h1)]
   exact this
abbrev Rec:=Cl × Int × Option Cl
def PrevV (H:Hp):V→Option Cl→Prop
 | .non,none => True
 | .ref q,some c => H q = some (.tup (v3 c))
 | _,_ => False
def RecV (H:Hp) (v:V) (x:Rec):Prop:=∃ a pv,v = .ref a∧H a = some (.tup [.int x.2.1,pv])∧PrevV H pv x.2.2
def Kv (H:Hp) (kvs:List (List Key × V)) (rl:List Rec):Prop:=Paired (fun (kv:List Key × V) (x:Rec) => kv.1 = k3 x.1∧RecV H kv.2 x) kvs rl
theorem PrevV.mono {H H':Hp} (k:∀ p xs,H p = some (.tup xs)→H' p = some (.tup xs)) {v:V} {o:Option Cl} (h:PrevV H v o):PrevV H' v o:=by
 cases v <;> cases o <;> first | exact h | exact k _ _ h
theorem RecV.mono {H H':Hp} (k:∀ p xs,H p = some (.tup xs)→H' p = some (.tup xs)) {v:V} {x:Rec} (h:RecV H v x):RecV H' v x:=by
 obtain ⟨a,pv,h1,h2,h3⟩:=h
 exact ⟨a,pv,h1,k _ _ h2,h3.mono k⟩
theorem Kv.mono {H H':Hp} (k:∀ p xs,H p = some (.tup xs)→H' p = some (.tup xs)) {kvs:List (List Key × V)} {rl:List Rec} (h:Kv H kvs rl):Kv H' kvs rl:=Paired.mapP h fun _ _ r => ⟨r.1,r.2.mono k⟩
theorem Kv.none {H:Hp} {kvs:List (List Key × V)} {rl:List Rec} (h:Kv H kvs rl) {c:Cl} (n:c ∉ rl.map (·.1)):valV kvs (k3 c) = Option.none:=by
 unfold Kv at h
 induction h with
 | nil => rfl
 | @cons kv x l m r _ ih =>
  rw [List.map_cons,List.mem_cons,not_or] at n
  rw [valV_neg (fun e => n.1 (k3_inj (e.symm.trans r.1)))]
  exact ih n.2
theorem Kv.find {H:Hp} {kvs:List (List Key × V)} {rl:List Rec} (h:Kv H kvs rl) (nd:(rl.map (·.1)).Nodup) {x:Rec} (hx:x∈rl):∃ v,valV kvs (k3 x.1) = some v∧RecV H v x:=by
 unfold Kv at h
 induction h with
 | nil => cases hx
 | @cons kv y l m r _ ih =>
  rw [List.map_cons,List.nodup_cons] at nd
  rcases List.mem_cons.mp hx with rfl | hx
  ·exact ⟨_,valV_pos r.1,r.2⟩
  ·rw [valV_neg (fun e => nd.1 (k3_inj (r.1.symm.trans e)▸List.mem_map.mpr ⟨x,hx,rfl⟩))]
   exact ih nd.2 hx
theorem Kv.some {H:Hp} {kvs:List (List Key × V)} {rl:List Rec} (h:Kv H kvs rl) {c:Cl} {v:V} (e:valV kvs (k3 c) = some v):∃ x∈rl,x.1 = c∧RecV H v x:=by
 unfold Kv at h
 induction h with
 | nil => cases e
 | @cons kv y l m r _ ih =>
  by_cases z:kv.1 = k3 c
  ·rw [valV_pos z] at e
   cases e
   exact ⟨y,List.mem_cons_self ..,k3_inj (r.1.symm.trans z),r.2⟩
  ·rw [valV_neg z] at e
   obtain ⟨x,h1,h2⟩:=ih e
   exact ⟨x,List.mem_cons_of_mem _ h1,h2⟩
theorem Kv.has {H:Hp} {kvs:List (List Key × V)} {rl:List Rec} (h:Kv H kvs rl) (c:Cl):(valV kvs (k3 c)).isSome = true↔c∈rl.map (·.1):=by
 constructor
 ·intro e
  obtain ⟨v,e⟩:=Option.isSome_iff_exists.mp e
  obtain ⟨x,h1,h2,_⟩:=h.some e
  exact h2▸List.mem_map.mpr ⟨x,h1,rfl⟩
 ·intro e
  cases z:valV kvs (k3 c) with
  | some v => rfl
  | none =>
   exfalso
   unfold Kv at h
   induction h with
   | nil => cases e
   | @cons kv y l m r _ ih =>
    rw [List.map_cons] at e
    by_cases q:kv.1 = k3 c
    ·rw [valV_pos q] at z; cases z
    ·rw [valV_neg q] at z
     rcases List.mem_cons.mp e with e | e
     ·exact q (e▸r.1)
     ·exact ih e z
theorem Kv.len {H:Hp} {kvs:List (List Key × V)} {rl:List Rec} (h:Kv H kvs rl):kvs.length = rl.length:=Paired.length h
def Tree (f:Fld) (st:List Cl) (rl:List Rec):Prop:=∀ (i:Nat) (x:Rec),rl[i]? = some x→(x.2.2 = none∧x.2.1 = 0∧x.1∈st)∨∃ (j:Nat) (y:Rec) (cost:Int),j < i∧rl[j]? = some y∧x.2.2 = some y.1∧(x.1,cost)∈stpL f y.1∧x.2.1 = y.2.1 + cost
def Stp (f:Fld) (rl:List Rec) (a b:Cl):Prop:=∃ x∈rl,∃ y∈rl,∃ cost,x.1 = a∧y.1 = b∧(b,cost)∈stpL f a∧y.2.1 = x.2.1 + cost
def Ln (f:Fld) (rl:List Rec):List Cl→Prop
 | [] => True
 | [_] => True
 | a :: b :: r => Stp f rl a b∧Ln f rl (b :: r)
theorem Ln.cons {f:Fld} {rl:List Rec} {a:Cl} {l:List Cl} (h:Ln f rl l) (s:∀ b,l.head? = some b→Stp f rl a b):Ln f rl (a :: l):=by
 cases l with
 | nil => trivial
 | cons b r => exact ⟨s b rfl,h⟩
theorem Cells.rev {H:Hp} {ps:List Addr} {cl:List Cl} (C:Cells H ps cl):Cells H ps.reverse cl.reverse:=⟨by rw [List.length_reverse,List.length_reverse]; exact C.1,fun i p c h1 h2 => by
 have i1:i < ps.length:=by have:=(List.getElem?_eq_some_iff.mp h1).1; rwa [List.length_reverse] at this
 have i2:i < cl.length:=by rw [← C.1]; exact i1
 rw [List.getElem?_reverse i1] at h1
 rw [List.getElem?_reverse i2,← C.1] at h2
 exact C.2 _ p c h1 h2⟩
def spWayTo:Sp:=fun vs H Q _ => ∃ (p R:Addr) (kvs:List (List Key × V)) (f:Fld) (st:List Cl) (rl:List Rec) (x:Rec),vs = [.ref p,.ref R]∧H p = some (.tup (v3 x.1))∧H R = some (.dT kvs)∧Kv H kvs rl∧(rl.map (·.1)).Nodup∧Tree f st rl∧x∈rl∧rl.length≤1000 ∧
 ∀ D ps line H',Same H H'→H D = none→H' D = some (.lst (ps.map V.ref))→Cells H' ps line→Ln f rl line→(∀ c∈line,c∈rl.map (·.1))→(∃ a,line.head? = some a∧(a,0,none)∈rl∧a∈st)→line.getLast? = some x.1→line.length≤1001→Q (.ref D) H'
theorem ok_way_to (T:Txt K mg t):GoodF P w K mg base 1 "way_to" ["cell","reached"] spWayTo:=by
 obtain ⟨fd,F,b⟩:=T.F_way_to
 refine ⟨_,fd,F.okX sc_way_to (fun vs H Q E h => ?_) (fun cdv A outer s H vs Q E hr h => ?_),b,F.kp,T.g_way_to⟩
 ·obtain ⟨p,R,kvs,f,st,rl,x,rfl,_⟩:=h
  rfl
 ·obtain ⟨p,R,kvs,f,st,rl,x,rfl,hp,hR,kv,nd,tr,hx,hl,q⟩:=h
  refine ⟨_,(pss_cons (ps_set (i:=2) sc_way_to.nd rfl (Or.inl rfl) (pe_lst pa_nil))
   (pss_cons (ps_while owns_of (pt_cmp (pc_notN (pv 0))) (pss_cons (ps_expr (pe_bm PySem.F.plainAttrs_list PySem.F.slot_list_append PySem.F.type_list_append mt_append (pv 2) (pa_cons (pv 0) pa_nil)))
   (pss_one (ps_set (i:=0) sc_way_to.nd rfl (Or.inl rfl) (pe_ix ix_tup (pe_dget (hu_of hr) (pv 1) (pv 0) (fun _ _ => rfl)) pe_int (fun _ _ => rfl))))))
   (pss_cons (ps_expr (pe_bm0 PySem.F.plainAttrs_list PySem.F.slot_list_reverse PySem.F.type_list_reverse mt_reverse (pv 2)))
   (pss_one (ps_ret (pv 2)))))),?_⟩
  refine sg1 (fun (D:Addr) => [oR p,oR R,oR D]) (fun D H' => Same H H'∧H D = none∧H' D = some (.lst [])) (fun B hB => ⟨sL0,fun D hD => hB D _ ⟨same_new (Same.refl H) hD,hD,upd_same⟩⟩) ?_
  rintro D H1 ⟨s1,hD,eD⟩
  refine sg1 (fun (v:V) => [some v,oR R,oR D]) (fun v H' => ∃ (ps:List Addr) (line:List Cl),Same H H'∧H' D = some (.lst (ps.map V.ref))∧Cells H' ps line.reverse∧Ln f rl line∧(∀ c∈line,c∈rl.map (·.1))∧line.getLast? = some x.1∧line.length≤1001∧∃ a,line.head? = some a∧(a,0,none)∈rl∧a∈st) (fun B hB => ?_) ?_
  ·refine ⟨fun m σ H' => ∃ (v:V) (ps:List Addr) (line:List Cl),σ = [some v,oR R,oR D]∧Same H H'∧H' D = some (.lst (ps.map V.ref))∧Cells H' ps line.reverse∧Ln f rl line∧(∀ c∈line,c∈rl.map (·.1))∧(line≠[]→line.getLast? = some x.1)∧line.length + m≤1001 ∧
     ((v = .non∧m = 0∧∃ a,line.head? = some a∧(a,0,none)∈rl∧a∈st)∨∃ (pc:Addr) (y:Rec),v = .ref pc∧H' pc = some (.tup (v3 y.1))∧0 < m∧rl[m - 1]? = some y∧(line = []→y.1 = x.1)∧∀ b,line.head? = some b→Stp f rl y.1 b),?_,?_⟩
   ·obtain ⟨i,hi,ei⟩:=List.getElem_of_mem hx
    refine ⟨i + 1,.ref p,[],[],rfl,s1,eD,Cells.nil,trivial,(fun c h => nomatch h),fun h => absurd rfl h,(by show 0 + (i + 1)≤1001; omega),.inr ⟨p,x,rfl,s1 _ _ hp,Nat.succ_pos _,(by rw [Nat.add_sub_cancel,List.getElem?_eq_getElem hi,ei]),fun _ => rfl,(fun b h => nomatch h)⟩⟩
   rintro m σ H' ⟨v,ps,line,rfl,s2,e2,C,ln,mem,gl,len,hv⟩
   rcases hv with ⟨rfl,rfl,a,ha1,ha2⟩ | ⟨pc,y,rfl,epc,m0,ey,l0,stp⟩
   ·refine ⟨_,rfl,_,rfl,iteF (hB _ _ ⟨ps,line,s2,e2,C,ln,mem,gl (fun z => by rw [z] at ha1; cases ha1),len,a,ha1,ha2⟩)⟩
   ·refine ⟨_,rfl,_,rfl,iteT ⟨_,fun _ _ h => h,?_⟩⟩
    have yin:y∈rl:=List.mem_of_getElem? ey
    have lps:ps.length = line.length:=by rw [C.1,List.length_reverse]
    refine ⟨_,rfl,.inl ⟨rfl,_,SqL.of e2⟩,_,rfl,D,_,.ref pc,rfl,rfl,e2,?_,?_⟩
    ·rw [List.length_map,lps]
     exact Nat.lt_of_le_of_lt (show _≤1001 by omega) (by decide)
    obtain ⟨v,ev,a,pv,rfl,ea,hpv⟩:=kv.find nd yin
    have nDt:∀ {q:Addr} {xs:List V},H' q = some (.tup xs)→upd H' D (.lst (ps.map V.ref ++ [.ref pc])) q = some (.tup xs):=fun e => by rw [upd_ne (ne_of e e2 (fun z => nomatch z))]; exact e
    have s3:Same H (upd H' D (.lst (ps.map V.ref ++ [.ref pc]))):=fun b u e => by rw [upd_ne (ne_of_none e hD)]; exact s2 b u e
    have e3:upd H' D (.lst (ps.map V.ref ++ [.ref pc])) D = some (.lst ((ps ++ [pc]).map V.ref)):=by rw [upd_same,List.map_append]; rfl
    have C3:Cells (upd H' D (.lst (ps.map V.ref ++ [.ref pc]))) (ps ++ [pc]) (y.1 :: line).reverse:=by
     rw [List.reverse_cons]
     exact (C.mono fun _ _ e => nDt e).snoc (nDt epc)
    have epc3:=nDt epc
    generalize upd H' D (.lst (ps.map V.ref ++ [.ref pc])) = H3 at s3 e3 C3 epc3
    refine ⟨_,rfl,_,rfl,R,.ref a,rfl,ev▸DGet.t (k:=k3 y.1) (s3 _ _ hR) epc3,a,_,1,pv,rfl,rfl,SqT.of (s3 _ _ ea),rfl,?_⟩
    have mem':∀ c∈y.1 :: line,c∈rl.map (·.1):=fun c hc => by
     rcases List.mem_cons.mp hc with rfl | hc
     ·exact List.mem_map.mpr ⟨y,yin,rfl⟩
     ·exact mem c hc
    have gl':(y.1 :: line).getLast? = some x.1:=by
     cases line with
     | nil => show some y.1 = _; rw [l0 rfl]
     | cons b r => rw [List.getLast?_cons_cons]; exact gl (fun z => nomatch z)
    have ln':Ln f rl (y.1 :: line):=ln.cons stp
    rcases tr _ y ey with ⟨t1,t2,t3⟩ | ⟨j,z,cost,hj,ez,t1,t2,t3⟩
    ·rw [t1] at hpv
     have pn:pv = .non:=by cases pv <;> first | rfl | exact hpv.elim
     refine ⟨0,m0,pv,ps ++ [pc],y.1 :: line,rfl,s3,e3,C3,ln',mem',fun _ => gl',by show line.length + 1 + 0≤1001; omega,.inl ⟨pn,rfl,y.1,rfl,?_,t3⟩⟩
     obtain ⟨y1,y2,y3⟩:=y
     dsimp only at t1 t2
     rw [t1,t2] at yin
     exact yin
    ·rw [t1] at hpv
     obtain ⟨q,rfl,hq⟩:∃ q,pv = .ref q∧H q = some (.tup (v3 z.1)):=by cases pv <;> first | exact hpv.elim | exact ⟨_,rfl,hpv⟩
     refine ⟨j + 1,by omega,.ref q,ps ++ [pc],y.1 :: line,rfl,s3,e3,C3,ln',mem',fun _ => gl',by show line.length + 1 + (j + 1)≤1001; omega,.inr ⟨q,z,rfl,s3 _ _ hq,Nat.succ_pos _,by rw [Nat.add_sub_cancel]; exact ez,(fun z => nomatch z),fun b hb => ?_⟩⟩
     cases hb
     exact ⟨z,List.mem_of_getElem? ez,y,yin,cost,rfl,rfl,t2,t3⟩
  rintro v H2 ⟨ps,line,s2,e2,C,ln,mem,gl,len,hd⟩
  refine ⟨_,rfl,.inl ⟨rfl,_,SqL.of e2⟩,D,_,rfl,rfl,e2,_,rfl,q D ps.reverse line _ (fun b u e => by rw [upd_ne (ne_of_none e hD)]; exact s2 b u e) hD (by rw [upd_same,List.map_reverse]) ?_ ln mem hd gl len⟩
  have:=(C.mono (H':=upd H2 D (.lst (ps.map V.ref).reverse)) fun _ _ e => by rw [upd_ne (ne_of e e2 (fun z => nomatch z))]; exact e).rev
  rwa [List.reverse_reverse] at this
end
end K61
namespace K61
open PySem L2 Wd TS
abbrev Ent:=Int × Cl × Option Cl
theorem pricedL_mem {f:Fld} {cl:List Cl} {m:Int} {s:Cl × Int} (h:s∈pricedL f cl m):s.1∈cl∧∃ n,f.pr s.1 = some n∧s.2 = n + m:=by
 obtain ⟨c,hc,e⟩:=List.mem_filterMap.mp h
 obtain ⟨n,hn,rfl⟩:=Option.map_eq_some_iff.mp e
 exact ⟨hc,n,hn,rfl⟩
theorem stpL_mem {f:Fld} (ok:f.Ok) {c:Cl} {s:Cl × Int} (h:s∈stpL f c):(∃ n,f.pr s.1 = some n)∧0 < s.2:=by
 rcases List.mem_append.mp h with h | h
 ·obtain ⟨_,n,hn,e⟩:=pricedL_mem h
  exact ⟨⟨n,hn⟩,by have:=ok.pos _ _ hn; omega⟩
 ·cases hc:f.ch c.1 c.2.1 with
  | none => rw [hc] at h; cases h
  | some m =>
   rw [hc] at h
   obtain ⟨_,n,hn,e⟩:=pricedL_mem h
   exact ⟨⟨n,hn⟩,by have:=ok.pos _ _ hn; have:=ok.cp _ _ _ hc; omega⟩
theorem stpL_len {f:Fld} (ok:f.Ok) (c:Cl):(stpL f c).length≤7:=by
 unfold stpL
 rw [List.length_append]
 have h1:(pricedL f ((four c).filter (inXY f.W f.Hh)) 0).length≤4:=Nat.le_trans (pricedL_len _ _ _) (List.length_filter_le _ (four c))
 have h3:=ok.l.2
 split
 ·show _ + 0≤7; omega
 ·rename_i m hm
  have h2:=pricedL_len f (overs c f.L) m
  have h4:=overs_len c f.L
  omega
structure Dj (f:Fld) (st:List Cl) (wl:List Ent) (rl:List Rec) (ex:Cl→Cl × Int→Prop):Prop where
 srt:wl.Pairwise fun a b => b.1≤a.1
 nd:(rl.map (·.1)).Nodup
 on:∀ x∈rl,∃ n,f.pr x.1 = some n
 nn:∀ x∈rl,0≤x.2.1
 mono:∀ x∈rl,∀ e∈wl,x.2.1≤e.1
 wt:∀ e∈wl,(∃ n,f.pr e.2.1 = some n)∧0≤e.1∧((e.2.2 = none∧e.1 = 0∧e.2.1∈st)∨∃ y∈rl,∃ cost,e.2.2 = some y.1∧(e.2.1,cost)∈stpL f y.1∧e.1 = y.2.1 + cost)
 tree:Tree f st rl
 rel:∀ x∈rl,∀ s∈stpL f x.1,(∃ y∈rl,y.1 = s.1∧y.2.1≤x.2.1 + s.2)∨(x.2.1 + s.2,s.1,some x.1)∈wl∨ex x.1 s
 sta:∀ c∈st,(∃ n,f.pr c = some n)→(∃ x∈rl,x.1 = c∧x.2.1 = 0)∨(0,c,none)∈wl
abbrev noX:Cl→Cl × Int→Prop:=fun _ _ => False
def openS (f:Fld) (st:List Cl):List Ent:=(st.filter fun c => (f.pr c).isSome).map fun c => (0,c,none)
theorem openS_mem {f:Fld} {st:List Cl} {e:Ent}:e∈openS f st↔∃ c∈st,(∃ n,f.pr c = some n)∧e = (0,c,none):=by
 unfold openS
 rw [List.mem_map]
 constructor
 ·rintro ⟨c,h,rfl⟩
  obtain ⟨h1,h2⟩:=List.mem_filter.mp h
  exact ⟨c,h1,Option.isSome_iff_exists.mp h2,rfl⟩
 ·rintro ⟨c,h1,h2,rfl⟩
  exact ⟨c,List.mem_filter.mpr ⟨h1,Option.isSome_iff_exists.mpr h2⟩,rfl⟩
theorem Dj.start (f:Fld) (st:List Cl):Dj f st (openS f st) [] noX where
 srt:=by
  unfold openS
  rw [List.pairwise_map]
  exact List.pairwise_of_forall fun _ _ => Int.le_refl _
 nd:=List.nodup_nil
 on:=fun x h => nomatch h
 nn:=fun x h => nomatch h
 mono:=fun x h => nomatch h
 wt:=fun e h => by
  obtain ⟨c,h1,h2,rfl⟩:=openS_mem.mp h
  exact ⟨h2,Int.le_refl _,.inl ⟨rfl,rfl,h1⟩⟩
 tree:=fun i x h => nomatch h
 rel:=fun x h => nomatch h
 sta:=fun c h1 h2 => .inr (openS_mem.mpr ⟨c,h1,h2,rfl⟩)
section
variable {f:Fld} {st:List Cl} {wl:List Ent} {rl:List Rec} {e:Ent}
theorem last_le (s:(wl ++ [e]).Pairwise fun a b => b.1≤a.1):(wl.Pairwise fun a b => b.1≤a.1)∧∀ a∈wl,e.1≤a.1:=by
 rw [List.pairwise_append] at s
 exact ⟨s.1,fun a ha => s.2.2 a ha e (List.mem_singleton.mpr rfl)⟩
theorem Dj.skip (d:Dj f st (wl ++ [e]) rl noX) (h:e.2.1∈rl.map (·.1)):Dj f st wl rl noX:=by
 obtain ⟨s1,s2⟩:=last_le d.srt
 have old:∀ a∈wl,a∈wl ++ [e]:=fun a ha => List.mem_append_left _ ha
 have le:e∈wl ++ [e]:=List.mem_append_right _ (List.mem_singleton.mpr rfl)
 obtain ⟨z,hz,ez⟩:=List.mem_map.mp h
 refine ⟨s1,d.nd,d.on,d.nn,fun x hx a ha => d.mono x hx a (old a ha),fun a ha => d.wt a (old a ha),d.tree,fun x hx s hs => ?_,fun c hc ho => ?_⟩
 ·rcases d.rel x hx s hs with z1 | z1 | z1
  ·exact .inl z1
  ·rcases List.mem_append.mp z1 with z1 | z1
   ·exact .inr (.inl z1)
   ·have e1:=List.mem_singleton.mp z1
    have:=d.mono z hz e le
    rw [← e1] at ez this
    exact .inl ⟨z,hz,ez,this⟩
  ·exact z1.elim
 ·rcases d.sta c hc ho with z1 | z1
  ·exact .inl z1
  ·rcases List.mem_append.mp z1 with z1 | z1
   ·exact .inr z1
   ·have e1:=List.mem_singleton.mp z1
    have h1:=d.mono z hz e le
    have h2:=d.nn z hz
    rw [← e1] at ez h1
    have h1:z.2.1≤0:=h1
    exact .inl ⟨z,hz,ez,by omega⟩
theorem Dj.take (d:Dj f st (wl ++ [e]) rl noX) (h:e.2.1 ∉ rl.map (·.1)):Dj f st wl (rl ++ [(e.2.1,e.1,e.2.2)]) (fun a s => a = e.2.1∧s∈stpL f e.2.1):=by
 obtain ⟨s1,s2⟩:=last_le d.srt
 have old:∀ a∈wl,a∈wl ++ [e]:=fun a ha => List.mem_append_left _ ha
 have le:e∈wl ++ [e]:=List.mem_append_right _ (List.mem_singleton.mpr rfl)
 have new:(e.2.1,e.1,e.2.2)∈rl ++ [(e.2.1,e.1,e.2.2)]:=List.mem_append_right _ (List.mem_singleton.mpr rfl)
 have oldr:∀ x∈rl,x∈rl ++ [(e.2.1,e.1,e.2.2)]:=fun a ha => List.mem_append_left _ ha
 obtain ⟨w1,w2,w3⟩:=d.wt e le
 have cs:∀ {x:Rec},x∈rl ++ [(e.2.1,e.1,e.2.2)]→x∈rl∨x = (e.2.1,e.1,e.2.2):=fun hx => by
  rcases List.mem_append.mp hx with z | z
  ·exact .inl z
  ·exact .inr (List.mem_singleton.mp z)
 refine ⟨s1,?_,fun x hx => ?_,fun x hx => ?_,fun x hx a ha => ?_,fun a ha => ?_,fun i x hx => ?_,fun x hx s hs => ?_,fun c hc ho => ?_⟩
 ·rw [List.map_append,List.nodup_append]
  refine ⟨d.nd,List.nodup_cons.mpr ⟨by simp,List.nodup_nil⟩,fun a ha b hb => ?_⟩
  rw [List.mem_singleton.mp hb]
  exact fun z => h ((show a = e.2.1 from z)▸ha)
 ·rcases cs hx with z | rfl
  ·exact d.on x z
  ·exact w1
 ·rcases cs hx with z | rfl
  ·exact d.nn x z
  ·exact w2
 ·rcases cs hx with z | rfl
  ·exact d.mono x z a (old a ha)
  ·exact s2 a ha
 ·obtain ⟨a1,a2,a3⟩:=d.wt a (old a ha)
  refine ⟨a1,a2,?_⟩
  rcases a3 with z | ⟨y,hy,z⟩
  ·exact .inl z
  ·exact .inr ⟨y,oldr y hy,z⟩
 ·by_cases hi:i < rl.length
  ·rw [List.getElem?_append_left hi] at hx
   rcases d.tree i x hx with z | ⟨j,y,cost,hj,hy,z⟩
   ·exact .inl z
   ·exact .inr ⟨j,y,cost,hj,by rw [List.getElem?_append_left (by omega)]; exact hy,z⟩
  ·rw [List.getElem?_append_right (by omega)] at hx
   have i0:i - rl.length = 0:=by
    cases z:i - rl.length with
    | zero => rfl
    | succ m => rw [z] at hx; cases hx
   rw [i0] at hx
   cases hx
   rcases w3 with ⟨z1,z2,z3⟩ | ⟨y,hy,cost,z1,z2,z3⟩
   ·exact .inl ⟨z1,z2,z3⟩
   ·obtain ⟨j,hj,ej⟩:=List.getElem_of_mem hy
    exact .inr ⟨j,y,cost,by omega,by rw [List.getElem?_append_left hj,List.getElem?_eq_getElem hj,ej],z1,z2,z3⟩
 ·rcases cs hx with z | rfl
  ·rcases d.rel x z s hs with ⟨y,hy,z1⟩ | z1 | z1
   ·exact .inl ⟨y,oldr y hy,z1⟩
   ·rcases List.mem_append.mp z1 with z1 | z1
    ·exact .inr (.inl z1)
    ·have e1:=List.mem_singleton.mp z1
     refine .inl ⟨_,new,?_,?_⟩
     ·rw [← e1]
     ·rw [← e1]; exact Int.le_refl _
   ·exact z1.elim
  ·exact .inr (.inr ⟨rfl,hs⟩)
 ·rcases d.sta c hc ho with ⟨x,hx,z1⟩ | z1
  ·exact .inl ⟨x,oldr x hx,z1⟩
  ·rcases List.mem_append.mp z1 with z1 | z1
   ·exact .inr z1
   ·have e1:=List.mem_singleton.mp z1
    exact .inl ⟨_,new,by rw [← e1],by rw [← e1]⟩
variable {c:Cl} {n:Int} {p:Option Cl} {i:Nat} {s:Cl × Int}
theorem Dj.stepOld (ok:f.Ok) (d:Dj f st wl rl (fun a s => a = c∧s∈(stpL f c).drop i)) (hm:∀ x∈rl,x.2.1≤n) (hc:∀ x∈rl,x.1 = c→x.2.1 = n) (hs:(stpL f c)[i]? = some s) (h:s.1∈rl.map (·.1)):Dj f st wl rl (fun a s => a = c∧s∈(stpL f c).drop (i + 1)):=by
 refine ⟨d.srt,d.nd,d.on,d.nn,d.mono,d.wt,d.tree,fun x hx s' hs' => ?_,d.sta⟩
 rcases d.rel x hx s' hs' with z | z | ⟨z1,z2⟩
 ·exact .inl z
 ·exact .inr (.inl z)
 ·have i1:=(List.getElem?_eq_some_iff.mp hs).1
  rw [List.drop_eq_getElem_cons i1,(List.getElem?_eq_some_iff.mp hs).2] at z2
  rcases List.mem_cons.mp z2 with rfl | z2
  ·obtain ⟨y,hy,ey⟩:=List.mem_map.mp h
   have h1:=hm y hy
   have h2:=hc x hx z1
   have h3:=(stpL_mem ok (List.mem_of_getElem? hs)).2
   exact .inl ⟨y,hy,ey,by omega⟩
  ·exact .inr (.inr ⟨z1,z2⟩)
theorem Dj.stepNew (ok:f.Ok) (d:Dj f st wl rl (fun a s => a = c∧s∈(stpL f c).drop i)) (hm:∀ x∈rl,x.2.1≤n) (hx0:(c,n,p)∈rl) (hs:(stpL f c)[i]? = some s) {k:Nat} (hk:k≤wl.length)
  (h1:∀ (j:Nat) m,j < k→(wl.map (·.1))[j]? = some m→n + s.2 < m) (h2:∀ (j:Nat) m,k≤j→(wl.map (·.1))[j]? = some m→m≤n + s.2) :
  Dj f st (wl.take k ++ [(n + s.2,s.1,some c)] ++ wl.drop k) rl (fun a s => a = c∧s∈(stpL f c).drop (i + 1)):=by
 obtain ⟨o1,o2⟩:=stpL_mem ok (List.mem_of_getElem? hs)
 have n0:=d.nn _ hx0
 have n0:0≤n:=n0
 have mem:∀ a,a∈wl.take k ++ [(n + s.2,s.1,some c)] ++ wl.drop k↔a∈wl∨a = (n + s.2,s.1,some c):=fun a => by
  conv => rhs; rw [← List.take_append_drop k wl]
  simp only [List.mem_append,List.mem_singleton]
  constructor
  ·rintro ((z | z) | z)
   ·exact .inl (.inl z)
   ·exact .inr z
   ·exact .inl (.inr z)
  ·rintro ((z | z) | z)
   ·exact .inl (.inl z)
   ·exact .inr z
   ·exact .inl (.inr z)
 have tk:∀ a∈wl.take k,n + s.2 < a.1:=fun a ha => by
  obtain ⟨j,hj,rfl⟩:=List.getElem_of_mem ha
  rw [List.length_take] at hj
  rw [List.getElem_take]
  exact h1 j _ (by omega) (by rw [List.getElem?_map,List.getElem?_eq_getElem (by omega)]; rfl)
 have dp:∀ a∈wl.drop k,a.1≤n + s.2:=fun a ha => by
  obtain ⟨j,hj,rfl⟩:=List.getElem_of_mem ha
  rw [List.length_drop] at hj
  rw [List.getElem_drop]
  exact h2 (k + j) _ (by omega) (by rw [List.getElem?_map,List.getElem?_eq_getElem (by omega)]; rfl)
 have sp:=d.srt
 rw [← List.take_append_drop k wl,List.pairwise_append] at sp
 refine ⟨?_,d.nd,d.on,d.nn,fun x hx a ha => ?_,fun a ha => ?_,d.tree,fun x hx s' hs' => ?_,fun b hb ho => ?_⟩
 ·rw [List.append_assoc,List.pairwise_append]
  refine ⟨sp.1,List.pairwise_cons.mpr ⟨fun a ha => dp a ha,sp.2.1⟩,fun a ha b hb => ?_⟩
  rcases List.mem_cons.mp hb with rfl | hb
  ·exact Int.le_of_lt (tk a ha)
  ·exact sp.2.2 a ha b hb
 ·rcases (mem a).mp ha with z | rfl
  ·exact d.mono x hx a z
  ·have:=hm x hx
   show x.2.1≤n + s.2
   omega
 ·rcases (mem a).mp ha with z | rfl
  ·exact d.wt a z
  ·exact ⟨o1,by show 0≤n + s.2; omega,.inr ⟨_,hx0,s.2,rfl,List.mem_of_getElem? hs,rfl⟩⟩
 ·rcases d.rel x hx s' hs' with z | z | ⟨z1,z2⟩
  ·exact .inl z
  ·exact .inr (.inl ((mem _).mpr (.inl z)))
  ·have i1:=(List.getElem?_eq_some_iff.mp hs).1
   rw [List.drop_eq_getElem_cons i1,(List.getElem?_eq_some_iff.mp hs).2] at z2
   rcases List.mem_cons.mp z2 with rfl | z2
   ·have ex:x = (c,n,p):=by
     have h3:=d.nd
     obtain ⟨a,ha,ea⟩:=List.getElem_of_mem hx
     obtain ⟨b,hb,eb⟩:=List.getElem_of_mem hx0
     have:a = b:=(List.getElem?_inj (by rw [List.length_map]; exact ha) h3).mp (by rw [List.getElem?_map,List.getElem?_map,List.getElem?_eq_getElem ha,List.getElem?_eq_getElem hb,ea,eb]; show some x.1 = some c; rw [z1])
     subst this
     rw [← ea,eb]
    rw [ex]
    exact .inr (.inl ((mem _).mpr (.inr rfl)))
   ·exact .inr (.inr ⟨z1,z2⟩)
 ·rcases d.sta b hb ho with z | z
  ·exact .inl z
  ·exact .inr ((mem _).mpr (.inl z))
theorem Dj.weak {ex ex':Cl→Cl × Int→Prop} (d:Dj f st wl rl ex) (h:∀ a s,ex a s→ex' a s):Dj f st wl rl ex':=⟨d.srt,d.nd,d.on,d.nn,d.mono,d.wt,d.tree,fun x hx s hs => by
 rcases d.rel x hx s hs with z | z | z
 ·exact .inl z
 ·exact .inr (.inl z)
 ·exact .inr (.inr (h _ _ z)),d.sta⟩
structure Fin (f:Fld) (st:List Cl) (rl:List Rec):Prop where
 nd:(rl.map (·.1)).Nodup
 on:∀ x∈rl,∃ n,f.pr x.1 = some n
 nn:∀ x∈rl,0≤x.2.1
 tree:Tree f st rl
 rel:∀ x∈rl,∀ s∈stpL f x.1,∃ y∈rl,y.1 = s.1∧y.2.1≤x.2.1 + s.2
 sta:∀ c∈st,(∃ n,f.pr c = some n)→∃ x∈rl,x.1 = c∧x.2.1 = 0
theorem Dj.fin (d:Dj f st [] rl noX):Fin f st rl:=⟨d.nd,d.on,d.nn,d.tree,fun x hx s hs => by
 rcases d.rel x hx s hs with z | z | z
 ·exact z
 ·cases z
 ·exact z.elim,fun c hc ho => by
 rcases d.sta c hc ho with z | z
 ·exact z
 ·cases z⟩
end
theorem nodup_bound:∀ (n:Nat) (l:List Nat),l.Nodup→(∀ x∈l,x < n)→l.length≤n
 | 0,l,_,h => by
  cases l with
  | nil => exact Nat.le_refl _
  | cons a r => exact absurd (h a (List.mem_cons_self ..)) (Nat.not_lt_zero _)
 | n + 1,l,nd,h => by
  have h1:=nodup_bound n (l.filter fun x => decide (x≠n)) (List.filter_sublist.nodup nd) (fun x hx => by
   obtain ⟨a,b⟩:=List.mem_filter.mp hx
   have:=h x a
   have:x≠n:=by simpa using b
   omega)
  have h2:l.length≤(l.filter fun x => decide (x≠n)).length + 1:=by
   clear h h1
   induction l with
   | nil => simp
   | cons a r ih =>
    rw [List.nodup_cons] at nd
    by_cases e:a = n
    ·have:(r.filter fun x => decide (x≠n)) = r:=List.filter_eq_self.mpr fun x hx => by
      have:x≠n:=fun z => nd.1 (by rw [e,← z]; exact hx)
      simpa using this
     rw [List.filter_cons_of_neg (by simpa using e),this,List.length_cons]
     omega
    ·rw [List.filter_cons_of_pos (by simpa using e),List.length_cons,List.length_cons]
     have:=ih nd.2
     omega
  omega
def cellN (c:Cl):Nat:=c.1.toNat * 36 + c.2.1.toNat * 3 + c.2.2.toNat
theorem cells_few {f:Fld} (ok:f.Ok) {cl:List Cl} (nd:cl.Nodup) (on:∀ c∈cl,f.on c):cl.length≤432:=by
 have h1:=ok.w.2
 have h2:=ok.h.2
 have h3:=ok.l.2
 have inj:∀ c∈cl,∀ d∈cl,cellN c = cellN d→c = d:=fun c hc d hd e => by
  obtain ⟨a1,a2,a3,a4,a5,a6⟩:=on c hc
  obtain ⟨b1,b2,b3,b4,b5,b6⟩:=on d hd
  obtain ⟨x,y,z⟩:=c
  obtain ⟨x',y',z'⟩:=d
  unfold cellN at e
  dsimp only at *
  have:x = x'∧y = y'∧z = z':=by omega
  obtain ⟨rfl,rfl,rfl⟩:=this
  rfl
 have:=nodup_bound 432 (cl.map cellN) (by
  rw [List.Nodup,List.pairwise_map]
  refine List.Pairwise.imp_of_mem (fun {a b} ha hb hne e => hne (inj a ha b hb e)) nd) (fun x hx => by
  obtain ⟨c,hc,rfl⟩:=List.mem_map.mp hx
  obtain ⟨a1,a2,a3,a4,a5,a6⟩:=on c hc
  unfold cellN
  omega)
 rwa [List.length_map] at this
end K61
namespace K61
open PySem L2 Wd TS
def Ents (H:Hp) (es:List Addr) (l:List Ent):Prop:=es.length = l.length∧∀ (i:Nat) (e:Addr) (x:Ent),es[i]? = some e→l[i]? = some x→∃ pc pv,H e = some (.tup [.int x.1,.ref pc,pv])∧H pc = some (.tup (v3 x.2.1))∧PrevV H pv x.2.2
theorem Ents.mono {H H':Hp} {es:List Addr} {l:List Ent} (C:Ents H es l) (k:∀ p xs,H p = some (.tup xs)→H' p = some (.tup xs)):Ents H' es l:=⟨C.1,fun i e x h1 h2 => let ⟨pc,pv,a,b,c⟩:=C.2 i e x h1 h2; ⟨pc,pv,k _ _ a,k _ _ b,c.mono k⟩⟩
theorem Ents.nil {H:Hp}:Ents H [] []:=⟨rfl,fun i p c h => by cases h⟩
theorem Ents.app {H:Hp} {ps qs:List Addr} {cl dl:List Ent} (C:Ents H ps cl) (D:Ents H qs dl):Ents H (ps ++ qs) (cl ++ dl):=⟨by rw [List.length_append,List.length_append,C.1,D.1],fun i q d h1 h2 => by
 by_cases h:i < ps.length
 ·rw [List.getElem?_append_left h] at h1
  rw [List.getElem?_append_left (C.1▸h)] at h2
  exact C.2 i q d h1 h2
 ·rw [List.getElem?_append_right (by omega)] at h1
  rw [List.getElem?_append_right (by rw [← C.1]; omega),← C.1] at h2
  exact D.2 _ q d h1 h2⟩
theorem Ents.one {H:Hp} {e pc:Addr} {pv:V} {x:Ent} (h1:H e = some (.tup [.int x.1,.ref pc,pv])) (h2:H pc = some (.tup (v3 x.2.1))) (h3:PrevV H pv x.2.2):Ents H [e] [x]:=⟨rfl,fun i q d g1 g2 => by
 cases i with
 | zero => cases g1; cases g2; exact ⟨pc,pv,h1,h2,h3⟩
 | succ m => cases g1⟩
theorem Ents.take {H:Hp} {es:List Addr} {l:List Ent} (C:Ents H es l) (k:Nat):Ents H (es.take k) (l.take k):=⟨by rw [List.length_take,List.length_take,C.1],fun i e x h1 h2 => by
 rw [List.getElem?_take] at h1 h2
 split at h1
 ·rename_i h; rw [if_pos h] at h2; exact C.2 i e x h1 h2
 ·cases h1⟩
theorem Ents.drop {H:Hp} {es:List Addr} {l:List Ent} (C:Ents H es l) (k:Nat):Ents H (es.drop k) (l.drop k):=⟨by rw [List.length_drop,List.length_drop,C.1],fun i e x h1 h2 => by
 rw [List.getElem?_drop] at h1 h2
 exact C.2 _ e x h1 h2⟩
theorem Ents.nums {H:Hp} {es:List Addr} {l:List Ent} (C:Ents H es l):Nums H es (l.map (·.1)):=⟨by rw [List.length_map]; exact C.1,fun i e n h1 h2 => by
 rw [List.getElem?_map] at h2
 obtain ⟨x,hx,rfl⟩:=Option.map_eq_some_iff.mp h2
 obtain ⟨pc,pv,a,_⟩:=C.2 i e x h1 hx
 exact ⟨_,a⟩⟩
theorem Ents.last {H:Hp} {es:List Addr} {l:List Ent} {e:Addr} {x:Ent} (C:Ents H (es ++ [e]) (l ++ [x])):Ents H es l∧∃ pc pv,H e = some (.tup [.int x.1,.ref pc,pv])∧H pc = some (.tup (v3 x.2.1))∧PrevV H pv x.2.2:=by
 have hl:es.length = l.length:=by have:=C.1; rw [List.length_append,List.length_append] at this; exact Nat.succ.inj this
 have h1:=C.take es.length
 rw [List.take_left,hl,List.take_left] at h1
 exact ⟨h1,C.2 es.length e x (by rw [List.getElem?_append_right (Nat.le_refl _),Nat.sub_self]; rfl) (by rw [hl,List.getElem?_append_right (Nat.le_refl _),Nat.sub_self]; rfl)⟩
theorem Kv.snoc {H:Hp} {kvs:List (List Key × V)} {rl:List Rec} (h:Kv H kvs rl) {x:Rec} {v:V} (r:RecV H v x):Kv H (kvs ++ [(k3 x.1,v)]) (rl ++ [x]):=paired_app h (.cons ⟨rfl,r⟩ .nil)
theorem snoc_or {α:Type} (l:List α):l = []∨∃ r a,l = r ++ [a]:=by
 rcases List.eq_nil_or_concat l with h | ⟨r,a,h⟩
 ·exact .inl h
 ·exact .inr ⟨r,a,by rw [h,List.concat_eq_append]⟩
theorem openS_app (f:Fld) (a b:List Cl):openS f (a ++ b) = openS f a ++ openS f b:=by unfold openS; rw [List.filter_append,List.map_append]
theorem openS_len (f:Fld) (a:List Cl):(openS f a).length≤a.length:=by unfold openS; rw [List.length_map]; exact List.length_filter_le _ _
theorem Fin.few {f:Fld} {st:List Cl} {wl:List Ent} {rl:List Rec} {ex:Cl→Cl × Int→Prop} (ok:f.Ok) (d:Dj f st wl rl ex):rl.length≤432:=by
 have:=cells_few ok d.nd (fun c hc => by
  obtain ⟨x,hx,rfl⟩:=List.mem_map.mp hc
  obtain ⟨n,hn⟩:=d.on x hx
  exact ok.on _ _ hn)
 rwa [List.length_map] at this
section
variable {P:Program} {w:World} {K:PySem.W.Frag} {mg:Str→Option Value} {base:Heap} {t:Adr}
def spSpread (P:Program) (w:World) (K:PySem.W.Frag) (mg:Str→Option Value) (base:Heap):Sp:=fun vs H Q _ => ∃ (H0:Hp) (A fp ft:Addr) (f:Fld) (n:Nat) (sz ls:Addr) (ps:List Addr) (st:List Cl),vs = [.ref sz,.ref fp,.ref ft,.ref ls]∧Wld P w K mg base H0 A fp ft f∧OffP A H0 H∧Ask H A n∧H sz = some (.tup [.int f.W,.int f.Hh,.int f.L])∧H ls = some (.lst (ps.map V.ref))∧ls≠A∧Cells H ps st∧(∀ c∈st,f.on c)∧st.length≤5∧n≤40000 ∧
 ∀ R kvs rl H' k,k≤4000→OffP A H H'→Ask H' A (n + k)→H R = none→H' R = some (.dT kvs)→Kv H' kvs rl→Fin f st rl→rl.length≤432→Q (.ref R) H'
theorem ok_spread_wave (T:Txt K mg t):GoodF P w K mg base 5 "spread_wave" ["size","price","through","starts"] (spSpread P w K mg base):=by
 obtain ⟨fd,F,b⟩:=T.F_spread_wave
 have G_steps:=ok_steps (P:=P) (w:=w) (base:=base) T
 have G_put_in:=ok_put_in (P:=P) (w:=w) (base:=base) T
 refine ⟨_,fd,F.okX sc_spread_wave (fun vs H Q E h => ?_) (fun cdv A outer s H vs Q E hr h => ?_),b,F.kp,T.g_spread_wave⟩
 ·obtain ⟨H0,A,fp,ft,f,n,sz,ls,ps,st,rfl,_⟩:=h
  rfl
 ·obtain ⟨H0,A,fp,ft,f,n,sz,ls,ps,st,rfl,Wd,off,ask,hsz,hls,nls,C,hon,hst,hn,q⟩:=h
  refine ⟨_,(pss_cons (ps_setcomp (i:=4) sc_spread_wave.nd rfl (Or.inl rfl) (own:=["start"]) (cs_one (n:="price") (N:=["size","price","through","starts","waiting","reached","entry","cell","other","cost"]) rfl (by rfl) (by rfl) rfl (by rfl) (by decide +kernel) (by decide +kernel) (by decide +kernel)) (pi_list (pv 3)) (fun _ _ _ _ _ => pg_name (i:=10) (by show (["size","price","through","starts","waiting","reached","entry","cell","other","cost","start"]:List Str).Nodup; decide +kernel) rfl (Or.inl rfl)) (fun _ _ _ _ _ => pf_one (pt_cmp (pc_notN (pe_callU (k:=2) (P:=P) (w:=w) (K:=K) (mg:=mg) (base:=base) rfl rfl rfl rfl rfl (pv 1) (hr.mono (by decide)) (pa_cons (pv 10) pa_nil))))) (fun _ _ _ _ _ => (pe_tup (pa_cons pe_int (pa_cons (pv 10) (pa_cons pe_non pa_nil))))))
   (pss_cons (ps_set (i:=5) sc_spread_wave.nd rfl (Or.inl rfl) pe_dnewT)
   (pss_cons (ps_while owns_of (pt_truth (pv 4) (fun _ => rfl)) (pss_cons (ps_set (i:=6) sc_spread_wave.nd rfl (Or.inl rfl) (pe_bm0 PySem.F.plainAttrs_list PySem.F.slot_list_pop PySem.F.type_list_pop mt_pop (pv 4)))
   (pss_cons (ps_set (i:=7) sc_spread_wave.nd rfl (Or.inl rfl) (pe_ix ix_tup (pv 6) pe_int (fun _ _ => rfl)))
   (pss_cons (ps_if (pt_cmp (pc_din (hu_of hr) (pv 7) (pv 5))) (pss_one ps_continue) pss_nil)
   (pss_cons (ps_dput (hu_of hr) (pv 5) (pv 7) (pe_tup (pa_cons (pe_ix ix_tup (pv 6) pe_int (fun _ _ => rfl)) (pa_cons (pe_ix ix_tup (pv 6) pe_int (fun _ _ => rfl)) pa_nil))) rfl)
   (pss_one (ps_for owns_of (pi_list (pe_callG G_steps (hr.mono (by decide)) passes_of (by rfl) (pa_cons (pv 0) (pa_cons (pv 1) (pa_cons (pv 2) (pa_cons (pv 7) pa_nil)))))) (pg_tup rfl (pgs_cons (pg_name (i:=8) sc_spread_wave.nd rfl (Or.inl rfl)) (pgs_cons (pg_name (i:=9) sc_spread_wave.nd rfl (Or.inl rfl)) pgs_nil))) (pss_one (ps_if (pt_cmp (pc_dnotin (hu_of hr) (pv 8) (pv 5))) (pss_one (ps_expr (pe_callG G_put_in (hr.mono (by decide)) passes_of (by rfl) (pa_cons (pv 4) (pa_cons (pe_tup (pa_cons (pe_op op_add (pe_ix ix_tup (pv 6) pe_int (fun _ _ => rfl)) (pv 9)) (pa_cons (pv 8) (pa_cons (pv 7) pa_nil)))) pa_nil))))) pss_nil)))))))))
   (pss_one (ps_ret (pv 5)))))),?_⟩
  have lz:(ps.map V.ref).length≤sizeLine:=by rw [List.length_map,C.1]; exact Nat.le_trans hst (by decide)
  refine sg1 (fun (W:Addr) => [oR sz,oR fp,oR ft,oR ls,oR W,none,none,none,none,none]) (fun W H' => OffP A H H'∧Ask H' A (n + st.length)∧H W = none∧∃ es,H' W = some (.lst (es.map V.ref))∧Ents H' es (openS f st)) (fun B hB => ?_) ?_
  ·refine ⟨_,rfl,ls,rfl,⟨_,SqL.of hls⟩,comp_list (xs:=ps.map V.ref) (fun D i ys H' => OffP A H H'∧Ask H' A (n + i)∧H D = none∧H' D = some (.lst ys)∧H' ls = some (.lst (ps.map V.ref))∧i≤st.length∧ys.length≤i∧∃ es:List Addr,ys = es.map V.ref∧Ents H' es (openS f (st.take i))) lz (fun D hD => ⟨OffP.of (same_new (Same.refl H) hD),Ask.same ask (same_new (Same.refl H) hD),hD,upd_same,same_new (Same.refl H) hD _ _ hls,Nat.zero_le _,Nat.zero_le _,[],rfl,Ents.nil⟩) (fun D i ys H' hv => ⟨hv.2.2.2.1,hv.2.2.2.2.2.2.1,SqL.of hv.2.2.2.2.1⟩) ?_ ?_⟩
   ·rintro D i x ys H' Qy Qn hx ⟨o1,a1,d1,e1,l1,i1,y1,es,rfl,R⟩ hy hn'
    rw [List.getElem?_map] at hx
    obtain ⟨p,hp,rfl⟩:=Option.map_eq_some_iff.mp hx
    obtain ⟨c,hc,ep⟩:=C.at_ hp
    have ic:i < st.length:=(List.getElem?_eq_some_iff.mp hc).1
    have ep1:=ask.offT o1 _ _ ep
    have nD:D≠A:=ask.ne d1
    have U1:=Wd.up.off Wd.np (off.trans o1)
    have tk:=take_snoc hc
    refine ⟨⟨_,rfl,rfl⟩,_,rfl,fp,rfl,U1,_,rfl,U1,_,Wd.cp,p,c,n + i,rfl,off.trans o1,ep1,hon c (List.mem_of_getElem? hc),a1,by omega,fun H2 o2 a2 => ?_⟩
    have e12:=o2 _ _ nD e1
    have l12:=o2 _ _ nls l1
    cases hpr:f.pr c with
    | none =>
     refine ⟨_,rfl,iteF (hn' _ ⟨o1.trans o2,a2,d1,e12,l12,ic,by omega,es,rfl,?_⟩)⟩
     rw [tk,openS_app,show openS f [c] = [] by simp [openS,hpr],List.append_nil]
     exact R.mono (a1.offT o2)
    | some v =>
     refine ⟨_,rfl,iteT ⟨_,rfl,sL3,fun r hr => ?_⟩⟩
     have nrD:r≠D:=Ne.symm (ne_of_none e12 hr)
     have kt:∀ q xs,H' q = some (.tup xs)→upd (upd H2 r (.tup [.int 0,.ref p,.non])) D (.lst (es.map V.ref ++ [.ref r])) q = some (.tup xs):=fun q xs e => by
      have e2:=a1.offT o2 q xs e
      rw [upd_ne (ne_of e2 e12 (fun z => nomatch z)),upd_ne (ne_of_none e2 hr)]; exact e2
     refine hy _ _ (by rw [upd_ne (ne_of_none e12 hr)]; exact e12) ⟨(o1.trans o2).put hr d1,(a2.upd (a2.ne hr) _).upd nD _,d1,upd_same,by rw [upd_ne (ne_of_none hls d1),upd_ne (ne_of_none l12 hr)]; exact l12,ic,by rw [List.length_append]; exact Nat.succ_le_succ y1,es ++ [r],by rw [List.map_append]; rfl,?_⟩
     rw [tk,openS_app,show openS f [c] = [(0,c,none)] by simp [openS,hpr]]
     exact (R.mono kt).app (Ents.one (pc:=p) (pv:=.non) (by rw [upd_ne nrD]; exact upd_same) (kt p _ ep1) trivial)
   ·rintro D ys H' hD ⟨o1,a1,d1,e1,l1,i1,y1,es,rfl,R⟩
    rw [List.length_map,C.1] at a1 R
    rw [take_all rfl] at R
    exact hB D H' ⟨o1,a1,d1,es,e1,R⟩
  rintro W H1 ⟨o1,a1,hW,es0,eW,E0⟩
  refine sg1 (fun (R:Addr) => [oR sz,oR fp,oR ft,oR ls,oR W,oR R,none,none,none,none]) (fun R H' => Same H1 H'∧H1 R = none∧H' R = some (.dT [])) (fun B hB => fun R hR => hB R _ ⟨same_new (Same.refl H1) hR,hR,upd_same⟩) ?_
  rintro R H2 ⟨s2,hR1,eR⟩
  have hR:H R = none:=o1.nn hR1 (a1.ne hR1)
  have nWR:W≠R:=ne_of_none eW hR1
  have nWA:W≠A:=ask.ne hW
  have nRA:R≠A:=ask.ne hR
  refine sg4 (fun (v6 v7 v8 v9:Option V) => [oR sz,oR fp,oR ft,oR ls,oR W,oR R,v6,v7,v8,v9]) (fun _ _ _ _ H' => ∃ kvs rl k,k≤4000∧OffP A H H'∧Ask H' A (n + k)∧H' R = some (.dT kvs)∧Kv H' kvs rl∧Fin f st rl∧rl.length≤432) (fun B hB => ?_) ?_
  ·refine ⟨fun m σ H' => ∃ (es:List Addr) (wl:List Ent) (kvs:List (List Key × V)) (rl:List Rec) (k:Nat) (v6 v7 v8 v9:Option V),m = wl.length + 8 * (500 - rl.length)∧σ = [oR sz,oR fp,oR ft,oR ls,oR W,oR R,v6,v7,v8,v9]∧OffP A H H'∧Ask H' A (n + k)∧H' W = some (.lst (es.map V.ref))∧Ents H' es wl∧H' R = some (.dT kvs)∧Kv H' kvs rl∧Dj f st wl rl noX∧k≤5 + 9 * rl.length∧wl.length≤5 + 7 * rl.length,⟨_,es0,openS f st,[],[],st.length,none,none,none,none,rfl,rfl,o1.trans (OffP.of s2),a1.same s2,s2 _ _ eW,E0.mono fun _ _ e => s2 _ _ e,eR,.nil,Dj.start f st,by omega,Nat.le_trans (openS_len f st) (by omega)⟩,?_⟩
   rintro m σ H' ⟨es,wl,kvs,rl,k,v6,v7,v8,v9,rfl,rfl,o3,a3,eW3,E3,eR3,kv3,dj,hk,hw⟩
   have few:=Fin.few Wd.ok dj
   rcases snoc_or es with rfl | ⟨es',e,rfl⟩
   ·have:wl = []:=List.length_eq_zero_iff.mp E3.1.symm
    subst this
    exact ⟨_,rfl,false,.inl ⟨_,SqL.of eW3,rfl⟩,iteF (hB _ _ _ _ _ ⟨kvs,rl,k,by omega,o3,a3,eR3,kv3,dj.fin,few⟩)⟩
   rcases snoc_or wl with rfl | ⟨wl',x,rfl⟩
   ·have:=E3.1
    rw [List.length_append] at this
    cases this
   refine ⟨_,rfl,true,.inl ⟨_,SqL.of eW3,by rw [List.map_append]; simp⟩,iteT ⟨_,fun _ _ h => h,?_⟩⟩
   obtain ⟨E4,pc,pv,ee,epc,hpv⟩:=E3.last
   have lw:(wl' ++ [x]).length = wl'.length + 1:=by rw [List.length_append]; rfl
   refine sg0 [oR sz,oR fp,oR ft,oR ls,oR W,oR R,oR e,v7,v8,v9] (fun H4 => H4 = upd H' W (.lst (es'.map V.ref))) (fun B hB' => ?_) ?_
   ·refine ⟨_,rfl,.inl ⟨rfl,_,SqL.of eW3⟩,W,_,.ref e,rfl,rfl,eW3,by rw [List.map_append]; simp,?_⟩
    have:=hB' _ rfl
    rw [show ((es' ++ [e]).map V.ref).dropLast = es'.map V.ref by rw [List.map_append]; simp]
    exact this
   rintro H4 rfl
   have kt4:∀ q xs,H' q = some (.tup xs)→upd H' W (.lst (es'.map V.ref)) q = some (.tup xs):=fun q xs e => by rw [upd_ne (ne_of e eW3 (fun z => nomatch z))]; exact e
   have o4:OffP A H (upd H' W (.lst (es'.map V.ref))):=fun b u nb e => by rw [upd_ne (ne_of_none e hW)]; exact o3 b u nb e
   have a4:Ask (upd H' W (.lst (es'.map V.ref))) A (n + k):=a3.upd nWA _
   have eW4:upd H' W (.lst (es'.map V.ref)) W = some (.lst (es'.map V.ref)):=upd_same
   have eR4:upd H' W (.lst (es'.map V.ref)) R = some (.dT kvs):=by rw [upd_ne (Ne.symm nWR)]; exact eR3
   have kv4:=kv3.mono kt4
   have ee4:=kt4 _ _ ee
   have epc4:=kt4 _ _ epc
   have hpv4:=hpv.mono kt4
   have E4:=E4.mono kt4
   generalize upd H' W (.lst (es'.map V.ref)) = H4 at o4 a4 eW4 eR4 kv4 ee4 epc4 hpv4 E4
   refine sg0 [oR sz,oR fp,oR ft,oR ls,oR W,oR R,oR e,oR pc,v8,v9] (fun H5 => H5 = H4) (fun B hB' => ⟨_,rfl,e,_,1,.ref pc,rfl,rfl,SqT.of ee4,rfl,hB' _ rfl⟩) ?_
   rintro H5 rfl
   refine sg0 [oR sz,oR fp,oR ft,oR ls,oR W,oR R,oR e,oR pc,v8,v9] (fun H6 => H6 = H5∧x.2.1 ∉ rl.map (·.1)) (fun B hB' => ?_) ?_
   ·refine ⟨_,rfl,_,rfl,R,_,rfl,DGet.t (k:=k3 x.2.1) eR4 epc4,_,rfl,iteB (fun g => ?_) fun g => hB' _ ⟨rfl,fun z => by rw [(kv4.has _).mpr z] at g; cases g⟩⟩
    have hin:=(kv4.has _).mp g
    exact ⟨wl'.length + 8 * (500 - rl.length),by rw [lw]; omega,es',wl',kvs,rl,k,_,_,_,_,rfl,rfl,o4,a4,eW4,E4,eR4,kv4,dj.skip hin,hk,by rw [lw] at hw; omega⟩
   rintro H6 ⟨rfl,hnew⟩
   have dj5:=dj.take hnew
   have lr:(rl ++ [(x.2.1,x.1,x.2.2)]).length = rl.length + 1:=by rw [List.length_append]; rfl
   have few5:=Fin.few Wd.ok dj5
   rw [lr] at few5
   refine sg0 [oR sz,oR fp,oR ft,oR ls,oR W,oR R,oR e,oR pc,v8,v9] (fun H7 => ∃ kvs',OffP A H H7∧Ask H7 A (n + k)∧H7 W = some (.lst (es'.map V.ref))∧Ents H7 es' wl'∧H7 R = some (.dT kvs')∧Kv H7 kvs' (rl ++ [(x.2.1,x.1,x.2.2)])∧H7 e = some (.tup [.int x.1,.ref pc,pv])∧H7 pc = some (.tup (v3 x.2.1))) (fun B hB' => ?_) ?_
   ·refine ⟨_,rfl,e,_,0,.int x.1,rfl,rfl,SqT.of ee4,rfl,_,rfl,e,_,2,pv,rfl,rfl,SqT.of ee4,rfl,sL2,fun v hv => ?_⟩
    have sv:=same_new (o:=.tup [.int x.1,pv]) (Same.refl H6) hv
    have ev:upd H6 v (.tup [.int x.1,pv]) v = some (.tup [.int x.1,pv]):=upd_same
    generalize upd H6 v (.tup [.int x.1,pv]) = H7 at sv ev
    refine ⟨_,rfl,_,rfl,R,_,rfl,DPut.t (k:=k3 x.2.1) (sv _ _ eR4) (sv _ _ epc4) (by rw [kv4.len]; exact Nat.lt_of_le_of_lt (show _≤432 by omega) (by decide)),?_⟩
    have kt:∀ q xs,H7 q = some (.tup xs)→upd H7 R (.dT (putK kvs (k3 x.2.1) (.ref v))) q = some (.tup xs):=fun q xs e => by rw [upd_ne (ne_of e (sv _ _ eR4) (fun z => nomatch z))]; exact e
    have kt2:∀ q xs,H6 q = some (.tup xs)→upd H7 R (.dT (putK kvs (k3 x.2.1) (.ref v))) q = some (.tup xs):=fun q xs e => kt q xs (sv _ _ e)
    refine hB' _ ⟨putK kvs (k3 x.2.1) (.ref v),fun b u nb e => ?_,(a4.same sv).upd nRA _,?_,E4.mono kt2,upd_same,?_,kt2 _ _ ee4,kt2 _ _ epc4⟩
    ·rw [upd_ne (ne_of_none e hR)]; exact sv _ _ (o4 b u nb e)
    ·rw [upd_ne nWR]; exact sv _ _ eW4
    ·have:=(kv4.mono kt2).snoc (x:=(x.2.1,x.1,x.2.2)) ⟨v,pv,rfl,kt _ _ ev,hpv4.mono kt2⟩
     rwa [← putK_new (V.ref v) (kv4.none hnew)] at this
   rintro H7 ⟨kvs',o7,a7,eW7,E7,eR7,kv7,ee7,epc7⟩
   have hsz7:=ask.offT o7 _ _ hsz
   obtain ⟨pn,hpn⟩:=(dj.wt x (List.mem_append_right _ (List.mem_singleton.mpr rfl))).1
   have hx0:(x.2.1,x.1,x.2.2)∈rl ++ [(x.2.1,x.1,x.2.2)]:=List.mem_append_right _ (List.mem_singleton.mpr rfl)
   have hmx:∀ y∈rl ++ [(x.2.1,x.1,x.2.2)],y.2.1≤x.1:=fun y hy => by
    rcases List.mem_append.mp hy with z | z
    ·exact dj.mono y z x (List.mem_append_right _ (List.mem_singleton.mpr rfl))
    ·rw [List.mem_singleton.mp z]; exact Int.le_refl _
   have hcx:∀ y∈rl ++ [(x.2.1,x.1,x.2.2)],y.1 = x.2.1→y.2.1 = x.1:=fun y hy ey => by
    rcases List.mem_append.mp hy with z | z
    ·exact absurd (List.mem_map.mpr ⟨y,z,ey⟩) hnew
    ·rw [List.mem_singleton.mp z]
   generalize hrl:rl ++ [(x.2.1,x.1,x.2.2)] = rl7 at *
   refine ⟨_,rfl,_,rfl,_,rfl,_,rfl,H0,A,fp,ft,f,n + k,sz,pc,x.2.1,rfl,Wd,off.trans o7,a7,hsz7,epc7,Wd.ok.on _ _ hpn,by omega,fun D rs H8 kk hkk o8 a8 hD eD R8 => ?_⟩
   have nDW:D≠W:=Ne.symm (ne_of_none eW7 hD)
   have nDA:D≠A:=a7.ne hD
   have l7:=stpL_len Wd.ok x.2.1
   have lrs:rs.length = (stpL f x.2.1).length:=by rw [R8.1,iV_len]
   have kt8:=a7.offT o8
   refine ⟨D,rfl,⟨_,SqL.of eD⟩,for_list (xs:=rs.map V.ref) (fun i σ H' => ∃ (es9:List Addr) (wl9:List Ent) (v8 v9:Option V),σ = [oR sz,oR fp,oR ft,oR ls,oR W,oR R,oR e,oR pc,v8,v9]∧OffP A H H'∧Ask H' A (n + k + kk)∧H' W = some (.lst (es9.map V.ref))∧Ents H' es9 wl9∧H' R = some (.dT kvs')∧Kv H' kvs' rl7∧H' e = some (.tup [.int x.1,.ref pc,pv])∧H' pc = some (.tup (v3 x.2.1))∧H' D = some (.lst (rs.map V.ref))∧Prs H' rs (iV (stpL f x.2.1))∧Dj f st wl9 rl7 (fun a s => a = x.2.1∧s∈(stpL f x.2.1).drop i)∧wl9.length≤wl'.length + i)
    ⟨es',wl',_,_,rfl,o7.trans o8,a8,o8 _ _ nWA eW7,E7.mono kt8,o8 _ _ nRA eR7,kv7.mono kt8,kt8 _ _ ee7,kt8 _ _ epc7,eD,R8,dj5,Nat.le_refl _⟩ (fun i σ H' _ h => by obtain ⟨_,_,_,_,_,_,_,_,_,_,_,_,_,z,_⟩:=h; exact SqL.of z) ?_ ?_⟩
   ·rintro i v σ H9 hv ⟨es9,wl9,v8',v9',rfl,o9,a9,eW9,E9,eR9,kv9,ee9,epc9,eD9,R9,dj9,len9⟩
    rw [List.getElem?_map] at hv
    obtain ⟨r,hr1,rfl⟩:=Option.map_eq_some_iff.mp hv
    obtain ⟨s',p,hs,er,ep⟩:=R9.at_ hr1
    unfold iV at hs
    rw [List.getElem?_map] at hs
    obtain ⟨s,hs1,rfl⟩:=Option.map_eq_some_iff.mp hs
    dsimp only at er ep
    refine ⟨r,_,rfl,SqT.of er,rfl,_,_,rfl,_,_,rfl,rfl,?_⟩
    refine ⟨_,rfl,_,rfl,R,_,rfl,DGet.t (k:=k3 s.1) eR9 ep,_,rfl,iteNB (fun g => ?_) fun g => ?_⟩
    ·refine ⟨_,rfl,_,rfl,e,_,0,.int x.1,rfl,rfl,SqT.of ee9,rfl,_,rfl,x.1,s.2,rfl,rfl,_,rfl,_,rfl,sL3,fun ne hne => ?_⟩
     have s10:=same_new (o:=.tup [.int (x.1 + s.2),.ref p,.ref pc]) (Same.refl H9) hne
     have ene:upd H9 ne (.tup [.int (x.1 + s.2),.ref p,.ref pc]) ne = some (.tup [.int (x.1 + s.2),.ref p,.ref pc]):=upd_same
     generalize upd H9 ne (.tup [.int (x.1 + s.2),.ref p,.ref pc]) = H10 at s10 ene
     have E10:=E9.mono fun _ _ e => s10 _ _ e
     have i1:=(List.getElem?_eq_some_iff.mp hs1).1
     refine ⟨W,ne,es9,wl9.map (·.1),x.1 + s.2,_,rfl,s10 _ _ eW9,E10.nums,List.pairwise_map.mpr dj9.srt,ene,by rw [E9.1]; rw [lw] at hw; omega,fun j hj h1 h2 => ?_⟩
     have kt:∀ q xs,H10 q = some (.tup xs)→upd H10 W (.lst ((es9.take j ++ [ne] ++ es9.drop j).map V.ref)) q = some (.tup xs):=fun q xs e => by rw [upd_ne (ne_of e (s10 _ _ eW9) (fun z => nomatch z))]; exact e
     have kt2:∀ q xs,H9 q = some (.tup xs)→upd H10 W (.lst ((es9.take j ++ [ne] ++ es9.drop j).map V.ref)) q = some (.tup xs):=fun q xs e => kt q xs (s10 _ _ e)
     refine ⟨es9.take j ++ [ne] ++ es9.drop j,wl9.take j ++ [(x.1 + s.2,s.1,some x.2.1)] ++ wl9.drop j,_,_,rfl,fun b u nb e => ?_,(a9.same s10).upd nWA _,upd_same,?_,?_,kv9.mono kt2,kt2 _ _ ee9,kt2 _ _ epc9,?_,R9.mono kt2,dj9.stepNew Wd.ok hmx hx0 hs1 (by rw [← E9.1]; exact hj) h1 h2,?_⟩
     ·rw [upd_ne (ne_of_none e hW)]; exact s10 _ _ (o9 b u nb e)
     ·exact (((E10.take j).mono kt).app (Ents.one (x:=(x.1 + s.2,s.1,some x.2.1)) (pc:=p) (pv:=.ref pc) (kt _ _ ene) (kt2 _ _ ep) (kt2 _ _ epc9))).app ((E10.drop j).mono kt)
     ·rw [upd_ne (Ne.symm nWR)]; exact s10 _ _ eR9
     ·rw [upd_ne nDW]; exact s10 _ _ eD9
     ·simp only [List.length_append,List.length_take,List.length_drop,List.length_singleton]
      omega
    ·exact ⟨es9,wl9,_,_,rfl,o9,a9,eW9,E9,eR9,kv9,ee9,epc9,eD9,R9,dj9.stepOld Wd.ok hmx hcx hs1 ((kv9.has _).mp g),by omega⟩
   ·rintro σ H9 ⟨es9,wl9,v8',v9',rfl,o9,a9,eW9,E9,eR9,kv9,ee9,epc9,eD9,R9,dj9,len9⟩
    rw [List.length_map,lrs] at dj9 len9
    have dj10:=dj9.weak (ex':=noX) fun a s z => by rw [List.drop_of_length_le (Nat.le_refl _)] at z; cases z.2
    rw [lw] at hw ⊢
    exact ⟨wl9.length + 8 * (500 - rl7.length),by omega,es9,wl9,kvs',rl7,k + kk,_,_,_,_,rfl,rfl,o9,by rw [← Nat.add_assoc]; exact a9,eW9,E9,eR9,kv9,dj10,by omega,by omega⟩
  rintro v6 v7 v8 v9 H3 ⟨kvs,rl,k,hk,o3,a3,eR3,kv3,fin,few⟩
  exact ⟨_,rfl,q R kvs rl H3 k hk o3 a3 hR eR3 kv3 fin few⟩
end
end K61
namespace K61
open PySem L2 Wd TS
def numL (rl:List Rec):List (List Key × V):=rl.map fun x => (k3 x.1,.int x.2.1)
theorem numL_app (a b:List Rec):numL (a ++ b) = numL a ++ numL b:=List.map_append
theorem numL_len (a:List Rec):(numL a).length = a.length:=List.length_map ..
theorem numL_none {rl:List Rec} {c:Cl} (h:c ∉ rl.map (·.1)):valV (numL rl) (k3 c) = none:=by
 induction rl with
 | nil => rfl
 | cons x r ih =>
  rw [List.map_cons,List.mem_cons,not_or] at h
  show valV ((k3 x.1,V.int x.2.1) :: numL r) (k3 c) = none
  rw [valV_neg (fun e => h.1 (k3_inj e).symm)]
  exact ih h.2
theorem numL_some {rl:List Rec} (nd:(rl.map (·.1)).Nodup) {x:Rec} (h:x∈rl):valV (numL rl) (k3 x.1) = some (.int x.2.1):=by
 induction rl with
 | nil => cases h
 | cons y r ih =>
  rw [List.map_cons,List.nodup_cons] at nd
  show valV ((k3 y.1,V.int y.2.1) :: numL r) (k3 x.1) = _
  rcases List.mem_cons.mp h with rfl | h
  ·exact valV_pos rfl
  ·rw [valV_neg (p:=(k3 y.1,V.int y.2.1)) (fun e => nd.1 ((k3_inj (c:=y.1) (d:=x.1) e)▸List.mem_map.mpr ⟨x,h,rfl⟩))]
   exact ih nd.2 h
theorem numL_has {rl:List Rec} (nd:(rl.map (·.1)).Nodup) (c:Cl):(valV (numL rl) (k3 c)).isSome = true↔c∈rl.map (·.1):=by
 constructor
 ·intro e
  by_cases h:c∈rl.map (·.1)
  ·exact h
  ·rw [numL_none h] at e; cases e
 ·intro h
  obtain ⟨x,hx,rfl⟩:=List.mem_map.mp h
  rw [numL_some nd hx]
  rfl
theorem rec_eq {rl:List Rec} (nd:(rl.map (·.1)).Nodup) {x y:Rec} (hx:x∈rl) (hy:y∈rl) (e:x.1 = y.1):x = y:=by
 obtain ⟨a,ha,ea⟩:=List.getElem_of_mem hx
 obtain ⟨b,hb,eb⟩:=List.getElem_of_mem hy
 have:a = b:=(List.getElem?_inj (by rw [List.length_map]; exact ha) nd).mp (by rw [List.getElem?_map,List.getElem?_map,List.getElem?_eq_getElem ha,List.getElem?_eq_getElem hb,ea,eb]; show some x.1 = some y.1; rw [e])
 subst this
 rw [← ea,eb]
def endsL (rl:List Rec) (gl:List Cl):List (Int × Cl):=gl.filterMap fun g => (rl.find? fun x => decide (x.1 = g)).map fun x => (x.2.1,g)
theorem endsL_app (rl:List Rec) (a b:List Cl):endsL rl (a ++ b) = endsL rl a ++ endsL rl b:=List.filterMap_append
theorem find_of {rl:List Rec} (nd:(rl.map (·.1)).Nodup) {x:Rec} (h:x∈rl):(rl.find? fun y => decide (y.1 = x.1)) = some x:=by
 cases e:rl.find? fun y => decide (y.1 = x.1) with
 | none =>
  have:=List.find?_eq_none.mp e x h
  simp at this
 | some y => rw [rec_eq nd (List.mem_of_find?_eq_some e) h (of_decide_eq_true (by simpa using List.find?_some e))]
theorem endsL_one {rl:List Rec} (nd:(rl.map (·.1)).Nodup) {x:Rec} (h:x∈rl):endsL rl [x.1] = [(x.2.1,x.1)]:=by
 unfold endsL
 rw [List.filterMap_cons,find_of nd h]
 rfl
theorem endsL_no {rl:List Rec} {g:Cl} (h:g ∉ rl.map (·.1)):endsL rl [g] = []:=by
 unfold endsL
 have:(rl.find? fun y => decide (y.1 = g)) = none:=List.find?_eq_none.mpr fun x hx => by
  have:x.1≠g:=fun e => h (e▸List.mem_map.mpr ⟨x,hx,rfl⟩)
  simpa using this
 rw [List.filterMap_cons,this]
 rfl
theorem endsL_mem {rl:List Rec} {gl:List Cl} {e:Int × Cl} (h:e∈endsL rl gl):e.2∈gl∧∃ x∈rl,x.1 = e.2∧x.2.1 = e.1:=by
 obtain ⟨g,hg,e1⟩:=List.mem_filterMap.mp h
 obtain ⟨x,hx,rfl⟩:=Option.map_eq_some_iff.mp e1
 exact ⟨hg,x,List.mem_of_find?_eq_some hx,of_decide_eq_true (by simpa using List.find?_some hx),rfl⟩
theorem mem_endsL {rl:List Rec} (nd:(rl.map (·.1)).Nodup) {gl:List Cl} {x:Rec} (hx:x∈rl) (hg:x.1∈gl):(x.2.1,x.1)∈endsL rl gl:=List.mem_filterMap.mpr ⟨x.1,hg,by rw [find_of nd hx]; rfl⟩
theorem endsL_len (rl:List Rec) (gl:List Cl):(endsL rl gl).length≤gl.length:=List.length_filterMap_le _ _
abbrev eK (e:Int × Cl):List (Key ⊕ List Key):=[.inl (.inl e.1),.inr (k3 e.2)]
theorem cmp33 (c d:Cl):cmpL keyOd (k3 c) (k3 d):=by
 unfold k3 cmpL
 exact ⟨rfl,fun _ => by unfold cmpL; exact ⟨rfl,fun _ => by unfold cmpL; exact ⟨rfl,fun _ => by unfold cmpL; trivial⟩⟩⟩
theorem cmpE (a b:Int × Cl):cmpL nOd (eK a) (eK b):=by
 unfold eK cmpL
 exact ⟨rfl,fun _ => by unfold cmpL; exact ⟨cmp33 _ _,fun _ => by unfold cmpL; trivial⟩⟩
theorem ltE {a b:Int × Cl} (h:ltL nOd (eK a) (eK b) = false):b.1≤a.1:=by
 by_cases e:a.1 = b.1
 ·omega
 ·have:ltL nOd (eK a) (eK b) = decide (a.1 < b.1):=by
   unfold eK
   show (if (Sum.inl (Sum.inl a.1):Key ⊕ List Key) = Sum.inl (Sum.inl b.1) then _ else _) = _
   rw [if_neg (fun z => e (Sum.inl.inj (Sum.inl.inj z)))]
   rfl
  rw [this] at h
  have:=of_decide_eq_false h
  omega
def Eds (H:Hp) (es:List Addr) (l:List (Int × Cl)):Prop:=Paired (fun (e:Addr) (x:Int × Cl) => ∃ p,H e = some (.tup [.int x.1,.ref p])∧H p = some (.tup (v3 x.2))) es l
theorem Eds.mono {H H':Hp} {es:List Addr} {l:List (Int × Cl)} (C:Eds H es l) (k:∀ p xs,H p = some (.tup xs)→H' p = some (.tup xs)):Eds H' es l:=Paired.mapP C fun _ _ ⟨p,a,b⟩ => ⟨p,k _ _ a,k _ _ b⟩
theorem Eds.nat {H:Hp} {es:List Addr} {l:List (Int × Cl)} (C:Eds H es l):NAt (tupOd nOd) H es (l.map eK):=by
 unfold Eds at C
 induction C with
 | nil => exact .nil
 | @cons e x a b r _ ih =>
  obtain ⟨p,h1,h2⟩:=r
  exact .cons ⟨e,_,rfl,h1,.cons rfl (.cons ⟨p,_,rfl,h2,.cons rfl (.cons rfl (.cons rfl .nil))⟩ .nil)⟩ ih
section
variable {P:Program} {w:World} {K:PySem.W.Frag} {mg:Str→Option Value} {base:Heap} {t:Adr}
def Tells (H:Hp) (T M:Addr) (f:Fld) (st gl:List Cl) (rl:List Rec) (H':Hp):Prop :=
 ((∀ g∈gl,g ∉ rl.map (·.1))∧H' T = some (.tup [.str "shut",.ref M])) ∨
 ∃ (D:Addr) (ps:List Addr) (line:List Cl) (x:Rec),H' T = some (.tup [.str "way",.ref D,.int x.2.1,.ref M])∧H' D = some (.lst (ps.map V.ref))∧H D = none∧D≠M∧Cells H' ps line∧Ln f rl line∧(∀ c∈line,c∈rl.map (·.1))∧(∃ a,line.head? = some a∧(a,0,none)∈rl∧a∈st)∧line.getLast? = some x.1∧line.length≤1001∧x∈rl∧x.1∈gl∧∀ y∈rl,y.1∈gl→x.2.1≤y.2.1
def spWave (P:Program) (w:World) (K:PySem.W.Frag) (mg:Str→Option Value) (base:Heap):Sp:=fun vs H Q _ => ∃ (H0:Hp) (A fp ft:Addr) (f:Fld) (n:Nat) (sz ls lg:Addr) (ps qs:List Addr) (st gl:List Cl),vs = [.ref sz,.ref fp,.ref ft,.ref ls,.ref lg]∧Wld P w K mg base H0 A fp ft f∧OffP A H0 H∧Ask H A n∧H sz = some (.tup [.int f.W,.int f.Hh,.int f.L])∧H ls = some (.lst (ps.map V.ref))∧ls≠A∧Cells H ps st∧(∀ c∈st,f.on c)∧st.length≤5∧H lg = some (.lst (qs.map V.ref))∧lg≠A∧Cells H qs gl∧gl.length≤5∧n≤40000 ∧
 ∀ T M rl H' k,k≤4000→OffP A H H'→Ask H' A (n + k)→H T = none→H M = none→H' M = some (.dT (numL rl))→Fin f st rl→rl.length≤432→Tells H T M f st gl rl H'→Q (.ref T) H'
theorem ok_wave (T:Txt K mg t):GoodF P w K mg base 6 "wave" ["size","price","through","starts","goals"] (spWave P w K mg base):=by
 obtain ⟨fd,F,b⟩:=T.F_wave
 have G_spread_wave:=ok_spread_wave (P:=P) (w:=w) (base:=base) T
 have G_way_to:=ok_way_to (P:=P) (w:=w) (base:=base) T
 refine ⟨_,fd,F.okX sc_wave (fun vs H Q E h => ?_) (fun cdv A outer s H vs Q E hr h => ?_),b,F.kp,T.g_wave⟩
 ·obtain ⟨H0,A,fp,ft,f,n,sz,ls,lg,ps,qs,st,gl,rfl,_⟩:=h
  rfl
 ·obtain ⟨H0,A,fp,ft,f,n,sz,ls,lg,ps,qs,st,gl,rfl,Wd,off,ask,hsz,hls,nls,C,hon,hst,hlg,nlg,CG,hgl,hn,q⟩:=h
  refine ⟨_,(pss_cons (ps_set (i:=5) sc_wave.nd rfl (Or.inl rfl) (pe_callG G_spread_wave (hr.mono (by decide)) passes_of (by rfl) (pa_cons (pv 0) (pa_cons (pv 1) (pa_cons (pv 2) (pa_cons (pv 3) pa_nil))))))
   (pss_cons (ps_set (i:=6) sc_wave.nd rfl (Or.inr rfl) pe_dnewT)
   (pss_cons (ps_thaw (ps_for owns_of (pi_dictT rfl (pv 5)) (pg_name (i:=7) sc_wave.nd rfl (Or.inl rfl)) (pss_one (ps_dput (hu_of hr) (pv 6) (pv 7) (pe_ix ix_tup (pe_dgetX (hu_of hr) (pv 5) (pv 7) (fun _ _ => rfl)) pe_int (fun _ _ => rfl)) rfl))))
   (pss_cons (ps_setcomp (i:=8) sc_wave.nd rfl (Or.inl rfl) (own:=["goal"]) (cs_one (n:="numbers") (N:=["size","price","through","starts","goals","reached","numbers","cell","ends","end"]) rfl (by rfl) (by rfl) rfl (by rfl) (by decide +kernel) (by decide +kernel) (by decide +kernel)) (pi_list (pv 4)) (fun _ _ _ _ _ => pg_name (i:=10) (by show (["size","price","through","starts","goals","reached","numbers","cell","ends","end","goal"]:List Str).Nodup; decide +kernel) rfl (Or.inl rfl)) (fun _ _ _ _ _ => pf_one (pt_cmp (pc_dinXK (P:=P) (w:=w) rfl rfl (hu_of hr) (pv 10) (pv 6)))) (fun _ _ _ _ _ => (pe_tup (pa_cons (pe_dgetXK (P:=P) (w:=w) rfl rfl (hu_of hr) (pv 6) (pv 10) (fun _ _ => rfl)) (pa_cons (pv 10) pa_nil)))))
   (pss_cons (ps_if (pt_not (pt_truth (pv 8) (fun _ => rfl))) (pss_one (ps_ret (pe_tup (pa_cons pe_str (pa_cons (pv 6) pa_nil))))) pss_nil)
   (pss_cons (ps_set (i:=9) sc_wave.nd rfl (Or.inl rfl) (pe_callB (call_minO (tupOd nOd) rfl hr.units (by decide)) (by rfl) T.n_min b_min (pa_cons (pv 8) pa_nil)))
   (pss_one (ps_ret (pe_tup (pa_cons pe_str (pa_cons (pe_callG G_way_to (hr.mono (by decide)) passes_of (by rfl) (pa_cons (pe_ix ix_tup (pv 9) pe_int (fun _ _ => rfl)) (pa_cons (pv 5) pa_nil))) (pa_cons (pe_ix ix_tup (pv 9) pe_int (fun _ _ => rfl)) (pa_cons (pv 6) pa_nil))))))))))))),?_⟩
  refine sg1 (fun (R:Addr) => [oR sz,oR fp,oR ft,oR ls,oR lg,oR R,none,none,none,none]) (fun R H' => ∃ kvs rl k,k≤4000∧OffP A H H'∧Ask H' A (n + k)∧H R = none∧H' R = some (.dT kvs)∧Kv H' kvs rl∧Fin f st rl∧rl.length≤432) (fun B hB => ⟨_,rfl,_,rfl,_,rfl,_,rfl,H0,A,fp,ft,f,n,sz,ls,ps,st,rfl,Wd,off,ask,hsz,hls,nls,C,hon,hst,hn,fun R kvs rl H' k hk o a hR e kv fin few => hB R H' ⟨kvs,rl,k,hk,o,a,hR,e,kv,fin,few⟩⟩) ?_
  rintro R H1 ⟨kvs,rl,k,hk,o1,a1,hR,eR,kv,fin,few⟩
  have nRA:R≠A:=ask.ne hR
  refine sg1 (fun (M:Addr) => [oR sz,oR fp,oR ft,oR ls,oR lg,oR R,oR M,none,none,none]) (fun M H' => Same H1 H'∧H1 M = none∧H' M = some (.dT [])) (fun B hB => fun M hM => hB M _ ⟨same_new (Same.refl H1) hM,hM,upd_same⟩) ?_
  rintro M H2 ⟨s2,hM1,eM⟩
  have hM:H M = none:=o1.nn hM1 (a1.ne hM1)
  have nMA:M≠A:=ask.ne hM
  have nMR:M≠R:=Ne.symm (ne_of_none eR hM1)
  have eR2:=s2 _ _ eR
  have kv2:=kv.mono fun _ _ e => s2 _ _ e
  refine sg1 (fun (v7:Option V) => [oR sz,oR fp,oR ft,oR ls,oR lg,oR R,oR M,v7,none,none]) (fun _ H' => (∀ b u,b≠M→H2 b = some u→H' b = some u)∧H' M = some (.dT (numL rl))) (fun B hB => ?_) ?_
  ·refine ⟨_,rfl,R,kvs,rfl,eR2,fun o xs hz hm kt dr => ?_⟩
   obtain ⟨Z,off1,nn1,back⟩:=fz_start eR2 hz hm kt dr
   refine for_dict Z (fun i σ H' => ∃ v7:Option V,σ = [oR sz,oR fp,oR ft,oR ls,oR lg,oR R,oR M,v7,none,none]∧(∀ b u,b≠M→upd H2 R (Exo R o) b = some u→H' b = some u)∧H' M = some (.dT (numL (rl.take i)))) ⟨_,rfl,fun b u _ e => e,off1 _ _ nMR eM⟩ (fun i σ H' _ h => by obtain ⟨_,_,z,_⟩:=h; exact z _ _ (Ne.symm nMR) Z.e) ?_ ?_
   ·rintro i kv0 p σ H' h1 h2 ⟨v7,rfl,k3',e3⟩
    have hi:i < rl.length:=by rw [← kv.len]; exact (List.getElem?_eq_some_iff.mp h1).1
    have gx:=List.getElem?_eq_getElem hi
    generalize rl[i] = x at gx
    have xin:x∈rl:=List.mem_of_getElem? gx
    obtain ⟨kv1,hkv1,hrec⟩:∃ kv1,kvs[i]? = some kv1∧kv1.1 = k3 x.1∧RecV H2 kv1.2 x:=by
     obtain ⟨g1,e1⟩:=List.getElem?_eq_some_iff.mp h1
     obtain ⟨g2,e2⟩:=List.getElem?_eq_some_iff.mp gx
     have:=paired_at kv2 g1 g2
     rw [e1,e2] at this
     exact ⟨kv0,h1,this⟩
    rw [h1] at hkv1
    cases hkv1
    obtain ⟨ek,a,pv,ev,ea,hpv⟩:=hrec
    obtain ⟨v,vv,_,_,_,_,_⟩:=kv2.find fin.nd xin
    have vk:valV kvs kv0.1 = some kv0.2:=valV_of_mem (by
     have:kvs.map (·.1) = rl.map fun x => k3 x.1:=by
      refine List.ext_getElem (by rw [List.length_map,List.length_map,kv.len]) fun j j1 j2 => ?_
      rw [List.length_map] at j1 j2
      rw [List.getElem_map,List.getElem_map]
      exact (paired_at kv2 j1 j2).1
     rw [this]
     have nd:=fin.nd
     rw [List.Nodup,List.pairwise_map] at nd ⊢
     exact nd.imp fun h e => h (k3_inj e)) (List.mem_of_getElem? h1)
    have keepT:∀ q ys,H2 q = some (.tup ys)→H' q = some (.tup ys):=fun q ys e => k3' _ _ (ne_of e eM (fun z => nomatch z)) (off1 _ _ (ne_of e eR2 (fun z => nomatch z)) e)
    have hp':H' p = some (.tup (kv0.1.map kV)):=k3' _ _ (fun z => by
     rw [z,upd_ne nMR,eM] at h2; cases h2) h2
    have Z':Fz P w H' R o kvs xs:=⟨k3' _ _ (Ne.symm nMR) Z.e,Z.hm,kt.keeps fun b ys e => keepT _ _ e,Z.dr,Z.hz⟩
    refine ⟨_,rfl,_,rfl,R,kv0.2,rfl,vk▸DAny.z Z' hp',a,_,0,.int x.2.1,ev,rfl,SqT.of (keepT _ _ ea),rfl,?_⟩
    rw [ek] at hp'
    have lt:(rl.take i).length = i:=by rw [List.length_take]; omega
    refine ⟨_,rfl,_,rfl,M,_,rfl,DPut.t (k:=k3 x.1) e3 hp' (by rw [numL_len,lt]; exact Nat.lt_of_le_of_lt (show _≤432 by omega) (by decide)),_,rfl,fun b u nb e => by rw [upd_ne nb]; exact k3' b u nb e,?_⟩
    rw [upd_same,take_snoc gx,numL_app,putK_new _ (numL_none ?_)]
    ·rfl
    ·intro z
     obtain ⟨y,hy,ey⟩:=List.mem_map.mp z
     have nd:=fin.nd
     have e5:rl = rl.take i ++ x :: rl.drop (i + 1):=by
      obtain ⟨g2,e2⟩:=List.getElem?_eq_some_iff.mp gx
      rw [← e2,← List.drop_eq_getElem_cons g2,List.take_append_drop]
     rw [e5,List.map_append,List.nodup_append] at nd
     exact nd.2.2 y.1 (List.mem_map.mpr ⟨y,hy,rfl⟩) x.1 (by rw [List.map_cons]; exact List.mem_cons_self ..) ey
   ·rintro σ H' ⟨v7,rfl,k3',e3⟩
    rw [kv.len,take_all rfl] at e3
    have keepT:∀ q ys,H2 q = some (.tup ys)→H' q = some (.tup ys):=fun q ys e => k3' _ _ (ne_of e eM (fun z => nomatch z)) (off1 _ _ (ne_of e eR2 (fun z => nomatch z)) e)
    refine ⟨R,o,kvs,xs,⟨k3' _ _ (Ne.symm nMR) Z.e,Z.hm,kt.keeps fun b ys e => keepT _ _ e,Z.dr,Z.hz⟩,hB _ _ ⟨fun b u nb e => ?_,by rw [upd_ne nMR]; exact e3⟩⟩
    by_cases z:b = R
    ·subst z
     rw [eR2] at e
     cases e
     exact upd_same
    ·rw [upd_ne z]
     exact k3' _ _ nb (off1 _ _ z e)
  rintro v7 H3 ⟨k3',eM3⟩
  have kT3:∀ q ys,H1 q = some (.tup ys)→H3 q = some (.tup ys):=fun q ys e => k3' _ _ (ne_of_none e hM1) (s2 _ _ e)
  have o3:OffP A H H3:=fun b u nb e => k3' _ _ (ne_of_none e hM) (s2 _ _ (o1 b u nb e))
  have a3:Ask H3 A (n + k):=k3' _ _ (Ne.symm nMA) (s2 _ _ a1)
  have eR3:H3 R = some (.dT kvs):=k3' _ _ (Ne.symm nMR) eR2
  have kv3:=kv.mono kT3
  have hlg3:=o3 _ _ nlg hlg
  have CG3:Cells H3 qs gl:=CG.mono fun _ _ e => ask.offT o3 _ _ e
  refine sg1 (fun (D:Addr) => [oR sz,oR fp,oR ft,oR ls,oR lg,oR R,oR M,v7,oR D,none]) (fun D H' => Same H3 H'∧H3 D = none∧∃ es:List Addr,H' D = some (.lst (es.map V.ref))∧Eds H' es (endsL rl gl)) (fun B hB => ?_) ?_
  ·refine ⟨_,rfl,lg,rfl,⟨_,SqL.of hlg3⟩,comp_list (xs:=qs.map V.ref) (fun D i ys H' => Same H3 H'∧H3 D = none∧H' D = some (.lst ys)∧ys.length≤i∧i≤gl.length∧∃ es:List Addr,ys = es.map V.ref∧Eds H' es (endsL rl (gl.take i))) (by rw [List.length_map,CG.1]; exact Nat.le_trans hgl (by decide)) (fun D hD => ⟨same_new (Same.refl H3) hD,hD,upd_same,Nat.zero_le _,Nat.zero_le _,[],rfl,.nil⟩) (fun D i ys H' hv => ⟨hv.2.2.1,hv.2.2.2.1,SqL.of (hv.1 _ _ hlg3)⟩) ?_ ?_⟩
   ·rintro D i x ys H' Qy Qn hx ⟨s4,hD,eD,y1,i1,es,rfl,E4⟩ hy hn'
    rw [List.getElem?_map] at hx
    obtain ⟨p,hp,rfl⟩:=Option.map_eq_some_iff.mp hx
    obtain ⟨g,hg,ep⟩:=CG3.at_ hp
    have ic:i < gl.length:=(List.getElem?_eq_some_iff.mp hg).1
    have tk:=take_snoc hg
    have ep4:=s4 _ _ ep
    have eM4:=s4 _ _ eM3
    refine ⟨⟨_,rfl,rfl⟩,_,rfl,_,rfl,M,_,rfl,DAny.t (k:=k3 g) eM4 ep4,_,rfl,iteB (fun z => ?_) fun z => hn' _ ⟨s4,hD,eD,by omega,ic,es,rfl,?_⟩⟩
    ·obtain ⟨y,hy1,rfl⟩:=List.mem_map.mp ((numL_has fin.nd g).mp z)
     refine ⟨_,rfl,_,rfl,M,_,rfl,(numL_some fin.nd hy1)▸DAny.t (k:=k3 y.1) eM4 ep4,_,rfl,sL2,fun r hr => ?_⟩
     have nrD:r≠D:=Ne.symm (ne_of_none eD hr)
     have kt:∀ q xs,H' q = some (.tup xs)→upd (upd H' r (.tup [.int y.2.1,.ref p])) D (.lst (es.map V.ref ++ [.ref r])) q = some (.tup xs):=fun q xs e => by
      rw [upd_ne (ne_of e eD (fun z => nomatch z)),upd_ne (ne_of_none e hr)]; exact e
     refine hy _ _ (by rw [upd_ne (ne_of_none eD hr)]; exact eD) ⟨Same.put s4 hr hD,hD,upd_same,by rw [List.length_append]; exact Nat.succ_le_succ y1,ic,es ++ [r],by rw [List.map_append]; rfl,?_⟩
     rw [tk,endsL_app,endsL_one fin.nd hy1]
     exact paired_app (E4.mono kt) (.cons ⟨p,by rw [upd_ne nrD]; exact upd_same,kt _ _ ep4⟩ .nil)
    ·rw [tk,endsL_app,endsL_no (fun h => by rw [(numL_has fin.nd g).mpr h] at z; cases z),List.append_nil]
     exact E4
   ·rintro D ys H' hD ⟨s4,_,eD,y1,i1,es,rfl,E4⟩
    rw [List.length_map,CG.1,take_all rfl] at E4
    exact hB D H' ⟨s4,hD,es,eD,E4⟩
  rintro D H4 ⟨s4,hD3,es,eD,E4⟩
  have o4:OffP A H H4:=o3.trans (OffP.of s4)
  have a4:=a3.same s4
  have lenE:es.length = (endsL rl gl).length:=Paired.length E4
  have le5:=endsL_len rl gl
  have fresh:∀ {q:Addr},H4 q = none→H q = none:=fun h => o4.nn h (a4.ne h)
  refine sg0 [oR sz,oR fp,oR ft,oR ls,oR lg,oR R,oR M,v7,oR D,none] (fun H5 => H5 = H4∧es≠[]) (fun B hB => ?_) ?_
  ·refine ⟨_,rfl,_,.inl ⟨_,SqL.of eD,rfl⟩,iteNB (fun z => ?_) fun z => hB _ ⟨rfl,fun e => by rw [e] at z; cases z⟩⟩
   have e0:es = []:=by
    cases es with
    | nil => rfl
    | cons a r => cases z
   have e1:endsL rl gl = []:=by
    rw [e0] at lenE
    exact List.length_eq_zero_iff.mp lenE.symm
   refine ⟨_,rfl,sL2,fun T hT => ?_⟩
   have s8:=same_new (o:=.tup [.str "shut",.ref M]) (Same.refl H4) hT
   refine q T M rl _ k hk (o4.trans (OffP.of s8)) (a4.same s8) (fresh hT) hM (s8 _ _ (s4 _ _ eM3)) fin few (.inl ⟨fun g hg hgr => ?_,upd_same⟩)
   obtain ⟨x,hx,rfl⟩:=List.mem_map.mp hgr
   have:=mem_endsL fin.nd hx hg
   rw [e1] at this
   cases this
  rintro H5 ⟨rfl,hne⟩
  refine sg3 (fun (e:Addr) (x:Rec) (p:Addr) => [oR sz,oR fp,oR ft,oR ls,oR lg,oR R,oR M,v7,oR D,oR e]) (fun e x p H6 => H6 = H5∧x∈rl∧x.1∈gl∧(∀ y∈rl,y.1∈gl→x.2.1≤y.2.1)∧H5 e = some (.tup [.int x.2.1,.ref p])∧H5 p = some (.tup (v3 x.1))) (fun B hB => ?_) ?_
  ·refine ⟨_,rfl,D,es,(endsL rl gl).map eK,rfl,eD,E4.nat,hne,fun a ha b hb => ?_,fun i e k h1 h2 h3 => ?_⟩
   ·obtain ⟨a',_,rfl⟩:=List.mem_map.mp ha
    obtain ⟨b',_,rfl⟩:=List.mem_map.mp hb
    exact cmpE a' b'
   ·rw [List.getElem?_map] at h2
    obtain ⟨z,hz,rfl⟩:=Option.map_eq_some_iff.mp h2
    obtain ⟨z1,x,hx,ex,en⟩:=endsL_mem (List.mem_of_getElem? hz)
    obtain ⟨g1,e1⟩:=List.getElem?_eq_some_iff.mp h1
    obtain ⟨g2,e2⟩:=List.getElem?_eq_some_iff.mp hz
    obtain ⟨p,p1,p2⟩:=paired_at E4 g1 g2
    rw [e1,e2] at p1
    rw [e2] at p2
    refine hB e x p _ ⟨rfl,hx,ex▸z1,fun y hy hyg => ?_,en▸p1,ex▸p2⟩
    have:=ltE (h3 _ (List.mem_map.mpr ⟨_,mem_endsL fin.nd hy hyg,rfl⟩))
    rw [en]
    exact this
  rintro e x p H6 ⟨rfl,hx,hxg,hmin,ee,ep⟩
  refine ⟨_,rfl,e,_,1,.ref p,rfl,rfl,SqT.of ee,rfl,_,rfl,p,R,kvs,f,st,rl,x,rfl,ep,s4 _ _ eR3,kv3.mono (fun _ _ e => s4 _ _ e),fin.nd,fin.tree,hx,by omega,fun W ws line H7 s7 hW eW CW ln mem hd gl7 len7 => ?_⟩
  refine ⟨_,rfl,e,_,0,.int x.2.1,rfl,rfl,SqT.of (s7 _ _ ee),rfl,_,rfl,sL4,fun T hT => ?_⟩
  have s8:=same_new (o:=.tup [.str "way",.ref W,.int x.2.1,.ref M]) (Same.refl H7) hT
  have s68:=Same.trans s7 s8
  refine q T M rl _ k hk (o4.trans (OffP.of s68)) (a4.same s68) (fresh (Same.nn s7 hT)) hM (s68 _ _ (s4 _ _ eM3)) fin few (.inr ⟨W,ws,line,x,upd_same,s8 _ _ eW,fresh hW,fun z => ?_,CW.mono (fun _ _ e => s8 _ _ e),ln,mem,hd,gl7,len7,hx,hxg,hmin⟩)
  rw [z,s4 _ _ eM3] at hW
  cases hW
end
end K61
namespace K61
open PySem L2 Wd TS
def PD (kvs:List (List Key × V)) (ks:List (List Key)):Prop:=∀ k v,valV kvs k = some v→k∈ks∧∃ n,v = .int n∧0 < n
theorem PD.put {kvs:List (List Key × V)} {ks:List (List Key)} (h:PD kvs ks) {k:List Key} {n:Int} (hk:k∈ks) (hn:0 < n):PD (putK kvs k (.int n)) ks:=fun j v e => by
 rw [valV_put] at e
 split at e
 ·rename_i q
  cases e
  exact ⟨q▸hk,n,rfl,hn⟩
 ·exact h j v e
section
variable {P:Program} {w:World} {K:PySem.W.Frag} {mg:Str→Option Value} {base:Heap} {t:Adr}
def spPrices:Sp:=fun vs H Q _ => ∃ (c:Int) (lc:Addr) (b:Bool) (tm:Int) (ps:List Addr) (ks:List (List Key)),vs = [.int c,.ref lc,.bl b,.int tm]∧H lc = some (.lst (ps.map V.ref))∧KeyAt H ps ks∧ks.length≤1000∧0 < tm ∧
 ∀ D kvs H',Same H H'→H D = none→H' D = some (.dT kvs)→PD kvs ks→kvs.length≤ks.length→Q (.ref D) H'
theorem ok_law_prices (T:Txt K mg t):GoodF P w K mg base 2 "_law_prices" ["_law_cell","_law_cells","_law_mixed_here","_law_times"] spPrices:=by
 obtain ⟨fd,F,b⟩:=T.F_law_prices
 have G_law_mixed:=ok_law_mixed (P:=P) (w:=w) (base:=base) T
 refine ⟨_,fd,F.okX sc_law_prices (fun vs H Q E h => ?_) (fun cdv A outer s H vs Q E hr h => ?_),b,F.kp,T.g__law_prices⟩
 ·obtain ⟨c,lc,b,tm,ps,ks,rfl,_⟩:=h
  rfl
 ·obtain ⟨c,lc,b,tm,ps,ks,rfl,hlc,C,hl,htm,q⟩:=h
  refine ⟨_,(pss_cons (ps_set (i:=4) sc_law_prices.nd rfl (Or.inl rfl) pe_dnewT)
   (pss_cons (ps_set (i:=5) sc_law_prices.nd rfl (Or.inl rfl) (pv 0))
   (pss_cons (ps_for owns_of (pi_range1 rfl T.n_range (pa_cons (pe_callB call_len_seq (by rfl) T.n_len b_len (pa_cons (pv 1) pa_nil)) pa_nil)) (pg_name (i:=6) sc_law_prices.nd rfl (Or.inl rfl)) (pss_cons (ps_set (i:=7) sc_law_prices.nd rfl (Or.inl rfl) (pe_op op_mod (pv 5) pe_int))
   (pss_cons (ps_if (pw_or (pt_val (pv 2)) (pw_or1 (pt_cmpR op_eq (pv 5) pe_int (nomark _)))).pt (pss_one (ps_set (i:=7) sc_law_prices.nd rfl (Or.inl rfl) (pe_op op_mod (pe_op op_fdiv (pe_callG G_law_mixed (hr.mono (by decide)) passes_of (by rfl) (pa_cons (pv 0) (pa_cons (pv 6) pa_nil))) pe_int) pe_int))) (pss_one (ps_set (i:=5) sc_law_prices.nd rfl (Or.inl rfl) (pe_op op_fdiv (pv 5) pe_int))))
   (pss_one (ps_if (pt_cmpR op_gt (pv 7) pe_int (nomark _)) (pss_one (ps_dput (hu_of hr) (pv 4) (pe_ix ix_list (pv 1) (pv 6) (fun _ _ => rfl)) (pe_op op_mul (pe_op op_sub (pv 7) pe_int) (pv 3)) rfl)) pss_nil)))))
   (pss_one (ps_ret (pv 4)))))),?_⟩
  have lk:ps.length = ks.length:=C.1
  refine sg1 (fun (D:Addr) => [some (.int c),oR lc,some (.bl b),some (.int tm),oR D,none,none,none]) (fun D H' => Same H H'∧H D = none∧H' D = some (.dT [])) (fun B hB => fun D hD => hB D _ ⟨same_new (Same.refl H) hD,hD,upd_same⟩) ?_
  rintro D H1 ⟨s1,hD,eD⟩
  refine sg0 [some (.int c),oR lc,some (.bl b),some (.int tm),oR D,some (.int c),none,none] (fun H' => H' = H1) (fun B hB => ⟨_,rfl,hB _ rfl⟩) ?_
  rintro H2 rfl
  refine sg3 (fun (r:Int) (v6 v7:Option V) => [some (.int c),oR lc,some (.bl b),some (.int tm),oR D,some (.int r),v6,v7]) (fun _ _ _ H' => Same H H'∧∃ kvs,H' D = some (.dT kvs)∧PD kvs ks∧kvs.length≤ks.length) (fun B hB => ?_) ?_
  ·refine ⟨_,rfl,lc,_,rfl,.inl (SqL.of (s1 _ _ hlc)),?_⟩
   rw [List.length_map]
   refine ⟨(ps.length:Int),rfl,by omega,by omega,for_range (n:=ps.length) (fun i σ H' => ∃ (r:Int) (v6 v7:Option V) (kvs:List (List Key × V)),σ = [some (.int c),oR lc,some (.bl b),some (.int tm),oR D,some (.int r),v6,v7]∧Same H H'∧H' D = some (.dT kvs)∧PD kvs ks∧kvs.length≤i) ⟨c,none,none,[],rfl,s1,eD,(fun k v h => nomatch h),Nat.le_refl _⟩ ?_ ?_⟩
   ·rintro i σ H' hi ⟨r,v6,v7,kvs,rfl,s2,e2,pd,hz⟩
    refine gName_go ?_
    refine sg0 [some (.int c),oR lc,some (.bl b),some (.int tm),oR D,some (.int r),some (.int (0 + (i:Int))),some (.int (r % 12))] (fun H'' => H'' = H') (fun B hB' => ⟨_,rfl,r,12,rfl,rfl,(by show (0:Int) < 12; decide),hB' _ rfl⟩) ?_
    rintro H3 rfl
    have m0:0≤r % 12:=Int.emod_nonneg _ (by decide)
    have m1:r % 12 < 12:=Int.emod_lt_of_pos _ (by decide)
    refine sg2 (fun (r' d:Int) => [some (.int c),oR lc,some (.bl b),some (.int tm),oR D,some (.int r'),some (.int (0 + (i:Int))),some (.int d)]) (fun _ d H'' => H'' = H3∧0≤d∧d < 12) (fun B hB' => ?_) ?_
    ·cases b with
     | true => exact ⟨_,rfl,_,rfl,iteT (iteT ⟨_,rfl,_,rfl,c,0 + (i:Int),rfl,fun x x0 x1 => ⟨x,11,rfl,rfl,⟨by decide,by decide⟩,_,12,rfl,rfl,(by show (0:Int) < 12; decide),hB' _ _ _ ⟨rfl,Int.emod_nonneg _ (by decide),Int.emod_lt_of_pos _ (by decide)⟩⟩⟩)⟩
     | false =>
      refine ⟨_,rfl,_,rfl,iteF ⟨_,rfl,rfl,_,rfl,iteD (fun z => ?_) fun z => ?_⟩⟩
      ·exact ⟨_,rfl,_,rfl,c,0 + (i:Int),rfl,fun x x0 x1 => ⟨x,11,rfl,rfl,⟨by decide,by decide⟩,_,12,rfl,rfl,(by show (0:Int) < 12; decide),hB' _ _ _ ⟨rfl,Int.emod_nonneg _ (by decide),Int.emod_lt_of_pos _ (by decide)⟩⟩⟩
      ·exact ⟨_,rfl,r,12,rfl,rfl,⟨by decide,by decide⟩,hB' _ _ _ ⟨rfl,m0,m1⟩⟩
    rintro r' d H4 ⟨rfl,d0,d1⟩
    refine ⟨_,rfl,d,2,rfl,rfl,_,rfl,iteD (fun z => ?_) fun z => ⟨r',_,_,kvs,rfl,s2,e2,pd,by omega⟩⟩
    have e0:(0:Int) + (i:Int) = ((i:Nat):Int):=by omega
    have gi:=List.getElem?_eq_getElem hi
    have gk:=List.getElem?_eq_getElem (show i < ks.length by omega)
    have ei:=s2 _ _ (C.2 i _ _ gi gk)
    refine ⟨_,rfl,d,2,rfl,rfl,_,rfl,d - 2,tm,rfl,rfl,.inl ⟨by omega,by omega⟩,_,rfl,_,rfl,_,rfl,lc,_,(i:Int),.ref ps[i],rfl,congrArg V.int e0,SqL.of (s2 _ _ hlc),atI_nat (by rw [List.getElem?_map,gi]; rfl),D,_,rfl,DPut.t (k:=ks[i]) e2 ei (Nat.lt_of_le_of_lt (show _≤1000 by omega) (by decide)),r',_,_,_,rfl,fun b u e => by rw [upd_ne (ne_of_none e hD)]; exact s2 b u e,upd_same,pd.put (List.mem_of_getElem? gk) (Int.mul_pos (by omega) htm),Nat.le_trans (length_putK _ _ _) (by omega)⟩
   ·rintro σ H' ⟨r,v6,v7,kvs,rfl,s2,e2,pd,hz⟩
    exact hB r v6 v7 H' ⟨s2,kvs,e2,pd,by rw [← lk]; exact hz⟩
  rintro r v6 v7 H3 ⟨s3,kvs,e3,pd,hz⟩
  exact ⟨_,rfl,q D kvs H3 s3 hD e3 pd hz⟩
end
end K61
namespace K61
open PySem L2 Wd TS
theorem _root_.L2.KeyAt.mono' {H H':Hp} {ps:List Addr} {ks:List (List Key)} (C:KeyAt H ps ks) (k:∀ p xs,H p = some (.tup xs)→H' p = some (.tup xs)):KeyAt H' ps ks:=⟨C.1,fun i p c h1 h2 => k _ _ (C.2 i p c h1 h2)⟩
theorem _root_.L2.KeyAt.snoc' {H:Hp} {ps:List Addr} {ks:List (List Key)} {p:Addr} {k:List Key} (C:KeyAt H ps ks) (hp:H p = some (.tup (k.map kV))):KeyAt H (ps ++ [p]) (ks ++ [k]):=⟨by rw [List.length_append,List.length_append,C.1]; rfl,fun i q d h1 h2 => by
 by_cases h:i < ps.length
 ·rw [List.getElem?_append_left h] at h1
  rw [List.getElem?_append_left (C.1▸h)] at h2
  exact C.2 i q d h1 h2
 ·rw [List.getElem?_append_right (by omega)] at h1
  rw [List.getElem?_append_right (by rw [← C.1]; omega),← C.1] at h2
  generalize i - ps.length = m at h1 h2
  cases m with
  | zero => cases h1; cases h2; exact hp
  | succ m => cases h1⟩
theorem Cells.keys {H:Hp} {ps:List Addr} {cl:List Cl} (C:Cells H ps cl):KeyAt H ps (cl.map k3):=⟨by rw [List.length_map]; exact C.1,fun i b k h1 h2 => by
 rw [List.getElem?_map] at h2
 obtain ⟨c,e,rfl⟩:=Option.map_eq_some_iff.mp h2
 exact C.2 i b c h1 e⟩
def numO:Option V→Option Int | some (.int n) => some n | _ => none
def fldOf (W Hh:Int) (L:Nat) (kp kc:List (List Key × V)):Fld:=⟨W,Hh,L,fun c => numO (valV kp (k3 c)),fun x y => numO (valV kc [.inl x,.inl y])⟩
theorem numO_map {kvs:List (List Key × V)} {ks:List (List Key)} (h:PD kvs ks) (k:List Key):valV kvs k = (numO (valV kvs k)).map V.int:=by
 cases e:valV kvs k with
 | none => rfl
 | some v =>
  obtain ⟨_,n,rfl,_⟩:=h k v e
  rfl
theorem numO_some {kvs:List (List Key × V)} {ks:List (List Key)} (h:PD kvs ks) {k:List Key} {n:Int} (e:numO (valV kvs k) = some n):k∈ks∧0 < n:=by
 cases e1:valV kvs k with
 | none => rw [e1] at e; cases e
 | some v =>
  obtain ⟨hk,m,rfl,hm⟩:=h k v e1
  rw [e1] at e
  cases e
  exact ⟨hk,hm⟩
structure Field (H:Hp) (sz lc dp dc:Addr) (ps:List Addr) (cl:List Cl) (f:Fld):Prop where
 ok:f.Ok
 hsz:H sz = some (.tup [.int f.W,.int f.Hh,.int f.L])
 hlc:H lc = some (.lst (ps.map V.ref))
 C:Cells H ps cl
 mem:∀ c,c∈cl↔f.on c
 pos:0 < cl.length
 few:cl.length≤432
 hp:∃ kp,H dp = some (.dT kp)∧∀ c,valV kp (k3 c) = (f.pr c).map V.int
 hc:∃ kc,H dc = some (.dT kc)∧∀ x y,valV kc [.inl x,.inl y] = (f.ch x y).map V.int
def cellAt (Hh:Int) (L:Nat) (k:Nat):Cl:=((k:Int) / L / Hh,(k:Int) / L % Hh,(k:Int) % L)
def cellsL (W Hh:Int) (L:Nat):List Cl:=(List.range (W * Hh * L).toNat).map (cellAt Hh L)
theorem cellsL_mem {W Hh:Int} {L:Nat} (hW:1≤W) (hH:1≤Hh) (hL:1≤L) (c:Cl):c∈cellsL W Hh L↔(0≤c.1∧c.1 < W∧0≤c.2.1∧c.2.1 < Hh∧0≤c.2.2∧c.2.2 < (L:Int)):=by
 have hL':(0:Int) < (L:Int):=by omega
 have hH':(0:Int) < Hh:=by omega
 unfold cellsL
 rw [List.mem_map]
 constructor
 ·rintro ⟨k,hk,rfl⟩
  have hk:=List.mem_range.mp hk
  have hk':(k:Int) < W * Hh * L:=by omega
  have q1:(k:Int) / L < W * Hh:=Int.ediv_lt_of_lt_mul hL' hk'
  have q0:0≤(k:Int) / L:=Int.ediv_nonneg (by omega) (by omega)
  exact ⟨Int.ediv_nonneg q0 (by omega),Int.ediv_lt_of_lt_mul hH' q1,Int.emod_nonneg _ (by omega),Int.emod_lt_of_pos _ hH',Int.emod_nonneg _ (by omega),Int.emod_lt_of_pos _ hL'⟩
 ·obtain ⟨x,y,z⟩:=c
  rintro ⟨a1,a2,a3,a4,a5,a6⟩
  dsimp only at *
  have b1:0≤x * Hh + y:=Int.add_nonneg (Int.mul_nonneg a1 (by omega)) a3
  have b2:x * Hh + y + 1≤W * Hh:=by
   have:(x + 1) * Hh≤W * Hh:=Int.mul_le_mul_of_nonneg_right (by omega) (by omega)
   rw [Int.add_mul,Int.one_mul] at this
   omega
  have b3:0≤(x * Hh + y) * L + z:=Int.add_nonneg (Int.mul_nonneg b1 (by omega)) a5
  have b4:(x * Hh + y) * L + z < W * Hh * L:=by
   have:(x * Hh + y + 1) * L≤W * Hh * L:=Int.mul_le_mul_of_nonneg_right b2 (by omega)
   rw [Int.add_mul,Int.one_mul] at this
   omega
  refine ⟨((x * Hh + y) * L + z).toNat,List.mem_range.mpr (by omega),?_⟩
  unfold cellAt
  rw [Int.toNat_of_nonneg b3]
  have e1:((x * Hh + y) * L + z) / L = x * Hh + y:=by rw [Int.add_comm,Int.add_mul_ediv_right _ _ (by omega),Int.ediv_eq_zero_of_lt a5 a6,Int.zero_add]
  have e2:((x * Hh + y) * L + z) % L = z:=by rw [Int.add_comm,Int.add_mul_emod_self_right,Int.emod_eq_of_lt a5 a6]
  have e3:(x * Hh + y) / Hh = x:=by rw [Int.add_comm,Int.add_mul_ediv_right _ _ (by omega),Int.ediv_eq_zero_of_lt a3 a4,Int.zero_add]
  have e4:(x * Hh + y) % Hh = y:=by rw [Int.add_comm,Int.add_mul_emod_self_right,Int.emod_eq_of_lt a3 a4]
  rw [e1,e2,e3,e4]
theorem mul_few {a b:Int} (a0:1≤a) (a1:a≤12) (b0:1≤b) (b1:b≤12):1≤a * b∧a * b≤144:=⟨Int.le_trans (by omega) (Int.mul_le_mul a0 b0 (by omega) (by omega)),Int.mul_le_mul a1 b1 (by omega) (by omega)⟩
def sqK (Hh:Int) (k:Nat):List Key:=[.inl ((k:Int) / Hh),.inl ((k:Int) % Hh)]
section
variable {P:Program} {w:World} {K:PySem.W.Frag} {mg:Str→Option Value} {base:Heap} {t:Adr}
def spField (K:PySem.W.Frag):Sp:=fun vs H Q _ => ∃ (a:Addr) (ns:List Int),vs = [.ref a]∧SqL K H a (ns.map V.int)∧ns.length≤63 ∧
 ∀ T sz lc dp dc ps cl f H',Same H H'→H T = none→H lc = none→H dp = none→H dc = none→dp≠dc→H' T = some (.tup [.ref sz,.ref lc,.ref dp,.ref dc])→Field H' sz lc dp dc ps cl f→Q (.ref T) H'
theorem ok_law_field (T:Txt K mg t):GoodF P w K mg base 3 "_law_field" ["_law_script"] (spField K):=by
 obtain ⟨fd,F,b⟩:=T.F_law_field
 have G_law_cell_at:=ok_law_cell_at (P:=P) (w:=w) (base:=base) T
 have G_law_prices:=ok_law_prices (P:=P) (w:=w) (base:=base) T
 refine ⟨_,fd,F.okX sc_law_field (fun vs H Q E h => ?_) (fun cdv A outer s H vs Q E hr h => ?_),b,F.kp,T.g__law_field⟩
 ·obtain ⟨a,ns,rfl,_⟩:=h
  rfl
 ·obtain ⟨a,ns,rfl,hq,hl,q⟩:=h
  refine ⟨_,(pss_cons (ps_set (i:=1) sc_law_field.nd rfl (Or.inl rfl) (pe_callG G_law_cell_at (hr.mono (by decide)) passes_of (by rfl) (pa_cons (pv 0) (pa_cons pe_int pa_nil))))
   (pss_cons (ps_set (i:=2) sc_law_field.nd rfl (Or.inr rfl) (pe_tup (pa_cons (pe_op op_add pe_int (pe_op op_mod (pv 1) pe_int)) (pa_cons (pe_op op_add pe_int (pe_op op_mod (pe_op op_fdiv (pv 1) pe_int) pe_int)) (pa_cons (pe_op op_add pe_int (pe_op op_mod (pe_op op_fdiv (pv 1) pe_int) pe_int)) pa_nil)))))
   (pss_cons (ps_set (i:=3) sc_law_field.nd rfl (Or.inr rfl) (pe_comp (own:=["_law_k"]) (cs_one (n:="_law_size") (N:=["_law_script","_law_cell","_law_size","_law_squares","_law_cells","_law_often","_law_prices_here","_law_changes"]) rfl (by rfl) (by rfl) rfl (by rfl) (by decide +kernel) (by decide +kernel) (by decide +kernel)) (pi_range1 rfl T.n_range (pa_cons (pe_op op_mul (pe_ix ix_tup (pv 2) pe_int (fun _ _ => rfl)) (pe_ix ix_tup (pv 2) pe_int (fun _ _ => rfl))) pa_nil)) (fun _ _ _ _ _ => pg_name (i:=8) (by show (["_law_script","_law_cell","_law_size","_law_squares","_law_cells","_law_often","_law_prices_here","_law_changes","_law_k"]:List Str).Nodup; decide +kernel) rfl (Or.inl rfl)) (fun _ _ _ _ _ => pf_nil) (fun _ _ _ _ _ => (pe_callB call_divmod (by rfl) T.n_divmod b_divmod (pa_cons (pv 8) (pa_cons (pe_ix (ix_tupK (K:=K) rfl) (pv 2) pe_int (fun _ _ => rfl)) pa_nil))))))
   (pss_cons (ps_setcomp (i:=4) sc_law_field.nd rfl (Or.inl rfl) (own:=["_law_k"]) (cs_two (n1:="_law_squares") (n2:="_law_size") (N:=["_law_script","_law_cell","_law_size","_law_squares","_law_cells","_law_often","_law_prices_here","_law_changes"]) rfl (by rfl) (by rfl) rfl rfl (by rfl) (by rfl) (by decide +kernel) (by decide +kernel) (by decide +kernel)) (pi_range1 rfl T.n_range (pa_cons (pe_op op_mul (pe_callB call_len_seq (by rfl) T.n_len b_len (pa_cons (pv 3) pa_nil)) (pe_ix ix_tup (pv 2) pe_int (fun _ _ => rfl))) pa_nil)) (fun _ _ _ _ _ => pg_name (i:=8) (by show (["_law_script","_law_cell","_law_size","_law_squares","_law_cells","_law_often","_law_prices_here","_law_changes","_law_k"]:List Str).Nodup; decide +kernel) rfl (Or.inl rfl)) (fun _ _ _ _ _ => pf_nil) (fun _ _ _ _ _ => (pe_op (op_catTK (K:=K) rfl) (pe_ix (ix_listK (K:=K) rfl) (pv 3) (pe_op op_fdiv (pv 8) (pe_ix (ix_tupK (K:=K) rfl) (pv 2) pe_int (fun _ _ => rfl))) (fun _ _ => rfl)) (pe_tup (pa_cons (pe_op op_mod (pv 8) (pe_ix (ix_tupK (K:=K) rfl) (pv 2) pe_int (fun _ _ => rfl))) pa_nil)))))
   (pss_cons (ps_set (i:=5) sc_law_field.nd rfl (Or.inl rfl) pe_int)
   (pss_cons (ps_if (pt_cmpR op_eq (pe_op op_mod (pe_op op_fdiv (pv 1) pe_int) pe_int) pe_int (nomark _)) (pss_one (ps_set (i:=5) sc_law_field.nd rfl (Or.inl rfl) (pe_op op_add pe_int (pe_op op_mod (pe_op op_fdiv (pv 1) pe_int) (pe_op op_pow pe_int pe_int))))) pss_nil)
   (pss_cons (ps_set (i:=6) sc_law_field.nd rfl (Or.inl rfl) (pe_callG G_law_prices (hr.mono (by decide)) passes_of (by rfl) (pa_cons (pe_callG G_law_cell_at (hr.mono (by decide)) passes_of (by rfl) (pa_cons (pv 0) (pa_cons pe_int pa_nil))) (pa_cons (pv 4) (pa_cons (pe_cmpR op_eq (pe_op op_mod (pe_op op_fdiv (pv 1) pe_int) pe_int) pe_int (nomark _)) (pa_cons (pv 5) pa_nil))))))
   (pss_cons (ps_set (i:=7) sc_law_field.nd rfl (Or.inl rfl) (pe_callG G_law_prices (hr.mono (by decide)) passes_of (by rfl) (pa_cons (pe_callG G_law_cell_at (hr.mono (by decide)) passes_of (by rfl) (pa_cons (pv 0) (pa_cons pe_int pa_nil))) (pa_cons (pv 3) (pa_cons (pe_cmpR op_eq (pe_op op_mod (pe_op op_fdiv (pv 1) pe_int) pe_int) pe_int (nomark _)) (pa_cons pe_int pa_nil))))))
   (pss_one (ps_ret (pe_tup (pa_cons (pv 2) (pa_cons (pv 4) (pa_cons (pv 6) (pa_cons (pv 7) pa_nil))))))))))))))),?_⟩
  refine sg1 (fun (c:Int) => [oR a,some (.int c),none,none,none,none,none,none]) (fun _ H' => H' = H) (fun B hB => ⟨_,rfl,a,ns,0,rfl,hq,by decide,by decide,hl,hB _ _ rfl⟩) ?_
  rintro c H1 rfl
  have w0:0≤c % 12:=Int.emod_nonneg _ (by decide)
  have w1:c % 12 < 12:=Int.emod_lt_of_pos _ (by decide)
  have h0:0≤c / 12 % 12:=Int.emod_nonneg _ (by decide)
  have h1:c / 12 % 12 < 12:=Int.emod_lt_of_pos _ (by decide)
  have l0:0≤c / 144 % 3:=Int.emod_nonneg _ (by decide)
  have l1:c / 144 % 3 < 3:=Int.emod_lt_of_pos _ (by decide)
  refine sg4 (fun (W Hh:Int) (L:Nat) (sz:Addr) => [oR a,some (.int c),oR sz,none,none,none,none,none]) (fun W Hh L sz H' => Same H1 H'∧1≤W∧W≤12∧1≤Hh∧Hh≤12∧1≤L∧L≤3∧H' sz = some (.tup [.int W,.int Hh,.int L])) (fun B hB => ?_) ?_
  ·refine ⟨_,rfl,c,12,rfl,rfl,(by show (0:Int) < 12; decide),1,_,rfl,rfl,_,rfl,c,12,rfl,rfl,⟨by decide,by decide⟩,_,12,rfl,rfl,(by show (0:Int) < 12; decide),1,_,rfl,rfl,_,rfl,c,144,rfl,rfl,⟨by decide,by decide⟩,_,3,rfl,rfl,(by show (0:Int) < 3; decide),1,_,rfl,rfl,sL3,fun sz hsz => ?_⟩
   have eL:(1:Int) + c / 144 % 3 = (((1 + c / 144 % 3).toNat:Nat):Int):=by omega
   refine hB (1 + c % 12) (1 + c / 12 % 12) (1 + c / 144 % 3).toNat sz _ ⟨same_new (Same.refl H1) hsz,by omega,by omega,by omega,by omega,by omega,by omega,?_⟩
   rw [upd_same,← eL]
  rintro W Hh L sz H2 ⟨s2,hW0,hW1,hH0,hH1,hL0,hL1,esz⟩
  obtain ⟨m0,m1⟩:=mul_few hW0 hW1 hH0 hH1
  refine sg2 (fun (sq:Addr) (_:Unit) => [oR a,some (.int c),oR sz,oR sq,none,none,none,none]) (fun sq _ H' => Same H2 H'∧H2 sq = none∧∃ ss:List Addr,H' sq = some (.lst (ss.map V.ref))∧KeyAt H' ss ((List.range (W * Hh).toNat).map (sqK Hh))) (fun B hB => ?_) ?_
  ·refine ⟨_,rfl,sz,_,0,.int W,rfl,rfl,SqT.of esz,rfl,_,rfl,sz,_,1,.int Hh,rfl,rfl,SqT.of esz,rfl,W,Hh,rfl,rfl,.inl ⟨by omega,by omega⟩,W * Hh,rfl,by omega,by omega,comp_range (lo:=0) (fun D i ys H' => H2 D = none∧Same H2 H'∧H' D = some (.lst ys)∧ys.length = i∧∃ ss:List Addr,ys = ss.map V.ref∧KeyAt H' ss ((List.range i).map (sqK Hh))) (Nat.le_trans (show _≤144 by omega) (by decide)) (fun D hD => ⟨hD,same_new (Same.refl H2) hD,upd_same,rfl,[],rfl,⟨rfl,fun i p c h => nomatch h⟩⟩) (fun D i ys H' hv => ⟨hv.2.2.1,hv.2.2.2.1⟩) ?_ ?_⟩
   ·rintro D i ys H' Qy Qn hi ⟨d1,d2,d3,d4,ss,rfl,C⟩ hy
    have e0:(0:Int) + (i:Int) = (i:Int):=by omega
    refine ⟨⟨_,rfl,rfl⟩,iteT ⟨_,rfl,_,rfl,sz,_,1,.int Hh,rfl,rfl,SqT.of (d2 _ _ esz),rfl,0 + (i:Int),Hh,rfl,⟨by omega,by omega⟩,fun p hp => ?_⟩⟩
    rw [e0]
    have npD:p≠D:=Ne.symm (ne_of_none d3 hp)
    have kt:∀ q xs,H' q = some (.tup xs)→upd (upd H' p (.tup [.int ((i:Int) / Hh),.int ((i:Int) % Hh)])) D (.lst (ss.map V.ref ++ [.ref p])) q = some (.tup xs):=fun q xs e => by
     rw [upd_ne (ne_of e d3 (fun z => nomatch z)),upd_ne (ne_of_none e hp)]; exact e
    refine hy _ _ (by rw [upd_ne (ne_of_none d3 hp)]; exact d3) ⟨d1,Same.put d2 hp d1,upd_same,by rw [List.length_append,d4]; rfl,ss ++ [p],by rw [List.map_append]; rfl,?_⟩
    rw [List.range_succ,List.map_append]
    exact (C.mono' kt).snoc' (k:=sqK Hh i) (by rw [upd_ne npD]; exact upd_same)
   ·rintro D ys H' hD ⟨d1,d2,d3,d4,ss,rfl,C⟩
    exact hB D () H' ⟨d2,d1,ss,d3,C⟩
  rintro sq _ H3 ⟨s3,hsq,ss,esq,CS⟩
  have lss:ss.length = (W * Hh).toNat:=by have:=CS.1; rwa [List.length_map,List.length_range] at this
  have esz3:=s3 _ _ esz
  have n0:1≤W * Hh * L:=Int.le_trans (by omega) (Int.mul_le_mul m0 (show (1:Int)≤(L:Int) by omega) (by omega) (by omega))
  have n1:W * Hh * L≤432:=Int.mul_le_mul m1 (show (L:Int)≤3 by omega) (by omega) (by omega)
  refine sg1 (fun (lc:Addr) => [oR a,some (.int c),oR sz,oR sq,oR lc,none,none,none]) (fun lc H' => Same H3 H'∧H3 lc = none∧∃ ps:List Addr,H' lc = some (.lst (ps.map V.ref))∧Cells H' ps (cellsL W Hh L)) (fun B hB => ?_) ?_
  ·refine ⟨_,rfl,sq,_,rfl,.inl (SqL.of esq),_,rfl,sz,_,2,.int L,rfl,rfl,SqT.of esz3,rfl,W * Hh,L,congrArg V.int (by rw [List.length_map,lss]; omega),rfl,.inl ⟨by omega,by omega⟩,W * Hh * L,rfl,by omega,by omega,comp_range (lo:=0) (fun D i ys H' => H3 D = none∧Same H3 H'∧H' D = some (.lst ys)∧ys.length = i∧∃ ps:List Addr,ys = ps.map V.ref∧Cells H' ps ((List.range i).map (cellAt Hh L))) (Nat.le_trans (show _≤432 by omega) (by decide)) (fun D hD => ⟨hD,same_new (Same.refl H3) hD,upd_same,rfl,[],rfl,Cells.nil⟩) (fun D i ys H' hv => ⟨hv.2.2.1,hv.2.2.2.1⟩) ?_ ?_⟩
   ·rintro D i ys H' Qy Qn hi ⟨d1,d2,d3,d4,ps,rfl,C⟩ hy
    have e0:(0:Int) + (i:Int) = (i:Int):=by omega
    have hL':(0:Int) < (L:Int):=by omega
    have q1:(i:Int) / L < W * Hh:=Int.ediv_lt_of_lt_mul hL' (by omega)
    have q0:0≤(i:Int) / L:=Int.ediv_nonneg (by omega) (by omega)
    have j1:((i:Int) / L).toNat < (W * Hh).toNat:=by omega
    have ej:((((i:Int) / L).toNat:Nat):Int) = (i:Int) / L:=Int.toNat_of_nonneg q0
    have gs:=List.getElem?_eq_getElem (show ((i:Int) / L).toNat < ss.length by omega)
    have es:=CS.2 _ _ (sqK Hh ((i:Int) / L).toNat) gs (by rw [List.getElem?_map,List.getElem?_range j1]; rfl)
    generalize ss[((i:Int) / L).toNat]'(by omega) = sp at gs es
    refine ⟨⟨_,rfl,rfl⟩,iteT ⟨_,rfl,_,rfl,_,rfl,sz,_,2,.int L,rfl,rfl,SqT.of (d2 _ _ esz3),rfl,0 + (i:Int),L,rfl,rfl,⟨by omega,by omega⟩,sq,_,(((i:Int) / L).toNat:Nat),.ref sp,rfl,congrArg V.int (by rw [e0,ej]),SqL.of (d2 _ _ esq),atI_nat (by rw [List.getElem?_map,gs]; rfl),_,rfl,_,rfl,sz,_,2,.int L,rfl,rfl,SqT.of (d2 _ _ esz3),rfl,0 + (i:Int),L,rfl,rfl,hL',sL1,fun p1 hp1 => ?_⟩⟩
    have sx:=same_new (o:=.tup [.int ((0 + (i:Int)) % L)]) (Same.refl H') hp1
    have ex:upd H' p1 (.tup [.int ((0 + (i:Int)) % L)]) p1 = some (.tup [.int ((0 + (i:Int)) % L)]):=upd_same
    generalize upd H' p1 (.tup [.int ((0 + (i:Int)) % L)]) = H5 at sx ex
    have ev:(sqK Hh ((i:Int) / L).toNat).map kV ++ [.int ((0 + (i:Int)) % L)] = v3 (cellAt Hh L i):=by unfold sqK; rw [ej,e0]; rfl
    refine ⟨sp,p1,_,_,rfl,rfl,SqT.of (sx _ _ (d2 _ _ es)),SqT.of ex,(fun z => nomatch z),sL3,(fun z => nomatch z),fun _ p hp => ?_⟩
    rw [ev]
    have d3':=sx _ _ d3
    have npD:p≠D:=Ne.symm (ne_of_none d3' hp)
    have kt:∀ q xs,H' q = some (.tup xs)→upd (upd H5 p (.tup (v3 (cellAt Hh L i)))) D (.lst (ps.map V.ref ++ [.ref p])) q = some (.tup xs):=fun q xs e => by
     rw [upd_ne (ne_of e d3 (fun z => nomatch z)),upd_ne (ne_of_none (sx _ _ e) hp)]; exact sx _ _ e
    refine hy _ _ (by rw [upd_ne (ne_of_none d3' hp)]; exact d3') ⟨d1,Same.put (Same.trans d2 sx) hp d1,upd_same,by rw [List.length_append,d4]; rfl,ps ++ [p],by rw [List.map_append]; rfl,?_⟩
    rw [List.range_succ,List.map_append]
    exact (C.mono kt).snoc (by rw [upd_ne npD]; exact upd_same)
   ·rintro D ys H' hD ⟨d1,d2,d3,d4,ps,rfl,C⟩
    exact hB D H' ⟨d2,d1,ps,d3,C⟩
  rintro lc H4 ⟨s4,hlc,ps,elc,CC⟩
  refine sg0 [oR a,some (.int c),oR sz,oR sq,oR lc,some (.int 1),none,none] (fun H' => H' = H4) (fun B hB => hB _ rfl) ?_
  rintro H5 rfl
  refine sg1 (fun (tm:Int) => [oR a,some (.int c),oR sz,oR sq,oR lc,some (.int tm),none,none]) (fun tm H' => H' = H5∧0 < tm) (fun B hB => ?_) ?_
  ·refine ⟨_,rfl,c,432,rfl,rfl,⟨by decide,by decide⟩,_,3,rfl,rfl,(by show (0:Int) < 3; decide),rfl,_,rfl,iteD (fun z => ?_) fun z => hB 1 _ ⟨rfl,by decide⟩⟩
   have t0:0≤c / 2592 % (10 ^ (20:Int).toNat):=Int.emod_nonneg _ (by decide)
   exact ⟨_,rfl,c,2592,rfl,rfl,⟨by decide,by decide⟩,10,20,rfl,rfl,⟨by decide,by decide,by decide⟩,_,_,rfl,rfl,(by show (0:Int) < 10 ^ (20:Int).toNat; decide),1,_,rfl,rfl,hB _ _ ⟨rfl,by omega⟩⟩
  rintro tm H6 ⟨rfl,htm⟩
  have s34:=Same.trans s3 s4
  have s14:=Same.trans s2 s34
  have hq4:SqL K H6 a (ns.map V.int):=Same.seq s14 hq
  have lcl:(cellsL W Hh L).length = (W * Hh * L).toNat:=by unfold cellsL; rw [List.length_map,List.length_range]
  refine sg2 (fun (dp:Addr) (_:Unit) => [oR a,some (.int c),oR sz,oR sq,oR lc,some (.int tm),oR dp,none]) (fun dp _ H' => Same H6 H'∧H6 dp = none∧∃ kp,H' dp = some (.dT kp)∧PD kp ((cellsL W Hh L).map k3)) (fun B hB => ?_) ?_
  ·refine ⟨_,rfl,a,ns,1,rfl,hq4,by decide,by decide,hl,_,rfl,_,rfl,c,1296,rfl,rfl,⟨by decide,by decide⟩,_,2,rfl,rfl,(by show (0:Int) < 2; decide),rfl,_,rfl,_,lc,_,tm,ps,(cellsL W Hh L).map k3,rfl,elc,CC.keys,by rw [List.length_map,lcl]; omega,htm,fun D kp H' s' hD e pd _ => hB D () H' ⟨s',hD,kp,e,pd⟩⟩
  rintro dp _ H7 ⟨s7,hdp,kp,edp,pdp⟩
  refine sg2 (fun (dc:Addr) (_:Unit) => [oR a,some (.int c),oR sz,oR sq,oR lc,some (.int tm),oR dp,oR dc]) (fun dc _ H' => Same H7 H'∧H7 dc = none∧∃ kc,H' dc = some (.dT kc)∧PD kc ((List.range (W * Hh).toNat).map (sqK Hh))) (fun B hB => ?_) ?_
  ·refine ⟨_,rfl,a,ns,2,rfl,Same.seq s7 hq4,by decide,by decide,hl,_,rfl,_,rfl,c,1296,rfl,rfl,⟨by decide,by decide⟩,_,2,rfl,rfl,(by show (0:Int) < 2; decide),rfl,_,sq,_,1,ss,_,rfl,s7 _ _ (s4 _ _ esq),CS.mono' (fun _ _ e => s7 _ _ (s4 _ _ e)),by rw [List.length_map,List.length_range]; omega,by decide,fun D kc H' s' hD e pd _ => hB D () H' ⟨s',hD,kc,e,pd⟩⟩
  rintro dc _ H8 ⟨s8,hdc,kc,edc,pdc⟩
  refine ⟨_,rfl,_,rfl,_,rfl,_,rfl,sL4,fun T hT => ?_⟩
  have s9:=same_new (o:=.tup [.ref sz,.ref lc,.ref dp,.ref dc]) (Same.refl H8) hT
  have s79:=Same.trans s8 s9
  have s69:=Same.trans s7 s79
  have s17:=Same.trans s14 s7
  have onC:=cellsL_mem hW0 hH0 hL0
  refine q T sz lc dp dc ps (cellsL W Hh L) (fldOf W Hh L kp kc) _ (Same.trans s14 s69) (Same.nn (Same.trans s17 s8) hT) (Same.nn (Same.trans s2 s3) hlc) (Same.nn s14 hdp) (Same.nn s17 hdc) (ne_of_none edp hdc) upd_same ⟨⟨⟨hW0,hW1⟩,⟨hH0,hH1⟩,⟨hL0,hL1⟩,fun d n e => ?_,fun d n e => (numO_some pdp e).2,fun x y n e => (numO_some pdc e).2⟩,s69 _ _ (s34 _ _ esz),s69 _ _ elc,CC.mono (fun _ _ e => s69 _ _ e),onC,by rw [lcl]; omega,by rw [lcl]; omega,⟨kp,s79 _ _ edp,fun d => numO_map pdp _⟩,⟨kc,s9 _ _ edc,fun x y => numO_map pdc _⟩⟩
  obtain ⟨d',hd',e'⟩:=List.mem_map.mp (numO_some pdp e).1
  exact (onC d).mp (k3_inj e'▸hd')
def spSome (K:PySem.W.Frag):Sp:=fun vs H Q _ => ∃ (a:Addr) (ns:List Int) (k:Int) (lc:Addr) (ps:List Addr) (cl:List Cl),vs = [.ref a,.int k,.ref lc]∧SqL K H a (ns.map V.int)∧ns.length≤63∧0≤k∧k < 100∧H lc = some (.lst (ps.map V.ref))∧Cells H ps cl∧0 < cl.length∧cl.length≤432 ∧
 ∀ D qs gl H',Same H H'→H D = none→H' D = some (.lst (qs.map V.ref))→Cells H' qs gl→(∀ g∈gl,g∈cl)→gl.length≤5→Q (.ref D) H'
theorem ok_law_some (T:Txt K mg t):GoodF P w K mg base 2 "_law_some" ["_law_script","_law_at","_law_cells"] (spSome K):=by
 obtain ⟨fd,F,b⟩:=T.F_law_some
 have G_law_cell_at:=ok_law_cell_at (P:=P) (w:=w) (base:=base) T
 refine ⟨_,fd,F.okX sc_law_some (fun vs H Q E h => ?_) (fun cdv A outer s H vs Q E hr h => ?_),b,F.kp,T.g__law_some⟩
 ·obtain ⟨a,ns,k,lc,ps,cl,rfl,_⟩:=h
  rfl
 ·obtain ⟨a,ns,k,lc,ps,cl,rfl,hq,hl,k0,k1,hlc,C,n0,n1,q⟩:=h
  refine ⟨_,(pss_cons (ps_set (i:=3) sc_law_some.nd rfl (Or.inl rfl) (pe_op op_mod (pe_op op_fdiv (pe_callG G_law_cell_at (hr.mono (by decide)) passes_of (by rfl) (pa_cons (pv 0) (pa_cons pe_int pa_nil))) (pe_ix ix_list (pe_lst (pa_cons pe_int (pa_cons pe_int pa_nil))) (pe_callTy call_int1 (by rfl) T.n_int b_int (pa_cons (pe_cmpR op_gt (pv 1) pe_int (nomark _)) pa_nil)) (fun _ _ => rfl))) pe_int))
   (pss_one (ps_ret (pe_comp (own:=["_law_k"]) (cs_three (n1:="_law_script") (n2:="_law_cells") (n3:="_law_at") (N:=["_law_script","_law_at","_law_cells","_law_count"]) rfl (by rfl) (by rfl) rfl rfl rfl (by rfl) (by rfl) (by rfl) (by decide +kernel) (by decide +kernel) (by decide +kernel)) (pi_range1 rfl T.n_range (pa_cons (pv 3) pa_nil)) (fun _ _ _ _ _ => pg_name (i:=4) (by show (["_law_script","_law_at","_law_cells","_law_count","_law_k"]:List Str).Nodup; decide +kernel) rfl (Or.inl rfl)) (fun _ _ _ _ _ => pf_nil) (fun _ _ _ _ _ => (pe_ix (ix_listK (K:=K) rfl) (pv 2) (pe_op op_mod (pe_callG G_law_cell_at (hr.mono (by decide)) passX0 (by rfl) (pa_cons (pv 0) (pa_cons (pe_op op_add (pv 1) (pv 4)) pa_nil))) (pe_callB (call_len_seqK (K:=K) rfl) (by rfl) T.n_len b_len (pa_cons (pv 2) pa_nil))) (fun _ _ => rfl))))))),?_⟩
  refine sg1 (fun (m:Int) => [oR a,some (.int k),oR lc,some (.int m)]) (fun m H' => Same H H'∧0≤m∧m≤5) (fun B hB => ?_) ?_
  ·refine ⟨_,rfl,a,ns,3,rfl,hq,by decide,by decide,hl,sL2,fun l hl' => ⟨_,rfl,k,4,rfl,rfl,.inr ⟨_,rfl,?_⟩⟩⟩
   have sl:=same_new (o:=.lst [.int 1,.int 6]) (Same.refl H) hl'
   have p6:∀ x:Int,0≤x % 6∧x % 6≤5:=fun x => ⟨Int.emod_nonneg _ (by decide),by have:=Int.emod_lt_of_pos x (show (0:Int) < 6 by decide); omega⟩
   by_cases h:4 < k
   ·rw [decide_eq_true h]
    exact ⟨l,_,1,.int 6,rfl,rfl,SqL.of upd_same,rfl,_,6,rfl,rfl,⟨by decide,by decide⟩,_,6,rfl,rfl,(by show (0:Int) < 6; decide),hB _ _ ⟨sl,p6 _⟩⟩
   ·rw [decide_eq_false h]
    exact ⟨l,_,0,.int 1,rfl,rfl,SqL.of upd_same,rfl,_,1,rfl,rfl,⟨by decide,by decide⟩,_,6,rfl,rfl,(by show (0:Int) < 6; decide),hB _ _ ⟨sl,p6 _⟩⟩
  rintro m H1 ⟨s1,m0,m1⟩
  have hlc1:=s1 _ _ hlc
  have C1:=C.mono (fun _ _ e => s1 _ _ e)
  have hq1:SqL K H1 a (ns.map V.int):=Same.seq s1 hq
  refine ⟨_,rfl,m,rfl,by omega,by omega,comp_range (lo:=0) (fun D i ys H' => H1 D = none∧Same H1 H'∧H' D = some (.lst ys)∧ys.length = i∧∃ (qs:List Addr) (gl:List Cl),ys = qs.map V.ref∧Cells H' qs gl∧(∀ g∈gl,g∈cl)∧gl.length = i) (Nat.le_trans (show _≤5 by omega) (by decide)) (fun D hD => ⟨hD,same_new (Same.refl H1) hD,upd_same,rfl,[],[],rfl,Cells.nil,(fun g h => nomatch h),rfl⟩) (fun D i ys H' hv => ⟨hv.2.2.1,hv.2.2.2.1⟩) ?_ ?_⟩
  ·rintro D i ys H' Qy Qn hi ⟨d1,d2,d3,d4,qs,gl,rfl,CG,mem,lg⟩ hy
   have lps:(ps.map V.ref).length = cl.length:=by rw [List.length_map,C.1]
   have lp:(0:Int) < ((ps.map V.ref).length:Int):=by omega
   refine ⟨⟨_,rfl,rfl⟩,iteT ⟨_,rfl,_,rfl,_,rfl,_,rfl,k,0 + (i:Int),rfl,rfl,a,ns,k + (0 + (i:Int)),rfl,Same.seq d2 hq1,by omega,by omega,hl,_,rfl,lc,_,rfl,.inl (SqL.of (d2 _ _ hlc1)),?_⟩⟩
   generalize ns.getD (k + (0 + (i:Int))).toNat 0 = x
   have x0:0≤x % ((ps.map V.ref).length:Int):=Int.emod_nonneg _ (by omega)
   have x1:x % ((ps.map V.ref).length:Int) < ((ps.map V.ref).length:Int):=Int.emod_lt_of_pos _ lp
   have ej:(((x % ((ps.map V.ref).length:Int)).toNat:Nat):Int) = x % ((ps.map V.ref).length:Int):=Int.toNat_of_nonneg x0
   have j1:(x % ((ps.map V.ref).length:Int)).toNat < ps.length:=by rw [List.length_map] at *; omega
   have gp:=List.getElem?_eq_getElem j1
   obtain ⟨g,hg,ep⟩:=C1.at_ gp
   generalize ps[(x % ((ps.map V.ref).length:Int)).toNat] = p at gp ep
   refine ⟨x,_,rfl,rfl,lp,lc,_,(((x % ((ps.map V.ref).length:Int)).toNat:Nat):Int),.ref p,rfl,congrArg V.int ej.symm,SqL.of (d2 _ _ hlc1),atI_nat (by rw [List.getElem?_map,gp]; rfl),?_⟩
   have kt:∀ q xs,H' q = some (.tup xs)→upd H' D (.lst (qs.map V.ref ++ [.ref p])) q = some (.tup xs):=fun q xs e => by rw [upd_ne (ne_of e d3 (fun z => nomatch z))]; exact e
   refine hy _ _ d3 ⟨d1,fun b u e => by rw [upd_ne (ne_of_none e d1)]; exact d2 b u e,upd_same,by rw [List.length_append,d4]; rfl,qs ++ [p],gl ++ [g],by rw [List.map_append]; rfl,(CG.mono kt).snoc (kt _ _ (d2 _ _ ep)),fun g' hg' => ?_,by rw [List.length_append,lg]; rfl⟩
   rcases List.mem_append.mp hg' with z | z
   ·exact mem g' z
   ·rw [List.mem_singleton.mp z]; exact List.mem_of_getElem? hg
  ·rintro D ys H' hD ⟨d1,d2,d3,d4,qs,gl,rfl,CG,mem,lg⟩
   exact q D qs gl H' (Same.trans s1 d2) (Same.nn s1 d1) d3 CG mem (by omega)
end
end K61
namespace K61
open PySem L2 Wd TS
theorem pricedL_in {f:Fld} (ok:f.Ok) (m:Int):∀ l:List Cl,pricedL f (l.filter (inXY f.W f.Hh)) m = pricedL f l m
 | [] => rfl
 | d :: l => by
  have ih:=pricedL_in ok m l
  have e1:∀ r,pricedL f (d :: r) m = pricedL f [d] m ++ pricedL f r m:=fun r => pricedL_app f [d] r m
  by_cases h:inXY f.W f.Hh d = true
  ·rw [List.filter_cons_of_pos h,e1 (l.filter _),ih,← e1 l]
  ·rw [List.filter_cons_of_neg h,ih,e1]
   have:f.pr d = none:=by
    cases e:f.pr d with
    | none => rfl
    | some n =>
     obtain ⟨a,b,c,g,_⟩:=ok.on _ _ e
     exact absurd (by simp [inXY,a,b,c,g]) h
   rw [show pricedL f [d] m = [] by simp [pricedL,this],List.nil_append]
theorem stpL_law {f:Fld} (ok:f.Ok) (c:Cl):stpL f c = pricedL f (four c) 0 ++ (match f.ch c.1 c.2.1 with | none => [] | some m => pricedL f (overs c f.L) m):=by
 unfold stpL
 rw [pricedL_in ok] <;> rfl
section
variable {P:Program} {w:World} {K:PySem.W.Frag} {mg:Str→Option Value} {base:Heap} {t:Adr}
def spLSteps:Sp:=fun vs H Q _ => ∃ (sz dp dc p:Addr) (f:Fld) (c:Cl) (kp kc:List (List Key × V)),vs = [.ref sz,.ref dp,.ref dc,.ref p]∧f.Ok∧H sz = some (.tup [.int f.W,.int f.Hh,.int f.L])∧H dp = some (.dT kp)∧(∀ c,valV kp (k3 c) = (f.pr c).map V.int)∧H dc = some (.dT kc)∧(∀ x y,valV kc [.inl x,.inl y] = (f.ch x y).map V.int)∧H p = some (.tup (v3 c)) ∧
 ∀ D rs H',Same H H'→H D = none→H' D = some (.lst (rs.map V.ref))→Prs H' rs (iV (stpL f c))→Q (.ref D) H'
theorem ok_law_steps (T:Txt K mg t):GoodF P w K mg base 1 "_law_steps" ["_law_size","_law_prices_here","_law_changes","_law_cell"] spLSteps:=by
 obtain ⟨fd,F,b⟩:=T.F_law_steps
 refine ⟨_,fd,F.okX sc_law_steps (fun vs H Q E h => ?_) (fun cdv A outer s H vs Q E hr h => ?_),b,F.kp,T.g__law_steps⟩
 ·obtain ⟨sz,dp,dc,p,f,c,kp,kc,rfl,_⟩:=h
  rfl
 ·obtain ⟨sz,dp,dc,p,f,⟨x,y,z⟩,kp,kc,rfl,ok,hsz,hdp,ekp,hdc,ekc,hp,q⟩:=h
  refine ⟨_,(pss_cons (ps_asg (pv 3) (pg_tup rfl (pgs_cons (pg_name (i:=4) sc_law_steps.nd rfl (Or.inl rfl)) (pgs_cons (pg_name (i:=5) sc_law_steps.nd rfl (Or.inl rfl)) (pgs_cons (pg_name (i:=6) sc_law_steps.nd rfl (Or.inl rfl)) pgs_nil)))))
   (pss_cons (ps_set (i:=7) sc_law_steps.nd rfl (Or.inl rfl) (pe_lst pa_nil))
   (pss_cons (ps_for owns_of (pi_list (pe_lst (pa_cons (pe_tup (pa_cons (pe_op op_sub (pv 4) pe_int) (pa_cons (pv 5) (pa_cons (pv 6) pa_nil)))) (pa_cons (pe_tup (pa_cons (pe_op op_add (pv 4) pe_int) (pa_cons (pv 5) (pa_cons (pv 6) pa_nil)))) (pa_cons (pe_tup (pa_cons (pv 4) (pa_cons (pe_op op_sub (pv 5) pe_int) (pa_cons (pv 6) pa_nil)))) (pa_cons (pe_tup (pa_cons (pv 4) (pa_cons (pe_op op_add (pv 5) pe_int) (pa_cons (pv 6) pa_nil)))) pa_nil)))))) (pg_name (i:=8) sc_law_steps.nd rfl (Or.inl rfl)) (pss_one (ps_if (pt_cmp (pc_din (hu_of hr) (pv 8) (pv 1))) (pss_one (ps_expr (pe_bm PySem.F.plainAttrs_list PySem.F.slot_list_append PySem.F.type_list_append mt_append (pv 7) (pa_cons (pe_tup (pa_cons (pv 8) (pa_cons (pe_dget (hu_of hr) (pv 1) (pv 8) (fun _ _ => rfl)) pa_nil))) pa_nil)))) pss_nil)))
   (pss_cons (ps_if (pt_cmp (pc_din (hu_of hr) (pe_tup (pa_cons (pv 4) (pa_cons (pv 5) pa_nil))) (pv 2))) (pss_one (ps_for owns_of (pi_range1 rfl T.n_range (pa_cons (pe_ix ix_tup (pv 0) pe_int (fun _ _ => rfl)) pa_nil)) (pg_name (i:=9) sc_law_steps.nd rfl (Or.inl rfl)) (pss_one (ps_if (pw_and (pt_cmpR op_ne (pv 9) (pv 6) (nomark _)) (pw_and1 (pt_cmp (pc_din (hu_of hr) (pe_tup (pa_cons (pv 4) (pa_cons (pv 5) (pa_cons (pv 9) pa_nil)))) (pv 1))))).pt (pss_one (ps_expr (pe_bm PySem.F.plainAttrs_list PySem.F.slot_list_append PySem.F.type_list_append mt_append (pv 7) (pa_cons (pe_tup (pa_cons (pe_tup (pa_cons (pv 4) (pa_cons (pv 5) (pa_cons (pv 9) pa_nil)))) (pa_cons (pe_op op_add (pe_dget (hu_of hr) (pv 1) (pe_tup (pa_cons (pv 4) (pa_cons (pv 5) (pa_cons (pv 9) pa_nil)))) (fun _ _ => rfl)) (pe_dget (hu_of hr) (pv 2) (pe_tup (pa_cons (pv 4) (pa_cons (pv 5) pa_nil))) (fun _ _ => rfl))) pa_nil))) pa_nil)))) pss_nil)))) pss_nil)
   (pss_one (ps_ret (pv 7))))))),?_⟩
  refine sg0 [oR sz,oR dp,oR dc,oR p,some (.int x),some (.int y),some (.int z),none,none,none] (fun H' => H' = H) (fun B hB => ⟨_,rfl,p,_,rfl,SqT.of hp,rfl,_,_,rfl,_,_,rfl,_,_,rfl,rfl,hB _ rfl⟩) ?_
  rintro H0 rfl
  refine sg1 (fun (D:Addr) => [oR sz,oR dp,oR dc,oR p,some (.int x),some (.int y),some (.int z),oR D,none,none]) (fun D H' => Same H0 H'∧H0 D = none∧H' D = some (.lst [])) (fun B hB => ⟨sL0,fun D hD => hB D _ ⟨same_new (Same.refl H0) hD,hD,upd_same⟩⟩) ?_
  rintro D H1 ⟨s1,hD,eD⟩
  have app:∀ {H2:Hp} {rs:List Addr} {l:List (Cl × Int)} {n:Nat},H2 D = some (.lst (rs.map V.ref))→Prs H2 rs (iV l)→l.length≤n→n≤100→(rs.map V.ref).length < sizeLine:=fun e R h1 h2 => by
   rw [List.length_map,R.1,iV_len]
   exact Nat.lt_of_le_of_lt (show _≤100 by omega) (by decide)
  refine sg1 (fun (v8:Option V) => [oR sz,oR dp,oR dc,oR p,some (.int x),some (.int y),some (.int z),oR D,v8,none]) (fun _ H' => Same H0 H'∧∃ rs:List Addr,H' D = some (.lst (rs.map V.ref))∧Prs H' rs (iV (pricedL f (four (x,y,z)) 0))) (fun B hB => ?_) ?_
  ·refine ⟨_,rfl,x,1,rfl,rfl,_,rfl,_,rfl,sL3,fun p1 h1 => ?_⟩
   have t1:=same_new (o:=.tup [.int (x - 1),.int y,.int z]) (Same.refl H1) h1
   have e1:upd H1 p1 (.tup [.int (x - 1),.int y,.int z]) p1 = some (.tup [.int (x - 1),.int y,.int z]):=upd_same
   generalize upd H1 p1 (.tup [.int (x - 1),.int y,.int z]) = H2 at t1 e1 ⊢
   refine ⟨_,rfl,x,1,rfl,rfl,_,rfl,_,rfl,sL3,fun p2 h2 => ?_⟩
   have t2:=same_new (o:=.tup [.int (x + 1),.int y,.int z]) (Same.refl H2) h2
   have e2:upd H2 p2 (.tup [.int (x + 1),.int y,.int z]) p2 = some (.tup [.int (x + 1),.int y,.int z]):=upd_same
   generalize upd H2 p2 (.tup [.int (x + 1),.int y,.int z]) = H3 at t2 e2 ⊢
   refine ⟨_,rfl,_,rfl,y,1,rfl,rfl,_,rfl,sL3,fun p3 h3 => ?_⟩
   have t3:=same_new (o:=.tup [.int x,.int (y - 1),.int z]) (Same.refl H3) h3
   have e3:upd H3 p3 (.tup [.int x,.int (y - 1),.int z]) p3 = some (.tup [.int x,.int (y - 1),.int z]):=upd_same
   generalize upd H3 p3 (.tup [.int x,.int (y - 1),.int z]) = H4 at t3 e3 ⊢
   refine ⟨_,rfl,_,rfl,y,1,rfl,rfl,_,rfl,sL3,fun p4 h4 => ?_⟩
   have t4:=same_new (o:=.tup [.int x,.int (y + 1),.int z]) (Same.refl H4) h4
   have e4:upd H4 p4 (.tup [.int x,.int (y + 1),.int z]) p4 = some (.tup [.int x,.int (y + 1),.int z]):=upd_same
   generalize upd H4 p4 (.tup [.int x,.int (y + 1),.int z]) = H5 at t4 e4 ⊢
   refine ⟨sL4,fun l hl => ?_⟩
   have t5:=same_new (o:=.lst [.ref p1,.ref p2,.ref p3,.ref p4]) (Same.refl H5) hl
   have e5:upd H5 l (.lst [.ref p1,.ref p2,.ref p3,.ref p4]) l = some (.lst ([p1,p2,p3,p4].map V.ref)):=upd_same
   have C5:Cells (upd H5 l (.lst [.ref p1,.ref p2,.ref p3,.ref p4])) [p1,p2,p3,p4] (four (x,y,z)):=⟨rfl,fun i r c g1 g2 => by
    match i with
    | 0 => cases g1; cases g2; exact t5 _ _ (t4 _ _ (t3 _ _ (t2 _ _ e1)))
    | 1 => cases g1; cases g2; exact t5 _ _ (t4 _ _ (t3 _ _ e2))
    | 2 => cases g1; cases g2; exact t5 _ _ (t4 _ _ e3)
    | 3 => cases g1; cases g2; exact t5 _ _ e4
    | i + 4 => cases g1⟩
   have t15:=Same.trans t1 (Same.trans t2 (Same.trans t3 (Same.trans t4 t5)))
   have nlD:l≠D:=Ne.symm (ne_of_none (t4 _ _ (t3 _ _ (t2 _ _ (t1 _ _ eD)))) hl)
   generalize upd H5 l (.lst [.ref p1,.ref p2,.ref p3,.ref p4]) = H6 at t5 e5 C5 t15
   generalize [p1,p2,p3,p4] = ps at e5 C5
   have s06:=Same.trans s1 t15
   refine ⟨l,rfl,⟨_,SqL.of e5⟩,for_list (xs:=ps.map V.ref) (fun i σ H' => ∃ (v8:Option V) (rs:List Addr),σ = [oR sz,oR dp,oR dc,oR p,some (.int x),some (.int y),some (.int z),oR D,v8,none]∧OffP D H6 H'∧H' D = some (.lst (rs.map V.ref))∧Prs H' rs (iV (pricedL f ((four (x,y,z)).take i) 0))) ⟨_,[],rfl,OffP.refl _ _,t15 _ _ eD,Prs.nil⟩ (fun i σ H' _ h => by obtain ⟨_,_,_,k,_⟩:=h; exact SqL.of (k _ _ nlD e5)) ?_ ?_⟩
   ·rintro i v σ H7 hv ⟨v8,rs,rfl,o7,eD7,R7⟩
    rw [List.getElem?_map] at hv
    obtain ⟨r,hr1,rfl⟩:=Option.map_eq_some_iff.mp hv
    obtain ⟨d,hd,er⟩:=C5.at_ hr1
    have kT:∀ q ys,H6 q = some (.tup ys)→H7 q = some (.tup ys):=fun q ys e => o7 _ _ (ne_of e (t15 _ _ eD) (fun z => nomatch z)) e
    have er7:=kT _ _ er
    have edp7:H7 dp = some (.dT kp):=o7 _ _ (ne_of_none hdp hD) (s06 _ _ hdp)
    have tk:=take_snoc hd
    refine ⟨_,rfl,_,rfl,dp,_,rfl,DGet.t (k:=k3 d) edp7 er7,_,rfl,?_⟩
    rw [ekp d]
    cases hpr:f.pr d with
    | none =>
     refine iteF ⟨_,rs,rfl,o7,eD7,?_⟩
     rw [tk,pricedL_app,show pricedL f [d] 0 = [] by simp [pricedL,hpr],List.append_nil]
     exact R7
    | some n =>
     refine iteT ⟨_,rfl,.inl ⟨rfl,_,SqL.of eD7⟩,_,rfl,_,rfl,_,rfl,dp,.int n,rfl,(show valV kp (k3 d) = some (.int n) by rw [ekp d,hpr]; rfl)▸DGet.t (k:=k3 d) edp7 er7,sL2,fun u hu => ?_⟩
     have sx:=same_new (o:=.tup [.ref r,.int n]) (Same.refl H7) hu
     have ex:upd H7 u (.tup [.ref r,.int n]) u = some (.tup [.ref r,.int n]):=upd_same
     generalize upd H7 u (.tup [.ref r,.int n]) = H8 at sx ex
     have kt:∀ q xs,H8 q = some (.tup xs)→upd H8 D (.lst (rs.map V.ref ++ [.ref u])) q = some (.tup xs):=fun q xs e => by rw [upd_ne (ne_of e (sx _ _ eD7) (fun z => nomatch z))]; exact e
     have l4:(pricedL f ((four (x,y,z)).take i) 0).length≤4:=Nat.le_trans (pricedL_len _ _ _) (by rw [List.length_take]; exact Nat.min_le_right _ _)
     refine ⟨D,_,.ref u,rfl,rfl,sx _ _ eD7,app eD7 R7 l4 (by decide),_,rs ++ [u],rfl,fun b w nb e => by rw [upd_ne nb]; exact sx _ _ (o7 _ _ nb e),by rw [upd_same,List.map_append]; rfl,?_⟩
     rw [tk,pricedL_app,show pricedL f [d] 0 = [(d,n)] by simp [pricedL,hpr],iV_app]
     exact (R7.mono fun q ys e => kt _ _ (sx _ _ e)).app (Prs.one (s:=(d,.int n)) (p:=r) (kt _ _ ex) (kt _ _ (sx _ _ er7)))
   ·rintro σ H7 ⟨v8,rs,rfl,o7,eD7,R7⟩
    rw [List.length_map,C5.1,take_all rfl] at R7
    exact hB v8 H7 ⟨fun b u e => o7 _ _ (ne_of_none e hD) (s06 _ _ e),rs,eD7,R7⟩
  rintro v8 H2 ⟨s2,rs,eD2,R2⟩
  refine sg2 (fun (v8 v9:Option V) => [oR sz,oR dp,oR dc,oR p,some (.int x),some (.int y),some (.int z),oR D,v8,v9]) (fun _ _ H' => Same H0 H'∧∃ rs:List Addr,H' D = some (.lst (rs.map V.ref))∧Prs H' rs (iV (stpL f (x,y,z)))) (fun B hB => ?_) ?_
  ·refine ⟨_,rfl,_,rfl,sL2,fun q1 hq1 => ?_⟩
   have sx:=same_new (o:=.tup [.int x,.int y]) (Same.refl H2) hq1
   have ex:upd H2 q1 (.tup [.int x,.int y]) q1 = some (.tup [.int x,.int y]):=upd_same
   generalize upd H2 q1 (.tup [.int x,.int y]) = H3 at sx ex
   have s3:=Same.trans s2 sx
   refine ⟨_,rfl,dc,_,rfl,DGet.t (k:=[.inl x,.inl y]) (s3 _ _ hdc) ex,_,rfl,?_⟩
   rw [ekc x y]
   cases hch:f.ch x y with
   | none =>
    refine iteF (hB _ _ _ ⟨s3,rs,sx _ _ eD2,?_⟩)
    rw [stpL_law ok,show f.ch (x,y,z).1 (x,y,z).2.1 = none from hch,List.append_nil]
    exact R2.mono fun _ _ e => sx _ _ e
   | some m =>
    refine iteT ⟨_,rfl,sz,_,2,.int f.L,rfl,rfl,SqT.of (s3 _ _ hsz),rfl,(f.L:Int),rfl,by omega,by have:=ok.l.2; omega,?_⟩
    have e0:((f.L:Int)).toNat = f.L:=Int.toNat_natCast _
    rw [e0]
    refine for_range (n:=f.L) (fun i σ H' => ∃ (v9:Option V) (rs:List Addr),σ = [oR sz,oR dp,oR dc,oR p,some (.int x),some (.int y),some (.int z),oR D,v8,v9]∧Same H0 H'∧H' D = some (.lst (rs.map V.ref))∧Prs H' rs (iV (pricedL f (four (x,y,z)) 0 ++ pricedL f (overs (x,y,z) i) m))) ⟨_,rs,rfl,s3,sx _ _ eD2,by rw [show pricedL f (overs (x,y,z) 0) m = [] from rfl,List.append_nil]; exact R2.mono fun _ _ e => sx _ _ e⟩ ?_ ?_
    ·rintro i σ H4 hi ⟨v9,rs4,rfl,s4,eD4,R4⟩
     have e0:(0:Int) + (i:Int) = (i:Int):=by omega
     rw [e0]
     have no:pricedL f (if (i:Int)≠z then [(x,y,(i:Int))] else []) m = []→Prs H4 rs4 (iV (pricedL f (four (x,y,z)) 0 ++ pricedL f (overs (x,y,z) (i + 1)) m)):=fun h => by
      rw [overs_snoc,pricedL_app]
      show Prs H4 rs4 (iV (pricedL f (four (x,y,z)) 0 ++ (pricedL f (overs (x,y,z) i) m ++ pricedL f (if (i:Int)≠z then [(x,y,(i:Int))] else []) m)))
      rw [h,List.append_nil]
      exact R4
     refine ⟨_,rfl,_,rfl,rfl,_,rfl,iteNB (fun hf => ?_) fun ht => iteF ⟨_,rs4,rfl,s4,eD4,no ?_⟩⟩
     ·have hne:(i:Int)≠z:=fun e => of_decide_eq_false hf (congrArg V.int e)
      rw [if_pos hne] at no
      refine ⟨_,rfl,_,rfl,_,rfl,sL3,fun q2 hq2 => ?_⟩
      have s5:=same_new (o:=.tup (v3 (x,y,(i:Int)))) (Same.refl H4) hq2
      have e5:upd H4 q2 (.tup (v3 (x,y,(i:Int)))) q2 = some (.tup (v3 (x,y,(i:Int)))):=upd_same
      have R5:=R4.mono fun _ _ e => s5 _ _ e
      have eD5:=s5 _ _ eD4
      generalize upd H4 q2 (.tup (v3 (x,y,(i:Int)))) = H5 at s5 e5 R5 eD5
      have s05:=Same.trans s4 s5
      refine ⟨_,rfl,dp,_,rfl,DGet.t (k:=k3 (x,y,(i:Int))) (s05 _ _ hdp) e5,_,rfl,?_⟩
      rw [ekp]
      cases hpr:f.pr (x,y,(i:Int)) with
      | none => exact iteF ⟨_,rs4,rfl,s05,eD5,(no (by simp [pricedL,hpr])).mono fun _ _ e => s5 _ _ e⟩
      | some n =>
       refine iteT ⟨_,rfl,.inl ⟨rfl,_,SqL.of eD5⟩,_,rfl,_,rfl,_,rfl,sL3,fun q3 hq3 => ?_⟩
       have s6:=same_new (o:=.tup (v3 (x,y,(i:Int)))) (Same.refl H5) hq3
       have e6:upd H5 q3 (.tup (v3 (x,y,(i:Int)))) q3 = some (.tup (v3 (x,y,(i:Int)))):=upd_same
       generalize upd H5 q3 (.tup (v3 (x,y,(i:Int)))) = H6 at s6 e6
       refine ⟨_,rfl,_,rfl,_,rfl,_,rfl,sL3,fun q4 hq4 => ?_⟩
       have s7:=same_new (o:=.tup (v3 (x,y,(i:Int)))) (Same.refl H6) hq4
       have e7:upd H6 q4 (.tup (v3 (x,y,(i:Int)))) q4 = some (.tup (v3 (x,y,(i:Int)))):=upd_same
       generalize upd H6 q4 (.tup (v3 (x,y,(i:Int)))) = H7 at s7 e7
       have s07:=Same.trans s05 (Same.trans s6 s7)
       refine ⟨dp,.int n,rfl,(show valV kp (k3 (x,y,(i:Int))) = some (.int n) by rw [ekp,hpr]; rfl)▸DGet.t (k:=k3 (x,y,(i:Int))) (s07 _ _ hdp) e7,_,rfl,_,rfl,_,rfl,sL2,fun q5 hq5 => ?_⟩
       have s8:=same_new (o:=.tup [.int x,.int y]) (Same.refl H7) hq5
       have e8:upd H7 q5 (.tup [.int x,.int y]) q5 = some (.tup [.int x,.int y]):=upd_same
       generalize upd H7 q5 (.tup [.int x,.int y]) = H8 at s8 e8
       have s08:=Same.trans s07 s8
       refine ⟨dc,.int m,rfl,(show valV kc [.inl x,.inl y] = some (.int m) by rw [ekc,hch]; rfl)▸DGet.t (k:=[.inl x,.inl y]) (s08 _ _ hdc) e8,n,m,rfl,rfl,sL2,fun u hu => ?_⟩
       have s9:=same_new (o:=.tup [.ref q3,.int (n + m)]) (Same.refl H8) hu
       have e9:upd H8 u (.tup [.ref q3,.int (n + m)]) u = some (.tup [.ref q3,.int (n + m)]):=upd_same
       generalize upd H8 u (.tup [.ref q3,.int (n + m)]) = H9 at s9 e9
       have s59:=Same.trans s6 (Same.trans s7 (Same.trans s8 s9))
       have eD9:=s59 _ _ eD5
       have kt:∀ q xs,H9 q = some (.tup xs)→upd H9 D (.lst (rs4.map V.ref ++ [.ref u])) q = some (.tup xs):=fun q xs e => by rw [upd_ne (ne_of e eD9 (fun z => nomatch z))]; exact e
       have l4:(pricedL f (four (x,y,z)) 0).length≤4:=pricedL_len _ _ _
       have l5:=pricedL_len f (overs (x,y,z) i) m
       have l6:=overs_len (x,y,z) i
       have l7:=ok.l.2
       refine ⟨D,_,.ref u,rfl,rfl,eD9,app eD5 R5 (n:=8) (by rw [List.length_append]; omega) (by decide),_,rs4 ++ [u],rfl,fun b w e => by rw [upd_ne (ne_of_none e hD)]; exact s59 _ _ (s05 _ _ e),by rw [upd_same,List.map_append]; rfl,?_⟩
       rw [overs_snoc,if_pos (show (i:Int)≠(x,y,z).2.2 from hne),pricedL_app,← List.append_assoc,iV_app,show pricedL f [((x,y,z).1,(x,y,z).2.1,(i:Int))] m = [((x,y,(i:Int)),n + m)] by simp [pricedL,hpr]]
       exact (R5.mono fun q ys e => kt _ _ (s59 _ _ e)).app (Prs.one (s:=((x,y,(i:Int)),.int (n + m))) (p:=q3) (kt _ _ e9) (kt _ _ (s9 _ _ (s8 _ _ (s7 _ _ e6)))))
     ·have he:(i:Int) = z:=by have:=of_decide_eq_true ht; injection this
      rw [if_neg (by simp [he])]
      rfl
    ·rintro σ H4 ⟨v9,rs4,rfl,s4,eD4,R4⟩
     refine hB _ _ _ ⟨s4,rs4,eD4,?_⟩
     rw [stpL_law ok,show f.ch (x,y,z).1 (x,y,z).2.1 = some m from hch]
     exact R4
  rintro v8' v9 H5 ⟨s5,rs5,eD5,R5⟩
  exact ⟨_,rfl,q D rs5 H5 s5 hD eD5 R5⟩
end
end K61
namespace K61
open PySem L2 Wd TS
theorem pricedL_keys (f:Fld) (cl:List Cl) (m:Int):(pricedL f cl m).map (·.1) = cl.filter fun c => (f.pr c).isSome:=by
 induction cl with
 | nil => rfl
 | cons d l ih =>
  have e1:pricedL f (d :: l) m = pricedL f [d] m ++ pricedL f l m:=pricedL_app f [d] l m
  rw [e1,List.map_append,ih]
  cases h:f.pr d with
  | none =>
   rw [List.filter_cons_of_neg (by simp [h]),show pricedL f [d] m = [] by simp [pricedL,h]]
   rfl
  | some n =>
   rw [List.filter_cons_of_pos (by simp [h]),show pricedL f [d] m = [(d,n + m)] by simp [pricedL,h]]
   rfl
theorem four_nd (c:Cl):(four c).Nodup:=by
 obtain ⟨x,y,z⟩:=c
 simp only [four,List.nodup_cons,List.mem_cons,Prod.mk.injEq,List.not_mem_nil,or_false,not_or,not_and,List.nodup_nil,not_false_eq_true,and_true]
 refine ⟨⟨?_,?_,?_⟩,⟨?_,?_⟩,?_⟩ <;> intros <;> omega
theorem overs_nd (c:Cl) (n:Nat):(overs c n).Nodup:=by
 unfold overs
 rw [List.Nodup,List.pairwise_map]
 have:((List.range n).filter fun (k:Nat) => decide ((k:Int)≠c.2.2)).Nodup:=List.filter_sublist.nodup List.nodup_range
 exact this.imp fun h e => h (by
  have:=(Prod.mk.inj (Prod.mk.inj e).2).2
  omega)
theorem stpL_nd (f:Fld) (c:Cl):((stpL f c).map (·.1)).Nodup:=by
 unfold stpL
 rw [List.map_append,List.nodup_append]
 refine ⟨?_,?_,fun a ha b hb e => ?_⟩
 ·rw [pricedL_keys]
  exact List.filter_sublist.nodup (List.filter_sublist.nodup (four_nd c))
 ·split
  ·exact List.nodup_nil
  ·rw [pricedL_keys]
   exact List.filter_sublist.nodup (overs_nd c f.L)
 ·rw [pricedL_keys] at ha
  have h1:=(List.mem_filter.mp (List.mem_filter.mp ha).1).1
  have hz:a.2.2 = c.2.2:=by
   simp only [four,List.mem_cons,List.not_mem_nil,or_false] at h1
   rcases h1 with rfl | rfl | rfl | rfl <;> rfl
  cases hc:f.ch c.1 c.2.1 with
  | none => rw [hc] at hb; cases hb
  | some m =>
   rw [hc] at hb
   simp only [pricedL_keys] at hb
   obtain ⟨k,hk,rfl⟩:=List.mem_map.mp (List.mem_filter.mp hb).1
   have:=(List.mem_filter.mp hk).2
   have:(k:Int)≠c.2.2:=by simpa using this
   rw [e] at hz
   exact this hz
def ledL (l:List (Cl × Int)):List (List Key × V):=l.map fun s => (k3 s.1,.int s.2)
theorem ledL_nd {l:List (Cl × Int)} (h:(l.map (·.1)).Nodup):((ledL l).map (·.1)).Nodup:=by
 unfold ledL
 rw [List.map_map,List.Nodup,List.pairwise_map]
 rw [List.Nodup,List.pairwise_map] at h
 exact h.imp fun n e => n (k3_inj e)
theorem ledL_get {l:List (Cl × Int)} (h:(l.map (·.1)).Nodup) {d:Cl} {a:Int} (hm:(d,a)∈l):valV (ledL l) (k3 d) = some (.int a):=valV_of_mem (kv:=(k3 d,.int a)) (ledL_nd h) (List.mem_map.mpr ⟨_,hm,rfl⟩)
theorem Ln.at_ {f:Fld} {rl:List Rec}:∀ {line:List Cl} {i:Nat} {a b:Cl},Ln f rl line→line[i]? = some a→line[i + 1]? = some b→Stp f rl a b
 | [],_,_,_,_,h,_ => nomatch h
 | [_],i,_,_,_,_,h => by cases i <;> cases h
 | x :: y :: r,0,_,_,ln,h1,h2 => by cases h1; cases h2; exact ln.1
 | x :: y :: r,i + 1,_,_,ln,h1,h2 => Ln.at_ (i:=i) ln.2 h1 h2
theorem atI_neg1 {α:Type} {xs:List α} {v:α} (h:xs[xs.length - 1]? = some v):atI xs (-1) = some v:=by
 rcases snoc_or xs with rfl | ⟨r,a,rfl⟩
 ·cases h
 ·rw [List.length_append,List.getElem?_append_right (by simp)] at h
  simp at h
  rw [← h]
  exact atI_last r a
section
variable {P:Program} {w:World} {K:PySem.W.Frag} {mg:Str→Option Value} {base:Heap} {t:Adr}
def prA (H:Hp) (r:Addr):Addr:=match H r with | some (.tup (.ref p :: _)) => p | _ => r
theorem prA_of {H:Hp} {r p:Addr} {xs:List V} (h:H r = some (.tup (.ref p :: xs))):prA H r = p:=by unfold prA; rw [h]
def spLWay:Sp:=fun vs H Q _ => ∃ (ft sz lc dp dc ln M g:Addr) (ps qs:List Addr) (cl line:List Cl) (f:Fld) (rl:List Rec) (gc:Cl),vs = [.ref ft,.ref ln,.ref M,.ref g]∧H ft = some (.tup [.ref sz,.ref lc,.ref dp,.ref dc])∧Field H sz lc dp dc ps cl f∧H ln = some (.lst (qs.map V.ref))∧Cells H qs line∧H M = some (.dT (numL rl))∧(rl.map (·.1)).Nodup∧Ln f rl line∧(∃ a,line.head? = some a∧(a,0,none)∈rl)∧line.getLast? = some gc∧H g = some (.tup (v3 gc))∧line.length≤1001∧∀ H',Same H H'→Q (.bl true) H'
theorem ok_law_way (T:Txt K mg t):GoodF P w K mg base 2 "_law_way" ["_law_field_here","_law_line","_law_sums","_law_goal"] spLWay:=by
 obtain ⟨fd,F,b⟩:=T.F_law_way
 have G_law_steps:=ok_law_steps (P:=P) (w:=w) (base:=base) T
 refine ⟨_,fd,F.okX sc_law_way (fun vs H Q E h => ?_) (fun cdv A outer s H vs Q E hr h => ?_),b,F.kp,T.g__law_way⟩
 ·obtain ⟨ft,sz,lc,dp,dc,ln,M,g,ps,qs,cl,line,f,rl,gc,rfl,_⟩:=h
  rfl
 ·obtain ⟨ft,sz,lc,dp,dc,ln,M,g,ps,qs,cl,line,f,rl,gc,rfl,hft,Fd,hln,C,hM,nd,lnl,⟨a0,ha0,ha0r⟩,gl,hg,hlen,q⟩:=h
  obtain ⟨kp,hdp,ekp⟩:=Fd.hp
  obtain ⟨kc,hdc,ekc⟩:=Fd.hc
  refine ⟨_,(pss_cons (ps_asg (pv 0) (pg_tup rfl (pgs_cons (pg_name (i:=4) sc_law_way.nd rfl (Or.inl rfl)) (pgs_cons (pg_name (i:=5) sc_law_way.nd rfl (Or.inl rfl)) (pgs_cons (pg_name (i:=6) sc_law_way.nd rfl (Or.inl rfl)) (pgs_cons (pg_name (i:=7) sc_law_way.nd rfl (Or.inl rfl)) pgs_nil))))))
   (pss_cons (ps_if (pw_or (pt_cmpR op_ne (pe_dget (hu_of hr) (pv 2) (pe_ix ix_list (pv 1) pe_int (fun _ _ => rfl)) (fun _ _ => rfl)) pe_int (nomark _)) (pw_or1 (pt_cmpR (op_neT hr.units0) (pe_ix ix_list (pv 1) (pe_un un_neg pe_int) (fun _ _ => rfl)) (pv 3) (nomark _)))).pt (pss_one (ps_ret pe_bl)) pss_nil)
   (pss_cons (ps_for owns_of (pi_range2 rfl T.n_range (pa_cons pe_int (pa_cons (pe_callB call_len_seq (by rfl) T.n_len b_len (pa_cons (pv 1) pa_nil)) pa_nil))) (pg_name (i:=8) sc_law_way.nd rfl (Or.inl rfl)) (pss_cons (ps_set (i:=9) sc_law_way.nd rfl (Or.inl rfl) (pe_callTy (call_dictP rfl hr.units) (by rfl) T.n_dict b_dict (pa_cons (pe_callG G_law_steps (hr.mono (by decide)) passes_of (by rfl) (pa_cons (pv 4) (pa_cons (pv 6) (pa_cons (pv 7) (pa_cons (pe_ix ix_list (pv 1) (pe_op op_sub (pv 8) pe_int) (fun _ _ => rfl)) pa_nil))))) pa_nil)))
   (pss_cons (ps_if (pt_cmp (pc_dnotin (hu_of hr) (pe_ix ix_list (pv 1) (pv 8) (fun _ _ => rfl)) (pv 9))) (pss_one (ps_ret pe_bl)) pss_nil)
   (pss_one (ps_if (pt_cmpR op_ne (pe_dget (hu_of hr) (pv 2) (pe_ix ix_list (pv 1) (pv 8) (fun _ _ => rfl)) (fun _ _ => rfl)) (pe_op op_add (pe_dget (hu_of hr) (pv 2) (pe_ix ix_list (pv 1) (pe_op op_sub (pv 8) pe_int) (fun _ _ => rfl)) (fun _ _ => rfl)) (pe_dget (hu_of hr) (pv 9) (pe_ix ix_list (pv 1) (pv 8) (fun _ _ => rfl)) (fun _ _ => rfl))) (nomark _)) (pss_one (ps_ret pe_bl)) pss_nil)))))
   (pss_one (ps_ret pe_bl))))),?_⟩
  refine sg0 [oR ft,oR ln,oR M,oR g,oR sz,oR lc,oR dp,oR dc,none,none] (fun H' => H' = H) (fun B hB => ⟨_,rfl,ft,_,rfl,SqT.of hft,rfl,_,_,rfl,_,_,rfl,_,_,rfl,_,_,rfl,rfl,hB _ rfl⟩) ?_
  rintro H0 rfl
  have l0:0 < line.length:=by
   cases line with
   | nil => cases ha0
   | cons _ _ => exact Nat.succ_pos _
  have lq:qs.length = line.length:=C.1
  have a0':line[0]? = some a0:=by rw [← List.head?_eq_getElem?]; exact ha0
  have gq0:=List.getElem?_eq_getElem (show 0 < qs.length by omega)
  have eq0:=C.2 0 _ _ gq0 a0'
  generalize qs[0]'(by omega) = q0 at gq0 eq0
  have gl':line[line.length - 1]? = some gc:=by rw [← List.getLast?_eq_getElem?]; exact gl
  have gqn:=List.getElem?_eq_getElem (show line.length - 1 < qs.length by omega)
  have eqn:=C.2 _ _ _ gqn gl'
  generalize qs[line.length - 1]'(by omega) = qn at gqn eqn
  refine sg0 [oR ft,oR ln,oR M,oR g,oR sz,oR lc,oR dp,oR dc,none,none] (fun H' => H' = H0) (fun B hB => ?_) ?_
  ·refine ⟨_,rfl,_,rfl,ln,_,0,.ref q0,rfl,rfl,SqL.of hln,atI_nat (j:=0) (by rw [List.getElem?_map,gq0]; rfl),M,.int 0,rfl,(numL_some nd ha0r)▸DGet.t (k:=k3 a0) hM eq0,rfl,_,rfl,iteNS rfl ?_⟩
   exact ⟨_,rfl,1,rfl,ln,_,-1,.ref qn,rfl,rfl,SqL.of hln,atI_neg1 (by rw [List.length_map,lq,List.getElem?_map,gqn]; rfl),_,rfl,qn,g,[gc.1,gc.2.1,gc.2.2],[gc.1,gc.2.1,gc.2.2],rfl,rfl,SqT.of eqn,SqT.of hg,_,rfl,iteNS rfl (hB _ rfl)⟩
  rintro H1 rfl
  refine sg2 (fun (v8 v9:Option V) => [oR ft,oR ln,oR M,oR g,oR sz,oR lc,oR dp,oR dc,v8,v9]) (fun _ _ H' => Same H1 H') (fun B hB => ?_) ?_
  ·refine ⟨_,rfl,ln,_,rfl,.inl (SqL.of hln),1,_,rfl,⟨by omega,by omega,by omega,by rw [List.length_map]; omega⟩,?_⟩
   refine for_range (lo:=1) (fun i σ H' => ∃ v8 v9:Option V,σ = [oR ft,oR ln,oR M,oR g,oR sz,oR lc,oR dp,oR dc,v8,v9]∧Same H1 H') ⟨_,_,rfl,Same.refl H1⟩ ?_ ?_
   ·rintro i σ H2 hi ⟨v8,v9,rfl,s2⟩
    have hi':i + 1 < line.length:=by rw [List.length_map] at hi; omega
    have ga:=List.getElem?_eq_getElem (show i < line.length by omega)
    have gb:=List.getElem?_eq_getElem hi'
    have gqa:=List.getElem?_eq_getElem (show i < qs.length by omega)
    have gqb:=List.getElem?_eq_getElem (show i + 1 < qs.length by omega)
    have eqa:=C.2 _ _ _ gqa ga
    have eqb:=C.2 _ _ _ gqb gb
    obtain ⟨xa,hxa,xb,hxb,cost,exa,exb,hst,hnum⟩:=lnl.at_ ga gb
    generalize line[i]'(by omega) = ca at ga eqa exa hst
    generalize line[i + 1]'(by omega) = cb at gb eqb exb hst
    generalize qs[i]'(by omega) = qa at gqa eqa
    generalize qs[i + 1]'(by omega) = qb at gqb eqb
    subst exa exb
    refine gName_go ?_
    refine sg1 (fun (l:Addr) => [oR ft,oR ln,oR M,oR g,oR sz,oR lc,oR dp,oR dc,some (.int (1 + (i:Int))),oR l]) (fun l H' => Same H1 H'∧H' l = some (.dT (ledL (stpL f xa.1)))) (fun B hB' => ?_) ?_
    ·refine ⟨_,rfl,_,rfl,_,rfl,_,rfl,_,rfl,1 + (i:Int),1,rfl,rfl,ln,_,(i:Int),.ref qa,rfl,congrArg V.int (by omega),SqL.of (s2 _ _ hln),atI_nat (by rw [List.getElem?_map,gqa]; rfl),sz,dp,dc,qa,f,xa.1,kp,kc,rfl,Fd.ok,s2 _ _ Fd.hsz,s2 _ _ hdp,ekp,s2 _ _ hdc,ekc,s2 _ _ eqa,fun D rs H3 s3 hD eD R => ?_⟩
     have lr:rs.length = (stpL f xa.1).length:=by rw [R.1,iV_len]
     refine ⟨D,rs,rs.map (prA H3),ledL (stpL f xa.1),rfl,eD,by unfold ledL; rw [List.length_map,lr],by unfold ledL; rw [List.length_map,List.length_map,lr],fun j r b kv h1 h2 h3 => ?_,ledL_nd (stpL_nd f xa.1),fun l hl => hB' l _ ⟨Same.trans s2 (same_new s3 hl),upd_same⟩⟩
     unfold ledL at h3
     rw [List.getElem?_map] at h3
     obtain ⟨u,hu,rfl⟩:=Option.map_eq_some_iff.mp h3
     obtain ⟨pp,e1,e2⟩:=R.2 j r (u.1,.int u.2) h1 (by unfold iV; rw [List.getElem?_map,hu]; rfl)
     rw [List.getElem?_map,h1] at h2
     cases h2
     rw [prA_of e1]
     exact ⟨e1,e2⟩
    rintro l H3 ⟨s3,el⟩
    have led:=ledL_get (stpL_nd f xa.1) hst
    have eqb3:=s3 _ _ eqb
    have eqa3:=s3 _ _ eqa
    have ixb:atI (qs.map V.ref) ((i + 1:Nat):Int) = some (.ref qb):=atI_nat (by rw [List.getElem?_map,gqb]; rfl)
    have eb:V.int (1 + (i:Int)) = V.int ((i + 1:Nat):Int):=congrArg V.int (by omega)
    refine sg0 [oR ft,oR ln,oR M,oR g,oR sz,oR lc,oR dp,oR dc,some (.int (1 + (i:Int))),oR l] (fun H' => H' = H3) (fun B hB' => ⟨_,rfl,_,rfl,ln,_,((i + 1:Nat):Int),.ref qb,rfl,eb,SqL.of (s3 _ _ hln),ixb,_,rfl,l,some (.int cost),rfl,led▸DGet.t (k:=k3 xb.1) el eqb3,_,rfl,iteNB (fun z => absurd (show true = false from z) (by decide)) fun _ => hB' _ rfl⟩) ?_
    rintro H4 rfl
    refine ⟨_,rfl,_,rfl,_,rfl,ln,_,((i + 1:Nat):Int),.ref qb,rfl,eb,SqL.of (s3 _ _ hln),ixb,M,.int xb.2.1,rfl,(numL_some nd hxb)▸DGet.t (k:=k3 xb.1) (s3 _ _ hM) eqb3,?_⟩
    refine ⟨_,rfl,_,rfl,_,rfl,1 + (i:Int),1,rfl,rfl,ln,_,(i:Int),.ref qa,rfl,congrArg V.int (by omega),SqL.of (s3 _ _ hln),atI_nat (by rw [List.getElem?_map,gqa]; rfl),M,.int xa.2.1,rfl,(numL_some nd hxa)▸DGet.t (k:=k3 xa.1) (s3 _ _ hM) eqa3,_,rfl,_,rfl,_,rfl,ln,_,((i + 1:Nat):Int),.ref qb,rfl,eb,SqL.of (s3 _ _ hln),ixb,l,.int cost,rfl,led▸DGet.t (k:=k3 xb.1) el eqb3,xa.2.1,cost,rfl,rfl,rfl,_,rfl,iteNS (congrArg V.int hnum) ⟨_,_,rfl,s3⟩⟩
   ·rintro σ H2 ⟨v8,v9,rfl,s2⟩
    exact hB v8 v9 H2 s2
  rintro v8 v9 H2 s2
  exact q H2 s2
end
end K61
namespace K61
open PySem L2 Wd TS
theorem numL_at {rl:List Rec} {i:Nat} {kv:List Key × V} (h:(numL rl)[i]? = some kv):∃ x,rl[i]? = some x∧kv = (k3 x.1,.int x.2.1):=by
 unfold numL at h
 rw [List.getElem?_map] at h
 obtain ⟨x,hx,rfl⟩:=Option.map_eq_some_iff.mp h
 exact ⟨x,hx,rfl⟩
theorem op_notInTK {X:Cx} {K:PySem.W.Frag} (hK:X.K = K) (hu:X.A.units + 64 < cLine):OpR X (compareOp .NotIn) (rInT K true):=hK▸op_notInT hu
def shownL (f:Fld) (st:List Cl):List Cl:=st.filter fun c => (f.pr c).isSome
abbrev n3 (c:Cl):List Int:=[c.1,c.2.1,c.2.2]
theorem Cells.tups {K:PySem.W.Frag} {H:Hp} {ps:List Addr} {cl:List Cl} (C:Cells H ps cl):Tups K H ps (cl.map n3):=⟨by rw [List.length_map]; exact C.1,fun i p ns h1 h2 => by
 rw [List.getElem?_map] at h2
 obtain ⟨c,e,rfl⟩:=Option.map_eq_some_iff.mp h2
 exact SqT.of (C.2 i p c h1 e)⟩
theorem Cells.lt {K:PySem.W.Frag} {H:Hp} {a:Addr} {ps:List Addr} {cl:List Cl} (C:Cells H ps cl) (h:H a = some (.lst (ps.map V.ref))):LT K H a (cl.map n3):=⟨ps,SqL.of h,C.tups⟩
theorem exo_ne {xs:List V} {a:Addr} {o:Obj}:HO.lst xs≠Exo a o:=fun z => by unfold Exo at z; cases z
def Cov (f:Fld) (rl l:List Rec) (kcm:List (List Key × V)):Prop:=∀ x∈l,∀ s∈stpL f x.1,∀ y∈rl,y.1 = s.1→y.2.1 = x.2.1 + s.2→(valV kcm (k3 s.1)).isSome = true
theorem Cov.put {f:Fld} {rl l:List Rec} {kcm:List (List Key × V)} (h:Cov f rl l kcm) {k:List Key} {v:V}:Cov f rl l (putK kcm k v):=fun x hx s hs y hy e1 e2 => by
 rw [valV_put]
 split
 ·rfl
 ·exact h x hx s hs y hy e1 e2
section
variable {P:Program} {w:World} {K:PySem.W.Frag} {mg:Str→Option Value} {base:Heap} {t:Adr}
def spLNum:Sp:=fun vs H Q _ => ∃ (ft sz lc dp dc M ls:Addr) (ps qs:List Addr) (cl st:List Cl) (f:Fld) (rl:List Rec),vs = [.ref ft,.ref M,.ref ls]∧H ft = some (.tup [.ref sz,.ref lc,.ref dp,.ref dc])∧Field H sz lc dp dc ps cl f∧H ls = some (.lst (qs.map V.ref))∧Cells H qs st∧st.length≤5∧H M = some (.dT (numL rl))∧M≠dp∧M≠dc∧Fin f st rl∧rl.length≤432∧∀ H',Same H H'→Q (.bl true) H'
theorem ok_law_numbers (T:Txt K mg t):GoodF P w K mg base 2 "_law_numbers" ["_law_field_here","_law_numbers_here","_law_starts"] spLNum:=by
 obtain ⟨fd,F,b⟩:=T.F_law_numbers
 have G_law_steps:=ok_law_steps (P:=P) (w:=w) (base:=base) T
 refine ⟨_,fd,F.okX sc_law_numbers (fun vs H Q E h => ?_) (fun cdv A outer s H vs Q E hr h => ?_),b,F.kp,T.g__law_numbers⟩
 ·obtain ⟨ft,sz,lc,dp,dc,M,ls,ps,qs,cl,st,f,rl,rfl,_⟩:=h
  rfl
 ·obtain ⟨ft,sz,lc,dp,dc,M,ls,ps,qs,cl,st,f,rl,rfl,hft,Fd,hls,C,hst,hM,nMp,nMc,fin,few,q⟩:=h
  obtain ⟨kp,hdp,ekp⟩:=Fd.hp
  obtain ⟨kc,hdc,ekc⟩:=Fd.hc
  refine ⟨_,(pss_cons (ps_asg (pv 0) (pg_tup rfl (pgs_cons (pg_name (i:=3) sc_law_numbers.nd rfl (Or.inl rfl)) (pgs_cons (pg_name (i:=4) sc_law_numbers.nd rfl (Or.inl rfl)) (pgs_cons (pg_name (i:=5) sc_law_numbers.nd rfl (Or.inr rfl)) (pgs_cons (pg_name (i:=6) sc_law_numbers.nd rfl (Or.inl rfl)) pgs_nil))))))
   (pss_cons (ps_set (i:=8) sc_law_numbers.nd rfl (Or.inr rfl) (pe_compN (N0:=["_law_field_here","_law_numbers_here","_law_starts","_law_size","_law_cells","_law_prices_here","_law_changes","._law_cell","_law_shown","_law_come","_law_other","_law_price"]) (own:=["_law_cell"]) (cs_oneN (n:="_law_prices_here") (N:=["_law_field_here","_law_numbers_here","_law_starts","_law_size","_law_cells","_law_prices_here","_law_changes","_law_cell","_law_shown","_law_come","_law_other","_law_price"]) rfl (by rfl) (by rfl) rfl (by rfl) (by decide +kernel) (by decide +kernel) rfl (by decide +kernel)) (pi_list (pv 2)) (fun _ _ _ _ _ => pg_name (i:=12) (by show (["_law_field_here","_law_numbers_here","_law_starts","_law_size","_law_cells","_law_prices_here","_law_changes","._law_cell","_law_shown","_law_come","_law_other","_law_price","_law_cell"]:List Str).Nodup; decide +kernel) rfl (Or.inl rfl)) (fun _ _ _ _ _ => pf_one (pt_cmp (pc_dinXK (P:=P) (w:=w) rfl rfl (hu_of hr) (pv 12) (pv 5)))) (fun _ _ _ _ _ => (pv 12))))
   (pss_cons (ps_if (pw_or (pt_not (pt_val (pe_callB call_isi (by rfl) T.n_isinstance b_isinstance (pa_cons (pv 1) (pa_cons (pe_bltn (v:=.ty "dict") (by rfl) T.n_dict b_dict rfl) pa_nil))))) (pw_or1 (pt_cmpR (op_ne_nil hr.units0) (pe_thaw (pe_compN (N0:=["_law_field_here","_law_numbers_here","_law_starts","_law_size","_law_cells","_law_prices_here","_law_changes","._law_cell","_law_shown","_law_come","_law_other","_law_price"]) (own:=["_law_cell"]) (cs_oneN (n:="_law_prices_here") (N:=["_law_field_here","_law_numbers_here","_law_starts","_law_size","_law_cells","_law_prices_here","_law_changes","_law_cell","_law_shown","_law_come","_law_other","_law_price"]) rfl (by rfl) (by rfl) rfl (by rfl) (by decide +kernel) (by decide +kernel) rfl (by decide +kernel)) (pi_dictT rfl (pv 1)) (fun _ _ _ _ _ => pg_name (i:=12) (by show (["_law_field_here","_law_numbers_here","_law_starts","_law_size","_law_cells","_law_prices_here","_law_changes","._law_cell","_law_shown","_law_come","_law_other","_law_price","_law_cell"]:List Str).Nodup; decide +kernel) rfl (Or.inl rfl)) (fun _ _ _ _ _ => pf_one (pt_cmp (pc_dnotinXK (P:=P) (w:=w) rfl rfl (hu_of hr) (pv 12) (pv 5)))) (fun _ _ _ _ _ => (pv 12)))) (pe_lst pa_nil) (nomark _)))).pt (pss_one (ps_ret pe_bl)) pss_nil)
   (pss_cons (ps_if (pt_cmpR (op_ne_nil hr.units0) (pe_compN (N0:=["_law_field_here","_law_numbers_here","_law_starts","_law_size","_law_cells","_law_prices_here","_law_changes","._law_cell","_law_shown","_law_come","_law_other","_law_price"]) (own:=["_law_cell"]) (cs_oneN (n:="_law_numbers_here") (N:=["_law_field_here","_law_numbers_here","_law_starts","_law_size","_law_cells","_law_prices_here","_law_changes","_law_cell","_law_shown","_law_come","_law_other","_law_price"]) rfl (by rfl) (by rfl) rfl (by rfl) (by decide +kernel) (by decide +kernel) rfl (by decide +kernel)) (pi_list (pv 8)) (fun _ _ _ _ _ => pg_name (i:=12) (by show (["_law_field_here","_law_numbers_here","_law_starts","_law_size","_law_cells","_law_prices_here","_law_changes","._law_cell","_law_shown","_law_come","_law_other","_law_price","_law_cell"]:List Str).Nodup; decide +kernel) rfl (Or.inl rfl)) (fun _ _ _ _ _ => pf_one (pw_or (pt_cmp (pc_dnotinXK (P:=P) (w:=w) rfl rfl (hu_of hr) (pv 12) (pv 1))) (pw_or1 (pt_cmpR op_ne (pe_dgetXK (P:=P) (w:=w) rfl rfl (hu_of hr) (pv 1) (pv 12) (fun _ _ => rfl)) pe_int (nomark _)))).pt) (fun _ _ _ _ _ => (pv 12))) (pe_lst pa_nil) (nomark _)) (pss_one (ps_ret pe_bl)) pss_nil)
   (pss_cons (ps_set (i:=9) sc_law_numbers.nd rfl (Or.inr rfl) pe_dnewT)
   (pss_cons (ps_thaw (ps_for owns_of (pi_dictT rfl (pv 1)) (pg_name (i:=7) sc_law_numbers.nd rfl (Or.inl rfl)) (pss_cons (ps_if (pw_or (pt_not (pt_val (pe_callB call_isi (by rfl) T.n_isinstance b_isinstance (pa_cons (pe_dgetX (hu_of hr) (pv 1) (pv 7) (fun _ _ => rfl)) (pa_cons (pe_bltn (v:=.ty "int") (by rfl) T.n_int b_int rfl) pa_nil))))) (pw_or (pt_val (pe_callB call_isi (by rfl) T.n_isinstance b_isinstance (pa_cons (pe_dgetX (hu_of hr) (pv 1) (pv 7) (fun _ _ => rfl)) (pa_cons (pe_bltn (v:=.ty "bool") (by rfl) T.n_bool b_bool rfl) pa_nil)))) (pw_or1 (pt_cmpR op_lt (pe_dgetX (hu_of hr) (pv 1) (pv 7) (fun _ _ => rfl)) pe_int (nomark _))))).pt (pss_one (ps_ret pe_bl)) pss_nil)
   (pss_one (ps_for owns_of (pi_list (pe_callG G_law_steps (hr.mono (by decide)) passes_of (by rfl) (pa_cons (pv 3) (pa_cons (pv 5) (pa_cons (pv 6) (pa_cons (pv 7) pa_nil)))))) (pg_tup rfl (pgs_cons (pg_name (i:=10) sc_law_numbers.nd rfl (Or.inl rfl)) (pgs_cons (pg_name (i:=11) sc_law_numbers.nd rfl (Or.inl rfl)) pgs_nil))) (pss_cons (ps_if (pw_or (pt_cmp (pc_dnotinX (hu_of hr) (pv 10) (pv 1))) (pw_or1 (pt_cmpR op_gt (pe_dgetX (hu_of hr) (pv 1) (pv 10) (fun _ _ => rfl)) (pe_op op_add (pe_dgetX (hu_of hr) (pv 1) (pv 7) (fun _ _ => rfl)) (pv 11)) (nomark _)))).pt (pss_one (ps_ret pe_bl)) pss_nil)
   (pss_one (ps_if (pt_cmpR op_eq (pe_dgetX (hu_of hr) (pv 1) (pv 10) (fun _ _ => rfl)) (pe_op op_add (pe_dgetX (hu_of hr) (pv 1) (pv 7) (fun _ _ => rfl)) (pv 11)) (nomark _)) (pss_one (ps_dput (hu_of hr) (pv 9) (pv 10) pe_bl rfl)) pss_nil))))))))
   (pss_one (ps_ret (pe_cmpR (op_eq_nil hr.units0) (pe_thaw (pe_compN (N0:=["_law_field_here","_law_numbers_here","_law_starts","_law_size","_law_cells","_law_prices_here","_law_changes","._law_cell","_law_shown","_law_come","_law_other","_law_price"]) (own:=["_law_cell"]) (cs_twoN (n1:="_law_shown") (n2:="_law_come") (N:=["_law_field_here","_law_numbers_here","_law_starts","_law_size","_law_cells","_law_prices_here","_law_changes","_law_cell","_law_shown","_law_come","_law_other","_law_price"]) rfl (by rfl) (by rfl) rfl rfl (by rfl) (by rfl) (by decide +kernel) (by decide +kernel) rfl (by decide +kernel)) (pi_dictT rfl (pv 1)) (fun _ _ _ _ _ => pg_name (i:=12) (by show (["_law_field_here","_law_numbers_here","_law_starts","_law_size","_law_cells","_law_prices_here","_law_changes","._law_cell","_law_shown","_law_come","_law_other","_law_price","_law_cell"]:List Str).Nodup; decide +kernel) rfl (Or.inl rfl)) (fun _ _ _ _ _ => pf_one (pw_and (pt_cmp (pc_dnotinXK (P:=P) (w:=w) rfl rfl (hu_of hr) (pv 12) (pv 9))) (pw_and1 (pt_cmpR (op_notInTK (K:=K) rfl hr.units) (pv 12) (pv 8) (by with_unfolding_all rfl)))).pt) (fun _ _ _ _ _ => (pv 12)))) (pe_lst pa_nil) (nomark _)))))))))),?_⟩
  refine sg0 [oR ft,oR M,oR ls,oR sz,oR lc,oR dp,oR dc,none,none,none,none,none] (fun H' => H' = H) (fun B hB => ⟨_,rfl,ft,_,rfl,SqT.of hft,rfl,_,_,rfl,_,_,rfl,_,_,rfl,_,_,rfl,rfl,hB _ rfl⟩) ?_
  rintro H0 rfl
  refine sg1 (fun (S:Addr) => [oR ft,oR M,oR ls,oR sz,oR lc,oR dp,oR dc,none,oR S,none,none,none]) (fun S H' => Same H0 H'∧H0 S = none∧∃ ss:List Addr,H' S = some (.lst (ss.map V.ref))∧Cells H' ss (shownL f st)) (fun B hB => ?_) ?_
  ·refine ⟨_,rfl,ls,rfl,⟨_,SqL.of hls⟩,comp_list (xs:=qs.map V.ref) (fun D i ys H' => Same H0 H'∧H0 D = none∧H' D = some (.lst ys)∧ys.length≤i∧i≤st.length∧∃ ss:List Addr,ys = ss.map V.ref∧Cells H' ss (shownL f (st.take i))) (by rw [List.length_map,C.1]; exact Nat.le_trans hst (by decide)) (fun D hD => ⟨same_new (Same.refl H0) hD,hD,upd_same,Nat.zero_le _,Nat.zero_le _,[],rfl,Cells.nil⟩) (fun D i ys H' hv => ⟨hv.2.2.1,hv.2.2.2.1,SqL.of (hv.1 _ _ hls)⟩) ?_ ?_⟩
   ·rintro D i x ys H' Qy Qn hx ⟨s1,hD,eD,y1,i1,ss,rfl,C1⟩ hy hn'
    rw [List.getElem?_map] at hx
    obtain ⟨p,hp,rfl⟩:=Option.map_eq_some_iff.mp hx
    obtain ⟨c,hc,ep⟩:=C.at_ hp
    have ic:i < st.length:=(List.getElem?_eq_some_iff.mp hc).1
    have tk:shownL f (st.take (i + 1)) = shownL f (st.take i) ++ shownL f [c]:=by unfold shownL; rw [take_snoc hc,List.filter_append]
    rw [tk] at hy hn'
    refine ⟨⟨_,rfl,rfl⟩,_,rfl,_,rfl,dp,_,rfl,DAny.t (k:=k3 c) (s1 _ _ hdp) (s1 _ _ ep),_,rfl,?_⟩
    rw [ekp]
    cases hpr:f.pr c with
    | none =>
     rw [show shownL f [c] = [] by simp [shownL,hpr],List.append_nil] at hn'
     exact iteF (hn' _ ⟨s1,hD,eD,by omega,ic,ss,rfl,C1⟩)
    | some n =>
     rw [show shownL f [c] = [c] by simp [shownL,hpr]] at hy
     have kt:∀ q xs,H' q = some (.tup xs)→upd H' D (.lst (ss.map V.ref ++ [.ref p])) q = some (.tup xs):=fun q xs e => by rw [upd_ne (ne_of e eD (fun z => nomatch z))]; exact e
     exact iteT ⟨_,rfl,hy _ _ eD ⟨fun b u e => by rw [upd_ne (ne_of_none e hD)]; exact s1 b u e,hD,upd_same,by rw [List.length_append]; exact Nat.succ_le_succ y1,ic,ss ++ [p],by rw [List.map_append]; rfl,(C1.mono kt).snoc (kt _ _ (s1 _ _ ep))⟩⟩
   ·rintro D ys H' hD ⟨s1,_,eD,y1,i1,ss,rfl,C1⟩
    rw [List.length_map,C.1,take_all rfl] at C1
    exact hB D H' ⟨s1,hD,ss,eD,C1⟩
  rintro S H1 ⟨s1,hS,ss,eS,C1⟩
  have hM1:=s1 _ _ hM
  have hdp1:=s1 _ _ hdp
  refine sg0 [oR ft,oR M,oR ls,oR sz,oR lc,oR dp,oR dc,none,oR S,none,none,none] (fun H' => Same H1 H') (fun B hB => ?_) ?_
  ·refine ⟨_,rfl,.ref M,.ty "dict",_,_,true,rfl,.dT hM1,.ty _,by kernel_rfl,true,rfl,iteF ⟨_,rfl,M,_,rfl,hM1,fun o xs hz hm kt dr => ?_⟩⟩
   obtain ⟨Z,off1,nn1,back⟩:=fz_start hM1 hz hm kt dr
   refine comp_fz Z (fun D i ys H' => Same (upd H1 M (Exo M o)) H'∧(upd H1 M (Exo M o)) D = none∧H' D = some (.lst [])∧ys = []) (fun D hD => ⟨same_new (Same.refl _) hD,hD,upd_same,rfl⟩) (fun D i ys H' hv => ⟨by rw [hv.2.2.2]; exact hv.2.2.1,by rw [hv.2.2.2]; exact Nat.zero_le _,hv.1 _ _ Z.e⟩) ?_ ?_
   ·rintro D i kv p ys H' Qy Qn h1 h2 ⟨s2,hD,eD,rfl⟩ hy hn'
    obtain ⟨x,hx,rfl⟩:=numL_at h1
    obtain ⟨n,hn⟩:=fin.on x (List.mem_of_getElem? hx)
    refine ⟨⟨_,rfl,rfl⟩,_,rfl,_,rfl,dp,_,rfl,DAny.t (k:=k3 x.1) (s2 _ _ (off1 _ _ (Ne.symm nMp) hdp1)) (s2 _ _ h2),_,rfl,?_⟩
    rw [ekp,hn]
    exact iteNB (fun z => absurd (show true = false from z) (by decide)) fun _ => hn' _ ⟨s2,hD,eD,rfl⟩
   ·rintro D ys H' hD ⟨s2,_,eD,rfl⟩
    refine ⟨M,o,_,xs,s2 _ _ Z.e,hm,KT.keeps Z.kt (fun b ys e => s2 _ _ e),dr,hz,?_⟩
    have sb:=back H' s2
    have eD':upd H' M (.dT (numL rl)) D = some (.lst []):=by rw [upd_ne (ne_of eD (s2 _ _ Z.e) exo_ne)]; exact eD
    generalize upd H' M (.dT (numL rl)) = H3 at sb eD'
    refine ⟨sL0,fun p hp => ?_⟩
    have s3:=same_new (o:=.lst []) (Same.refl H3) hp
    exact ⟨D,p,_,rfl,rfl,SqL.of (s3 _ _ eD'),SqL.of upd_same,_,rfl,iteF (hB _ (Same.trans sb s3))⟩
  rintro H2 s2
  have hM2:=s2 _ _ hM1
  have eS2:=s2 _ _ eS
  have C2:Cells H2 ss (shownL f st):=C1.mono fun _ _ e => s2 _ _ e
  have shown:∀ c,c∈shownL f st↔c∈st∧∃ n,f.pr c = some n:=fun c => by
   unfold shownL
   rw [List.mem_filter,Option.isSome_iff_exists]
  have lsh:(shownL f st).length≤5:=Nat.le_trans (List.length_filter_le _ _) hst
  refine sg0 [oR ft,oR M,oR ls,oR sz,oR lc,oR dp,oR dc,none,oR S,none,none,none] (fun H' => Same H2 H') (fun B hB => ?_) ?_
  ·refine ⟨_,rfl,S,rfl,⟨_,SqL.of eS2⟩,comp_list (xs:=ss.map V.ref) (fun D i ys H' => Same H2 H'∧H2 D = none∧H' D = some (.lst ys)∧ys = []) (by rw [List.length_map,C2.1]; exact Nat.le_trans lsh (by decide)) (fun D hD => ⟨same_new (Same.refl H2) hD,hD,upd_same,rfl⟩) (fun D i ys H' hv => ⟨hv.2.2.1,by rw [hv.2.2.2]; exact Nat.zero_le _,SqL.of (hv.1 _ _ eS2)⟩) ?_ ?_⟩
   ·rintro D i x ys H' Qy Qn hx ⟨s3,hD,eD,rfl⟩ hy hn'
    rw [List.getElem?_map] at hx
    obtain ⟨p,hp,rfl⟩:=Option.map_eq_some_iff.mp hx
    obtain ⟨c,hc,ep⟩:=C2.at_ hp
    obtain ⟨c1,c2⟩:=(shown c).mp (List.mem_of_getElem? hc)
    obtain ⟨x,hx,rfl,hx0⟩:=fin.sta c c1 c2
    have gv:=numL_some fin.nd hx
    rw [hx0] at gv
    refine ⟨⟨_,rfl,rfl⟩,_,rfl,_,rfl,M,some (.int 0),rfl,gv▸DAny.t (k:=k3 x.1) (s3 _ _ hM2) (s3 _ _ ep),_,rfl,iteNB (fun z => absurd (show true = false from z) (by decide)) fun _ => ?_⟩
    exact ⟨_,rfl,_,rfl,M,.int 0,rfl,gv▸DAny.t (k:=k3 x.1) (s3 _ _ hM2) (s3 _ _ ep),rfl,_,rfl,iteNS rfl (hn' _ ⟨s3,hD,eD,rfl⟩)⟩
   ·rintro D ys H' hD ⟨s3,_,eD,rfl⟩
    refine ⟨sL0,fun p hp => ?_⟩
    have s4:=same_new (o:=.lst []) (Same.refl H') hp
    exact ⟨D,p,_,rfl,rfl,SqL.of (s4 _ _ eD),SqL.of upd_same,_,rfl,iteF (hB _ (Same.trans s3 s4))⟩
  rintro H3 s3
  have s03:=Same.trans s1 (Same.trans s2 s3)
  have hM3:=s3 _ _ hM2
  have eS3:=s3 _ _ eS2
  refine sg1 (fun (cm:Addr) => [oR ft,oR M,oR ls,oR sz,oR lc,oR dp,oR dc,none,oR S,oR cm,none,none]) (fun cm H' => Same H3 H'∧H3 cm = none∧H' cm = some (.dT [])) (fun B hB => fun cm hcm => hB cm _ ⟨same_new (Same.refl H3) hcm,hcm,upd_same⟩) ?_
  rintro cm H4 ⟨s4,hcm,ecm⟩
  have s04:=Same.trans s03 s4
  have hM4:=s4 _ _ hM3
  have nMm:M≠cm:=ne_of_none hM3 hcm
  refine sg3 (fun (v7 v10 v11:Option V) => [oR ft,oR M,oR ls,oR sz,oR lc,oR dp,oR dc,v7,oR S,oR cm,v10,v11]) (fun _ _ _ H' => (∀ b u,b≠cm→H4 b = some u→H' b = some u)∧∃ kcm,H' cm = some (.dT kcm)∧Cov f rl rl kcm) (fun B hB => ?_) ?_
  ·refine ⟨_,rfl,M,_,rfl,hM4,fun o xs hz hm kt dr => ?_⟩
   obtain ⟨Z,off1,nn1,back⟩:=fz_start hM4 hz hm kt dr
   have ecmZ:upd H4 M (Exo M o) cm = some (.dT []):=off1 _ _ (Ne.symm nMm) ecm
   refine for_dict Z (fun i σ H' => ∃ (v7 v10 v11:Option V) (kcm:List (List Key × V)),σ = [oR ft,oR M,oR ls,oR sz,oR lc,oR dp,oR dc,v7,oR S,oR cm,v10,v11]∧OffP cm (upd H4 M (Exo M o)) H'∧H' cm = some (.dT kcm)∧kcm.length≤7 * i∧Cov f rl (rl.take i) kcm) ⟨_,_,_,[],rfl,OffP.refl _ _,ecmZ,Nat.le_refl _,(fun x h => nomatch h)⟩ (fun i σ H' _ h => by obtain ⟨_,_,_,_,_,z,_⟩:=h; exact z _ _ nMm Z.e) ?_ ?_
   ·rintro i kv p σ H5 h1 h2 ⟨v7,v10,v11,kcm,rfl,o5,e5,l5,cov⟩
    obtain ⟨x,gx,rfl⟩:=numL_at h1
    have xin:=List.mem_of_getElem? gx
    have hi:i < rl.length:=(List.getElem?_eq_some_iff.mp gx).1
    have gv:=numL_some fin.nd xin
    have nn:=fin.nn x xin
    have kT:∀ {H':Hp},OffP cm (upd H4 M (Exo M o)) H'→∀ q ys,(upd H4 M (Exo M o)) q = some (.tup ys)→H' q = some (.tup ys):=fun o q ys e => o _ _ (ne_of e ecmZ (fun z => nomatch z)) e
    have Zf:∀ {H':Hp},OffP cm (upd H4 M (Exo M o)) H'→Fz P w H' M o (numL rl) xs:=fun o => ⟨o _ _ nMm Z.e,Z.hm,Z.kt.keeps fun b ys e => kT o _ _ e,Z.dr,Z.hz⟩
    have hp5:=kT o5 _ _ h2
    refine gName_go ?_
    refine sg0 [oR ft,oR M,oR ls,oR sz,oR lc,oR dp,oR dc,oR p,oR S,oR cm,v10,v11] (fun H' => H' = H5) (fun B hB' => ?_) ?_
    ·refine ⟨_,rfl,_,rfl,M,.int x.2.1,rfl,gv▸DAny.z (Zf o5) hp5,.int x.2.1,.ty "int",_,_,true,rfl,.int _,.ty _,by kernel_rfl,true,rfl,iteF ⟨_,rfl,_,rfl,M,.int x.2.1,rfl,gv▸DAny.z (Zf o5) hp5,.int x.2.1,.ty "bool",_,_,false,rfl,.int _,.ty _,by kernel_rfl,false,rfl,iteF ⟨_,rfl,_,rfl,M,.int x.2.1,rfl,gv▸DAny.z (Zf o5) hp5,x.2.1,0,rfl,rfl,_,rfl,iteD (fun z => absurd z (by omega)) fun _ => hB' _ rfl⟩⟩⟩
    rintro H6 rfl
    have Fz5:H6 sz = some (.tup [.int f.W,.int f.Hh,.int f.L]):=kT o5 _ _ (off1 _ _ (ne_of (s04 _ _ Fd.hsz) hM4 (fun z => nomatch z)) (s04 _ _ Fd.hsz))
    have Fp5:H6 dp = some (.dT kp):=o5 _ _ (ne_of_none (s03 _ _ hdp) hcm) (off1 _ _ (Ne.symm nMp) (s04 _ _ hdp))
    have Fc5:H6 dc = some (.dT kc):=o5 _ _ (ne_of_none (s03 _ _ hdc) hcm) (off1 _ _ (Ne.symm nMc) (s04 _ _ hdc))
    refine ⟨_,rfl,_,rfl,_,rfl,_,rfl,sz,dp,dc,p,f,x.1,kp,kc,rfl,Fd.ok,Fz5,Fp5,ekp,Fc5,ekc,hp5,fun D rs H7 s7 hD eD R7 => ?_⟩
    have lrs:rs.length = (stpL f x.1).length:=by rw [R7.1,iV_len]
    have l7:=stpL_len Fd.ok x.1
    have nDm:D≠cm:=Ne.symm (ne_of_none e5 hD)
    refine ⟨D,rfl,⟨_,SqL.of eD⟩,for_list (xs:=rs.map V.ref) (fun j σ H' => ∃ (v10 v11:Option V) (kcm:List (List Key × V)),σ = [oR ft,oR M,oR ls,oR sz,oR lc,oR dp,oR dc,oR p,oR S,oR cm,v10,v11]∧OffP cm H7 H'∧H' cm = some (.dT kcm)∧kcm.length≤7 * i + j∧Cov f rl (rl.take i) kcm∧∀ s∈(stpL f x.1).take j,∀ y∈rl,y.1 = s.1→y.2.1 = x.2.1 + s.2→(valV kcm (k3 s.1)).isSome = true) ⟨_,_,kcm,rfl,OffP.refl _ _,s7 _ _ e5,l5,cov,(fun s h => nomatch h)⟩ (fun j σ H' _ h => by obtain ⟨_,_,_,_,z,_⟩:=h; exact SqL.of (z _ _ nDm eD)) ?_ ?_⟩
    ·rintro j v σ H8 hv ⟨v10',v11',kcm8,rfl,o8,e8,l8,cov8,cv8⟩
     rw [List.getElem?_map] at hv
     obtain ⟨r,hr1,rfl⟩:=Option.map_eq_some_iff.mp hv
     obtain ⟨s',q1,hs,er,eq⟩:=R7.at_ hr1
     unfold iV at hs
     rw [List.getElem?_map] at hs
     obtain ⟨s,hs1,rfl⟩:=Option.map_eq_some_iff.mp hs
     have j1:=(List.getElem?_eq_some_iff.mp hs1).1
     have sin:=List.mem_of_getElem? hs1
     dsimp only at er eq
     have o58:OffP cm (upd H4 M (Exo M o)) H8:=(o5.trans (OffP.of s7)).trans o8
     have kT8:∀ q ys,H7 q = some (.tup ys)→H8 q = some (.tup ys):=fun q ys e => o8 _ _ (ne_of e (s7 _ _ e5) (fun z => nomatch z)) e
     have er8:=kT8 _ _ er
     have eq8:=kT8 _ _ eq
     have hp8:=kT8 _ _ (s7 _ _ hp5)
     obtain ⟨y,hy,ey,hle⟩:=fin.rel x xin s sin
     have gy:=numL_some fin.nd hy
     rw [ey] at gy
     refine ⟨r,_,rfl,SqT.of er8,rfl,_,_,rfl,_,_,rfl,rfl,?_⟩
     refine sg0 [oR ft,oR M,oR ls,oR sz,oR lc,oR dp,oR dc,oR p,oR S,oR cm,oR q1,some (.int s.2)] (fun H' => H' = H8) (fun B hB' => ?_) ?_
     ·refine ⟨_,rfl,_,rfl,M,some (.int y.2.1),rfl,gy▸DAny.z (Zf o58) eq8,_,rfl,iteNB (fun z => absurd (show true = false from z) (by decide)) fun _ => ?_⟩
      exact ⟨_,rfl,_,rfl,M,.int y.2.1,rfl,gy▸DAny.z (Zf o58) eq8,_,rfl,_,rfl,M,.int x.2.1,rfl,gv▸DAny.z (Zf o58) hp8,_,rfl,x.2.1,s.2,rfl,rfl,y.2.1,_,rfl,rfl,_,rfl,iteD (fun z => absurd z (by omega)) fun _ => hB' _ rfl⟩
     rintro H9 rfl
     have tk:=take_snoc hs1
     refine ⟨_,rfl,_,rfl,M,.int y.2.1,rfl,gy▸DAny.z (Zf o58) eq8,_,rfl,_,rfl,M,.int x.2.1,rfl,gv▸DAny.z (Zf o58) hp8,_,rfl,x.2.1,s.2,rfl,rfl,rfl,_,rfl,iteD (fun z => ?_) fun z => ?_⟩
     ·refine ⟨_,rfl,_,rfl,cm,_,rfl,DPut.t (k:=k3 s.1) e8 eq8 (Nat.lt_of_le_of_lt (show _≤10000 by omega) (by decide)),_,_,putK kcm8 (k3 s.1) (.bl true),rfl,fun b u nb e => by rw [upd_ne nb]; exact o8 b u nb e,upd_same,Nat.le_trans (length_putK _ _ _) (by omega),cov8.put,fun s2 hs2 y2 hy2 g1 g2 => ?_⟩
      rw [valV_put]
      split
      ·rfl
      ·rename_i ne
       rw [tk] at hs2
       rcases List.mem_append.mp hs2 with z2 | z2
       ·exact cv8 s2 z2 y2 hy2 g1 g2
       ·rw [List.mem_singleton.mp z2] at ne
        exact absurd rfl ne
     ·refine ⟨_,_,kcm8,rfl,o8,e8,by omega,cov8,fun s2 hs2 y2 hy2 g1 g2 => ?_⟩
      rw [tk] at hs2
      rcases List.mem_append.mp hs2 with z2 | z2
      ·exact cv8 s2 z2 y2 hy2 g1 g2
      ·rw [List.mem_singleton.mp z2] at g1 g2
       have:=rec_eq fin.nd hy hy2 (ey.trans g1.symm)
       subst this
       exact absurd (congrArg V.int g2) z
    ·rintro σ H8 ⟨v10',v11',kcm8,rfl,o8,e8,l8,cov8,cv8⟩
     rw [List.length_map,lrs] at l8 cv8
     rw [take_all rfl] at cv8
     refine ⟨_,_,_,kcm8,rfl,(o5.trans (OffP.of s7)).trans o8,e8,by omega,fun x2 hx2 s2 hs2 y2 hy2 g1 g2 => ?_⟩
     rw [take_snoc gx] at hx2
     rcases List.mem_append.mp hx2 with z2 | z2
     ·exact cov8 x2 z2 s2 hs2 y2 hy2 g1 g2
     ·rw [List.mem_singleton.mp z2] at hs2 g2
      exact cv8 s2 hs2 y2 hy2 g1 g2
   ·rintro σ H5 ⟨v7,v10,v11,kcm,rfl,o5,e5,l5,cov⟩
    rw [numL_len,take_all rfl] at cov
    have kT:∀ q ys,(upd H4 M (Exo M o)) q = some (.tup ys)→H5 q = some (.tup ys):=fun q ys e => o5 _ _ (ne_of e ecmZ (fun z => nomatch z)) e
    refine ⟨M,o,_,xs,⟨o5 _ _ nMm Z.e,Z.hm,Z.kt.keeps fun b ys e => kT _ _ e,Z.dr,Z.hz⟩,hB _ _ _ _ ⟨fun b u nb e => ?_,kcm,by rw [upd_ne (Ne.symm nMm)]; exact e5,cov⟩⟩
    by_cases z:b = M
    ·subst z
     rw [hM4] at e
     cases e
     exact upd_same
    ·rw [upd_ne z]
     exact o5 _ _ nb (off1 _ _ z e)
  rintro v7 v10 v11 H5 ⟨k5,kcm,e5,cov⟩
  have s05:Same H0 H5:=fun b u e => k5 _ _ (ne_of_none (s03 _ _ e) hcm) (s04 _ _ e)
  have hM5:H5 M = some (.dT (numL rl)):=k5 _ _ nMm hM4
  have eS5:H5 S = some (.lst (ss.map V.ref)):=k5 _ _ (ne_of_none eS3 hcm) (s4 _ _ eS3)
  have C5:Cells H5 ss (shownL f st):=C2.mono fun q ys e => k5 _ _ (ne_of_none (s3 _ _ e) hcm) (s4 _ _ (s3 _ _ e))
  have nSM:S≠M:=ne_of eS5 hM5 (fun z => nomatch z)
  have nmM:cm≠M:=Ne.symm nMm
  refine ⟨_,rfl,M,_,rfl,hM5,fun o xs hz hm kt dr => ?_⟩
  obtain ⟨Z,off1,nn1,back⟩:=fz_start hM5 hz hm kt dr
  refine comp_fz Z (fun D i ys H' => Same (upd H5 M (Exo M o)) H'∧(upd H5 M (Exo M o)) D = none∧H' D = some (.lst [])∧ys = []) (fun D hD => ⟨same_new (Same.refl _) hD,hD,upd_same,rfl⟩) (fun D i ys H' hv => ⟨by rw [hv.2.2.2]; exact hv.2.2.1,by rw [hv.2.2.2]; exact Nat.zero_le _,hv.1 _ _ Z.e⟩) ?_ ?_
  ·rintro D i kv p ys H' Qy Qn h1 h2 ⟨s6,hD,eD,rfl⟩ hy hn'
   obtain ⟨x,hx,rfl⟩:=numL_at h1
   have xin:=List.mem_of_getElem? hx
   have done:=hn' H' ⟨s6,hD,eD,rfl⟩
   refine ⟨⟨_,rfl,rfl⟩,_,rfl,_,rfl,cm,_,rfl,DAny.t (k:=k3 x.1) (s6 _ _ (off1 _ _ nmM e5)) (s6 _ _ h2),_,rfl,iteNB (fun z => ?_) fun _ => iteF done⟩
   have xsh:x.1∈shownL f st:=by
    rcases fin.tree i x hx with ⟨_,_,t3⟩ | ⟨j,y,cost,_,ey,t1,t2,t3⟩
    ·exact (shown _).mpr ⟨t3,fin.on x xin⟩
    ·have:=cov y (List.mem_of_getElem? ey) _ t2 x xin rfl t3
     rw [z] at this
     cases this
   exact ⟨_,rfl,_,rfl,p,S,n3 x.1,(shownL f st).map n3,rfl,rfl,SqT.of (s6 _ _ h2),(C5.mono fun q ys e => s6 _ _ (off1 _ _ (ne_of e hM5 (fun z => nomatch z)) e)).lt (s6 _ _ (off1 _ _ nSM eS5)),_,rfl,iteNS (List.mem_map.mpr ⟨_,xsh,rfl⟩) done⟩
  ·rintro D ys H' hD ⟨s6,_,eD,rfl⟩
   refine ⟨M,o,_,xs,s6 _ _ Z.e,hm,KT.keeps Z.kt (fun b ys e => s6 _ _ e),dr,hz,?_⟩
   have sb:=back H' s6
   have eD':upd H' M (.dT (numL rl)) D = some (.lst []):=by rw [upd_ne (ne_of eD (s6 _ _ Z.e) exo_ne)]; exact eD
   generalize upd H' M (.dT (numL rl)) = H7 at sb eD'
   refine ⟨sL0,fun p hp => ?_⟩
   have s8:=same_new (o:=.lst []) (Same.refl H7) hp
   exact ⟨D,p,_,rfl,rfl,SqL.of (s8 _ _ eD'),SqL.of upd_same,q _ (Same.trans s05 (Same.trans sb s8))⟩
end
end K61
namespace K61
open PySem L2 Wd TS
def Told (H:Hp) (T M:Addr) (f:Fld) (st gl:List Cl) (rl:List Rec):Prop :=
 ((∀ g∈gl,g ∉ rl.map (·.1))∧H T = some (.tup [.str "shut",.ref M])) ∨
 ∃ (D:Addr) (ps:List Addr) (line:List Cl) (x:Rec),H T = some (.tup [.str "way",.ref D,.int x.2.1,.ref M])∧H D = some (.lst (ps.map V.ref))∧Cells H ps line∧Ln f rl line∧(∀ c∈line,c∈rl.map (·.1))∧(∃ a,line.head? = some a∧(a,0,none)∈rl∧a∈st)∧line.getLast? = some x.1∧line.length≤1001∧x∈rl∧x.1∈gl∧∀ y∈rl,y.1∈gl→x.2.1≤y.2.1
theorem endsL_nil {rl:List Rec} {gl:List Cl} (h:∀ g∈gl,g ∉ rl.map (·.1)):endsL rl gl = []:=by
 cases e:endsL rl gl with
 | nil => rfl
 | cons a r =>
  obtain ⟨h1,x,hx,h2,_⟩:=endsL_mem (show a∈endsL rl gl by rw [e]; exact List.mem_cons_self ..)
  exact absurd (h2▸List.mem_map.mpr ⟨x,hx,rfl⟩) (h _ h1)
section
variable {P:Program} {w:World} {K:PySem.W.Frag} {mg:Str→Option Value} {base:Heap} {t:Adr}
def spTold:Sp:=fun vs H Q _ => ∃ (ft sz lc dp dc T M ls lg:Addr) (ps qs gs:List Addr) (cl st gl:List Cl) (f:Fld) (rl:List Rec),vs = [.ref ft,.ref T,.ref ls,.ref lg]∧H ft = some (.tup [.ref sz,.ref lc,.ref dp,.ref dc])∧Field H sz lc dp dc ps cl f∧H ls = some (.lst (qs.map V.ref))∧Cells H qs st∧st.length≤5∧H lg = some (.lst (gs.map V.ref))∧Cells H gs gl∧gl.length≤5∧H M = some (.dT (numL rl))∧M≠dp∧M≠dc∧Fin f st rl∧rl.length≤432∧Told H T M f st gl rl∧∀ H',Same H H'→Q (.bl true) H'
theorem ok_law_told (T:Txt K mg t):GoodF P w K mg base 3 "_law_told" ["_law_field_here","_law_found","_law_starts","_law_goals"] spTold:=by
 obtain ⟨fd,F,b⟩:=T.F_law_told
 have G_law_numbers:=ok_law_numbers (P:=P) (w:=w) (base:=base) T
 have G_law_way:=ok_law_way (P:=P) (w:=w) (base:=base) T
 refine ⟨_,fd,F.okX sc_law_told (fun vs H Q E h => ?_) (fun cdv A outer s H vs Q E hr h => ?_),b,F.kp,T.g__law_told⟩
 ·obtain ⟨ft,sz,lc,dp,dc,T,M,ls,lg,ps,qs,gs,cl,st,gl,f,rl,rfl,_⟩:=h
  rfl
 ·obtain ⟨ft,sz,lc,dp,dc,TT,M,ls,lg,ps,qs,gs,cl,st,gl,f,rl,rfl,hft,Fd,hls,C,hst,hlg,CG,hgl,hM,nMp,nMc,fin,few,told,q⟩:=h
  have fsame:∀ {H':Hp},Same H H'→Field H' sz lc dp dc ps cl f:=fun s => ⟨Fd.ok,s _ _ Fd.hsz,s _ _ Fd.hlc,Fd.C.mono (fun _ _ e => s _ _ e),Fd.mem,Fd.pos,Fd.few,(let ⟨kp,a,b⟩:=Fd.hp; ⟨kp,s _ _ a,b⟩),(let ⟨kc,a,b⟩:=Fd.hc; ⟨kc,s _ _ a,b⟩)⟩
  refine ⟨_,(pss_cons (ps_asg (pv 0) (pg_tup rfl (pgs_cons (pg_name (i:=4) sc_law_told.nd rfl (Or.inl rfl)) (pgs_cons (pg_name (i:=5) sc_law_told.nd rfl (Or.inl rfl)) (pgs_cons (pg_name (i:=6) sc_law_told.nd rfl (Or.inl rfl)) (pgs_cons (pg_name (i:=7) sc_law_told.nd rfl (Or.inl rfl)) pgs_nil))))))
   (pss_cons (ps_if (pw_or (pt_not (pt_val (pe_callB call_isi (by rfl) T.n_isinstance b_isinstance (pa_cons (pv 1) (pa_cons (pe_bltn (v:=.ty "tuple") (by rfl) T.n_tuple b_tuple rfl) pa_nil))))) (pw_or1 (pt_not (pt_val (pe_callG G_law_numbers (hr.mono (by decide)) passes_of (by rfl) (pa_cons (pv 0) (pa_cons (pe_ix ix_tup (pv 1) (pe_un un_neg pe_int) (fun _ _ => rfl)) (pa_cons (pv 2) pa_nil)))))))).pt (pss_one (ps_ret pe_bl)) pss_nil)
   (pss_cons (ps_set (i:=8) sc_law_told.nd rfl (Or.inr rfl) (pe_ix ix_tup (pv 1) (pe_un un_neg pe_int) (fun _ _ => rfl)))
   (pss_cons (ps_setcomp (i:=9) sc_law_told.nd rfl (Or.inl rfl) (own:=["_law_cell"]) (cs_one (n:="_law_numbers_here") (N:=["_law_field_here","_law_found","_law_starts","_law_goals","_law_size","_law_cells","_law_prices_here","_law_changes","_law_numbers_here","_law_reached","_law_goal"]) rfl (by rfl) (by rfl) rfl (by rfl) (by decide +kernel) (by decide +kernel) (by decide +kernel)) (pi_list (pv 3)) (fun _ _ _ _ _ => pg_name (i:=11) (by show (["_law_field_here","_law_found","_law_starts","_law_goals","_law_size","_law_cells","_law_prices_here","_law_changes","_law_numbers_here","_law_reached","_law_goal","_law_cell"]:List Str).Nodup; decide +kernel) rfl (Or.inl rfl)) (fun _ _ _ _ _ => pf_one (pt_cmp (pc_din (hu_of hr) (pv 11) (pv 8)))) (fun _ _ _ _ _ => (pe_dget (hu_of hr) (pv 8) (pv 11) (fun _ _ => rfl))))
   (pss_cons (ps_if (pt_cmpR (op_eq_nil hr.units0) (pv 9) (pe_lst pa_nil) (nomark _)) (pss_one (ps_ret (pe_cmpR (op_eqPair hr.units) (pv 1) (pe_tup (pa_cons pe_str (pa_cons (pv 8) pa_nil))) (nomark _)))) pss_nil)
   (pss_cons (ps_if (pw_or (pt_cmpR op_ne (pe_callB call_len_seq (by rfl) T.n_len b_len (pa_cons (pv 1) pa_nil)) pe_int (nomark _)) (pw_or (pt_cmpR op_ne (pe_ix ix_tup (pv 1) pe_int (fun _ _ => rfl)) pe_str (nomark _)) (pw_or1 (pt_not (pt_val (pe_callB call_isi (by rfl) T.n_isinstance b_isinstance (pa_cons (pe_ix ix_tup (pv 1) pe_int (fun _ _ => rfl)) (pa_cons (pe_bltn (v:=.ty "list") (by rfl) T.n_list b_list rfl) pa_nil)))))))).pt (pss_one (ps_ret pe_bl)) pss_nil)
   (pss_cons (ps_if (pt_cmpR op_ne (pe_ix ix_tup (pv 1) pe_int (fun _ _ => rfl)) (pe_callB call_min_list (by rfl) T.n_min b_min (pa_cons (pv 9) pa_nil)) (nomark _)) (pss_one (ps_ret pe_bl)) pss_nil)
   (pss_cons (ps_if (pw_or (pt_cmpR (op_eq_nil hr.units0) (pe_ix ix_tup (pv 1) pe_int (fun _ _ => rfl)) (pe_lst pa_nil) (nomark _)) (pw_or (pt_cmpR (op_notInT hr.units) (pe_ix ix_list (pe_ix ix_tup (pv 1) pe_int (fun _ _ => rfl)) pe_int (fun _ _ => rfl)) (pv 2) (by with_unfolding_all rfl)) (pw_or1 (pt_cmpR (op_notInT hr.units) (pe_ix ix_list (pe_ix ix_tup (pv 1) pe_int (fun _ _ => rfl)) (pe_un un_neg pe_int) (fun _ _ => rfl)) (pv 3) (by with_unfolding_all rfl))))).pt (pss_one (ps_ret pe_bl)) pss_nil)
   (pss_cons (ps_set (i:=10) sc_law_told.nd rfl (Or.inl rfl) (pe_ix ix_list (pe_ix ix_tup (pv 1) pe_int (fun _ _ => rfl)) (pe_un un_neg pe_int) (fun _ _ => rfl)))
   (pss_one (ps_ret (pe_and (pe_cmpR op_eq (pe_dget (hu_of hr) (pv 8) (pv 10) (fun _ _ => rfl)) (pe_ix ix_tup (pv 1) pe_int (fun _ _ => rfl)) (nomark _)) (pe_one (pe_callG G_law_way (hr.mono (by decide)) passes_of (by rfl) (pa_cons (pv 0) (pa_cons (pe_ix ix_tup (pv 1) pe_int (fun _ _ => rfl)) (pa_cons (pv 8) (pa_cons (pv 10) pa_nil)))))))))))))))))),?_⟩
  refine sg0 [oR ft,oR TT,oR ls,oR lg,oR sz,oR lc,oR dp,oR dc,none,none,none] (fun H' => H' = H) (fun B hB => ⟨_,rfl,ft,_,rfl,SqT.of hft,rfl,_,_,rfl,_,_,rfl,_,_,rfl,_,_,rfl,rfl,hB _ rfl⟩) ?_
  rintro H0 rfl
  obtain ⟨ts,eT,lastT⟩:∃ ts,H0 TT = some (.tup ts)∧atI ts (-1) = some (.ref M):=by
   rcases told with ⟨_,e⟩ | ⟨D,ws,line,x,e,_⟩
   ·exact ⟨_,e,rfl⟩
   ·exact ⟨_,e,rfl⟩
  refine sg0 [oR ft,oR TT,oR ls,oR lg,oR sz,oR lc,oR dp,oR dc,none,none,none] (fun H' => Same H0 H') (fun B hB => ?_) ?_
  ·exact ⟨_,rfl,.ref TT,.ty "tuple",_,_,true,rfl,.tup eT,.ty _,by kernel_rfl,true,rfl,iteF ⟨_,rfl,_,rfl,1,rfl,TT,_,-1,.ref M,rfl,rfl,SqT.of eT,lastT,_,rfl,ft,sz,lc,dp,dc,M,ls,ps,qs,cl,st,f,rl,rfl,hft,Fd,hls,C,hst,hM,nMp,nMc,fin,few,fun H' s' => ⟨true,rfl,iteF (hB _ s')⟩⟩⟩
  rintro H1 s1
  refine sg0 [oR ft,oR TT,oR ls,oR lg,oR sz,oR lc,oR dp,oR dc,oR M,none,none] (fun H' => H' = H1) (fun B hB => ⟨_,rfl,1,rfl,TT,_,-1,.ref M,rfl,rfl,SqT.of (s1 _ _ eT),lastT,hB _ rfl⟩) ?_
  rintro H2 rfl
  have hM1:=s1 _ _ hM
  have CG1:=CG.mono fun _ _ e => s1 _ _ e
  have hlg1:=s1 _ _ hlg
  refine sg1 (fun (D:Addr) => [oR ft,oR TT,oR ls,oR lg,oR sz,oR lc,oR dp,oR dc,oR M,oR D,none]) (fun D H' => Same H2 H'∧H' D = some (.lst (((endsL rl gl).map (·.1)).map V.int))) (fun B hB => ?_) ?_
  ·refine ⟨_,rfl,lg,rfl,⟨_,SqL.of hlg1⟩,comp_list (xs:=gs.map V.ref) (fun D i ys H' => Same H2 H'∧H2 D = none∧H' D = some (.lst ys)∧ys.length≤i∧ys = ((endsL rl (gl.take i)).map (·.1)).map V.int) (by rw [List.length_map,CG.1]; exact Nat.le_trans hgl (by decide)) (fun D hD => ⟨same_new (Same.refl H2) hD,hD,upd_same,Nat.zero_le _,rfl⟩) (fun D i ys H' hv => ⟨hv.2.2.1,hv.2.2.2.1,SqL.of (hv.1 _ _ hlg1)⟩) ?_ ?_⟩
   ·rintro D i x ys H' Qy Qn hx ⟨s3,hD,eD,y1,hys⟩ hy hn'
    rw [List.getElem?_map] at hx
    obtain ⟨p,hp,rfl⟩:=Option.map_eq_some_iff.mp hx
    obtain ⟨g,hg,ep⟩:=CG1.at_ hp
    rw [take_snoc hg,endsL_app,List.map_append,List.map_append,← hys] at hy hn'
    refine ⟨⟨_,rfl,rfl⟩,_,rfl,_,rfl,M,_,rfl,DGet.t (k:=k3 g) (s3 _ _ hM1) (s3 _ _ ep),_,rfl,iteB (fun z => ?_) fun z => hn' _ ⟨s3,hD,eD,by omega,?_⟩⟩
    ·obtain ⟨y,hy1,rfl⟩:=List.mem_map.mp ((numL_has fin.nd g).mp z)
     rw [endsL_one fin.nd hy1] at hy
     exact ⟨_,rfl,_,rfl,M,_,rfl,(numL_some fin.nd hy1)▸DGet.t (k:=k3 y.1) (s3 _ _ hM1) (s3 _ _ ep),hy _ _ eD ⟨fun b u e => by rw [upd_ne (ne_of_none e hD)]; exact s3 b u e,hD,upd_same,by rw [List.length_append]; exact Nat.succ_le_succ y1,rfl⟩⟩
    ·rw [endsL_no (fun h => by rw [(numL_has fin.nd g).mpr h] at z; cases z)]
     exact (List.append_nil _).symm
   ·rintro D ys H' hD ⟨s3,_,eD,y1,hys⟩
    rw [List.length_map,CG.1,take_all rfl] at hys
    exact hB D H' ⟨s3,hys▸eD⟩
  rintro D H3 ⟨s3,eD⟩
  have s03:=Same.trans s1 s3
  have hM3:=s3 _ _ hM1
  rcases told with ⟨shut,eT0⟩ | ⟨W,ws,line,x,eT0,eW,CW,ln,mem,⟨a0,ha0,ha1,ha2⟩,glast,llen,hx,hxg,hmin⟩
  ·rw [endsL_nil shut] at eD
   refine ⟨_,rfl,sL0,fun p hp => ?_⟩
   have s4:=same_new (o:=.lst []) (Same.refl H3) hp
   have e4:upd H3 p (.lst []) p = some (.lst []):=upd_same
   generalize upd H3 p (.lst []) = H4 at s4 e4
   refine ⟨D,p,_,rfl,rfl,SqL.of (s4 _ _ eD),SqL.of e4,_,rfl,iteT ⟨_,rfl,_,rfl,sL2,fun u hu => ?_⟩⟩
   have s5:=same_new (o:=.tup [.str "shut",.ref M]) (Same.refl H4) hu
   have s05:=Same.trans s03 (Same.trans s4 s5)
   exact ⟨TT,u,M,"shut",rfl,rfl,SqT.of (s05 _ _ eT0),SqT.of upd_same,q _ s05⟩
  ·have lW:0 < line.length:=by
    cases line with
    | nil => cases ha0
    | cons _ _ => exact Nat.succ_pos _
   have lws:ws.length = line.length:=CW.1
   have xe:=mem_endsL fin.nd hx hxg
   have ene:endsL rl gl≠[]:=fun z => by rw [z] at xe; cases xe
   have a0':line[0]? = some a0:=by rw [← List.head?_eq_getElem?]; exact ha0
   have g0:=List.getElem?_eq_getElem (show 0 < ws.length by omega)
   have e0:=CW.2 0 _ _ g0 a0'
   generalize ws[0]'(by omega) = w0 at g0 e0
   have gl':line[line.length - 1]? = some x.1:=by rw [← List.getLast?_eq_getElem?]; exact glast
   have gn:=List.getElem?_eq_getElem (show line.length - 1 < ws.length by omega)
   have en:=CW.2 _ _ _ gn gl'
   generalize ws[line.length - 1]'(by omega) = wn at gn en
   have ixn:atI (ws.map V.ref) (-1) = some (.ref wn):=atI_neg1 (by rw [List.length_map,lws,List.getElem?_map,gn]; rfl)
   have ix0':atI (ws.map V.ref) 0 = some (.ref w0):=atI_nat (j:=0) (by rw [List.getElem?_map,g0]; rfl)
   refine sg0 [oR ft,oR TT,oR ls,oR lg,oR sz,oR lc,oR dp,oR dc,oR M,oR D,none] (fun H' => Same H3 H') (fun B hB => ?_) ?_
   ·refine ⟨_,rfl,sL0,fun p hp => ?_⟩
    have s4:=same_new (o:=.lst []) (Same.refl H3) hp
    refine ⟨D,p,_,rfl,rfl,SqL.of (s4 _ _ eD),SqL.of upd_same,_,rfl,?_⟩
    have:(((endsL rl gl).map (·.1)).map V.int).isEmpty = false:=by
     cases z:endsL rl gl with
     | nil => exact absurd z ene
     | cons a r => rfl
    rw [this]
    exact iteF (hB _ s4)
   rintro H4 s4
   have s04:=Same.trans s03 s4
   have eT4:=s04 _ _ eT0
   have eW4:=s04 _ _ eW
   refine sg0 [oR ft,oR TT,oR ls,oR lg,oR sz,oR lc,oR dp,oR dc,oR M,oR D,none] (fun H' => H' = H4) (fun B hB => ?_) ?_
   ·exact ⟨_,rfl,TT,_,rfl,.inr (SqT.of eT4),rfl,_,rfl,iteNS rfl ⟨_,rfl,TT,_,0,.str "way",rfl,rfl,SqT.of eT4,rfl,rfl,_,rfl,iteNS rfl ⟨_,rfl,TT,_,1,.ref W,rfl,rfl,SqT.of eT4,rfl,.ref W,.ty "list",_,_,true,rfl,.lst eW4,.ty _,by kernel_rfl,true,rfl,iteF (hB _ rfl)⟩⟩⟩
   rintro H5 rfl
   refine sg0 [oR ft,oR TT,oR ls,oR lg,oR sz,oR lc,oR dp,oR dc,oR M,oR D,none] (fun H' => H' = H5) (fun B hB => ?_) ?_
   ·refine ⟨_,rfl,TT,_,2,.int x.2.1,rfl,rfl,SqT.of eT4,rfl,_,rfl,D,(endsL rl gl).map (·.1),rfl,SqL.of (s4 _ _ eD),by rw [List.length_map]; exact List.length_pos_iff.mpr ene,fun m hm hle => ⟨rfl,_,rfl,iteNS (congrArg V.int ?_) (hB _ rfl)⟩⟩
    obtain ⟨e,he,rfl⟩:=List.mem_map.mp hm
    obtain ⟨h1,y,hy,hy1,hy2⟩:=endsL_mem he
    have h3:=hle _ (List.mem_map.mpr ⟨_,xe,rfl⟩)
    have h4:=hmin y hy (hy1▸h1)
    omega
   rintro H6 rfl
   refine sg0 [oR ft,oR TT,oR ls,oR lg,oR sz,oR lc,oR dp,oR dc,oR M,oR D,none] (fun H' => Same H6 H') (fun B hB => ?_) ?_
   ·refine ⟨_,rfl,TT,_,1,.ref W,rfl,rfl,SqT.of eT4,rfl,sL0,fun p hp => ?_⟩
    have s7:=same_new (o:=.lst []) (Same.refl H6) hp
    have e7:upd H6 p (.lst []) p = some (.lst []):=upd_same
    generalize upd H6 p (.lst []) = H7 at s7 e7
    have s07:=Same.trans s04 s7
    have eT7:=s07 _ _ eT0
    have eW7:=s07 _ _ eW
    refine ⟨W,p,_,rfl,rfl,SqL.of eW7,SqL.of e7,_,rfl,?_⟩
    have:(ws.map V.ref).isEmpty = false:=by
     cases ws with
     | nil => rw [← lws] at lW; cases lW
     | cons a r => rfl
    rw [this]
    refine iteF ⟨_,rfl,TT,_,1,.ref W,rfl,rfl,SqT.of eT7,rfl,W,_,0,.ref w0,rfl,rfl,SqL.of eW7,ix0',_,rfl,w0,ls,n3 a0,st.map n3,rfl,rfl,SqT.of (s07 _ _ e0),(C.mono fun _ _ e => s07 _ _ e).lt (s07 _ _ hls),_,rfl,iteNS (List.mem_map.mpr ⟨_,ha2,rfl⟩) ?_⟩
    exact ⟨_,rfl,TT,_,1,.ref W,rfl,rfl,SqT.of eT7,rfl,1,rfl,W,_,-1,.ref wn,rfl,rfl,SqL.of eW7,ixn,_,rfl,wn,lg,n3 x.1,gl.map n3,rfl,rfl,SqT.of (s07 _ _ en),(CG.mono fun _ _ e => s07 _ _ e).lt (s07 _ _ hlg),_,rfl,iteNS (List.mem_map.mpr ⟨_,hxg,rfl⟩) (hB _ s7)⟩
   rintro H7 s7
   have s07:=Same.trans s04 s7
   have eT7:=s07 _ _ eT0
   have eW7:=s07 _ _ eW
   refine sg0 [oR ft,oR TT,oR ls,oR lg,oR sz,oR lc,oR dp,oR dc,oR M,oR D,oR wn] (fun H' => H' = H7) (fun B hB => ⟨_,rfl,TT,_,1,.ref W,rfl,rfl,SqT.of eT7,rfl,1,rfl,W,_,-1,.ref wn,rfl,rfl,SqL.of eW7,ixn,hB _ rfl⟩) ?_
   rintro H8 rfl
   refine ⟨_,rfl,_,rfl,M,.int x.2.1,rfl,(numL_some fin.nd hx)▸DGet.t (k:=k3 x.1) (s07 _ _ hM) (s07 _ _ en),_,rfl,TT,_,2,.int x.2.1,rfl,rfl,SqT.of eT7,rfl,rfl,_,rfl,?_⟩
   rw [decide_eq_true rfl]
   exact iteT ⟨_,rfl,_,rfl,TT,_,1,.ref W,rfl,rfl,SqT.of eT7,rfl,_,rfl,_,rfl,ft,sz,lc,dp,dc,W,M,wn,ps,ws,cl,line,f,rl,x.1,rfl,s07 _ _ hft,fsame s07,eW7,CW.mono (fun _ _ e => s07 _ _ e),s07 _ _ hM,fin.nd,ln,⟨a0,ha0,ha1⟩,glast,s07 _ _ en,llen,fun H' s' => q H' (Same.trans s07 s')⟩
end
end K61
namespace K61
open PySem L2 Wd TS
def nestOf (st:Stmt) (i:Nat):Arguments × List Stmt × Scope × Pos:=match (defBody st).getD i (.Pass ⟨0,0,0,0⟩) with
 | .FunctionDef _ a b _ _ _ sc _ _ p => (a,b,sc,p)
 | _ => ({ posonlyargs:=[],args:=[],vararg:=none,kwonlyargs:=[],kw_defaults:=[],kwarg:=none,defaults:=[] },[],{ kind:=.function,names:=[],isGenerator:=false,isCoroutine:=false },⟨0,0,0,0⟩)
abbrev qP:Str:="law" ++ ".<locals>." ++ "_law_price"
abbrev qT:Str:="law" ++ ".<locals>." ++ "_law_through"
theorem zip_lookup {ns:List Str} {as:List Addr} (nd:ns.Nodup) {q:Str × Addr} (h:q∈ns.zip as):(ns.zip as).lookup q.1 = some q.2:=by
 induction ns generalizing as with
 | nil => cases h
 | cons n r ih =>
  cases as with
  | nil => cases h
  | cons a s =>
   rw [List.nodup_cons] at nd
   rw [List.zip_cons_cons] at h ⊢
   rw [List.lookup_cons]
   rcases List.mem_cons.mp h with rfl | h
   ·simp
   ·have:(q.1 == n) = false:=beq_eq_false_iff_ne.mpr fun e => nd.1 (e▸(List.of_mem_zip h).1)
    rw [this]
    exact ih nd.2 h
theorem lamScopeL {ps ns:List Str} {as:List Addr} {scope:Scope} (hl:ns.length = as.length) (h1:scope.kind = .function) (h2:scope.isCoroutine = false) (h3:scope.isGenerator = false) (h4:(scope.names.all fun y => y.2 != .cell && (y.2 != .free || ns.contains y.1)) = true) (h5:ps.Nodup)
  (h6:(ps.all fun x => scope.names.lookup x == some .local) = true) (h7:(ns.all fun x => scope.names.lookup x == some .free) = true) (nd:ns.Nodup) (na:as.Nodup):LamScope (ps ++ ns) ps scope (ns.zip as):=by
 refine ⟨h1,h2,h3,fun y hy => ?_,h5,by rw [List.map_fst_zip (by omega)],fun x hx => by simpa using List.all_eq_true.mp h6 x hx,fun q hq => ⟨by simpa using List.all_eq_true.mp h7 q.1 (List.of_mem_zip hq).1,zip_lookup nd hq⟩,fun x e => ?_,fun x y c e1 e2 => ?_⟩
 ·have:=List.all_eq_true.mp h4 y hy
  simp only [Bool.and_eq_true,bne_iff_ne] at this
  exact this.1
 ·have:=List.all_eq_true.mp h4 _ (lookup_mem e)
  simp only [Bool.and_eq_true,Bool.or_eq_true,bne_iff_ne,ne_eq,List.contains_iff_mem] at this
  rcases this.2 with z | z
  ·exact absurd trivial z
  ·obtain ⟨i,hi,ei⟩:=List.getElem_of_mem z
   have hz:(x,as[i]'(by omega))∈ns.zip as:=by
    have:(ns.zip as)[i]'(by rw [List.length_zip]; omega) = (ns[i],as[i]'(by omega)):=List.getElem_zip
    rw [← ei,← this]
    exact List.getElem_mem _
   exact ⟨_,zip_lookup nd hz⟩
 ·have m1:=lookup_mem e1
  have m2:=lookup_mem e2
  obtain ⟨i,hi,ei⟩:=List.getElem_of_mem m1
  obtain ⟨j,hj,ej⟩:=List.getElem_of_mem m2
  rw [List.length_zip] at hi hj
  rw [List.getElem_zip] at ei ej
  have:i = j:=(List.getElem?_inj (by omega) na).mp (by rw [List.getElem?_eq_getElem (by omega),List.getElem?_eq_getElem (by omega),(Prod.mk.inj ei).2,(Prod.mk.inj ej).2])
  subst this
  rw [← (Prod.mk.inj ei).1,(Prod.mk.inj ej).1]
theorem refs_off {H H':Hp} {cl:List (Str × Addr)} {A:Addr} {o:HO} (nA:A ∉ cl.map (·.2)) (h:OffP A (unfs H cl) H') (e:H' A = some o):OffP A H (refs H H' cl)∧refs H H' cl A = some o:=by
 refine ⟨fun b u nb eb => ?_,by rw [refs_ne nA]; exact e⟩
 by_cases z:b∈cl.map (·.2)
 ·rw [refs_in z]; exact eb
 ·rw [refs_ne z]
  exact h b u nb (by rw [unfs_ne z]; exact eb)
theorem frz_off {A c:Addr} {H H':Hp} {v:V} {xs:List V} (h:FrzC H c v) (hA:H A = some (.lst xs)) (o:OffP A H H'):FrzC H' c v:=by
 obtain ⟨ob,e,z⟩:=h
 exact ⟨ob,o _ _ (ne_of e hA (fun z => nomatch z)) e,z⟩
theorem frz_ne {A c:Addr} {H:Hp} {v:V} {xs:List V} (h:FrzC H c v) (hA:H A = some (.lst xs)):A≠c:=by
 obtain ⟨ob,e,z⟩:=h
 exact Ne.symm (ne_of e hA (fun z => nomatch z))
theorem rep_snoc (n:Nat):List.replicate n (V.bl true) ++ [.bl true] = List.replicate (n + 1) (.bl true):=by rw [List.replicate_succ']
section
variable {P:Program} {w:World} {K:PySem.W.Frag} {mg:Str→Option Value} {base:Heap} {t:Adr}
abbrev clP (aS aP aA:Addr):List (Str × Addr):=[("_law_spots",aS),("_law_prices_here",aP),("_law_asked",aA)]
abbrev clT (aS aC aA:Addr):List (Str × Addr):=[("_law_spots",aS),("_law_changes",aC),("_law_asked",aA)]
theorem calls_price {H0:Hp} {A fp cP aS aP aA Sd dp:Addr} {f:Fld} {xs0:List V} {ks kp:List (List Key × V)} (na:[aS,aP,aA].Nodup) (hA:H0 A = some (.lst xs0))
  (hf:H0 fp = some (FunE fp "_law_price" qP (nestOf s_law 8).1 (nestOf s_law 8).2.1 (nestOf s_law 8).2.2.1 (clP aS aP aA) cP)) (hc:H0 cP = some (CodeE cP qP))
  (z1:FrzC H0 aS (.ref Sd)) (z2:FrzC H0 aP (.ref dp)) (z3:FrzC H0 aA (.ref A)) (hS:H0 Sd = some (.dT ks)) (hks:∀ c,f.on c→(valV ks (k3 c)).isSome = true) (hP:H0 dp = some (.dT kp)) (hkp:∀ c,valV kp (k3 c) = (f.pr c).map V.int) :
  Calls P w K mg base 2 fp (spPr H0 A f):=by
 intro A' outer s H us vs Q hr e0 r h
 obtain ⟨p,c,n,rfl,off,hp,hon,ask,hn,q⟩:=h
 have nS:Sd≠A:=ne_of hS hA (fun z => nomatch z)
 have nP:dp≠A:=ne_of hP hA (fun z => nomatch z)
 have y1:=frz_off z1 hA off
 have y2:=frz_off z2 hA off
 have y3:=frz_off z3 hA off
 have hf':=off _ _ (ne_of hf hA (fun z => by unfold FunE at z; cases z)) hf
 have hc':=off _ _ (ne_of hc hA (fun z => by unfold CodeE at z; cases z)) hc
 have nA:A ∉ (clP aS aP aA).map (·.2):=by
  simp only [clP,List.map_cons,List.map_nil,List.mem_cons,List.not_mem_nil,or_false,not_or]
  exact ⟨frz_ne z1 hA,frz_ne z2 hA,frz_ne z3 hA⟩
 have out:∀ {b:Addr} {u:HO},H b = some u→(∀ o v,u≠.frz o v)→unfs H (clP aS aP aA) b = some u:=fun {b u} e ne => by
  rw [unfs_ne]
  ·exact e
  ·intro hb
   have:∀ {d:Addr} {v:V},FrzC H d v→b≠d:=fun ⟨ob,e',_⟩ z => by rw [z,e'] at e; exact ne _ _ (Option.some.inj e).symm
   simp only [clP,List.map_cons,List.map_nil,List.mem_cons,List.not_mem_nil,or_false] at hb
   rcases hb with hb | hb | hb
   ·exact this y1 hb
   ·exact this y2 hb
   ·exact this y3 hb
 refine fun_call (k:=1) (cvs:=[.ref Sd,.ref dp,.ref A]) (show LamScope ["_law_cell","_law_spots","_law_prices_here","_law_asked"] ["_law_cell"] (nestOf s_law 8).2.2.1 (clP aS aP aA) from lamScopeL (ps:=["_law_cell"]) (ns:=["_law_spots","_law_prices_here","_law_asked"]) (as:=[aS,aP,aA]) rfl rfl rfl rfl (by decide +kernel) (by decide +kernel) (by decide +kernel) (by decide +kernel) (by decide +kernel) na) (fun doc pm ct us hl => match us,hl with | [_],_ => rfl) hr e0 r rfl hf' hc' (.cons y1 (.cons y2 (.cons y3 .nil))) fun hr2 => ?_
 refine ⟨_,(pss_cons (ps_expr (pe_bm PySem.F.plainAttrs_list PySem.F.slot_list_append PySem.F.type_list_append mt_append (pv 3) (pa_cons (pe_cmp (pc_din (hu_of hr2) (pv 0) (pv 1))) pa_nil))) (pss_one (ps_ret (pe_dget1 (hu_of hr2) (pv 2) (pv 0) ⟨rfl,rfl,rfl,rfl⟩)))),?_⟩
 have aU:=out ask (by intro o v z; cases z)
 have pU:=out hp (by intro o v z; cases z)
 have sU:=out (off _ _ nS hS) (by intro o v z; cases z)
 have dU:=out (off _ _ nP hP) (by intro o v z; cases z)
 generalize hU:unfs H (clP aS aP aA) = U at aU pU sU dU
 refine ⟨_,rfl,.inl ⟨rfl,_,SqL.of aU⟩,_,rfl,_,rfl,Sd,_,rfl,DGet.t (k:=k3 c) sU pU,A,_,_,rfl,rfl,aU,by rw [List.length_replicate]; exact Nat.lt_of_le_of_lt (show _≤100000 by omega) (by decide),?_⟩
 rw [hks c hon,rep_snoc]
 have oU:OffP A U (upd U A (.lst (List.replicate (n + 1) (.bl true)))):=OffP.upd _
 have eU:upd U A (.lst (List.replicate (n + 1) (.bl true))) A = some (.lst (List.replicate (n + 1) (.bl true))):=upd_same
 generalize upd U A (.lst (List.replicate (n + 1) (.bl true))) = U2 at oU eU
 have pU2:=oU _ _ (ask.neT hp) pU
 have dU2:=oU _ _ nP dU
 refine ⟨_,rfl,dp,rfl,.inr ⟨_,.inl dU2⟩,_,rfl,_,DGet.t (k:=k3 c) dU2 pU2,fun _ => ?_⟩
 rw [hkp]
 obtain ⟨g1,g2⟩:=refs_off nA (hU▸oU) eU
 have:=q _ g1 g2
 cases hpr:f.pr c with
 | none => rw [hpr] at this; exact this
 | some v => rw [hpr] at this; exact this
theorem calls_through {H0:Hp} {A ft cT aS aC aA Sd dc:Addr} {f:Fld} {xs0:List V} {ks kc:List (List Key × V)} (ok:f.Ok) (na:[aS,aC,aA].Nodup) (hA:H0 A = some (.lst xs0))
  (hf:H0 ft = some (FunE ft "_law_through" qT (nestOf s_law 9).1 (nestOf s_law 9).2.1 (nestOf s_law 9).2.2.1 (clT aS aC aA) cT)) (hc:H0 cT = some (CodeE cT qT))
  (z1:FrzC H0 aS (.ref Sd)) (z2:FrzC H0 aC (.ref dc)) (z3:FrzC H0 aA (.ref A)) (hS:H0 Sd = some (.dT ks)) (hks:∀ c,f.on c→(valV ks (k3 c)).isSome = true) (hP:H0 dc = some (.dT kc)) (hkc:∀ x y,valV kc [.inl x,.inl y] = (f.ch x y).map V.int) :
  Calls P w K mg base 2 ft (spTh H0 A f):=by
 intro A' outer s H us vs Q hr e0 r h
 obtain ⟨x,y,n,rfl,off,hxy,ask,hn,q⟩:=h
 have nS:Sd≠A:=ne_of hS hA (fun z => nomatch z)
 have nP:dc≠A:=ne_of hP hA (fun z => nomatch z)
 have y1:=frz_off z1 hA off
 have y2:=frz_off z2 hA off
 have y3:=frz_off z3 hA off
 have hf':=off _ _ (ne_of hf hA (fun z => by unfold FunE at z; cases z)) hf
 have hc':=off _ _ (ne_of hc hA (fun z => by unfold CodeE at z; cases z)) hc
 have nA:A ∉ (clT aS aC aA).map (·.2):=by
  simp only [clT,List.map_cons,List.map_nil,List.mem_cons,List.not_mem_nil,or_false,not_or]
  exact ⟨frz_ne z1 hA,frz_ne z2 hA,frz_ne z3 hA⟩
 have out:∀ {b:Addr} {u:HO},H b = some u→(∀ o v,u≠.frz o v)→unfs H (clT aS aC aA) b = some u:=fun {b u} e ne => by
  rw [unfs_ne]
  ·exact e
  ·intro hb
   have:∀ {d:Addr} {v:V},FrzC H d v→b≠d:=fun ⟨ob,e',_⟩ z => by rw [z,e'] at e; exact ne _ _ (Option.some.inj e).symm
   simp only [clT,List.map_cons,List.map_nil,List.mem_cons,List.not_mem_nil,or_false] at hb
   rcases hb with hb | hb | hb
   ·exact this y1 hb
   ·exact this y2 hb
   ·exact this y3 hb
 refine fun_call (k:=1) (cvs:=[.ref Sd,.ref dc,.ref A]) (show LamScope ["_law_x","_law_y","_law_spots","_law_changes","_law_asked"] ["_law_x","_law_y"] (nestOf s_law 9).2.2.1 (clT aS aC aA) from lamScopeL (ps:=["_law_x","_law_y"]) (ns:=["_law_spots","_law_changes","_law_asked"]) (as:=[aS,aC,aA]) rfl rfl rfl rfl (by decide +kernel) (by decide +kernel) (by decide +kernel) (by decide +kernel) (by decide +kernel) na) (fun doc pm ct us hl => match us,hl with | [_,_],_ => rfl) hr e0 r rfl hf' hc' (.cons y1 (.cons y2 (.cons y3 .nil))) fun hr2 => ?_
 refine ⟨_,(pss_cons (ps_expr (pe_bm PySem.F.plainAttrs_list PySem.F.slot_list_append PySem.F.type_list_append mt_append (pv 4) (pa_cons (pe_cmp (pc_din (hu_of hr2) (pe_tup (pa_cons (pv 0) (pa_cons (pv 1) (pa_cons pe_int pa_nil)))) (pv 2))) pa_nil))) (pss_one (ps_ret (pe_dget1 (hu_of hr2) (pv 3) (pe_tup (pa_cons (pv 0) (pa_cons (pv 1) pa_nil))) ⟨rfl,rfl,rfl,rfl⟩)))),?_⟩
 have aU:=out ask (by intro o v z; cases z)
 have sU:=out (off _ _ nS hS) (by intro o v z; cases z)
 have dU:=out (off _ _ nP hP) (by intro o v z; cases z)
 generalize hU:unfs H (clT aS aC aA) = U at aU sU dU
 refine ⟨_,rfl,.inl ⟨rfl,_,SqL.of aU⟩,_,rfl,_,rfl,sL3,fun q1 hq1 => ?_⟩
 have s1:=same_new (o:=.tup (v3 (x,y,0))) (Same.refl U) hq1
 have e1:upd U q1 (.tup (v3 (x,y,0))) q1 = some (.tup (v3 (x,y,0))):=upd_same
 generalize upd U q1 (.tup (v3 (x,y,0))) = U1 at s1 e1
 have aU1:=s1 _ _ aU
 have on0:f.on (x,y,0):=⟨hxy.1,hxy.2.1,hxy.2.2.1,hxy.2.2.2,Int.le_refl 0,by have:=ok.l.1; show (0:Int) < (f.L:Int); omega⟩
 refine ⟨_,rfl,Sd,_,rfl,DGet.t (k:=k3 (x,y,0)) (s1 _ _ sU) e1,A,_,_,rfl,rfl,aU1,by rw [List.length_replicate]; exact Nat.lt_of_le_of_lt (show _≤100000 by omega) (by decide),?_⟩
 rw [hks _ on0,rep_snoc]
 have oU:OffP A U (upd U1 A (.lst (List.replicate (n + 1) (.bl true)))):=(OffP.of s1).trans (OffP.upd _)
 have eU:upd U1 A (.lst (List.replicate (n + 1) (.bl true))) A = some (.lst (List.replicate (n + 1) (.bl true))):=upd_same
 generalize upd U1 A (.lst (List.replicate (n + 1) (.bl true))) = U2 at oU eU
 have dU2:=oU _ _ nP dU
 refine ⟨_,rfl,dc,rfl,.inr ⟨_,.inl dU2⟩,_,rfl,_,rfl,sL2,fun q2 hq2 => ?_⟩
 have s3:=same_new (o:=.tup [.int x,.int y]) (Same.refl U2) hq2
 have e3:upd U2 q2 (.tup [.int x,.int y]) q2 = some (.tup [.int x,.int y]):=upd_same
 generalize upd U2 q2 (.tup [.int x,.int y]) = U3 at s3 e3
 refine ⟨_,DGet.t (k:=[.inl x,.inl y]) (s3 _ _ dU2) e3,fun _ => ?_⟩
 rw [hkc]
 obtain ⟨g1,g2⟩:=refs_off nA (hU▸(oU.trans (OffP.of s3))) (s3 _ _ eU)
 have:=q _ g1 g2
 cases hpr:f.ch x y with
 | none => rw [hpr] at this; exact this
 | some v => rw [hpr] at this; exact this
end
end K61
namespace K61
open PySem L2 Wd TS
def hN (ks:List Int):Int:=reduceHash (Builtin.Tuple.tupleHashOf (ks.map hashInt))
def at3 (k:Nat):List Int:=[((k % 12:Nat):Int),((k / 12 % 12:Nat):Int),((k / 144:Nat):Int)]
theorem r3_eq:((List.range 432).map fun k => (hN (at3 k) % 4181).toNat) = [1282,3864,3693,3105,2934,1335,2443,2272,697,526,3108,4100,3981,1660,2365,301,2615,2712,3433,966,2074,207,304,3781,768,1341,2646,1291,2596,1984,3114,2943,4051,1197,761,3762,449,13,4023,950,2277,1665,2795,1615,3732,856,3438,3443,130,1990,832,244,3654,2655,3763,3592,2017,2233,247,1239,2283,684,513,1621,3935,2336,3444,3273,3394,1527,4109,920,779,2661,3366,1302,2607,3304,253,1967,3075,2904,2081,601,1769,1333,1162,2270,3597,2985,4115,2935,871,2176,3458,582,1450,2710,843,1951,3278,181,1289,2616,3724,1857,1954,263,3603,2991,1833,2941,1074,3656,583,412,533,2847,1248,2240,2099,187,1492,2622,3927,852,1960,93,214,43,2625,1921,3476,2653,2482,3590,1123,124,1254,74,2191,2896,3082,593,3133,1534,4024,775,780,3362,3307,2603,2548,2553,1941,3268,2814,3687,3683,2152,461,3043,2266,3980,3925,2234,635,464,1099,3368,492,1446,1429,4011,960,3274,3219,30,2612,3917,2476,1864,1869,118,4128,3692,641,448,415,1720,1284,1113,2157,2854,2150,2095,3809,501,1609,3923,3868,1401,3261,407,4134,2535,3527,3472,1781,182,127,1119,3549,3554,2942,1784,2806,507,2199,3153,277,1150,3267,800,745,3235,3932,1465,602,3184,1493,1438,2430,831,1961,3266,1735,22,3613,2433,3477,2865,2870,2815,948,512,457,1449,1394,3884,2285,2114,1273,837,666,3096,3101,1502,2610,2439,688,693,81,4091,4126,3536,3519,292,1597,3866,1128,2120,2065,374,1458,2785,3807,323,2813,2758,1278,2151,87,1392,4042,3051,752,2444,3464,367,1694,2802,2631,2195,2140,3467,394,223,3968,2101,660,3842,366,2483,2312,1876,1434,3148,75,4085,3649,3478,4113,1038,2343,3473,597,1681,2811,1120,2052,894,458,1763,1309,3891,2024,2145,1974,1362,2492,3797,746,553,3135,1444,4008,1687,3014,4122,1655,3515,3460,1593,1714,234,1107,3421,1980,381,2695,3803,3632,3196,3141,287,1395,1224,788,617,476,2358,4050,999,2304,1481,4131,2651,2772,905,1778,298,2629,1030,3344,271,3294,2682,3812,936,3053,1873,1459,2764,2310,711,540,3146,2975,2363,2484,2313,1725,1554,4136,4141,3300,2688,4015,942,771,335,280,2594,2715,2544,2108,241,1796,1382,2687,2319,3624,16,4142,3971,4092,2225,1789,1618,1477,2350,483,1591,3305,4178,951,2256,192,897,2779,290]:=by decide +kernel
theorem r3_nd:((List.range 432).map fun k => (hN (at3 k) % 4181).toNat).Nodup:=by rw [r3_eq]; decide +kernel
theorem inj_nd {α β:Type} {f:α→β}:∀ {l:List α} {a b:α},(l.map f).Nodup→a∈l→b∈l→f a = f b→a = b
 | x :: r,a,b,n,ha,hb,e => by
  obtain ⟨n1,n2⟩:=List.nodup_cons.mp n
  rcases List.mem_cons.mp ha with h1 | h1
  ·rcases List.mem_cons.mp hb with h2 | h2
   ·rw [h1,h2]
   ·exact (n1 (List.mem_map.mpr ⟨b,h2,by rw [← e,h1]⟩)).elim
  ·rcases List.mem_cons.mp hb with h2 | h2
   ·exact (n1 (List.mem_map.mpr ⟨a,h1,by rw [e,h2]⟩)).elim
   ·exact inj_nd n2 h1 h2 e
theorem hash3 {f:Fld} (ok:f.Ok) {c c':Cl} (hc:f.on c) (hc':f.on c') (e:hN [c.1,c.2.1,c.2.2] = hN [c'.1,c'.2.1,c'.2.2]):c = c':=by
 have key:∀ {c:Cl},f.on c→∃ k,k < 432∧at3 k = [c.1,c.2.1,c.2.2]:=fun {c} hc => by
  obtain ⟨x1,x2,y1,y2,z1,z2⟩:=hc
  have w1:=ok.w.2
  have h1:=ok.h.2
  have l1:=ok.l.2
  obtain ⟨x,hx⟩:=Int.eq_ofNat_of_zero_le x1
  obtain ⟨y,hy⟩:=Int.eq_ofNat_of_zero_le y1
  obtain ⟨z,hz⟩:=Int.eq_ofNat_of_zero_le z1
  rw [hx] at x2; rw [hy] at y2; rw [hz] at z2
  refine ⟨x + 12 * y + 144 * z,by omega,?_⟩
  unfold at3
  rw [hx,hy,hz,show (x + 12 * y + 144 * z) % 12 = x by omega,show (x + 12 * y + 144 * z) / 12 % 12 = y by omega,show (x + 12 * y + 144 * z) / 144 = z by omega]
 obtain ⟨k,hk,ek⟩:=key hc
 obtain ⟨k',hk',ek'⟩:=key hc'
 have:=inj_nd r3_nd (List.mem_range.mpr hk) (List.mem_range.mpr hk') (by rw [ek,ek',e])
 subst this
 rw [ek] at ek'
 injection ek' with a1 a
 injection a with a2 a
 injection a with a3 _
 exact Prod.ext a1 (Prod.ext a2 a3)
theorem hash_eq {P:Program} {w0:World} (c:Cl):(tupleKind (mixKind P w0)).hash (k3 c) = hN [c.1,c.2.1,c.2.2]:=rfl
theorem nd_map {β:Type} {g:List Key→β} {rl:List Rec} (nd:(rl.map (·.1)).Nodup) (inj:∀ a∈rl,∀ b∈rl,g (k3 a.1) = g (k3 b.1)→a.1 = b.1):((numL rl).map fun kv => g kv.1).Nodup:=by
 have nd':rl.Pairwise fun a b => a.1≠b.1:=List.pairwise_map.mp nd
 unfold numL
 rw [List.map_map]
 exact List.pairwise_map.mpr (nd'.imp_of_mem fun {a b} ha hb hab e => hab (inj a ha b hb e))
theorem nd_hash {P:Program} {w0:World} {f:Fld} (ok:f.Ok) {rl:List Rec} (nd:(rl.map (·.1)).Nodup) (on:∀ x∈rl,f.on x.1):((numL rl).map fun kv => (tupleKind (mixKind P w0)).hash kv.1).Nodup :=
 nd_map (g:=(tupleKind (mixKind P w0)).hash) nd fun a ha b hb e => hash3 ok (on a ha) (on b hb) ((hash_eq (P:=P) (w0:=w0) a.1).symm.trans (e.trans (hash_eq b.1)))
theorem Fin.le {f:Fld} {st:List Cl} {r1 r2:List Rec} (a:Fin f st r1) (b:Fin f st r2):∀ (i:Nat) (x:Rec),r1[i]? = some x→∃ y∈r2,y.1 = x.1∧y.2.1≤x.2.1:=by
 intro i
 induction i using Nat.strongRecOn with
 | ind i ih =>
  intro x hx
  rcases a.tree i x hx with ⟨_,t2,t3⟩ | ⟨j,y,cost,hj,ey,t1,t2,t3⟩
  ·obtain ⟨z,hz,e1,e2⟩:=b.sta x.1 t3 (a.on x (List.mem_of_getElem? hx))
   exact ⟨z,hz,e1,by omega⟩
  ·obtain ⟨z,hz,e1,e2⟩:=ih j hj y ey
   obtain ⟨u,hu,e3,e4⟩:=b.rel z hz (x.1,cost) (e1▸t2)
   exact ⟨u,hu,e3,by have e4:u.2.1≤z.2.1 + cost:=e4; omega⟩
theorem Fin.same {f:Fld} {st:List Cl} {r1 r2:List Rec} (a:Fin f st r1) (b:Fin f st r2) {x:Rec} (hx:x∈r1):∃ y∈r2,y.1 = x.1∧y.2.1 = x.2.1:=by
 obtain ⟨i,hi,ei⟩:=List.getElem_of_mem hx
 obtain ⟨y,hy,e1,e2⟩:=a.le b i x (by rw [List.getElem?_eq_getElem hi,ei])
 obtain ⟨j,hj,ej⟩:=List.getElem_of_mem hy
 obtain ⟨z,hz,e3,e4⟩:=b.le a j y (by rw [List.getElem?_eq_getElem hj,ej])
 have:=rec_eq a.nd hz hx (e3.trans e1)
 subst this
 exact ⟨y,hy,e1,by omega⟩
theorem sub_len {α:Type} [DecidableEq α]:∀ {l m:List α},l.Nodup→(∀ a∈l,a∈m)→l.length≤m.length
 | [],_,_,_ => Nat.zero_le _
 | a :: r,m,nd,h => by
  obtain ⟨n1,n2⟩:=List.nodup_cons.mp nd
  have h1:=h a (List.mem_cons_self ..)
  have h2:=sub_len (l:=r) (m:=m.erase a) n2 fun b hb => (List.mem_erase_of_ne (by rintro rfl; exact n1 hb)).mpr (h b (List.mem_cons_of_mem _ hb))
  rw [List.length_erase_of_mem h1] at h2
  have:=List.length_pos_of_mem h1
  rw [List.length_cons]
  omega
theorem Fin.lens {f:Fld} {st:List Cl} {r1 r2:List Rec} (a:Fin f st r1) (b:Fin f st r2):r1.length≤r2.length:=by
 have:=sub_len (l:=r1.map (·.1)) (m:=r2.map (·.1)) a.nd fun c hc => by
  obtain ⟨x,hx,rfl⟩:=List.mem_map.mp hc
  obtain ⟨y,hy,e,_⟩:=a.same b hx
  exact e▸List.mem_map.mpr ⟨y,hy,rfl⟩
 rwa [List.length_map,List.length_map] at this
theorem Fin.val {f:Fld} {st:List Cl} {r1 r2:List Rec} (a:Fin f st r1) (b:Fin f st r2) (k:List Key) (v:V) (h:valV (numL r1) k = some v):valV (numL r2) k = some v∧∃ n,v = .int n:=by
 have:=mem_of_valV h
 unfold numL at this
 obtain ⟨x,hx,e⟩:=List.mem_map.mp this
 cases e
 obtain ⟨y,hy,e1,e2⟩:=a.same b hx
 have:=numL_some b.nd hy
 rw [e1,e2] at this
 exact ⟨this,_,rfl⟩
theorem no_false (n:Nat):inV (.bl false) (List.replicate n (.bl true)) = false:=by
 unfold inV
 rw [List.any_replicate]
 split
 ·rfl
 ·rfl
structure LS (H:Hp) (aA aS aP aC A Sd fp ft cP cT hd l1 l2 ls lg fl sz lc dp dc:Addr) (ps qs gs:List Addr) (cl st gl:List Cl) (f:Fld) (n:Nat):Prop where
 fld:Field H sz lc dp dc ps cl f
 hfl:H fl = some (.tup [.ref sz,.ref lc,.ref dp,.ref dc])
 hls:H ls = some (.lst (qs.map V.ref))
 C:Cells H qs st
 lst:st.length≤5
 on:∀ c∈st,f.on c
 hlg:H lg = some (.lst (gs.map V.ref))
 CG:Cells H gs gl
 lgl:gl.length≤5
 og:∀ c∈gl,f.on c
 hhd:H hd = some (.tup [.ref l1,.ref l2])
 hl1:H l1 = some (.lst (qs.map V.ref))
 hl2:H l2 = some (.lst (gs.map V.ref))
 d1:l1≠ls
 d2:l2≠lg
 ask:Ask H A n
 spots:∃ ks,H Sd = some (.dT ks)∧∀ c,f.on c→(valV ks (k3 c)).isSome = true
 hfp:H fp = some (FunE fp "_law_price" qP (nestOf s_law 8).1 (nestOf s_law 8).2.1 (nestOf s_law 8).2.2.1 (clP aS aP aA) cP)
 hcP:H cP = some (CodeE cP qP)
 hft:H ft = some (FunE ft "_law_through" qT (nestOf s_law 9).1 (nestOf s_law 9).2.1 (nestOf s_law 9).2.2.1 (clT aS aC aA) cT)
 hcT:H cT = some (CodeE cT qT)
 nl:lc≠A∧ls≠A∧lg≠A∧l1≠A∧l2≠A
section
variable {aA aS aP aC A Sd fp ft cP cT hd l1 l2 ls lg fl sz lc dp dc:Addr} {ps qs gs:List Addr} {cl st gl:List Cl} {f:Fld} {n:Nat} {H:Hp}
theorem LS.off (L:LS H aA aS aP aC A Sd fp ft cP cT hd l1 l2 ls lg fl sz lc dp dc ps qs gs cl st gl f n) {H':Hp} {m:Nat} (o:OffP A H H') (a:Ask H' A m):LS H' aA aS aP aC A Sd fp ft cP cT hd l1 l2 ls lg fl sz lc dp dc ps qs gs cl st gl f m:=by
 have kT:=L.ask.offT o
 have kD:∀ {q:Addr} {kvs:List (List Key × V)},H q = some (.dT kvs)→H' q = some (.dT kvs):=fun e => o _ _ (ne_of e L.ask (fun z => nomatch z)) e
 obtain ⟨kp,p1,p2⟩:=L.fld.hp
 obtain ⟨kc,c1,c2⟩:=L.fld.hc
 obtain ⟨ks,s1,s2⟩:=L.spots
 obtain ⟨n1,n2,n3,n4,n5⟩:=L.nl
 exact ⟨⟨L.fld.ok,kT _ _ L.fld.hsz,o _ _ n1 L.fld.hlc,L.fld.C.mono kT,L.fld.mem,L.fld.pos,L.fld.few,⟨kp,kD p1,p2⟩,⟨kc,kD c1,c2⟩⟩,kT _ _ L.hfl,o _ _ n2 L.hls,L.C.mono kT,L.lst,L.on,o _ _ n3 L.hlg,L.CG.mono kT,L.lgl,L.og,kT _ _ L.hhd,o _ _ n4 L.hl1,o _ _ n5 L.hl2,L.d1,L.d2,a,⟨ks,kD s1,s2⟩,
  o _ _ (ne_of L.hfp L.ask (fun z => by unfold FunE at z; cases z)) L.hfp,o _ _ (ne_of L.hcP L.ask (fun z => by unfold CodeE at z; cases z)) L.hcP,o _ _ (ne_of L.hft L.ask (fun z => by unfold FunE at z; cases z)) L.hft,o _ _ (ne_of L.hcT L.ask (fun z => by unfold CodeE at z; cases z)) L.hcT,L.nl⟩
end
section
variable {P:Program} {w:World} {K:PySem.W.Frag} {mg:Str→Option Value} {base:Heap} {t:Adr} {aA aS aP aC A Sd fp ft cP cT hd l1 l2 ls lg fl sz lc dp dc:Addr} {ps qs gs:List Addr} {cl st gl:List Cl} {f:Fld} {n:Nat} {H:Hp}
theorem wave_go (L:LS H aA aS aP aC A Sd fp ft cP cT hd l1 l2 ls lg fl sz lc dp dc ps qs gs cl st gl f n) (nd:[aA,aS,aP,aC].Nodup) (hn:n≤40000) {i1 i2 i3 i4:Nat} {a b:Addr} {us vs:List Addr} {cu cv:List Cl} (ha:H a = some (.lst (us.map V.ref))) (hA:a≠A) (Ca:Cells H us cu) (oa:∀ c∈cu,f.on c) (la:cu.length≤5) (hb:H b = some (.lst (vs.map V.ref))) (hB:b≠A) (Cb:Cells H vs cv) (lb:cv.length≤5) {Q:VK}
  (q:∀ T M rl H' k,k≤4000→OffP A H H'→Ask H' A (n + k)→H T = none→H M = none→T≠M→H' M = some (.dT (numL rl))→Fin f cu rl→rl.length≤432→Told H' T M f cu cv rl→(∀ D tot,H' T = some (.tup [.str "way",.ref D,tot,.ref M])→H D = none∧D≠M∧D≠T)→Q (.ref T) H') :
  (∀ y∈[(i1,Str.ofString "_law_asked",aA),(i2,Str.ofString "_law_spots",aS),(i3,Str.ofString "_law_prices_here",aP),(i4,Str.ofString "_law_changes",aC)],H y.2.2 = none)→∀ H1:Hp,(∀ d,d ∉ [(i1,Str.ofString "_law_asked",aA),(i2,Str.ofString "_law_spots",aS),(i3,Str.ofString "_law_prices_here",aP),(i4,Str.ofString "_law_changes",aC)].map (·.2.2)→H1 d = H d) →
   PySem.Paired (fun (y:Nat × Str × Addr) v => FrzC H1 y.2.2 v) [(i1,Str.ofString "_law_asked",aA),(i2,Str.ofString "_law_spots",aS),(i3,Str.ofString "_law_prices_here",aP),(i4,Str.ofString "_law_changes",aC)] [.ref A,.ref Sd,.ref dp,.ref dc] →
   spWave P w K mg base [.ref sz,.ref fp,.ref ft,.ref a,.ref b] H1 (fun r H' => Q r (unfA H' ([(i1,Str.ofString "_law_asked",aA),(i2,Str.ofString "_law_spots",aS),(i3,Str.ofString "_law_prices_here",aP),(i4,Str.ofString "_law_changes",aC)].map (·.2.2)))) (fun _ _ _ => False):=by
 intro hno H1 same fz
 have e4:[(i1,Str.ofString "_law_asked",aA),(i2,Str.ofString "_law_spots",aS),(i3,Str.ofString "_law_prices_here",aP),(i4,Str.ofString "_law_changes",aC)].map (·.2.2) = [aA,aS,aP,aC]:=rfl
 rw [e4] at same ⊢
 have hno4:∀ d∈[aA,aS,aP,aC],H d = none:=fun d hd => by
  rw [← e4] at hd
  obtain ⟨y,hy,rfl⟩:=List.mem_map.mp hd
  exact hno y hy
 have up:∀ {d:Addr} {u:HO},H d = some u→H1 d = some u:=fun {d u} e => by
  rw [same d (fun hd => by rw [hno4 d hd] at e; cases e)]; exact e
 cases fz with
 | cons z1 t1 => cases t1 with
  | cons z2 t2 => cases t2 with
   | cons z3 t3 => cases t3 with
    | cons z4 t4 =>
     dsimp only at z1 z2 z3 z4
     obtain ⟨kp,p1,p2⟩:=L.fld.hp
     obtain ⟨kc,c1,c2⟩:=L.fld.hc
     obtain ⟨ks,s1,s2⟩:=L.spots
     have hA1:=up L.ask
     have dist:[aS,aP,aA].Nodup∧[aS,aC,aA].Nodup:=by
      simp only [List.nodup_cons,List.mem_cons,List.not_mem_nil,or_false,not_or,not_false_eq_true,List.nodup_nil,and_true] at nd ⊢
      obtain ⟨⟨a1,a2,a3⟩,⟨a4,a5⟩,a6⟩:=nd
      exact ⟨⟨⟨a4,Ne.symm a1⟩,Ne.symm a2⟩,⟨a5,Ne.symm a1⟩,Ne.symm a3⟩
     have frzS:∀ d∈[aA,aS,aP,aC],∃ o,H1 d = some (FrzO d o):=fun d hd => by
      simp only [List.mem_cons,List.not_mem_nil,or_false] at hd
      rcases hd with rfl | rfl | rfl | rfl
      ·exact z1.imp fun o e => e.1
      ·exact z2.imp fun o e => e.1
      ·exact z3.imp fun o e => e.1
      ·exact z4.imp fun o e => e.1
     have back:∀ {d:Addr},H1 d = none→d ∉ [aA,aS,aP,aC]∧H d = none:=fun {d} e => by
      have h1:d ∉ [aA,aS,aP,aC]:=fun hd => by obtain ⟨o,z⟩:=frzS d hd; rw [e] at z; cases z
      exact ⟨h1,by rw [← same d h1]; exact e⟩
     refine ⟨H1,A,fp,ft,f,n,sz,a,b,us,vs,cu,cv,rfl,⟨L.fld.ok,calls_price dist.1 hA1 (up L.hfp) (up L.hcP) z2 z3 z1 (up s1) s2 (up p1) p2,calls_through L.fld.ok dist.2 hA1 (up L.hft) (up L.hcT) z2 z4 z1 (up s1) s2 (up c1) c2,⟨_,_,_,_,_,_,_,up L.hfp⟩,⟨_,_,_,_,_,_,_,up L.hft⟩,ne_of L.hfp L.ask (fun z => by unfold FunE at z; cases z),ne_of L.hft L.ask (fun z => by unfold FunE at z; cases z)⟩,OffP.refl _ _,up L.ask,up L.fld.hsz,up ha,hA,Ca.mono (fun _ _ e => up e),oa,la,up hb,hB,Cb.mono (fun _ _ e => up e),lb,hn,fun T M rl H' k hk o3 a3 hT hM eM fin few tl => ?_⟩
     obtain ⟨tT,tH⟩:=back hT
     obtain ⟨mT,mH⟩:=back hM
     have nA4:A ∉ [aA,aS,aP,aC]:=fun hd => by
      have h0:=hno4 A hd
      rw [show H A = some _ from L.ask] at h0
      cases h0
     have o4:OffP A H (unfA H' [aA,aS,aP,aC]):=fun d u ne e => by
      rw [unfA_ne (fun hd => by rw [hno4 d hd] at e; cases e)]
      exact o3 _ _ ne (up e)
     have out:∀ {d:Addr} {u:HO},H' d = some u→(∀ o v,u≠.frz o v)→unfA H' [aA,aS,aP,aC] d = some u:=fun {d u} e ne => by
      rw [unfA_ne]
      ·exact e
      ·intro hd
       obtain ⟨ob,z⟩:=frzS d hd
       have:=o3 d _ (fun y => nA4 (y▸hd)) z
       rw [e] at this
       exact ne _ _ (Option.some.inj this)
     have oT:∀ q ys,H' q = some (.tup ys)→unfA H' [aA,aS,aP,aC] q = some (.tup ys):=fun q ys e => out e (by intro o v z; cases z)
     have eM':=out eM (by intro o v z; cases z)
     refine q T M rl _ k hk o4 (out a3 (by intro o v z; cases z)) tH mH (fun z => ?_) eM' fin few ?_ fun D tot eD => ?_
     ·rcases tl with ⟨_,e⟩ | ⟨_,_,_,_,e,_⟩ <;> (rw [z,eM] at e; cases e)
     ·rcases tl with ⟨g1,e⟩ | ⟨D,ws,line,x,e,eD,hD,nD,CW,ln,mem,hd,gl,len,rest⟩
      ·exact .inl ⟨g1,oT _ _ e⟩
      ·exact .inr ⟨D,ws,line,x,oT _ _ e,out eD (by intro o v z; cases z),CW.mono oT,ln,mem,hd,gl,len,rest⟩
     ·rcases tl with ⟨g1,e⟩ | ⟨D',ws,line,x,e,eD',hD,nD,CW,ln,mem,hd,gl,len,rest⟩
      ·rw [oT _ _ e] at eD; cases eD
      ·rw [oT _ _ e] at eD
       cases eD
       refine ⟨(back hD).2,nD,fun z => ?_⟩
       rw [z,e] at eD'
       cases eD'
end
end K61
namespace K61
open PySem L2 Wd TS
theorem Told.keep {H H':Hp} {T M:Addr} {f:Fld} {st gl:List Cl} {rl:List Rec} (t:Told H T M f st gl rl) (kT:∀ q ys,H q = some (.tup ys)→H' q = some (.tup ys)) (kD:∀ D tot,H T = some (.tup [.str "way",.ref D,tot,.ref M])→∀ ys,H D = some (.lst ys)→H' D = some (.lst ys)):Told H' T M f st gl rl:=by
 rcases t with ⟨g1,e⟩ | ⟨D,ws,line,x,e,eD,CW,r⟩
 ·exact .inl ⟨g1,kT _ _ e⟩
 ·exact .inr ⟨D,ws,line,x,kT _ _ e,kD _ _ e _ eD,CW.mono kT,r⟩
theorem Told.last {H:Hp} {T M:Addr} {f:Fld} {st gl:List Cl} {rl:List Rec} (t:Told H T M f st gl rl):∃ ts,H T = some (.tup ts)∧atI ts (-1) = some (.ref M):=by
 rcases t with ⟨_,e⟩ | ⟨D,ws,line,x,e,_⟩
 ·exact ⟨_,e,rfl⟩
 ·exact ⟨_,e,rfl⟩
section
variable {P:Program} {w:World} {K:PySem.W.Frag} {mg:Str→Option Value} {base:Heap} {t:Adr}
def tabsOf (t:Adr):List Addr:=[t.pl_law]
def spLaw (K:PySem.W.Frag) (tabs:List Addr):Sp:=fun vs H Q _ => ∃ (a:Addr) (sc:List Int),vs = [.ref a]∧SqL K H a (sc.map V.int)∧sc.length≤63∧(∀ p∈tabs,H p = some (.tbl #[]))∧∀ H',Q (.bl true) H'
theorem law_ok (T:Txt K mg t) (hB:BMod mg base) {fd:FuncData} (F:FunC K "law" "law" s_law t.f_law fd t.cd_law t.pl_law):FnOk P w K mg base (XC P w) 10 t.f_law fd ["_law_script"] (spLaw K (tabsOf t)):=by
 have G_law_field:=ok_law_field (P:=P) (w:=w) (base:=base) T
 have G_law_some:=ok_law_some (P:=P) (w:=w) (base:=base) T
 have G_law_told:=ok_law_told (P:=P) (w:=w) (base:=base) T
 have G_wave:=ok_wave (P:=P) (w:=w) (base:=base) T
 refine F.okX sc_law (fun vs H Q E h => ?_) (fun AA outer s H vs Q E hr h => ?_)
 ·obtain ⟨a,sc,rfl,_⟩:=h
  rfl
 ·obtain ⟨a,sc,rfl,ha,hsc,htb,q⟩:=h
  refine ⟨_,(pss_cons (ps_set (i:=1) sc_law.nd rfl (Or.inl rfl) (pe_callG G_law_field (hr.mono (by decide)) passes_of (by rfl) (pa_cons (pv 0) pa_nil)))
   (pss_cons (ps_asg (pv 1) (pg_tup rfl (pgs_cons (pg_name (i:=2) sc_law.nd rfl (Or.inl rfl)) (pgs_cons (pg_name (i:=3) sc_law.nd rfl (Or.inl rfl)) (pgs_cons (pg_name (i:=16) sc_law.nd rfl (Or.inr rfl)) (pgs_cons (pg_name (i:=15) sc_law.nd rfl (Or.inr rfl)) pgs_nil))))))
   (pss_cons (ps_set (i:=4) sc_law.nd rfl (Or.inl rfl) (pe_callG G_law_some (hr.mono (by decide)) passes_of (by rfl) (pa_cons (pv 0) (pa_cons pe_int (pa_cons (pv 3) pa_nil)))))
   (pss_cons (ps_set (i:=5) sc_law.nd rfl (Or.inl rfl) (pe_callG G_law_some (hr.mono (by decide)) passes_of (by rfl) (pa_cons (pv 0) (pa_cons pe_int (pa_cons (pv 3) pa_nil)))))
   (pss_cons (ps_set (i:=6) sc_law.nd rfl (Or.inl rfl) (pe_tup (pa_cons (pe_callTy call_list_of (by rfl) T.n_list b_list (pa_cons (pv 4) pa_nil)) (pa_cons (pe_callTy call_list_of (by rfl) T.n_list b_list (pa_cons (pv 5) pa_nil)) pa_nil))))
   (pss_cons (ps_set (i:=14) sc_law.nd rfl (Or.inr rfl) (pe_lst pa_nil))
   (pss_cons (ps_set (i:=17) sc_law.nd rfl (Or.inr rfl) pe_dnewT)
   (pss_cons (ps_for owns_of (pi_list (pv 3)) (pg_name (i:=7) sc_law.nd rfl (Or.inl rfl)) (pss_one (ps_dput (hu_of hr) (pv 17) (pv 7) pe_bl rfl)))
   (pss_cons (ps_def (i:=8) (c0:=t.cd_law) (P:=t.pl_law) sc_law.nd rfl (Or.inl rfl) rfl rfl rfl (by rfl) rfl T.hd_law hB)
   (pss_cons (ps_def (i:=9) (c0:=t.cd_law) (P:=t.pl_law) sc_law.nd rfl (Or.inl rfl) rfl rfl rfl (by rfl) rfl T.hd_law hB)
   (pss_cons (ps_set (i:=10) sc_law.nd rfl (Or.inl rfl) (pe_callA G_wave (hr.mono (by decide)) (by rfl) (cells_cons (i:=14) (n:="_law_asked") rfl rfl rfl rfl (cells_cons (i:=17) (n:="_law_spots") rfl rfl rfl rfl (cells_cons (i:=16) (n:="_law_prices_here") rfl rfl rfl rfl (cells_cons (i:=15) (n:="_law_changes") rfl rfl rfl rfl cells_nil)))) (pa_cons (pv 2) (pa_cons (pv 8) (pa_cons (pv 9) (pa_cons (pe_ix ix_tup (pv 6) pe_int (fun _ _ => rfl)) (pa_cons (pe_ix ix_tup (pv 6) pe_int (fun _ _ => rfl)) pa_nil)))))))
   (pss_cons (ps_if (pw_or (pt_not (pt_val (pe_callG G_law_told (hr.mono (by decide)) passes_of (by rfl) (pa_cons (pv 1) (pa_cons (pv 10) (pa_cons (pv 4) (pa_cons (pv 5) pa_nil))))))) (pw_or (pt_cmpR (op_ne2L hr.units) (pv 6) (pe_tup (pa_cons (pv 4) (pa_cons (pv 5) pa_nil))) (nomark _)) (pw_or1 (pt_cmpR op_in_seq pe_bl (pv 14) (by with_unfolding_all rfl))))).pt (pss_one (ps_ret pe_bl)) pss_nil)
   (pss_cons (ps_set (i:=11) sc_law.nd rfl (Or.inl rfl) (pe_callA G_wave (hr.mono (by decide)) (by rfl) (cells_cons (i:=14) (n:="_law_asked") rfl rfl rfl rfl (cells_cons (i:=17) (n:="_law_spots") rfl rfl rfl rfl (cells_cons (i:=16) (n:="_law_prices_here") rfl rfl rfl rfl (cells_cons (i:=15) (n:="_law_changes") rfl rfl rfl rfl cells_nil)))) (pa_cons (pv 2) (pa_cons (pv 8) (pa_cons (pv 9) (pa_cons (pv 5) (pa_cons (pv 4) pa_nil)))))))
   (pss_cons (ps_if (pt_not (pt_val (pe_callG G_law_told (hr.mono (by decide)) passes_of (by rfl) (pa_cons (pv 1) (pa_cons (pv 11) (pa_cons (pv 5) (pa_cons (pv 4) pa_nil))))))) (pss_one (ps_ret pe_bl)) pss_nil)
   (pss_cons (ps_set (i:=12) sc_law.nd rfl (Or.inl rfl) (pe_callTy call_dictT (by rfl) T.n_dict b_dict (pa_cons (pe_ix ix_tup (pv 10) (pe_un un_neg pe_int) (fun _ _ => rfl)) pa_nil)))
   (pss_cons (ps_expr (pe_bm0 PySem.F.plainAttrs_dict PySem.F.slot_dict_clear PySem.F.type_dict_clear mt_clearT (pe_ix ix_tup (pv 10) (pe_un un_neg pe_int) (fun _ _ => rfl))))
   (pss_cons (ps_if (pt_cmpR op_eq (pe_ix ix_tup (pv 10) pe_int (fun _ _ => rfl)) pe_str (nomark _)) (pss_one (ps_expr (pe_bm0 PySem.F.plainAttrs_list PySem.F.slot_list_clear PySem.F.type_list_clear mt_clear (pe_ix ix_tup (pv 10) pe_int (fun _ _ => rfl))))) pss_nil)
   (pss_cons (ps_set (i:=13) sc_law.nd rfl (Or.inl rfl) (pe_callA G_wave (hr.mono (by decide)) (by rfl) (cells_cons (i:=14) (n:="_law_asked") rfl rfl rfl rfl (cells_cons (i:=17) (n:="_law_spots") rfl rfl rfl rfl (cells_cons (i:=16) (n:="_law_prices_here") rfl rfl rfl rfl (cells_cons (i:=15) (n:="_law_changes") rfl rfl rfl rfl cells_nil)))) (pa_cons (pv 2) (pa_cons (pv 8) (pa_cons (pv 9) (pa_cons (pv 4) (pa_cons (pv 5) pa_nil)))))))
   (pss_one (ps_ret (pe_and (pe_cmpR (op_eqDI hr.units) (pe_ix ix_tup (pv 13) (pe_un un_neg pe_int) (fun _ _ => rfl)) (pv 12) (nomark _)) (pe_one (pe_callG G_law_told (hr.mono (by decide)) passes_of (by rfl) (pa_cons (pv 1) (pa_cons (pv 13) (pa_cons (pv 4) (pa_cons (pv 5) pa_nil))))))))))))))))))))))))))),?_⟩
  have eP:H t.pl_law = some (.tbl #[]):=htb _ (by simp [tabsOf])
  refine seq_gen (fun σ H' => ∃ (fl sz lc dp dc:Addr) (ps:List Addr) (cl:List Cl) (f:Fld),σ = [oR a,oR fl,none,none,none,none,none,none,none,none,none,none,none,none,none,none,none,none]∧Same H H'∧H lc = none∧dp≠dc∧H' fl = some (.tup [.ref sz,.ref lc,.ref dp,.ref dc])∧Field H' sz lc dp dc ps cl f) (fun B hB' => ⟨_,rfl,a,sc,rfl,ha,hsc,fun T sz lc dp dc ps cl f H' s' _ hlc _ _ ne eT Fd => hB' _ _ ⟨T,sz,lc,dp,dc,ps,cl,f,rfl,s',hlc,ne,eT,Fd⟩⟩) ?_
  rintro _ H1 ⟨fl,sz,lc,dp,dc,ps,cl,f,rfl,s1,hlc0,ndd,efl,Fd⟩
  refine sg0 [oR a,oR fl,oR sz,oR lc,none,none,none,none,none,none,none,none,none,none,none,oR dc,oR dp,none] (fun H' => H' = H1) (fun B hB' => ⟨_,rfl,fl,_,rfl,SqT.of efl,rfl,_,_,rfl,_,_,rfl,_,_,rfl,_,_,rfl,rfl,hB' _ rfl⟩) ?_
  rintro H1' rfl
  have ha1:SqL K H1' a (sc.map V.int):=Same.seq s1 ha
  refine seq_gen (fun σ H' => ∃ (ls:Addr) (qs:List Addr) (st:List Cl),σ = [oR a,oR fl,oR sz,oR lc,oR ls,none,none,none,none,none,none,none,none,none,none,oR dc,oR dp,none]∧Same H1' H'∧H1' ls = none∧H' ls = some (.lst (qs.map V.ref))∧Cells H' qs st∧(∀ c∈st,c∈cl)∧st.length≤5) (fun B hB' => ⟨_,rfl,_,rfl,a,sc,4,lc,ps,cl,rfl,ha1,hsc,by decide,by decide,Fd.hlc,Fd.C,Fd.pos,Fd.few,fun D qs gl H' s' hD eD C mem len => hB' _ _ ⟨D,qs,gl,rfl,s',hD,eD,C,mem,len⟩⟩) ?_
  rintro _ H2 ⟨ls,qs,st,rfl,s2,hls0,els,C,stm,lst⟩
  refine seq_gen (fun σ H' => ∃ (lg:Addr) (gs:List Addr) (gl:List Cl),σ = [oR a,oR fl,oR sz,oR lc,oR ls,oR lg,none,none,none,none,none,none,none,none,none,oR dc,oR dp,none]∧Same H2 H'∧H2 lg = none∧H' lg = some (.lst (gs.map V.ref))∧Cells H' gs gl∧(∀ c∈gl,c∈cl)∧gl.length≤5) (fun B hB' => ⟨_,rfl,_,rfl,a,sc,9,lc,ps,cl,rfl,Same.seq s2 ha1,hsc,by decide,by decide,s2 _ _ Fd.hlc,Fd.C.mono (fun _ _ e => s2 _ _ e),Fd.pos,Fd.few,fun D qs gl H' s' hD eD C mem len => hB' _ _ ⟨D,qs,gl,rfl,s',hD,eD,C,mem,len⟩⟩) ?_
  rintro _ H3 ⟨lg,gs,gl,rfl,s3,hlg0,elg,CG,glm,lgl⟩
  refine seq_gen (fun σ H' => ∃ (hd l1 l2:Addr),σ = [oR a,oR fl,oR sz,oR lc,oR ls,oR lg,oR hd,none,none,none,none,none,none,none,none,oR dc,oR dp,none]∧Same H3 H'∧H3 l1 = none∧H3 l2 = none∧H' hd = some (.tup [.ref l1,.ref l2])∧H' l1 = some (.lst (qs.map V.ref))∧H' l2 = some (.lst (gs.map V.ref))) (fun B hB' => ?_) ?_
  ·refine ⟨_,rfl,ls,_,rfl,.inl (SqL.of (s3 _ _ els)),fun l1 hl1 => ?_⟩
   have t1:=same_new (o:=.lst (qs.map V.ref)) (Same.refl H3) hl1
   have e1:upd H3 l1 (.lst (qs.map V.ref)) l1 = some (.lst (qs.map V.ref)):=upd_same
   generalize upd H3 l1 (.lst (qs.map V.ref)) = H4 at t1 e1
   refine ⟨_,rfl,lg,_,rfl,.inl (SqL.of (t1 _ _ elg)),fun l2 hl2 => ?_⟩
   have t2:=same_new (o:=.lst (gs.map V.ref)) (Same.refl H4) hl2
   have e2:upd H4 l2 (.lst (gs.map V.ref)) l2 = some (.lst (gs.map V.ref)):=upd_same
   generalize upd H4 l2 (.lst (gs.map V.ref)) = H5 at t2 e2
   refine ⟨sL2,fun hd hhd => ?_⟩
   have t3:=same_new (o:=.tup [.ref l1,.ref l2]) (Same.refl H5) hhd
   exact hB' _ _ ⟨hd,l1,l2,rfl,Same.trans t1 (Same.trans t2 t3),hl1,Same.nn t1 hl2,upd_same,t3 _ _ (t2 _ _ e1),t3 _ _ e2⟩
  rintro _ H4 ⟨hd,l1,l2,rfl,s4,hl10,hl20,ehd,el1,el2⟩
  refine seq_gen (fun σ H' => ∃ (A:Addr),σ = [oR a,oR fl,oR sz,oR lc,oR ls,oR lg,oR hd,none,none,none,none,none,none,none,oR A,oR dc,oR dp,none]∧Same H4 H'∧H4 A = none∧H' A = some (.lst [])) (fun B hB' => ⟨sL0,fun A hA => hB' _ _ ⟨A,rfl,same_new (Same.refl H4) hA,hA,upd_same⟩⟩) ?_
  rintro _ H5 ⟨A,rfl,s5,hA0,eA⟩
  refine seq_gen (fun σ H' => ∃ (Sd:Addr),σ = [oR a,oR fl,oR sz,oR lc,oR ls,oR lg,oR hd,none,none,none,none,none,none,none,oR A,oR dc,oR dp,oR Sd]∧Same H5 H'∧H5 Sd = none∧H' Sd = some (.dT [])) (fun B hB' => fun A hA => hB' _ _ ⟨A,rfl,same_new (Same.refl H5) hA,hA,upd_same⟩) ?_
  rintro _ H6 ⟨Sd,rfl,s6,hS0,eS⟩
  have s14:=Same.trans s2 (Same.trans s3 s4)
  have s16:=Same.trans s14 (Same.trans s5 s6)
  refine seq_gen (fun σ H' => ∃ (v7:Option V) (ks:List (List Key × V)),σ = [oR a,oR fl,oR sz,oR lc,oR ls,oR lg,oR hd,v7,none,none,none,none,none,none,oR A,oR dc,oR dp,oR Sd]∧OffP Sd H6 H'∧H' Sd = some (.dT ks)∧∀ c∈cl,(valV ks (k3 c)).isSome = true) (fun B hB' => ?_) ?_
  ·have elc6:=s16 _ _ Fd.hlc
   have C6:Cells H6 ps cl:=Fd.C.mono fun _ _ e => s16 _ _ e
   have nls:lc≠Sd:=ne_of elc6 eS (fun z => nomatch z)
   refine ⟨_,rfl,lc,rfl,⟨_,SqL.of elc6⟩,for_list (xs:=ps.map V.ref) (fun i σ H' => ∃ (v7:Option V) (ks:List (List Key × V)),σ = [oR a,oR fl,oR sz,oR lc,oR ls,oR lg,oR hd,v7,none,none,none,none,none,none,oR A,oR dc,oR dp,oR Sd]∧OffP Sd H6 H'∧H' Sd = some (.dT ks)∧ks.length≤i∧∀ c∈cl.take i,(valV ks (k3 c)).isSome = true) ⟨_,[],rfl,OffP.refl _ _,eS,Nat.le_refl _,(fun c h => nomatch h)⟩ (fun i σ H' _ h => by obtain ⟨_,_,_,z,_⟩:=h; exact SqL.of (z _ _ nls elc6)) ?_ ?_⟩
   ·rintro i v σ H7 hv ⟨v7,ks,rfl,o7,e7,l7,c7⟩
    rw [List.getElem?_map] at hv
    obtain ⟨p,hp,rfl⟩:=Option.map_eq_some_iff.mp hv
    obtain ⟨c,hc,ep⟩:=C6.at_ hp
    have ic:=(List.getElem?_eq_some_iff.mp hc).1
    have few:=Fd.few
    have ep7:=o7 _ _ (ne_of ep eS (fun z => nomatch z)) ep
    refine ⟨_,rfl,_,rfl,Sd,_,rfl,DPut.t (k:=k3 c) e7 ep7 (Nat.lt_of_le_of_lt (show _≤432 by omega) (by decide)),_,_,rfl,fun b u nb e => by rw [upd_ne nb]; exact o7 b u nb e,upd_same,Nat.le_trans (length_putK _ _ _) (by omega),fun d hd' => ?_⟩
    rw [valV_put]
    split
    ·rfl
    ·rename_i ne
     rw [take_snoc hc] at hd'
     rcases List.mem_append.mp hd' with z | z
     ·exact c7 d z
     ·rw [List.mem_singleton.mp z] at ne
      exact absurd rfl ne
   ·rintro σ H7 ⟨v7,ks,rfl,o7,e7,l7,c7⟩
    rw [List.length_map,Fd.C.1,take_all rfl] at c7
    exact hB' _ _ ⟨v7,ks,rfl,o7,e7,c7⟩
  rintro _ H7 ⟨v7,ks,rfl,o7,eS7,cov⟩
  have k7:∀ b u,H6 b = some u→b≠Sd→H7 b = some u:=fun b u e n => o7 _ _ n e
  have s06:=Same.trans s1 s16
  have nPS:t.pl_law≠Sd:=ne_of (s06 _ _ eP) eS (fun z => nomatch z)
  have eP7:H7 t.pl_law = some (.tbl #[]):=o7 _ _ nPS (s06 _ _ eP)
  have tb1:Tbl H7 t.pl_law (nestOf s_law 8).2.2.2 qP:=⟨#[],eP7,trivial,.inl rfl⟩
  have tb2:Tbl H7 t.pl_law (nestOf s_law 9).2.2.2 qT:=⟨#[],eP7,trivial,.inl rfl⟩
  generalize hc0:s.heap.objs.size = c0
  refine seq_gen (fun σ H' => ∃ (fp cP:Addr),σ = [oR a,oR fl,oR sz,oR lc,oR ls,oR lg,oR hd,v7,oR fp,none,none,none,none,none,oR A,oR dc,oR dp,oR Sd]∧OffP t.pl_law H7 H'∧Tbl H' t.pl_law (nestOf s_law 9).2.2.2 qT∧H' fp = some (FunE fp "_law_price" qP (nestOf s_law 8).1 (nestOf s_law 8).2.1 (nestOf s_law 8).2.2.1 (clP (c0 + 1 + 1 + 1 + 1) (c0 + 1 + 1 + 1) (c0 + 1)) cP)∧H' cP = some (CodeE cP qP)) (fun B hB' => ⟨tb1,fun c f' H' off tb keep hf ef ec => hB' _ _ ⟨f',c,rfl,off,keep _ _ (.inl (by decide)) tb2,hc0▸ef,ec⟩⟩) ?_
  rintro _ H8 ⟨fp,cP,rfl,o8,tb8,efp,ecP⟩
  refine seq_gen (fun σ H' => ∃ (ft cT:Addr),σ = [oR a,oR fl,oR sz,oR lc,oR ls,oR lg,oR hd,v7,oR fp,oR ft,none,none,none,none,oR A,oR dc,oR dp,oR Sd]∧OffP t.pl_law H8 H'∧H' ft = some (FunE ft "_law_through" qT (nestOf s_law 9).1 (nestOf s_law 9).2.1 (nestOf s_law 9).2.2.1 (clT (c0 + 1 + 1 + 1 + 1) (c0 + 1 + 1) (c0 + 1)) cT)∧H' cT = some (CodeE cT qT)) (fun B hB' => ⟨tb8,fun c f' H' off tb keep hf ef ec => hB' _ _ ⟨f',c,rfl,off,hc0▸ef,ec⟩⟩) ?_
  rintro _ H9 ⟨ft,cT,rfl,o9,eft,ecT⟩
  have eP8:∃ qs,H8 t.pl_law = some (.tbl qs):=by obtain ⟨qs,e,_⟩:=tb8; exact ⟨qs,e⟩
  obtain ⟨pq,eP8⟩:=eP8
  have kk:∀ {b:Addr} {u:HO},H6 b = some u→b≠Sd→(∀ ps,u≠.tbl ps)→H9 b = some u:=fun {b u} e n nt => by
   have nb:b≠t.pl_law:=fun z => by
    rw [z,s06 _ _ eP] at e
    exact nt _ (Option.some.inj e).symm
   exact o9 _ _ nb (o8 _ _ nb (o7 _ _ n e))
  have kT:∀ q ys,H1' q = some (.tup ys)→H9 q = some (.tup ys):=fun q ys e => kk (s16 _ _ e) (ne_of (s16 _ _ e) eS (fun z => nomatch z)) (by intro p z; cases z)
  have kL:∀ {q:Addr} {ys:List V},H6 q = some (.lst ys)→H9 q = some (.lst ys):=fun e => kk e (ne_of e eS (fun z => nomatch z)) (by intro p z; cases z)
  have s15:=Same.trans s14 s5
  have kD:∀ {q:Addr} {kvs:List (List Key × V)},H1' q = some (.dT kvs)→H9 q = some (.dT kvs):=fun e => kk (s16 _ _ e) (ne_of_none (s15 _ _ e) hS0) (by intro p z; cases z)
  have s56:=Same.trans s5 s6
  have s46:=Same.trans s4 s56
  have s36:=Same.trans s3 s46
  obtain ⟨kp,ekp1,ekp2⟩:=Fd.hp
  obtain ⟨kc,ekc1,ekc2⟩:=Fd.hc
  have nPl:∀ {q:Addr} {u:HO},H8 q = some u→(∀ ps,u≠.tbl ps)→q≠t.pl_law:=fun {q u} e n z => by
   rw [z,eP8] at e
   exact n _ (Option.some.inj e).symm
  have L9:LS H9 (c0 + 1) (c0 + 1 + 1 + 1 + 1) (c0 + 1 + 1 + 1) (c0 + 1 + 1) A Sd fp ft cP cT hd l1 l2 ls lg fl sz lc dp dc ps qs gs cl st gl f 0:=by
   refine ⟨⟨Fd.ok,kT _ _ Fd.hsz,kL (s16 _ _ Fd.hlc),Fd.C.mono kT,Fd.mem,Fd.pos,Fd.few,⟨kp,kD ekp1,ekp2⟩,⟨kc,kD ekc1,ekc2⟩⟩,kT _ _ efl,kL (s36 _ _ els),C.mono (fun q ys e => kk (s36 _ _ e) (ne_of (s36 _ _ e) eS (fun z => nomatch z)) (by intro p z; cases z)),lst,fun c hc => (Fd.mem c).mp (stm c hc),kL (s46 _ _ elg),CG.mono (fun q ys e => kk (s46 _ _ e) (ne_of (s46 _ _ e) eS (fun z => nomatch z)) (by intro p z; cases z)),lgl,fun c hc => (Fd.mem c).mp (glm c hc),kk (s56 _ _ ehd) (ne_of (s56 _ _ ehd) eS (fun z => nomatch z)) (by intro p z; cases z),kL (s56 _ _ el1),kL (s56 _ _ el2),Ne.symm (ne_of_none (s3 _ _ els) hl10),Ne.symm (ne_of_none elg hl20),kL (s6 _ _ eA),⟨ks,?_,fun c hc => cov c ((Fd.mem c).mpr hc)⟩,o9 _ _ (nPl efp (by intro p z; unfold FunE at z; cases z)) efp,o9 _ _ (nPl ecP (by intro p z; unfold CodeE at z; cases z)) ecP,eft,ecT,ne_of_none (s14 _ _ Fd.hlc) hA0,ne_of_none (s4 _ _ (s3 _ _ els)) hA0,ne_of_none (s4 _ _ elg) hA0,ne_of_none el1 hA0,ne_of_none el2 hA0⟩
   exact o9 _ _ (fun z => nPS z.symm) (o8 _ _ (fun z => nPS z.symm) eS7)
  have nd4:[c0 + 1,c0 + 1 + 1 + 1 + 1,c0 + 1 + 1 + 1,c0 + 1 + 1].Nodup:=by
   simp only [List.nodup_cons,List.mem_cons,List.not_mem_nil,or_false,not_or,not_false_eq_true,List.nodup_nil,and_true]
   omega
  clear kk kT kL kD nPl o9 o8 o7 k7 tb8 tb1 tb2 eS7 cov eP7 eP8 efp ecP eft ecT
  refine seq_gen (fun σ H' => ∃ (W M:Addr) (rl:List Rec) (k:Nat),σ = [oR a,oR fl,oR sz,oR lc,oR ls,oR lg,oR hd,v7,oR fp,oR ft,oR W,none,none,none,oR A,oR dc,oR dp,oR Sd]∧k≤4000∧OffP A H9 H'∧Ask H' A (0 + k)∧H9 W = none∧H9 M = none∧W≠M∧H' M = some (.dT (numL rl))∧Fin f st rl∧rl.length≤432∧Told H' W M f st gl rl∧∀ D tot,H' W = some (.tup [.str "way",.ref D,tot,.ref M])→H9 D = none∧D≠M∧D≠W) (fun B hB' => ?_) ?_
  ·subst hc0
   refine ⟨_,rfl,_,rfl,_,rfl,_,rfl,hd,_,0,.ref l1,rfl,rfl,SqT.of L9.hhd,rfl,_,rfl,hd,_,1,.ref l2,rfl,rfl,SqT.of L9.hhd,rfl,[.ref A,.ref Sd,.ref dp,.ref dc],.cons rfl (.cons rfl (.cons rfl (.cons rfl .nil))),wave_go L9 nd4 (by decide) L9.hl1 L9.nl.2.2.2.1 L9.C L9.on L9.lst L9.hl2 L9.nl.2.2.2.2 L9.CG L9.lgl fun W M rl H' k hk o a3 hT hM ne eM fin few told dn => hB' _ _ ⟨W,M,rl,k,rfl,hk,o,a3,hT,hM,ne,eM,fin,few,told,dn⟩⟩
  rintro _ Ha ⟨W,M,rl,k1,rfl,hk1,oa,aa,hW9,hM9,nWM,eMa,fina,fewa,tolda,dna⟩
  have La:=L9.off oa aa
  have nMd:∀ {q:Addr} {kvs:List (List Key × V)},H9 q = some (.dT kvs)→M≠q:=fun e z => by rw [z,e] at hM9; cases hM9
  obtain ⟨kp9,p91,_⟩:=L9.fld.hp
  obtain ⟨kc9,c91,_⟩:=L9.fld.hc
  refine sg0 [oR a,oR fl,oR sz,oR lc,oR ls,oR lg,oR hd,v7,oR fp,oR ft,oR W,none,none,none,oR A,oR dc,oR dp,oR Sd] (fun H' => Same Ha H') (fun B hB' => ⟨_,rfl,_,rfl,_,rfl,_,rfl,fl,sz,lc,dp,dc,W,M,ls,lg,ps,qs,gs,cl,st,gl,f,rl,rfl,La.hfl,La.fld,La.hls,La.C,La.lst,La.hlg,La.CG,La.lgl,eMa,nMd p91,nMd c91,fina,fewa,tolda,fun H' s' => ?_⟩) ?_
  ·refine ⟨true,rfl,iteF ⟨_,rfl,_,rfl,_,rfl,sL2,fun u hu => ?_⟩⟩
   have s9:=same_new (o:=.tup [.ref ls,.ref lg]) (Same.refl H') hu
   have e9:upd H' u (.tup [.ref ls,.ref lg]) u = some (.tup [.ref ls,.ref lg]):=upd_same
   generalize upd H' u (.tup [.ref ls,.ref lg]) = H2' at s9 e9
   have s29:=Same.trans s' s9
   have kT29:∀ q ys,Ha q = some (.tup ys)→H2' q = some (.tup ys):=fun _ _ e => s29 _ _ e
   refine ⟨hd,u,l1,l2,ls,lg,_,_,_,_,rfl,rfl,SqT.of (s29 _ _ La.hhd),SqT.of e9,(La.C.mono kT29).lt (s29 _ _ La.hl1),(La.CG.mono kT29).lt (s29 _ _ La.hl2),(La.C.mono kT29).lt (s29 _ _ La.hls),(La.CG.mono kT29).lt (s29 _ _ La.hlg),La.d1,La.d2,?_⟩
   rw [decide_eq_true rfl,decide_eq_true rfl]
   refine ⟨_,rfl,iteF ⟨_,rfl,A,_,rfl,.inl (SqL.of (s29 _ _ aa)),rfl,List.all_eq_true.mpr (fun x hx => by rw [List.eq_of_mem_replicate hx]; rfl),?_⟩⟩
   show ∃ k,V.bl (inV _ _) = V.bl k∧_
   rw [no_false]
   exact ⟨false,rfl,iteF (hB' _ s29)⟩
  rintro Hb sb
  have Lb:=La.off (fun _ _ _ e => sb _ _ e) (sb _ _ La.ask)
  refine seq_gen (fun σ H' => ∃ (W2 M2:Addr) (r2:List Rec) (k:Nat),σ = [oR a,oR fl,oR sz,oR lc,oR ls,oR lg,oR hd,v7,oR fp,oR ft,oR W,oR W2,none,none,oR A,oR dc,oR dp,oR Sd]∧k≤4000∧OffP A Hb H'∧Ask H' A (0 + k1 + k)∧Hb M2 = none∧H' M2 = some (.dT (numL r2))∧Fin f gl r2∧r2.length≤432∧Told H' W2 M2 f gl st r2) (fun B hB' => ?_) ?_
  ·subst hc0
   refine ⟨_,rfl,_,rfl,_,rfl,_,rfl,_,rfl,[.ref A,.ref Sd,.ref dp,.ref dc],.cons rfl (.cons rfl (.cons rfl (.cons rfl .nil))),wave_go Lb nd4 (by omega) Lb.hlg Lb.nl.2.2.1 Lb.CG Lb.og Lb.lgl Lb.hls Lb.nl.2.1 Lb.C Lb.lst fun W M rl H' k hk o a3 hT hM ne eM fin few told dn => hB' _ _ ⟨W,M,rl,k,rfl,hk,o,a3,hM,eM,fin,few,told⟩⟩
  rintro _ Hc ⟨W2,M2,r2,k2,rfl,hk2,oc,ac,hM2,eM2,fin2,few2,told2⟩
  have Lc:=Lb.off oc ac
  have nM2:∀ {q:Addr} {kvs:List (List Key × V)},H9 q = some (.dT kvs)→q≠A→M2≠q:=fun e n z => by rw [z,sb _ _ (oa _ _ n e)] at hM2; cases hM2
  have nDA:∀ {q:Addr} {kvs:List (List Key × V)},H9 q = some (.dT kvs)→q≠A:=fun e => ne_of e L9.ask (fun z => nomatch z)
  refine sg0 [oR a,oR fl,oR sz,oR lc,oR ls,oR lg,oR hd,v7,oR fp,oR ft,oR W,oR W2,none,none,oR A,oR dc,oR dp,oR Sd] (fun H' => Same Hc H') (fun B hB' => ⟨_,rfl,_,rfl,_,rfl,_,rfl,fl,sz,lc,dp,dc,W2,M2,lg,ls,ps,gs,qs,cl,gl,st,f,r2,rfl,Lc.hfl,Lc.fld,Lc.hlg,Lc.CG,Lc.lgl,Lc.hls,Lc.C,Lc.lst,eM2,nM2 p91 (nDA p91),nM2 c91 (nDA c91),fin2,few2,told2,fun H' s' => ⟨true,rfl,iteF (hB' _ s')⟩⟩) ?_
  rintro Hd sd
  have nMA:M≠A:=fun z => by rw [z,show H9 A = _ from L9.ask] at hM9; cases hM9
  have nWA:W≠A:=fun z => by rw [z,show H9 A = _ from L9.ask] at hW9; cases hW9
  have mv:∀ {q:Addr} {u:HO},q≠A→Ha q = some u→Hd q = some u:=fun n e => sd _ _ (oc _ _ n (sb _ _ e))
  have oad:OffP A H9 Hd:=fun b u n e => mv n (oa _ _ n e)
  have askd:Ask Hd A (0 + k1 + k2):=sd _ _ ac
  have toldd:Told Hd W M f st gl rl:=tolda.keep (fun q ys e => mv (ne_of e La.ask (fun z => nomatch z)) e) fun D tot e ys eD => mv (fun z => by have:=(dna D tot e).1; rw [z,show H9 A = _ from L9.ask] at this; cases this) eD
  have eMd:Hd M = some (.dT (numL rl)):=mv nMA eMa
  obtain ⟨ts,eWd,lW⟩:=toldd.last
  refine sg1 (fun (N:Addr) => [oR a,oR fl,oR sz,oR lc,oR ls,oR lg,oR hd,v7,oR fp,oR ft,oR W,oR W2,oR N,none,oR A,oR dc,oR dp,oR Sd]) (fun N H' => Same Hd H'∧Hd N = none∧H' N = some (.dT (numL rl))) (fun B hB' => ⟨_,rfl,1,rfl,W,_,-1,.ref M,rfl,rfl,SqT.of eWd,lW,M,_,rfl,eMd,nd_hash L9.fld.ok fina.nd (fun x hx => let ⟨n,e⟩:=fina.on x hx; L9.fld.ok.on _ n e),fun N hN => hB' _ _ ⟨same_new (Same.refl Hd) hN,hN,upd_same⟩⟩) ?_
  rintro N He ⟨se,hN,eN⟩
  have eMe:=se _ _ eMd
  have eWe:=se _ _ eWd
  have nNM:N≠M:=fun z => by rw [z,eMd] at hN; cases hN
  refine sg0 [oR a,oR fl,oR sz,oR lc,oR ls,oR lg,oR hd,v7,oR fp,oR ft,oR W,oR W2,oR N,none,oR A,oR dc,oR dp,oR Sd] (fun H' => OffP M He H') (fun B hB' => ⟨_,rfl,1,rfl,W,_,-1,.ref M,rfl,rfl,SqT.of eWe,lW,.inr (.inr (.inl ⟨rfl,.inr ⟨_,eMe⟩⟩)),M,_,rfl,rfl,eMe,hB' _ fun b u n e => by rw [upd_ne n]; exact e⟩) ?_
  rintro Hf of
  have gf:∀ {b:Addr} {u:HO},H9 b = some u→b≠A→Hf b = some u:=fun e n => of _ _ (ne_of_none e hM9) (se _ _ (oad _ _ n e))
  have askf:Ask Hf A (0 + k1 + k2):=of _ _ (Ne.symm nMA) (se _ _ askd)
  have eNf:=of _ _ nNM eN
  refine sg0 [oR a,oR fl,oR sz,oR lc,oR ls,oR lg,oR hd,v7,oR fp,oR ft,oR W,oR W2,oR N,none,oR A,oR dc,oR dp,oR Sd] (fun H' => OffP A H9 H'∧Ask H' A (0 + k1 + k2)∧H' N = some (.dT (numL rl))) (fun B hB' => ?_) ?_
  ·rcases tolda with ⟨_,e⟩ | ⟨D,ws,line,x,e,eD,_⟩
   ·have e1:=of _ _ nWM (se _ _ (mv nWA e))
    refine ⟨_,rfl,W,_,0,.str "shut",rfl,rfl,SqT.of e1,rfl,rfl,_,rfl,iteB (fun z => ?_) fun _ => hB' _ ⟨fun b u n e => gf e n,askf,eNf⟩⟩
    exact absurd (of_decide_eq_true z) (by decide)
   ·obtain ⟨d1,d2,d3⟩:=dna _ _ e
    have nDA':D≠A:=fun z => by rw [z,show H9 A = _ from L9.ask] at d1; cases d1
    have e1:=of _ _ nWM (se _ _ (mv nWA e))
    have e2:=of _ _ d2 (se _ _ (mv nDA' eD))
    refine ⟨_,rfl,W,_,0,.str "way",rfl,rfl,SqT.of e1,rfl,rfl,_,rfl,iteB (fun z => ⟨_,rfl,W,_,1,.ref D,rfl,rfl,SqT.of e1,rfl,.inl ⟨rfl,_,SqL.of e2⟩,D,_,rfl,rfl,e2,hB' _ ⟨fun b u n e => ?_,?_,?_⟩⟩) fun z => absurd rfl (of_decide_eq_false z)⟩
    ·rw [upd_ne (ne_of_none e d1)]
     exact gf e n
    ·show upd Hf D _ A = _
     rw [upd_ne (Ne.symm nDA')]
     exact askf
    ·rw [upd_ne (ne_of eNf e2 (fun z => nomatch z))]
     exact eNf
  rintro Hg ⟨og,ag,eNg⟩
  have Lg:=L9.off og ag
  refine seq_gen (fun σ H' => ∃ (W3 M3:Addr) (r3:List Rec),σ = [oR a,oR fl,oR sz,oR lc,oR ls,oR lg,oR hd,v7,oR fp,oR ft,oR W,oR W2,oR N,oR W3,oR A,oR dc,oR dp,oR Sd]∧OffP A Hg H'∧(∃ n,Ask H' A n)∧Hg M3 = none∧H' M3 = some (.dT (numL r3))∧Fin f st r3∧r3.length≤432∧Told H' W3 M3 f st gl r3) (fun B hB' => ?_) ?_
  ·subst hc0
   refine ⟨_,rfl,_,rfl,_,rfl,_,rfl,_,rfl,[.ref A,.ref Sd,.ref dp,.ref dc],.cons rfl (.cons rfl (.cons rfl (.cons rfl .nil))),wave_go Lg nd4 (by omega) Lg.hls Lg.nl.2.1 Lg.C Lg.on Lg.lst Lg.hlg Lg.nl.2.2.1 Lg.CG Lg.lgl fun W M rl H' k hk o a3 hT hM ne eM fin few told dn => hB' _ _ ⟨W,M,rl,rfl,o,⟨_,a3⟩,hM,eM,fin,few,told⟩⟩
  rintro _ Hh ⟨W3,M3,r3,rfl,oh,⟨n3,ah⟩,hM3,eM3,fin3,few3,told3⟩
  have Lh:=Lg.off oh ah
  have nM3:∀ {q:Addr} {kvs:List (List Key × V)},H9 q = some (.dT kvs)→M3≠q:=fun e z => by rw [z,og _ _ (nDA e) e] at hM3; cases hM3
  obtain ⟨ts3,eW3,lW3⟩:=told3.last
  refine ⟨_,rfl,1,rfl,W3,_,-1,.ref M3,rfl,rfl,SqT.of eW3,lW3,_,rfl,M3,N,numL r3,numL rl,rfl,rfl,eM3,oh _ _ (ne_of eNg ag (fun z => nomatch z)) eNg,?_,fin3.val fina,true,rfl,iteT ⟨_,rfl,_,rfl,_,rfl,_,rfl,fl,sz,lc,dp,dc,W3,M3,ls,lg,ps,qs,gs,cl,st,gl,f,r3,rfl,Lh.hfl,Lh.fld,Lh.hls,Lh.C,Lh.lst,Lh.hlg,Lh.CG,Lh.lgl,eM3,nM3 p91,nM3 c91,fin3,few3,told3,fun H' s' => q _⟩⟩
  unfold numL
  rw [List.length_map,List.length_map]
  exact Nat.le_antisymm (fin3.lens fina) (fina.lens fin3)
end
end K61
namespace K61
open PySem L2 Wd TS
section
variable {P:Program} {w:World} {K:PySem.W.Frag} {mg:Str→Option Value} {base:Heap} {t:Adr}
theorem law_fn (T:Txt K mg t) {h:Heap} (KX:K.In h) (hT:∀ p∈[t.pl_law],h.get? p = some (PySem.W.tabObj #[])):∃ (fd:FuncData) (tabs:List Addr),(∀ (s:Shared) (u:Value),BindsTo s fd ⟨[u],[]⟩ [("_law_script",u)])∧(∀ p∈tabs,isCodeTable h p∧h.get? p = some (PySem.W.tabObj #[])∧K.lookup p = none) ∧
  ∀ base:Heap,K.In base→base.Ns mainGlobals mg→BMod mg base→FnOk P w K mg base (XC P w) 10 t.f_law fd ["_law_script"] (spLaw K tabs):=by
 obtain ⟨fd,F,b⟩:=T.F_law
 refine ⟨fd,tabsOf t,fun s u => ?_,fun p hp => ⟨?_,hT p hp,?_⟩,fun base _ _ hB => law_ok T hB F⟩
 ·obtain ⟨oc,od,kV,doc,pm,an,ct,osl,rfl,_,_⟩:=F.ex
  exact .of_eq rfl
 ·obtain rfl:p = t.pl_law:=by simpa [tabsOf] using hp
  exact ((PySem.W.codeHd_of_K KX T.hd_law).tab (hT _ hp)).isCodeTable
 ·obtain rfl:p = t.pl_law:=by simpa [tabsOf] using hp
  exact T.nl_law
end
theorem walk {l:PySem.W.OpenLaw} {q:Program} {loose:List Str} {XP:(Str→Option Value)→Heap→Prop} {YP:World→Heap→Prop} {d:DefRec} {K:Params→PySem.W.Frag} (hn:l.most = some 63) (hdf:d.params.defaults = [])
  (hY:∀ (w:World) (h:Heap),YP w h→(K w.params).In h)
  (F:∀ (w:World) (mg:Str→Option Value) (fa:Addr) (h:Heap),YP w h→(K w.params).In h→h.Ns mainGlobals mg→mg d.name = some (.ref fa) →
   ∃ (fd:FuncData) (tabs:List Addr),(∀ (s:Shared) (u:Value),BindsTo s fd ⟨[u],[]⟩ [("_law_script",u)])∧(∀ p∈tabs,isCodeTable h p∧h.get? p = some (PySem.W.tabObj #[])∧(K w.params).lookup p = none) ∧
    ∀ base:Heap,(K w.params).In base→base.Ns mainGlobals mg→BMod mg base→FnOk l.prog w (K w.params) mg base (XC l.prog w) 10 fa fd ["_law_script"] (spLaw (K w.params) tabs)) :
  PySem.W.WalkO q loose XP YP l.row.toRowW d [] (fun f vs => PySem.call f vs) :=
 L2.walk_ofT (n:=63) (k:=10) (x:="_law_script") (sp:=spLaw) hn (by decide) hdf ⟨fun _ => rfl,by decide,by decide⟩ hY F fun K tabs H a ns hl hS hT => ⟨a,ns,rfl,hS,hl,hT,fun _ => rfl⟩
end K61
open PySem PySem.W PyProof.Rows
set_option maxRecDepth 100000 in
set_option maxHeartbeats 0 in
theorem PySem.Challenge.cw_copperbook_k61_whole_least_dear_holds : PySem.Challenge.rw_copperbook_k61_whole_least_dear.Holds := by
 w_on; o_law; k_head; (case hw => w_witness2)
 k_fill
 refine K61.walk (l:=PySem.Challenge.rw_copperbook_k61_whole_least_dear) rfl rfl (fun w h Y => PySem.W.km_in_of Y) ?F
 case F =>
  intro w mg fa h Y KX G hmg
  have hT8:=PySem.W.km_tabs_of Y
  have TT:∃ t:K61.Adr,K61.Txt (L2.KOf KX) mg t∧∀ p∈[t.pl_law],h.get? p = some (PySem.W.tabObj #[]):=by
   dsimp only [L2.KOf]
   refine' K61.txt_mk KX G ?a_beside ?l_beside ?cc_beside ?k_beside ?a_over_and_under ?l_over_and_under ?cc_over_and_under ?k_over_and_under ?a_wave ?l_wave ?cc_wave ?k_wave ?a_spread_wave ?l_spread_wave ?cc_spread_wave ?k_spread_wave ?a_steps ?l_steps ?cc_steps ?k_steps ?a_priced ?l_priced ?cc_priced ?k_priced ?a_in_size ?l_in_size ?cc_in_size ?k_in_size ?a_put_in ?l_put_in ?cc_put_in ?k_put_in ?a_way_to ?l_way_to ?cc_way_to ?k_way_to ?a_law_cell_at ?l_law_cell_at ?cc_law_cell_at ?k_law_cell_at ?a_law_mixed ?l_law_mixed ?cc_law_mixed ?k_law_mixed ?a_law_prices ?l_law_prices ?cc_law_prices ?k_law_prices ?a_law_field ?l_law_field ?cc_law_field ?k_law_field ?a_law_some ?l_law_some ?cc_law_some ?k_law_some ?a_law_steps ?l_law_steps ?cc_law_steps ?k_law_steps ?a_law_numbers ?l_law_numbers ?cc_law_numbers ?k_law_numbers ?a_law_way ?l_law_way ?cc_law_way ?k_law_way ?a_law_told ?l_law_told ?cc_law_told ?k_law_told ?a_law ?l_law ?cc_law ?k_law ?ko_law ?kp_law ?ch_law ?nl_law ?tb_law ?n_isinstance ?n_int ?n_bool ?n_list ?n_tuple ?n_dict ?n_len ?n_range ?n_min ?n_divmod
   (case a_beside => k_is)
   (case l_beside => k_is)
   (case cc_beside => k_is)
   (case k_beside => k_is)
   (case a_over_and_under => k_is)
   (case l_over_and_under => k_is)
   (case cc_over_and_under => k_is)
   (case k_over_and_under => k_is)
   (case a_wave => k_is)
   (case l_wave => k_is)
   (case cc_wave => k_is)
   (case k_wave => k_is)
   (case a_spread_wave => k_is)
   (case l_spread_wave => k_is)
   (case cc_spread_wave => k_is)
   (case k_spread_wave => k_is)
   (case a_steps => k_is)
   (case l_steps => k_is)
   (case cc_steps => k_is)
   (case k_steps => k_is)
   (case a_priced => k_is)
   (case l_priced => k_is)
   (case cc_priced => k_is)
   (case k_priced => k_is)
   (case a_in_size => k_is)
   (case l_in_size => k_is)
   (case cc_in_size => k_is)
   (case k_in_size => k_is)
   (case a_put_in => k_is)
   (case l_put_in => k_is)
   (case cc_put_in => k_is)
   (case k_put_in => k_is)
   (case a_way_to => k_is)
   (case l_way_to => k_is)
   (case cc_way_to => k_is)
   (case k_way_to => k_is)
   (case a_law_cell_at => k_is)
   (case l_law_cell_at => k_is)
   (case cc_law_cell_at => k_is)
   (case k_law_cell_at => k_is)
   (case a_law_mixed => k_is)
   (case l_law_mixed => k_is)
   (case cc_law_mixed => k_is)
   (case k_law_mixed => k_is)
   (case a_law_prices => k_is)
   (case l_law_prices => k_is)
   (case cc_law_prices => k_is)
   (case k_law_prices => k_is)
   (case a_law_field => k_is)
   (case l_law_field => k_is)
   (case cc_law_field => k_is)
   (case k_law_field => k_is)
   (case a_law_some => k_is)
   (case l_law_some => k_is)
   (case cc_law_some => k_is)
   (case k_law_some => k_is)
   (case a_law_steps => k_is)
   (case l_law_steps => k_is)
   (case cc_law_steps => k_is)
   (case k_law_steps => k_is)
   (case a_law_numbers => k_is)
   (case l_law_numbers => k_is)
   (case cc_law_numbers => k_is)
   (case k_law_numbers => k_is)
   (case a_law_way => k_is)
   (case l_law_way => k_is)
   (case cc_law_way => k_is)
   (case k_law_way => k_is)
   (case a_law_told => k_is)
   (case l_law_told => k_is)
   (case cc_law_told => k_is)
   (case k_law_told => k_is)
   (case a_law => k_is)
   (case l_law => k_is)
   (case cc_law => k_is)
   (case k_law => k_is)
   (case ko_law => k_is)
   (case kp_law => exact rfl)
   (case ch_law => kernel_rfl)
   (case nl_law => kernel_rfl)
   (case tb_law => exact hT8 _ (by decide))
   (case n_isinstance => k_is)
   (case n_int => k_is)
   (case n_bool => k_is)
   (case n_list => k_is)
   (case n_tuple => k_is)
   (case n_dict => k_is)
   (case n_len => k_is)
   (case n_range => k_is)
   (case n_min => k_is)
   (case n_divmod => k_is)
  obtain ⟨t,T,hT⟩:=TT
  have e:=hmg.symm.trans T.g_law
  cases e
  exact K61.law_fn T KX hT
