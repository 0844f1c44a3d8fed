import PyProof.Rows.All
import Wide.All
import OpenK.AllK
import Wide.FinOn
import PyProof.Seq
import PyProof.RangeIter
import PyProof.TupleIter
import PyProof.StrLoop
import PyProof.WalkInts
import PyProof.StationsW
import PyProof.ZipIter
import PyProof.ListNew
import Lean
import PyProof.EqAt
import PyProof.EqKinds
import PyProof.TupleCall
import PyProof.NeKinds
import KE.IntTextLaws
import KE.KIntText
import PyProof.Draws
import PyProof.EnumMake
import PyProof.EnumFor
import PyProof.NsDelKeeps
import PyProof.Rows.StrFit
import PyProof.Rows.SortShellK
import PyProof.DictKinds
import KE.KDictList
import PyProof.DictWalks
import KE.KEqDict
import PyProof.RaisesDict
import PySem.SetOps
import PyProof.FactsAll.set_1
import PyProof.FactsAll.set_2
import PyProof.LongRange
import PyProof.MaxThree
import KE.KDictOf
import PySem.Challenge.RW_copperbook_k71_whole_fewest_lanes
set_option Elab.async false
set_option linter.all false
set_option maxRecDepth 100000
/- These names keep the theorem's opening from writing out equations that only make the build larger: what is built must stay
   below 64 MiB. They say nothing and are used nowhere. -/
namespace PySem.W.Fast
def tw17539221619771369397:=0
def tw9793795901563023407:=0
def tw1745451073112371948:=0
def tw22660717062686410:=0
def tw14547721697907295032:=0
def tw13131795088379398831:=0
def tw11544163947732355355:=0
def tw1301746269619656951:=0
def tw13626551568479341035:=0
def tw9415397867128184094:=0
def tw12628150605468726281:=0
def tw15751086637198910307:=0
def tw18090137096817123120:=0
def tw18235376020288776492:=0
def tw3582362050128664852:=0
def tw17940208320602616286:=0
def tw6679765444304429717:=0
def tw15037942583948697654:=0
def te9940616716184725428:=0
def tw10990691710109507385:=0
def tw8232352606890440879:=0
def tw11514602039476190001:=0
def tw5960619892837676592:=0
def tw2270614873994866043:=0
def tw13286194387080545345:=0
def tw14866615095217291115:=0
def tw17647490754842848505:=0
def tw12944298483297592003:=0
def tw5133459321096617075:=0
def tw1159563192417013002:=0
def tw8258974632671050353:=0
def tw8863010524369762684:=0
def tw13177853213931757100:=0
def tw6861944675112859093:=0
def tw7288866396126492239:=0
end PySem.W.Fast
namespace L2
open PySem
inductive Chn (h:Heap) (D:List Addr):Value→Prop
 | nil:Chn h D .none
 | cons {b:Addr} {ob:Obj} {us:Array Value} {c:Value}:b∈D→h.get? b = some ob→ob.data = .fields us→us[2]? = some c→Chn h D c→Chn h D (.ref b)
theorem Chn.kept {h h':Heap} {D D':List Addr} {v:Value} (n:Chn h D v) (k:∀ b∈D,∀ o,h.get? b = some o→h'.get? b = some o) (d:∀ b∈D,b∈D'):Chn h' D' v:=by
 induction n with
 | nil => exact .nil
 | cons q1 q2 q3 q4 _ ih => exact .cons (d _ q1) (k _ q1 _ q2) q3 q4 ih
theorem Chn.small {h:Heap} {D:List Addr} {v:Value} (n:Chn h D v):∃ D',Chn h D' v∧∀ b∈D',∃ (o:Obj) (us:Array Value),h.get? b = some o∧o.data = .fields us∧2 < us.size:=by
 induction n with
 | nil => exact ⟨[],.nil,fun b hb => absurd hb (by simp)⟩
 | @cons b ob us c q1 q2 q3 q4 _ ih =>
  obtain ⟨D',m,l⟩:=ih
  refine ⟨b :: D',.cons (by simp) q2 q3 q4 (m.kept (fun _ _ _ e => e) fun d hd => List.mem_cons_of_mem _ hd),fun d hd => ?_⟩
  rcases List.mem_cons.mp hd with rfl | hd
  ·exact ⟨ob,us,q2,q3,(Array.getElem?_eq_some_iff.mp q4).1⟩
  ·exact l d hd
def HdL (A:Around) (h:Heap) (D:List Addr):Prop:=A.handled = none∨∃ ea:Addr,A.handled = some (.ref ea)∧Chn h D (.ref ea)
def HdN (A:Around) (h:Heap):Prop:=∃ D,HdL A h D
theorem HdL.keptD {A:Around} {h h':Heap} {D:List Addr} (n:HdL A h D) (k:∀ b∈D,∀ o,h.get? b = some o→h'.get? b = some o):HdL A h' D:=by
 rcases n with z | ⟨ea,h1,h2⟩
 ·exact .inl z
 ·exact .inr ⟨ea,h1,h2.kept k fun _ q => q⟩
theorem HdN.small {A:Around} {h:Heap} (n:HdN A h):∃ D,HdL A h D∧∀ b∈D,∃ (o:Obj) (us:Array Value),h.get? b = some o∧o.data = .fields us∧2 < us.size:=by
 obtain ⟨D,n⟩:=n
 rcases n with z | ⟨ea,h1,h2⟩
 ·exact ⟨[],.inl z,fun b hb => absurd hb (by simp)⟩
 ·obtain ⟨D',m,l⟩:=h2.small
  exact ⟨D',.inr ⟨ea,h1,m⟩,l⟩
theorem HdN.but {A:Around} {h h':Heap} {it:Addr} (n:HdN A h) (k:Heap.SameBut it h h') (ne:∃ (o:Obj) (us:Array Value),h.get? it = some o∧o.data = .fields us∧us.size≤2):HdN A h':=by
 obtain ⟨D,n,l⟩:=n.small
 refine ⟨D,n.keptD fun b hb o e => (k.2 b fun q => ?_).trans e⟩
 obtain ⟨o1,us1,e1,e2,e3⟩:=l b hb
 obtain ⟨o2,us2,f1,f2,f3⟩:=ne
 rw [q,f1] at e1; cases e1
 rw [f2] at e2; cases e2
 omega
theorem entry_unchain:entryFor table "proto.unchain" = some Builtin.«proto.unchain»:=entryFor_of_tree (by kernel_rfl)
section
variable {prog:Program} {w:World} {A:Around} {E:Value→Shared→Prop} {s:Shared}
inductive Pth (h:Heap):Addr→Addr→Prop
 | refl (a:Addr):Pth h a a
 | step {a b o:Addr} {ob:Obj} {us:Array Value}:h.get? a = some ob→ob.data = .fields us→us[2]? = some (.ref b)→Pth h b o→Pth h a o
theorem Pth.snoc {h:Heap} {a o b:Addr} {ob:Obj} {us:Array Value} (p:Pth h a o) (h1:h.get? o = some ob) (h2:ob.data = .fields us) (h3:us[2]? = some (.ref b)):Pth h a b:=by
 induction p with
 | refl a => exact .step h1 h2 h3 (.refl b)
 | step q1 q2 q3 _ ih => exact .step q1 q2 q3 (ih h1)
def Far (h:Heap) (a o:Addr):Prop:=∃ (b:Addr) (ob:Obj) (us:Array Value),h.get? a = some ob∧ob.data = .fields us∧us[2]? = some (.ref b)∧Pth h b o
theorem Pth.far {h:Heap} {a o b:Addr} {ob:Obj} {us:Array Value} (p:Pth h a o) (h1:h.get? o = some ob) (h2:ob.data = .fields us) (h3:us[2]? = some (.ref b)):Far h a b:=by
 cases p with
 | refl => exact ⟨b,ob,us,h1,h2,h3,.refl b⟩
 | step q1 q2 q3 p => exact ⟨_,_,_,q1,q2,q3,p.snoc h1 h2 h3⟩
theorem unchain_on {e:Addr} {D:List Addr} {R:Result→Shared→Prop} (new:e ∉ D) (h:R (.ok (.ret .none)) s) {v:Value} (n:Chn s.heap D v):∀ (o slow:Addr) (tg:Bool),v = .ref o→Pth s.heap slow o→(tg = true→Far s.heap slow o) →
  codeAny (model prog w) A (.builtin "proto.unchain" ⟨[.ref e,.ref o,.ref slow,.bool tg],[]⟩) R s:=by
 induction n with
 | nil => intro o slow tg q; cases q
 | @cons b ob us c q1 q2 q3 q4 m ih =>
  intro o slow tg q p far
  cases q
  refine codeAny_builtin entry_unchain ?_
  unfold Builtin.«proto.unchain»
  dsimp only
  refine wpAny_bind (wpAny_field q2 q3 (x:=c) q4 ?_)
  cases m with
  | nil => exact wpAny_pure h
  | @cons b2 ob2 us2 c2 r1 r2 r3 r4 m2 =>
   have nbe:b2≠e:=fun q => new (q▸r1)
   rw [if_neg (show ¬ ((Value.ref b2 == Value.none) = true) from Bool.false_ne_true),if_neg (show ¬ ((Value.ref b2 == Value.ref e) = true) by simpa using nbe)]
   by_cases hs:b2 = slow
   ·subst hs
    rw [if_pos (by simp)]
    exact wpAny_bind (wpAny_rule (wpAny_pure h))
   ·rw [if_neg (show ¬ ((Value.ref b2 == Value.ref slow) = true) by simpa using hs)]
    cases tg with
    | false => exact wpAny_bind (wpAny_pure (wpAny_pure ⟨Code.quiet_builtin _ (by decide +kernel),ih b2 slow true rfl (p.snoc q2 q3 q4) fun _ => p.far q2 q3 q4⟩))
    | true =>
     obtain ⟨b3,ob3,us3,f1,f2,f3,p3⟩:=far rfl
     exact wpAny_bind (wpAny_field f1 f2 (x:=.ref b3) f3 (wpAny_pure ⟨Code.quiet_builtin _ (by decide +kernel),ih b2 b3 false rfl (p3.snoc q2 q3 q4) fun z => by cases z⟩))
theorem raise_on {α:Type} {Q:α→Shared→Prop} {e:Addr} {oe:Obj} {vs:Array Value} {D:List Addr} (hn:HdL A s.heap D) (he:s.heap.get? e = some oe) (hd:oe.data = .fields vs) (h2:2 < vs.size)
  (new:e ∉ D)
  (h:∀ h',(h' = s.heap∧A.handled = none)∨(∃ ea,A.handled = some (.ref ea)∧h' = s.heap.update e (Obj.mapFields (·.setIfInBounds 2 (.ref ea))))→Heap.SameBut e s.heap h'→(∃ o,h'.get? e = some o∧o.cls = oe.cls)→E (.ref e) { s with heap:=h' }):wpAny (model prog w) A (raiseNew (.ref e):Sem α) Q E s:=by
 unfold raiseNew
 refine wpAny_bind (wpAny_handled ?_)
 rcases hn with z | ⟨ea,z,n⟩
 ·rw [z]
  exact wpAny_bind (wpAny_pure (wpAny_throw (h s.heap (.inl ⟨rfl,z⟩) ⟨rfl,fun _ _ => rfl⟩ ⟨oe,he,rfl⟩)))
 ·have ne:ea≠e:=fun q => by cases n with | cons q1 => exact new (q▸q1)
  rw [z]
  dsimp only
  have hne:(Value.ref ea != Value.ref e) = true:=by
   rw [bne_iff_ne]; intro q; exact ne (Value.ref.inj q)
  rw [hne]
  have wf:∀ {P:Unit→Shared→Prop},P () { s with heap:=s.heap.update e (Obj.mapFields (·.setIfInBounds 2 (.ref ea))) }→wpAny (model prog w) A (updateField e 2 (.ref ea)) P E s:=fun {P} q => wpAny_setField he hd h2 q
  refine wpAny_bind (wpAny_holding (wpAny_runValue (unchain_on new ?_ n ea ea false rfl (.refl ea) fun z => by cases z)))
  exact wpAny_bind (wf (wpAny_throw (h _ (.inr ⟨ea,z,rfl⟩) (Heap.SameBut.update ..) ⟨_,Heap.get?_update_self _ he (Obj.isFreed_of_fields (Obj.data_mapFields hd _)),Obj.cls_mapFields ..⟩)))
theorem stop_on {α:Type} {Q:α→Shared→Prop} (hn:HdN A s.heap) (h:∀ h' e,(∀ b o,s.heap.get? b = some o→h'.get? b = some o)→(∃ o,h'.get? e = some o∧o.cls = .type "StopIteration")→E (.ref e) { s with heap:=h' }) :
  wpAny (model prog w) A (newExc (.type "StopIteration") [] >>= fun x => (raiseNew x:Sem α)) Q E s:=by
 refine wpAny_bind ?_
 unfold newExc newTuple
 refine wpAny_bind (wpAny_newObj_type ?_ (by show 0≤sizeLine; decide))
 refine wpAny_bind (m:=firstArgMember (.type "StopIteration") []) (wpAny_of_eq (a:=Value.none) rfl (wpAny_newObj_type ?_ (by size_fits)))
 generalize hp:s.heap.push _ = h1
 have k1:∀ b o,s.heap.get? b = some o→h1.get? b = some o:=fun b o e => hp▸Heap.get?_push_of_some _ e
 have k2:∀ ob b o,h1.get? b = some o→(h1.push ob).get? b = some o:=fun ob b o e => Heap.get?_push_of_some _ e
 obtain ⟨D,nD,lD⟩:=hn.small
 refine raise_on (e:=h1.objs.size) (vs:=_) (D:=D) ((nD.keptD fun b _ o e => k1 b o e).keptD fun b _ o e => k2 _ b o e) (Heap.get?_push_size _ rfl) rfl (by show 2 < 6; decide) (fun q => ?_) fun h' _ sb ex => h h' _ (fun b o e => (sb.2 b ?_).trans (k2 _ b o (k1 b o e))) ex
 ·obtain ⟨o,_,eo,_⟩:=lD _ q
  exact absurd (Heap.lt_size (k1 _ _ eo)) (Nat.lt_irrefl _)
 ·exact Nat.ne_of_lt (Heap.lt_size (k1 b o e))
theorem stopped {Q:Option Value→Shared→Prop} {e:Addr} (ex:∃ o,s.heap.get? e = some o∧o.cls = .type "StopIteration") (h:Q none s) :
  wpAny (model prog w) A (do if (← isInstance (.ref e) (.type "StopIteration")) = true then pure (none:Option Value) else throw (.ref e)) Q E s:=by
 obtain ⟨o,h1,h2⟩:=ex
 refine wpAny_bind (wpAny_isInstance (T:="StopIteration") (b:=true) ⟨o,h1,h2⟩ isSubtype_stop ?_)
 exact wpAny_pure h
theorem list_on {it l:Addr} {i:Nat} {items:Array Value} {Q:Option Value→Shared→Prop} (hn:HdN A s.heap) (hit:s.heap.IsListIter it l i) (hl:s.heap.IsList l items) (hx:items[i]? = none)
  (hQ:∀ h',Heap.ExtBut it s.heap h'→Q none { s with heap:=h' }):wpAny (model prog w) A (pyNext (.ref it)) Q E s:=by
 obtain ⟨o,ho,hc,hd⟩:=id hit
 obtain ⟨ol,hol,_,nl,hdl⟩:=hl
 unfold pyNext
 refine wpAny_bind (wpAny_attempt (wpAny_callSpecial?_slot (name:=Str.ofString "__next__") hit.typeIs slot_listiter_next (wpAny_call_entry slot_listiter_next hit.typeIs entry_listiter_next ?_ (args_listiter_next _))))
 refine (show ∀ {R:Fin→Shared→Prop} {F:Value→Shared→Prop},wpAny (model prog w) A.in1 (field (.ref it) 0 >>= _) R F s→wpAny (model prog w) A.in1 (Builtin.«list_iterator.__next__» _) R F s from fun z => z) (wpAny_bind (wpAny_field ho hd (x:=.ref l) rfl ?_))
 rw [if_neg (show ¬ ((Value.ref l == Value.none) = true) from Bool.false_ne_true)]
 refine wpAny_bind (wpAny_field (i:=1) ho hd (x:=.int i 0) rfl (wpAny_bind (wpAny_seqItems hol hdl ?_)))
 simp only [Int.toNat_natCast,hx]
 refine wpAny_bind (wpAny_rule (wpAny_bind (wpAny_setField ho hd (by simp) ?_)))
 have sb:Heap.SameBut it s.heap (s.heap.update it (Obj.mapFields (·.setIfInBounds 0 .none))):=Heap.SameBut.update ..
 refine stop_on (A:=A.in1) (s:={ s with heap:=_ }) (hn.but sb ⟨o,_,ho,hd,by simp⟩) fun h' e k ex => stopped (s:={ s with heap:=h' }) ex (hQ h' fun b o hb q => k b o ((sb.2 b hb).trans q))
theorem range_on {it:Addr} {x left step:Int} {Q:Option Value→Shared→Prop} (hn:HdN A s.heap) (hit:IsRangeIter s.heap it x left step) (hleft:left≤0)
  (hQ:∀ h',Heap.ExtBut it s.heap h'→Q none { s with heap:=h' }):wpAny (model prog w) A (pyNext (.ref it)) Q E s:=by
 have hT:s.TypeIs (.ref it) "range_iterator":=⟨_,hit,rfl⟩
 unfold pyNext
 refine wpAny_bind (wpAny_attempt (wpAny_callSpecial?_slot (name:=Str.ofString "__next__") hT F.slot_range_iterator_next (wpAny_call_entry F.slot_range_iterator_next hT F.entry_range_iterator_next ?_ (F.args_range_iterator_next_1 _))))
 refine (show ∀ {R:Fin→Shared→Prop} {F:Value→Shared→Prop},wpAny (model prog w) A.in1 (field (.ref it) 0 >>= _) R F s→wpAny (model prog w) A.in1 (Builtin.«range_iterator.__next__» _) R F s from fun z => z) (wpAny_bind (wpAny_field hit rfl (x:=rawInt x) rfl ?_))
 refine (show ∀ {k:Value→Sem Fin} {R:Fin→Shared→Prop} {F:Value→Shared→Prop},wpAny (model prog w) A.in1 (k (rawInt left)) R F s→wpAny (model prog w) A.in1 (field (.ref it) 1 >>= k) R F s from fun z => wpAny_bind (wpAny_field hit rfl (x:=rawInt left) rfl z)) ?_
 refine (show ∀ {k:Value→Sem Fin} {R:Fin→Shared→Prop} {F:Value→Shared→Prop},wpAny (model prog w) A.in1 (k (rawInt step)) R F s→wpAny (model prog w) A.in1 (field (.ref it) 2 >>= k) R F s from fun z => wpAny_bind (wpAny_field hit rfl (x:=rawInt step) rfl z)) ?_
 refine (show ∀ {a b:Sem Fin} {R:Fin→Shared→Prop} {F:Value→Shared→Prop},wpAny (model prog w) A.in1 a R F s→wpAny (model prog w) A.in1 (if left≤0 then a else b) R F s from fun z => by rw [if_pos hleft]; exact z) ?_
 refine wpAny_bind (wpAny_rule (wpAny_bind ?_))
 exact stop_on (A:=A.in1) hn fun h' e k ex => stopped (s:={ s with heap:=h' }) ex (hQ h' fun b o _ q => k b o q)
end
end L2
namespace L2
open PySem
def TrC (h base:Heap) (e:Addr) (cls:Value) (a0:Value × Value) (fl:Value):Prop :=
 ∃ oe vs T oT ts,h.get? e = some oe∧(oe.cls = cls∧vs[0]? = some a0.1∧vs[2]? = some a0.2)∧oe.data = .fields vs∧vs[1]? = some (.ref T)∧base.get? T = none∧T≠e∧h.get? T = some oT∧oT.data = .fields ts∧ts[3]? = some fl
structure StepC (base:Heap) (l:List Env) (e:Addr) (cls:Value) (a0:Value × Value) (fl:Value) (h h':Heap):Prop where
 st:base.StaysIn h'
 ff:h'.FunFrames base l
 tr:TrC h' base e cls a0 fl
 up:h.UpToSlots h'
section
variable {M:Model} {A:Around} {E:Value→Shared→Prop} {s:Shared} {base:Heap} {env:Env} {outer:List Env} {L e:Addr} {cls:Value} {a0:Value × Value}
theorem entry_c {oe:Obj} {vs:Array Value} {head:Value} {hadNext:Bool} {Q:Unit→Shared→Prop} (hfr:A.frames = some (env :: outer)) (hl:s.heap.FunFrames base (env :: outer)) (hf:env.frame = some L)
  (he:s.heap.get? e = some oe) (hkb:base.StaysIn s.heap) (hen:base.get? e = none) (hd:oe.data = .fields vs) (hsz:1 < vs.size) (h0:vs[0]? = some a0.1) (h2:vs[2]? = some a0.2)
  (h:∀ h',StepC base (env :: outer) e oe.cls a0 (rawInt L) s.heap h'→Q () { s with heap:=h' }) :
  wpAny M A (do let a ← frameOf env; let pl ← entryPlaceOf L hadNext; let b ← EntryCells.newEntry head a .none (rawInt L) .none pl; setField (.ref e) 1 b) Q E s:=by
 have rec1:∀ b o,s.heap.get? b = some o→(∀ us,o.data≠.fields us)→b≠e:=fun b o hb hn q => by
  subst q
  rw [he] at hb; cases hb
  exact hn vs hd
 have efr:e ∉ (env :: outer).filterMap (·.frame):=fun hm => by
  obtain ⟨_,o,ho,hn⟩:=hl.mem hm
  exact rec1 e o ho hn rfl
 refine wpAny_bind (wpAny_frameOf_fun hfr hl hf fun g hg => wpAny_bind (wpAny_entryPlaceOf fun pl hpl => ?_))
 unfold EntryCells.newEntry newFields
 refine wpAny_bind (wpAny_newObj_type ?_ (hpl.sizeOk5 _ _ _ _ _))
 generalize ho:(Obj.mk (.type "traceback") none (.fields ([head,.ref L,.none,rawInt L,.none] ++ (if pl.isEmpty then List.replicate 6 Value.none else pl)).toArray) #[]) = ot
 have hoc:ot.data = .fields ([head,.ref L,.none,rawInt L,.none] ++ (if pl.isEmpty then List.replicate 6 Value.none else pl)).toArray:=by rw [← ho]
 have eg:g.get? e = some oe:=(hg.2.1 e efr).trans he
 have bg:base.StaysIn g:=fun b o hb => (hg.2.1 b fun hm => by rw [(hl.mem hm).1] at hb; cases hb).trans (hkb b o hb)
 have nT:g.objs.size≠e:=Nat.ne_of_gt (Heap.lt_size eg)
 have e2:(g.push ot).get? e = some oe:=Heap.get?_push_of_some _ eg
 refine wpAny_setField e2 hd hsz (h _ ?_)
 have d3:=Obj.data_mapFields hd (·.setIfInBounds 1 (Value.ref g.objs.size))
 have e3:=Heap.get?_update_self (Obj.mapFields (·.setIfInBounds 1 (Value.ref g.objs.size))) e2 (Obj.isFreed_of_fields d3)
 have keep:∀ b o,b≠e→g.get? b = some o→((g.push ot).update e (Obj.mapFields (·.setIfInBounds 1 (Value.ref g.objs.size)))).get? b = some o:=fun b o hb q => by
  rw [Heap.get?_update_other _ _ (Ne.symm hb)]
  exact Heap.get?_push_of_some _ q
 have T3:((g.push ot).update e (Obj.mapFields (·.setIfInBounds 1 (Value.ref g.objs.size)))).get? g.objs.size = some ot:=by
  rw [Heap.get?_update_other _ _ (Ne.symm nT)]
  exact Heap.get?_push_size g (by rw [← ho]; rfl)
 refine ⟨fun b o hb => keep b o (fun q => by rw [q,hen] at hb; cases hb) (bg b o hb),hl.of_keeps fun b o hb hn => ?_,⟨_,_,g.objs.size,ot,_,e3,⟨Obj.cls_mapFields _ _,?_,?_⟩,d3,by simp [hsz],bg.fresh,nT,T3,hoc,?_⟩,fun b o hb hn => ?_⟩
 ·obtain ⟨sl,q⟩:=hg.2.2 b o hb
  exact ⟨_,keep b _ (rec1 b o hb hn) q,rfl⟩
 ·rw [Array.getElem?_setIfInBounds_ne (by decide)]; exact h0
 ·rw [Array.getElem?_setIfInBounds_ne (by decide)]; exact h2
 ·first | (simp; done) | (rcases hpl with rfl | ⟨_,_,_,_,_,_,_,rfl⟩ <;> simp)
 ·obtain ⟨sl,q⟩:=hg.2.2 b o hb
  exact ⟨sl,keep b _ (rec1 b o hb hn) q⟩
theorem flight_c {l:List Env} {fl:Value} {Q:Unit→Shared→Prop} (hkb:base.StaysIn s.heap) (hl:s.heap.FunFrames base l) (ht:TrC s.heap base e cls a0 fl)
  (h:∀ h',StepC base l e cls a0 .none s.heap h'→(∀ b o,s.heap.get? b = some o→(∀ us,o.data≠.fields us)→h'.get? b = some o)→Q () { s with heap:=h' }):wpAny M A (setFlight (.ref e) none) Q E s:=by
 obtain ⟨oe,vs,T,oT,ts,he,hc,hd,h1,hnT,hTe,hT,hdT,h3⟩:=ht
 have z3:3 < ts.size:=(Array.getElem?_eq_some_iff.mp h3).1
 have nrec:∀ b o,s.heap.get? b = some o→(∀ us,o.data≠.fields us)→T≠b:=fun b o hb hn q => by
  subst q
  rw [hT] at hb; cases hb
  exact hn ts hdT
 unfold setFlight
 refine wpAny_bind (wpAny_field he hd h1 ?_)
 rw [if_pos (show (Value.ref T != Value.none) = true by simp)]
 refine wpAny_setField hT hdT z3 (h _ ⟨fun b o hb => ?_,hl.of_keeps fun b o hb hn => ⟨o,?_,rfl⟩,⟨oe,vs,T,_,_,?_,hc,hd,h1,hnT,hTe,Heap.get?_update_self _ hT (Obj.isFreed_of_fields (Obj.data_mapFields hdT _)),Obj.data_mapFields hdT _,by simp [z3]⟩,fun b o hb hn => ⟨o.slots,?_⟩⟩ fun b o hb hn => ?_)
 ·rw [Heap.get?_update_other _ _ (fun q => by rw [← q,hnT] at hb; cases hb)]; exact hkb b o hb
 ·rw [Heap.get?_update_other _ _ (nrec b o hb hn)]; exact hb
 ·rw [Heap.get?_update_other _ _ hTe]; exact he
 ·rw [Heap.get?_update_other _ _ (nrec b o hb hn)]; exact hb
 ·rw [Heap.get?_update_other _ _ (nrec b o hb hn)]; exact hb
theorem note_first {oe:Obj} {vs:Array Value} {Q:Unit→Shared→Prop} (hfr:A.frames = some (env :: outer)) (hl:s.heap.FunFrames base (env :: outer)) (hf:env.frame = some L)
  (he:s.heap.get? e = some oe) (hkb:base.StaysIn s.heap) (hen:base.get? e = none) (hd:oe.data = .fields vs) (h1:vs[1]? = some .none) (h0:vs[0]? = some a0.1) (h2:vs[2]? = some a0.2)
  (h:∀ h',StepC base (env :: outer) e oe.cls a0 (rawInt L) s.heap h'→Q () { s with heap:=h' }):wpAny M A (noteFrame (.ref e) env) Q E s:=by
 unfold noteFrame
 simp only [hf]
 refine wpAny_bind (wpAny_field he hd h1 ?_)
 rw [if_neg (by decide)]
 exact entry_c hfr hl hf he hkb hen hd (Array.getElem?_eq_some_iff.mp h1).1 h0 h2 h
theorem note_next {Q:Unit→Shared→Prop} (hfr:A.frames = some (env :: outer)) (hl:s.heap.FunFrames base (env :: outer)) (hf:env.frame = some L) (ht:TrC s.heap base e cls a0 .none) (hkb:base.StaysIn s.heap) (hen:base.get? e = none)
  (h:∀ h',StepC base (env :: outer) e cls a0 (rawInt L) s.heap h'→Q () { s with heap:=h' }):wpAny M A (noteFrame (.ref e) env) Q E s:=by
 obtain ⟨oe,vs,T,oT,ts,he,⟨hc,h0,h2⟩,hd,h1,hnT,hTe,hT,hdT,h3⟩:=ht
 subst hc
 have nrec:∀ b o,s.heap.get? b = some o→(∀ us,o.data≠.fields us)→T≠b:=fun b o hb hn q => by
  subst q
  rw [hT] at hb; cases hb
  exact hn ts hdT
 unfold noteFrame
 simp only [hf]
 refine wpAny_bind (wpAny_field he hd h1 ?_)
 rw [if_pos (show (Value.ref T != Value.none) = true by simp)]
 refine wpAny_bind (wpAny_field hT hdT h3 ?_)
 rw [if_neg (show ¬ ((Value.none == rawInt L) = true) by simp [rawInt])]
 refine wpAny_bind (wpAny_setField hT hdT (Array.getElem?_eq_some_iff.mp h3).1 ?_)
 refine entry_c (s:={ s with heap:=_ }) hfr (hl.of_keeps fun b o hb hn => ⟨o,by rw [Heap.get?_update_other _ _ (nrec b o hb hn)]; exact hb,rfl⟩) hf (by rw [Heap.get?_update_other _ _ hTe]; exact he) (fun b o hb => by
  rw [Heap.get?_update_other _ _ (fun q => by rw [← q,hnT] at hb; cases hb)]; exact hkb b o hb) hen hd (Array.getElem?_eq_some_iff.mp h1).1 h0 h2 fun h' S => h h' ⟨S.st,S.ff,S.tr,fun b o hb hn => S.up b o (by rw [Heap.get?_update_other _ _ (nrec b o hb hn)]; exact hb) hn⟩
theorem leave_first {oe:Obj} {vs:Array Value} {Q:Unit→Shared→Prop} (hfr:A.frames = some (env :: outer)) (hl:s.heap.FunFrames base (env :: outer)) (hf:env.frame = some L)
  (he:s.heap.get? e = some oe) (hkb:base.StaysIn s.heap) (hen:base.get? e = none) (hd:oe.data = .fields vs) (h1:vs[1]? = some .none) (h0:vs[0]? = some a0.1) (h2:vs[2]? = some a0.2)
  (h:∀ h',StepC base (env :: outer) e oe.cls a0 .none s.heap h'→Q () { s with heap:=h' }):wpAny M A (leaving env (.ref e)) Q E s:=by
 unfold leaving
 refine wpAny_bind (note_first hfr hl hf he hkb hen hd h1 h0 h2 fun h1 S => flight_c (s:={ s with heap:=h1 }) S.st S.ff S.tr fun h2 S2 _ => h h2 ⟨S2.st,S2.ff,S2.tr,S.up.trans S2.up⟩)
theorem leave_next {Q:Unit→Shared→Prop} (hfr:A.frames = some (env :: outer)) (hl:s.heap.FunFrames base (env :: outer)) (hf:env.frame = some L) (ht:TrC s.heap base e cls a0 .none) (hkb:base.StaysIn s.heap) (hen:base.get? e = none)
  (h:∀ h',StepC base (env :: outer) e cls a0 .none s.heap h'→Q () { s with heap:=h' }):wpAny M A (leaving env (.ref e)) Q E s:=by
 unfold leaving
 refine wpAny_bind (note_next hfr hl hf ht hkb hen fun h1 S => flight_c (s:={ s with heap:=h1 }) S.st S.ff S.tr fun h2 S2 _ => h h2 ⟨S2.st,S2.ff,S2.tr,S.up.trans S2.up⟩)
end
end L2
namespace L2
open PySem
section
variable {prog:Program} {w:World} {A:Around} {E:Value→Shared→Prop} {s:Shared} {z TI TO i1 i2 l1 l2:Addr} {xs ys:Array Value}
end
end L2
namespace L2
open PySem PySem.Spec PyProof.Rows
abbrev Key:=Sum Int Str
def keyIs:Key→Value→Bool
 | .inl k,v => Value.isInt k v
 | .inr x,v => Value.isStrOf x v
def keyH (w:World):Key→Int
 | .inl k => hashInt k
 | .inr x => hashStr w x
theorem keyIs_shape:∀ {k:Key} {v:Value},keyIs k v = true→(∃ i t,k = Sum.inl i∧v = Value.int i t)∨(∃ x t,k = Sum.inr x∧v = Value.str x t)
 | .inl i,v,h => by
  obtain ⟨t,e⟩:=Value.isInt_shape (k:=i) (v:=v) h
  exact .inl ⟨i,t,rfl,e⟩
 | .inr x,v,h => by
  obtain ⟨t,e⟩:=Value.isStrOf_shape (x:=x) (v:=v) h
  exact .inr ⟨x,t,rfl,e⟩
theorem key_ll (a b:Int):decide ((Sum.inl a:Key) = Sum.inl b) = (a == b):=by
 by_cases e:a = b
 ·subst e; simp
 ·have h:¬ (Sum.inl a:Key) = Sum.inl b:=fun q => e (Sum.inl.inj q)
  rw [decide_eq_false h]
  exact (beq_eq_false_iff_ne.mpr e).symm
theorem key_rr (a b:Str):decide ((Sum.inr a:Key) = Sum.inr b) = decide (a = b):=by
 by_cases e:a = b
 ·subst e; simp
 ·have h:¬ (Sum.inr a:Key) = Sum.inr b:=fun q => e (Sum.inr.inj q)
  rw [decide_eq_false h,decide_eq_false e]
theorem key_lr (a:Int) (b:Str):decide ((Sum.inl a:Key) = Sum.inr b) = false:=decide_eq_false (fun q => nomatch q)
theorem key_rl (a:Str) (b:Int):decide ((Sum.inr a:Key) = Sum.inl b) = false:=decide_eq_false (fun q => nomatch q)
def mixKind (prog:Program) (w:World):PySem.KeyKind prog w Key where
 is:=keyIs
 hash:=keyH w
 inj:=fun v a b ha hb => by
  rcases keyIs_shape ha with ⟨i,t,rfl,rfl⟩ | ⟨x,t,rfl,rfl⟩
  ·rcases keyIs_shape hb with ⟨j,u,rfl,e⟩ | ⟨y,u,rfl,e⟩
   ·injection e with e1 _; rw [e1]
   ·exact nomatch e
  ·rcases keyIs_shape hb with ⟨j,u,rfl,e⟩ | ⟨y,u,rfl,e⟩
   ·exact nomatch e
   ·injection e with e1 _; rw [e1]
 byValue:=fun k v h => by
  rcases keyIs_shape h with ⟨i,t,rfl,rfl⟩ | ⟨x,t,rfl,rfl⟩ <;> rfl
 pyHash:=fun hv h => by
  rcases keyIs_shape hv with ⟨i,t,rfl,rfl⟩ | ⟨x,t,rfl,rfl⟩
  ·exact wpAny_pyHash_int h
  ·exact wpAny_pyHash_str h
 eqBool:=fun hu hv h => by
  rcases keyIs_shape hu with ⟨i,t,rfl,rfl⟩ | ⟨x,t,rfl,rfl⟩
  ·rcases keyIs_shape hv with ⟨j,u,rfl,rfl⟩ | ⟨y,u,rfl,rfl⟩
   ·rw [key_ll] at h; exact wpAny_eqBool_int h
   ·rw [key_lr] at h; exact SeqAt.EqAt.int_str i t y u _ _ _ _ h
  ·rcases keyIs_shape hv with ⟨j,u,rfl,rfl⟩ | ⟨y,u,rfl,rfl⟩
   ·rw [key_rl] at h; exact SeqAt.EqAt.str_int x t j u _ _ _ _ h
   ·rw [key_rr] at h; exact wpAny_eqBool_str h
 «strs»:=fun k x t v h => by
  rcases keyIs_shape h with ⟨i,u,rfl,e⟩ | ⟨y,u,rfl,e⟩
  ·exact nomatch e
  ·injection e with e1 _
   subst e1
   cases v <;> rfl
end L2
namespace L2
open PySem PySem.Spec PyProof.Rows
inductive V where
 | non | bl (b:Bool) | int (i:Int) | str (x:Str) | byt (b:Array UInt8) | flt (b:UInt64) | ref (a:Addr) | ty (n:String)
 deriving DecidableEq
def RelV:V→Value→Prop
 | .non,u => u = Value.none
 | .bl b,u => u = Value.bool b
 | .int i,u => ∃ t,u = Value.int i t
 | .str x,u => ∃ t,u = Value.str x t
 | .byt b,u => ∃ t,u = Value.bytes b t
 | .flt b,u => ∃ t,u = Value.float b t
 | .ref a,u => u = Value.ref a
 | .ty n,u => u = Value.type n
abbrev Vals:List V→List Value→Prop:=Paired RelV
theorem Vals.length {xs:List V} {us:List Value} (r:Vals xs us):xs.length = us.length:=Paired.length r
theorem Vals.get:∀ {xs:List V} {us:List Value} {i:Nat} {x:V},Vals xs us→xs[i]? = some x→∃ u,us[i]? = some u∧RelV x u
 | _,_,_,_,.nil,e => by simp at e
 | _,_,0,_,.cons r _,e => by simp at e; subst e; exact ⟨_,rfl,r⟩
 | _,_,i + 1,x,.cons _ t,e => by
  obtain ⟨u,h1,h2⟩:=Vals.get (i:=i) (x:=x) t (by simpa using e)
  exact ⟨u,by simpa using h1,h2⟩
theorem Vals.set {x:V} {u:Value} (r:RelV x u):∀ {xs:List V} {us:List Value} (i:Nat),Vals xs us→Vals (xs.set i x) (us.set i u)
 | _,_,_,.nil => .nil
 | _,_,0,.cons _ t => .cons r t
 | _,_,i + 1,.cons q t => .cons q (Vals.set r i t)
theorem Vals.append:∀ {xs ys:List V} {us ws:List Value},Vals xs us→Vals ys ws→Vals (xs ++ ys) (us ++ ws)
 | _,_,_,_,.nil,s => s
 | _,_,_,_,.cons r t,s => .cons r (Vals.append t s)
theorem Vals.take:∀ {xs:List V} {us:List Value} (n:Nat),Vals xs us→Vals (xs.take n) (us.take n)
 | _,_,0,_ => .nil
 | _,_,_ + 1,.nil => .nil
 | _,_,n + 1,.cons r t => .cons r (Vals.take n t)
theorem Vals.drop:∀ {xs:List V} {us:List Value} (n:Nat),Vals xs us→Vals (xs.drop n) (us.drop n)
 | _,_,0,r => r
 | _,_,_ + 1,.nil => .nil
 | _,_,n + 1,.cons _ t => Vals.drop n t
def RelO:Option V→Option Value→Prop
 | some v,some u => RelV v u
 | none,none => True
 | _,_ => False
def KV {κ:Type}:List (κ × V)→List (κ × Value)→Prop:=Paired fun (p:κ × V) (q:κ × Value) => p.1 = q.1∧RelV p.2 q.2
def kV:Key→V
 | .inl i => .int i
 | .inr x => .str x
inductive HO where
 | lst (xs:List V)
 | tup (xs:List V)
 | dK (kvs:List (Key × V)) | dT (kvs:List (List Key × V))
 | set (S:Int→Bool) (n:Nat)
 | ins (C dx:Addr) (fs:List (Str × V))
 | own (x:Addr)
 | xd (fs:List (Str × V))
 | met (f x:Addr)
 | rng (lo hi:Int)
 | frz (o:Obj) (u:HO)
 | tbl (ps:Array Value)
 | ext (φ:Heap→Prop)
abbrev Hp:=Addr→Option HO
def upd (H:Hp) (a:Addr) (o:HO):Hp:=fun b => if b = a then some o else H b
theorem upd_same {H:Hp} {a:Addr} {o:HO}:upd H a o a = some o:=by unfold upd; rw [if_pos rfl]
theorem upd_ne {H:Hp} {a b:Addr} {o:HO} (h:b≠a):upd H a o b = H b:=by unfold upd; rw [if_neg h]
theorem upd_upd {H:Hp} {a:Addr} {o u:HO}:upd (upd H a o) a u = upd H a u:=by
 funext b; unfold upd; split <;> rfl
theorem ne_of {H:Hp} {a b:Addr} {o u:HO} (h:H a = some o) (h':H b = some u) (d:o≠u):a≠b:=by
 intro e; subst e; rw [h] at h'; exact d (Option.some.inj h')
theorem ne_of_none {H:Hp} {a b:Addr} {o:HO} (h:H a = some o) (h':H b = none):a≠b:=by
 intro e; subst e; rw [h] at h'; cases h'
section
variable (P:Program) (w:World)
def ObjOk (H:Hp) (h:Heap) (a:Addr):HO→Prop
 | .lst xs => xs.length≤sizeLine∧∃ (its:List Value) (n:Nat),Vals xs its∧h.get? a = some { cls:=.type "list",data:=.seq its.toArray n }
 | .tup xs => xs.length≤sizeLine∧∃ its:List Value,Vals xs its∧IsTup h a its.toArray
 | .dK kvs => kvs.length≤sizeLine∧(a == sysModules) = false∧∃ vs,KV kvs vs∧h.DictOf (mixKind P w) a vs
 | .dT kvs => kvs.length≤sizeLine∧(a == sysModules) = false∧∃ xs:List (List Key × Addr × Value),
   Paired (fun (p:List Key × V) (q:List Key × Addr × Value) => p.1 = q.1∧H q.2.1 = some (.tup (p.1.map kV))∧RelV p.2 q.2.2) kvs xs ∧
   ∃ o es ep,h.get? a = some o∧o.ExactDict∧o.data = .dict es ep∧es.toList = xs.map (entryOfKey (tupleKind (mixKind P w)))∧(xs.map (·.1)).Nodup
 | .set S n => h.SetOf (intKind P w) a S n
 | .ins C dx fs => H dx = some (.own a)∧fs.length≤1000∧dx≠a∧h.get? a = some (PySem.W.instObj C dx) ∧
   ∃ mA,h.Ns1 dx mA∧(∀ f,RelO (fs.lookup f) (mA f))∧PySem.Within mA (fs.map (·.1))
 | .own _ => ∃ o,h.get? a = some o
 | .xd fs => ∃ mA,h.Ns1 a mA∧∀ f,RelO (fs.lookup f) (mA f)
 | .rng lo hi => ∃ t u v,h.get? a = some { cls:=.type "range",data:=.fields #[.int lo t,.int hi u,.int 1 v] }
 | .frz o u => h.get? a = some o∧ObjOk H h a u
 | .tbl ps => h.get? a = some { cls:=.none,data:=.fields ps }
 | .met f x => h.get? a = some (PySem.W.methodObj (.ref f) (.ref x))
 | .ext φ => φ h∧(∃ o,h.get? a = some o)∧∀ h1 h2:Heap,φ h1→(∀ o,h1.get? a = some o→h2.get? a = some o)→φ h2
def HOk (H:Hp) (h:Heap):Prop:=∀ a o,H a = some o→ObjOk P w H h a o
end
section
variable {P:Program} {w:World} {H H':Hp} {h h':Heap} {a:Addr} {o:HO}
theorem ObjOk.lt (x:ObjOk P w H h a o):a < h.objs.size:=by
 cases o with
 | lst xs => obtain ⟨_,_,_,_,e⟩:=x; exact Heap.lt_size e
 | tup xs => obtain ⟨_,_,_,p⟩:=x; exact p.lt
 | dK kvs => obtain ⟨_,_,_,_,o,_,_,e,_⟩:=x; exact Heap.lt_size e
 | dT kvs => obtain ⟨_,_,_,_,o,_,_,e,_⟩:=x; exact Heap.lt_size e
 | set S n => obtain ⟨o,_,_,_,e,_⟩:=x; exact Heap.lt_size e
 | ins C dx fs => obtain ⟨_,_,_,e,_⟩:=x; exact Heap.lt_size e
 | own y => obtain ⟨_,e⟩:=x; exact Heap.lt_size e
 | xd fs => obtain ⟨_,⟨_,_,_,e,_⟩,_⟩:=x; exact Heap.lt_size e
 | rng lo hi => obtain ⟨_,_,_,e⟩:=x; exact Heap.lt_size e
 | frz ob u => obtain ⟨e,_⟩:=x; exact Heap.lt_size e
 | tbl ps => exact Heap.lt_size (show h.get? a = some _ from x)
 | met f y => exact Heap.lt_size (show h.get? a = some _ from x)
 | ext φ => obtain ⟨_,⟨_,e⟩,_⟩:=x; exact Heap.lt_size e
theorem Paired.mapP {α β:Type} {F G:α→β→Prop}:∀ {l₁:List α} {l₂:List β},Paired F l₁ l₂→(∀ a b,F a b→G a b)→Paired G l₁ l₂
 | _,_,.nil,_ => .nil
 | _,_,.cons r t,f => .cons (f _ _ r) (Paired.mapP t f)
theorem ObjOk.stay (x:ObjOk P w H h a o) (k:∀ b u,(b = a∨H b = some (.own a))→h.get? b = some u→h'.get? b = some u)
  (ho:∀ b,H b = some (.own a)→H' b = some (.own a)) (ht:∀ b xs,H b = some (.tup xs)→H' b = some (.tup xs)):ObjOk P w H' h' a o:=by
 induction o with
 | lst xs => obtain ⟨z,its,n,r,e⟩:=x; exact ⟨z,its,n,r,k _ _ (.inl rfl) e⟩
 | tup xs => obtain ⟨z,its,r,ob,e,c⟩:=x; exact ⟨z,its,r,ob,k _ _ (.inl rfl) e,c⟩
 | dK kvs => obtain ⟨z,y,vs,r,ob,es,ep,e,c⟩:=x; exact ⟨z,y,vs,r,ob,es,ep,k _ _ (.inl rfl) e,c⟩
 | dT kvs =>
  obtain ⟨z,y,xs,r,ob,es,ep,e,c⟩:=x
  exact ⟨z,y,xs,Paired.mapP r fun p q z => ⟨z.1,ht _ _ z.2.1,z.2.2⟩,ob,es,ep,k _ _ (.inl rfl) e,c⟩
 | set S n => obtain ⟨ob,es,ep,t,e,c⟩:=x; exact ⟨ob,es,ep,t,k _ _ (.inl rfl) e,c⟩
 | ins C dx fs =>
  obtain ⟨d,z,ne,e,mA,⟨od,es,ep,e2,c⟩,r⟩:=x
  exact ⟨ho _ d,z,ne,k _ _ (.inl rfl) e,mA,⟨od,es,ep,k _ _ (.inr d) e2,c⟩,r⟩
 | own y => obtain ⟨ob,e⟩:=x; exact ⟨ob,k _ _ (.inl rfl) e⟩
 | xd fs => obtain ⟨mA,⟨od,es,ep,e,c⟩,r⟩:=x; exact ⟨mA,⟨od,es,ep,k _ _ (.inl rfl) e,c⟩,r⟩
 | rng lo hi => obtain ⟨t,u,v,e⟩:=x; exact ⟨t,u,v,k _ _ (.inl rfl) e⟩
 | frz ob u ih => obtain ⟨e,q⟩:=x; exact ⟨k _ _ (.inl rfl) e,ih q⟩
 | tbl ps =>
  have e:h.get? a = some { cls:=.none,data:=.fields ps }:=x
  show h'.get? a = some { cls:=.none,data:=.fields ps }
  exact k a _ (.inl rfl) e
 | met f y =>
  have e:h.get? a = some (PySem.W.methodObj (.ref f) (.ref y)):=x
  show h'.get? a = some (PySem.W.methodObj (.ref f) (.ref y))
  exact k a _ (.inl rfl) e
 | ext φ => obtain ⟨p,⟨o,e⟩,st⟩:=x; exact ⟨st _ _ p fun o q => k _ _ (.inl rfl) q,⟨o,k _ _ (.inl rfl) e⟩,st⟩
theorem HOk.lt (x:HOk P w H h) (e:H a = some o):a < h.objs.size:=(x a o e).lt
theorem HOk.fresh (x:HOk P w H h) (e:h.objs.size≤a):H a = none:=by
 cases q:H a with
 | none => rfl
 | some u => exact absurd (Nat.lt_of_lt_of_le (x.lt q) e) (Nat.lt_irrefl _)
theorem HOk.kept (x:HOk P w H h) (k:∀ b u,h.get? b = some u→h'.get? b = some u):HOk P w H h':=fun a o e =>
 (x a o e).stay (fun b u _ q => k b u q) (fun _ q => q) fun _ _ q => q
theorem HOk.laid (x:HOk P w H h) (k:∀ b u,h.get? b = some u→h'.get? b = some u) (hp:h.objs.size≤a) (new:ObjOk P w (upd H a o) h' a o):HOk P w (upd H a o) h':=fun b u e => by
 have hn:=x.fresh hp
 by_cases hb:b = a
 ·subst hb; rw [upd_same] at e; cases e; exact new
 ·rw [upd_ne hb] at e
  exact (x b u e).stay (fun c v _ q => k c v q) (fun c q => by rw [upd_ne (ne_of_none q hn)]; exact q) fun c xs q => by rw [upd_ne (ne_of_none q hn)]; exact q
end
def Rd (H:Hp) (a:Addr) (u:HO):Prop:=H a = some u∨∃ o,H a = some (.frz o u)
theorem Rd.ok {P:Program} {w:World} {H:Hp} {h:Heap} {a:Addr} {u:HO} (r:Rd H a u) (x:HOk P w H h):ObjOk P w H h a u:=by
 rcases r with r | ⟨o,r⟩
 ·exact x a u r
 ·obtain ⟨_,q⟩:=x a _ r
  exact q
def Mut:Option HO→Prop
 | some (.lst _) => True
 | some (.dK _) => True
 | some (.dT _) => True
 | some (.set _ _) => True
 | some (.ins _ _ _) => True
 | some (.ext _) => True
 | _ => False
section
variable {P:Program} {w:World} {H:Hp} {h h':Heap} {x e:Addr} {o':HO}
theorem HOk.write (ok:HOk P w H h) (mu:Mut (H x)) (he:e = x∨H e = some (.own x)) (k:∀ b u,b≠e→h.get? b = some u→h'.get? b = some u) (heo:∃ u,h'.get? e = some u)
  (new:ObjOk P w (upd H x o') h' x o'):HOk P w (upd H x o') h':=fun b u q => by
 have nown:∀ c y,H c = some (.own y)→c≠x:=fun c y r z => by subst z; rw [r] at mu; exact mu
 have ntup:∀ c xs,H c = some (.tup xs)→c≠x:=fun c xs r z => by subst z; rw [r] at mu; exact mu
 by_cases hb:b = x
 ·subst hb; rw [upd_same] at q; cases q; exact new
 ·rw [upd_ne hb] at q
  by_cases hbe:b = e
  ·have q':H b = some (.own x):=by
    rcases he with z | z
    ·exact absurd (hbe.trans z) hb
    ·rw [hbe]; exact z
   rw [q] at q'; cases q'
   obtain ⟨v,hv⟩:=heo
   exact ⟨v,by rw [hbe]; exact hv⟩
  ·refine (ok b u q).stay (fun c v hc r => k c v ?_ r) (fun c r => by rw [upd_ne (nown c b r)]; exact r) fun c xs r => by rw [upd_ne (ntup c xs r)]; exact r
   rcases hc with rfl | hc
   ·exact hbe
   ·rintro rfl
    rcases he with z | z
    ·exact nown c b hc z
    ·rw [hc] at z; cases z; exact hb rfl
end
structure Un (fs ex:List Addr) (H H':Hp) (h h':Heap):Prop where
 keep:∀ b o,h.get? b = some o→H b = none→b ∉ fs→b ∉ ex→h'.get? b = some o
 slot:∀ b o,h.get? b = some o→H b = none→b∈fs→b ∉ ex→∃ sl,h'.get? b = some { o with slots:=sl }
 free:∀ b o,h.get? b = some o→H b = none→b ∉ ex→H' b = none
 there:∀ b o,h.get? b = some o→b ∉ ex→∃ o',h'.get? b = some o'
 tups:∀ b xs,H b = some (.tup xs)→H' b = some (.tup xs)
 frzs:∀ b o u,H b = some (.frz o u)→H' b = some (.frz o u)
 tbls:∀ b ps,H b = some (.tbl ps)→∃ more,H' b = some (.tbl (ps ++ more))
section
variable {fs fs' ex ex':List Addr} {H H1 H2:Hp} {h h1 h2 h':Heap} {a x e:Addr} {o:HO}
theorem Un.any (u:Un fs ex H H1 h h1) {b:Addr} {ob:Obj} (q:h.get? b = some ob) (n:H b = none) (hx:b ∉ ex):∃ sl,h1.get? b = some { ob with slots:=sl }:=by
 by_cases hb:b∈fs
 ·exact u.slot b ob q n hb hx
 ·exact ⟨ob.slots,u.keep b ob q n hb hx⟩
theorem Un.kept (k:∀ b u,h.get? b = some u→h'.get? b = some u):Un fs ex H H h h' :=
 ⟨fun b ob q _ _ _ => k b ob q,fun b ob q _ _ _ => ⟨ob.slots,k b ob q⟩,fun _ _ _ n _ => n,fun b ob q _ => ⟨ob,k b ob q⟩,fun _ _ q => q,fun _ _ _ q => q,fun _ ps q => ⟨#[],by rw [q]; simp⟩⟩
theorem Un.refl:Un fs ex H H h h:=Un.kept fun _ _ q => q
theorem Un.laid (k:∀ b u,h.get? b = some u→h'.get? b = some u) (hp:h.objs.size≤a) (hn:H a = none):Un fs ex H (upd H a o) h h' where
 keep:=fun b u q _ _ _ => k b u q
 slot:=fun b u q _ _ _ => ⟨u.slots,k b u q⟩
 free:=fun b u q n _ => by rw [upd_ne (Nat.ne_of_lt (Nat.lt_of_lt_of_le (Heap.lt_size q) hp))]; exact n
 there:=fun b u q _ => ⟨u,k b u q⟩
 tups:=fun b xs q => by rw [upd_ne (ne_of_none q hn)]; exact q
 frzs:=fun b u xs q => by rw [upd_ne (ne_of_none q hn)]; exact q
 tbls:=fun b ps q => ⟨#[],by rw [upd_ne (ne_of_none q hn),q]; simp⟩
theorem Un.write (mu:Mut (H x)) (he:e = x∨H e = some (.own x)) (k:∀ b u,b≠e→h.get? b = some u→h'.get? b = some u) (heo:∃ u,h'.get? e = some u):Un fs ex H (upd H x o) h h':=by
 have hx:∀ b,H b = none→b≠x:=fun b n z => by subst z; rw [n] at mu; exact mu
 have hb:∀ b,H b = none→b≠e:=fun b n z => by
  subst z
  rcases he with r | r
  ·exact hx b n r
  ·rw [n] at r; cases r
 have hm:∀ b u,H b = some u→¬ Mut (some u)→b≠x:=fun b u q nm z => by subst z; rw [q] at mu; exact nm mu
 refine ⟨fun b u q n _ _ => k b u (hb b n) q,fun b u q n _ _ => ⟨u.slots,k b u (hb b n) q⟩,fun b u q n _ => by rw [upd_ne (hx b n)]; exact n,fun b u q _ => ?_,
  fun b xs q => by rw [upd_ne (hm b _ q fun z => z)]; exact q,fun b u xs q => by rw [upd_ne (hm b _ q fun z => z)]; exact q,fun b ps q => ⟨#[],by rw [upd_ne (hm b _ q fun z => z),q]; simp⟩⟩
 by_cases hbe:b = e
 ·subst hbe; exact heo
 ·exact ⟨u,k b u hbe q⟩
end
def trk (h:Heap) (H:Hp):List Addr:=(List.range h.objs.size).filter fun a => (H a).isSome
def hidT (h:Heap) (H:Hp):Heap:=PySem.W.hideAll h (trk h H)
theorem hidT_size (h:Heap) (H:Hp):(hidT h H).objs.size = h.objs.size:=PySem.W.hideAll_size _ _
theorem hidT_get {h:Heap} {H:Hp} {b:Addr} {o:Obj} (e:h.get? b = some o) (n:H b = none):(hidT h H).get? b = some o :=
 PySem.W.hideAll_get _ e fun hm => by
  have q:(H b).isSome = true:=(List.mem_filter.mp hm).2
  rw [n] at q; simp at q
theorem of_hidT {h:Heap} {H:Hp} {b:Addr} {o:Obj} (e:(hidT h H).get? b = some o):h.get? b = some o∧H b = none:=by
 have e':h.get? b = some o:=PySem.W.of_hideAll (trk h H) e
 refine ⟨e',?_⟩
 cases q:H b with
 | none => rfl
 | some x =>
  have hm:b∈trk h H:=List.mem_filter.mpr ⟨List.mem_range.mpr (Heap.lt_size e'),by simp [q]⟩
  have z:(hidT h H).get? b = none:=PySem.W.hideAll_none (trk h H) hm
  rw [z] at e; cases e
end L2
namespace L2
open PySem PySem.Spec PyProof.Rows
structure Mod (K:PySem.W.Frag) (mg:Str→Option Value) (base:Heap):Prop where
 kin:K.In base
 glob:base.Ns mainGlobals mg
 blt:∃ mb,base.Ns builtinsNs mb∧∀ x:Str,x≠"__name__"→mb x = bootBuiltins x
 nolimit:base.NoLimit
structure Cx where
 prog:Program
 w:World
 K:PySem.W.Frag
 mg:Str→Option Value
 base:Heap
 A:Around
 N:List Str
 s₀:Shared
 H₀:Hp
 env:Env
 outer:List Env
 stack:List Env
 ex:List Addr
 fn:Str→Bool
 calm:Bool
 pn:List (Addr × Obj)
 xe:Value→Shared→Prop
def frs (l:List Env):List Addr:=l.filterMap (·.frame)
abbrev Cx.fs (X:Cx):List Addr:=frs X.outer
def Vis (sc:Scope) (x:Str):Prop:=sc.names.lookup x = some .local∨sc.names.lookup x = some .cell∨sc.names.lookup x = some .free
def Loc (sc:Scope) (x:Str):Prop:=sc.names.lookup x = some .local∨sc.names.lookup x = some .cell
def Look (env:Env) (h:Heap) (m:Str→Option Value) (x:Str) (u:Value):Prop :=
 (env.kindOf x = some .local∧m x = some u)∨((env.kindOf x = some .cell∨env.kindOf x = some .free)∧∃ c,env.cells.lookup x = some c∧h.IsCell c (some u))
structure Cx.Ok (X:Cx):Prop where
 mod:Mod X.K X.mg X.base
 kind:X.env.scope.kind = .function
 glob:X.env.globals = mainGlobals
 blt:X.env.builtins = builtinsNs
 above:X.s₀.heap.objs.size≤X.env.locals
 inj:∀ x y c,X.env.cells.lookup x = some c→X.env.cells.lookup y = some c→x = y
 has:∀ x,(X.env.kindOf x = some .cell∨X.env.kindOf x = some .free)→∃ c,X.env.cells.lookup x = some c
 cab:∀ x c,X.fn x = true→X.env.cells.lookup x = some c→X.s₀.heap.objs.size≤c
 hd:X.calm = true→X.A.handled = none
 frames:X.A.frames = some X.stack
 stk:X.stack = X.outer∨(X.stack = X.env :: X.outer∧X.env.frame = some X.env.locals)
 exf:∀ b∈X.ex,b≠X.env.locals∧∀ x c,X.env.cells.lookup x = some c→c≠b
 bs:∀ b o,X.base.get? b = some o→X.s₀.heap.get? b = some o∧X.H₀ b = none
 bsz:X.base.objs.size≤X.s₀.heap.objs.size
 noex:∀ b o,X.base.get? b = some o→b ∉ X.ex
 exfs:∀ b∈X.ex,b ∉ X.fs
 funs:X.s₀.heap.FunFrames X.base X.outer
 frf:∀ b∈X.fs,X.H₀ b = none
inductive CxO (H:Hp):Value→Prop
 | nil:CxO H .none
 | cons {b:Addr} {ob:Obj} {us:Array Value} {u:HO} {c:Value}:H b = some (.frz ob u)→ob.data = .fields us→us[2]? = some c→CxO H c→CxO H (.ref b)
theorem CxO.mono {H H':Hp} {c:Value} (h:CxO H c) (k:∀ b o u,H b = some (.frz o u)→H' b = some (.frz o u)):CxO H' c:=by
 induction h with
 | nil => exact .nil
 | cons q1 q2 q3 _ ih => exact .cons (k _ _ _ q1) q2 q3 ih
theorem CxO.upd {H:Hp} {c:Value} {a:Addr} {o:HO} (h:CxO H c) (n:H a = none):CxO (upd H a o) c:=h.mono fun b _ _ e => by rw [upd_ne (ne_of_none e n)]; exact e
theorem CxO.chn {P:Program} {w:World} {H:Hp} {h:Heap} {c:Value} (n:CxO H c) (ok:HOk P w H h):∃ D,Chn h D c∧∀ b∈D,∃ o u,H b = some (.frz o u):=by
 induction n with
 | nil => exact ⟨[],.nil,fun b hb => absurd hb (by simp)⟩
 | @cons b ob us u c q1 q2 q3 _ ih =>
  obtain ⟨D,m,l⟩:=ih
  refine ⟨b :: D,.cons (by simp) (ok b _ q1).1 q2 q3 (m.kept (fun _ _ _ e => e) fun d hd => List.mem_cons_of_mem _ hd),fun d hd => ?_⟩
  rcases List.mem_cons.mp hd with rfl | hd
  ·exact ⟨_,_,q1⟩
  ·exact l d hd
def HdF (A:Around) (H:Hp):Prop:=A.handled = none∨∃ ea:Addr,A.handled = some (.ref ea)∧CxO H (.ref ea)
theorem HdF.mono {A:Around} {H H':Hp} (h:HdF A H) (k:∀ b o u,H b = some (.frz o u)→H' b = some (.frz o u)):HdF A H':=by
 rcases h with z | ⟨ea,h1,h2⟩
 ·exact .inl z
 ·exact .inr ⟨ea,h1,h2.mono k⟩
theorem HdF.now {P:Program} {w:World} {A:Around} {H:Hp} {h:Heap} (n:HdF A H) (ok:HOk P w H h):HdN A h:=by
 rcases n with z | ⟨ea,h1,h2⟩
 ·exact ⟨[],.inl z⟩
 ·obtain ⟨D,m,_⟩:=h2.chn ok
  exact ⟨D,.inr ⟨ea,h1,m⟩⟩
structure Inv (X:Cx) (pins:List (Addr × Obj)) (σ:List (Option V)) (H:Hp) (s:Shared):Prop where
 ok:X.Ok
 os:s.os = X.s₀.os
 bare:AllBare s.gens
 base:Un X.fs X.ex X.H₀ H X.s₀.heap s.heap
 loc:∃ m,s.heap.Ns X.env.locals m∧∀ (i:Nat) (x:Str) (v:V),X.N[i]? = some x→σ[i]? = some (some v)→Vis X.env.scope x→∃ u,RelV v u∧Look X.env s.heap m x u
 cell:∀ x c,X.env.cells.lookup x = some c→∃ v,s.heap.IsCell c v
 free:H X.env.locals = none
 freeC:∀ x c,X.env.cells.lookup x = some c→H c = none
 pin:∀ p∈X.pn ++ pins,s.heap.get? p.1 = some p.2∧H p.1 = none∧p.1≠X.env.locals∧p.1 ∉ X.fs∧∀ v,p.2.data≠.cell v
 hok:HOk X.prog X.w H s.heap
 len:σ.length = X.N.length
 hn:HdF X.A H
section
variable {X:Cx} {pins:List (Addr × Obj)} {σ:List (Option V)} {H H':Hp} {s:Shared} {h':Heap}
theorem Cx.Ok.nofr (ok:X.Ok) {b:Addr} {o:Obj} (e:X.base.get? b = some o):b ∉ X.fs:=fun hb => by
 have:=(ok.funs.mem hb).1
 rw [e] at this; cases this
theorem Inv.bs (I:Inv X pins σ H s):∀ b o,X.base.get? b = some o→s.heap.get? b = some o∧H b = none:=fun b o e =>
 ⟨I.base.keep b o (I.ok.bs b o e).1 (I.ok.bs b o e).2 (I.ok.nofr e) (I.ok.noex b o e),I.base.free b o (I.ok.bs b o e).1 (I.ok.bs b o e).2 (I.ok.noex b o e)⟩
theorem Inv.bk (I:Inv X pins σ H s):∀ b o,X.base.get? b = some o→s.heap.get? b = some o:=fun b o e => (I.bs b o e).1
theorem Inv.mod (I:Inv X pins σ H s):Mod X.K X.mg X.base:=I.ok.mod
theorem Inv.kIn (I:Inv X pins σ H s):X.K.In s.heap:=I.ok.mod.kin.keeps I.bk
theorem Inv.fr (I:Inv X pins σ H s):∃ m,Fr X.base X.env.locals s.heap m :=
 let ⟨m,hn,_⟩:=I.loc
 ⟨m,hn,I.bk,Nat.le_trans I.ok.bsz I.ok.above⟩
theorem Inv.lt (I:Inv X pins σ H s):X.env.locals < s.heap.objs.size:=let ⟨_,hn,_⟩:=I.loc; hn.lt
theorem Inv.sz (I:Inv X pins σ H s):X.s₀.heap.objs.size≤s.heap.objs.size:=Nat.le_trans I.ok.above (Nat.le_of_lt I.lt)
theorem Inv.nofs (I:Inv X pins σ H s) {a:Addr} (h:s.heap.objs.size≤a):a ∉ X.fs:=fun hb => by
 obtain ⟨_,o,ho,_⟩:=I.ok.funs.mem hb
 exact absurd (Nat.lt_of_lt_of_le (Heap.lt_size ho) (Nat.le_trans I.sz h)) (Nat.lt_irrefl _)
theorem Inv.cne (I:Inv X pins σ H s):∀ x c,X.env.cells.lookup x = some c→c≠X.env.locals:=fun x c e z => by
 obtain ⟨v,o,ho,hd⟩:=I.cell x c e
 obtain ⟨m,⟨o',es,ep,ho',hd',_⟩,_⟩:=I.loc
 rw [z,ho'] at ho; cases ho; rw [hd'] at hd; cases hd
theorem Inv.funs (I:Inv X pins σ H s):s.heap.FunFrames X.base X.outer:=by
 have all:∀ (l:List Env),(∀ b∈frs l,b∈X.fs)→X.s₀.heap.FunFrames X.base l→s.heap.FunFrames X.base l:=by
  intro l
  induction l with
  | nil => intro _ _; trivial
  | cons env r ih =>
   intro hs hl
   obtain ⟨hk,⟨L,o,hf,hn,ho,hd⟩,hr⟩:=hl
   have hL:L∈X.fs:=hs L (by unfold frs; rw [List.filterMap_cons,hf]; exact List.mem_cons_self)
   obtain ⟨sl,e⟩:=I.base.slot L o ho (I.ok.frf L hL) hL fun z => I.ok.exfs L z hL
   exact ⟨hk,⟨L,_,hf,hn,e,hd⟩,ih (fun b hb => hs b (by unfold frs; rw [List.filterMap_cons,hf]; exact List.mem_cons_of_mem _ hb)) hr⟩
 exact all X.outer (fun _ hb => hb) I.ok.funs
theorem Inv.stack (I:Inv X pins σ H s):s.heap.FunFrames X.base X.stack:=by
 rcases I.ok.stk with e | ⟨e,hf⟩
 ·rw [e]; exact I.funs
 ·rw [e]
  obtain ⟨m,hn,_⟩:=I.loc
  refine .cons (by rw [I.ok.kind]; decide) hf hn ?_ I.funs
  exact Heap.get?_none_of_le (Nat.le_trans I.ok.bsz I.ok.above)
theorem Inv.stkSub (I:Inv X pins σ H s):∀ b∈frs X.stack,b∈X.env.locals :: X.fs:=fun b hb => by
 rcases I.ok.stk with e | ⟨e,hf⟩
 ·rw [e] at hb; exact List.mem_cons_of_mem _ hb
 ·rw [e] at hb
  unfold frs at hb
  rw [List.filterMap_cons,hf] at hb
  exact hb
theorem Inv.stkFree (I:Inv X pins σ H s):∀ b∈frs X.stack,H b = none:=fun b hb => by
 rcases List.mem_cons.mp (I.stkSub b hb) with e | hb
 ·rw [e]; exact I.free
 ·obtain ⟨_,o,ho,_⟩:=I.ok.funs.mem hb
  exact I.base.free b o ho (I.ok.frf b hb) fun z => I.ok.exfs b z hb
theorem Inv.step {g':Array GenState} {t':Nat} {d':Drawn} {ch:List Addr} (I:Inv X pins σ H s)
  (hch:∀ b∈ch,(b∈X.ex∨X.s₀.heap.objs.size≤b)∧b≠X.env.locals∧(∀ x c,X.env.cells.lookup x = some c→c≠b)∧∀ p∈X.pn ++ pins,p.1≠b)
  (keep:∀ b o,b≠X.env.locals→b ∉ X.fs→b ∉ ch→s.heap.get? b = some o→H b = none→h'.get? b = some o)
  (slot:∀ b o,b≠X.env.locals→b∈X.fs→b ∉ ch→s.heap.get? b = some o→H b = none→∃ sl,h'.get? b = some { o with slots:=sl }) (free:∀ b o,b ∉ ch→s.heap.get? b = some o→H b = none→H' b = none)
  (there:∀ b o,b ∉ ch→s.heap.get? b = some o→∃ o',h'.get? b = some o')
  (tups:∀ b xs,H b = some (.tup xs)→H' b = some (.tup xs)) (frzs:∀ b o u,H b = some (.frz o u)→H' b = some (.frz o u)) (tbls:∀ b ps,H b = some (.tbl ps)→∃ more,H' b = some (.tbl (ps ++ more)))
  (ns:∀ m,s.heap.Ns X.env.locals m→h'.Ns X.env.locals m) (hok:HOk X.prog X.w H' h') (hg:AllBare g') :
  Inv X pins σ H' { s with heap:=h',gens:=g',drawn:=d',toks:=t' }:=by
 have neL:∀ b o,X.s₀.heap.get? b = some o→b≠X.env.locals:=fun b o e => Nat.ne_of_lt (Nat.lt_of_lt_of_le (Heap.lt_size e) I.ok.above)
 have neC:∀ b o,X.s₀.heap.get? b = some o→b ∉ X.ex→b ∉ ch:=fun b o e hx hb => by
  rcases (hch b hb).1 with z | z
  ·exact hx z
  ·exact absurd (Nat.lt_of_lt_of_le (Heap.lt_size e) z) (Nat.lt_irrefl _)
 have cellK:∀ x c,X.env.cells.lookup x = some c→∀ v,s.heap.IsCell c v→h'.IsCell c v:=fun x c e v ⟨o,ho,hd⟩ => by
  have nch:c ∉ ch:=fun z => (hch c z).2.2.1 x c e rfl
  by_cases hc:c∈X.fs
  ·obtain ⟨sl,q⟩:=slot c o (I.cne x c e) hc nch ho (I.freeC x c e)
   exact ⟨_,q,hd⟩
  ·exact ⟨o,keep c o (I.cne x c e) hc nch ho (I.freeC x c e),hd⟩
 refine ⟨I.ok,I.os,hg,⟨fun b o e n hb hx => ?_,fun b o e n hb hx => ?_,fun b o e n hx => ?_,fun b o e hx => ?_,fun b xs e => tups b xs (I.base.tups b xs e),fun b o xs e => frzs b o xs (I.base.frzs b o xs e),fun b ps e => ?_⟩,?_,fun x c e => ?_,?_,fun x c e => ?_,fun p hp => ?_,hok,I.len,I.hn.mono frzs⟩
 ·exact keep b o (neL b o e) hb (neC b o e hx) (I.base.keep b o e n hb hx) (I.base.free b o e n hx)
 ·obtain ⟨sl,e1⟩:=I.base.slot b o e n hb hx
  obtain ⟨sl',e2⟩:=slot b _ (neL b o e) hb (neC b o e hx) e1 (I.base.free b o e n hx)
  exact ⟨sl',e2⟩
 ·obtain ⟨o',e1⟩:=I.base.there b o e hx
  exact free b o' (neC b o e hx) e1 (I.base.free b o e n hx)
 ·obtain ⟨o',e1⟩:=I.base.there b o e hx
  exact there b o' (neC b o e hx) e1
 ·obtain ⟨m1,e1⟩:=I.base.tbls b ps e
  obtain ⟨m2,e2⟩:=tbls b _ e1
  exact ⟨m1 ++ m2,by rw [e2,Array.append_assoc]⟩
 ·obtain ⟨m,hn,hl⟩:=I.loc
  refine ⟨m,ns m hn,fun i x v e1 e2 e3 => ?_⟩
  obtain ⟨u,r,l⟩:=hl i x v e1 e2 e3
  refine ⟨u,r,?_⟩
  rcases l with l | ⟨k,c,e,z⟩
  ·exact .inl l
  ·exact .inr ⟨k,c,e,cellK x c e _ z⟩
 ·obtain ⟨v,z⟩:=I.cell x c e
  exact ⟨v,cellK x c e v z⟩
 ·obtain ⟨m,⟨o,_,_,ho,_⟩,_⟩:=I.loc
  exact free _ o (fun z => (hch _ z).2.1 rfl) ho I.free
 ·obtain ⟨v,o,ho,hd⟩:=I.cell x c e
  exact free c o (fun z => (hch c z).2.2.1 x c e rfl) ho (I.freeC x c e)
 ·obtain ⟨e,n,ne,nf,d⟩:=I.pin p hp
  have nch:p.1 ∉ ch:=fun z => (hch p.1 z).2.2.2 p hp rfl
  exact ⟨keep p.1 p.2 ne nf nch e n,free p.1 p.2 nch e n,ne,nf,d⟩
theorem Inv.un {t':Nat} (I:Inv X pins σ H s) (u:Un X.fs [] H H' s.heap h') (hok:HOk X.prog X.w H' h'):Inv X pins σ H' { s with heap:=h',toks:=t' }:=by
 obtain ⟨m,⟨o,es,ep,ho,r⟩,_⟩:=id I.loc
 obtain ⟨sl,hL⟩:=u.any ho I.free (by simp)
 exact I.step (g':=s.gens) (d':=s.drawn) (ch:=[]) (fun _ z => nomatch z) (fun b o _ hb _ e n => u.keep b o e n hb (by simp)) (fun b o _ hb _ e n => u.slot b o e n hb (by simp)) (fun b o _ e n => u.free b o e n (by simp)) (fun b o _ e => u.there b o e (by simp)) u.tups u.frzs u.tbls (fun m' hm => by
  obtain ⟨o',es',ep',ho',r'⟩:=hm
  rw [ho] at ho'; cases ho'
  exact ⟨_,es',ep',hL,r'⟩) hok I.bare
theorem Inv.call {g':Array GenState} {t':Nat} {d':Drawn} {ch:List Addr} (I:Inv X pins σ H s) (u:Un (frs X.stack) ch H H' s.heap h') (hok:HOk X.prog X.w H' h') (hg:AllBare g')
  (hch:∀ b∈ch,(b∈X.ex∨X.s₀.heap.objs.size≤b)∧b≠X.env.locals∧(∀ x c,X.env.cells.lookup x = some c→c≠b)∧∀ p∈X.pn ++ pins,p.1≠b) :
  Inv X pins σ H' { s with heap:=h',gens:=g',drawn:=d',toks:=t' }:=by
 obtain ⟨m,⟨o,es,ep,ho,r⟩,_⟩:=id I.loc
 obtain ⟨sl,hL⟩:=u.any ho I.free fun z => (hch _ z).2.1 rfl
 exact I.step (ch:=ch) hch (fun b o hL hb hc e n => u.keep b o e n (fun z => (List.mem_cons.mp (I.stkSub b z)).elim hL hb) hc) (fun b o _ _ hc e n => u.any e n hc) (fun b o hc e n => u.free b o e n hc) (fun b o hc e => u.there b o e hc) u.tups u.frzs u.tbls (fun m' hm => by
  obtain ⟨o',es',ep',ho',r'⟩:=hm
  rw [ho] at ho'; cases ho'
  exact ⟨_,es',ep',hL,r'⟩) hok hg
theorem Inv.turned {t':Nat} {it:Addr} (I:Inv X pins σ H s) (k:∀ b o,b≠it→s.heap.get? b = some o→h'.get? b = some o) (hn:H it = none) (hL:it≠X.env.locals)
  (h1:it∈X.ex∨X.s₀.heap.objs.size≤it) (h2:∀ x c,X.env.cells.lookup x = some c→c≠it) (h3:∀ p∈X.pn ++ pins,p.1≠it):Inv X pins σ H { s with heap:=h',toks:=t' }:=by
 have nit:∀ b u,H b = some u→b≠it:=fun b u e z => by rw [z,hn] at e; cases e
 refine I.step (g':=s.gens) (d':=s.drawn) (ch:=[it]) (fun b hb => ?_) (fun b o _ _ hc e _ => k b o (fun z => hc (by simp [z])) e) (fun b o _ _ hc e _ => ⟨o.slots,k b o (fun z => hc (by simp [z])) e⟩) (fun _ _ _ _ n => n)
  (fun b o hc e => ⟨o,k b o (fun z => hc (by simp [z])) e⟩) (fun _ _ e => e) (fun _ _ _ e => e) (fun b ps e => ⟨#[],by rw [e]; simp⟩) (fun m hm => ?_) (fun b u e => ?_) I.bare
 ·have e:b = it:=by simpa using hb
  subst e
  exact ⟨h1,hL,h2,h3⟩
 ·obtain ⟨o,es,ep,ho,r⟩:=hm
  exact ⟨o,es,ep,k _ o (Ne.symm hL) ho,r⟩
 ·refine (I.hok b u e).stay (fun c v hc q => k c v ?_ q) (fun _ q => q) fun _ _ q => q
  rcases hc with z | z
  ·rw [z]; exact nit b u e
  ·exact nit c _ z
theorem Inv.tok (I:Inv X pins σ H s) (t:Nat):Inv X pins σ H { s with toks:=t }:=I.un (h':=s.heap) (t':=t) Un.refl I.hok
theorem Inv.kept {t':Nat} (I:Inv X pins σ H s) (k:∀ b u,s.heap.get? b = some u→h'.get? b = some u):Inv X pins σ H { s with heap:=h',toks:=t' }:=I.un (Un.kept k) (I.hok.kept k)
theorem Inv.laid {a:Addr} {o:HO} {t':Nat} (I:Inv X pins σ H s) (k:∀ b u,s.heap.get? b = some u→h'.get? b = some u) (hp:s.heap.objs.size≤a) (new:ObjOk X.prog X.w (upd H a o) h' a o) :
  Inv X pins σ (upd H a o) { s with heap:=h',toks:=t' }:=I.un (Un.laid k hp (I.hok.fresh hp)) (I.hok.laid k hp new)
theorem Inv.write {x e:Addr} {o:HO} {t':Nat} (I:Inv X pins σ H s) (mu:Mut (H x)) (he:e = x∨H e = some (.own x)) (k:∀ b u,b≠e→s.heap.get? b = some u→h'.get? b = some u) (heo:∃ u,h'.get? e = some u)
  (new:ObjOk X.prog X.w (upd H x o) h' x o):Inv X pins σ (upd H x o) { s with heap:=h',toks:=t' }:=I.un (Un.write mu he k heo) (I.hok.write mu he k heo new)
theorem Inv.weak {σ':List (Option V)} (I:Inv X pins σ H s) (hl:σ'.length = σ.length) (w:∀ (i:Nat) v,σ'[i]? = some (some v)→σ[i]? = some (some v)):Inv X pins σ' H s :=
 ⟨I.ok,I.os,I.bare,I.base,let ⟨m,hn,hl'⟩:=I.loc; ⟨m,hn,fun i x v e1 e2 e3 => hl' i x v e1 (w i v e2) e3⟩,I.cell,I.free,I.freeC,I.pin,I.hok,hl.trans I.len,I.hn⟩
theorem Inv.pins_of {pins':List (Addr × Obj)} (I:Inv X pins σ H s) (h:∀ p∈pins',s.heap.get? p.1 = some p.2∧H p.1 = none∧p.1≠X.env.locals∧p.1 ∉ X.fs∧∀ v,p.2.data≠.cell v):Inv X pins' σ H s :=
 ⟨I.ok,I.os,I.bare,I.base,I.loc,I.cell,I.free,I.freeC,fun p hp => (List.mem_append.mp hp).elim (fun z => I.pin p (List.mem_append_left _ z)) (h p),I.hok,I.len,I.hn⟩
theorem nodup_ix {N:List Str} (hN:N.Nodup) {i j:Nat} {x:Str} (a:N[i]? = some x) (b:N[j]? = some x):i = j:=by
 obtain ⟨h1,e1⟩:=List.getElem?_eq_some_iff.mp a
 obtain ⟨h2,e2⟩:=List.getElem?_eq_some_iff.mp b
 exact (List.getElem_inj hN).mp (e1.trans e2.symm)
theorem store_ok2 {M:Model} {A:Around} {E:Value→Shared→Prop} {i:Nat} {x:Str} {v:V} {u:Value} {Q:Unit→Shared→Prop} (I:Inv X pins σ H s) (hN:X.N.Nodup) (hi:X.N[i]? = some x) (hx:Loc X.env.scope x) (r:RelV v u)
  (h:∀ s',Inv X pins (σ.set i (some v)) H s'→(∃ a,Heap.SameBut a s.heap s'.heap∧(a = X.env.locals∨X.env.cells.lookup x = some a))→Q () s') (hf:X.fn x = true∨X.env.scope.names.lookup x = some .local:=by first | exact .inl rfl | exact .inr rfl | assumption):wpAny M A (storeName X.env x u) Q E s:=by
 obtain ⟨m,hn,hl⟩:=id I.loc
 have hcls:(X.env.scope.kind == .class || (X.env.scope.kind == .module && X.env.locals != X.env.globals)) = false:=by rw [I.ok.kind]; rfl
 have hiσ:i < σ.length:=by rw [I.len]; exact (List.getElem?_eq_some_iff.mp hi).1
 have cne:=I.cne
 have tracked:∀ {a:Addr} {h':Heap},(∃ o,s.heap.get? a = some o∧H a = none)→Heap.SameBut a s.heap h'→HOk X.prog X.w H h':=fun {a h'} ha hs b ob e => by
  obtain ⟨_,_,hfree⟩:=ha
  refine (I.hok b ob e).stay (fun c w' hc q => (hs.2 c ?_).trans q) (fun _ q => q) fun _ _ q => q
  rintro rfl
  rcases hc with rfl | hc
  ·rw [hfree] at e; cases e
  ·rw [hfree] at hc; cases hc
 rcases hx with hk | hk
 ·refine wpAny_storeName_local hk hn (fun h' hn' hs => ?_) hcls
  obtain ⟨oL,_,_,hoL,_⟩:=id hn
  refine h _ ⟨I.ok,I.os,I.bare,⟨fun b o e n hb hx => ?_,fun b o e n hb hx => ?_,I.base.free,fun b o e hx => ?_,I.base.tups,I.base.frzs,I.base.tbls⟩,⟨_,hn',fun j y v' e1 e2 e3 => ?_⟩,fun y c e => ?_,I.free,I.freeC,fun p hp => ?_,tracked ⟨oL,hoL,I.free⟩ hs,by simpa using I.len,I.hn⟩ ⟨_,hs,.inl rfl⟩
  ·exact (hs.2 b (Nat.ne_of_lt (Nat.lt_of_lt_of_le (Heap.lt_size e) I.ok.above))).trans (I.base.keep b o e n hb hx)
  ·obtain ⟨sl,e1⟩:=I.base.slot b o e n hb hx
   exact ⟨sl,(hs.2 b (Nat.ne_of_lt (Nat.lt_of_lt_of_le (Heap.lt_size e) I.ok.above))).trans e1⟩
  ·obtain ⟨o',e1⟩:=I.base.there b o e hx
   exact ⟨o',(hs.2 b (Nat.ne_of_lt (Nat.lt_of_lt_of_le (Heap.lt_size e) I.ok.above))).trans e1⟩
  ·by_cases hj:j = i
   ·subst hj
    rw [hi] at e1; cases e1
    rw [List.getElem?_set_self hiσ] at e2
    cases e2
    exact ⟨u,r,.inl ⟨hk,by simp⟩⟩
   ·rw [List.getElem?_set_ne (Ne.symm hj)] at e2
    obtain ⟨u',r',q⟩:=hl j y v' e1 e2 e3
    refine ⟨u',r',?_⟩
    rcases q with ⟨k,e⟩ | ⟨k,c,e,z⟩
    ·refine .inl ⟨k,?_⟩
     have:y≠x:=fun e => hj (nodup_ix hN e1 (e▸hi))
     simp [this,e]
    ·exact .inr ⟨k,c,e,z.sameBut hs (cne y c e)⟩
  ·obtain ⟨w',z⟩:=I.cell y c e
   exact ⟨w',z.sameBut hs (cne y c e)⟩
  ·obtain ⟨e,n,ne,nf,d⟩:=I.pin p hp
   exact ⟨(hs.2 p.1 ne).trans e,n,ne,nf,d⟩
 ·have hfn:X.fn x = true:=by
   rcases hf with z | z
   ·exact z
   ·rw [z] at hk; cases hk
  obtain ⟨c,hc⟩:=I.ok.has x (.inl hk)
  obtain ⟨w',z⟩:=I.cell x c hc
  refine wpAny_storeName_cell I.ok.kind hk hc z (fun h' hc' hs => ?_)
  obtain ⟨oc,hoc,hocd⟩:=id z
  refine h { s with heap:=h' } ⟨I.ok,I.os,I.bare,⟨fun b o e n hb hx => ?_,fun b o e n hb hx => ?_,I.base.free,fun b o e hx => ?_,I.base.tups,I.base.frzs,I.base.tbls⟩,⟨m,hn.sameBut hs (Ne.symm (cne x c hc)),fun j y v' e1 e2 e3 => ?_⟩,fun y c' e => ?_,I.free,I.freeC,fun p hp => ?_,tracked ⟨oc,hoc,I.freeC x c hc⟩ hs,by simpa using I.len,I.hn⟩ ⟨c,hs,.inr hc⟩
  ·exact (hs.2 b (Nat.ne_of_lt (Nat.lt_of_lt_of_le (Heap.lt_size e) (I.ok.cab x c hfn hc)))).trans (I.base.keep b o e n hb hx)
  ·obtain ⟨sl,e1⟩:=I.base.slot b o e n hb hx
   exact ⟨sl,(hs.2 b (Nat.ne_of_lt (Nat.lt_of_lt_of_le (Heap.lt_size e) (I.ok.cab x c hfn hc)))).trans e1⟩
  ·obtain ⟨o',e1⟩:=I.base.there b o e hx
   exact ⟨o',(hs.2 b (Nat.ne_of_lt (Nat.lt_of_lt_of_le (Heap.lt_size e) (I.ok.cab x c hfn hc)))).trans e1⟩
  ·by_cases hj:j = i
   ·subst hj
    rw [hi] at e1; cases e1
    rw [List.getElem?_set_self hiσ] at e2
    cases e2
    exact ⟨u,r,.inr ⟨.inl hk,c,hc,hc'⟩⟩
   ·rw [List.getElem?_set_ne (Ne.symm hj)] at e2
    obtain ⟨u',r',q⟩:=hl j y v' e1 e2 e3
    refine ⟨u',r',?_⟩
    rcases q with q | ⟨k,c',e,z'⟩
    ·exact .inl q
    ·refine .inr ⟨k,c',e,z'.sameBut hs ?_⟩
     rintro rfl
     exact hj (nodup_ix hN e1 (I.ok.inj _ _ _ e hc▸hi))
  ·by_cases hcc:c' = c
   ·subst hcc; exact ⟨_,hc'⟩
   ·obtain ⟨w2,z2⟩:=I.cell y c' e
    exact ⟨w2,z2.sameBut hs hcc⟩
  ·obtain ⟨e,n,ne,nf,d⟩:=I.pin p hp
   refine ⟨(hs.2 p.1 ?_).trans e,n,ne,nf,d⟩
   intro q
   rw [q,hoc] at e
   have q':oc = p.2:=Option.some.inj e
   exact d w' (by rw [← q']; exact hocd)
theorem store_ok {M:Model} {A:Around} {E:Value→Shared→Prop} {i:Nat} {x:Str} {v:V} {u:Value} {Q:Unit→Shared→Prop} (I:Inv X pins σ H s) (hN:X.N.Nodup) (hi:X.N[i]? = some x) (hx:Loc X.env.scope x) (r:RelV v u)
  (h:∀ s',Inv X pins (σ.set i (some v)) H s'→Q () s') (hf:X.fn x = true∨X.env.scope.names.lookup x = some .local:=by first | exact .inl rfl | exact .inr rfl | assumption):wpAny M A (storeName X.env x u) Q E s :=
 store_ok2 I hN hi hx r (fun s' I' _ => h s' I') hf
theorem Inv.call' {s':Shared} {ch:List Addr} (I:Inv X pins σ H s) (ho:s'.os = s.os) (u:Un (frs X.stack) ch H H' s.heap s'.heap) (hok:HOk X.prog X.w H' s'.heap) (hg:AllBare s'.gens)
  (hch:∀ b∈ch,(b∈X.ex∨X.s₀.heap.objs.size≤b)∧b≠X.env.locals∧(∀ x c,X.env.cells.lookup x = some c→c≠b)∧∀ p∈X.pn ++ pins,p.1≠b):Inv X pins σ H' s':=by
 obtain ⟨h',g',d',t',o'⟩:=s'
 have e:o' = s.os:=ho
 subst e
 exact I.call (g':=g') (t':=t') (d':=d') u hok hg hch
end
abbrev XK:=Value→Option Addr→Hp→Prop
abbrev St:=List (Option V)
abbrev VK:=V→Hp→Prop
abbrev TE:=St→Hp→VK→Prop
abbrev TT:=St→Hp→(Bool→Hp→Prop)→Prop
abbrev TA:=St→Hp→(List V→Hp→Prop)→Prop
structure Ends where
 nx:St→Hp→Prop
 rt:VK
 bk:St→Hp→Prop:=fun _ _ => False
 ct:St→Hp→Prop:=fun _ _ => False
abbrev TS:=Ends→St→Hp→Prop
def EP (X:Cx) (pins:List (Addr × Obj)) (σ:St) (Q:VK) (u:Value) (s':Shared):Prop:=∃ v H',Inv X pins σ H' s'∧RelV v u∧Q v H'
def TP (X:Cx) (pins:List (Addr × Obj)) (σ:St) (Q:Bool→Hp→Prop) (b:Bool) (s':Shared):Prop:=∃ H',Inv X pins σ H' s'∧Q b H'
def AP (X:Cx) (pins:List (Addr × Obj)) (σ:St) (Q:List V→Hp→Prop) (us:List Value) (s':Shared):Prop:=∃ vs H',Inv X pins σ H' s'∧Vals vs us∧Q vs H'
def SP (X:Cx) (pins:List (Addr × Obj)) (D:Ends) (f:Flow) (s':Shared):Prop :=
 match f with
 | .next => ∃ σ' H',Inv X pins σ' H' s'∧D.nx σ' H'
 | .brk => ∃ σ' H',Inv X pins σ' H' s'∧D.bk σ' H'
 | .cont => ∃ σ' H',Inv X pins σ' H' s'∧D.ct σ' H'
 | .ret u => ∃ v σ' H',Inv X pins σ' H' s'∧RelV v u∧D.rt v H'
def PE (X:Cx) (e:Expr) (t:TE):Prop :=
 ∀ (pins:List (Addr × Obj)) (s:Shared) (σ:St) (H:Hp) (Q:VK),Inv X pins σ H s→t σ H Q→wpAny (model X.prog X.w) X.A (eval e X.env) (EP X pins σ Q) X.xe s
def PT (X:Cx) (e:Expr) (t:TT):Prop :=
 ∀ (pins:List (Addr × Obj)) (s:Shared) (σ:St) (H:Hp) (Q:Bool→Hp→Prop),Inv X pins σ H s→t σ H Q→wpAny (model X.prog X.w) X.A (isTrue e X.env (eval e X.env)) (TP X pins σ Q) X.xe s
def PW (X:Cx) (e:Expr) (t:TT):Prop :=
 ∀ (whole:Sem Value) (pins:List (Addr × Obj)) (s:Shared) (σ:St) (H:Hp) (Q:Bool→Hp→Prop),Inv X pins σ H s→t σ H Q→wpAny (model X.prog X.w) X.A (isTrue e X.env whole) (TP X pins σ Q) X.xe s
theorem PW.pt {X:Cx} {e:Expr} {t:TT} (h:PW X e t):PT X e t:=h _
def PA (X:Cx) (es:List Expr) (t:TA):Prop :=
 ∀ (pos:Pos) (pins:List (Addr × Obj)) (s:Shared) (σ:St) (H:Hp) (Q:List V→Hp→Prop),Inv X pins σ H s→t σ H Q→wpAny (model X.prog X.w) X.A (spliced (backTo pos (starEach es X.env))) (AP X pins σ Q) X.xe s
def PS (X:Cx) (st:Stmt) (t:TS):Prop :=
 ∀ (pins:List (Addr × Obj)) (s:Shared) (σ:St) (H:Hp) (D:Ends),Inv X pins σ H s→t D σ H→wpAny (model X.prog X.w) X.A (exec st X.env) (SP X pins D) X.xe s
def PSs (X:Cx) (st:List Stmt) (t:TS):Prop :=
 ∀ (pins:List (Addr × Obj)) (s:Shared) (σ:St) (H:Hp) (D:Ends),Inv X pins σ H s→t D σ H→wpAny (model X.prog X.w) X.A (execs st X.env) (SP X pins D) X.xe s
theorem thn {α:Type} {t:Sem α} {Q Q':α→Shared→Prop} {M:Model} {A:Around} {E:Value→Shared→Prop} {s:Shared} (h:wpAny M A t Q E s) (hQ:∀ a s,Q a s→Q' a s):wpAny M A t Q' E s:=wpAny_mono h hQ fun _ _ x => x
end L2
namespace L2
open PySem PySem.Spec PyProof.Rows
section
variable {X:Cx}
theorem bin {a b:Expr} {ta tb:TE} (ha:PE X a ta) (hb:PE X b tb) {pins:List (Addr × Obj)} {s:Shared} {σ:St} {H:Hp} {R:V→V→Hp→Prop} (I:Inv X pins σ H s) (h:ta σ H fun x H1 => tb σ H1 fun y H2 => R x y H2)
  {α:Type} {Q:α→Shared→Prop} {f:Value→Value→Sem α}
  (hf:∀ v u s2 x y H2,Inv X pins σ H2 s2→RelV x v→RelV y u→R x y H2→wpAny (model X.prog X.w) X.A (f v u) Q X.xe s2) :
  wpAny (model X.prog X.w) X.A (eval a X.env) (fun v s₁ => wpAny (model X.prog X.w) X.A (eval b X.env) (fun u s₂ => wpAny (model X.prog X.w) X.A (f v u) Q X.xe s₂) X.xe s₁) X.xe s:=by
 refine thn (ha pins s σ H _ I h) fun v s1 ⟨x,H1,I1,r1,q1⟩ => ?_
 refine thn (hb pins s1 σ H1 _ I1 q1) fun u s2 ⟨y,H2,I2,r2,q2⟩ => ?_
 exact hf v u s2 x y H2 I2 r1 r2 q2
def tVar (i:Nat):TE:=fun σ H Q => ∃ v,σ[i]? = some (some v)∧Q v H
def tC (v:V):TE:=fun _ H Q => Q v H
theorem pe_var {i:Nat} {x:Str} {pos:Pos} (hN:X.N[i]? = some x) (hv:Vis X.env.scope x) (hd:(x == ("__debug__":Str)) = false:=by decide) (hcd:(x == ("__classdict__":Str)) = false:=by decide):PE X (.Name x pos) (tVar i):=by
 intro pins s σ H Q I h
 obtain ⟨v,e,h⟩:=h
 obtain ⟨m,hn,hl⟩:=I.loc
 obtain ⟨u,r,l⟩:=hl i x v hN e hv
 have fin:EP X pins σ Q u s:=⟨v,H,I,r,h⟩
 rcases l with ⟨hk,hm⟩ | ⟨hk,c,hc,hcell⟩
 ·exact wpAny_Name (wpAny_loadName_local I.ok.kind hk hn hm fin) hd
 ·rcases hk with hk | hk
  ·exact wpAny_Name (wpAny_loadName_cell I.ok.kind hk hc hcell fin) hd
  ·exact wpAny_Name (wpAny_loadName_free I.ok.kind hk hc hcell fin hcd) hd
theorem pe_int {i j pos}:PE X (.Constant (.int i) j pos) (tC (.int i)):=fun _ _ _ H _ I h => wpAny_Constant_int ⟨.int i,H,I.tok _,⟨_,rfl⟩,h⟩
theorem pe_bl {b j pos}:PE X (.Constant (.bool b) j pos) (tC (.bl b)):=fun _ _ _ H _ I h => Constant_bool ⟨.bl b,H,I,rfl,h⟩
theorem pe_non {j pos}:PE X (.Constant .none j pos) (tC .non):=fun _ _ _ H _ I h => Constant_none ⟨.non,H,I,rfl,h⟩
theorem pe_str {x j pos}:PE X (.Constant (.str x) j pos) (tC (.str x)):=fun _ _ _ H _ I h => Calls.Constant_str ⟨.str x,H,I.tok _,⟨_,rfl⟩,h⟩
def Gl (X:Cx) (x:Str):Prop:=X.env.kindOf x = some .globalImplicit
theorem ld_glob {E:Value→Shared→Prop} {pins:List (Addr × Obj)} {s:Shared} {σ:St} {H:Hp} {x:Str} {u:Value} {pos:Pos} {Q:Value→Shared→Prop} (I:Inv X pins σ H s) (hg:Gl X x) (hm:X.mg x = some u) (h:Q u s)
  (hd:(x == ("__debug__":Str)) = false:=by decide):wpAny (model X.prog X.w) X.A (eval (.Name x pos) X.env) Q E s :=
 Calls.Name_function_global I.ok.kind hg (Calls.loadGlobal_global (by rw [I.ok.glob]; exact I.mod.glob.keeps I.bk) hm h) hd
theorem ld_blt {E:Value→Shared→Prop} {pins:List (Addr × Obj)} {s:Shared} {σ:St} {H:Hp} {x:Str} {u:Value} {pos:Pos} {Q:Value→Shared→Prop} (I:Inv X pins σ H s) (hg:Gl X x) (hm:X.mg x = none) (hv:bootBuiltins x = some u) (h:Q u s)
  (hn:x≠"__name__":=by decide) (hd:(x == ("__debug__":Str)) = false:=by decide):wpAny (model X.prog X.w) X.A (eval (.Name x pos) X.env) Q E s:=by
 obtain ⟨mb,h1,h2⟩:=I.mod.blt
 exact Calls.Name_function_global I.ok.kind hg (Calls.loadGlobal_builtin (by rw [I.ok.glob]; exact I.mod.glob.keeps I.bk) hm (by rw [I.ok.blt]; exact h1.keeps I.bk) ((h2 x hn).trans hv) h) hd
theorem pe_glob {x:Str} {v:V} {u:Value} {pos:Pos} (hg:Gl X x) (hm:X.mg x = some u) (r:RelV v u) (hd:(x == ("__debug__":Str)) = false:=by decide):PE X (.Name x pos) (tC v) :=
 fun _ _ _ H _ I h => ld_glob I hg hm ⟨v,H,I,r,h⟩ hd
theorem pe_bltn {x:Str} {v:V} {u:Value} {pos:Pos} (hg:Gl X x) (hm:X.mg x = none) (hv:bootBuiltins x = some u) (r:RelV v u) (hn:x≠"__name__":=by decide) (hd:(x == ("__debug__":Str)) = false:=by decide):PE X (.Name x pos) (tC v) :=
 fun _ _ _ H _ I h => ld_blt I hg hm hv ⟨v,H,I,r,h⟩ hn hd
variable {a b:Expr} {ta tb:TE} {pos:Pos}
def PC (X:Cx) (op:CmpOp) (a b:Expr) (t:TE):Prop :=
 ∀ (pins:List (Addr × Obj)) (s:Shared) (σ:St) (H:Hp) (Q:VK),Inv X pins σ H s→t σ H Q →
  wpAny (model X.prog X.w) X.A (eval a X.env) (fun v s₁ => wpAny (model X.prog X.w) X.A (eval b X.env) (fun u s₂ => wpAny (model X.prog X.w) X.A (compareOp op v u) (EP X pins σ Q) X.xe s₂) X.xe s₁) X.xe s
theorem nobehind (b:Expr) {op:CmpOp} (h:op≠.In) (h2:op≠.NotIn):behindInMarks op b = false:=by
 have e1:(op == CmpOp.In) = false:=by cases op <;> first | rfl | exact absurd rfl h
 have e2:(op == CmpOp.NotIn) = false:=by cases op <;> first | rfl | exact absurd rfl h2
 cases b <;> simp [behindInMarks,e1,e2]
def tIsN (ta:TE):TE:=fun σ H Q => ta σ H fun x H1 => Q (.bl (decide (x = .non))) H1
theorem RelV.none_iff {x:V} {v:Value} (r:RelV x v):(v == Value.none) = decide (x = .non):=by
 cases x with
 | non => cases r; rfl
 | bl _ => cases r; rfl
 | int _ => obtain ⟨t,rfl⟩:=r; rfl
 | str _ => obtain ⟨t,rfl⟩:=r; rfl
 | byt _ => obtain ⟨t,rfl⟩:=r; rfl
 | flt _ => obtain ⟨t,rfl⟩:=r; rfl
 | ref _ => cases r; rfl
 | ty _ => cases r; rfl
theorem pc_isN {j pos'} (ha:PE X a ta):PC X .Is a (.Constant .none j pos') (tIsN ta):=by
 intro pins s σ H Q I h
 refine thn (ha pins s σ H _ I h) fun v s1 ⟨x,H1,I1,r1,q1⟩ => ?_
 exact Constant_none (is_none_gen ⟨.bl _,H1,I1,by rw [r1.none_iff]; rfl,q1⟩)
def tB (t:TE):TT:=fun σ H Q => t σ H fun x H1 => ∃ c,x = .bl c∧Q c H1
theorem pe_cmp {op:CmpOp} {t:TE} (h:PC X op a b t) (h1:behindInMarks op b = false:=by first | exact nobehind _ (by decide) (by decide) | rfl):PE X (.Compare a [op] [b] pos) t:=fun pins s σ H Q I hw => wpAny_Compare1 (h pins s σ H Q I hw) h1
theorem pt_cmp {op:CmpOp} {t:TE} (h:PC X op a b t) (h1:behindInMarks op b = false:=by first | exact nobehind _ (by decide) (by decide) | rfl):PT X (.Compare a [op] [b] pos) (tB t):=by
 intro pins s σ H Q I hw
 refine wpAny_isTrue_Compare1 (thn (h pins s σ H _ I hw) fun v s1 h1 => thn h1 fun u s2 h2 => thn h2 fun c s3 ⟨x,H1,I1,r1,q1⟩ => ?_) h1
 obtain ⟨d,rfl,q⟩:=q1
 cases r1
 exact wpAny_truthy_bool ⟨H1,I1,q⟩
theorem pt_val {e:Expr} {t:TE} (h:PE X e t) (he:∀ whole,isTrue e X.env whole = (do let v ← whole; standAt e.pos; holding [v] (truthy v)):=by intro _; rfl):PT X e (tB t):=by
 intro pins s σ H Q I hw
 refine isTrue_plain (thn (h pins s σ H _ I hw) fun v s1 ⟨x,H1,I1,r1,q1⟩ => ?_) (he _)
 obtain ⟨d,rfl,q⟩:=q1
 cases r1
 exact wpAny_truthy_bool ⟨H1,I1,q⟩
variable {tA tB':TT} {rest:List Expr}
def tOr (t u:TT):TT:=fun σ H Q => t σ H fun c H1 => if c = true then Q true H1 else u σ H1 Q
def tNot (t:TT):TT:=fun σ H Q => t σ H fun c H1 => Q (!c) H1
theorem pw_or1 (ha:PT X a tA):PW X (.BoolOp .Or [a] pos) tA:=by
 intro wh pins s σ H Q I h
 refine isTrue_or (thn (ha pins s σ H Q I h) fun c s1 e => ?_)
 cases c with
 | false => exact isTrue_or_nil e
 | true => exact e
theorem pw_or (ha:PT X a tA) (hb:PW X (.BoolOp .Or (b :: rest) pos) tB'):PW X (.BoolOp .Or (a :: b :: rest) pos) (tOr tA tB'):=by
 intro wh pins s σ H Q I h
 refine isTrue_or (thn (ha pins s σ H _ I h) fun c s1 ⟨H1,I1,q1⟩ => ?_)
 cases c with
 | true => exact ⟨H1,I1,q1⟩
 | false => exact hb wh pins s1 σ H1 Q I1 q1
theorem pt_not (ha:PT X a tA):PT X (.UnaryOp .Not a pos) (tNot tA):=by
 intro pins s σ H Q I h
 exact isTrue_not (ha pins s σ H (fun c H1 => Q (!c) H1) I h)
def tAndV (ta tb:TE):TE:=fun σ H Q => ta σ H fun x H1 => ∃ c,x = .bl c∧if c = true then tb σ H1 Q else Q (.bl false) H1
def tNotV (ta:TE):TE:=fun σ H Q => ta σ H fun x H1 => ∃ c,x = .bl c∧Q (.bl (!c)) H1
theorem pe_one {op} {t:TE} (h:PE X a t):PE X (.BoolOp op [a] pos) t:=fun pins s σ H Q I hw => BoolOp_one (h pins s σ H Q I hw)
theorem pe_and (ha:PE X a ta) (hb:PE X (.BoolOp .And (b :: rest) pos) tb):PE X (.BoolOp .And (a :: b :: rest) pos) (tAndV ta tb):=by
 intro pins s σ H Q I h
 refine BoolOp_and (thn (ha pins s σ H _ I h) fun v s1 ⟨x,H1,I1,r1,q1⟩ => ?_)
 obtain ⟨c,rfl,q1⟩:=q1
 cases r1
 refine wpAny_truthy_bool ?_
 cases c with
 | true => exact hb pins s1 σ H1 Q I1 q1
 | false => exact ⟨.bl false,H1,I1,rfl,q1⟩
theorem pe_not (ha:PE X a ta):PE X (.UnaryOp .Not a pos) (tNotV ta):=by
 intro pins s σ H Q I h
 refine UnaryOp_ (thn (ha pins s σ H _ I h) fun v s1 ⟨x,H1,I1,r1,q1⟩ => ?_)
 obtain ⟨c,rfl,q1⟩:=q1
 cases r1
 exact not_of (wpAny_truthy_bool ⟨.bl (!c),H1,I1,rfl,q1⟩)
end
end L2
namespace L2
open PySem PySem.Spec PyProof.Rows
def SqL (K:PySem.W.Frag) (H:Hp) (a:Addr) (xs:List V):Prop :=
 Rd H a (.lst xs) ∨
  ∃ (o:Obj) (its:Array Value) (n:Nat),K.lookup a = some o∧o.cls = .type "list"∧o.dict = none∧o.data = .seq its n∧its.size≤sizeLine∧Vals xs its.toList
def SqT (K:PySem.W.Frag) (H:Hp) (a:Addr) (xs:List V):Prop :=
 Rd H a (.tup xs) ∨
  ∃ (o:Obj) (its:Array Value) (n:Nat),K.lookup a = some o∧o.cls = .type "tuple"∧o.data = .seq its n∧its.size≤sizeLine∧Vals xs its.toList
def absV:Value→Option V
 | .none => some .non
 | .bool b => some (.bl b)
 | .int i _ => some (.int i)
 | .str x _ => some (.str x)
 | .bytes b _ => some (.byt b)
 | .float b _ => some (.flt b)
 | .ref a => some (.ref a)
 | .type n => some (.ty n)
 | _ => none
theorem RelV.abs {x:V} {u:Value} (r:RelV x u):absV u = some x:=by
 cases x with
 | non => cases r; rfl
 | bl _ => cases r; rfl
 | int _ => obtain ⟨t,rfl⟩:=r; rfl
 | str _ => obtain ⟨t,rfl⟩:=r; rfl
 | byt _ => obtain ⟨t,rfl⟩:=r; rfl
 | flt _ => obtain ⟨t,rfl⟩:=r; rfl
 | ref _ => cases r; rfl
 | ty _ => cases r; rfl
theorem RelV.inj {x y:V} {u:Value} (r:RelV x u) (q:RelV y u):x = y:=Option.some.inj (r.abs.symm.trans q.abs)
theorem Vals.inj:∀ {xs ys:List V} {us:List Value},Vals xs us→Vals ys us→xs = ys
 | _,_,_,.nil,.nil => rfl
 | _,_,_,.cons r t,.cons r' t' => by rw [r.inj r',Vals.inj t t']
section
variable {X:Cx} {pins:List (Addr × Obj)} {σ:St} {H:Hp} {s:Shared} {a:Addr} {xs ys:List V}
theorem SqL.of {K:PySem.W.Frag} (h:H a = some (.lst xs)):SqL K H a xs:=.inl (.inl h)
theorem SqT.of {K:PySem.W.Frag} (h:H a = some (.tup xs)):SqT K H a xs:=.inl (.inl h)
theorem Inv.list (I:Inv X pins σ H s) (h:SqL X.K H a xs):∃ its:List Value,Vals xs its∧PlainL s.heap a its.toArray∧xs.length≤sizeLine:=by
 rcases h with h | ⟨o,its,n,hk,hc,hd,hs,hz,r⟩
 ·obtain ⟨z,its,n,r,e⟩:=h.ok I.hok
  exact ⟨its,r,⟨_,n,e,rfl,rfl,rfl⟩,z⟩
 ·refine ⟨its.toList,r,⟨o,n,I.kIn a o hk,hc,hd,by simpa using hs⟩,?_⟩
  have e:=r.length
  simp only [Array.length_toList] at e
  omega
theorem Inv.tuple (I:Inv X pins σ H s) (h:SqT X.K H a xs):∃ its:List Value,Vals xs its∧IsTup s.heap a its.toArray∧xs.length≤sizeLine:=by
 rcases h with h | ⟨o,its,n,hk,hc,hs,hz,r⟩
 ·obtain ⟨z,its,r,p⟩:=h.ok I.hok
  exact ⟨its,r,p,z⟩
 ·refine ⟨its.toList,r,⟨o,I.kIn a o hk,hc,n,by simpa using hs⟩,?_⟩
  have e:=r.length
  simp only [Array.length_toList] at e
  omega
theorem Inv.list_inj (I:Inv X pins σ H s) (h:SqL X.K H a xs) (h':SqL X.K H a ys):xs = ys:=by
 obtain ⟨its,r,⟨o,n,e,_,_,d⟩,_⟩:=I.list h
 obtain ⟨its',r',⟨o',n',e',_,_,d'⟩,_⟩:=I.list h'
 rw [e] at e'; cases e'
 rw [d] at d'
 injection d' with d1 _
 have:its = its':=by simpa using congrArg Array.toList d1
 subst this
 exact r.inj r'
end
section
variable {X:Cx} {pins:List (Addr × Obj)} {σ:St} {H:Hp} {s:Shared} {E:Value→Shared→Prop}
end
section
variable {X:Cx} {st:Stmt} {rest:List Stmt} {t u:TS} {e:Expr} {te:TE} {pos:Pos}
def tNext:TS:=fun D σ H => D.nx σ H
def tSeq (t u:TS):TS:=fun D σ H => t { D with nx:=u D } σ H
theorem pss_nil:PSs X [] tNext:=fun _ _ σ H _ I h => wpAny_execs_nil ⟨σ,H,I,h⟩
theorem pss_cons (h1:PS X st t) (h2:PSs X rest u):PSs X (st :: rest) (tSeq t u):=by
 intro pins s σ H D I h
 refine wpAny_execs_cons (thn (h1 pins s σ H { D with nx:=u D } I h) fun f s1 q => ?_)
 cases f with
 | next =>
  obtain ⟨σ',H',I',q⟩:=q
  exact h2 pins s1 σ' H' D I' q
 | ret v => exact q
 | brk => exact q
 | cont => exact q
theorem pss_one (h1:PS X st t):PSs X [st] t:=by
 intro pins s σ H D I h
 refine wpAny_execs_cons (thn (h1 pins s σ H D I h) fun f s1 q => ?_)
 cases f with
 | next => exact wpAny_execs_nil q
 | ret v => exact q
 | brk => exact q
 | cont => exact q
theorem Inv.quiet {pins:List (Addr × Obj)} {σ:St} {H:Hp} {s:Shared} (I:Inv X pins σ H s):interactive X.env = false:=by simp [interactive,I.ok.kind]
def tDrop (te:TE):TS:=fun D σ H => te σ H fun _ H1 => D.nx σ H1
theorem ps_expr (he:PE X e te) (hs:swapsWith e none pos.line X.env = pure false:=by rfl):PS X (.Expr e pos) (tDrop te):=by
 intro pins s σ H D I h
 exact wpAny_Expr_any (thn (he pins s σ H _ I h) fun v s1 ⟨x,H1,I1,r1,q1⟩ => ⟨σ,H1,I1,q1⟩) I.quiet hs
def tRet (te:TE):TS:=fun D σ H => te σ H D.rt
theorem ps_ret (he:PE X e te):PS X (.Return (some e) pos) (tRet te):=by
 intro pins s σ H D I h
 exact wpAny_Return_some (thn (he pins s σ H _ I h) fun v s1 ⟨x,H1,I1,r1,q1⟩ => ⟨x,σ,H1,I1,r1,q1⟩)
def tIfS (c:TT) (t u:TS):TS:=fun D σ H => c σ H fun b H1 => if b = true then t D σ H1 else u D σ H1
theorem ps_if {c:Expr} {a b:List Stmt} {tc:TT} (hc:PT X c tc) (ha:PSs X a t) (hb:PSs X b u):PS X (.If c a b pos) (tIfS tc t u):=by
 intro pins s σ H D I h
 refine wpAny_If (thn (hc pins s σ H _ I h) fun d s1 ⟨H1,I1,q1⟩ => ?_)
 cases d with
 | true => exact ha pins s1 σ H1 D I1 q1
 | false => exact hb pins s1 σ H1 D I1 q1
end
abbrev TG:=V→St→Hp→(St→Hp→Prop)→Prop
abbrev TGs:=List V→St→Hp→(St→Hp→Prop)→Prop
def PG (X:Cx) (target:Expr) (t:TG):Prop :=
 ∀ (pins:List (Addr × Obj)) (s:Shared) (σ:St) (H:Hp) (v:V) (u:Value) (Q:St→Hp→Prop),Inv X pins σ H s→RelV v u→t v σ H Q →
  wpAny (model X.prog X.w) X.A (assign target X.env u) (fun _ s' => ∃ σ' H',Inv X pins σ' H' s'∧Q σ' H') X.xe s
def PGs (X:Cx) (ts:List Expr) (t:TGs):Prop :=
 ∀ (pins:List (Addr × Obj)) (s:Shared) (σ:St) (H:Hp) (vs:List V) (us:List Value) (Q:St→Hp→Prop),Inv X pins σ H s→Vals vs us→t vs σ H Q →
  wpAny (model X.prog X.w) X.A (assignInOrder ((assignEach ts X.env).map (·.2)) us) (fun _ s' => ∃ σ' H',Inv X pins σ' H' s'∧Q σ' H') X.xe s
abbrev TSet:=V→V→V→Hp→(Hp→Prop)→Prop
def PSet (X:Cx) (t:TSet):Prop :=
 ∀ (pins:List (Addr × Obj)) (s:Shared) (σ:St) (H:Hp) (o i v:V) (ov iv u:Value) (Q:Hp→Prop),Inv X pins σ H s→RelV o ov→RelV i iv→RelV v u→t o i v H Q →
  wpAny (model X.prog X.w) X.A (setItem ov iv u) (fun _ s' => ∃ H',Inv X pins σ H' s'∧Q H') X.xe s
section
variable {X:Cx} {pos:Pos}
def gName (i:Nat):TG:=fun v σ H Q => Q (σ.set i (some v)) H
theorem pg_name {i:Nat} {x:Str} (hN:X.N.Nodup) (hi:X.N[i]? = some x) (hx:Loc X.env.scope x) (hf:X.fn x = true∨X.env.scope.names.lookup x = some .local:=by first | exact .inl rfl | exact .inr rfl | assumption):PG X (.Name x pos) (gName i):=by
 intro pins s σ H v u Q I r h
 exact wpAny_assign_Name (store_ok I hN hi hx r (fun s' I' => ⟨_,H,I',h⟩) hf)
def gNil:TGs:=fun vs σ H Q => vs = []∧Q σ H
def gCons (t:TG) (u:TGs):TGs:=fun vs σ H Q => ∃ v r,vs = v :: r∧t v σ H fun σ' H' => u r σ' H' Q
theorem pgs_nil:PGs X [] gNil:=by
 intro pins s σ H vs us Q I r h
 obtain ⟨e,h⟩:=h
 subst e
 cases r
 exact assignInOrder_nil ⟨σ,H,I,h⟩
theorem pgs_cons {e:Expr} {es:List Expr} {t:TG} {u:TGs} (h1:PG X e t) (h2:PGs X es u)
  (hs:(assignEach (e :: es) X.env).map (·.2) = assign e X.env :: (assignEach es X.env).map (·.2):=by rfl):PGs X (e :: es) (gCons t u):=by
 intro pins s σ H vs us Q I r h
 obtain ⟨v,vr,e1,h⟩:=h
 subst e1
 cases r with
 | cons r rr =>
  rw [hs]
  refine assignInOrder_cons (thn (h1 pins s σ H _ _ _ I r h) fun _ s1 ⟨σ1,H1,I1,q1⟩ => ?_)
  exact h2 pins s1 σ1 H1 _ _ Q I1 rr q1
def gTup (K:PySem.W.Frag) (n:Nat) (t:TGs):TG:=fun v σ H Q => ∃ a xs,v = .ref a∧SqT K H a xs∧xs.length = n∧t xs σ H Q
theorem pg_tup {es:List Expr} {k:Nat} {t:TGs} {n:Nat} (hc:X.calm = true) (h:PGs X es t)
  (hn:(assignEach es X.env).length = n:=by rfl) (hst:(assignEach es X.env).findIdx? (·.1) = none:=by rfl):PG X (.Tuple es k pos) (gTup X.K n t):=by
 intro pins s σ H v u Q I r hw
 obtain ⟨a,xs,e1,hq,hl,hw⟩:=hw
 subst e1
 cases r
 obtain ⟨its,rv,ht,hz⟩:=I.tuple hq
 refine assign_Tuple_tuple (I.ok.hd hc) ht (by simp [hn,← hl,rv.length]) hst fun h' hx => ?_
 have I1:Inv X pins σ H { s with heap:=h' }:=I.kept (t':=s.toks) fun b o e => hx b o (Nat.ne_of_lt (Heap.lt_size e)) e
 exact h pins _ σ H xs _ Q I1 (by simpa using rv) hw
def gSub (to ti:TE) (t:TSet):TG:=fun v σ H Q => to σ H fun o H1 => ti σ H1 fun i H2 => t o i v H2 fun H3 => Q σ H3
theorem pg_sub {o i:Expr} {to ti:TE} {t:TSet} (ho:PE X o to) (hi:PE X i ti) (hs:PSet X t)
  (ha:∀ v,assign (.Subscript o i pos) X.env v = (do
   let ov ← holding [v] (eval o X.env)
   let iv ← holding [v,ov] (eval i X.env)
   standAt pos
   holding [v,ov,iv] (setItem ov iv v)
   release [v,ov,iv] []):=by intro _; rfl):PG X (.Subscript o i pos) (gSub to ti t):=by
 intro pins s σ H v u Q I r h
 rw [ha]
 refine wpAny_bind (wpAny_holding (thn (ho pins s σ H _ I h) fun ov s1 ⟨x,H1,I1,r1,q1⟩ => ?_))
 refine wpAny_bind (wpAny_holding (thn (hi pins s1 σ H1 _ I1 q1) fun iv s2 ⟨y,H2,I2,r2,q2⟩ => ?_))
 refine wpAny_bind (wpAny_standAt (wpAny_bind (wpAny_holding (thn (hs pins s2 σ H2 x y v ov iv u _ I2 r1 r2 r q2) fun _ s3 ⟨H3,I3,q3⟩ => ?_))))
 exact wpAny_release ⟨σ,H3,I3,q3⟩
def tAsg (te:TE) (g:TG):TS:=fun D σ H => te σ H fun x H1 => g x σ H1 D.nx
theorem ps_asg {tg e:Expr} {te:TE} {g:TG} (he:PE X e te) (hg:PG X tg g) (hs:swapsWithSole [tg] e pos.line X.env = pure false:=by rfl) (hw:swappedStores [tg] e X.env = pure none:=by rfl)
  (h1:(assignEach [tg] X.env).map (·.2) = [assign tg X.env]:=by rfl):PS X (.Assign [tg] e pos) (tAsg te g):=by
 intro pins s σ H D I h
 refine wpAny_Assign_stores (thn (he pins s σ H _ I h) fun v s1 ⟨x,H1,I1,r1,q1⟩ => ?_) hs hw
 rw [h1]
 exact thn (hg pins s1 σ H1 x v _ I1 r1 q1) fun _ s2 q => q
theorem ps_set {i:Nat} {x:Str} {e:Expr} {te:TE} {pos':Pos} (hN:X.N.Nodup) (hi:X.N[i]? = some x) (hx:Loc X.env.scope x) (he:PE X e te) (hs:swapsWith e (some (.Name x pos')) pos.line X.env = pure false:=by rfl) (hf:X.fn x = true∨X.env.scope.names.lookup x = some .local:=by first | exact .inl rfl | exact .inr rfl | assumption) :
  PS X (.Assign [.Name x pos'] e pos) (tAsg te (gName i)):=by
 intro pins s σ H D I h
 refine wpAny_Assign_Name (thn (he pins s σ H _ I h) fun v s1 ⟨y,H1,I1,r1,q1⟩ => ?_) hs
 exact store_ok I1 hN hi hx r1 (fun s2 I2 => ⟨_,H1,I2,q1⟩) hf
end
section
variable {X:Cx} {pos:Pos}
end
structure It where
 go:Nat→Hp→Prop
 yld:Nat→Hp→V→Hp→Prop
 stop:Nat→Hp→Prop
def FpOk (X:Cx) (pins:List (Addr × Obj)) (H:Hp) (b:Addr):Prop :=
 H b = none∧b≠X.env.locals∧b ∉ X.fs∧(b∈X.ex∨X.s₀.heap.objs.size≤b)∧(∀ x c,X.env.cells.lookup x = some c→c≠b)∧∀ p∈X.pn ++ pins,p.1≠b
theorem Inv.fpOk {X:Cx} {pins:List (Addr × Obj)} {σ:St} {H H':Hp} {s:Shared} {b:Addr} (I:Inv X pins σ H s) (hb:s.heap.objs.size≤b) (hn:H' b = none):FpOk X pins H' b:=by
 refine ⟨hn,Nat.ne_of_gt (Nat.lt_of_lt_of_le I.lt hb),I.nofs hb,.inr (Nat.le_trans I.sz hb),fun x c e z => ?_,fun p hp z => ?_⟩
 ·obtain ⟨v,q⟩:=I.cell x c e
  exact absurd (Nat.lt_of_lt_of_le q.lt (by rw [z]; exact hb)) (Nat.lt_irrefl _)
 ·exact absurd (Nat.lt_of_lt_of_le (Heap.lt_size (I.pin p hp).1) (by rw [z]; exact hb)) (Nat.lt_irrefl _)
structure Turn (P:Program) (w:World) (K:PySem.W.Frag) (tg:Expr) (J:It) (fp:List Addr) (it:Addr) (tn:Nat→Heap→Prop) (nm:Bool):Prop where
 mem:it∈fp
 obj:∀ i h,tn i h→∀ b∈fp,∃ o,h.get? b = some o∧∀ v,o.data≠.cell v
 keep:∀ i h h',tn i h→(∀ b∈fp,∀ o,h.get? b = some o→h'.get? b = some o)→tn i h'
 item:∀ (X:Cx),X.prog = P→X.w = w→X.K = K→(nm = true→X.calm = true)→∀ (i:Nat) (pins:List (Addr × Obj)) (s:Shared) (σ:St) (H:Hp) (E:Value→Shared→Prop),Inv X pins σ H s→(∀ b∈fp,FpOk X pins H b)→tn i s.heap→J.go i H →
  wpAny (model P w) X.A (pyNext (.ref it)) (fun r s1 => ∃ u,r = some u ∧
   wpAny (model P w) X.A (letOwnedTupleGo tg (.ref it) u) (fun _ s2 => ∃ x H',Inv X pins σ H' s2∧RelV x u∧J.yld i H x H'∧tn (i + 1) s2.heap∧∀ b∈fp,H' b = none) E s1) E s
 done:∀ (X:Cx),X.prog = P→X.w = w→X.K = K→(nm = true→X.calm = true)→∀ (i:Nat) (pins:List (Addr × Obj)) (s:Shared) (σ:St) (H:Hp) (E:Value→Shared→Prop),Inv X pins σ H s→(∀ b∈fp,FpOk X pins H b)→tn i s.heap→J.stop i H →
  wpAny (model P w) X.A (pyNext (.ref it)) (fun r s1 => r = none∧Inv X pins σ H s1) E s
 self:∀ (A:Around) (i:Nat) (s:Shared) (Q:Value→Shared→Prop) (E:Value→Shared→Prop),tn i s.heap→Q (.ref it) s→wpAny (model P w) A (pyIter (.ref it)) Q E s
def TurnX (X:Cx) (tg:Expr) (J:It) (fp:List Addr) (it:Addr) (tn:Nat→Heap→Prop):Prop:=∃ nm,Turn X.prog X.w X.K tg J fp it tn nm∧(nm = true→X.calm = true)
theorem TurnX.of {X:Cx} {tg:Expr} {J:It} {fp:List Addr} {it:Addr} {tn:Nat→Heap→Prop} (T:Turn X.prog X.w X.K tg J fp it tn false):TurnX X tg J fp it tn:=⟨false,T,fun z => by cases z⟩
abbrev TI:=St→Hp→(It→Hp→Prop)→Prop
def PIE (X:Cx) (pins:List (Addr × Obj)) (σ:St) (tg:Expr) (R:It→Hp→Prop) (itv:Value) (s2:Shared):Prop :=
 ∃ (it:Addr) (fp:List Addr) (tn:Nat→Heap→Prop) (J:It) (H':Hp),itv = .ref it∧Inv X pins σ H' s2∧TurnX X tg J fp it tn∧tn 0 s2.heap∧(∀ b∈fp,FpOk X pins H' b)∧R J H'
def PI (X:Cx) (tg iter:Expr) (wi:TI):Prop :=
 ∀ (pins:List (Addr × Obj)) (s:Shared) (σ:St) (H:Hp) (R:It→Hp→Prop),Inv X pins σ H s→wi σ H R →
  wpAny (model X.prog X.w) X.A (eval iter X.env) (fun v s1 => wpAny (model X.prog X.w) X.A (pyIter v) (PIE X pins σ tg R) X.xe s1) X.xe s
theorem go_of {M:Model} {A:Around} {E:Value→Shared→Prop} {s:Shared} {tg:Expr} {it:Addr} {u:Value} {o:Obj} {n:String} {vs:Array Value} {Q:Unit→Shared→Prop} (ho:s.heap.get? it = some o) (hc:o.cls = .type n) (hd:o.data = .fields vs)
  (hn:["enumerate","zip","dict_itemiterator","dict_reverseitemiterator","odict_iterator","itertools.zip_longest","itertools.pairwise"].contains n = false) (hQ:Q () s):wpAny M A (letOwnedTupleGo tg (.ref it) u) Q E s:=by
 unfold letOwnedTupleGo
 cases tg <;> first
  | exact wpAny_pure hQ
  | (cases u <;> first
    | exact wpAny_pure hQ
    | (refine wpAny_bind (wpAny_load ho ?_)
       rw [hc,hd]
       show wpAny M A (if (["enumerate","zip","dict_itemiterator","dict_reverseitemiterator","odict_iterator","itertools.zip_longest","itertools.pairwise"].contains n && vs[0]? == some (rawInt _)) = true then _ else _) Q E s
       rw [if_neg (by intro h; rw [hn,Bool.false_and] at h; cases h)]
       exact wpAny_pure hQ))
def Itl (K:PySem.W.Frag) (a:Addr):It :=
 ⟨fun i H => ∃ xs x,SqL K H a xs∧xs[i]? = some x,fun i H x H' => H' = H∧∀ xs,SqL K H a xs→xs[i]? = some x,fun i H => ∃ xs,SqL K H a xs∧xs.length≤i⟩
def Itr (lo:Int) (n:Nat):It:=⟨fun i _ => i < n,fun i H x H' => H' = H∧x = .int (lo + i),fun i _ => n≤i⟩
theorem turn_list {P:Program} {w:World} {K:PySem.W.Frag} {tg:Expr} (a it:Addr):Turn P w K tg (Itl K a) [it] it (fun i h => h.IsListIter it a i) false where
 mem:=by simp
 obj:=fun i h st b hb => by
  have e:b = it:=by simpa using hb
  subst e
  obtain ⟨o,e,c,d⟩:=st
  exact ⟨o,e,fun v z => by rw [d] at z; cases z⟩
 keep:=fun i h h' st k => st.at fun o e => k it (by simp) o e
 item:=by
  intro X hP hw hK hc i pins s σ H E I hf st hg
  subst hP hw hK
  obtain ⟨xs,x,hq,hx⟩:=hg
  obtain ⟨its,rv,p,hz⟩:=I.list hq
  obtain ⟨u,hu,ru⟩:=rv.get hx
  obtain ⟨f0,f1,f2,f3,f4,f5⟩:=hf it (by simp)
  refine wpAny_pyNext_list_item st p.isList (x:=u) (by simpa using hu) fun h' st' sb => ?_
  have I1:Inv X pins σ H { s with heap:=h' }:=I.turned (t':=s.toks) (fun b o hb e => (sb.2 b hb).trans e) f0 f1 f3 f4 f5
  obtain ⟨o,e,c,d⟩:=id st'
  exact ⟨u,rfl,go_of (s:={ s with heap:=h' }) e c d (by decide) ⟨x,H,I1,ru,⟨rfl,fun ys hy => by rw [I.list_inj hy hq]; exact hx⟩,st',fun b hb => (hf b hb).1⟩⟩
 done:=by
  intro X hP hw hK hc i pins s σ H E I hf st hg
  subst hP hw hK
  obtain ⟨xs,hq,hx⟩:=hg
  obtain ⟨its,rv,p,hz⟩:=I.list hq
  obtain ⟨f0,f1,f2,f3,f4,f5⟩:=hf it (by simp)
  have hl:=rv.length
  exact list_on (I.hn.now I.hok) st p.isList (by simp; omega) fun h' eb => ⟨rfl,I.turned (t':=s.toks) (fun b o hb e => eb b o hb e) f0 f1 f3 f4 f5⟩
 self:=fun _ _ _ _ _ st h => wpAny_pyIter_listiter st h
theorem turn_range {P:Program} {w:World} {K:PySem.W.Frag} {tg:Expr} (it:Addr) (lo:Int) (n:Nat):Turn P w K tg (Itr lo n) [it] it (fun i h => IsRangeIter h it (lo + (i:Nat) * 1) ((n:Int) - (i:Nat)) 1) false where
 mem:=by simp
 obj:=fun i h st b hb => by
  have e:b = it:=by simpa using hb
  subst e
  exact ⟨_,st,fun v z => by
   have z':Data.fields _ = Data.cell v:=z
   cases z'⟩
 keep:=fun i h h' st k => k it (by simp) _ st
 item:=by
  intro X hP hw hK hc i pins s σ H E I hf st hg
  subst hP hw hK
  obtain ⟨f0,f1,f2,f3,f4,f5⟩:=hf it (by simp)
  refine wpAny_pyNext_range_item st (by have:i < n:=hg; omega) fun h' st' sb => ?_
  obtain ⟨tk,htk⟩:∃ tk,tk = s.toks + 1:=⟨_,rfl⟩
  rw [← htk]
  have I1:Inv X pins σ H { s with heap:=h',toks:=tk }:=I.turned (fun b o hb e => (sb.2 b hb).trans e) f0 f1 f3 f4 f5
  have st2:IsRangeIter h' it (lo + ((i + 1:Nat):Int) * 1) ((n:Int) - ((i + 1:Nat):Int)) 1:=by
   rw [show lo + ((i + 1:Nat):Int) * 1 = lo + (i:Int) * 1 + 1 by omega,show (n:Int) - ((i + 1:Nat):Int) = (n:Int) - (i:Int) - 1 by omega]; exact st'
  refine ⟨_,rfl,go_of (s:={ s with heap:=h',toks:=tk }) (n:="range_iterator") st' rfl rfl (by decide) ⟨.int (lo + i),H,I1,⟨s.toks,?_⟩,⟨rfl,rfl⟩,st2,fun b hb => (hf b hb).1⟩⟩
  rw [Int.mul_one]
 done:=by
  intro X hP hw hK hc i pins s σ H E I hf st hg
  subst hP hw hK
  obtain ⟨f0,f1,f2,f3,f4,f5⟩:=hf it (by simp)
  exact range_on (I.hn.now I.hok) st (by have:n≤i:=hg; omega) fun h' eb => ⟨rfl,I.turned (t':=s.toks) (fun b o hb e => eb b o hb e) f0 f1 f3 f4 f5⟩
 self:=fun _ _ _ _ _ st h => wpAny_pyIter_rangeiter st h
end L2
namespace L2
open PySem PySem.Spec PyProof.Rows
section
variable {X:Cx} {tg:Expr}
def iList (K:PySem.W.Frag) (tl:TE):TI:=fun σ H R => tl σ H fun x H1 => ∃ a,x = .ref a∧(∃ xs,SqL K H1 a xs)∧R (Itl K a) H1
theorem pi_list {l:Expr} {tl:TE} (hl:PE X l tl):PI X tg l (iList X.K tl):=by
 intro pins s σ H R I h
 refine thn (hl pins s σ H _ I h) fun v s1 ⟨x,H1,I1,r1,q1⟩ => ?_
 obtain ⟨a,e,⟨xs,hq⟩,q⟩:=q1
 subst e
 cases r1
 obtain ⟨its,rv,p,hz⟩:=I1.list hq
 refine wpAny_pyIter_list p.isList ?_
 refine ⟨s1.heap.objs.size,[s1.heap.objs.size],_,_,H1,rfl,I1.kept (t':=s1.toks) fun b o e => Heap.get?_push_of_some _ e,TurnX.of (turn_list a _),⟨_,Heap.get?_push_size _ rfl,rfl,rfl⟩,fun b hb => ?_,q⟩
 have e:b = s1.heap.objs.size:=by simpa using hb
 subst e
 exact I1.fpOk (Nat.le_refl _) (I1.hok.fresh (Nat.le_refl _))
theorem range_it {pins:List (Addr × Obj)} {σ:St} {H:Hp} {s:Shared} {R:It→Hp→Prop} {E:Value→Shared→Prop} {lo hi:Int} {t u v:Tok} {tk:Nat} (I:Inv X pins σ H s) (h1:-(2 ^ 62)≤lo) (h2:lo < 2 ^ 62) (h3:-(2 ^ 62)≤hi) (h4:hi < 2 ^ 62)
  (q:R (Itr lo (hi - lo).toNat) H):wpAny (model X.prog X.w) X.A (pyIter (.ref s.heap.objs.size)) (PIE X pins σ tg R) E { s with heap:=s.heap.push { cls:=.type "range",data:=.fields #[.int lo t,.int hi u,.int 1 v] },toks:=tk }:=by
 refine wpAny_pyIter_range (IsRange.new ..) (small_one h1 h2 h3 h4) ?_
 have I1:Inv X pins σ H { s with heap:=s.heap.push { cls:=.type "range",data:=.fields #[.int lo t,.int hi u,.int 1 v] },toks:=tk }:=I.kept fun b o e => Heap.get?_push_of_some _ e
 refine ⟨(s.heap.push { cls:=.type "range",data:=.fields #[.int lo t,.int hi u,.int 1 v] }).objs.size,[(s.heap.push { cls:=.type "range",data:=.fields #[.int lo t,.int hi u,.int 1 v] }).objs.size],_,_,H,rfl,
  I1.kept (t':=tk) fun b o e => Heap.get?_push_of_some _ e,TurnX.of (turn_range _ lo (hi - lo).toNat),?_,fun b hb => ?_,q⟩
 ·have e1:lo + ((0:Nat):Int) * 1 = lo:=by simp
  have e2:(((hi - lo).toNat:Nat):Int) - ((0:Nat):Int) = Builtin.Range.rangeSize lo hi 1:=by rw [rangeSize_one]; split <;> omega
  show IsRangeIter _ _ (lo + ((0:Nat):Int) * 1) ((((hi - lo).toNat:Nat):Int) - ((0:Nat):Int)) 1
  rw [e1,e2]
  exact Heap.get?_push_size _ rfl
 ·have e:b = (s.heap.push { cls:=.type "range",data:=.fields #[.int lo t,.int hi u,.int 1 v] }).objs.size:=by simpa using hb
  subst e
  exact I1.fpOk (Nat.le_refl _) (I1.hok.fresh (Nat.le_refl _))
def iRng1 (ta:TA):TI:=fun σ H R => ta σ H fun vs H1 => ∃ j:Int,vs = [.int j]∧-(2 ^ 62)≤j∧j < 2 ^ 62∧R (Itr 0 j.toNat) H1
theorem pi_range1 {a:Expr} {ta:TA} {p pos:Pos} (hg:Gl X "range") (hm:X.mg "range" = none) (ha:PA X [a] ta) (hs:starEach [a] X.env = [(false,eval a X.env)]:=by rfl):PI X tg (.Call (.Name "range" p) [a] [] pos) (iRng1 ta):=by
 intro pins s σ H R I h
 refine Call_ (ld_blt I hg hm boot_range (PyProof.Rows.callWith_type1 (thn (ha pos pins s σ H _ I h) fun us s1 ⟨vs,H1,I1,r1,q1⟩ => ?_) hs rfl))
 obtain ⟨j,e,q1,q2,q⟩:=q1
 subst e
 cases r1 with
 | cons r rr =>
  cases rr
  obtain ⟨t,rfl⟩:=r
  exact call_range_1 (range_it I1 (by omega) (by omega) q1 q2 (by simpa using q))
def tFor (wi:TI) (g:TG) (tb:TS):TS:=fun D σ H => wi σ H fun J H1 => ∃ W:Nat→Nat→St→Hp→Prop,(∃ m,W 0 m σ H1)∧∀ i m σ H,W i m σ H →
 (J.stop i H∧D.nx σ H)∨(J.go i H∧∃ N:St→Hp→Prop,(∀ σ' H',N σ' H'→∃ m',m' < m∧W (i + 1) m' σ' H')∧∀ x H',J.yld i H x H'→g x σ H' fun σ2 H2 => tb { D with nx:=N,ct:=N,bk:=D.nx } σ2 H2)
def pinsAt (fp:List Addr) (h:Heap):List (Addr × Obj):=fp.filterMap fun b => (h.get? b).map fun o => (b,o)
theorem mem_pinsAt {fp:List Addr} {h:Heap} {b:Addr} {o:Obj} (hb:b∈fp) (e:h.get? b = some o):(b,o)∈pinsAt fp h:=List.mem_filterMap.mpr ⟨b,hb,by rw [e]; rfl⟩
theorem of_pinsAt {fp:List Addr} {h:Heap} {p:Addr × Obj} (hp:p∈pinsAt fp h):p.1∈fp∧h.get? p.1 = some p.2:=by
 obtain ⟨b,hb,e⟩:=List.mem_filterMap.mp hp
 cases q:h.get? b with
 | none => rw [q] at e; cases e
 | some o =>
  rw [q] at e
  have e':(b,o) = p:=Option.some.inj e
  subst e'
  exact ⟨hb,q⟩
theorem Inv.pinned {pins:List (Addr × Obj)} {σ:St} {H:Hp} {s:Shared} {fp:List Addr} (I:Inv X pins σ H s) (hf:∀ b∈fp,FpOk X pins H b) (ho:∀ b∈fp,∃ o,s.heap.get? b = some o∧∀ v,o.data≠.cell v):Inv X (pins ++ pinsAt fp s.heap) σ H s :=
 I.pins_of fun p hp => (List.mem_append.mp hp).elim (fun z => I.pin p (List.mem_append_right _ z)) fun z => by
  obtain ⟨hb,e⟩:=of_pinsAt z
  obtain ⟨f0,f1,f2,_⟩:=hf p.1 hb
  obtain ⟨o,e',d⟩:=ho p.1 hb
  rw [e] at e'; cases e'
  exact ⟨e,f0,f1,f2,d⟩
theorem Inv.unpinned {pins pl:List (Addr × Obj)} {σ:St} {H:Hp} {s:Shared} (I:Inv X (pins ++ pl) σ H s):Inv X pins σ H s:=I.pins_of fun p hp => I.pin p (List.mem_append_right _ (List.mem_append_left _ hp))
theorem ps_for {iter:Expr} {body:List Stmt} {wi:TI} {g:TG} {tb:TS} {pos:Pos} (hp:PassesOwn (model X.prog X.w) X.A X.env X.xe) (hi:PI X tg iter wi) (hg:PG X tg g) (hb:PSs X body tb)
  (hs:∀ x,foldedSetIterable iter X.env x = pure x:=by intro _; rfl):PS X (.For tg iter body [] pos) (tFor wi g tb):=by
 intro pins s σ H D I h
 refine wpAny_For (thn (hi pins s σ H _ I h) fun v s1 h1 => thn h1 fun itv s2 h2 => ?_) hs
 obtain ⟨it,fp,tn,J,H2,e,I2,T,st2,f2,W,⟨m0,w0⟩,turn⟩:=h2
 subst e
 obtain ⟨nm,T,hc⟩:=T
 have stat:∀ {H':Hp},(∀ b∈fp,H' b = none)→∀ b∈fp,FpOk X pins H' b:=fun hn b hb => ⟨hn b hb,(f2 b hb).2⟩
 refine codeAny_forLoop_any (fun n s' => ∃ i σ' H',Inv X pins σ' H' s'∧tn i s'.heap∧(∀ b∈fp,H' b = none)∧W i n σ' H') ?_ m0 ⟨0,σ,H2,I2,st2,fun b hb => (f2 b hb).1,w0⟩
 rintro n s3 ⟨i,σ3,H3,I3,st3,fr3,w3⟩
 rcases turn i n σ3 H3 w3 with ⟨stop,qn⟩ | ⟨go,N,hN,step⟩
 ·refine wpAny_passesOwn hp (thn (T.done X rfl rfl rfl hc i pins s3 σ3 H3 X.xe I3 (stat fr3) st3 stop) fun r s4 ⟨hr,I4⟩ => ?_)
  subst hr
  exact wpAny_execs_nil ⟨σ3,H3,I4,qn⟩
 ·refine wpAny_passesOwn hp (thn (T.item X rfl rfl rfl hc i pins s3 σ3 H3 X.xe I3 (stat fr3) st3 go) fun r s4 ⟨u,hr,h4⟩ => ?_)
  subst hr
  refine wpAny_passesOwn hp (thn h4 fun _ s5 hh => ?_)
  obtain ⟨x,H5,I5,r5,y5,st5,fr5⟩:=hh
  have I5':=I5.pinned (stat fr5) (T.obj _ _ st5)
  refine wpAny_passesOwn hp (thn (hg _ s5 σ3 H5 x u _ I5' r5 (step x H5 y5)) fun _ s6 ⟨σ6,H6,I6,q6⟩ => ?_)
  refine wpAny_passesOwn hp (thn (hb _ s6 σ6 H6 _ I6 q6) fun f s7 q7 => ?_)
  have again:∀ {σ7:St} {H7:Hp},Inv X (pins ++ pinsAt fp s5.heap) σ7 H7 s7→N σ7 H7→∃ m,m < n∧∃ i σ' H',Inv X pins σ' H' s7∧tn i s7.heap∧(∀ b∈fp,H' b = none)∧W i m σ' H':=fun {σ7 H7} I7 n7 => by
   obtain ⟨m',hm,w7⟩:=hN σ7 H7 n7
   refine ⟨m',hm,i + 1,σ7,H7,I7.unpinned,T.keep _ _ _ st5 fun b hb o e => (I7.pin (b,o) (List.mem_append_right _ (List.mem_append_right _ (mem_pinsAt hb e)))).1,fun b hb => ?_,w7⟩
   obtain ⟨o,e,d⟩:=T.obj _ _ st5 b hb
   exact (I7.pin (b,o) (List.mem_append_right _ (List.mem_append_right _ (mem_pinsAt hb e)))).2.1
  cases f with
  | next => obtain ⟨σ7,H7,I7,n7⟩:=q7; exact again I7 n7
  | cont => obtain ⟨σ7,H7,I7,n7⟩:=q7; exact again I7 n7
  | brk => obtain ⟨σ7,H7,I7,q7⟩:=q7; exact ⟨σ7,H7,I7.unpinned,q7⟩
  | ret v => obtain ⟨x7,σ7,H7,I7,r7,q7⟩:=q7; exact ⟨x7,σ7,H7,I7.unpinned,r7,q7⟩
end
theorem for_list {K:PySem.W.Frag} {a:Addr} {xs:List V} {g:TG} {tb:TS} {D:Ends} {σ:St} {H:Hp} (Pv:Nat→St→Hp→Prop) (h0:Pv 0 σ H) (hl:∀ i σ H,i≤xs.length→Pv i σ H→SqL K H a xs)
  (hs:∀ i x σ H,xs[i]? = some x→Pv i σ H→g x σ H fun σ2 H2 => tb { D with nx:=Pv (i + 1),ct:=Pv (i + 1),bk:=D.nx } σ2 H2) (hd:∀ σ H,Pv xs.length σ H→D.nx σ H) :
  ∃ W:Nat→Nat→St→Hp→Prop,(∃ m,W 0 m σ H)∧∀ i m σ H,W i m σ H →
   ((Itl K a).stop i H∧D.nx σ H)∨((Itl K a).go i H∧∃ N:St→Hp→Prop,(∀ σ' H',N σ' H'→∃ m',m' < m∧W (i + 1) m' σ' H')∧∀ x H',(Itl K a).yld i H x H'→g x σ H' fun σ2 H2 => tb { D with nx:=N,ct:=N,bk:=D.nx } σ2 H2):=by
 refine ⟨fun i m σ H => m = xs.length - i∧i≤xs.length∧Pv i σ H,⟨xs.length,by simp,Nat.zero_le _,h0⟩,?_⟩
 rintro i m σ H ⟨rfl,hi,p⟩
 have q:=hl i σ H hi p
 by_cases hlt:i < xs.length
 ·refine .inr ⟨⟨xs,xs[i],q,by simp [hlt]⟩,Pv (i + 1),fun σ' H' p' => ⟨xs.length - (i + 1),by omega,rfl,hlt,p'⟩,fun x H' y => ?_⟩
  obtain ⟨e,y⟩:=y
  subst e
  exact hs i x σ _ (y xs q) p
 ·have e:i = xs.length:=by omega
  subst e
  exact .inl ⟨⟨xs,q,Nat.le_refl _⟩,hd σ H p⟩
theorem for_range {lo:Int} {n:Nat} {g:TG} {tb:TS} {D:Ends} {σ:St} {H:Hp} (Pv:Nat→St→Hp→Prop) (h0:Pv 0 σ H)
  (hs:∀ i σ H,i < n→Pv i σ H→g (.int (lo + i)) σ H fun σ2 H2 => tb { D with nx:=Pv (i + 1),ct:=Pv (i + 1),bk:=D.nx } σ2 H2) (hd:∀ σ H,Pv n σ H→D.nx σ H) :
  ∃ W:Nat→Nat→St→Hp→Prop,(∃ m,W 0 m σ H)∧∀ i m σ H,W i m σ H →
   ((Itr lo n).stop i H∧D.nx σ H)∨((Itr lo n).go i H∧∃ N:St→Hp→Prop,(∀ σ' H',N σ' H'→∃ m',m' < m∧W (i + 1) m' σ' H')∧∀ x H',(Itr lo n).yld i H x H'→g x σ H' fun σ2 H2 => tb { D with nx:=N,ct:=N,bk:=D.nx } σ2 H2):=by
 refine ⟨fun i m σ H => m = n - i∧i≤n∧Pv i σ H,⟨n,by simp,Nat.zero_le _,h0⟩,?_⟩
 rintro i m σ H ⟨rfl,hi,p⟩
 by_cases hlt:i < n
 ·refine .inr ⟨hlt,Pv (i + 1),fun σ' H' p' => ⟨n - (i + 1),by omega,rfl,hlt,p'⟩,fun x H' y => ?_⟩
  obtain ⟨e,y⟩:=y
  subst e y
  exact hs i σ _ hlt p
 ·have e:i = n:=by omega
  subst e
  exact .inl ⟨Nat.le_refl _,hd σ H p⟩
end L2
namespace L2
open PySem PySem.Spec PyProof.Rows
abbrev R2:=V→V→Hp→VK→Prop
def OpR (X:Cx) (f:Value→Value→Sem Value) (r:R2):Prop :=
 ∀ (pins:List (Addr × Obj)) (s:Shared) (σ:St) (H:Hp) (x y:V) (v u:Value) (Q:VK),Inv X pins σ H s→RelV x v→RelV y u→r x y H Q →
  wpAny (model X.prog X.w) X.A (f v u) (EP X pins σ Q) X.xe s
def UnR (X:Cx) (f:Value→Sem Value) (r:V→Hp→VK→Prop):Prop :=
 ∀ (pins:List (Addr × Obj)) (s:Shared) (σ:St) (H:Hp) (x:V) (v:Value) (Q:VK),Inv X pins σ H s→RelV x v→r x H Q →
  wpAny (model X.prog X.w) X.A (f v) (EP X pins σ Q) X.xe s
def CallR (X:Cx) (f:Value) (r:List V→Hp→VK→Prop):Prop :=
 ∀ (pins:List (Addr × Obj)) (s:Shared) (σ:St) (H:Hp) (xs:List V) (us:List Value) (Q:VK),Inv X pins σ H s→Vals xs us→r xs H Q →
  wpAny (model X.prog X.w) X.A (call f us) (EP X pins σ Q) X.xe s
def tOp (r:R2) (ta tb:TE):TE:=fun σ H Q => ta σ H fun x H1 => tb σ H1 fun y H2 => r x y H2 Q
def tUn (r:V→Hp→VK→Prop) (ta:TE):TE:=fun σ H Q => ta σ H fun x H1 => r x H1 Q
def rI (C:Int→Int→Prop) (g:Int→Int→V):R2:=fun x y H Q => ∃ i j,x = .int i∧y = .int j∧C i j∧Q (g i j) H
def rI0 (g:Int→Int→V):R2:=fun x y H Q => ∃ i j,x = .int i∧y = .int j∧Q (g i j) H
def rU (g:Int→V):V→Hp→VK→Prop:=fun x H Q => ∃ i,x = .int i∧Q (g i) H
section
variable {X:Cx} {a b c:Expr} {ta tb tc:TE} {pos:Pos}
theorem binT (ha:PE X a ta) (hb:PE X b tb) {pins:List (Addr × Obj)} {s:Shared} {σ:St} {H:Hp} {R:V→V→Hp→Prop} (I:Inv X pins σ H s)
  (h:ta σ H fun x H1 => tb σ H1 fun y H2 => R x y H2) {Q:Value→Shared→Prop} {f:Value→Value→Sem Value}
  (hf:∀ v u s2 x y H2,Inv X pins σ H2 s2→RelV x v→RelV y u→R x y H2→wpAny (model X.prog X.w) X.A (f v u) Q X.xe s2) :
  wpAny (model X.prog X.w) X.A (eval a X.env) (fun v s₁ => wpAny (model X.prog X.w) X.A (eval b X.env) (fun u s₂ => wpAny (model X.prog X.w) X.A (f v u) Q X.xe s₂) X.xe s₁) X.xe s:=by
 refine thn (ha pins s σ H _ I h) fun v s1 ⟨x,H1,I1,r1,q1⟩ => ?_
 refine thn (hb pins s1 σ H1 _ I1 q1) fun u s2 ⟨y,H2,I2,r2,q2⟩ => ?_
 exact hf v u s2 x y H2 I2 r1 r2 q2
theorem pe_op {op:Operator} {r:R2} (ho:OpR X (binaryOp op) r) (ha:PE X a ta) (hb:PE X b tb):PE X (.BinOp a op b pos) (tOp r ta tb):=by
 intro pins s σ H Q I h
 exact wpAny_BinOp (binT ha hb I h fun v u s2 x y H2 I2 rx ry q => ho pins s2 σ H2 x y v u Q I2 rx ry q)
theorem pe_un {op:UnaryOp} {r:V→Hp→VK→Prop} (ho:UnR X (unaryOp op) r) (ha:PE X a ta):PE X (.UnaryOp op a pos) (tUn r ta):=by
 intro pins s σ H Q I h
 exact UnaryOp_ (thn (ha pins s σ H _ I h) fun v s1 ⟨x,H1,I1,r1,q1⟩ => ho pins s1 σ H1 x v Q I1 r1 q1)
theorem opI {f:Value→Value→Sem Value} {C:Int→Int→Prop} {g:Int→Int→Int}
  (rule:∀ (i j:Int) (t u:Tok) (s:Shared) (Q:Value→Shared→Prop) (E:Value→Shared→Prop),C i j→Q (.int (g i j) s.toks) { s with toks:=s.toks + 1 }→wpAny (model X.prog X.w) X.A (f (.int i t) (.int j u)) Q E s) :
  OpR X f (rI C fun i j => .int (g i j)):=by
 intro pins s σ H x y v u Q I rx ry h
 obtain ⟨i,j,rfl,rfl,hc,q⟩:=h
 obtain ⟨t,rfl⟩:=rx
 obtain ⟨t',rfl⟩:=ry
 exact rule i j t t' s _ _ hc ⟨.int (g i j),H,I.tok _,⟨_,rfl⟩,q⟩
theorem opI0 {f:Value→Value→Sem Value} {g:Int→Int→Int}
  (rule:∀ (i j:Int) (t u:Tok) (s:Shared) (Q:Value→Shared→Prop) (E:Value→Shared→Prop),Q (.int (g i j) s.toks) { s with toks:=s.toks + 1 }→wpAny (model X.prog X.w) X.A (f (.int i t) (.int j u)) Q E s) :
  OpR X f (rI0 fun i j => .int (g i j)):=by
 intro pins s σ H x y v u Q I rx ry h
 obtain ⟨i,j,rfl,rfl,q⟩:=h
 obtain ⟨t,rfl⟩:=rx
 obtain ⟨t',rfl⟩:=ry
 exact rule i j t t' s _ _ ⟨.int (g i j),H,I.tok _,⟨_,rfl⟩,q⟩
theorem opB0 {f:Value→Value→Sem Value} {g:Int→Int→Bool}
  (rule:∀ (i j:Int) (t u:Tok) (s:Shared) (Q:Value→Shared→Prop) (E:Value→Shared→Prop),Q (.bool (g i j)) s→wpAny (model X.prog X.w) X.A (f (.int i t) (.int j u)) Q E s) :
  OpR X f (rI0 fun i j => .bl (g i j)):=by
 intro pins s σ H x y v u Q I rx ry h
 obtain ⟨i,j,rfl,rfl,q⟩:=h
 obtain ⟨t,rfl⟩:=rx
 obtain ⟨t',rfl⟩:=ry
 exact rule i j t t' s _ _ ⟨.bl (g i j),H,I,rfl,q⟩
def CDiv (i j:Int):Prop:=0 < j∧j < 1073741824
def CPow (i j:Int):Prop:=0≤j∧j≤1000000∧i.natAbs < 2 ^ 64
def CMul (i j:Int):Prop:=(-(2 ^ 64) < i∧i < 2 ^ 64)∨(-(2 ^ 64) < j∧j < 2 ^ 64)
theorem CMul.ok {i j:Int} (h:CMul i j):IntMulOk i j:=by
 rcases h with ⟨h1,h2⟩ | ⟨h1,h2⟩
 ·exact .of_left (intBits_le_64 h1 h2)
 ·exact .of_right (intBits_le_64 h1 h2)
theorem op_add:OpR X (binaryOp .Add) (rI0 fun i j => .int (i + j)):=opI0 fun _ _ _ _ _ _ _ q => add_int q
theorem op_sub:OpR X (binaryOp .Sub) (rI0 fun i j => .int (i - j)):=opI0 fun _ _ _ _ _ _ _ q => sub_int q
theorem op_mul:OpR X (binaryOp .Mult) (rI CMul fun i j => .int (i * j)):=opI fun _ _ _ _ _ _ _ hc q => mul_int q hc.ok
theorem op_fdiv:OpR X (binaryOp .FloorDiv) (rI CDiv fun i j => .int (i / j)):=opI fun i j _ _ _ _ _ hc q => by
 have h1:(0:Int) < j:=hc.1
 have h2:j < 1073741824:=hc.2
 exact floordiv_int (by omega) (by rw [Int.fdiv_eq_ediv_of_nonneg i (by omega)]; exact q) (.inl (PyProof.noPylong_small (by omega)))
theorem op_mod:OpR X (binaryOp .Mod) (rI (fun _ j => 0 < j) fun i j => .int (i % j)):=opI fun i j _ _ _ _ _ hc q => by
 have h1:(0:Int) < j:=hc
 exact mod_int' (by omega) (by rw [Int.fmod_eq_emod_of_nonneg i (by omega)]; exact q)
theorem op_pow:OpR X (binaryOp .Pow) (rI CPow fun i j => .int (i ^ j.toNat)):=opI fun _ _ _ _ _ _ _ hc q => pow_int_small hc.1 hc.2.1 hc.2.2 q
theorem unI {f:Value→Sem Value} {g:Int→Int}
  (rule:∀ (i:Int) (t:Tok) (s:Shared) (Q:Value→Shared→Prop) (E:Value→Shared→Prop),Q (.int (g i) s.toks) { s with toks:=s.toks + 1 }→wpAny (model X.prog X.w) X.A (f (.int i t)) Q E s) :
  UnR X f (rU fun i => .int (g i)):=by
 intro pins s σ H x v Q I rx h
 obtain ⟨i,rfl,q⟩:=h
 obtain ⟨t,rfl⟩:=rx
 exact rule i t s _ _ ⟨.int (g i),H,I.tok _,⟨_,rfl⟩,q⟩
theorem un_neg:UnR X (unaryOp .USub) (rU fun i => .int (-i)):=unI fun _ _ _ _ _ q => neg_int q
end
def scal:V→V→Bool
 | .non,.non => true | .non,.int _ => true | .int _,.non => true | .non,.bl _ => true | .bl _,.non => true | .non,.str _ => true | .str _,.non => true
 | .int _,.int _ => true | .bl _,.bl _ => true | .str _,.str _ => true | .byt _,.byt _ => true
 | .int _,.str _ => true | .str _,.int _ => true | .bl _,.str _ => true | .str _,.bl _ => true
 | _,_ => false
def rEq:R2:=fun x y H Q => scal x y = true∧Q (.bl (decide (x = y))) H
def rNe:R2:=fun x y H Q => scal x y = true∧Q (.bl (!decide (x = y))) H
theorem dec_int {i j:Int}:decide (V.int i = V.int j) = (i == j):=by
 rw [Bool.eq_iff_iff]
 simp
theorem dec_bl {i j:Bool}:decide (V.bl i = V.bl j) = (i == j):=by
 rw [Bool.eq_iff_iff]
 simp
theorem dec_str {i j:Str}:decide (V.str i = V.str j) = (i == j):=by
 rw [Bool.eq_iff_iff]
 simp
theorem dec_byt {i j:Array UInt8}:decide (V.byt i = V.byt j) = (i.toList == j.toList):=by
 rw [Bool.eq_iff_iff]
 cases i
 cases j
 simp
section
variable {X:Cx} {a b c:Expr} {ta tb tc:TE} {pos:Pos}
theorem fin_bl {pins:List (Addr × Obj)} {σ:St} {H:Hp} {s:Shared} {Q:VK} {k k':Bool} (I:Inv X pins σ H s) (q:Q (.bl k) H) (e:k = k'):EP X pins σ Q (.bool k') s:=by
 subst e
 exact ⟨.bl k,H,I,rfl,q⟩
theorem op_eq:OpR X (compareOp .Eq) rEq:=by
 intro pins s σ H x y v u Q I rx ry h
 obtain ⟨hs,q⟩:=h
 cases x with
 | non =>
  cases rx
  cases y with
  | non => cases ry; exact PySem.EqNone.eq_none_none (fin_bl I q (by simp))
  | bl j => cases ry; exact PySem.EqNone.eq_none_bool (fin_bl I q (by simp))
  | int j => obtain ⟨t',rfl⟩:=ry; exact PySem.EqNone.eq_none_int (fin_bl I q (by simp))
  | str j => obtain ⟨t',rfl⟩:=ry; exact PySem.EqNone.eq_none_str (fin_bl I q (by simp))
  | _ => exact absurd (show false = true from hs) Bool.false_ne_true
 | bl i =>
  cases rx
  cases y with
  | non => cases ry; exact PySem.EqNone.eq_bool_none (fin_bl I q (by simp))
  | bl j => cases ry; exact eq_bool (fin_bl I q dec_bl)
  | str j => obtain ⟨t',rfl⟩:=ry; exact PySem.EqMixed.eq_bool_str (fin_bl I q (by simp))
  | _ => exact absurd (show false = true from hs) Bool.false_ne_true
 | int i =>
  obtain ⟨t,rfl⟩:=rx
  cases y with
  | non => cases ry; exact PySem.EqNone.eq_int_none (fin_bl I q (by simp))
  | int j => obtain ⟨t',rfl⟩:=ry; exact eq_int (fin_bl I q dec_int)
  | str j => obtain ⟨t',rfl⟩:=ry; exact PySem.EqMixed.eq_int_str (fin_bl I q (by simp))
  | _ => exact absurd (show false = true from hs) Bool.false_ne_true
 | str i =>
  obtain ⟨t,rfl⟩:=rx
  cases y with
  | non => cases ry; exact PySem.EqNone.eq_str_none (fin_bl I q (by simp))
  | bl j => cases ry; exact PySem.EqMixed.eq_str_bool (fin_bl I q (by simp))
  | int j => obtain ⟨t',rfl⟩:=ry; exact PySem.EqMixed.eq_str_int (fin_bl I q (by simp))
  | str j => obtain ⟨t',rfl⟩:=ry; exact eq_str (fin_bl I q dec_str)
  | _ => exact absurd (show false = true from hs) Bool.false_ne_true
 | byt i =>
  obtain ⟨t,rfl⟩:=rx
  cases y with
  | byt j => obtain ⟨t',rfl⟩:=ry; exact PySem.W.eq_bytes (fin_bl I q dec_byt)
  | _ => exact absurd (show false = true from hs) Bool.false_ne_true
 | _ => cases y <;> exact absurd (show false = true from hs) Bool.false_ne_true
theorem op_ne:OpR X (compareOp .NotEq) rNe:=by
 intro pins s σ H x y v u Q I rx ry h
 obtain ⟨hs,q⟩:=h
 cases x with
 | non =>
  cases rx
  cases y with
  | non => cases ry; exact PySem.EqNone.ne_none_none (fin_bl I q (by simp))
  | bl j => cases ry; exact PySem.EqNone.ne_none_bool (fin_bl I q (by simp))
  | int j => obtain ⟨t',rfl⟩:=ry; exact PySem.EqNone.ne_none_int (fin_bl I q (by simp))
  | str j => obtain ⟨t',rfl⟩:=ry; exact PySem.EqNone.ne_none_str (fin_bl I q (by simp))
  | _ => exact absurd (show false = true from hs) Bool.false_ne_true
 | bl i =>
  cases rx
  cases y with
  | non => cases ry; exact PySem.EqNone.ne_bool_none (fin_bl I q (by simp))
  | bl j => cases ry; exact ne_bool (fin_bl I q (congrArg not dec_bl))
  | str j => obtain ⟨t',rfl⟩:=ry; exact PySem.EqMixed.ne_bool_str (fin_bl I q (by simp))
  | _ => exact absurd (show false = true from hs) Bool.false_ne_true
 | int i =>
  obtain ⟨t,rfl⟩:=rx
  cases y with
  | non => cases ry; exact PySem.EqNone.ne_int_none (fin_bl I q (by simp))
  | int j => obtain ⟨t',rfl⟩:=ry; exact ne_int (fin_bl I q (congrArg not dec_int))
  | str j => obtain ⟨t',rfl⟩:=ry; exact PySem.EqMixed.ne_int_str (fin_bl I q (by simp))
  | _ => exact absurd (show false = true from hs) Bool.false_ne_true
 | str i =>
  obtain ⟨t,rfl⟩:=rx
  cases y with
  | non => cases ry; exact PySem.EqNone.ne_str_none (fin_bl I q (by simp))
  | bl j => cases ry; exact PySem.EqMixed.ne_str_bool (fin_bl I q (by simp))
  | int j => obtain ⟨t',rfl⟩:=ry; exact PySem.EqMixed.ne_str_int (fin_bl I q (by simp))
  | str j => obtain ⟨t',rfl⟩:=ry; exact ne_str (fin_bl I q (congrArg not dec_str))
  | _ => exact absurd (show false = true from hs) Bool.false_ne_true
 | byt i =>
  obtain ⟨t,rfl⟩:=rx
  cases y with
  | byt j => obtain ⟨t',rfl⟩:=ry; exact PySem.W.ne_bytes (fin_bl I q (congrArg not dec_byt))
  | _ => exact absurd (show false = true from hs) Bool.false_ne_true
 | _ => cases y <;> exact absurd (show false = true from hs) Bool.false_ne_true
theorem op_lt:OpR X (compareOp .Lt) (rI0 fun i j => .bl (decide (i < j))):=opB0 fun _ _ _ _ _ _ _ q => lt_int q
theorem op_le:OpR X (compareOp .LtE) (rI0 fun i j => .bl (decide (i≤j))):=opB0 fun _ _ _ _ _ _ _ q => le_int q
theorem op_gt:OpR X (compareOp .Gt) (rI0 fun i j => .bl (decide (j < i))):=opB0 fun _ _ _ _ _ _ _ q => gt_int q
theorem op_ge:OpR X (compareOp .GtE) (rI0 fun i j => .bl (decide (j≤i))):=opB0 fun _ _ _ _ _ _ _ q => ge_int q
theorem nomark (b:Expr) {op:CmpOp} (h:op≠.In:=by decide) (h2:op≠.NotIn:=by decide):behindInMarks op b = false:=by
 have e1:(op == CmpOp.In) = false:=by cases op <;> first | rfl | exact absurd rfl h
 have e2:(op == CmpOp.NotIn) = false:=by cases op <;> first | rfl | exact absurd rfl h2
 cases b <;> simp [behindInMarks,e1,e2]
theorem pe_cmpR {op:CmpOp} {r:R2} (ho:OpR X (compareOp op) r) (ha:PE X a ta) (hb:PE X b tb) (hm:behindInMarks op b = false):PE X (.Compare a [op] [b] pos) (tOp r ta tb):=by
 intro pins s σ H Q I h
 exact wpAny_Compare1 (binT ha hb I h fun v u s2 x y H2 I2 rx ry q => ho pins s2 σ H2 x y v u Q I2 rx ry q) hm
def tTest (t:TE):TT:=fun σ H Q => t σ H fun x H' => ∃ k,x = .bl k∧Q k H'
theorem pt_cmpR {op:CmpOp} {r:R2} (ho:OpR X (compareOp op) r) (ha:PE X a ta) (hb:PE X b tb) (hm:behindInMarks op b = false):PT X (.Compare a [op] [b] pos) (tTest (tOp r ta tb)):=by
 intro pins s σ H Q I h
 refine wpAny_isTrue_Compare1 (thn (ha pins s σ H _ I h) fun v s1 ⟨x,H1,I1,r1,q1⟩ => thn (hb pins s1 σ H1 _ I1 q1) fun u s2 ⟨y,H2,I2,r2,q2⟩ =>
  thn (ho pins s2 σ H2 x y v u _ I2 r1 r2 q2) fun c s3 ⟨z,H3,I3,r3,k,e,q3⟩ => ?_) hm
 subst e
 cases r3
 exact wpAny_truthy_bool ⟨H3,I3,q3⟩
def tChain (r r':R2) (ta tb tc:TE):TE:=fun σ H Q => ta σ H fun x H1 => tb σ H1 fun y H2 => r x y H2 fun z H3 => ∃ k,z = .bl k ∧
 (if k = true then tc σ H3 fun w' H4 => r' y w' H4 Q else Q (.bl false) H3)
theorem pt_chain {op op':CmpOp} {r r':R2} (ho:OpR X (compareOp op) r) (ho':OpR X (compareOp op') r') (ha:PE X a ta) (hb:PE X b tb) (hc:PE X c tc)
  (hm:lastMarks [op,op'] [b,c] = false:=by with_unfolding_all rfl):PT X (.Compare a [op,op'] [b,c] pos) (tTest (tChain r r' ta tb tc)):=by
 intro pins s σ H Q I h
 refine isTrue_chain (thn (ha pins s σ H _ I h) fun v s1 ⟨x,H1,I1,r1,q1⟩ => test_link (thn (hb pins s1 σ H1 _ I1 q1) fun u s2 ⟨y,H2,I2,r2,q2⟩ =>
  thn (ho pins s2 σ H2 x y v u _ I2 r1 r2 q2) fun d s3 ⟨z,H3,I3,r3,k,e,q3⟩ => ?_)) hm
 subst e
 cases r3
 refine wpAny_truthy_bool ?_
 cases k with
 | false =>
  obtain ⟨k',e',q'⟩:=q3
  cases e'
  exact ite_ff ⟨H3,I3,q'⟩
 | true =>
  refine ite_tt (test_last (thn (hc pins s3 σ H3 _ I3 q3) fun w' s4 ⟨z',H4,I4,r4,q4⟩ => thn (ho' pins s4 σ H4 y z' u w' _ I4 r2 r4 q4) fun d' s5 hh => ?_))
  obtain ⟨z2,H5,I5,r5,k2,e2,q5⟩:=hh
  subst e2
  cases r5
  exact wpAny_truthy_bool ⟨H5,I5,q5⟩
theorem line63:(sizeLine:Nat) < 2 ^ 63:=by rw [sizeLine_eq]; decide
theorem op_add_str:OpR X (binaryOp .Add) (fun x y H Q => ∃ i j,x = .str i∧y = .str j∧i.length + j.length≤sizeLine∧Q (.str (i ++ j)) H):=by
 intro pins s σ H x y v u Q I rx ry h
 obtain ⟨i,j,rfl,rfl,hz,q⟩:=h
 obtain ⟨t,rfl⟩:=rx
 obtain ⟨t',rfl⟩:=ry
 exact add_str (fun t' tk => ⟨.str (i ++ j),H,I.tok _,⟨_,rfl⟩,q⟩) hz
theorem vals1 {x:V} {us:List Value} (r:Vals [x] us):∃ u,us = [u]∧RelV x u:=by
 cases r with
 | cons r1 r2 => cases r2; exact ⟨_,rfl,r1⟩
theorem vals2 {x y:V} {us:List Value} (r:Vals [x,y] us):∃ u w',us = [u,w']∧RelV x u∧RelV y w':=by
 cases r with
 | cons r1 r2 =>
  cases r2 with
  | cons r3 r4 => cases r4; exact ⟨_,_,rfl,r1,r3⟩
theorem call_str_int:CallR X (.type "str") (fun xs H Q => ∃ i,xs = [.int i]∧i.natAbs.log2 < 1920∧Q (.str (toString i)) H):=by
 intro pins s σ H xs us Q I r h
 obtain ⟨i,rfl,hz,q⟩:=h
 obtain ⟨u,rfl,t,rfl⟩:=vals1 r
 exact PySem.P.str_of_int hz ⟨.str _,H,I.tok _,⟨_,rfl⟩,q⟩
end
end L2
namespace L2
open PySem PySem.Spec PyProof.Rows
structure ObjM (h:Heap) (x dx C:Addr) (mA:Str→Option Value):Prop where
 obj:h.get? x = some (PySem.W.instObj C dx)
 ns:h.Ns1 dx mA
 ne:dx≠x
theorem lookIn_ns {h:Heap} {dx:Addr} {mA:Str→Option Value} (n:h.Ns1 dx mA):∃ od,h.get? dx = some od∧∀ name,PySem.W.lookIn name od = some (mA name):=by
 obtain ⟨o,es,ep,ho,hd,hk,_,hm⟩:=n
 refine ⟨o,ho,fun name => ?_⟩
 have e:=hm name
 unfold nsFind findBy at e
 rw [← Array.find?_toList] at e
 unfold PySem.W.lookIn
 rw [hd]
 dsimp only
 split
 ·rename_i y q
  rw [q] at e
  exact congrArg some e
 ·rename_i q
  rw [q] at e
  have a:es.toList.any (·.refKey) = false:=by
   rw [List.any_eq_false]
   intro y hy
   obtain ⟨z,t,hkey⟩:=hk y (Array.mem_toList_iff.mp hy)
   simp [DictEntry.refKey,hkey]
  have a':¬ es.toList.any (·.refKey) = true:=by rw [a]; exact Bool.false_ne_true
  rw [if_neg a']
  exact congrArg some e
theorem ObjM.look {h:Heap} {x dx C:Addr} {mA:Str→Option Value} (I:ObjM h x dx C mA):∃ od,PySem.W.InstAt h x (PySem.W.instObj C dx) C (some od)∧∀ name,PySem.W.lookIn name od = some (mA name) :=
 let ⟨od,ho,hl⟩:=lookIn_ns I.ns
 ⟨od,⟨I.obj,rfl,rfl,ho⟩,hl⟩
section
variable {prog:Program} {w:World} {A:Around} {E:Value→Shared→Prop} {s:Shared} {K:PySem.W.Frag} {x dx C f:Addr} {mA:Str→Option Value} {name:Str} {v:Value}
end
section
variable {P:Program} {w:World} {H H':Hp} {h h':Heap} {a C dx:Addr} {fs fs':List (Str × V)}
theorem ins_get (hok:HOk P w H h) (e:H a = some (.ins C dx fs)):∃ mA,ObjM h a dx C mA∧(∀ f,RelO (fs.lookup f) (mA f))∧PySem.Within mA (fs.map (·.1))∧fs.length≤1000∧H dx = some (.own a):=by
 obtain ⟨d,z,ne,ob,mA,n,r,q⟩:=(show ObjOk P w H h a (.ins C dx fs) from hok a _ e)
 exact ⟨mA,⟨ob,n,ne⟩,r,q,z,d⟩
end
structure Cls (K:PySem.W.Frag) (C:Addr):Prop where
 pg:PySem.W.plainGet K C Str.empty = true
 hd:PySem.W.hasDictIn K C = true
 po:PySem.W.plainOver K C = true
 sa:PySem.W.findIn K (.ref C) "__setattr__" = some (some (.builtin "object.__setattr__"))
theorem Cls.get {K:PySem.W.Frag} {C:Addr} (c:Cls K C) (f:Str):PySem.W.plainGet K C f = true:=c.pg
section
variable {X:Cx} {pins:List (Addr × Obj)} {σ:St} {H:Hp} {s:Shared} {a C dx:Addr} {fs:List (Str × V)} {f:Str} {v:V} {A:Around} {E:Value→Shared→Prop}
end
section
variable {X:Cx} {o e value:Expr} {f:Str} {pos pos' tpos:Pos} {ta tv:TE}
end
section
variable {X:Cx} {pins:List (Addr × Obj)} {σ:St} {H:Hp} {s:Shared} {A:Around} {E:Value→Shared→Prop} {Q:Value→Shared→Prop} {c:Value} {b:Bool}
inductive TyOf (K:PySem.W.Frag) (H:Hp):V→Value→Prop where
 | non:TyOf K H .non (.type "NoneType")
 | bl (x:Bool):TyOf K H (.bl x) (.type "bool")
 | int (i:Int):TyOf K H (.int i) (.type "int")
 | str (x:Str):TyOf K H (.str x) (.type "str")
 | flt (x:UInt64):TyOf K H (.flt x) (.type "float")
 | lst {a:Addr} {xs:List V} (e:H a = some (.lst xs)):TyOf K H (.ref a) (.type "list")
 | frz {a:Addr} {o:Obj} {xs:List V} (e:H a = some (.frz o (.lst xs))):TyOf K H (.ref a) (.type "list")
 | tup {a:Addr} {xs:List V} (e:H a = some (.tup xs)):TyOf K H (.ref a) (.type "tuple")
 | dK {a:Addr} {kvs:List (Key × V)} (e:H a = some (.dK kvs)):TyOf K H (.ref a) (.type "dict")
 | dT {a:Addr} {kvs:List (List Key × V)} (e:H a = some (.dT kvs)):TyOf K H (.ref a) (.type "dict")
 | ins {a C dx:Addr} {fs:List (Str × V)} (e:H a = some (.ins C dx fs)) (cl:Cls K C) (ha:PySem.W.findIn K (.ref C) "__class__" = some (some (.builtin "object.__class__")))
   (hn:PySem.W.specialIn K (.builtin "object.__class__") "__get__" = some (some (.builtin "getset_descriptor.__get__"))) (htk:PySem.W.takesIn K (.builtin "object.__class__") = some true)
   (hm:PySem.W.mroIn K C (.type "object") = some true):TyOf K H (.ref a) (.ref C)
theorem isinst_ok {x:V} {u t:Value} (I:Inv X pins σ H s) (rx:RelV x u) (ty:TyOf X.K H x t) (e:PySem.W.kitOne X.K t c = some b) (h:∀ tk,Q (.bool b) { s with toks:=tk }) :
  wpAny (model X.prog X.w) A (call (.builtin "isinstance") [u,c]) Q E s:=by
 cases ty with
 | non => cases (show u = Value.none from rx); exact PySem.W.kia_one PySem.W.kitx_none I.kIn True.intro e (fun z => nomatch z) h
 | bl y => cases (show u = Value.bool y from rx); exact PySem.W.kia_one PySem.W.kitx_bool I.kIn True.intro e (fun z => nomatch z) h
 | int i => obtain ⟨t,q⟩:=(show ∃ t,u = Value.int i t from rx); cases q; exact PySem.W.kia_one PySem.W.kitx_int I.kIn True.intro e (fun z => nomatch z) h
 | str y => obtain ⟨t,q⟩:=(show ∃ t,u = Value.str y t from rx); cases q; exact PySem.W.kia_one PySem.W.kitx_str I.kIn True.intro e (fun z => nomatch z) h
 | flt y => obtain ⟨t,q⟩:=(show ∃ t,u = Value.float y t from rx); cases q; exact PySem.W.kia_one PySem.W.kitx_float I.kIn True.intro e (fun z => nomatch z) h
 | @lst a xs ea =>
  cases (show u = Value.ref a from rx)
  obtain ⟨_,_,n,_,h1⟩:=(show ObjOk X.prog X.w H s.heap a (.lst xs) from I.hok a _ ea)
  exact PySem.W.kia_one PySem.W.kitx_list I.kIn ⟨_,h1,rfl⟩ e (fun z => nomatch z) h
 | @frz a ob xs ea =>
  cases (show u = Value.ref a from rx)
  obtain ⟨_,_,_,n,_,h1⟩:=(show ObjOk X.prog X.w H s.heap a (.frz ob (.lst xs)) from I.hok a _ ea)
  exact PySem.W.kia_one PySem.W.kitx_list I.kIn ⟨_,h1,rfl⟩ e (fun z => nomatch z) h
 | @tup a xs ea =>
  cases (show u = Value.ref a from rx)
  obtain ⟨_,_,_,p⟩:=(show ObjOk X.prog X.w H s.heap a (.tup xs) from I.hok a _ ea)
  obtain ⟨o,h1,h2,_⟩:=p
  exact PySem.W.kia_one PySem.W.kitx_tuple I.kIn ⟨o,h1,h2⟩ e (fun z => nomatch z) h
 | @dK a kvs ea =>
  cases (show u = Value.ref a from rx)
  obtain ⟨_,_,vs,_,p⟩:=(show ObjOk X.prog X.w H s.heap a (.dK kvs) from I.hok a _ ea)
  obtain ⟨o,es,ep,h1,h2,_⟩:=p
  exact PySem.W.kia_one PySem.W.kitx_dict I.kIn ⟨o,h1,h2.1⟩ e (fun z => nomatch z) h
 | @dT a kvs ea =>
  cases (show u = Value.ref a from rx)
  obtain ⟨_,_,xs,_,o,es,ep,h1,h2,_⟩:=(show ObjOk X.prog X.w H s.heap a (.dT kvs) from I.hok a _ ea)
  exact PySem.W.kia_one PySem.W.kitx_dict I.kIn ⟨o,h1,h2.1⟩ e (fun z => nomatch z) h
 | @ins a C dx fs ea cl ha hn htk hm =>
  cases (show u = Value.ref a from rx)
  obtain ⟨mA,O,_⟩:=ins_get I.hok ea
  obtain ⟨od,J,_⟩:=O.look
  exact PySem.W.kia_one (PySem.W.kitx_own (cl.get _) cl.hd ha hn htk hm) I.kIn J e (fun z => nomatch z) h
end
end L2
namespace L2
open PySem PySem.Spec PyProof.Rows
structure RoomC (c:Bool) (k:Nat) (A:Around):Prop where
 hd:c = true→A.handled = none
 dp:A.depth + 3 * k + 5 < recursionLimit
 un:A.units + 16 * k + 200 < cLine
abbrev Room:=RoomC true
theorem RoomC.mono {c c':Bool} {j k:Nat} {A:Around} (r:RoomC c k A) (h:j≤k) (hc:c' = true→c = true:=by decide):RoomC c' j A:=⟨fun z => r.hd (hc z),by have:=r.dp; omega,by have:=r.un; omega⟩
theorem RoomC.deeper {c:Bool} {k:Nat} {A:Around} (r:RoomC c (k + 1) A) (env:Env):RoomC c k (A.deeper env) :=
 ⟨r.hd,by have:=r.dp; show A.depth + 1 + 3 * k + 5 < _; omega,by have:=r.un; show A.units + 3 + 16 * k + 200 < _; omega⟩
theorem RoomC.in1 {c:Bool} {k:Nat} {A:Around} (r:RoomC c (k + 1) A):RoomC c k A.in1 :=
 ⟨r.hd,by have:=r.dp; show A.depth + 3 * k + 5 < _; omega,by have:=r.un; show A.units + 1 + 16 * k + 200 < _; omega⟩
theorem RoomC.depth {c:Bool} {k:Nat} {A:Around} (r:RoomC c k A):A.depth < recursionLimit:=by have:=r.dp; omega
theorem RoomC.units {c:Bool} {k:Nat} {A:Around} (r:RoomC c k A):A.units + 64 < cLine:=by have:=r.un; omega
theorem RoomC.units0 {c:Bool} {k:Nat} {A:Around} (r:RoomC c k A):A.units < cLine:=by have:=r.un; omega
def tNil:TA:=fun _ H Q => Q [] H
def tCons (ta:TE) (tr:TA):TA:=fun σ H Q => ta σ H fun x H1 => tr σ H1 fun xs H2 => Q (x :: xs) H2
section
variable {X:Cx} {e:Expr} {es:List Expr} {te:TE} {t:TA} {pos:Pos}
theorem pa_nil:PA X [] tNil:=fun _ _ _ _ H Q I h => Calls.spliced_nil ⟨[],H,I,.nil,h⟩
theorem pa_cons (ha:PE X e te) (hr:PA X es t) (hs:starEach (e :: es) X.env = (false,eval e X.env) :: starEach es X.env:=by rfl):PA X (e :: es) (tCons te t):=by
 intro pos pins s σ H Q I h
 rw [hs]
 show wpAny _ _ (spliced ((false,eval e X.env) :: backTo pos (starEach es X.env))) _ _ s
 refine Calls.spliced_cons (thn (ha pins s σ H _ I h) fun u s1 ⟨x,H1,I1,r1,q1⟩ => ?_)
 exact thn (hr pos pins s1 σ H1 _ I1 q1) fun us s2 ⟨xs,H2,I2,r2,q2⟩ => ⟨x :: xs,H2,I2,.cons r1 r2,q2⟩
def tTup (t:TA):TE:=fun σ H Q => t σ H fun xs H1 => xs.length≤sizeLine∧∀ p,H1 p = none→Q (.ref p) (upd H1 p (.tup xs))
def tLst (t:TA):TE:=fun σ H Q => t σ H fun xs H1 => xs.length≤sizeLine∧∀ p,H1 p = none→Q (.ref p) (upd H1 p (.lst xs))
theorem pe_tup {x1} (h:PA X es t):PE X (.Tuple es x1 pos) (tTup t):=by
 intro pins s σ H Q I hq
 refine wpAny_Tuple_spliced (thn (h pos pins s σ H _ I hq) fun us s1 ⟨xs,H1,I1,r,z,q⟩ => ⟨by rw [← r.length]; exact z,?_⟩)
 have hf:H1 s1.heap.objs.size = none:=I1.hok.fresh (Nat.le_refl _)
 refine ⟨.ref s1.heap.objs.size,upd H1 s1.heap.objs.size (.tup xs),I1.laid (t':=s1.toks) (fun b u e => Heap.get?_push_of_some _ e) (Nat.le_refl _) ?_,rfl,q _ hf⟩
 exact ⟨z,us,r,⟨_,Heap.get?_push_size _ rfl,rfl,_,rfl⟩⟩
theorem pe_lst (h:PA X es t):PE X (.List es pos) (tLst t):=by
 intro pins s σ H Q I hq
 refine wpAny_List_spliced (thn (h pos pins s σ H _ I hq) fun us s1 ⟨xs,H1,I1,r,z,q⟩ => ⟨by rw [← r.length]; exact z,?_⟩)
 have hf:H1 s1.heap.objs.size = none:=I1.hok.fresh (Nat.le_refl _)
 refine ⟨.ref s1.heap.objs.size,upd H1 s1.heap.objs.size (.lst xs),I1.laid (t':=s1.toks) (fun b u e => Heap.get?_push_of_some _ e) (Nat.le_refl _) ?_,rfl,q _ hf⟩
 exact ⟨z,us,0,r,Heap.get?_push_size _ rfl⟩
end
abbrev Sp:=List V→Hp→VK→XK→Prop
abbrev CXT:=List Env→Hp→Shared→XK→Value→Shared→Prop
structure Env0 (P:Program) (w:World) (K:PySem.W.Frag) (mg:Str→Option Value) (base:Heap) (A:Around) (outer:List Env) (s:Shared) (H:Hp):Prop where
 frames:A.frames = some outer
 mod:Mod K mg base
 bs:∀ b o,base.get? b = some o→s.heap.get? b = some o∧H b = none
 bsz:base.objs.size≤s.heap.objs.size
 funs:s.heap.FunFrames base outer
 frf:∀ b∈frs outer,H b = none
 hok:HOk P w H s.heap
 bare:AllBare s.gens
 hn:HdF A H
def CE (outer:List Env) (P:Program) (w:World) (H:Hp) (s:Shared) (Q:VK) (u:Value) (s':Shared):Prop :=
 ∃ v H',s'.os = s.os∧AllBare s'.gens∧Un (frs outer) [] H H' s.heap s'.heap∧HOk P w H' s'.heap∧RelV v u∧Q v H'
def CR (CX:CXT) (outer:List Env) (P:Program) (w:World) (H:Hp) (s:Shared) (Q:VK) (E:XK) (r:Result) (s':Shared):Prop :=
 match r with
 | .ok (.ret u) => CE outer P w H s Q u s'
 | .ok _ => False
 | .error e => CX outer H s E e s'
structure FnOk (P:Program) (w:World) (K:PySem.W.Frag) (mg:Str→Option Value) (base:Heap) (CX:CXT) (k:Nat) (f:Addr) (fd:FuncData) (ps:List Str) (sp:Sp) (c:Bool:=true):Prop where
 len:∀ vs H Q E,sp vs H Q E→vs.length = ps.length
 run:∀ (A:Around) (outer:List Env) (s:Shared) (H:Hp) (args:Args) (us:List Value) (vs:List V) (Q:VK) (E:XK),RoomC c k A→Env0 P w K mg base A outer s H→BindsTo s fd args (ps.zip us)→Vals vs us→sp vs H Q E →
  codeAny (model P w) A (.call (.ref f) args) (CR CX outer P w H s Q E) s
section
variable {X:Cx} {pins:List (Addr × Obj)} {σ:St} {H:Hp} {s s':Shared}
theorem Inv.env0 (I:Inv X pins σ H s):Env0 X.prog X.w X.K X.mg X.base X.A X.stack s H :=
 ⟨I.ok.frames,I.ok.mod,I.bs,Nat.le_trans I.ok.bsz I.sz,I.stack,I.stkFree,I.hok,I.bare,I.hn⟩
theorem Inv.after {Q:VK} {u:Value} (I:Inv X pins σ H s) (h:CE X.stack X.prog X.w H s Q u s'):EP X pins σ Q u s':=by
 obtain ⟨v,H',os,bare,un,hok,r,q⟩:=h
 obtain ⟨hh,g,d,t,os'⟩:=s'
 obtain rfl:os' = s.os:=os
 exact ⟨v,H',I.call (h':=hh) (g':=g) (d':=d) (t':=t) (ch:=[]) un hok bare (fun b z => absurd z (by simp)),r,q⟩
end
def tCall (sp:Sp) (dvs:List V) (E:XK) (t:TA):TE:=fun σ H Q => t σ H fun vs H1 => sp (vs ++ dvs) H1 Q E
def Binds (K:PySem.W.Frag) (fd:FuncData) (ps:List Str) (ds:List Value):Prop :=
 ∀ (s:Shared) (us:List Value),K.In s.heap→(us ++ ds).length = ps.length→BindsTo s fd ⟨us,[]⟩ (ps.zip (us ++ ds))
theorem Binds.all {K:PySem.W.Frag} {fd:FuncData} {ps:List Str} (h:∀ us:List Value,us.length = ps.length→bindArgs fd ⟨us,[]⟩ = pure (ps.zip us)):Binds K fd ps []:=fun s us _ hl => by
 rw [List.append_nil] at hl ⊢
 exact .of_eq (h us hl)
def Passes (CX:CXT) (X:Cx) (E:XK):Prop:=∀ (pins:List (Addr × Obj)) (σ:St) (H:Hp) (s:Shared) (e:Value) (s':Shared),Inv X pins σ H s→CX X.stack H s E e s'→X.xe e s'
section
variable {X:Cx} {CX:CXT} {k:Nat} {f C:Addr} {fd:FuncData} {ps:List Str} {sp:Sp} {dvs:List V} {ds:List Value} {E:XK} {x m:Str} {p pos apos:Pos} {e o:Expr} {es:List Expr} {ta:TE} {t:TA}
theorem run_fn {pins:List (Addr × Obj)} {σ:St} {H:Hp} {s:Shared} {Q:VK} {us:List Value} {vs:List V} {cm:Bool} (F:FnOk X.prog X.w X.K X.mg X.base CX k f fd ps sp cm) (hr:RoomC cm k X.A) (hb:Binds X.K fd ps ds) (hd:Vals dvs ds) (hx:Passes CX X E)
  (I:Inv X pins σ H s) (r:Vals vs us) (h:sp (vs ++ dvs) H Q E):wpAny (model X.prog X.w) X.A (call (.ref f) us) (EP X pins σ Q) X.xe s:=by
 have r2:Vals (vs ++ dvs) (us ++ ds):=r.append hd
 have hl:(us ++ ds).length = ps.length:=by rw [← r2.length]; exact F.len _ _ _ _ h
 refine wpAny_call (codeAny_mono (F.run X.A X.stack s H ⟨us,[]⟩ (us ++ ds) (vs ++ dvs) Q E hr I.env0 (hb s us I.kIn hl) r2 h) fun r s' hq => ?_)
 cases r with
 | error e => exact hx pins σ H s e s' I hq
 | ok fl =>
  cases fl with
  | ret u => exact I.after hq
  | next => exact False.elim hq
  | brk => exact False.elim hq
  | cont => exact False.elim hq
theorem pe_call {cm:Bool} (F:FnOk X.prog X.w X.K X.mg X.base CX k f fd ps sp cm) (hr:RoomC cm k X.A) (hg:Gl X x) (hm:X.mg x = some (.ref f)) (hk:PySem.W.keepIn X.K (.ref f) = true) (hb:Binds X.K fd ps ds) (hd:Vals dvs ds) (hx:Passes CX X E)
  (ha:PA X (e :: es) t) (hdb:(x == ("__debug__":Str)) = false:=by decide) (he:starEach (e :: es) X.env = (false,eval e X.env) :: starEach es X.env:=by rfl) (hpl:(backTo pos (starEach es X.env)).any (·.1) = false:=by rfl) :
  PE X (.Call (.Name x p) (e :: es) [] pos) (tCall sp dvs E t):=by
 intro pins s σ H Q I h
 refine wpAny_Call_Name_kw (ld_glob I hg hm ?_ hdb)
 refine PySem.W.callWith_K (h₀:=X.base) I.ok.mod.kin hk (thn (ha pos pins s σ H _ I h) fun us s1 ⟨vs,H1,I1,r,q⟩ => ⟨I1.kIn,?_⟩) he hpl
 exact run_fn F hr hb hd hx I1 r q
end
section
variable {X:Cx} {CX:CXT} {k:Nat} {f C:Addr} {fd:FuncData} {ps ks:List Str} {sp:Sp} {E:XK} {x m:Str} {p pos apos kpos:Pos} {e o:Expr} {es:List Expr} {kws:List Keyword} {te ta:TE} {t tk:TA} {nm:Option Str}
variable {g:List Value→List Value→List Value} {gV:List V→List V→List V}
end
structure FnScope (N P:List Str) (sc:Scope):Prop where
 kind:sc.kind = .function
 co:sc.isCoroutine = false
 gen:sc.isGenerator = false
 nd:N.Nodup
 pre:N.take P.length = P
 par:∀ x∈P,sc.names.lookup x = some .local∨sc.names.lookup x = some .cell
 nofree:∀ y∈sc.names,y.2≠.free
theorem bindL_out {kindOf:Str→Option NameKind} {x:Str}:∀ {binds:List (Str × Value)} {m:Str→Option Value},(∀ v,(x,v) ∉ binds)→bindL kindOf binds m x = m x
 | [],_,_ => rfl
 | (n,v) :: r,m,h => by
  unfold bindL
  rw [bindL_out fun w hw => h w (List.mem_cons_of_mem _ hw)]
  split
  ·have:x≠n:=by rintro rfl; exact h v List.mem_cons_self
   simp [this]
  ·rfl
theorem bindC_out {kindOf:Str→Option NameKind} {x:Str}:∀ {binds:List (Str × Value)} {m:Str→Option Value},(∀ v,(x,v) ∉ binds)→bindC kindOf binds m x = m x
 | [],_,_ => rfl
 | (n,v) :: r,m,h => by
  unfold bindC
  rw [bindC_out fun w hw => h w (List.mem_cons_of_mem _ hw)]
  split
  ·rfl
  ·have:x≠n:=by rintro rfl; exact h v List.mem_cons_self
   simp [this]
theorem bindL_get {kindOf:Str→Option NameKind} {x:Str} {v:Value}:∀ {P:List Str} {vs:List Value} {i:Nat} {m:Str→Option Value},P.Nodup→P[i]? = some x→vs[i]? = some v→kindOf x = some .local →
  bindL kindOf (P.zip vs) m x = some v
 | [],_,_,_,_,h,_,_ => by simp at h
 | _ :: _,[],_,_,_,_,h,_ => by simp at h
 | p :: P,w :: vs,0,m,nd,h1,h2,hk => by
  simp at h1 h2; subst h1; subst h2
  show bindL kindOf ((p,w) :: P.zip vs) m p = _
  unfold bindL
  rw [bindL_out fun v hv => (List.nodup_cons.mp nd).1 (List.of_mem_zip hv).1,if_pos hk]
  simp
 | p :: P,w :: vs,i + 1,m,nd,h1,h2,hk => by
  show bindL kindOf ((p,w) :: P.zip vs) m x = _
  unfold bindL
  exact bindL_get (i:=i) (List.nodup_cons.mp nd).2 (by simpa using h1) (by simpa using h2) hk
theorem bindC_get {kindOf:Str→Option NameKind} {x:Str} {v:Value}:∀ {P:List Str} {vs:List Value} {i:Nat} {m:Str→Option Value},P.Nodup→P[i]? = some x→vs[i]? = some v→kindOf x≠some .local →
  bindC kindOf (P.zip vs) m x = some v
 | [],_,_,_,_,h,_,_ => by simp at h
 | _ :: _,[],_,_,_,_,h,_ => by simp at h
 | p :: P,w :: vs,0,m,nd,h1,h2,hk => by
  simp at h1 h2; subst h1; subst h2
  show bindC kindOf ((p,w) :: P.zip vs) m p = _
  unfold bindC
  rw [bindC_out fun v hv => (List.nodup_cons.mp nd).1 (List.of_mem_zip hv).1,if_neg hk]
  simp
 | p :: P,w :: vs,i + 1,m,nd,h1,h2,hk => by
  show bindC kindOf ((p,w) :: P.zip vs) m x = _
  unfold bindC
  exact bindC_get (i:=i) (List.nodup_cons.mp nd).2 (by simpa using h1) (by simpa using h2) hk
def start (N:List Str) (vs:List V):St:=vs.map some ++ List.replicate (N.length - vs.length) none
def cxOf (CX:CXT) (P:Program) (w:World) (K:PySem.W.Frag) (mg:Str→Option Value) (base:Heap) (N:List Str) (qual:Str) (scope:Scope) (f:Addr) (cd:Value) (A:Around) (outer:List Env) (s:Shared) (H:Hp) (E:XK) (c:Bool:=true):Cx where
 prog:=P
 w:=w
 K:=K
 mg:=mg
 base:=base
 A:=A.deeper (envOfC qual scope s.heap.objs.size f cd)
 N:=N
 s₀:=s
 H₀:=H
 env:=envOfC qual scope s.heap.objs.size f cd
 outer:=outer
 stack:=envOfC qual scope s.heap.objs.size f cd :: outer
 ex:=[]
 calm:=c
 fn:=fun _ => true
 pn:=[]
 xe:=fun e s' => wpAny (model P w) (A.deeper (envOfC qual scope s.heap.objs.size f cd)) (leaving (envOfC qual scope s.heap.objs.size f cd) e) (fun _ s'' => CX outer H s E e s'') (fun e' s'' => CX outer H s E e' s'') s'
theorem cell_has {sc:Scope} {n:Nat} {x:Str} (h:sc.names.lookup x = some .cell):∃ c,(cellsFrom n sc.names []).lookup x = some c:=by
 have q:=PySem.W.cellsFrom_some sc.names n [] (.inl h)
 exact Option.isSome_iff_exists.mp q
theorem inv_start {CX:CXT} {P:Program} {w:World} {K:PySem.W.Frag} {mg:Str→Option Value} {base:Heap} {N ps:List Str} {qual:Str} {scope:Scope} {f:Addr} {cd:Value} {A:Around} {outer:List Env} {s s1:Shared} {H:Hp} {E:XK} {us:List Value} {vs:List V}
  {c:Bool} (S:FnScope N ps scope) (hd:c = true→A.handled = none) (e0:Env0 P w K mg base A outer s H) (hl:vs.length = ps.length) (r:Vals vs us)
  (x:InCallC s s.heap.objs.size (bindL (envOfC qual scope s.heap.objs.size f cd).kindOf (ps.zip us) fun _ => none) (cellsFrom (s.heap.objs.size + 1) scope.names []) (bindC (envOfC qual scope s.heap.objs.size f cd).kindOf (ps.zip us) fun _ => none) s1) :
  Inv (cxOf CX P w K mg base N qual scope f cd A outer s H E c) [] (start N vs) H s1:=by
 have hpl:ps.length≤N.length:=by have:=congrArg List.length S.pre; rw [List.length_take] at this; omega
 obtain ⟨h1,tk,rfl,hk⟩:=x.done
 have noA:∀ b:Addr,b ∉ (cxOf CX P w K mg base N qual scope f cd A outer s H E c).ex:=fun b z => absurd (show b∈([]:List Addr) from z) (by simp)
 refine ⟨⟨e0.mod,S.kind,rfl,rfl,Nat.le_refl _,fun y z c h1 h2 => ?_,fun y hy => ?_,fun y c' _ h => ?_,hd,Around.frames_deeper e0.frames,.inr ⟨rfl,rfl⟩,fun b z => absurd z (noA b),e0.bs,e0.bsz,fun b _ _ => noA b,fun b z => absurd z (noA b),e0.funs,e0.frf⟩,
  rfl,e0.bare,Un.kept hk,⟨_,x.toInCall.ns,fun i y v h1 h2 h3 => ?_⟩,fun y c h => ⟨_,x.cell y c h⟩,e0.hok.fresh (Nat.le_refl _),fun y c h => ?_,fun p hp => absurd (show p∈([]:List (Addr × Obj)) from hp) (by simp),e0.hok.kept hk,?_,e0.hn⟩
 ·exact name_of_addr x.apart (PySem.mem_of_lookup h1) (PySem.mem_of_lookup h2)
 ·have hy:scope.names.lookup y = some .cell∨scope.names.lookup y = some .free:=hy
  rcases hy with hy | hy
  ·exact cell_has hy
  ·exact absurd rfl (S.nofree _ (PySem.mem_of_lookup hy))
 ·exact Nat.le_of_lt (x.above y c' (PySem.mem_of_lookup h))
 ·have hi:i < vs.length:=by
   unfold start at h2
   by_cases hi:i < vs.length
   ·exact hi
   ·rw [List.getElem?_append_right (by simpa using hi)] at h2
    rw [List.getElem?_replicate] at h2
    split at h2 <;> cases h2
  have ha:vs[i]? = some v:=by
   unfold start at h2
   rw [List.getElem?_append_left (by simpa using hi),List.getElem?_map] at h2
   cases e:vs[i]? with
   | none => rw [e] at h2; cases h2
   | some a => rw [e] at h2; cases h2; rfl
  obtain ⟨u,hu,rv⟩:=r.get ha
  have hp:ps[i]? = some y:=by
   rw [← S.pre,List.getElem?_take_of_lt (by omega)]; exact h1
  have ndP:ps.Nodup:=by rw [← S.pre]; exact S.nd.sublist (List.take_sublist _ _)
  refine ⟨u,rv,?_⟩
  rcases S.par y (List.mem_of_getElem? hp) with k | k
  ·exact .inl ⟨k,bindL_get ndP hp hu k⟩
  ·obtain ⟨c,e⟩:=cell_has (n:=s.heap.objs.size + 1) k
   refine .inr ⟨.inl k,c,e,?_⟩
   have q:=x.cell y c e
   rw [bindC_get ndP hp hu (by show scope.names.lookup y≠_; rw [k]; decide)] at q
   exact q
 ·exact e0.hok.fresh (Nat.le_of_lt (x.above y c (PySem.mem_of_lookup h)))
 ·unfold start
  show _ = N.length
  rw [List.length_append,List.length_map,List.length_replicate]
  omega
theorem fn_of {CX:CXT} {P:Program} {w:World} {K:PySem.W.Frag} {mg:Str→Option Value} {base:Heap} {k:Nat} {f:Addr} {name qual:Str} {params:Arguments} {body:List Stmt} {scope:Scope} {dV kV doc pm cdv ct oc:Value} {an od:Option Addr}
  {osl:Array (Option Value)} {N ps:List Str} {sp:Sp} {c:Bool} (lk:K.lookup f = some ⟨oc,od,.func (PySem.W.fnOf name qual params body scope dV kV doc pm an cdv ct),osl⟩) (hcd:PySem.W.codeIn K cdv qual = true) (S:FnScope N ps scope)
  (len:∀ vs H Q E,sp vs H Q E→vs.length = ps.length)
  (hbody:∀ (A:Around) (outer:List Env) (s:Shared) (H:Hp) (vs:List V) (Q:VK) (E:XK),RoomC c k (A.deeper (envOfC qual scope s.heap.objs.size f cdv))→sp vs H Q E →
   ∃ t,PSs (cxOf CX P w K mg base N qual scope f cdv A outer s H E c) body t∧t { nx:=fun _ H' => Q .non H',rt:=Q } (start N vs) H) :
  FnOk P w K mg base CX (k + 1) f (PySem.W.fnOf name qual params body scope dV kV doc pm an cdv ct) ps sp c:=by
 refine ⟨len,fun A outer s H args us vs Q E hr e0 hb r hsp => ?_⟩
 have hl:=len _ _ _ _ hsp
 have KX:K.In s.heap:=e0.mod.kin.keeps fun b o e => (e0.bs b o e).1
 have lim:s.heap.NoLimit:=e0.mod.nolimit.keeps fun b o e => (e0.bs b o e).1
 have hkind:∀ y∈ps.zip us,scope.names.lookup y.1 = some .local∨(scope.names.lookup y.1 = some .cell∧((cellsFrom (s.heap.objs.size + 1) scope.names []).lookup y.1).isSome = true):=fun ⟨n,v⟩ hy => by
  rcases S.par n (List.of_mem_zip hy).1 with q | q
  ·exact .inl q
  ·exact .inr ⟨q,PySem.W.cellsFrom_some _ _ _ (.inl q)⟩
 refine codeAny_call_function hr.depth (KX _ _ lk) rfl S.co S.gen rfl (PySem.W.codeRec_of KX hcd) (hb _ _ _ _ ?_)
 refine wpAny_newFunctionEnv_cells S.kind hkind fun env he s1 x => ?_
 subst he
 refine ⟨lim.keeps x.toInCall.keep,codeAny_func ?_⟩
 obtain ⟨t,ht,hq⟩:=hbody A outer s H vs Q E (hr.deeper _) hsp
 have I:Inv (cxOf CX P w K mg base N qual scope f cdv A outer s H E c) [] (start N vs) H s1:=inv_start S hr.hd e0 hl r x
 refine wpAny_mono (ht [] s1 (start N vs) H _ I hq) (fun fl s' hs => ?_) fun e s' hs => hs
 have fin:∀ {σ':St} {H':Hp} {v:V} {u:Value},Inv (cxOf CX P w K mg base N qual scope f cdv A outer s H E c) [] σ' H' s'→RelV v u→Q v H'→CE outer P w H s Q u s' :=
  fun {σ' H' v u} J rv q => ⟨v,H',J.os,J.bare,J.base,J.hok,rv,q⟩
 cases fl with
 | ret u =>
  obtain ⟨v,σ',H',J,rv,q⟩:=hs
  exact fin J rv q
 | next =>
  obtain ⟨σ',H',J,q⟩:=hs
  exact fin (v:=V.non) (u:=Value.none) J rfl q
 | brk =>
  obtain ⟨_,_,_,q⟩:=hs
  exact False.elim q
 | cont =>
  obtain ⟨_,_,_,q⟩:=hs
  exact False.elim q
end L2
namespace L2
open PySem PySem.Spec PyProof.Rows
section
variable {X:Cx} {x:Str} {p pos:Pos} {e:Expr} {es:List Expr} {t:TA} {id T:String} {r:List V→Hp→VK→Prop}
def tCB (r:List V→Hp→VK→Prop) (t:TA):TE:=fun σ H Q => t σ H fun vs H1 => r vs H1 Q
theorem pe_callB (hc:CallR X (.builtin id) r) (hg:Gl X x) (hm:X.mg x = none) (hv:bootBuiltins x = some (.builtin id)) (ha:PA X (e :: es) t) (hn:x≠"__name__":=by decide) (hdb:(x == ("__debug__":Str)) = false:=by decide)
  (he:starEach (e :: es) X.env = (false,eval e X.env) :: starEach es X.env:=by rfl) (hpl:(backTo pos (starEach es X.env)).any (·.1) = false:=by rfl):PE X (.Call (.Name x p) (e :: es) [] pos) (tCB r t):=by
 intro pins s σ H Q I h
 refine wpAny_Call_Name_kw (ld_blt I hg hm hv ?_ hn hdb)
 exact PyProof.Rows.callWith_builtin1 (thn (ha pos pins s σ H _ I h) fun us s1 ⟨vs,H1,I1,r1,q1⟩ => hc pins s1 σ H1 vs us Q I1 r1 q1) he hpl
theorem pe_callTy (hc:CallR X (.type T) r) (hg:Gl X x) (hm:X.mg x = none) (hv:bootBuiltins x = some (.type T)) (ha:PA X (e :: es) t) (hn:x≠"__name__":=by decide) (hdb:(x == ("__debug__":Str)) = false:=by decide)
  (he:starEach (e :: es) X.env = (false,eval e X.env) :: starEach es X.env:=by rfl) (hpl:(backTo pos (starEach es X.env)).any (·.1) = false:=by rfl):PE X (.Call (.Name x p) (e :: es) [] pos) (tCB r t):=by
 intro pins s σ H Q I h
 refine wpAny_Call_Name_kw (ld_blt I hg hm hv ?_ hn hdb)
 exact PyProof.Rows.callWith_type1 (thn (ha pos pins s σ H _ I h) fun us s1 ⟨vs,H1,I1,r1,q1⟩ => hc pins s1 σ H1 vs us Q I1 r1 q1) he hpl
end
end L2
namespace HT
open PySem PyProof.Rows
section
open PySem.SeqAt
open PySem.AutoSeq1 (wpAny_loadPart')
open PySem.MeetsSeq PySem.MeetsSeq2 PySem.MeetsSeq3
end
section
variable {prog:Program} {w:World} {A:Around} {E:Value→Shared→Prop} {s:Shared}
def sIx (n d:Nat):Option Int→Nat
 | none => d
 | some v => if v < 0 then (v + (n:Int)).toNat else min v.toNat n
theorem sIx_none (n d:Nat):sIx n d none = d:=rfl
theorem sIx_nat (n d k:Nat):sIx n d (some (k:Int)) = min k n:=by
 show (if (k:Int) < 0 then ((k:Int) + (n:Int)).toNat else min (k:Int).toNat n) = min k n
 rw [if_neg (by omega),Int.toNat_natCast]
end
end HT
namespace L2
open PySem PySem.Spec PyProof.Rows
abbrev TO:=St→Hp→(Option Int→Hp→Prop)→Prop
def PO (X:Cx) (e:Option Expr) (t:TO):Prop :=
 ∀ (pins:List (Addr × Obj)) (s:Shared) (σ:St) (H:Hp) (Q:Option Int→Hp→Prop),Inv X pins σ H s→t σ H Q →
  wpAny (model X.prog X.w) X.A (evalPart e X.env) (fun u s' => ∃ o H',Inv X pins σ H' s'∧IsPart u o∧Q o H') X.xe s
def tNoPart:TO:=fun _ H Q => Q none H
def tPart (t:TE):TO:=fun σ H Q => t σ H fun x H1 => ∃ i,x = .int i∧Q (some i) H1
section
variable {X:Cx} {e:Expr} {te:TE} {lo hi:Option Expr} {tl th:TO} {pos p2:Pos}
theorem po_none:PO X none tNoPart:=by
 intro pins s σ H Q I h
 rw [evalPart_none]
 exact wpAny_pure ⟨none,H,I,.none,h⟩
theorem po_some (h:PE X e te):PO X (some e) (tPart te):=by
 intro pins s σ H Q I hw
 rw [evalPart_some]
 refine thn (h pins s σ H _ I hw) fun u s1 ⟨x,H1,I1,r1,q1⟩ => ?_
 obtain ⟨i,rfl,q⟩:=q1
 obtain ⟨t,rfl⟩:=r1
 exact ⟨some i,H1,I1,.int i t,q⟩
def SlR (X:Cx) (r:V→Option Int→Option Int→Hp→VK→Prop):Prop :=
 ∀ (pins:List (Addr × Obj)) (s:Shared) (σ:St) (H:Hp) (x:V) (v vl vu:Value) (lo hi:Option Int) (sl:Addr) (Q:VK),Inv X pins σ H s→RelV x v→s.heap.IsSliceOf sl vl vu .none→IsPart vl lo→IsPart vu hi→r x lo hi H Q →
  ∃ T id,typeLookup (.type T) "__getitem__" = pure (some (.builtin id))∧s.TypeIs v T∧wpAny (model X.prog X.w) X.A (getItem v (.ref sl)) (EP X pins σ Q) X.xe s
def tSl (r:V→Option Int→Option Int→Hp→VK→Prop) (te:TE) (tl th:TO):TE:=fun σ H Q => te σ H fun x H1 => tl σ H1 fun l H2 => th σ H2 fun u H3 => r x l u H3 Q
theorem pe_slice {r:V→Option Int→Option Int→Hp→VK→Prop} (hr:SlR X r) (he:PE X e te) (hl:PO X lo tl) (hu:PO X hi th):PE X (.Subscript e (.Slice lo hi none p2) pos) (tSl r te tl th):=by
 intro pins s σ H Q I h
 refine Subscript_ (thn (he pins s σ H _ I h) fun v s1 ⟨x,H1,I1,r1,q1⟩ => ?_)
 refine wpAny_Slice (thn (hl pins s1 σ H1 _ I1 q1) fun vl s2 ⟨l,H2,I2,pl,q2⟩ => thn (hu pins s2 σ H2 _ I2 q2) fun vu s3 ⟨u,H3,I3,pu,q3⟩ => ?_)
 rw [evalPart_none]
 refine wpAny_pure ?_
 have I4:Inv X pins σ H3 { s3 with heap:=s3.heap.push { cls:=.type "slice",data:=.fields #[vl,vu,.none] } }:=I3.kept (t':=s3.toks) fun b ob q => Heap.get?_push_of_some _ q
 obtain ⟨T,id,hT,ht,hg⟩:=hr pins { s3 with heap:=s3.heap.push { cls:=.type "slice",data:=.fields #[vl,vu,.none] } } σ H3 x v vl vu l u s3.heap.objs.size Q I4 r1 (Heap.IsSliceOf.new ..) pl pu q3
 show wpAny (model X.prog X.w) X.A (subscriptTail e (.Slice lo hi none p2) v (.ref s3.heap.objs.size)) (EP X pins σ Q) X.xe { s3 with heap:=s3.heap.push { cls:=.type "slice",data:=.fields #[vl,vu,.none] } }
 exact tail_any (ops:=[.ref s3.heap.objs.size,v]) ht hT hg (by with_unfolding_all rfl)
def cutV (xs:List V) (lo hi:Option Int):List V:=(xs.drop (HT.sIx xs.length 0 lo)).take (HT.sIx xs.length xs.length hi - HT.sIx xs.length 0 lo)
theorem cutV_length (xs:List V) (lo hi:Option Int):(cutV xs lo hi).length≤xs.length:=by
 unfold cutV
 rw [List.length_take,List.length_drop]
 omega
end
end L2
namespace L2
open PySem PySem.Spec PyProof.Rows
def ixN (n:Nat) (i:Int):Option Nat:=if 0≤i then (if i < n then some i.toNat else none) else if -(n:Int)≤i then some (i + n).toNat else none
def atI {α:Type} (xs:List α) (i:Int):Option α:=(ixN xs.length i).bind fun j => xs[j]?
theorem ixN_seq {n:Nat} {i:Int} {j:Nat} (h:ixN n i = some j):seqIndex? i n = some j∧j < n∧-(n:Int)≤i∧i < n:=by
 unfold ixN at h
 by_cases h0:0≤i
 ·rw [if_pos h0] at h
  by_cases h1:i < n
  ·rw [if_pos h1] at h
   have e:i.toNat = j:=Option.some.inj h
   exact ⟨by rw [seqIndex_of h0 h1,e],by omega,by omega,h1⟩
  ·rw [if_neg h1] at h; cases h
 ·rw [if_neg h0] at h
  by_cases h1:-(n:Int)≤i
  ·rw [if_pos h1] at h
   have e:(i + n).toNat = j:=Option.some.inj h
   exact ⟨by rw [seqIndex_neg (by omega) h1,e],by omega,h1,by omega⟩
  ·rw [if_neg h1] at h; cases h
theorem atI_get {α:Type} {xs:List α} {i:Int} {v:α} (h:atI xs i = some v):∃ j,seqIndex? i xs.length = some j∧xs[j]? = some v∧j < xs.length∧-(xs.length:Int)≤i∧i < xs.length:=by
 unfold atI at h
 cases e:ixN xs.length i with
 | none => rw [e] at h; cases h
 | some j =>
  rw [e] at h
  obtain ⟨h1,h2,h3,h4⟩:=ixN_seq e
  exact ⟨j,h1,h,h2,h3,h4⟩
theorem atI_nat {α:Type} {xs:List α} {j:Nat} {v:α} (h:xs[j]? = some v):atI xs (j:Int) = some v:=by
 have hj:j < xs.length:=(List.getElem?_eq_some_iff.mp h).1
 have e:ixN xs.length (j:Int) = some j:=by
  unfold ixN
  rw [if_pos (by omega),if_pos (by omega)]; simp
 unfold atI; rw [e]; exact h
theorem atI_last {α:Type} (xs:List α) (v:α):atI (xs ++ [v]) (-1) = some v:=by
 have hl:(xs ++ [v]).length = xs.length + 1:=by simp
 have e:ixN (xs ++ [v]).length (-1) = some xs.length:=by
  unfold ixN
  rw [hl,if_neg (by decide),if_pos (by omega)]
  congr 1
  omega
 unfold atI
 rw [e]
 show (xs ++ [v])[xs.length]? = some v
 simp
def PlainIx (b:Expr):Prop:=∀ o i,subscripted b false o i = operate [o,i] (getItem o i)
def IxR (X:Cx) (r:R2):Prop :=
 ∀ (value slice:Expr) (pins:List (Addr × Obj)) (s:Shared) (σ:St) (H:Hp) (x y:V) (v u:Value) (Q:VK),Inv X pins σ H s→RelV x v→RelV y u→r x y H Q →
  subscripted slice false v u = operate [v,u] (getItem v u)→wpAny (model X.prog X.w) X.A (subscriptTail value slice v u) (EP X pins σ Q) X.xe s
def MtR (X:Cx) (id:String) (r:V→List V→Hp→VK→Prop):Prop :=
 ∀ (pins:List (Addr × Obj)) (s:Shared) (σ:St) (H:Hp) (x:V) (xs:List V) (v:Value) (us:List Value) (Q:VK),Inv X pins σ H s→RelV x v→Vals xs us→r x xs H Q →
  wpAny (model X.prog X.w) X.A (call (.builtin id) (v :: us)) (EP X pins σ Q) X.xe s
section
variable {X:Cx} {a b:Expr} {ta tb:TE} {pos:Pos}
theorem pe_ix {r:R2} (hr:IxR X r) (ha:PE X a ta) (hb:PE X b tb) (hs:PlainIx b):PE X (.Subscript a b pos) (tOp r ta tb):=by
 intro pins s σ H Q I h
 exact Subscript_ (binT ha hb I h fun v u s2 x y H2 I2 rx ry q => hr a b pins s2 σ H2 x y v u Q I2 rx ry q (hs _ _))
def rIxL (K:PySem.W.Frag):R2:=fun x y H Q => ∃ p xs i v,x = .ref p∧y = .int i∧SqL K H p xs∧atI xs i = some v∧Q v H
def rIxT (K:PySem.W.Frag):R2:=fun x y H Q => ∃ p xs i v,x = .ref p∧y = .int i∧SqT K H p xs∧atI xs i = some v∧Q v H
theorem ix_list:IxR X (rIxL X.K):=by
 intro value slice pins s σ H x y v u Q I rx ry h hs
 obtain ⟨p,xs,i,z,rfl,rfl,hq,he,q⟩:=h
 cases rx
 obtain ⟨t,rfl⟩:=ry
 obtain ⟨its,r,pl,hz⟩:=I.list hq
 obtain ⟨j,h1,h2,h3,h4,h5⟩:=atI_get he
 obtain ⟨w,ew,rw'⟩:=r.get h2
 have hl:=r.length
 have hn:=line63
 have fin:EP X pins σ Q w s:=⟨z,H,I,rw',q⟩
 by_cases h0:0≤i
 ·have hj:i.toNat = j:=by
   rw [seqIndex_of h0 h5] at h1
   exact Option.some.inj h1
  exact item_listR pl.isList h0 (by omega) (by rw [hj]; simpa using ew) fin hs
 ·have hj:(i + (its.toArray.size:Int)).toNat = j:=by
   rw [seqIndex_neg (by omega) h4] at h1
   rw [List.size_toArray,← hl]
   exact Option.some.inj h1
  exact subscriptTail_builtinR (x:=w) pl.isList.typeIs slot_list_getitem.lookup
   (wpAny_getItem_list_neg (Q:=fun r s' => r = w∧EP X pins σ Q r s') pl.isList (by omega) (by rw [List.size_toArray] <;> omega) (by omega) (by rw [hj]; simpa using ew) ⟨rfl,fin⟩) hs
theorem ix_tup:IxR X (rIxT X.K):=by
 intro value slice pins s σ H x y v u Q I rx ry h hs
 obtain ⟨p,xs,i,z,rfl,rfl,hq,he,q⟩:=h
 cases rx
 obtain ⟨t,rfl⟩:=ry
 obtain ⟨its,r,pl,hz⟩:=I.tuple hq
 obtain ⟨j,h1,h2,h3,h4,h5⟩:=atI_get he
 obtain ⟨w,ew,rw'⟩:=r.get h2
 have hl:=r.length
 have hn:=line63
 have fin:EP X pins σ Q w s:=⟨z,H,I,rw',q⟩
 exact subscriptTail_builtinR (x:=w) pl.typeIs slot_tuple_getitem.lookup
  (getItem_tuple (j:=j) (Q:=fun r s' => r = w∧EP X pins σ Q r s') pl (by omega) (by omega) (by rw [List.size_toArray,← hl]; exact h1) (by simpa using ew) ⟨rfl,fin⟩) hs
theorem mapSeq_set (its:List Value) (n j:Nat) (u:Value):Obj.mapSeq (·.setIfInBounds j u) { cls:=.type "list",data:=.seq its.toArray n } = { cls:=.type "list",data:=.seq (its.set j u).toArray n }:=by
 simp [Obj.mapSeq]
theorem Inv.lst {pins:List (Addr × Obj)} {σ:St} {H:Hp} {s:Shared} {p:Addr} {xs:List V} (I:Inv X pins σ H s) (h:H p = some (.lst xs)) :
  ∃ (its:List Value) (n:Nat),Vals xs its∧s.heap.get? p = some { cls:=.type "list",data:=.seq its.toArray n }∧xs.length≤sizeLine:=by
 obtain ⟨z,its,n,r,e⟩:=I.hok p _ h
 exact ⟨its,n,r,e,z⟩
theorem Inv.lstUpd {pins:List (Addr × Obj)} {σ:St} {H:Hp} {s:Shared} {p:Addr} {xs ys:List V} {its its':List Value} {n n':Nat} {f:Obj→Obj} (I:Inv X pins σ H s) (h:H p = some (.lst xs))
  (ho:s.heap.get? p = some { cls:=.type "list",data:=.seq its.toArray n }) (hf:f { cls:=.type "list",data:=.seq its.toArray n } = { cls:=.type "list",data:=.seq its'.toArray n' }) (r:Vals ys its') (hz:ys.length≤sizeLine) (t:Nat) :
  Inv X pins σ (upd H p (.lst ys)) { s with heap:=s.heap.update p f,toks:=t }:=by
 have e:(s.heap.update p f).get? p = some { cls:=.type "list",data:=.seq its'.toArray n' }:=by
  rw [Heap.get?_update_self f ho (by rw [hf] <;> rfl),hf]
 refine I.write (x:=p) (e:=p) (by rw [h]; trivial) (.inl rfl) (fun b u hb q => (Heap.get?_update_other _ _ (Ne.symm hb)).trans q) ⟨_,e⟩ ?_
 exact ⟨hz,its',n',r,e⟩
def rSetL:V→V→V→Hp→(Hp→Prop)→Prop:=fun o i v H Q => ∃ p xs k j,o = .ref p∧i = .int k∧H p = some (.lst xs)∧ixN xs.length k = some j∧Q (upd H p (.lst (xs.set j v)))
theorem set_list:PSet X rSetL:=by
 intro pins s σ H o i v ov iv u Q I ro ri rv h
 obtain ⟨p,xs,k,j,rfl,rfl,hp,hj,q⟩:=h
 cases ro
 obtain ⟨t,rfl⟩:=ri
 obtain ⟨its,n,r,ho,hz⟩:=I.lst hp
 obtain ⟨h1,h2,h3,h4⟩:=ixN_seq hj
 have hl:=r.length
 have hn:=line63
 have I':Inv X pins σ (upd H p (.lst (xs.set j v))) { s with heap:=s.heap.update p (Obj.mapSeq (·.setIfInBounds j u)) } :=
  I.lstUpd hp ho (mapSeq_set its n j u) (r.set rv j) (by rw [List.length_set]; exact hz) s.toks
 by_cases h0:0≤k
 ·have hk:k.toNat = j:=by
   rw [seqIndex_of h0 h4] at h1
   exact Option.some.inj h1
  exact PySem.W.ki_setAt ho h0 (by omega) (by rw [List.size_toArray,← hl]; exact h4) (by rw [hk]; exact ⟨_,I',q⟩)
 ·have hk:(k + (its.toArray.size:Int)).toNat = j:=by
   rw [seqIndex_neg (by omega) h3] at h1
   rw [List.size_toArray,← hl]
   exact Option.some.inj h1
  exact PySem.W.ki_setBack ho (by omega) (by rw [List.size_toArray,← hl]; exact h3) (by omega) (by rw [hk]; exact ⟨_,I',q⟩)
theorem slice_bounds (lo hi:Option Int) (n:Nat):(sliceBounds lo hi none n).1 = ((HT.sIx n 0 lo:Nat):Int)∧(sliceBounds lo hi none n).2.1 = ((HT.sIx n n hi:Nat):Int)∧(sliceBounds lo hi none n).2.2 = 1:=by
 refine ⟨?_,?_,rfl⟩
 ·cases lo with
  | none => simp [sliceBounds,HT.sIx]
  | some i =>
   simp only [sliceBounds,HT.sIx,Option.getD_none,show (1:Int) > 0 by decide,if_true]
   by_cases h:i < 0
   ·simp only [h,if_true] <;> omega
   ·simp only [h,if_false] <;> omega
 ·cases hi with
  | none => simp [sliceBounds,HT.sIx]
  | some i =>
   simp only [sliceBounds,HT.sIx,Option.getD_none,show (1:Int) > 0 by decide,if_true]
   by_cases h:i < 0
   ·simp only [h,if_true] <;> omega
   ·simp only [h,if_false] <;> omega
theorem slicePick_cut (its:List Value) (lo hi:Option Int):slicePick its.toArray lo hi none = ((its.drop (HT.sIx its.length 0 lo)).take (HT.sIx its.length its.length hi - HT.sIx its.length 0 lo)).toArray:=by
 obtain ⟨h1,h2,h3⟩:=slice_bounds lo hi its.toArray.size
 unfold slicePick
 rw [h1,h2,h3]
 simp only [sliceRange_one,pick_run,List.size_toArray] <;> rfl
def rSlL (K:PySem.W.Frag):V→Option Int→Option Int→Hp→VK→Prop:=fun x lo hi H Q => ∃ a xs,x = .ref a∧SqL K H a xs∧∀ p,H p = none→Q (.ref p) (upd H p (.lst (cutV xs lo hi)))
theorem sl_list:SlR X (rSlL X.K):=by
 intro pins s σ H x v vl vu lo hi sl Q I rx hs pl pu h
 obtain ⟨a,xs,rfl,hx,q⟩:=h
 cases rx
 obtain ⟨its,r,ht,hz⟩:=I.list hx
 have hlen:=r.length
 refine ⟨"list",_,slot_list_getitem.lookup,ht.isList.typeIs,?_⟩
 refine wpAny_getItem_list_slice ht.isList hs pl pu .none (by simp) ?_ (by rw [List.size_toArray] <;> omega)
 rw [slicePick_cut,← hlen]
 refine ⟨.ref s.heap.objs.size,_,I.laid (t':=s.toks) (o:=.lst (cutV xs lo hi)) (fun b ob q => Heap.get?_push_of_some _ q) (Nat.le_refl _) ?_,rfl,q _ (I.hok.fresh (Nat.le_refl _))⟩
 exact ⟨Nat.le_trans (cutV_length xs lo hi) hz,_,0,(r.drop (HT.sIx xs.length 0 lo)).take (HT.sIx xs.length xs.length hi - HT.sIx xs.length 0 lo),Heap.get?_push_size _ rfl⟩
theorem call_len_seq:CallR X (.builtin "len") (fun xs H Q => ∃ p ys,xs = [.ref p]∧(SqL X.K H p ys∨SqT X.K H p ys)∧Q (.int ys.length) H):=by
 intro pins s σ H xs us Q I r h
 obtain ⟨p,ys,rfl,hq,q⟩:=h
 obtain ⟨u,rfl,rx⟩:=vals1 r
 cases rx
 have hn:=line63
 rcases hq with hq | hq
 ·obtain ⟨its,r',pl,hz⟩:=I.list hq
  have hlen:=r'.length
  exact Calls.call_len_list pl.isList (by simp only [List.size_toArray] <;> omega) ⟨.int ys.length,H,I.tok _,⟨s.toks + 1,by rw [List.size_toArray,hlen]⟩,q⟩
 ·obtain ⟨its,r',pl,hz⟩:=I.tuple hq
  have hlen:=r'.length
  exact len_tuple pl (by simp only [List.size_toArray] <;> omega) ⟨.int ys.length,H,I.tok _,⟨s.toks + 1,by rw [List.size_toArray,hlen]⟩,q⟩
theorem call_list_of:CallR X (.type "list") (fun xs H Q => ∃ p ys,xs = [.ref p]∧(SqL X.K H p ys∨SqT X.K H p ys)∧∀ l,H l = none→Q (.ref l) (upd H l (.lst ys))):=by
 intro pins s σ H xs us Q I r h
 obtain ⟨p,ys,rfl,hq,q⟩:=h
 obtain ⟨u,rfl,rx⟩:=vals1 r
 cases rx
 have fin:∀ (its:List Value),Vals ys its→ys.length≤sizeLine→∀ (h':Heap) (c':Nat),(∀ b o',s.heap.get? b = some o'→h'.get? b = some o') →
   h'.get? s.heap.objs.size = some { cls:=.type "list",dict:=none,data:=.seq its.toArray c',slots:=#[] }→EP X pins σ Q (.ref s.heap.objs.size) { s with heap:=h' }:=fun its r' hz h' c' kp e =>
  ⟨.ref s.heap.objs.size,_,I.laid (t':=s.toks) kp (Nat.le_refl _) (show ObjOk X.prog X.w _ h' _ (.lst ys) from ⟨hz,its,c',r',e⟩),rfl,q _ (I.hok.fresh (Nat.le_refl _))⟩
 rcases hq with hq | hq
 ·obtain ⟨its,r',pl,hz⟩:=I.list hq
  have hlen:=r'.length
  obtain ⟨o,ho,hc,n,hd⟩:=pl.isList
  exact call_list_seq p (.inl rfl) ho hc hd (fun h' c' kp e => fin its r' hz h' c' kp e) (by simp only [List.size_toArray] <;> omega)
 ·obtain ⟨its,r',pl,hz⟩:=I.tuple hq
  have hlen:=r'.length
  obtain ⟨o,ho,hc,n,hd⟩:=pl
  exact call_list_seq p (.inr rfl) ho hc hd (fun h' c' kp e => fin its r' hz h' c' kp e) (by simp only [List.size_toArray] <;> omega)
def tyV (K:PySem.W.Frag) (T:String) (x:V) (H:Hp):Prop:=match x with
 | .str _ => T = "str"
 | .int _ => T = "int"
 | .ref p => (T = "list"∧∃ xs,SqL K H p xs)∨(T = "tuple"∧∃ o,K.lookup p = some o∧o.cls = .type "tuple"∧o.dict = none) ∨
   (T = "dict"∧((∃ kvs,H p = some (.dK kvs))∨∃ kvs,H p = some (.dT kvs)))∨(T = "set"∧∃ S n,H p = some (.set S n))
 | _ => False
theorem tyV_is {pins:List (Addr × Obj)} {σ:St} {H:Hp} {s:Shared} {T:String} {x:V} {v:Value} (I:Inv X pins σ H s) (r:RelV x v) (ty:tyV X.K T x H) :
  s.TypeIs v T∧∀ a,v = .ref a→∃ ob,s.heap.get? a = some ob∧ob.dict = none:=by
 cases x with
 | str z =>
  obtain ⟨t,rfl⟩:=r
  cases (show T = "str" from ty)
  exact ⟨typeIs_str s z t,fun _ e => nomatch e⟩
 | int i =>
  obtain ⟨t,rfl⟩:=r
  cases (show T = "int" from ty)
  exact ⟨typeIs_int s i t,fun _ e => nomatch e⟩
 | ref p =>
  cases r
  rcases ty with ⟨rfl,xs,hq⟩ | ⟨rfl,o,hk,hc,hd⟩ | ⟨rfl,hk⟩ | ⟨rfl,S,n,hk⟩
  ·obtain ⟨its,_,pl,_⟩:=I.list hq
   refine ⟨pl.isList.typeIs,fun a e => ?_⟩
   cases e
   obtain ⟨o,n,e,c,hd,_⟩:=pl
   exact ⟨o,e,hd⟩
  ·refine ⟨⟨o,I.kIn p o hk,hc⟩,fun a e => ?_⟩
   cases e
   exact ⟨o,I.kIn _ o hk,hd⟩
  ·have z:∃ o,s.heap.get? p = some o∧o.ExactDict:=by
    rcases hk with ⟨kvs,hk⟩ | ⟨kvs,hk⟩
    ·obtain ⟨_,_,_,_,o,_,_,e,ex,_⟩:=I.hok p _ hk
     exact ⟨o,e,ex⟩
    ·obtain ⟨_,_,_,_,o,_,_,e,ex,_⟩:=I.hok p _ hk
     exact ⟨o,e,ex⟩
   obtain ⟨o,e,ex⟩:=z
   refine ⟨⟨o,e,ex.1⟩,fun a e2 => ?_⟩
   cases e2
   exact ⟨o,e,ex.2.1⟩
  ·obtain ⟨o,_,_,_,e,ex,_⟩:=I.hok p _ hk
   refine ⟨⟨o,e,ex.1⟩,fun a e2 => ?_⟩
   cases e2
   exact ⟨o,e,ex.2.1⟩
 | _ => exact False.elim ty
def tBM0 (K:PySem.W.Frag) (T:String) (r:V→List V→Hp→VK→Prop) (to:TE):TE:=fun σ H Q => to σ H fun x H1 => tyV K T x H1∧r x [] H1 Q
def tBM (K:PySem.W.Frag) (T:String) (r:V→List V→Hp→VK→Prop) (to:TE) (t:TA):TE:=fun σ H Q => to σ H fun x H1 => tyV K T x H1∧t σ H1 fun xs H2 => r x xs H2 Q
variable {o e:Expr} {es:List Expr} {to:TE} {t:TA} {name:Str} {apos cpos:Pos} {T id:String} {r:V→List V→Hp→VK→Prop}
theorem pe_bm0 (pa:PlainAttrs T) (slot:Slot T name id) (hty:typeOf (.builtin id) = pure (.type "method_descriptor")) (hm:MtR X id r) (ho:PE X o to)
  (hbase:attributeBase o name X.env (eval o X.env) = eval o X.env:=by rfl) (hline:(apos.endLine == cpos.line) = true:=by rfl):PE X (.Call (.Attribute o name apos) [] [] cpos) (tBM0 X.K T r to):=by
 intro pins s σ H Q I h
 refine wpAny_Call_method0_late hbase hline (thn (ho pins s σ H _ I h) fun v s1 hh => ?_)
 obtain ⟨x,H1,I1,r1,ty,q1⟩:=hh
 obtain ⟨h1,h2⟩:=tyV_is I1 r1 ty
 exact ⟨T,id,pa,slot,hty,h1,h2,Calls.callWith_builtin rfl (PySem.evalArgs_none (hm pins s1 σ H1 x [] v [] Q I1 r1 .nil q1))⟩
theorem pe_bm (pa:PlainAttrs T) (slot:Slot T name id) (hty:typeOf (.builtin id) = pure (.type "method_descriptor")) (hm:MtR X id r) (ho:PE X o to) (ha:PA X (e :: es) t)
  (hbase:attributeBase o name X.env (eval o X.env) = eval o X.env:=by rfl)
  (hfew:((backTo cpos (starEach (e :: es) X.env)).all (fun x => !x.1) && (backToKw cpos (keywordEach [] X.env)).all (fun x => x.1.isSome)
   && decide ((e :: es).length + ([]:List Keyword).length + (if ([]:List Keyword).isEmpty then 0 else 1) < 30)) = true:=by rfl)
  (hline:(apos.endLine == cpos.line) = true:=by rfl) (hs:starEach (e :: es) X.env = (false,eval e X.env) :: starEach es X.env:=by rfl) (hplain:(backTo cpos (starEach es X.env)).any (·.1) = false:=by rfl) :
  PE X (.Call (.Attribute o name apos) (e :: es) [] cpos) (tBM X.K T r to t):=by
 intro pins s σ H Q I h
 refine wpAny_Call_method_late hbase hfew hline rfl (thn (ho pins s σ H _ I h) fun v s1 hh => ?_)
 obtain ⟨x,H1,I1,r1,ty,q1⟩:=hh
 obtain ⟨h1,h2⟩:=tyV_is I1 r1 ty
 refine ⟨T,id,pa,slot,hty,h1,h2,?_⟩
 have hA:=ha cpos pins s1 σ H1 _ I1 q1
 rw [hs] at hA ⊢
 refine Calls.callWith_builtin (by show (false || (backTo cpos (starEach es X.env)).any (·.1)) = false; rw [hplain] <;> rfl) (Calls.evalArgs_plain ?_)
 exact thn hA fun us s2 ⟨vs,H2,I2,r2,q2⟩ => hm pins s2 σ H2 x vs v us Q I2 r1 r2 q2
end
end L2
namespace L2
open PySem PySem.Spec PyProof.Rows
def MtM (X:Cx) (id:String) (r:V→List V→Hp→VK→Prop):Prop :=
 ∀ (pins:List (Addr × Obj)) (s:Shared) (σ:St) (H:Hp) (x:V) (xs:List V) (v:Value) (us:List Value) (Q:VK),Inv X pins σ H s→RelV x v→Vals xs us→r x xs H Q →
  wpAny (model X.prog X.w) X.A (call (.builtin id) (v :: us)) (EP X pins σ Q) X.xe s
theorem Vals.one:∀ {x:V} {us:List Value},Vals [x] us→∃ u,us = [u]∧RelV x u
 | _,_,.cons r .nil => ⟨_,rfl,r⟩
theorem Vals.zero:∀ {us:List Value},Vals [] us→us = []
 | _,.nil => rfl
theorem Vals.dropLast {xs:List V} {us:List Value} (h:Vals xs us):Vals xs.dropLast us.dropLast:=by
 induction h with
 | nil => exact .nil
 | cons r t ih =>
  cases t with
  | nil => exact .nil
  | cons q t' => exact .cons r ih
theorem erase_last {α:Type} (l:List α):l.eraseIdx (l.length - 1) = l.dropLast:=by
 induction l with
 | nil => rfl
 | cons a r ih =>
  cases r with
  | nil => rfl
  | cons b r =>
   have e:(a :: b :: r).length - 1 = ((b :: r).length - 1) + 1:=by
    have h1:(a :: b :: r).length = r.length + 2:=rfl
    have h2:(b :: r).length = r.length + 1:=rfl
    omega
   rw [e,List.eraseIdx_cons_succ,ih]
   all_goals rfl
section
variable {X:Cx} {pins:List (Addr × Obj)} {σ:St} {H:Hp} {s:Shared} {l b:Addr} {xs ys zs:List V}
theorem Inv.lset {its its':List Value} {n:Nat} {f:Array Value→Array Value} {t':Nat} (I:Inv X pins σ H s) (hH:H l = some (.lst xs))
  (e:s.heap.get? l = some { cls:=.type "list",data:=.seq its.toArray n }) (hf:f its.toArray = its'.toArray) (hv:Vals ys its') (hz:ys.length≤sizeLine) :
  Inv X pins σ (upd H l (.lst ys)) { s with heap:=s.heap.update l (Obj.mapSeq f),toks:=t' }:=by
 have q:=PySem.IsL.update e f
 rw [hf] at q
 refine I.write (x:=l) (e:=l) (by rw [hH]; exact trivial) (.inl rfl) (fun b' u hb hu => (Heap.get?_update_other s.heap (Obj.mapSeq f) (Ne.symm hb)).trans hu) ⟨_,q⟩ ?_
 exact ⟨hz,its',_,hv,q⟩
theorem Inv.lnew {its:List Value} {t':Nat} (I:Inv X pins σ H s) (hv:Vals ys its) (hz:ys.length≤sizeLine) :
  Inv X pins σ (upd H s.heap.objs.size (.lst ys)) { s with heap:=s.heap.push { cls:=.type "list",data:=.seq its.toArray },toks:=t' } :=
 I.laid (fun _ _ q => Heap.get?_push_of_some _ q) (Nat.le_refl _) ⟨hz,its,0,hv,Heap.get?_push_size _ rfl⟩
theorem Inv.fresh (I:Inv X pins σ H s):H s.heap.objs.size = none:=I.hok.fresh (Nat.le_refl _)
theorem Inv.lstM (I:Inv X pins σ H s) (hH:H l = some (.lst xs)):xs.length≤sizeLine∧∃ (its:List Value) (n:Nat),Vals xs its∧xs.length = its.length∧s.heap.get? l = some { cls:=.type "list",data:=.seq its.toArray n }:=by
 obtain ⟨z,its,n,r,e⟩:=I.hok l _ hH
 exact ⟨z,its,n,r,r.length,e⟩
theorem notLongL {n:Nat} (h:n≤sizeLine):Builtin.List.listTooLong n = false:=by
 unfold Builtin.List.listTooLong
 exact decide_eq_false (by omega)
end
section
variable {X:Cx}
def rAppend:V→List V→Hp→VK→Prop:=fun x vs H Q => ∃ l xs y,x = .ref l∧vs = [y]∧H l = some (.lst xs)∧xs.length < sizeLine∧Q .non (upd H l (.lst (xs ++ [y])))
theorem mt_append:MtM X "list.append" rAppend:=by
 intro pins s σ H x vs v us Q I rx rv h
 obtain ⟨l,xs,y,rfl,rfl,hH,hz,q⟩:=h
 cases rx
 obtain ⟨u,rfl,ru⟩:=rv.one
 obtain ⟨z,its,n,r,hl,e⟩:=I.lstM hH
 refine call_meets F.slot_list_append ⟨_,e,rfl⟩ F.entry_list_append (F.args_list_append_2 _ _) (PySem.list_append l its.toArray n u (by rw [List.size_toArray]; omega)) ⟨e,?_⟩
 refine ⟨.non,_,I.lset (its':=its ++ [u]) hH e (by simp) (r.append (.cons ru .nil)) ?_,rfl,q⟩
 rw [List.length_append,List.length_singleton]
 omega
def rExtend:V→List V→Hp→VK→Prop:=fun x vs H Q => ∃ l b xs zs,x = .ref l∧vs = [.ref b]∧H l = some (.lst xs)∧H b = some (.lst zs)∧xs.length + zs.length≤sizeLine∧Q .non (upd H l (.lst (xs ++ zs)))
theorem mt_extend:MtM X "list.extend" rExtend:=by
 intro pins s σ H x vs v us Q I rx rv h
 obtain ⟨l,b,xs,zs,rfl,rfl,hH,hB,hz,q⟩:=h
 cases rx
 obtain ⟨u,rfl,ru⟩:=rv.one
 cases ru
 obtain ⟨z,its,n,r,hl,e⟩:=I.lstM hH
 obtain ⟨z2,its2,n2,r2,hl2,e2⟩:=I.lstM hB
 have hsz:its.toArray.size + its2.toArray.size≤sizeLine:=by rw [List.size_toArray,List.size_toArray]; omega
 have hlong:¬ (!its.toArray.isEmpty && Builtin.List.listTooLong (its.toArray.size + its2.toArray.size)) = true:=by
  rw [notLongL hsz,Bool.and_false]
  exact Bool.false_ne_true
 refine call_meets F.slot_list_extend ⟨_,e,rfl⟩ F.entry_list_extend (F.args_list_extend_2 _ _)
  (AutoSeq1.list_extend_list_list_0 l its.toArray n b its2.toArray n2 hlong (by rw [List.size_toArray]; omega) (by omega)) ⟨e,e2,?_⟩
 refine ⟨.non,_,I.lset (its':=its ++ its2) hH e (by simp) (r.append r2) ?_,rfl,q⟩
 rw [List.length_append]
 omega
def rPop:V→List V→Hp→VK→Prop:=fun x vs H Q => ∃ l xs y,x = .ref l∧vs = []∧H l = some (.lst xs)∧xs[xs.length - 1]? = some y∧Q y (upd H l (.lst xs.dropLast))
theorem mt_pop:MtM X "list.pop" rPop:=by
 intro pins s σ H x vs v us Q I rx rv h
 obtain ⟨l,xs,y,rfl,rfl,hH,hy,q⟩:=h
 cases rx
 have hus:=rv.zero
 subst hus
 obtain ⟨z,its,n,r,hl,e⟩:=I.lstM hH
 obtain ⟨u,hu,ru⟩:=r.get hy
 have hy':its.toArray[its.toArray.size - 1]? = some u:=by
  show its.toArray[its.length - 1]? = some u
  rw [← Array.getElem?_toList,← hl]
  exact hu
 refine call_meets F.slot_list_pop ⟨_,e,rfl⟩ F.entry_list_pop (F.args_list_pop_1 _) (MeetsSeq.list_pop_last l its.toArray n u hy' (by rw [List.size_toArray]; omega)) ⟨e,?_⟩
 refine ⟨y,_,I.lset (its':=its.dropLast) hH e ?_ r.dropLast ?_,ru,q⟩
 ·show its.toArray.eraseIdxIfInBounds (its.toArray.size - 1) = its.dropLast.toArray
  rw [List.size_toArray,List.eraseIdxIfInBounds_toArray,erase_last]
 ·rw [List.length_dropLast]
  omega
def rClear:V→List V→Hp→VK→Prop:=fun x vs H Q => ∃ l xs,x = .ref l∧vs = []∧H l = some (.lst xs)∧Q .non (upd H l (.lst []))
theorem mt_clear:MtM X "list.clear" rClear:=by
 intro pins s σ H x vs v us Q I rx rv h
 obtain ⟨l,xs,rfl,rfl,hH,q⟩:=h
 cases rx
 have hus:=rv.zero
 subst hus
 obtain ⟨z,its,n,r,hl,e⟩:=I.lstM hH
 refine call_meets F.slot_list_clear ⟨_,e,rfl⟩ F.entry_list_clear (F.args_list_clear_1 _) (AutoSeq1.list_clear_list_0 l its.toArray n (by rw [List.size_toArray]; omega)) ⟨e,?_⟩
 exact ⟨.non,_,I.lset (its':=[]) (ys:=[]) hH e rfl .nil (Nat.zero_le _),rfl,q⟩
def rCat:R2:=fun x y H Q => ∃ l b xs zs,x = .ref l∧y = .ref b∧H l = some (.lst xs)∧H b = some (.lst zs)∧xs.length + zs.length≤sizeLine∧∀ p,H p = none→Q (.ref p) (upd H p (.lst (xs ++ zs)))
theorem op_cat:OpR X (binaryOp .Add) rCat:=by
 intro pins s σ H x y v u Q I rx ry h
 obtain ⟨l,b,xs,zs,rfl,rfl,hH,hB,hz,q⟩:=h
 cases rx
 cases ry
 obtain ⟨z,its,n,r,hl,e⟩:=I.lstM hH
 obtain ⟨z2,its2,n2,r2,hl2,e2⟩:=I.lstM hB
 refine PySem.P.add_list e e2 ?_ (by rw [List.size_toArray,List.size_toArray]; omega)
 have ea:its.toArray ++ its2.toArray = (its ++ its2).toArray:=by simp
 rw [ea]
 exact ⟨.ref _,_,I.lnew (t':=s.toks) (r.append r2) (by rw [List.length_append]; omega),rfl,q _ I.fresh⟩
end
section
variable {prog:Program} {w:World} {A:Around} {E:Value→Shared→Prop} {s:Shared}
end
section
variable {X:Cx}
end
end L2
namespace Att
open PySem PySem.W PySem.Calls PyProof.Rows
theorem ints_of_wellAll {P:Params} {h:Heap}:∀ (ns:List Int) (vs:List Value),WellAll P h vs (ns.map WData.int)→IntsAre vs ns:=by
 intro ns
 induction ns with
 | nil =>
  intro vs w
  rw [List.map_nil] at w
  cases w
  exact .nil
 | cons n ns ih =>
  intro vs w
  rw [List.map_cons] at w
  cases w with
  | cons a b =>
   cases a
   exact .cons _ _ (ih _ b)
theorem script_of {l:OpenLaw} {n:Nat} (hn:l.most = some n) {P:Params} {h:Heap} {args:List WData} {vals:List Value}
  (hpre:l.row.toRowW.claim.pre args = true) (hwl:WellAll P h vals args) :
  ∃ a vs ns,vals = [Value.ref a]∧args = [WData.list (ns.map WData.int)]∧h.get? a = some { cls:=.type "list",data:=.seq vs.toArray }∧IntsAre vs ns∧ns.length≤n:=by
 have hsh:WShape.hasAll [] args [.list .int] = true:=(pre_splitW hpre).1
 have hc:l.pre.holds [] { args:=args } = true:=(pre_splitW hpre).2
 obtain ⟨d,r,rfl,h1,h2⟩:=hasAllW_cons hsh
 obtain rfl:=hasAllW_nil h2
 obtain ⟨xs,rfl,h3⟩:=hasW_list h1
 obtain ⟨ns,rfl⟩:=items_int h3
 have hlen:ns.length≤n:=by
  unfold OpenLaw.pre at hc
  have h4:(WTm.not (.lt (.lit (.int (n:Int))) (.len (.arg 0)))).holds [] { args:=[.list (ns.map .int)] } = true:=by
   have h4:=(holds_andW hc).1
   rw [hn] at h4
   exact h4
  have h5:=condW_of h4 (w_not (w_lt w_lit (w_len_list (w_arg rfl))))
  rw [List.length_map] at h5
  refine Nat.le_of_not_lt fun q => ?_
  have q':(n:Int) < ((ns.length:Nat):Int):=by omega
  first
   | (rw [decide_eq_true q'] at h5; exact absurd h5 (by decide))
   | (simp at h5; omega)
 cases hwl with
 | cons w1 w2 =>
  cases w2
  cases w1 with
  | list ho hall => exact ⟨_,_,ns,rfl,rfl,ho,ints_of_wellAll ns _ hall,hlen⟩
theorem post_true (l:OpenLaw) (args:List WData):l.row.toRowW.claim.post args (.bool true) args = true :=
 postW_of (r:=l.row.toRowW) (X:=(true == true))
  (show WShape.has [] (.bool true) .bool = true by first | rfl | decide | simp [WShape.has,WShape.arms,WShape.armsAll])
  (show (WTm.eq .res (.lit (.bool true))).value [] { args:=args,res:=some (.bool true),after:=args } = some (.bool (true == true)) from w_eq_bool (w_res rfl) w_lit) rfl
theorem attach_call {l:OpenLaw} {n:Nat} {q:Program} {loose:List Str} {XP:(Str→Option Value)→Heap→Prop} {YP:World→Heap→Prop} {d:DefRec}
  (hn:l.most = some n) (hdf:d.params.defaults = [])
  (call:∀ (w:World) (s₀ s₁:Shared) (mg mb:Str→Option Value) (fa:Addr) (o:Obj) (pm cd doc:Value) (a:Addr) (vs:List Value) (ns:List Int),
   Ground q loose [] XP w s₀ mg mb s₁.heap→YP w s₁.heap →
   s₁.heap.get? fa = some o→o.data = .func (docDef d.name d.params d.body d.scope pm cd doc)→s₁.heap.CodeRec cd d.name→mg d.name = some (.ref fa) →
   s₁.heap.get? a = some { cls:=.type "list",data:=.seq vs.toArray }→IntsAre vs ns→ns.length≤n→s₁.gens = #[] →
   codeAny (model l.prog w) callerA (.call (.ref fa) ⟨[.ref a],[]⟩) (fun r s' => r = .ok (.ret (.bool true))∧OldK s₁.heap s'.heap∧s'.os = s₁.os∧AllBare s'.gens) s₁) :
  WalkO q loose XP YP l.row.toRowW d [] (fun f vs => PySem.call f vs):=by
 intro w s₀ s₁ mg mb G Y fa o pm cd doc dV kV ho hd hcd hD hmg hg args vals as hpre hlay hrd hwl hlo
 obtain rfl:dV = .none:=Dflts.none hD hdf
 obtain rfl:kV = .none:=Dflts.noKw hD
 obtain ⟨a,vs,ns,rfl,rfl,hobj,hints,hlen⟩:=script_of hn hpre hwl
 refine enter_call (codeAny_mono (call w s₀ s₁ mg mb fa o pm cd doc a vs ns G Y ho (fd_plain hd) hcd hmg hobj hints hlen hg) fun r s' hq => ?_)
 obtain ⟨rfl,h2,h3,h4⟩:=hq
 exact ⟨.inl ⟨.bool true,.bool true,[],rfl,fun _ => rfl,.bool true,post_true l _,fun _ => ⟨List.Pairwise.nil,fun _ hm => (nomatch hm)⟩⟩,h2,h3,h4⟩
section
variable {prog:Program} {w:World} {A:Around} {E:Value→Shared→Prop} {s:Shared} {K:Frag}
end
end Att
namespace L2
open PySem PySem.Spec PyProof.Rows
theorem vals_ints:∀ {vs:List Value} {ns:List Int},IntsAre vs ns→Vals (ns.map V.int) vs
 | _,_,.nil => .nil
 | _,_,.cons n t h => .cons ⟨t,rfl⟩ (vals_ints h)
end L2
namespace L2
open PySem PySem.Spec PyProof.Rows
abbrev KOf {K:PySem.W.Frag} {h:Heap} (_:K.In h):PySem.W.Frag:=K
end L2
namespace L2
open PySem PySem.Spec PyProof.Rows
def defArgs (s:Stmt):Arguments:=match s with
 | .FunctionDef _ a _ _ _ _ _ _ _ _ => a
 | _ => { posonlyargs:=[],args:=[],vararg:=none,kwonlyargs:=[],kw_defaults:=[],kwarg:=none,defaults:=[] }
def defBody (s:Stmt):List Stmt:=match s with
 | .FunctionDef _ _ b _ _ _ _ _ _ _ => b
 | _ => []
def defScope (s:Stmt):Scope:=match s with
 | .FunctionDef _ _ _ _ _ _ sc _ _ _ => sc
 | _ => { kind:=.function,names:=[],isGenerator:=false,isCoroutine:=false }
structure Fun (K:PySem.W.Frag) (x qual:Str) (st:Stmt) (f:Addr) (fd:FuncData):Prop where
 ex:∃ (oc:Value) (od:Option Addr) (kV doc pm:Value) (an:Option Addr) (cdv ct:Value) (osl:Array (Option Value)),
  fd = PySem.W.fnOf x qual (defArgs st) (defBody st) (defScope st) .none kV doc pm an cdv ct∧K.lookup f = some ⟨oc,od,.func fd,osl⟩∧PySem.W.codeIn K cdv qual = true
 kp:PySem.W.keepIn K (.ref f) = true
section
variable {P:Program} {w:World} {K:PySem.W.Frag} {mg:Str→Option Value} {base:Heap}
theorem Fun.binds {x qual:Str} {st:Stmt} {f:Addr} {fd:FuncData} {ps:List Str} (F:Fun K x qual st f fd)
  (h:∀ (kV doc pm:Value) (an:Option Addr) (cdv ct:Value) (us:List Value),us.length = ps.length→bindArgs (PySem.W.fnOf x qual (defArgs st) (defBody st) (defScope st) .none kV doc pm an cdv ct) ⟨us,[]⟩ = pure (ps.zip us)):Binds K fd ps []:=by
 obtain ⟨oc,od,kV,doc,pm,an,cdv,ct,osl,rfl,lk,hcd⟩:=F.ex
 exact .all (h kV doc pm an cdv ct)
theorem fun_mk {x qual:Str} {st:Stmt} {f:Addr} {oc:Value} {od an:Option Addr} {osl:Array (Option Value)} {kV doc pm cdv ct:Value} (l:K.lookup f = some ⟨oc,od,.func (PySem.W.fnOf x qual (defArgs st) (defBody st) (defScope st) .none kV doc pm an cdv ct),osl⟩)
  (c:PySem.W.codeIn K cdv qual = true) (k:PySem.W.keepIn K (.ref f) = true):Fun K x qual st f (PySem.W.fnOf x qual (defArgs st) (defBody st) (defScope st) .none kV doc pm an cdv ct):=⟨⟨oc,od,kV,doc,pm,an,cdv,ct,osl,rfl,l,c⟩,k⟩
end
section
variable {X:Cx}
theorem pv (i:Nat) {x:Str} {pos:Pos} (hN:X.N[i]? = some x:=by rfl) (hv:Vis X.env.scope x:=by first | exact Or.inl rfl | exact Or.inr (Or.inl rfl) | exact Or.inr (Or.inr rfl)) (hd:(x == ("__debug__":Str)) = false:=by decide)
  (hcd:(x == ("__classdict__":Str)) = false:=by decide):PE X (.Name x pos) (tVar i):=pe_var hN hv hd hcd
end
theorem iteF {A B:Prop} (h:B):if false = true then A else B:=by
 rw [if_neg Bool.false_ne_true]
 exact h
theorem iteT {A B:Prop} (h:A):if true = true then A else B:=by
 rw [if_pos rfl]
 exact h
theorem iteNS {c A B:Prop} [Decidable c] (hc:c) (h:B):if (!decide c) = true then A else B:=by
 rw [decide_eq_true hc]
 exact iteF h
def Same (H H':Hp):Prop:=∀ b o,H b = some o→H' b = some o
theorem Same.refl (H:Hp):Same H H:=fun _ _ h => h
theorem Same.trans {H H1 H2:Hp} (a:Same H H1) (b:Same H1 H2):Same H H2:=fun c o h => b c o (a c o h)
theorem Same.seq {K:PySem.W.Frag} {H H':Hp} {a:Addr} {xs:List V} (e:Same H H') (h:SqL K H a xs):SqL K H' a xs:=by
 rcases h with (h | ⟨o,h⟩) | h
 ·exact .inl (.inl (e _ _ h))
 ·exact .inl (.inr ⟨o,e _ _ h⟩)
 ·exact .inr h
end L2
namespace L2
open PySem PySem.Spec PyProof.Rows
theorem ObjOk.there {P:Program} {w:World} {H:Hp} {h:Heap} {a:Addr} {o:HO} (x:ObjOk P w H h a o):∃ u,h.get? a = some u:=by
 cases o with
 | lst xs => obtain ⟨_,_,_,_,e⟩:=x; exact ⟨_,e⟩
 | tup xs => obtain ⟨_,_,_,ob,e,_⟩:=x; exact ⟨_,e⟩
 | dK kvs => obtain ⟨_,_,_,_,ob,_,_,e,_⟩:=x; exact ⟨_,e⟩
 | dT kvs => obtain ⟨_,_,_,_,ob,_,_,e,_⟩:=x; exact ⟨_,e⟩
 | set S n => obtain ⟨ob,_,_,_,e,_⟩:=x; exact ⟨_,e⟩
 | ins C dx fs => obtain ⟨_,_,_,e,_⟩:=x; exact ⟨_,e⟩
 | own y => exact x
 | xd fs => obtain ⟨_,⟨_,_,_,e,_⟩,_⟩:=x; exact ⟨_,e⟩
 | rng lo hi => obtain ⟨_,_,_,e⟩:=x; exact ⟨_,e⟩
 | frz ob u => obtain ⟨e,_⟩:=x; exact ⟨_,e⟩
 | tbl ps => exact ⟨_,(show h.get? a = some _ from x)⟩
 | met f y => exact ⟨_,(show h.get? a = some _ from x)⟩
 | ext φ => obtain ⟨_,e,_⟩:=x; exact e
theorem HOk.free_of {P:Program} {w:World} {H:Hp} {h:Heap} {a:Addr} (x:HOk P w H h) (e:h.get? a = none):H a = none:=by
 cases q:H a with
 | none => rfl
 | some o => obtain ⟨u,z⟩:=(x a o q).there; rw [e] at z; cases z
structure Flies (h0 h:Heap) (H:Hp) (e C:Addr):Prop where
 ex:∃ oe vs T oT ts,∃ a0:Value × Value,h.get? e = some oe∧oe.cls = .ref C∧vs[0]? = some a0.1∧oe.data = .fields vs∧vs[1]? = some (.ref T)∧T≠e∧h.get? T = some oT∧oT.data = .fields ts∧ts[3]? = some .none∧h0.get? T = none∧H T = none∧vs[2]? = some a0.2∧CxO H a0.2
 new:h0.get? e = none
 free:H e = none
def XC (P:Program) (w:World):CXT:=fun outer H s E e s' => ∃ (ea C:Addr) (H':Hp),e = .ref ea∧s'.os = s.os∧AllBare s'.gens∧Un (frs outer) [] H H' s.heap s'.heap∧HOk P w H' s'.heap∧Flies s.heap s'.heap H' ea C∧E (.ref C) none H'
theorem Un.late {fs ex ch:List Addr} {H H':Hp} {h h1 h2:Heap} (u:Un fs ex H H' h h1) (fresh:∀ b∈ch,h.get? b = none)
  (k:∀ b o,b ∉ fs→b ∉ ch→h1.get? b = some o→h2.get? b = some o) (ks:∀ b o,b∈fs→h1.get? b = some o→∃ sl,h2.get? b = some { o with slots:=sl }):Un fs ex H H' h h2:=by
 have nch:∀ b o,h.get? b = some o→b ∉ ch:=fun b o q z => by have:=fresh b z; rw [q] at this; cases this
 refine ⟨fun b o q n hb hx => k b o hb (nch b o q) (u.keep b o q n hb hx),fun b o q n hb hx => ?_,u.free,fun b o q hx => ?_,u.tups,u.frzs,u.tbls⟩
 ·obtain ⟨sl,e1⟩:=u.slot b o q n hb hx
  obtain ⟨sl',e2⟩:=ks b _ hb e1
  exact ⟨sl',e2⟩
 ·obtain ⟨o',e1⟩:=u.there b o q hx
  by_cases hb:b∈fs
  ·obtain ⟨sl,e2⟩:=ks b o' hb e1
   exact ⟨_,e2⟩
  ·exact ⟨o',k b o' hb (nch b o q) e1⟩
section
variable {X:Cx} {pins:List (Addr × Obj)} {σ:St} {H H':Hp} {s s':Shared} {ea C:Addr} {a0:Value × Value} {h':Heap} {ch:List Addr}
theorem fly_after (I:Inv X pins σ H s) (hst:X.stack = X.env :: X.outer) (os:s'.os = s.os) (bare:AllBare s'.gens) (un:Un (frs X.stack) [] H H' s.heap s'.heap) (hok:HOk X.prog X.w H' s'.heap)
  (hch:∀ b∈ch,s.heap.get? b = none∧H' b = none) (hea:ea∈ch) (hcx:CxO H' a0.2) (L:StepC (PySem.W.hideAll s'.heap (ch ++ frs X.stack)) (X.env :: X.outer) ea (.ref C) a0 .none s'.heap h') :
  Inv X pins σ H' { s' with heap:=h' }∧Flies s.heap h' H' ea C:=by
 have I1:Inv X pins σ H' s':=I.call' (ch:=[]) os un hok bare (fun b z => absurd z (by simp))
 obtain ⟨st,ff,tr,up⟩:=L
 have FF:s'.heap.FunFrames X.base X.stack:=I1.stack
 have keep:∀ b o,b ∉ frs X.stack→b ∉ ch→s'.heap.get? b = some o→h'.get? b = some o:=fun b o hb hc e => st b o (PySem.W.hideAll_get _ e fun z => (List.mem_append.mp z).elim hc hb)
 have slots:∀ b o,b∈frs X.stack→s'.heap.get? b = some o→∃ sl,h'.get? b = some { o with slots:=sl }:=fun b o hb e => by
  obtain ⟨_,o',ho',hd⟩:=FF.mem hb
  rw [e] at ho'; cases ho'
  exact up b o e hd
 have un2:Un (frs X.stack) [] H H' s.heap h':=un.late (ch:=ch) (fun b hb => (hch b hb).1) keep slots
 have free:∀ b,H' b≠none→b ∉ frs X.stack∧b ∉ ch:=fun b n => ⟨fun z => n (I1.stkFree b z),fun z => n (hch b z).2⟩
 have hok2:HOk X.prog X.w H' h':=fun b o e => (hok b o e).stay (fun c u hc q => by
  have n:H' c≠none:=by
   rcases hc with z | z
   ·rw [z,e]; simp
   ·rw [z]; simp
  exact keep c u (free c n).1 (free c n).2 q) (fun _ q => q) fun _ _ q => q
 refine ⟨I.call' (s':={ s' with heap:=h' }) (ch:=[]) os un2 hok2 bare (fun b z => absurd z (by simp)),⟨?_,(hch ea hea).1,(hch ea hea).2⟩⟩
 obtain ⟨oe,vs,T,oT,ts,e1,⟨e2,e3,c3⟩,e4,e5,e6,e7,e8,e9,e10⟩:=tr
 have hT:s.heap.get? T = none∧H' T = none:=by
  cases q:s'.heap.get? T with
  | none =>
   refine ⟨?_,hok.free_of q⟩
   cases q2:s.heap.get? T with
   | none => rfl
   | some o => obtain ⟨o',z⟩:=un.there T o q2 (by simp); rw [q] at z; cases z
  | some o =>
   by_cases hc:T∈ch
   ·exact hch T hc
   ·by_cases hf:T∈frs X.stack
    ·have hf2:T∈frs (X.env :: X.outer):=hst▸hf
     obtain ⟨_,o',ho',hd⟩:=ff.mem hf2
     rw [e8] at ho'; cases ho'
     exact absurd e9 (hd ts)
    ·rw [PySem.W.hideAll_get _ q fun z => (List.mem_append.mp z).elim hc hf] at e6
     cases e6
 exact ⟨oe,vs,T,oT,ts,a0,e1,e2,e3,e4,e5,e7,e8,e9,e10,hT.1,hT.2,c3,hcx⟩
theorem frames_hid (I:Inv X pins σ H' s') (hst:X.stack = X.env :: X.outer) (ch:List Addr):s'.heap.FunFrames (PySem.W.hideAll s'.heap (ch ++ frs X.stack)) (X.env :: X.outer):=by
 have FF:s'.heap.FunFrames X.base X.stack:=I.stack
 rw [← hst]
 exact PySem.W.funFrames_hide FF fun env he a hf => List.mem_append_right _ (List.mem_filterMap.mpr ⟨env,he,hf⟩)
theorem leave_on (I:Inv X pins σ H s) (hst:X.stack = X.env :: X.outer) (hf:X.env.frame = some X.env.locals) (os:s'.os = s.os) (bare:AllBare s'.gens) (un:Un (frs X.stack) [] H H' s.heap s'.heap) (hok:HOk X.prog X.w H' s'.heap)
  (fl:Flies s.heap s'.heap H' ea C) {M:Model} {E:Value→Shared→Prop} {Q:Unit→Shared→Prop} (h:∀ h',Inv X pins σ H' { s' with heap:=h' }→Flies s.heap h' H' ea C→Q () { s' with heap:=h' }) :
  wpAny M X.A (leaving X.env (.ref ea)) Q E s':=by
 have I1:Inv X pins σ H' s':=I.call' (ch:=[]) os un hok bare (fun b z => absurd z (by simp))
 obtain ⟨oe,vs,T,oT,ts,a0,e1,e2,e3,e4,e5,e7,e8,e9,e10,e11,e12,c3,cx⟩:=fl.ex
 have hfr:X.A.frames = some (X.env :: X.outer):=by rw [← hst]; exact I.ok.frames
 refine leave_next (base:=PySem.W.hideAll s'.heap ([ea,T] ++ frs X.stack)) (cls:=.ref C) (a0:=a0) hfr (frames_hid I1 hst [ea,T]) hf
  ⟨oe,vs,T,oT,ts,e1,⟨e2,e3,c3⟩,e4,e5,PySem.W.hideAll_none _ (by simp),e7,e8,e9,e10⟩ (fun b o q => PySem.W.of_hideAll _ q) (PySem.W.hideAll_none _ (by simp)) fun h' L => ?_
 obtain ⟨J,F⟩:=fly_after (ch:=[ea,T]) I hst os bare un hok (fun b hb => by
  rcases List.mem_cons.mp hb with rfl | hb
  ·exact ⟨fl.new,fl.free⟩
  ·obtain rfl:b = T:=by simpa using hb
   exact ⟨e11,e12⟩) (by simp) cx L
 exact h h' J F
theorem leave_made (I:Inv X pins σ H s) (hst:X.stack = X.env :: X.outer) (hf:X.env.frame = some X.env.locals) {h1:Heap} {args:List Value} (hm:Heap.MadeExcOf s.heap h1 ea (.ref C) args)
  {M:Model} {E:Value→Shared→Prop} {Q:Unit→Shared→Prop} (h:∀ h',Inv X pins σ H { s with heap:=h' }→Flies s.heap h' H ea C→Q () { s with heap:=h' }) :
  wpAny M X.A (leaving X.env (.ref ea)) Q E { s with heap:=h1 }:=by
 have I1:Inv X pins σ H { s with heap:=h1 }:=I.kept (t':=s.toks) hm.keeps
 obtain ⟨t,e1,e2,e3⟩:=hm.there
 have hfr:X.A.frames = some (X.env :: X.outer):=by rw [← hst]; exact I.ok.frames
 refine leave_first (s:={ s with heap:=h1 }) (base:=PySem.W.hideAll h1 ([ea] ++ frs X.stack)) (a0:=(.ref t,.none)) hfr (frames_hid I1 hst [ea]) hf e1 (fun b o q => PySem.W.of_hideAll _ q)
  (PySem.W.hideAll_none _ (by simp)) rfl rfl rfl rfl fun h' L => ?_
 obtain ⟨J,F⟩:=fly_after (ch:=[ea]) (s':={ s with heap:=h1 }) I hst rfl I.bare (Un.kept hm.keeps) I1.hok (fun b hb => by
  obtain rfl:b = ea:=by simpa using hb
  exact ⟨hm.new,I.hok.free_of hm.new⟩) (by simp) .nil L
 exact h h' J F
end
def Throws (X:Cx) (E:XK):Prop:=∀ (pins:List (Addr × Obj)) (σ:St) (H:Hp) (s:Shared) (ea C:Addr) (h':Heap) (args:List Value),Inv X pins σ H s→Heap.MadeExcOf s.heap h' ea (.ref C) args→E (.ref C) none H→X.xe (.ref ea) { s with heap:=h' }
section
variable {P:Program} {w:World} {K:PySem.W.Frag} {mg:Str→Option Value} {base:Heap} {N ps:List Str} {qual:Str} {scope:Scope} {f:Addr} {cd:Value} {A:Around} {outer:List Env} {s:Shared} {H:Hp} {E:XK}
abbrev cxE (P:Program) (w:World) (K:PySem.W.Frag) (mg:Str→Option Value) (base:Heap) (N:List Str) (qual:Str) (scope:Scope) (f:Addr) (cd:Value) (A:Around) (outer:List Env) (s:Shared) (H:Hp) (E:XK) (c:Bool:=true):Cx :=
 cxOf (XC P w) P w K mg base N qual scope f cd A outer s H E c
theorem fresh_start {c:Bool} {pins:List (Addr × Obj)} {σ:St} {H1 H':Hp} {s1:Shared} {h':Heap} {ea C:Addr} (I:Inv (cxE P w K mg base N qual scope f cd A outer s H E c) pins σ H1 s1) (F:Flies s1.heap h' H' ea C):Flies s.heap h' H' ea C:=by
 have z:∀ b,s1.heap.get? b = none→s.heap.get? b = none:=fun b q => by
  cases q2:s.heap.get? b with
  | none => rfl
  | some o => obtain ⟨o',e⟩:=I.base.there b o q2 (by simp [cxOf]); rw [q] at e; cases e
 obtain ⟨oe,vs,T,oT,ts,a0,e1,e2,e3,e4,e5,e7,e8,e9,e10,e11,e12,c3,cx⟩:=F.ex
 exact ⟨⟨oe,vs,T,oT,ts,a0,e1,e2,e3,e4,e5,e7,e8,e9,e10,z _ e11,e12,c3,cx⟩,z _ F.new,F.free⟩
theorem passes_of {c:Bool}:Passes (XC P w) (cxE P w K mg base N qual scope f cd A outer s H E c) E:=by
 intro pins σ H1 s1 e s' I h
 obtain ⟨ea,C',H',rfl,os,bare,un,hok,fl,q⟩:=h
 refine leave_on I rfl rfl os bare un hok fl fun h' J F => ?_
 exact ⟨ea,C',H',rfl,J.os,J.bare,J.base,J.hok,fresh_start I F,q⟩
theorem throws_of {c:Bool}:Throws (cxE P w K mg base N qual scope f cd A outer s H E c) E:=by
 intro pins σ H1 s1 ea C h1 args I hm q
 refine leave_made I rfl rfl hm fun h' J F => ?_
 exact ⟨ea,C,H1,rfl,J.os,J.bare,J.base,J.hok,fresh_start I F,q⟩
theorem owns_of {c:Bool}:PassesOwn (model P w) (cxE P w K mg base N qual scope f cd A outer s H E c).A (cxE P w K mg base N qual scope f cd A outer s H E c).env (cxE P w K mg base N qual scope f cd A outer s H E c).xe:=PassesOwn.leaving
theorem Fun.okX {x:Str} {st:Stmt} {fd:FuncData} {k:Nat} {sp:Sp} {c:Bool} (F:Fun K x qual st f fd) (S:FnScope N ps (defScope st)) (len:∀ vs H Q E,sp vs H Q E→vs.length = ps.length)
  (hbody:∀ (cdv:Value) (A:Around) (outer:List Env) (s:Shared) (H:Hp) (vs:List V) (Q:VK) (E:XK),RoomC c k (A.deeper (envOfC qual (defScope st) s.heap.objs.size f cdv))→sp vs H Q E →
   ∃ t,PSs (cxE P w K mg base N qual (defScope st) f cdv A outer s H E c) (defBody st) t∧t { nx:=fun _ H' => Q .non H',rt:=Q } (start N vs) H):FnOk P w K mg base (XC P w) (k + 1) f fd ps sp c:=by
 obtain ⟨oc,od,kV,doc,pm,an,cdv,ct,osl,rfl,lk,hcd⟩:=F.ex
 exact fn_of lk hcd S len fun A outer s H vs Q E hr hsp => hbody cdv A outer s H vs Q E hr hsp
end
theorem exc_cls {K:PySem.W.Frag} {h:Heap} {C:Addr} {bmB:List Value} {newId:String} (X:K.In h) (q:PySem.W.excIn K C bmB newId = true) :
  ∃ nm qn N bs bm hdct sn sub ab col dd k0 k1 k2 k3 k5 mN,h.get? C = some (excClassObj nm qn C N bs bm hdct sn sub ab col dd k0 k1 k2 k3 k5 newId)∧h.Ns N mN∧mN "__init__" = none∧OwnTail h bmB bm:=by
 unfold PySem.W.excIn at q
 split at q
 ·rename_i dd cd sl ho
  split at q
  ·rename_i C' bm k0 k1 k2 k3 n k5 hm hs
   simp only [Bool.and_eq_true,beq_iff_eq,Bool.not_eq_true'] at q
   obtain ⟨⟨⟨⟨⟨e1,e2⟩,hdel⟩,ht⟩,hok⟩,hni⟩:=q
   subst e1 e2
   obtain ⟨nm,bs,mro,ns,qn,hd,sn,sub,ab,col,del⟩:=cd
   dsimp only at hm hdel hok hni
   subst hm hdel
   obtain ⟨l⟩:=sl
   have hs':l = [k0,k1,k2,k3,some (.builtin n),k5]:=hs
   subst hs'
   exact ⟨nm,qn,ns,bs,bm,hd,sn,sub,ab,col,dd,k0,k1,k2,k3,k5,_,X _ _ ho,.of_isNs (PySem.W.isNs_of_in X hok),PySem.W.nsMap_none_of_in X hok hni,PySem.W.tail_of_in X ht⟩
  ·cases q
 ·cases q
abbrev bmV:List Value:=[.type "ValueError",.type "Exception",.type "BaseException",.type "object"]
structure Err (K:PySem.W.Frag) (mg:Str→Option Value) (x:Str) (C:Addr):Prop where
 mg:mg x = some (.ref C)
 ex:PySem.W.excIn K C bmV "ValueError.__new__" = true
def tRaise (C:Addr) (ta:TA) (E:XK):TS:=fun _ σ H => ta σ H fun vs H1 => vs.length≤sizeLine∧E (.ref C) none H1
theorem ps_raise {X:Cx} {E:XK} {x:Str} {C:Addr} {e:Expr} {es:List Expr} {ta:TA} {np cpos pos:Pos} (hT:Throws X E) (hc:X.calm = true) (R:Err X.K X.mg x C) (hg:Gl X x) (ha:PA X (e :: es) ta)
  (hd:(x == ("__debug__":Str)) = false:=by decide) (he:starEach (e :: es) X.env = (false,eval e X.env) :: starEach es X.env:=by rfl) (hpl:(backTo cpos (starEach es X.env)).any (·.1) = false:=by rfl) :
  PS X (.Raise (some (.Call (.Name x np) (e :: es) [] cpos)) none pos) (tRaise C ta E):=by
 intro pins s σ H D I h
 obtain ⟨nm,qn,N,bs,bm,hdct,sn,sub,ab,col,dd,k0,k1,k2,k3,k5,mN,hC,hN,hni,T⟩:=exc_cls I.ok.mod.kin R.ex
 refine wpAny_Raise_call_subU (C:=C) (nm:=nm) (q:=qn) (N:=N) (bs:=bs) (bm:=bm) (hdct:=hdct) (sn:=sn) (sub:=sub) (ab:=ab) (col:=col) (dd:=dd) (k0:=k0) (k1:=k1) (k2:=k2) (k3:=k3) (k5:=k5)
  PySem.F.excBase_ValueError (by decide +kernel) PySem.F.excBase_ValueError (mN:=mN) (T.hasType (by decide +kernel)) (I.ok.hd hc) (by rw [he]; show (false || (backTo cpos (starEach es X.env)).any (·.1)) = false; rw [hpl]; rfl) hni
  (ld_glob I hg R.mg ⟨rfl,?_⟩ hd)
 have ha':=ha cpos pins s σ H _ I h
 rw [he] at ha' ⊢
 refine Calls.evalArgs_plain (thn ha' fun us s1 hh => ?_)
 obtain ⟨vs,H1,I1,r,hl,q⟩:=hh
 refine ⟨rfl,by rw [← r.length]; exact hl,I1.bk _ _ hC,hN.keeps I1.bk,T.keeps I1.bk,fun h' ea hm => ?_⟩
 exact hT pins σ H1 s1 ea C h' us I1 hm q
end L2
namespace L2
open PySem PySem.Spec PyProof.Rows
theorem comp_turns {prog:Program} {w:World} {A:Around} {R:Result→Shared→Prop} {s:Shared} {elt tg iter:Expr} {ifs:List Expr} {scope:Scope} {pos:Pos} {it acc:Value} {env:Env} (J:Nat→Shared→Prop)
  (turn:∀ n s,J n s→wpAny (model prog w) A (pyNext it) (fun r s1 => match r with
   | none => R (.ok .next) s1
   | some v => wpAny (model prog w) A (letOwnedTupleGo tg it v) (fun _ s2 => wpAny (model prog w) A (assign tg env v) (fun _ s3 =>
     wpAny (model prog w) A (forIn ifs true fun c r => if r = true then do let ok ← isTrue c env (eval c env); pure (ForInStep.yield ok) else pure (ForInStep.yield r)) (fun ok s4 =>
      if ok = true then wpAny (model prog w) A (eval elt env) (fun x s5 => wpAny (model prog w) A (call (.builtin "list.append") [acc,x]) (fun _ s6 => ∃ m,m < n∧J m s6) (fun _ _ => False) s5) (fun _ _ => False) s4
      else ∃ m,m < n∧J m s4) (fun _ _ => False) s3) (fun _ _ => False) s2) (fun _ _ => False) s1) (fun _ _ => False) s)
  (n:Nat) (h:J n s):codeAny (model prog w) A (.compLoop (.ListComp elt [⟨tg,iter,ifs,0⟩] scope pos) 0 it acc env) R s:=by
 refine codeAny_loop rfl J (fun n s hJ => ?_) n h
 show wpAny _ A ((compTurn (.ListComp elt [⟨tg,iter,ifs,0⟩] scope pos) 0 it acc env).onRaise _) _ _ s
 refine wpAny_noted (wpAny_noRaise ?_)
 rw [compTurn_list]
 refine wpAny_bind (wpAny_standAt (wpAny_bind (thn (turn n s hJ) fun r s1 h1 => ?_)))
 cases r with
 | none => exact wpAny_pure h1
 | some v =>
  refine wpAny_bind (thn h1 fun _ s2 h2 => wpAny_bind (thn h2 fun _ s3 h3 => wpAny_bind (thn h3 fun ok s4 h4 => ?_)))
  cases ok with
  | false => exact wpAny_pure ⟨rfl,h4⟩
  | true => exact wpAny_bind (wpAny_bind (thn h4 fun x s5 h5 => wpAny_bind (thn h5 fun _ s6 h6 => wpAny_pure (wpAny_pure ⟨rfl,h6⟩))))
abbrev Cx.blk (X:Cx) (scope:Scope) (cl:List (Str × Addr)) (C:Addr) (own:List Str) (s:Shared) (H:Hp) (fp:List Addr) (pins:List (Addr × Obj)):Cx :=
 { X with N:=X.N ++ own,env:=compEnvC scope cl C X.env,s₀:=s,H₀:=H,outer:=X.stack,ex:=fp,fn:=fun _ => false,pn:=X.pn ++ pins,xe:=fun _ _ => False }
theorem lookup_relab {env:Env} {x:Str}:∀ {names:List (Str × NameKind)},(names.map fun (n,k) => if (k == NameKind.free && env.scope.kind == .function && env.kindOf n == some .cell) then (n,NameKind.cell) else (n,k)).lookup x =
  (names.lookup x).map fun k => if (k == NameKind.free && env.scope.kind == .function && env.kindOf x == some .cell) then NameKind.cell else k
 | [] => rfl
 | (n,k) :: r => by
  have ih:=@lookup_relab env x r
  rw [List.map_cons]
  show List.lookup x ((if (k == NameKind.free && env.scope.kind == .function && env.kindOf n == some .cell) = true then (n,NameKind.cell) else (n,k)) :: _) = _
  have e:(if (k == NameKind.free && env.scope.kind == .function && env.kindOf n == some .cell) = true then (n,NameKind.cell) else (n,k)) = (n,if (k == NameKind.free && env.scope.kind == .function && env.kindOf n == some .cell) = true then NameKind.cell else k):=by
   split <;> rfl
  rw [e]
  cases q:x == n with
  | true =>
   obtain rfl:x = n:=by simpa using q
   simp [List.lookup_cons]
  | false => simp only [List.lookup_cons,q]; exact ih
structure CompScope (X:Cx) (scope:Scope) (cl:List (Str × Addr)):Prop where
 clos:closureFor scope X.env = pure cl
 kind:scope.kind = .function
 nocell:∀ y∈scope.names,y.2≠.cell
 names:∀ y∈scope.names,y.2 = .local→scope.names.lookup y.1 = some .local
 sub:∀ x c,cl.lookup x = some c→X.env.cells.lookup x = some c
 has:∀ x,scope.names.lookup x = some .free→∃ c,cl.lookup x = some c
 apart:∀ x∈X.N,scope.names.lookup x≠some .local
 outer:∀ x,scope.names.lookup x = some .free→X.env.kindOf x = some .cell∨X.env.kindOf x = some .free
theorem lookup_mem {α β:Type} [BEq α] [LawfulBEq α] {l:List (α × β)} {x:α} {b:β} (h:l.lookup x = some b):(x,b)∈l:=by
 induction l with
 | nil => simp at h
 | cons p r ih =>
  obtain ⟨a,c⟩:=p
  rw [List.lookup_cons] at h
  split at h
  ·rename_i q
   obtain rfl:x = a:=by simpa using q
   cases h; exact .head _
  ·exact .tail _ (ih h)
section
variable {X:Cx} {scope:Scope} {cl:List (Str × Addr)} {own:List Str} {pins:List (Addr × Obj)} {σ:St} {H2 H3:Hp} {s2:Shared} {fp:List Addr} {C:Addr} {h1:Heap}
theorem stk_no {b:Addr} (I2:Inv X pins σ H2 s2) (n1:b≠X.env.locals) (n2:b ∉ X.fs):b ∉ frs X.stack:=fun z => (List.mem_cons.mp (I2.stkSub b z)).elim n1 n2
theorem blk_in (S:CompScope X scope cl) (I2:Inv X pins σ H2 s2) (f2:∀ b∈fp,FpOk X pins H2 b) (hlt:∀ b∈fp,b < s2.heap.objs.size) (hC:s2.heap.objs.size≤C) {m:Str→Option Value} (hns:h1.Ns C m)
  (keep:∀ b o,s2.heap.get? b = some o→h1.get? b = some o) (hH:∀ b o,s2.heap.get? b = some o→H2 b = none→H3 b = none) (un:Un (frs X.stack) fp H2 H3 s2.heap h1) (hok:HOk X.prog X.w H3 h1) (hCf:H3 C = none) {tk:Nat} :
  Inv (X.blk scope cl C own s2 H2 fp pins) [] (σ ++ List.replicate own.length none) H3 { s2 with heap:=h1,toks:=tk }:=by
 have neC:∀ b o,s2.heap.get? b = some o→b≠C:=fun b o e => Nat.ne_of_lt (Nat.lt_of_lt_of_le (Heap.lt_size e) hC)
 have kof:∀ x,(compEnvC scope cl C X.env).kindOf x = (scope.names.lookup x).map fun k => if (k == NameKind.free && X.env.scope.kind == .function && X.env.kindOf x == some .cell) then NameKind.cell else k:=fun x => lookup_relab
 have isfree:∀ x,((compEnvC scope cl C X.env).kindOf x = some .cell∨(compEnvC scope cl C X.env).kindOf x = some .free)→scope.names.lookup x = some .free:=fun x hx => by
  rw [kof x] at hx
  cases q:scope.names.lookup x with
  | none => rw [q] at hx; rcases hx with z | z <;> cases z
  | some k =>
   rw [q] at hx
   have nc:=S.nocell _ (lookup_mem q)
   cases k <;> simp_all
 refine ⟨⟨I2.ok.mod,S.kind,I2.ok.glob,I2.ok.blt,hC,fun x y c e1 e2 => I2.ok.inj x y c (S.sub x c e1) (S.sub y c e2),fun x hx => S.has x (isfree x hx),fun x c z _ => (by cases z),I2.ok.hd,I2.ok.frames,.inl rfl,
  fun b hb => ⟨Nat.ne_of_lt (Nat.lt_of_lt_of_le (hlt b hb) hC),fun x c e => (f2 b hb).2.2.2.2.1 x c (S.sub x c e)⟩,fun b o e => ⟨(I2.bs b o e).1,(I2.bs b o e).2⟩,Nat.le_trans I2.ok.bsz I2.sz,fun b o e hb => ?_,fun b hb => stk_no I2 (f2 b hb).2.1 (f2 b hb).2.2.1,I2.stack,I2.stkFree⟩,
  rfl,I2.bare,un,⟨m,hns,fun i x v e1 e2 e3 => ?_⟩,fun x c e => ?_,hCf,fun x c e => ?_,fun p hp => ?_,hok,?_,I2.hn.mono un.frzs⟩
 ·rcases (f2 b hb).2.2.2.1 with z | z
  ·exact I2.ok.noex b o e z
  ·exact absurd (Nat.lt_of_lt_of_le (Nat.lt_of_lt_of_le (Heap.lt_size e) I2.ok.bsz) z) (Nat.lt_irrefl _)
 ·
  have hi:i < σ.length:=by
   apply Classical.byContradiction
   intro hn
   rw [List.getElem?_append_right (by omega),List.getElem?_replicate] at e2
   split at e2 <;> cases e2
  rw [List.getElem?_append_left hi] at e2
  have hi2:i < X.N.length:=by rw [← I2.len]; exact hi
  have e1':X.N[i]? = some x:=by rw [← List.getElem?_append_left (l₂:=own) hi2]; exact e1
  have hx:x∈X.N:=List.mem_of_getElem? e1'
  have e3':(compEnvC scope cl C X.env).kindOf x = some .local∨(compEnvC scope cl C X.env).kindOf x = some .cell∨(compEnvC scope cl C X.env).kindOf x = some .free:=e3
  have nl:(compEnvC scope cl C X.env).kindOf x≠some .local:=fun z => by
   rw [kof x] at z
   cases q:scope.names.lookup x with
   | none => rw [q] at z; cases z
   | some k =>
    rw [q,Option.map_some] at z
    have na:=S.apart x hx
    rw [q] at na
    cases k <;> first
     | exact na rfl
     | (have z':=Option.some.inj z; split at z' <;> cases z')
  have hcf:(compEnvC scope cl C X.env).kindOf x = some .cell∨(compEnvC scope cl C X.env).kindOf x = some .free:=e3'.resolve_left nl
  obtain ⟨c,hc⟩:=S.has x (isfree x hcf)
  obtain ⟨m0,hn0,hl0⟩:=I2.loc
  have hcX:=S.sub x c hc
  have ho:=S.outer x (isfree x hcf)
  obtain ⟨u,r,l⟩:=hl0 i x v e1' e2 (.inr ho)
  refine ⟨u,r,.inr ⟨hcf,c,hc,?_⟩⟩
  rcases l with ⟨z,_⟩ | ⟨_,c',hc',oc,hoc,hdc⟩
  ·rcases ho with y | y <;> (rw [y] at z; cases z)
  ·rw [hcX] at hc'
   cases hc'
   exact ⟨oc,keep _ _ hoc,hdc⟩
 ·obtain ⟨v,⟨oc,hoc,hdc⟩⟩:=I2.cell x c (S.sub x c e)
  exact ⟨v,oc,keep _ _ hoc,hdc⟩
 ·obtain ⟨v,⟨oc,hoc,hdc⟩⟩:=I2.cell x c (S.sub x c e)
  exact hH c oc hoc (I2.freeC x c (S.sub x c e))
 ·obtain ⟨q1,q2,q3,q4,q5⟩:=I2.pin p (by simpa using hp)
  exact ⟨keep _ _ q1,hH _ _ q1 q2,neC _ _ q1,stk_no I2 q3 q4,q5⟩
 ·show (σ ++ List.replicate own.length none).length = (X.N ++ own).length
  rw [List.length_append,List.length_append,List.length_replicate,I2.len]
theorem blk_out (I2:Inv X pins σ H2 s2) (f2:∀ b∈fp,FpOk X pins H2 b) (hC:s2.heap.objs.size≤C) {pl:List (Addr × Obj)} {σ':St} {s4:Shared} {h':Heap} (I4:Inv (X.blk scope cl C own s2 H2 fp pins) pl σ' H3 s4) (sb:Heap.SameBut C s4.heap h') :
  Inv X pins σ H3 { s4 with heap:=h' }:=by
 have un:Un (frs X.stack) fp H2 H3 s2.heap s4.heap:=I4.base
 have nC:s2.heap.get? C = none:=Heap.get?_none_of_le hC
 have CF:C ∉ frs X.stack:=fun z => by
  obtain ⟨_,o,ho,_⟩:=I2.stack.mem z
  rw [nC] at ho; cases ho
 have un2:Un (frs X.stack) fp H2 H3 s2.heap h':=un.late (ch:=[C]) (fun b hb => by
  obtain rfl:b = C:=by simpa using hb
  exact nC) (fun b o _ hb e => (sb.2 b (by simpa using hb)).trans e) fun b o hb e => ⟨o.slots,(sb.2 b fun z => CF (z▸hb)).trans e⟩
 have hf:H3 C = none:=I4.free
 have hok:HOk X.prog X.w H3 h':=fun b o e => (I4.hok b o e).stay (fun c u hc q => (sb.2 c fun z => by
  subst z
  rcases hc with z | z
  ·rw [z,e] at hf; cases hf
  ·rw [z] at hf; cases hf).trans q) (fun _ q => q) fun _ _ q => q
 exact I2.call' (s':={ s4 with heap:=h' }) (ch:=fp) I4.os un2 hok I4.bare fun b hb => ⟨(f2 b hb).2.2.2.1,(f2 b hb).2.1,(f2 b hb).2.2.2.2.1,(f2 b hb).2.2.2.2.2⟩
end
def PF (X:Cx) (ifs:List Expr) (t:TT):Prop :=
 ∀ (pins:List (Addr × Obj)) (s:Shared) (σ:St) (H:Hp) (Q:Bool→Hp→Prop),Inv X pins σ H s→t σ H Q →
  wpAny (model X.prog X.w) X.A (forIn ifs true fun c r => if r = true then do let ok ← isTrue c X.env (eval c X.env); pure (ForInStep.yield ok) else pure (ForInStep.yield r)) (TP X pins σ Q) X.xe s
theorem pf_nil {X:Cx}:PF X [] (fun _ H Q => Q true H):=fun _ _ _ H _ I h => wpAny_tests_nil ⟨H,I,h⟩
theorem pf_one {X:Cx} {c:Expr} {t:TT} (h:PT X c t):PF X [c] t:=fun pins s σ H Q I q => wpAny_tests_one (h pins s σ H Q I q)
def compT (k:Nat) (g:TG) (tc:TT) (te:TE) (σ:St) (Q:VK):It→Hp→Prop:=fun J H1 => ∀ D,H1 D = none→∃ W:Nat→Nat→List V→Hp→Prop,(∃ m,W 0 m [] (upd H1 D (.lst [])))∧∀ i m ys H,W i m ys H →
 H D = some (.lst ys)∧((J.stop i H∧Q (.ref D) H)∨(J.go i H∧ys.length < sizeLine∧∀ x H',J.yld i H x H'→g x (σ ++ List.replicate k none) H' fun σ2 H2 => (∃ zs,σ2 = σ ++ zs∧zs.length = k)∧tc σ2 H2 fun b H3 =>
  if b = true then te σ2 H3 fun y H4 => H4 D = some (.lst ys)∧∃ m',m' < m∧W (i + 1) m' (ys ++ [y]) (upd H4 D (.lst (ys ++ [y]))) else ∃ m',m' < m∧W (i + 1) m' ys H3))
def tComp (wi:TI) (k:Nat) (g:TG) (tc:TT) (te:TE):TE:=fun σ H Q => wi σ H (compT k g tc te σ Q)
section
variable {X:Cx} {tg elt iter:Expr} {ifs:List Expr} {scope:Scope} {cl:List (Str × Addr)} {own:List Str} {wi:TI} {g:TG} {tc:TT} {te:TE} {pos:Pos}
theorem comp_core {p2:Pos} {use:Option (Value→Sem Unit)} {QV:Value→Shared→Prop} {pins:List (Addr × Obj)} {s:Shared} {σ:St} {H:Hp} {Q:VK} (S:CompScope X scope cl) (hi:PI X tg iter wi)
  (hg:∀ C s H fp pins,PG (X.blk scope cl C own s H fp pins) tg g) (ht:∀ C s H fp pins,PF (X.blk scope cl C own s H fp pins) ifs tc) (he:∀ C s H fp pins,PE (X.blk scope cl C own s H fp pins) elt te)
  (hs:∀ x,foldedSetIterable iter X.env x = pure x) (I:Inv X pins σ H s) (h:tComp wi own.length g tc te σ H Q)
  (fin:∀ D C s2 H2 H3 s4,Inv X pins σ H2 s2→s2.heap.objs.size≤C→H3 C = none→(∃ m,s4.heap.Ns C m)→(∀ h',Heap.SameBut C s4.heap h'→Inv X pins σ H3 { s4 with heap:=h' })→Q (.ref D) H3→compPost (model X.prog X.w) X.A X.xe use QV (.ref D) C (.ok .next) s4) :
  wpAny (model X.prog X.w) X.A (comprehension (.ListComp elt [⟨tg,iter,ifs,0⟩] scope pos) scope X.env p2 (newList []) false (eval iter X.env) use) QV X.xe s:=by
 refine wpAny_comprehension_free (use:=use) rfl hs S.clos S.kind S.names (thn (hi pins s σ H _ I h) fun v s1 h1 => thn h1 fun itv s2 h2 => ?_)
 obtain ⟨it,fp,tn,J,H2,e,I2,T,st2,f2,R⟩:=h2
 subst e
 obtain ⟨nm,T,hc⟩:=T
 refine wpAny_newObj_type (wpAny_newFunctionEnv S.nocell (by intro y hy; simp at hy) (fun h1 hns hsb => ?_) S.kind)
 dsimp only at hns hsb ⊢
 have hlt:∀ b∈fp,b < s2.heap.objs.size:=fun b hb => by
  obtain ⟨o,ho,_⟩:=T.obj 0 _ st2 b hb
  exact Heap.lt_size ho
 generalize hp:s2.heap.push { cls:=.type "list",dict:=none,data:=.seq ([]:List Value).toArray } = hl at hns hsb ⊢
 have hC:hl.objs.size = s2.heap.objs.size + 1:=by rw [← hp,Heap.size_push]
 have hCle:s2.heap.objs.size≤hl.objs.size:=by rw [hC]; exact Nat.le_succ _
 have hDC:s2.heap.objs.size≠hl.objs.size:=by rw [hC]; exact Nat.ne_of_lt (Nat.lt_succ_self _)
 have old:∀ b o,hl.get? b = some o→h1.get? b = some o:=fun b o e => hsb.extBut b o (Nat.ne_of_lt (Heap.lt_size e)) (Heap.get?_push_of_some _ e)
 have old2:∀ b o,s2.heap.get? b = some o→h1.get? b = some o:=fun b o e => old b o (hp▸Heap.get?_push_of_some _ e)
 have Dn:H2 s2.heap.objs.size = none:=I2.fresh
 have Cn:H2 hl.objs.size = none:=I2.hok.fresh hCle
 obtain ⟨W,⟨m0,w0⟩,step⟩:=R s2.heap.objs.size Dn
 have hobj:h1.get? s2.heap.objs.size = some { cls:=.type "list",data:=.seq ([]:List Value).toArray }:=old _ _ (hp▸Heap.get?_push_size _ rfl)
 have I3:Inv (X.blk scope cl hl.objs.size own s2 H2 fp pins) [] (σ ++ List.replicate own.length none) (upd H2 s2.heap.objs.size (.lst [])) { s2 with heap:=h1,toks:=s2.toks + ([]:List (Str × Value)).length } :=
  blk_in S I2 f2 hlt hCle hns old2 (fun b o e n => by rw [upd_ne (Nat.ne_of_lt (Heap.lt_size e))]; exact n) (Un.laid old2 (Nat.le_refl _) Dn) (I2.hok.laid old2 (Nat.le_refl _) (show ObjOk X.prog X.w (upd H2 s2.heap.objs.size (.lst [])) h1 s2.heap.objs.size (.lst []) from ⟨Nat.zero_le _,[],0,.nil,hobj⟩)) (by rw [upd_ne (Ne.symm hDC)]; exact Cn)
 have fpn:∀ b∈fp,upd H2 s2.heap.objs.size (.lst []) b = none:=fun b hb => by rw [upd_ne (Nat.ne_of_lt (hlt b hb))]; exact (f2 b hb).1
 have stat:∀ {H':Hp},(∀ b∈fp,H' b = none)→∀ b∈fp,FpOk (X.blk scope cl hl.objs.size own s2 H2 fp pins) [] H' b:=fun hn b hb =>
  ⟨hn b hb,Nat.ne_of_lt (Nat.lt_of_lt_of_le (hlt b hb) hCle),stk_no I2 (f2 b hb).2.1 (f2 b hb).2.2.1,.inl hb,fun x c e => (f2 b hb).2.2.2.2.1 x c (S.sub x c e),fun p hp => (f2 b hb).2.2.2.2.2 p (by simpa using hp)⟩
 have loop:∀ s3:Shared,s3 = { s2 with heap:=h1,toks:=s2.toks + ([]:List (Str × Value)).length } →
   codeAny (model X.prog X.w) X.A (.compLoop (.ListComp elt [⟨tg,iter,ifs,0⟩] scope pos) 0 (.ref it) (.ref s2.heap.objs.size) (compEnvC scope cl hl.objs.size X.env)) (compPost (model X.prog X.w) X.A X.xe use QV (.ref s2.heap.objs.size) hl.objs.size) s3:=by
  rintro s3 rfl
  refine comp_turns (fun n s' => ∃ i ys H',Inv (X.blk scope cl hl.objs.size own s2 H2 fp pins) [] (σ ++ List.replicate own.length none) H' s'∧tn i s'.heap∧(∀ b∈fp,H' b = none)∧W i n ys H') ?_ m0
   ⟨0,[],_,I3,T.keep 0 _ _ st2 (fun b _ o e => old2 b o e),fpn,w0⟩
  rintro n s3 ⟨i,ys,H3,J3,st3,fr3,w3⟩
  obtain ⟨hD,⟨stop,q⟩ | ⟨go,hlen,turn⟩⟩:=step i n ys H3 w3
  ·refine thn (T.done (X.blk scope cl hl.objs.size own s2 H2 fp pins) rfl rfl rfl hc i [] s3 _ H3 _ J3 (stat fr3) st3 stop) fun r s4 ⟨hr,J4⟩ => ?_
   subst hr
   obtain ⟨m4,hn4,_⟩:=J4.loc
   exact fin _ _ s2 H2 H3 s4 I2 hCle J4.free ⟨m4,hn4⟩ (fun h' sb => blk_out I2 f2 hCle J4 sb) q
  ·refine thn (T.item (X.blk scope cl hl.objs.size own s2 H2 fp pins) rfl rfl rfl hc i [] s3 _ H3 _ J3 (stat fr3) st3 go) fun r s4 ⟨u,hr,h4⟩ => ?_
   subst hr
   refine thn h4 fun _ s5 hh => ?_
   obtain ⟨x,H5,J5,r5,y5,st5,fr5⟩:=hh
   have J5':=J5.pinned (stat fr5) (T.obj _ _ st5)
   refine thn (hg _ _ _ _ _ _ s5 _ H5 x u _ J5' r5 (turn x H5 y5)) fun _ s6 hh => ?_
   obtain ⟨σ6,H6,J6,⟨ts,e6,hts⟩,q6⟩:=hh
   subst e6
   refine thn (ht _ _ _ _ _ _ s6 _ H6 _ J6 q6) fun ok s7 ⟨H7,J7,q7⟩ => ?_
   have again:∀ {s8:Shared} {H8:Hp} {zs:List V},Inv (X.blk scope cl hl.objs.size own s2 H2 fp pins) ([] ++ pinsAt fp s5.heap) (σ ++ ts) H8 s8→(∃ m',m' < n∧W (i + 1) m' zs H8) →
     ∃ m,m < n∧∃ i ys H',Inv (X.blk scope cl hl.objs.size own s2 H2 fp pins) [] (σ ++ List.replicate own.length none) H' s8∧tn i s8.heap∧(∀ b∈fp,H' b = none)∧W i m ys H':=fun {s8 H8 zs} J8 ⟨m',hm,w8⟩ => by
    refine ⟨m',hm,i + 1,zs,H8,?_,T.keep _ _ _ st5 fun b hb o e => (J8.pin (b,o) (List.mem_append_right _ (List.mem_append_right _ (mem_pinsAt hb e)))).1,fun b hb => ?_,w8⟩
    ·refine J8.unpinned.weak (by rw [List.length_append,List.length_append,List.length_replicate,hts]) fun j v ej => ?_
     by_cases hj:j < σ.length
     ·rw [List.getElem?_append_left hj] at ej ⊢
      exact ej
     ·rw [List.getElem?_append_right (by omega),List.getElem?_replicate] at ej
      split at ej <;> cases ej
    ·obtain ⟨o,e,d⟩:=T.obj _ _ st5 b hb
     exact (J8.pin (b,o) (List.mem_append_right _ (List.mem_append_right _ (mem_pinsAt hb e)))).2.1
   cases ok with
   | false => exact again J7 q7
   | true =>
    refine thn (he _ _ _ _ _ _ s7 _ H7 _ J7 q7) fun z s8 hh => ?_
    obtain ⟨y,H8,J8,r8,hD8,q8⟩:=hh
    refine thn (mt_append _ s8 _ H8 (.ref s2.heap.objs.size) [y] _ [z] (fun _ H9 => ∃ m',m' < n∧W (i + 1) m' (ys ++ [y]) H9) J8 rfl (.cons r8 .nil) ⟨_,ys,y,rfl,rfl,hD8,hlen,q8⟩) fun _ s9 ⟨_,H9,J9,_,q9⟩ => again J9 q9
 exact codeAny_compStart_list (loop _ rfl) (T.self _ 0 _ _ _ (T.keep 0 _ _ st2 fun b _ o e => old2 b o e) (loop _ rfl))
theorem pe_comp (S:CompScope X scope cl) (hi:PI X tg iter wi)
  (hg:∀ C s H fp pins,PG (X.blk scope cl C own s H fp pins) tg g) (ht:∀ C s H fp pins,PF (X.blk scope cl C own s H fp pins) ifs tc) (he:∀ C s H fp pins,PE (X.blk scope cl C own s H fp pins) elt te)
  (hs:∀ x,foldedSetIterable iter X.env x = pure x:=by intro _; rfl):PE X (.ListComp elt [⟨tg,iter,ifs,0⟩] scope pos) (tComp wi own.length g tc te):=by
 intro pins s σ H Q I h
 rw [eval_ListComp]
 exact comp_core (use:=none) (QV:=EP X pins σ Q) S hi hg ht he hs I h fun D C s2 H2 H3 s4 _ _ _ hn inv q => hn.elim fun m hn => ⟨m,hn,fun h' sb => ⟨.ref D,H3,inv h' sb,rfl,q⟩⟩
theorem Inv.let_go {pins:List (Addr × Obj)} {σ σ2:St} {H H2:Hp} {s s2:Shared} {C:Addr} {h':Heap} (I:Inv X pins σ H s) (I2:Inv X pins σ2 H2 s2) (hC:s2.heap.objs.size≤C) (hf:H C = none) (sb:Heap.SameBut C s.heap h'):Inv X pins σ H { s with heap:=h' }:=by
 have nC:s2.heap.get? C = none:=Heap.get?_none_of_le hC
 have CF:C ∉ frs X.stack:=fun z => by
  obtain ⟨_,o,ho,_⟩:=I2.stack.mem z
  rw [nC] at ho; cases ho
 have off:∀ b o,s2.heap.get? b = some o→b≠C:=fun b o e z => by rw [z,nC] at e; cases e
 have un:Un (frs X.stack) [C] H H s.heap h':=⟨fun b o q _ _ hx => (sb.2 b fun z => hx (by simp [z])).trans q,fun b o q _ hb _ => ⟨o.slots,(sb.2 b fun z => CF (z▸hb)).trans q⟩,fun _ _ _ n _ => n,fun b o q hx => ⟨o,(sb.2 b fun z => hx (by simp [z])).trans q⟩,fun _ _ q => q,fun _ _ _ q => q,fun b ps q => ⟨#[],by rw [Array.append_empty]; exact q⟩⟩
 have hok:HOk X.prog X.w H h':=fun b o e => (I.hok b o e).stay (fun c u hc q => (sb.2 c fun z => by
  subst z
  rcases hc with z | z
  ·rw [z,e] at hf; cases hf
  ·rw [z] at hf; cases hf).trans q) (fun _ q => q) fun _ _ q => q
 refine I.call' (s':={ s with heap:=h' }) (ch:=[C]) rfl un hok I.bare fun b hb => ?_
 obtain rfl:b = C:=by simpa using hb
 obtain ⟨_,hn,_⟩:=I2.loc
 obtain ⟨_,_,_,hL,_⟩:=hn
 refine ⟨.inr (Nat.le_trans I2.sz hC),fun z => off _ _ hL z.symm,fun x c e => ?_,fun p hp => off _ _ (I2.pin p hp).1⟩
 obtain ⟨_,_,hc,_⟩:=I2.cell x c e
 exact off _ _ hc
theorem ps_setcomp {i:Nat} {x:Str} {pos' spos:Pos} (hN:X.N.Nodup) (hix:X.N[i]? = some x) (hx:Loc X.env.scope x) (S:CompScope X scope cl) (hi:PI X tg iter wi)
  (hg:∀ C s H fp pins,PG (X.blk scope cl C own s H fp pins) tg g) (ht:∀ C s H fp pins,PF (X.blk scope cl C own s H fp pins) ifs tc) (he:∀ C s H fp pins,PE (X.blk scope cl C own s H fp pins) elt te)
  (hs:∀ x,foldedSetIterable iter X.env x = pure x:=by intro _; rfl) (hsw:swapsWith (.ListComp elt [⟨tg,iter,ifs,0⟩] scope pos) (some (.Name x pos')) spos.line X.env = pure true:=by rfl)
  (hf:X.fn x = true∨X.env.scope.names.lookup x = some .local:=by first | exact .inl rfl | exact .inr rfl | assumption) :
  PS X (.Assign [.Name x pos'] (.ListComp elt [⟨tg,iter,ifs,0⟩] scope pos) spos) (tAsg (tComp wi own.length g tc te) (gName i)):=by
 intro pins s σ H D I h
 rw [exec_Assign_Name_used _ _ _ _ hsw]
 refine wpAny_bind (wpAny_standAt (wpAny_bind ?_))
 show wpAny _ X.A (do let _ ← comprehension (.ListComp elt [⟨tg,iter,ifs,0⟩] scope pos) scope X.env _ (newList []) false (eval iter X.env) (some (assign (.Name x pos') X.env))) _ _ s
 refine wpAny_bind (wpAny_mono (comp_core (pos:=pos) (use:=some (assign (.Name x pos') X.env)) (QV:=fun _ s' => SP X pins D .next s') S hi hg ht he hs I h fun Da C s2 H2 H3 s4 I2 hC hfree hn inv q => ?_) (fun _ s' hq => wpAny_pure (wpAny_pure hq)) fun _ _ e => e)
 obtain ⟨m,hn⟩:=hn
 have I4:Inv X pins σ H3 s4:=inv s4.heap (Heap.SameBut.refl _ _)
 have nC:s2.heap.get? C = none:=Heap.get?_none_of_le hC
 refine wpAny_assign_Name (store_ok2 I4 hN hix hx (show RelV (.ref Da) (.ref Da) from rfl) (fun s5 I5 ⟨a,sb,ha⟩ => ⟨m,hn.sameBut sb ?_,fun h' sb' => ⟨_,H3,I5.let_go I2 hC hfree sb',q⟩⟩) hf)
 rintro rfl
 rcases ha with z | z
 ·obtain ⟨_,hn2,_⟩:=I2.loc
  obtain ⟨_,_,_,hL,_⟩:=hn2
  rw [← z,nC] at hL; cases hL
 ·obtain ⟨_,_,hc,_⟩:=I2.cell x _ z
  rw [nC] at hc; cases hc
end
end L2
namespace L2
open PySem PySem.Spec PyProof.Rows
theorem Inv.track {X:Cx} {pins:List (Addr × Obj)} {σ:St} {H:Hp} {s:Shared} {a:Addr} {o:HO} (I:Inv X pins σ H s) (hn:H a = none) (h0:X.s₀.heap.get? a = none) (hL:a≠X.env.locals)
  (hc:∀ x c,X.env.cells.lookup x = some c→c≠a) (hp:∀ p∈X.pn ++ pins,p.1≠a) (new:ObjOk X.prog X.w (upd H a o) s.heap a o):Inv X pins σ (upd H a o) s:=by
 have ne:∀ b u,H b = some u→b≠a:=fun b u e z => by rw [z,hn] at e; cases e
 refine ⟨I.ok,I.os,I.bare,⟨I.base.keep,I.base.slot,fun b u e n hx => ?_,I.base.there,fun b xs e => ?_,fun b u v e => ?_,fun b ps e => ?_⟩,I.loc,I.cell,?_,fun x c e => ?_,fun p h => ?_,fun b u e => ?_,I.len,I.hn.mono fun b u v e => by rw [upd_ne (ne b _ e)]; exact e⟩
 ·rw [upd_ne (fun z => by rw [z,h0] at e; cases e)]; exact I.base.free b u e n hx
 ·have q:=I.base.tups b xs e
  rw [upd_ne (ne b _ q)]; exact q
 ·have q:=I.base.frzs b u v e
  rw [upd_ne (ne b _ q)]; exact q
 ·obtain ⟨m,q⟩:=I.base.tbls b ps e
  exact ⟨m,by rw [upd_ne (ne b _ q)]; exact q⟩
 ·rw [upd_ne (Ne.symm hL)]; exact I.free
 ·rw [upd_ne (hc x c e)]; exact I.freeC x c e
 ·obtain ⟨q1,q2,q3⟩:=I.pin p h
  exact ⟨q1,by rw [upd_ne (hp p h)]; exact q2,q3⟩
 ·by_cases hb:b = a
  ·subst hb; rw [upd_same] at e; cases e; exact new
  ·rw [upd_ne hb] at e
   exact (I.hok b u e).stay (fun _ _ _ q => q) (fun c q => by rw [upd_ne (ne c _ q)]; exact q) fun c xs q => by rw [upd_ne (ne c _ q)]; exact q
theorem Inv.relocal {X:Cx} {pins:List (Addr × Obj)} {σ:St} {H:Hp} {s:Shared} {h':Heap} {m':Str→Option Value} {t':Nat} (I:Inv X pins σ H s) (sb:Heap.SameBut X.env.locals s.heap h') (hn:h'.Ns X.env.locals m') :
  Inv X pins (List.replicate X.N.length none) H { s with heap:=h',toks:=t' }:=by
 have nL:∀ b o,X.s₀.heap.get? b = some o→b≠X.env.locals:=fun b o e => Nat.ne_of_lt (Nat.lt_of_lt_of_le (Heap.lt_size e) I.ok.above)
 have hf:=I.free
 refine ⟨I.ok,I.os,I.bare,⟨fun b o e n hb hx => (sb.2 b (nL b o e)).trans (I.base.keep b o e n hb hx),fun b o e n hb hx => ?_,I.base.free,fun b o e hx => ?_,I.base.tups,I.base.frzs,I.base.tbls⟩,⟨m',hn,fun i x v _ e2 _ => ?_⟩,
  fun x c e => ?_,hf,I.freeC,fun p hp => ?_,fun b o e => ?_,by simp,I.hn⟩
 ·obtain ⟨sl,q⟩:=I.base.slot b o e n hb hx
  exact ⟨sl,(sb.2 b (nL b o e)).trans q⟩
 ·obtain ⟨o',q⟩:=I.base.there b o e hx
  exact ⟨o',(sb.2 b (nL b o e)).trans q⟩
 ·rw [List.getElem?_replicate] at e2
  split at e2 <;> cases e2
 ·obtain ⟨v,z⟩:=I.cell x c e
  exact ⟨v,z.sameBut sb (I.cne x c e)⟩
 ·obtain ⟨q1,q2,q3,q4⟩:=I.pin p hp
  exact ⟨(sb.2 p.1 q3).trans q1,q2,q3,q4⟩
 ·refine (I.hok b o e).stay (fun c u hc q => (sb.2 c fun z => ?_).trans q) (fun _ q => q) fun _ _ q => q
  subst z
  rcases hc with z | z
  ·rw [z,e] at hf; cases hf
  ·rw [z] at hf; cases hf
def IsExc (a C:Addr) (h:Heap):Prop:=∃ o vs,h.get? a = some o∧o.cls = .ref C∧o.data = .fields vs
abbrev HO.exc (a C:Addr):HO:=.ext (IsExc a C)
def Exc (H:Hp) (a C:Addr):Prop:=∃ o,H a = some (.frz o (.exc a C))
theorem exc_ok {P:Program} {w:World} {H:Hp} {h:Heap} {a C:Addr} (e:IsExc a C h):ObjOk P w H h a (.exc a C):=by
 obtain ⟨o,vs,h1,h2,h3⟩:=id e
 exact ⟨e,⟨o,h1⟩,fun g1 g2 ⟨o',vs',q1,q2,q3⟩ k => ⟨o',vs',k _ q1,q2,q3⟩⟩
def PassS (X:Cx) (E:St→XK):Prop:=∀ (pins:List (Addr × Obj)) (σ:St) (H:Hp) (s:Shared) (e:Value) (s':Shared),Inv X pins σ H s→XC X.prog X.w X.stack H s (E σ) e s'→X.xe e s'
def tCallS (sp:Sp) (E:St→XK) (t:TA):TE:=fun σ H Q => t σ H fun vs H1 => sp vs H1 Q (E σ)
section
variable {X:Cx} {k:Nat} {f:Addr} {fd:FuncData} {ps:List Str} {sp:Sp} {E:St→XK} {x:Str} {p pos:Pos} {e:Expr} {es:List Expr} {t:TA}
theorem pe_callS {cm:Bool} (F:FnOk X.prog X.w X.K X.mg X.base (XC X.prog X.w) k f fd ps sp cm) (hr:RoomC cm k X.A) (hg:Gl X x) (hm:X.mg x = some (.ref f)) (hk:PySem.W.keepIn X.K (.ref f) = true) (hb:Binds X.K fd ps []) (hx:PassS X E)
  (ha:PA X (e :: es) t) (hdb:(x == ("__debug__":Str)) = false:=by decide) (he:starEach (e :: es) X.env = (false,eval e X.env) :: starEach es X.env:=by rfl) (hpl:(backTo pos (starEach es X.env)).any (·.1) = false:=by rfl) :
  PE X (.Call (.Name x p) (e :: es) [] pos) (tCallS sp E t):=by
 intro pins s σ H Q I h
 refine wpAny_Call_Name_kw (ld_glob I hg hm ?_ hdb)
 refine PySem.W.callWith_K (h₀:=X.base) I.ok.mod.kin hk (thn (ha pos pins s σ H _ I h) fun us s1 ⟨vs,H1,I1,r,q⟩ => ⟨I1.kIn,?_⟩) he hpl
 have hl:(us ++ []).length = ps.length:=by rw [List.append_nil,← r.length]; exact F.len _ _ _ _ q
 have hb':=hb s1 us I1.kIn hl
 rw [List.append_nil] at hb'
 refine wpAny_call (codeAny_mono (F.run X.A X.stack s1 H1 ⟨us,[]⟩ us vs Q (E σ) hr I1.env0 hb' r q) fun r' s' hq => ?_)
 cases r' with
 | error e' => exact hx pins σ H1 s1 e' s' I1 hq
 | ok fl =>
  cases fl with
  | ret u => exact I1.after hq
  | next => exact False.elim hq
  | brk => exact False.elim hq
  | cont => exact False.elim hq
end
abbrev Cx.tryb (X:Cx) (pins:List (Addr × Obj)) (E:Value→Shared→Prop):Cx:={ X with pn:=X.pn ++ pins,xe:=E }
abbrev Cx.hand (X:Cx) (e:Value):Cx:={ X with A:=X.A.mark (some e),calm:=false,xe:=fun _ _ => False }
section
variable {X:Cx} {pins pl:List (Addr × Obj)} {σ:St} {H:Hp} {s:Shared} {E:Value→Shared→Prop}
theorem Inv.tryb (I:Inv X pins σ H s):Inv (X.tryb pins E) [] σ H s :=
 ⟨⟨I.ok.mod,I.ok.kind,I.ok.glob,I.ok.blt,I.ok.above,I.ok.inj,I.ok.has,I.ok.cab,I.ok.hd,I.ok.frames,I.ok.stk,I.ok.exf,I.ok.bs,I.ok.bsz,I.ok.noex,I.ok.exfs,I.ok.funs,I.ok.frf⟩,I.os,I.bare,I.base,I.loc,I.cell,I.free,I.freeC,fun p hp => I.pin p (by simpa using hp),I.hok,I.len,I.hn⟩
theorem Inv.untry (I:Inv (X.tryb pins E) pl σ H s):Inv X pins σ H s :=
 ⟨⟨I.ok.mod,I.ok.kind,I.ok.glob,I.ok.blt,I.ok.above,I.ok.inj,I.ok.has,I.ok.cab,I.ok.hd,I.ok.frames,I.ok.stk,I.ok.exf,I.ok.bs,I.ok.bsz,I.ok.noex,I.ok.exfs,I.ok.funs,I.ok.frf⟩,I.os,I.bare,I.base,I.loc,I.cell,I.free,I.freeC,fun p hp => I.pin p (List.mem_append_left _ hp),I.hok,I.len,I.hn⟩
theorem Inv.hand {e:Value} (I:Inv X pins σ H s) (hn:HdF (X.A.mark (some e)) H):Inv (X.hand e) pins σ H s :=
 ⟨⟨I.ok.mod,I.ok.kind,I.ok.glob,I.ok.blt,I.ok.above,I.ok.inj,I.ok.has,I.ok.cab,(fun z => by cases z),I.ok.frames,I.ok.stk,I.ok.exf,I.ok.bs,I.ok.bsz,I.ok.noex,I.ok.exfs,I.ok.funs,I.ok.frf⟩,I.os,I.bare,I.base,I.loc,I.cell,I.free,I.freeC,I.pin,I.hok,I.len,hn⟩
theorem Inv.unhand {e:Value} (hd:X.calm = true→X.A.handled = none) (hn:X.A.handled = none) (I:Inv (X.hand e) pins σ H s):Inv X pins σ H s :=
 ⟨⟨I.ok.mod,I.ok.kind,I.ok.glob,I.ok.blt,I.ok.above,I.ok.inj,I.ok.has,I.ok.cab,hd,I.ok.frames,I.ok.stk,I.ok.exf,I.ok.bs,I.ok.bsz,I.ok.noex,I.ok.exfs,I.ok.funs,I.ok.frf⟩,I.os,I.bare,I.base,I.loc,I.cell,I.free,I.freeC,I.pin,I.hok,I.len,.inl hn⟩
end
def tTry (K:PySem.W.Frag) (C0:Addr) (i:Nat) (tb:(St→XK)→TS) (th:TS):TS:=fun D σ H =>
 tb (fun σ1 cls _ H1 => ∃ C,cls = .ref C∧PySem.W.exmOne K (.ref C) (.ref C0) = some true∧∀ ea oe,H1 ea = none→th { nx:=fun _ _ => False,rt:=D.rt } (σ1.set i (some (.ref ea))) (upd H1 ea (.frz oe (.exc ea C)))) D σ H
section
variable {X:Cx} {body:List Stmt} {b0:Stmt} {suite:List Stmt} {cn n:Str} {np hpos pos:Pos} {C0:Addr} {i:Nat} {tb:(St→XK)→TS} {th:TS}
theorem ps_try (hcm:X.calm = true) (hx0:X.ex = []) (hst:X.stack = X.env :: X.outer) (hf:X.env.frame = some X.env.locals) (hN:X.N.Nodup) (hi:X.N[i]? = some n) (hn:X.env.kindOf n = some .local) (hg:Gl X cn) (hm:X.mg cn = some (.ref C0))
  (hb:∀ (pins:List (Addr × Obj)) (E:Value→Shared→Prop) (Es:St→XK),PassS (X.tryb pins E) Es→PSs (X.tryb pins E) body (tb Es)) (hh:∀ e,PSs (X.hand e) (b0 :: suite) th)
  (hd:(cn == ("__debug__":Str)) = false:=by decide) :
  PS X (.Try body [.ExceptHandler (some (.Name cn np)) (some n) (b0 :: suite) hpos] [] [] pos) (tTry X.K C0 i tb th):=by
 intro pins s σ H D I h
 have pass:PassS (X.tryb pins fun e s1 => wpAny (model X.prog X.w) X.A (noteFrame e X.env) (fun _ s2 => wpAny (model X.prog X.w) X.A (setFlight e none) (fun _ s3 =>
   wpAny (model X.prog X.w) X.A (handleBy e X.env [.ExceptHandler (some (.Name cn np)) (some n) (b0 :: suite) hpos]) (SP X pins D) X.xe s3) X.xe s2) X.xe s1)
   (fun σ1 cls _ H1 => ∃ C,cls = .ref C∧PySem.W.exmOne X.K (.ref C) (.ref C0) = some true∧∀ ea oe,H1 ea = none→th { nx:=fun _ _ => False,rt:=D.rt } (σ1.set i (some (.ref ea))) (upd H1 ea (.frz oe (.exc ea C)))):=by
  intro pins1 σ1 H1 s1 e s' I1 hx
  obtain ⟨ea,C,H',rfl,os,bare,un,hok,fl,Cc,ec,hex,q⟩:=hx
  cases ec
  have J:Inv X pins σ1 H1 s1:=I1.untry
  have J1:Inv X pins σ1 H' s':=J.call' (ch:=[]) os un hok bare (fun b z => absurd z (by simp))
  obtain ⟨oe,vs,T,oT,ts,a0,e1,e2,e3,e4,e5,e7,e8,e9,e10,e11,e12,c3,cx⟩:=fl.ex
  have hfr:X.A.frames = some (X.env :: X.outer):=by rw [← hst]; exact I.ok.frames
  have hch:∀ b∈[ea,T],s1.heap.get? b = none∧H' b = none:=fun b hb => by
   rcases List.mem_cons.mp hb with rfl | hb
   ·exact ⟨fl.new,fl.free⟩
   ·obtain rfl:b = T:=by simpa using hb
    exact ⟨e11,e12⟩
  show wpAny _ _ (noteFrame (.ref ea) X.env) _ _ _
  refine note_next (base:=PySem.W.hideAll s'.heap ([ea,T] ++ frs X.stack)) (cls:=.ref C) (a0:=a0) hfr (frames_hid J1 hst [ea,T]) hf
   ⟨oe,vs,T,oT,ts,e1,⟨e2,e3,c3⟩,e4,e5,PySem.W.hideAll_none _ (by simp),e7,e8,e9,e10⟩ (fun b o q => PySem.W.of_hideAll _ q) (PySem.W.hideAll_none _ (by simp)) fun h2 S2 => ?_
  refine flight_c (s:={ s' with heap:=h2 }) S2.st S2.ff S2.tr fun h3 S3 _ => ?_
  obtain ⟨J3,F3⟩:=fly_after (ch:=[ea,T]) J hst os bare un hok hch (by simp) cx ⟨S3.st,S3.ff,S3.tr,S2.up.trans S3.up⟩
  have hA:X.A.handled = none:=I.ok.hd hcm
  have nL:ea≠X.env.locals:=fun z => by
   obtain ⟨m,⟨o,_,_,ho,_⟩,_⟩:=J.loc
   have:=fl.new; rw [z,ho] at this; cases this
  have h0':X.s₀.heap.get? ea = none:=by
   cases q0:X.s₀.heap.get? ea with
   | none => rfl
   | some o =>
    obtain ⟨o',z⟩:=J.base.there ea o q0 (by rw [hx0]; simp)
    have:=fl.new; rw [z] at this; cases this
  have track:∀ g,Inv X pins σ1 H' { s' with heap:=g }→Flies s1.heap g H' ea C→∃ ob us c,g.get? ea = some ob∧ob.cls = .ref C∧ob.data = .fields us∧(us[2]? = some c∧CxO H' c)∧Inv X pins σ1 (upd H' ea (.frz ob (.exc ea C))) { s' with heap:=g }:=fun g Jg Fg => by
   obtain ⟨ob,us,_,_,_,b0',f1,f2,_,f4,_,_,_,_,_,_,_,f5,f6⟩:=Fg.ex
   exact ⟨ob,us,b0'.2,f1,f2,f4,⟨f5,f6⟩,Jg.track Fg.free h0' nL (fun x c ec z => by
    obtain ⟨v,o,ho,_⟩:=J.cell x c ec
    have:=fl.new; rw [← z,ho] at this; cases this) (fun p hp z => by
    have:=(J.pin p hp).1
    rw [z,fl.new] at this; cases this) ⟨f1,exc_ok ⟨ob,us,f1,f2,f4⟩⟩⟩
  obtain ⟨o3,v3,x3,g1,g2,g3,g4,J3t⟩:=track h3 J3 F3
  have J3h:Inv (X.hand (.ref ea)) pins σ1 (upd H' ea (.frz o3 (.exc ea C))) { s' with heap:=h3 }:=J3t.hand (.inr ⟨ea,rfl,.cons upd_same g3 g4.1 (g4.2.upd fl.free)⟩)
  have L:PySem.W.Looks (model X.prog X.w) h3 (typeOf (.ref ea)) (.ref C):=g2▸(PySem.W.Looks.ld g1).andThen .now
  refine wpAny_handleBy_cons (codeAny_handlers_test (ld_glob (X:=X.hand (.ref ea)) J3h hg hm ?_ hd)) (by intro q; cases q)
  refine (PySem.W.exm_one J3.kIn L hex).here ?_
  refine codeAny_handlers_suite_as ?_
  refine flight_c (s:={ s' with heap:=h3 }) S3.st S3.ff S3.tr fun h4 S4 _ => ?_
  obtain ⟨J4,F4⟩:=fly_after (ch:=[ea,T]) J hst os bare un hok hch (by simp) cx ⟨S4.st,S4.ff,S4.tr,(S2.up.trans S3.up).trans S4.up⟩
  obtain ⟨o4,v4,x4,_,_,d4,c4,J5⟩:=track h4 J4 F4
  refine store_ok (M:=model X.prog X.w) (v:=.ref ea) J5 hN hi (.inl hn) rfl (fun s6 J6 => ?_) (.inr hn)
  refine wpAny_mono (hh (.ref ea) pins s6 _ _ { nx:=fun _ _ => False,rt:=D.rt } (J6.hand (.inr ⟨ea,rfl,.cons upd_same d4 c4.1 (c4.2.upd fl.free)⟩)) (q ea o4 F4.free)) (fun fl7 s7 q7 => ?_) fun _ _ z => z.elim
  cases fl7 with
  | next => obtain ⟨_,_,_,z⟩:=q7; exact z.elim
  | brk => obtain ⟨_,_,_,z⟩:=q7; exact z.elim
  | cont => obtain ⟨_,_,_,z⟩:=q7; exact z.elim
  | ret u =>
   obtain ⟨v,σ7,H7,J7,r7,d7⟩:=q7
   have J7x:Inv X pins σ7 H7 s7:=J7.unhand I.ok.hd hA
   obtain ⟨m7,hn7,_⟩:=J7x.loc
   have hcls:(X.env.scope.kind == .class || (X.env.scope.kind == .module && X.env.locals != X.env.globals)) = false:=by rw [I.ok.kind]; rfl
   refine wpAny_nameGoes hn hn7 hcls fun h8 m8 hn8 sb8 => ?_
   exact ⟨v,List.replicate X.N.length none,H7,J7x.relocal sb8 hn8,r7,d7⟩
 refine wpAny_Try_except (wpAny_mono (hb pins _ _ pass [] s σ H D I.tryb h) (fun f s1 q1 => ?_) fun e s1 q1 => q1)
 cases f with
 | next =>
  obtain ⟨σ1,H1,I1,q⟩:=q1
  exact wpAny_execs_nil ⟨σ1,H1,I1.untry,q⟩
 | brk => obtain ⟨σ1,H1,I1,q⟩:=q1; exact ⟨σ1,H1,I1.untry,q⟩
 | cont => obtain ⟨σ1,H1,I1,q⟩:=q1; exact ⟨σ1,H1,I1.untry,q⟩
 | ret u => obtain ⟨v,σ1,H1,I1,r,q⟩:=q1; exact ⟨v,σ1,H1,I1.untry,r,q⟩
end
end L2
namespace L2
open PySem PySem.Spec PyProof.Rows
section
variable {P:Program} {w:World} {K:PySem.W.Frag} {mg:Str→Option Value} {base:Heap} {k:Nat} {x m:Str} {C:Addr} {ps:List Str} {sp:Sp}
structure GoodF (P:Program) (w:World) (K:PySem.W.Frag) (mg:Str→Option Value) (base:Heap) (k:Nat) (x:Str) (ps:List Str) (sp:Sp) (c:Bool:=true):Prop where
 ex:∃ f fd,FnOk P w K mg base (XC P w) k f fd ps sp c∧Binds K fd ps []∧PySem.W.keepIn K (.ref f) = true∧mg x = some (.ref f)
end
section
variable {X:Cx} {k:Nat} {x m:Str} {C:Addr} {ps:List Str} {sp:Sp} {E:XK} {p pos apos:Pos} {e o:Expr} {es:List Expr} {ta:TE} {t:TA}
theorem pe_callG {cm:Bool} (G:GoodF X.prog X.w X.K X.mg X.base k x ps sp cm) (hr:RoomC cm k X.A) (hx:Passes (XC X.prog X.w) X E) (hg:Gl X x) (ha:PA X (e :: es) t)
  (hdb:(x == ("__debug__":Str)) = false:=by decide) (he:starEach (e :: es) X.env = (false,eval e X.env) :: starEach es X.env:=by rfl) (hpl:(backTo pos (starEach es X.env)).any (·.1) = false:=by rfl) :
  PE X (.Call (.Name x p) (e :: es) [] pos) (tCall sp [] E t):=by
 obtain ⟨f,fd,F,b,kp,mgx⟩:=G.ex
 exact pe_call F hr hg mgx kp b .nil hx ha hdb he hpl
theorem pe_callGS {cm:Bool} {Es:St→XK} (G:GoodF X.prog X.w X.K X.mg X.base k x ps sp cm) (hr:RoomC cm k X.A) (hx:PassS X Es) (hg:Gl X x) (ha:PA X (e :: es) t)
  (hdb:(x == ("__debug__":Str)) = false:=by decide) (he:starEach (e :: es) X.env = (false,eval e X.env) :: starEach es X.env:=by rfl) (hpl:(backTo pos (starEach es X.env)).any (·.1) = false:=by rfl) :
  PE X (.Call (.Name x p) (e :: es) [] pos) (tCallS sp Es t):=by
 obtain ⟨f,fd,F,b,kp,mgx⟩:=G.ex
 exact pe_callS F hr hg mgx kp b hx ha hdb he hpl
end
inductive ClsV:V→Value→Prop where
 | ty (n:String):ClsV (.ty n) (.type n)
 | ref (a:Addr):ClsV (.ref a) (.ref a)
theorem ClsV.val {c:V} {cv u:Value} (h:ClsV c cv) (r:RelV c u):u = cv:=by cases h <;> exact r
section
variable {X:Cx}
theorem call_isi:CallR X (.builtin "isinstance") (fun xs H Q => ∃ x c t cv b,xs = [x,c]∧TyOf X.K H x t∧ClsV c cv∧PySem.W.kitOne X.K t cv = some b∧Q (.bl b) H):=by
 intro pins s σ H xs us Q I r h
 obtain ⟨x,c,t,cv,b,rfl,ty,hc,e,q⟩:=h
 obtain ⟨u,w,rfl,ru,rc⟩:=vals2 r
 obtain rfl:=hc.val rc
 exact isinst_ok I ru ty e fun tk => ⟨.bl b,H,I.tok tk,rfl,q⟩
end
def Itz (K:PySem.W.Frag) (a b:Addr):It :=
 ⟨fun i H => ∃ xs ys x y,SqL K H a xs∧SqL K H b ys∧xs[i]? = some x∧ys[i]? = some y,
  fun i H v H' => ∃ p x y,H p = none∧v = .ref p∧H' = upd H p (.tup [x,y])∧∀ xs ys,SqL K H a xs→SqL K H b ys→xs[i]? = some x∧ys[i]? = some y,
  fun i H => ∃ xs ys,SqL K H a xs∧SqL K H b ys∧(xs.length≤i∨ys.length≤i)⟩
theorem Inv.turnedL {X:Cx} {pins:List (Addr × Obj)} {σ:St} {H:Hp} {s:Shared} {h':Heap} {t':Nat} {ch:List Addr} (I:Inv X pins σ H s) (fp:∀ c∈ch,FpOk X pins H c) (keep:∀ c o,c ∉ ch→s.heap.get? c = some o→h'.get? c = some o) :
  Inv X pins σ H { s with heap:=h',toks:=t' }:=by
 have nfp:∀ c o,H c = some o→c ∉ ch:=fun c o e hc => by have:=(fp c hc).1; rw [e] at this; cases this
 refine I.step (g':=s.gens) (d':=s.drawn) (ch:=ch) (fun c hc => ⟨(fp c hc).2.2.2.1,(fp c hc).2.1,(fp c hc).2.2.2.2.1,(fp c hc).2.2.2.2.2⟩)
  (fun c o _ _ hc e _ => keep c o hc e) (fun c o _ _ hc e _ => ⟨o.slots,keep c o hc e⟩) (fun _ _ _ _ n => n) (fun c o hc e => ⟨o,keep c o hc e⟩) (fun _ _ e => e) (fun _ _ _ e => e) (fun c ps e => ⟨#[],by rw [e]; simp⟩) (fun m hm => ?_) (fun c o e => ?_) I.bare
 ·obtain ⟨o,es,ep,ho,r⟩:=hm
  exact ⟨o,es,ep,keep _ o (fun hc => (fp _ hc).2.1 rfl) ho,r⟩
 ·refine (I.hok c o e).stay (fun d u hd q => keep d u ?_ q) (fun _ q => q) fun _ _ q => q
  rcases hd with z | z
  ·rw [z]; exact nfp c o e
  ·exact nfp d _ z
theorem turn_zip {P:Program} {w:World} {K:PySem.W.Frag} {elts:List Expr} {kk:Nat} {tpos:Pos} (z TI TO i1 i2 l1 l2:Addr) (D:ZipApart z TI TO i1 i2 l1 l2) :
  Turn P w K (.Tuple elts kk tpos) (Itz K l1 l2) [z,TI,TO,i1,i2] z (fun i h => IsZip h z TI TO .none∧IsPair h TI (.ref i1) (.ref i2)∧(∃ a b,IsPair h TO a b)∧h.IsListIter i1 l1 i∧h.IsListIter i2 l2 i) true where
 mem:=by simp
 obj:=fun i h st b hb => by
  obtain ⟨q1,q2,⟨_,_,q3⟩,⟨o4,q4,_,d4⟩,⟨o5,q5,_,d5⟩⟩:=st
  simp only [List.mem_cons,List.not_mem_nil,or_false] at hb
  rcases hb with rfl | rfl | rfl | rfl | rfl
  ·exact ⟨_,q1,fun v e => by cases e⟩
  ·exact ⟨_,q2,fun v e => by cases e⟩
  ·exact ⟨_,q3,fun v e => by cases e⟩
  ·exact ⟨_,q4,fun v e => by rw [d4] at e; cases e⟩
  ·exact ⟨_,q5,fun v e => by rw [d5] at e; cases e⟩
 keep:=fun i h h' st k => by
  obtain ⟨q1,q2,⟨a,b,q3⟩,q4,q5⟩:=st
  exact ⟨k z (by simp) _ q1,k TI (by simp) _ q2,⟨a,b,k TO (by simp) _ q3⟩,q4.at fun o e => k i1 (by simp) o e,q5.at fun o e => k i2 (by simp) o e⟩
 item:=by
  intro X hP hw hK hc i pins s σ H E I hf st hg
  subst hP hw hK
  obtain ⟨xs,ys,x,y,hx,hy,ex,ey⟩:=hg
  obtain ⟨its,rv,p,_⟩:=I.list hx
  obtain ⟨jts,rw',p',_⟩:=I.list hy
  obtain ⟨u,hu,ru⟩:=rv.get ex
  obtain ⟨v,hv,rv'⟩:=rw'.get ey
  obtain ⟨q1,q2,⟨a,b,q3⟩,q4,q5⟩:=st
  refine wpAny_pyNext_zip_item D q1 q2 q3 q4 q5 p.isList p'.isList (x:=u) (y:=v) (by simpa using hu) (by simpa using hv) fun h1 z1 z2 z3 z4 z5 z6 z7 => ?_
  refine ⟨_,rfl,wpAny_letOwnedTupleGo_zip (s:={ s with heap:=h1 }) z1 fun h2 z1' sb => ?_⟩
  have fz:=hf z (by simp)
  have fO:=hf TO (by simp)
  have f1:=hf i1 (by simp)
  have f2:=hf i2 (by simp)
  have keep:∀ c o,c ∉ [z,TO,i1,i2]→s.heap.get? c = some o→h2.get? c = some o:=fun c o hc e => by
   simp only [List.mem_cons,List.not_mem_nil,or_false,not_or] at hc
   exact (sb.2 c hc.1).trans (z7 c o hc.1 hc.2.1 hc.2.2.1 hc.2.2.2 e)
  have hlt:∀ {c o},s.heap.get? c = some o→c≠s.heap.objs.size:=fun e => Nat.ne_of_lt (Heap.lt_size e)
  have g4:=q4
  have g5:=q5
  obtain ⟨o4,e4,_,_⟩:=g4
  obtain ⟨o5,e5,_,_⟩:=g5
  have fp:∀ c∈[z,TO,i1,i2],FpOk X pins H c:=fun c hc => by
   simp only [List.mem_cons,List.not_mem_nil,or_false] at hc
   rcases hc with rfl | rfl | rfl | rfl
   ·exact fz
   ·exact fO
   ·exact f1
   ·exact f2
  have I1:Inv X pins σ H { s with heap:=h2 }:=I.turnedL (t':=s.toks) fp keep
  have hp:H s.heap.objs.size = none:=I.fresh
  have tp:h2.get? s.heap.objs.size = some { cls:=.type "tuple",data:=.seq #[u,v] }:=(sb.2 _ (Ne.symm (hlt q1))).trans z5
  have I2:Inv X pins σ (upd H s.heap.objs.size (.tup [x,y])) { s with heap:=h2 }:=I1.track hp (Heap.get?_none_of_le I.sz) (Nat.ne_of_gt I.lt)
   (fun n c e zz => by obtain ⟨v0,o0,h0,_⟩:=I.cell n c e; exact hlt h0 zz) (fun q hq zz => hlt (I.pin q hq).1 zz) ⟨by show 2≤sizeLine; decide,[u,v],.cons ru (.cons rv' .nil),_,tp,rfl,_,rfl⟩
  refine ⟨.ref s.heap.objs.size,_,I2,rfl,⟨_,x,y,hp,rfl,rfl,fun xs' ys' hx' hy' => ?_⟩,⟨z1',?_,⟨u,v,(sb.2 _ D.TOz).trans z2⟩,z3.extBut sb.extBut D.i1z,z4.extBut sb.extBut D.i2z⟩,fun c hc => ?_⟩
  ·rw [I.list_inj hx' hx,I.list_inj hy' hy]; exact ⟨ex,ey⟩
  ·exact (sb.2 _ D.TIz).trans (z7 _ _ D.TIz D.TITO D.TIi1 D.TIi2 q2)
  ·have hcn:=(hf c hc).1
   rw [upd_ne ?_]
   ·exact hcn
   ·simp only [List.mem_cons,List.not_mem_nil,or_false] at hc
    rcases hc with rfl | rfl | rfl | rfl | rfl
    ·exact hlt q1
    ·exact hlt q2
    ·exact hlt q3
    ·exact hlt e4
    ·exact hlt e5
 done:=by
  intro X hP hw hK hc i pins s σ H E I hf st hg
  subst hP hw hK
  obtain ⟨xs,ys,hx,hy,hend⟩:=hg
  obtain ⟨its,rv,p,_⟩:=I.list hx
  obtain ⟨jts,rw',p',_⟩:=I.list hy
  obtain ⟨q1,q2,⟨a,b,q3⟩,q4,q5⟩:=st
  have hl:=rv.length
  have hl':=rw'.length
  refine wpAny_pyNext_zip_end (I.ok.hd (hc rfl)) D q1 q2 q3 q4 q5 p.isList p'.isList (by simp; omega) fun h1 k => ⟨rfl,?_⟩
  refine I.turnedL (t':=s.toks) (ch:=[z,TO,i1,i2]) (fun c hc => hf c ?_) fun c o hc e => ?_
  ·simp only [List.mem_cons,List.not_mem_nil,or_false] at hc ⊢
   rcases hc with h | h | h | h <;> simp [h]
  ·simp only [List.mem_cons,List.not_mem_nil,or_false,not_or] at hc
   exact k c o hc.1 hc.2.1 hc.2.2.1 hc.2.2.2 e
 self:=fun _ _ _ _ _ st h => wpAny_pyIter_zip st.1 h
section
variable {X:Cx} {elts:List Expr} {kk:Nat} {tpos:Pos}
def iZip (K:PySem.W.Frag) (ta:TA):TI:=fun σ H R => ta σ H fun vs H1 => ∃ a b,vs = [.ref a,.ref b]∧(∃ xs,SqL K H1 a xs)∧(∃ ys,SqL K H1 b ys)∧R (Itz K a b) H1
theorem pi_zip {a b:Expr} {ta:TA} {p pos:Pos} (hcm:X.calm = true) (hg:Gl X "zip") (hm:X.mg "zip" = none) (ha:PA X [a,b] ta) (hs:starEach [a,b] X.env = [(false,eval a X.env),(false,eval b X.env)]:=by rfl) (hs2:starEach [b] X.env = [(false,eval b X.env)]:=by rfl) :
  PI X (.Tuple elts kk tpos) (.Call (.Name "zip" p) [a,b] [] pos) (iZip X.K ta):=by
 intro pins s σ H R I h
 refine Call_ (ld_blt I hg hm boot_zip (PyProof.Rows.callWith_type1 (thn (ha pos pins s σ H _ I h) fun us s1 ⟨vs,H1,I1,r1,q1⟩ => ?_) (by rw [hs,hs2]) (by rw [hs2]; rfl)))
 obtain ⟨l1,l2,e,⟨xs,hx⟩,⟨ys,hy⟩,q⟩:=q1
 subst e
 obtain ⟨u,v,rfl,ru,rv⟩:=vals2 r1
 cases ru
 cases rv
 obtain ⟨its,_,p1,_⟩:=I1.list hx
 obtain ⟨jts,_,p2,_⟩:=I1.list hy
 have a1:l1 < s1.heap.objs.size:=by obtain ⟨_,e,_⟩:=p1.isList; exact Heap.lt_size e
 have a2:l2 < s1.heap.objs.size:=by obtain ⟨_,e,_⟩:=p2.isList; exact Heap.lt_size e
 refine call_zip_2 p1.isList p2.isList fun h' z1 z2 z3 z4 z5 z6 k => wpAny_pyIter_zip (s:={ s1 with heap:=h' }) z1 ?_
 have I2:Inv X pins σ H1 { s1 with heap:=h' }:=I1.kept (t':=s1.toks) k
 refine ⟨s1.heap.objs.size + 4,[s1.heap.objs.size + 4,s1.heap.objs.size + 2,s1.heap.objs.size + 3,s1.heap.objs.size,s1.heap.objs.size + 1],_,_,H1,rfl,I2,⟨true,turn_zip _ _ _ _ _ l1 l2 (zipApart_new a1 a2),fun _ => hcm⟩,⟨z1,z2,⟨_,_,z3⟩,z4,z5⟩,fun c hc => ?_,q⟩
 have le:s1.heap.objs.size≤c:=by
  simp only [List.mem_cons,List.not_mem_nil,or_false] at hc
  rcases hc with rfl | rfl | rfl | rfl | rfl <;> omega
 exact I1.fpOk le (I1.hok.fresh le)
end
section
variable {X:Cx} {tg:Expr}
theorem for_zip {K:PySem.W.Frag} {a b:Addr} {xs ys:List V} {g:TG} {tb:TS} {D:Ends} {σ:St} {H:Hp} (Pv:Nat→St→Hp→Prop) (h0:Pv 0 σ H) (hl:∀ i σ H,i≤(xs.zip ys).length→Pv i σ H→SqL K H a xs∧SqL K H b ys)
  (hs:∀ i x y p σ H,(xs.zip ys)[i]? = some (x,y)→H p = none→Pv i σ H→g (.ref p) σ (upd H p (.tup [x,y])) fun σ2 H2 => tb { D with nx:=Pv (i + 1),ct:=Pv (i + 1),bk:=D.nx } σ2 H2) (hd:∀ σ H,Pv (xs.zip ys).length σ H→D.nx σ H) :
  ∃ W:Nat→Nat→St→Hp→Prop,(∃ m,W 0 m σ H)∧∀ i m σ H,W i m σ H →
   ((Itz K a b).stop i H∧D.nx σ H)∨((Itz K a b).go i H∧∃ N:St→Hp→Prop,(∀ σ' H',N σ' H'→∃ m',m' < m∧W (i + 1) m' σ' H')∧∀ x H',(Itz K a b).yld i H x H'→g x σ H' fun σ2 H2 => tb { D with nx:=N,ct:=N,bk:=D.nx } σ2 H2):=by
 refine ⟨fun i m σ H => m = (xs.zip ys).length - i∧i≤(xs.zip ys).length∧Pv i σ H,⟨(xs.zip ys).length,by simp,Nat.zero_le _,h0⟩,?_⟩
 rintro i m σ H ⟨rfl,hi,p⟩
 obtain ⟨qa,qb⟩:=hl i σ H hi p
 have hz:(xs.zip ys).length = min xs.length ys.length:=List.length_zip
 by_cases hlt:i < (xs.zip ys).length
 ·have h1:i < xs.length:=by omega
  have h2:i < ys.length:=by omega
  refine .inr ⟨⟨xs,ys,xs[i],ys[i],qa,qb,by simp [h1],by simp [h2]⟩,Pv (i + 1),fun σ' H' p' => ⟨(xs.zip ys).length - (i + 1),by omega,rfl,hlt,p'⟩,fun v H' yy => ?_⟩
  obtain ⟨t,x,y,ht,rfl,rfl,e⟩:=yy
  obtain ⟨ex,ey⟩:=e xs ys qa qb
  exact hs i x y t σ H (by simp [List.getElem?_zip_eq_some,ex,ey]) ht p
 ·obtain rfl:i = (xs.zip ys).length:=by omega
  exact .inl ⟨⟨xs,ys,qa,qb,by omega⟩,hd σ H p⟩
end
end L2
namespace L2
open PySem PySem.Spec PyProof.Rows
theorem b_int:bootBuiltins "int" = some (.type "int"):=by decide +kernel
theorem b_bool:bootBuiltins "bool" = some (.type "bool"):=by decide +kernel
theorem b_str:bootBuiltins "str" = some (.type "str"):=by decide +kernel
theorem b_list:bootBuiltins "list" = some (.type "list"):=by decide +kernel
theorem b_tuple:bootBuiltins "tuple" = some (.type "tuple"):=by decide +kernel
theorem b_isinstance:bootBuiltins "isinstance" = some (.builtin "isinstance"):=by decide +kernel
theorem b_len:bootBuiltins "len" = some (.builtin "len"):=by decide +kernel
section
variable {X:Cx} {tg:Expr}
end
section
variable {X:Cx}
theorem op_ne_nil (hu:X.A.units < cLine):OpR X (compareOp .NotEq) (fun x y H Q => ∃ a b xs,x = .ref a∧y = .ref b∧SqL X.K H a xs∧SqL X.K H b []∧Q (.bl (!xs.isEmpty)) H):=by
 intro pins s σ H x y v u Q I rx ry h
 obtain ⟨a,b,xs,rfl,rfl,ha,hb,q⟩:=h
 cases rx
 cases ry
 obtain ⟨its,rv,p,_⟩:=I.list ha
 obtain ⟨jts,rw',p',_⟩:=I.list hb
 cases rw'
 cases rv with
 | nil => exact EqBoolInt.of_rcne (SeqAt.RcNeAt.lists (e:=fun _ => true) p.isList p'.isList rfl hu (fun j h1 => absurd h1 (by simp))) ⟨.bl false,H,I,rfl,q⟩
 | cons r t => exact EqBoolInt.of_rcne (SeqAt.RcNeAt.lists_lengths p.isList p'.isList (by simp) hu) ⟨.bl true,H,I,rfl,q⟩
end
theorem cs_nil {X:Cx} {scope:Scope} {N:List Str} (hN:X.N = N) (hk:scope.kind = .function) (h1:(scope.names.all fun y => y.2 != .free && y.2 != .cell) = true) (h2:(scope.names.all fun y => y.2 != .local || scope.names.lookup y.1 == some .local) = true)
  (h3:(N.all fun x => scope.names.lookup x != some .local) = true):CompScope X scope [] where
 clos:=closureFor_none fun y hy => by
  have:=List.all_eq_true.mp h1 y hy
  simp only [Bool.and_eq_true,bne_iff_ne] at this
  exact this.1
 kind:=hk
 nocell:=fun y hy => by
  have:=List.all_eq_true.mp h1 y hy
  simp only [Bool.and_eq_true,bne_iff_ne] at this
  exact this.2
 names:=fun y hy e => by
  have:=List.all_eq_true.mp h2 y hy
  rw [e] at this
  simpa using this
 sub:=fun x c e => by cases e
 has:=fun x e => by
  have:=List.all_eq_true.mp h1 _ (lookup_mem e)
  simp at this
 apart:=fun x hx => by
  have:=List.all_eq_true.mp h3 x (hN▸hx)
  simpa using this
 outer:=fun x e => by
  have:=List.all_eq_true.mp h1 _ (lookup_mem e)
  simp at this
theorem cs_one {X:Cx} {scope:Scope} {N:List Str} {n:Str} {a:Addr} (hN:X.N = N) (hk:scope.kind = .function) (hcl:closureFor scope X.env = pure [(n,a)]) (hsub:X.env.cells.lookup n = some a) (hout:X.env.kindOf n = some .cell)
  (h1:(scope.names.all fun y => y.2 != .cell && (y.2 != .free || y.1 == n)) = true) (h2:(scope.names.all fun y => y.2 != .local || scope.names.lookup y.1 == some .local) = true)
  (h3:(N.all fun x => scope.names.lookup x != some .local) = true):CompScope X scope [(n,a)] where
 clos:=hcl
 kind:=hk
 nocell:=fun y hy => by
  have:=List.all_eq_true.mp h1 y hy
  simp only [Bool.and_eq_true,bne_iff_ne] at this
  exact this.1
 names:=fun y hy e => by
  have:=List.all_eq_true.mp h2 y hy
  rw [e] at this
  simpa using this
 sub:=fun x c e => by
  rw [List.lookup_cons] at e
  split at e
  ·rename_i q
   obtain rfl:x = n:=by simpa using q
   cases e; exact hsub
  ·cases e
 has:=fun x e => by
  have:=List.all_eq_true.mp h1 _ (lookup_mem e)
  simp at this
  exact ⟨a,by rw [this]; simp [List.lookup_cons]⟩
 apart:=fun x hx => by
  have:=List.all_eq_true.mp h3 x (hN▸hx)
  simpa using this
 outer:=fun x e => by
  have:=List.all_eq_true.mp h1 _ (lookup_mem e)
  simp at this
  exact .inl (this▸hout)
theorem comp_pure {K:PySem.W.Frag} {a:Addr} {xs:List V} {g:TG} {tc:TT} {te:TE} {k:Nat} {σ:St} {H:Hp} {Q:VK} (p:V→Bool) (f:V→V) (hl:SqL K H a xs) (hz:xs.length≤sizeLine)
  (step:∀ x∈xs,∀ (H':Hp) (Qy:VK) (Qn:Hp→Prop),Same H H'→(p x = true→Qy (f x) H')→(p x = false→Qn H')→g x (σ ++ List.replicate k none) H' fun σ2 H2 => (∃ zs,σ2 = σ ++ zs∧zs.length = k)∧tc σ2 H2 fun b H3 => if b = true then te σ2 H3 Qy else Qn H3)
  (q:∀ D,H D = none→Q (.ref D) (upd H D (.lst ((xs.filter p).map f)))) :
  compT k g tc te σ Q (Itl K a) H:=by
 intro D hD
 have sm:∀ ys,Same H (upd H D (.lst ys)):=fun ys b o e => by rw [upd_ne (ne_of_none e hD)]; exact e
 refine ⟨fun i m ys H' => m = xs.length - i∧i≤xs.length∧ys = ((xs.take i).filter p).map f∧H' = upd H D (.lst ys),⟨xs.length,by simp,Nat.zero_le _,by simp,rfl⟩,?_⟩
 rintro i m ys H' ⟨rfl,hi,rfl,rfl⟩
 refine ⟨upd_same,?_⟩
 have q1:SqL K (upd H D (.lst (((xs.take i).filter p).map f))) a xs:=(sm _).seq hl
 by_cases hlt:i < xs.length
 ·refine .inr ⟨⟨xs,xs[i],q1,by simp [hlt]⟩,?_,fun x H2 y => ?_⟩
  ·have:=List.length_filter_le p (xs.take i)
   rw [List.length_map]
   simp only [List.length_take] at this
   omega
  ·obtain ⟨rfl,y⟩:=y
   have hx:xs[i]? = some x:=y xs q1
   have hm:x∈xs:=List.mem_of_getElem? hx
   have et:(xs.take (i + 1)).filter p = (xs.take i).filter p ++ (if p x then [x] else []):=take_succ_filter p xs i x hx
   refine step x hm _ _ _ (sm _) (fun hp => ⟨upd_same,xs.length - (i + 1),by omega,rfl,hlt,?_,?_⟩) fun hp => ⟨xs.length - (i + 1),by omega,rfl,hlt,?_,rfl⟩
   ·rw [et,hp]; simp
   ·rw [upd_upd]
   ·rw [et,hp]; simp
 ·obtain rfl:i = xs.length:=by omega
  refine .inl ⟨⟨xs,q1,Nat.le_refl _⟩,?_⟩
  rw [List.take_length]
  exact q D hD
end L2
namespace L2
open PySem PySem.Spec PyProof.Rows PySem.W
structure ErrF (K:PySem.W.Frag) (C:Addr):Prop where
 ex:excIn K C bmV "ValueError.__new__" = true
 ga:findIn K (.ref C) "__getattribute__" = some (some (.builtin "BaseException.__getattribute__"))
 gt:findIn K (.ref C) "__getattr__" = some none
 cl:findIn K (.ref C) "__class__" = some (some (.builtin "object.__class__"))
 ge:specialIn K (.builtin "object.__class__") "__get__" = some (some (.builtin "getset_descriptor.__get__"))
 tk:takesIn K (.builtin "object.__class__") = some true
 mo:mroIn K C (.type "object") = some true
 mb:mroIn K C (.type "BaseException") = some true
section
variable {prog:Program} {w:World} {A:Around} {E:Value→Shared→Prop} {s:Shared} {K:PySem.W.Frag} {x C:Addr}
theorem exc_ty {M:Model} {h:Heap} (p:IsExc x C h):Looks M h (typeOf (.ref x)) (.ref C):=by
 obtain ⟨o,vs,h1,h2,_⟩:=p
 exact h2▸(Looks.ld h1).andThen .now
theorem exc_find {M:Model} {h:Heap} (F:ErrF K C) (X:K.In h):Looks M h (Builtin.ObjectAttr.find (.ref x) (.ref C) "__class__") (.bind (.builtin "getset_descriptor.__get__") (.builtin "object.__class__")):=by
 have L1:=looks_findIn (M:=M) X F.cl
 have L2:=looks_specialIn (M:=M) X F.ge
 have L3:=looks_takesIn (M:=M) X F.tk
 exact L1.andThen (L2.andThen ((show Looks M h (Builtin.ObjectAttr.dataDescriptor? (some (.builtin "object.__class__")) (some (.builtin "getset_descriptor.__get__"))) (some (.builtin "getset_descriptor.__get__",.builtin "object.__class__")) from L3.andThen .now).andThen (Looks.tag .now)))
theorem exc_get {R:Result→Shared→Prop} (F:ErrF K C) (X:K.In s.heap) (p:IsExc x C s.heap) (h:R (.ok (.ret (.ref C))) s) :
  codeAny (model prog w) A (.call (.builtin "getset_descriptor.__get__") ⟨[.builtin "object.__class__",.ref x,.ref C],[]⟩) R s:=by
 obtain ⟨hh,g,dr,t,os⟩:=s
 have L0:=exc_ty (M:=model prog w) p
 have L1:=looks_mroIn (M:=model prog w) X F.mo
 refine codeAny_call_builtin KF.slot_gs.plain KF.entry_gs
  (KF.slot_gs.check _ _ _ _ _ _ _ _ KF.type_class (KF.args_gs _ _ _) ?_)
 unfold Builtin.«getset_descriptor.__get__» Builtin.Getset_descriptor.descrGet
 rw [dga_obj]
 refine wpAny_bind (wpAny_pure ?_)
 unfold Builtin.Getset_descriptor.descrGetter Builtin.Getset_descriptor.descrCheckInstance Builtin.Getset_descriptor.descrNameAndClass isInstance
 simp only [KF.owner_class]
 repeat lk
 refine ⟨Code.quiet_builtin _ (by decide +kernel),codeAny_builtin KF.entry_class ?_⟩
 unfold Builtin.«object.__class__» shownTypeOf
 repeat lk
 exact h
theorem exc_ent {tk:Tok} {Q:Fin→Shared→Prop} (F:ErrF K C) (X:K.In s.heap) (p:IsExc x C s.heap) (h:Q (.done (.ret (.ref C))) s) :
  wpAny (model prog w) A (Builtin.«object.__getattribute__» ⟨[.ref x,.str "__class__" tk],[]⟩) Q E s:=by
 obtain ⟨hh,g,dr,t,os⟩:=s
 have L0:=exc_ty (M:=model prog w) p
 have L3:=exc_find (M:=model prog w) (x:=x) F X
 unfold Builtin.«object.__getattribute__» Builtin.ObjectAttr.bindTo
 repeat (any_goals (first | with_reducible assumption | with_reducible refine L0.at ?_ | with_reducible refine L3.at ?_ | wp_step))
 refine exc_get F X p ?_
 repeat (any_goals (first | with_reducible assumption | wp_step))
theorem exc_ga {tk:Tok} {R:Result→Shared→Prop} (F:ErrF K C) (X:K.In s.heap) (p:IsExc x C s.heap) (h:R (.ok (.ret (.ref C))) s) :
  codeAny (model prog w) A (.call (.builtin "BaseException.__getattribute__") ⟨[.ref x,.str "__class__" tk],[]⟩) R s:=by
 have L4:Looks (model prog w) s.heap (isInstance (.ref x) (.type "BaseException")) true:=by
  unfold isInstance
  exact (exc_ty p).andThen (looks_mroIn X F.mb)
 have hk:builtinKind "BaseException.__getattribute__" = some .slot:=by decide +kernel
 have hs:splitId "BaseException.__getattribute__" = some ("BaseException","__getattribute__"):=by decide +kernel
 refine codeAny_call_builtin PySem.F.excAttr_ValueError.ga.plain PySem.F.entry_bexc_ga ?_
 have ha:=PySem.F.args_bexc_ga (.ref x) (.str "__class__" tk)
 generalize "BaseException.__getattribute__" = i at hk hs ha ⊢
 refine check_slot (self:=.ref x) (rest:=[.str "__class__" tk]) (kw:=[]) hk hs L4 ha ?_
 exact exc_ent F X p h
theorem exc_by {tk:Tok} {fill expr:Bool} {Q:Value→Shared→Prop} (F:ErrF K C) (X:K.In s.heap) (p:IsExc x C s.heap) (h:Q (.ref C) s) :
  wpAny (model prog w) A (getAttrBy (.ref x) (.str "__class__" tk) fill expr) Q E s:=by
 obtain ⟨hh,g,dr,t,os⟩:=s
 have L0:=exc_ty (M:=model prog w) p
 have L1:=looks_findIn (M:=model prog w) X F.ga
 have L2:=looks_findIn (M:=model prog w) X F.gt
 have f3:=PySem.F.excAttr_ValueError.ga.bind (.ref x)
 have hx0:(expr && onTheHeap (Value.builtin "BaseException.__getattribute__")) = false:=by cases expr <;> rfl
 have hx2:(Value.builtin "BaseException.__getattribute__" == Value.builtin "object.__getattribute__") = false:=by decide +kernel
 have hx1:(onTheHeap (Value.ref C) && Value.builtin "BaseException.__getattribute__" == Value.builtin "object.__getattribute__") = false:=by rw [hx2]; rfl
 repeat (any_goals (first | with_reducible assumption | with_reducible refine L0.at ?_ | with_reducible refine L1.at ?_ | with_reducible refine L2.at ?_ | wp_step))
 refine exc_ga F X p ?_
 repeat (any_goals (first | with_reducible assumption | wp_step))
theorem exc_class {Q:Option Value→Shared→Prop} (F:ErrF K C) (X:K.In s.heap) (p:IsExc x C s.heap) (h:Q (some (.ref C)) { s with toks:=s.toks + 1 }):wpAny (model prog w) A (getAttr? (.ref x) "__class__") Q E s:=by
 obtain ⟨hh,g,dr,t,os⟩:=s
 unfold getAttr? getAttrBy?
 repeat (any_goals (first | with_reducible assumption | with_reducible refine exc_by F X p ?_ | wp_step))
end
section
variable {K:PySem.W.Frag} {x C:Addr}
theorem kitx_exc (F:ErrF K C):KitX K (.ref x) (.ref C) (IsExc x C) where
 ty:=fun M h X p => exc_ty p
 it:=fun M h X p => by
  obtain ⟨nm,qn,N,bs,bm,hdct,sn,sub,ab,col,dd,k0,k1,k2,k3,k5,mN,hC,_⟩:=exc_cls X F.ex
  intro A Q E s k q
  unfold isType loadHead
  exact wpAny_bind (wpAny_loadPart (k _ _ hC) (wpAny_pure q))
 ne:=fun h tp dd its n sl X htp => by
  obtain ⟨nm,qn,N,bs,bm,hdct,sn,sub,ab,col,dd,k0,k1,k2,k3,k5,mN,hC,_⟩:=exc_cls X F.ex
  refine Bool.eq_false_iff.mpr fun q => ?_
  obtain rfl:C = tp:=Value.ref.inj (beq_iff_eq.mp q)
  have z:=hC.symm.trans htp
  have z2:=congrArg Obj.cls (Option.some.inj z)
  exact absurd (Value.type.inj z2) (by decide)
 ca:=fun X p k => exc_class F X p k
end
section
variable {X:Cx}
theorem exc_in {pins:List (Addr × Obj)} {σ:St} {H:Hp} {s:Shared} {a C:Addr} (I:Inv X pins σ H s) (e:Exc H a C):IsExc a C s.heap:=by
 obtain ⟨o,e⟩:=e
 exact (I.hok a _ e).2.1
theorem call_isiE:CallR X (.builtin "isinstance") (fun xs H Q => ∃ a C c cv b,xs = [.ref a,c]∧Exc H a C∧ErrF X.K C∧ClsV c cv∧kitOne X.K (.ref C) cv = some b∧Q (.bl b) H):=by
 intro pins s σ H xs us Q I r h
 obtain ⟨a,C,c,cv,b,rfl,ea,F,hc,e,q⟩:=h
 obtain ⟨u,w,rfl,ru,rc⟩:=vals2 r
 obtain rfl:=hc.val rc
 cases ru
 exact kia_one (kitx_exc F) I.kIn (exc_in I ea) e (fun z => nomatch z) fun tk => ⟨.bl b,H,I.tok tk,rfl,q⟩
theorem refs_of:∀ {cs:List Addr} {us:List Value},Vals (cs.map V.ref) us→us = cs.map Value.ref
 | [],_,.nil => rfl
 | _ :: _,_,.cons r t => by cases r; rw [refs_of t]; rfl
theorem call_isiT:CallR X (.builtin "isinstance") (fun xs H Q => ∃ (a C p:Addr) (cs:List Addr) (b:Bool),xs = [.ref a,.ref p]∧Exc H a C∧ErrF X.K C∧H p = some (.tup (cs.map V.ref))∧kitAny X.K (.ref C) (cs.map Value.ref) = some b∧Q (.bl b) H):=by
 intro pins s σ H xs us Q I r h
 obtain ⟨a,C,p,cs,b,rfl,ea,F,hp,e,q⟩:=h
 obtain ⟨u,w,rfl,ru,rc⟩:=vals2 r
 cases ru
 cases rc
 obtain ⟨_,its,rv,⟨c2,dd,d2,sl⟩,h1,h2,n,h3⟩:=(show ObjOk X.prog X.w H s.heap p (.tup (cs.map V.ref)) from I.hok p _ hp)
 simp only at h2 h3
 subst h2 h3
 obtain rfl:=refs_of rv
 exact kia_tup (kitx_exc F) I.kIn (exc_in I ea) h1 e (fun z => nomatch z) fun tk => ⟨.bl b,H,I.tok tk,rfl,q⟩
theorem call_isiK {K:PySem.W.Frag} (h:X.K = K):CallR X (.builtin "isinstance") (fun xs H Q => ∃ x c t cv b,xs = [x,c]∧TyOf K H x t∧ClsV c cv∧PySem.W.kitOne K t cv = some b∧Q (.bl b) H):=by
 subst h; exact call_isi
theorem call_isiEK {K:PySem.W.Frag} (h:X.K = K):CallR X (.builtin "isinstance") (fun xs H Q => ∃ a C c cv b,xs = [.ref a,c]∧Exc H a C∧ErrF K C∧ClsV c cv∧kitOne K (.ref C) cv = some b∧Q (.bl b) H):=by
 subst h; exact call_isiE
theorem call_isiTK {K:PySem.W.Frag} (h:X.K = K):CallR X (.builtin "isinstance") (fun xs H Q => ∃ (a C p:Addr) (cs:List Addr) (b:Bool),xs = [.ref a,.ref p]∧Exc H a C∧ErrF K C∧H p = some (.tup (cs.map V.ref))∧kitAny K (.ref C) (cs.map Value.ref) = some b∧Q (.bl b) H):=by
 subst h; exact call_isiT
theorem ix_tupK {K:PySem.W.Frag} (h:X.K = K):IxR X (rIxT K):=by
 subst h; exact ix_tup
end
end L2
namespace L2
open PySem PySem.Spec PyProof.Rows PySem.W
section
variable {X:Cx}
end
end L2
namespace L2
open PySem PySem.Spec PyProof.Rows PySem.W
section
variable {X:Cx} {tg:Expr}
end
end L2
namespace L2
open PySem PySem.Spec PyProof.Rows PySem.W
section
variable {X:Cx} {e:Expr} {te:TE} {pos p2 q1 q2:Pos} {j1 j2:Nat}
end
end L2
namespace L2
open PySem PySem.Spec PyProof.Rows PySem.W
section
variable {X:Cx}
end
section
variable {X:Cx}
end
end L2
namespace Wd
open PySem L2 PySem.NumText PySem.W
def figs:List Nat→List Nat
 | 45 :: r => r
 | l => l
theorem figs_pos {l:List Nat} (h:l.head?≠some 45):figs l = l:=by
 unfold figs
 split
 ·exact absurd rfl h
 ·rfl
def isDig (c:Nat):Bool:=decide (48≤c) && decide (c≤57)
def isNumL (l:List Nat):Bool:=decide (1≤(figs l).length) && decide ((figs l).length≤40) && (figs l).all isDig && !((figs l).head? == some 48 && !(l == [48]))
def numL (l:List Nat):Int:=if l.head? = some 45 then -((digitsVal (figs l):Nat):Int) else ((digitsVal l:Nat):Int)
theorem dv_snoc (cs:List Nat) (c:Nat):digitsVal (cs ++ [c]) = digitsVal cs * 10 + (c - 48):=by
 unfold digitsVal; rw [List.foldl_append]; rfl
theorem dchar {d:Nat} (h:d < 10):(Nat.digitChar d).toNat = 48 + d:=by
 match d,h with
 | 0,_ | 1,_ | 2,_ | 3,_ | 4,_ | 5,_ | 6,_ | 7,_ | 8,_ | 9,_ => rfl
def Lg (n:Int):Prop:=n.natAbs.log2 < 1920
theorem lg_of {n:Int} (h:n.natAbs < 10 ^ 42):Lg n:=by
 unfold Lg
 by_cases z:n.natAbs = 0
 ·rw [z]; decide
 ·refine (Nat.log2_lt z).mpr (Nat.lt_of_lt_of_le h ?_)
  exact Nat.le_trans (show (10:Nat) ^ 42≤2 ^ 200 by decide) (Nat.pow_le_pow_right (by decide) (by decide))
def tx (n:Int):Str:=PySem.Str.ofString (toString n)
end Wd
namespace L2
open PySem PySem.Spec PyProof.Rows
end L2
namespace L2
open PySem PySem.Spec PyProof.Rows PySem.W
theorem all_same {α:Type} [DecidableEq α] (d:α) (xs ys:List α):((List.range (min xs.length ys.length)).all (fun j => decide (xs.getD j d = ys.getD j d)) && xs.length == ys.length) = decide (xs = ys):=by
 rw [Bool.eq_iff_iff,Bool.and_eq_true,List.all_eq_true,decide_eq_true_iff,beq_iff_eq]
 constructor
 ·rintro ⟨h,hl⟩
  refine List.ext_getElem hl fun j h1 h2 => ?_
  have:=of_decide_eq_true (h j (List.mem_range.mpr (by omega)))
  rwa [List.getD_eq_getElem?_getD,List.getD_eq_getElem?_getD,List.getElem?_eq_getElem h1,List.getElem?_eq_getElem h2] at this
 ·rintro rfl
  exact ⟨fun j _ => decide_eq_true rfl,rfl⟩
section
variable {X:Cx} {pins:List (Addr × Obj)} {σ:St} {H:Hp} {s:Shared}
end
section
variable {X:Cx} {K:PySem.W.Frag}
end
end L2
namespace Wd
open PySem L2 PySem.NumText PySem.W
theorem sg (n:Nat):(tx (n:Int)).cps.toList = (Nat.toDigits 10 n).map Char.toNat:=KIN.signs_num n
theorem dg_char {c:Char} (h:c.isDigit = true):48≤c.toNat∧c.toNat≤57:=by
 unfold Char.isDigit at h
 simp only [Bool.and_eq_true,decide_eq_true_eq] at h
 exact ⟨UInt32.le_iff_toNat_le.mp h.1,UInt32.le_iff_toNat_le.mp h.2⟩
theorem sg_dig (n:Nat):AllDigits ((Nat.toDigits 10 n).map Char.toNat):=fun x hx => by
 obtain ⟨c,hc,rfl⟩:=List.mem_map.mp hx
 exact dg_char (Nat.isDigit_of_mem_toDigits (by decide) (by decide) hc)
theorem sg_val (n:Nat):digitsVal ((Nat.toDigits 10 n).map Char.toNat) = n:=by
 induction n using Nat.strongRecOn with
 | _ n ih =>
  rw [Nat.toDigits_eq_if (by decide)]
  split
  ·rename_i h
   rw [List.map_singleton,dchar h]
   show 0 * 10 + (48 + n - 48) = n
   omega
  ·rename_i h
   rw [List.map_append,List.map_singleton,dv_snoc,ih (n / 10) (by omega),dchar (by omega)]
   omega
theorem sg_lead (n:Nat):((Nat.toDigits 10 n).map Char.toNat).head? = some 48→n = 0:=by
 induction n using Nat.strongRecOn with
 | _ n ih =>
  rw [Nat.toDigits_eq_if (by decide)]
  split
  ·rename_i h
   rw [List.map_singleton,dchar h]
   intro e
   have:=Option.some.inj e
   omega
  ·rename_i h
   intro e
   rw [List.map_append,List.head?_append] at e
   cases q:(List.map Char.toNat (Nat.toDigits 10 (n / 10))).head? with
   | none =>
    rw [List.head?_eq_none_iff,List.map_eq_nil_iff] at q
    exact absurd q Nat.toDigits_ne_nil
   | some c =>
    rw [q] at e
    have e2:c = 48:=Option.some.inj e
    have:=ih (n / 10) (by omega) (by rw [q,e2])
    omega
theorem sg_num {n:Nat} (h:n < 10 ^ 40):isNumL (tx (n:Int)).cps.toList = true∧numL (tx (n:Int)).cps.toList = n:=by
 have hd:=sg_dig n
 have hne:(Nat.toDigits 10 n).map Char.toNat≠[]:=fun e => Nat.toDigits_ne_nil (List.map_eq_nil_iff.mp e)
 have hf:((Nat.toDigits 10 n).map Char.toNat).head?≠some 45:=fun e => by
  obtain ⟨r,hr⟩:∃ r,(Nat.toDigits 10 n).map Char.toNat = 45 :: r:=by
   cases q:(Nat.toDigits 10 n).map Char.toNat with
   | nil => rw [q] at e; cases e
   | cons a r => rw [q] at e; cases e; exact ⟨r,rfl⟩
  have:=hd 45 (by rw [hr]; exact .head _)
  omega
 have hl:((Nat.toDigits 10 n).map Char.toNat).length≤40:=by rw [List.length_map]; exact (Nat.length_toDigits_le_iff (by decide) (by decide)).mpr h
 rw [sg]
 refine ⟨?_,?_⟩
 ·unfold isNumL
  rw [figs_pos hf]
  have h1:1≤((Nat.toDigits 10 n).map Char.toNat).length:=List.length_pos_iff.mpr hne
  have h3:((Nat.toDigits 10 n).map Char.toNat).all isDig = true:=List.all_eq_true.mpr fun c hc => by
   have:=hd c hc
   unfold isDig
   rw [decide_eq_true this.1,decide_eq_true this.2]; rfl
  rw [decide_eq_true h1,decide_eq_true hl,h3]
  by_cases z:n = 0
  ·subst z; decide
  ·have:(((Nat.toDigits 10 n).map Char.toNat).head? == some 48) = false:=by
    rw [beq_eq_false_iff_ne]; exact fun e => z (sg_lead n e)
   rw [this]; rfl
 ·unfold numL
  rw [if_neg hf,sg_val]
end Wd
namespace L2
open PySem PySem.Spec PyProof.Rows
section
variable {M:Model} {A:Around} {E:Value→Shared→Prop} {s:Shared} {base:Heap} {env:Env} {outer:List Env} {L e:Addr} {cls:Value} {a0:Value × Value}
end
section
variable {X:Cx} {pins:List (Addr × Obj)} {σ:St} {H H':Hp} {s s':Shared} {ea C:Addr} {a0:Value × Value} {h':Heap} {ch fp:List Addr}
end
section
variable {P:Program} {w:World} {K:PySem.W.Frag} {mg:Str→Option Value} {base:Heap} {N ps:List Str} {qual:Str} {scope:Scope} {f:Addr} {cd:Value} {A:Around} {outer:List Env} {s:Shared} {H:Hp} {E:XK}
end
section
variable {X:Cx} {scope:Scope} {cl:List (Str × Addr)} {own:List Str} {pins pn pl:List (Addr × Obj)} {σ:St} {H H2:Hp} {s s2:Shared} {fp:List Addr} {C:Addr} {xe:Value→Shared→Prop}
end
section
variable {X:Cx} {tg elt iter:Expr} {ifs:List Expr} {scope:Scope} {cl:List (Str × Addr)} {own:List Str} {wi:TI} {g:TG} {tc:TT} {te:TE} {pos:Pos}
end
end L2
namespace L2
open PySem PySem.Spec PyProof.Rows
section
variable {prog:Program} {w:World} {A:Around} {E:Value→Shared→Prop} {s:Shared} {z TI TO i1 i2 i3 l1 l2 l3:Addr} {xs ys zs:Array Value} {k:Nat}
end
section
variable {X:Cx} {elts:List Expr} {kk:Nat} {tpos:Pos}
end
end L2
namespace L2
open PySem PySem.Spec PyProof.Rows
section
variable {X:Cx} {body:List Stmt} {b0:Stmt} {suite:List Stmt} {cn:Str} {np hpos pos:Pos} {C0:Addr} {tb:XK→TS} {th:TS}
end
section
variable {prog:Program} {w:World} {A:Around} {E:Value→Shared→Prop} {s:Shared}
end
section
variable {X:Cx}
end
end L2
namespace L2
open PySem PySem.Spec PyProof.Rows
abbrev Cx.blkN (X:Cx) (N0:List Str) (scope:Scope) (cl:List (Str × Addr)) (C:Addr) (own:List Str) (s:Shared) (H:Hp) (fp:List Addr) (pins:List (Addr × Obj)):Cx :=
 { X.blk scope cl C own s H fp pins with N:=N0 ++ own }
structure CompScopeN (X:Cx) (N0:List Str) (scope:Scope) (cl:List (Str × Addr)):Prop where
 clos:closureFor scope X.env = pure cl
 kind:scope.kind = .function
 nocell:∀ y∈scope.names,y.2≠.cell
 names:∀ y∈scope.names,y.2 = .local→scope.names.lookup y.1 = some .local
 sub:∀ x c,cl.lookup x = some c→X.env.cells.lookup x = some c
 has:∀ x,scope.names.lookup x = some .free→∃ c,cl.lookup x = some c
 outer:∀ x,scope.names.lookup x = some .free→X.env.kindOf x = some .cell∨X.env.kindOf x = some .free
 lenN:N0.length = X.N.length
 nm:∀ (i:Nat) (x:Str),N0[i]? = some x→(X.N[i]? = some x∧scope.names.lookup x≠some .local)∨scope.names.lookup x = none
theorem cs_nilN {X:Cx} {N0:List Str} {scope:Scope} {N:List Str} (hN:X.N = N) (hk:scope.kind = .function) (h1:(scope.names.all fun y => y.2 != .free && y.2 != .cell) = true) (h2:(scope.names.all fun y => y.2 != .local || scope.names.lookup y.1 == some .local) = true)
  (hl:N0.length = N.length) (h3:((N0.zip N).all fun y => (y.1 == y.2 && scope.names.lookup y.1 != some .local) || scope.names.lookup y.1 == none) = true):CompScopeN X N0 scope [] where
 clos:=closureFor_none fun y hy => by
  have:=List.all_eq_true.mp h1 y hy
  simp only [Bool.and_eq_true,bne_iff_ne] at this
  exact this.1
 kind:=hk
 nocell:=fun y hy => by
  have:=List.all_eq_true.mp h1 y hy
  simp only [Bool.and_eq_true,bne_iff_ne] at this
  exact this.2
 names:=fun y hy e => by
  have:=List.all_eq_true.mp h2 y hy
  rw [e] at this
  simpa using this
 sub:=fun x c e => by cases e
 has:=fun x e => by
  have:=List.all_eq_true.mp h1 _ (lookup_mem e)
  simp at this
 outer:=fun x e => by
  have:=List.all_eq_true.mp h1 _ (lookup_mem e)
  simp at this
 lenN:=by rw [hN]; exact hl
 nm:=fun i x e => by
  have hi:i < N.length:=by rw [← hl]; exact (List.getElem?_eq_some_iff.mp e).1
  have hz:(N0.zip N)[i]? = some (x,N[i]):=by rw [List.getElem?_zip_eq_some]; exact ⟨e,List.getElem?_eq_getElem hi⟩
  have:=List.all_eq_true.mp h3 _ (List.mem_of_getElem? hz)
  simp only [Bool.or_eq_true,Bool.and_eq_true,beq_iff_eq,bne_iff_ne] at this
  rcases this with ⟨q1,q2⟩ | q
  ·exact .inl ⟨by rw [hN,List.getElem?_eq_getElem hi,← q1],q2⟩
  ·exact .inr q
section
variable {X:Cx} {scope:Scope} {cl:List (Str × Addr)} {own N0:List Str} {pins:List (Addr × Obj)} {σ:St} {H2 H3:Hp} {s2:Shared} {fp:List Addr} {C:Addr} {h1:Heap}
theorem blkN_in (S:CompScopeN X N0 scope cl) (I2:Inv X pins σ H2 s2) (f2:∀ b∈fp,FpOk X pins H2 b) (hlt:∀ b∈fp,b < s2.heap.objs.size) (hC:s2.heap.objs.size≤C) {m:Str→Option Value} (hns:h1.Ns C m)
  (keep:∀ b o,s2.heap.get? b = some o→h1.get? b = some o) (hH:∀ b o,s2.heap.get? b = some o→H2 b = none→H3 b = none) (un:Un (frs X.stack) fp H2 H3 s2.heap h1) (hok:HOk X.prog X.w H3 h1) (hCf:H3 C = none) {tk:Nat} :
  Inv (X.blkN N0 scope cl C own s2 H2 fp pins) [] (σ ++ List.replicate own.length none) H3 { s2 with heap:=h1,toks:=tk }:=by
 have neC:∀ b o,s2.heap.get? b = some o→b≠C:=fun b o e => Nat.ne_of_lt (Nat.lt_of_lt_of_le (Heap.lt_size e) hC)
 have kof:∀ x,(compEnvC scope cl C X.env).kindOf x = (scope.names.lookup x).map fun k => if (k == NameKind.free && X.env.scope.kind == .function && X.env.kindOf x == some .cell) then NameKind.cell else k:=fun x => lookup_relab
 have isfree:∀ x,((compEnvC scope cl C X.env).kindOf x = some .cell∨(compEnvC scope cl C X.env).kindOf x = some .free)→scope.names.lookup x = some .free:=fun x hx => by
  rw [kof x] at hx
  cases q:scope.names.lookup x with
  | none => rw [q] at hx; rcases hx with z | z <;> cases z
  | some k =>
   rw [q] at hx
   have nc:=S.nocell _ (lookup_mem q)
   cases k <;> simp_all
 refine ⟨⟨I2.ok.mod,S.kind,I2.ok.glob,I2.ok.blt,hC,fun x y c e1 e2 => I2.ok.inj x y c (S.sub x c e1) (S.sub y c e2),fun x hx => S.has x (isfree x hx),fun x c z _ => (by cases z),I2.ok.hd,I2.ok.frames,.inl rfl,
  fun b hb => ⟨Nat.ne_of_lt (Nat.lt_of_lt_of_le (hlt b hb) hC),fun x c e => (f2 b hb).2.2.2.2.1 x c (S.sub x c e)⟩,fun b o e => ⟨(I2.bs b o e).1,(I2.bs b o e).2⟩,Nat.le_trans I2.ok.bsz I2.sz,fun b o e hb => ?_,fun b hb => stk_no I2 (f2 b hb).2.1 (f2 b hb).2.2.1,I2.stack,I2.stkFree⟩,
  rfl,I2.bare,un,⟨m,hns,fun i x v e1 e2 e3 => ?_⟩,fun x c e => ?_,hCf,fun x c e => ?_,fun p hp => ?_,hok,?_,I2.hn.mono un.frzs⟩
 ·rcases (f2 b hb).2.2.2.1 with z | z
  ·exact I2.ok.noex b o e z
  ·exact absurd (Nat.lt_of_lt_of_le (Nat.lt_of_lt_of_le (Heap.lt_size e) I2.ok.bsz) z) (Nat.lt_irrefl _)
 ·
  have hi:i < σ.length:=by
   apply Classical.byContradiction
   intro hn
   rw [List.getElem?_append_right (by omega),List.getElem?_replicate] at e2
   split at e2 <;> cases e2
  rw [List.getElem?_append_left hi] at e2
  have hi2:i < N0.length:=by rw [S.lenN,← I2.len]; exact hi
  have e0':N0[i]? = some x:=by rw [← List.getElem?_append_left (l₂:=own) hi2]; exact e1
  have hnm:=S.nm i x e0'
  have e3':(compEnvC scope cl C X.env).kindOf x = some .local∨(compEnvC scope cl C X.env).kindOf x = some .cell∨(compEnvC scope cl C X.env).kindOf x = some .free:=e3
  have hnm:X.N[i]? = some x∧scope.names.lookup x≠some .local:=hnm.resolve_right fun z => by
   have k0:=kof x
   rw [z] at k0
   rcases e3' with q | q | q <;> (rw [k0] at q; cases q)
  have e1':X.N[i]? = some x:=hnm.1
  have nl:(compEnvC scope cl C X.env).kindOf x≠some .local:=fun z => by
   rw [kof x] at z
   cases q:scope.names.lookup x with
   | none => rw [q] at z; cases z
   | some k =>
    rw [q,Option.map_some] at z
    have na:=hnm.2
    rw [q] at na
    cases k <;> first
     | exact na rfl
     | (have z':=Option.some.inj z; split at z' <;> cases z')
  have hcf:(compEnvC scope cl C X.env).kindOf x = some .cell∨(compEnvC scope cl C X.env).kindOf x = some .free:=e3'.resolve_left nl
  obtain ⟨c,hc⟩:=S.has x (isfree x hcf)
  obtain ⟨m0,hn0,hl0⟩:=I2.loc
  have hcX:=S.sub x c hc
  have ho:=S.outer x (isfree x hcf)
  obtain ⟨u,r,l⟩:=hl0 i x v e1' e2 (.inr ho)
  refine ⟨u,r,.inr ⟨hcf,c,hc,?_⟩⟩
  rcases l with ⟨z,_⟩ | ⟨_,c',hc',oc,hoc,hdc⟩
  ·rcases ho with y | y <;> (rw [y] at z; cases z)
  ·rw [hcX] at hc'
   cases hc'
   exact ⟨oc,keep _ _ hoc,hdc⟩
 ·obtain ⟨v,⟨oc,hoc,hdc⟩⟩:=I2.cell x c (S.sub x c e)
  exact ⟨v,oc,keep _ _ hoc,hdc⟩
 ·obtain ⟨v,⟨oc,hoc,hdc⟩⟩:=I2.cell x c (S.sub x c e)
  exact hH c oc hoc (I2.freeC x c (S.sub x c e))
 ·obtain ⟨q1,q2,q3,q4,q5⟩:=I2.pin p (by simpa using hp)
  exact ⟨keep _ _ q1,hH _ _ q1 q2,neC _ _ q1,stk_no I2 q3 q4,q5⟩
 ·show (σ ++ List.replicate own.length none).length = (N0 ++ own).length
  rw [List.length_append,List.length_append,List.length_replicate,I2.len,S.lenN]
theorem blkN_out (I2:Inv X pins σ H2 s2) (f2:∀ b∈fp,FpOk X pins H2 b) (hC:s2.heap.objs.size≤C) {pl:List (Addr × Obj)} {σ':St} {s4:Shared} {h':Heap} (I4:Inv (X.blkN N0 scope cl C own s2 H2 fp pins) pl σ' H3 s4) (sb:Heap.SameBut C s4.heap h') :
  Inv X pins σ H3 { s4 with heap:=h' }:=by
 have un:Un (frs X.stack) fp H2 H3 s2.heap s4.heap:=I4.base
 have nC:s2.heap.get? C = none:=Heap.get?_none_of_le hC
 have CF:C ∉ frs X.stack:=fun z => by
  obtain ⟨_,o,ho,_⟩:=I2.stack.mem z
  rw [nC] at ho; cases ho
 have un2:Un (frs X.stack) fp H2 H3 s2.heap h':=un.late (ch:=[C]) (fun b hb => by
  obtain rfl:b = C:=by simpa using hb
  exact nC) (fun b o _ hb e => (sb.2 b (by simpa using hb)).trans e) fun b o hb e => ⟨o.slots,(sb.2 b fun z => CF (z▸hb)).trans e⟩
 have hf:H3 C = none:=I4.free
 have hok:HOk X.prog X.w H3 h':=fun b o e => (I4.hok b o e).stay (fun c u hc q => (sb.2 c fun z => by
  subst z
  rcases hc with z | z
  ·rw [z,e] at hf; cases hf
  ·rw [z] at hf; cases hf).trans q) (fun _ q => q) fun _ _ q => q
 exact I2.call' (s':={ s4 with heap:=h' }) (ch:=fp) I4.os un2 hok I4.bare fun b hb => ⟨(f2 b hb).2.2.2.1,(f2 b hb).2.1,(f2 b hb).2.2.2.2.1,(f2 b hb).2.2.2.2.2⟩
end
section
variable {X:Cx} {tg elt iter:Expr} {ifs:List Expr} {scope:Scope} {cl:List (Str × Addr)} {own N0:List Str} {wi:TI} {g:TG} {tc:TT} {te:TE} {pos:Pos}
theorem comp_coreN {p2:Pos} {use:Option (Value→Sem Unit)} {QV:Value→Shared→Prop} {pins:List (Addr × Obj)} {s:Shared} {σ:St} {H:Hp} {Q:VK} (S:CompScopeN X N0 scope cl) (hi:PI X tg iter wi)
  (hg:∀ C s H fp pins,PG (X.blkN N0 scope cl C own s H fp pins) tg g) (ht:∀ C s H fp pins,PF (X.blkN N0 scope cl C own s H fp pins) ifs tc) (he:∀ C s H fp pins,PE (X.blkN N0 scope cl C own s H fp pins) elt te)
  (hs:∀ x,foldedSetIterable iter X.env x = pure x) (I:Inv X pins σ H s) (h:tComp wi own.length g tc te σ H Q)
  (fin:∀ D C s2 H2 H3 s4,Inv X pins σ H2 s2→s2.heap.objs.size≤C→H3 C = none→(∃ m,s4.heap.Ns C m)→(∀ h',Heap.SameBut C s4.heap h'→Inv X pins σ H3 { s4 with heap:=h' })→Q (.ref D) H3→compPost (model X.prog X.w) X.A X.xe use QV (.ref D) C (.ok .next) s4) :
  wpAny (model X.prog X.w) X.A (comprehension (.ListComp elt [⟨tg,iter,ifs,0⟩] scope pos) scope X.env p2 (newList []) false (eval iter X.env) use) QV X.xe s:=by
 refine wpAny_comprehension_free (use:=use) rfl hs S.clos S.kind S.names (thn (hi pins s σ H _ I h) fun v s1 h1 => thn h1 fun itv s2 h2 => ?_)
 obtain ⟨it,fp,tn,J,H2,e,I2,T,st2,f2,R⟩:=h2
 subst e
 obtain ⟨nm,T,hc⟩:=T
 refine wpAny_newObj_type (wpAny_newFunctionEnv S.nocell (by intro y hy; simp at hy) (fun h1 hns hsb => ?_) S.kind)
 dsimp only at hns hsb ⊢
 have hlt:∀ b∈fp,b < s2.heap.objs.size:=fun b hb => by
  obtain ⟨o,ho,_⟩:=T.obj 0 _ st2 b hb
  exact Heap.lt_size ho
 generalize hp:s2.heap.push { cls:=.type "list",dict:=none,data:=.seq ([]:List Value).toArray } = hl at hns hsb ⊢
 have hC:hl.objs.size = s2.heap.objs.size + 1:=by rw [← hp,Heap.size_push]
 have hCle:s2.heap.objs.size≤hl.objs.size:=by rw [hC]; exact Nat.le_succ _
 have hDC:s2.heap.objs.size≠hl.objs.size:=by rw [hC]; exact Nat.ne_of_lt (Nat.lt_succ_self _)
 have old:∀ b o,hl.get? b = some o→h1.get? b = some o:=fun b o e => hsb.extBut b o (Nat.ne_of_lt (Heap.lt_size e)) (Heap.get?_push_of_some _ e)
 have old2:∀ b o,s2.heap.get? b = some o→h1.get? b = some o:=fun b o e => old b o (hp▸Heap.get?_push_of_some _ e)
 have Dn:H2 s2.heap.objs.size = none:=I2.fresh
 have Cn:H2 hl.objs.size = none:=I2.hok.fresh hCle
 obtain ⟨W,⟨m0,w0⟩,step⟩:=R s2.heap.objs.size Dn
 have hobj:h1.get? s2.heap.objs.size = some { cls:=.type "list",data:=.seq ([]:List Value).toArray }:=old _ _ (hp▸Heap.get?_push_size _ rfl)
 have I3:Inv (X.blkN N0 scope cl hl.objs.size own s2 H2 fp pins) [] (σ ++ List.replicate own.length none) (upd H2 s2.heap.objs.size (.lst [])) { s2 with heap:=h1,toks:=s2.toks + ([]:List (Str × Value)).length } :=
  blkN_in S I2 f2 hlt hCle hns old2 (fun b o e n => by rw [upd_ne (Nat.ne_of_lt (Heap.lt_size e))]; exact n) (Un.laid old2 (Nat.le_refl _) Dn) (I2.hok.laid old2 (Nat.le_refl _) (show ObjOk X.prog X.w (upd H2 s2.heap.objs.size (.lst [])) h1 s2.heap.objs.size (.lst []) from ⟨Nat.zero_le _,[],0,.nil,hobj⟩)) (by rw [upd_ne (Ne.symm hDC)]; exact Cn)
 have fpn:∀ b∈fp,upd H2 s2.heap.objs.size (.lst []) b = none:=fun b hb => by rw [upd_ne (Nat.ne_of_lt (hlt b hb))]; exact (f2 b hb).1
 have stat:∀ {H':Hp},(∀ b∈fp,H' b = none)→∀ b∈fp,FpOk (X.blkN N0 scope cl hl.objs.size own s2 H2 fp pins) [] H' b:=fun hn b hb =>
  ⟨hn b hb,Nat.ne_of_lt (Nat.lt_of_lt_of_le (hlt b hb) hCle),stk_no I2 (f2 b hb).2.1 (f2 b hb).2.2.1,.inl hb,fun x c e => (f2 b hb).2.2.2.2.1 x c (S.sub x c e),fun p hp => (f2 b hb).2.2.2.2.2 p (by simpa using hp)⟩
 have loop:∀ s3:Shared,s3 = { s2 with heap:=h1,toks:=s2.toks + ([]:List (Str × Value)).length } →
   codeAny (model X.prog X.w) X.A (.compLoop (.ListComp elt [⟨tg,iter,ifs,0⟩] scope pos) 0 (.ref it) (.ref s2.heap.objs.size) (compEnvC scope cl hl.objs.size X.env)) (compPost (model X.prog X.w) X.A X.xe use QV (.ref s2.heap.objs.size) hl.objs.size) s3:=by
  rintro s3 rfl
  refine comp_turns (fun n s' => ∃ i ys H',Inv (X.blkN N0 scope cl hl.objs.size own s2 H2 fp pins) [] (σ ++ List.replicate own.length none) H' s'∧tn i s'.heap∧(∀ b∈fp,H' b = none)∧W i n ys H') ?_ m0
   ⟨0,[],_,I3,T.keep 0 _ _ st2 (fun b _ o e => old2 b o e),fpn,w0⟩
  rintro n s3 ⟨i,ys,H3,J3,st3,fr3,w3⟩
  obtain ⟨hD,⟨stop,q⟩ | ⟨go,hlen,turn⟩⟩:=step i n ys H3 w3
  ·refine thn (T.done (X.blkN N0 scope cl hl.objs.size own s2 H2 fp pins) rfl rfl rfl hc i [] s3 _ H3 _ J3 (stat fr3) st3 stop) fun r s4 ⟨hr,J4⟩ => ?_
   subst hr
   obtain ⟨m4,hn4,_⟩:=J4.loc
   exact fin _ _ s2 H2 H3 s4 I2 hCle J4.free ⟨m4,hn4⟩ (fun h' sb => blkN_out I2 f2 hCle J4 sb) q
  ·refine thn (T.item (X.blkN N0 scope cl hl.objs.size own s2 H2 fp pins) rfl rfl rfl hc i [] s3 _ H3 _ J3 (stat fr3) st3 go) fun r s4 ⟨u,hr,h4⟩ => ?_
   subst hr
   refine thn h4 fun _ s5 hh => ?_
   obtain ⟨x,H5,J5,r5,y5,st5,fr5⟩:=hh
   have J5':=J5.pinned (stat fr5) (T.obj _ _ st5)
   refine thn (hg _ _ _ _ _ _ s5 _ H5 x u _ J5' r5 (turn x H5 y5)) fun _ s6 hh => ?_
   obtain ⟨σ6,H6,J6,⟨ts,e6,hts⟩,q6⟩:=hh
   subst e6
   refine thn (ht _ _ _ _ _ _ s6 _ H6 _ J6 q6) fun ok s7 ⟨H7,J7,q7⟩ => ?_
   have again:∀ {s8:Shared} {H8:Hp} {zs:List V},Inv (X.blkN N0 scope cl hl.objs.size own s2 H2 fp pins) ([] ++ pinsAt fp s5.heap) (σ ++ ts) H8 s8→(∃ m',m' < n∧W (i + 1) m' zs H8) →
     ∃ m,m < n∧∃ i ys H',Inv (X.blkN N0 scope cl hl.objs.size own s2 H2 fp pins) [] (σ ++ List.replicate own.length none) H' s8∧tn i s8.heap∧(∀ b∈fp,H' b = none)∧W i m ys H':=fun {s8 H8 zs} J8 ⟨m',hm,w8⟩ => by
    refine ⟨m',hm,i + 1,zs,H8,?_,T.keep _ _ _ st5 fun b hb o e => (J8.pin (b,o) (List.mem_append_right _ (List.mem_append_right _ (mem_pinsAt hb e)))).1,fun b hb => ?_,w8⟩
    ·refine J8.unpinned.weak (by rw [List.length_append,List.length_append,List.length_replicate,hts]) fun j v ej => ?_
     by_cases hj:j < σ.length
     ·rw [List.getElem?_append_left hj] at ej ⊢
      exact ej
     ·rw [List.getElem?_append_right (by omega),List.getElem?_replicate] at ej
      split at ej <;> cases ej
    ·obtain ⟨o,e,d⟩:=T.obj _ _ st5 b hb
     exact (J8.pin (b,o) (List.mem_append_right _ (List.mem_append_right _ (mem_pinsAt hb e)))).2.1
   cases ok with
   | false => exact again J7 q7
   | true =>
    refine thn (he _ _ _ _ _ _ s7 _ H7 _ J7 q7) fun z s8 hh => ?_
    obtain ⟨y,H8,J8,r8,hD8,q8⟩:=hh
    refine thn (mt_append _ s8 _ H8 (.ref s2.heap.objs.size) [y] _ [z] (fun _ H9 => ∃ m',m' < n∧W (i + 1) m' (ys ++ [y]) H9) J8 rfl (.cons r8 .nil) ⟨_,ys,y,rfl,rfl,hD8,hlen,q8⟩) fun _ s9 ⟨_,H9,J9,_,q9⟩ => again J9 q9
 exact codeAny_compStart_list (loop _ rfl) (T.self _ 0 _ _ _ (T.keep 0 _ _ st2 fun b _ o e => old2 b o e) (loop _ rfl))
theorem pe_compN (S:CompScopeN X N0 scope cl) (hi:PI X tg iter wi)
  (hg:∀ C s H fp pins,PG (X.blkN N0 scope cl C own s H fp pins) tg g) (ht:∀ C s H fp pins,PF (X.blkN N0 scope cl C own s H fp pins) ifs tc) (he:∀ C s H fp pins,PE (X.blkN N0 scope cl C own s H fp pins) elt te)
  (hs:∀ x,foldedSetIterable iter X.env x = pure x:=by intro _; rfl):PE X (.ListComp elt [⟨tg,iter,ifs,0⟩] scope pos) (tComp wi own.length g tc te):=by
 intro pins s σ H Q I h
 rw [eval_ListComp]
 exact comp_coreN (use:=none) (QV:=EP X pins σ Q) S hi hg ht he hs I h fun D C s2 H2 H3 s4 _ _ _ hn inv q => hn.elim fun m hn => ⟨m,hn,fun h' sb => ⟨.ref D,H3,inv h' sb,rfl,q⟩⟩
end
end L2
namespace L2
open PySem PySem.Spec PyProof.Rows
section
variable {κ:Type} [DecidableEq κ]
end
theorem kV_inj {a b:Key} (e:kV a = kV b):a = b:=by
 cases a with
 | inl i => cases b with
  | inl j => have e':V.int i = V.int j:=e; injection e' with e'; rw [e']
  | inr y => exact nomatch (show V.int i = V.str y from e)
 | inr x => cases b with
  | inl j => exact nomatch (show V.str x = V.int j from e)
  | inr y => have e':V.str x = V.str y:=e; injection e' with e'; rw [e']
section
variable {P:Program} {w:World} {H:Hp} {h:Heap} {a:Addr}
end
section
variable {X:Cx} {pins:List (Addr × Obj)} {σ:St} {H:Hp} {s:Shared} {a:Addr} {y v:V} {u r:Value} {o:Option V} {A:Around} {E:Value→Shared→Prop}
end
section
variable {X:Cx} {pins:List (Addr × Obj)} {σ:St} {H:Hp} {s:Shared} {a:Addr} {kvs:List (Key × V)} {k:Key} {u:Value} {A:Around} {E:Value→Shared→Prop}
end
section
variable {X:Cx} {o i e value:Expr} {pos pos' tpos:Pos} {td ty tv:TE}
end
section
variable {X:Cx} {pos:Pos}
end
section
variable {X:Cx} {pins:List (Addr × Obj)} {σ:St} {H:Hp} {s:Shared} {a:Addr} {y d:V} {u r:Value} {o:Option V} {A:Around} {E:Value→Shared→Prop}
end
section
variable {X:Cx} {o e f:Expr} {apos cpos:Pos} {td ty tx:TE}
end
section
variable {X:Cx} {pins:List (Addr × Obj)} {σ:St} {H:Hp} {s:Shared} {a:Addr} {kvs:List (Key × V)} {A:Around} {E:Value→Shared→Prop}
end
section
variable {X:Cx} {pins:List (Addr × Obj)} {σ:St} {H:Hp} {s:Shared} {a:Addr} {y:V} {u:Value} {A:Around} {E:Value→Shared→Prop}
end
section
variable {κ:Type} [DecidableEq κ]
end
end L2
namespace L2
open PySem PySem.Spec PyProof.Rows
section
variable {X:Cx} {elts:List Expr} {kk:Nat} {tpos:Pos}
end
end L2
namespace L2
open PySem PySem.Spec PyProof.Rows
section
variable {X:Cx} {body:List Stmt} {b0:Stmt} {suite:List Stmt} {cn n:Str} {np hpos pos:Pos} {C0:Addr} {i:Nat} {tb:(St→XK)→TS} {th:TS}
end
end L2
namespace L2
open PySem PySem.Spec PyProof.Rows
section
variable {prog:Program} {w:World} {A:Around} {E:Value→Shared→Prop} {env:Env}
variable {nm q:Str} {C N:Addr} {bs bm:List Value} {hdct:Bool} {sn:List Str} {sub:List Value} {ab:Bool} {col:Option Bool} {dd:Option Addr} {k0 k1 k2 k3 k5:Option Value} {newId:String}
end
section
variable {P:Program} {w:World} {K:PySem.W.Frag} {mg:Str→Option Value} {base:Heap} {N ps:List Str} {qual:Str} {scope:Scope} {f:Addr} {cd:Value} {A:Around} {outer:List Env} {s:Shared} {H:Hp} {E:XK}
end
section
variable {X:Cx} {pins:List (Addr × Obj)} {σ:St} {H:Hp} {s:Shared}
end
section
variable {X:Cx} {body:List Stmt} {b0:Stmt} {suite:List Stmt} {cn:Str} {np hpos pos:Pos} {C0:Addr} {tb:XK→TS} {th:TS}
end
end L2
namespace L2
open PySem PySem.Spec PyProof.Rows
section
variable {P:Program} {w:World} {K:PySem.W.Frag} {mg:Str→Option Value} {base:Heap}
end
section
variable {X:Cx}
end
section
variable {X:Cx}
end
end L2
set_option maxHeartbeats 4000000
namespace L2
open PySem Builtin Builtin.Str
section
variable {X:Cx}
end
end L2
namespace TS
open PySem PyProof.Rows L2
def kLt:L2.Key→L2.Key→Bool
 | .inl a,.inl b => decide (a < b)
 | .inr a,.inr b => decide (a.cps.toList < b.cps.toList)
 | .inl _,.inr _ => true
 | .inr _,.inl _ => false
def lx:List L2.Key→List L2.Key→Bool
 | [],[] => false
 | [],_ :: _ => true
 | _ :: _,[] => false
 | a :: r,b :: q => if a = b then lx r q else kLt a b
theorem kLt_irr (a:L2.Key):kLt a a = false:=by
 cases a with
 | inl n => exact decide_eq_false (Int.lt_irrefl n)
 | inr x => exact decide_eq_false (List.lt_irrefl _)
theorem kLt_trans {a b c:L2.Key} (h1:kLt a b = true) (h2:kLt b c = true):kLt a c = true:=by
 cases a with
 | inl n => cases b with
  | inl m => cases c with
   | inl k => exact decide_eq_true (Int.lt_trans (of_decide_eq_true h1) (of_decide_eq_true h2))
   | inr k => rfl
  | inr m => cases c with
   | inl k => cases h2
   | inr k => rfl
 | inr n => cases b with
  | inl m => cases h1
  | inr m => cases c with
   | inl k => cases h2
   | inr k => exact decide_eq_true (List.lt_trans (of_decide_eq_true h1) (of_decide_eq_true h2))
theorem str_of_cps {x y:Str} (h:x.cps.toList = y.cps.toList):x = y:=Str.ext' (Array.toList_inj.mp h)
theorem kLt_tot {a b:L2.Key} (h1:kLt a b = false) (h2:kLt b a = false):a = b:=by
 cases a with
 | inl n => cases b with
  | inl m =>
   have:=of_decide_eq_false h1
   have:=of_decide_eq_false h2
   congr 1; omega
  | inr m => cases h1
 | inr n => cases b with
  | inl m => cases h2
  | inr m => exact congrArg Sum.inr (str_of_cps (List.le_antisymm (List.not_lt.mp (of_decide_eq_false h2)) (List.not_lt.mp (of_decide_eq_false h1))))
theorem kLt_ne {a b:L2.Key} (h:kLt a b = true):a≠b:=fun e => by rw [e,kLt_irr] at h; cases h
theorem lx_irr:∀ a:List L2.Key,lx a a = false
 | [] => rfl
 | a :: r => by unfold lx; rw [if_pos rfl]; exact lx_irr r
theorem lx_tot:∀ {a b:List L2.Key},lx a b = false→lx b a = false→a = b
 | [],[],_,_ => rfl
 | [],_ :: _,h,_ => by cases h
 | _ :: _,[],_,h => by cases h
 | a :: r,b :: q,h1,h2 => by
  unfold lx at h1 h2
  by_cases e:a = b
  ·rw [if_pos e] at h1
   rw [if_pos e.symm] at h2
   rw [e,lx_tot h1 h2]
  ·rw [if_neg e] at h1
   rw [if_neg (fun z => e z.symm)] at h2
   exact absurd (kLt_tot h1 h2) e
theorem lx_trans:∀ {a b c:List L2.Key},lx a b = true→lx b c = true→lx a c = true
 | [],[],_,h,_ => by cases h
 | [],_ :: _,[],_,h => by cases h
 | [],_ :: _,_ :: _,_,_ => rfl
 | _ :: _,[],_,h,_ => by cases h
 | _ :: _,_ :: _,[],_,h => by cases h
 | a :: r,b :: q,c :: p,h1,h2 => by
  unfold lx at h1 h2 ⊢
  by_cases e1:a = b
  ·subst e1
   rw [if_pos rfl] at h1
   by_cases e2:a = c
   ·rw [if_pos e2] at h2 ⊢; exact lx_trans h1 h2
   ·rw [if_neg e2] at h2 ⊢; exact h2
  ·rw [if_neg e1] at h1
   by_cases e2:b = c
   ·subst e2; rw [if_neg e1]; exact h1
   ·rw [if_neg e2] at h2
    have h3:=kLt_trans h1 h2
    rw [if_neg (kLt_ne h3)]; exact h3
theorem lx_neg {a b c:List L2.Key} (h:lx a c = true):lx a b = true∨lx b c = true:=by
 cases h1:lx a b
 ·right
  cases h2:lx b a
  ·rw [← lx_tot h1 h2]; exact h
  ·exact lx_trans h2 h
 ·exact .inl rfl
def kind (kc:Value→List L2.Key):KeyKind where
 α:=List L2.Key
 blt:=lx
 irrefl:=lx_irr
 trans:=fun _ _ _ => lx_trans
 negTrans:=fun _ _ _ => lx_neg
 total:=fun _ _ => lx_tot
 keyOf:=fun v => some (kc v)
 dflt:=[]
def KVal:L2.Key→Value→Prop
 | .inl n,v => ∃ t,v = .int n t
 | .inr x,v => ∃ t,v = .str x t
inductive KVals:List L2.Key→List Value→Prop
 | nil:KVals [] []
 | cons {k v ks vs}:KVal k v→KVals ks vs→KVals (k :: ks) (v :: vs)
def sd (ks:List L2.Key):List Bool:=ks.map Sum.isLeft
theorem keyLt_eq (f:Bool) (x y:Value):keyLt' (tuples' f) x y = (do
  let p ← Builtin.List.listItems x
  let q ← Builtin.List.listItems y
  for ((u,v),i) in (p.toList.zip q.toList).zipIdx do
   if !(← eqBool u v) then return ← oneLt' (f && i == 0) u v
  return p.size < q.size):=rfl
section
variable {prog:Program} {w:World} {A:Around} {E:Value→Shared→Prop} {s:Shared}
theorem one_int (f:Bool) {a b:Int} {t u:Tok} {Q:Bool→Shared→Prop} (h:Q (decide (a < b)) s):wpAny (model prog w) A (oneLt' f (.int a t) (.int b u)) Q E s:=by
 cases f with
 | true => exact oneLt_int h
 | false =>
  rw [oneLt'_eq]
  rw [if_neg Bool.false_ne_true]
  exact wpAny_bind (richCompare_gives (op:=.Lt) (typeIs_int s a t) (typeIs_int s b u) F.slot_int_lt F.entry_int_lt (F.args_int_lt_2 _ _) (gives_int_lt a b t u) (fun z => nomatch z) (wpAny_truthy_bool h))
theorem one_str (f:Bool) {a b:Str} {t u:Tok} {Q:Bool→Shared→Prop} (h:Q (decide (a.cps.toList < b.cps.toList)) s):wpAny (model prog w) A (oneLt' f (.str a t) (.str b u)) Q E s:=by
 cases f with
 | true => exact oneLt_str h
 | false =>
  rw [oneLt'_eq]
  rw [if_neg Bool.false_ne_true]
  exact wpAny_bind (richCompare_gives (op:=.Lt) (typeIs_str s a t) (typeIs_str s b u) F.slot_str_lt F.entry_str_lt (F.args_str_lt_2 _ _) (gives_str_lt a b t u) (fun z => nomatch z) (wpAny_truthy_bool h))
theorem eq_key {c d:L2.Key} {u v:Value} (hs:c.isLeft = d.isLeft) (hc:KVal c u) (hd:KVal d v) {Q:Bool→Shared→Prop} (h:Q (decide (c = d)) s):wpAny (model prog w) A (eqBool u v) Q E s:=by
 cases c with
 | inl n => cases d with
  | inl m =>
   obtain ⟨t,rfl⟩:=hc
   obtain ⟨t',rfl⟩:=hd
   refine wpAny_eqBool_int ?_
   rw [show (n == m) = decide ((Sum.inl n:L2.Key) = Sum.inl m) by rw [Bool.eq_iff_iff,beq_iff_eq,decide_eq_true_iff]; exact ⟨fun e => e▸rfl,fun e => Sum.inl.inj e⟩]
   exact h
  | inr m => cases hs
 | inr n => cases d with
  | inl m => cases hs
  | inr m =>
   obtain ⟨t,rfl⟩:=hc
   obtain ⟨t',rfl⟩:=hd
   refine wpAny_eqBool_str ?_
   rw [show decide (n = m) = decide ((Sum.inr n:L2.Key) = Sum.inr m) by rw [Bool.eq_iff_iff,decide_eq_true_iff,decide_eq_true_iff]; exact ⟨fun e => e▸rfl,fun e => Sum.inr.inj e⟩]
   exact h
theorem one_key (f:Bool) {c d:L2.Key} {u v:Value} (hs:c.isLeft = d.isLeft) (hc:KVal c u) (hd:KVal d v) {Q:Bool→Shared→Prop} (h:Q (kLt c d) s):wpAny (model prog w) A (oneLt' f u v) Q E s:=by
 cases c with
 | inl n => cases d with
  | inl m =>
   obtain ⟨t,rfl⟩:=hc
   obtain ⟨t',rfl⟩:=hd
   exact one_int f h
  | inr m => cases hs
 | inr n => cases d with
  | inl m => cases hs
  | inr m =>
   obtain ⟨t,rfl⟩:=hc
   obtain ⟨t',rfl⟩:=hd
   exact one_str f h
theorem key_loop (f:Bool):∀ {cs ds:List L2.Key} {ps qs:List Value} (k:Nat),sd cs = sd ds→KVals cs ps→KVals ds qs→∀ {R:Option Bool × Unit→Shared→Prop},(cs≠ds→R (some (lx cs ds),()) s)→(cs = ds→R (none,()) s) →
  wpAny (model prog w) A (forIn ((ps.zip qs).zipIdx k) ((none,()):Option Bool × Unit) fun x _ =>
   match x with
   | ((u,v),i) => do
    let r ← eqBool u v
    if (!r) = true then do
      let r ← oneLt' (f && i == 0) u v
      pure (ForInStep.done (some r,()))
     else pure (ForInStep.yield (none,()))) R E s
 | [],[],_,_,k,_,.nil,.nil,R,_,h => by
  show wpAny _ _ (forIn [] _ _) _ _ _
  rw [List.forIn_nil]; exact wpAny_pure (h rfl)
 | [],_ :: _,_,_,_,hs,_,_,_,_,_ => by cases hs
 | _ :: _,[],_,_,_,hs,_,_,_,_,_ => by cases hs
 | c :: cs,d :: ds,_,_,k,hs,.cons hc hcs,.cons hd hds,R,h1,h2 => by
  obtain ⟨e1,e2⟩:=List.cons.inj hs
  rw [List.zip_cons_cons,List.zipIdx_cons,List.forIn_cons]
  refine wpAny_bind (wpAny_bind (eq_key e1 hc hd ?_))
  by_cases e:c = d
  ·rw [decide_eq_true e]
   refine wpAny_pure (key_loop f (k + 1) e2 hcs hds (fun n => ?_) fun z => h2 (by rw [e,z]))
   have:=h1 (fun z => n (List.cons.inj z).2)
   unfold lx at this
   rw [if_pos e] at this
   exact this
  ·rw [decide_eq_false e]
   refine wpAny_bind (one_key _ e1 hc hd (wpAny_pure (wpAny_pure ?_)))
   have:=h1 (fun z => e (List.cons.inj z).1)
   unfold lx at this
   rw [if_neg e] at this
   exact this
theorem KVals.len {cs:List L2.Key} {ps:List Value} (h:KVals cs ps):ps.length = cs.length:=by
 induction h with
 | nil => rfl
 | cons _ _ ih => rw [List.length_cons,List.length_cons,ih]
theorem key_lt (f:Bool) {a b:Addr} {o o':Obj} {ps qs:List Value} {n m:Nat} {cs ds:List L2.Key} (ha:s.heap.get? a = some o) (hd:o.data = .seq ps.toArray n) (hb:s.heap.get? b = some o') (hd':o'.data = .seq qs.toArray m)
  (hs:sd cs = sd ds) (hc:KVals cs ps) (hq:KVals ds qs) {Q:Bool→Shared→Prop} (h:Q (lx cs ds) s):wpAny (model prog w) A (keyLt' (tuples' f) (.ref a) (.ref b)) Q E s:=by
 rw [keyLt_eq]
 refine wpAny_bind (listItems_at ha hd ?_)
 refine wpAny_bind (listItems_at hb hd' ?_)
 refine wpAny_bind (key_loop f 0 hs hc hq (fun _ => wpAny_pure h) fun e => wpAny_pure ?_)
 have l1:=hc.len
 have l2:=hq.len
 rw [e] at l1 h
 rw [lx_irr] at h
 rw [show decide (ps.toArray.size < qs.toArray.size) = false by rw [List.size_toArray,List.size_toArray]; exact decide_eq_false (by omega)]
 exact h
variable {f:Bool} {z:Array Keyed} {o:KeyKind}
def kv (o:KeyKind) (p:Keyed):o.α:=(o.keyOf p.1).getD o.dflt
def Orc (prog:Program) (w:World) (A:Around) (s:Shared) (f:Bool) (o:KeyKind) (z:Array Keyed):Prop:=∀ (E:Value→Shared→Prop) (p q:Keyed) (Q:Bool→Shared→Prop),p∈z.toList→q∈z.toList→Q (o.blt (kv o p) (kv o q)) s→wpAny (model prog w) A (keyLt' (tuples' f) p.1 q.1) Q E s
end
end TS
namespace TS
open PySem PyProof.Rows L2
section
variable {prog:Program} {w:World} {A:Around} {E:Value→Shared→Prop} {s:Shared}
theorem mapM_wp {α β:Type} {g:α→Sem β} {r:α→β} {M:Model}:∀ {l:List α} {R:List β→Shared→Prop},(∀ x∈l,∀ R:β→Shared→Prop,R (r x) s→wpAny M A (g x) R E s)→R (l.map r) s→wpAny M A (l.mapM g) R E s
 | [],R,_,h => by rw [List.mapM_nil]; exact wpAny_pure h
 | a :: l,R,f,h => by
  rw [List.mapM_cons]
  exact wpAny_bind (f a (List.mem_cons_self ..) _ (wpAny_bind (mapM_wp (fun x hx => f x (List.mem_cons_of_mem _ hx)) (wpAny_pure h))))
def TupAt (h:Heap) (v:Value) (ks:List L2.Key):Prop:=∃ a ob vs n,v = .ref a∧h.get? a = some ob∧ob.cls = .type "tuple"∧ob.data = .seq vs.toArray n∧KVals ks vs
theorem first_eq (v:Value):firstOfTuple' v = (do
  if (← typeOf v) != .type "tuple" then return none
  return (← Builtin.List.listItems v)[0]?):=rfl
theorem typ_key {k:L2.Key} {v:Value} (h:KVal k v) {R:Value→Shared→Prop} (q:R (.type (if k.isLeft then "int" else "str")) s):wpAny (model prog w) A (typeOf v) R E s:=by
 cases k with
 | inl n => obtain ⟨t,rfl⟩:=h; exact wpAny_typeOf (typeIs_int s n t) q
 | inr x => obtain ⟨t,rfl⟩:=h; exact wpAny_typeOf (typeIs_str s x t) q
theorem key_kind {kc:Value→List L2.Key} {vs:List Value} {d:List Bool} (h2:2≤vs.length) (ht:∀ v∈vs,TupAt s.heap v (kc v)) (hs:∀ v∈vs,sd (kc v) = d) (hd:d≠[]) {R:SortKind→Shared→Prop} (q:R (tuples' true) s):wpAny (model prog w) A (keyKind' vs.toArray) R E s:=by
 have fx:∃ fv:Value→Value,∀ v∈vs,∃ k r,kc v = k :: r∧k.isLeft = d.headD true∧KVal k (fv v)∧∀ R:Option Value→Shared→Prop,R (some (fv v)) s→wpAny (model prog w) A (firstOfTuple' v) R E s:=by
  have one:∀ v∈vs,∃ x:Value,∃ k r,kc v = k :: r∧k.isLeft = d.headD true∧KVal k x∧∀ R:Option Value→Shared→Prop,R (some x) s→wpAny (model prog w) A (firstOfTuple' v) R E s:=fun v hv => by
   obtain ⟨a,ob,us,n,rfl,ho,hc,hda,hk⟩:=ht v hv
   have e:=hs _ hv
   cases hkc:kc (.ref a) with
   | nil => rw [hkc] at e; exact absurd e.symm hd
   | cons k r =>
    rw [hkc] at hk e
    cases hk with
    | @cons _ x _ xs hx hxs =>
     refine ⟨x,k,r,rfl,by rw [← e]; rfl,hx,fun R hR => ?_⟩
     rw [first_eq]
     refine wpAny_bind (wpAny_typeOf (T:="tuple") ⟨ob,ho,hc⟩ ?_)
     rw [if_neg (by decide)]
     exact wpAny_bind (listItems_at ho hda (wpAny_pure hR))
  refine ⟨fun v => if hv:v∈vs then (one v hv).choose else .none,fun v hv => ?_⟩
  simp only [dif_pos hv]
  exact (one v hv).choose_spec
 obtain ⟨fv,hfv⟩:=fx
 rw [keyKind'_eq,List.mapM_toArray,← bind_pure_comp]
 refine wpAny_bind (wpAny_bind (mapM_wp (r:=fun v => some (fv v)) (fun v hv R hR => by obtain ⟨_,_,_,_,_,f⟩:=hfv v hv; exact f R hR) (wpAny_pure ?_)))
 rw [if_pos (by simp)]
 refine wpAny_bind (wpAny_rule (wpAny_bind ?_))
 rw [show (vs.map fun v => some (fv v)).toArray.filterMap id = (vs.map fv).toArray by simp [List.filterMap_map,Function.comp_def]]
 rw [oneTypeOnly'_eq,List.mapM_toArray,← bind_pure_comp]
 refine wpAny_bind (wpAny_bind (mapM_wp (r:=fun _ => Value.type (if d.headD true then "int" else "str")) (fun x hx R hR => ?_) (wpAny_pure ?_)))
 ·obtain ⟨v,hv,rfl⟩:=List.mem_map.mp hx
  obtain ⟨k,r,_,e,hk,_⟩:=hfv v hv
  rw [← e] at hR
  exact typ_key hk hR
 ·match vs,h2 with
  | a :: b :: r,_ =>
   have e0:((List.map fv (a :: b :: r)).map fun _ => Value.type (if d.headD true then "int" else "str")).toArray[0]? = some (Value.type (if d.headD true then "int" else "str")):=by simp
   rw [e0]
   have ea:(((List.map fv (a :: b :: r)).map fun _ => Value.type (if d.headD true then "int" else "str")).toArray.all fun x => x == Value.type (if d.headD true then "int" else "str")) = true:=by
    simp only [List.all_toArray,List.all_map,List.all_eq_true]
    intro _ _
    cases d.headD true <;> rfl
   show wpAny _ _ (pure (if (((List.map fv (a :: b :: r)).map fun _ => Value.type (if d.headD true then "int" else "str")).toArray.all fun x => x == Value.type (if d.headD true then "int" else "str")) = true then some (Value.type (if d.headD true then "int" else "str")) else none)) _ _ _
   rw [if_pos ea]
   refine wpAny_pure (wpAny_pure ?_)
   have en:((some (Value.type (if d.headD true then "int" else "str"))).any fun x => x != Value.type "tuple") = true:=by cases d.headD true <;> rfl
   rw [en]
   exact q
theorem TupAt.upd {h:Heap} {v:Value} {ks:List L2.Key} (t:TupAt h v ks) {a:Addr} {g:Array Value→Array Value} {ob:Obj} (ho:h.get? a = some ob) (hc:ob.cls = .type "list"):TupAt (h.update a (Obj.mapSeq g)) v ks:=by
 obtain ⟨b,o2,us,n,rfl,e,c,dt,k⟩:=t
 have ne:a≠b:=fun z => by
  rw [z,e] at ho
  cases ho
  rw [c] at hc
  exact absurd hc (by decide)
 exact ⟨b,o2,us,n,rfl,(Heap.get?_update_other _ _ ne).trans e,c,dt,k⟩
theorem TupAt.push {h:Heap} {v:Value} {ks:List L2.Key} (t:TupAt h v ks) (ob:Obj):TupAt (h.push ob) v ks:=by
 obtain ⟨b,o2,us,n,rfl,e,c,dt,k⟩:=t
 exact ⟨b,o2,us,n,rfl,Heap.get?_push_of_some _ e,c,dt,k⟩
theorem mem_pairs {vs:List Value} {p:Keyed} (h:p∈(pairsOf vs).toList):p.1 = p.2∧p.1∈vs:=mem_zip_self (pairsOf_toList vs▸h)
theorem orc_of {kc:Value→List L2.Key} {vs:List Value} {d:List Bool} (ht:∀ v∈vs,TupAt s.heap v (kc v)) (hs:∀ v∈vs,sd (kc v) = d) (f:Bool):Orc prog w A s f (kind kc) (pairsOf vs):=fun E p q Q hp hq h => by
 have m1:=(mem_pairs hp).2
 have m2:=(mem_pairs hq).2
 have h1:Q (lx (kc p.1) (kc q.1)) s:=h
 obtain ⟨a,o1,us,n,e1,ho,_,hd,hk⟩:=ht _ m1
 obtain ⟨b,o2,ws,m,e2,ho2,_,hd2,hk2⟩:=ht _ m2
 rw [e1,e2] at h1
 rw [e1] at hk
 rw [e2] at hk2
 have s1:=(hs _ m1).trans (hs _ m2).symm
 rw [e1,e2] at s1
 rw [e1,e2]
 exact key_lt f ho hd ho2 hd2 s1 hk hk2 h1
end
end TS
namespace TS
open PySem PyProof.Rows L2
def gal:Bool→Keyed→Array Keyed→Nat→Nat→Nat→StateT SortSt Sem (Option Nat):=sortPriv% PySem.Builtin.gallop
def bey (lf:Bool) (ky:Keyed) (xs:Array Keyed) (bs i:Nat):StateT SortSt Sem (Option Bool):=do
 let x ← elem' xs (bs + i)
 if lf then lt' x ky else return (← lt' ky x).map (!·)
theorem gal_eq (lf:Bool) (ky:Keyed) (xs:Array Keyed) (bs n hi0:Nat):gal lf ky xs bs n hi0 = (do
  let mut la:=0
  let mut of:=1
  let mut l:=0
  let mut h:=0
  let some r ← bey lf ky xs bs hi0 | return none
  if r then
   let mx:=n - hi0
   for _ in [0:n] do
    if of ≥ mx then break
    let some m ← bey lf ky xs bs (hi0 + of) | return none
    if !m then break
    la:=of
    of:=2 * of + 1
   l:=hi0 + la + 1
   h:=hi0 + min of mx
  else
   let mx:=hi0 + 1
   for _ in [0:n] do
    if of ≥ mx then break
    let some m ← bey lf ky xs bs (hi0 - of) | return none
    if m then break
    la:=of
    of:=2 * of + 1
   l:=hi0 + 1 - min of mx
   h:=hi0 - la
  for _ in [0:n] do
   if l ≥ h then break
   let m:=l + (h - l) / 2
   let some v ← bey lf ky xs bs m | return none
   if v then l:=m + 1 else h:=m
  return some h):=rfl
section
variable {prog:Program} {w:World} {A:Around} {E:Value→Shared→Prop} {s:Shared} {f:Bool} {z:Array Keyed} {o:KeyKind}
def galEnd (lf:Bool) (ky:Keyed) (xs:Array Keyed) (bs n l0 h0:Nat):StateT SortSt Sem (Option Nat):=do
 let mut l:=l0
 let mut h:=h0
 for _ in [0:n] do
  if l ≥ h then break
  let m:=l + (h - l) / 2
  let some v ← bey lf ky xs bs m | return none
  if v then l:=m + 1 else h:=m
 return some h
theorem galEnd_wp {st:SortSt} {lf:Bool} {ky:Keyed} {xs:Array Keyed} {bs n l0 h0:Nat} {B:Nat→Bool} {Q:Option Nat→SortSt→Prop} (hb:∀ i,i < n→∀ R:Option Bool→SortSt→Prop,R (some (B i)) st→wpS (model prog w) A E s (bey lf ky xs bs i) R st)
  (anti:∀ i j,i≤j→j < n→B j = true→B i = true) (anti2:∀ i j,i≤j→j < n→B i = false→B j = false) (lh:l0≤h0) (hn:h0≤n) (bl:∀ i,i < l0→B i = true) (bh:∀ i,h0≤i→i < n→B i = false)
  (q:∀ k,k≤n→(∀ i,i < k→B i = true)→(∀ i,k≤i→i < n→B i = false)→Q (some k) st):wpS (model prog w) A E s (galEnd lf ky xs bs n l0 h0) Q st:=by
 refine wpS_bind (wpS_mono (wpS_forRange (I:=fun i c y => y = st∧∃ l h,c = (none,l,h)∧l≤h∧h≤n∧h - l≤n - i∧(∀ g,g < l→B g = true)∧∀ g,h≤g→g < n→B g = false) (Q:=fun c y => y = st∧∃ h,c = (none,h,h)∧h≤n∧(∀ g,g < h→B g = true)∧∀ g,h≤g→g < n→B g = false) (fun i c y i1 i2 hy => ?_) (fun c y hy => ?_) ⟨rfl,l0,h0,rfl,lh,hn,by omega,bl,bh⟩) fun c y hy => ?_)
 ·obtain ⟨rfl,l,h,rfl,h1,h2,h3,h4,h5⟩:=hy
  show wpS _ _ _ _ (if l ≥ h then _ else _) _ _
  rcases Nat.lt_or_ge l h with hlh | hlh
  ·rw [if_neg (by omega)]
   have hm:l + (h - l) / 2 < n:=by omega
   refine wpS_bind (hb _ hm _ ?_)
   show wpS _ _ _ _ (if B (l + (h - l) / 2) = true then _ else _) _ _
   cases hv:B (l + (h - l) / 2) with
   | true => rw [if_pos rfl]; exact wpS_pure ⟨rfl,l + (h - l) / 2 + 1,h,rfl,by omega,h2,by omega,fun g hg => anti g (l + (h - l) / 2) (by omega) hm hv,h5⟩
   | false => rw [if_neg Bool.false_ne_true]; exact wpS_pure ⟨rfl,l,l + (h - l) / 2,rfl,by omega,by omega,by omega,h4,fun g g1 g2 => anti2 _ g g1 g2 hv⟩
  ·rw [if_pos hlh]
   obtain rfl:l = h:=by omega
   exact wpS_pure ⟨rfl,l,rfl,h2,h4,h5⟩
 ·obtain ⟨rfl,l,h,rfl,h1,h2,h3,h4,h5⟩:=hy
  obtain rfl:l = h:=by omega
  exact ⟨rfl,l,rfl,h2,h4,h5⟩
 ·obtain ⟨rfl,h,rfl,h2,h4,h5⟩:=hy
  exact wpS_pure (q h h2 h4 h5)
theorem gal_wp {st:SortSt} {lf:Bool} {ky:Keyed} {xs:Array Keyed} {bs n hi0:Nat} {B:Nat→Bool} {Q:Option Nat→SortSt→Prop} (hb:∀ i,i < n→∀ R:Option Bool→SortSt→Prop,R (some (B i)) st→wpS (model prog w) A E s (bey lf ky xs bs i) R st)
  (anti:∀ i j,i≤j→j < n→B j = true→B i = true) (hh:hi0 < n) (q:∀ k,k≤n→(∀ i,i < k→B i = true)→(∀ i,k≤i→i < n→B i = false)→Q (some k) st):wpS (model prog w) A E s (gal lf ky xs bs n hi0) Q st:=by
 have anti2:∀ i j,i≤j→j < n→B i = false→B j = false:=fun i j hij hj hi => by
  cases hj2:B j with
  | false => rfl
  | true => rw [anti i j hij hj hj2] at hi; cases hi
 rw [gal_eq]
 refine wpS_bind (hb hi0 hh _ ?_)
 cases hr:B hi0 with
 | true =>
  refine wpS_bind (wpS_mono (wpS_forRange (I:=fun i c y => y = st∧∃ la k,c = (none,la,k)∧la < k∧i + 1≤k∧(hi0 + la < n→B (hi0 + la) = true)∧hi0 + la < n) (Q:=fun c y => y = st∧∃ la k,c = (none,la,k)∧la < k∧hi0 + la < n∧B (hi0 + la) = true∧(n - hi0≤k∨(hi0 + k < n∧B (hi0 + k) = false))) (fun i c y i1 i2 hy => ?_) (fun c y hy => ?_) ⟨rfl,0,1,rfl,by omega,by omega,fun _ => hr,by omega⟩) fun c y hy => ?_)
  ·obtain ⟨rfl,la,k,rfl,h1,h2,h3,h4⟩:=hy
   show wpS _ _ _ _ (if k ≥ n - hi0 then _ else _) _ _
   rcases Nat.lt_or_ge k (n - hi0) with hk | hk
   ·rw [if_neg (by omega)]
    refine wpS_bind (hb (hi0 + k) (by omega) _ ?_)
    show wpS _ _ _ _ (if (!B (hi0 + k)) = true then _ else _) _ _
    cases hv:B (hi0 + k) with
    | true => exact wpS_pure ⟨rfl,k,2 * k + 1,rfl,by omega,by omega,fun _ => hv,by omega⟩
    | false => exact wpS_pure ⟨rfl,la,k,rfl,h1,h4,h3 h4,.inr ⟨by omega,hv⟩⟩
   ·rw [if_pos hk]
    exact wpS_pure ⟨rfl,la,k,rfl,h1,h4,h3 h4,.inl hk⟩
  ·obtain ⟨rfl,la,k,rfl,h1,h2,h3,h4⟩:=hy
   exact ⟨rfl,la,k,rfl,h1,h4,h3 h4,.inl (by omega)⟩
  ·obtain ⟨rfl,la,k,rfl,h1,h4,h3,h5⟩:=hy
   refine galEnd_wp (l0:=hi0 + la + 1) (h0:=hi0 + min k (n - hi0)) hb anti anti2 ?_ ?_ (fun i hi => anti i _ (by omega) h4 h3) (fun i h6 h7 => ?_) q
   ·rcases h5 with h5 | h5
    ·rw [Nat.min_eq_right h5]; omega
    ·rw [Nat.min_eq_left (by omega)]; omega
   ·omega
   ·rcases h5 with h5 | h5
    ·rw [Nat.min_eq_right h5] at h6; omega
    ·rw [Nat.min_eq_left (by omega)] at h6; exact anti2 _ i h6 h7 h5.2
 | false =>
  refine wpS_bind (wpS_mono (wpS_forRange (I:=fun i c y => y = st∧∃ la k,c = (none,la,k)∧la < k∧i + 1≤k∧la≤hi0∧B (hi0 - la) = false) (Q:=fun c y => y = st∧∃ la k,c = (none,la,k)∧la < k∧la≤hi0∧B (hi0 - la) = false∧(hi0 + 1≤k∨(k≤hi0∧B (hi0 - k) = true))) (fun i c y i1 i2 hy => ?_) (fun c y hy => ?_) ⟨rfl,0,1,rfl,by omega,by omega,by omega,hr⟩) fun c y hy => ?_)
  ·obtain ⟨rfl,la,k,rfl,h1,h2,h3,h4⟩:=hy
   show wpS _ _ _ _ (if k ≥ hi0 + 1 then _ else _) _ _
   rcases Nat.lt_or_ge k (hi0 + 1) with hk | hk
   ·rw [if_neg (by omega)]
    refine wpS_bind (hb (hi0 - k) (by omega) _ ?_)
    show wpS _ _ _ _ (if B (hi0 - k) = true then _ else _) _ _
    cases hv:B (hi0 - k) with
    | true => rw [if_pos rfl]; exact wpS_pure ⟨rfl,la,k,rfl,h1,h3,h4,.inr ⟨by omega,hv⟩⟩
    | false => rw [if_neg Bool.false_ne_true]; exact wpS_pure ⟨rfl,k,2 * k + 1,rfl,by omega,by omega,by omega,hv⟩
   ·rw [if_pos hk]
    exact wpS_pure ⟨rfl,la,k,rfl,h1,h3,h4,.inl hk⟩
  ·obtain ⟨rfl,la,k,rfl,h1,h2,h3,h4⟩:=hy
   exact ⟨rfl,la,k,rfl,h1,h3,h4,.inl (by omega)⟩
  ·obtain ⟨rfl,la,k,rfl,h1,h3,h4,h5⟩:=hy
   refine galEnd_wp (l0:=hi0 + 1 - min k (hi0 + 1)) (h0:=hi0 - la) hb anti anti2 ?_ (by omega) (fun i hi => ?_) (fun i h6 h7 => anti2 _ i h6 h7 h4) q
   ·rcases h5 with h5 | h5
    ·rw [Nat.min_eq_right h5]; omega
    ·rw [Nat.min_eq_left (by omega)]; omega
   ·rcases h5 with h5 | h5
    ·rw [Nat.min_eq_right h5] at hi; omega
    ·rw [Nat.min_eq_left (by omega)] at hi; exact anti i (hi0 - k) (by omega) (by omega) h5.2
end
end TS
namespace TS
open PySem PyProof.Rows L2
def mLo:Array Keyed→Array Keyed→StateT SortSt Sem (Array Keyed):=sortPriv% PySem.Builtin.mergeLo
def mHi:Array Keyed→Array Keyed→StateT SortSt Sem (Array Keyed):=sortPriv% PySem.Builtin.mergeHi
def sMin:Nat→StateT SortSt Sem Unit:=sortPriv% PySem.Builtin.setMinGallop
def dnA (a b out:Array Keyed) (i j:Nat):Array Keyed:=out ++ a.extract i a.size ++ b.extract j b.size
def dnB (a b out:Array Keyed) (i j:Nat):Array Keyed:=out ++ b.extract j b.size ++ a.extract i a.size
theorem mLo_eq (a b:Array Keyed):mLo a b = (do
  liftM (rule "list.sort.merge-lo")
  let tt:=a.size + b.size
  let mut out:Array Keyed:=#[← elem' b 0]
  let mut i:=0
  let mut j:=1
  if j == b.size then return dnA a b out i j
  if i + 1 == a.size then return dnB a b out i j
  let mut mg:=gallopOf (← get)
  for _ in [0:tt] do
   let mut ca:=0
   let mut cb:=0
   for _ in [0:tt] do
    let some bw ← lt' (← elem' b j) (← elem' a i) | return dnA a b out i j
    if bw then
     out:=out.push (← elem' b j); j:=j + 1; cb:=cb + 1; ca:=0
     if j == b.size then return dnA a b out i j
     if cb ≥ mg then break
    else
     out:=out.push (← elem' a i); i:=i + 1; ca:=ca + 1; cb:=0
     if i + 1 == a.size then return dnB a b out i j
     if ca ≥ mg then break
   liftM (rule "list.sort.gallop")
   mg:=mg + 1
   for _ in [0:tt] do
    if mg > 1 then mg:=mg - 1
    sMin mg
    let some k ← gal false (← elem' b j) a i (a.size - i) 0 | return dnA a b out i j
    ca:=k
    if k > 0 then
     out:=out ++ a.extract i (i + k); i:=i + k
     if i + 1 == a.size then return dnB a b out i j
     if i == a.size then return dnA a b out i j
    out:=out.push (← elem' b j); j:=j + 1
    if j == b.size then return dnA a b out i j
    let some k ← gal true (← elem' a i) b j (b.size - j) 0 | return dnA a b out i j
    cb:=k
    if k > 0 then
     out:=out ++ b.extract j (j + k); j:=j + k
     if j == b.size then return dnA a b out i j
    out:=out.push (← elem' a i); i:=i + 1
    if i + 1 == a.size then return dnB a b out i j
    if ca < 7 && cb < 7 then break
   mg:=mg + 1
   sMin mg
  unsupported "internal:list.sort.merge-bound"):=rfl
section
variable {prog:Program} {w:World} {A:Around} {E:Value→Shared→Prop} {s:Shared} {f:Bool} {z:Array Keyed} {o:KeyKind}
structure Sm (x y:SortSt):Prop where
 ar:arrOf y = arrOf x
 kd:kindOf y = kindOf x
 fl:failedOf y = failedOf x
 pd:pendingOf y = pendingOf x
theorem Sm.refl (x:SortSt):Sm x x:=⟨rfl,rfl,rfl,rfl⟩
def le2 (o:KeyKind) (p q:Keyed):Prop:=o.kle (kv o p) (kv o q)
def Up (o:KeyKind) (l:List Keyed):Prop:=l.Pairwise (le2 o)
theorem le2_trans {p q r:Keyed} (h1:le2 o p q) (h2:le2 o q r):le2 o p r:=KeyOrd.kle_trans h1 h2
theorem lt_wp {st:SortSt} {p q:Keyed} {Q:Option Bool→SortSt→Prop} (O:Orc prog w A s f o z) (kd:kindOf st = tuples' f) (hp:p∈z.toList) (hq:q∈z.toList) (h:Q (some (o.blt (kv o p) (kv o q))) st):wpS (model prog w) A E s (lt' p q) Q st:=by
 rw [lt'_eq]
 refine wpS_bind (wpS_get ?_)
 rw [kd]
 exact wpS_bind (wpS_lift (wpAny_attempt (O _ p q _ hp hq ⟨rfl,wpS_pure h⟩)))
theorem el_wp {st:SortSt} {xs:Array Keyed} {i:Nat} {Q:Keyed→SortSt→Prop} (hi:i < xs.size) (h:Q xs[i] st):wpS (model prog w) A E s (elem' xs i) Q st:=by
 rw [elem'_eq,getElem?_pos xs i hi]
 exact wpS_pure h
theorem mem_at {xs:Array Keyed} {i:Nat} (hi:i < xs.size):xs[i]∈xs.toList:=Array.getElem_mem_toList hi
theorem Up.at_ {xs:Array Keyed} (u:Up o xs.toList) {i j:Nat} (hij:i≤j) (hj:j < xs.size):le2 o (xs[i]'(Nat.lt_of_le_of_lt hij hj)) xs[j]:=by
 rcases Nat.lt_or_ge i j with h | h
 ·have:=(List.pairwise_iff_getElem.mp u) i j (by simpa using Nat.lt_of_le_of_lt hij hj) (by simpa using hj) h
  simpa using this
 ·obtain rfl:i = j:=by omega
  exact KeyOrd.kle_refl _
theorem gal_left {st:SortSt} {ky:Keyed} {xs:Array Keyed} {bs n h0:Nat} {Q:Option Nat→SortSt→Prop} (O:Orc prog w A s f o z) (kd:kindOf st = tuples' f) (hx:∀ p∈xs.toList,p∈z.toList) (hk:ky∈z.toList) (hn:bs + n≤xs.size) (hh:h0 < n) (up:∀ i j (hij:i≤j) (hj:bs + j < xs.size),j < n→le2 o (xs[bs + i]'(by omega)) xs[bs + j])
  (q:∀ k,k≤n→(∀ i (hi:bs + i < xs.size),i < k→o.klt (kv o xs[bs + i]) (kv o ky))→(∀ i (hi:bs + i < xs.size),k≤i→i < n→le2 o ky xs[bs + i])→Q (some k) st):wpS (model prog w) A E s (gal true ky xs bs n h0) Q st:=by
 refine gal_wp (B:=fun i => if hi:bs + i < xs.size then o.blt (kv o xs[bs + i]) (kv o ky) else false) (fun i hi R hR => ?_) (fun i j hij hj h => ?_) hh fun k hk1 h1 h2 => q k hk1 (fun i hi hik => ?_) (fun i hi hik hin => ?_)
 ·rw [dif_pos (by omega)] at hR
  refine wpS_bind (el_wp (by omega) ?_)
  rw [if_pos rfl]
  exact lt_wp O kd (hx _ (mem_at _)) hk hR
 ·have hj2:bs + j < xs.size:=by omega
  have hi2:bs + i < xs.size:=by omega
  simp only [dif_pos hj2,dif_pos hi2] at h ⊢
  exact KeyOrd.klt_of_kle_of_klt (up i j hij hj2 hj) h
 ·have:=h1 i hik
  rw [dif_pos hi] at this
  exact this
 ·have:=h2 i hik hin
  rw [dif_pos hi] at this
  exact this
theorem gal_right {st:SortSt} {ky:Keyed} {xs:Array Keyed} {bs n h0:Nat} {Q:Option Nat→SortSt→Prop} (O:Orc prog w A s f o z) (kd:kindOf st = tuples' f) (hx:∀ p∈xs.toList,p∈z.toList) (hk:ky∈z.toList) (hn:bs + n≤xs.size) (hh:h0 < n) (up:∀ i j (hij:i≤j) (hj:bs + j < xs.size),j < n→le2 o (xs[bs + i]'(by omega)) xs[bs + j])
  (q:∀ k,k≤n→(∀ i (hi:bs + i < xs.size),i < k→le2 o xs[bs + i] ky)→(∀ i (hi:bs + i < xs.size),k≤i→i < n→o.klt (kv o ky) (kv o xs[bs + i]))→Q (some k) st):wpS (model prog w) A E s (gal false ky xs bs n h0) Q st:=by
 refine gal_wp (B:=fun i => if hi:bs + i < xs.size then !o.blt (kv o ky) (kv o xs[bs + i]) else false) (fun i hi R hR => ?_) (fun i j hij hj h => ?_) hh fun k hk1 h1 h2 => q k hk1 (fun i hi hik => ?_) (fun i hi hik hin => ?_)
 ·rw [dif_pos (by omega)] at hR
  refine wpS_bind (el_wp (by omega) ?_)
  rw [if_neg Bool.false_ne_true]
  exact wpS_bind (lt_wp O kd hk (hx _ (mem_at _)) (wpS_pure hR))
 ·have hj2:bs + j < xs.size:=by omega
  have hi2:bs + i < xs.size:=by omega
  simp only [dif_pos hj2,dif_pos hi2,Bool.not_eq_true'] at h ⊢
  exact KeyOrd.kle_trans (up i j hij hj2 hj) h
 ·have:=h1 i hik
  rw [dif_pos hi,Bool.not_eq_true'] at this
  exact this
 ·have:=h2 i hik hin
  rw [dif_pos hi,Bool.not_eq_false'] at this
  exact this
structure ML (o:KeyKind) (a b out:Array Keyed) (i j:Nat):Prop where
 pm:(out.toList ++ (a.toList.drop i ++ b.toList.drop j)).Perm (a.toList ++ b.toList)
 up:Up o out.toList
 le:∀ p∈out.toList,∀ q∈a.toList.drop i ++ b.toList.drop j,le2 o p q
theorem ML.mvA {a b out:Array Keyed} {i j k:Nat} (m:ML o a b out i j) (ua:Up o a.toList) (hk:i + k≤a.size) (h:∀ p∈(a.toList.drop i).take k,∀ q∈b.toList.drop j,le2 o p q):ML o a b (out ++ a.extract i (i + k)) (i + k) j:=by
 have e:(out ++ a.extract i (i + k)).toList = out.toList ++ (a.toList.drop i).take k:=by
  rw [Array.toList_append,Array.toList_extract,List.extract_eq_drop_take,Nat.add_sub_cancel_left]
 have e2:a.toList.drop i = (a.toList.drop i).take k ++ a.toList.drop (i + k):=by rw [← List.drop_drop,List.take_append_drop]
 have ud:Up o (a.toList.drop i):=ua.drop
 refine ⟨?_,?_,?_⟩
 ·rw [e,List.append_assoc,← List.append_assoc (List.take _ _),← e2]; exact m.pm
 ·rw [e]
  refine List.pairwise_append.mpr ⟨m.up,ud.take,fun p hp q hq => m.le p hp q (List.mem_append_left _ (List.mem_of_mem_take hq))⟩
 ·rw [e]
  intro p hp q hq
  rcases List.mem_append.mp hp with hp | hp
  ·rcases List.mem_append.mp hq with hq | hq
   ·exact m.le p hp q (List.mem_append_left _ (by rw [e2]; exact List.mem_append_right _ hq))
   ·exact m.le p hp q (List.mem_append_right _ hq)
  ·rcases List.mem_append.mp hq with hq | hq
   ·rw [e2] at ud
    exact (List.pairwise_append.mp ud).2.2 p hp q hq
   ·exact h p hp q hq
theorem ML.mvB {a b out:Array Keyed} {i j k:Nat} (m:ML o a b out i j) (ub:Up o b.toList) (hk:j + k≤b.size) (h:∀ p∈(b.toList.drop j).take k,∀ q∈a.toList.drop i,le2 o p q):ML o a b (out ++ b.extract j (j + k)) i (j + k):=by
 have e:(out ++ b.extract j (j + k)).toList = out.toList ++ (b.toList.drop j).take k:=by
  rw [Array.toList_append,Array.toList_extract,List.extract_eq_drop_take,Nat.add_sub_cancel_left]
 have e2:b.toList.drop j = (b.toList.drop j).take k ++ b.toList.drop (j + k):=by rw [← List.drop_drop,List.take_append_drop]
 have ud:Up o (b.toList.drop j):=ub.drop
 refine ⟨?_,?_,?_⟩
 ·rw [e]
  refine List.Perm.trans ?_ m.pm
  rw [List.append_assoc]
  refine List.Perm.append_left _ ?_
  conv => rhs; rw [e2]
  exact (List.perm_append_comm_assoc _ _ _)
 ·rw [e]
  refine List.pairwise_append.mpr ⟨m.up,ud.take,fun p hp q hq => m.le p hp q (List.mem_append_right _ (List.mem_of_mem_take hq))⟩
 ·rw [e]
  intro p hp q hq
  rcases List.mem_append.mp hp with hp | hp
  ·rcases List.mem_append.mp hq with hq | hq
   ·exact m.le p hp q (List.mem_append_left _ hq)
   ·exact m.le p hp q (List.mem_append_right _ (by rw [e2]; exact List.mem_append_right _ hq))
  ·rcases List.mem_append.mp hq with hq | hq
   ·exact h p hp q hq
   ·rw [e2] at ud
    exact (List.pairwise_append.mp ud).2.2 p hp q hq
theorem ext1 {xs:Array Keyed} {i:Nat} (hi:i < xs.size):xs.extract i (i + 1) = #[xs[i]]:=by
 apply Array.toList_inj.mp
 rw [Array.toList_extract,List.extract_eq_drop_take,Nat.add_sub_cancel_left,List.drop_eq_getElem_cons (by simpa using hi)]
 simp
theorem push_ext {out xs:Array Keyed} {i:Nat} (hi:i < xs.size):out.push xs[i] = out ++ xs.extract i (i + 1):=by
 rw [ext1 hi,Array.push_eq_append]
theorem mem_drop {xs:Array Keyed} {i:Nat} {p:Keyed} (h:p∈xs.toList.drop i):∃ k,∃ hk:i + k < xs.size,p = xs[i + k]:=by
 obtain ⟨k,hk,e⟩:=List.mem_iff_getElem.mp h
 rw [List.length_drop,Array.length_toList] at hk
 refine ⟨k,by omega,?_⟩
 rw [← e,List.getElem_drop,Array.getElem_toList]
theorem mem_tk {xs:Array Keyed} {i n:Nat} {p:Keyed} (h:p∈(xs.toList.drop i).take n):∃ k,∃ hk:i + k < xs.size,k < n∧p = xs[i + k]:=by
 obtain ⟨k,hk,e⟩:=List.mem_iff_getElem.mp h
 rw [List.length_take,List.length_drop,Array.length_toList] at hk
 refine ⟨k,by omega,by omega,?_⟩
 rw [← e,List.getElem_take,List.getElem_drop,Array.getElem_toList]
structure Mg (o:KeyKind) (a b m:Array Keyed):Prop where
 pm:m.toList.Perm (a.toList ++ b.toList)
 up:Up o m.toList
theorem ML.endA {a b out:Array Keyed} {i j:Nat} (m:ML o a b out i j) (ua:Up o a.toList) (ub:Up o b.toList) (h:j = b.size∨i = a.size):Mg o a b (dnA a b out i j):=by
 have e:(dnA a b out i j).toList = out.toList ++ (a.toList.drop i ++ b.toList.drop j):=by
  unfold dnA
  rw [Array.toList_append,Array.toList_append,Array.toList_extract,Array.toList_extract,List.extract_eq_drop_take,List.extract_eq_drop_take,List.append_assoc]
  congr 2 <;> exact List.take_of_length_le (by simp)
 have z0:a.toList.drop i = []∨b.toList.drop j = []:=by
  rcases h with h | h
  ·exact .inr (List.drop_eq_nil_of_le (by simp [h]))
  ·exact .inl (List.drop_eq_nil_of_le (by simp [h]))
 refine ⟨by rw [e]; exact m.pm,?_⟩
 rw [e]
 refine List.pairwise_append.mpr ⟨m.up,?_,m.le⟩
 rcases z0 with z0 | z0 <;> rw [z0]
 ·exact ub.drop
 ·rw [List.append_nil]; exact ua.drop
theorem ML.endB {a b out:Array Keyed} {i j:Nat} (m:ML o a b out i j) (ub:Up o b.toList) (h:i + 1 = a.size) (hl:∀ p∈b.toList,∀ hi:i < a.size,le2 o p a[i]):Mg o a b (dnB a b out i j):=by
 have hi:i < a.size:=by omega
 have e1:a.toList.drop i = [a[i]]:=by
  rw [List.drop_eq_getElem_cons (by simpa using hi),List.drop_eq_nil_of_le (by simp; omega)]; simp
 have e:(dnB a b out i j).toList = out.toList ++ (b.toList.drop j ++ a.toList.drop i):=by
  unfold dnB
  rw [Array.toList_append,Array.toList_append,Array.toList_extract,Array.toList_extract,List.extract_eq_drop_take,List.extract_eq_drop_take,List.append_assoc]
  congr 2 <;> exact List.take_of_length_le (by simp)
 refine ⟨?_,?_⟩
 ·rw [e]
  exact List.Perm.trans (List.Perm.append_left _ List.perm_append_comm) m.pm
 ·rw [e]
  refine List.pairwise_append.mpr ⟨m.up,List.pairwise_append.mpr ⟨ub.drop,by rw [e1]; exact List.pairwise_singleton _ _,fun p hp q hq => ?_⟩,fun p hp q hq => m.le p hp q ?_⟩
  ·rw [e1,List.mem_singleton] at hq
   rw [hq]
   exact hl p (List.mem_of_mem_drop hp) hi
  ·rcases List.mem_append.mp hq with hq | hq
   ·exact List.mem_append_right _ hq
   ·exact List.mem_append_left _ hq
end
end TS
namespace TS
open PySem PyProof.Rows L2
abbrev LS:=Option (Array Keyed) × Array Keyed × Nat × Nat × Nat × Nat × Nat
def lo3 (a b:Array Keyed) (i mg ca cb:Nat) (out:Array Keyed) (j:Nat):StateT SortSt Sem (ForInStep LS):=do
 let x ← elem' a i
 if (i + 1 + 1 == a.size) = true then pure (.done (some (dnB a b (out.push x) (i + 1) j),out.push x,i + 1,j,mg,ca,cb))
 else if (decide (ca < 7) && decide (cb < 7)) = true then pure (.done (none,out.push x,i + 1,j,mg,ca,cb))
 else pure (.yield (none,out.push x,i + 1,j,mg,ca,cb))
def lo2 (a b:Array Keyed) (j mg ca cb:Nat) (out:Array Keyed) (i:Nat):StateT SortSt Sem (ForInStep LS):=do
 let x ← elem' b j
 if (j + 1 == b.size) = true then pure (.done (some (dnA a b (out.push x) i (j + 1)),out.push x,i,j + 1,mg,ca,cb))
 else
  let y ← elem' a i
  let some k ← gal true y b (j + 1) (b.size - (j + 1)) 0 | pure (.done (some (dnA a b (out.push x) i (j + 1)),out.push x,i,j + 1,mg,ca,cb))
  if k > 0 then
   if (j + 1 + k == b.size) = true then pure (.done (some (dnA a b (out.push x ++ b.extract (j + 1) (j + 1 + k)) i (j + 1 + k)),out.push x ++ b.extract (j + 1) (j + 1 + k),i,j + 1 + k,mg,ca,k))
   else lo3 a b i mg ca k (out.push x ++ b.extract (j + 1) (j + 1 + k)) (j + 1 + k)
  else lo3 a b i mg ca k (out.push x) (j + 1)
def lo1 (a b out:Array Keyed) (i j ca cb mg:Nat):StateT SortSt Sem (ForInStep LS):=do
 sMin mg
 let x ← elem' b j
 let some k ← gal false x a i (a.size - i) 0 | pure (.done (some (dnA a b out i j),out,i,j,mg,ca,cb))
 if k > 0 then
  if (i + k + 1 == a.size) = true then pure (.done (some (dnB a b (out ++ a.extract i (i + k)) (i + k) j),out ++ a.extract i (i + k),i + k,j,mg,k,cb))
  else if (i + k == a.size) = true then pure (.done (some (dnA a b (out ++ a.extract i (i + k)) (i + k) j),out ++ a.extract i (i + k),i + k,j,mg,k,cb))
  else lo2 a b j mg k cb (out ++ a.extract i (i + k)) (i + k)
 else lo2 a b j mg k cb out i
section
variable {prog:Program} {w:World} {A:Around} {E:Value→Shared→Prop} {s:Shared} {f:Bool} {z:Array Keyed} {o:KeyKind}
structure LI (o:KeyKind) (a b:Array Keyed) (st:SortSt) (t:Nat) (out:Array Keyed) (i j:Nat) (y:SortSt):Prop where
 sm:Sm st y
 ml:ML o a b out i j
 hi:i + 1 < a.size
 hj:j < b.size
 tt:t≤i + j
def LFin (o:KeyKind) (a b:Array Keyed) (st:SortSt) (t:Nat) (c:LS) (y:SortSt):Prop:=(∃ m,c.1 = some m∧Sm st y∧Mg o a b m)∨(c.1 = none∧LI o a b st t c.2.1 c.2.2.1 c.2.2.2.1 y)
def LPost (o:KeyKind) (a b:Array Keyed) (st:SortSt) (t:Nat):ForInStep LS→SortSt→Prop:=fun r y => match r with | .done c => LFin o a b st t c y | .yield c => c.1 = none∧LI o a b st t c.2.1 c.2.2.1 c.2.2.2.1 y
structure Two (o:KeyKind) (f:Bool) (z a b:Array Keyed) (st:SortSt):Prop where
 kd:kindOf st = tuples' f
 ma:∀ p∈a.toList,p∈z.toList
 mb:∀ p∈b.toList,p∈z.toList
 ua:Up o a.toList
 ub:Up o b.toList
 hl:∀ p∈b.toList,∀ hi:a.size - 1 < a.size,le2 o p a[a.size - 1]
 h0:∀ p∈a.toList,∀ hi:0 < b.size,le2 o b[0] p
theorem Sm.trans {x y u:SortSt} (h:Sm x y) (g:Sm y u):Sm x u:=⟨g.ar.trans h.ar,g.kd.trans h.kd,g.fl.trans h.fl,g.pd.trans h.pd⟩
theorem Two.last {a b:Array Keyed} {st:SortSt} (T:Two o f z a b st) {i:Nat} (h:i + 1 = a.size):∀ p∈b.toList,∀ hi:i < a.size,le2 o p a[i]:=fun p hp hi => by
 have e:a.size - 1 = i:=by omega
 have:=T.hl p hp (by omega)
 simp only [e] at this
 exact this
theorem lo3_wp {a b:Array Keyed} {st y:SortSt} {t i j mg ca cb:Nat} {out:Array Keyed} (T:Two o f z a b st) (sm:Sm st y) (ml:ML o a b out i j) (hi:i + 1 < a.size) (hj:j < b.size) (tt:t≤i + j + 1) (h:∀ q∈b.toList.drop j,le2 o a[i] q) :
  wpS (model prog w) A E s (lo3 a b i mg ca cb out j) (LPost o a b st t) y:=by
 refine wpS_bind (el_wp (by omega) ?_)
 have m2:ML o a b (out.push a[i]) (i + 1) j:=by
  rw [push_ext (by omega)]
  refine ml.mvA T.ua (by omega) fun p hp q hq => ?_
  obtain ⟨k,hk,k1,rfl⟩:=mem_tk hp
  obtain rfl:k = 0:=by omega
  exact h q hq
 rcases Nat.lt_or_ge (i + 1 + 1) a.size with h1 | h1
 ·rw [if_neg (by rw [beq_iff_eq]; omega)]
  have li:LI o a b st t (out.push a[i]) (i + 1) j y:=⟨sm,m2,h1,hj,by omega⟩
  split
  ·exact wpS_pure (.inr ⟨rfl,li⟩)
  ·exact wpS_pure ⟨rfl,li⟩
 ·rw [if_pos (by rw [beq_iff_eq]; omega)]
  exact wpS_pure (.inl ⟨_,rfl,sm,m2.endB T.ub (by omega) (T.last (by omega))⟩)
theorem drop_lt {xs:Array Keyed} {j k:Nat} {q:Keyed} (h:q∈xs.toList.drop (j + k)):∃ g,∃ hg:j + g < xs.size,k≤g∧q = xs[j + g]:=by
 obtain ⟨g,hg,rfl⟩:=mem_drop h
 exact ⟨k + g,by omega,by omega,by congr 1; omega⟩
theorem lo2_wp {a b:Array Keyed} {st y:SortSt} {t i j mg ca cb:Nat} {out:Array Keyed} (O:Orc prog w A s f o z) (T:Two o f z a b st) (sm:Sm st y) (ml:ML o a b out i j) (hi:i + 1 < a.size) (hj:j < b.size) (tt:t≤i + j) (h:∀ q∈a.toList.drop i,le2 o b[j] q) :
  wpS (model prog w) A E s (lo2 a b j mg ca cb out i) (LPost o a b st t) y:=by
 refine wpS_bind (el_wp hj ?_)
 have m2:ML o a b (out.push b[j]) i (j + 1):=by
  rw [push_ext hj]
  refine ml.mvB T.ub (by omega) fun p hp q hq => ?_
  obtain ⟨k,hk,k1,rfl⟩:=mem_tk hp
  obtain rfl:k = 0:=by omega
  exact h q hq
 rcases Nat.lt_or_ge (j + 1) b.size with h1 | h1
 ·rw [if_neg (by rw [beq_iff_eq]; omega)]
  refine wpS_bind (el_wp (by omega) (wpS_bind (gal_left O (sm.kd.trans T.kd) T.mb (T.ma _ (mem_at _)) (by omega) (by omega) (fun g k hgk hk _ => T.ub.at_ (by omega) hk) fun k hk less rest => ?_)))
  show wpS _ _ _ _ (if k > 0 then _ else _) _ _
  have rest2:∀ q∈b.toList.drop (j + 1 + k),le2 o a[i] q:=fun q hq => by
   obtain ⟨g,hg,hkg,rfl⟩:=drop_lt hq
   exact rest g hg hkg (by omega)
  rcases Nat.lt_or_ge 0 k with h2 | h2
  ·rw [if_pos h2]
   have m3:ML o a b (out.push b[j] ++ b.extract (j + 1) (j + 1 + k)) i (j + 1 + k):=m2.mvB T.ub (by omega) fun p hp q hq => by
    obtain ⟨g,hg,g1,rfl⟩:=mem_tk hp
    obtain ⟨g',hg',rfl⟩:=mem_drop hq
    exact le2_trans (KeyOrd.kle_of_klt (less g hg g1)) (T.ua.at_ (by omega) hg')
   rcases Nat.lt_or_ge (j + 1 + k) b.size with h3 | h3
   ·rw [if_neg (by rw [beq_iff_eq]; omega)]
    exact lo3_wp T sm m3 hi h3 (by omega) rest2
   ·rw [if_pos (by rw [beq_iff_eq]; omega)]
    exact wpS_pure (.inl ⟨_,rfl,sm,m3.endA T.ua T.ub (.inl (by omega))⟩)
  ·rw [if_neg (by omega)]
   obtain rfl:k = 0:=by omega
   exact lo3_wp T sm m2 hi h1 (by omega) rest2
 ·rw [if_pos (by rw [beq_iff_eq]; omega)]
  exact wpS_pure (.inl ⟨_,rfl,sm,m2.endA T.ua T.ub (.inl (by omega))⟩)
theorem sMin_wp {y:SortSt} {mg:Nat} {Q:Unit→SortSt→Prop} (h:∀ y',Sm y y'→Q () y'):wpS (model prog w) A E s (sMin mg) Q y:=wpS_modify (h _ ⟨rfl,rfl,rfl,rfl⟩)
theorem lo1_wp {a b:Array Keyed} {st y:SortSt} {t i j mg ca cb:Nat} {out:Array Keyed} (O:Orc prog w A s f o z) (T:Two o f z a b st) (li:LI o a b st t out i j y) :
  wpS (model prog w) A E s (lo1 a b out i j ca cb mg) (LPost o a b st t) y:=by
 obtain ⟨sm0,ml,hi,hj,tt⟩:=li
 refine wpS_bind (sMin_wp fun y' s' => ?_)
 have sm:=sm0.trans s'
 refine wpS_bind (el_wp hj (wpS_bind (gal_right O (sm.kd.trans T.kd) T.ma (T.mb _ (mem_at _)) (by omega) (by omega) (fun g k hgk hk _ => T.ua.at_ (by omega) hk) fun k hk less rest => ?_)))
 show wpS _ _ _ _ (if k > 0 then _ else _) _ _
 have rest2:∀ q∈a.toList.drop (i + k),le2 o b[j] q:=fun q hq => by
  obtain ⟨g,hg,hkg,rfl⟩:=drop_lt hq
  exact KeyOrd.kle_of_klt (rest g hg hkg (by omega))
 rcases Nat.lt_or_ge 0 k with h2 | h2
 ·rw [if_pos h2]
  have m2:ML o a b (out ++ a.extract i (i + k)) (i + k) j:=ml.mvA T.ua (by omega) fun p hp q hq => by
   obtain ⟨g,hg,g1,rfl⟩:=mem_tk hp
   obtain ⟨g',hg',rfl⟩:=mem_drop hq
   exact le2_trans (less g hg g1) (T.ub.at_ (by omega) hg')
  rcases Nat.lt_or_ge (i + k + 1) a.size with h3 | h3
  ·rw [if_neg (by rw [beq_iff_eq]; omega),if_neg (by rw [beq_iff_eq]; omega)]
   exact lo2_wp O T sm m2 h3 hj (by omega) rest2
  ·rcases Nat.lt_or_ge a.size (i + k + 1) with h4 | h4
   ·rw [if_neg (by rw [beq_iff_eq]; omega),if_pos (by rw [beq_iff_eq]; omega)]
    exact wpS_pure (.inl ⟨_,rfl,sm,m2.endA T.ua T.ub (.inr (by omega))⟩)
   ·rw [if_pos (by rw [beq_iff_eq]; omega)]
    exact wpS_pure (.inl ⟨_,rfl,sm,m2.endB T.ub (by omega) (T.last (by omega))⟩)
 ·rw [if_neg (by omega)]
  obtain rfl:k = 0:=by omega
  exact lo2_wp O T sm ml hi hj tt rest2
theorem pr5 {α β γ δ ε:Type} {G:α × β × γ × δ × ε→Prop} (h:∀ a b c d e,G (a,b,c,d,e)):∀ x,G x:=fun (a,b,c,d,e) => h a b c d e
theorem pr6 {α β γ δ ε ζ:Type} {G:α × β × γ × δ × ε × ζ→Prop} (h:∀ a b c d e f,G (a,b,c,d,e,f)):∀ x,G x:=fun (a,b,c,d,e,f) => h a b c d e f
theorem pr7 {α β γ δ ε ζ η:Type} {G:α × β × γ × δ × ε × ζ × η→Prop} (h:∀ a b c d e f g,G (a,b,c,d,e,f,g)):∀ x,G x:=fun (a,b,c,d,e,f,g) => h a b c d e f g
theorem mLo_wp {st:SortSt} {a b:Array Keyed} {Q:Array Keyed→SortSt→Prop} (O:Orc prog w A s f o z) (T:Two o f z a b st) (ha:0 < a.size) (hb:0 < b.size) (q:∀ m y,Sm st y→Mg o a b m→Q m y):wpS (model prog w) A E s (mLo a b) Q st:=by
 rw [mLo_eq]
 refine wpS_bind (wpS_lift (wpAny_rule ⟨rfl,wpS_bind (el_wp hb ?_)⟩))
 have m1:ML o a b #[b[0]] 0 1:=by
  refine ⟨?_,List.pairwise_singleton _ _,fun p hp q hq => ?_⟩
  ·have e:b.toList = b[0] :: b.toList.drop 1:=by
    have:=List.drop_eq_getElem_cons (l:=b.toList) (i:=0) (by simpa using hb)
    simpa using this
   show (b[0] :: (a.toList ++ b.toList.drop 1)).Perm _
   conv => rhs; rw [e]
   exact List.perm_middle.symm
  ·obtain rfl:=List.mem_singleton.mp hp
   rcases List.mem_append.mp hq with hq | hq
   ·exact T.h0 q hq hb
   ·obtain ⟨k,hk,rfl⟩:=mem_drop hq
    exact T.ub.at_ (Nat.zero_le _) hk
 rcases Nat.lt_or_ge 1 b.size with hb2 | hb2
 rotate_left
 ·rw [if_pos (by rw [beq_iff_eq]; omega)]
  exact wpS_pure (q _ _ (Sm.refl _) (m1.endA T.ua T.ub (.inl (by omega))))
 rw [if_neg (by rw [beq_iff_eq]; omega)]
 rcases Nat.lt_or_ge 1 a.size with ha2 | ha2
 rotate_left
 ·rw [if_pos (by rw [beq_iff_eq]; omega)]
  exact wpS_pure (q _ _ (Sm.refl _) (m1.endB T.ub (by omega) (T.last (by omega))))
 rw [if_neg (by rw [beq_iff_eq]; omega)]
 refine wpS_bind (wpS_get (wpS_bind (wpS_mono (wpS_forRange (I:=fun x c y => c.1 = none∧LI o a b st (1 + x) c.2.1 c.2.2.1 c.2.2.2.1 y) (Q:=fun c y => ∃ m,c.1 = some m∧Sm st y∧Mg o a b m) (fun x c y _ _ hy => ?_) (fun c y hy => ?_) ⟨rfl,Sm.refl _,m1,by show 0 + 1 < _; omega,hb2,by show 1 + 0≤0 + 1; omega⟩) fun c y hy => ?_)))
 ·revert c
  refine pr5 fun c1 out i j mg => ?_
  intro hy
  obtain ⟨e1,li⟩:=hy
  refine wpS_bind (wpS_mono (wpS_forRange (I:=fun x' c y => c.1 = none∧LI o a b st (1 + x + x') c.2.1 c.2.2.1 c.2.2.2.1 y) (Q:=fun c y => (∃ m,c.1 = some m∧Sm st y∧Mg o a b m)∨(c.1 = none∧LI o a b st (1 + x + 1) c.2.1 c.2.2.1 c.2.2.2.1 y)) (fun x' c y _ _ hy => ?_) (fun c y hy => ?_) ⟨rfl,li⟩) fun c y hy => ?_)
  ·revert c
   refine pr6 fun c1 out i j ca cb => ?_
   intro hy
   obtain ⟨e1,sm,ml,hi,hj,tt⟩:=hy
   change i + 1 < a.size at hi
   change j < b.size at hj
   change 1 + x + x'≤i + j at tt
   change ML o a b out i j at ml
   refine wpS_bind (el_wp hj (wpS_bind (el_wp (show i < a.size by omega) (wpS_bind (lt_wp O (sm.kd.trans T.kd) (T.mb _ (mem_at _)) (T.ma _ (mem_at _)) ?_)))))
   show wpS _ _ _ _ (if o.blt (kv o b[j]) (kv o a[i]) = true then _ else _) _ _
   cases hv:o.blt (kv o b[j]) (kv o a[i]) with
   | true =>
    rw [if_pos rfl]
    refine wpS_bind (el_wp hj ?_)
    have m2:ML o a b (out.push b[j]) i (j + 1):=by
     rw [push_ext hj]
     refine ml.mvB T.ub (by omega) fun p hp q hq => ?_
     obtain ⟨k,hk,k1,rfl⟩:=mem_tk hp
     obtain rfl:k = 0:=by omega
     obtain ⟨g,hg,rfl⟩:=mem_drop hq
     exact le2_trans (KeyOrd.kle_of_klt hv) (T.ua.at_ (by omega) hg)
    show wpS _ _ _ _ (if (j + 1 == b.size) = true then _ else _) _ _
    rcases Nat.lt_or_ge (j + 1) b.size with h1 | h1
    ·rw [if_neg (by rw [beq_iff_eq]; omega)]
     have li:∀ t,t≤i + (j + 1)→LI o a b st t (out.push b[j]) i (j + 1) y:=fun t ht => ⟨sm,m2,hi,h1,ht⟩
     show wpS _ _ _ _ (if cb + 1 ≥ mg then _ else _) _ _
     split
     ·exact wpS_pure (.inr ⟨rfl,li _ (by omega)⟩)
     ·exact wpS_pure ⟨rfl,li _ (by omega)⟩
    ·rw [if_pos (by rw [beq_iff_eq]; omega)]
     exact wpS_pure (.inl ⟨_,rfl,sm,m2.endA T.ua T.ub (.inl (by omega))⟩)
   | false =>
    rw [if_neg Bool.false_ne_true]
    refine wpS_bind (el_wp (show i < a.size by omega) ?_)
    have m2:ML o a b (out.push a[i]) (i + 1) j:=by
     rw [push_ext (show i < a.size by omega)]
     refine ml.mvA T.ua (by omega) fun p hp q hq => ?_
     obtain ⟨k,hk,k1,rfl⟩:=mem_tk hp
     obtain rfl:k = 0:=by omega
     obtain ⟨g,hg,rfl⟩:=mem_drop hq
     exact le2_trans (show le2 o a[i] b[j] from hv) (T.ub.at_ (by omega) hg)
    show wpS _ _ _ _ (if (i + 1 + 1 == a.size) = true then _ else _) _ _
    rcases Nat.lt_or_ge (i + 1 + 1) a.size with h1 | h1
    ·rw [if_neg (by rw [beq_iff_eq]; omega)]
     have li:∀ t,t≤i + 1 + j→LI o a b st t (out.push a[i]) (i + 1) j y:=fun t ht => ⟨sm,m2,h1,hj,ht⟩
     show wpS _ _ _ _ (if ca + 1 ≥ mg then _ else _) _ _
     split
     ·exact wpS_pure (.inr ⟨rfl,li _ (by omega)⟩)
     ·exact wpS_pure ⟨rfl,li _ (by omega)⟩
    ·rw [if_pos (by rw [beq_iff_eq]; omega)]
     exact wpS_pure (.inl ⟨_,rfl,sm,m2.endB T.ub (by omega) (T.last (by omega))⟩)
  ·obtain ⟨e1,li⟩:=hy
   have h1:=li.hi
   have h2:=li.hj
   exact .inr ⟨e1,li.sm,li.ml,li.hi,li.hj,Nat.le_trans (by omega) li.tt⟩
  ·revert c
   refine pr6 fun c1 out i j ca cb => ?_
   intro hy
   rcases hy with ⟨m,rfl,sm,mm⟩ | ⟨rfl,li⟩
   ·exact wpS_pure ⟨m,rfl,sm,mm⟩
   ·refine wpS_bind (wpS_lift (wpAny_rule ⟨rfl,wpS_bind (wpS_mono (wpS_forRange (I:=fun x' c y => c.1 = none∧LI o a b st (1 + x + 1) c.2.1 c.2.2.1 c.2.2.2.1 y) (Q:=LFin o a b st (1 + x + 1)) (fun x' c y _ _ hy => ?_) (fun c y hy => .inr hy) ⟨rfl,li⟩) fun c y hy => ?_)⟩))
    ·revert c
     refine pr7 fun c1 out i j mg ca cb => ?_
     intro hy
     obtain ⟨e1,li⟩:=hy
     show wpS _ _ _ _ (if mg > 1 then lo1 a b out i j ca cb (mg - 1) else lo1 a b out i j ca cb mg) _ _
     change LI o a b st (1 + x + 1) out i j y at li
     split
     ·exact wpS_mono (lo1_wp O T li) fun r y h => by cases r <;> exact h
     ·exact wpS_mono (lo1_wp O T li) fun r y h => by cases r <;> exact h
    ·revert c
     refine pr7 fun c1 out i j mg ca cb => ?_
     intro hy
     rcases hy with ⟨m,rfl,sm,mm⟩ | ⟨rfl,li⟩
     ·exact wpS_pure ⟨m,rfl,sm,mm⟩
     ·exact wpS_bind (sMin_wp fun y' s' => wpS_pure ⟨rfl,li.sm.trans s',li.ml,li.hi,li.hj,by have:=li.tt; omega⟩)
 ·obtain ⟨e1,li⟩:=hy
  have h1:=li.hi
  have h2:=li.hj
  have h3:=li.tt
  omega
 ·revert c
  refine pr5 fun c1 out i j mg => ?_
  intro hy
  obtain ⟨m,rfl,sm,mm⟩:=hy
  exact wpS_pure (q m y sm mm)
end
end TS
namespace TS
open PySem PyProof.Rows L2
def dnC (a b out:Array Keyed) (m n:Nat):Array Keyed:=a.extract 0 m ++ b.extract 0 n ++ out.reverse
def dnD (a b out:Array Keyed) (m n:Nat):Array Keyed:=b.extract 0 n ++ a.extract 0 m ++ out.reverse
theorem mHi_eq (a b:Array Keyed):mHi a b = (do
  liftM (rule "list.sort.merge-hi")
  let tt:=a.size + b.size
  let mut m:=a.size - 1
  let mut n:=b.size
  let mut out:Array Keyed:=#[← elem' a m]
  if m == 0 then return dnC a b out m n
  if n == 1 then return dnD a b out m n
  let mut mg:=gallopOf (← get)
  for _ in [0:tt] do
   let mut ca:=0
   let mut cb:=0
   for _ in [0:tt] do
    let some aw ← lt' (← elem' b (n - 1)) (← elem' a (m - 1)) | return dnC a b out m n
    if aw then
     m:=m - 1; out:=out.push (← elem' a m); ca:=ca + 1; cb:=0
     if m == 0 then return dnC a b out m n
     if ca ≥ mg then break
    else
     n:=n - 1; out:=out.push (← elem' b n); cb:=cb + 1; ca:=0
     if n == 1 then return dnD a b out m n
     if cb ≥ mg then break
   liftM (rule "list.sort.gallop")
   mg:=mg + 1
   for _ in [0:tt] do
    if mg > 1 then mg:=mg - 1
    sMin mg
    let some g ← gal false (← elem' b (n - 1)) a 0 m (m - 1) | return dnC a b out m n
    let k:=m - g
    ca:=k
    if k > 0 then
     out:=out ++ (a.extract g m).reverse; m:=g
     if m == 0 then return dnC a b out m n
    n:=n - 1; out:=out.push (← elem' b n)
    if n == 1 then return dnD a b out m n
    let some g ← gal true (← elem' a (m - 1)) b 0 n (n - 1) | return dnC a b out m n
    let k:=n - g
    cb:=k
    if k > 0 then
     out:=out ++ (b.extract g n).reverse; n:=g
     if n == 1 then return dnD a b out m n
     if n == 0 then return dnC a b out m n
    m:=m - 1; out:=out.push (← elem' a m)
    if m == 0 then return dnC a b out m n
    if ca < 7 && cb < 7 then break
   mg:=mg + 1
   sMin mg
  unsupported "internal:list.sort.merge-bound"):=rfl
abbrev HS:=Option (Array Keyed) × Nat × Nat × Array Keyed × Nat × Nat × Nat
def hi3 (a b:Array Keyed) (m mg ca cb:Nat) (out:Array Keyed) (n:Nat):StateT SortSt Sem (ForInStep HS):=do
 let x ← elem' a (m - 1)
 if (m - 1 == 0) = true then pure (.done (some (dnC a b (out.push x) (m - 1) n),m - 1,n,out.push x,mg,ca,cb))
 else if (decide (ca < 7) && decide (cb < 7)) = true then pure (.done (none,m - 1,n,out.push x,mg,ca,cb))
 else pure (.yield (none,m - 1,n,out.push x,mg,ca,cb))
def hi2 (a b:Array Keyed) (n mg ca cb:Nat) (out:Array Keyed) (m:Nat):StateT SortSt Sem (ForInStep HS):=do
 let x ← elem' b (n - 1)
 if (n - 1 == 1) = true then pure (.done (some (dnD a b (out.push x) m (n - 1)),m,n - 1,out.push x,mg,ca,cb))
 else
  let y ← elem' a (m - 1)
  let some g ← gal true y b 0 (n - 1) (n - 1 - 1) | pure (.done (some (dnC a b (out.push x) m (n - 1)),m,n - 1,out.push x,mg,ca,cb))
  if n - 1 - g > 0 then
   if (g == 1) = true then pure (.done (some (dnD a b (out.push x ++ (b.extract g (n - 1)).reverse) m g),m,g,out.push x ++ (b.extract g (n - 1)).reverse,mg,ca,n - 1 - g))
   else if (g == 0) = true then pure (.done (some (dnC a b (out.push x ++ (b.extract g (n - 1)).reverse) m g),m,g,out.push x ++ (b.extract g (n - 1)).reverse,mg,ca,n - 1 - g))
   else hi3 a b m mg ca (n - 1 - g) (out.push x ++ (b.extract g (n - 1)).reverse) g
  else hi3 a b m mg ca (n - 1 - g) (out.push x) (n - 1)
def hi1 (a b out:Array Keyed) (m n ca cb mg:Nat):StateT SortSt Sem (ForInStep HS):=do
 sMin mg
 let x ← elem' b (n - 1)
 let some g ← gal false x a 0 m (m - 1) | pure (.done (some (dnC a b out m n),m,n,out,mg,ca,cb))
 if m - g > 0 then
  if (g == 0) = true then pure (.done (some (dnC a b (out ++ (a.extract g m).reverse) g n),g,n,out ++ (a.extract g m).reverse,mg,m - g,cb))
  else hi2 a b n mg (m - g) cb (out ++ (a.extract g m).reverse) g
 else hi2 a b n mg (m - g) cb out m
section
variable {prog:Program} {w:World} {A:Around} {E:Value→Shared→Prop} {s:Shared} {f:Bool} {z:Array Keyed} {o:KeyKind}
structure MH (o:KeyKind) (a b out:Array Keyed) (m n:Nat):Prop where
 pm:((a.toList.take m ++ b.toList.take n) ++ out.toList.reverse).Perm (a.toList ++ b.toList)
 up:Up o out.toList.reverse
 le:∀ p∈a.toList.take m ++ b.toList.take n,∀ q∈out.toList,le2 o p q
theorem ext_rev {out xs:Array Keyed} {g m:Nat}:(out ++ (xs.extract g m).reverse).toList.reverse = (xs.toList.take m).drop g ++ out.toList.reverse:=by
 rw [Array.toList_append,Array.toList_reverse,Array.toList_extract,List.reverse_append,List.reverse_reverse,List.extract_eq_drop_take,← List.drop_take]
theorem tk_split {l:List Keyed} {g m:Nat} (h:g≤m):l.take m = l.take g ++ (l.take m).drop g:=by
 have:=(List.take_append_drop g (l.take m)).symm
 rwa [List.take_take,Nat.min_eq_left h] at this
theorem MH.mvA {a b out:Array Keyed} {m n g:Nat} (x:MH o a b out m n) (ua:Up o a.toList) (hg:g≤m) (h:∀ p∈(a.toList.take m).drop g,∀ q∈b.toList.take n,le2 o q p):MH o a b (out ++ (a.extract g m).reverse) g n:=by
 have ut:Up o (a.toList.take m):=ua.take
 have e2:=tk_split (l:=a.toList) hg
 have mo:∀ q,q∈(out ++ (a.extract g m).reverse).toList↔q∈(a.toList.take m).drop g∨q∈out.toList:=fun q => by
  rw [← List.mem_reverse,ext_rev,List.mem_append,List.mem_reverse]
 refine ⟨?_,?_,fun p hp q hq => ?_⟩
 ·rw [ext_rev]
  refine List.Perm.trans ?_ x.pm
  rw [← List.append_assoc]
  refine List.Perm.append_right _ ?_
  conv => rhs; rw [e2]
  rw [List.append_assoc,List.append_assoc]
  exact List.Perm.append_left _ List.perm_append_comm
 ·rw [ext_rev]
  refine List.pairwise_append.mpr ⟨ut.drop,x.up,fun p hp q hq => x.le p (List.mem_append_left _ (List.mem_of_mem_drop hp)) q (List.mem_reverse.mp hq)⟩
 ·rcases (mo q).mp hq with hq | hq
  ·rcases List.mem_append.mp hp with hp | hp
   ·rw [e2] at ut
    exact (List.pairwise_append.mp ut).2.2 p hp q hq
   ·exact h q hq p hp
  ·refine x.le p ?_ q hq
   rcases List.mem_append.mp hp with hp | hp
   ·exact List.mem_append_left _ (by rw [e2]; exact List.mem_append_left _ hp)
   ·exact List.mem_append_right _ hp
theorem MH.mvB {a b out:Array Keyed} {m n g:Nat} (x:MH o a b out m n) (ub:Up o b.toList) (hg:g≤n) (h:∀ p∈(b.toList.take n).drop g,∀ q∈a.toList.take m,le2 o q p):MH o a b (out ++ (b.extract g n).reverse) m g:=by
 have ut:Up o (b.toList.take n):=ub.take
 have e2:=tk_split (l:=b.toList) hg
 have mo:∀ q,q∈(out ++ (b.extract g n).reverse).toList↔q∈(b.toList.take n).drop g∨q∈out.toList:=fun q => by
  rw [← List.mem_reverse,ext_rev,List.mem_append,List.mem_reverse]
 refine ⟨?_,?_,fun p hp q hq => ?_⟩
 ·rw [ext_rev]
  refine List.Perm.trans ?_ x.pm
  rw [← List.append_assoc]
  refine List.Perm.append_right _ ?_
  conv => rhs; rw [e2]
  rw [List.append_assoc]
 ·rw [ext_rev]
  refine List.pairwise_append.mpr ⟨ut.drop,x.up,fun p hp q hq => x.le p (List.mem_append_right _ (List.mem_of_mem_drop hp)) q (List.mem_reverse.mp hq)⟩
 ·rcases (mo q).mp hq with hq | hq
  ·rcases List.mem_append.mp hp with hp | hp
   ·exact h q hq p hp
   ·rw [e2] at ut
    exact (List.pairwise_append.mp ut).2.2 p hp q hq
  ·refine x.le p ?_ q hq
   rcases List.mem_append.mp hp with hp | hp
   ·exact List.mem_append_left _ hp
   ·exact List.mem_append_right _ (by rw [e2]; exact List.mem_append_left _ hp)
theorem ext_tk {xs:Array Keyed} {m:Nat}:(xs.extract 0 m).toList = xs.toList.take m:=by
 rw [Array.toList_extract,List.extract_eq_drop_take,List.drop_zero,Nat.sub_zero]
theorem MH.endC {a b out:Array Keyed} {m n:Nat} (x:MH o a b out m n) (ua:Up o a.toList) (ub:Up o b.toList) (h:m = 0∨n = 0):Mg o a b (dnC a b out m n):=by
 have e:(dnC a b out m n).toList = (a.toList.take m ++ b.toList.take n) ++ out.toList.reverse:=by
  unfold dnC
  rw [Array.toList_append,Array.toList_append,ext_tk,ext_tk,Array.toList_reverse]
 refine ⟨by rw [e]; exact x.pm,?_⟩
 rw [e]
 refine List.pairwise_append.mpr ⟨?_,x.up,fun p hp q hq => x.le p hp q (List.mem_reverse.mp hq)⟩
 rcases h with rfl | rfl
 ·rw [List.take_zero,List.nil_append]; exact ub.take
 ·rw [List.take_zero,List.append_nil]; exact ua.take
theorem MH.endD {a b out:Array Keyed} {m n:Nat} (x:MH o a b out m n) (ua:Up o a.toList) (hn:n = 1) (hb:0 < b.size) (h0:∀ p∈a.toList,le2 o b[0] p):Mg o a b (dnD a b out m n):=by
 have e1:b.toList.take n = [b[0]]:=by
  rw [hn,List.take_one]
  have:b.toList.head? = some b[0]:=by rw [List.head?_eq_getElem?]; simp [hb]
  rw [this]; rfl
 have e:(dnD a b out m n).toList = (b.toList.take n ++ a.toList.take m) ++ out.toList.reverse:=by
  unfold dnD
  rw [Array.toList_append,Array.toList_append,ext_tk,ext_tk,Array.toList_reverse]
 refine ⟨?_,?_⟩
 ·rw [e]
  exact List.Perm.trans (List.Perm.append_right _ List.perm_append_comm) x.pm
 ·rw [e]
  refine List.pairwise_append.mpr ⟨List.pairwise_append.mpr ⟨by rw [e1]; exact List.pairwise_singleton _ _,ua.take,fun p hp q hq => ?_⟩,x.up,fun p hp q hq => x.le p ?_ q (List.mem_reverse.mp hq)⟩
  ·rw [e1,List.mem_singleton] at hp
   rw [hp]
   exact h0 q (List.mem_of_mem_take hq)
  ·rcases List.mem_append.mp hp with hp | hp
   ·exact List.mem_append_right _ hp
   ·exact List.mem_append_left _ hp
theorem push_rev {out xs:Array Keyed} {m:Nat} (h1:1≤m) (hm:m≤xs.size):out.push (xs[m - 1]'(by omega)) = out ++ (xs.extract (m - 1) m).reverse:=by
 have:=ext1 (xs:=xs) (i:=m - 1) (by omega)
 rw [show m - 1 + 1 = m by omega] at this
 rw [this,Array.push_eq_append]
 rfl
theorem mem_td {xs:Array Keyed} {g m:Nat} {p:Keyed} (h:p∈(xs.toList.take m).drop g):∃ k,∃ hk:k < xs.size,g≤k∧k < m∧p = xs[k]:=by
 obtain ⟨k,hk,e⟩:=List.mem_iff_getElem.mp h
 rw [List.length_drop,List.length_take,Array.length_toList] at hk
 refine ⟨g + k,by omega,by omega,by omega,?_⟩
 rw [← e,List.getElem_drop,List.getElem_take,Array.getElem_toList]
theorem mem_t {xs:Array Keyed} {m:Nat} {p:Keyed} (h:p∈xs.toList.take m):∃ k,∃ hk:k < xs.size,k < m∧p = xs[k]:=by
 obtain ⟨k,hk,e⟩:=List.mem_iff_getElem.mp h
 rw [List.length_take,Array.length_toList] at hk
 refine ⟨k,by omega,by omega,?_⟩
 rw [← e,List.getElem_take,Array.getElem_toList]
structure HI (o:KeyKind) (a b:Array Keyed) (st:SortSt) (t:Nat) (out:Array Keyed) (m n:Nat) (y:SortSt):Prop where
 sm:Sm st y
 mh:MH o a b out m n
 m1:1≤m
 ma:m≤a.size
 n2:2≤n
 nb:n≤b.size
 tt:m + n + t≤a.size + b.size
def HFin (o:KeyKind) (a b:Array Keyed) (st:SortSt) (t:Nat) (c:HS) (y:SortSt):Prop:=(∃ r,c.1 = some r∧Sm st y∧Mg o a b r)∨(c.1 = none∧HI o a b st t c.2.2.2.1 c.2.1 c.2.2.1 y)
def HPost (o:KeyKind) (a b:Array Keyed) (st:SortSt) (t:Nat):ForInStep HS→SortSt→Prop:=fun r y => match r with | .done c => HFin o a b st t c y | .yield c => c.1 = none∧HI o a b st t c.2.2.2.1 c.2.1 c.2.2.1 y
theorem hi3_wp {a b:Array Keyed} {st y:SortSt} {t m n mg ca cb:Nat} {out:Array Keyed} (T:Two o f z a b st) (sm:Sm st y) (mh:MH o a b out m n) (m1:1≤m) (ma:m≤a.size) (n2:2≤n) (nb:n≤b.size) (tt:m + n + t≤a.size + b.size + 1) (h:∀ q∈b.toList.take n,∀ hm:m - 1 < a.size,le2 o q a[m - 1]) :
  wpS (model prog w) A E s (hi3 a b m mg ca cb out n) (HPost o a b st t) y:=by
 refine wpS_bind (el_wp (show m - 1 < a.size by omega) ?_)
 have m2:MH o a b (out.push a[m - 1]) (m - 1) n:=by
  rw [push_rev m1 ma]
  refine mh.mvA T.ua (by omega) fun p hp q hq => ?_
  obtain ⟨k,hk,k1,k2,rfl⟩:=mem_td hp
  obtain rfl:k = m - 1:=by omega
  exact h q hq hk
 rcases Nat.lt_or_ge 0 (m - 1) with h1 | h1
 ·rw [if_neg (by rw [beq_iff_eq]; omega)]
  have hi:HI o a b st t (out.push a[m - 1]) (m - 1) n y:=⟨sm,m2,h1,by omega,n2,nb,by omega⟩
  split
  ·exact wpS_pure (.inr ⟨rfl,hi⟩)
  ·exact wpS_pure ⟨rfl,hi⟩
 ·rw [if_pos (by rw [beq_iff_eq]; omega)]
  exact wpS_pure (.inl ⟨_,rfl,sm,m2.endC T.ua T.ub (.inl (by omega))⟩)
theorem hi2_wp {a b:Array Keyed} {st y:SortSt} {t m n mg ca cb:Nat} {out:Array Keyed} (O:Orc prog w A s f o z) (T:Two o f z a b st) (sm:Sm st y) (mh:MH o a b out m n) (m1:1≤m) (ma:m≤a.size) (n2:2≤n) (nb:n≤b.size) (tt:m + n + t≤a.size + b.size) (h:∀ q∈a.toList.take m,∀ hn:n - 1 < b.size,le2 o q b[n - 1]) :
  wpS (model prog w) A E s (hi2 a b n mg ca cb out m) (HPost o a b st t) y:=by
 refine wpS_bind (el_wp (show n - 1 < b.size by omega) ?_)
 have m2:MH o a b (out.push b[n - 1]) m (n - 1):=by
  rw [push_rev (by omega) nb]
  refine mh.mvB T.ub (by omega) fun p hp q hq => ?_
  obtain ⟨k,hk,k1,k2,rfl⟩:=mem_td hp
  obtain rfl:k = n - 1:=by omega
  exact h q hq hk
 have h0:∀ p∈a.toList,le2 o b[0] p:=fun p hp => T.h0 p hp (by omega)
 rcases Nat.lt_or_ge 1 (n - 1) with h1 | h1
 ·rw [if_neg (by rw [beq_iff_eq]; omega)]
  refine wpS_bind (el_wp (show m - 1 < a.size by omega) (wpS_bind (gal_left O (sm.kd.trans T.kd) T.mb (T.ma _ (mem_at _)) (by omega) (by omega) (fun g k hgk hk _ => T.ub.at_ (by omega) hk) fun g hg less rest => ?_)))
  simp only [Nat.zero_add] at less rest
  show wpS _ _ _ _ (if n - 1 - g > 0 then _ else _) _ _
  have below:∀ q∈b.toList.take g,∀ hm:m - 1 < a.size,le2 o q a[m - 1]:=fun q hq hm => by
   obtain ⟨k,hk,k1,rfl⟩:=mem_t hq
   exact KeyOrd.kle_of_klt (less k hk k1)
  rcases Nat.lt_or_ge g (n - 1) with h2 | h2
  ·rw [if_pos (by omega)]
   have m3:MH o a b (out.push b[n - 1] ++ (b.extract g (n - 1)).reverse) m g:=m2.mvB T.ub (by omega) fun p hp q hq => by
    obtain ⟨k,hk,k1,k2,rfl⟩:=mem_td hp
    obtain ⟨k',hk',k3,rfl⟩:=mem_t hq
    exact le2_trans (T.ua.at_ (by omega) (show m - 1 < a.size by omega)) (rest k hk k1 (by omega))
   rcases Nat.lt_or_ge 1 g with h3 | h3
   ·rw [if_neg (by rw [beq_iff_eq]; omega),if_neg (by rw [beq_iff_eq]; omega)]
    exact hi3_wp T sm m3 m1 ma h3 (by omega) (by omega) below
   ·rcases Nat.lt_or_ge 0 g with h4 | h4
    ·rw [if_pos (by rw [beq_iff_eq]; omega)]
     exact wpS_pure (.inl ⟨_,rfl,sm,m3.endD T.ua (by omega) (by omega) h0⟩)
    ·rw [if_neg (by rw [beq_iff_eq]; omega),if_pos (by rw [beq_iff_eq]; omega)]
     exact wpS_pure (.inl ⟨_,rfl,sm,m3.endC T.ua T.ub (.inr (by omega))⟩)
  ·rw [if_neg (by omega)]
   obtain rfl:g = n - 1:=by omega
   exact hi3_wp T sm m2 m1 ma h1 (by omega) (by omega) below
 ·rw [if_pos (by rw [beq_iff_eq]; omega)]
  exact wpS_pure (.inl ⟨_,rfl,sm,m2.endD T.ua (by omega) (by omega) h0⟩)
theorem hi1_wp {a b:Array Keyed} {st y:SortSt} {t m n mg ca cb:Nat} {out:Array Keyed} (O:Orc prog w A s f o z) (T:Two o f z a b st) (hi:HI o a b st t out m n y) :
  wpS (model prog w) A E s (hi1 a b out m n ca cb mg) (HPost o a b st t) y:=by
 obtain ⟨sm0,mh,m1,ma,n2,nb,tt⟩:=hi
 refine wpS_bind (sMin_wp fun y' s' => ?_)
 have sm:=sm0.trans s'
 refine wpS_bind (el_wp (show n - 1 < b.size by omega) (wpS_bind (gal_right O (sm.kd.trans T.kd) T.ma (T.mb _ (mem_at _)) (by omega) (by omega) (fun g k hgk hk _ => T.ua.at_ (by omega) hk) fun g hg less rest => ?_)))
 simp only [Nat.zero_add] at less rest
 show wpS _ _ _ _ (if m - g > 0 then _ else _) _ _
 have below:∀ q∈a.toList.take g,∀ hn:n - 1 < b.size,le2 o q b[n - 1]:=fun q hq hn => by
  obtain ⟨k,hk,k1,rfl⟩:=mem_t hq
  exact less k hk k1
 rcases Nat.lt_or_ge g m with h2 | h2
 ·rw [if_pos (by omega)]
  have m2:MH o a b (out ++ (a.extract g m).reverse) g n:=mh.mvA T.ua (by omega) fun p hp q hq => by
   obtain ⟨k,hk,k1,k2,rfl⟩:=mem_td hp
   obtain ⟨k',hk',k3,rfl⟩:=mem_t hq
   exact le2_trans (T.ub.at_ (by omega) (show n - 1 < b.size by omega)) (KeyOrd.kle_of_klt (rest k hk k1 (by omega)))
  rcases Nat.lt_or_ge 0 g with h3 | h3
  ·rw [if_neg (by rw [beq_iff_eq]; omega)]
   exact hi2_wp O T sm m2 h3 (by omega) n2 nb (by omega) below
  ·rw [if_pos (by rw [beq_iff_eq]; omega)]
   exact wpS_pure (.inl ⟨_,rfl,sm,m2.endC T.ua T.ub (.inl (by omega))⟩)
 ·rw [if_neg (by omega)]
  obtain rfl:g = m:=by omega
  exact hi2_wp O T sm mh m1 ma n2 nb tt below
theorem mHi_wp {st:SortSt} {a b:Array Keyed} {Q:Array Keyed→SortSt→Prop} (O:Orc prog w A s f o z) (T:Two o f z a b st) (ha:0 < a.size) (hb:0 < b.size) (q:∀ m y,Sm st y→Mg o a b m→Q m y):wpS (model prog w) A E s (mHi a b) Q st:=by
 rw [mHi_eq]
 have ha1:a.size - 1 < a.size:=by omega
 have h0:∀ p∈a.toList,le2 o b[0] p:=fun p hp => T.h0 p hp hb
 refine wpS_bind (wpS_lift (wpAny_rule ⟨rfl,wpS_bind (el_wp ha1 ?_)⟩))
 have m1:MH o a b #[a[a.size - 1]] (a.size - 1) b.size:=by
  have e:a.toList = a.toList.take (a.size - 1) ++ [a[a.size - 1]]:=by
   have:=(List.take_append_drop (a.size - 1) a.toList).symm
   rw [List.drop_eq_getElem_cons (by simpa using ha1),List.drop_eq_nil_of_le (by simp; omega)] at this
   simpa using this
  have eb:b.toList.take b.size = b.toList:=List.take_of_length_le (by simp)
  refine ⟨?_,List.pairwise_singleton _ _,fun p hp q hq => ?_⟩
  ·rw [eb]
   show ((a.toList.take (a.size - 1) ++ b.toList) ++ [a[a.size - 1]]).Perm _
   conv => rhs; rw [e]
   rw [List.append_assoc,List.append_assoc]
   exact List.Perm.append_left _ List.perm_append_comm
  ·obtain rfl:=List.mem_singleton.mp hq
   rcases List.mem_append.mp hp with hp | hp
   ·obtain ⟨k,hk,k1,rfl⟩:=mem_t hp
    exact T.ua.at_ (by omega) ha1
   ·exact T.hl p (List.mem_of_mem_take hp) ha1
 rcases Nat.lt_or_ge 1 a.size with ha2 | ha2
 rotate_left
 ·rw [if_pos (by rw [beq_iff_eq]; omega)]
  exact wpS_pure (q _ _ (Sm.refl _) (m1.endC T.ua T.ub (.inl (by omega))))
 rw [if_neg (by rw [beq_iff_eq]; omega)]
 rcases Nat.lt_or_ge 1 b.size with hb2 | hb2
 rotate_left
 ·rw [if_pos (by rw [beq_iff_eq]; omega)]
  exact wpS_pure (q _ _ (Sm.refl _) (m1.endD T.ua (by omega) hb h0))
 rw [if_neg (by rw [beq_iff_eq]; omega)]
 refine wpS_bind (wpS_get (wpS_bind (wpS_mono (wpS_forRange (I:=fun x c y => c.1 = none∧HI o a b st (1 + x) c.2.2.2.1 c.2.1 c.2.2.1 y) (Q:=fun c y => ∃ m,c.1 = some m∧Sm st y∧Mg o a b m) (fun x c y _ _ hy => ?_) (fun c y hy => ?_) ⟨rfl,Sm.refl _,m1,by show 1≤a.size - 1; omega,by show a.size - 1≤_; omega,hb2,Nat.le_refl _,by show a.size - 1 + b.size + (1 + 0)≤_; omega⟩) fun c y hy => ?_)))
 ·revert c
  refine pr5 fun c1 m n out mg => ?_
  intro hy
  obtain ⟨e1,li⟩:=hy
  refine wpS_bind (wpS_mono (wpS_forRange (I:=fun x' c y => c.1 = none∧HI o a b st (1 + x + x') c.2.2.2.1 c.2.1 c.2.2.1 y) (Q:=fun c y => (∃ m,c.1 = some m∧Sm st y∧Mg o a b m)∨(c.1 = none∧HI o a b st (1 + x + 1) c.2.2.2.1 c.2.1 c.2.2.1 y)) (fun x' c y _ _ hy => ?_) (fun c y hy => ?_) ⟨rfl,li⟩) fun c y hy => ?_)
  ·revert c
   refine pr6 fun c1 m n out ca cb => ?_
   intro hy
   obtain ⟨e1,sm,mh,m1,ma,n2,nb,tt⟩:=hy
   change 1≤m at m1
   change m≤a.size at ma
   change 2≤n at n2
   change n≤b.size at nb
   change m + n + (1 + x + x')≤a.size + b.size at tt
   change MH o a b out m n at mh
   refine wpS_bind (el_wp (show n - 1 < b.size by omega) (wpS_bind (el_wp (show m - 1 < a.size by omega) (wpS_bind (lt_wp O (sm.kd.trans T.kd) (T.mb _ (mem_at _)) (T.ma _ (mem_at _)) ?_)))))
   show wpS _ _ _ _ (if o.blt (kv o (b[n - 1]'(by omega))) (kv o (a[m - 1]'(by omega))) = true then _ else _) _ _
   cases hv:o.blt (kv o (b[n - 1]'(by omega))) (kv o (a[m - 1]'(by omega))) with
   | true =>
    rw [if_pos rfl]
    refine wpS_bind (el_wp (show m - 1 < a.size by omega) ?_)
    have m2:MH o a b (out.push (a[m - 1]'(by omega))) (m - 1) n:=by
     rw [push_rev m1 ma]
     refine mh.mvA T.ua (by omega) fun p hp q hq => ?_
     obtain ⟨k,hk,k1,k2,rfl⟩:=mem_td hp
     obtain rfl:k = m - 1:=by omega
     obtain ⟨g,hg,g1,rfl⟩:=mem_t hq
     exact le2_trans (T.ub.at_ (show g≤n - 1 by omega) (show n - 1 < b.size by omega)) (KeyOrd.kle_of_klt hv)
    show wpS _ _ _ _ (if (m - 1 == 0) = true then _ else _) _ _
    rcases Nat.lt_or_ge 0 (m - 1) with h1 | h1
    ·rw [if_neg (by rw [beq_iff_eq]; omega)]
     have li:∀ t,m - 1 + n + t≤a.size + b.size→HI o a b st t (out.push (a[m - 1]'(by omega))) (m - 1) n y:=fun t ht => ⟨sm,m2,h1,by omega,n2,nb,ht⟩
     show wpS _ _ _ _ (if ca + 1 ≥ mg then _ else _) _ _
     split
     ·exact wpS_pure (.inr ⟨rfl,li _ (by omega)⟩)
     ·exact wpS_pure ⟨rfl,li _ (by omega)⟩
    ·rw [if_pos (by rw [beq_iff_eq]; omega)]
     exact wpS_pure (.inl ⟨_,rfl,sm,m2.endC T.ua T.ub (.inl (by omega))⟩)
   | false =>
    rw [if_neg Bool.false_ne_true]
    refine wpS_bind (el_wp (show n - 1 < b.size by omega) ?_)
    have m2:MH o a b (out.push (b[n - 1]'(by omega))) m (n - 1):=by
     rw [push_rev (show 1≤n by omega) nb]
     refine mh.mvB T.ub (by omega) fun p hp q hq => ?_
     obtain ⟨k,hk,k1,k2,rfl⟩:=mem_td hp
     obtain rfl:k = n - 1:=by omega
     obtain ⟨g,hg,g1,rfl⟩:=mem_t hq
     exact le2_trans (T.ua.at_ (show g≤m - 1 by omega) (show m - 1 < a.size by omega)) hv
    show wpS _ _ _ _ (if (n - 1 == 1) = true then _ else _) _ _
    rcases Nat.lt_or_ge 1 (n - 1) with h1 | h1
    ·rw [if_neg (by rw [beq_iff_eq]; omega)]
     have li:∀ t,m + (n - 1) + t≤a.size + b.size→HI o a b st t (out.push (b[n - 1]'(by omega))) m (n - 1) y:=fun t ht => ⟨sm,m2,m1,ma,h1,by omega,ht⟩
     show wpS _ _ _ _ (if cb + 1 ≥ mg then _ else _) _ _
     split
     ·exact wpS_pure (.inr ⟨rfl,li _ (by omega)⟩)
     ·exact wpS_pure ⟨rfl,li _ (by omega)⟩
    ·rw [if_pos (by rw [beq_iff_eq]; omega)]
     exact wpS_pure (.inl ⟨_,rfl,sm,m2.endD T.ua (by omega) hb h0⟩)
  ·obtain ⟨e1,li⟩:=hy
   exact .inr ⟨e1,li.sm,li.mh,li.m1,li.ma,li.n2,li.nb,Nat.le_trans (by omega) li.tt⟩
  ·revert c
   refine pr6 fun c1 m n out ca cb => ?_
   intro hy
   rcases hy with ⟨m,rfl,sm,mm⟩ | ⟨rfl,li⟩
   ·exact wpS_pure ⟨m,rfl,sm,mm⟩
   ·refine wpS_bind (wpS_lift (wpAny_rule ⟨rfl,wpS_bind (wpS_mono (wpS_forRange (I:=fun x' c y => c.1 = none∧HI o a b st (1 + x + 1) c.2.2.2.1 c.2.1 c.2.2.1 y) (Q:=HFin o a b st (1 + x + 1)) (fun x' c y _ _ hy => ?_) (fun c y hy => .inr hy) ⟨rfl,li⟩) fun c y hy => ?_)⟩))
    ·revert c
     refine pr7 fun c1 m n out mg ca cb => ?_
     intro hy
     obtain ⟨e1,li⟩:=hy
     show wpS _ _ _ _ (if mg > 1 then hi1 a b out m n ca cb (mg - 1) else hi1 a b out m n ca cb mg) _ _
     change HI o a b st (1 + x + 1) out m n y at li
     split
     ·exact wpS_mono (hi1_wp O T li) fun r y h => by cases r <;> exact h
     ·exact wpS_mono (hi1_wp O T li) fun r y h => by cases r <;> exact h
    ·revert c
     refine pr7 fun c1 m n out mg ca cb => ?_
     intro hy
     rcases hy with ⟨m,rfl,sm,mm⟩ | ⟨rfl,li⟩
     ·exact wpS_pure ⟨m,rfl,sm,mm⟩
     ·exact wpS_bind (sMin_wp fun y' s' => wpS_pure ⟨rfl,li.sm.trans s',li.mh,li.m1,li.ma,li.n2,li.nb,by have:=li.tt; omega⟩)
 ·obtain ⟨e1,li⟩:=hy
  have h1:=li.m1
  have h2:=li.n2
  have h3:=li.tt
  omega
 ·revert c
  refine pr5 fun c1 m n out mg => ?_
  intro hy
  obtain ⟨m,rfl,sm,mm⟩:=hy
  exact wpS_pure (q m y sm mm)
end
end TS
namespace TS
open PySem PyProof.Rows L2
theorem mAt_eq (i:Nat):mergeAt' i = (do
  let t ← get
  let (some (sa,na,pw),some (sb,nb,_)):=((pendingOf t)[i]?,(pendingOf t)[i + 1]?) | unsupported "internal:list.sort.pending"
  set (setPending t (((pendingOf t).setIfInBounds i (sa,na + nb,pw)).eraseIdxIfInBounds (i + 1)))
  let some k ← gal false (← elem' (arrOf t) sb) (arrOf t) sa na 0 | return false
  let (sa,na):=(sa + k,na - k)
  if na == 0 then return true
  let some nb ← gal true (← elem' (arrOf t) (sa + na - 1)) (arrOf t) sb nb (nb - 1) | return false
  if nb == 0 then return true
  let x:=(arrOf t).extract sa sb
  let y:=(arrOf t).extract sb (sb + nb)
  let m ← if na≤nb then mLo x y else mHi x y
  modify fun t => setArr t (m.toList.zipIdx.foldl (fun u (p,j) => u.setIfInBounds (sa + j) p) (arrOf t))
  return (failedOf (← get)).isNone):=rfl
def seg (xs:Array Keyed) (lo n:Nat):List Keyed:=(xs.toList.drop lo).take n
theorem seg_ext {xs:Array Keyed} {lo n:Nat}:(xs.extract lo (lo + n)).toList = seg xs lo n:=by
 rw [Array.toList_extract,List.extract_eq_drop_take,Nat.add_sub_cancel_left]; rfl
theorem seg_split (xs:Array Keyed) (lo k n:Nat) (h:k≤n):seg xs lo n = seg xs lo k ++ seg xs (lo + k) (n - k):=by
 unfold seg
 have:=(List.take_append_drop k ((xs.toList.drop lo).take n)).symm
 rw [List.take_take,Nat.min_eq_left h,List.drop_take,List.drop_drop] at this
 exact this
theorem seg_mem {xs:Array Keyed} {lo n:Nat} {p:Keyed} (h:p∈seg xs lo n):∃ k,∃ hk:lo + k < xs.size,k < n∧p = xs[lo + k]:=mem_tk h
theorem seg_sub {xs:Array Keyed} {lo n:Nat} {p:Keyed} (h:p∈seg xs lo n):p∈xs.toList:=List.mem_of_mem_drop (List.mem_of_mem_take h)
theorem seg_len {xs:Array Keyed} {lo n:Nat} (h:lo + n≤xs.size):(seg xs lo n).length = n:=by
 unfold seg
 rw [List.length_take,List.length_drop,Array.length_toList]; omega
theorem seg_get {xs:Array Keyed} {lo n i:Nat} (h:i < (seg xs lo n).length) (h2:lo + i < xs.size):(seg xs lo n)[i] = xs[lo + i]:=by
 simp only [seg,List.getElem_take,List.getElem_drop,Array.getElem_toList]
section
variable {prog:Program} {w:World} {A:Around} {E:Value→Shared→Prop} {s:Shared} {f:Bool} {z:Array Keyed} {o:KeyKind}
theorem seg_up {xs:Array Keyed} {lo n:Nat} (u:Up o (seg xs lo n)) {i j:Nat} (hij:i≤j) (hj:j < n) (h:lo + j < xs.size):le2 o (xs[lo + i]'(by omega)) xs[lo + j]:=by
 rcases Nat.lt_or_ge i j with hl | hl
 ·have hlen:lo + j < xs.size→j < (seg xs lo n).length:=fun h => by unfold seg; rw [List.length_take,List.length_drop,Array.length_toList]; omega
  have:=(List.pairwise_iff_getElem.mp u) i j (by have:=hlen h; omega) (hlen h) hl
  rw [seg_get _ (by omega),seg_get _ h] at this
  exact this
 ·obtain rfl:i = j:=by omega
  exact KeyOrd.kle_refl _
theorem fold_set:∀ (l:List Keyed) (xs:Array Keyed) (at_ k:Nat),at_ + k + l.length≤xs.size→((l.zipIdx k).foldl (fun (u:Array Keyed) (x:Keyed × Nat) => match x with | (p,j) => u.setIfInBounds (at_ + j) p) xs).toList = xs.toList.take (at_ + k) ++ l ++ xs.toList.drop (at_ + k + l.length)
 | [],xs,at_,k,_ => by
  show xs.toList = _
  rw [List.append_nil,List.length_nil,Nat.add_zero,List.take_append_drop]
 | p :: r,xs,at_,k,h => by
  rw [List.length_cons] at h
  rw [List.zipIdx_cons,List.foldl_cons]
  have e1:(xs.setIfInBounds (at_ + k) p).toList = xs.toList.set (at_ + k) p:=Array.toList_setIfInBounds ..
  have hl:at_ + k < xs.toList.length:=by rw [Array.length_toList]; omega
  have e2:=List.set_eq_take_append_cons_drop (l:=xs.toList) (i:=at_ + k) (a:=p)
  rw [if_pos hl] at e2
  have ih:=fold_set r (xs.setIfInBounds (at_ + k) p) at_ (k + 1) (by rw [Array.size_setIfInBounds]; omega)
  refine ih.trans ?_
  have lt:(xs.toList.take (at_ + k)).length = at_ + k:=by rw [List.length_take]; omega
  have t1:(xs.toList.set (at_ + k) p).take (at_ + (k + 1)) = xs.toList.take (at_ + k) ++ [p]:=by
   rw [e2,List.take_append,lt,show at_ + (k + 1) - (at_ + k) = 1 by omega,List.take_of_length_le (by rw [lt]; omega)]
   rfl
  have t2:(xs.toList.set (at_ + k) p).drop (at_ + (k + 1) + r.length) = xs.toList.drop (at_ + k + (r.length + 1)):=by
   rw [List.drop_set_of_lt (by omega)]
   congr 1; omega
  rw [e1,t1,t2,List.length_cons]
  simp
theorem put_seg {xs ys:Array Keyed} {at_:Nat} {m:List Keyed} (h:at_ + m.length≤xs.size) (e:ys.toList = xs.toList.take at_ ++ m ++ xs.toList.drop (at_ + m.length)) :
  (∀ k n,k + n≤at_→seg ys k n = seg xs k n)∧(∀ k n,at_ + m.length≤k→seg ys k n = seg xs k n)∧seg ys at_ m.length = m:=by
 have lt:(xs.toList.take at_).length = at_:=by rw [List.length_take,Array.length_toList]; omega
 refine ⟨fun k n hk => ?_,fun k n hk => ?_,?_⟩
 ·unfold seg
  rw [e,List.append_assoc,List.drop_append_of_le_length (by rw [lt]; omega),List.take_append_of_le_length (by rw [List.length_drop,lt]; omega),List.drop_take,List.take_take,Nat.min_eq_left (by omega)]
 ·unfold seg
  rw [e,List.drop_append,List.length_append,lt,List.drop_eq_nil_of_le (by rw [List.length_append,lt]; exact hk),List.nil_append,List.drop_drop]
  congr 2; omega
 ·unfold seg
  rw [e,List.append_assoc,List.drop_append,lt,List.drop_eq_nil_of_le (by rw [lt]; omega),List.nil_append,Nat.sub_self,List.drop_zero,List.take_left']
  rfl
structure Gd (f:Bool) (z:Array Keyed) (y:SortSt):Prop where
 pm:(arrOf y).Perm z
 kd:kindOf y = tuples' f
 fl:failedOf y = none
theorem Gd.sz {y:SortSt} (g:Gd f z y):(arrOf y).size = z.size:=g.pm.size_eq
theorem Gd.mem {y:SortSt} (g:Gd f z y):∀ p∈(arrOf y).toList,p∈z.toList:=fun p hp => (Array.perm_iff_toList_perm.mp g.pm).mem_iff.mp hp
theorem pend_merge {l1 l2:List (Nat × Nat × Nat)} {x y v:Nat × Nat × Nat} {ps:Array (Nat × Nat × Nat)} (h:ps.toList = l1 ++ x :: y :: l2):((ps.setIfInBounds l1.length v).eraseIdxIfInBounds (l1.length + 1)).toList = l1 ++ v :: l2:=by
 rw [Array.toList_eraseIdxIfInBounds,Array.toList_setIfInBounds,h]
 induction l1 generalizing ps with
 | nil => rfl
 | cons a r ih => exact congrArg (a :: ·) (ih (ps:=(r ++ x :: y :: l2).toArray) rfl)
theorem pend_at {l1 l2:List (Nat × Nat × Nat)} {x y:Nat × Nat × Nat} {ps:Array (Nat × Nat × Nat)} (h:ps.toList = l1 ++ x :: y :: l2):ps[l1.length]? = some x∧ps[l1.length + 1]? = some y:=by
 rw [← Array.getElem?_toList,← Array.getElem?_toList,h]
 constructor
 ·simp
 ·rw [List.getElem?_append_right (by omega)]; simp
theorem up_merge {a1 a2 b1 b2 m:List Keyed} (ua:Up o (a1 ++ a2)) (ub:Up o (b1 ++ b2)) (um:Up o m) (pm:m.Perm (a2 ++ b1)) (h1:∀ p∈a1,∀ q∈b1 ++ b2,le2 o p q) (h2:∀ p∈a2,∀ q∈b2,le2 o p q):Up o (a1 ++ m ++ b2):=by
 obtain ⟨u1,_,c1⟩:=List.pairwise_append.mp ua
 obtain ⟨_,u2,c2⟩:=List.pairwise_append.mp ub
 refine List.pairwise_append.mpr ⟨List.pairwise_append.mpr ⟨u1,um,fun p hp q hq => ?_⟩,u2,fun p hp q hq => ?_⟩
 ·rcases List.mem_append.mp (pm.mem_iff.mp hq) with hq | hq
  ·exact c1 p hp q hq
  ·exact h1 p hp q (List.mem_append_left _ hq)
 ·rcases List.mem_append.mp hp with hp | hp
  ·exact h1 p hp q (List.mem_append_right _ hq)
  ·rcases List.mem_append.mp (pm.mem_iff.mp hp) with hp | hp
   ·exact h2 p hp q hq
   ·exact c2 p hp q hq
theorem set_wp {v y:SortSt} {Q:PUnit→SortSt→Prop} (h:Q ⟨⟩ v):wpS (model prog w) A E s (set v:StateT SortSt Sem PUnit) Q y:=wpS_modify (f:=fun _ => v) h
theorem mAt_wp {st:SortSt} {l1 l2:List (Nat × Nat × Nat)} {sa na pa sb nb pb:Nat} {Q:Bool→SortSt→Prop} (O:Orc prog w A s f o z) (g:Gd f z st) (hp:(pendingOf st).toList = l1 ++ (sa,na,pa) :: (sb,nb,pb) :: l2) (hsb:sb = sa + na) (n1:1≤na) (n2:1≤nb) (hsz:sb + nb≤z.size) (u1:Up o (seg (arrOf st) sa na)) (u2:Up o (seg (arrOf st) sb nb))
  (q:∀ y,Gd f z y→(pendingOf y).toList = l1 ++ (sa,na + nb,pa) :: l2→Up o (seg (arrOf y) sa (na + nb))→(∀ k n,k + n≤sa→seg (arrOf y) k n = seg (arrOf st) k n)→(∀ k n,sb + nb≤k→seg (arrOf y) k n = seg (arrOf st) k n)→Q true y):wpS (model prog w) A E s (mergeAt' l1.length) Q st:=by
 have gz:=g.sz
 have gm:=g.mem
 generalize hxs:arrOf st = xs at gz gm u1 u2 q
 obtain ⟨p1,p2⟩:=pend_at hp
 rw [mAt_eq]
 refine wpS_bind (wpS_get ?_)
 rw [p1,p2,hxs]
 have hP:=pend_merge (v:=(sa,na + nb,pa)) hp
 show wpS _ _ _ _ ((set (setPending st (((pendingOf st).setIfInBounds l1.length (sa,na + nb,pa)).eraseIdxIfInBounds (l1.length + 1))):StateT SortSt Sem PUnit) >>= _) _ _
 generalize hps:((pendingOf st).setIfInBounds l1.length (sa,na + nb,pa)).eraseIdxIfInBounds (l1.length + 1) = ps at hP
 refine wpS_bind (set_wp ?_)
 have g1:Gd f z (setPending st ps):=⟨g.pm,g.kd,g.fl⟩
 have hsb2:sb < xs.size:=by omega
 have eu:∀ y:SortSt,arrOf y = xs→Up o (seg xs sa (na + nb))→Gd f z y→(pendingOf y).toList = l1 ++ (sa,na + nb,pa) :: l2→Q true y:=fun y ey u gy py => q y gy py (by rw [ey]; exact u) (fun k n _ => by rw [ey]) (fun k n _ => by rw [ey])
 have whole:seg xs sa (na + nb) = seg xs sa na ++ seg xs sb nb:=by
  have:=seg_split xs sa na (na + nb) (by omega)
  rw [this,show na + nb - na = nb by omega,← hsb]
 refine wpS_bind (el_wp hsb2 (wpS_bind (gal_right O g1.kd gm (gm _ (mem_at _)) (by omega) (by omega) (fun i j hij hj hjn => seg_up u1 hij hjn hj) fun k hk less rest => ?_)))
 have b0:∀ q∈seg xs sb nb,le2 o xs[sb] q:=fun q hq => by
  obtain ⟨j,hj,j1,rfl⟩:=seg_mem hq
  exact seg_up u2 (i:=0) (Nat.zero_le _) j1 hj
 have a1b:∀ p∈seg xs sa k,∀ q∈seg xs sb nb,le2 o p q:=fun p hp q hq => by
  obtain ⟨j,hj,j1,rfl⟩:=seg_mem hp
  exact le2_trans (less j hj j1) (b0 q hq)
 have ea:=seg_split xs sa k na hk
 show wpS _ _ _ _ (if (na - k == 0) = true then _ else _) _ _
 rcases Nat.lt_or_ge k na with hkn | hkn
 rotate_left
 ·rw [if_pos (by rw [beq_iff_eq]; omega)]
  obtain rfl:k = na:=by omega
  refine wpS_pure (eu _ hxs ?_ g1 hP)
  rw [whole]
  exact List.pairwise_append.mpr ⟨u1,u2,a1b⟩
 rw [if_neg (by rw [beq_iff_eq]; omega)]
 have hla:sa + k + (na - k) - 1 < xs.size:=by omega
 have eix:sa + k + (na - k) - 1 = sa + (na - 1):=by omega
 refine wpS_bind (el_wp hla (wpS_bind (gal_left O g1.kd gm (gm _ (mem_at _)) (by omega) (by omega) (fun i j hij hj hjn => seg_up u2 hij hjn hj) fun nb' hnb less2 rest2 => ?_)))
 simp only [eix] at less2 rest2
 have eb:=seg_split xs sb nb' nb hnb
 have a2b2:∀ p∈seg xs (sa + k) (na - k),∀ q∈seg xs (sb + nb') (nb - nb'),le2 o p q:=fun p hp q hq => by
  obtain ⟨i,hi,i1,rfl⟩:=seg_mem hp
  obtain ⟨j,hj,j1,rfl⟩:=seg_mem hq
  have h1:=seg_up u1 (i:=k + i) (j:=na - 1) (by omega) (by omega) (by omega)
  have h2:=rest2 (nb' + j) (by omega) (by omega) (by omega)
  have e1:sa + (k + i) = sa + k + i:=by omega
  have e2:sb + (nb' + j) = sb + nb' + j:=by omega
  simp only [e1] at h1
  simp only [e2] at h2
  exact le2_trans h1 h2
 show wpS _ _ _ _ (if (nb' == 0) = true then _ else _) _ _
 rcases Nat.eq_zero_or_pos nb' with h0 | h0
 ·subst h0
  rw [if_pos (by rw [beq_iff_eq])]
  refine wpS_pure (eu _ hxs ?_ g1 hP)
  rw [whole]
  refine List.pairwise_append.mpr ⟨u1,u2,fun p hp q hq => ?_⟩
  rw [ea] at hp
  rcases List.mem_append.mp hp with hp | hp
  ·exact a1b p hp q hq
  ·exact a2b2 p hp q hq
 rw [if_neg (by rw [beq_iff_eq]; omega)]
 have ex:(xs.extract (sa + k) sb).toList = seg xs (sa + k) (na - k):=by
  rw [show sb = sa + k + (na - k) by omega]; exact seg_ext
 have ey:(xs.extract sb (sb + nb')).toList = seg xs sb nb':=seg_ext
 have sx:(xs.extract (sa + k) sb).size = na - k:=by rw [Array.size_extract]; omega
 have sy:(xs.extract sb (sb + nb')).size = nb':=by rw [Array.size_extract]; omega
 have T:Two o f z (xs.extract (sa + k) sb) (xs.extract sb (sb + nb')) (setPending st ps):=by
  refine ⟨g1.kd,fun p hp => ?_,fun p hp => ?_,?_,?_,fun p hp hi => ?_,fun p hp hi => ?_⟩
  ·rw [ex] at hp; exact gm p (seg_sub hp)
  ·rw [ey] at hp; exact gm p (seg_sub hp)
  ·rw [ex]; rw [ea] at u1; exact (List.pairwise_append.mp u1).2.1
  ·rw [ey]; rw [eb] at u2; exact (List.pairwise_append.mp u2).1
  ·rw [ey] at hp
   obtain ⟨j,hj,j1,rfl⟩:=seg_mem hp
   have h:=KeyOrd.kle_of_klt (less2 j hj j1)
   rw [Array.getElem_extract]
   have e1:sa + k + ((xs.extract (sa + k) sb).size - 1) = sa + (na - 1):=by rw [sx]; omega
   simp only [e1]
   exact h
  ·rw [ex] at hp
   obtain ⟨j,hj,j1,rfl⟩:=seg_mem hp
   rw [Array.getElem_extract]
   have h:=KeyOrd.kle_of_klt (rest (k + j) (by omega) (by omega) (by omega))
   have e1:sa + (k + j) = sa + k + j:=by omega
   simp only [e1] at h
   exact h
 have fin:∀ m y,Sm (setPending st ps) y→Mg o (xs.extract (sa + k) sb) (xs.extract sb (sb + nb')) m→wpS (model prog w) A E s (do
   modify fun t => setArr t (m.toList.zipIdx.foldl (fun u (p,j) => u.setIfInBounds (sa + k + j) p) (arrOf t))
   return (failedOf (← get)).isNone) Q y:=fun m y sm mg => by
  have ya:arrOf y = xs:=sm.ar.trans hxs
  have ml:m.toList.length = na - k + nb':=by
   have:=mg.pm.length_eq
   rw [List.length_append,Array.length_toList,Array.length_toList,Array.length_toList,sx,sy] at this
   rw [Array.length_toList]; exact this
  refine wpS_bind (wpS_modify (wpS_bind (wpS_get (wpS_pure ?_))))
  have e:=fold_set m.toList xs (sa + k) 0 (by omega)
  rw [Nat.add_zero] at e
  show Q (failedOf y).isNone (setArr y (m.toList.zipIdx.foldl (fun u (p,j) => u.setIfInBounds (sa + k + j) p) (arrOf y)))
  rw [ya,sm.fl,show failedOf (setPending st ps) = none from g.fl]
  generalize m.toList.zipIdx.foldl (fun (u:Array Keyed) (x:Keyed × Nat) => match x with | (p,j) => u.setIfInBounds (sa + k + j) p) xs = ys at e
  obtain ⟨lo,hi,mid⟩:=put_seg (by omega) e
  have ends:sa + k + m.toList.length = sb + nb':=by omega
  have pmM:m.toList.Perm (seg xs (sa + k) (na - k) ++ seg xs sb nb'):=by rw [← ex,← ey]; exact mg.pm
  refine q (setArr y ys) ⟨?_,sm.kd.trans g1.kd,sm.fl.trans g1.fl⟩ ((congrArg Array.toList sm.pd).trans hP) ?_ (fun k' n hk' => lo k' n (by omega)) (fun k' n hk' => hi k' n (by omega))
  ·show ys.Perm z
   refine Array.Perm.trans (Array.perm_iff_toList_perm.mpr ?_) (hxs▸g.pm)
   rw [e]
   have e3:xs.toList = xs.toList.take (sa + k) ++ (seg xs (sa + k) (na - k) ++ seg xs sb nb') ++ xs.toList.drop (sa + k + m.toList.length):=by
    have h1:=(List.take_append_drop (sa + k) xs.toList).symm
    have h2:=(List.take_append_drop m.toList.length (xs.toList.drop (sa + k))).symm
    rw [List.drop_drop] at h2
    have h3:(xs.toList.drop (sa + k)).take m.toList.length = seg xs (sa + k) (na - k) ++ seg xs sb nb':=by
     have:=seg_split xs (sa + k) (na - k) (na - k + nb') (by omega)
     rw [show na - k + nb' - (na - k) = nb' by omega,show sa + k + (na - k) = sb by omega] at this
     rw [ml]; exact this
    rw [h3] at h2
    rw [h2,← List.append_assoc] at h1
    exact h1
   conv => rhs; rw [e3]
   exact List.Perm.append_right _ (List.Perm.append_left _ pmM)
  ·show Up o (seg ys sa (na + nb))
   have s1:=seg_split ys sa k (na + nb) (by omega)
   have s2:=seg_split ys (sa + k) m.toList.length (na + nb - k) (by omega)
   rw [s1,s2,mid,lo sa k (by omega),hi _ _ (by omega),ends,show na + nb - k - m.toList.length = nb - nb' by omega,← List.append_assoc]
   refine up_merge (a2:=seg xs (sa + k) (na - k)) (b1:=seg xs sb nb') (by rw [← ea]; exact u1) (by rw [← eb]; exact u2) mg.up pmM (fun p hp q hq => a1b p hp q (by rw [eb]; exact hq)) a2b2
 show wpS _ _ _ _ (if na - k≤nb' then mLo (xs.extract (sa + k) sb) (xs.extract sb (sb + nb')) >>= _ else mHi (xs.extract (sa + k) sb) (xs.extract sb (sb + nb')) >>= _) _ _
 split
 ·exact wpS_bind (mLo_wp O T (by omega) (by omega) fin)
 ·exact wpS_bind (mHi_wp O T (by omega) (by omega) fin)
end
end TS
namespace TS
open PySem PyProof.Rows L2
def cUp (lo a n:Nat):StateT SortSt Sem AscSt :=
 forIn [a:n] ((none,a):AscSt) fun _ c => do
  let some r ← ltAt' (lo + c.2) (lo + c.2 - 1) | pure (.done (some none,c.2))
  if r then pure (.done (none,c.2)) else pure (.yield (none,c.2 + 1))
def cDown (lo a n:Nat):StateT SortSt Sem DescSt :=
 forIn [a:n] ((none,a,0):DescSt) fun _ c => do
  let some r ← ltAt' (lo + c.2.1) (lo + c.2.1 - 1) | pure (.done (some none,c.2.1,c.2.2))
  if r then
   if c.2.2 > 0 then
    reverseSlice' (lo + c.2.1 - (c.2.2 + 1)) (lo + c.2.1)
    pure (.yield (none,c.2.1 + 1,0))
   else pure (.yield (none,c.2.1 + 1,0))
  else
   let some r ← ltAt' (lo + c.2.1 - 1) (lo + c.2.1) | pure (.done (some none,c.2.1,c.2.2))
   if r then pure (.done (none,c.2.1,c.2.2)) else pure (.yield (none,c.2.1 + 1,c.2.2 + 1))
section
variable {prog:Program} {w:World} {A:Around} {E:Value→Shared→Prop} {s:Shared} {f:Bool} {z:Array Keyed} {o:KeyKind}
theorem lt_g {st:SortSt} {i j:Nat} {Q:Option Bool→SortSt→Prop} (O:Orc prog w A s f o z) (g:Gd f z st) (hi:i < z.size) (hj:j < z.size) (h:Q (some (o.blt (KK o (arrOf st) i) (KK o (arrOf st) j))) st):wpS (model prog w) A E s (ltAt' i j) Q st:=by
 have kk:∀ {k} (hk:k < (arrOf st).size),KK o (arrOf st) k = kv o (arrOf st)[k]:=fun {k} hk => by unfold KK; rw [getElem?_pos (arrOf st) k hk]; rfl
 have h1:i < (arrOf st).size:=g.sz▸hi
 have h2:j < (arrOf st).size:=g.sz▸hj
 rw [kk h1,kk h2] at h
 rw [ltAt'_eq]
 exact wpS_bind (wpS_get (wpS_bind (el_wp h1 (wpS_bind (el_wp h2 (lt_wp O g.kd (g.mem _ (mem_at h1)) (g.mem _ (mem_at h2)) h))))))
structure Rn (f:Bool) (z:Array Keyed) (x:SortSt) (lo:Nat) (y:SortSt):Prop where
 gd:Gd f z y
 pd:pendingOf y = pendingOf x
 low:∀ k,k < lo→(arrOf y)[k]? = (arrOf x)[k]?
theorem Rn.refl {x:SortSt} (g:Gd f z x) (lo:Nat):Rn f z x lo x:=⟨g,rfl,fun _ _ => rfl⟩
theorem Rn.mir {x y:SortSt} {lo i j:Nat} (r:Rn f z x lo y) (hi:lo≤i) (hj:j≤z.size):Rn f z x lo (setArr y (mirror (arrOf y) i j ((j - i) / 2))):=by
 refine ⟨⟨(mirror_perm _ _ _ _).trans r.gd.pm,r.gd.kd,r.gd.fl⟩,r.pd,fun k hk => ?_⟩
 show (mirror (arrOf y) i j ((j - i) / 2))[k]? = _
 rw [getElem?_mirror_all (by rw [r.gd.sz]; exact hj),if_neg (by omega)]
 exact r.low k hk
def SU (o:KeyKind) (xs:Array Keyed) (lo m:Nat):Prop:=∀ i j,i≤j→j < m→o.kle (KK o xs (lo + i)) (KK o xs (lo + j))
def SD (o:KeyKind) (xs:Array Keyed) (lo m:Nat):Prop:=∀ i j,i≤j→j < m→o.kle (KK o xs (lo + j)) (KK o xs (lo + i))
theorem SU.more {xs:Array Keyed} {lo i:Nat} (u:SU o xs lo i) (h:1≤i) (hl:o.kle (KK o xs (lo + (i - 1))) (KK o xs (lo + i))):SU o xs lo (i + 1):=fun g k hgk hk => by
 rcases Nat.lt_or_ge k i with hki | hki
 ·exact u g k hgk hki
 ·obtain rfl:k = i:=by omega
  rcases Nat.lt_or_ge g k with hg | hg
  ·exact KeyOrd.kle_trans (u g (k - 1) (by omega) (by omega)) hl
  ·obtain rfl:g = k:=by omega
   exact KeyOrd.kle_refl _
theorem SD.more {xs ys:Array Keyed} {lo i:Nat} (hk:∀ k,KK o ys k = KK o xs k) (u:SD o xs lo i) (h:1≤i) (hl:o.kle (KK o xs (lo + i)) (KK o xs (lo + (i - 1)))):SD o ys lo (i + 1):=fun g k hgk hk2 => by
 rw [hk,hk]
 rcases Nat.lt_or_ge k i with hki | hki
 ·exact u g k hgk hki
 ·obtain rfl:k = i:=by omega
  rcases Nat.lt_or_ge g k with hg | hg
  ·exact KeyOrd.kle_trans hl (u g (k - 1) (by omega) (by omega))
  ·obtain rfl:g = k:=by omega
   exact KeyOrd.kle_refl _
theorem cUp_wp {x st:SortSt} {lo a n:Nat} {Q:AscSt→SortSt→Prop} (O:Orc prog w A s f o z) (hn:lo + n≤z.size) (ha:1≤a) (han:a≤n) (r:Rn f z x lo st) (u:SU o (arrOf st) lo a)
  (q:∀ m,a≤m→m≤n→SU o (arrOf st) lo m→(m = n∨o.klt (KK o (arrOf st) (lo + m)) (KK o (arrOf st) (lo + (m - 1))))→Q (none,m) st):wpS (model prog w) A E s (cUp lo a n) Q st:=by
 refine wpS_forRange (I:=fun i c y => y = st∧c = (none,i)∧SU o (arrOf st) lo i) (fun i c y h1 h2 hy => ?_) (fun c y hy => ?_) ⟨rfl,rfl,u⟩
 ·obtain ⟨rfl,rfl,up⟩:=hy
  refine wpS_bind (lt_g O r.gd (show lo + i < _ by omega) (show lo + i - 1 < _ by omega) ?_)
  show wpS _ _ _ _ (if o.blt (KK o (arrOf y) (lo + i)) (KK o (arrOf y) (lo + i - 1)) = true then _ else _) _ _
  rw [show lo + i - 1 = lo + (i - 1) by omega]
  cases hl:o.blt (KK o (arrOf y) (lo + i)) (KK o (arrOf y) (lo + (i - 1))) with
  | true => rw [if_pos rfl]; exact wpS_pure (q i h1 (by omega) up (.inr hl))
  | false => rw [if_neg Bool.false_ne_true]; exact wpS_pure ⟨rfl,rfl,up.more (by omega) hl⟩
 ·obtain ⟨rfl,rfl,up⟩:=hy
  have e:max a n = n:=by omega
  rw [e] at up ⊢
  exact q n han (Nat.le_refl _) up (.inl rfl)
def Goes (k:AscSt→StateT SortSt Sem (Option Nat)):Prop:=∀ m,k (none,m) = pure (some m)
theorem cEnd_wp {k:AscSt→StateT SortSt Sem (Option Nat)} (hk:Goes k) {x st:SortSt} {lo a n:Nat} {Q:Option Nat→SortSt→Prop} (O:Orc prog w A s f o z) (hn:lo + n≤z.size) (ha:1≤a) (han:a≤n) (r:Rn f z x lo st) (d:SD o (arrOf st) lo a)
  (q:∀ m y,Rn f z x lo y→1≤m→m≤n→SU o (arrOf y) lo m→Q (some m) y):wpS (model prog w) A E s (reverseSlice' lo (lo + a) >>= fun _ => cUp lo a n >>= k) Q st:=by
 have hz:lo + a≤(arrOf st).size:=by rw [r.gd.sz]; omega
 have r2:=r.mir (i:=lo) (j:=lo + a) (Nat.le_refl _) (by omega)
 refine wpS_bind (wpS_reverse (wpS_bind (cUp_wp O hn ha han r2 (fun i j hij hj => ?_) fun m h1 h2 up _ => by rw [hk]; exact wpS_pure (q m _ r2 (by omega) h2 up))))
 show o.kle (KK o (mirror (arrOf st) lo (lo + a) _) (lo + i)) (KK o (mirror (arrOf st) lo (lo + a) _) (lo + j))
 rw [KK_mirror hz,KK_mirror hz,if_pos ⟨by omega,by omega⟩,if_pos ⟨by omega,by omega⟩]
 have:=d (a - 1 - j) (a - 1 - i) (by omega) (by omega)
 rw [show lo + (lo + a) - 1 - (lo + i) = lo + (a - 1 - i) by omega,show lo + (lo + a) - 1 - (lo + j) = lo + (a - 1 - j) by omega]
 exact this
theorem cDown_wp {x st:SortSt} {lo a n:Nat} {Q:DescSt→SortSt→Prop} (O:Orc prog w A s f o z) (hn:lo + n≤z.size) (ha:1≤a) (han:a≤n) (r:Rn f z x lo st) (d:SD o (arrOf st) lo a)
  (q:∀ m e y,Rn f z x lo y→a≤m→m≤n→SD o (arrOf y) lo m→e + 1≤m→(∀ i,lo + m - (e + 1)≤i→i < lo + m→KK o (arrOf y) i = KK o (arrOf y) (lo + m - 1))→Q (none,m,e) y):wpS (model prog w) A E s (cDown lo a n) Q st:=by
 refine wpS_forRange (I:=fun i c y => ∃ e,c = (none,i,e)∧Rn f z x lo y∧SD o (arrOf y) lo i∧e + 1≤i∧∀ k,lo + i - (e + 1)≤k→k < lo + i→KK o (arrOf y) k = KK o (arrOf y) (lo + i - 1)) (fun i c y h1 h2 hy => ?_) (fun c y hy => ?_) ⟨0,rfl,r,d,by omega,fun k p1 p2 => congrArg _ (by omega)⟩
 ·obtain ⟨e,rfl,r2,dn,he,eqs⟩:=hy
  have hz:lo + i≤(arrOf y).size:=by rw [r2.gd.sz]; omega
  refine wpS_bind (lt_g O r2.gd (show lo + i < _ by omega) (show lo + i - 1 < _ by omega) ?_)
  show wpS _ _ _ _ (if o.blt (KK o (arrOf y) (lo + i)) (KK o (arrOf y) (lo + i - 1)) = true then _ else _) _ _
  have ei:lo + i - 1 = lo + (i - 1):=by omega
  cases hl:o.blt (KK o (arrOf y) (lo + i)) (KK o (arrOf y) (lo + i - 1)) with
  | true =>
   rw [if_pos rfl]
   have hle:o.kle (KK o (arrOf y) (lo + i)) (KK o (arrOf y) (lo + (i - 1))):=by rw [← ei]; exact KeyOrd.kle_of_klt (O:=o.toKeyOrd) hl
   show wpS _ _ _ _ (if e > 0 then _ else _) _ _
   by_cases h0:e > 0
   ·rw [if_pos h0]
    exact wpS_bind (wpS_reverse (wpS_pure ⟨0,rfl,r2.mir (show lo≤lo + i - (e + 1) by omega) (show lo + i≤_ by omega),SD.more (KK_mirror_equal hz eqs) dn (by omega) hle,by omega,fun k p1 p2 => congrArg _ (by omega)⟩))
   ·rw [if_neg h0]
    exact wpS_pure ⟨0,rfl,r2,SD.more (fun _ => rfl) dn (by omega) hle,by omega,fun k p1 p2 => congrArg _ (by omega)⟩
  | false =>
   rw [if_neg Bool.false_ne_true]
   refine wpS_bind (lt_g O r2.gd (show lo + i - 1 < _ by omega) (show lo + i < _ by omega) ?_)
   show wpS _ _ _ _ (if o.blt (KK o (arrOf y) (lo + i - 1)) (KK o (arrOf y) (lo + i)) = true then _ else _) _ _
   cases hg:o.blt (KK o (arrOf y) (lo + i - 1)) (KK o (arrOf y) (lo + i)) with
   | true => rw [if_pos rfl]; exact wpS_pure (q i e y r2 h1 (by omega) dn he eqs)
   | false =>
    rw [if_neg Bool.false_ne_true]
    have same:KK o (arrOf y) (lo + i) = KK o (arrOf y) (lo + i - 1):=o.total _ _ hl hg
    refine wpS_pure ⟨e + 1,rfl,r2,SD.more (fun _ => rfl) dn (by omega) (by rw [← ei]; exact hg),by omega,fun k p1 p2 => ?_⟩
    rw [show lo + (i + 1) - 1 = lo + i by omega]
    rcases Nat.lt_or_ge k (lo + i) with hk | hk
    ·rw [same]; exact eqs k (by omega) hk
    ·exact congrArg _ (by omega)
 ·obtain ⟨e,rfl,r2,dn,he,eqs⟩:=hy
  have em:max a n = n:=by omega
  rw [em] at dn he eqs ⊢
  exact q n e y r2 han (Nat.le_refl _) dn he eqs
def Goes2 (lo n:Nat) (k:DescSt→StateT SortSt Sem (Option Nat)):Prop:=∃ k1,Goes k1∧∀ m e,k (none,m,e) = if e > 0 then reverseSlice' (lo + m - (e + 1)) (lo + m) >>= fun _ => reverseSlice' lo (lo + m) >>= fun _ => cUp lo m n >>= k1 else reverseSlice' lo (lo + m) >>= fun _ => cUp lo m n >>= k1
theorem cPart_wp {k2:DescSt→StateT SortSt Sem (Option Nat)} {x st:SortSt} {lo a n:Nat} {Q:Option Nat→SortSt→Prop} (hk:Goes2 lo n k2) (O:Orc prog w A s f o z) (hn:lo + n≤z.size) (han:a + 1≤n) (r:Rn f z x lo st) (d:SD o (arrOf st) lo (a + 1))
  (q:∀ m y,Rn f z x lo y→1≤m→m≤n→SU o (arrOf y) lo m→Q (some m) y):wpS (model prog w) A E s (liftM (rule "list.sort.descending-run") >>= fun _ => cDown lo (a + 1) n >>= k2) Q st:=by
 obtain ⟨k1,hk1,hk2⟩:=hk
 refine wpS_bind (wpS_lift (wpAny_rule ⟨rfl,wpS_bind (cDown_wp O hn (by omega) han r d fun m e y r2 h1 h2 dn he eqs => ?_)⟩))
 have hz:lo + m≤(arrOf y).size:=by rw [r2.gd.sz]; omega
 rw [hk2]
 by_cases h0:e > 0
 ·rw [if_pos h0]
  refine wpS_bind (wpS_reverse (cEnd_wp hk1 (a:=m) O hn (by omega) h2 (r2.mir (show lo≤lo + m - (e + 1) by omega) (show lo + m≤_ by omega)) (fun i j hij hj => ?_) q))
  have ek:=KK_mirror_equal hz eqs
  show o.kle (KK o (mirror (arrOf y) (lo + m - (e + 1)) (lo + m) _) (lo + j)) (KK o (mirror (arrOf y) (lo + m - (e + 1)) (lo + m) _) (lo + i))
  rw [ek,ek]
  exact dn i j hij hj
 ·rw [if_neg h0]
  exact cEnd_wp hk1 (a:=m) O hn (by omega) h2 r2 dn q
theorem cnt_wp {st:SortSt} {lo n:Nat} {Q:Option Nat→SortSt→Prop} (O:Orc prog w A s f o z) (hn:lo + n≤z.size) (h1:1≤n) (g:Gd f z st)
  (q:∀ m y,Rn f z st lo y→1≤m→m≤n→SU o (arrOf y) lo m→Q (some m) y):wpS (model prog w) A E s (countRun' lo n) Q st:=by
 rw [countRun'_eq]
 show wpS _ _ _ _ (cUp lo 1 n >>= _) _ _
 have r:=Rn.refl g lo
 refine wpS_bind (cUp_wp O hn (Nat.le_refl 1) h1 r (fun i j hij hj => ?_) fun m m1 m2 up last => ?_)
 ·obtain rfl:i = j:=by omega
  exact KeyOrd.kle_refl _
 show wpS _ _ _ _ (if (m == n) = true then _ else _) _ _
 rcases Nat.lt_or_ge m n with hmn | hmn
 ·rw [if_neg (by rw [beq_iff_eq]; omega)]
  have hl:=last.resolve_left (by omega)
  show wpS _ _ _ _ (if m > 1 then _ else _) _ _
  rcases Nat.lt_or_ge 1 m with hm | hm
  ·rw [if_pos hm]
   refine wpS_bind (lt_g O g (show lo < _ by omega) (show lo + m - 1 < _ by omega) ?_)
   show wpS _ _ _ _ (if o.blt (KK o (arrOf st) lo) (KK o (arrOf st) (lo + m - 1)) = true then _ else _) _ _
   cases hr:o.blt (KK o (arrOf st) lo) (KK o (arrOf st) (lo + m - 1)) with
   | true => rw [if_pos rfl]; exact wpS_pure (q m st r m1 m2 up)
   | false =>
    rw [if_neg Bool.false_ne_true]
    have hz:lo + m≤(arrOf st).size:=by rw [g.sz]; omega
    have eqs:∀ k,lo≤k→k < lo + m→KK o (arrOf st) k = KK o (arrOf st) (lo + m - 1):=fun k k1 k2 => by
     have a1:=up (k - lo) (m - 1) (by omega) (by omega)
     have a2:=up 0 (k - lo) (by omega) (by omega)
     rw [show lo + (k - lo) = k by omega,show lo + (m - 1) = lo + m - 1 by omega] at a1
     rw [show lo + (k - lo) = k by omega,Nat.add_zero] at a2
     exact KeyOrd.kle_antisymm a1 (KeyOrd.kle_trans hr a2)
    have ek:=KK_mirror_equal hz eqs
    refine wpS_bind (wpS_reverse ?_)
    show wpS _ _ _ _ (liftM (rule "list.sort.descending-run") >>= fun _ => cDown lo (m + 1) n >>= _) _ _
    refine cPart_wp ⟨_,fun _ => rfl,fun _ _ => rfl⟩ O hn (by omega) (r.mir (Nat.le_refl _) (by omega)) (SD.more (xs:=arrOf st) ek (fun i j hij hj => ?_) m1 (KeyOrd.kle_of_klt hl)) q
    rw [eqs (lo + i) (by omega) (by omega),eqs (lo + j) (by omega) (by omega)]
    exact KeyOrd.kle_refl _
  ·rw [if_neg (by omega)]
   obtain rfl:m = 1:=by omega
   show wpS _ _ _ _ (liftM (rule "list.sort.descending-run") >>= fun _ => cDown lo (1 + 1) n >>= _) _ _
   refine cPart_wp ⟨_,fun _ => rfl,fun _ _ => rfl⟩ O hn (by omega) r (SD.more (xs:=arrOf st) (fun _ => rfl) (fun i j hij hj => ?_) m1 (KeyOrd.kle_of_klt hl)) q
   obtain rfl:i = j:=by omega
   exact KeyOrd.kle_refl _
 ·rw [if_pos (by rw [beq_iff_eq]; omega)]
  exact wpS_pure (q m st r m1 m2 up)
theorem bin_wp {x st:SortSt} {lo n a:Nat} {Q:Bool→SortSt→Prop} (O:Orc prog w A s f o z) (hn:lo + n≤z.size) (han:a≤n) (r:Rn f z x lo st) (u:SU o (arrOf st) lo a)
  (q:∀ y,Rn f z x lo y→SU o (arrOf y) lo n→Q true y):wpS (model prog w) A E s (binarySort' lo n a) Q st:=by
 rw [binarySort'_eq]
 refine wpS_bind (wpS_mono (wpS_forRange (I:=fun k c y => c = (none,())∧Rn f z x lo y∧SU o (arrOf y) lo (min k n)) (Q:=fun c y => c = (none,())∧Rn f z x lo y∧SU o (arrOf y) lo n) (fun k c y k1 k2 hy => ?_) (fun c y hy => ?_) ⟨rfl,r,fun i j hij hj => ?_⟩) fun c y hy => ?_)
 ·obtain ⟨rfl,b2,up⟩:=hy
  rw [Nat.min_eq_left (by omega)] at up
  have hk:lo + k < z.size:=by omega
  refine wpS_bind (wpS_mono (wpS_forRange (I:=fun i c y' => y' = y∧∃ l r,c = (none,l,r)∧l≤r∧r≤k∧r - l≤k - i∧(∀ g,g < l→o.kle (KK o (arrOf y) (lo + g)) (KK o (arrOf y) (lo + k)))∧∀ g,r≤g→g < k→o.klt (KK o (arrOf y) (lo + k)) (KK o (arrOf y) (lo + g)))
   (Q:=fun c y' => y' = y∧∃ l r,c = (none,l,r)∧l≤k∧(∀ g,g < l→o.kle (KK o (arrOf y) (lo + g)) (KK o (arrOf y) (lo + k)))∧∀ g,l≤g→g < k→o.klt (KK o (arrOf y) (lo + k)) (KK o (arrOf y) (lo + g))) (fun i c y' i1 i2 hy => ?_) (fun c y' hy => ?_) ⟨rfl,0,k,rfl,by omega,by omega,by omega,fun g hg => absurd hg (by omega),fun g p1 p2 => absurd p1 (by omega)⟩) fun c y' hy => ?_)
  ·obtain ⟨rfl,l,r',rfl,lr,rk,fu,lw,hw⟩:=hy
   show wpS _ _ _ _ (if l ≥ r' then _ else _) _ _
   rcases Nat.lt_or_ge l r' with hlr | hlr
   ·rw [if_neg (by omega)]
    refine wpS_bind (lt_g O b2.gd hk (show lo + (l + r') / 2 < _ by omega) ?_)
    show wpS _ _ _ _ (if o.blt (KK o (arrOf y') (lo + k)) (KK o (arrOf y') (lo + (l + r') / 2)) = true then _ else _) _ _
    cases hl:o.blt (KK o (arrOf y') (lo + k)) (KK o (arrOf y') (lo + (l + r') / 2)) with
    | true => rw [if_pos rfl]; exact wpS_pure ⟨rfl,l,(l + r') / 2,rfl,by omega,by omega,by omega,lw,fun g p1 p2 => KeyOrd.klt_of_klt_of_kle hl (up _ _ p1 p2)⟩
    | false => rw [if_neg Bool.false_ne_true]; exact wpS_pure ⟨rfl,(l + r') / 2 + 1,r',rfl,by omega,by omega,by omega,fun g p1 => KeyOrd.kle_trans (up g ((l + r') / 2) (by omega) (by omega)) hl,hw⟩
   ·rw [if_pos hlr]
    obtain rfl:l = r':=by omega
    exact wpS_pure ⟨rfl,l,l,rfl,rk,lw,hw⟩
  ·obtain ⟨rfl,l,r',rfl,lr,rk,fu,lw,hw⟩:=hy
   obtain rfl:l = r':=by omega
   exact ⟨rfl,l,l,rfl,rk,lw,hw⟩
  ·obtain ⟨rfl,l,r',rfl,lk,lw,hw⟩:=hy
   show wpS _ _ _ _ (moveDown' (lo + k) (lo + l) >>= fun _ => pure (ForInStep.yield (none,()))) _ _
   rw [moveDown'_eq]
   have hz:lo + k < (arrOf y').size:=by rw [b2.gd.sz]; exact hk
   refine wpS_bind (wpS_modify (wpS_pure ⟨rfl,⟨⟨(bubble_perm _ _ _).trans b2.gd.pm,b2.gd.kd,b2.gd.fl⟩,b2.pd,fun g hg => ?_⟩,fun i j hij hj => ?_⟩))
   ·show (bubble (arrOf y') (lo + k) (lo + k - (lo + l)))[g]? = _
    rw [getElem?_bubble hz _ (by omega),if_neg (by omega),if_neg (by omega)]
    exact b2.low g hg
   ·have kb:=fun g => KK_bubble (κ:=o) hz (show lo + k - (lo + l)≤lo + k by omega) g
    rw [show lo + k - (lo + k - (lo + l)) = lo + l by omega] at kb
    show o.kle (KK o (bubble (arrOf y') (lo + k) (lo + k - (lo + l))) (lo + i)) (KK o (bubble (arrOf y') (lo + k) (lo + k - (lo + l))) (lo + j))
    rw [kb,kb]
    rw [Nat.min_eq_left (by omega)] at hj
    have dec:∀ g,lo + g - 1 = lo + (g - 1)∨g = 0:=fun g => by omega
    split
    ·split
     ·exact KeyOrd.kle_refl _
     ·split
      ·rw [show lo + j - 1 = lo + (j - 1) by omega]
       exact KeyOrd.kle_of_klt (hw _ (by omega) (by omega))
      ·exact absurd hij (by omega)
    ·split
     ·split
      ·exact absurd hij (by omega)
      ·split
       ·rw [show lo + i - 1 = lo + (i - 1) by omega,show lo + j - 1 = lo + (j - 1) by omega]
        exact up _ _ (by omega) (by omega)
       ·exact absurd hij (by omega)
     ·split
      ·exact lw _ (by omega)
      ·split
       ·rw [show lo + j - 1 = lo + (j - 1) by omega]
        exact up _ _ (by omega) (by omega)
       ·exact up _ _ (by omega) (by omega)
 ·obtain ⟨rfl,b2,up⟩:=hy
  rw [Nat.min_eq_right (by omega)] at up
  exact ⟨rfl,b2,up⟩
 ·rcases Nat.eq_zero_or_pos a with h0 | h0
  ·obtain rfl:i = j:=by omega
   exact KeyOrd.kle_refl _
  ·exact u i j hij (by omega)
 ·obtain ⟨rfl,b2,up⟩:=hy
  exact wpS_pure (q y b2 up)
end
end TS
namespace TS
open PySem PyProof.Rows L2
def Cov (o:KeyKind) (xs:Array Keyed):List (Nat × Nat)→Nat→Nat→Prop
 | [],lo,hi => lo = hi
 | (a,n) :: r,lo,hi => a = lo∧1≤n∧Up o (seg xs lo n)∧Cov o xs r (lo + n) hi
def pr (t:Nat × Nat × Nat):Nat × Nat:=(t.1,t.2.1)
def runs (y:SortSt):List (Nat × Nat):=(pendingOf y).toList.map pr
section
variable {prog:Program} {w:World} {A:Around} {E:Value→Shared→Prop} {s:Shared} {f:Bool} {z:Array Keyed} {o:KeyKind}
theorem Cov.le {xs:Array Keyed}:∀ {l:List (Nat × Nat)} {lo hi:Nat},Cov o xs l lo hi→lo + l.length≤hi
 | [],lo,hi,h => Nat.le_of_eq h
 | (a,n) :: r,lo,hi,⟨_,h1,_,h2⟩ => by
  have:=h2.le
  rw [List.length_cons]; omega
theorem Cov.congr {xs ys:Array Keyed}:∀ {l:List (Nat × Nat)} {lo hi:Nat},Cov o xs l lo hi→(∀ k n,lo≤k→k + n≤hi→seg ys k n = seg xs k n)→Cov o ys l lo hi
 | [],lo,hi,h,_ => h
 | (a,n) :: r,lo,hi,⟨h0,h1,u,h2⟩,e => by
  have:=h2.le
  exact ⟨h0,h1,by rw [e lo n (Nat.le_refl _) (by omega)]; exact u,h2.congr fun k m hk hm => e k m (by omega) hm⟩
theorem Cov.app {xs:Array Keyed}:∀ {l1 l2:List (Nat × Nat)} {lo hi:Nat},Cov o xs (l1 ++ l2) lo hi→∃ mid,Cov o xs l1 lo mid∧Cov o xs l2 mid hi
 | [],l2,lo,hi,h => ⟨lo,rfl,h⟩
 | (a,n) :: r,l2,lo,hi,⟨h0,h1,u,h2⟩ => by
  obtain ⟨mid,c1,c2⟩:=Cov.app h2
  exact ⟨mid,⟨h0,h1,u,c1⟩,c2⟩
theorem Cov.join {xs:Array Keyed}:∀ {l1 l2:List (Nat × Nat)} {lo mid hi:Nat},Cov o xs l1 lo mid→Cov o xs l2 mid hi→Cov o xs (l1 ++ l2) lo hi
 | [],l2,lo,mid,hi,h,c => by obtain rfl:lo = mid:=h; exact c
 | (a,n) :: r,l2,lo,mid,hi,⟨h0,h1,u,h2⟩,c => ⟨h0,h1,u,h2.join c⟩
theorem mAt_cov {st:SortSt} {i hi:Nat} {Q:Bool→SortSt→Prop} (O:Orc prog w A s f o z) (g:Gd f z st) (c:Cov o (arrOf st) (runs st) 0 hi) (hh:hi≤z.size) (hi2:i + 1 < (pendingOf st).size)
  (q:∀ y,Gd f z y→Cov o (arrOf y) (runs y) 0 hi→(pendingOf y).size + 1 = (pendingOf st).size→(∀ k n,hi≤k→seg (arrOf y) k n = seg (arrOf st) k n)→Q true y):wpS (model prog w) A E s (mergeAt' i) Q st:=by
 obtain ⟨l1,x1,x2,l2,hl,h1⟩:∃ l1 x1 x2 l2,(pendingOf st).toList = l1 ++ x1 :: x2 :: l2∧l1.length = i:=by
  have h1:i + 1 < (pendingOf st).toList.length:=by rw [Array.length_toList]; exact hi2
  refine ⟨(pendingOf st).toList.take i,(pendingOf st).toList[i],(pendingOf st).toList[i + 1],(pendingOf st).toList.drop (i + 2),?_,by rw [List.length_take]; omega⟩
  have e:=(List.take_append_drop i (pendingOf st).toList).symm
  rw [List.drop_eq_getElem_cons (by omega),List.drop_eq_getElem_cons h1] at e
  exact e
 obtain ⟨sa,na,pa⟩:=x1
 obtain ⟨sb,nb,pb⟩:=x2
 have er:runs st = l1.map pr ++ (sa,na) :: (sb,nb) :: l2.map pr:=by
  unfold runs
  rw [hl,List.map_append,List.map_cons,List.map_cons]; rfl
 rw [er] at c
 obtain ⟨mid,c1,h2,n1,u1,h3,n2,u2,c2⟩:=c.app
 subst h2
 subst h3
 have l3:=c2.le
 rw [← h1]
 refine mAt_wp O g hl rfl n1 n2 (by omega) u1 u2 fun y gy py up low high => q y gy ?_ ?_ fun k n hk => high k n (by omega)
 ·have ey:runs y = l1.map pr ++ (sa,na + nb) :: l2.map pr:=by
   unfold runs
   rw [py,List.map_append,List.map_cons]; rfl
  rw [ey]
  refine Cov.join (c1.congr fun k n _ hk => low k n hk) ⟨rfl,by omega,up,?_⟩
  rw [← Nat.add_assoc]
  exact c2.congr fun k n hk _ => high k n hk
 ·have e1:=congrArg List.length py
  have e2:=congrArg List.length hl
  simp only [Array.length_toList,List.length_append,List.length_cons] at e1 e2
  omega
theorem seg_low {xs ys:Array Keyed} {k n lo:Nat} (h:∀ i,i < lo→ys[i]? = xs[i]?) (hk:k + n≤lo):seg ys k n = seg xs k n:=by
 apply List.ext_getElem?
 intro i
 unfold seg
 rw [List.getElem?_take,List.getElem?_take]
 split
 ·rw [List.getElem?_drop,List.getElem?_drop,Array.getElem?_toList,Array.getElem?_toList]
  exact h _ (by omega)
 ·rfl
theorem SU.up {xs:Array Keyed} {lo m:Nat} (u:SU o xs lo m) (h:lo + m≤xs.size):Up o (seg xs lo m):=by
 have kk:∀ {k} (hk:k < xs.size),KK o xs k = kv o xs[k]:=fun {k} hk => by unfold KK; rw [getElem?_pos xs k hk]; rfl
 refine List.pairwise_iff_getElem.mpr fun i j hi hj hij => ?_
 rw [seg_len h] at hi hj
 rw [seg_get _ (by omega),seg_get _ (by omega)]
 have:=u i j (by omega) hj
 rw [kk (by omega),kk (by omega)] at this
 exact this
theorem pend_mod {ps:Array (Nat × Nat × Nat)} {i pw:Nat}:(ps.modify i fun (t:Nat × Nat × Nat) => match t with | (a,n,_) => (a,n,pw)).toList.map pr = ps.toList.map pr:=by
 apply List.ext_getElem?
 intro k
 rw [List.getElem?_map,List.getElem?_map,Array.getElem?_toList,Array.getElem?_toList,Array.getElem?_modify]
 split
 ·cases ps[k]? with
  | none => rfl
  | some t => rfl
 ·rfl
structure Bt (o:KeyKind) (f:Bool) (z:Array Keyed) (lo:Nat) (y:SortSt):Prop where
 gd:Gd f z y
 cv:Cov o (arrOf y) (runs y) 0 lo
def mLoop (n pw:Nat):StateT SortSt Sem (Option Unit × Unit) :=
 forIn [0:n] ((none,()):Option Unit × Unit) fun _ _ => do
  let p:=pendingOf (← get)
  let some (_,_,older):=(if p.size > 1 then p[p.size - 2]? else none) | pure (.done (none,()))
  if older≤pw then pure (.done (none,()))
  else
   if !(← mergeAt' (p.size - 2)) then pure (.done (some (),())) else pure (.yield (none,()))
theorem mLoop_wp {st:SortSt} {n pw lo m:Nat} {Q:Option Unit × Unit→SortSt→Prop} (O:Orc prog w A s f o z) (b:Bt o f z lo st) (hl:lo≤z.size) (u:Up o (seg (arrOf st) lo m)) (q:∀ y,Bt o f z lo y→Up o (seg (arrOf y) lo m)→Q (none,()) y):wpS (model prog w) A E s (mLoop n pw) Q st:=by
 refine wpS_forRange (I:=fun _ c y => c = (none,())∧Bt o f z lo y∧Up o (seg (arrOf y) lo m)) (fun i c y _ _ hy => ?_) (fun c y hy => ?_) ⟨rfl,b,u⟩
 ·obtain ⟨rfl,b1,u1⟩:=hy
  refine wpS_bind (wpS_get ?_)
  dsimp only
  rcases Nat.lt_or_ge 1 (pendingOf y).size with h1 | h1
  ·rw [if_pos h1,getElem?_pos (pendingOf y) _ (show (pendingOf y).size - 2 < _ by omega)]
   show wpS _ _ _ _ (if _≤pw then _ else _) _ _
   split
   ·exact wpS_pure (q y b1 u1)
   ·refine wpS_bind (mAt_cov O b1.gd b1.cv hl (by omega) fun y2 g2 c2 _ hi2 => ?_)
    exact wpS_pure ⟨rfl,⟨g2,c2⟩,by rw [hi2 lo m (Nat.le_refl _)]; exact u1⟩
  ·rw [if_neg (by omega)]
   exact wpS_pure (q y b1 u1)
 ·obtain ⟨rfl,b1,u1⟩:=hy
  exact q y b1 u1
theorem Bt.add {lo m:Nat} {y:SortSt} (b:Bt o f z lo y) (u:Up o (seg (arrOf y) lo m)) (hm:1≤m):Bt o f z (lo + m) (setPending y ((pendingOf y).push (lo,m,0))):=by
 refine ⟨⟨b.gd.pm,b.gd.kd,b.gd.fl⟩,?_⟩
 have e:runs (setPending y ((pendingOf y).push (lo,m,0))) = runs y ++ [(lo,m)]:=by
  show ((pendingOf y).push (lo,m,0)).toList.map pr = _
  rw [Array.toList_push,List.map_append]; rfl
 show Cov o (arrOf y) (runs (setPending y ((pendingOf y).push (lo,m,0)))) 0 (lo + m)
 rw [e]
 exact b.cv.join ⟨rfl,hm,u,rfl⟩
theorem Bt.mod {lo i pw:Nat} {y:SortSt} (b:Bt o f z lo y):Bt o f z lo (setPending y ((pendingOf y).modify i fun (t:Nat × Nat × Nat) => match t with | (a,n,_) => (a,n,pw))):=by
 refine ⟨⟨b.gd.pm,b.gd.kd,b.gd.fl⟩,?_⟩
 show Cov o (arrOf y) (((pendingOf y).modify i fun (t:Nat × Nat × Nat) => match t with | (a,n,_) => (a,n,pw)).toList.map pr) 0 lo
 rw [pend_mod]
 exact b.cv
theorem Bt.run {lo:Nat} {x y:SortSt} (b:Bt o f z lo x) (r:Rn f z x lo y):Bt o f z lo y:=by
 refine ⟨r.gd,?_⟩
 have e:runs y = runs x:=by unfold runs; rw [r.pd]
 rw [e]
 exact b.cv.congr fun k n _ hk => seg_low r.low hk
theorem sort_wp {st:SortSt} {Q:Unit→SortSt→Prop} (O:Orc prog w A s f o z) (g:Gd f z st) (p0:pendingOf st = #[]) (h2:2≤z.size)
  (q:∀ y,Gd f z y→Up o (arrOf y).toList→Q () y):wpS (model prog w) A E s sortRuns' Q st:=by
 rw [sortRuns'_eq]
 refine wpS_bind (wpS_get ?_)
 simp only [g.sz]
 generalize minRun' z.size z.size 0 = mr
 have b0:Bt o f z 0 st:=⟨g,by unfold runs; rw [p0]; rfl⟩
 refine wpS_bind (wpS_mono (wpS_forRange (I:=fun i c y => c.1 = none∧c.2≤z.size∧i≤c.2∧Bt o f z c.2 y) (Q:=fun c y => c = (none,z.size)∧Bt o f z z.size y) (fun i c y _ hi hy => ?_) (fun c y hy => ?_) ⟨rfl,Nat.zero_le _,Nat.le_refl _,b0⟩) fun c y hy => ?_)
 ·obtain ⟨c1,lo⟩:=c
  obtain ⟨e1,hl,hil,b⟩:=hy
  change c1 = none at e1
  change lo≤z.size at hl
  change i≤lo at hil
  change Bt o f z lo y at b
  subst e1
  show wpS _ _ _ _ (if lo ≥ z.size then _ else _) _ _
  rcases Nat.lt_or_ge lo z.size with hlo | hlo
  ·rw [if_neg (by omega)]
   refine wpS_bind (cnt_wp O (show lo + (z.size - lo)≤_ by omega) (by omega) b.gd fun m y1 r1 m1 m2 su => ?_)
   have tail:∀ (y2:SortSt) (k:Nat),Bt o f z lo y2→Up o (seg (arrOf y2) lo k)→1≤k→lo + k≤z.size→∀ c:Option Unit × Nat,c = (none,lo + k)→c.1 = none∧c.2≤z.size∧i + 1≤c.2∧Bt o f z c.2 (setPending y2 ((pendingOf y2).push (lo,k,0))):=fun y2 k b2 u2 k1 k2 c hc => by
    subst hc
    exact ⟨rfl,k2,by show i + 1≤lo + k; omega,b2.add u2 k1⟩
   show wpS _ _ _ _ (if m < mr then _ else _) _ _
   have rest:∀ (y2:SortSt) (k:Nat),Rn f z y lo y2→SU o (arrOf y2) lo k→1≤k→lo + k≤z.size→Bt o f z lo y2∧Up o (seg (arrOf y2) lo k):=fun y2 k r2 su2 k1 k2 => ⟨b.run r2,su2.up (by rw [r2.gd.sz]; exact k2)⟩
   split
   ·refine wpS_bind (wpS_lift (wpAny_rule ⟨rfl,wpS_bind (bin_wp (x:=y) O (show lo + min (z.size - lo) mr≤_ by omega) (by omega) r1 su fun y2 r2 su2 => ?_)⟩))
    obtain ⟨b2,u2⟩:=rest y2 _ r2 su2 (by omega) (by omega)
    refine wpS_bind (wpS_get ?_)
    cases hb:(pendingOf y2).back? with
    | none => exact wpS_bind (wpS_modify (wpS_pure (tail y2 _ b2 u2 (by omega) (by omega) _ rfl)))
    | some t =>
     obtain ⟨s1,n1,p1⟩:=t
     show wpS _ _ _ _ (mLoop z.size _ >>= _) _ _
     refine wpS_bind (mLoop_wp O b2 hl u2 fun y3 b3 u3 => ?_)
     exact wpS_bind (wpS_modify (wpS_bind (wpS_modify (wpS_pure (tail _ _ b3.mod u3 (by omega) (by omega) _ rfl)))))
   ·obtain ⟨b2,u2⟩:=rest y1 _ r1 su m1 (by omega)
    refine wpS_bind (wpS_get ?_)
    cases hb:(pendingOf y1).back? with
    | none => exact wpS_bind (wpS_modify (wpS_pure (tail y1 _ b2 u2 m1 (by omega) _ rfl)))
    | some t =>
     obtain ⟨s1,n1,p1⟩:=t
     show wpS _ _ _ _ (mLoop z.size _ >>= _) _ _
     refine wpS_bind (mLoop_wp O b2 hl u2 fun y3 b3 u3 => ?_)
     exact wpS_bind (wpS_modify (wpS_bind (wpS_modify (wpS_pure (tail _ _ b3.mod u3 m1 (by omega) _ rfl)))))
  ·rw [if_pos hlo]
   obtain rfl:lo = z.size:=by omega
   exact wpS_pure ⟨rfl,b⟩
 ·obtain ⟨c1,lo⟩:=c
  obtain ⟨e1,hl,hil,b⟩:=hy
  change c1 = none at e1
  change lo≤z.size at hl
  change max 0 z.size≤lo at hil
  change Bt o f z lo y at b
  obtain rfl:lo = z.size:=by omega
  subst e1
  exact ⟨rfl,b⟩
 ·obtain ⟨rfl,b⟩:=hy
  have len:∀ y',Bt o f z z.size y'→(pendingOf y').size≤z.size:=fun y' b' => by
   have:=b'.cv.le
   unfold runs at this
   rw [List.length_map,Array.length_toList] at this
   omega
  refine wpS_bind (wpS_mono (wpS_forRange (I:=fun i c y => c = (none,())∧Bt o f z z.size y∧((pendingOf y).size≤1∨(pendingOf y).size + i≤z.size)) (Q:=fun c y => c = (none,())∧Bt o f z z.size y∧(pendingOf y).size≤1) (fun i c y _ _ hy => ?_) (fun c y hy => ?_) ⟨rfl,b,.inr (by have:=len y b; omega)⟩) fun c y hy => ?_)
  ·obtain ⟨rfl,b1,hp⟩:=hy
   refine wpS_bind (wpS_get ?_)
   show wpS _ _ _ _ (if (pendingOf y).size≤1 then _ else _) _ _
   rcases Nat.lt_or_ge 1 (pendingOf y).size with h1 | h1
   ·rw [if_neg (by omega)]
    have fin:∀ k,k + 1 < (pendingOf y).size→∀ {R:Bool→SortSt→Prop},(∀ y2,Bt o f z z.size y2→(pendingOf y2).size + 1 = (pendingOf y).size→R true y2)→wpS (model prog w) A E s (mergeAt' k) R y:=fun k hk R hR => mAt_cov O b1.gd b1.cv (Nat.le_refl _) hk fun y2 g2 c2 e2 _ => hR y2 ⟨g2,c2⟩ e2
    refine wpS_bind (fin _ ?_ fun y2 b2 e2 => wpS_pure ⟨rfl,b2,.inr (by omega)⟩)
    have hi:∀ bb:Bool,(if bb = true then (pendingOf y).size - 2 - 1 else (pendingOf y).size - 2) + 1 < (pendingOf y).size:=fun bb => by
     cases bb
     ·rw [if_neg Bool.false_ne_true]; omega
     ·rw [if_pos rfl]; omega
    exact hi _
   ·rw [if_pos h1]
    exact wpS_pure ⟨rfl,b1,h1⟩
  ·obtain ⟨rfl,b1,hp⟩:=hy
   exact ⟨rfl,b1,by omega⟩
  ·obtain ⟨rfl,b1,hp⟩:=hy
   refine wpS_pure (q y b1.gd ?_)
   have cv:=b1.cv
   have hlen:(runs y).length≤1:=by unfold runs; rw [List.length_map,Array.length_toList]; exact hp
   match hr:runs y,hlen with
   | [],_ =>
    rw [hr] at cv
    have:(0:Nat) = z.size:=cv
    omega
   | [(a,n)],_ =>
    rw [hr] at cv
    obtain ⟨_,_,u,e⟩:=cv
    have e2:0 + n = z.size:=e
    have e3:seg (arrOf y) 0 n = (arrOf y).toList:=by
     unfold seg
     rw [List.drop_zero]
     exact List.take_of_length_le (by rw [Array.length_toList,b1.gd.sz]; omega)
    rw [e3] at u
    exact u
end
end TS
namespace TS
open PySem PyProof.Rows L2
section
variable {prog:Program} {w:World} {A:Around} {E:Value→Shared→Prop} {s:Shared} {d t:Addr} {es:Array DictEntry} {ep i:Nat}
end
end TS
namespace TS
open PySem PyProof.Rows L2
section
variable {prog:Program} {w:World} {A:Around} {E:Value→Shared→Prop} {s:Shared}
theorem TupAt.keep {h h':Heap} {v:Value} {ks:List L2.Key} (t:TupAt h v ks) (k:∀ b o,h.get? b = some o→h'.get? b = some o):TupAt h' v ks:=by
 obtain ⟨b,o2,us,n,rfl,e,r⟩:=t
 exact ⟨b,o2,us,n,rfl,k _ _ e,r⟩
theorem out_up {kc:Value→List L2.Key} {vs:List Value} {y:Array Keyed} (pm:y.Perm (pairsOf vs)) (up:Up (kind kc) y.toList) :
  ∃ out:List Value,(y.map (·.2)) = out.toArray∧out.Perm vs∧out.Pairwise fun u v => lx (kc v) (kc u) = false:=by
 have pl:y.toList.Perm (vs.zip vs):=pairsOf_toList vs▸Array.perm_iff_toList_perm.mp pm
 have hm:∀ p∈y.toList,p.1 = p.2:=fun p hp => (mem_zip_self (pl.mem_iff.mp hp)).1
 refine ⟨y.toList.map (·.2),by rw [← Array.toList_map,Array.toArray_toList],?_,?_⟩
 ·have:=pl.map Prod.snd
  rwa [List.map_snd_zip (Nat.le_refl _)] at this
 ·refine List.pairwise_map.mpr (up.imp_of_mem fun {p q} hp hq h => ?_)
  rw [← hm p hp,← hm q hq]
  exact h
theorem pw_short {α:Type} {R:α→α→Prop} {l:List α} (h:l.length < 2):l.Pairwise R:=by
 cases l with
 | nil => exact List.Pairwise.nil
 | cons v l =>
  cases l with
  | nil => exact List.pairwise_singleton _ _
  | cons u l => exact absurd h (by simp)
theorem sort_any {a:Addr} {vs:List Value} {n:Nat} {P:Fin→Shared→Prop} {kc:Value→List L2.Key} {d:List Bool} (ho:s.heap.get? a = some (seqObj "list" vs.toArray n)) (ht:∀ v∈vs,TupAt s.heap v (kc v)) (hs:∀ v∈vs,sd (kc v) = d) (hd:d≠[]) (hl:vs.length≤sizeLine)
  (q:∀ out:List Value,out.Perm vs→(out.Pairwise fun u v => lx (kc v) (kc u) = false)→P (.done (.ret .none)) { s with heap:=sortedHeap s.heap a vs out.toArray }):wpAny (model prog w) A (Builtin.«list.sort» ⟨[.ref a],[]⟩) P E s:=by
 rw [list_sort_plain]
 refine wpAny_bind (listItems_at ho rfl (wpAny_bind (listUpdate_at ho rfl ?_ (by rw [List.size_toArray]; exact hl))))
 have g1:=get?_update_seq ho (fun _ => #[])
 refine wpAny_bind (seqEpoch_at g1 rfl (wpAny_bind (wpAny_newTuple (wpAny_bind (wpAny_newList (wpAny_holding ?_))))))
 have g2:(((s.heap.update a (Obj.mapSeq fun _ => #[])).push (seqObj "tuple" vs.toArray 0)).push (seqObj "list" #[] 0)).get? a = _:=Heap.get?_push_of_some _ (Heap.get?_push_of_some _ g1)
 have ht2:∀ v∈vs,TupAt (((s.heap.update a (Obj.mapSeq fun _ => #[])).push (seqObj "tuple" vs.toArray 0)).push (seqObj "list" #[] 0)) v (kc v):=fun v hv => (((ht v hv).upd ho rfl).push _).push _
 have room:∀ y:Array Keyed,y.Perm (pairsOf vs)→(y.map (·.2)).size≤sizeLine + 1:=fun y hy => by
  rw [Array.size_map,hy.size_eq,pairsOf_size]; omega
 have fin:∀ y:SortSt,(arrOf y).Perm (pairsOf vs)→Up (kind kc) (arrOf y).toList→P (.done (.ret .none)) { s with heap:=sortedHeap s.heap a vs ((arrOf y).map (·.2)) }:=fun y pm up => by
  obtain ⟨out,e,p,w⟩:=out_up pm up
  rw [e]; exact q out p w
 rcases Nat.lt_or_ge vs.length 2 with h2 | h2
 ·rw [if_pos (by simpa using h2),if_pos (by simpa using h2)]
  refine wpAny_bind (wpAny_pure ?_)
  dsimp only
  rw [StateT.run_pure]
  refine wpAny_bind (wpAny_pure (wpAny_bind (seqEpoch_at g2 rfl (wpAny_bind (listUpdate_at g2 rfl ?_ (hsz2:=room _ (Array.Perm.refl _)))))))
  simp only [bne_self_eq_false,Bool.false_eq_true,if_false]
  refine wpAny_pure (fin (SortSt.mk' general' (pairsOf vs) #[] 7 none) (Array.Perm.refl _) ?_)
  show Up _ (pairsOf vs).toList
  rw [pairsOf_toList]
  exact pw_short (by rw [List.length_zip,Nat.min_self]; exact h2)
 ·rw [if_neg (by simpa using h2),if_neg (by simpa using h2)]
  refine wpAny_bind (key_kind h2 ht2 hs hd ?_)
  refine wpAny_bind (wpAny_mono (sort_wp (o:=kind kc) (z:=pairsOf vs) (f:=true) (st:=SortSt.mk' (tuples' true) (vs.toArray.zip vs.toArray) #[] 7 none) (Q:=fun _ y => Gd true (pairsOf vs) y∧Up (kind kc) (arrOf y).toList) (orc_of ht2 hs true) ⟨Array.Perm.refl _,rfl,rfl⟩ rfl (by rw [pairsOf_size]; exact h2) fun y p1 p2 => ⟨p1,p2⟩) ?_ fun _ _ e => e)
  rintro ⟨⟨⟩,y⟩ s2 ⟨rfl,gd,up⟩
  refine wpAny_bind (seqEpoch_at g2 rfl (wpAny_bind (listUpdate_at g2 rfl ?_ (hsz2:=room _ gd.pm))))
  rw [gd.fl]
  simp only [bne_self_eq_false,Bool.false_eq_true,if_false]
  exact wpAny_pure (fin y gd.pm up)
theorem sortedHeap_at {h:Heap} {a:Addr} {vs:List Value} {n:Nat} {out:Array Value} (ho:h.get? a = some (seqObj "list" vs.toArray n)):∃ c,(sortedHeap h a vs out).get? a = some (seqObj "list" out c)∧∀ b o,b≠a→h.get? b = some o→(sortedHeap h a vs out).get? b = some o:=by
 have g1:=get?_update_seq ho (fun _ => #[])
 have g2:(((h.update a (Obj.mapSeq fun _ => #[])).push (seqObj "tuple" vs.toArray 0)).push (seqObj "list" #[] 0)).get? a = _:=Heap.get?_push_of_some _ (Heap.get?_push_of_some _ g1)
 have g3:=get?_update_seq g2 (fun _ => out)
 refine ⟨_,g3,fun b o hb e => ?_⟩
 exact (Heap.get?_update_other _ _ (Ne.symm hb)).trans (Heap.get?_push_of_some _ (Heap.get?_push_of_some _ ((Heap.get?_update_other _ _ (Ne.symm hb)).trans e)))
theorem sorted_of {x:Value} {vs:List Value} {kc:Value→List L2.Key} {d:List Bool} {Q:Value→Shared→Prop} (hc:∀ R:List Value→Shared→Prop,(∀ h' tk,(∀ b o,s.heap.get? b = some o→h'.get? b = some o)→s.heap.objs.size < h'.objs.size→R vs { s with heap:=h',toks:=tk })→wpAny (model prog w) A.in1 (collect x) R E s)
  (ht:∀ v∈vs,TupAt s.heap v (kc v)) (hs:∀ v∈vs,sd (kc v) = d) (hd:d≠[]) (hl:vs.length≤sizeLine)
  (q:∀ (h':Heap) (tk c:Nat) (p:Addr) (out:List Value),(∀ b o,s.heap.get? b = some o→h'.get? b = some o)→s.heap.objs.size≤p→h'.get? p = some (seqObj "list" out.toArray c)→out.Perm vs→(out.Pairwise fun u v => lx (kc v) (kc u) = false)→Q (.ref p) { s with heap:=h',toks:=tk }) :
  wpAny (model prog w) A (call (.builtin "sorted") [x]) Q E s:=by
 refine Calls.call_function_entry kind_sorted plain_sorted entry_sorted (args_sorted1 _) ?_
 refine wpAny_bind (m:=checkCount "sorted" 1 1 _) (wpAny_pure ?_)
 refine wpAny_bind (hc _ fun h' tk kp lt => ?_)
 refine wpAny_bind (wpAny_newList ?_)
 have e1:(h'.push (seqObj "list" vs.toArray 0)).get? h'.objs.size = some (seqObj "list" vs.toArray 0):=Heap.get?_push_size _ rfl
 have kp2:∀ b o,s.heap.get? b = some o→(h'.push (seqObj "list" vs.toArray 0)).get? b = some o:=fun b o e => Heap.get?_push_of_some _ (kp b o e)
 refine wpAny_bind (wpAny_holding (wpAny_call_entry slot_list_sort ⟨_,e1,rfl⟩ entry_list_sort (sort_any e1 (fun v hv => (ht v hv).keep kp2) hs hd hl fun out pm up => ⟨_,rfl,wpAny_pure ⟨_,rfl,?_⟩⟩) (args_list_sort _)))
 obtain ⟨c,g1,g2⟩:=sortedHeap_at (out:=out.toArray) e1
 exact q _ tk c _ out (fun b o e => g2 b o (Nat.ne_of_lt (Nat.lt_trans (Heap.lt_size e) lt)) (kp2 b o e)) (Nat.le_of_lt lt) g1 pm up
end
end TS
namespace L2
open PySem PyProof.Rows TS
def unV:V→Key | .int n => .inl n | .str x => .inr x | _ => .inl 0
theorem unV_kV (k:Key):unV (kV k) = k:=by cases k <;> rfl
def KeyAt (H:Hp) (bs:List Addr) (ks:List (List Key)):Prop:=bs.length = ks.length∧∀ (i:Nat) (b:Addr) (k:List Key),bs[i]? = some b→ks[i]? = some k→H b = some (.tup (k.map kV))
def kcOf (H:Hp):Value→List Key
 | .ref b => match H b with | some (.tup ys) => ys.map unV | _ => []
 | _ => []
theorem kcOf_at {H:Hp} {b:Addr} {k:List Key} (e:H b = some (.tup (k.map kV))):kcOf H (.ref b) = k:=by
 show (match H b with | some (.tup ys) => ys.map unV | _ => []) = k
 rw [e]
 show (k.map kV).map unV = k
 rw [List.map_map]
 exact (List.map_congr_left fun x _ => unV_kV x).trans (List.map_id _)
theorem kVals_of:∀ {ks:List Key} {us:List Value},Vals (ks.map kV) us→KVals ks us
 | [],_,h => by rw [List.map_nil] at h; cases h; exact .nil
 | k :: ks,_,h => by
  rw [List.map_cons] at h
  cases h with
  | cons r t =>
   refine .cons ?_ (kVals_of t)
   cases k with
   | inl n => exact r
   | inr x => exact r
theorem tupAt_of {P:Program} {w:World} {H:Hp} {h:Heap} {b:Addr} {k:List Key} (ok:HOk P w H h) (e:H b = some (.tup (k.map kV))):TS.TupAt h (.ref b) k:=by
 obtain ⟨_,its,r,o,h1,h2,n,h3⟩:=(show ObjOk P w H h b (.tup (k.map kV)) from ok b _ e)
 exact ⟨b,o,its,n,rfl,h1,h2,h3,kVals_of r⟩
def adOf:Value→Addr | .ref b => b | _ => 0
theorem keys_out {H:Hp} {vs out:List Value} {ks:List (List Key)} (hv:∀ v∈vs,∃ (b:Addr) (k:List Key),v = .ref b∧H b = some (.tup (k.map kV))) (hk:vs.map (kcOf H) = ks) (pm:out.Perm vs) (up:out.Pairwise fun u v => lx (kcOf H v) (kcOf H u) = false) :
  Vals ((out.map adOf).map V.ref) out∧KeyAt H (out.map adOf) (out.map (kcOf H))∧(out.map (kcOf H)).Perm ks∧(out.map (kcOf H)).Pairwise fun a b => lx b a = false:=by
 have ho:∀ v∈out,∃ (b:Addr) (k:List Key),v = .ref b∧H b = some (.tup (k.map kV)):=fun v h => hv v (pm.mem_iff.mp h)
 refine ⟨?_,⟨by rw [List.length_map,List.length_map],fun i b k h1 h2 => ?_⟩,hk▸pm.map _,List.pairwise_map.mpr up⟩
 ·clear pm up hk
  induction out with
  | nil => exact .nil
  | cons v r ih =>
   obtain ⟨b,k,rfl,_⟩:=ho v (List.mem_cons_self ..)
   exact .cons rfl (ih fun u hu => ho u (List.mem_cons_of_mem _ hu))
 ·rw [List.getElem?_map] at h1 h2
  obtain ⟨v,e1,rfl⟩:=Option.map_eq_some_iff.mp h1
  rw [e1] at h2
  cases h2
  obtain ⟨b,k,rfl,e⟩:=ho v (List.mem_of_getElem? e1)
  rw [kcOf_at e]
  exact e
section
variable {X:Cx}
end
end L2
namespace L2
open PySem PySem.Spec PyProof.Rows
section
variable {X:Cx} {pins:List (Addr × Obj)} {σ:St} {H:Hp} {s:Shared}
end
end L2
namespace TS
open PySem PyProof.Rows L2
section
variable {prog:Program} {w:World} {A:Around} {E:Value→Shared→Prop} {s:Shared}
variable {K:Type} [DecidableEq K] {knd:HeapKind prog w K}
end
end TS
namespace L2
open PySem PyProof.Rows TS
section
variable {X:Cx}
end
end L2
namespace TS
open PySem PyProof.Rows L2
section
variable {prog:Program} {w:World} {A:Around} {E:Value→Shared→Prop} {s:Shared} {K:Type} [DecidableEq K] {knd:HeapKind prog w K}
end
end TS
namespace L2
open PySem PyProof.Rows TS
section
variable {X:Cx}
end
end L2
namespace L2
open PySem PySem.Spec PyProof.Rows
section
variable {P:Program} {w:World} {K:PySem.W.Frag} {mg:Str→Option Value} {base:Heap}
end
section
variable {X:Cx} {k:Nat} {m:Str} {C:Addr} {ps:List Str} {sp:Sp} {E:XK}
end
end L2
namespace L2
open PySem PyProof.Rows
section
variable {X:Cx}
end
end L2
namespace L2
open PySem PySem.Spec PyProof.Rows
section
variable {X:Cx} {k:Nat} {x m:Str} {C:Addr} {ps:List Str} {sp:Sp} {E:St→XK} {p pos apos:Pos} {e o:Expr} {es:List Expr} {ta:TE} {t:TA}
end
end L2
namespace L2
open PySem PySem.Spec PyProof.Rows TS
section
variable {X:Cx}
theorem call_sortedL:CallR X (.builtin "sorted") (fun xs H Q => ∃ p bs ks d,xs = [.ref p]∧H p = some (.lst (bs.map V.ref))∧KeyAt H bs ks∧(∀ k∈ks,sd k = d)∧d≠[] ∧
  ∀ l bs' ks',H l = none→KeyAt H bs' ks'→ks'.Perm ks→(ks'.Pairwise fun a b => lx b a = false)→Q (.ref l) (upd H l (.lst (bs'.map V.ref)))):=by
 intro pins s σ H xs us Q I r h
 obtain ⟨p,bs,ks,d,rfl,e,ka,hs,hd,q⟩:=h
 obtain ⟨u,rfl,ru⟩:=vals1 r
 cases ru
 obtain ⟨its,rv,pl,hz⟩:=I.list (SqL.of e)
 obtain rfl:=refs_of rv
 have hv:∀ v∈bs.map Value.ref,∃ (b:Addr) (k:List Key),v = .ref b∧H b = some (.tup (k.map kV))∧k∈ks:=fun v hv => by
  obtain ⟨b,hb,rfl⟩:=List.mem_map.mp hv
  obtain ⟨i,hi,eb⟩:=List.getElem_of_mem hb
  have hi2:i < ks.length:=by rw [← ka.1]; exact hi
  exact ⟨b,ks[i],rfl,ka.2 i b ks[i] (by rw [List.getElem?_eq_getElem hi,eb]) (List.getElem?_eq_getElem hi2),List.getElem_mem hi2⟩
 have hk:(bs.map Value.ref).map (kcOf H) = ks:=by
  refine List.ext_getElem (by rw [List.length_map,List.length_map,ka.1]) fun i h1 h2 => ?_
  rw [List.getElem_map,List.getElem_map]
  have hb:i < bs.length:=by simpa using h1
  exact kcOf_at (ka.2 i bs[i] ks[i] (List.getElem?_eq_getElem hb) (List.getElem?_eq_getElem h2))
 have hks:∀ v∈bs.map Value.ref,sd (kcOf H v) = d:=fun v hv' => by
  obtain ⟨b,k,rfl,e1,hm⟩:=hv v hv'
  rw [kcOf_at e1]
  exact hs k hm
 have hlen:(bs.map Value.ref).length≤sizeLine:=by
  have:=hz
  simpa using this
 refine sorted_of (kc:=kcOf H) (fun R hR => collect_list (A:=X.A.in1) pl.isList (hR _ s.toks (fun b o e => ?_) ?_) hlen) (fun v hv' => ?_) hks hd hlen fun h' tk c p' out kp hp e' pm up => ?_
 ·exact (Heap.get?_update_other _ _ (Nat.ne_of_gt (Heap.lt_size e))).trans (Heap.get?_push_of_some _ e)
 ·show s.heap.objs.size < ((s.heap.push _).update _ _).objs.size
  simp [Heap.update,Heap.push]
 ·obtain ⟨b,k,rfl,e1,_⟩:=hv v hv'
  rw [kcOf_at e1]
  exact tupAt_of I.hok e1
 ·obtain ⟨rv,ka,pm2,up2⟩:=keys_out (fun v h => by obtain ⟨b,k,e1,e2,_⟩:=hv v h; exact ⟨b,k,e1,e2⟩) hk pm up
  refine ⟨.ref p',_,I.laid (t':=tk) (o:=.lst ((out.map adOf).map V.ref)) kp hp ⟨?_,out,c,rv,e'⟩,rfl,q p' _ _ (I.hok.fresh hp) ka pm2 up2⟩
  rw [List.length_map,List.length_map,pm.length_eq]
  exact hlen
open Classical in
end
end L2
namespace L2
open PySem PySem.Spec PyProof.Rows
end L2
namespace L2
open PySem PySem.Spec PyProof.Rows TS
section
variable {X:Cx} {pos:Pos}
end
section
variable {X:Cx} {pins:List (Addr × Obj)} {σ:St} {H:Hp} {s:Shared}
theorem op_eq_nil (hu:X.A.units < cLine):OpR X (compareOp .Eq) (fun x y H Q => ∃ a b xs,x = .ref a∧y = .ref b∧SqL X.K H a xs∧SqL X.K H b []∧Q (.bl xs.isEmpty) H):=by
 intro pins s σ H x y v u Q I rx ry h
 obtain ⟨a,b,xs,rfl,rfl,ha,hb,q⟩:=h
 cases rx
 cases ry
 obtain ⟨its,rv,p,_⟩:=I.list ha
 obtain ⟨jts,rw',p',_⟩:=I.list hb
 cases rw'
 cases rv with
 | nil => exact EqBoolInt.of_rc (SeqAt.RcAt.lists (e:=fun _ => true) p.isList p'.isList rfl hu (fun j h1 => absurd h1 (by simp))) ⟨.bl true,H,I,rfl,q⟩
 | cons r t => exact EqBoolInt.of_rc (SeqAt.RcAt.lists_lengths p.isList p'.isList (by simp) hu) ⟨.bl false,H,I,rfl,q⟩
open Classical in
end
end L2
namespace STb
open PySem SetTable
end STb
namespace STb
open PySem SetTable
end STb
namespace STb
open PySem SetTable
end STb
namespace STb
open PySem SetTable
end STb
namespace STb
open PySem PySem.Spec PyProof.Rows L2 SetTable
section
variable {P:Program} {w:World} {A:Around} {E:Value→Shared→Prop} {s:Shared}
end
end STb
namespace STb
open PySem PySem.Spec PyProof.Rows L2 SetTable
section
variable {P:Program} {w:World} {A:Around} {E:Value→Shared→Prop} {s:Shared}
end
end STb
namespace STb
open PySem PySem.Spec PyProof.Rows L2 SetTable
section
variable {P:Program} {w:World} {A:Around} {E:Value→Shared→Prop} {s:Shared}
end
end STb
namespace STb
open PySem PySem.Spec PyProof.Rows L2 SetTable
section
variable {P:Program} {w:World} {A:Around} {E:Value→Shared→Prop} {s:Shared}
end
end STb
namespace STb
open PySem PySem.Spec PyProof.Rows L2 SetTable
section
variable {P:Program} {w:World}
variable {A:Around} {R:Result→Shared→Prop} {It:Addr} {fp wr:List Addr} {G:Array GenState→Array GenState→Prop} {n:Nat} {Pr:Nat→Value→Prop} {St:Nat→Shared→Prop}
end
end STb
namespace STb
open PySem PySem.Spec PyProof.Rows L2 SetTable
section
variable {P:Program} {w:World} {A:Around} {E:Value→Shared→Prop} {s:Shared}
abbrev newS (led:Bool):Obj:={ cls:=.type "set",dict:=none,data:=.set #[] 0 (.fresh 0 0 led) }
theorem code_set_new_2 (a:Value) {Q₁:Value→Shared→Prop}
  (h:Q₁ (.ref s.heap.objs.size) { s with heap:=s.heap.push (newS (!w.params.followText "set-order")) }) :
  codeAny (model P w) A (.call (.builtin "set.__new__") ⟨[.type "set",a],[]⟩) (wants Q₁ E) s:=by
 refine codeAny_of_tree ?_
 show wpAny _ A.in1 (do checkBuiltinCall "set.__new__" ⟨[.type "set",a],[]⟩; again (.builtin "set.__new__" ⟨[.type "set",a],[]⟩)) _ _ s
 refine wpAny_bind (wpAny_of_eq (PySem.F.newCall_set_1 a) (wpAny_pure ⟨plainId_quiet PySem.F.plain_set_new _,codeAny_builtin PySem.F.entry_set_new ?_⟩))
 rw [Around.under_plainId PySem.F.plain_set_new _]
 unfold Builtin.«set.__new__» Builtin.Frozenset.newClass
 have hsub:=sub_set_self
 obtain ⟨hp,g,d,tk,os⟩:=s
 dsimp only
 wp_walk
 refine wpAny_askSetting (wpAny_pure ?_)
 dsimp only
 simp only [newObj]
 refine wpAny_bind (wpAny_alloc (wpAny_pure ?_))
 exact wpAny_pure h
end
end STb
namespace L2
open PySem PySem.Spec PyProof.Rows TS STb
section
variable {X:Cx}
end
end L2
namespace L2
open PySem PySem.Spec PyProof.Rows
def CodeE (c:Addr) (qual:Str):HO:=.ext fun h => h.CodeRec (.ref c) qual
def LamE (f:Addr) (qual:Str) (params:Arguments) (body:Expr) (scope:Scope) (cl:List (Str × Addr)) (c:Addr):HO :=
 .ext fun h => ∃ pm ct,h.get? f = some (PySem.W.kla_obj "<lambda>" qual params body scope cl pm c ct)
def Tbl (H:Hp) (P:Addr) (pos:Pos) (qual:Str):Prop :=
 ∃ ps,H P = some (.tbl ps)∧TriplesOk ps.toList∧(codeAmong pos ps.toList = none∨∃ c,codeAmong pos ps.toList = some (.ref c)∧H c = some (CodeE c qual))
def OffP (P:Addr) (H H':Hp):Prop:=∀ b u,b≠P→H b = some u→H' b = some u
def Sm (H H':Hp):Prop:=(∀ b u,(∀ ps,u≠.tbl ps)→H b = some u→H' b = some u)∧∀ b ps,H b = some (.tbl ps)→∃ ps',H' b = some (.tbl ps')
theorem Sm.trans {H H1 H2:Hp} (a:Sm H H1) (b:Sm H1 H2):Sm H H2:=⟨fun c u n e => b.1 c u n (a.1 c u n e),fun c ps e => let ⟨_,e1⟩:=a.2 c ps e; b.2 c _ e1⟩
theorem Sm.of {H H':Hp} (a:Same H H'):Sm H H':=⟨fun b u _ e => a b u e,fun b ps e => ⟨ps,a b _ e⟩⟩
theorem Sm.none {H H':Hp} (a:Sm H H') {b:Addr} (n:H' b = none):H b = none:=by
 cases e:H b with
 | none => rfl
 | some u =>
  by_cases h:∃ ps,u = .tbl ps
  ·obtain ⟨ps,rfl⟩:=h
   obtain ⟨_,z⟩:=a.2 b ps e
   rw [n] at z; cases z
  ·have z:=a.1 b u (fun ps q => h ⟨ps,q⟩) e
   rw [n] at z; cases z
theorem OffP.sm {P:Addr} {H H':Hp} {ps ps':Array Value} (a:OffP P H H') (h:H P = some (.tbl ps)) (h':H' P = some (.tbl ps')):Sm H H' :=
 ⟨fun b u n e => a b u (fun z => by rw [z,h] at e; exact n _ (Option.some.inj e).symm) e,fun b qs e => by
  by_cases z:b = P
  ·exact ⟨ps',z▸h'⟩
  ·exact ⟨qs,a b _ z e⟩⟩
theorem Tbl.same {P:Addr} {H H':Hp} {pos:Pos} {qual:Str} (t:Tbl H P pos qual) (a:Same H H'):Tbl H' P pos qual:=by
 obtain ⟨qs,e,tr,k⟩:=t
 refine ⟨qs,a _ _ e,tr,?_⟩
 rcases k with k | ⟨c,k,hc⟩
 ·exact .inl k
 ·exact .inr ⟨c,k,a _ _ hc⟩
def BMod (mg:Str→Option Value) (base:Heap):Prop :=
 ∃ bm ob,mg "__builtins__" = some (.ref bm)∧bm≠builtinsNs∧base.get? bm = some ob∧ob.cls = .type "module"∧ob.dict = some builtinsNs∧ob.data = .plain
def tLam (P:Addr) (qual:Str) (params:Arguments) (body:Expr) (scope:Scope) (cl:List (Str × Addr)) (pos:Pos):TE:=fun _ H Q =>
 Tbl H P pos qual∧∀ c f H',OffP P H H'→Tbl H' P pos qual→H f = none→H' f = some (LamE f qual params body scope cl c)→H' c = some (CodeE c qual)→Q (.ref f) H'
section
variable {X:Cx} {params:Arguments} {body:Expr} {scope:Scope} {pos:Pos} {cl:List (Str × Addr)} {c0 P:Addr}
theorem codeE_ok {Pr:Program} {w:World} {H:Hp} {h:Heap} {c:Addr} {qual:Str} (r:h.CodeRec (.ref c) qual):ObjOk Pr w H h c (CodeE c qual):=by
 obtain ⟨c',o,vs,t,e,g,r'⟩:=id r
 cases e
 refine ⟨r,⟨o,g⟩,fun h1 h2 z k => ?_⟩
 obtain ⟨c',o,vs,t,e,g,r'⟩:=z
 cases e
 exact ⟨_,o,vs,t,rfl,k _ g,r'⟩
theorem lamE_ok {Pr:Program} {w:World} {H:Hp} {h:Heap} {f c:Addr} {qual:Str} {pm ct:Value} (e:h.get? f = some (PySem.W.kla_obj "<lambda>" qual params body scope cl pm c ct)):ObjOk Pr w H h f (LamE f qual params body scope cl c) :=
 ⟨⟨pm,ct,e⟩,⟨_,e⟩,fun h1 h2 ⟨pm,ct,z⟩ k => ⟨pm,ct,k _ z⟩⟩
theorem pe_lam (hdef:defaultsOf params X.env = ([],[])) (hcl:closureFor scope X.env = pure cl) (hcode:X.env.code = .ref c0) (C:PySem.W.codeHdIn X.K c0 P = true) (hB:BMod X.mg X.base) :
  PE X (.Lambda params body scope pos) (tLam P (X.env.qual ++ "<lambda>") params body scope cl pos):=by
 intro pins s σ H Q I h
 obtain ⟨⟨ps,hP,ht,hcase⟩,q⟩:=h
 refine PySem.W.kla_eval hdef ?_
 have hg:s.heap.Ns mainGlobals X.mg:=I.mod.glob.keeps I.bk
 have CH:PySem.W.CodeHd s.heap c0 P:=PySem.W.codeHd_of_K I.kIn C
 have hPo:s.heap.get? P = some (PySem.W.tabObj ps):=I.hok P _ hP
 have inb:∀ b o,X.base.get? b = some o→b≠P:=fun b o e z => by
  have:=(I.bs b o e).2
  rw [z,hP] at this; cases this
 obtain ⟨bm,ob,b1,b2,b3,b4,b5,b6⟩:=hB
 have hgP:mainGlobals≠P:=by
  obtain ⟨o,es,ep,e,_⟩:=I.mod.glob
  exact inb _ _ e
 have hne:bm≠mainGlobals:=fun z => by
  obtain ⟨o,es,ep,e,hd,_⟩:=I.mod.glob
  rw [z,e] at b3; cases b3; rw [hd] at b6; cases b6
 have hb:s.heap.BuiltinsAt X.mg P:=⟨bm,ob,b1,b2,hne,inb _ _ b3,I.bk _ _ b3,b4,b5,b6⟩
 rcases hcase with hnf | ⟨c,hf,hc⟩
 ·refine PySem.W.kla_makeFunction (mg:=X.mg) hcl I.ok.glob hg hcode CH hPo ht hnf hgP hb fun c ctv h' tk hx hge hlt hrec htb => ?_
  have hfn:H h'.objs.size = none:=I.hok.fresh (Nat.le_trans hge (Nat.le_of_lt hlt))
  have hcn:H c = none:=I.hok.fresh hge
  have ncP:c≠P:=fun z => by rw [z,hP] at hcn; cases hcn
  have nfP:h'.objs.size≠P:=fun z => by rw [z,hP] at hfn; cases hfn
  have nfc:h'.objs.size≠c:=Nat.ne_of_gt hlt
  generalize hps:ps ++ #[rawInt pos.line,rawInt pos.col,.ref c] = ps2 at htb
  generalize hH:upd (upd (upd H P (.tbl ps2)) c (CodeE c (X.env.qual ++ "<lambda>"))) h'.objs.size (LamE h'.objs.size (X.env.qual ++ "<lambda>") params body scope cl c) = H2
  have e1:H2 h'.objs.size = some (LamE h'.objs.size (X.env.qual ++ "<lambda>") params body scope cl c):=by rw [← hH,upd_same]
  have e2:H2 c = some (CodeE c (X.env.qual ++ "<lambda>")):=by rw [← hH,upd_ne (Ne.symm nfc),upd_same]
  have e3:H2 P = some (.tbl ps2):=by rw [← hH,upd_ne (Ne.symm nfP),upd_ne (Ne.symm ncP),upd_same]
  have e4:∀ b,b≠P→b≠c→b≠h'.objs.size→H2 b = H b:=fun b n1 n2 n3 => by rw [← hH,upd_ne n3,upd_ne n2,upd_ne n1]
  have off:OffP P H H2:=fun b u n e => by rw [e4 b n (ne_of_none e hcn) (ne_of_none e hfn)]; exact e
  have kp:∀ b o,b≠P→s.heap.get? b = some o→(h'.push (PySem.W.kla_obj "<lambda>" (X.env.qual ++ "<lambda>") params body scope cl ((X.mg "__name__").getD .none) c ctv)).get? b = some o:=fun b o n e => Heap.get?_push_of_some _ (hx b o n e)
  have low:∀ b o,s.heap.get? b = some o→b≠c∧b≠h'.objs.size:=fun b o e => ⟨Nat.ne_of_lt (Nat.lt_of_lt_of_le (Heap.lt_size e) hge),Nat.ne_of_lt (Nat.lt_trans (Nat.lt_of_lt_of_le (Heap.lt_size e) hge) hlt)⟩
  have un:Un X.fs [] H H2 s.heap (h'.push (PySem.W.kla_obj "<lambda>" (X.env.qual ++ "<lambda>") params body scope cl ((X.mg "__name__").getD .none) c ctv)):=by
   refine ⟨fun b o e n _ _ => kp b o (fun z => by rw [z,hP] at n; cases n) e,fun b o e n _ _ => ⟨o.slots,kp b o (fun z => by rw [z,hP] at n; cases n) e⟩,fun b o e n _ => ?_,fun b o e _ => ?_,fun b xs e => off b _ (fun z => by rw [z,hP] at e; cases e) e,fun b o u e => off b _ (fun z => by rw [z,hP] at e; cases e) e,fun b qs e => ?_⟩
   ·rw [e4 b (fun z => by rw [z,hP] at n; cases n) (low b o e).1 (low b o e).2]; exact n
   ·by_cases z:b = P
    ·exact ⟨_,Heap.get?_push_of_some _ (z▸htb)⟩
    ·exact ⟨o,kp b o z e⟩
   ·by_cases z:b = P
    ·rw [z,hP] at e; cases e
     exact ⟨#[rawInt pos.line,rawInt pos.col,.ref c],by rw [z,e3,hps]⟩
    ·exact ⟨#[],by rw [off b _ z e]; simp⟩
  have hok:HOk X.prog X.w H2 (h'.push (PySem.W.kla_obj "<lambda>" (X.env.qual ++ "<lambda>") params body scope cl ((X.mg "__name__").getD .none) c ctv)):=fun b o e => by
   by_cases z1:b = h'.objs.size
   ·subst z1
    rw [e1] at e; cases e
    exact lamE_ok (Heap.get?_push_size _ rfl)
   ·by_cases z2:b = c
    ·subst z2
     rw [e2] at e; cases e
     exact codeE_ok (hrec.push _)
    ·by_cases z3:b = P
     ·subst z3
      rw [e3] at e; cases e
      exact (show _ = _ from Heap.get?_push_of_some _ htb)
     ·rw [e4 b z3 z2 z1] at e
      refine (I.hok b o e).stay (fun d u hd g => kp d u (fun z => ?_) g) (fun d g => off d _ (fun z => by rw [z,hP] at g; cases g) g) fun d xs g => off d _ (fun z => by rw [z,hP] at g; cases g) g
      rcases hd with w1 | w1
      ·exact z3 (w1▸z)
      ·rw [z,hP] at w1; cases w1
  refine ⟨.ref h'.objs.size,H2,I.un un hok,rfl,q c _ H2 off ⟨ps2,e3,?_,.inr ⟨c,?_,e2⟩⟩ hfn e1 e2⟩
  ·rw [← hps]
   have:(ps ++ #[rawInt pos.line,rawInt pos.col,Value.ref c]).toList = ps.toList ++ [rawInt pos.line,rawInt pos.col,.ref c]:=by simp
   rw [this]; exact TriplesOk_snoc _ _ _ _ ht
  ·rw [← hps]
   have:(ps ++ #[rawInt pos.line,rawInt pos.col,Value.ref c]).toList = ps.toList ++ [rawInt pos.line,rawInt pos.col,.ref c]:=by simp
   rw [this]; exact codeAmong_snoc _ ht hnf
 ·refine PySem.W.kla_makeFunctionHit (mg:=X.mg) hcl I.ok.glob hg hcode CH hPo ht hf hb fun ctv h' tk hk hsz => ?_
  have hfn:H h'.objs.size = none:=I.hok.fresh hsz
  have nf:∀ {b:Addr} {u:HO},H b = some u→b≠h'.objs.size:=fun e => ne_of_none e hfn
  have J:=I.laid (a:=h'.objs.size) (o:=LamE h'.objs.size (X.env.qual ++ "<lambda>") params body scope cl c) (t':=tk) (h':=h'.push (PySem.W.kla_obj "<lambda>" (X.env.qual ++ "<lambda>") params body scope cl ((X.mg "__name__").getD .none) c ctv))
   (fun b u e => Heap.get?_push_of_some _ (hk b u e)) hsz (lamE_ok (Heap.get?_push_size _ rfl))
  refine ⟨.ref h'.objs.size,_,J,rfl,q c _ _ (fun b u _ e => by rw [upd_ne (nf e)]; exact e) ⟨ps,by rw [upd_ne (nf hP)]; exact hP,ht,.inr ⟨c,hf,by rw [upd_ne (nf hc)]; exact hc⟩⟩ hfn upd_same (by rw [upd_ne (nf hc)]; exact hc)⟩
end
end L2
namespace L2
open PySem PySem.Spec PyProof.Rows
end L2
namespace L2
open PySem PySem.Spec PyProof.Rows
abbrev FrzO (c:Addr) (o:Obj):HO:=.frz o (.ext fun h => h.get? c = some o)
def CellO (o:Obj) (v:V):Prop:=∃ u,RelV v u∧o.data = .cell (some u)
def FrzC (H:Hp) (c:Addr) (v:V):Prop:=∃ o,H c = some (FrzO c o)∧CellO o v
section
variable {X:Cx} {k:Nat} {f C:Addr} {fd:FuncData} {ps:List Str} {sp:Sp} {x m:Str} {p pos apos:Pos} {e o:Expr} {es:List Expr} {ta:TE} {t:TA} {i:Nat} {y:Str} {c:Addr}
def Calls (P:Program) (w:World) (K:PySem.W.Frag) (mg:Str→Option Value) (base:Heap) (k:Nat) (f:Addr) (sp:Sp):Prop :=
 ∀ (A:Around) (outer:List Env) (s:Shared) (H:Hp) (us:List Value) (vs:List V) (Q:VK),Room k A→Env0 P w K mg base A outer s H→Vals vs us→sp vs H Q (fun _ _ _ => False) →
  codeAny (model P w) A (.call (.ref f) ⟨us,[]⟩) (CR (XC P w) outer P w H s Q (fun _ _ _ => False)) s
end
def unfs (H:Hp) (cl:List (Str × Addr)):Hp:=fun b => if b∈cl.map (·.2) then none else H b
def refs (H H':Hp) (cl:List (Str × Addr)):Hp:=fun b => if b∈cl.map (·.2) then H b else H' b
theorem unfs_ne {H:Hp} {cl:List (Str × Addr)} {b:Addr} (n:b ∉ cl.map (·.2)):unfs H cl b = H b:=if_neg n
theorem unfs_in {H:Hp} {cl:List (Str × Addr)} {b:Addr} (n:b∈cl.map (·.2)):unfs H cl b = none:=if_pos n
theorem refs_ne {H H':Hp} {cl:List (Str × Addr)} {b:Addr} (n:b ∉ cl.map (·.2)):refs H H' cl b = H' b:=if_neg n
theorem refs_in {H H':Hp} {cl:List (Str × Addr)} {b:Addr} (n:b∈cl.map (·.2)):refs H H' cl b = H b:=if_pos n
structure LamScope (N ps:List Str) (scope:Scope) (cl:List (Str × Addr)):Prop where
 kind:scope.kind = .function
 co:scope.isCoroutine = false
 gen:scope.isGenerator = false
 nocell:∀ y∈scope.names,y.2≠.cell
 nd:ps.Nodup
 N:N = ps ++ cl.map (·.1)
 par:∀ x∈ps,scope.names.lookup x = some .local
 fre:∀ q∈cl,scope.names.lookup q.1 = some .free∧cl.lookup q.1 = some q.2
 has:∀ x,scope.names.lookup x = some .free→∃ c,cl.lookup x = some c
 inj:∀ x y c,cl.lookup x = some c→cl.lookup y = some c→x = y
theorem lamScope0 {ps:List Str} {scope:Scope} (h1:scope.kind = .function) (h2:scope.isCoroutine = false) (h3:scope.isGenerator = false) (h4:(scope.names.all fun y => y.2 != .cell && y.2 != .free) = true) (h5:ps.Nodup)
  (h6:(ps.all fun x => scope.names.lookup x == some .local) = true):LamScope ps ps scope [] :=
 ⟨h1,h2,h3,fun y hy => by
   have:=List.all_eq_true.mp h4 y hy
   simp only [Bool.and_eq_true,bne_iff_ne] at this
   exact this.1,h5,by simp,fun x hx => by simpa using List.all_eq_true.mp h6 x hx,fun q hq => absurd hq (by simp),fun x e => by
   have:=List.all_eq_true.mp h4 _ (lookup_mem e)
   simp at this,fun x y c e => by simp at e⟩
def cxL (P:Program) (w:World) (K:PySem.W.Frag) (mg:Str→Option Value) (base:Heap) (N:List Str) (qual:Str) (scope:Scope) (f c:Addr) (cl:List (Str × Addr)) (A:Around) (outer:List Env) (s:Shared) (H:Hp):Cx where
 prog:=P
 w:=w
 K:=K
 mg:=mg
 base:=base
 A:=A.deeper (PySem.W.envX qual scope s.heap.objs.size f (.ref c) cl)
 N:=N
 s₀:=s
 H₀:=H
 env:=PySem.W.envX qual scope s.heap.objs.size f (.ref c) cl
 outer:=outer
 stack:=PySem.W.envX qual scope s.heap.objs.size f (.ref c) cl :: outer
 ex:=[]
 calm:=true
 fn:=fun _ => false
 pn:=[]
 xe:=fun _ _ => False
theorem zip_rev_lookup {x:Str} {u:Value}:∀ {ps:List Str} {us:List Value} {i:Nat},ps.Nodup→ps[i]? = some x→us[i]? = some u→(ps.zip us).reverse.lookup x = some u
 | [],_,_,_,h,_ => by simp at h
 | _ :: _,[],_,_,_,h => by simp at h
 | p :: ps,v :: us,0,nd,h1,h2 => by
  simp at h1 h2; subst h1; subst h2
  have:(ps.zip us).reverse.lookup p = none:=by
   cases e:(ps.zip us).reverse.lookup p with
   | none => rfl
   | some w => exact absurd (List.of_mem_zip (List.mem_reverse.mp (lookup_mem e))).1 (List.nodup_cons.mp nd).1
  rw [List.zip_cons_cons,List.reverse_cons,List.lookup_append,this]; simp
 | p :: ps,v :: us,i + 1,nd,h1,h2 => by
  have:=zip_rev_lookup (ps:=ps) (us:=us) (i:=i) (List.nodup_cons.mp nd).2 (by simpa using h1) (by simpa using h2)
  rw [List.zip_cons_cons,List.reverse_cons,List.lookup_append,this]; simp
theorem paired_get {α β:Type} {F:α→β→Prop}:∀ {l₁:List α} {l₂:List β} {i:Nat} {a:α},Paired F l₁ l₂→l₁[i]? = some a→∃ b,l₂[i]? = some b∧F a b
 | _,_,_,_,.nil,e => by simp at e
 | _,_,0,_,.cons r _,e => by simp at e; subst e; exact ⟨_,rfl,r⟩
 | _,_,i + 1,a,.cons _ t,e => by
  obtain ⟨u,h1,h2⟩:=paired_get (i:=i) (a:=a) t (by simpa using e)
  exact ⟨u,by simpa using h1,h2⟩
section
variable {P:Program} {w:World} {K:PySem.W.Frag} {mg:Str→Option Value} {base:Heap} {N ps:List Str} {qual:Str} {params:Arguments} {body:Expr} {scope:Scope} {cl:List (Str × Addr)} {cvs:List V} {f c:Addr} {k:Nat}
 {A:Around} {outer:List Env} {s:Shared} {H:Hp} {us:List Value} {vs:List V} {Q:VK} {E:XK}
theorem lam_call (S:LamScope N ps scope cl) (hb:∀ (pm ct:Value) (us:List Value),us.length = ps.length→bindArgs (PySem.W.kla_fn "<lambda>" qual params body scope cl pm (.ref c) ct) ⟨us,[]⟩ = pure (ps.zip us))
  (hr:Room (k + 1) A) (e0:Env0 P w K mg base A outer s H) (r:Vals vs us) (hl:vs.length = ps.length) (hf:H f = some (LamE f qual params body scope cl c)) (hc:H c = some (CodeE c qual))
  (hcs:Paired (fun (p:Str × Addr) v => FrzC H p.2 v) cl cvs)
  (hbody:Room k (A.deeper (PySem.W.envX qual scope s.heap.objs.size f (.ref c) cl))→∃ te,PE (cxL P w K mg base N qual scope f c cl A outer s (unfs H cl)) body te ∧
   te (vs.map some ++ cvs.map some) (unfs H cl) (fun r H' => (∀ p∈cl,H' p.2 = none)→Q r (refs H H' cl))) :
  codeAny (model P w) A (.call (.ref f) ⟨us,[]⟩) (CR (XC P w) outer P w H s Q E) s:=by
 obtain ⟨⟨pm,ct,ho⟩,_⟩:=e0.hok f _ hf
 have hcd:s.heap.CodeRec (.ref c) qual:=(e0.hok c _ hc).1
 have lim:s.heap.NoLimit:=e0.mod.nolimit.keeps fun b o e => (e0.bs b o e).1
 have frz:∀ b∈cl.map (·.2),∃ ob u,H b = some (FrzO b ob)∧s.heap.get? b = some ob∧ob.data = .cell (some u):=fun b hb => by
  obtain ⟨p,hp,rfl⟩:=List.mem_map.mp hb
  obtain ⟨i,hi,e⟩:=List.getElem_of_mem hp
  obtain ⟨v,_,ob,e1,u,_,e2⟩:=paired_get (i:=i) (a:=p) hcs (by rw [List.getElem?_eq_getElem hi,e])
  exact ⟨ob,u,e1,(e0.hok _ _ e1).1,e2⟩
 have nin:∀ {b:Addr},H b = none→b ∉ cl.map (·.2):=fun n hb => by
  obtain ⟨_,_,e,_⟩:=frz _ hb
  rw [n] at e; cases e
 have nin2:∀ {b:Addr} {u:HO},H b = some u→(∀ o z,u≠.frz o z)→b ∉ cl.map (·.2):=fun e n hb => by
  obtain ⟨_,_,e',_⟩:=frz _ hb
  rw [e] at e'; exact n _ _ (Option.some.inj e')
 have e1:Env0 P w K mg base A outer s (unfs H cl):=by
  refine ⟨e0.frames,e0.mod,fun b o e => ⟨(e0.bs b o e).1,?_⟩,e0.bsz,e0.funs,fun b hb => ?_,fun b o e => ?_,e0.bare,.inl (hr.hd rfl)⟩
  ·have n:=(e0.bs b o e).2
   rw [unfs_ne (nin n)]; exact n
  ·have n:=e0.frf b hb
   rw [unfs_ne (nin n)]; exact n
  ·by_cases z:b∈cl.map (·.2)
   ·rw [unfs_in z] at e; cases e
   ·rw [unfs_ne z] at e
    exact (e0.hok b o e).stay (fun _ _ _ q => q) (fun d g => by rw [unfs_ne (nin2 g (by intro o u z; cases z))]; exact g) fun d xs g => by rw [unfs_ne (nin2 g (by intro o u z; cases z))]; exact g
 have hlu:us.length = ps.length:=by rw [← r.length]; exact hl
 refine PySem.W.kla_callFunE hr.depth ho rfl S.co S.gen rfl hcd ?_
 rw [hb pm ct us hlu]
 refine wpAny_pure (wpAny_newFunctionEnv S.nocell (fun y hy => S.par _ (List.of_mem_zip hy).1) (fun h₁ hns hsb => ⟨lim.fresh _ hsb,?_⟩) S.kind)
 have hk₁:∀ b o,s.heap.get? b = some o→h₁.get? b = some o:=fun b o e => hsb.extBut b o (Nat.ne_of_lt (Heap.lt_size e)) (Heap.get?_push_of_some _ e)
 obtain ⟨te,ht,hq⟩:=hbody (hr.deeper _)
 have hcl:∀ x d,cl.lookup x = some d→d∈cl.map (·.2):=fun x d e => List.mem_map.mpr ⟨_,lookup_mem e,rfl⟩
 have kof:∀ x,(PySem.W.envX qual scope s.heap.objs.size f (.ref c) cl).kindOf x = scope.names.lookup x:=fun _ => rfl
 have I:Inv (cxL P w K mg base N qual scope f c cl A outer s (unfs H cl)) [] (vs.map some ++ cvs.map some) (unfs H cl) { s with heap:=h₁,toks:=s.toks + (ps.zip us).length }:=by
  have noA:∀ b:Addr,b ∉ (cxL P w K mg base N qual scope f c cl A outer s (unfs H cl)).ex:=fun b z => absurd (show b∈([]:List Addr) from z) (by simp)
  refine ⟨⟨e1.mod,S.kind,rfl,rfl,Nat.le_refl _,S.inj,fun x hx => S.has x ?_,fun x d z => (by cases z),fun _ => hr.hd rfl,Around.frames_deeper e1.frames,.inr ⟨rfl,rfl⟩,fun b z => absurd z (noA b),e1.bs,e1.bsz,fun b _ _ => noA b,fun b z => absurd z (noA b),e1.funs,e1.frf⟩,
   rfl,e1.bare,Un.kept hk₁,⟨_,hns,fun i x v h1 h2 h3 => ?_⟩,fun x d e => ?_,e1.hok.fresh (Nat.le_refl _),fun x d e => unfs_in (hcl x d e),fun p hp => absurd (show p∈([]:List (Addr × Obj)) from hp) (by simp),e1.hok.kept hk₁,?_,e1.hn⟩
  ·rcases hx with z | z
   ·exact absurd rfl (S.nocell _ (lookup_mem (show scope.names.lookup x = some .cell from z)))
   ·exact z
  ·have h1':(ps ++ cl.map (·.1))[i]? = some x:=by rw [← S.N]; exact h1
   by_cases hi:i < vs.length
   ·rw [List.getElem?_append_left (by rw [List.length_map]; exact hi),List.getElem?_map] at h2
    cases ev:vs[i]? with
    | none => rw [ev] at h2; cases h2
    | some v' =>
     rw [ev] at h2; cases h2
     obtain ⟨u,hu,rv⟩:=r.get ev
     rw [List.getElem?_append_left (by omega)] at h1'
     exact ⟨u,rv,.inl ⟨S.par x (List.mem_of_getElem? h1'),zip_rev_lookup S.nd h1' hu⟩⟩
   ·rw [List.getElem?_append_right (by rw [List.length_map]; omega),List.getElem?_map,List.length_map] at h2
    rw [List.getElem?_append_right (by omega),List.getElem?_map,← hl] at h1'
    obtain ⟨p,ep,rfl⟩:=Option.map_eq_some_iff.mp h1'
    obtain ⟨v',ev,ob,g1,u,g2,g3⟩:=paired_get hcs ep
    rw [ev] at h2; cases h2
    obtain ⟨k1,k2⟩:=S.fre p (List.mem_of_getElem? ep)
    exact ⟨u,g2,.inr ⟨.inr k1,p.2,k2,ob,hk₁ _ _ (e0.hok _ _ g1).1,g3⟩⟩
  ·obtain ⟨ob,u,_,g,d2⟩:=frz d (hcl x d e)
   exact ⟨_,ob,hk₁ _ _ g,d2⟩
  ·show (vs.map some ++ cvs.map some).length = N.length
   have lc:cl.length = cvs.length:=Paired.length hcs
   rw [S.N,List.length_append,List.length_append,List.length_map,List.length_map,List.length_map,hl,lc]
 refine PySem.W.kla_codeExpr (wpAny_mono (ht [] _ _ _ _ I hq) (fun u s' hs => ?_) fun _ _ z => z.elim)
 obtain ⟨v,H',J,rv,q⟩:=hs
 have jc:∀ b∈cl.map (·.2),H' b = none:=fun b hb => by
  obtain ⟨p,hp,rfl⟩:=List.mem_map.mp hb
  exact J.freeC p.1 p.2 (S.fre p hp).2
 have jb:Un (frs outer) [] (unfs H cl) H' s.heap s'.heap:=J.base
 have nj:∀ {b:Addr} {u:HO},H' b = some u→b ∉ cl.map (·.2):=fun e hb => by rw [jc _ hb] at e; cases e
 refine ⟨v,refs H H' cl,J.os,J.bare,?_,fun b o e => ?_,rv,q fun p hp => jc _ (List.mem_map_of_mem hp)⟩
 ·refine ⟨fun b o e n hb hx => jb.keep b o e (by rw [unfs_ne (nin n)]; exact n) hb hx,fun b o e n hb hx => jb.slot b o e (by rw [unfs_ne (nin n)]; exact n) hb hx,fun b o e n hx => ?_,fun b o e hx => jb.there b o e hx,fun b xs e => ?_,fun b o z e => ?_,fun b qs e => ?_⟩
  ·rw [refs_ne (nin n)]; exact jb.free b o e (by rw [unfs_ne (nin n)]; exact n) hx
  ·have n:=nin2 e (by intro o u z; cases z)
   rw [refs_ne n]; exact jb.tups b xs (by rw [unfs_ne n]; exact e)
  ·by_cases n:b∈cl.map (·.2)
   ·rw [refs_in n]; exact e
   ·rw [refs_ne n]; exact jb.frzs b o z (by rw [unfs_ne n]; exact e)
  ·have n:=nin2 e (by intro o u z; cases z)
   rw [refs_ne n]; exact jb.tbls b qs (by rw [unfs_ne n]; exact e)
 ·by_cases n:b∈cl.map (·.2)
  ·rw [refs_in n] at e
   obtain ⟨ob,u,g1,g2,g3⟩:=frz b n
   rw [g1] at e; cases e
   have g4:s'.heap.get? b = some ob:=jb.keep b ob g2 (unfs_in n) (fun z => by rw [e0.frf b z] at g1; cases g1) (by simp)
   exact ⟨g4,g4,⟨_,g4⟩,fun h1 h2 a k => k _ a⟩
  ·rw [refs_ne n] at e
   exact (J.hok b o e).stay (fun _ _ _ g => g) (fun d g => by rw [refs_ne (nj g)]; exact g) fun d xs g => by rw [refs_ne (nj g)]; exact g
end
end L2
namespace L2
open PySem PySem.Spec PyProof.Rows
structure FunC (K:PySem.W.Frag) (x qual:Str) (st:Stmt) (f:Addr) (fd:FuncData) (c P:Addr):Prop where
 ex:∃ (oc:Value) (od:Option Addr) (kV doc pm:Value) (an:Option Addr) (ct:Value) (osl:Array (Option Value)),
  fd = PySem.W.fnOf x qual (defArgs st) (defBody st) (defScope st) .none kV doc pm an (.ref c) ct∧K.lookup f = some ⟨oc,od,.func fd,osl⟩∧PySem.W.codeIn K (.ref c) qual = true
 kp:PySem.W.keepIn K (.ref f) = true
 hd:PySem.W.codeHdIn K c P = true
section
variable {P:Program} {w:World} {K:PySem.W.Frag} {mg:Str→Option Value} {base:Heap} {N ps:List Str} {x qual:Str} {st:Stmt} {f c Pl:Addr} {fd:FuncData}
theorem FunC.okX {k:Nat} {sp:Sp} {cm:Bool} (F:FunC K x qual st f fd c Pl) (S:FnScope N ps (defScope st)) (len:∀ vs H Q E,sp vs H Q E→vs.length = ps.length)
  (hbody:∀ (A:Around) (outer:List Env) (s:Shared) (H:Hp) (vs:List V) (Q:VK) (E:XK),RoomC cm k (A.deeper (envOfC qual (defScope st) s.heap.objs.size f (.ref c)))→sp vs H Q E →
   ∃ t,PSs (cxE P w K mg base N qual (defScope st) f (.ref c) A outer s H E cm) (defBody st) t∧t { nx:=fun _ H' => Q .non H',rt:=Q } (start N vs) H):FnOk P w K mg base (XC P w) (k + 1) f fd ps sp cm:=by
 obtain ⟨oc,od,kV,doc,pm,an,ct,osl,rfl,lk,hcd⟩:=F.ex
 exact fn_of lk hcd S len fun A outer s H vs Q E hr hsp => hbody A outer s H vs Q E hr hsp
theorem FunC.binds (F:FunC K x qual st f fd c Pl)
  (h:∀ (kV doc pm:Value) (an:Option Addr) (cdv ct:Value) (us:List Value),us.length = ps.length→bindArgs (PySem.W.fnOf x qual (defArgs st) (defBody st) (defScope st) .none kV doc pm an cdv ct) ⟨us,[]⟩ = pure (ps.zip us)):Binds K fd ps []:=by
 obtain ⟨oc,od,kV,doc,pm,an,ct,osl,rfl,lk,hcd⟩:=F.ex
 exact .all (h kV doc pm an _ ct)
theorem funC_mk {oc:Value} {od an:Option Addr} {osl:Array (Option Value)} {kV doc pm ct:Value} (l:K.lookup f = some ⟨oc,od,.func (PySem.W.fnOf x qual (defArgs st) (defBody st) (defScope st) .none kV doc pm an (.ref c) ct),osl⟩)
  (h:PySem.W.codeIn K (.ref c) qual = true) (k:PySem.W.keepIn K (.ref f) = true) (d:PySem.W.codeHdIn K c Pl = true):FunC K x qual st f (PySem.W.fnOf x qual (defArgs st) (defBody st) (defScope st) .none kV doc pm an (.ref c) ct) c Pl:=⟨⟨oc,od,kV,doc,pm,an,ct,osl,rfl,l,h⟩,k,d⟩
end
theorem law_callT {P:Program} {w:World} {K:PySem.W.Frag} {mg mb:Str→Option Value} {k:Nat} {fa a:Addr} {fd:FuncData} {x:Str} {sp:Sp} {s₁:Shared} {vs:List Value} {ns:List Int} {tabs:List Addr}
  (KX:K.In s₁.heap) (hns:s₁.heap.Ns mainGlobals mg) (hb:s₁.heap.Ns builtinsNs mb) (hbb:∀ x:Str,x≠"__name__"→mb x = bootBuiltins x) (hlim:s₁.heap.NoLimit) (hg:s₁.gens = #[]) (hBM:BMod mg s₁.heap)
  (hT:∀ p∈tabs,isCodeTable s₁.heap p∧s₁.heap.get? p = some (PySem.W.tabObj #[])∧K.lookup p = none)
  (ha:s₁.heap.get? a = some { cls:=.type "list",data:=.seq vs.toArray }) (hi:IntsAre vs ns) (hl:ns.length≤sizeLine) (hr:Room k callerA)
  (F:∀ base:Heap,K.In base→base.Ns mainGlobals mg→BMod mg base→FnOk P w K mg base (XC P w) k fa fd [x] sp) (hbind:∀ (s:Shared) (u:Value),BindsTo s fd ⟨[u],[]⟩ [(x,u)])
  (hsp:∀ H:Hp,SqL K H a (ns.map V.int)→(∀ p∈tabs,H p = some (.tbl #[]))→sp [.ref a] H (fun v _ => v = .bl true) fun _ _ _ => False) :
  codeAny (model P w) callerA (.call (.ref fa) ⟨[.ref a],[]⟩) (fun r s' => r = .ok (.ret (.bool true))∧OldK s₁.heap s'.heap∧s'.os = s₁.os∧AllBare s'.gens) s₁:=by
 have rv:=vals_ints hi
 have lenV:=hi.length
 have core:∀ H:Hp,SqL K H a (ns.map V.int)→HOk P w H s₁.heap→(∀ b u,H b = some u→(b∈tabs∧u = .tbl #[])∨(b = a∧K.lookup a = none∧∃ o xs,u = .frz o (.lst xs)))→(∀ p∈tabs,H p = some (.tbl #[])) →
   codeAny (model P w) callerA (.call (.ref fa) ⟨[.ref a],[]⟩) (fun r s' => r = .ok (.ret (.bool true))∧OldK s₁.heap s'.heap∧s'.os = s₁.os∧AllBare s'.gens) s₁:=by
  intro H hS hok hA hTb
  have base_of:∀ {b:Addr} {o:Obj},s₁.heap.get? b = some o→H b = none→(hidT s₁.heap H).get? b = some o:=fun e n => hidT_get e n
  have noA:∀ {b:Addr} {o:Obj},s₁.heap.get? b = some o→(∀ qs,o.data≠.fields qs)→(∀ xs n,o.data≠.seq xs n)→H b = none:=fun {b o} e d1 d2 => by
   cases q:H b with
   | none => rfl
   | some u =>
    rcases hA b u q with ⟨z,_⟩ | ⟨z,_⟩
    ·rw [(hT b z).2.1] at e; cases e; exact absurd rfl (d1 _)
    ·subst z; rw [ha] at e; cases e; exact absurd rfl (d2 _ _)
  have nsK:∀ {b:Addr} {m:Str→Option Value},s₁.heap.Ns b m→(hidT s₁.heap H).Ns b m:=fun {b m} ⟨o,es,ep,e,d,r⟩ => ⟨o,es,ep,base_of e (noA e (fun qs z => by rw [d] at z; cases z) fun xs n z => by rw [d] at z; cases z),d,r⟩
  have hKb:K.In (hidT s₁.heap H):=fun b o e => base_of (KX b o e) (by
   cases q:H b with
   | none => rfl
   | some u =>
    rcases hA b u q with ⟨z,_⟩ | ⟨z,z2,_⟩
    ·rw [(hT b z).2.2] at e; cases e
    ·subst z; rw [z2] at e; cases e)
  have hBb:BMod mg (hidT s₁.heap H):=by
   obtain ⟨bm,ob,b1,b2,b3,b4,b5,b6⟩:=hBM
   exact ⟨bm,ob,b1,b2,base_of b3 (noA b3 (fun qs z => by rw [b6] at z; cases z) fun xs n z => by rw [b6] at z; cases z),b4,b5,b6⟩
  have hM:Mod K mg (hidT s₁.heap H):=⟨hKb,nsK hns,⟨mb,nsK hb,hbb⟩,let ⟨mc,h1,h2⟩:=hlim; ⟨mc,nsK h1,h2⟩⟩
  have e0:Env0 P w K mg (hidT s₁.heap H) callerA [] s₁ H:=⟨rfl,hM,fun b o e => of_hidT e,Nat.le_of_eq (hidT_size _ _),trivial,fun b hb => absurd (show b∈([]:List Addr) from hb) (by simp),hok,.of_eq hg,.inl rfl⟩
  refine codeAny_mono ((F _ hKb (nsK hns) hBb).run callerA [] s₁ H ⟨[.ref a],[]⟩ [.ref a] [.ref a] _ _ hr e0 (hbind s₁ (.ref a)) (.cons rfl .nil) (hsp H hS hTb)) fun r s' h => ?_
  cases r with
  | error e =>
   obtain ⟨_,_,_,_,_,_,_,_,_,z⟩:=h
   exact z.elim
  | ok fl =>
   cases fl with
   | next => exact False.elim h
   | brk => exact False.elim h
   | cont => exact False.elim h
   | ret u =>
    obtain ⟨v,H',os,bare,un,hok',r',q⟩:=h
    have q':v = .bl true:=q
    subst q'
    obtain rfl:u = Value.bool true:=r'
    refine ⟨rfl,⟨fun b o e => ?_,fun b o e => un.there b o e (by simp)⟩,os,bare⟩
    cases q:H b with
    | none => exact .inl (un.keep b o e q (by intro z; exact absurd (show b∈([]:List Addr) from z) (by simp)) (by simp))
    | some u =>
     rcases hA b u q with ⟨z,rfl⟩ | ⟨z,_,ob,xs,rfl⟩
     ·obtain ⟨more,z2⟩:=un.tbls b _ q
      have z3:s'.heap.get? b = some (PySem.W.tabObj (#[] ++ more)):=hok' b _ z2
      rw [(hT b z).2.1] at e; cases e
      exact .inr (.inl ⟨(hT b z).1,rfl,#[],more,rfl,z3⟩)
     ·have z2:=un.frzs b ob _ q
      obtain ⟨e1,_⟩:=hok b _ q
      obtain ⟨e2,_⟩:=hok' b _ z2
      rw [e] at e1; cases e1
      exact .inl e2
 have at':a ∉ tabs:=fun z => by
  have:=(hT a z).2.1
  rw [ha] at this; cases this
 cases hk:K.lookup a with
 | some o =>
  have e:=KX a o hk
  rw [ha] at e
  cases e
  refine core (fun b => if b∈tabs then some (.tbl #[]) else none) (.inr ⟨_,vs.toArray,_,hk,rfl,rfl,rfl,by rw [List.size_toArray,lenV]; exact hl,by simpa using rv⟩) (fun b u z => ?_) (fun b u z => ?_) fun p hp => if_pos hp
  ·by_cases hb:b∈tabs
   ·have z':=(if_pos hb).symm.trans z
    cases z'
    exact (hT b hb).2.1
   ·have z':=(if_neg hb).symm.trans z
    cases z'
  ·by_cases hb:b∈tabs
   ·have z':=(if_pos hb).symm.trans z
    cases z'
    exact .inl ⟨hb,rfl⟩
   ·have z':=(if_neg hb).symm.trans z
    cases z'
 | none =>
  have eH:∀ b,b≠a→(fun b => if b = a then some (HO.frz { cls:=.type "list",data:=.seq vs.toArray } (.lst (ns.map V.int))) else if b∈tabs then some (HO.tbl #[]) else none) b = if b∈tabs then some (HO.tbl #[]) else none:=fun b n => if_neg n
  refine core (fun b => if b = a then some (.frz { cls:=.type "list",data:=.seq vs.toArray } (.lst (ns.map V.int))) else if b∈tabs then some (.tbl #[]) else none) (.inl (.inr ⟨{ cls:=.type "list",data:=.seq vs.toArray },if_pos rfl⟩)) (fun b u z => ?_) (fun b u z => ?_) fun p hp => ?_
  ·by_cases hb:b = a
   ·have z':=(if_pos hb).symm.trans z
    cases z'
    subst hb
    exact ⟨ha,by rw [List.length_map]; exact hl,vs,_,rv,ha⟩
   ·replace z:=(eH b hb).symm.trans z
    by_cases hb2:b∈tabs
    ·rw [if_pos hb2] at z; cases z
     exact (hT b hb2).2.1
    ·rw [if_neg hb2] at z; cases z
  ·by_cases hb:b = a
   ·have z':=(if_pos hb).symm.trans z
    cases z'
    exact .inr ⟨hb,hk,_,_,rfl⟩
   ·replace z:=(eH b hb).symm.trans z
    by_cases hb2:b∈tabs
    ·rw [if_pos hb2] at z; cases z
     exact .inl ⟨hb2,rfl⟩
    ·rw [if_neg hb2] at z; cases z
  ·have n:p≠a:=fun z => at' (z▸hp)
   exact (eH p n).trans (if_pos hp)
theorem walk_ofT {l:PySem.W.OpenLaw} {n k:Nat} {q:Program} {loose:List Str} {XP:(Str→Option Value)→Heap→Prop} {YP:World→Heap→Prop} {d:DefRec} {K:Params→PySem.W.Frag} {sp:PySem.W.Frag→List Addr→Sp} {x:Str}
  (hn:l.most = some n) (hn2:n≤sizeLine) (hdf:d.params.defaults = []) (hr:Room k callerA)
  (hY:∀ (w:World) (h:Heap),YP w h→(K w.params).In h)
  (F:∀ (w:World) (mg:Str→Option Value) (fa:Addr) (h:Heap),YP w h→(K w.params).In h→h.Ns mainGlobals mg→mg d.name = some (.ref fa) →
   ∃ (fd:FuncData) (tabs:List Addr),(∀ (s:Shared) (u:Value),BindsTo s fd ⟨[u],[]⟩ [(x,u)])∧(∀ p∈tabs,isCodeTable h p∧h.get? p = some (PySem.W.tabObj #[])∧(K w.params).lookup p = none) ∧
    ∀ base:Heap,(K w.params).In base→base.Ns mainGlobals mg→BMod mg base→FnOk l.prog w (K w.params) mg base (XC l.prog w) k fa fd [x] (sp (K w.params) tabs))
  (hsp:∀ (K:PySem.W.Frag) (tabs:List Addr) (H:Hp) (a:Addr) (ns:List Int),ns.length≤n→SqL K H a (ns.map V.int)→(∀ p∈tabs,H p = some (.tbl #[]))→sp K tabs [.ref a] H (fun v _ => v = .bl true) fun _ _ _ => False) :
  PySem.W.WalkO q loose XP YP l.row.toRowW d [] (fun f vs => PySem.call f vs):=by
 refine Att.attach_call hn hdf fun w s₀ s₁ mg mb fa o pm cd doc a vs ns G Y ho hd hcd hmg hobj hints hlen hg => ?_
 have KX:=hY w _ Y
 obtain ⟨fd,tabs,hb,hT,hF⟩:=F w mg fa _ Y KX G.T.g hmg
 exact law_callT KX G.T.g G.T.b G.T.builtins G.T.nolimit hg G.T.bmain hT hobj hints (Nat.le_trans hlen hn2) hr hF hb (fun H hS hTb => hsp _ tabs H a ns hlen hS hTb)
end L2
namespace L2
open PySem PySem.Spec PyProof.Rows
section
variable {X:Cx}
end
end L2
namespace L2
open PySem PySem.Spec PyProof.Rows
section
variable {X:Cx} {k:Nat} {x:Str} {p pos:Pos} {e:Expr} {es:List Expr} {ta:TE} {t:TA}
theorem pg_tupK {K:PySem.W.Frag} {es:List Expr} {j:Nat} {t:TGs} {n:Nat} (hK:X.K = K) (hc:X.calm = true) (h:PGs X es t)
  (hn:(assignEach es X.env).length = n:=by rfl) (hst:(assignEach es X.env).findIdx? (·.1) = none:=by rfl):PG X (.Tuple es j pos) (gTup K n t):=by
 subst hK; exact pg_tup hc h hn hst
end
end L2
namespace STb
open PySem PySem.Spec PyProof.Rows L2 SetTable TS
section
variable {prog:Program} {w:World} {A:Around} {E:Value→Shared→Prop} {s:Shared} {S t it:Addr} {es:Array (Int × Value)} {ep i:Nat} {tb:SetTable}
end
end STb
namespace L2
open PySem PySem.Spec PyProof.Rows TS STb
section
variable {X:Cx}
end
end L2
namespace L2
open PySem PySem.Spec PyProof.Rows
section
variable {X:Cx} {tg:Expr}
end
end L2
namespace L2
open PySem PySem.Spec PyProof.Rows
section
variable {prog:Program} {w:World} {A:Around} {E:Value→Shared→Prop} {s:Shared} {z TI TO i1 i2 l1 l2:Addr} {xs ys:Array Value} {k:Nat}
end
section
variable {X:Cx} {elts:List Expr} {kk:Nat} {tpos:Pos}
end
section
variable {prog:Program} {w:World} {A:Around} {E:Value→Shared→Prop} {s:Shared}
end
section
variable {X:Cx}
end
section
variable {X:Cx} {e:Expr} {f:Str} {pos:Pos} {ta:TE}
end
end L2
namespace L2
open PySem PySem.Spec PyProof.Rows
section
variable {prog:Program} {w:World} {A:Around} {E:Value→Shared→Prop} {s:Shared}
open HT in
end
section
variable {X:Cx}
end
end L2
namespace L2
open PySem PyProof PyProof.Rows
section
variable {prog:Program} {w:World} {A:Around} {E:Value→Shared→Prop} {s:Shared}
end
section
variable {X:Cx}
end
end L2
namespace L2
open PySem PySem.Spec PyProof.Rows
section
variable {P:Program} {w:World} {K:PySem.W.Frag} {mg:Str→Option Value} {base:Heap}
end
section
variable {X:Cx} {k:Nat} {x m:Str} {C:Addr} {ps:List Str} {sp:Sp} {dv:V} {E:XK} {p pos apos:Pos} {e o:Expr} {es:List Expr} {ta:TE} {t:TA}
end
end L2
namespace TS
open PySem PyProof.Rows L2
section
variable {prog:Program} {w:World} {A:Around} {E:Value→Shared→Prop} {s:Shared}
end
end TS
namespace L2
open PySem PySem.Spec PyProof.Rows TS
section
variable {X:Cx} {tg:Expr}
end
end L2
namespace L2
open PySem PyProof.Rows TS
section
variable {X:Cx} {pins:List (Addr × Obj)} {σ:St} {H:Hp} {s:Shared}
end
end L2
namespace TS
open PySem PyProof.Rows L2
theorem list_sort_keyed (a f:Addr):Builtin.«list.sort» ⟨[.ref a],[("key",.ref f)]⟩ = (do
  let items ← Builtin.List.listItems (.ref a)
  Builtin.List.listUpdate (.ref a) fun _ => #[]
  let before ← seqEpoch a
  let held ← newTuple items.toList
  let keyStore ← newList []
  holding [held,keyStore] do
   rule "list.sort.key"
   for x in items do
    match ← (call (.ref f) [x]).attempt with
    | .ok k => Builtin.List.listUpdate keyStore (·.push k)
    | .error e =>
     rule "list.sort.key-raised"
     let made ← Builtin.List.listItems keyStore
     Builtin.List.listUpdate keyStore fun _ => #[]
     letGo made.toList.reverse [e]
     Builtin.List.listUpdate (.ref a) fun _ => items
     throw e
   let keys ← Builtin.List.listItems keyStore
   let kind ← if items.size < 2 then pure general' else keyKind' keys
   let ((),s) ← (if items.size < 2 then pure () else sortRuns').run (SortSt.mk' kind (keys.zip items) #[] 7 none)
   let sorted:=(arrOf s).map (·.2)
   Builtin.List.listUpdate keyStore fun _ => #[]
   letGo ((arrOf s).map (·.1)).toList (failedOf s).toList
   let touched:=(← seqEpoch a) != before
   Builtin.List.listUpdate (.ref a) fun _ => sorted
   if let some e:=failedOf s then rule "list.sort.comparison-raised"; throw e
   if touched then rule "list.sort.modified"; raiseError "ValueError" "list modified during sort"
   ret .none):=rfl
section
variable {prog:Program} {w:World} {A:Around} {E:Value→Shared→Prop} {s:Shared}
theorem sort_keyed {κ:KeyKind} (hO:κ.OneLt) {a f:Addr} {vs:List Value} {n e1:Nat} {P:Fin→Shared→Prop} {kk:Value→κ.α} {J:List Value→Nat→Shared→Prop}
  (ho:s.heap.get? a = some (seqObj "list" vs.toArray n)) (h64:vs.length < 64)
  (he:(s.heap.update a (Obj.mapSeq fun _ => #[])).get? a = some (seqObj "list" #[] e1))
  (J0:J [] 0 { s with heap:=((s.heap.update a (Obj.mapSeq fun _ => #[])).push (seqObj "tuple" vs.toArray 0)).push (seqObj "list" #[] 0) })
  (JA:∀ xs e s',J xs e s'→s'.heap.get? a = some (seqObj "list" #[] e1)∧s'.heap.get? (s.heap.objs.size + 1) = some (seqObj "list" xs.toArray e))
  (JC:∀ xs e s' v (R:Value→Shared→Prop) (E':Value→Shared→Prop),J xs e s'→v∈vs→(∀ u s2,J xs e s2→κ.keyOf u = some (kk v)→R u s2)→wpAny (model prog w) A (call (.ref f) [v]) R E' s')
  (JU:∀ xs e u s',J xs e s'→∃ e',J (xs ++ [u]) e' { s' with heap:=s'.heap.update (s.heap.objs.size + 1) (Obj.mapSeq (·.push u)) })
  (hkk:∀ us:List Value,us.length = vs.length→2≤us.length→(∀ u∈us,∃ k,κ.keyOf u = some k)→∀ s' (R:SortKind→Shared→Prop),R oneType' s'→wpAny (model prog w) A (keyKind' us.toArray) R E s')
  (q:∀ (out xs:List Value) e s',J xs e s'→out.Perm vs→(out.Pairwise fun u v => κ.kle (kk u) (kk v)) →
   P (.done (.ret .none)) { s' with heap:=(s'.heap.update (s.heap.objs.size + 1) (Obj.mapSeq fun _ => #[])).update a (Obj.mapSeq fun _ => out.toArray) }) :
  wpAny (model prog w) A (Builtin.«list.sort» ⟨[.ref a],[("key",.ref f)]⟩) P E s:=by
 rw [list_sort_keyed]
 have ha:a < s.heap.objs.size:=Heap.lt_size ho
 refine wpAny_bind (listItems_at ho rfl (wpAny_bind (listUpdate_at ho rfl ?_ (by rw [List.size_toArray,sizeLine_eq]; omega))))
 refine wpAny_bind (seqEpoch_at he rfl (wpAny_bind (wpAny_newTuple (wpAny_bind (wpAny_newList (wpAny_holding ?_))))))
 have hK:((s.heap.update a (Obj.mapSeq fun _ => #[])).push (seqObj "tuple" vs.toArray 0)).objs.size = s.heap.objs.size + 1:=by rw [size_push',Heap.size_update]
 rw [hK]
 refine wpAny_bind (wpAny_rule ?_)
 refine wpAny_bind (wpAny_forIn_array' _ (fun rest _ s' => ∃ done us e,done ++ rest = vs∧us.length = done.length∧(∀ p∈us.zip done,κ.keyOf p.1 = some (kk p.2))∧J us e s') _ (fun x rest b s' h => ?_) (fun b s' h => ?_) _ _ ⟨[],[],0,rfl,rfl,fun p hp => (by cases hp),J0⟩)
 ·obtain ⟨done,us,e,h1,h2,h3,h4⟩:=h
  refine wpAny_bind (wpAny_attempt (JC us e s' x _ _ h4 (by rw [← h1]; simp) fun u s2 j2 hu => ?_))
  obtain ⟨e',j3⟩:=JU us e u s2 j2
  refine wpAny_bind (listUpdate_at (JA _ _ _ j2).2 rfl (wpAny_pure ?_) ?_ ?_)
  ·refine ⟨done ++ [x],us ++ [u],e',by rw [← h1]; simp,by simp [h2],fun p hp => ?_,j3⟩
   rw [List.zip_append h2] at hp
   rcases List.mem_append.mp hp with z | z
   ·exact h3 p z
   ·simp at z; rw [z]; exact hu
  ·have:=congrArg List.length h1
   rw [List.length_append,List.length_cons] at this
   rw [List.size_toArray,sizeLine_eq]; omega
  ·have:=congrArg List.length h1
   rw [List.length_append,List.length_cons] at this
   rw [Array.size_push,List.size_toArray,sizeLine_eq]; omega
 ·obtain ⟨done,us,e,h1,h2,h3,h4⟩:=h
  rw [List.append_nil] at h1
  subst h1
  have zl:(us.toArray.zip done.toArray).toList = us.zip done:=by simp
  have zs:(us.toArray.zip done.toArray).size = done.length:=by simp [h2]
  have g0:=JA _ _ _ h4
  have g2:(s'.heap.update (s.heap.objs.size + 1) (Obj.mapSeq fun _ => #[])).get? a = some (seqObj "list" #[] e1):=(Heap.get?_update_other _ _ (Nat.ne_of_gt (Nat.lt_succ_of_lt ha))).trans g0.1
  have outs:∀ y:Array Keyed,y.Perm (us.toArray.zip done.toArray)→SortedToK κ y done.length→∃ out:List Value,y.map (·.2) = out.toArray∧out.Perm done∧out.Pairwise fun u v => κ.kle (kk u) (kk v):=fun y pm up => by
   have pl:y.toList.Perm (us.zip done):=zl▸Array.perm_iff_toList_perm.mp pm
   refine ⟨y.toList.map (·.2),by rw [← Array.toList_map,Array.toArray_toList],?_,?_⟩
   ·have:=pl.map Prod.snd
    rwa [List.map_snd_zip (by omega)] at this
   ·have ysz:y.toList.length = done.length:=by rw [pl.length_eq,List.length_zip]; omega
    have hk:∀ (i:Nat) (hi:i < y.toList.length),KK κ y i = kk (y.toList[i]).2:=fun i hi => by
     have e:y[i]? = some (y.toList[i]):=by rw [← Array.getElem?_toList,List.getElem?_eq_getElem hi]
     unfold KK
     rw [e]
     show (κ.keyOf (y.toList[i]).1).getD κ.dflt = _
     rw [h3 _ (pl.mem_iff.mp (List.getElem_mem hi))]
     rfl
    refine List.pairwise_map.mpr (List.pairwise_iff_getElem.mpr fun i j hi hj hij => ?_)
    rw [← hk i hi,← hk j hj]
    exact up i j (Nat.le_of_lt hij) (by omega)
  have room:∀ y:Array Keyed,y.Perm (us.toArray.zip done.toArray)→(y.map (·.2)).size≤sizeLine + 1:=fun y hy => by
   rw [Array.size_map,hy.size_eq,zs,sizeLine_eq]; omega
  have usz:us.toArray.size≤sizeLine:=by rw [List.size_toArray,sizeLine_eq]; omega
  refine wpAny_bind (listItems_at g0.2 rfl ?_)
  rcases Nat.lt_or_ge done.length 2 with h5 | h5
  ·rw [if_pos (by simpa using h5),if_pos (by simpa using h5)]
   refine wpAny_bind (wpAny_pure ?_)
   dsimp only
   rw [StateT.run_pure]
   refine wpAny_bind (wpAny_pure (wpAny_bind (listUpdate_at g0.2 rfl (wpAny_bind (wpAny_letGo (wpAny_bind (seqEpoch_at g2 rfl (wpAny_bind (listUpdate_at g2 rfl ?_ (hsz2:=room _ (Array.Perm.refl _)))))))) usz (by simp))))
   simp only [bne_self_eq_false,Bool.false_eq_true,if_false]
   obtain ⟨out,e2,p,u⟩:=outs _ (Array.Perm.refl _) fun i j hij hj => (by
    have:i = j:=by omega
    subst this; exact KeyOrd.kle_refl _)
   refine wpAny_pure ?_
   show P _ { s' with heap:=(s'.heap.update (s.heap.objs.size + 1) (Obj.mapSeq fun _ => #[])).update a (Obj.mapSeq fun _ => (us.toArray.zip done.toArray).map (·.2)) }
   rw [e2]
   exact q out us e s' h4 p u
  ·rw [if_neg (by simpa using h5),if_neg (by simpa using h5)]
   refine wpAny_bind (hkk us h2 (by omega) (fun u hu => ?_) _ _ ?_)
   ·obtain ⟨i,hi,rfl⟩:=List.getElem_of_mem hu
    exact ⟨_,h3 (us[i],done[i]'(by omega)) (List.mem_iff_getElem.mpr ⟨i,by rw [List.length_zip]; omega,List.getElem_zip⟩)⟩
   refine wpAny_bind (wpAny_mono (wpS_sortRunsK (κ:=κ) hO (a₀:=us.toArray.zip done.toArray) (st:=SortSt.mk' oneType' (us.toArray.zip done.toArray) #[] 7 none)
    (Q:=fun _ st' => (arrOf st').Perm (us.toArray.zip done.toArray)∧failedOf st' = none∧SortedToK κ (arrOf st') (us.toArray.zip done.toArray).size)
    (fun p hp => ⟨_,h3 p (zl▸hp)⟩) ⟨Array.Perm.refl _,rfl,rfl,rfl⟩ (by rw [zs]; exact h5) (by rw [zs]; exact h64) fun st' a1 a2 a3 => ⟨a1,a2,a3⟩) ?_ fun _ _ e => e)
   rintro ⟨⟨⟩,y⟩ s2 ⟨rfl,pm,hf,up⟩
   dsimp only
   refine wpAny_bind (listUpdate_at g0.2 rfl (wpAny_bind (wpAny_letGo (wpAny_bind (seqEpoch_at g2 rfl (wpAny_bind (listUpdate_at g2 rfl ?_ (hsz2:=room _ pm))))))) usz (by simp))
   rw [hf]
   simp only [bne_self_eq_false,Bool.false_eq_true,if_false]
   obtain ⟨out,e2,p,u⟩:=outs _ pm (zs▸up)
   refine wpAny_pure ?_
   rw [e2]
   exact q out us e _ h4 p u
end
end TS
namespace L2
open PySem PySem.Spec PyProof.Rows
def tCK (r:List V→V→Hp→VK→Prop) (t:TA) (tk:TE):TE:=fun σ H Q => t σ H fun vs H1 => tk σ H1 fun y H2 => r vs y H2 Q
def CallK (X:Cx) (id:String) (r:List V→V→Hp→VK→Prop):Prop :=
 ∀ (pins:List (Addr × Obj)) (s:Shared) (σ:St) (H:Hp) (xs:List V) (us:List Value) (y:V) (v:Value) (Q:VK),Inv X pins σ H s→Vals xs us→RelV y v→r xs y H Q →
  wpAny (model X.prog X.w) X.A (call (.builtin id) us [("key",v)]) (EP X pins σ Q) X.xe s
section
variable {X:Cx} {x:Str} {p pos kp:Pos} {e l:Expr} {es:List Expr} {t:TA} {tk:TE} {id:String} {r:List V→V→Hp→VK→Prop}
theorem pe_callKey (hc:CallK X id r) (hg:Gl X x) (hm:X.mg x = none) (hv:bootBuiltins x = some (.builtin id)) (ha:PA X (e :: es) t) (hk:PE X l tk) (hn:x≠"__name__":=by decide) (hdb:(x == ("__debug__":Str)) = false:=by decide)
  (he:backTo pos (starEach (e :: es) X.env) = (false,eval e X.env) :: backTo pos (starEach es X.env):=by rfl) (hpl:(backTo pos (starEach (e :: es) X.env)).any (·.1) = false:=by rfl):PE X (.Call (.Name x p) (e :: es) [⟨some "key",l,kp⟩] pos) (tCK r t tk):=by
 intro pins s σ H Q I h
 refine wpAny_Call_Name_kw (ld_blt I hg hm hv ?_ hn hdb)
 refine callWith_kw (thn (ha pos pins s σ H _ I h) fun us s1 hh => ?_) he hpl
 obtain ⟨vs,H1,I1,r1,q1⟩:=hh
 refine kws_cons (thn (hk pins s1 σ H1 _ I1 q1) fun v s2 hh => kws_nil ?_)
 obtain ⟨y,H2,I2,r2,q2⟩:=hh
 exact hc pins s2 σ H2 vs us y v Q I2 r1 r2 q2
end
end L2
namespace TS
open PySem PyProof.Rows L2
@[reducible] def intKind:KeyKind where
 α:=Int
 blt a b:=decide (a < b)
 irrefl a:=by simp
 trans a b c h1 h2:=by simp only [decide_eq_true_eq] at *; omega
 negTrans a b c h:=by simp only [decide_eq_true_eq] at *; omega
 total a b h1 h2:=by simp only [decide_eq_false_iff_not] at *; omega
 keyOf v:=match v with | .int x _ => some x | _ => none
 dflt:=0
theorem intKind_oneLt:intKind.OneLt:=by
 intro prog w A E s x y a b Q ha hb h
 cases x <;> simp only [intKind,reduceCtorEq,Option.some.injEq] at ha
 cases y <;> simp only [intKind,reduceCtorEq,Option.some.injEq] at hb
 cases ha; cases hb
 exact oneLt_int h
theorem ints_are:∀ {us:List Value},(∀ u∈us,∃ k,intKind.keyOf u = some k)→∃ ns,IntsAre us ns
 | [],_ => ⟨[],.nil⟩
 | u :: us,h => by
  obtain ⟨ns,i⟩:=ints_are (us:=us) fun v hv => h v (List.mem_cons_of_mem _ hv)
  obtain ⟨k,hk⟩:=h u (List.mem_cons_self ..)
  cases u <;> simp only [intKind,reduceCtorEq,Option.some.injEq] at hk
  exact ⟨_ :: ns,.cons _ _ i⟩
theorem kind_ints {prog:Program} {w:World} {A:Around} {E:Value→Shared→Prop} {us:List Value} (h2:2≤us.length) (h:∀ u∈us,∃ k,intKind.keyOf u = some k) {s:Shared} {R:SortKind→Shared→Prop} (q:R oneType' s):wpAny (model prog w) A (keyKind' us.toArray) R E s:=by
 match us,h2 with
 | a :: b :: r,_ =>
  obtain ⟨ns,i⟩:=ints_are h
  rw [keyKind_ints i]
  exact wpAny_pure q
theorem args_sorted_key (a v:Value):argsOk "sorted" ⟨[a],[(Str.ofString "key",v)]⟩:=by unfold argsOk; kernel_rfl
theorem args_list_sort_key (a v:Value):argsOk "list.sort" ⟨[a],[(Str.ofString "key",v)]⟩:=by unfold argsOk; kernel_rfl
end TS
namespace L2
open PySem PyProof.Rows TS
theorem Inv.adopt {X:Cx} {pins:List (Addr × Obj)} {σ:St} {H:Hp} {s:Shared} {a:Addr} {o:HO} (I:Inv X pins σ H s) (f:FpOk X pins H a) (new:ObjOk X.prog X.w (upd H a o) s.heap a o):Inv X pins σ (upd H a o) s:=by
 have hn:=f.1
 refine I.call' (ch:=[a]) rfl ⟨fun b u e _ _ _ => e,fun b u e _ _ _ => ⟨u.slots,e⟩,fun b u e n x => by rw [upd_ne (fun z => x (by simp [z]))]; exact n,fun b u e _ => ⟨u,e⟩,fun b xs e => by rw [upd_ne (ne_of_none e hn)]; exact e,fun b x u e => by rw [upd_ne (ne_of_none e hn)]; exact e,fun b ps e => ⟨#[],by rw [upd_ne (ne_of_none e hn),e]; simp⟩⟩ (fun b u e => ?_) I.bare fun b hb => ?_
 ·by_cases hb:b = a
  ·subst hb; rw [upd_same] at e; cases e; exact new
  ·rw [upd_ne hb] at e
   exact (I.hok b u e).stay (fun c v _ q => q) (fun c q => by rw [upd_ne (ne_of_none q hn)]; exact q) fun c xs q => by rw [upd_ne (ne_of_none q hn)]; exact q
 ·obtain rfl:=List.mem_singleton.mp hb
  exact ⟨f.2.2.2.1,f.2.1,f.2.2.2.2.1,f.2.2.2.2.2⟩
end L2
namespace L2
open PySem PyProof.Rows TS
section
variable {X:Cx}
theorem refs_vals:∀ {bs:List Addr},Vals (bs.map V.ref) (bs.map Value.ref)
 | [] => .nil
 | _ :: _ => .cons rfl refs_vals
theorem upd_seq_other {h:Heap} {a b:Addr} {o:Obj} {g:Array Value→Array Value} (n:b≠a) (e:h.get? b = some o):(h.update a (Obj.mapSeq g)).get? b = some o:=(Heap.get?_update_other _ _ (Ne.symm n)).trans e
theorem call_sortedKey {n:Nat} (hr:Room (n + 2) X.A):CallK X "sorted" (fun xs y H Q => ∃ (p f:Addr) (bs:List Addr) (key:Addr→Int) (sp:Sp),xs = [.ref p]∧y = .ref f∧H p = some (.lst (bs.map V.ref))∧bs.length < 64∧Calls X.prog X.w X.K X.mg X.base n f sp ∧
  (∀ b∈bs,∀ Q':VK,Q' (.int (key b)) H→sp [.ref b] H Q' (fun _ _ _ => False)) ∧
  ∀ (l:Addr) (bs':List Addr),H l = none→bs'.Perm bs→(bs'.Pairwise fun a b => key a≤key b)→Q (.ref l) (upd H l (.lst (bs'.map V.ref)))):=by
 intro pins s σ H xs us y v Q I r ry h
 obtain ⟨p,f,bs,key,sp,rfl,rfl,e,hl,hC,hsp,q⟩:=h
 obtain ⟨u,rfl,ru⟩:=vals1 r
 cases ru
 obtain rfl:v = Value.ref f:=ry
 obtain ⟨its,rv,pl,hz⟩:=I.list (SqL.of e)
 obtain rfl:=refs_of rv
 have hlen:(bs.map Value.ref).length≤sizeLine:=by simpa using hz
 refine call_function_entry_kw kind_sorted plain_sorted entry_sorted (args_sorted_key _ _) ?_
 refine wpAny_bind (m:=checkCount "sorted" 1 1 _) (wpAny_pure ?_)
 refine wpAny_bind (collect_list (A:=X.A.in1) pl.isList ?_ hlen)
 have kp:∀ b o,s.heap.get? b = some o→((s.heap.push (seqObj "list" #[] 0)).update s.heap.objs.size (Obj.mapSeq (· ++ (bs.map Value.ref).toArray))).get? b = some o:=fun b o e => upd_seq_other (Nat.ne_of_lt (Heap.lt_size e)) (Heap.get?_push_of_some _ e)
 have lt:s.heap.objs.size < ((s.heap.push (seqObj "list" #[] 0)).update s.heap.objs.size (Obj.mapSeq (· ++ (bs.map Value.ref).toArray))).objs.size:=by simp [Heap.update,Heap.push]
 generalize (s.heap.push (seqObj "list" #[] 0)).update s.heap.objs.size (Obj.mapSeq (· ++ (bs.map Value.ref).toArray)) = h1 at kp lt
 refine wpAny_bind (wpAny_newList ?_)
 have e1:(h1.push (seqObj "list" (bs.map Value.ref).toArray 0)).get? h1.objs.size = some (seqObj "list" (bs.map Value.ref).toArray 0):=Heap.get?_push_size _ rfl
 have sz2:(h1.push (seqObj "list" (bs.map Value.ref).toArray 0)).objs.size = h1.objs.size + 1:=size_push' ..
 have kp2:∀ b o,s.heap.get? b = some o→(h1.push (seqObj "list" (bs.map Value.ref).toArray 0)).get? b = some o:=fun b o e => Heap.get?_push_of_some _ (kp b o e)
 generalize hh2:h1.push (seqObj "list" (bs.map Value.ref).toArray 0) = h2 at e1 sz2 kp2
 have ha:s.heap.objs.size≤h1.objs.size:=Nat.le_of_lt lt
 generalize h1.objs.size = a at e1 sz2 ha lt
 have hk:s.heap.objs.size≤h2.objs.size + 1:=by omega
 have ak:a≠h2.objs.size + 1:=by omega
 obtain ⟨n1,he⟩:∃ m,(h2.update a (Obj.mapSeq fun _ => #[])).get? a = some (seqObj "list" #[] m):=⟨_,get?_update_seq e1 fun _ => #[]⟩
 have fa:=I.fpOk (H':=H) ha (I.hok.fresh ha)
 have fk:=I.fpOk (H':=H) hk (I.hok.fresh hk)
 have pinA:∀ {h':Heap},h'.get? a = some (seqObj "list" #[] n1)→h'.get? a = some (seqObj "list" #[] n1)∧H a = none∧a≠X.env.locals∧a ∉ X.fs∧∀ v,(seqObj "list" #[] n1).data≠.cell v:=fun h => ⟨h,fa.1,fa.2.1,fa.2.2.1,fun v z => nomatch z⟩
 have pinK:∀ {h':Heap} {ys:Array Value} {m:Nat},h'.get? (h2.objs.size + 1) = some (seqObj "list" ys m)→h'.get? (h2.objs.size + 1) = some (seqObj "list" ys m)∧H (h2.objs.size + 1) = none∧h2.objs.size + 1≠X.env.locals∧h2.objs.size + 1 ∉ X.fs∧∀ v,(seqObj "list" ys m).data≠.cell v:=fun h => ⟨h,fk.1,fk.2.1,fk.2.2.1,fun v z => nomatch z⟩
 have JI:∀ {xs:List Value} {m:Nat} {s':Shared},Inv X pins σ H s'→s'.heap.get? a = some (seqObj "list" #[] n1)→s'.heap.get? (h2.objs.size + 1) = some (seqObj "list" xs.toArray m)→Inv X (pins ++ [(a,seqObj "list" #[] n1),(h2.objs.size + 1,seqObj "list" xs.toArray m)]) σ H s':=fun {xs m s'} I' g1 g2 => I'.pins_of fun p hp => by
  rcases List.mem_append.mp hp with z | z
  ·exact I'.pin p (List.mem_append_right _ z)
  ·rcases List.mem_cons.mp z with rfl | z
   ·exact pinA g1
   ·obtain rfl:=List.mem_singleton.mp z
    exact pinK g2
 have JA:∀ (xs:List Value) (m:Nat) (s':Shared),Inv X (pins ++ [(a,seqObj "list" #[] n1),(h2.objs.size + 1,seqObj "list" xs.toArray m)]) σ H s'→s'.heap.get? a = some (seqObj "list" #[] n1)∧s'.heap.get? (h2.objs.size + 1) = some (seqObj "list" xs.toArray m):=fun xs m s' J =>
  ⟨(J.pin (a,seqObj "list" #[] n1) (by simp)).1,(J.pin (h2.objs.size + 1,seqObj "list" xs.toArray m) (by simp)).1⟩
 refine wpAny_bind (wpAny_holding (wpAny_call_entry_kw slot_list_sort ⟨_,e1,rfl⟩ entry_list_sort (sort_keyed (κ:=intKind) intKind_oneLt (kk:=fun v => key (adOf v)) (e1:=n1) (J:=fun xs m s' => Inv X (pins ++ [(a,seqObj "list" #[] n1),(h2.objs.size + 1,seqObj "list" xs.toArray m)]) σ H s') e1 (by rw [List.length_map]; exact hl) he ?_ JA ?_ ?_ (fun us h1 h2 h3 s' R qq => kind_ints h2 h3 qq) ?_) (args_list_sort_key _ _)))
 ·have I2:Inv X pins σ H { s with heap:=((h2.update a (Obj.mapSeq fun _ => #[])).push (seqObj "tuple" (bs.map Value.ref).toArray 0)).push (seqObj "list" #[] 0) }:=I.turnedL (t':=s.toks) (ch:=[]) (fun _ z => nomatch z) fun c o _ ec => Heap.get?_push_of_some _ (Heap.get?_push_of_some _ (upd_seq_other (Nat.ne_of_lt (Nat.lt_of_lt_of_le (Heap.lt_size ec) ha)) (kp2 c o ec)))
  refine JI (xs:=[]) (m:=0) I2 (Heap.get?_push_of_some _ (Heap.get?_push_of_some _ he)) ?_
  have:=Heap.get?_push_size ((h2.update a (Obj.mapSeq fun _ => #[])).push (seqObj "tuple" (bs.map Value.ref).toArray 0)) (o:=seqObj "list" #[] 0) rfl
  rwa [size_push',Heap.size_update] at this
 ·intro xs m s' v R E' J hv hR
  obtain ⟨b,hb,rfl⟩:=List.mem_map.mp hv
  have z:=J.env0
  refine wpAny_call (codeAny_mono (hC X.A.in1.in1 X.stack s' H [.ref b] [.ref b] (fun y H' => y = .int (key b)∧H' = H) hr.in1.in1 ⟨z.frames,z.mod,z.bs,z.bsz,z.funs,z.frf,z.hok,z.bare,z.hn⟩ (.cons rfl .nil) (hsp b hb _ ⟨rfl,rfl⟩)) fun r s2 hq => ?_)
  cases r with
  | error e =>
   obtain ⟨_,_,_,_,_,_,_,_,_,z⟩:=hq
   exact z.elim
  | ok fl =>
   cases fl with
   | ret u =>
    obtain ⟨y,H',I2,ry,ey,eH⟩:=J.after hq
    subst ey eH
    obtain ⟨t,rfl⟩:=ry
    exact hR _ _ I2 rfl
   | next => exact False.elim hq
   | brk => exact False.elim hq
   | cont => exact False.elim hq
 ·intro xs m u s' J
  have g:=JA _ _ _ J
  have I2:Inv X pins σ H s':=J.pins_of fun p hp => J.pin p (List.mem_append_right _ (List.mem_append_left _ hp))
  have I3:Inv X pins σ H { s' with heap:=s'.heap.update (h2.objs.size + 1) (Obj.mapSeq (·.push u)) }:=I2.turnedL (t':=s'.toks) (ch:=[h2.objs.size + 1]) (fun c hc => by rw [List.mem_singleton.mp hc]; exact fk) fun c o hc ec => upd_seq_other (fun z => hc (by simp [z])) ec
  have g2:=get?_update_seq g.2 (·.push u)
  rw [List.push_toArray] at g2
  exact ⟨_,JI (xs:=xs ++ [u]) I3 (upd_seq_other ak g.1) g2⟩
 ·intro out xs m s' J pm pw
  have g:=JA _ _ _ J
  have I2:Inv X pins σ H s':=J.pins_of fun p hp => J.pin p (List.mem_append_right _ (List.mem_append_left _ hp))
  have I3:Inv X pins σ H { s' with heap:=(s'.heap.update (h2.objs.size + 1) (Obj.mapSeq fun _ => #[])).update a (Obj.mapSeq fun _ => out.toArray) }:=I2.turnedL (t':=s'.toks) (ch:=[h2.objs.size + 1,a]) (fun c hc => by
   rcases List.mem_cons.mp hc with rfl | z
   ·exact fk
   ·rw [List.mem_singleton.mp z]; exact fa) fun c o hc ec => upd_seq_other (fun z => hc (by simp [z])) (upd_seq_other (fun z => hc (by simp [z])) ec)
  have g2:=get?_update_seq (upd_seq_other (g:=fun _ => #[]) ak g.1) fun _ => out.toArray
  have ho:∀ v∈out,v = Value.ref (adOf v):=fun v hv => by
   obtain ⟨b,_,rfl⟩:=List.mem_map.mp (pm.mem_iff.mp hv)
   rfl
  have eo:(out.map adOf).map Value.ref = out:=by
   rw [List.map_map]
   exact (List.map_congr_left fun v hv => (ho v hv).symm).trans (List.map_id _)
  have rvo:Vals ((out.map adOf).map V.ref) out:=by
   conv => arg 2; rw [← eo]
   exact refs_vals
  have pmb:(out.map adOf).Perm bs:=by
   have:=pm.map adOf
   rwa [List.map_map,show (adOf ∘ Value.ref) = id from rfl,List.map_id] at this
  refine ⟨_,rfl,wpAny_pure ⟨_,rfl,⟨.ref a,_,I3.adopt (o:=.lst ((out.map adOf).map V.ref)) fa ⟨?_,out,_,rvo,g2⟩,rfl,q a _ fa.1 pmb (List.pairwise_map.mpr (pw.imp fun {x y} hxy => ?_))⟩⟩⟩
  ·rw [List.length_map,List.length_map,pm.length_eq]; exact hlen
  ·have hxy:decide (key (adOf y) < key (adOf x)) = false:=hxy
   rw [decide_eq_false_iff_not] at hxy
   omega
end
end L2
namespace STb
open PySem PySem.Spec PyProof.Rows L2 SetTable
def dd (l:List Str):List Str:=l.foldl (fun d k => if k∈d then d else d ++ [k]) []
theorem dd_snoc (l:List Str) (k:Str):dd (l ++ [k]) = if k∈dd l then dd l else dd l ++ [k]:=by
 unfold dd
 rw [List.foldl_append]
 rfl
theorem rev_ind {α:Type} {p:List α→Prop} (h0:p []) (h1:∀ l a,p l→p (l ++ [a])) (l:List α):p l:=by
 rw [← List.reverse_reverse l]
 induction l.reverse with
 | nil => exact h0
 | cons a r ih => rw [List.reverse_cons]; exact h1 _ a ih
theorem mem_dd {l:List Str} {x:Str}:x∈dd l↔x∈l:=by
 refine rev_ind (p:=fun l => x∈dd l↔x∈l) ?_ (fun l k ih => ?_) l
 ·exact Iff.rfl
 ·rw [dd_snoc]
  split
  ·rename_i h
   rw [ih,List.mem_append,List.mem_singleton]
   refine ⟨.inl,fun z => z.elim id fun z => ?_⟩
   subst z
   exact ih.mp h
  ·rw [List.mem_append,List.mem_append,ih]
theorem dd_le (l:List Str):(dd l).length≤l.length:=by
 refine rev_ind (p:=fun l => (dd l).length≤l.length) (Nat.le_refl _) (fun l k ih => ?_) l
 rw [dd_snoc,List.length_append,List.length_singleton]
 split
 ·omega
 ·rw [List.length_append,List.length_singleton]; omega
theorem dd_full (l:List Str):(dd l).length = l.length↔l.Nodup:=by
 refine rev_ind (p:=fun l => (dd l).length = l.length↔l.Nodup) ⟨fun _ => List.nodup_nil,fun _ => rfl⟩ (fun l k ih => ?_) l
 rw [dd_snoc,List.length_append,List.length_singleton,List.nodup_append]
 have le:=dd_le l
 split
 ·rename_i h
  refine ⟨fun z => by omega,fun z => ?_⟩
  exact absurd rfl (z.2.2 k (mem_dd.mp h) k (List.mem_singleton.mpr rfl))
 ·rename_i h
  rw [List.length_append,List.length_singleton]
  constructor
  ·intro z
   refine ⟨ih.mp (by omega),List.nodup_cons.mpr ⟨by simp,List.nodup_nil⟩,fun a ha b hb e => ?_⟩
   rw [List.mem_singleton.mp hb] at e
   rw [e] at ha
   exact h (mem_dd.mpr ha)
  ·intro z
   have:=ih.mpr z.1
   omega
section
variable {P:Program} {w:World}
def MtS (P:Program) (w:World) (S:Addr) (ks:List Str) (i:Nat) (h:Heap):Prop:=h.SetOf (PySem.strKind P w) S (fun k => decide (k∈ks.take i)) (dd (ks.take i)).length
theorem MtS.keep {S:Addr} {ks:List Str} {i:Nat} {h h':Heap} (m:MtS P w S ks i h) (hS:∀ o,h.get? S = some o→h'.get? S = some o):MtS P w S ks i h':=by
 obtain ⟨o,es,ep,t,ho,r⟩:=m
 exact ⟨o,es,ep,t,hS _ ho,r⟩
variable {A:Around} {R:Result→Shared→Prop} {It:Addr} {fp wr:List Addr} {G:Array GenState→Array GenState→Prop} {Pr:Nat→Value→Prop} {St:Nat→Shared→Prop} {ks:List Str}
theorem loop_str (W:WalksS P w A.in1 It fp wr G ks.length Pr St) (S:Addr) (hSf:S ∉ fp) (hval:∀ i v,Pr i v→∃ k t,ks[i]? = some k∧v = .str k t) (hb:ks.length≤990) :
  ∀ (d i:Nat) (s:Shared),ks.length - i = d→i≤ks.length→St i s→MtS P w S ks i s.heap→(∀ s',Moved (S :: wr) G s s'→MtS P w S ks ks.length s'.heap→R (.ok (.ret .none)) s') →
   codeAny (model P w) A (.builtin "set.update.loop" ⟨[.ref S,.ref It],[]⟩) R s
 | 0,i,s,hd,hi,st,m,hR => by
  obtain rfl:i = ks.length:=by omega
  refine codeAny_builtin PyProof.Rows.F.entry_set_update_loop ?_
  rw [Around.under_plainId PyProof.Rows.F.plain_set_update_loop _]
  refine wpAny_bind (W.done s _ _ st fun s' mv => wpAny_pure (hR s' (mv.mono fun b hb => List.mem_cons_of_mem _ hb) ?_))
  exact m.keep fun o e => mv.heap S o (fun z => hSf (W.sub _ z)) e
 | d + 1,i,s,hd,hi,st,m,hR => by
  have hlt:i < ks.length:=by omega
  refine codeAny_builtin PyProof.Rows.F.entry_set_update_loop ?_
  rw [Around.under_plainId PyProof.Rows.F.plain_set_update_loop _]
  refine wpAny_bind (W.item i s _ _ hlt st fun v s' hP st' mv => ?_)
  obtain ⟨k,t,ek,rfl⟩:=hval i v hP
  have m':=m.keep (h':=s'.heap) fun o e => mv.heap S o (fun z => hSf (W.sub _ z)) e
  have hup:∀ b∈wr,b∈S :: wr:=fun b hb => List.mem_cons_of_mem _ hb
  have tk1:ks.take (i + 1) = ks.take i ++ [k]:=by rw [List.take_succ,ek]; rfl
  have le:=dd_le (ks.take i)
  rw [List.length_take] at le
  refine wpAny_bind (wpAny_holding ?_)
  unfold setAdd
  refine wpAny_holding (wpAny_bind ((PySem.strKind P w).pyHash (k:=k) (strKind_is _ _ _ _) ?_))
  refine wpAny_setAddHashed_of (knd:=PySem.strKind P w) (strKind_is _ _ _ _) rfl m' (Nat.lt_of_le_of_lt (show _≤991 by omega) (by decide)) fun h' sb S2 => ?_
  have m2:MtS P w S ks (i + 1) h':=by
   unfold MtS
   rw [tk1]
   refine SetOf_congr S2 (fun k' => ?_) ?_
   ·rw [← Bool.decide_or]
    exact decide_eq_decide.mpr (by rw [List.mem_append,List.mem_singleton])
   ·rw [dd_snoc]
    by_cases hk:k∈ks.take i
    ·rw [if_pos (mem_dd.mpr hk),if_pos (decide_eq_true hk)]
    ·rw [if_neg (fun z => hk (mem_dd.mp z)),if_neg (by simpa using hk),List.length_append,List.length_singleton]
  refine wpAny_pure ⟨plainId_quiet PyProof.Rows.F.plain_set_update_loop _,loop_str W S hSf hval hb d (i + 1) _ (by omega) hlt (W.frame _ s' _ _ st' ?_ fun b hb o e => ?_) m2 fun s2 mv2 m3 => hR s2 (Moved.trans W.gtrans ((mv.mono hup).then_heap ?_ fun b o hb e => ?_) mv2) m3⟩
  ·exact Nat.le_add_right _ _
  ·rw [sb.2 b (fun z:b = S => hSf (by rw [← z]; exact hb))]; exact e
  ·exact Nat.le_add_right _ _
  ·rw [sb.2 b (fun z:b = S => hb (by rw [z]; exact List.mem_cons_self))]; exact e
end
end STb
namespace STb
open PySem PySem.Spec PyProof.Rows L2 SetTable
section
variable {P:Program} {w:World} {A:Around} {E:Value→Shared→Prop} {s:Shared}
theorem loop_strN {R:Result→Shared→Prop} {It:Addr} {fp wr:List Addr} {G:Array GenState→Array GenState→Prop} {Pr:Nat→Value→Prop} {St:Nat→Shared→Prop} {ks:List Str} {n:Nat} (W:WalksS P w A.in1 It fp wr G n Pr St) (hn:n = ks.length) (S:Addr) (hSf:S ∉ fp) (hval:∀ i v,Pr i v→∃ k t,ks[i]? = some k∧v = .str k t) (hb:ks.length≤990)
  (i:Nat) (s:Shared) (hi:i≤ks.length) (st:St i s) (m:MtS P w S ks i s.heap) (hR:∀ s',Moved (S :: wr) G s s'→MtS P w S ks ks.length s'.heap→R (.ok (.ret .none)) s') :
   codeAny (model P w) A (.builtin "set.update.loop" ⟨[.ref S,.ref It],[]⟩) R s:=by
 subst hn
 exact loop_str W S hSf hval hb _ i s rfl hi st m hR
theorem mts_new {h:Heap} {S:Nat} {ks:List Str} {led:Bool} (e:h.get? S = some (newS led)):MtS P w S ks 0 h:=⟨_,#[],0,_,e,⟨rfl,rfl,rfl⟩,rfl,fun e he => by simp at he,fun k => by simp,by decide,by rfl,rfl⟩
theorem call_set_strs {l:Addr} {items:Array Value} {ks:List Str} {Q:Value→Shared→Prop} (hh:A.handled = none) (hl:s.heap.IsList l items) (hsz:items.size = ks.length) (hit:∀ (i:Nat) v,items[i]? = some v→∃ k t,ks[i]? = some k∧v = .str k t) (hb:ks.length≤990)
  (h:∀ (h':Heap) (tok:Nat),MtS P w s.heap.objs.size ks ks.length h'→(∀ b o,b < s.heap.objs.size→s.heap.get? b = some o→h'.get? b = some o)→s.heap.objs.size < h'.objs.size→Q (.ref s.heap.objs.size) { s with heap:=h',toks:=tok }) :
  wpAny (model P w) A (call (.type "set") [.ref l]) Q E s:=by
 obtain ⟨c,tl,hm⟩:=PySem.F.called_set.mro
 have hm1:=PySem.F.called_set.made
 have hm2:=PySem.F.called_set.sub
 refine wpAny_call (codeAny_of_tree ?_)
 show wpAny _ _ (callAny (.type "set") _) _ _ _
 refine wpAny_pure ⟨Code.quiet_builtin _ (by decide +kernel),codeAny_builtin PySem.F.entry_type_call ?_⟩
 rw [Around.under_plain (weight_type_call_type "set" [.ref l] []) rfl]
 have g1:=PySem.F.called_set.notType
 have g2:=PySem.F.called_set.canCreate
 have g3:=PySem.F.typeCall_set_1 (.ref l)
 repeat (any_goals (first | assumption | wp_step))
 refine codeAny_mono (code_set_new_2 (.ref l) (E:=E) (Q₁:=fun v s1 => ∃ led:Bool,led = (!w.params.followText "set-order")∧v = .ref s.heap.objs.size∧s1 = { s with heap:=s.heap.push (newS led) }) ⟨_,rfl,rfl,rfl⟩) fun r s1 hr => ?_
 cases r with
 | error e => exact hr
 | ok f1 =>
  cases f1 with
  | ret v =>
   obtain ⟨led,hled,rfl,rfl⟩:=hr
   have e1:(s.heap.push (newS led)).get? s.heap.objs.size = some (newS led):=Heap.get?_push_size _ rfl
   have ty:Shared.TypeIs { s with heap:=s.heap.push (newS led) } (.ref s.heap.objs.size) "set":=⟨_,e1,rfl⟩
   have g4:=PySem.F.called_set.init.lookup
   have g5:=PySem.F.called_set.init.bind (.ref s.heap.objs.size)
   repeat (any_goals (first | assumption | wp_step))
   refine codeAny_mono (codeAny_call_builtin (R:=wants (fun r s2 => r = .none∧∃ h' tok,s2 = { s with heap:=h',toks:=tok }∧MtS P w s.heap.objs.size ks ks.length h'∧(∀ b o,b < s.heap.objs.size→s.heap.get? b = some o→h'.get? b = some o)) E) PySem.F.called_set.init.plain F.entry_set_init (check_set_init_1 ty ?_)) fun r2 s2 hr2 => ?_
   ·obtain ⟨ol,hol,hcl,nl,hdl⟩:=hl
    obtain ⟨o1,o2,o3,o4⟩:=ol
    simp only at hcl hdl
    subst hcl; subst hdl
    have hol2:(s.heap.push (newS led)).get? l = some { cls:=.type "list",dict:=o2,data:=.seq items nl,slots:=o4 }:=Heap.get?_push_of_some _ hol
    have g6:=PySem.F.sub_list_set
    have g7:=PySem.F.sub_list_frozenset
    have g8:(Value.type "list" == Value.type "dict") = false:=by decide
    have hl1:(s.heap.push (newS led)).IsList l items:=⟨_,hol2,rfl,nl,rfl⟩
    unfold Builtin.«set.__init__» noKeywords Builtin.Frozenset.updateFrom
    generalize hPI:pyIter = PI
    wp_walk
    subst hPI
    refine wpAny_pyIter_list hl1 (wpAny_bind (wpAny_runValue ?_))
    have hlS:l < s.heap.objs.size:=Heap.lt_size hol
    have hsp:(s.heap.push (newS led)).objs.size = s.heap.objs.size + 1:=Heap.size_push ..
    refine loop_strN ((Walks.list (by simp [hh]) _ l (by rw [hsp]; exact Nat.ne_of_lt (Nat.lt_succ_of_lt hlS)) items).toS) hsz s.heap.objs.size ?hS hit hb 0 _ (Nat.zero_le _) ⟨⟨_,Heap.get?_push_size _ rfl,rfl,rfl⟩,(hl1.push _)⟩ (mts_new (Heap.get?_push_of_some _ e1)) ?hR
    case hS => rw [hsp]; simp only [List.mem_cons,List.not_mem_nil,or_false,not_or]; exact ⟨Nat.ne_of_lt (Nat.lt_succ_self _),Nat.ne_of_gt hlS⟩
    case hR =>
     intro s' mv m'
     obtain ⟨h',g',d',tk',os'⟩:=s'
     have eg:g' = s.gens:=mv.gens
     have ed:d' = s.drawn:=mv.drawn
     have eo:os' = s.os:=mv.os
     subst eg; subst ed; subst eo
     refine wpAny_pure (wpAny_pure ⟨rfl,h',tk',rfl,m',fun b o hb e => ?_⟩)
     refine mv.heap b o ?_ (Heap.get?_push_of_some _ (Heap.get?_push_of_some _ e))
     rw [hsp]; simp only [List.mem_cons,List.not_mem_nil,or_false,not_or]; exact ⟨Nat.ne_of_lt hb,Nat.ne_of_lt (Nat.lt_succ_of_lt hb)⟩
   ·cases r2 with
    | error e => exact hr2
    | ok f2 =>
     cases f2 with
     | ret r =>
      obtain ⟨rfl,h',tok,rfl,m',keep⟩:=hr2
      repeat (any_goals (first | assumption | wp_step))
      have m2:=m'
      obtain ⟨o',_,_,_,I',_⟩:=m2
      exact h h' tok m' keep (Heap.lt_size I')
     | _ => exact hr2.elim
  | _ => exact hr.elim
end
end STb
namespace L2
open PySem PySem.Spec PyProof.Rows TS STb
def SetN (P:Program) (w:World) (S:Addr) (n:Nat) (h:Heap):Prop:=∃ f,h.SetOf (PySem.strKind P w) S f n
theorem SetN.keep {P:Program} {w:World} {S:Addr} {n:Nat} {h h':Heap} (x:SetN P w S n h) (k:∀ o,h.get? S = some o→h'.get? S = some o):SetN P w S n h':=by
 obtain ⟨f,o,es,ep,t,e,r⟩:=x
 exact ⟨f,o,es,ep,t,k _ e,r⟩
section
variable {X:Cx}
theorem call_setS (hc:X.calm = true):CallR X (.type "set") (fun xs H Q => ∃ (p:Addr) (ks:List Str),xs = [.ref p]∧H p = some (.lst (ks.map V.str))∧ks.length≤990 ∧
  ∀ S,H S = none→Q (.ref S) (upd H S (.ext (SetN X.prog X.w S (dd ks).length)))):=by
 intro pins s σ H xs us Q I r h
 obtain ⟨p,ks,rfl,e,hn,q⟩:=h
 obtain ⟨u,rfl,ru⟩:=vals1 r
 cases ru
 obtain ⟨its,rv,pl,hz⟩:=I.list (SqL.of e)
 have ll:its.length = ks.length:=by rw [← Vals.length rv,List.length_map]
 refine call_set_strs (ks:=ks) (I.ok.hd hc) pl.isList (by rw [List.size_toArray]; exact ll) (fun i v hv => ?_) hn fun h' tok m keep hlt => ?_
 ·rw [List.getElem?_toArray] at hv
  have hi:i < ks.length:=by rw [← ll]; exact (List.getElem?_eq_some_iff.mp hv).1
  obtain ⟨u,e1,e2⟩:=Vals.get rv (i:=i) (x:=.str ks[i]) (by rw [List.getElem?_map,List.getElem?_eq_getElem hi]; rfl)
  rw [hv] at e1
  cases e1
  obtain ⟨t,rfl⟩:=e2
  exact ⟨_,t,List.getElem?_eq_getElem hi,rfl⟩
 ·have fresh:=I.hok.fresh (Nat.le_refl s.heap.objs.size)
  have m:h'.SetOf (PySem.strKind X.prog X.w) s.heap.objs.size (fun k => decide (k∈ks.take ks.length)) (dd (ks.take ks.length)).length:=m
  rw [List.take_length] at m
  have g:∃ o,h'.get? s.heap.objs.size = some o:=by obtain ⟨o,_,_,_,z,_⟩:=m; exact ⟨o,z⟩
  exact ⟨.ref s.heap.objs.size,_,I.laid (a:=s.heap.objs.size) (o:=.ext (SetN X.prog X.w s.heap.objs.size (dd ks).length)) (t':=tok) (fun b u hb => keep b u (Heap.lt_size hb) hb) (Nat.le_refl _) ⟨⟨_,m⟩,g,fun h1 h2 x k => x.keep k⟩,rfl,q _ fresh⟩
theorem call_lenN:CallR X (.builtin "len") (fun xs H Q => ∃ S n,xs = [.ref S]∧H S = some (.ext (SetN X.prog X.w S n))∧Q (.int n) H):=by
 intro pins s σ H xs us Q I r h
 obtain ⟨S,n,rfl,e,q⟩:=h
 obtain ⟨u,rfl,ru⟩:=vals1 r
 cases ru
 obtain ⟨⟨f,o,es,ep,t,h1,h2,h3,h4,h5,h6,h7,h8⟩,_⟩:=(show ObjOk X.prog X.w H s.heap S (.ext (SetN X.prog X.w S n)) from I.hok S _ e)
 refine call_len_set h1 h2 h3 h7 (by have h6:es.size < 4096:=h6; omega) ?_
 rw [h8]
 exact ⟨.int n,H,I.tok _,⟨_,rfl⟩,q⟩
end
end L2
namespace L2
open PySem PySem.Spec PyProof.Rows TS STb
theorem strs_of:∀ {ks:List Str} {its:List Value},Vals (ks.map V.str) its→StrsAre its ks
 | [],_,.nil => .nil
 | k :: ks,_,.cons r t => by
  obtain ⟨tk,rfl⟩:=r
  exact .cons k tk (strs_of t)
theorem of_strs:∀ {ks:List Str} {its:List Value},StrsAre its ks→Vals (ks.map V.str) its
 | _,_,.nil => .nil
 | _,_,.cons y t r => .cons ⟨t,rfl⟩ (of_strs r)
section
variable {X:Cx}
theorem call_sortedX:CallR X (.builtin "sorted") (fun xs H Q => ∃ (p:Addr) (ks:List Str),xs = [.ref p]∧H p = some (.lst (ks.map V.str))∧ks.length < 64 ∧
  ∀ l ks',H l = none→ks'.Perm ks→sortedS ks' = true→Q (.ref l) (upd H l (.lst (ks'.map V.str)))):=by
 intro pins s σ H xs us Q I r h
 obtain ⟨p,ks,rfl,e,hn,q⟩:=h
 obtain ⟨u,rfl,ru⟩:=vals1 r
 cases ru
 obtain ⟨its,rv,pl,hz⟩:=I.list (SqL.of e)
 have ll:its.length = ks.length:=by rw [← Vals.length rv,List.length_map]
 refine sorted_strs pl.isList (strs_of rv) (by omega) fun out ks' a1 a2 a3 => ?_
 obtain ⟨c,he⟩:=sortedAll_at s.heap its out
 refine ⟨.ref _,_,I.laid (t':=s.toks) (o:=.lst (ks'.map V.str)) (fun b u hb => sortedAll_old hb) (Nat.le_succ _) ⟨?_,out.toList,c,of_strs a1,by rw [Array.toArray_toList]; exact he⟩,rfl,q _ ks' (I.hok.fresh (Nat.le_succ _)) a2 a3⟩
 rw [List.length_map,a2.length_eq,sizeLine_eq]; omega
theorem eqAt_strs {A:Around} {s:Shared} {its its2:List Value} {ks js:List Str} (r1:Vals (ks.map V.str) its) (r2:Vals (js.map V.str) its2) (j:Nat) (h1:j < its.toArray.size) (h2:j < its2.toArray.size) :
  SeqAt.EqAt A s its.toArray[j] its2.toArray[j] (decide (ks.getD j default = js.getD j default)):=by
 have l1:=r1.length
 have l2:=r2.length
 rw [List.length_map] at l1 l2
 rw [List.size_toArray] at h1 h2
 have g1:j < ks.length:=by omega
 have g2:j < js.length:=by omega
 obtain ⟨u,hu,t,ru⟩:=r1.get (i:=j) (x:=V.str ks[j]) (by simp [g1])
 obtain ⟨v,hv,t',rv⟩:=r2.get (i:=j) (x:=V.str js[j]) (by simp [g2])
 rw [List.getElem?_eq_getElem h1] at hu
 rw [List.getElem?_eq_getElem h2] at hv
 have e1:its.toArray[j] = Value.str ks[j] t:=by rw [List.getElem_toArray]; exact (Option.some.inj hu).trans ru
 have e2:its2.toArray[j] = Value.str js[j] t':=by rw [List.getElem_toArray]; exact (Option.some.inj hv).trans rv
 rw [e1,e2,List.getD_eq_getElem?_getD,List.getD_eq_getElem?_getD,List.getElem?_eq_getElem g1,List.getElem?_eq_getElem g2]
 have:=SeqAt.EqAt.str_str (A:=A) (s:=s) ks[j] t js[j] t'
 rwa [show (ks[j] == js[j]) = decide (ks[j] = js[j]) from Bool.eq_iff_iff.mpr (by rw [beq_iff_eq,decide_eq_true_eq])] at this
theorem op_eqLX (hu:X.A.units < cLine):OpR X (compareOp .Eq) (fun x y H Q => ∃ (a b:Addr) (ks js:List Str),x = .ref a∧y = .ref b∧SqL X.K H a (ks.map V.str)∧SqL X.K H b (js.map V.str)∧Q (.bl (decide (ks = js))) H):=by
 intro pins s σ H x y v u Q I rx ry h
 obtain ⟨a,b,ks,js,rfl,rfl,ha,hb,q⟩:=h
 cases rx
 cases ry
 obtain ⟨its,r1,p1,_⟩:=I.list ha
 obtain ⟨its2,r2,p2,_⟩:=I.list hb
 have l1:=r1.length
 have l2:=r2.length
 rw [List.length_map] at l1 l2
 by_cases hz:its.toArray.size = its2.toArray.size
 ·have e:((List.range its.toArray.size).all fun j => decide (ks.getD j default = js.getD j default)) = decide (ks = js):=by
   have:=all_same (default:Str) ks js
   rw [List.size_toArray] at hz ⊢
   rw [List.size_toArray] at hz
   rw [show min ks.length js.length = its.length by omega,show (ks.length == js.length) = true by simp; omega,Bool.and_true] at this
   rw [this]
  rw [← e] at q
  exact EqBoolInt.of_rc (SeqAt.RcAt.lists p1.isList p2.isList hz hu fun j h1 h2 => eqAt_strs r1 r2 j h1 h2) ⟨.bl _,H,I,rfl,q⟩
 ·have hne:ks≠js:=fun e => by
   rw [List.size_toArray,List.size_toArray] at hz
   rw [e] at l1
   omega
  rw [decide_eq_false hne] at q
  exact EqBoolInt.of_rc (SeqAt.RcAt.lists_lengths p1.isList p2.isList (bne_iff_ne.mpr hz) hu) ⟨.bl false,H,I,rfl,q⟩
end
end L2
namespace L2
open PySem PySem.Spec PyProof.Rows TS STb
section
variable {X:Cx}
theorem op_inNo (hu:X.A.units + 64 < cLine):OpR X (compareOp .In) (fun x y H Q => ∃ (p a:Addr) (as:List Addr),x = .ref p∧y = .ref a∧SqL X.K H p []∧SqL X.K H a (as.map V.ref)∧(∀ q∈as,q≠p∧∃ z zs,SqL X.K H q (z :: zs))∧Q (.bl false) H):=by
 intro pins s σ H x y v u Q I rx ry h
 obtain ⟨p,a,as,rfl,rfl,hp,ha,hq,q⟩:=h
 cases rx
 cases ry
 obtain ⟨its,r1,p1,_⟩:=I.list ha
 obtain rfl:=refs_of r1
 obtain ⟨jts,r2,p2,_⟩:=I.list hp
 cases r2
 have hu1:X.A.in1.units < cLine:=by show X.A.units + 1 < cLine; omega
 refine SeqAt.in_listAt (fun _ => false) p1.isList (fun y hy => ?_) ⟨.bl _,H,I,rfl,?_⟩
 ·obtain ⟨r,hr,rfl⟩:=List.mem_map.mp (by simpa using hy:y∈as.map Value.ref)
  obtain ⟨ne,z,zs,e⟩:=hq r hr
  obtain ⟨kts,r3,p3,_⟩:=I.list e
  cases r3 with
  | cons _ _ => exact SeqAt.EqAt.of_refs ne (SeqAt.RcAt.lists_lengths p3.isList p2.isList (by simp) hu1)
 ·rw [show (List.map Value.ref as).toArray.any (fun _ => false) = false by simp]
  exact q
end
end L2
namespace L2
open PySem
abbrev oR (a:Addr):Option V:=some (.ref a)
abbrev oI (n:Int):Option V:=some (.int n)
theorem sL0:0≤sizeLine:=by decide
theorem sL1:1≤sizeLine:=by decide
theorem sL3:3≤sizeLine:=by decide
theorem sL4:4≤sizeLine:=by decide
theorem ixV {K:PySem.W.Frag} {i:Nat} {j:Int} {σ:St} {H:Hp} {Q:VK} {p:Addr} {xs:List V} (v:V) (e:SqT K H p xs) (q:Q v H) (e0:σ[i]? = some (oR p):=by rfl) (a:atI xs j = some v:=by first | rfl | exact atI_nat rfl):tOp (rIxT K) (tVar i) (tC (.int j)) σ H Q:=⟨_,e0,p,xs,j,v,rfl,rfl,e,a,q⟩
theorem sg0 {a b:TS} {D:Ends} {σ:St} {H:Hp} (s:St) (I:Hp→Prop) (h1:∀ B:TS,(∀ H,I H→B D s H)→tSeq a B D σ H) (h2:∀ H,I H→b D s H):tSeq a b D σ H:=h1 b h2
theorem sg1 {a b:TS} {D:Ends} {σ:St} {H:Hp} {α:Type} (s:α→St) (I:α→Hp→Prop) (h1:∀ B:TS,(∀ x H,I x H→B D (s x) H)→tSeq a B D σ H) (h2:∀ x H,I x H→b D (s x) H):tSeq a b D σ H:=h1 b h2
theorem sg3 {a b:TS} {D:Ends} {σ:St} {H:Hp} {α β γ:Type} (s:α→β→γ→St) (I:α→β→γ→Hp→Prop) (h1:∀ B:TS,(∀ x y z H,I x y z H→B D (s x y z) H)→tSeq a B D σ H) (h2:∀ x y z H,I x y z H→b D (s x y z) H):tSeq a b D σ H:=h1 b h2
theorem sg4 {a b:TS} {D:Ends} {σ:St} {H:Hp} {α β γ δ:Type} (s:α→β→γ→δ→St) (I:α→β→γ→δ→Hp→Prop) (h1:∀ B:TS,(∀ x y z u H,I x y z u H→B D (s x y z u) H)→tSeq a B D σ H) (h2:∀ x y z u H,I x y z u H→b D (s x y z u) H):tSeq a b D σ H:=h1 b h2
def hd0 (H:Hp):V→V | .ref p => (match H p with | some (.tup (a :: _)) => a | _ => .non) | v => v
end L2
namespace L2
open PySem PySem.Spec PyProof.Rows TS STb
theorem eqAt_key {A:Around} {s:Shared} {k j:Key} {u v:Value} (hu:RelV (kV k) u) (hv:RelV (kV j) v):SeqAt.EqAt A s u v (decide (k = j)):=by
 cases k with
 | inl a =>
  obtain ⟨t,rfl⟩:=hu
  cases j with
  | inl b =>
   obtain ⟨t',rfl⟩:=hv
   have:=SeqAt.EqAt.int_int (A:=A) (s:=s) a t b t'
   rwa [show (a == b) = decide ((Sum.inl a:Key) = Sum.inl b) from Bool.eq_iff_iff.mpr (by rw [beq_iff_eq,decide_eq_true_eq]; exact ⟨fun z => by rw [z],fun z => Sum.inl.inj z⟩)] at this
  | inr b =>
   obtain ⟨t',rfl⟩:=hv
   rw [decide_eq_false (fun z => by cases z)]
   exact SeqAt.EqAt.int_str a t b t'
 | inr a =>
  obtain ⟨t,rfl⟩:=hu
  cases j with
  | inl b =>
   obtain ⟨t',rfl⟩:=hv
   rw [decide_eq_false (fun z => by cases z)]
   exact SeqAt.EqAt.str_int a t b t'
  | inr b =>
   obtain ⟨t',rfl⟩:=hv
   have:=SeqAt.EqAt.str_str (A:=A) (s:=s) a t b t'
   rwa [show (a == b) = decide ((Sum.inr a:Key) = Sum.inr b) from Bool.eq_iff_iff.mpr (by rw [beq_iff_eq,decide_eq_true_eq]; exact ⟨fun z => by rw [z],fun z => Sum.inr.inj z⟩)] at this
theorem eqAt_keys {A:Around} {s:Shared} {its its2:List Value} {k j:List Key} (r1:Vals (k.map kV) its) (r2:Vals (j.map kV) its2) (n:Nat) (h1:n < its.toArray.size) (h2:n < its2.toArray.size) :
  SeqAt.EqAt A s its.toArray[n] its2.toArray[n] (decide (k.getD n (.inl 0) = j.getD n (.inl 0))):=by
 have l1:=r1.length
 have l2:=r2.length
 rw [List.length_map] at l1 l2
 rw [List.size_toArray] at h1 h2
 have g1:n < k.length:=by omega
 have g2:n < j.length:=by omega
 obtain ⟨u,hu,ru⟩:=r1.get (i:=n) (x:=kV k[n]) (by simp [g1])
 obtain ⟨v,hv,rv⟩:=r2.get (i:=n) (x:=kV j[n]) (by simp [g2])
 rw [List.getElem?_eq_getElem h1] at hu
 rw [List.getElem?_eq_getElem h2] at hv
 cases hu
 cases hv
 rw [List.getElem_toArray,List.getElem_toArray,List.getD_eq_getElem?_getD,List.getD_eq_getElem?_getD,List.getElem?_eq_getElem g1,List.getElem?_eq_getElem g2]
 exact eqAt_key ru rv
theorem keys_bool {its its2:List Value} {k j:List Key} (r1:Vals (k.map kV) its) (r2:Vals (j.map kV) its2):((List.range (min its.toArray.size its2.toArray.size)).all (fun n => decide (k.getD n (.inl 0) = j.getD n (.inl 0))) && its.toArray.size == its2.toArray.size) = decide (k = j):=by
 have l1:=r1.length
 have l2:=r2.length
 rw [List.length_map] at l1 l2
 rw [List.size_toArray,List.size_toArray,← l1,← l2]
 exact all_same _ k j
section
variable {X:Cx} {pins:List (Addr × Obj)} {σ:St} {H:Hp} {s:Shared}
theorem eqAt_tupK (I:Inv X pins σ H s) {A:Around} {a b:Addr} {k j:List Key} (hu:A.units < cLine) (ha:H a = some (.tup (k.map kV))) (hb:H b = some (.tup (j.map kV))):SeqAt.EqAt A s (.ref a) (.ref b) (decide (k = j)):=by
 by_cases hab:a = b
 ·subst hab
  rw [ha] at hb
  have e:k = j:=(List.map_inj_right (f:=kV) fun x y h => kV_inj h).mp (HO.tup.inj (Option.some.inj hb))
  rw [decide_eq_true e]
  exact SeqAt.EqAt.same _
 ·obtain ⟨its,r1,p1,_⟩:=I.tuple (SqT.of ha)
  obtain ⟨its2,r2,p2,_⟩:=I.tuple (SqT.of hb)
  rw [← keys_bool r1 r2]
  exact SeqAt.EqAt.of_refs hab (SeqAt.RcAt.tuples p1 p2 hu fun n h1 h2 => eqAt_keys r1 r2 n h1 h2)
theorem op_neLK (hu:X.A.units + 64 < cLine):OpR X (compareOp .NotEq) (fun x y H Q => ∃ (a b:Addr) (ps qs:List Addr) (ks js:List (List Key)),x = .ref a∧y = .ref b∧SqL X.K H a (ps.map V.ref)∧SqL X.K H b (qs.map V.ref)∧KeyAt H ps ks∧KeyAt H qs js∧Q (.bl (!decide (ks = js))) H):=by
 intro pins s σ H x y v u Q I rx ry h
 obtain ⟨a,b,ps,qs,ks,js,rfl,rfl,ha,hb,T1,T2,q⟩:=h
 cases rx
 cases ry
 obtain ⟨its,r1,p1,_⟩:=I.list ha
 obtain ⟨its2,r2,p2,_⟩:=I.list hb
 have hu1:X.A.units < cLine:=by omega
 have hu2:X.A.in1.units < cLine:=by show X.A.units + 1 < cLine; omega
 have l1:=r1.length
 have l2:=r2.length
 rw [List.length_map] at l1 l2
 have t1:=T1.1
 have t2:=T2.1
 by_cases hz:its.toArray.size = its2.toArray.size
 ·have e:(List.range its.toArray.size).all (fun n => decide (ks.getD n [] = js.getD n [])) = decide (ks = js):=by
   rw [List.size_toArray] at hz ⊢
   rw [List.size_toArray] at hz
   rw [← all_same [] ks js,show min ks.length js.length = its.length by omega,show (ks.length == js.length) = true by rw [beq_iff_eq]; omega,Bool.and_true]
  rw [← e] at q
  refine EqBoolInt.of_rcne (SeqAt.RcNeAt.lists p1.isList p2.isList hz hu1 fun n h1 h2 => ?_) ⟨.bl _,H,I,rfl,q⟩
  have e1:=refs_of r1
  have e2:=refs_of r2
  subst e1 e2
  rw [List.size_toArray,List.length_map] at h1 h2
  have g1:n < ks.length:=by omega
  have g2:n < js.length:=by omega
  rw [List.getElem_toArray,List.getElem_toArray,List.getElem_map,List.getElem_map,List.getD_eq_getElem?_getD,List.getD_eq_getElem?_getD,List.getElem?_eq_getElem g1,List.getElem?_eq_getElem g2]
  exact eqAt_tupK I hu2 (T1.2 n _ _ (List.getElem?_eq_getElem h1) (List.getElem?_eq_getElem g1)) (T2.2 n _ _ (List.getElem?_eq_getElem h2) (List.getElem?_eq_getElem g2))
 ·have hne:ks≠js:=fun e => by
   rw [List.size_toArray,List.size_toArray] at hz
   rw [e] at t1
   omega
  rw [decide_eq_false hne] at q
  exact EqBoolInt.of_rcne (SeqAt.RcNeAt.lists_lengths p1.isList p2.isList (bne_iff_ne.mpr hz) hu1) ⟨.bl true,H,I,rfl,q⟩
end
end L2
namespace K71
open PySem L2 Wd
def top (i:Nat):Stmt:=PySem.Challenge.pw_copperbook_k71_whole_fewest_lanes.main.body.getD i (.Pass ⟨0,0,0,0⟩)
abbrev s_lanes:Stmt:=top 8
theorem sc_lanes:FnScope ["spans","rows","column","span","row"] ["spans"] (defScope s_lanes):=⟨rfl,rfl,rfl,by decide +kernel,rfl,by decide +kernel,by decide +kernel⟩
abbrev s_free_row:Stmt:=top 9
theorem sc_free_row:FnScope ["rows","left","row"] ["rows","left"] (defScope s_free_row):=⟨rfl,rfl,rfl,by decide +kernel,rfl,by decide +kernel,by decide +kernel⟩
abbrev s_need_spans:Stmt:=top 10
theorem sc_need_spans:FnScope ["spans","net","left","right","nets"] ["spans"] (defScope s_need_spans):=⟨rfl,rfl,rfl,by decide +kernel,rfl,by decide +kernel,by decide +kernel⟩
abbrev s_law_cell:Stmt:=top 12
theorem sc_law_cell:FnScope ["_law_script","_law_k"] ["_law_script","_law_k"] (defScope s_law_cell):=⟨rfl,rfl,rfl,by decide +kernel,rfl,by decide +kernel,by decide +kernel⟩
abbrev s_law_mixed:Stmt:=top 13
theorem sc_law_mixed:FnScope ["_law_cell_here","_law_k","_law_number"] ["_law_cell_here","_law_k"] (defScope s_law_mixed):=⟨rfl,rfl,rfl,by decide +kernel,rfl,by decide +kernel,by decide +kernel⟩
abbrev s_law_twice:Stmt:=top 14
theorem sc_law_twice:FnScope ["_law_cell_here","_law_k","_law_number"] ["_law_cell_here","_law_k"] (defScope s_law_twice):=⟨rfl,rfl,rfl,by decide +kernel,rfl,by decide +kernel,by decide +kernel⟩
abbrev s_law_well:Stmt:=top 15
theorem sc_law_well:FnScope ["_law_script","_law_k"] ["_law_script","_law_k"] (defScope s_law_well):=⟨rfl,rfl,rfl,by decide +kernel,rfl,by decide +kernel,by decide +kernel⟩
abbrev s_law_draw:Stmt:=top 16
theorem sc_law_draw:FnScope ["_law_well_here","_law_most","_law_number"] ["_law_well_here","_law_most"] (defScope s_law_draw):=⟨rfl,rfl,rfl,by decide +kernel,rfl,by decide +kernel,by decide +kernel⟩
abbrev s_law_spans:Stmt:=top 17
theorem sc_law_spans:FnScope ["_law_script","_law_spans_here","_law_well_here","_law_other","_law_wide","_law_base","_law_k","_law_left"] ["_law_script"] (defScope s_law_spans):=⟨rfl,rfl,rfl,by decide +kernel,rfl,by decide +kernel,by decide +kernel⟩
abbrev s_law_right:Stmt:=top 18
theorem sc_law_right:FnScope ["_law_spans_here","_law_found","_law_word","_law_rows","_law_column","_law_nets","_law_told","_law_row","_law_one","_law_other"] ["_law_spans_here","_law_found"] (defScope s_law_right):=⟨rfl,rfl,rfl,by decide +kernel,rfl,by decide +kernel,by decide +kernel⟩
abbrev s_law_refused:Stmt:=top 19
theorem sc_law_refused:FnScope ["_law_spans_here","e"] ["_law_spans_here"] (defScope s_law_refused):=⟨rfl,rfl,rfl,by decide +kernel,rfl,by decide +kernel,by decide +kernel⟩
abbrev s_law:Stmt:=top 20
theorem sc_law:FnScope ["_law_script","_law_spans_here","_law_handed","_law_found","_law_at","_law_net","_law_left","_law_right_here"] ["_law_script"] (defScope s_law):=⟨rfl,rfl,rfl,by decide +kernel,rfl,by decide +kernel,by decide +kernel⟩
structure Adr where
 f_lanes:Addr
 cd_lanes:Addr
 pl_lanes:Addr
 f_free_row:Addr
 f_need_spans:Addr
 f_law_cell:Addr
 f_law_mixed:Addr
 f_law_twice:Addr
 f_law_well:Addr
 f_law_draw:Addr
 f_law_spans:Addr
 f_law_right:Addr
 f_law_refused:Addr
 f_law:Addr
 c_CopperError:Addr
 c_NoShape:Addr
 c_NoBoard:Addr
 c_NoDrawing:Addr
 c_NoPin:Addr
 c_NoSpan:Addr
structure Txt (K:PySem.W.Frag) (mg:Str→Option Value) (t:Adr):Prop where
 hd_lanes:PySem.W.codeHdIn K t.cd_lanes t.pl_lanes = true
 nl_lanes:K.lookup t.pl_lanes = none
 F_lanes:∃ fd,FunC K "lanes" "lanes" s_lanes t.f_lanes fd t.cd_lanes t.pl_lanes∧Binds K fd ["spans"] []
 g_lanes:mg "lanes" = some (.ref t.f_lanes)
 F_free_row:∃ fd,Fun K "free_row" "free_row" s_free_row t.f_free_row fd∧Binds K fd ["rows","left"] []
 g_free_row:mg "free_row" = some (.ref t.f_free_row)
 F_need_spans:∃ fd,Fun K "need_spans" "need_spans" s_need_spans t.f_need_spans fd∧Binds K fd ["spans"] []
 g_need_spans:mg "need_spans" = some (.ref t.f_need_spans)
 F_law_cell:∃ fd,Fun K "_law_cell" "_law_cell" s_law_cell t.f_law_cell fd∧Binds K fd ["_law_script","_law_k"] []
 g__law_cell:mg "_law_cell" = some (.ref t.f_law_cell)
 F_law_mixed:∃ fd,Fun K "_law_mixed" "_law_mixed" s_law_mixed t.f_law_mixed fd∧Binds K fd ["_law_cell_here","_law_k"] []
 g__law_mixed:mg "_law_mixed" = some (.ref t.f_law_mixed)
 F_law_twice:∃ fd,Fun K "_law_twice" "_law_twice" s_law_twice t.f_law_twice fd∧Binds K fd ["_law_cell_here","_law_k"] []
 g__law_twice:mg "_law_twice" = some (.ref t.f_law_twice)
 F_law_well:∃ fd,Fun K "_law_well" "_law_well" s_law_well t.f_law_well fd∧Binds K fd ["_law_script","_law_k"] []
 g__law_well:mg "_law_well" = some (.ref t.f_law_well)
 F_law_draw:∃ fd,Fun K "_law_draw" "_law_draw" s_law_draw t.f_law_draw fd∧Binds K fd ["_law_well_here","_law_most"] []
 g__law_draw:mg "_law_draw" = some (.ref t.f_law_draw)
 F_law_spans:∃ fd,Fun K "_law_spans" "_law_spans" s_law_spans t.f_law_spans fd∧Binds K fd ["_law_script"] []
 g__law_spans:mg "_law_spans" = some (.ref t.f_law_spans)
 F_law_right:∃ fd,Fun K "_law_right" "_law_right" s_law_right t.f_law_right fd∧Binds K fd ["_law_spans_here","_law_found"] []
 g__law_right:mg "_law_right" = some (.ref t.f_law_right)
 F_law_refused:∃ fd,Fun K "_law_refused" "_law_refused" s_law_refused t.f_law_refused fd∧Binds K fd ["_law_spans_here"] []
 g__law_refused:mg "_law_refused" = some (.ref t.f_law_refused)
 F_law:∃ fd,Fun K "law" "law" s_law t.f_law fd∧∀ (s:Shared) (u:Value),BindsTo s fd ⟨[u],[]⟩ [("_law_script",u)]
 g_law:mg "law" = some (.ref t.f_law)
 g_CopperError:mg "CopperError" = some (.ref t.c_CopperError)
 g_NoShape:mg "NoShape" = some (.ref t.c_NoShape)
 g_NoBoard:mg "NoBoard" = some (.ref t.c_NoBoard)
 g_NoDrawing:mg "NoDrawing" = some (.ref t.c_NoDrawing)
 g_NoPin:mg "NoPin" = some (.ref t.c_NoPin)
 g_NoSpan:mg "NoSpan" = some (.ref t.c_NoSpan)
 e_NoSpan:Err K mg "NoSpan" t.c_NoSpan
 ef_NoSpan:ErrF K t.c_NoSpan
 xm_NoSpan_CopperError:PySem.W.exmOne K (.ref t.c_NoSpan) (.ref t.c_CopperError) = some true
 ki_NoSpan_NoSpan:PySem.W.kitOne K (.ref t.c_NoSpan) (.ref t.c_NoSpan) = some true
 ka_NoSpan:PySem.W.kitAny K (.ref t.c_NoSpan) [.ref t.c_NoBoard,.ref t.c_NoDrawing,.ref t.c_NoPin,.ref t.c_NoShape] = some false
 n_isinstance:mg "isinstance" = none
 n_int:mg "int" = none
 n_bool:mg "bool" = none
 n_list:mg "list" = none
 n_tuple:mg "tuple" = none
 n_len:mg "len" = none
 n_range:mg "range" = none
 n_sorted:mg "sorted" = none
 n_set:mg "set" = none
 n_str:mg "str" = none
 n_zip:mg "zip" = none
theorem txt_mk {K:PySem.W.Frag} {h:Heap} {mg:Str→Option Value} {f_lanes cd_lanes pl_lanes f_free_row f_need_spans f_law_cell f_law_mixed f_law_twice f_law_well f_law_draw f_law_spans f_law_right f_law_refused f_law c_CopperError c_NoShape c_NoBoard c_NoDrawing c_NoPin c_NoSpan:Addr}
  {od_lanes an_lanes od_free_row an_free_row od_need_spans an_need_spans od_law_cell an_law_cell od_law_mixed an_law_mixed od_law_twice an_law_twice od_law_well an_law_well od_law_draw an_law_draw od_law_spans an_law_spans od_law_right an_law_right od_law_refused an_law_refused od_law an_law:Option Addr} {sl_lanes sl_free_row sl_need_spans sl_law_cell sl_law_mixed sl_law_twice sl_law_well sl_law_draw sl_law_spans sl_law_right sl_law_refused sl_law:Array (Option Value)} {oc_lanes kV_lanes dc_lanes pm_lanes ct_lanes oc_free_row kV_free_row dc_free_row pm_free_row cd_free_row ct_free_row oc_need_spans kV_need_spans dc_need_spans pm_need_spans cd_need_spans ct_need_spans oc_law_cell kV_law_cell dc_law_cell pm_law_cell cd_law_cell ct_law_cell oc_law_mixed kV_law_mixed dc_law_mixed pm_law_mixed cd_law_mixed ct_law_mixed oc_law_twice kV_law_twice dc_law_twice pm_law_twice cd_law_twice ct_law_twice oc_law_well kV_law_well dc_law_well pm_law_well cd_law_well ct_law_well oc_law_draw kV_law_draw dc_law_draw pm_law_draw cd_law_draw ct_law_draw oc_law_spans kV_law_spans dc_law_spans pm_law_spans cd_law_spans ct_law_spans oc_law_right kV_law_right dc_law_right pm_law_right cd_law_right ct_law_right oc_law_refused kV_law_refused dc_law_refused pm_law_refused cd_law_refused ct_law_refused oc_law kV_law dc_law pm_law cd_law ct_law:Value} {k1_lanes:Value} {k2_lanes:Option Addr} {kv_lanes:Array Value} {k4_lanes:Array (Option Value)} (X:K.In h) (G:h.Ns mainGlobals mg)
  (a_lanes:PySem.W.nsIn K mainGlobals "lanes" = some (some (.ref f_lanes)))
  (l_lanes:K.lookup f_lanes = some ⟨oc_lanes,od_lanes,.func (PySem.W.fnOf "lanes" "lanes" (defArgs s_lanes) (defBody s_lanes) (defScope s_lanes) .none kV_lanes dc_lanes pm_lanes an_lanes (.ref cd_lanes) ct_lanes),sl_lanes⟩)
  (cc_lanes:PySem.W.codeIn K (.ref cd_lanes) "lanes" = true)
  (k_lanes:PySem.W.keepIn K (.ref f_lanes) = true)
  (ko_lanes:K.lookup cd_lanes = some ⟨k1_lanes,k2_lanes,.fields kv_lanes,k4_lanes⟩)
  (kp_lanes:kv_lanes[11]? = some (.ref pl_lanes))
  (ch_lanes:PySem.W.codeHdIn K cd_lanes pl_lanes = true)
  (nl_lanes:K.lookup pl_lanes = none)
  (tb_lanes:h.get? pl_lanes = some (PySem.W.tabObj #[]))
  (a_free_row:PySem.W.nsIn K mainGlobals "free_row" = some (some (.ref f_free_row)))
  (l_free_row:K.lookup f_free_row = some ⟨oc_free_row,od_free_row,.func (PySem.W.fnOf "free_row" "free_row" (defArgs s_free_row) (defBody s_free_row) (defScope s_free_row) .none kV_free_row dc_free_row pm_free_row an_free_row cd_free_row ct_free_row),sl_free_row⟩)
  (cc_free_row:PySem.W.codeIn K cd_free_row "free_row" = true)
  (k_free_row:PySem.W.keepIn K (.ref f_free_row) = true)
  (a_need_spans:PySem.W.nsIn K mainGlobals "need_spans" = some (some (.ref f_need_spans)))
  (l_need_spans:K.lookup f_need_spans = some ⟨oc_need_spans,od_need_spans,.func (PySem.W.fnOf "need_spans" "need_spans" (defArgs s_need_spans) (defBody s_need_spans) (defScope s_need_spans) .none kV_need_spans dc_need_spans pm_need_spans an_need_spans cd_need_spans ct_need_spans),sl_need_spans⟩)
  (cc_need_spans:PySem.W.codeIn K cd_need_spans "need_spans" = true)
  (k_need_spans:PySem.W.keepIn K (.ref f_need_spans) = true)
  (a_law_cell:PySem.W.nsIn K mainGlobals "_law_cell" = some (some (.ref f_law_cell)))
  (l_law_cell:K.lookup f_law_cell = some ⟨oc_law_cell,od_law_cell,.func (PySem.W.fnOf "_law_cell" "_law_cell" (defArgs s_law_cell) (defBody s_law_cell) (defScope s_law_cell) .none kV_law_cell dc_law_cell pm_law_cell an_law_cell cd_law_cell ct_law_cell),sl_law_cell⟩)
  (cc_law_cell:PySem.W.codeIn K cd_law_cell "_law_cell" = true)
  (k_law_cell:PySem.W.keepIn K (.ref f_law_cell) = true)
  (a_law_mixed:PySem.W.nsIn K mainGlobals "_law_mixed" = some (some (.ref f_law_mixed)))
  (l_law_mixed:K.lookup f_law_mixed = some ⟨oc_law_mixed,od_law_mixed,.func (PySem.W.fnOf "_law_mixed" "_law_mixed" (defArgs s_law_mixed) (defBody s_law_mixed) (defScope s_law_mixed) .none kV_law_mixed dc_law_mixed pm_law_mixed an_law_mixed cd_law_mixed ct_law_mixed),sl_law_mixed⟩)
  (cc_law_mixed:PySem.W.codeIn K cd_law_mixed "_law_mixed" = true)
  (k_law_mixed:PySem.W.keepIn K (.ref f_law_mixed) = true)
  (a_law_twice:PySem.W.nsIn K mainGlobals "_law_twice" = some (some (.ref f_law_twice)))
  (l_law_twice:K.lookup f_law_twice = some ⟨oc_law_twice,od_law_twice,.func (PySem.W.fnOf "_law_twice" "_law_twice" (defArgs s_law_twice) (defBody s_law_twice) (defScope s_law_twice) .none kV_law_twice dc_law_twice pm_law_twice an_law_twice cd_law_twice ct_law_twice),sl_law_twice⟩)
  (cc_law_twice:PySem.W.codeIn K cd_law_twice "_law_twice" = true)
  (k_law_twice:PySem.W.keepIn K (.ref f_law_twice) = true)
  (a_law_well:PySem.W.nsIn K mainGlobals "_law_well" = some (some (.ref f_law_well)))
  (l_law_well:K.lookup f_law_well = some ⟨oc_law_well,od_law_well,.func (PySem.W.fnOf "_law_well" "_law_well" (defArgs s_law_well) (defBody s_law_well) (defScope s_law_well) .none kV_law_well dc_law_well pm_law_well an_law_well cd_law_well ct_law_well),sl_law_well⟩)
  (cc_law_well:PySem.W.codeIn K cd_law_well "_law_well" = true)
  (k_law_well:PySem.W.keepIn K (.ref f_law_well) = true)
  (a_law_draw:PySem.W.nsIn K mainGlobals "_law_draw" = some (some (.ref f_law_draw)))
  (l_law_draw:K.lookup f_law_draw = some ⟨oc_law_draw,od_law_draw,.func (PySem.W.fnOf "_law_draw" "_law_draw" (defArgs s_law_draw) (defBody s_law_draw) (defScope s_law_draw) .none kV_law_draw dc_law_draw pm_law_draw an_law_draw cd_law_draw ct_law_draw),sl_law_draw⟩)
  (cc_law_draw:PySem.W.codeIn K cd_law_draw "_law_draw" = true)
  (k_law_draw:PySem.W.keepIn K (.ref f_law_draw) = true)
  (a_law_spans:PySem.W.nsIn K mainGlobals "_law_spans" = some (some (.ref f_law_spans)))
  (l_law_spans:K.lookup f_law_spans = some ⟨oc_law_spans,od_law_spans,.func (PySem.W.fnOf "_law_spans" "_law_spans" (defArgs s_law_spans) (defBody s_law_spans) (defScope s_law_spans) .none kV_law_spans dc_law_spans pm_law_spans an_law_spans cd_law_spans ct_law_spans),sl_law_spans⟩)
  (cc_law_spans:PySem.W.codeIn K cd_law_spans "_law_spans" = true)
  (k_law_spans:PySem.W.keepIn K (.ref f_law_spans) = true)
  (a_law_right:PySem.W.nsIn K mainGlobals "_law_right" = some (some (.ref f_law_right)))
  (l_law_right:K.lookup f_law_right = some ⟨oc_law_right,od_law_right,.func (PySem.W.fnOf "_law_right" "_law_right" (defArgs s_law_right) (defBody s_law_right) (defScope s_law_right) .none kV_law_right dc_law_right pm_law_right an_law_right cd_law_right ct_law_right),sl_law_right⟩)
  (cc_law_right:PySem.W.codeIn K cd_law_right "_law_right" = true)
  (k_law_right:PySem.W.keepIn K (.ref f_law_right) = true)
  (a_law_refused:PySem.W.nsIn K mainGlobals "_law_refused" = some (some (.ref f_law_refused)))
  (l_law_refused:K.lookup f_law_refused = some ⟨oc_law_refused,od_law_refused,.func (PySem.W.fnOf "_law_refused" "_law_refused" (defArgs s_law_refused) (defBody s_law_refused) (defScope s_law_refused) .none kV_law_refused dc_law_refused pm_law_refused an_law_refused cd_law_refused ct_law_refused),sl_law_refused⟩)
  (cc_law_refused:PySem.W.codeIn K cd_law_refused "_law_refused" = true)
  (k_law_refused:PySem.W.keepIn K (.ref f_law_refused) = true)
  (a_law:PySem.W.nsIn K mainGlobals "law" = some (some (.ref f_law)))
  (l_law:K.lookup f_law = some ⟨oc_law,od_law,.func (PySem.W.fnOf "law" "law" (defArgs s_law) (defBody s_law) (defScope s_law) .none kV_law dc_law pm_law an_law cd_law ct_law),sl_law⟩)
  (cc_law:PySem.W.codeIn K cd_law "law" = true)
  (k_law:PySem.W.keepIn K (.ref f_law) = true)
  (g_CopperError:PySem.W.nsIn K mainGlobals "CopperError" = some (some (.ref c_CopperError)))
  (g_NoShape:PySem.W.nsIn K mainGlobals "NoShape" = some (some (.ref c_NoShape)))
  (g_NoBoard:PySem.W.nsIn K mainGlobals "NoBoard" = some (some (.ref c_NoBoard)))
  (g_NoDrawing:PySem.W.nsIn K mainGlobals "NoDrawing" = some (some (.ref c_NoDrawing)))
  (g_NoPin:PySem.W.nsIn K mainGlobals "NoPin" = some (some (.ref c_NoPin)))
  (g_NoSpan:PySem.W.nsIn K mainGlobals "NoSpan" = some (some (.ref c_NoSpan)))
  (x_NoSpan:PySem.W.excIn K c_NoSpan bmV "ValueError.__new__" = true)
  (ga_NoSpan:PySem.W.findIn K (.ref c_NoSpan) "__getattribute__" = some (some (.builtin "BaseException.__getattribute__")))
  (gt_NoSpan:PySem.W.findIn K (.ref c_NoSpan) "__getattr__" = some none)
  (gc_NoSpan:PySem.W.findIn K (.ref c_NoSpan) "__class__" = some (some (.builtin "object.__class__")))
  (ge_NoSpan:PySem.W.specialIn K (.builtin "object.__class__") "__get__" = some (some (.builtin "getset_descriptor.__get__")))
  (gk_NoSpan:PySem.W.takesIn K (.builtin "object.__class__") = some true)
  (mo_NoSpan:PySem.W.mroIn K c_NoSpan (.type "object") = some true)
  (mb_NoSpan:PySem.W.mroIn K c_NoSpan (.type "BaseException") = some true)
  (xm_NoSpan_CopperError:PySem.W.exmOne K (.ref c_NoSpan) (.ref c_CopperError) = some true)
  (ki_NoSpan_NoSpan:PySem.W.kitOne K (.ref c_NoSpan) (.ref c_NoSpan) = some true)
  (ka_NoSpan:PySem.W.kitAny K (.ref c_NoSpan) [.ref c_NoBoard,.ref c_NoDrawing,.ref c_NoPin,.ref c_NoShape] = some false)
  (n_isinstance:PySem.W.nsIn K mainGlobals "isinstance" = some none)
  (n_int:PySem.W.nsIn K mainGlobals "int" = some none)
  (n_bool:PySem.W.nsIn K mainGlobals "bool" = some none)
  (n_list:PySem.W.nsIn K mainGlobals "list" = some none)
  (n_tuple:PySem.W.nsIn K mainGlobals "tuple" = some none)
  (n_len:PySem.W.nsIn K mainGlobals "len" = some none)
  (n_range:PySem.W.nsIn K mainGlobals "range" = some none)
  (n_sorted:PySem.W.nsIn K mainGlobals "sorted" = some none)
  (n_set:PySem.W.nsIn K mainGlobals "set" = some none)
  (n_str:PySem.W.nsIn K mainGlobals "str" = some none)
  (n_zip:PySem.W.nsIn K mainGlobals "zip" = some none) :
  ∃ t:Adr,Txt K mg t∧∀ p∈[t.pl_lanes],h.get? p = some (PySem.W.tabObj #[]) :=
 ⟨{ f_lanes:=f_lanes,cd_lanes:=cd_lanes,pl_lanes:=pl_lanes,f_free_row:=f_free_row,f_need_spans:=f_need_spans,f_law_cell:=f_law_cell,f_law_mixed:=f_law_mixed,f_law_twice:=f_law_twice,f_law_well:=f_law_well,f_law_draw:=f_law_draw,f_law_spans:=f_law_spans,f_law_right:=f_law_right,f_law_refused:=f_law_refused,f_law:=f_law,c_CopperError:=c_CopperError,c_NoShape:=c_NoShape,c_NoBoard:=c_NoBoard,c_NoDrawing:=c_NoDrawing,c_NoPin:=c_NoPin,c_NoSpan:=c_NoSpan },{ hd_lanes:=ch_lanes,nl_lanes:=nl_lanes,F_lanes:=⟨_,funC_mk (st:=s_lanes) l_lanes cc_lanes k_lanes ch_lanes,(funC_mk (st:=s_lanes) l_lanes cc_lanes k_lanes ch_lanes).binds (ps:=["spans"]) fun _ _ _ _ _ _ us hl => match us,hl with | [_],_ => rfl⟩,g_lanes:=PySem.W.mg_of X G a_lanes,F_free_row:=⟨_,fun_mk (st:=s_free_row) l_free_row cc_free_row k_free_row,(fun_mk (st:=s_free_row) l_free_row cc_free_row k_free_row).binds (ps:=["rows","left"]) fun _ _ _ _ _ _ us hl => match us,hl with | [_,_],_ => rfl⟩,g_free_row:=PySem.W.mg_of X G a_free_row,F_need_spans:=⟨_,fun_mk (st:=s_need_spans) l_need_spans cc_need_spans k_need_spans,(fun_mk (st:=s_need_spans) l_need_spans cc_need_spans k_need_spans).binds (ps:=["spans"]) fun _ _ _ _ _ _ us hl => match us,hl with | [_],_ => rfl⟩,g_need_spans:=PySem.W.mg_of X G a_need_spans,F_law_cell:=⟨_,fun_mk (st:=s_law_cell) l_law_cell cc_law_cell k_law_cell,(fun_mk (st:=s_law_cell) l_law_cell cc_law_cell k_law_cell).binds (ps:=["_law_script","_law_k"]) fun _ _ _ _ _ _ us hl => match us,hl with | [_,_],_ => rfl⟩,g__law_cell:=PySem.W.mg_of X G a_law_cell,F_law_mixed:=⟨_,fun_mk (st:=s_law_mixed) l_law_mixed cc_law_mixed k_law_mixed,(fun_mk (st:=s_law_mixed) l_law_mixed cc_law_mixed k_law_mixed).binds (ps:=["_law_cell_here","_law_k"]) fun _ _ _ _ _ _ us hl => match us,hl with | [_,_],_ => rfl⟩,g__law_mixed:=PySem.W.mg_of X G a_law_mixed,F_law_twice:=⟨_,fun_mk (st:=s_law_twice) l_law_twice cc_law_twice k_law_twice,(fun_mk (st:=s_law_twice) l_law_twice cc_law_twice k_law_twice).binds (ps:=["_law_cell_here","_law_k"]) fun _ _ _ _ _ _ us hl => match us,hl with | [_,_],_ => rfl⟩,g__law_twice:=PySem.W.mg_of X G a_law_twice,F_law_well:=⟨_,fun_mk (st:=s_law_well) l_law_well cc_law_well k_law_well,(fun_mk (st:=s_law_well) l_law_well cc_law_well k_law_well).binds (ps:=["_law_script","_law_k"]) fun _ _ _ _ _ _ us hl => match us,hl with | [_,_],_ => rfl⟩,g__law_well:=PySem.W.mg_of X G a_law_well,F_law_draw:=⟨_,fun_mk (st:=s_law_draw) l_law_draw cc_law_draw k_law_draw,(fun_mk (st:=s_law_draw) l_law_draw cc_law_draw k_law_draw).binds (ps:=["_law_well_here","_law_most"]) fun _ _ _ _ _ _ us hl => match us,hl with | [_,_],_ => rfl⟩,g__law_draw:=PySem.W.mg_of X G a_law_draw,F_law_spans:=⟨_,fun_mk (st:=s_law_spans) l_law_spans cc_law_spans k_law_spans,(fun_mk (st:=s_law_spans) l_law_spans cc_law_spans k_law_spans).binds (ps:=["_law_script"]) fun _ _ _ _ _ _ us hl => match us,hl with | [_],_ => rfl⟩,g__law_spans:=PySem.W.mg_of X G a_law_spans,F_law_right:=⟨_,fun_mk (st:=s_law_right) l_law_right cc_law_right k_law_right,(fun_mk (st:=s_law_right) l_law_right cc_law_right k_law_right).binds (ps:=["_law_spans_here","_law_found"]) fun _ _ _ _ _ _ us hl => match us,hl with | [_,_],_ => rfl⟩,g__law_right:=PySem.W.mg_of X G a_law_right,F_law_refused:=⟨_,fun_mk (st:=s_law_refused) l_law_refused cc_law_refused k_law_refused,(fun_mk (st:=s_law_refused) l_law_refused cc_law_refused k_law_refused).binds (ps:=["_law_spans_here"]) fun _ _ _ _ _ _ us hl => match us,hl with | [_],_ => rfl⟩,g__law_refused:=PySem.W.mg_of X G a_law_refused,F_law:=⟨_,fun_mk (st:=s_law) l_law cc_law k_law,fun s u => .of_eq rfl⟩,g_law:=PySem.W.mg_of X G a_law,g_CopperError:=PySem.W.mg_of X G g_CopperError,g_NoShape:=PySem.W.mg_of X G g_NoShape,g_NoBoard:=PySem.W.mg_of X G g_NoBoard,g_NoDrawing:=PySem.W.mg_of X G g_NoDrawing,g_NoPin:=PySem.W.mg_of X G g_NoPin,g_NoSpan:=PySem.W.mg_of X G g_NoSpan,e_NoSpan:=⟨PySem.W.mg_of X G g_NoSpan,x_NoSpan⟩,ef_NoSpan:=⟨x_NoSpan,ga_NoSpan,gt_NoSpan,gc_NoSpan,ge_NoSpan,gk_NoSpan,mo_NoSpan,mb_NoSpan⟩,xm_NoSpan_CopperError:=xm_NoSpan_CopperError,ki_NoSpan_NoSpan:=ki_NoSpan_NoSpan,ka_NoSpan:=ka_NoSpan,n_isinstance:=PySem.W.mg_none_of X G n_isinstance,n_int:=PySem.W.mg_none_of X G n_int,n_bool:=PySem.W.mg_none_of X G n_bool,n_list:=PySem.W.mg_none_of X G n_list,n_tuple:=PySem.W.mg_none_of X G n_tuple,n_len:=PySem.W.mg_none_of X G n_len,n_range:=PySem.W.mg_none_of X G n_range,n_sorted:=PySem.W.mg_none_of X G n_sorted,n_set:=PySem.W.mg_none_of X G n_set,n_str:=PySem.W.mg_none_of X G n_str,n_zip:=PySem.W.mg_none_of X G n_zip },List.forall_mem_cons.mpr ⟨tb_lanes,fun _ h => nomatch h⟩⟩
theorem iteD {c A B:Prop} [Decidable c] (h1:c→A) (h2:¬ c→B):if decide c = true then A else B:=by
 by_cases h:c
 ·rw [if_pos (decide_eq_true h)]; exact h1 h
 ·rw [if_neg (by simp [h])]; exact h2 h
theorem same_new {p:Addr} {H H':Hp} {o:HO} (x:Same H H') (hp:H' p = none):Same H (L2.upd H' p o):=fun b u e => by
 have:=x b u e
 rw [upd_ne (ne_of_none this hp)]; exact this
def Well (H:Hp) (a:Addr):Prop:=∃ m c j:Int,H a = some (.lst [.int m,.int c,.int j])
def Keep (a:Addr) (H H':Hp):Prop:=∀ b o,b≠a→H b = some o→H' b = some o
theorem Keep.refl (a:Addr) (H:Hp):Keep a H H:=fun _ _ _ e => e
theorem Keep.upd {a:Addr} {H:Hp} (o:HO):Keep a H (upd H a o):=fun b u n e => by rw [upd_ne n]; exact e
theorem Well.ne {H:Hp} {a p:Addr} (W:Well H a) (hp:H p = none):a≠p:=by
 obtain ⟨m,c,j,e⟩:=W
 exact ne_of_none e hp
theorem Well.new {H:Hp} {a p:Addr} {o:HO} (W:Well H a) (hp:H p = none):Well (L2.upd H p o) a:=by
 obtain ⟨m,c,j,e⟩:=id W
 exact ⟨m,c,j,by rw [upd_ne (W.ne hp)]; exact e⟩
section
variable {P:Program} {w:World} {K:PySem.W.Frag} {mg:Str→Option Value} {base:Heap} {t:Adr}
def spCell (K:PySem.W.Frag):Sp:=fun vs H Q _ => ∃ (a:Addr) (ns:List Int) (k:Int),vs = [.ref a,.int k]∧SqL K H a (ns.map V.int)∧0≤k∧k < 1000∧ns.length≤63∧Q (.int (ns.getD k.toNat 0)) H
theorem ok_law_cell (T:Txt K mg t):GoodF P w K mg base 1 "_law_cell" ["_law_script","_law_k"] (spCell K):=by
 obtain ⟨fd,F,b⟩:=T.F_law_cell
 refine ⟨_,fd,F.okX sc_law_cell (fun vs H Q E h => ?_) (fun cdv A outer s H vs Q E hr h => ?_),b,F.kp,T.g__law_cell⟩
 ·obtain ⟨a,ns,k,rfl,_⟩:=h
  rfl
 ·obtain ⟨a,ns,k,rfl,hq,h0,h1,hl,q⟩:=h
  refine ⟨_,(pss_cons (ps_if (pt_cmpR op_lt (pv 1) (pe_callB call_len_seq (by rfl) T.n_len b_len (pa_cons (pv 0) pa_nil)) (nomark _)) (pss_one (ps_ret (pe_ix ix_list (pv 0) (pv 1) (fun _ _ => rfl)))) pss_nil)
   (pss_one (ps_ret pe_int))),?_⟩
  refine ⟨_,rfl,_,rfl,a,_,rfl,.inl hq,k,_,rfl,rfl,_,rfl,iteD (fun hlt => ?_) fun hge => ?_⟩
  ·rw [List.length_map] at hlt
   have e:((k.toNat:Nat):Int) = k:=by omega
   refine ⟨_,rfl,_,rfl,a,_,k,.int (ns.getD k.toNat 0),rfl,rfl,hq,?_,q⟩
   have hlt2:k.toNat < ns.length:=by omega
   have hz:(ns.map V.int)[k.toNat]? = some (V.int (ns.getD k.toNat 0)):=by
    rw [List.getElem?_map,List.getD_eq_getElem?_getD,List.getElem?_eq_getElem hlt2]; rfl
   have hz2:=atI_nat hz
   rwa [e] at hz2
  ·rw [List.length_map] at hge
   have e:ns.getD k.toNat 0 = 0:=by rw [List.getD_eq_getElem?_getD,List.getElem?_eq_none (by omega)]; rfl
   rw [e] at q
   exact q
def spMix:Sp:=fun vs H Q _ => ∃ c k,vs = [.int c,.int k]∧∀ r,0≤r→r < 2147483647→Q (.int r) H
theorem ok_law_mixed (T:Txt K mg t):GoodF P w K mg base 1 "_law_mixed" ["_law_cell_here","_law_k"] spMix:=by
 obtain ⟨fd,F,b⟩:=T.F_law_mixed
 refine ⟨_,fd,F.okX sc_law_mixed (fun vs H Q E h => ?_) (fun cdv A outer s H vs Q E hr h => ?_),b,F.kp,T.g__law_mixed⟩
 ·obtain ⟨c,k,rfl,_⟩:=h
  rfl
 ·obtain ⟨c,k,rfl,q⟩:=h
  refine ⟨_,(pss_cons (ps_set (i:=2) sc_law_mixed.nd rfl (Or.inl rfl) (pe_op op_mod (pe_op op_mul (pe_op op_add (pe_op op_add (pv 0) (pe_op op_mul pe_int (pv 1))) pe_int) pe_int) pe_int))
   (pss_one (ps_ret (pe_op op_mod (pe_op op_mul (pv 2) (pe_op op_add (pe_op op_fdiv (pv 2) pe_int) pe_int)) pe_int)))),?_⟩
  refine ⟨_,rfl,_,rfl,7919,k,rfl,rfl,.inl ⟨by decide,by decide⟩,_,_,rfl,rfl,_,_,rfl,rfl,_,48271,rfl,rfl,.inr ⟨by decide,by decide⟩,_,_,rfl,rfl,(by show (0:Int) < 2147483647; decide),?_⟩
  have h0:0≤(c + 7919 * k + 1) * 48271 % 2147483647:=Int.emod_nonneg _ (by decide)
  have h1:(c + 7919 * k + 1) * 48271 % 2147483647 < 2147483647:=Int.emod_lt_of_pos _ (by decide)
  obtain ⟨n,hn⟩:∃ n,n = (c + 7919 * k + 1) * 48271 % 2147483647:=⟨_,rfl⟩
  rw [← hn] at h0 h1
  refine ⟨_,rfl,_,rfl,n,1009,congrArg V.int hn.symm,rfl,⟨by decide,by decide⟩,_,_,rfl,rfl,n,_,congrArg V.int hn.symm,rfl,.inl ⟨by omega,by omega⟩,_,_,rfl,rfl,(by show (0:Int) < 2147483647; decide),?_⟩
  exact q _ (Int.emod_nonneg _ (by decide)) (Int.emod_lt_of_pos _ (by decide))
theorem ok_law_twice (T:Txt K mg t):GoodF P w K mg base 2 "_law_twice" ["_law_cell_here","_law_k"] spMix:=by
 obtain ⟨fd,F,b⟩:=T.F_law_twice
 have G_law_mixed:=ok_law_mixed (P:=P) (w:=w) (base:=base) T
 refine ⟨_,fd,F.okX sc_law_twice (fun vs H Q E h => ?_) (fun cdv A outer s H vs Q E hr h => ?_),b,F.kp,T.g__law_twice⟩
 ·obtain ⟨c,k,rfl,_⟩:=h
  rfl
 ·obtain ⟨c,k,rfl,q⟩:=h
  refine ⟨_,(pss_cons (ps_set (i:=2) sc_law_twice.nd rfl (Or.inl rfl) (pe_op op_mod (pe_op op_mul (pe_op op_add (pe_op op_add (pe_callG G_law_mixed (hr.mono (by decide)) passes_of (by rfl) (pa_cons (pv 0) (pa_cons (pv 1) pa_nil))) (pe_op op_mul pe_int (pv 1))) pe_int) pe_int) pe_int))
   (pss_one (ps_ret (pe_op op_mod (pe_op op_mul (pv 2) (pe_op op_add (pe_op op_fdiv (pv 2) pe_int) pe_int)) pe_int)))),?_⟩
  refine ⟨_,rfl,_,rfl,c,k,rfl,fun r hr0 hr1 => ?_⟩
  refine ⟨_,rfl,104729,k,rfl,rfl,.inl ⟨by decide,by decide⟩,r,_,rfl,rfl,_,_,rfl,rfl,_,69621,rfl,rfl,.inr ⟨by decide,by decide⟩,_,_,rfl,rfl,(by show (0:Int) < 2147483647; decide),?_⟩
  have h0:0≤(r + 104729 * k + 11) * 69621 % 2147483647:=Int.emod_nonneg _ (by decide)
  have h1:(r + 104729 * k + 11) * 69621 % 2147483647 < 2147483647:=Int.emod_lt_of_pos _ (by decide)
  obtain ⟨n,hn⟩:∃ n,n = (r + 104729 * k + 11) * 69621 % 2147483647:=⟨_,rfl⟩
  rw [← hn] at h0 h1
  refine ⟨_,rfl,_,rfl,n,1013,congrArg V.int hn.symm,rfl,⟨by decide,by decide⟩,_,_,rfl,rfl,n,_,congrArg V.int hn.symm,rfl,.inl ⟨by omega,by omega⟩,_,_,rfl,rfl,(by show (0:Int) < 2147483647; decide),?_⟩
  exact q _ (Int.emod_nonneg _ (by decide)) (Int.emod_lt_of_pos _ (by decide))
def spWell (K:PySem.W.Frag):Sp:=fun vs H Q _ => ∃ (a:Addr) (ns:List Int) (k:Int),vs = [.ref a,.int k]∧SqL K H a (ns.map V.int)∧0≤k∧k < 1000∧ns.length≤63∧∀ p m c,H p = none→Q (.ref p) (upd H p (.lst [.int m,.int c,.int 0]))
theorem ok_law_well (T:Txt K mg t):GoodF P w K mg base 2 "_law_well" ["_law_script","_law_k"] (spWell K):=by
 obtain ⟨fd,F,b⟩:=T.F_law_well
 have G_law_cell:=ok_law_cell (P:=P) (w:=w) (base:=base) T
 refine ⟨_,fd,F.okX sc_law_well (fun vs H Q E h => ?_) (fun cdv A outer s H vs Q E hr h => ?_),b,F.kp,T.g__law_well⟩
 ·obtain ⟨a,ns,k,rfl,_⟩:=h
  rfl
 ·obtain ⟨a,ns,k,rfl,hq,h0,h1,hl,q⟩:=h
  refine ⟨_,(pss_one (ps_ret (pe_lst (pa_cons (pe_op op_mod (pe_callG G_law_cell (hr.mono (by decide)) passes_of (by rfl) (pa_cons (pv 0) (pa_cons pe_int pa_nil))) pe_int) (pa_cons (pe_callG G_law_cell (hr.mono (by decide)) passes_of (by rfl) (pa_cons (pv 0) (pa_cons (pv 1) pa_nil))) (pa_cons pe_int pa_nil)))))),?_⟩
  refine ⟨_,rfl,a,ns,0,rfl,hq,by decide,by decide,hl,_,2,rfl,rfl,(by show (0:Int) < 2; decide),_,rfl,_,rfl,a,ns,k,rfl,hq,h0,h1,hl,(by show 3≤sizeLine; decide),fun p hp => q p _ _ hp⟩
def spDraw:Sp:=fun vs H Q _ => ∃ a n,vs = [.ref a,.int n]∧Well H a∧0 < n∧n < 1073741824∧∀ r H',0≤r→r < n→Well H' a→Keep a H H'→Q (.int r) H'
theorem ok_law_draw (T:Txt K mg t):GoodF P w K mg base 3 "_law_draw" ["_law_well_here","_law_most"] spDraw:=by
 obtain ⟨fd,F,b⟩:=T.F_law_draw
 have G_law_twice:=ok_law_twice (P:=P) (w:=w) (base:=base) T
 refine ⟨_,fd,F.okX sc_law_draw (fun vs H Q E h => ?_) (fun cdv A outer s H vs Q E hr h => ?_),b,F.kp,T.g__law_draw⟩
 ·obtain ⟨a,n,rfl,_⟩:=h
  rfl
 ·obtain ⟨a,n,rfl,⟨m,c,j,hw⟩,hn,hn2,q⟩:=h
  refine ⟨_,(pss_cons (ps_if (pt_cmpR op_eq (pe_ix ix_list (pv 0) pe_int (fun _ _ => rfl)) pe_int (nomark _)) (pss_cons (ps_set (i:=2) sc_law_draw.nd rfl (Or.inl rfl) (pe_op op_mod (pe_ix ix_list (pv 0) pe_int (fun _ _ => rfl)) (pv 1)))
   (pss_cons (ps_asg (pe_op op_fdiv (pe_ix ix_list (pv 0) pe_int (fun _ _ => rfl)) (pv 1)) (pg_sub (pv 0) pe_int set_list))
   (pss_one (ps_ret (pv 2))))) pss_nil)
   (pss_cons (ps_asg (pe_op op_add (pe_ix ix_list (pv 0) pe_int (fun _ _ => rfl)) pe_int) (pg_sub (pv 0) pe_int set_list))
   (pss_one (ps_ret (pe_op op_mod (pe_callG G_law_twice (hr.mono (by decide)) passes_of (by rfl) (pa_cons (pe_ix ix_list (pv 0) pe_int (fun _ _ => rfl)) (pa_cons (pe_ix ix_list (pv 0) pe_int (fun _ _ => rfl)) pa_nil))) (pv 1)))))),?_⟩
  have S:SqL K H a [.int m,.int c,.int j]:=SqL.of hw
  refine ⟨_,rfl,a,_,0,.int m,rfl,rfl,S,rfl,rfl,_,rfl,iteD (fun _ => ?_) fun _ => ?_⟩
  ·refine ⟨_,rfl,a,_,1,.int c,rfl,rfl,S,rfl,_,rfl,c,n,rfl,rfl,hn,?_⟩
   refine ⟨_,rfl,a,_,1,.int c,rfl,rfl,S,rfl,_,rfl,c,n,rfl,rfl,⟨hn,hn2⟩,_,rfl,a,_,1,1,rfl,rfl,hw,rfl,?_⟩
   exact ⟨_,rfl,q _ _ (Int.emod_nonneg _ (by omega)) (Int.emod_lt_of_pos _ hn) ⟨m,c / n,j,upd_same⟩ (Keep.upd _)⟩
  ·refine ⟨_,rfl,a,_,2,.int j,rfl,rfl,S,rfl,j,1,rfl,rfl,_,rfl,a,_,2,2,rfl,rfl,hw,rfl,?_⟩
   have S2:SqL K (upd H a (.lst [.int m,.int c,.int (j + 1)])) a [.int m,.int c,.int (j + 1)]:=SqL.of upd_same
   refine ⟨_,rfl,a,_,1,.int c,rfl,rfl,S2,rfl,_,rfl,a,_,2,.int (j + 1),rfl,rfl,S2,rfl,c,j + 1,rfl,fun r h0 h1 => ?_⟩
   exact ⟨_,rfl,r,n,rfl,rfl,hn,q _ _ (Int.emod_nonneg _ (by omega)) (Int.emod_lt_of_pos _ hn) ⟨m,c,j + 1,upd_same⟩ (Keep.upd _)⟩
end
end K71
namespace K71
open PySem L2 Wd TS STb
abbrev Spn:=Str × Int × Int
def kS (s:Spn):List Key:=[.inr s.1,.inl s.2.1,.inl s.2.2]
def Sps (H:Hp) (ps:List Addr) (sp:List Spn):Prop:=KeyAt H ps (sp.map kS)
def Good (sp:List Spn):Prop:=(∀ s∈sp,s.2.1≤s.2.2)∧(sp.map (·.1)).Nodup
theorem Sps.at_ {H:Hp} {ps:List Addr} {sp:List Spn} (C:Sps H ps sp) {i:Nat} {p:Addr} {s:Spn} (h1:ps[i]? = some p) (h2:sp[i]? = some s):H p = some (.tup [.str s.1,.int s.2.1,.int s.2.2]) :=
 C.2 i p (kS s) h1 (by rw [List.getElem?_map,h2]; rfl)
theorem Sps.len {H:Hp} {ps:List Addr} {sp:List Spn} (C:Sps H ps sp):ps.length = sp.length:=by have:=C.1; rwa [List.length_map] at this
theorem Sps.mem {H:Hp} {ps:List Addr} {sp:List Spn} (C:Sps H ps sp) {p:Addr} (h:p∈ps):∃ s∈sp,H p = some (.tup [.str s.1,.int s.2.1,.int s.2.2]):=by
 obtain ⟨i,hi,rfl⟩:=List.getElem_of_mem h
 have h2:i < sp.length:=by rw [← C.len]; exact hi
 exact ⟨_,List.getElem_mem h2,C.at_ (List.getElem?_eq_getElem hi) (List.getElem?_eq_getElem h2)⟩
theorem Sps.hd {H:Hp} {ps:List Addr} {sp:List Spn} (C:Sps H ps sp):(ps.map V.ref).map (hd0 H) = (sp.map (·.1)).map V.str:=by
 refine List.ext_getElem (by simp [C.len]) fun i h1 h2 => ?_
 have g1:i < ps.length:=by simpa using h1
 have g2:i < sp.length:=by simpa using h2
 have e:=C.at_ (List.getElem?_eq_getElem g1) (List.getElem?_eq_getElem g2)
 rw [List.getElem_map,List.getElem_map,List.getElem_map,List.getElem_map]
 show (match H ps[i] with | some (.tup (a :: _)) => a | _ => V.non) = _
 rw [e]
theorem hd0_of3 {H:Hp} {p:Addr} {a b c:V} (h:H p = some (.tup [a,b,c])):hd0 H (.ref p) = a:=by show (match H p with | some (.tup (a :: _)) => a | _ => V.non) = a; rw [h]
theorem b_set:bootBuiltins "set" = some (.type "set"):=by kernel_rfl
theorem iteNN {c A B:Prop} [Decidable c] (hc:¬ c) (h:A):if (!decide c) = true then A else B:=by rw [decide_eq_false hc]; exact h
section
variable {P:Program} {w:World} {K:PySem.W.Frag} {mg:Str→Option Value} {base:Heap} {t:Adr}
def spNeed (C:Addr):Sp:=fun vs H Q E => ∃ (a:Addr) (ps:List Addr) (sp:List Spn),vs = [.ref a]∧H a = some (.lst (ps.map V.ref))∧Sps H ps sp∧sp.length≤60∧(Good sp→∀ H',Same H H'→Q .non H')∧(¬ Good sp→∀ H',Same H H'→E (.ref C) none H')
theorem ok_need_spans (T:Txt K mg t):GoodF P w K mg base 1 "need_spans" ["spans"] (spNeed t.c_NoSpan):=by
 obtain ⟨fd,F,b⟩:=T.F_need_spans
 refine ⟨_,fd,F.okX sc_need_spans (fun vs H Q E h => ?_) (fun cdv A outer s H vs Q E hr h => ?_),b,F.kp,T.g_need_spans⟩
 ·obtain ⟨a,ps,sp,rfl,_⟩:=h
  rfl
 ·obtain ⟨a,ps,sp,rfl,ha,C,hl,kQ,kE⟩:=h
  refine ⟨_,(pss_cons (ps_for owns_of (pi_list (pv 0)) (pg_tup rfl (pgs_cons (pg_name (i:=1) sc_need_spans.nd rfl (Or.inl rfl)) (pgs_cons (pg_name (i:=2) sc_need_spans.nd rfl (Or.inl rfl)) (pgs_cons (pg_name (i:=3) sc_need_spans.nd rfl (Or.inl rfl)) pgs_nil)))) (pss_one (ps_if (pt_cmpR op_gt (pv 2) (pv 3) (nomark _)) (pss_one (ps_raise throws_of rfl T.e_NoSpan rfl (pa_cons pe_str pa_nil))) pss_nil)))
   (pss_cons (ps_setcomp (i:=4) sc_need_spans.nd rfl (Or.inl rfl) (own:=["span"]) (cs_nil (N:=["spans","net","left","right","nets"]) rfl (by rfl) (by decide +kernel) (by decide +kernel) (by decide +kernel)) (pi_list (pv 0)) (fun _ _ _ _ _ => pg_name (i:=5) (by show (["spans","net","left","right","nets","span"]:List Str).Nodup; decide +kernel) rfl (Or.inl rfl)) (fun _ _ _ _ _ => pf_nil) (fun _ _ _ _ _ => (pe_ix (ix_tupK (K:=K) rfl) (pv 5) pe_int (fun _ _ => rfl))))
   (pss_one (ps_if (pt_cmpR op_ne (pe_callB call_lenN (by rfl) T.n_len b_len (pa_cons (pe_callTy (call_setS rfl) (by rfl) T.n_set b_set (pa_cons (pv 4) pa_nil)) pa_nil)) (pe_callB call_len_seq (by rfl) T.n_len b_len (pa_cons (pv 4) pa_nil)) (nomark _)) (pss_one (ps_raise throws_of rfl T.e_NoSpan rfl (pa_cons pe_str pa_nil))) pss_nil)))),?_⟩
  have lz:(ps.map V.ref).length≤sizeLine:=by rw [List.length_map,C.len]; exact Nat.le_trans hl (by decide)
  refine sg3 (fun (v1 v2 v3:Option V) => [oR a,v1,v2,v3,none]) (fun _ _ _ H' => H = H'∧∀ s∈sp,s.2.1≤s.2.2) (fun B hB => ?_) ?_
  ·refine ⟨_,rfl,a,rfl,⟨_,SqL.of ha⟩,for_list (xs:=ps.map V.ref) (fun i σ H' => ∃ v1 v2 v3:Option V,σ = [oR a,v1,v2,v3,none]∧H = H'∧∀ j s,j < i→sp[j]? = some s→s.2.1≤s.2.2) ⟨_,_,_,rfl,rfl,fun j s h => absurd h (Nat.not_lt_zero _)⟩ (fun i σ H' _ h => by obtain ⟨_,_,_,_,e,_⟩:=h; exact e▸SqL.of ha) ?_ ?_⟩
   ·rintro i v σ H2 hx ⟨v1,v2,v3,rfl,rfl,hj⟩
    rw [List.getElem?_map] at hx
    obtain ⟨p,e1,rfl⟩:=Option.map_eq_some_iff.mp hx
    have hi:i < sp.length:=by rw [← C.len]; exact (List.getElem?_eq_some_iff.mp e1).1
    have e2:=List.getElem?_eq_getElem hi
    have e3:=C.at_ e1 e2
    refine ⟨p,_,rfl,SqT.of e3,rfl,_,_,rfl,_,_,rfl,_,_,rfl,rfl,?_⟩
    refine ⟨_,rfl,_,rfl,_,_,rfl,rfl,_,rfl,iteD (fun g => ⟨sL1,kE (fun z => ?_) _ (Same.refl H)⟩) fun g => ⟨_,_,_,rfl,rfl,fun j s hj2 es => ?_⟩⟩
    ·have:=z.1 _ (List.getElem_mem hi)
     omega
    ·rcases Nat.lt_or_eq_of_le (Nat.le_of_lt_succ hj2) with z | rfl
     ·exact hj j s z es
     ·rw [e2] at es
      cases es
      omega
   ·rintro σ H2 ⟨v1,v2,v3,rfl,rfl,hj⟩
    refine hB _ _ _ _ ⟨rfl,fun s hs => ?_⟩
    obtain ⟨j,hj1,rfl⟩:=List.getElem_of_mem hs
    exact hj j _ (by rw [List.length_map,C.len]; exact hj1) (List.getElem?_eq_getElem hj1)
  intro v1 v2 v3 H1 i
  obtain ⟨rfl,hle⟩:=i
  refine ⟨_,rfl,a,rfl,⟨_,SqL.of ha⟩,comp_pure (xs:=ps.map V.ref) (fun _ => true) (hd0 H) (SqL.of ha) lz (fun x hx H' Qy Qn s' hy _ => ?_) fun D hD => ?_⟩
  ·obtain ⟨p,hp,rfl⟩:=List.mem_map.mp hx
   obtain ⟨s,hs,e⟩:=C.mem hp
   refine ⟨⟨_,rfl,rfl⟩,iteT (ixV (.str s.1) (SqT.of (s' _ _ e)) ?_)⟩
   have:=hy rfl
   rwa [hd0_of3 e] at this
  have s1:=same_new (o:=.lst (((ps.map V.ref).filter fun _ => true).map (hd0 H))) (Same.refl H) hD
  have e1:upd H D (.lst (((ps.map V.ref).filter fun _ => true).map (hd0 H))) D = some (.lst ((sp.map (·.1)).map V.str)):=by rw [upd_same,List.filter_eq_self.mpr (fun _ _ => rfl),C.hd]
  generalize upd H D (.lst (((ps.map V.ref).filter fun _ => true).map (hd0 H))) = H1 at s1 e1
  refine ⟨_,rfl,D,_,rfl,e1,by rw [List.length_map]; omega,fun S hS => ?_⟩
  have s2:=same_new (o:=.ext (SetN P w S (dd (sp.map (·.1))).length)) (Same.refl H1) hS
  refine ⟨S,_,rfl,upd_same,_,rfl,D,_,rfl,.inl (SqL.of (s2 _ _ e1)),rfl,_,rfl,?_⟩
  by_cases g:Good sp
  ·exact iteNS (by rw [(dd_full _).mpr g.2,List.length_map V.str]) (kQ g _ (Same.trans s1 s2))
  ·exact iteNN (fun z => g ⟨hle,(dd_full _).mp (by have z:=Int.ofNat.inj (V.int.inj z); rwa [List.length_map] at z)⟩) ⟨sL1,kE g _ (Same.trans s1 s2)⟩
end
end K71
namespace K71
open PySem L2 Wd TS STb
abbrev Row:=List Addr × List Spn
def Rws (H:Hp) (rs:List Addr) (rws:List Row):Prop:=rs.length = rws.length∧∀ (i:Nat) (r:Addr) (q:Row),rs[i]? = some r→rws[i]? = some q→H r = some (.lst (q.1.map V.ref))∧Sps H q.1 q.2∧q.2≠[]
def lastR (q:Row):Int:=(q.2.getLastD ("",0,0)).2.2
theorem last_at {H:Hp} {q:Row} (C:Sps H q.1 q.2) (h:q.2≠[]):∃ (p:Addr) (s:Spn),atI (q.1.map V.ref) (-1) = some (.ref p)∧H p = some (.tup [.str s.1,.int s.2.1,.int s.2.2])∧lastR q = s.2.2:=by
 obtain ⟨ps,sp⟩:=q
 have hn:ps≠[]:=fun z => by
  have:=C.len
  simp only at this
  rw [z] at this
  exact h (List.length_eq_zero_iff.mp this.symm)
 have e1:ps = ps.dropLast ++ [ps.getLast hn]:=(List.dropLast_concat_getLast hn).symm
 have e2:sp = sp.dropLast ++ [sp.getLast h]:=(List.dropLast_concat_getLast h).symm
 refine ⟨ps.getLast hn,sp.getLast h,?_,?_,?_⟩
 ·show atI (ps.map V.ref) (-1) = _
  have:=atI_last (ps.dropLast.map V.ref) (V.ref (ps.getLast hn))
  rwa [show ps.dropLast.map V.ref ++ [V.ref (ps.getLast hn)] = ps.map V.ref from ((congrArg (List.map V.ref) e1).trans List.map_append).symm] at this
 ·have l:=C.len
  have hp:0 < ps.length:=List.length_pos_iff.mpr hn
  exact C.at_ (i:=ps.length - 1) (by rw [List.getLast_eq_getElem,List.getElem?_eq_getElem]) (by rw [List.getLast_eq_getElem,← List.getElem?_eq_getElem]; rw [show ps.length = sp.length from l])
 ·show (sp.getLastD ("",0,0)).2.2 = _
  rw [List.getLastD_eq_getLast?,List.getLast?_eq_some_getLast h]
  rfl
section
variable {P:Program} {w:World} {K:PySem.W.Frag} {mg:Str→Option Value} {base:Heap} {t:Adr}
def spFree:Sp:=fun vs H Q _ => ∃ (R:Addr) (left:Int) (rs:List Addr) (rws:List Row),vs = [.ref R,.int left]∧H R = some (.lst (rs.map V.ref))∧Rws H rs rws ∧
 (∀ (i:Nat) (r:Addr) (q:Row),rs[i]? = some r→rws[i]? = some q→lastR q < left→(∀ (j:Nat) (q':Row),j < i→rws[j]? = some q'→¬ lastR q' < left)→Q (.ref r) H)∧((∀ q∈rws,¬ lastR q < left)→Q .non H)
theorem ok_free_row (T:Txt K mg t):GoodF P w K mg base 1 "free_row" ["rows","left"] spFree:=by
 obtain ⟨fd,F,b⟩:=T.F_free_row
 refine ⟨_,fd,F.okX sc_free_row (fun vs H Q E h => ?_) (fun cdv A outer s H vs Q E hr h => ?_),b,F.kp,T.g_free_row⟩
 ·obtain ⟨R,left,rs,rws,rfl,_⟩:=h
  rfl
 ·obtain ⟨R,left,rs,rws,rfl,hR,C,k1,k2⟩:=h
  refine ⟨_,(pss_cons (ps_for owns_of (pi_list (pv 0)) (pg_name (i:=2) sc_free_row.nd rfl (Or.inl rfl)) (pss_one (ps_if (pt_cmpR op_lt (pe_ix ix_tup (pe_ix ix_list (pv 2) (pe_un un_neg pe_int) (fun _ _ => rfl)) pe_int (fun _ _ => rfl)) (pv 1) (nomark _)) (pss_one (ps_ret (pv 2))) pss_nil)))
   (pss_one (ps_ret pe_non))),?_⟩
  refine ⟨_,rfl,R,rfl,⟨_,SqL.of hR⟩,for_list (xs:=rs.map V.ref) (fun i σ H' => ∃ v:Option V,σ = [oR R,oI left,v]∧H = H'∧∀ (j:Nat) (q':Row),j < i→rws[j]? = some q'→¬ lastR q' < left) ⟨_,rfl,rfl,fun j q' h => absurd h (Nat.not_lt_zero _)⟩ (fun i σ H' _ h => by obtain ⟨_,_,e,_⟩:=h; exact e▸SqL.of hR) ?_ ?_⟩
  ·rintro i v σ H2 hx ⟨v1,rfl,rfl,hj⟩
   rw [List.getElem?_map] at hx
   obtain ⟨r,e1,rfl⟩:=Option.map_eq_some_iff.mp hx
   have hi:i < rws.length:=by rw [← C.1]; exact (List.getElem?_eq_some_iff.mp e1).1
   have e2:=List.getElem?_eq_getElem hi
   obtain ⟨h1,h2,h3⟩:=C.2 i r _ e1 e2
   generalize rws[i] = q at e2 h1 h2 h3
   obtain ⟨p,s,ea,ep,es⟩:=last_at h2 h3
   refine ⟨_,rfl,1,rfl,r,_,-1,.ref p,rfl,rfl,SqL.of h1,ea,p,_,2,.int s.2.2,rfl,rfl,SqT.of ep,rfl,_,rfl,_,_,rfl,rfl,_,rfl,iteD (fun g => ⟨_,rfl,k1 i r q e1 e2 (by rw [es]; exact g) hj⟩) fun g => ⟨_,rfl,rfl,fun j q' hj2 eq => ?_⟩⟩
   rcases Nat.lt_or_eq_of_le (Nat.le_of_lt_succ hj2) with z | rfl
   ·exact hj j q' z eq
   ·rw [e2] at eq
    cases eq
    rw [es]
    exact g
  ·rintro σ H2 ⟨v1,rfl,rfl,hj⟩
   refine k2 fun q hq => ?_
   obtain ⟨j,hj1,rfl⟩:=List.getElem_of_mem hq
   exact hj j _ (by rw [List.length_map,C.1]; exact hj1) (List.getElem?_eq_getElem hj1)
end
end K71
namespace K71
open PySem L2 Wd TS STb
def lamOf (st:Stmt):Arguments × Expr × Scope × Pos:=match defBody st with
 | [_,_,_,.For _ (.Call _ _ [⟨_,.Lambda a b sc p,_⟩] _) _ _ _,_] => (a,b,sc,p)
 | _ => ({ posonlyargs:=[],args:=[],vararg:=none,kwonlyargs:=[],kw_defaults:=[],kwarg:=none,defaults:=[] },.Name "" ⟨0,0,0,0⟩,{ kind:=.function,names:=[],isGenerator:=false,isCoroutine:=false },⟨0,0,0,0⟩)
abbrev qL:Str:="lanes" ++ ".<locals>." ++ "<lambda>"
def Tabs (t:Adr) (H:Hp):Prop:=Tbl H t.pl_lanes (lamOf s_lanes).2.2.2 qL
section
variable {P:Program} {w:World} {K:PySem.W.Frag} {mg:Str→Option Value} {base:Heap} {t:Adr}
def spKey (f c:Addr):Sp:=fun vs H Q _ => ∃ (b:Addr) (s:Spn),vs = [.ref b]∧H f = some (LamE f qL (lamOf s_lanes).1 (lamOf s_lanes).2.1 (lamOf s_lanes).2.2.1 [] c)∧H c = some (CodeE c qL)∧H b = some (.tup [.str s.1,.int s.2.1,.int s.2.2])∧Q (.int s.2.1) H
theorem calls_K (T:Txt K mg t) (f c:Addr):Calls P w K mg base 2 f (spKey f c):=by
 intro A outer s H us vs Q hr e0 r h
 obtain ⟨b,sp,rfl,hf,hc,hb,q⟩:=h
 refine lam_call (k:=1) (lamScope0 (ps:=["one"]) rfl rfl rfl (by decide +kernel) (by decide +kernel) rfl) (fun pm ct us hl => match us,hl with | [_],_ => rfl) hr e0 r rfl hf hc .nil fun hr2 => ?_
 refine ⟨_,(pe_ix (ix_tupK (K:=K) rfl) (pv 0) pe_int (fun _ _ => rfl)),?_⟩
 have e1:unfs H [] = H:=funext fun b => by simp [unfs]
 have e2:refs H H [] = H:=funext fun b => by simp [refs]
 rw [e1]
 refine ⟨_,rfl,b,_,1,.int sp.2.1,rfl,rfl,SqT.of hb,rfl,fun z => ?_⟩
 rw [e2]
 exact q
end
end K71
namespace K71
open PySem L2 Wd TS STb
def has (k:Int) (s:Spn):Bool:=decide (s.2.1≤k∧k≤s.2.2)
def lst (q:List Spn):Spn:=q.getLastD ("",0,0)
structure GI (R:List (List Spn)) (D:List Spn) (c:Option Int):Prop where
 pm:R.flatten.Perm D
 ne:∀ q∈R,q≠[]
 le:∀ s∈D,s.2.1≤s.2.2
 ch:∀ q∈R,q.Pairwise fun s s' => s.2.2 < s'.2.1
 nn:c = none↔R = []
 ct:∀ k,c = some k→∀ q∈R,(q.filter (has k)).length = 1∧k≤(lst q).2.2
theorem lst_snoc (q:List Spn) (s:Spn):lst (q ++ [s]) = s:=by unfold lst; rw [List.getLastD_concat]
theorem lst_split {q:List Spn} (h:q≠[]):∃ r,q = r ++ [lst q]:=⟨q.dropLast,by
 unfold lst
 rw [List.getLastD_eq_getLast?,List.getLast?_eq_some_getLast h]
 exact (List.dropLast_concat_getLast h).symm⟩
theorem GI.start:GI [] [] none:=⟨List.Perm.refl _,(fun q h => nomatch h),(fun s h => nomatch h),(fun q h => nomatch h),⟨fun _ => rfl,fun _ => rfl⟩,(fun k h => nomatch h)⟩
theorem GI.leq {R:List (List Spn)} {D:List Spn} {c:Option Int} (g:GI R D c) {q:List Spn} (hq:q∈R) {s:Spn} (hs:s∈q):s.2.1≤s.2.2:=g.le s (g.pm.mem_iff.mp (List.mem_flatten.mpr ⟨q,hq,hs⟩))
theorem GI.below {R:List (List Spn)} {D:List Spn} {c:Option Int} (g:GI R D c) {q:List Spn} (hq:q∈R) {s:Spn} (hs:s∈q):s.2.2≤(lst q).2.2:=by
 obtain ⟨r,e⟩:=lst_split (g.ne q hq)
 have hl:lst q∈q:=by rw [e]; simp [lst_snoc]
 have hs2:=hs
 rw [e,List.mem_append] at hs2
 rcases hs2 with z | z
 ·have h1:=g.ch q hq
  rw [e,List.pairwise_append] at h1
  have h2:=h1.2.2 s z _ (List.mem_singleton.mpr rfl)
  have h3:=g.leq hq hl
  omega
 ·rw [List.mem_singleton.mp z]
  exact Int.le_refl _
theorem GI.opens {R:List (List Spn)} {D:List Spn} {c:Option Int} (g:GI R D c) {s:Spn} (hs:s.2.1≤s.2.2) (hd:∀ s'∈D,s'.2.1≤s.2.1) (hn:∀ q∈R,¬ (lst q).2.2 < s.2.1):GI (R ++ [[s]]) (D ++ [s]) (some s.2.1):=by
 refine ⟨?_,fun q hq => ?_,fun s' h' => ?_,fun q hq => ?_,⟨(fun z => nomatch z),fun z => absurd z (by simp)⟩,fun k hk q hq => ?_⟩
 ·rw [List.flatten_append]
  exact g.pm.append (by simp)
 ·rcases List.mem_append.mp hq with z | z
  ·exact g.ne q z
  ·rw [List.mem_singleton.mp z]; simp
 ·rcases List.mem_append.mp h' with z | z
  ·exact g.le s' z
  ·rw [List.mem_singleton.mp z]; exact hs
 ·rcases List.mem_append.mp hq with z | z
  ·exact g.ch q z
  ·rw [List.mem_singleton.mp z]; exact List.pairwise_singleton _ _
 ·cases hk
  rcases List.mem_append.mp hq with z | z
  ·have h1:=hn q z
   refine ⟨?_,by omega⟩
   obtain ⟨r,e⟩:=lst_split (g.ne q z)
   have hl:lst q∈q:=by rw [e]; simp [lst_snoc]
   have hch:=g.ch q z
   have hld:=hd _ (g.pm.mem_iff.mp (List.mem_flatten.mpr ⟨q,z,hl⟩))
   rw [e] at hch
   rw [List.pairwise_append] at hch
   rw [e,List.filter_append,List.filter_eq_nil_iff.mpr (fun s' hs' => ?_),List.filter_cons_of_pos,List.filter_nil]
   ·rfl
   ·unfold has
    rw [decide_eq_true_eq]
    exact ⟨hld,by omega⟩
   ·unfold has
    rw [decide_eq_true_eq]
    have:=hch.2.2 s' hs' _ (List.mem_singleton.mpr rfl)
    omega
  ·rw [List.mem_singleton.mp z]
   have e:has s.2.1 s = true:=by unfold has; rw [decide_eq_true_eq]; exact ⟨Int.le_refl _,hs⟩
   refine ⟨by rw [List.filter_cons_of_pos e]; rfl,?_⟩
   show s.2.1≤s.2.2
   exact hs
theorem GI.adds {A B:List (List Spn)} {q:List Spn} {D:List Spn} {c:Option Int} (g:GI (A ++ q :: B) D c) {s:Spn} (hs:s.2.1≤s.2.2) (hq:(lst q).2.2 < s.2.1):GI (A ++ (q ++ [s]) :: B) (D ++ [s]) c:=by
 have mq:q∈A ++ q :: B:=by simp
 have old:∀ {r:List Spn},r∈A ++ (q ++ [s]) :: B→r = q ++ [s]∨r∈A ++ q :: B:=fun {r} hr => by
  rcases List.mem_append.mp hr with z | z
  ·exact .inr (List.mem_append_left _ z)
  ·rcases List.mem_cons.mp z with z | z
   ·exact .inl z
   ·exact .inr (List.mem_append_right _ (List.mem_cons_of_mem _ z))
 refine ⟨?_,fun r hr => ?_,fun s' h' => ?_,fun r hr => ?_,⟨fun z => absurd (g.nn.mp z) (by simp),fun z => absurd z (by simp)⟩,fun k hk r hr => ?_⟩
 ·have h1:(A ++ q :: B).flatten = A.flatten ++ (q ++ B.flatten):=by simp
  have h2:(A ++ (q ++ [s]) :: B).flatten = A.flatten ++ ((q ++ [s]) ++ B.flatten):=by simp
  have h3:=g.pm
  rw [h1] at h3
  rw [h2]
  refine List.Perm.trans ?_ (h3.append_right [s])
  rw [List.append_assoc,List.append_assoc,List.append_assoc]
  refine List.Perm.append_left _ (List.Perm.append_left _ ?_)
  exact List.perm_append_comm
 ·rcases old hr with rfl | z
  ·simp
  ·exact g.ne r z
 ·rcases List.mem_append.mp h' with z | z
  ·exact g.le s' z
  ·rw [List.mem_singleton.mp z]; exact hs
 ·rcases old hr with rfl | z
  ·rw [List.pairwise_append]
   refine ⟨g.ch q mq,List.pairwise_singleton _ _,fun a ha b hb => ?_⟩
   rw [List.mem_singleton.mp hb]
   have:=g.below mq ha
   omega
  ·exact g.ch r z
 ·rcases old hr with rfl | z
  ·obtain ⟨h1,h2⟩:=g.ct k hk q mq
   rw [lst_snoc,List.filter_append,List.filter_cons_of_neg,List.filter_nil,List.append_nil]
   ·exact ⟨h1,by omega⟩
   ·unfold has
    rw [decide_eq_true_eq]
    omega
  ·exact g.ct k hk r z
theorem GI.count {R:List (List Spn)} {D:List Spn} {k:Int} (g:GI R D (some k)):(D.filter (has k)).length = R.length:=by
 rw [← (g.pm.filter (has k)).length_eq]
 have h:=g.ct k rfl
 clear g
 induction R with
 | nil => rfl
 | cons q R ih =>
  rw [List.flatten_cons,List.filter_append,List.length_append,(h q (List.mem_cons_self ..)).1,ih fun r hr => h r (List.mem_cons_of_mem _ hr),List.length_cons]
  omega
end K71
namespace K71
open PySem L2 Wd TS STb
theorem b_sorted:bootBuiltins "sorted" = some (.builtin "sorted"):=by decide +kernel
def colV:Option Int→V | none => .non | some k => .int k
def RI (H0 H':Hp) (rs:List Addr) (rws:List Row):Prop:=rs.length = rws.length∧∀ (i:Nat) (r:Addr) (q:Row),rs[i]? = some r→rws[i]? = some q→H' r = some (.lst (q.1.map V.ref))∧Sps H0 q.1 q.2∧q.2≠[]
def spanAt (H:Hp) (b:Addr):Spn:=match H b with | some (.tup [.str n,.int l,.int r]) => (n,l,r) | _ => ("",0,0)
theorem spanAt_of {H:Hp} {b:Addr} {s:Spn} (h:H b = some (.tup [.str s.1,.int s.2.1,.int s.2.2])):spanAt H b = s:=by unfold spanAt; rw [h]
theorem Sps.eq {H:Hp} {ps:List Addr} {sp:List Spn} (C:Sps H ps sp):ps.map (spanAt H) = sp:=by
 refine List.ext_getElem (by rw [List.length_map,C.len]) fun i h1 h2 => ?_
 have g1:i < ps.length:=by simpa using h1
 rw [List.getElem_map]
 exact spanAt_of (C.at_ (List.getElem?_eq_getElem g1) (List.getElem?_eq_getElem h2))
theorem Sps.of_mem {H:Hp} {bs:List Addr} (h:∀ p∈bs,∃ s:Spn,H p = some (.tup [.str s.1,.int s.2.1,.int s.2.2])):Sps H bs (bs.map (spanAt H)):=by
 refine ⟨by rw [List.length_map,List.length_map],fun i b k h1 h2 => ?_⟩
 rw [List.getElem?_map,List.getElem?_map,h1] at h2
 cases h2
 obtain ⟨s,e⟩:=h b (List.mem_of_getElem? h1)
 rw [spanAt_of e]
 exact e
theorem Sps.mono {H H':Hp} {ps:List Addr} {sp:List Spn} (C:Sps H ps sp) (k:∀ p xs,H p = some (.tup xs)→H' p = some (.tup xs)):Sps H' ps sp:=⟨C.1,fun i b x h1 h2 => k _ _ (C.2 i b x h1 h2)⟩
theorem RI.rws {H0 H':Hp} {rs:List Addr} {rws:List Row} (r:RI H0 H' rs rws) (k:∀ p xs,H0 p = some (.tup xs)→H' p = some (.tup xs)):Rws H' rs rws:=⟨r.1,fun i a q h1 h2 => ⟨(r.2 i a q h1 h2).1,(r.2 i a q h1 h2).2.1.mono k,(r.2 i a q h1 h2).2.2⟩⟩
theorem len_flat:∀ {R:List (List Spn)} {x:List Spn},x∈R→x.length≤R.flatten.length
 | q :: R,x,h => by
  rw [List.flatten_cons,List.length_append]
  rcases List.mem_cons.mp h with rfl | h
  ·omega
  ·have:=len_flat h; omega
theorem len_rows:∀ {R:List (List Spn)},(∀ q∈R,q≠[])→R.length≤R.flatten.length
 | [],_ => Nat.le_refl _
 | q :: R,h => by
  rw [List.flatten_cons,List.length_append,List.length_cons]
  have h1:=len_rows fun x hx => h x (List.mem_cons_of_mem _ hx)
  have h2:=List.length_pos_iff.mpr (h q (List.mem_cons_self ..))
  omega
theorem _root_.L2.Sm.keep {H H4 H5:Hp} {R:Addr} (a:Sm H H4) (hR:H R = none) (k:Keep R H4 H5):Sm H H5 :=
 ⟨fun b u n e => k b u (ne_of_none e hR) (a.1 b u n e),fun b ps e => let ⟨ps',e'⟩:=a.2 b ps e; ⟨ps',k b _ (ne_of_none e hR) e'⟩⟩
theorem Tabs.keep {t:Adr} {H H':Hp} {R:Addr} {xs:List V} (x:Tabs t H) (eR:H R = some (.lst xs)) (k:Keep R H H'):Tabs t H':=by
 obtain ⟨ps,e,tr,kk⟩:=x
 refine ⟨ps,k _ _ (ne_of e eR (fun z => nomatch z)) e,tr,?_⟩
 rcases kk with z | ⟨c,z,hc⟩
 ·exact .inl z
 ·exact .inr ⟨c,z,k _ _ (ne_of hc eR (fun z => nomatch z)) hc⟩
theorem RI.put {H0 H':Hp} {rs:List Addr} {rws:List Row} (r:RI H0 H' rs rws) (nd:rs.Nodup) {j:Nat} {a p:Addr} {q:Row} {s:Spn} (h1:rs[j]? = some a) (h2:rws[j]? = some q) (hs:H0 p = some (.tup [.str s.1,.int s.2.1,.int s.2.2])) :
  RI H0 (upd H' a (.lst ((q.1 ++ [p]).map V.ref))) rs (rws.set j (q.1 ++ [p],q.2 ++ [s])):=by
 have hj:j < rws.length:=(List.getElem?_eq_some_iff.mp h2).1
 refine ⟨by rw [List.length_set]; exact r.1,fun i b x g1 g2 => ?_⟩
 by_cases e:i = j
 ·subst e
  rw [h1] at g1
  cases g1
  rw [List.getElem?_set_self hj] at g2
  cases g2
  refine ⟨upd_same,?_,by simp⟩
  have C:=(r.2 i a q h1 h2).2.1
  refine ⟨by have:=C.len; simp [this],fun k b x k1 k2 => ?_⟩
  dsimp only at k1 k2
  by_cases hk:k < q.1.length
  ·rw [List.getElem?_append_left hk] at k1
   rw [List.map_append,List.getElem?_append_left (by rw [List.length_map,← C.len]; exact hk)] at k2
   exact C.2 k b x k1 k2
  ·rw [List.getElem?_append_right (by omega)] at k1
   rw [List.map_append,List.getElem?_append_right (by rw [List.length_map,← C.len]; omega),List.length_map,← C.len] at k2
   cases ek:k - q.1.length with
   | zero => rw [ek] at k1 k2; cases k1; cases k2; exact hs
   | succ n => rw [ek] at k1; cases k1
 ·rw [List.getElem?_set_ne (Ne.symm e)] at g2
  have hne:b≠a:=fun z => e ((List.getElem?_inj (List.getElem?_eq_some_iff.mp g1).1 nd).mp (g1.trans (by rw [h1,z])))
  rw [upd_ne hne]
  exact r.2 i b x g1 g2
theorem RI.new {H0 H' H'':Hp} {rs:List Addr} {rws:List Row} (r:RI H0 H' rs rws) {n p:Addr} {s:Spn} (k:∀ a∈rs,∀ o,H' a = some o→H'' a = some o) (hn:H'' n = some (.lst [.ref p])) (hs:H0 p = some (.tup [.str s.1,.int s.2.1,.int s.2.2])):RI H0 H'' (rs ++ [n]) (rws ++ [([p],[s])]):=by
 refine ⟨by simp [r.1],fun i b x g1 g2 => ?_⟩
 by_cases hi:i < rs.length
 ·rw [List.getElem?_append_left hi] at g1
  rw [List.getElem?_append_left (by rw [← r.1]; exact hi)] at g2
  obtain ⟨z1,z2⟩:=r.2 i b x g1 g2
  exact ⟨k b (List.mem_of_getElem? g1) _ z1,z2⟩
 ·rw [List.getElem?_append_right (by omega)] at g1
  rw [List.getElem?_append_right (by rw [← r.1]; omega),← r.1] at g2
  cases ek:i - rs.length with
  | zero =>
   rw [ek] at g1 g2; cases g1; cases g2
   refine ⟨hn,⟨rfl,fun k b x k1 k2 => ?_⟩,by simp⟩
   cases k with
   | zero => cases k1; cases k2; exact hs
   | succ k => cases k1
  | succ m => rw [ek] at g1; cases g1
section
variable {P:Program} {w:World} {K:PySem.W.Frag} {mg:Str→Option Value} {base:Heap} {t:Adr}
def spLanes (t:Adr):Sp:=fun vs H Q E => ∃ (a:Addr) (ps:List Addr) (sp:List Spn),vs = [.ref a]∧H a = some (.lst (ps.map V.ref))∧Sps H ps sp∧sp.length≤60∧Tabs t H∧(Good sp→∀ (qa R N:Addr) (rs:List Addr) (rws:List Row) (D:List Spn) (col:Option Int) (nets:List Str) (H':Hp),Sm H H'→Tabs t H'→H R = none→H N = none→R≠N→H' qa = some (.tup [.str "lanes",.ref R,colV col,.ref N])→H' R = some (.lst (rs.map V.ref))→Rws H' rs rws→GI (rws.map (·.2)) D col→D.Perm sp→H' N = some (.lst (nets.map V.str))→nets.Perm ((sp.filter (has (col.getD 0))).map (·.1))→PyProof.Rows.sortedS nets = true→Q (.ref qa) H')∧(¬ Good sp→∀ H',Same H H'→E (.ref t.c_NoSpan) none H')
theorem ok_lanes (T:Txt K mg t) (hB:BMod mg base):GoodF P w K mg base 6 "lanes" ["spans"] (spLanes t):=by
 obtain ⟨fd,F,b⟩:=T.F_lanes
 have G_need_spans:=ok_need_spans (P:=P) (w:=w) (base:=base) T
 have G_free_row:=ok_free_row (P:=P) (w:=w) (base:=base) T
 refine ⟨_,fd,F.okX sc_lanes (fun vs H Q E h => ?_) (fun A outer s H vs Q E hr h => ?_),b,F.kp,T.g_lanes⟩
 ·obtain ⟨a,ps,sp,rfl,_⟩:=h
  rfl
 ·obtain ⟨a,ps,sp,rfl,ha,C,hl,tb,kQ,kE⟩:=h
  refine ⟨_,(pss_cons (ps_expr (pe_callG G_need_spans (hr.mono (by decide)) passes_of (by rfl) (pa_cons (pv 0) pa_nil)))
   (pss_cons (ps_set (i:=1) sc_lanes.nd rfl (Or.inl rfl) (pe_lst pa_nil))
   (pss_cons (ps_set (i:=2) sc_lanes.nd rfl (Or.inr rfl) pe_non)
   (pss_cons (ps_for owns_of (pi_list (pe_callKey (call_sortedKey (n:=2) (hr.mono (by decide))) (by rfl) T.n_sorted b_sorted (pa_cons (pv 0) pa_nil) (pe_lam (cl:=[]) (c0:=t.cd_lanes) (P:=t.pl_lanes) rfl (by rfl) rfl T.hd_lanes hB))) (pg_name (i:=3) sc_lanes.nd rfl (Or.inl rfl)) (pss_cons (ps_set (i:=4) sc_lanes.nd rfl (Or.inl rfl) (pe_callG G_free_row (hr.mono (by decide)) passes_of (by rfl) (pa_cons (pv 1) (pa_cons (pe_ix ix_tup (pv 3) pe_int (fun _ _ => rfl)) pa_nil))))
   (pss_one (ps_if (pt_cmp (pc_isN (pv 4))) (pss_cons (ps_set (i:=2) sc_lanes.nd rfl (Or.inr rfl) (pe_ix ix_tup (pv 3) pe_int (fun _ _ => rfl)))
   (pss_one (ps_expr (pe_bm PySem.F.plainAttrs_list PySem.F.slot_list_append PySem.F.type_list_append mt_append (pv 1) (pa_cons (pe_lst (pa_cons (pv 3) pa_nil)) pa_nil))))) (pss_one (ps_expr (pe_bm PySem.F.plainAttrs_list PySem.F.slot_list_append PySem.F.type_list_append mt_append (pv 4) (pa_cons (pv 3) pa_nil))))))))
   (pss_one (ps_ret (pe_tup (pa_cons pe_str (pa_cons (pv 1) (pa_cons (pv 2) (pa_cons (pe_callB call_sortedX (by rfl) T.n_sorted b_sorted (pa_cons (pe_comp (own:=["net","left","right"]) (cs_one (n:="column") (N:=["spans","rows","column","span","row"]) rfl (by rfl) (by rfl) rfl (by rfl) (by decide +kernel) (by decide +kernel) (by decide +kernel)) (pi_list (pv 0)) (fun _ _ _ _ _ => pg_tupK (K:=K) (n:=3) rfl rfl (pgs_cons (pg_name (i:=5) (by show (["spans","rows","column","span","row","net","left","right"]:List Str).Nodup; decide +kernel) rfl (Or.inl rfl)) (pgs_cons (pg_name (i:=6) (by show (["spans","rows","column","span","row","net","left","right"]:List Str).Nodup; decide +kernel) rfl (Or.inl rfl)) (pgs_cons (pg_name (i:=7) (by show (["spans","rows","column","span","row","net","left","right"]:List Str).Nodup; decide +kernel) rfl (Or.inl rfl)) pgs_nil)))) (fun _ _ _ _ _ => pf_one (pt_chain op_le op_le (pv 6) (pv 2) (pv 7))) (fun _ _ _ _ _ => (pv 5))) pa_nil)) pa_nil))))))))))),?_⟩
  refine sg0 [oR a,none,none,none,none] (fun H' => Good sp∧Same H H') (fun B hB => ?_) ?_
  ·exact ⟨_,rfl,a,ps,sp,rfl,ha,C,hl,fun g H1 s1 => hB _ ⟨g,s1⟩,fun g H1 s1 => kE g H1 s1⟩
  intro H1 i
  have g:=i.1; have s1:=i.2
  refine sg1 (fun (R:Addr) => [oR a,oR R,none,none,none]) (fun R H' => Same H1 H'∧H1 R = none∧H' R = some (.lst [])) (fun B hB => ⟨sL0,fun R hR => hB R _ ⟨same_new (Same.refl H1) hR,hR,upd_same⟩⟩) ?_
  intro R H2 i
  have s2:=i.1; have hR:=i.2.1; have eR:=i.2.2
  have s12:=Same.trans s1 s2
  have hR0:H R = none:=by
   cases z:H R with
   | none => rfl
   | some u => rw [s1 _ _ z] at hR; cases hR
  have tb2:Tabs t H2:=tb.same s12
  refine sg0 [oR a,oR R,some .non,none,none] (fun H' => H2 = H') (fun B hB => hB _ rfl) ?_
  intro H2' e
  subst e
  refine sg4 (fun (c3 c4:Option V) (rs:List Addr) (col:Option Int) => [oR a,oR R,some (colV col),c3,c4]) (fun _ _ rs col H' => ∃ (rws:List Row) (D:List Spn),Sm H H'∧Tabs t H'∧H' R = some (.lst (rs.map V.ref))∧Rws H' rs rws∧GI (rws.map (·.2)) D col∧D.Perm sp) (fun B hB => ?_) ?_
  ·refine ⟨_,rfl,tb2,fun cc f H3 off tb3 hf ef ecc => ?_⟩
   obtain ⟨pt,hP,_⟩:=id tb2
   obtain ⟨pt1,hP1,_⟩:=id tb3
   have sm3:Sm H2 H3:=off.sm hP hP1
   have ha3:H3 a = some (.lst (ps.map V.ref)):=sm3.1 _ _ (by intro ps z; cases z) (s12 _ _ ha)
   have eR3:H3 R = some (.lst []):=sm3.1 _ _ (by intro ps z; cases z) eR
   have C3:Sps H3 ps sp:=C.mono fun p xs e => sm3.1 _ _ (by intro ps z; cases z) (s12 _ _ e)
   refine ⟨a,f,ps,fun b => (spanAt H3 b).2.1,_,rfl,rfl,ha3,by rw [C.len]; omega,calls_K T f cc,fun b hb Q' q' => ?_,fun l bs hl' pm pw => ?_⟩
   ·obtain ⟨s,hs,e⟩:=C3.mem hb
    have q':Q' (.int (spanAt H3 b).2.1) H3:=q'
    rw [spanAt_of e] at q'
    exact ⟨b,s,rfl,ef,ecc,e,q'⟩
   have s4:=same_new (o:=.lst (bs.map V.ref)) (Same.refl H3) hl'
   have el:upd H3 l (.lst (bs.map V.ref)) l = some (.lst (bs.map V.ref)):=upd_same
   have lR:l≠R:=Ne.symm (ne_of_none eR3 hl')
   have C4:Sps (upd H3 l (.lst (bs.map V.ref))) bs (bs.map (spanAt H3)):=(Sps.of_mem fun p hp => (let ⟨s,_,e⟩:=C3.mem (pm.mem_iff.mp hp); ⟨s,e⟩)).mono fun p xs e => s4 _ _ e
   generalize upd H3 l (.lst (bs.map V.ref)) = H4 at s4 el C4
   have eR4:=s4 _ _ eR3
   have pms:(bs.map (spanAt H3)).Perm sp:=by rw [← C3.eq]; exact pm.map _
   have srt:(bs.map (spanAt H3)).Pairwise fun s s' => s.2.1≤s'.2.1:=List.pairwise_map.mpr pw
   have lss:(bs.map (spanAt H3)).length = bs.length:=List.length_map ..
   generalize bs.map (spanAt H3) = ss at C4 pms srt lss
   refine ⟨l,rfl,⟨_,SqL.of el⟩,for_list (xs:=bs.map V.ref) (fun i σ H' => ∃ (c3 c4:Option V) (rs:List Addr) (rws:List Row) (col:Option Int),σ = [oR a,oR R,some (colV col),c3,c4]∧Keep R H4 H'∧H' R = some (.lst (rs.map V.ref))∧RI H4 H' rs rws∧rs.Nodup∧(∀ r∈rs,H4 r = none)∧GI (rws.map (·.2)) (ss.take i) col) ⟨_,_,[],[],none,rfl,Keep.refl _ _,eR4,⟨rfl,(fun i r q h => nomatch h)⟩,List.nodup_nil,(fun r h => nomatch h),GI.start⟩ (fun i σ H' _ h => by obtain ⟨_,_,_,_,_,_,k,_⟩:=h; exact SqL.of (k _ _ lR el)) ?_ ?_⟩
   ·rintro i v σ H5 hx ⟨c3,c4,rs,rws,col,rfl,kp,eR5,W,nd,fr,gi⟩
    rw [List.getElem?_map] at hx
    obtain ⟨p,e1,rfl⟩:=Option.map_eq_some_iff.mp hx
    have hi:i < ss.length:=by rw [lss]; exact (List.getElem?_eq_some_iff.mp e1).1
    have e2:=List.getElem?_eq_getElem hi
    have e3:=C4.at_ e1 e2
    have tk1:ss.take (i + 1) = ss.take i ++ [ss[i]]:=by rw [List.take_succ,e2]; rfl
    have hs:ss[i].2.1≤ss[i].2.2:=g.1 _ (pms.mem_iff.mp (List.getElem_mem hi))
    have hd:∀ s'∈ss.take i,s'.2.1≤ss[i].2.1:=fun s' h' => by
     obtain ⟨j,hj,rfl⟩:=List.getElem_of_mem h'
     have hj2:j < i:=by rw [List.length_take] at hj; omega
     rw [List.getElem_take]
     exact List.pairwise_iff_getElem.mp srt j i (by omega) hi hj2
    rw [tk1]
    generalize ss[i] = s at e3 hs hd
    have kt:∀ p xs,H4 p = some (.tup xs)→H5 p = some (.tup xs):=fun p xs e => kp _ _ (ne_of e eR4 (fun z => nomatch z)) e
    have W5:=W.rws kt
    have rR:∀ r∈rs,r≠R:=fun r hr z => by have:=fr r hr; rw [z,eR4] at this; cases this
    have lt60:(ss.take i).length≤60:=by
     rw [List.length_take]
     have:=pms.length_eq
     omega
    have few:∀ {x:List Spn},x∈rws.map (·.2)→x.length≤60:=fun {x} hx => Nat.le_trans (len_flat hx) (by rw [gi.pm.length_eq]; exact lt60)
    have rowsFew:GI (rws.map (·.2)) (ss.take i) col→rws.length≤60:=fun gi => by
     have:=len_rows gi.ne
     rw [List.length_map,gi.pm.length_eq] at this
     omega
    refine sg1 (fun (x:V) => [oR a,oR R,some (colV col),oR p,some x]) (fun x H' => H5 = H'∧((∃ (j:Nat) (r:Addr) (q:Row),x = .ref r∧rs[j]? = some r∧rws[j]? = some q∧lastR q < s.2.1)∨(x = .non∧∀ q∈rws,¬ lastR q < s.2.1))) (fun B hB => ⟨_,rfl,ixV (.int s.2.1) (SqT.of (kt _ _ e3)) ⟨R,s.2.1,rs,rws,rfl,eR5,W5,fun j r q h1 h2 h3 _ => hB _ _ ⟨rfl,.inl ⟨j,r,q,rfl,h1,h2,h3⟩⟩,fun h => hB _ _ ⟨rfl,.inr ⟨rfl,h⟩⟩⟩⟩) ?_
    rintro x H6 ⟨rfl,⟨j,r,q,rfl,h1,h2,h3⟩ | ⟨rfl,h⟩⟩
    ·have er:=(W.2 j r q h1 h2).1
     have mr:=List.mem_of_getElem? h1
     refine ⟨_,rfl,_,rfl,iteF ⟨_,rfl,.inl ⟨rfl,_,SqL.of er⟩,_,rfl,r,_,.ref p,rfl,rfl,er,?_,_,_,rs,rws.set j (q.1 ++ [p],q.2 ++ [s]),col,rfl,fun b o n e => ?_,?_,?_,nd,fr,?_⟩⟩
     ·rw [List.length_map,(W.2 j r q h1 h2).2.1.len]
      exact Nat.lt_of_le_of_lt (few (List.mem_map_of_mem (List.mem_of_getElem? h2))) (by decide)
     ·have nr:b≠r:=fun z => by rw [z,fr r mr] at e; cases e
      rw [upd_ne nr]
      exact kp b o n e
     ·rw [upd_ne (rR r mr).symm]
      exact eR5
     ·have:=W.put nd h1 h2 e3
      rwa [List.map_append] at this
     ·have hj:=(List.getElem?_eq_some_iff.mp h2).1
      have e5:rws = rws.take j ++ q :: rws.drop (j + 1):=by
       have:=List.set_eq_take_append_cons_drop (l:=rws) (i:=j) (a:=q)
       rw [if_pos hj] at this
       rw [← this]
       have z:=(List.getElem?_eq_some_iff.mp h2).2
       rw [← z,List.set_getElem_self]
      have e6:rws.set j (q.1 ++ [p],q.2 ++ [s]) = rws.take j ++ (q.1 ++ [p],q.2 ++ [s]) :: rws.drop (j + 1):=by rw [List.set_eq_take_append_cons_drop,if_pos hj]
      rw [e6,List.map_append,List.map_cons]
      rw [e5,List.map_append,List.map_cons] at gi
      exact gi.adds hs h3
    ·refine ⟨_,rfl,_,rfl,iteT ?_⟩
     refine ⟨_,rfl,p,_,1,.int s.2.1,rfl,rfl,SqT.of (kt _ _ e3),rfl,_,rfl,.inl ⟨rfl,_,SqL.of eR5⟩,_,rfl,sL1,fun n hn => ?_⟩
     have nR:n≠R:=Ne.symm (ne_of_none eR5 hn)
     have n4:H4 n = none:=by
      cases z:H4 n with
      | none => rfl
      | some o => rw [kp n o nR z] at hn; cases hn
     have s6:=same_new (o:=.lst [.ref p]) (Same.refl H5) hn
     have en:upd H5 n (.lst [.ref p]) n = some (.lst [.ref p]):=upd_same
     generalize upd H5 n (.lst [.ref p]) = H6 at s6 en
     refine ⟨R,_,.ref n,rfl,rfl,s6 _ _ eR5,?_,_,_,rs ++ [n],rws ++ [([p],[s])],some s.2.1,rfl,fun b o nb e => ?_,?_,?_,?_,?_,?_⟩
     ·rw [List.length_map,W.1]
      exact Nat.lt_of_le_of_lt (rowsFew gi) (by decide)
     ·rw [upd_ne nb]
      exact s6 _ _ (kp b o nb e)
     ·rw [upd_same,List.map_append]; rfl
     ·refine W.new (fun x hx o ex => ?_) (by rw [upd_ne nR]; exact en) e3
      rw [upd_ne (rR x hx)]
      exact s6 _ _ ex
     ·rw [List.nodup_append]
      refine ⟨nd,List.nodup_cons.mpr ⟨by simp,List.nodup_nil⟩,fun x hx y hy e => ?_⟩
      rw [List.mem_singleton.mp hy] at e
      obtain ⟨k,hk,ek⟩:=List.getElem_of_mem hx
      have hk2:k < rws.length:=by rw [← W.1]; exact hk
      have:=(W.2 k x _ (by rw [List.getElem?_eq_getElem hk,ek]) (List.getElem?_eq_getElem hk2)).1
      rw [e,hn] at this
      cases this
     ·intro x hx
      rcases List.mem_append.mp hx with z | z
      ·exact fr x z
      ·rw [List.mem_singleton.mp z]; exact n4
     ·rw [List.map_append]
      exact gi.opens hs hd fun x hx => by
       obtain ⟨q,hq,rfl⟩:=List.mem_map.mp hx
       exact h q hq
   ·rintro σ H5 ⟨c3,c4,rs,rws,col,rfl,kp,eR5,W,nd,fr,gi⟩
    have e9:ss.take (bs.map V.ref).length = ss:=by rw [List.length_map,← lss,List.take_length]
    rw [e9] at gi
    have tb3':Tabs t H3:=tb3
    exact hB c3 c4 rs col _ ⟨rws,ss,(((Sm.of s12).trans sm3).trans (Sm.of s4)).keep hR0 kp,Tabs.keep (tb3'.same s4) eR4 kp,eR5,W.rws fun p xs e => kp _ _ (ne_of e eR4 (fun z => nomatch z)) e,gi,pms⟩
  intro c3 c4 rs col H5 i
  obtain ⟨rws,D,sm5,tb5,eR5,W5,gi,pmD⟩:=i
  have ha5:H5 a = some (.lst (ps.map V.ref)):=sm5.1 _ _ (by intro ps z; cases z) ha
  have C5:Sps H5 ps sp:=C.mono fun p xs e => sm5.1 _ _ (by intro ps z; cases z) e
  have some_:∀ b∈ps,∃ k,col = some k:=fun b hb => by
   cases col with
   | some k => exact ⟨k,rfl⟩
   | none =>
    have h1:=gi.nn.mp rfl
    have h2:=gi.pm
    rw [h1] at h2
    have h3:=(List.nil_perm.mp h2)
    rw [h3] at pmD
    have h4:=List.nil_perm.mp pmD
    have h5:=C.len
    rw [h4] at h5
    rw [List.length_eq_zero_iff.mp h5] at hb
    cases hb
  refine ⟨_,rfl,_,rfl,_,rfl,a,rfl,⟨_,SqL.of ha5⟩,comp_pure (xs:=ps.map V.ref) (fun v => match v with | .ref b => has (col.getD 0) (spanAt H5 b) | _ => false) (hd0 H5) (SqL.of ha5) (by rw [List.length_map,C.len]; exact Nat.le_trans hl (by decide)) (fun x hx H' Qy Qn s' hy hn => ?_) fun N hN => ?_⟩
  ·obtain ⟨b,hb,rfl⟩:=List.mem_map.mp hx
   obtain ⟨k,rfl⟩:=some_ b hb
   obtain ⟨s,hs,e⟩:=C5.mem hb
   dsimp only at hy hn
   rw [spanAt_of e,hd0_of3 e] at hy
   rw [spanAt_of e] at hn
   refine ⟨b,_,rfl,SqT.of (s' _ _ e),rfl,_,_,rfl,_,_,rfl,_,_,rfl,rfl,⟨_,rfl,rfl⟩,?_⟩
   refine ⟨_,rfl,_,rfl,s.2.1,k,rfl,rfl,_,rfl,iteD (fun g1 => ⟨_,rfl,k,s.2.2,rfl,rfl,_,rfl,iteD (fun g2 => ⟨_,rfl,hy (decide_eq_true ⟨g1,g2⟩)⟩) fun g2 => hn (decide_eq_false fun z => g2 z.2)⟩) fun g1 => ⟨false,rfl,iteF (hn (decide_eq_false fun z => g1 z.1))⟩⟩
  have eN:((ps.map V.ref).filter (fun v => match v with | .ref b => has (col.getD 0) (spanAt H5 b) | _ => false)).map (hd0 H5) = ((sp.filter (has (col.getD 0))).map (·.1)).map V.str:=by
   rw [← C5.eq,List.filter_map,List.filter_map,List.map_map,List.map_map,List.map_map]
   refine List.map_congr_left fun b hb => ?_
   obtain ⟨s,_,e⟩:=C5.mem (List.mem_filter.mp hb).1
   show hd0 H5 (.ref b) = V.str (spanAt H5 b).1
   rw [hd0_of3 e,spanAt_of e]
  have s6:=same_new (o:=.lst (((ps.map V.ref).filter (fun v => match v with | .ref b => has (col.getD 0) (spanAt H5 b) | _ => false)).map (hd0 H5))) (Same.refl H5) hN
  have e6:upd H5 N (.lst (((ps.map V.ref).filter (fun v => match v with | .ref b => has (col.getD 0) (spanAt H5 b) | _ => false)).map (hd0 H5))) N = some (.lst (((sp.filter (has (col.getD 0))).map (·.1)).map V.str)):=by rw [upd_same,eN]
  generalize upd H5 N (.lst (((ps.map V.ref).filter (fun v => match v with | .ref b => has (col.getD 0) (spanAt H5 b) | _ => false)).map (hd0 H5))) = H6 at s6 e6
  refine ⟨N,_,rfl,e6,?_,fun L nets hL pmN so => ?_⟩
  ·rw [List.length_map]
   have:=List.length_filter_le (has (col.getD 0)) sp
   omega
  have s7:=same_new (o:=.lst (nets.map V.str)) (Same.refl H6) hL
  have e7:upd H6 L (.lst (nets.map V.str)) L = some (.lst (nets.map V.str)):=upd_same
  generalize upd H6 L (.lst (nets.map V.str)) = H7 at s7 e7
  refine ⟨sL4,fun qa hqa => ?_⟩
  have s8:=same_new (o:=.tup [.str "lanes",.ref R,colV col,.ref L]) (Same.refl H7) hqa
  have s58:=Same.trans s6 (Same.trans s7 s8)
  have hL0:H L = none:=by
   cases z:H L with
   | none => rfl
   | some u =>
    have h5:H5 L = none:=by
     cases z5:H5 L with
     | none => rfl
     | some v => rw [s6 _ _ z5] at hL; cases hL
    exact (sm5.none h5)▸z▸rfl
  exact kQ g qa R L rs rws D col nets _ (sm5.trans (Sm.of s58)) (Tbl.same tb5 s58) hR0 hL0 (ne_of_none (s6 _ _ eR5) hL) upd_same (s58 _ _ eR5) ⟨W5.1,fun i r q h1 h2 => ⟨s58 _ _ (W5.2 i r q h1 h2).1,(W5.2 i r q h1 h2).2.1.mono fun p xs e => s58 _ _ e,(W5.2 i r q h1 h2).2.2⟩⟩ gi pmD (s8 _ _ e7) pmN so
end
end K71
namespace K71
open PySem L2 Wd TS STb
structure S3 (H H':Hp) (D w2 w3:Addr) (xs:List V):Prop where
 same:Same H H'
 d:H' D = some (.lst xs)
 a:Well H' w2
 b:Well H' w3
 n1:D≠w2
 n2:D≠w3
 n3:w2≠w3
 f1:H D = none
 f2:H w2 = none
 f3:H w3 = none
theorem Well.keep {H H':Hp} {a b:Addr} (W:Well H b) (k:Keep a H H') (n:b≠a):Well H' b:=by
 obtain ⟨m,c,j,e⟩:=W
 exact ⟨m,c,j,k _ _ n e⟩
theorem S3.to2 {H H1 H2:Hp} {D w2 w3:Addr} {xs:List V} (x:S3 H H1 D w2 w3 xs) (W:Well H2 w2) (k:Keep w2 H1 H2):S3 H H2 D w2 w3 xs :=
 ⟨fun b u e => k b u (ne_of_none e x.f2) (x.same b u e),k _ _ x.n1 x.d,W,x.b.keep k x.n3.symm,x.n1,x.n2,x.n3,x.f1,x.f2,x.f3⟩
theorem S3.to3 {H H1 H2:Hp} {D w2 w3:Addr} {xs:List V} (x:S3 H H1 D w2 w3 xs) (W:Well H2 w3) (k:Keep w3 H1 H2):S3 H H2 D w2 w3 xs :=
 ⟨fun b u e => k b u (ne_of_none e x.f3) (x.same b u e),k _ _ x.n2 x.d,x.a.keep k x.n3,W,x.n1,x.n2,x.n3,x.f1,x.f2,x.f3⟩
theorem S3.new {H H1:Hp} {D w2 w3 p:Addr} {xs:List V} {o:HO} (x:S3 H H1 D w2 w3 xs) (hp:H1 p = none):S3 H (L2.upd H1 p o) D w2 w3 xs:=by
 have s:=same_new (o:=o) (Same.refl H1) hp
 obtain ⟨m,c,j,e⟩:=id x.a
 obtain ⟨m',c',j',e'⟩:=id x.b
 exact ⟨Same.trans x.same s,s _ _ x.d,⟨m,c,j,s _ _ e⟩,⟨m',c',j',s _ _ e'⟩,x.n1,x.n2,x.n3,x.f1,x.f2,x.f3⟩
theorem Sps.kp {H H':Hp} {ps:List Addr} {sp:List Spn} {a:Addr} (C:Sps H ps sp) (W:Well H a) (k:Keep a H H'):Sps H' ps sp:=by
 obtain ⟨m,c,j,e⟩:=W
 exact C.mono fun p xs ep => k _ _ (ne_of ep e (fun z => nomatch z)) ep
theorem none_of {H H':Hp} (s:Same H H') {b:Addr} (n:H' b = none):H b = none:=by
 cases e:H b with
 | none => rfl
 | some u => rw [s b u e] at n; cases n
theorem S3.put {H H1:Hp} {D w2 w3:Addr} {xs ys:List V} (x:S3 H H1 D w2 w3 xs):S3 H (upd H1 D (.lst ys)) D w2 w3 ys:=by
 obtain ⟨m,c,j,e⟩:=id x.a
 obtain ⟨m',c',j',e'⟩:=id x.b
 exact ⟨fun b u eb => by rw [upd_ne (ne_of_none eb x.f1)]; exact x.same b u eb,upd_same,⟨m,c,j,by rw [upd_ne x.n1.symm]; exact e⟩,⟨m',c',j',by rw [upd_ne x.n2.symm]; exact e'⟩,x.n1,x.n2,x.n3,x.f1,x.f2,x.f3⟩
theorem Sps.snoc {H:Hp} {ps:List Addr} {sp:List Spn} (C:Sps H ps sp) {p:Addr} {s:Spn} (h:H p = some (.tup [.str s.1,.int s.2.1,.int s.2.2])):Sps H (ps ++ [p]) (sp ++ [s]):=by
 refine ⟨by have:=C.len; simp [this],fun k b x k1 k2 => ?_⟩
 by_cases hk:k < ps.length
 ·rw [List.getElem?_append_left hk] at k1
  rw [List.map_append,List.getElem?_append_left (by rw [List.length_map,← C.len]; exact hk)] at k2
  exact C.2 k b x k1 k2
 ·rw [List.getElem?_append_right (by omega)] at k1
  rw [List.map_append,List.getElem?_append_right (by rw [List.length_map,← C.len]; omega),List.length_map,← C.len] at k2
  cases ek:k - ps.length with
  | zero => rw [ek] at k1 k2; cases k1; cases k2; exact h
  | succ n => rw [ek] at k1; cases k1
def Tl (sp:List Spn) (i:Nat):Prop:=sp.length = i∧(∀ s∈sp,s.2.1≤s.2.2)∧∀ (j:Nat) (s:Spn),sp[j]? = some s→∃ c:Str,c.cps.size = 1∧s.1 = c ++ tx (j:Int)
theorem Tl.nil:Tl [] 0:=⟨rfl,(fun s h => nomatch h),(fun j s h => nomatch h)⟩
theorem Tl.snoc {sp:List Spn} {i:Nat} (T:Tl sp i) {s:Spn} (h1:s.2.1≤s.2.2) {c:Str} (h2:c.cps.size = 1) (h3:s.1 = c ++ tx (i:Int)):Tl (sp ++ [s]) (i + 1):=by
 refine ⟨by rw [List.length_append,T.1]; rfl,fun x hx => ?_,fun j x hx => ?_⟩
 ·rcases List.mem_append.mp hx with z | z
  ·exact T.2.1 x z
  ·rw [List.mem_singleton.mp z]; exact h1
 ·by_cases hj:j < sp.length
  ·rw [List.getElem?_append_left hj] at hx
   exact T.2.2 j x hx
  ·rw [List.getElem?_append_right (by omega)] at hx
   cases ek:j - sp.length with
   | zero =>
    rw [ek] at hx
    cases hx
    obtain rfl:j = i:=by have:=T.1; omega
    exact ⟨c,h2,h3⟩
   | succ n => rw [ek] at hx; cases hx
theorem app_inj {c c' d d':Str} (h1:c.cps.size = 1) (h2:c'.cps.size = 1) (e:c ++ d = c' ++ d'):d.cps.toList = d'.cps.toList:=by
 have e2:c.cps.toList ++ d.cps.toList = c'.cps.toList ++ d'.cps.toList:=by
  have:=congrArg (fun x:Str => x.cps.toList) e
  exact (Array.toList_append.symm.trans this).trans Array.toList_append
 exact (List.append_inj e2 (by rw [Array.length_toList,Array.length_toList,h1,h2])).2
theorem Tl.good {sp:List Spn} {i:Nat} (T:Tl sp i) (hi:i≤1000):Good sp:=by
 refine ⟨T.2.1,?_⟩
 rw [List.nodup_iff_pairwise_ne,List.pairwise_map,List.pairwise_iff_getElem]
 intro j j' h1 h2 hjj e
 obtain ⟨c,c1,e1⟩:=T.2.2 j _ (List.getElem?_eq_getElem h1)
 obtain ⟨c',c1',e2⟩:=T.2.2 j' _ (List.getElem?_eq_getElem h2)
 rw [e1,e2] at e
 have e3:=app_inj c1 c1' e
 have l:=T.1
 have big:∀ n:Nat,n < sp.length→n < 10 ^ 40:=fun n hn => Nat.lt_of_lt_of_le hn (Nat.le_trans (by omega) (show 1000≤10 ^ 40 by decide))
 have n1:=(sg_num (big j h1)).2
 have n2:=(sg_num (big j' h2)).2
 rw [e3] at n1
 have:=n1.symm.trans n2
 omega
section
variable {P:Program} {w:World} {K:PySem.W.Frag} {mg:Str→Option Value} {base:Heap} {t:Adr}
def spSpans (K:PySem.W.Frag):Sp:=fun vs H Q _ => ∃ (a:Addr) (ns:List Int),vs = [.ref a]∧SqL K H a (ns.map V.int)∧ns.length≤63∧∀ (D:Addr) (ps:List Addr) (sp:List Spn) (H':Hp),Same H H'→H D = none→H' D = some (.lst (ps.map V.ref))→Sps H' ps sp→sp.length≤20→Good sp→Q (.ref D) H'
theorem ok_law_spans (T:Txt K mg t):GoodF P w K mg base 4 "_law_spans" ["_law_script"] (spSpans K):=by
 obtain ⟨fd,F,b⟩:=T.F_law_spans
 have G_law_well:=ok_law_well (P:=P) (w:=w) (base:=base) T
 have G_law_draw:=ok_law_draw (P:=P) (w:=w) (base:=base) T
 refine ⟨_,fd,F.okX sc_law_spans (fun vs H Q E h => ?_) (fun cdv A outer s H vs Q E hr h => ?_),b,F.kp,T.g__law_spans⟩
 ·obtain ⟨a,ns,rfl,_⟩:=h
  rfl
 ·obtain ⟨a,ns,rfl,ha,hl,q⟩:=h
  refine ⟨_,(pss_cons (ps_set (i:=1) sc_law_spans.nd rfl (Or.inl rfl) (pe_lst pa_nil))
   (pss_cons (ps_set (i:=2) sc_law_spans.nd rfl (Or.inl rfl) (pe_callG G_law_well (hr.mono (by decide)) passes_of (by rfl) (pa_cons (pv 0) (pa_cons pe_int pa_nil))))
   (pss_cons (ps_set (i:=3) sc_law_spans.nd rfl (Or.inl rfl) (pe_callG G_law_well (hr.mono (by decide)) passes_of (by rfl) (pa_cons (pv 0) (pa_cons pe_int pa_nil))))
   (pss_cons (ps_set (i:=4) sc_law_spans.nd rfl (Or.inl rfl) (pe_op op_add pe_int (pe_callG G_law_draw (hr.mono (by decide)) passes_of (by rfl) (pa_cons (pv 3) (pa_cons pe_int pa_nil)))))
   (pss_cons (ps_set (i:=5) sc_law_spans.nd rfl (Or.inl rfl) (pe_ix ix_list (pe_lst (pa_cons pe_int (pa_cons (pe_un un_neg pe_int) (pa_cons (pe_op op_pow pe_int pe_int) (pa_cons (pe_op op_sub pe_int (pe_op op_pow pe_int pe_int)) pa_nil))))) (pe_callG G_law_draw (hr.mono (by decide)) passes_of (by rfl) (pa_cons (pv 3) (pa_cons pe_int pa_nil))) (fun _ _ => rfl)))
   (pss_cons (ps_for owns_of (pi_range1 rfl T.n_range (pa_cons (pe_callG G_law_draw (hr.mono (by decide)) passes_of (by rfl) (pa_cons (pv 2) (pa_cons pe_int pa_nil))) pa_nil)) (pg_name (i:=6) sc_law_spans.nd rfl (Or.inl rfl)) (pss_cons (ps_set (i:=7) sc_law_spans.nd rfl (Or.inl rfl) (pe_op op_add (pe_op op_add (pv 5) (pe_callG G_law_draw (hr.mono (by decide)) passes_of (by rfl) (pa_cons (pv 2) (pa_cons pe_int pa_nil)))) (pe_callG G_law_draw (hr.mono (by decide)) passes_of (by rfl) (pa_cons (pv 3) (pa_cons pe_int pa_nil)))))
   (pss_one (ps_expr (pe_bm PySem.F.plainAttrs_list PySem.F.slot_list_append PySem.F.type_list_append mt_append (pv 1) (pa_cons (pe_tup (pa_cons (pe_op op_add_str (pe_ix ix_list (pe_lst (pa_cons pe_str (pa_cons pe_str (pa_cons pe_str pa_nil)))) (pe_callG G_law_draw (hr.mono (by decide)) passes_of (by rfl) (pa_cons (pv 3) (pa_cons pe_int pa_nil))) (fun _ _ => rfl)) (pe_callTy call_str_int (by rfl) T.n_str b_str (pa_cons (pv 6) pa_nil))) (pa_cons (pv 7) (pa_cons (pe_op op_add (pv 7) (pe_callG G_law_draw (hr.mono (by decide)) passes_of (by rfl) (pa_cons (pv 2) (pa_cons (pv 4) pa_nil)))) pa_nil)))) pa_nil))))))
   (pss_one (ps_ret (pv 1))))))))),?_⟩
  refine sg1 (fun (D:Addr) => [oR a,oR D,none,none,none,none,none,none]) (fun D H' => Same H H'∧H D = none∧H' D = some (.lst [])) (fun B hB => ⟨sL0,fun D hD => hB D _ ⟨same_new (Same.refl H) hD,hD,upd_same⟩⟩) ?_
  intro D H1 i
  have s1:=i.1; have hD:=i.2.1; have eD:=i.2.2
  refine sg1 (fun (w2:Addr) => [oR a,oR D,oR w2,none,none,none,none,none]) (fun w2 H' => Same H H'∧H w2 = none∧D≠w2∧H' D = some (.lst [])∧Well H' w2) (fun B hB => ⟨_,rfl,a,ns,1,rfl,s1.seq ha,by decide,by decide,hl,fun p m c hp => hB p _ ⟨same_new s1 hp,none_of s1 hp,ne_of_none eD hp,same_new (Same.refl H1) hp _ _ eD,m,c,0,upd_same⟩⟩) ?_
  intro w2 H2 i
  have s2:=i.1; have h2:=i.2.1; have n2:=i.2.2.1; have eD2:=i.2.2.2.1; have W2:=i.2.2.2.2
  refine sg1 (fun (w3:Addr) => [oR a,oR D,oR w2,oR w3,none,none,none,none]) (fun w3 H' => S3 H H' D w2 w3 []) (fun B hB => ⟨_,rfl,a,ns,2,rfl,s2.seq ha,by decide,by decide,hl,fun p m c hp => hB p _ ⟨same_new s2 hp,same_new (Same.refl H2) hp _ _ eD2,W2.new hp,⟨m,c,0,upd_same⟩,n2,ne_of_none eD2 hp,W2.ne hp,hD,h2,none_of s2 hp⟩⟩) ?_
  intro w3 H3 x3
  refine sg1 (fun (wd:Int) => [oR a,oR D,oR w2,oR w3,oI wd,none,none,none]) (fun wd H' => (1≤wd∧wd≤12)∧S3 H H' D w2 w3 []) (fun B hB => ⟨_,rfl,w3,12,rfl,x3.b,by decide,by decide,fun r H' r0 r1 W K => ⟨1,r,rfl,rfl,hB _ _ ⟨⟨by omega,by omega⟩,x3.to3 W K⟩⟩⟩) ?_
  intro wd H4 i
  have hw:=i.1; have x4:=i.2
  refine sg1 (fun (bs:Int) => [oR a,oR D,oR w2,oR w3,oI wd,oI bs,none,none]) (fun bs H' => S3 H H' D w2 w3 []) (fun B hB => ?_) ?_
  ·refine ⟨7,rfl,10,38,rfl,rfl,⟨by decide,by decide,by decide⟩,10,38,rfl,rfl,⟨by decide,by decide,by decide⟩,0,_,rfl,rfl,sL4,fun p hp => ⟨_,rfl,w3,4,rfl,(x4.new hp).b,by decide,by decide,fun r H' r0 r1 W K => ?_⟩⟩
   have e4:H' p = some (.lst [.int 0,.int (-7),.int ((10:Int) ^ (38:Int).toNat),.int (0 - (10:Int) ^ (38:Int).toNat)]):=K p _ (Ne.symm (x4.b.ne hp)) upd_same
   have x5:=(x4.new (o:=.lst [.int 0,.int (-7),.int ((10:Int) ^ (38:Int).toNat),.int (0 - (10:Int) ^ (38:Int).toNat)]) hp).to3 W K
   have h4:r = 0∨r = 1∨r = 2∨r = 3:=by omega
   rcases h4 with rfl | rfl | rfl | rfl
   ·exact ⟨p,_,0,_,rfl,rfl,SqL.of e4,rfl,hB _ _ x5⟩
   ·exact ⟨p,_,1,_,rfl,rfl,SqL.of e4,rfl,hB _ _ x5⟩
   ·exact ⟨p,_,2,_,rfl,rfl,SqL.of e4,rfl,hB _ _ x5⟩
   ·exact ⟨p,_,3,_,rfl,rfl,SqL.of e4,rfl,hB _ _ x5⟩
  intro bs H5 x5
  refine sg4 (fun (v6 v7:Option V) (ps:List Addr) (sp:List Spn) => [oR a,oR D,oR w2,oR w3,oI wd,oI bs,v6,v7]) (fun _ _ ps sp H' => S3 H H' D w2 w3 (ps.map V.ref)∧Sps H' ps sp∧sp.length≤20∧Good sp) (fun B hB => ?_) ?_
  ·refine ⟨_,rfl,w2,21,rfl,x5.a,by decide,by decide,fun r H6 r0 r1 W K => ?_⟩
   have x6:=x5.to2 W K
   refine ⟨r,rfl,Int.le_trans (by decide) r0,Int.lt_trans r1 (by decide),for_range (fun i σ H' => ∃ (v6 v7:Option V) (ps:List Addr) (sp:List Spn),σ = [oR a,oR D,oR w2,oR w3,oI wd,oI bs,v6,v7]∧S3 H H' D w2 w3 (ps.map V.ref)∧Sps H' ps sp∧Tl sp i) ⟨_,_,[],[],rfl,x6,⟨rfl,(fun i b k h => nomatch h)⟩,Tl.nil⟩ ?_ ?_⟩
   ·rintro i σ H7 hi ⟨v6,v7,ps,sp,rfl,x7,C7,T7⟩
    have hi21:i < 21:=by omega
    refine sg1 (fun (lf:Int) => [oR a,oR D,oR w2,oR w3,oI wd,oI bs,oI (0 + (i:Int)),oI lf]) (fun lf H' => S3 H H' D w2 w3 (ps.map V.ref)∧Sps H' ps sp) (fun B hB => ?_) ?_
    ·exact ⟨_,rfl,_,rfl,w2,9,rfl,x7.a,by decide,by decide,fun r1 Ha _ _ Wa Ka => ⟨bs,r1,rfl,rfl,_,rfl,w3,12,rfl,(x7.to2 Wa Ka).b,by decide,by decide,fun r2 Hb _ _ Wb Kb => ⟨_,r2,rfl,rfl,hB _ _ ⟨(x7.to2 Wa Ka).to3 Wb Kb,(C7.kp x7.a Ka).kp (x7.to2 Wa Ka).b Kb⟩⟩⟩⟩
    intro lf H8 j
    have x8:=j.1; have C8:=j.2
    refine ⟨_,rfl,.inl ⟨rfl,_,SqL.of x8.d⟩,sL3,fun p hp => ⟨_,rfl,w3,3,rfl,(x8.new hp).b,by decide,by decide,fun r3 H9 r30 r31 W9 K9 => ?_⟩⟩
    have e9:H9 p = some (.lst [.str "b",.str "a",.str "x"]):=K9 p _ (Ne.symm (x8.b.ne hp)) upd_same
    have x9:=(x8.new (o:=.lst [.str "b",.str "a",.str "x"]) hp).to3 W9 K9
    have C9:=(C8.mono (H':=L2.upd H8 p (.lst [.str "b",.str "a",.str "x"])) fun b xs e => same_new (Same.refl H8) hp _ _ e).kp (x8.new hp).b K9
    have pick:∃ c:Str,c.cps.size = 1∧c.length≤10∧atI [V.str "b",V.str "a",V.str "x"] r3 = some (.str c):=by
     have h3:r3 = 0∨r3 = 1∨r3 = 2:=by omega
     rcases h3 with rfl | rfl | rfl
     ·exact ⟨"b",by decide +kernel,by decide +kernel,rfl⟩
     ·exact ⟨"a",by decide +kernel,by decide +kernel,rfl⟩
     ·exact ⟨"x",by decide +kernel,by decide +kernel,rfl⟩
    obtain ⟨c,c1,c2,ec⟩:=pick
    have lg:Lg (0 + (i:Int)):=lg_of (Nat.lt_of_lt_of_le (show _ < 1000 by omega) (by decide))
    have ln:c.length + (tx (0 + (i:Int))).length≤sizeLine:=Nat.le_trans (Nat.add_le_add c2 (PyProof.Rows.int_text_len_1921 lg)) (by decide)
    refine ⟨p,_,r3,.str c,rfl,rfl,SqL.of e9,ec,_,rfl,0 + (i:Int),rfl,lg,c,tx (0 + (i:Int)),rfl,rfl,ln,_,rfl,_,rfl,_,rfl,_,rfl,w2,wd,rfl,x9.a,by omega,by omega,fun r4 H10 r40 r41 W10 K10 => ⟨lf,r4,rfl,rfl,sL3,fun pp hpp => ?_⟩⟩
    have x10:=x9.to2 W10 K10
    have C10:=C9.kp x9.a K10
    have x11:=x10.new (o:=.tup [.str (c ++ tx (0 + (i:Int))),.int lf,.int (lf + r4)]) hpp
    have C11:Sps (upd H10 pp (.tup [.str (c ++ tx (0 + (i:Int))),.int lf,.int (lf + r4)])) (ps ++ [pp]) (sp ++ [(c ++ tx (0 + (i:Int)),lf,lf + r4)]):=(C10.mono fun b xs e => same_new (Same.refl H10) hpp _ _ e).snoc upd_same
    generalize upd H10 pp (.tup [.str (c ++ tx (0 + (i:Int))),.int lf,.int (lf + r4)]) = H11 at x11 C11
    refine ⟨D,_,.ref pp,rfl,rfl,x11.d,?_,_,_,ps ++ [pp],sp ++ [(c ++ tx (0 + (i:Int)),lf,lf + r4)],rfl,?_,C11.mono fun b xs e => ?_,?_⟩
    ·rw [List.length_map,C10.len,T7.1]
     exact Nat.lt_of_lt_of_le hi21 (by decide)
    ·rw [List.map_append]
     exact x11.put
    ·rw [upd_ne (ne_of e x11.d (fun z => nomatch z))]
     exact e
    ·exact T7.snoc (c:=c) (by show lf≤lf + r4; omega) c1 (by show c ++ tx (0 + (i:Int)) = _; rw [Int.zero_add])
   ·rintro σ H7 ⟨v6,v7,ps,sp,rfl,x7,C7,T7⟩
    have l7:=T7.1
    exact hB v6 v7 ps sp _ ⟨x7,C7,by omega,T7.good (by omega)⟩
  intro v6 v7 ps sp H6 i
  exact ⟨_,rfl,q D ps sp H6 i.1.same hD i.1.d i.2.1 i.2.2.1 i.2.2.2⟩
end
end K71
namespace K71
open PySem L2 Wd TS STb
section
variable {P:Program} {w:World} {K:PySem.W.Frag} {mg:Str→Option Value} {base:Heap} {t:Adr}
def spRefused (t:Adr):Sp:=fun vs H Q _ => ∃ (a:Addr) (ps:List Addr) (sp:List Spn),vs = [.ref a]∧H a = some (.lst (ps.map V.ref))∧Sps H ps sp∧sp.length≤60∧Tabs t H∧¬ Good sp∧∀ H',Same H H'→Q (.bl true) H'
theorem ok_law_refused (T:Txt K mg t) (hB:BMod mg base):GoodF P w K mg base 8 "_law_refused" ["_law_spans_here"] (spRefused t):=by
 obtain ⟨fd,F,b⟩:=T.F_law_refused
 have G_lanes:=ok_lanes (P:=P) (w:=w) (base:=base) T hB
 refine ⟨_,fd,F.okX sc_law_refused (fun vs H Q E h => ?_) (fun cdv A outer s H vs Q E hr h => ?_),b,F.kp,T.g__law_refused⟩
 ·obtain ⟨a,ps,sp,rfl,_⟩:=h
  rfl
 ·obtain ⟨a,ps,sp,rfl,ha,C,hl,tb,ng,q⟩:=h
  refine ⟨_,(pss_cons (ps_try (i:=1) rfl rfl rfl rfl sc_law_refused.nd rfl rfl (by rfl) T.g_CopperError (fun _ _ _ hx => (pss_one (ps_expr (pe_callGS G_lanes (hr.mono (by decide)) hx (by rfl) (pa_cons (pv 0) pa_nil))))) (fun _ => (pss_one (ps_ret (pe_and (pe_callB (call_isiEK (K:=K) rfl) (by rfl) T.n_isinstance b_isinstance (pa_cons (pv 1) (pa_cons (pe_glob (v:=.ref t.c_NoSpan) (by rfl) T.g_NoSpan rfl) pa_nil))) (pe_one (pe_not (pe_callB (call_isiTK (K:=K) rfl) (by rfl) T.n_isinstance b_isinstance (pa_cons (pv 1) (pa_cons (pe_tup (pa_cons (pe_glob (v:=.ref t.c_NoBoard) (by rfl) T.g_NoBoard rfl) (pa_cons (pe_glob (v:=.ref t.c_NoDrawing) (by rfl) T.g_NoDrawing rfl) (pa_cons (pe_glob (v:=.ref t.c_NoPin) (by rfl) T.g_NoPin rfl) (pa_cons (pe_glob (v:=.ref t.c_NoShape) (by rfl) T.g_NoShape rfl) pa_nil))))) pa_nil))))))))))
   (pss_one (ps_ret pe_bl))),?_⟩
  refine ⟨_,rfl,a,ps,sp,rfl,ha,C,hl,tb,fun g => absurd g ng,fun _ H1 s1 => ?_⟩
  refine ⟨_,rfl,T.xm_NoSpan_CopperError,fun ea oe hea => ?_⟩
  have e1:Exc (upd H1 ea (.frz oe (.exc ea t.c_NoSpan))) ea t.c_NoSpan:=⟨oe,upd_same⟩
  have s3:Same H (upd H1 ea (.frz oe (.exc ea t.c_NoSpan))):=same_new s1 hea
  generalize upd H1 ea (.frz oe (.exc ea t.c_NoSpan)) = H2 at e1 s3
  refine ⟨_,rfl,ea,t.c_NoSpan,_,_,true,rfl,e1,T.ef_NoSpan,.ref _,T.ki_NoSpan_NoSpan,true,rfl,iteT ⟨_,rfl,sL4,fun p hp => ?_⟩⟩
  obtain ⟨oe2,e2⟩:=e1
  have e3:Exc (upd H2 p (.tup [.ref t.c_NoBoard,.ref t.c_NoDrawing,.ref t.c_NoPin,.ref t.c_NoShape])) ea t.c_NoSpan:=⟨oe2,same_new (Same.refl H2) hp _ _ e2⟩
  exact ⟨ea,t.c_NoSpan,p,[t.c_NoBoard,t.c_NoDrawing,t.c_NoPin,t.c_NoShape],false,rfl,e3,T.ef_NoSpan,upd_same,T.ka_NoSpan,_,rfl,q _ (same_new s3 hp)⟩
end
end K71
namespace K71
open PySem PySem.Spec L2 Wd TS STb
theorem cut1 (xs:List V):cutV xs (some 1) none = xs.drop 1:=by
 unfold cutV
 rw [show (some (1:Int)) = some ((1:Nat):Int) from rfl,HT.sIx_nat,HT.sIx_none]
 cases xs with
 | nil => rfl
 | cons x r =>
  have e:min 1 (x :: r).length = 1:=by simp
  rw [e]
  exact List.take_of_length_le (by simp)
theorem sorted_eq:∀ {a b:List (List Key)},a.Perm b→(a.Pairwise fun x y => lx y x = false)→(b.Pairwise fun x y => lx y x = false)→a = b
 | [],b,p,_,_ => (List.nil_perm.mp p).symm
 | x :: a,b,p,ha,hb => by
  cases b with
  | nil => exact absurd (List.perm_nil.mp p) (by simp)
  | cons y b =>
   obtain ⟨h1,ha2⟩:=List.pairwise_cons.mp ha
   obtain ⟨h2,hb2⟩:=List.pairwise_cons.mp hb
   have e:x = y:=by
    rcases List.mem_cons.mp (p.mem_iff.mp (List.mem_cons_self ..)) with e | hx
    ·exact e
    ·rcases List.mem_cons.mp (p.mem_iff.mpr (List.mem_cons_self ..)) with e | hy
     ·exact e.symm
     ·exact lx_tot (h2 x hx) (h1 y hy)
   subst e
   rw [sorted_eq (List.perm_cons x |>.mp p) ha2 hb2]
theorem _root_.L2.KeyAt.same {H H':Hp} {ps:List Addr} {ks:List (List Key)} (k:KeyAt H ps ks) (s:Same H H'):KeyAt H' ps ks:=⟨k.1,fun i b x h1 h2 => s _ _ (k.2 i b x h1 h2)⟩
theorem up_of_rising:∀ (p:Str) (l:List Str),PyProof.Rows.risingS p l = true→(p :: l).Pairwise fun a b => ¬ b.cps.toList < a.cps.toList
 | p,[],_ => List.pairwise_singleton _ _
 | p,x :: r,h => by
  have h:(!ltCps x.cps.toList p.cps.toList && PyProof.Rows.risingS x r) = true:=h
  rw [Bool.and_eq_true] at h
  have h1:¬ x.cps.toList < p.cps.toList:=by
   have z:=h.1
   rw [PyProof.Rows.ltCps_eq] at z
   simpa using z
  have ih:=up_of_rising x r h.2
  refine List.pairwise_cons.mpr ⟨fun y hy => ?_,ih⟩
  rcases List.mem_cons.mp hy with rfl | hy
  ·exact h1
  ·exact List.not_lt.mpr (List.le_trans (List.not_lt.mp h1) (List.not_lt.mp ((List.pairwise_cons.mp ih).1 y hy)))
theorem up_texts {l:List Str} (h:PyProof.Rows.sortedS l = true):(l.map fun t => ([.inr t]:List Key)).Pairwise fun x y => lx y x = false:=by
 refine List.pairwise_map.mpr (List.Pairwise.imp (R:=fun a b => ¬ b.cps.toList < a.cps.toList) (fun {a b} hab => ?_) ?_)
 ·unfold lx
  split
  ·rfl
  ·exact decide_eq_false hab
 ·cases l with
  | nil => exact List.Pairwise.nil
  | cons p l => exact up_of_rising p l h
theorem texts_eq {a b:List Str} (pm:a.Perm b) (ha:PyProof.Rows.sortedS a = true) (hb:PyProof.Rows.sortedS b = true):a = b :=
 (List.map_inj_right (f:=fun t:Str => ([.inr t]:List Key)) fun x y h => Sum.inr.inj (List.cons.inj h).1).mp (sorted_eq (pm.map fun t => ([.inr t]:List Key)) (up_texts ha) (up_texts hb))
theorem flat_len:∀ {rws:List Row},(∀ q∈rws,q.1.length = q.2.length)→((rws.map (·.1)).flatten).length = ((rws.map (·.2)).flatten).length
 | [],_ => rfl
 | q :: rws,h => by
  rw [List.map_cons,List.map_cons,List.flatten_cons,List.flatten_cons,List.length_append,List.length_append,h q (List.mem_cons_self ..),flat_len fun x hx => h x (List.mem_cons_of_mem _ hx)]
theorem Sps.app {H:Hp} {ps qs:List Addr} {sp sq:List Spn} (C:Sps H ps sp) (C':Sps H qs sq):Sps H (ps ++ qs) (sp ++ sq):=by
 have l:=C.len
 refine ⟨by have:=C'.len; simp [l,this],fun k b x k1 k2 => ?_⟩
 by_cases hk:k < ps.length
 ·rw [List.getElem?_append_left hk] at k1
  rw [List.map_append,List.getElem?_append_left (by rw [List.length_map]; omega)] at k2
  exact C.2 k b x k1 k2
 ·rw [List.getElem?_append_right (by omega)] at k1
  rw [List.map_append,List.getElem?_append_right (by rw [List.length_map]; omega),List.length_map,← l] at k2
  exact C'.2 _ b x k1 k2
theorem Sps.flat {H:Hp}:∀ {rws:List Row},(∀ q∈rws,Sps H q.1 q.2)→Sps H ((rws.map (·.1)).flatten) ((rws.map (·.2)).flatten)
 | [],_ => ⟨rfl,(fun i b k h => nomatch h)⟩
 | q :: rws,h => by
  rw [List.map_cons,List.map_cons,List.flatten_cons,List.flatten_cons]
  exact (h q (List.mem_cons_self ..)).app (Sps.flat fun x hx => h x (List.mem_cons_of_mem _ hx))
theorem Rws.sps {H:Hp} {rs:List Addr} {rws:List Row} (W:Rws H rs rws):∀ q∈rws,Sps H q.1 q.2:=fun q hq => by
 obtain ⟨i,hi,rfl⟩:=List.getElem_of_mem hq
 have hi2:i < rs.length:=by rw [W.1]; exact hi
 exact (W.2 i _ _ (List.getElem?_eq_getElem hi2) (List.getElem?_eq_getElem hi)).2.1
theorem sd_kS (sp:List Spn):∀ k∈sp.map kS,sd k = [false,true,true]:=fun k hk => by
 obtain ⟨s,_,rfl⟩:=List.mem_map.mp hk
 rfl
section
variable {P:Program} {w:World} {K:PySem.W.Frag} {mg:Str→Option Value} {base:Heap} {t:Adr}
structure Told (H:Hp) (qa:Addr) (sp:List Spn) (R N:Addr) (rs:List Addr) (rws:List Row) (D:List Spn) (col:Option Int) (nets:List Str):Prop where
 q:H qa = some (.tup [.str "lanes",.ref R,colV col,.ref N])
 r:H R = some (.lst (rs.map V.ref))
 w:Rws H rs rws
 g:GI (rws.map (·.2)) D col
 p:D.Perm sp
 n:H N = some (.lst (nets.map V.str))
 e:nets.Perm ((sp.filter (has (col.getD 0))).map (·.1))
 s:PyProof.Rows.sortedS nets = true
def spRight:Sp:=fun vs H Q _ => ∃ (a qa:Addr) (ps:List Addr) (sp:List Spn) (R N:Addr) (rs:List Addr) (rws:List Row) (D:List Spn) (col:Option Int) (nets:List Str),vs = [.ref a,.ref qa]∧H a = some (.lst (ps.map V.ref))∧Sps H ps sp∧sp.length≤60∧Told H qa sp R N rs rws D col nets∧∀ H',Same H H'→Q (.bl true) H'
theorem ok_law_right (T:Txt K mg t):GoodF P w K mg base 6 "_law_right" ["_law_spans_here","_law_found"] spRight:=by
 obtain ⟨fd,F,b⟩:=T.F_law_right
 refine ⟨_,fd,F.okX sc_law_right (fun vs H Q E h => ?_) (fun cdv A outer s H vs Q E hr h => ?_),b,F.kp,T.g__law_right⟩
 ·obtain ⟨a,qa,ps,sp,R,N,rs,rws,D,col,nets,rfl,_⟩:=h
  rfl
 ·obtain ⟨a,qa,ps,sp,R,N,rs,rws,D,col,nets,rfl,ha,C,hl,X,q⟩:=h
  refine ⟨_,(pss_cons (ps_if (pw_or (pt_not (pt_val (pe_callB call_isi (by rfl) T.n_isinstance b_isinstance (pa_cons (pv 1) (pa_cons (pe_bltn (v:=.ty "tuple") (by rfl) T.n_tuple b_tuple rfl) pa_nil))))) (pw_or (pt_cmpR op_ne (pe_callB call_len_seq (by rfl) T.n_len b_len (pa_cons (pv 1) pa_nil)) pe_int (nomark _)) (pw_or1 (pt_cmpR op_ne (pe_ix ix_tup (pv 1) pe_int (fun _ _ => rfl)) pe_str (nomark _))))).pt (pss_one (ps_ret pe_bl)) pss_nil)
   (pss_cons (ps_asg (pv 1) (pg_tup rfl (pgs_cons (pg_name (i:=2) sc_law_right.nd rfl (Or.inl rfl)) (pgs_cons (pg_name (i:=3) sc_law_right.nd rfl (Or.inl rfl)) (pgs_cons (pg_name (i:=4) sc_law_right.nd rfl (Or.inr rfl)) (pgs_cons (pg_name (i:=5) sc_law_right.nd rfl (Or.inl rfl)) pgs_nil))))))
   (pss_cons (ps_if (pw_or (pt_not (pt_val (pe_callB call_isi (by rfl) T.n_isinstance b_isinstance (pa_cons (pv 3) (pa_cons (pe_bltn (v:=.ty "list") (by rfl) T.n_list b_list rfl) pa_nil))))) (pw_or (pt_not (pt_val (pe_callB call_isi (by rfl) T.n_isinstance b_isinstance (pa_cons (pv 5) (pa_cons (pe_bltn (v:=.ty "list") (by rfl) T.n_list b_list rfl) pa_nil))))) (pw_or1 (pt_cmpR (op_inNo hr.units) (pe_lst pa_nil) (pv 3) (by with_unfolding_all rfl))))).pt (pss_one (ps_ret pe_bl)) pss_nil)
   (pss_cons (ps_set (i:=6) sc_law_right.nd rfl (Or.inl rfl) (pe_lst pa_nil))
   (pss_cons (ps_for owns_of (pi_list (pv 3)) (pg_name (i:=7) sc_law_right.nd rfl (Or.inl rfl)) (pss_cons (ps_set (i:=6) sc_law_right.nd rfl (Or.inl rfl) (pe_op op_cat (pv 6) (pv 7)))
   (pss_one (ps_for owns_of (pi_zip rfl rfl T.n_zip (pa_cons (pv 7) (pa_cons (pe_slice sl_list (pv 7) (po_some pe_int) po_none) pa_nil))) (pg_tup rfl (pgs_cons (pg_name (i:=8) sc_law_right.nd rfl (Or.inl rfl)) (pgs_cons (pg_name (i:=9) sc_law_right.nd rfl (Or.inl rfl)) pgs_nil))) (pss_one (ps_if (pt_cmpR op_ge (pe_ix ix_tup (pv 8) pe_int (fun _ _ => rfl)) (pe_ix ix_tup (pv 9) pe_int (fun _ _ => rfl)) (nomark _)) (pss_one (ps_ret pe_bl)) pss_nil))))))
   (pss_cons (ps_if (pw_or (pt_cmpR (op_neLK hr.units) (pe_callB call_sortedL (by rfl) T.n_sorted b_sorted (pa_cons (pv 6) pa_nil)) (pe_callB call_sortedL (by rfl) T.n_sorted b_sorted (pa_cons (pv 0) pa_nil)) (nomark _)) (pw_or1 (pt_cmpR (op_ne_nil hr.units0) (pe_compN (N0:=["_law_spans_here","_law_found","_law_word","_law_rows","_law_column","_law_nets","_law_told","_law_row","._law_one","_law_other"]) (own:=["_law_one"]) (cs_nilN (N:=["_law_spans_here","_law_found","_law_word","_law_rows","_law_column","_law_nets","_law_told","_law_row","_law_one","_law_other"]) rfl (by rfl) (by decide +kernel) (by decide +kernel) rfl (by decide +kernel)) (pi_list (pv 6)) (fun _ _ _ _ _ => pg_name (i:=10) (by show (["_law_spans_here","_law_found","_law_word","_law_rows","_law_column","_law_nets","_law_told","_law_row","._law_one","_law_other","_law_one"]:List Str).Nodup; decide +kernel) rfl (Or.inl rfl)) (fun _ _ _ _ _ => pf_one (pt_not (pt_val (pe_callB (call_isiK (K:=K) rfl) (by rfl) T.n_isinstance b_isinstance (pa_cons (pv 10) (pa_cons (pe_bltn (v:=.ty "tuple") (by rfl) T.n_tuple b_tuple rfl) pa_nil)))))) (fun _ _ _ _ _ => (pv 10))) (pe_lst pa_nil) (nomark _)))).pt (pss_one (ps_ret pe_bl)) pss_nil)
   (pss_cons (ps_if (pt_cmpR (op_eq_nil hr.units0) (pv 0) (pe_lst pa_nil) (nomark _)) (pss_one (ps_ret (pe_and (pe_cmpR (op_eq_nil hr.units0) (pv 3) (pe_lst pa_nil) (nomark _)) (pe_and (pe_cmp (pc_isN (pv 4))) (pe_one (pe_cmpR (op_eq_nil hr.units0) (pv 5) (pe_lst pa_nil) (nomark _))))))) pss_nil)
   (pss_cons (ps_if (pw_or (pt_not (pt_val (pe_callB call_isi (by rfl) T.n_isinstance b_isinstance (pa_cons (pv 4) (pa_cons (pe_bltn (v:=.ty "int") (by rfl) T.n_int b_int rfl) pa_nil))))) (pw_or (pt_val (pe_callB call_isi (by rfl) T.n_isinstance b_isinstance (pa_cons (pv 4) (pa_cons (pe_bltn (v:=.ty "bool") (by rfl) T.n_bool b_bool rfl) pa_nil)))) (pw_or1 (pt_cmpR op_ne (pe_callB call_len_seq (by rfl) T.n_len b_len (pa_cons (pv 5) pa_nil)) (pe_callB call_len_seq (by rfl) T.n_len b_len (pa_cons (pv 3) pa_nil)) (nomark _))))).pt (pss_one (ps_ret pe_bl)) pss_nil)
   (pss_one (ps_ret (pe_cmpR (op_eqLX hr.units0) (pv 5) (pe_callB call_sortedX (by rfl) T.n_sorted b_sorted (pa_cons (pe_comp (own:=["_law_net","_law_left","_law_right_here"]) (cs_one (n:="_law_column") (N:=["_law_spans_here","_law_found","_law_word","_law_rows","_law_column","_law_nets","_law_told","_law_row","_law_one","_law_other"]) rfl (by rfl) (by rfl) rfl (by rfl) (by decide +kernel) (by decide +kernel) (by decide +kernel)) (pi_list (pv 0)) (fun _ _ _ _ _ => pg_tupK (K:=K) (n:=3) rfl rfl (pgs_cons (pg_name (i:=10) (by show (["_law_spans_here","_law_found","_law_word","_law_rows","_law_column","_law_nets","_law_told","_law_row","_law_one","_law_other","_law_net","_law_left","_law_right_here"]:List Str).Nodup; decide +kernel) rfl (Or.inl rfl)) (pgs_cons (pg_name (i:=11) (by show (["_law_spans_here","_law_found","_law_word","_law_rows","_law_column","_law_nets","_law_told","_law_row","_law_one","_law_other","_law_net","_law_left","_law_right_here"]:List Str).Nodup; decide +kernel) rfl (Or.inl rfl)) (pgs_cons (pg_name (i:=12) (by show (["_law_spans_here","_law_found","_law_word","_law_rows","_law_column","_law_nets","_law_told","_law_row","_law_one","_law_other","_law_net","_law_left","_law_right_here"]:List Str).Nodup; decide +kernel) rfl (Or.inl rfl)) pgs_nil)))) (fun _ _ _ _ _ => pf_one (pt_chain op_le op_le (pv 11) (pv 4) (pv 12))) (fun _ _ _ _ _ => (pv 10))) pa_nil)) (nomark _)))))))))))),?_⟩
  refine sg0 [oR a,oR qa,none,none,none,none,none,none,none,none] (fun H' => H = H') (fun B hB => ?_) ?_
  ·exact ⟨_,rfl,.ref qa,.ty "tuple",_,_,true,rfl,.tup X.q,.ty _,by kernel_rfl,true,rfl,iteF ⟨_,rfl,qa,_,rfl,.inr (SqT.of X.q),rfl,_,rfl,iteNS rfl ⟨_,rfl,qa,_,0,.str "lanes",rfl,rfl,SqT.of X.q,rfl,rfl,_,rfl,iteNS rfl (hB _ rfl)⟩⟩⟩
  intro H1 e
  subst e
  refine sg0 [oR a,oR qa,some (.str "lanes"),oR R,some (colV col),oR N,none,none,none,none] (fun H' => H = H') (fun B hB => ?_) ?_
  ·exact ⟨_,rfl,qa,_,rfl,SqT.of X.q,rfl,_,_,rfl,_,_,rfl,_,_,rfl,_,_,rfl,rfl,hB _ rfl⟩
  intro H1 e
  subst e
  refine sg0 [oR a,oR qa,some (.str "lanes"),oR R,some (colV col),oR N,none,none,none,none] (fun H' => Same H H') (fun B hB => ?_) ?_
  ·refine ⟨_,rfl,.ref R,.ty "list",_,_,true,rfl,.lst X.r,.ty _,by kernel_rfl,true,rfl,iteF ⟨_,rfl,.ref N,.ty "list",_,_,true,rfl,.lst X.n,.ty _,by kernel_rfl,true,rfl,iteF ⟨sL0,fun p hp => ?_⟩⟩⟩
   have s1:=same_new (o:=.lst []) (Same.refl H) hp
   refine ⟨_,rfl,p,R,rs,rfl,rfl,SqL.of upd_same,SqL.of (s1 _ _ X.r),fun r hr => ?_,_,rfl,iteF (hB _ s1)⟩
   obtain ⟨i,hi,rfl⟩:=List.getElem_of_mem hr
   have hi2:i < rws.length:=by rw [← X.w.1]; exact hi
   obtain ⟨h1,h2,h3⟩:=X.w.2 i _ _ (List.getElem?_eq_getElem hi) (List.getElem?_eq_getElem hi2)
   refine ⟨ne_of_none h1 hp,?_⟩
   have l:=h2.len
   cases e:rws[i].1 with
   | nil =>
    rw [e] at l
    exact absurd (List.length_eq_zero_iff.mp l.symm) h3
   | cons z zs =>
    rw [e] at h1
    exact ⟨_,_,SqL.of (s1 _ _ h1)⟩
  intro H1 s1
  refine sg1 (fun (U:Addr) => [oR a,oR qa,some (.str "lanes"),oR R,some (colV col),oR N,oR U,none,none,none]) (fun U H' => Same H H'∧H' U = some (.lst [])) (fun B hB => ⟨sL0,fun U hU => hB U _ ⟨same_new s1 hU,upd_same⟩⟩) ?_
  intro U H2 i
  have s2:=i.1; have eU:=i.2
  have lenT:((rws.map (·.1)).flatten).length = sp.length:=by
   rw [flat_len fun q hq => (X.w.sps q hq).len,X.g.pm.length_eq,X.p.length_eq]
  refine sg4 (fun (U:Addr) (v7 v8 v9:Option V) => [oR a,oR qa,some (.str "lanes"),oR R,some (colV col),oR N,oR U,v7,v8,v9]) (fun U _ _ _ H' => Same H H'∧H' U = some (.lst (((rws.map (·.1)).flatten).map V.ref))) (fun B hB => ?_) ?_
  ·refine ⟨_,rfl,R,rfl,⟨_,SqL.of (s2 _ _ X.r)⟩,for_list (xs:=rs.map V.ref) (fun i σ H' => ∃ (U:Addr) (v7 v8 v9:Option V),σ = [oR a,oR qa,some (.str "lanes"),oR R,some (colV col),oR N,oR U,v7,v8,v9]∧Same H H'∧H' U = some (.lst ((((rws.take i).map (·.1)).flatten).map V.ref))) ⟨U,_,_,_,rfl,s2,eU⟩ (fun i σ H' _ h => by obtain ⟨_,_,_,_,_,s,_⟩:=h; exact SqL.of (s _ _ X.r)) ?_ ?_⟩
   ·rintro i v σ H3 hx ⟨U,v7,v8,v9,rfl,s3,eU3⟩
    rw [List.getElem?_map] at hx
    obtain ⟨r,e1,rfl⟩:=Option.map_eq_some_iff.mp hx
    have hi:i < rws.length:=by rw [← X.w.1]; exact (List.getElem?_eq_some_iff.mp e1).1
    have e2:=List.getElem?_eq_getElem hi
    obtain ⟨h1,h2,h3⟩:=X.w.2 i r _ e1 e2
    have tk1:rws.take (i + 1) = rws.take i ++ [rws[i]]:=by rw [List.take_succ,e2]; rfl
    have ch:=X.g.ch _ (List.mem_map_of_mem (List.getElem_mem hi))
    rw [tk1]
    have lT:(((rws.take i).map (·.1)).flatten).length + rws[i].1.length≤60:=by
     have e5:rws = rws.take (i + 1) ++ rws.drop (i + 1):=(List.take_append_drop _ _).symm
     have l1:=lenT
     rw [e5,tk1] at l1
     simp only [List.map_append,List.flatten_append,List.length_append,List.map_cons,List.map_nil,List.flatten_cons,List.flatten_nil,List.append_nil] at l1
     omega
    generalize rws[i] = q at h1 h2 h3 ch lT
    refine sg1 (fun (U:Addr) => [oR a,oR qa,some (.str "lanes"),oR R,some (colV col),oR N,oR U,oR r,v8,v9]) (fun U H' => Same H H'∧H' U = some (.lst ((((rws.take i).map (·.1)).flatten ++ q.1).map V.ref))) (fun B hB => ⟨_,rfl,_,rfl,U,r,_,_,rfl,rfl,eU3,s3 _ _ h1,by rw [List.length_map,List.length_map]; exact Nat.le_trans lT (by decide),fun p hp => hB p _ ⟨same_new s3 hp,by rw [upd_same,List.map_append]⟩⟩) ?_
    intro U4 H4 i4
    have s4:=i4.1; have eU4:=i4.2
    have e9:((rws.take i ++ [q]).map (·.1)).flatten = ((rws.take i).map (·.1)).flatten ++ q.1:=by simp
    rw [e9]
    refine ⟨_,rfl,_,rfl,1,rfl,r,_,rfl,SqL.of (s4 _ _ h1),fun z hz => ?_⟩
    have c1:cutV (q.1.map V.ref) (some 1) none = (q.1.map V.ref).drop 1:=cut1 _
    have s5:Same H (upd H4 z (.lst (cutV (q.1.map V.ref) (some 1) none))):=same_new s4 hz
    have eU5:upd H4 z (.lst (cutV (q.1.map V.ref) (some 1) none)) U4 = _:=same_new (Same.refl H4) hz _ _ eU4
    have ez:upd H4 z (.lst (cutV (q.1.map V.ref) (some 1) none)) z = some (.lst (cutV (q.1.map V.ref) (some 1) none)):=upd_same
    generalize upd H4 z (.lst (cutV (q.1.map V.ref) (some 1) none)) = H5 at s5 eU5 ez
    refine ⟨r,z,rfl,⟨_,SqL.of (s5 _ _ h1)⟩,⟨_,SqL.of ez⟩,for_zip (xs:=q.1.map V.ref) (ys:=cutV (q.1.map V.ref) (some 1) none) (fun k σ H' => ∃ (v8 v9:Option V),σ = [oR a,oR qa,some (.str "lanes"),oR R,some (colV col),oR N,oR U4,oR r,v8,v9]∧Same H5 H') ⟨_,_,rfl,Same.refl _⟩ ?_ ?_ ?_⟩
    ·rintro k σ H6 _ ⟨_,_,_,s6⟩
     exact ⟨SqL.of (s6 _ _ (s5 _ _ h1)),SqL.of (s6 _ _ ez)⟩
    ·rintro k x y o σ H6 hxy ho ⟨w8,w9,rfl,s6⟩
     rw [List.getElem?_zip_eq_some,c1,List.getElem?_drop,List.getElem?_map,List.getElem?_map] at hxy
     obtain ⟨hx,hy⟩:=hxy
     obtain ⟨p1,hp1,rfl⟩:=Option.map_eq_some_iff.mp hx
     obtain ⟨p2,hp2,rfl⟩:=Option.map_eq_some_iff.mp hy
     rw [Nat.add_comm] at hp2
     have k1:k < q.2.length:=by rw [← h2.len]; exact (List.getElem?_eq_some_iff.mp hp1).1
     have k2:k + 1 < q.2.length:=by rw [← h2.len]; exact (List.getElem?_eq_some_iff.mp hp2).1
     have t1:=h2.at_ hp1 (List.getElem?_eq_getElem k1)
     have t2:=h2.at_ hp2 (List.getElem?_eq_getElem k2)
     have lt:=List.pairwise_iff_getElem.mp ch k (k + 1) k1 k2 (Nat.lt_succ_self _)
     have s7:Same H5 (upd H6 o (.tup [.ref p1,.ref p2])):=same_new s6 ho
     have s57:=Same.trans s5 s7
     refine ⟨o,_,rfl,SqT.of upd_same,rfl,_,_,rfl,_,_,rfl,rfl,?_⟩
     refine ⟨_,rfl,p1,_,2,.int q.2[k].2.2,rfl,rfl,SqT.of (s57 _ _ t1),rfl,_,rfl,p2,_,1,.int q.2[k + 1].2.1,rfl,rfl,SqT.of (s57 _ _ t2),rfl,_,_,rfl,rfl,_,rfl,iteD (fun g => absurd g (by omega)) fun g => ⟨_,_,rfl,s7⟩⟩
    ·rintro σ H6 ⟨w8,w9,rfl,s6⟩
     exact ⟨U4,_,_,_,rfl,Same.trans s5 s6,s6 _ _ eU5⟩
   ·rintro σ H3 ⟨U,v7,v8,v9,rfl,s3,eU3⟩
    rw [List.length_map,X.w.1,List.take_length] at eU3
    exact hB U v7 v8 v9 _ ⟨s3,eU3⟩
  intro U v7 v8 v9 H3 i
  have s3:=i.1; have eU3:=i.2
  have CT:Sps H ((rws.map (·.1)).flatten) ((rws.map (·.2)).flatten):=Sps.flat X.w.sps
  have pT:((rws.map (·.2)).flatten).Perm sp:=X.g.pm.trans X.p
  refine sg0 [oR a,oR qa,some (.str "lanes"),oR R,some (colV col),oR N,oR U,v7,v8,v9] (fun H' => Same H H') (fun B hB => ?_) ?_
  ·refine ⟨_,rfl,U,_,_,[false,true,true],rfl,eU3,CT.mono fun p xs e => s3 _ _ e,sd_kS _,(fun z => by cases z),fun l1 bs1 ks1 hl1 ka1 pm1 up1 => ?_⟩
   have s4:=same_new (o:=.lst (bs1.map V.ref)) (Same.refl H3) hl1
   have e4:upd H3 l1 (.lst (bs1.map V.ref)) l1 = some (.lst (bs1.map V.ref)):=upd_same
   have ka4:=KeyAt.same ka1 s4
   generalize upd H3 l1 (.lst (bs1.map V.ref)) = H4 at s4 e4 ka4
   refine ⟨_,rfl,a,ps,_,[false,true,true],rfl,s4 _ _ (s3 _ _ ha),C.mono fun p xs e => s4 _ _ (s3 _ _ e),sd_kS _,(fun z => by cases z),fun l2 bs2 ks2 hl2 ka2 pm2 up2 => ?_⟩
   obtain rfl:ks1 = ks2:=sorted_eq (pm1.trans ((pT.map kS).trans pm2.symm)) up1 up2
   have s5:=same_new (o:=.lst (bs2.map V.ref)) (Same.refl H4) hl2
   have e5:upd H4 l2 (.lst (bs2.map V.ref)) l2 = some (.lst (bs2.map V.ref)):=upd_same
   have ka5:=KeyAt.same ka2 s5
   generalize upd H4 l2 (.lst (bs2.map V.ref)) = H5 at s5 e5 ka5
   refine ⟨l1,l2,bs1,bs2,ks1,ks1,rfl,rfl,SqL.of (s5 _ _ e4),SqL.of e5,KeyAt.same ka4 s5,ka5,_,rfl,iteNS rfl ?_⟩
   have s35:=Same.trans s3 (Same.trans s4 s5)
   have eU5:=s5 _ _ (s4 _ _ eU3)
   refine ⟨_,rfl,U,rfl,⟨_,SqL.of eU5⟩,comp_pure (xs:=((rws.map (·.1)).flatten).map V.ref) (fun _ => false) (fun v => v) (SqL.of eU5) (by rw [List.length_map,lenT]; exact Nat.le_trans hl (by decide)) (fun x hx H' Qy Qn s' _ hn => ?_) fun M hM => ?_⟩
   ·obtain ⟨b,hb,rfl⟩:=List.mem_map.mp hx
    obtain ⟨s,_,e⟩:=CT.mem hb
    exact ⟨⟨_,rfl,rfl⟩,_,rfl,.ref b,.ty "tuple",_,_,true,rfl,.tup (s' _ _ (s35 _ _ e)),.ty _,by kernel_rfl,true,rfl,iteF (hn rfl)⟩
   have e6:((((rws.map (·.1)).flatten).map V.ref).filter fun _ => false).map (fun v => v) = []:=by rw [List.filter_eq_nil_iff.mpr (fun _ _ => Bool.false_ne_true)]; rfl
   rw [e6]
   have s6:=same_new (o:=.lst []) (Same.refl H5) hM
   have eM:upd H5 M (.lst []) M = some (.lst []):=upd_same
   generalize upd H5 M (.lst []) = H6 at s6 eM
   refine ⟨sL0,fun M2 hM2 => ?_⟩
   have s7:=same_new (o:=.lst []) (Same.refl H6) hM2
   exact ⟨M,M2,[],rfl,rfl,SqL.of (s7 _ _ eM),SqL.of upd_same,_,rfl,iteF (hB _ (Same.trans s35 (Same.trans s6 s7)))⟩
  intro H4 s4
  refine sg0 [oR a,oR qa,some (.str "lanes"),oR R,some (colV col),oR N,oR U,v7,v8,v9] (fun H' => Same H H'∧sp≠[]) (fun B hB => ?_) ?_
  ·refine ⟨_,rfl,sL0,fun M hM => ?_⟩
   have s5:=same_new (o:=.lst []) s4 hM
   refine ⟨a,M,_,rfl,rfl,SqL.of (s5 _ _ ha),SqL.of upd_same,_,rfl,?_⟩
   generalize upd H4 M (.lst []) = H5 at s5
   have lps:=C.len
   cases ps with
   | cons p ps => exact iteF (hB _ ⟨s5,fun z => by rw [z] at lps; cases lps⟩)
   | nil =>
    obtain rfl:sp = []:=List.length_eq_zero_iff.mp lps.symm
    have z1:=X.g.pm.length_eq
    have z2:=X.p.length_eq
    have z3:=len_rows X.g.ne
    have z4:=X.w.1
    rw [List.length_map] at z3
    have z5:rws = []:=List.length_eq_zero_iff.mp (by rw [List.length_nil] at z2; omega)
    subst z5
    obtain rfl:rs = []:=List.length_eq_zero_iff.mp z4
    obtain rfl:col = none:=X.g.nn.mpr rfl
    obtain rfl:nets = []:=by
     have:=X.e
     exact List.perm_nil.mp this
    refine iteT ⟨_,rfl,sL0,fun M2 hM2 => ?_⟩
    have s6:=same_new (o:=.lst []) s5 hM2
    have e6:upd H5 M2 (.lst []) M2 = some (.lst []):=upd_same
    generalize upd H5 M2 (.lst []) = H6 at s6 e6
    refine ⟨R,M2,[],rfl,rfl,SqL.of (s6 _ _ X.r),SqL.of e6,true,rfl,iteT ⟨_,rfl,true,rfl,iteT ⟨_,rfl,sL0,fun M3 hM3 => ?_⟩⟩⟩
    have s7:=same_new (o:=.lst []) s6 hM3
    exact ⟨N,M3,[],rfl,rfl,SqL.of (s7 _ _ X.n),SqL.of upd_same,q _ s7⟩
  intro H5 i
  have s5:=i.1; have nsp:=i.2
  obtain ⟨k,rfl⟩:∃ k,col = some k:=by
   cases col with
   | some k => exact ⟨k,rfl⟩
   | none =>
    have z1:=X.g.nn.mp rfl
    rw [z1] at pT
    exact absurd (List.nil_perm.mp pT) nsp
  have cnt:nets.length = rws.length:=by
   rw [X.e.length_eq,List.length_map,← (X.p.filter _).length_eq]
   have:=X.g.count
   rw [List.length_map] at this
   exact this
  refine sg0 [oR a,oR qa,some (.str "lanes"),oR R,oI k,oR N,oR U,v7,v8,v9] (fun H' => H5 = H') (fun B hB => ⟨_,rfl,.int k,.ty "int",_,_,true,rfl,.int _,.ty _,by kernel_rfl,true,rfl,iteF ⟨_,rfl,.int k,.ty "bool",_,_,false,rfl,.int _,.ty _,by kernel_rfl,false,rfl,iteF ⟨_,rfl,N,_,rfl,.inl (SqL.of (s5 _ _ X.n)),_,rfl,R,_,rfl,.inl (SqL.of (s5 _ _ X.r)),rfl,_,rfl,iteNS (by rw [List.length_map,List.length_map,cnt,X.w.1]) (hB _ rfl)⟩⟩⟩) ?_
  intro H6 e
  subst e
  have ha5:=s5 _ _ ha
  have C5:Sps H5 ps sp:=C.mono fun p xs e => s5 _ _ e
  refine ⟨_,rfl,_,rfl,a,rfl,⟨_,SqL.of ha5⟩,comp_pure (xs:=ps.map V.ref) (fun v => match v with | .ref b => has k (spanAt H5 b) | _ => false) (hd0 H5) (SqL.of ha5) (by rw [List.length_map,C.len]; exact Nat.le_trans hl (by decide)) (fun x hx H' Qy Qn s' hy hn => ?_) fun M hM => ?_⟩
  ·obtain ⟨b,hb,rfl⟩:=List.mem_map.mp hx
   obtain ⟨s,hs,e⟩:=C5.mem hb
   dsimp only at hy hn
   rw [spanAt_of e,hd0_of3 e] at hy
   rw [spanAt_of e] at hn
   refine ⟨b,_,rfl,SqT.of (s' _ _ e),rfl,_,_,rfl,_,_,rfl,_,_,rfl,rfl,⟨_,rfl,rfl⟩,?_⟩
   refine ⟨_,rfl,_,rfl,s.2.1,k,rfl,rfl,_,rfl,iteD (fun g1 => ⟨_,rfl,k,s.2.2,rfl,rfl,_,rfl,iteD (fun g2 => ⟨_,rfl,hy (decide_eq_true ⟨g1,g2⟩)⟩) fun g2 => hn (decide_eq_false fun z => g2 z.2)⟩) fun g1 => ⟨false,rfl,iteF (hn (decide_eq_false fun z => g1 z.1))⟩⟩
  have eN:((ps.map V.ref).filter (fun v => match v with | .ref b => has k (spanAt H5 b) | _ => false)).map (hd0 H5) = ((sp.filter (has k)).map (·.1)).map V.str:=by
   rw [← C5.eq,List.filter_map,List.filter_map,List.map_map,List.map_map,List.map_map]
   refine List.map_congr_left fun b hb => ?_
   obtain ⟨s,_,e⟩:=C5.mem (List.mem_filter.mp hb).1
   show hd0 H5 (.ref b) = V.str (spanAt H5 b).1
   rw [hd0_of3 e,spanAt_of e]
  have s6:=same_new (o:=.lst (((ps.map V.ref).filter (fun v => match v with | .ref b => has k (spanAt H5 b) | _ => false)).map (hd0 H5))) (Same.refl H5) hM
  have e6:upd H5 M (.lst (((ps.map V.ref).filter (fun v => match v with | .ref b => has k (spanAt H5 b) | _ => false)).map (hd0 H5))) M = some (.lst (((sp.filter (has k)).map (·.1)).map V.str)):=by rw [upd_same,eN]
  generalize upd H5 M (.lst (((ps.map V.ref).filter (fun v => match v with | .ref b => has k (spanAt H5 b) | _ => false)).map (hd0 H5))) = H6 at s6 e6
  refine ⟨M,_,rfl,e6,?_,fun L nets2 hL pmN so => ?_⟩
  ·rw [List.length_map]
   have:=List.length_filter_le (has k) sp
   omega
  have s7:=same_new (o:=.lst (nets2.map V.str)) (Same.refl H6) hL
  have s57:=Same.trans s5 (Same.trans s6 s7)
  obtain rfl:nets = nets2:=texts_eq (X.e.trans pmN.symm) X.s so
  exact ⟨N,L,nets,nets,rfl,rfl,SqL.of (s57 _ _ X.n),SqL.of upd_same,by rw [decide_eq_true rfl]; exact q _ s57⟩
end
end K71
namespace K71
open PySem L2 Wd TS STb
theorem SqL.sm {K:PySem.W.Frag} {H H':Hp} {b:Addr} {xs:List V} (h:SqL K H b xs) (s:Sm H H'):SqL K H' b xs:=by
 rcases h with (h | ⟨o,h⟩) | h
 ·exact .inl (.inl (s.1 _ _ (by intro ps z; cases z) h))
 ·exact .inl (.inr ⟨o,s.1 _ _ (by intro ps z; cases z) h⟩)
 ·exact .inr h
structure LF (K:PySem.W.Frag) (t:Adr) (H:Hp) (a D E:Addr) (sc:List Int) (ps:List Addr) (sp:List Spn):Prop where
 a:SqL K H a (sc.map V.int)
 d:H D = some (.lst (ps.map V.ref))
 e:H E = some (.lst (ps.map V.ref))
 c:Sps H ps sp
 t:Tabs t H
theorem LF.sm {K:PySem.W.Frag} {t:Adr} {H H':Hp} {a D E:Addr} {sc:List Int} {ps:List Addr} {sp:List Spn} (x:LF K t H a D E sc ps sp) (s:Sm H H') (tb:Tabs t H'):LF K t H' a D E sc ps sp :=
 ⟨SqL.sm x.a s,s.1 _ _ (by intro ps z; cases z) x.d,s.1 _ _ (by intro ps z; cases z) x.e,x.c.mono fun p xs e => s.1 _ _ (by intro ps z; cases z) e,tb⟩
theorem LF.same {K:PySem.W.Frag} {t:Adr} {H H':Hp} {a D E:Addr} {sc:List Int} {ps:List Addr} {sp:List Spn} (x:LF K t H a D E sc ps sp) (s:Same H H'):LF K t H' a D E sc ps sp:=x.sm (Sm.of s) (Tbl.same x.t s)
theorem cutD (xs:List V) (n:Nat) (h:n≤xs.length):cutV xs (some (n:Int)) none = xs.drop n:=by
 unfold cutV
 rw [HT.sIx_nat,HT.sIx_none,Nat.min_eq_left h]
 exact List.take_of_length_le (by rw [List.length_drop]; exact Nat.le_refl _)
theorem cutT (xs:List V) (n:Nat) (h:n≤xs.length):cutV xs none (some (n:Int)) = xs.take n:=by
 unfold cutV
 rw [HT.sIx_nat,HT.sIx_none,Nat.min_eq_left h]
 simp
theorem Sps.take {H:Hp} {ps:List Addr} {sp:List Spn} (C:Sps H ps sp) (n:Nat):Sps H (ps.take n) (sp.take n):=by
 have l:=C.len
 refine ⟨by simp [l],fun i b x h1 h2 => ?_⟩
 have hi:i < n:=by have:=(List.getElem?_eq_some_iff.mp h1).1; rw [List.length_take] at this; omega
 rw [List.getElem?_take_of_lt hi] at h1
 rw [List.map_take,List.getElem?_take_of_lt hi] at h2
 exact C.2 i b x h1 h2
theorem Sps.drop {H:Hp} {ps:List Addr} {sp:List Spn} (C:Sps H ps sp) (n:Nat):Sps H (ps.drop n) (sp.drop n):=by
 have l:=C.len
 refine ⟨by simp [l],fun i b x h1 h2 => ?_⟩
 rw [List.getElem?_drop] at h1
 rw [List.map_drop,List.getElem?_drop] at h2
 exact C.2 _ b x h1 h2
section
variable {P:Program} {w:World} {K:PySem.W.Frag} {mg:Str→Option Value} {base:Heap} {t:Adr}
def tabsOf (t:Adr):List Addr:=[t.pl_lanes]
def spLaw (K:PySem.W.Frag) (tabs:List Addr):Sp:=fun vs H Q _ => ∃ (a:Addr) (sc:List Int),vs = [.ref a]∧SqL K H a (sc.map V.int)∧sc.length≤63∧(∀ p∈tabs,H p = some (.tbl #[]))∧∀ H',Q (.bl true) H'
theorem law_ok (T:Txt K mg t) (hB:BMod mg base) {fd:FuncData} (F:Fun K "law" "law" s_law t.f_law fd):FnOk P w K mg base (XC P w) 10 t.f_law fd ["_law_script"] (spLaw K (tabsOf t)):=by
 have G_law_spans:=ok_law_spans (P:=P) (w:=w) (base:=base) T
 have G_law_right:=ok_law_right (P:=P) (w:=w) (base:=base) T
 have G_law_refused:=ok_law_refused (P:=P) (w:=w) (base:=base) T hB
 have G_law_draw:=ok_law_draw (P:=P) (w:=w) (base:=base) T
 have G_law_well:=ok_law_well (P:=P) (w:=w) (base:=base) T
 have G_lanes:=ok_lanes (P:=P) (w:=w) (base:=base) T hB
 refine F.okX sc_law (fun vs H Q E h => ?_) (fun cdv A outer s H vs Q E hr h => ?_)
 ·obtain ⟨a,sc,rfl,_⟩:=h
  rfl
 ·obtain ⟨a,sc,rfl,ha,hsc,htb,q⟩:=h
  refine ⟨_,(pss_cons (ps_set (i:=1) sc_law.nd rfl (Or.inl rfl) (pe_callG G_law_spans (hr.mono (by decide)) passes_of (by rfl) (pa_cons (pv 0) pa_nil)))
   (pss_cons (ps_set (i:=2) sc_law.nd rfl (Or.inl rfl) (pe_callTy call_list_of (by rfl) T.n_list b_list (pa_cons (pv 1) pa_nil)))
   (pss_cons (ps_if (pw_or (pt_not (pt_val (pe_callG G_law_right (hr.mono (by decide)) passes_of (by rfl) (pa_cons (pv 1) (pa_cons (pe_callG G_lanes (hr.mono (by decide)) passes_of (by rfl) (pa_cons (pv 2) pa_nil)) pa_nil))))) (pw_or1 (pt_cmpR (op_neLK hr.units) (pv 2) (pv 1) (nomark _)))).pt (pss_one (ps_ret pe_bl)) pss_nil)
   (pss_cons (ps_set (i:=3) sc_law.nd rfl (Or.inl rfl) (pe_callG G_lanes (hr.mono (by decide)) passes_of (by rfl) (pa_cons (pv 2) pa_nil)))
   (pss_cons (ps_expr (pe_bm0 PySem.F.plainAttrs_list PySem.F.slot_list_clear PySem.F.type_list_clear mt_clear (pe_ix ix_tup (pv 3) pe_int (fun _ _ => rfl))))
   (pss_cons (ps_expr (pe_bm0 PySem.F.plainAttrs_list PySem.F.slot_list_clear PySem.F.type_list_clear mt_clear (pe_ix ix_tup (pv 3) pe_int (fun _ _ => rfl))))
   (pss_cons (ps_if (pt_not (pt_val (pe_callG G_law_right (hr.mono (by decide)) passes_of (by rfl) (pa_cons (pv 1) (pa_cons (pe_callG G_lanes (hr.mono (by decide)) passes_of (by rfl) (pa_cons (pv 2) pa_nil)) pa_nil))))) (pss_one (ps_ret pe_bl)) pss_nil)
   (pss_cons (ps_set (i:=4) sc_law.nd rfl (Or.inl rfl) (pe_callG G_law_draw (hr.mono (by decide)) passes_of (by rfl) (pa_cons (pe_callG G_law_well (hr.mono (by decide)) passes_of (by rfl) (pa_cons (pv 0) (pa_cons pe_int pa_nil))) (pa_cons (pe_op op_add (pe_callB call_len_seq (by rfl) T.n_len b_len (pa_cons (pv 1) pa_nil)) pe_int) pa_nil))))
   (pss_cons (ps_if (pt_cmpR (op_eq_nil hr.units0) (pv 1) (pe_lst pa_nil) (nomark _)) (pss_one (ps_ret (pe_callG G_law_refused (hr.mono (by decide)) passes_of (by rfl) (pa_cons (pe_lst (pa_cons (pe_tup (pa_cons pe_str (pa_cons pe_int (pa_cons pe_int pa_nil)))) pa_nil)) pa_nil)))) pss_nil)
   (pss_cons (ps_asg (pe_ix ix_list (pv 1) (pe_op op_mod (pv 4) (pe_callB call_len_seq (by rfl) T.n_len b_len (pa_cons (pv 1) pa_nil))) (fun _ _ => rfl)) (pg_tup rfl (pgs_cons (pg_name (i:=5) sc_law.nd rfl (Or.inl rfl)) (pgs_cons (pg_name (i:=6) sc_law.nd rfl (Or.inl rfl)) (pgs_cons (pg_name (i:=7) sc_law.nd rfl (Or.inl rfl)) pgs_nil)))))
   (pss_cons (ps_if (pt_not (pt_val (pe_callG G_law_refused (hr.mono (by decide)) passes_of (by rfl) (pa_cons (pe_op op_cat (pe_op op_cat (pe_slice sl_list (pv 1) po_none (po_some (pv 4))) (pe_lst (pa_cons (pe_tup (pa_cons pe_str (pa_cons (pe_op op_add (pv 7) pe_int) (pa_cons (pv 6) pa_nil)))) pa_nil))) (pe_slice sl_list (pv 1) (po_some (pv 4)) po_none)) pa_nil)))) (pss_one (ps_ret pe_bl)) pss_nil)
   (pss_one (ps_ret (pe_callG G_law_refused (hr.mono (by decide)) passes_of (by rfl) (pa_cons (pe_op op_cat (pe_op op_cat (pe_slice sl_list (pv 1) po_none (po_some (pv 4))) (pe_lst (pa_cons (pe_tup (pa_cons (pv 5) (pa_cons (pv 6) (pa_cons (pv 7) pa_nil)))) pa_nil))) (pe_slice sl_list (pv 1) (po_some (pv 4)) po_none)) pa_nil))))))))))))))),?_⟩
  have tb0:Tabs t H:=⟨#[],htb _ (by simp [tabsOf]),trivial,.inl rfl⟩
  refine sg3 (fun (D:Addr) (ps:List Addr) (sp:List Spn) => [oR a,oR D,none,none,none,none,none,none]) (fun D ps sp H' => Same H H'∧H D = none∧H' D = some (.lst (ps.map V.ref))∧Sps H' ps sp∧sp.length≤20∧Good sp) (fun B hB => ?_) ?_
  ·exact ⟨_,rfl,a,sc,rfl,ha,hsc,fun D ps sp H' s' hD eD C l g => hB D ps sp _ ⟨s',hD,eD,C,l,g⟩⟩
  intro D ps sp H1 i
  have s1:=i.1; have hD:=i.2.1; have eD:=i.2.2.1; have C:=i.2.2.2.1; have lsp:=i.2.2.2.2.1; have g:=i.2.2.2.2.2
  refine sg1 (fun (E1:Addr) => [oR a,oR D,oR E1,none,none,none,none,none]) (fun E1 H' => LF K t H' a D E1 sc ps sp) (fun B hB => ⟨_,rfl,D,_,rfl,.inl (SqL.of eD),fun E1 hE => hB E1 _ ?_⟩) ?_
  ·have s2:=same_new (o:=.lst (ps.map V.ref)) (Same.refl H1) hE
   exact ⟨(Same.trans s1 s2).seq ha,s2 _ _ eD,upd_same,C.mono fun p xs e => s2 _ _ e,Tbl.same tb0 (Same.trans s1 s2)⟩
  intro E1 H2 x2
  refine sg0 [oR a,oR D,oR E1,none,none,none,none,none] (fun H' => LF K t H' a D E1 sc ps sp) (fun B hB => ?_) ?_
  ·refine ⟨_,rfl,_,rfl,E1,ps,sp,rfl,x2.e,x2.c,by omega,x2.t,fun _ qa R N rs rws D' col nets H3 sm3 tb3 hR hN nRN eq eR W gi pm eN pe so => ?_,fun ng => absurd g ng⟩
   have x3:=x2.sm sm3 tb3
   refine ⟨D,qa,ps,sp,R,N,rs,rws,D',col,nets,rfl,x3.d,x3.c,by omega,⟨eq,eR,W,gi,pm,eN,pe,so⟩,fun H4 s4 => ?_⟩
   have x4:=x3.same s4
   exact ⟨true,rfl,iteF ⟨_,rfl,_,rfl,E1,D,ps,ps,_,_,rfl,rfl,SqL.of x4.e,SqL.of x4.d,x4.c,x4.c,_,rfl,iteNS rfl (hB _ x4)⟩⟩
  intro H3 x3
  refine sg3 (fun (qa R N:Addr) => [oR a,oR D,oR E1,oR qa,none,none,none,none]) (fun qa R N H' => LF K t H' a D E1 sc ps sp∧(∃ col,H' qa = some (.tup [.str "lanes",.ref R,colV col,.ref N]))∧(∃ xs,H' R = some (.lst xs))∧(∃ xs,H' N = some (.lst xs))∧H3 R = none∧H3 N = none∧R≠N∧Sm H3 H') (fun B hB => ?_) ?_
  ·exact ⟨_,rfl,E1,ps,sp,rfl,x3.e,x3.c,by omega,x3.t,fun _ qa R N rs rws D' col nets H4 sm4 tb4 hR hN nRN eq eR W gi pm eN pe so => hB qa R N _ ⟨x3.sm sm4 tb4,⟨col,eq⟩,⟨_,eR⟩,⟨_,eN⟩,hR,hN,nRN,sm4⟩,fun ng => absurd g ng⟩
  intro qa R N H4 i
  obtain ⟨x4,⟨col,eq⟩,⟨xR,eR⟩,⟨xN,eN⟩,hR,hN,nRN,sm4⟩:=i
  refine sg0 [oR a,oR D,oR E1,oR qa,none,none,none,none] (fun H' => LF K t H' a D E1 sc ps sp∧H' qa = some (.tup [.str "lanes",.ref R,colV col,.ref N])∧H' N = some (.lst xN)∧Sm H3 H') (fun B hB => ?_) ?_
  ·have sm5:Sm H3 (upd H4 R (.lst [])):=sm4.keep hR (Keep.upd _)
   exact ⟨_,rfl,qa,_,1,.ref R,rfl,rfl,SqT.of eq,rfl,.inl ⟨rfl,_,SqL.of eR⟩,R,_,rfl,rfl,eR,hB _ ⟨x3.sm sm5 (Tabs.keep x4.t eR (Keep.upd _)),by rw [upd_ne (ne_of eq eR (fun z => nomatch z))]; exact eq,by rw [upd_ne nRN.symm]; exact eN,sm5⟩⟩
  intro H5 i
  have x5:=i.1; have eq5:=i.2.1; have eN5:=i.2.2.1; have sm5:=i.2.2.2
  refine sg0 [oR a,oR D,oR E1,oR qa,none,none,none,none] (fun H' => LF K t H' a D E1 sc ps sp) (fun B hB => ?_) ?_
  ·exact ⟨_,rfl,qa,_,3,.ref N,rfl,rfl,SqT.of eq5,rfl,.inl ⟨rfl,_,SqL.of eN5⟩,N,_,rfl,rfl,eN5,hB _ (x3.sm (sm5.keep hN (Keep.upd _)) (Tabs.keep x5.t eN5 (Keep.upd _)))⟩
  intro H6 x6
  refine sg0 [oR a,oR D,oR E1,oR qa,none,none,none,none] (fun H' => LF K t H' a D E1 sc ps sp) (fun B hB => ?_) ?_
  ·refine ⟨_,rfl,_,rfl,E1,ps,sp,rfl,x6.e,x6.c,by omega,x6.t,fun _ qa R N rs rws D' col nets H7 sm7 tb7 hR hN nRN eq eR W gi pm eN pe so => ?_,fun ng => absurd g ng⟩
   have x7:=x6.sm sm7 tb7
   exact ⟨D,qa,ps,sp,R,N,rs,rws,D',col,nets,rfl,x7.d,x7.c,by omega,⟨eq,eR,W,gi,pm,eN,pe,so⟩,fun H8 s8 => ⟨true,rfl,iteF (hB _ (x7.same s8))⟩⟩
  intro H7 x7
  refine sg1 (fun (at_:Int) => [oR a,oR D,oR E1,oR qa,oI at_,none,none,none]) (fun at_ H' => (0≤at_∧at_≤(ps.length:Int))∧LF K t H' a D E1 sc ps sp) (fun B hB => ?_) ?_
  ·have lps:ps.length≤20:=by rw [x7.c.len]; exact lsp
   refine ⟨_,rfl,a,sc,3,rfl,x7.a,by decide,by decide,hsc,fun p m c hp => ?_⟩
   have s8:=same_new (o:=.lst [.int m,.int c,.int 0]) (Same.refl H7) hp
   have e8:upd H7 p (.lst [.int m,.int c,.int 0]) p = some (.lst [.int m,.int c,.int 0]):=upd_same
   generalize upd H7 p (.lst [.int m,.int c,.int 0]) = H8 at s8 e8
   refine ⟨_,rfl,D,_,rfl,.inl (SqL.of (s8 _ _ x7.d)),_,1,rfl,rfl,p,_,rfl,⟨m,c,0,e8⟩,by rw [List.length_map]; omega,by rw [List.length_map]; omega,fun r H9 r0 r1 W9 K9 => hB r _ ⟨⟨r0,by rw [List.length_map] at r1; omega⟩,x7.sm ((Sm.of s8).keep hp K9) (Tabs.keep (Tbl.same x7.t s8) e8 K9)⟩⟩
  intro at_ H8 i
  have hat:=i.1; have x8:=i.2
  refine sg0 [oR a,oR D,oR E1,oR qa,oI at_,none,none,none] (fun H' => LF K t H' a D E1 sc ps sp∧0 < ps.length) (fun B hB => ?_) ?_
  ·refine ⟨_,rfl,sL0,fun M hM => ?_⟩
   have s9:=same_new (o:=.lst []) (Same.refl H8) hM
   refine ⟨D,M,_,rfl,rfl,SqL.of (s9 _ _ x8.d),SqL.of upd_same,_,rfl,?_⟩
   have x9:=x8.same s9
   generalize upd H8 M (.lst []) = H9 at s9 x9
   cases ps with
   | cons p ps => exact iteF (hB _ ⟨x9,Nat.succ_pos _⟩)
   | nil =>
    refine iteT ⟨sL3,fun p hp => ?_⟩
    have s10:=same_new (o:=.tup [.str "n",.int 1,.int 0]) (Same.refl H9) hp
    have e10:upd H9 p (.tup [.str "n",.int 1,.int 0]) p = some (.tup [.str "n",.int 1,.int 0]):=upd_same
    generalize upd H9 p (.tup [.str "n",.int 1,.int 0]) = H10 at s10 e10
    refine ⟨sL1,fun l hl => ?_⟩
    have s11:=same_new (o:=.lst [.ref p]) (Same.refl H10) hl
    have C11:Sps (upd H10 l (.lst [.ref p])) [p] [("n",1,0)]:=(show Sps (upd H10 l (.lst [.ref p])) [] [] from ⟨rfl,(fun i b k h => nomatch h)⟩).snoc (s:=("n",1,0)) (s11 _ _ e10)
    exact ⟨l,[p],[("n",1,0)],rfl,upd_same,C11,by decide,Tbl.same x9.t (Same.trans s10 s11),fun z => absurd (z.1 _ (List.mem_singleton.mpr rfl)) (by decide),fun H' _ => q H'⟩
  intro H9 i
  have x9:=i.1; have lp:=i.2
  refine sg1 (fun (s:Spn) => [oR a,oR D,oR E1,oR qa,oI at_,some (.str s.1),oI s.2.1,oI s.2.2]) (fun s H' => LF K t H' a D E1 sc ps sp∧s∈sp) (fun B hB => ?_) ?_
  ·have h0:0≤at_ % (ps.length:Int):=Int.emod_nonneg _ (by omega)
   have h1:at_ % (ps.length:Int) < ps.length:=Int.emod_lt_of_pos _ (by omega)
   obtain ⟨n,hn⟩:=Int.eq_ofNat_of_zero_le h0
   have hn1:n < ps.length:=by omega
   have hn2:n < sp.length:=by rw [← x9.c.len]; exact hn1
   have ep:=x9.c.at_ (List.getElem?_eq_getElem hn1) (List.getElem?_eq_getElem hn2)
   refine ⟨_,rfl,_,rfl,_,rfl,D,_,rfl,.inl (SqL.of x9.d),at_,_,rfl,rfl,(by show (0:Int) < _; rw [List.length_map]; omega),D,_,(n:Int),.ref ps[n],rfl,?_,SqL.of x9.d,atI_nat (by rw [List.getElem?_map,List.getElem?_eq_getElem hn1]; rfl),ps[n],_,rfl,SqT.of ep,rfl,_,_,rfl,_,_,rfl,_,_,rfl,rfl,hB sp[n] _ ⟨x9,List.getElem_mem hn2⟩⟩
   show V.int (at_ % (((ps.map V.ref).length:Nat):Int)) = V.int n
   rw [List.length_map,hn]
  intro s1' H10 i
  have x10:=i.1; have ms:=i.2
  obtain ⟨n,hn⟩:=Int.eq_ofNat_of_zero_le hat.1
  have nl:n≤ps.length:=by omega
  have lps:ps.length≤20:=by rw [x10.c.len]; exact lsp
  refine sg0 [oR a,oR D,oR E1,oR qa,oI at_,some (.str s1'.1),oI s1'.2.1,oI s1'.2.2] (fun H' => LF K t H' a D E1 sc ps sp) (fun B hB => ?_) ?_
  ·refine ⟨_,rfl,_,rfl,at_,rfl,D,_,rfl,SqL.of x10.d,fun q1 hq1 => ?_⟩
   have s11:=same_new (o:=.lst (cutV (ps.map V.ref) none (some at_))) (Same.refl H10) hq1
   have e11:upd H10 q1 (.lst (cutV (ps.map V.ref) none (some at_))) q1 = some (.lst ((ps.take n).map V.ref)):=by rw [upd_same,hn,cutT _ n (by rw [List.length_map]; exact nl),List.map_take]
   generalize upd H10 q1 (.lst (cutV (ps.map V.ref) none (some at_))) = H11 at s11 e11
   refine ⟨_,rfl,s1'.2.2,1,rfl,rfl,_,rfl,sL3,fun p hp => ?_⟩
   have s12:=same_new (o:=.tup [.str "turned",.int (s1'.2.2 + 1),.int s1'.2.1]) (Same.refl H11) hp
   have e12:upd H11 p (.tup [.str "turned",.int (s1'.2.2 + 1),.int s1'.2.1]) p = some (.tup [.str "turned",.int (s1'.2.2 + 1),.int s1'.2.1]):=upd_same
   generalize upd H11 p (.tup [.str "turned",.int (s1'.2.2 + 1),.int s1'.2.1]) = H12 at s12 e12
   refine ⟨sL1,fun l hl => ?_⟩
   have s13:=same_new (o:=.lst [.ref p]) (Same.refl H12) hl
   have e13:upd H12 l (.lst [.ref p]) l = some (.lst [.ref p]):=upd_same
   generalize upd H12 l (.lst [.ref p]) = H13 at s13 e13
   have e11':=s13 _ _ (s12 _ _ e11)
   refine ⟨q1,l,_,_,rfl,rfl,e11',e13,Nat.le_trans (show _≤60 by simp; omega) (by decide),fun c1 hc1 => ?_⟩
   have s14:=same_new (o:=.lst ((ps.take n).map V.ref ++ [.ref p])) (Same.refl H13) hc1
   have e14:upd H13 c1 (.lst ((ps.take n).map V.ref ++ [.ref p])) c1 = some (.lst ((ps.take n).map V.ref ++ [.ref p])):=upd_same
   generalize upd H13 c1 (.lst ((ps.take n).map V.ref ++ [.ref p])) = H14 at s14 e14
   have s014:=Same.trans s11 (Same.trans s12 (Same.trans s13 s14))
   refine ⟨_,rfl,_,rfl,at_,rfl,D,_,rfl,SqL.of (s014 _ _ x10.d),fun q2 hq2 => ?_⟩
   have s15:=same_new (o:=.lst (cutV (ps.map V.ref) (some at_) none)) (Same.refl H14) hq2
   have e15:upd H14 q2 (.lst (cutV (ps.map V.ref) (some at_) none)) q2 = some (.lst ((ps.drop n).map V.ref)):=by rw [upd_same,hn,cutD _ n (by rw [List.length_map]; exact nl),List.map_drop]
   generalize upd H14 q2 (.lst (cutV (ps.map V.ref) (some at_) none)) = H15 at s15 e15
   refine ⟨c1,q2,_,_,rfl,rfl,s15 _ _ e14,e15,Nat.le_trans (show _≤60 by simp; omega) (by decide),fun c2 hc2 => ?_⟩
   have s16:=same_new (o:=.lst ((ps.take n).map V.ref ++ [.ref p] ++ (ps.drop n).map V.ref)) (Same.refl H15) hc2
   have s016:=Same.trans s014 (Same.trans s15 s16)
   have x16:=x10.same s016
   have t16:=s16 _ _ (s15 _ _ (s14 _ _ (s13 _ _ e12)))
   refine ⟨c2,ps.take n ++ [p] ++ ps.drop n,sp.take n ++ [((("turned":Str),s1'.2.2 + 1,s1'.2.1):Spn)] ++ sp.drop n,rfl,by rw [upd_same,List.map_append,List.map_append]; rfl,((x16.c.take n).snoc (s:=("turned",s1'.2.2 + 1,s1'.2.1)) t16).app (x16.c.drop n),by simp; omega,x16.t,fun z => ?_,fun H' s' => ⟨true,rfl,iteF (hB _ (x16.same s'))⟩⟩
   have h1:s1'.2.2 + 1≤s1'.2.1:=z.1 (("turned":Str),s1'.2.2 + 1,s1'.2.1) (by simp)
   have h2:=g.1 _ ms
   omega
  intro H11 x11
  refine ⟨_,rfl,_,rfl,at_,rfl,D,_,rfl,SqL.of x11.d,fun q1 hq1 => ?_⟩
  have s11:=same_new (o:=.lst (cutV (ps.map V.ref) none (some at_))) (Same.refl H11) hq1
  have e11:upd H11 q1 (.lst (cutV (ps.map V.ref) none (some at_))) q1 = some (.lst ((ps.take n).map V.ref)):=by rw [upd_same,hn,cutT _ n (by rw [List.length_map]; exact nl),List.map_take]
  generalize upd H11 q1 (.lst (cutV (ps.map V.ref) none (some at_))) = G11 at s11 e11
  refine ⟨_,rfl,_,rfl,_,rfl,sL3,fun p hp => ?_⟩
  have s12:=same_new (o:=.tup [.str s1'.1,.int s1'.2.1,.int s1'.2.2]) (Same.refl G11) hp
  have e12:upd G11 p (.tup [.str s1'.1,.int s1'.2.1,.int s1'.2.2]) p = some (.tup [.str s1'.1,.int s1'.2.1,.int s1'.2.2]):=upd_same
  generalize upd G11 p (.tup [.str s1'.1,.int s1'.2.1,.int s1'.2.2]) = G12 at s12 e12
  refine ⟨sL1,fun l hl => ?_⟩
  have s13:=same_new (o:=.lst [.ref p]) (Same.refl G12) hl
  have e13:upd G12 l (.lst [.ref p]) l = some (.lst [.ref p]):=upd_same
  generalize upd G12 l (.lst [.ref p]) = G13 at s13 e13
  have e11':=s13 _ _ (s12 _ _ e11)
  refine ⟨q1,l,_,_,rfl,rfl,e11',e13,Nat.le_trans (show _≤60 by simp; omega) (by decide),fun c1 hc1 => ?_⟩
  have s14:=same_new (o:=.lst ((ps.take n).map V.ref ++ [.ref p])) (Same.refl G13) hc1
  have e14:upd G13 c1 (.lst ((ps.take n).map V.ref ++ [.ref p])) c1 = some (.lst ((ps.take n).map V.ref ++ [.ref p])):=upd_same
  generalize upd G13 c1 (.lst ((ps.take n).map V.ref ++ [.ref p])) = G14 at s14 e14
  have s014:=Same.trans s11 (Same.trans s12 (Same.trans s13 s14))
  refine ⟨_,rfl,_,rfl,at_,rfl,D,_,rfl,SqL.of (s014 _ _ x11.d),fun q2 hq2 => ?_⟩
  have s15:=same_new (o:=.lst (cutV (ps.map V.ref) (some at_) none)) (Same.refl G14) hq2
  have e15:upd G14 q2 (.lst (cutV (ps.map V.ref) (some at_) none)) q2 = some (.lst ((ps.drop n).map V.ref)):=by rw [upd_same,hn,cutD _ n (by rw [List.length_map]; exact nl),List.map_drop]
  generalize upd G14 q2 (.lst (cutV (ps.map V.ref) (some at_) none)) = G15 at s15 e15
  refine ⟨c1,q2,_,_,rfl,rfl,s15 _ _ e14,e15,Nat.le_trans (show _≤60 by simp; omega) (by decide),fun c2 hc2 => ?_⟩
  have s16:=same_new (o:=.lst ((ps.take n).map V.ref ++ [.ref p] ++ (ps.drop n).map V.ref)) (Same.refl G15) hc2
  have s016:=Same.trans s014 (Same.trans s15 s16)
  have x16:=x11.same s016
  have t16:=s16 _ _ (s15 _ _ (s14 _ _ (s13 _ _ e12)))
  refine ⟨c2,ps.take n ++ [p] ++ ps.drop n,sp.take n ++ [s1'] ++ sp.drop n,rfl,by rw [upd_same,List.map_append,List.map_append]; rfl,((x16.c.take n).snoc (s:=s1') t16).app (x16.c.drop n),by simp; omega,x16.t,fun z => ?_,fun H' _ => q H'⟩
  have z2:=z.2
  rw [List.map_append,List.map_append,List.map_cons,List.map_nil,List.append_assoc] at z2
  have z3:(s1'.1 :: ((sp.take n).map (·.1) ++ (sp.drop n).map (·.1))).Nodup:=(List.perm_middle.nodup_iff).mp z2
  rw [← List.map_append,List.take_append_drop] at z3
  exact (List.nodup_cons.mp z3).1 (List.mem_map_of_mem ms)
end
end K71
namespace K71
open PySem L2 Wd TS STb
section
variable {P:Program} {w:World} {K:PySem.W.Frag} {mg:Str→Option Value} {base:Heap} {t:Adr}
theorem law_fn (T:Txt K mg t) {h:Heap} (KX:K.In h) (hT:∀ p∈[t.pl_lanes],h.get? p = some (PySem.W.tabObj #[])):∃ (fd:FuncData) (tabs:List Addr),(∀ (s:Shared) (u:Value),BindsTo s fd ⟨[u],[]⟩ [("_law_script",u)])∧(∀ p∈tabs,isCodeTable h p∧h.get? p = some (PySem.W.tabObj #[])∧K.lookup p = none) ∧
  ∀ base:Heap,K.In base→base.Ns mainGlobals mg→BMod mg base→FnOk P w K mg base (XC P w) 10 t.f_law fd ["_law_script"] (spLaw K tabs):=by
 obtain ⟨fd,F,b⟩:=T.F_law
 refine ⟨fd,tabsOf t,b,fun p hp => ⟨?_,hT p hp,?_⟩,fun base _ _ hB => law_ok T hB F⟩
 ·obtain rfl:p = t.pl_lanes:=by simpa [tabsOf] using hp
  exact ((PySem.W.codeHd_of_K KX T.hd_lanes).tab (hT _ hp)).isCodeTable
 ·obtain rfl:p = t.pl_lanes:=by simpa [tabsOf] using hp
  exact T.nl_lanes
end
theorem walk {l:PySem.W.OpenLaw} {q:Program} {loose:List Str} {XP:(Str→Option Value)→Heap→Prop} {YP:World→Heap→Prop} {d:DefRec} {K:Params→PySem.W.Frag} (hn:l.most = some 63) (hdf:d.params.defaults = [])
  (hY:∀ (w:World) (h:Heap),YP w h→(K w.params).In h)
  (F:∀ (w:World) (mg:Str→Option Value) (fa:Addr) (h:Heap),YP w h→(K w.params).In h→h.Ns mainGlobals mg→mg d.name = some (.ref fa) →
   ∃ (fd:FuncData) (tabs:List Addr),(∀ (s:Shared) (u:Value),BindsTo s fd ⟨[u],[]⟩ [("_law_script",u)])∧(∀ p∈tabs,isCodeTable h p∧h.get? p = some (PySem.W.tabObj #[])∧(K w.params).lookup p = none) ∧
    ∀ base:Heap,(K w.params).In base→base.Ns mainGlobals mg→BMod mg base→FnOk l.prog w (K w.params) mg base (XC l.prog w) 10 fa fd ["_law_script"] (spLaw (K w.params) tabs)) :
  PySem.W.WalkO q loose XP YP l.row.toRowW d [] (fun f vs => PySem.call f vs) :=
 L2.walk_ofT (n:=63) (k:=10) (x:="_law_script") (sp:=spLaw) hn (by decide) hdf ⟨fun _ => rfl,by decide,by decide⟩ hY F fun K tabs H a ns hl hS hT => ⟨a,ns,rfl,hS,hl,hT,fun _ => rfl⟩
end K71
open PySem PySem.W PyProof.Rows
set_option maxRecDepth 100000 in
set_option maxHeartbeats 0 in
theorem PySem.Challenge.cw_copperbook_k71_whole_fewest_lanes_holds : PySem.Challenge.rw_copperbook_k71_whole_fewest_lanes.Holds := by
 w_on; o_law; k_head; (case hw => w_witness2)
 k_fill
 refine K71.walk (l:=PySem.Challenge.rw_copperbook_k71_whole_fewest_lanes) rfl rfl (fun w h Y => PySem.W.km_in_of Y) ?F
 case F =>
  intro w mg fa h Y KX G hmg
  have hT8:=PySem.W.km_tabs_of Y
  have TT:∃ t:K71.Adr,K71.Txt (L2.KOf KX) mg t∧∀ p∈[t.pl_lanes],h.get? p = some (PySem.W.tabObj #[]):=by
   dsimp only [L2.KOf]
   refine' K71.txt_mk KX G ?a_lanes ?l_lanes ?cc_lanes ?k_lanes ?ko_lanes ?kp_lanes ?ch_lanes ?nl_lanes ?tb_lanes ?a_free_row ?l_free_row ?cc_free_row ?k_free_row ?a_need_spans ?l_need_spans ?cc_need_spans ?k_need_spans ?a_law_cell ?l_law_cell ?cc_law_cell ?k_law_cell ?a_law_mixed ?l_law_mixed ?cc_law_mixed ?k_law_mixed ?a_law_twice ?l_law_twice ?cc_law_twice ?k_law_twice ?a_law_well ?l_law_well ?cc_law_well ?k_law_well ?a_law_draw ?l_law_draw ?cc_law_draw ?k_law_draw ?a_law_spans ?l_law_spans ?cc_law_spans ?k_law_spans ?a_law_right ?l_law_right ?cc_law_right ?k_law_right ?a_law_refused ?l_law_refused ?cc_law_refused ?k_law_refused ?a_law ?l_law ?cc_law ?k_law ?g_CopperError ?g_NoShape ?g_NoBoard ?g_NoDrawing ?g_NoPin ?g_NoSpan ?x_NoSpan ?ga_NoSpan ?gt_NoSpan ?gc_NoSpan ?ge_NoSpan ?gk_NoSpan ?mo_NoSpan ?mb_NoSpan ?xm_NoSpan_CopperError ?ki_NoSpan_NoSpan ?ka_NoSpan ?n_isinstance ?n_int ?n_bool ?n_list ?n_tuple ?n_len ?n_range ?n_sorted ?n_set ?n_str ?n_zip
   (case a_lanes => k_is)
   (case l_lanes => k_is)
   (case cc_lanes => k_is)
   (case k_lanes => k_is)
   (case ko_lanes => k_is)
   (case kp_lanes => exact rfl)
   (case ch_lanes => kernel_rfl)
   (case nl_lanes => kernel_rfl)
   (case tb_lanes => exact hT8 _ (by decide))
   (case a_free_row => k_is)
   (case l_free_row => k_is)
   (case cc_free_row => k_is)
   (case k_free_row => k_is)
   (case a_need_spans => k_is)
   (case l_need_spans => k_is)
   (case cc_need_spans => k_is)
   (case k_need_spans => k_is)
   (case a_law_cell => k_is)
   (case l_law_cell => k_is)
   (case cc_law_cell => k_is)
   (case k_law_cell => k_is)
   (case a_law_mixed => k_is)
   (case l_law_mixed => k_is)
   (case cc_law_mixed => k_is)
   (case k_law_mixed => k_is)
   (case a_law_twice => k_is)
   (case l_law_twice => k_is)
   (case cc_law_twice => k_is)
   (case k_law_twice => k_is)
   (case a_law_well => k_is)
   (case l_law_well => k_is)
   (case cc_law_well => k_is)
   (case k_law_well => k_is)
   (case a_law_draw => k_is)
   (case l_law_draw => k_is)
   (case cc_law_draw => k_is)
   (case k_law_draw => k_is)
   (case a_law_spans => k_is)
   (case l_law_spans => k_is)
   (case cc_law_spans => k_is)
   (case k_law_spans => k_is)
   (case a_law_right => k_is)
   (case l_law_right => k_is)
   (case cc_law_right => k_is)
   (case k_law_right => k_is)
   (case a_law_refused => k_is)
   (case l_law_refused => k_is)
   (case cc_law_refused => k_is)
   (case k_law_refused => k_is)
   (case a_law => k_is)
   (case l_law => k_is)
   (case cc_law => k_is)
   (case k_law => k_is)
   (case g_CopperError => k_is)
   (case g_NoShape => k_is)
   (case g_NoBoard => k_is)
   (case g_NoDrawing => k_is)
   (case g_NoPin => k_is)
   (case g_NoSpan => k_is)
   (case x_NoSpan => k_exc)
   (case ga_NoSpan => k_is)
   (case gt_NoSpan => k_is)
   (case gc_NoSpan => k_is)
   (case ge_NoSpan => k_is)
   (case gk_NoSpan => k_is)
   (case mo_NoSpan => k_is)
   (case mb_NoSpan => k_is)
   (case xm_NoSpan_CopperError => kts_exm)
   (case ki_NoSpan_NoSpan => kit_is)
   (case ka_NoSpan => kit_is)
   (case n_isinstance => k_is)
   (case n_int => k_is)
   (case n_bool => k_is)
   (case n_list => k_is)
   (case n_tuple => k_is)
   (case n_len => k_is)
   (case n_range => k_is)
   (case n_sorted => k_is)
   (case n_set => k_is)
   (case n_str => k_is)
   (case n_zip => k_is)
  obtain ⟨t,T,hT⟩:=TT
  have e:=hmg.symm.trans T.g_law
  cases e
  exact K71.law_fn T KX hT
