import PyProof.Rows.All
import Wide.All
import OpenK.AllK
import Wide.FinOn
import PyProof.Seq
import PyProof.RangeIter
import PyProof.TupleIter
import PyProof.StrLoop
import PyProof.WalkInts
import PyProof.StationsW
import PyProof.ZipIter
import PyProof.ListNew
import Lean
import PyProof.EqAt
import PyProof.EqKinds
import PyProof.TupleCall
import PyProof.NeKinds
import KE.IntTextLaws
import KE.KIntText
import PyProof.Draws
import PyProof.EnumMake
import PyProof.EnumFor
import PyProof.NsDelKeeps
import PyProof.Rows.StrFit
import PyProof.Rows.SortShellK
import PyProof.DictKinds
import KE.KDictList
import PyProof.DictWalks
import KE.KEqDict
import PyProof.RaisesDict
import PySem.SetOps
import PySem.Challenge.RW_copperbook_k13_turned_and_mirrored
set_option Elab.async false
set_option linter.all false
set_option maxRecDepth 100000
/- These names keep the theorem's opening from writing out equations that only make the build larger: what is built must stay
   below 64 MiB. They say nothing and are used nowhere. -/
namespace PySem.W.Fast
def tw1208986655877300713:=0
def tw2193251232184210162:=0
def tw14544039565189153040:=0
def tw9675052268655597916:=0
def tw16872831935617231606:=0
def tw15621812370368469756:=0
def tw2035794866448315772:=0
def tw13139575439855034609:=0
def tw12311549239769656410:=0
def tw8532659383856283651:=0
def tw5252304122813922934:=0
def tw8175907760309031656:=0
def tw83289928824483208:=0
def tw10937708167928574339:=0
def tw15540169975323426408:=0
def tw15236110104885970684:=0
def tw16758029757538712334:=0
def tw13226316977327232157:=0
def tw11325605970979638710:=0
def tw6755424770236474832:=0
def tw7886842202832311914:=0
def tw2991192147447143449:=0
def tw10988143484254332194:=0
def tw2755036772100798472:=0
def tw3064215599633204936:=0
def tw11984370485348792384:=0
def tw440809539678926605:=0
def tw10802991982825621194:=0
def tw13436256931398055743:=0
def tw12276094712416532925:=0
def tw13468785218252174729:=0
def tw9783032242042204369:=0
def tw14965036337324321342:=0
def tw2950147753607901576:=0
def tw10576665323537645878:=0
def tw4024476013413715785:=0
def tw1992383741683636625:=0
def tw17708830419856731777:=0
def tw17050916569198723391:=0
def tw11701580434450116657:=0
def tw17627667490220202336:=0
def tw9687456633650764456:=0
def tw3533440471242951029:=0
def tw12878360607853605829:=0
def tw77002458911961620:=0
def te15880512960271825149:=0
def tw7790769703572351064:=0
def tw14945325249441167632:=0
def tw14255153041527945874:=0
def tw17407795714701022497:=0
def tw8545563268143024234:=0
def tw3440627844398536062:=0
def tw15459415420929277117:=0
def tw5974101230230824131:=0
def tw3399091859026200164:=0
def tw12537828705792501352:=0
def tw5807802848056115941:=0
def tw11882756667317191576:=0
def tw9460512706232208764:=0
def tw11461475371409523293:=0
def tw7678331381945778661:=0
def tw11670266945458851312:=0
def tw10747540465417445943:=0
def tw17591069174276397471:=0
def tw1645789574058464591:=0
def tw7992221013917778485:=0
def tw13526570160045582427:=0
def tw12940326678155285894:=0
def tw14740721902528263585:=0
def tw4889327279127316128:=0
def tw7732887761677640136:=0
def tw4328214774214878888:=0
def tw5459736329035680061:=0
def tw12336049926402127695:=0
def tw11001892030031662428:=0
end PySem.W.Fast
namespace L2
open PySem
inductive Chn (h : Heap) (D : List Addr) : Value → Prop
  | nil : Chn h D .none
  | cons {b : Addr} {ob : Obj} {us : Array Value} {c : Value} : b ∈ D → h.get? b = some ob → ob.data = .fields us → us[2]? = some c → Chn h D c → Chn h D (.ref b)
theorem Chn.kept {h h' : Heap} {D D' : List Addr} {v : Value} (n : Chn h D v) (k : ∀ b ∈ D, ∀ o, h.get? b = some o → h'.get? b = some o) (d : ∀ b ∈ D, b ∈ D') : Chn h' D' v := by
  induction n with
  | nil => exact .nil
  | cons q1 q2 q3 q4 _ ih => exact .cons (d _ q1) (k _ q1 _ q2) q3 q4 ih
theorem Chn.small {h : Heap} {D : List Addr} {v : Value} (n : Chn h D v) : ∃ D', Chn h D' v ∧ ∀ b ∈ D', ∃ (o : Obj) (us : Array Value), h.get? b = some o ∧ o.data = .fields us ∧ 2 < us.size := by
  induction n with
  | nil => exact ⟨[], .nil, fun b hb => absurd hb (by simp)⟩
  | @cons b ob us c q1 q2 q3 q4 _ ih =>
    obtain ⟨D', m, l⟩ := ih
    refine ⟨b :: D', .cons (by simp) q2 q3 q4 (m.kept (fun _ _ _ e => e) fun d hd => List.mem_cons_of_mem _ hd), fun d hd => ?_⟩
    rcases List.mem_cons.mp hd with rfl | hd
    · exact ⟨ob, us, q2, q3, (Array.getElem?_eq_some_iff.mp q4).1⟩
    · exact l d hd
def HdL (A : Around) (h : Heap) (D : List Addr) : Prop := A.handled = none ∨ ∃ ea : Addr, A.handled = some (.ref ea) ∧ Chn h D (.ref ea)
def HdN (A : Around) (h : Heap) : Prop := ∃ D, HdL A h D
theorem HdL.keptD {A : Around} {h h' : Heap} {D : List Addr} (n : HdL A h D) (k : ∀ b ∈ D, ∀ o, h.get? b = some o → h'.get? b = some o) : HdL A h' D := by
  rcases n with z | ⟨ea, h1, h2⟩
  · exact .inl z
  · exact .inr ⟨ea, h1, h2.kept k fun _ q => q⟩
theorem HdN.small {A : Around} {h : Heap} (n : HdN A h) : ∃ D, HdL A h D ∧ ∀ b ∈ D, ∃ (o : Obj) (us : Array Value), h.get? b = some o ∧ o.data = .fields us ∧ 2 < us.size := by
  obtain ⟨D, n⟩ := n
  rcases n with z | ⟨ea, h1, h2⟩
  · exact ⟨[], .inl z, fun b hb => absurd hb (by simp)⟩
  · obtain ⟨D', m, l⟩ := h2.small
    exact ⟨D', .inr ⟨ea, h1, m⟩, l⟩
theorem HdN.but {A : Around} {h h' : Heap} {it : Addr} (n : HdN A h) (k : Heap.SameBut it h h') (ne : ∃ (o : Obj) (us : Array Value), h.get? it = some o ∧ o.data = .fields us ∧ us.size ≤ 2) : HdN A h' := by
  obtain ⟨D, n, l⟩ := n.small
  refine ⟨D, n.keptD fun b hb o e => (k.2 b fun q => ?_).trans e⟩
  obtain ⟨o1, us1, e1, e2, e3⟩ := l b hb
  obtain ⟨o2, us2, f1, f2, f3⟩ := ne
  rw [q, f1] at e1; cases e1
  rw [f2] at e2; cases e2
  omega
theorem entry_unchain : entryFor table "proto.unchain" = some Builtin.«proto.unchain» := entryFor_of_tree (by kernel_rfl)
section
variable {prog : Program} {w : World} {A : Around} {E : Value → Shared → Prop} {s : Shared}
inductive Pth (h : Heap) : Addr → Addr → Prop
  | refl (a : Addr) : Pth h a a
  | step {a b o : Addr} {ob : Obj} {us : Array Value} : h.get? a = some ob → ob.data = .fields us → us[2]? = some (.ref b) → Pth h b o → Pth h a o
theorem Pth.snoc {h : Heap} {a o b : Addr} {ob : Obj} {us : Array Value} (p : Pth h a o) (h1 : h.get? o = some ob) (h2 : ob.data = .fields us) (h3 : us[2]? = some (.ref b)) : Pth h a b := by
  induction p with
  | refl a => exact .step h1 h2 h3 (.refl b)
  | step q1 q2 q3 _ ih => exact .step q1 q2 q3 (ih h1)
def Far (h : Heap) (a o : Addr) : Prop := ∃ (b : Addr) (ob : Obj) (us : Array Value), h.get? a = some ob ∧ ob.data = .fields us ∧ us[2]? = some (.ref b) ∧ Pth h b o
theorem Pth.far {h : Heap} {a o b : Addr} {ob : Obj} {us : Array Value} (p : Pth h a o) (h1 : h.get? o = some ob) (h2 : ob.data = .fields us) (h3 : us[2]? = some (.ref b)) : Far h a b := by
  cases p with
  | refl => exact ⟨b, ob, us, h1, h2, h3, .refl b⟩
  | step q1 q2 q3 p => exact ⟨_, _, _, q1, q2, q3, p.snoc h1 h2 h3⟩
theorem unchain_on {e : Addr} {D : List Addr} {R : Result → Shared → Prop} (new : e ∉ D) (h : R (.ok (.ret .none)) s) {v : Value} (n : Chn s.heap D v) : ∀ (o slow : Addr) (tg : Bool), v = .ref o → Pth s.heap slow o → (tg = true → Far s.heap slow o) →
    codeAny (model prog w) A (.builtin "proto.unchain" ⟨[.ref e, .ref o, .ref slow, .bool tg], []⟩) R s := by
  induction n with
  | nil => intro o slow tg q; cases q
  | @cons b ob us c q1 q2 q3 q4 m ih =>
    intro o slow tg q p far
    cases q
    refine codeAny_builtin entry_unchain ?_
    unfold Builtin.«proto.unchain»
    dsimp only
    refine wpAny_bind (wpAny_field q2 q3 (x := c) q4 ?_)
    cases m with
    | nil => exact wpAny_pure h
    | @cons b2 ob2 us2 c2 r1 r2 r3 r4 m2 =>
      have nbe : b2 ≠ e := fun q => new (q ▸ r1)
      rw [if_neg (show ¬ ((Value.ref b2 == Value.none) = true) from Bool.false_ne_true), if_neg (show ¬ ((Value.ref b2 == Value.ref e) = true) by simpa using nbe)]
      by_cases hs : b2 = slow
      · subst hs
        rw [if_pos (by simp)]
        exact wpAny_bind (wpAny_rule (wpAny_pure h))
      · rw [if_neg (show ¬ ((Value.ref b2 == Value.ref slow) = true) by simpa using hs)]
        cases tg with
        | false => exact wpAny_bind (wpAny_pure (wpAny_pure ⟨Code.quiet_builtin _ (by decide +kernel), ih b2 slow true rfl (p.snoc q2 q3 q4) fun _ => p.far q2 q3 q4⟩))
        | true =>
          obtain ⟨b3, ob3, us3, f1, f2, f3, p3⟩ := far rfl
          exact wpAny_bind (wpAny_field f1 f2 (x := .ref b3) f3 (wpAny_pure ⟨Code.quiet_builtin _ (by decide +kernel), ih b2 b3 false rfl (p3.snoc q2 q3 q4) fun z => by cases z⟩))
theorem raise_on {α : Type} {Q : α → Shared → Prop} {e : Addr} {oe : Obj} {vs : Array Value} {D : List Addr} (hn : HdL A s.heap D) (he : s.heap.get? e = some oe) (hd : oe.data = .fields vs) (h2 : 2 < vs.size)
    (new : e ∉ D)
    (h : ∀ h', (h' = s.heap ∧ A.handled = none) ∨ (∃ ea, A.handled = some (.ref ea) ∧ h' = s.heap.update e (Obj.mapFields (·.setIfInBounds 2 (.ref ea)))) → Heap.SameBut e s.heap h' → (∃ o, h'.get? e = some o ∧ o.cls = oe.cls) → E (.ref e) { s with heap := h' }) : wpAny (model prog w) A (raiseNew (.ref e) : Sem α) Q E s := by
  unfold raiseNew
  refine wpAny_bind (wpAny_handled ?_)
  rcases hn with z | ⟨ea, z, n⟩
  · rw [z]
    exact wpAny_bind (wpAny_pure (wpAny_throw (h s.heap (.inl ⟨rfl, z⟩) ⟨rfl, fun _ _ => rfl⟩ ⟨oe, he, rfl⟩)))
  · have ne : ea ≠ e := fun q => by cases n with | cons q1 => exact new (q ▸ q1)
    rw [z]
    dsimp only
    have hne : (Value.ref ea != Value.ref e) = true := by
      rw [bne_iff_ne]; intro q; exact ne (Value.ref.inj q)
    rw [hne]
    have wf : ∀ {P : Unit → Shared → Prop}, P () { s with heap := s.heap.update e (Obj.mapFields (·.setIfInBounds 2 (.ref ea))) } → wpAny (model prog w) A (updateField e 2 (.ref ea)) P E s := fun {P} q => wpAny_setField he hd h2 q
    refine wpAny_bind (wpAny_holding (wpAny_runValue (unchain_on new ?_ n ea ea false rfl (.refl ea) fun z => by cases z)))
    exact wpAny_bind (wf (wpAny_throw (h _ (.inr ⟨ea, z, rfl⟩) (Heap.SameBut.update ..) ⟨_, Heap.get?_update_self _ he (Obj.isFreed_of_fields (Obj.data_mapFields hd _)), Obj.cls_mapFields ..⟩)))
theorem stop_on {α : Type} {Q : α → Shared → Prop} (hn : HdN A s.heap) (h : ∀ h' e, (∀ b o, s.heap.get? b = some o → h'.get? b = some o) → (∃ o, h'.get? e = some o ∧ o.cls = .type "StopIteration") → E (.ref e) { s with heap := h' }) :
    wpAny (model prog w) A (newExc (.type "StopIteration") [] >>= fun x => (raiseNew x : Sem α)) Q E s := by
  refine wpAny_bind ?_
  unfold newExc newTuple
  refine wpAny_bind (wpAny_newObj_type ?_ (by show 0 ≤ sizeLine; decide))
  refine wpAny_bind (m := firstArgMember (.type "StopIteration") []) (wpAny_of_eq (a := Value.none) rfl (wpAny_newObj_type ?_ (by size_fits)))
  generalize hp : s.heap.push _ = h1
  have k1 : ∀ b o, s.heap.get? b = some o → h1.get? b = some o := fun b o e => hp ▸ Heap.get?_push_of_some _ e
  have k2 : ∀ ob b o, h1.get? b = some o → (h1.push ob).get? b = some o := fun ob b o e => Heap.get?_push_of_some _ e
  obtain ⟨D, nD, lD⟩ := hn.small
  refine raise_on (e := h1.objs.size) (vs := _) (D := D) ((nD.keptD fun b _ o e => k1 b o e).keptD fun b _ o e => k2 _ b o e) (Heap.get?_push_size _ rfl) rfl (by show 2 < 6; decide) (fun q => ?_) fun h' _ sb ex => h h' _ (fun b o e => (sb.2 b ?_).trans (k2 _ b o (k1 b o e))) ex
  · obtain ⟨o, _, eo, _⟩ := lD _ q
    exact absurd (Heap.lt_size (k1 _ _ eo)) (Nat.lt_irrefl _)
  · exact Nat.ne_of_lt (Heap.lt_size (k1 b o e))
theorem stopped {Q : Option Value → Shared → Prop} {e : Addr} (ex : ∃ o, s.heap.get? e = some o ∧ o.cls = .type "StopIteration") (h : Q none s) :
    wpAny (model prog w) A (do if (← isInstance (.ref e) (.type "StopIteration")) = true then pure (none : Option Value) else throw (.ref e)) Q E s := by
  obtain ⟨o, h1, h2⟩ := ex
  refine wpAny_bind (wpAny_isInstance (T := "StopIteration") (b := true) ⟨o, h1, h2⟩ isSubtype_stop ?_)
  exact wpAny_pure h
theorem list_on {it l : Addr} {i : Nat} {items : Array Value} {Q : Option Value → Shared → Prop} (hn : HdN A s.heap) (hit : s.heap.IsListIter it l i) (hl : s.heap.IsList l items) (hx : items[i]? = none)
    (hQ : ∀ h', Heap.ExtBut it s.heap h' → Q none { s with heap := h' }) : wpAny (model prog w) A (pyNext (.ref it)) Q E s := by
  obtain ⟨o, ho, hc, hd⟩ := id hit
  obtain ⟨ol, hol, _, nl, hdl⟩ := hl
  unfold pyNext
  refine wpAny_bind (wpAny_attempt (wpAny_callSpecial?_slot (name := Str.ofString "__next__") hit.typeIs slot_listiter_next (wpAny_call_entry slot_listiter_next hit.typeIs entry_listiter_next ?_ (args_listiter_next _))))
  refine (show ∀ {R : Fin → Shared → Prop} {F : Value → Shared → Prop}, wpAny (model prog w) A.in1 (field (.ref it) 0 >>= _) R F s → wpAny (model prog w) A.in1 (Builtin.«list_iterator.__next__» _) R F s from fun z => z) (wpAny_bind (wpAny_field ho hd (x := .ref l) rfl ?_))
  rw [if_neg (show ¬ ((Value.ref l == Value.none) = true) from Bool.false_ne_true)]
  refine wpAny_bind (wpAny_field (i := 1) ho hd (x := .int i 0) rfl (wpAny_bind (wpAny_seqItems hol hdl ?_)))
  simp only [Int.toNat_natCast, hx]
  refine wpAny_bind (wpAny_rule (wpAny_bind (wpAny_setField ho hd (by simp) ?_)))
  have sb : Heap.SameBut it s.heap (s.heap.update it (Obj.mapFields (·.setIfInBounds 0 .none))) := Heap.SameBut.update ..
  refine stop_on (A := A.in1) (s := { s with heap := _ }) (hn.but sb ⟨o, _, ho, hd, by simp⟩) fun h' e k ex => stopped (s := { s with heap := h' }) ex (hQ h' fun b o hb q => k b o ((sb.2 b hb).trans q))
theorem range_on {it : Addr} {x left step : Int} {Q : Option Value → Shared → Prop} (hn : HdN A s.heap) (hit : IsRangeIter s.heap it x left step) (hleft : left ≤ 0)
    (hQ : ∀ h', Heap.ExtBut it s.heap h' → Q none { s with heap := h' }) : wpAny (model prog w) A (pyNext (.ref it)) Q E s := by
  have hT : s.TypeIs (.ref it) "range_iterator" := ⟨_, hit, rfl⟩
  unfold pyNext
  refine wpAny_bind (wpAny_attempt (wpAny_callSpecial?_slot (name := Str.ofString "__next__") hT F.slot_range_iterator_next (wpAny_call_entry F.slot_range_iterator_next hT F.entry_range_iterator_next ?_ (F.args_range_iterator_next_1 _))))
  refine (show ∀ {R : Fin → Shared → Prop} {F : Value → Shared → Prop}, wpAny (model prog w) A.in1 (field (.ref it) 0 >>= _) R F s → wpAny (model prog w) A.in1 (Builtin.«range_iterator.__next__» _) R F s from fun z => z) (wpAny_bind (wpAny_field hit rfl (x := rawInt x) rfl ?_))
  refine (show ∀ {k : Value → Sem Fin} {R : Fin → Shared → Prop} {F : Value → Shared → Prop}, wpAny (model prog w) A.in1 (k (rawInt left)) R F s → wpAny (model prog w) A.in1 (field (.ref it) 1 >>= k) R F s from fun z => wpAny_bind (wpAny_field hit rfl (x := rawInt left) rfl z)) ?_
  refine (show ∀ {k : Value → Sem Fin} {R : Fin → Shared → Prop} {F : Value → Shared → Prop}, wpAny (model prog w) A.in1 (k (rawInt step)) R F s → wpAny (model prog w) A.in1 (field (.ref it) 2 >>= k) R F s from fun z => wpAny_bind (wpAny_field hit rfl (x := rawInt step) rfl z)) ?_
  refine (show ∀ {a b : Sem Fin} {R : Fin → Shared → Prop} {F : Value → Shared → Prop}, wpAny (model prog w) A.in1 a R F s → wpAny (model prog w) A.in1 (if left ≤ 0 then a else b) R F s from fun z => by rw [if_pos hleft]; exact z) ?_
  refine wpAny_bind (wpAny_rule (wpAny_bind ?_))
  exact stop_on (A := A.in1) hn fun h' e k ex => stopped (s := { s with heap := h' }) ex (hQ h' fun b o _ q => k b o q)
end
end L2
namespace L2
open PySem
def TrC (h base : Heap) (e : Addr) (cls : Value) (a0 : Value × Value) (fl : Value) : Prop :=
  ∃ oe vs T oT ts, h.get? e = some oe ∧ (oe.cls = cls ∧ vs[0]? = some a0.1 ∧ vs[2]? = some a0.2) ∧ oe.data = .fields vs ∧ vs[1]? = some (.ref T) ∧ base.get? T = none ∧ T ≠ e ∧ h.get? T = some oT ∧ oT.data = .fields ts ∧ ts[3]? = some fl
structure StepC (base : Heap) (l : List Env) (e : Addr) (cls : Value) (a0 : Value × Value) (fl : Value) (h h' : Heap) : Prop where
  st : base.StaysIn h'
  ff : h'.FunFrames base l
  tr : TrC h' base e cls a0 fl
  up : h.UpToSlots h'
section
variable {M : Model} {A : Around} {E : Value → Shared → Prop} {s : Shared} {base : Heap} {env : Env} {outer : List Env} {L e : Addr} {cls : Value} {a0 : Value × Value}
theorem entry_c {oe : Obj} {vs : Array Value} {head : Value} {hadNext : Bool} {Q : Unit → Shared → Prop} (hfr : A.frames = some (env :: outer)) (hl : s.heap.FunFrames base (env :: outer)) (hf : env.frame = some L)
    (he : s.heap.get? e = some oe) (hkb : base.StaysIn s.heap) (hen : base.get? e = none) (hd : oe.data = .fields vs) (hsz : 1 < vs.size) (h0 : vs[0]? = some a0.1) (h2 : vs[2]? = some a0.2)
    (h : ∀ h', StepC base (env :: outer) e oe.cls a0 (rawInt L) s.heap h' → Q () { s with heap := h' }) :
    wpAny M A (do let a ← frameOf env; let pl ← entryPlaceOf L hadNext; let b ← EntryCells.newEntry head a .none (rawInt L) .none pl; setField (.ref e) 1 b) Q E s := by
  have rec1 : ∀ b o, s.heap.get? b = some o → (∀ us, o.data ≠ .fields us) → b ≠ e := fun b o hb hn q => by
    subst q
    rw [he] at hb; cases hb
    exact hn vs hd
  have efr : e ∉ (env :: outer).filterMap (·.frame) := fun hm => by
    obtain ⟨_, o, ho, hn⟩ := hl.mem hm
    exact rec1 e o ho hn rfl
  refine wpAny_bind (wpAny_frameOf_fun hfr hl hf fun g hg => wpAny_bind (wpAny_entryPlaceOf fun pl hpl => ?_))
  unfold EntryCells.newEntry newFields
  refine wpAny_bind (wpAny_newObj_type ?_ (hpl.sizeOk5 _ _ _ _ _))
  generalize ho : (Obj.mk (.type "traceback") none (.fields ([head, .ref L, .none, rawInt L, .none] ++ (if pl.isEmpty then List.replicate 6 Value.none else pl)).toArray) #[]) = ot
  have hoc : ot.data = .fields ([head, .ref L, .none, rawInt L, .none] ++ (if pl.isEmpty then List.replicate 6 Value.none else pl)).toArray := by rw [← ho]
  have eg : g.get? e = some oe := (hg.2.1 e efr).trans he
  have bg : base.StaysIn g := fun b o hb => (hg.2.1 b fun hm => by rw [(hl.mem hm).1] at hb; cases hb).trans (hkb b o hb)
  have nT : g.objs.size ≠ e := Nat.ne_of_gt (Heap.lt_size eg)
  have e2 : (g.push ot).get? e = some oe := Heap.get?_push_of_some _ eg
  refine wpAny_setField e2 hd hsz (h _ ?_)
  have d3 := Obj.data_mapFields hd (·.setIfInBounds 1 (Value.ref g.objs.size))
  have e3 := Heap.get?_update_self (Obj.mapFields (·.setIfInBounds 1 (Value.ref g.objs.size))) e2 (Obj.isFreed_of_fields d3)
  have keep : ∀ b o, b ≠ e → g.get? b = some o → ((g.push ot).update e (Obj.mapFields (·.setIfInBounds 1 (Value.ref g.objs.size)))).get? b = some o := fun b o hb q => by
    rw [Heap.get?_update_other _ _ (Ne.symm hb)]
    exact Heap.get?_push_of_some _ q
  have T3 : ((g.push ot).update e (Obj.mapFields (·.setIfInBounds 1 (Value.ref g.objs.size)))).get? g.objs.size = some ot := by
    rw [Heap.get?_update_other _ _ (Ne.symm nT)]
    exact Heap.get?_push_size g (by rw [← ho]; rfl)
  refine ⟨fun b o hb => keep b o (fun q => by rw [q, hen] at hb; cases hb) (bg b o hb), hl.of_keeps fun b o hb hn => ?_, ⟨_, _, g.objs.size, ot, _, e3, ⟨Obj.cls_mapFields _ _, ?_, ?_⟩, d3, by simp [hsz], bg.fresh, nT, T3, hoc, ?_⟩, fun b o hb hn => ?_⟩
  · obtain ⟨sl, q⟩ := hg.2.2 b o hb
    exact ⟨_, keep b _ (rec1 b o hb hn) q, rfl⟩
  · rw [Array.getElem?_setIfInBounds_ne (by decide)]; exact h0
  · rw [Array.getElem?_setIfInBounds_ne (by decide)]; exact h2
  · first | (simp; done) | (rcases hpl with rfl | ⟨_, _, _, _, _, _, _, rfl⟩ <;> simp)
  · obtain ⟨sl, q⟩ := hg.2.2 b o hb
    exact ⟨sl, keep b _ (rec1 b o hb hn) q⟩
theorem flight_c {l : List Env} {fl : Value} {Q : Unit → Shared → Prop} (hkb : base.StaysIn s.heap) (hl : s.heap.FunFrames base l) (ht : TrC s.heap base e cls a0 fl)
    (h : ∀ h', StepC base l e cls a0 .none s.heap h' → (∀ b o, s.heap.get? b = some o → (∀ us, o.data ≠ .fields us) → h'.get? b = some o) → Q () { s with heap := h' }) : wpAny M A (setFlight (.ref e) none) Q E s := by
  obtain ⟨oe, vs, T, oT, ts, he, hc, hd, h1, hnT, hTe, hT, hdT, h3⟩ := ht
  have z3 : 3 < ts.size := (Array.getElem?_eq_some_iff.mp h3).1
  have nrec : ∀ b o, s.heap.get? b = some o → (∀ us, o.data ≠ .fields us) → T ≠ b := fun b o hb hn q => by
    subst q
    rw [hT] at hb; cases hb
    exact hn ts hdT
  unfold setFlight
  refine wpAny_bind (wpAny_field he hd h1 ?_)
  rw [if_pos (show (Value.ref T != Value.none) = true by simp)]
  refine wpAny_setField hT hdT z3 (h _ ⟨fun b o hb => ?_, hl.of_keeps fun b o hb hn => ⟨o, ?_, rfl⟩, ⟨oe, vs, T, _, _, ?_, hc, hd, h1, hnT, hTe, Heap.get?_update_self _ hT (Obj.isFreed_of_fields (Obj.data_mapFields hdT _)), Obj.data_mapFields hdT _, by simp [z3]⟩, fun b o hb hn => ⟨o.slots, ?_⟩⟩ fun b o hb hn => ?_)
  · rw [Heap.get?_update_other _ _ (fun q => by rw [← q, hnT] at hb; cases hb)]; exact hkb b o hb
  · rw [Heap.get?_update_other _ _ (nrec b o hb hn)]; exact hb
  · rw [Heap.get?_update_other _ _ hTe]; exact he
  · rw [Heap.get?_update_other _ _ (nrec b o hb hn)]; exact hb
  · rw [Heap.get?_update_other _ _ (nrec b o hb hn)]; exact hb
theorem note_first {oe : Obj} {vs : Array Value} {Q : Unit → Shared → Prop} (hfr : A.frames = some (env :: outer)) (hl : s.heap.FunFrames base (env :: outer)) (hf : env.frame = some L)
    (he : s.heap.get? e = some oe) (hkb : base.StaysIn s.heap) (hen : base.get? e = none) (hd : oe.data = .fields vs) (h1 : vs[1]? = some .none) (h0 : vs[0]? = some a0.1) (h2 : vs[2]? = some a0.2)
    (h : ∀ h', StepC base (env :: outer) e oe.cls a0 (rawInt L) s.heap h' → Q () { s with heap := h' }) : wpAny M A (noteFrame (.ref e) env) Q E s := by
  unfold noteFrame
  simp only [hf]
  refine wpAny_bind (wpAny_field he hd h1 ?_)
  rw [if_neg (by decide)]
  exact entry_c hfr hl hf he hkb hen hd (Array.getElem?_eq_some_iff.mp h1).1 h0 h2 h
theorem note_next {Q : Unit → Shared → Prop} (hfr : A.frames = some (env :: outer)) (hl : s.heap.FunFrames base (env :: outer)) (hf : env.frame = some L) (ht : TrC s.heap base e cls a0 .none) (hkb : base.StaysIn s.heap) (hen : base.get? e = none)
    (h : ∀ h', StepC base (env :: outer) e cls a0 (rawInt L) s.heap h' → Q () { s with heap := h' }) : wpAny M A (noteFrame (.ref e) env) Q E s := by
  obtain ⟨oe, vs, T, oT, ts, he, ⟨hc, h0, h2⟩, hd, h1, hnT, hTe, hT, hdT, h3⟩ := ht
  subst hc
  have nrec : ∀ b o, s.heap.get? b = some o → (∀ us, o.data ≠ .fields us) → T ≠ b := fun b o hb hn q => by
    subst q
    rw [hT] at hb; cases hb
    exact hn ts hdT
  unfold noteFrame
  simp only [hf]
  refine wpAny_bind (wpAny_field he hd h1 ?_)
  rw [if_pos (show (Value.ref T != Value.none) = true by simp)]
  refine wpAny_bind (wpAny_field hT hdT h3 ?_)
  rw [if_neg (show ¬ ((Value.none == rawInt L) = true) by simp [rawInt])]
  refine wpAny_bind (wpAny_setField hT hdT (Array.getElem?_eq_some_iff.mp h3).1 ?_)
  refine entry_c (s := { s with heap := _ }) hfr (hl.of_keeps fun b o hb hn => ⟨o, by rw [Heap.get?_update_other _ _ (nrec b o hb hn)]; exact hb, rfl⟩) hf (by rw [Heap.get?_update_other _ _ hTe]; exact he) (fun b o hb => by
    rw [Heap.get?_update_other _ _ (fun q => by rw [← q, hnT] at hb; cases hb)]; exact hkb b o hb) hen hd (Array.getElem?_eq_some_iff.mp h1).1 h0 h2 fun h' S => h h' ⟨S.st, S.ff, S.tr, fun b o hb hn => S.up b o (by rw [Heap.get?_update_other _ _ (nrec b o hb hn)]; exact hb) hn⟩
theorem leave_first {oe : Obj} {vs : Array Value} {Q : Unit → Shared → Prop} (hfr : A.frames = some (env :: outer)) (hl : s.heap.FunFrames base (env :: outer)) (hf : env.frame = some L)
    (he : s.heap.get? e = some oe) (hkb : base.StaysIn s.heap) (hen : base.get? e = none) (hd : oe.data = .fields vs) (h1 : vs[1]? = some .none) (h0 : vs[0]? = some a0.1) (h2 : vs[2]? = some a0.2)
    (h : ∀ h', StepC base (env :: outer) e oe.cls a0 .none s.heap h' → Q () { s with heap := h' }) : wpAny M A (leaving env (.ref e)) Q E s := by
  unfold leaving
  refine wpAny_bind (note_first hfr hl hf he hkb hen hd h1 h0 h2 fun h1 S => flight_c (s := { s with heap := h1 }) S.st S.ff S.tr fun h2 S2 _ => h h2 ⟨S2.st, S2.ff, S2.tr, S.up.trans S2.up⟩)
theorem leave_next {Q : Unit → Shared → Prop} (hfr : A.frames = some (env :: outer)) (hl : s.heap.FunFrames base (env :: outer)) (hf : env.frame = some L) (ht : TrC s.heap base e cls a0 .none) (hkb : base.StaysIn s.heap) (hen : base.get? e = none)
    (h : ∀ h', StepC base (env :: outer) e cls a0 .none s.heap h' → Q () { s with heap := h' }) : wpAny M A (leaving env (.ref e)) Q E s := by
  unfold leaving
  refine wpAny_bind (note_next hfr hl hf ht hkb hen fun h1 S => flight_c (s := { s with heap := h1 }) S.st S.ff S.tr fun h2 S2 _ => h h2 ⟨S2.st, S2.ff, S2.tr, S.up.trans S2.up⟩)
end
end L2
namespace L2
open PySem
section
variable {prog : Program} {w : World} {A : Around} {E : Value → Shared → Prop} {s : Shared} {z TI TO i1 i2 l1 l2 : Addr} {xs ys : Array Value}
end
end L2
namespace L2
open PySem PySem.Spec PyProof.Rows
abbrev Key := Sum Int Str
def keyIs : Key → Value → Bool
  | .inl k, v => Value.isInt k v
  | .inr x, v => Value.isStrOf x v
def keyH (w : World) : Key → Int
  | .inl k => hashInt k
  | .inr x => hashStr w x
theorem keyIs_shape : ∀ {k : Key} {v : Value}, keyIs k v = true → (∃ i t, k = Sum.inl i ∧ v = Value.int i t) ∨ (∃ x t, k = Sum.inr x ∧ v = Value.str x t)
  | .inl i, v, h => by
    obtain ⟨t, e⟩ := Value.isInt_shape (k := i) (v := v) h
    exact .inl ⟨i, t, rfl, e⟩
  | .inr x, v, h => by
    obtain ⟨t, e⟩ := Value.isStrOf_shape (x := x) (v := v) h
    exact .inr ⟨x, t, rfl, e⟩
theorem keyIs_int (i : Int) (t : Tok) : keyIs (.inl i) (.int i t) = true := by simp [keyIs, Value.isInt]
theorem keyIs_str (x : Str) (t : Tok) : keyIs (.inr x) (.str x t) = true := by simp [keyIs, Value.isStrOf]
theorem key_ll (a b : Int) : decide ((Sum.inl a : Key) = Sum.inl b) = (a == b) := by
  by_cases e : a = b
  · subst e; simp
  · have h : ¬ (Sum.inl a : Key) = Sum.inl b := fun q => e (Sum.inl.inj q)
    rw [decide_eq_false h]
    exact (beq_eq_false_iff_ne.mpr e).symm
theorem key_rr (a b : Str) : decide ((Sum.inr a : Key) = Sum.inr b) = decide (a = b) := by
  by_cases e : a = b
  · subst e; simp
  · have h : ¬ (Sum.inr a : Key) = Sum.inr b := fun q => e (Sum.inr.inj q)
    rw [decide_eq_false h, decide_eq_false e]
theorem key_lr (a : Int) (b : Str) : decide ((Sum.inl a : Key) = Sum.inr b) = false := decide_eq_false (fun q => nomatch q)
theorem key_rl (a : Str) (b : Int) : decide ((Sum.inr a : Key) = Sum.inl b) = false := decide_eq_false (fun q => nomatch q)
def mixKind (prog : Program) (w : World) : PySem.KeyKind prog w Key where
  is := keyIs
  hash := keyH w
  inj := fun v a b ha hb => by
    rcases keyIs_shape ha with ⟨i, t, rfl, rfl⟩ | ⟨x, t, rfl, rfl⟩
    · rcases keyIs_shape hb with ⟨j, u, rfl, e⟩ | ⟨y, u, rfl, e⟩
      · injection e with e1 _; rw [e1]
      · exact nomatch e
    · rcases keyIs_shape hb with ⟨j, u, rfl, e⟩ | ⟨y, u, rfl, e⟩
      · exact nomatch e
      · injection e with e1 _; rw [e1]
  byValue := fun k v h => by
    rcases keyIs_shape h with ⟨i, t, rfl, rfl⟩ | ⟨x, t, rfl, rfl⟩ <;> rfl
  pyHash := fun hv h => by
    rcases keyIs_shape hv with ⟨i, t, rfl, rfl⟩ | ⟨x, t, rfl, rfl⟩
    · exact wpAny_pyHash_int h
    · exact wpAny_pyHash_str h
  eqBool := fun hu hv h => by
    rcases keyIs_shape hu with ⟨i, t, rfl, rfl⟩ | ⟨x, t, rfl, rfl⟩
    · rcases keyIs_shape hv with ⟨j, u, rfl, rfl⟩ | ⟨y, u, rfl, rfl⟩
      · rw [key_ll] at h; exact wpAny_eqBool_int h
      · rw [key_lr] at h; exact SeqAt.EqAt.int_str i t y u _ _ _ _ h
    · rcases keyIs_shape hv with ⟨j, u, rfl, rfl⟩ | ⟨y, u, rfl, rfl⟩
      · rw [key_rl] at h; exact SeqAt.EqAt.str_int x t j u _ _ _ _ h
      · rw [key_rr] at h; exact wpAny_eqBool_str h
  «strs» := fun k x t v h => by
    rcases keyIs_shape h with ⟨i, u, rfl, e⟩ | ⟨y, u, rfl, e⟩
    · exact nomatch e
    · injection e with e1 _
      subst e1
      cases v <;> rfl
theorem mixKind_int (prog : Program) (w : World) (i : Int) (t : Tok) : (mixKind prog w).is (.inl i) (.int i t) = true := keyIs_int i t
theorem mixKind_str (prog : Program) (w : World) (x : Str) (t : Tok) : (mixKind prog w).is (.inr x) (.str x t) = true := keyIs_str x t
end L2
namespace L2
open PySem PySem.Spec PyProof.Rows
inductive V where
  | non | bl (b : Bool) | int (i : Int) | str (x : Str) | byt (b : Array UInt8) | flt (b : UInt64) | ref (a : Addr) | ty (n : String)
  deriving DecidableEq
def RelV : V → Value → Prop
  | .non, u => u = Value.none
  | .bl b, u => u = Value.bool b
  | .int i, u => ∃ t, u = Value.int i t
  | .str x, u => ∃ t, u = Value.str x t
  | .byt b, u => ∃ t, u = Value.bytes b t
  | .flt b, u => ∃ t, u = Value.float b t
  | .ref a, u => u = Value.ref a
  | .ty n, u => u = Value.type n
abbrev Vals : List V → List Value → Prop := Paired RelV
theorem Vals.length {xs : List V} {us : List Value} (r : Vals xs us) : xs.length = us.length := Paired.length r
theorem Vals.get : ∀ {xs : List V} {us : List Value} {i : Nat} {x : V}, Vals xs us → xs[i]? = some x → ∃ u, us[i]? = some u ∧ RelV x u
  | _, _, _, _, .nil, e => by simp at e
  | _, _, 0, _, .cons r _, e => by simp at e; subst e; exact ⟨_, rfl, r⟩
  | _, _, i + 1, x, .cons _ t, e => by
    obtain ⟨u, h1, h2⟩ := Vals.get (i := i) (x := x) t (by simpa using e)
    exact ⟨u, by simpa using h1, h2⟩
theorem Vals.set {x : V} {u : Value} (r : RelV x u) : ∀ {xs : List V} {us : List Value} (i : Nat), Vals xs us → Vals (xs.set i x) (us.set i u)
  | _, _, _, .nil => .nil
  | _, _, 0, .cons _ t => .cons r t
  | _, _, i + 1, .cons q t => .cons q (Vals.set r i t)
theorem Vals.append : ∀ {xs ys : List V} {us ws : List Value}, Vals xs us → Vals ys ws → Vals (xs ++ ys) (us ++ ws)
  | _, _, _, _, .nil, s => s
  | _, _, _, _, .cons r t, s => .cons r (Vals.append t s)
theorem Vals.take : ∀ {xs : List V} {us : List Value} (n : Nat), Vals xs us → Vals (xs.take n) (us.take n)
  | _, _, 0, _ => .nil
  | _, _, _ + 1, .nil => .nil
  | _, _, n + 1, .cons r t => .cons r (Vals.take n t)
theorem Vals.drop : ∀ {xs : List V} {us : List Value} (n : Nat), Vals xs us → Vals (xs.drop n) (us.drop n)
  | _, _, 0, r => r
  | _, _, _ + 1, .nil => .nil
  | _, _, n + 1, .cons _ t => Vals.drop n t
def RelO : Option V → Option Value → Prop
  | some v, some u => RelV v u
  | none, none => True
  | _, _ => False
def KV {κ : Type} : List (κ × V) → List (κ × Value) → Prop := Paired fun (p : κ × V) (q : κ × Value) => p.1 = q.1 ∧ RelV p.2 q.2
def kV : Key → V
  | .inl i => .int i
  | .inr x => .str x
inductive HO where
  | lst (xs : List V)
  | tup (xs : List V)
  | dK (kvs : List (Key × V)) | dT (kvs : List (List Key × V))
  | set (S : Int → Bool) (n : Nat)
  | ins (C dx : Addr) (fs : List (Str × V))
  | own (x : Addr)
  | xd (fs : List (Str × V))
  | met (f x : Addr)
  | rng (lo hi : Int)
  | frz (o : Obj) (u : HO)
  | tbl (ps : Array Value)
  | ext (φ : Heap → Prop)
abbrev Hp := Addr → Option HO
def upd (H : Hp) (a : Addr) (o : HO) : Hp := fun b => if b = a then some o else H b
theorem upd_same {H : Hp} {a : Addr} {o : HO} : upd H a o a = some o := by unfold upd; rw [if_pos rfl]
theorem upd_ne {H : Hp} {a b : Addr} {o : HO} (h : b ≠ a) : upd H a o b = H b := by unfold upd; rw [if_neg h]
theorem ne_of {H : Hp} {a b : Addr} {o u : HO} (h : H a = some o) (h' : H b = some u) (d : o ≠ u) : a ≠ b := by
  intro e; subst e; rw [h] at h'; exact d (Option.some.inj h')
theorem ne_of_none {H : Hp} {a b : Addr} {o : HO} (h : H a = some o) (h' : H b = none) : a ≠ b := by
  intro e; subst e; rw [h] at h'; cases h'
section
variable (P : Program) (w : World)
def ObjOk (H : Hp) (h : Heap) (a : Addr) : HO → Prop
  | .lst xs => xs.length ≤ sizeLine ∧ ∃ (its : List Value) (n : Nat), Vals xs its ∧ h.get? a = some { cls := .type "list", data := .seq its.toArray n }
  | .tup xs => xs.length ≤ sizeLine ∧ ∃ its : List Value, Vals xs its ∧ IsTup h a its.toArray
  | .dK kvs => kvs.length ≤ sizeLine ∧ (a == sysModules) = false ∧ ∃ vs, KV kvs vs ∧ h.DictOf (mixKind P w) a vs
  | .dT kvs => kvs.length ≤ sizeLine ∧ (a == sysModules) = false ∧ ∃ xs : List (List Key × Addr × Value),
      Paired (fun (p : List Key × V) (q : List Key × Addr × Value) => p.1 = q.1 ∧ H q.2.1 = some (.tup (p.1.map kV)) ∧ RelV p.2 q.2.2) kvs xs ∧
      ∃ o es ep, h.get? a = some o ∧ o.ExactDict ∧ o.data = .dict es ep ∧ es.toList = xs.map (entryOfKey (tupleKind (mixKind P w))) ∧ (xs.map (·.1)).Nodup
  | .set S n => h.SetOf (intKind P w) a S n
  | .ins C dx fs => H dx = some (.own a) ∧ fs.length ≤ 1000 ∧ dx ≠ a ∧ h.get? a = some (PySem.W.instObj C dx) ∧
      ∃ mA, h.Ns1 dx mA ∧ (∀ f, RelO (fs.lookup f) (mA f)) ∧ PySem.Within mA (fs.map (·.1))
  | .own _ => ∃ o, h.get? a = some o
  | .xd fs => ∃ mA, h.Ns1 a mA ∧ ∀ f, RelO (fs.lookup f) (mA f)
  | .rng lo hi => ∃ t u v, h.get? a = some { cls := .type "range", data := .fields #[.int lo t, .int hi u, .int 1 v] }
  | .frz o u => h.get? a = some o ∧ ObjOk H h a u
  | .tbl ps => h.get? a = some { cls := .none, data := .fields ps }
  | .met f x => h.get? a = some (PySem.W.methodObj (.ref f) (.ref x))
  | .ext φ => φ h ∧ (∃ o, h.get? a = some o) ∧ ∀ h1 h2 : Heap, φ h1 → (∀ o, h1.get? a = some o → h2.get? a = some o) → φ h2
def HOk (H : Hp) (h : Heap) : Prop := ∀ a o, H a = some o → ObjOk P w H h a o
end
section
variable {P : Program} {w : World} {H H' : Hp} {h h' : Heap} {a : Addr} {o : HO}
theorem ObjOk.lt (x : ObjOk P w H h a o) : a < h.objs.size := by
  cases o with
  | lst xs => obtain ⟨_, _, _, _, e⟩ := x; exact Heap.lt_size e
  | tup xs => obtain ⟨_, _, _, p⟩ := x; exact p.lt
  | dK kvs => obtain ⟨_, _, _, _, o, _, _, e, _⟩ := x; exact Heap.lt_size e
  | dT kvs => obtain ⟨_, _, _, _, o, _, _, e, _⟩ := x; exact Heap.lt_size e
  | set S n => obtain ⟨o, _, _, _, e, _⟩ := x; exact Heap.lt_size e
  | ins C dx fs => obtain ⟨_, _, _, e, _⟩ := x; exact Heap.lt_size e
  | own y => obtain ⟨_, e⟩ := x; exact Heap.lt_size e
  | xd fs => obtain ⟨_, ⟨_, _, _, e, _⟩, _⟩ := x; exact Heap.lt_size e
  | rng lo hi => obtain ⟨_, _, _, e⟩ := x; exact Heap.lt_size e
  | frz ob u => obtain ⟨e, _⟩ := x; exact Heap.lt_size e
  | tbl ps => exact Heap.lt_size (show h.get? a = some _ from x)
  | met f y => exact Heap.lt_size (show h.get? a = some _ from x)
  | ext φ => obtain ⟨_, ⟨_, e⟩, _⟩ := x; exact Heap.lt_size e
theorem Paired.mapP {α β : Type} {F G : α → β → Prop} : ∀ {l₁ : List α} {l₂ : List β}, Paired F l₁ l₂ → (∀ a b, F a b → G a b) → Paired G l₁ l₂
  | _, _, .nil, _ => .nil
  | _, _, .cons r t, f => .cons (f _ _ r) (Paired.mapP t f)
theorem ObjOk.stay (x : ObjOk P w H h a o) (k : ∀ b u, (b = a ∨ H b = some (.own a)) → h.get? b = some u → h'.get? b = some u)
    (ho : ∀ b, H b = some (.own a) → H' b = some (.own a)) (ht : ∀ b xs, H b = some (.tup xs) → H' b = some (.tup xs)) : ObjOk P w H' h' a o := by
  induction o with
  | lst xs => obtain ⟨z, its, n, r, e⟩ := x; exact ⟨z, its, n, r, k _ _ (.inl rfl) e⟩
  | tup xs => obtain ⟨z, its, r, ob, e, c⟩ := x; exact ⟨z, its, r, ob, k _ _ (.inl rfl) e, c⟩
  | dK kvs => obtain ⟨z, y, vs, r, ob, es, ep, e, c⟩ := x; exact ⟨z, y, vs, r, ob, es, ep, k _ _ (.inl rfl) e, c⟩
  | dT kvs =>
    obtain ⟨z, y, xs, r, ob, es, ep, e, c⟩ := x
    exact ⟨z, y, xs, Paired.mapP r fun p q z => ⟨z.1, ht _ _ z.2.1, z.2.2⟩, ob, es, ep, k _ _ (.inl rfl) e, c⟩
  | set S n => obtain ⟨ob, es, ep, t, e, c⟩ := x; exact ⟨ob, es, ep, t, k _ _ (.inl rfl) e, c⟩
  | ins C dx fs =>
    obtain ⟨d, z, ne, e, mA, ⟨od, es, ep, e2, c⟩, r⟩ := x
    exact ⟨ho _ d, z, ne, k _ _ (.inl rfl) e, mA, ⟨od, es, ep, k _ _ (.inr d) e2, c⟩, r⟩
  | own y => obtain ⟨ob, e⟩ := x; exact ⟨ob, k _ _ (.inl rfl) e⟩
  | xd fs => obtain ⟨mA, ⟨od, es, ep, e, c⟩, r⟩ := x; exact ⟨mA, ⟨od, es, ep, k _ _ (.inl rfl) e, c⟩, r⟩
  | rng lo hi => obtain ⟨t, u, v, e⟩ := x; exact ⟨t, u, v, k _ _ (.inl rfl) e⟩
  | frz ob u ih => obtain ⟨e, q⟩ := x; exact ⟨k _ _ (.inl rfl) e, ih q⟩
  | tbl ps =>
    have e : h.get? a = some { cls := .none, data := .fields ps } := x
    show h'.get? a = some { cls := .none, data := .fields ps }
    exact k a _ (.inl rfl) e
  | met f y =>
    have e : h.get? a = some (PySem.W.methodObj (.ref f) (.ref y)) := x
    show h'.get? a = some (PySem.W.methodObj (.ref f) (.ref y))
    exact k a _ (.inl rfl) e
  | ext φ => obtain ⟨p, ⟨o, e⟩, st⟩ := x; exact ⟨st _ _ p fun o q => k _ _ (.inl rfl) q, ⟨o, k _ _ (.inl rfl) e⟩, st⟩
theorem HOk.lt (x : HOk P w H h) (e : H a = some o) : a < h.objs.size := (x a o e).lt
theorem HOk.fresh (x : HOk P w H h) (e : h.objs.size ≤ a) : H a = none := by
  cases q : H a with
  | none => rfl
  | some u => exact absurd (Nat.lt_of_lt_of_le (x.lt q) e) (Nat.lt_irrefl _)
theorem HOk.kept (x : HOk P w H h) (k : ∀ b u, h.get? b = some u → h'.get? b = some u) : HOk P w H h' := fun a o e =>
  (x a o e).stay (fun b u _ q => k b u q) (fun _ q => q) fun _ _ q => q
theorem HOk.laid (x : HOk P w H h) (k : ∀ b u, h.get? b = some u → h'.get? b = some u) (hp : h.objs.size ≤ a) (new : ObjOk P w (upd H a o) h' a o) : HOk P w (upd H a o) h' := fun b u e => by
  have hn := x.fresh hp
  by_cases hb : b = a
  · subst hb; rw [upd_same] at e; cases e; exact new
  · rw [upd_ne hb] at e
    exact (x b u e).stay (fun c v _ q => k c v q) (fun c q => by rw [upd_ne (ne_of_none q hn)]; exact q) fun c xs q => by rw [upd_ne (ne_of_none q hn)]; exact q
end
def Rd (H : Hp) (a : Addr) (u : HO) : Prop := H a = some u ∨ ∃ o, H a = some (.frz o u)
theorem Rd.ok {P : Program} {w : World} {H : Hp} {h : Heap} {a : Addr} {u : HO} (r : Rd H a u) (x : HOk P w H h) : ObjOk P w H h a u := by
  rcases r with r | ⟨o, r⟩
  · exact x a u r
  · obtain ⟨_, q⟩ := x a _ r
    exact q
def Mut : Option HO → Prop
  | some (.lst _) => True
  | some (.dK _) => True
  | some (.dT _) => True
  | some (.set _ _) => True
  | some (.ins _ _ _) => True
  | some (.ext _) => True
  | _ => False
section
variable {P : Program} {w : World} {H : Hp} {h h' : Heap} {x e : Addr} {o' : HO}
theorem HOk.write (ok : HOk P w H h) (mu : Mut (H x)) (he : e = x ∨ H e = some (.own x)) (k : ∀ b u, b ≠ e → h.get? b = some u → h'.get? b = some u) (heo : ∃ u, h'.get? e = some u)
    (new : ObjOk P w (upd H x o') h' x o') : HOk P w (upd H x o') h' := fun b u q => by
  have nown : ∀ c y, H c = some (.own y) → c ≠ x := fun c y r z => by subst z; rw [r] at mu; exact mu
  have ntup : ∀ c xs, H c = some (.tup xs) → c ≠ x := fun c xs r z => by subst z; rw [r] at mu; exact mu
  by_cases hb : b = x
  · subst hb; rw [upd_same] at q; cases q; exact new
  · rw [upd_ne hb] at q
    by_cases hbe : b = e
    · have q' : H b = some (.own x) := by
        rcases he with z | z
        · exact absurd (hbe.trans z) hb
        · rw [hbe]; exact z
      rw [q] at q'; cases q'
      obtain ⟨v, hv⟩ := heo
      exact ⟨v, by rw [hbe]; exact hv⟩
    · refine (ok b u q).stay (fun c v hc r => k c v ?_ r) (fun c r => by rw [upd_ne (nown c b r)]; exact r) fun c xs r => by rw [upd_ne (ntup c xs r)]; exact r
      rcases hc with rfl | hc
      · exact hbe
      · rintro rfl
        rcases he with z | z
        · exact nown c b hc z
        · rw [hc] at z; cases z; exact hb rfl
end
structure Un (fs ex : List Addr) (H H' : Hp) (h h' : Heap) : Prop where
  keep : ∀ b o, h.get? b = some o → H b = none → b ∉ fs → b ∉ ex → h'.get? b = some o
  slot : ∀ b o, h.get? b = some o → H b = none → b ∈ fs → b ∉ ex → ∃ sl, h'.get? b = some { o with slots := sl }
  free : ∀ b o, h.get? b = some o → H b = none → b ∉ ex → H' b = none
  there : ∀ b o, h.get? b = some o → b ∉ ex → ∃ o', h'.get? b = some o'
  tups : ∀ b xs, H b = some (.tup xs) → H' b = some (.tup xs)
  frzs : ∀ b o u, H b = some (.frz o u) → H' b = some (.frz o u)
  tbls : ∀ b ps, H b = some (.tbl ps) → ∃ more, H' b = some (.tbl (ps ++ more))
section
variable {fs fs' ex ex' : List Addr} {H H1 H2 : Hp} {h h1 h2 h' : Heap} {a x e : Addr} {o : HO}
theorem Un.any (u : Un fs ex H H1 h h1) {b : Addr} {ob : Obj} (q : h.get? b = some ob) (n : H b = none) (hx : b ∉ ex) : ∃ sl, h1.get? b = some { ob with slots := sl } := by
  by_cases hb : b ∈ fs
  · exact u.slot b ob q n hb hx
  · exact ⟨ob.slots, u.keep b ob q n hb hx⟩
theorem Un.kept (k : ∀ b u, h.get? b = some u → h'.get? b = some u) : Un fs ex H H h h' :=
  ⟨fun b ob q _ _ _ => k b ob q, fun b ob q _ _ _ => ⟨ob.slots, k b ob q⟩, fun _ _ _ n _ => n, fun b ob q _ => ⟨ob, k b ob q⟩, fun _ _ q => q, fun _ _ _ q => q, fun _ ps q => ⟨#[], by rw [q]; simp⟩⟩
theorem Un.refl : Un fs ex H H h h := Un.kept fun _ _ q => q
theorem Un.laid (k : ∀ b u, h.get? b = some u → h'.get? b = some u) (hp : h.objs.size ≤ a) (hn : H a = none) : Un fs ex H (upd H a o) h h' where
  keep := fun b u q _ _ _ => k b u q
  slot := fun b u q _ _ _ => ⟨u.slots, k b u q⟩
  free := fun b u q n _ => by rw [upd_ne (Nat.ne_of_lt (Nat.lt_of_lt_of_le (Heap.lt_size q) hp))]; exact n
  there := fun b u q _ => ⟨u, k b u q⟩
  tups := fun b xs q => by rw [upd_ne (ne_of_none q hn)]; exact q
  frzs := fun b u xs q => by rw [upd_ne (ne_of_none q hn)]; exact q
  tbls := fun b ps q => ⟨#[], by rw [upd_ne (ne_of_none q hn), q]; simp⟩
theorem Un.write (mu : Mut (H x)) (he : e = x ∨ H e = some (.own x)) (k : ∀ b u, b ≠ e → h.get? b = some u → h'.get? b = some u) (heo : ∃ u, h'.get? e = some u) : Un fs ex H (upd H x o) h h' := by
  have hx : ∀ b, H b = none → b ≠ x := fun b n z => by subst z; rw [n] at mu; exact mu
  have hb : ∀ b, H b = none → b ≠ e := fun b n z => by
    subst z
    rcases he with r | r
    · exact hx b n r
    · rw [n] at r; cases r
  have hm : ∀ b u, H b = some u → ¬ Mut (some u) → b ≠ x := fun b u q nm z => by subst z; rw [q] at mu; exact nm mu
  refine ⟨fun b u q n _ _ => k b u (hb b n) q, fun b u q n _ _ => ⟨u.slots, k b u (hb b n) q⟩, fun b u q n _ => by rw [upd_ne (hx b n)]; exact n, fun b u q _ => ?_,
    fun b xs q => by rw [upd_ne (hm b _ q fun z => z)]; exact q, fun b u xs q => by rw [upd_ne (hm b _ q fun z => z)]; exact q, fun b ps q => ⟨#[], by rw [upd_ne (hm b _ q fun z => z), q]; simp⟩⟩
  by_cases hbe : b = e
  · subst hbe; exact heo
  · exact ⟨u, k b u hbe q⟩
end
def trk (h : Heap) (H : Hp) : List Addr := (List.range h.objs.size).filter fun a => (H a).isSome
def hidT (h : Heap) (H : Hp) : Heap := PySem.W.hideAll h (trk h H)
theorem hidT_size (h : Heap) (H : Hp) : (hidT h H).objs.size = h.objs.size := PySem.W.hideAll_size _ _
theorem hidT_get {h : Heap} {H : Hp} {b : Addr} {o : Obj} (e : h.get? b = some o) (n : H b = none) : (hidT h H).get? b = some o :=
  PySem.W.hideAll_get _ e fun hm => by
    have q : (H b).isSome = true := (List.mem_filter.mp hm).2
    rw [n] at q; simp at q
theorem of_hidT {h : Heap} {H : Hp} {b : Addr} {o : Obj} (e : (hidT h H).get? b = some o) : h.get? b = some o ∧ H b = none := by
  have e' : h.get? b = some o := PySem.W.of_hideAll (trk h H) e
  refine ⟨e', ?_⟩
  cases q : H b with
  | none => rfl
  | some x =>
    have hm : b ∈ trk h H := List.mem_filter.mpr ⟨List.mem_range.mpr (Heap.lt_size e'), by simp [q]⟩
    have z : (hidT h H).get? b = none := PySem.W.hideAll_none (trk h H) hm
    rw [z] at e; cases e
end L2
namespace L2
open PySem PySem.Spec PyProof.Rows
structure Mod (K : PySem.W.Frag) (mg : Str → Option Value) (base : Heap) : Prop where
  kin : K.In base
  glob : base.Ns mainGlobals mg
  blt : ∃ mb, base.Ns builtinsNs mb ∧ ∀ x : Str, x ≠ "__name__" → mb x = bootBuiltins x
  nolimit : base.NoLimit
structure Cx where
  prog : Program
  w : World
  K : PySem.W.Frag
  mg : Str → Option Value
  base : Heap
  A : Around
  N : List Str
  s₀ : Shared
  H₀ : Hp
  env : Env
  outer : List Env
  stack : List Env
  ex : List Addr
  fn : Str → Bool
  calm : Bool
  pn : List (Addr × Obj)
  xe : Value → Shared → Prop
def frs (l : List Env) : List Addr := l.filterMap (·.frame)
abbrev Cx.fs (X : Cx) : List Addr := frs X.outer
def Vis (sc : Scope) (x : Str) : Prop := sc.names.lookup x = some .local ∨ sc.names.lookup x = some .cell ∨ sc.names.lookup x = some .free
def Loc (sc : Scope) (x : Str) : Prop := sc.names.lookup x = some .local ∨ sc.names.lookup x = some .cell
def Look (env : Env) (h : Heap) (m : Str → Option Value) (x : Str) (u : Value) : Prop :=
  (env.kindOf x = some .local ∧ m x = some u) ∨ ((env.kindOf x = some .cell ∨ env.kindOf x = some .free) ∧ ∃ c, env.cells.lookup x = some c ∧ h.IsCell c (some u))
structure Cx.Ok (X : Cx) : Prop where
  mod : Mod X.K X.mg X.base
  kind : X.env.scope.kind = .function
  glob : X.env.globals = mainGlobals
  blt : X.env.builtins = builtinsNs
  above : X.s₀.heap.objs.size ≤ X.env.locals
  inj : ∀ x y c, X.env.cells.lookup x = some c → X.env.cells.lookup y = some c → x = y
  has : ∀ x, (X.env.kindOf x = some .cell ∨ X.env.kindOf x = some .free) → ∃ c, X.env.cells.lookup x = some c
  cab : ∀ x c, X.fn x = true → X.env.cells.lookup x = some c → X.s₀.heap.objs.size ≤ c
  hd : X.calm = true → X.A.handled = none
  frames : X.A.frames = some X.stack
  stk : X.stack = X.outer ∨ (X.stack = X.env :: X.outer ∧ X.env.frame = some X.env.locals)
  exf : ∀ b ∈ X.ex, b ≠ X.env.locals ∧ ∀ x c, X.env.cells.lookup x = some c → c ≠ b
  bs : ∀ b o, X.base.get? b = some o → X.s₀.heap.get? b = some o ∧ X.H₀ b = none
  bsz : X.base.objs.size ≤ X.s₀.heap.objs.size
  noex : ∀ b o, X.base.get? b = some o → b ∉ X.ex
  exfs : ∀ b ∈ X.ex, b ∉ X.fs
  funs : X.s₀.heap.FunFrames X.base X.outer
  frf : ∀ b ∈ X.fs, X.H₀ b = none
inductive CxO (H : Hp) : Value → Prop
  | nil : CxO H .none
  | cons {b : Addr} {ob : Obj} {us : Array Value} {u : HO} {c : Value} : H b = some (.frz ob u) → ob.data = .fields us → us[2]? = some c → CxO H c → CxO H (.ref b)
theorem CxO.mono {H H' : Hp} {c : Value} (h : CxO H c) (k : ∀ b o u, H b = some (.frz o u) → H' b = some (.frz o u)) : CxO H' c := by
  induction h with
  | nil => exact .nil
  | cons q1 q2 q3 _ ih => exact .cons (k _ _ _ q1) q2 q3 ih
theorem CxO.chn {P : Program} {w : World} {H : Hp} {h : Heap} {c : Value} (n : CxO H c) (ok : HOk P w H h) : ∃ D, Chn h D c ∧ ∀ b ∈ D, ∃ o u, H b = some (.frz o u) := by
  induction n with
  | nil => exact ⟨[], .nil, fun b hb => absurd hb (by simp)⟩
  | @cons b ob us u c q1 q2 q3 _ ih =>
    obtain ⟨D, m, l⟩ := ih
    refine ⟨b :: D, .cons (by simp) (ok b _ q1).1 q2 q3 (m.kept (fun _ _ _ e => e) fun d hd => List.mem_cons_of_mem _ hd), fun d hd => ?_⟩
    rcases List.mem_cons.mp hd with rfl | hd
    · exact ⟨_, _, q1⟩
    · exact l d hd
def HdF (A : Around) (H : Hp) : Prop := A.handled = none ∨ ∃ ea : Addr, A.handled = some (.ref ea) ∧ CxO H (.ref ea)
theorem HdF.mono {A : Around} {H H' : Hp} (h : HdF A H) (k : ∀ b o u, H b = some (.frz o u) → H' b = some (.frz o u)) : HdF A H' := by
  rcases h with z | ⟨ea, h1, h2⟩
  · exact .inl z
  · exact .inr ⟨ea, h1, h2.mono k⟩
theorem HdF.now {P : Program} {w : World} {A : Around} {H : Hp} {h : Heap} (n : HdF A H) (ok : HOk P w H h) : HdN A h := by
  rcases n with z | ⟨ea, h1, h2⟩
  · exact ⟨[], .inl z⟩
  · obtain ⟨D, m, _⟩ := h2.chn ok
    exact ⟨D, .inr ⟨ea, h1, m⟩⟩
structure Inv (X : Cx) (pins : List (Addr × Obj)) (σ : List (Option V)) (H : Hp) (s : Shared) : Prop where
  ok : X.Ok
  os : s.os = X.s₀.os
  bare : AllBare s.gens
  base : Un X.fs X.ex X.H₀ H X.s₀.heap s.heap
  loc : ∃ m, s.heap.Ns X.env.locals m ∧ ∀ (i : Nat) (x : Str) (v : V), X.N[i]? = some x → σ[i]? = some (some v) → Vis X.env.scope x → ∃ u, RelV v u ∧ Look X.env s.heap m x u
  cell : ∀ x c, X.env.cells.lookup x = some c → ∃ v, s.heap.IsCell c v
  free : H X.env.locals = none
  freeC : ∀ x c, X.env.cells.lookup x = some c → H c = none
  pin : ∀ p ∈ X.pn ++ pins, s.heap.get? p.1 = some p.2 ∧ H p.1 = none ∧ p.1 ≠ X.env.locals ∧ p.1 ∉ X.fs ∧ ∀ v, p.2.data ≠ .cell v
  hok : HOk X.prog X.w H s.heap
  len : σ.length = X.N.length
  hn : HdF X.A H
section
variable {X : Cx} {pins : List (Addr × Obj)} {σ : List (Option V)} {H H' : Hp} {s : Shared} {h' : Heap}
theorem Cx.Ok.nofr (ok : X.Ok) {b : Addr} {o : Obj} (e : X.base.get? b = some o) : b ∉ X.fs := fun hb => by
  have := (ok.funs.mem hb).1
  rw [e] at this; cases this
theorem Inv.bs (I : Inv X pins σ H s) : ∀ b o, X.base.get? b = some o → s.heap.get? b = some o ∧ H b = none := fun b o e =>
  ⟨I.base.keep b o (I.ok.bs b o e).1 (I.ok.bs b o e).2 (I.ok.nofr e) (I.ok.noex b o e), I.base.free b o (I.ok.bs b o e).1 (I.ok.bs b o e).2 (I.ok.noex b o e)⟩
theorem Inv.bk (I : Inv X pins σ H s) : ∀ b o, X.base.get? b = some o → s.heap.get? b = some o := fun b o e => (I.bs b o e).1
theorem Inv.mod (I : Inv X pins σ H s) : Mod X.K X.mg X.base := I.ok.mod
theorem Inv.kIn (I : Inv X pins σ H s) : X.K.In s.heap := I.ok.mod.kin.keeps I.bk
theorem Inv.fr (I : Inv X pins σ H s) : ∃ m, Fr X.base X.env.locals s.heap m :=
  let ⟨m, hn, _⟩ := I.loc
  ⟨m, hn, I.bk, Nat.le_trans I.ok.bsz I.ok.above⟩
theorem Inv.lt (I : Inv X pins σ H s) : X.env.locals < s.heap.objs.size := let ⟨_, hn, _⟩ := I.loc; hn.lt
theorem Inv.sz (I : Inv X pins σ H s) : X.s₀.heap.objs.size ≤ s.heap.objs.size := Nat.le_trans I.ok.above (Nat.le_of_lt I.lt)
theorem Inv.nofs (I : Inv X pins σ H s) {a : Addr} (h : s.heap.objs.size ≤ a) : a ∉ X.fs := fun hb => by
  obtain ⟨_, o, ho, _⟩ := I.ok.funs.mem hb
  exact absurd (Nat.lt_of_lt_of_le (Heap.lt_size ho) (Nat.le_trans I.sz h)) (Nat.lt_irrefl _)
theorem Inv.cne (I : Inv X pins σ H s) : ∀ x c, X.env.cells.lookup x = some c → c ≠ X.env.locals := fun x c e z => by
  obtain ⟨v, o, ho, hd⟩ := I.cell x c e
  obtain ⟨m, ⟨o', es, ep, ho', hd', _⟩, _⟩ := I.loc
  rw [z, ho'] at ho; cases ho; rw [hd'] at hd; cases hd
theorem Inv.funs (I : Inv X pins σ H s) : s.heap.FunFrames X.base X.outer := by
  have all : ∀ (l : List Env), (∀ b ∈ frs l, b ∈ X.fs) → X.s₀.heap.FunFrames X.base l → s.heap.FunFrames X.base l := by
    intro l
    induction l with
    | nil => intro _ _; trivial
    | cons env r ih =>
      intro hs hl
      obtain ⟨hk, ⟨L, o, hf, hn, ho, hd⟩, hr⟩ := hl
      have hL : L ∈ X.fs := hs L (by unfold frs; rw [List.filterMap_cons, hf]; exact List.mem_cons_self)
      obtain ⟨sl, e⟩ := I.base.slot L o ho (I.ok.frf L hL) hL fun z => I.ok.exfs L z hL
      exact ⟨hk, ⟨L, _, hf, hn, e, hd⟩, ih (fun b hb => hs b (by unfold frs; rw [List.filterMap_cons, hf]; exact List.mem_cons_of_mem _ hb)) hr⟩
  exact all X.outer (fun _ hb => hb) I.ok.funs
theorem Inv.stack (I : Inv X pins σ H s) : s.heap.FunFrames X.base X.stack := by
  rcases I.ok.stk with e | ⟨e, hf⟩
  · rw [e]; exact I.funs
  · rw [e]
    obtain ⟨m, hn, _⟩ := I.loc
    refine .cons (by rw [I.ok.kind]; decide) hf hn ?_ I.funs
    exact Heap.get?_none_of_le (Nat.le_trans I.ok.bsz I.ok.above)
theorem Inv.stkSub (I : Inv X pins σ H s) : ∀ b ∈ frs X.stack, b ∈ X.env.locals :: X.fs := fun b hb => by
  rcases I.ok.stk with e | ⟨e, hf⟩
  · rw [e] at hb; exact List.mem_cons_of_mem _ hb
  · rw [e] at hb
    unfold frs at hb
    rw [List.filterMap_cons, hf] at hb
    exact hb
theorem Inv.stkFree (I : Inv X pins σ H s) : ∀ b ∈ frs X.stack, H b = none := fun b hb => by
  rcases List.mem_cons.mp (I.stkSub b hb) with e | hb
  · rw [e]; exact I.free
  · obtain ⟨_, o, ho, _⟩ := I.ok.funs.mem hb
    exact I.base.free b o ho (I.ok.frf b hb) fun z => I.ok.exfs b z hb
theorem Inv.step {g' : Array GenState} {t' : Nat} {d' : Drawn} {ch : List Addr} (I : Inv X pins σ H s)
    (hch : ∀ b ∈ ch, (b ∈ X.ex ∨ X.s₀.heap.objs.size ≤ b) ∧ b ≠ X.env.locals ∧ (∀ x c, X.env.cells.lookup x = some c → c ≠ b) ∧ ∀ p ∈ X.pn ++ pins, p.1 ≠ b)
    (keep : ∀ b o, b ≠ X.env.locals → b ∉ X.fs → b ∉ ch → s.heap.get? b = some o → H b = none → h'.get? b = some o)
    (slot : ∀ b o, b ≠ X.env.locals → b ∈ X.fs → b ∉ ch → s.heap.get? b = some o → H b = none → ∃ sl, h'.get? b = some { o with slots := sl }) (free : ∀ b o, b ∉ ch → s.heap.get? b = some o → H b = none → H' b = none)
    (there : ∀ b o, b ∉ ch → s.heap.get? b = some o → ∃ o', h'.get? b = some o')
    (tups : ∀ b xs, H b = some (.tup xs) → H' b = some (.tup xs)) (frzs : ∀ b o u, H b = some (.frz o u) → H' b = some (.frz o u)) (tbls : ∀ b ps, H b = some (.tbl ps) → ∃ more, H' b = some (.tbl (ps ++ more)))
    (ns : ∀ m, s.heap.Ns X.env.locals m → h'.Ns X.env.locals m) (hok : HOk X.prog X.w H' h') (hg : AllBare g') :
    Inv X pins σ H' { s with heap := h', gens := g', drawn := d', toks := t' } := by
  have neL : ∀ b o, X.s₀.heap.get? b = some o → b ≠ X.env.locals := fun b o e => Nat.ne_of_lt (Nat.lt_of_lt_of_le (Heap.lt_size e) I.ok.above)
  have neC : ∀ b o, X.s₀.heap.get? b = some o → b ∉ X.ex → b ∉ ch := fun b o e hx hb => by
    rcases (hch b hb).1 with z | z
    · exact hx z
    · exact absurd (Nat.lt_of_lt_of_le (Heap.lt_size e) z) (Nat.lt_irrefl _)
  have cellK : ∀ x c, X.env.cells.lookup x = some c → ∀ v, s.heap.IsCell c v → h'.IsCell c v := fun x c e v ⟨o, ho, hd⟩ => by
    have nch : c ∉ ch := fun z => (hch c z).2.2.1 x c e rfl
    by_cases hc : c ∈ X.fs
    · obtain ⟨sl, q⟩ := slot c o (I.cne x c e) hc nch ho (I.freeC x c e)
      exact ⟨_, q, hd⟩
    · exact ⟨o, keep c o (I.cne x c e) hc nch ho (I.freeC x c e), hd⟩
  refine ⟨I.ok, I.os, hg, ⟨fun b o e n hb hx => ?_, fun b o e n hb hx => ?_, fun b o e n hx => ?_, fun b o e hx => ?_, fun b xs e => tups b xs (I.base.tups b xs e), fun b o xs e => frzs b o xs (I.base.frzs b o xs e), fun b ps e => ?_⟩, ?_, fun x c e => ?_, ?_, fun x c e => ?_, fun p hp => ?_, hok, I.len, I.hn.mono frzs⟩
  · exact keep b o (neL b o e) hb (neC b o e hx) (I.base.keep b o e n hb hx) (I.base.free b o e n hx)
  · obtain ⟨sl, e1⟩ := I.base.slot b o e n hb hx
    obtain ⟨sl', e2⟩ := slot b _ (neL b o e) hb (neC b o e hx) e1 (I.base.free b o e n hx)
    exact ⟨sl', e2⟩
  · obtain ⟨o', e1⟩ := I.base.there b o e hx
    exact free b o' (neC b o e hx) e1 (I.base.free b o e n hx)
  · obtain ⟨o', e1⟩ := I.base.there b o e hx
    exact there b o' (neC b o e hx) e1
  · obtain ⟨m1, e1⟩ := I.base.tbls b ps e
    obtain ⟨m2, e2⟩ := tbls b _ e1
    exact ⟨m1 ++ m2, by rw [e2, Array.append_assoc]⟩
  · obtain ⟨m, hn, hl⟩ := I.loc
    refine ⟨m, ns m hn, fun i x v e1 e2 e3 => ?_⟩
    obtain ⟨u, r, l⟩ := hl i x v e1 e2 e3
    refine ⟨u, r, ?_⟩
    rcases l with l | ⟨k, c, e, z⟩
    · exact .inl l
    · exact .inr ⟨k, c, e, cellK x c e _ z⟩
  · obtain ⟨v, z⟩ := I.cell x c e
    exact ⟨v, cellK x c e v z⟩
  · obtain ⟨m, ⟨o, _, _, ho, _⟩, _⟩ := I.loc
    exact free _ o (fun z => (hch _ z).2.1 rfl) ho I.free
  · obtain ⟨v, o, ho, hd⟩ := I.cell x c e
    exact free c o (fun z => (hch c z).2.2.1 x c e rfl) ho (I.freeC x c e)
  · obtain ⟨e, n, ne, nf, d⟩ := I.pin p hp
    have nch : p.1 ∉ ch := fun z => (hch p.1 z).2.2.2 p hp rfl
    exact ⟨keep p.1 p.2 ne nf nch e n, free p.1 p.2 nch e n, ne, nf, d⟩
theorem Inv.un {t' : Nat} (I : Inv X pins σ H s) (u : Un X.fs [] H H' s.heap h') (hok : HOk X.prog X.w H' h') : Inv X pins σ H' { s with heap := h', toks := t' } := by
  obtain ⟨m, ⟨o, es, ep, ho, r⟩, _⟩ := id I.loc
  obtain ⟨sl, hL⟩ := u.any ho I.free (by simp)
  exact I.step (g' := s.gens) (d' := s.drawn) (ch := []) (fun _ z => nomatch z) (fun b o _ hb _ e n => u.keep b o e n hb (by simp)) (fun b o _ hb _ e n => u.slot b o e n hb (by simp)) (fun b o _ e n => u.free b o e n (by simp)) (fun b o _ e => u.there b o e (by simp)) u.tups u.frzs u.tbls (fun m' hm => by
    obtain ⟨o', es', ep', ho', r'⟩ := hm
    rw [ho] at ho'; cases ho'
    exact ⟨_, es', ep', hL, r'⟩) hok I.bare
theorem Inv.call {g' : Array GenState} {t' : Nat} {d' : Drawn} {ch : List Addr} (I : Inv X pins σ H s) (u : Un (frs X.stack) ch H H' s.heap h') (hok : HOk X.prog X.w H' h') (hg : AllBare g')
    (hch : ∀ b ∈ ch, (b ∈ X.ex ∨ X.s₀.heap.objs.size ≤ b) ∧ b ≠ X.env.locals ∧ (∀ x c, X.env.cells.lookup x = some c → c ≠ b) ∧ ∀ p ∈ X.pn ++ pins, p.1 ≠ b) :
    Inv X pins σ H' { s with heap := h', gens := g', drawn := d', toks := t' } := by
  obtain ⟨m, ⟨o, es, ep, ho, r⟩, _⟩ := id I.loc
  obtain ⟨sl, hL⟩ := u.any ho I.free fun z => (hch _ z).2.1 rfl
  exact I.step (ch := ch) hch (fun b o hL hb hc e n => u.keep b o e n (fun z => (List.mem_cons.mp (I.stkSub b z)).elim hL hb) hc) (fun b o _ _ hc e n => u.any e n hc) (fun b o hc e n => u.free b o e n hc) (fun b o hc e => u.there b o e hc) u.tups u.frzs u.tbls (fun m' hm => by
    obtain ⟨o', es', ep', ho', r'⟩ := hm
    rw [ho] at ho'; cases ho'
    exact ⟨_, es', ep', hL, r'⟩) hok hg
theorem Inv.turned {t' : Nat} {it : Addr} (I : Inv X pins σ H s) (k : ∀ b o, b ≠ it → s.heap.get? b = some o → h'.get? b = some o) (hn : H it = none) (hL : it ≠ X.env.locals)
    (h1 : it ∈ X.ex ∨ X.s₀.heap.objs.size ≤ it) (h2 : ∀ x c, X.env.cells.lookup x = some c → c ≠ it) (h3 : ∀ p ∈ X.pn ++ pins, p.1 ≠ it) : Inv X pins σ H { s with heap := h', toks := t' } := by
  have nit : ∀ b u, H b = some u → b ≠ it := fun b u e z => by rw [z, hn] at e; cases e
  refine I.step (g' := s.gens) (d' := s.drawn) (ch := [it]) (fun b hb => ?_) (fun b o _ _ hc e _ => k b o (fun z => hc (by simp [z])) e) (fun b o _ _ hc e _ => ⟨o.slots, k b o (fun z => hc (by simp [z])) e⟩) (fun _ _ _ _ n => n)
    (fun b o hc e => ⟨o, k b o (fun z => hc (by simp [z])) e⟩) (fun _ _ e => e) (fun _ _ _ e => e) (fun b ps e => ⟨#[], by rw [e]; simp⟩) (fun m hm => ?_) (fun b u e => ?_) I.bare
  · have e : b = it := by simpa using hb
    subst e
    exact ⟨h1, hL, h2, h3⟩
  · obtain ⟨o, es, ep, ho, r⟩ := hm
    exact ⟨o, es, ep, k _ o (Ne.symm hL) ho, r⟩
  · refine (I.hok b u e).stay (fun c v hc q => k c v ?_ q) (fun _ q => q) fun _ _ q => q
    rcases hc with z | z
    · rw [z]; exact nit b u e
    · exact nit c _ z
theorem Inv.tok (I : Inv X pins σ H s) (t : Nat) : Inv X pins σ H { s with toks := t } := I.un (h' := s.heap) (t' := t) Un.refl I.hok
theorem Inv.kept {t' : Nat} (I : Inv X pins σ H s) (k : ∀ b u, s.heap.get? b = some u → h'.get? b = some u) : Inv X pins σ H { s with heap := h', toks := t' } := I.un (Un.kept k) (I.hok.kept k)
theorem Inv.laid {a : Addr} {o : HO} {t' : Nat} (I : Inv X pins σ H s) (k : ∀ b u, s.heap.get? b = some u → h'.get? b = some u) (hp : s.heap.objs.size ≤ a) (new : ObjOk X.prog X.w (upd H a o) h' a o) :
    Inv X pins σ (upd H a o) { s with heap := h', toks := t' } := I.un (Un.laid k hp (I.hok.fresh hp)) (I.hok.laid k hp new)
theorem Inv.write {x e : Addr} {o : HO} {t' : Nat} (I : Inv X pins σ H s) (mu : Mut (H x)) (he : e = x ∨ H e = some (.own x)) (k : ∀ b u, b ≠ e → s.heap.get? b = some u → h'.get? b = some u) (heo : ∃ u, h'.get? e = some u)
    (new : ObjOk X.prog X.w (upd H x o) h' x o) : Inv X pins σ (upd H x o) { s with heap := h', toks := t' } := I.un (Un.write mu he k heo) (I.hok.write mu he k heo new)
theorem Inv.weak {σ' : List (Option V)} (I : Inv X pins σ H s) (hl : σ'.length = σ.length) (w : ∀ (i : Nat) v, σ'[i]? = some (some v) → σ[i]? = some (some v)) : Inv X pins σ' H s :=
  ⟨I.ok, I.os, I.bare, I.base, let ⟨m, hn, hl'⟩ := I.loc; ⟨m, hn, fun i x v e1 e2 e3 => hl' i x v e1 (w i v e2) e3⟩, I.cell, I.free, I.freeC, I.pin, I.hok, hl.trans I.len, I.hn⟩
theorem Inv.pins_of {pins' : List (Addr × Obj)} (I : Inv X pins σ H s) (h : ∀ p ∈ pins', s.heap.get? p.1 = some p.2 ∧ H p.1 = none ∧ p.1 ≠ X.env.locals ∧ p.1 ∉ X.fs ∧ ∀ v, p.2.data ≠ .cell v) : Inv X pins' σ H s :=
  ⟨I.ok, I.os, I.bare, I.base, I.loc, I.cell, I.free, I.freeC, fun p hp => (List.mem_append.mp hp).elim (fun z => I.pin p (List.mem_append_left _ z)) (h p), I.hok, I.len, I.hn⟩
theorem nodup_ix {N : List Str} (hN : N.Nodup) {i j : Nat} {x : Str} (a : N[i]? = some x) (b : N[j]? = some x) : i = j := by
  obtain ⟨h1, e1⟩ := List.getElem?_eq_some_iff.mp a
  obtain ⟨h2, e2⟩ := List.getElem?_eq_some_iff.mp b
  exact (List.getElem_inj hN).mp (e1.trans e2.symm)
theorem store_ok2 {M : Model} {A : Around} {E : Value → Shared → Prop} {i : Nat} {x : Str} {v : V} {u : Value} {Q : Unit → Shared → Prop} (I : Inv X pins σ H s) (hN : X.N.Nodup) (hi : X.N[i]? = some x) (hx : Loc X.env.scope x) (r : RelV v u)
    (h : ∀ s', Inv X pins (σ.set i (some v)) H s' → (∃ a, Heap.SameBut a s.heap s'.heap ∧ (a = X.env.locals ∨ X.env.cells.lookup x = some a)) → Q () s') (hf : X.fn x = true ∨ X.env.scope.names.lookup x = some .local := by first | exact .inl rfl | exact .inr rfl | assumption) : wpAny M A (storeName X.env x u) Q E s := by
  obtain ⟨m, hn, hl⟩ := id I.loc
  have hcls : (X.env.scope.kind == .class || (X.env.scope.kind == .module && X.env.locals != X.env.globals)) = false := by rw [I.ok.kind]; rfl
  have hiσ : i < σ.length := by rw [I.len]; exact (List.getElem?_eq_some_iff.mp hi).1
  have cne := I.cne
  have tracked : ∀ {a : Addr} {h' : Heap}, (∃ o, s.heap.get? a = some o ∧ H a = none) → Heap.SameBut a s.heap h' → HOk X.prog X.w H h' := fun {a h'} ha hs b ob e => by
    obtain ⟨_, _, hfree⟩ := ha
    refine (I.hok b ob e).stay (fun c w' hc q => (hs.2 c ?_).trans q) (fun _ q => q) fun _ _ q => q
    rintro rfl
    rcases hc with rfl | hc
    · rw [hfree] at e; cases e
    · rw [hfree] at hc; cases hc
  rcases hx with hk | hk
  · refine wpAny_storeName_local hk hn (fun h' hn' hs => ?_) hcls
    obtain ⟨oL, _, _, hoL, _⟩ := id hn
    refine h _ ⟨I.ok, I.os, I.bare, ⟨fun b o e n hb hx => ?_, fun b o e n hb hx => ?_, I.base.free, fun b o e hx => ?_, I.base.tups, I.base.frzs, I.base.tbls⟩, ⟨_, hn', fun j y v' e1 e2 e3 => ?_⟩, fun y c e => ?_, I.free, I.freeC, fun p hp => ?_, tracked ⟨oL, hoL, I.free⟩ hs, by simpa using I.len, I.hn⟩ ⟨_, hs, .inl rfl⟩
    · exact (hs.2 b (Nat.ne_of_lt (Nat.lt_of_lt_of_le (Heap.lt_size e) I.ok.above))).trans (I.base.keep b o e n hb hx)
    · obtain ⟨sl, e1⟩ := I.base.slot b o e n hb hx
      exact ⟨sl, (hs.2 b (Nat.ne_of_lt (Nat.lt_of_lt_of_le (Heap.lt_size e) I.ok.above))).trans e1⟩
    · obtain ⟨o', e1⟩ := I.base.there b o e hx
      exact ⟨o', (hs.2 b (Nat.ne_of_lt (Nat.lt_of_lt_of_le (Heap.lt_size e) I.ok.above))).trans e1⟩
    · by_cases hj : j = i
      · subst hj
        rw [hi] at e1; cases e1
        rw [List.getElem?_set_self hiσ] at e2
        cases e2
        exact ⟨u, r, .inl ⟨hk, by simp⟩⟩
      · rw [List.getElem?_set_ne (Ne.symm hj)] at e2
        obtain ⟨u', r', q⟩ := hl j y v' e1 e2 e3
        refine ⟨u', r', ?_⟩
        rcases q with ⟨k, e⟩ | ⟨k, c, e, z⟩
        · refine .inl ⟨k, ?_⟩
          have : y ≠ x := fun e => hj (nodup_ix hN e1 (e ▸ hi))
          simp [this, e]
        · exact .inr ⟨k, c, e, z.sameBut hs (cne y c e)⟩
    · obtain ⟨w', z⟩ := I.cell y c e
      exact ⟨w', z.sameBut hs (cne y c e)⟩
    · obtain ⟨e, n, ne, nf, d⟩ := I.pin p hp
      exact ⟨(hs.2 p.1 ne).trans e, n, ne, nf, d⟩
  · have hfn : X.fn x = true := by
      rcases hf with z | z
      · exact z
      · rw [z] at hk; cases hk
    obtain ⟨c, hc⟩ := I.ok.has x (.inl hk)
    obtain ⟨w', z⟩ := I.cell x c hc
    refine wpAny_storeName_cell I.ok.kind hk hc z (fun h' hc' hs => ?_)
    obtain ⟨oc, hoc, hocd⟩ := id z
    refine h { s with heap := h' } ⟨I.ok, I.os, I.bare, ⟨fun b o e n hb hx => ?_, fun b o e n hb hx => ?_, I.base.free, fun b o e hx => ?_, I.base.tups, I.base.frzs, I.base.tbls⟩, ⟨m, hn.sameBut hs (Ne.symm (cne x c hc)), fun j y v' e1 e2 e3 => ?_⟩, fun y c' e => ?_, I.free, I.freeC, fun p hp => ?_, tracked ⟨oc, hoc, I.freeC x c hc⟩ hs, by simpa using I.len, I.hn⟩ ⟨c, hs, .inr hc⟩
    · exact (hs.2 b (Nat.ne_of_lt (Nat.lt_of_lt_of_le (Heap.lt_size e) (I.ok.cab x c hfn hc)))).trans (I.base.keep b o e n hb hx)
    · obtain ⟨sl, e1⟩ := I.base.slot b o e n hb hx
      exact ⟨sl, (hs.2 b (Nat.ne_of_lt (Nat.lt_of_lt_of_le (Heap.lt_size e) (I.ok.cab x c hfn hc)))).trans e1⟩
    · obtain ⟨o', e1⟩ := I.base.there b o e hx
      exact ⟨o', (hs.2 b (Nat.ne_of_lt (Nat.lt_of_lt_of_le (Heap.lt_size e) (I.ok.cab x c hfn hc)))).trans e1⟩
    · by_cases hj : j = i
      · subst hj
        rw [hi] at e1; cases e1
        rw [List.getElem?_set_self hiσ] at e2
        cases e2
        exact ⟨u, r, .inr ⟨.inl hk, c, hc, hc'⟩⟩
      · rw [List.getElem?_set_ne (Ne.symm hj)] at e2
        obtain ⟨u', r', q⟩ := hl j y v' e1 e2 e3
        refine ⟨u', r', ?_⟩
        rcases q with q | ⟨k, c', e, z'⟩
        · exact .inl q
        · refine .inr ⟨k, c', e, z'.sameBut hs ?_⟩
          rintro rfl
          exact hj (nodup_ix hN e1 (I.ok.inj _ _ _ e hc ▸ hi))
    · by_cases hcc : c' = c
      · subst hcc; exact ⟨_, hc'⟩
      · obtain ⟨w2, z2⟩ := I.cell y c' e
        exact ⟨w2, z2.sameBut hs hcc⟩
    · obtain ⟨e, n, ne, nf, d⟩ := I.pin p hp
      refine ⟨(hs.2 p.1 ?_).trans e, n, ne, nf, d⟩
      intro q
      rw [q, hoc] at e
      have q' : oc = p.2 := Option.some.inj e
      exact d w' (by rw [← q']; exact hocd)
theorem store_ok {M : Model} {A : Around} {E : Value → Shared → Prop} {i : Nat} {x : Str} {v : V} {u : Value} {Q : Unit → Shared → Prop} (I : Inv X pins σ H s) (hN : X.N.Nodup) (hi : X.N[i]? = some x) (hx : Loc X.env.scope x) (r : RelV v u)
    (h : ∀ s', Inv X pins (σ.set i (some v)) H s' → Q () s') (hf : X.fn x = true ∨ X.env.scope.names.lookup x = some .local := by first | exact .inl rfl | exact .inr rfl | assumption) : wpAny M A (storeName X.env x u) Q E s :=
  store_ok2 I hN hi hx r (fun s' I' _ => h s' I') hf
theorem Inv.call' {s' : Shared} {ch : List Addr} (I : Inv X pins σ H s) (ho : s'.os = s.os) (u : Un (frs X.stack) ch H H' s.heap s'.heap) (hok : HOk X.prog X.w H' s'.heap) (hg : AllBare s'.gens)
    (hch : ∀ b ∈ ch, (b ∈ X.ex ∨ X.s₀.heap.objs.size ≤ b) ∧ b ≠ X.env.locals ∧ (∀ x c, X.env.cells.lookup x = some c → c ≠ b) ∧ ∀ p ∈ X.pn ++ pins, p.1 ≠ b) : Inv X pins σ H' s' := by
  obtain ⟨h', g', d', t', o'⟩ := s'
  have e : o' = s.os := ho
  subst e
  exact I.call (g' := g') (t' := t') (d' := d') u hok hg hch
end
abbrev XK := Value → Option Addr → Hp → Prop
abbrev St := List (Option V)
abbrev VK := V → Hp → Prop
abbrev TE := St → Hp → VK → Prop
abbrev TT := St → Hp → (Bool → Hp → Prop) → Prop
abbrev TA := St → Hp → (List V → Hp → Prop) → Prop
structure Ends where
  nx : St → Hp → Prop
  rt : VK
  bk : St → Hp → Prop := fun _ _ => False
  ct : St → Hp → Prop := fun _ _ => False
abbrev TS := Ends → St → Hp → Prop
def EP (X : Cx) (pins : List (Addr × Obj)) (σ : St) (Q : VK) (u : Value) (s' : Shared) : Prop := ∃ v H', Inv X pins σ H' s' ∧ RelV v u ∧ Q v H'
def TP (X : Cx) (pins : List (Addr × Obj)) (σ : St) (Q : Bool → Hp → Prop) (b : Bool) (s' : Shared) : Prop := ∃ H', Inv X pins σ H' s' ∧ Q b H'
def AP (X : Cx) (pins : List (Addr × Obj)) (σ : St) (Q : List V → Hp → Prop) (us : List Value) (s' : Shared) : Prop := ∃ vs H', Inv X pins σ H' s' ∧ Vals vs us ∧ Q vs H'
def SP (X : Cx) (pins : List (Addr × Obj)) (D : Ends) (f : Flow) (s' : Shared) : Prop :=
  match f with
  | .next => ∃ σ' H', Inv X pins σ' H' s' ∧ D.nx σ' H'
  | .brk => ∃ σ' H', Inv X pins σ' H' s' ∧ D.bk σ' H'
  | .cont => ∃ σ' H', Inv X pins σ' H' s' ∧ D.ct σ' H'
  | .ret u => ∃ v σ' H', Inv X pins σ' H' s' ∧ RelV v u ∧ D.rt v H'
def PE (X : Cx) (e : Expr) (t : TE) : Prop :=
  ∀ (pins : List (Addr × Obj)) (s : Shared) (σ : St) (H : Hp) (Q : VK), Inv X pins σ H s → t σ H Q → wpAny (model X.prog X.w) X.A (eval e X.env) (EP X pins σ Q) X.xe s
def PT (X : Cx) (e : Expr) (t : TT) : Prop :=
  ∀ (pins : List (Addr × Obj)) (s : Shared) (σ : St) (H : Hp) (Q : Bool → Hp → Prop), Inv X pins σ H s → t σ H Q → wpAny (model X.prog X.w) X.A (isTrue e X.env (eval e X.env)) (TP X pins σ Q) X.xe s
def PW (X : Cx) (e : Expr) (t : TT) : Prop :=
  ∀ (whole : Sem Value) (pins : List (Addr × Obj)) (s : Shared) (σ : St) (H : Hp) (Q : Bool → Hp → Prop), Inv X pins σ H s → t σ H Q → wpAny (model X.prog X.w) X.A (isTrue e X.env whole) (TP X pins σ Q) X.xe s
theorem PW.pt {X : Cx} {e : Expr} {t : TT} (h : PW X e t) : PT X e t := h _
def PA (X : Cx) (es : List Expr) (t : TA) : Prop :=
  ∀ (pos : Pos) (pins : List (Addr × Obj)) (s : Shared) (σ : St) (H : Hp) (Q : List V → Hp → Prop), Inv X pins σ H s → t σ H Q → wpAny (model X.prog X.w) X.A (spliced (backTo pos (starEach es X.env))) (AP X pins σ Q) X.xe s
def PS (X : Cx) (st : Stmt) (t : TS) : Prop :=
  ∀ (pins : List (Addr × Obj)) (s : Shared) (σ : St) (H : Hp) (D : Ends), Inv X pins σ H s → t D σ H → wpAny (model X.prog X.w) X.A (exec st X.env) (SP X pins D) X.xe s
def PSs (X : Cx) (st : List Stmt) (t : TS) : Prop :=
  ∀ (pins : List (Addr × Obj)) (s : Shared) (σ : St) (H : Hp) (D : Ends), Inv X pins σ H s → t D σ H → wpAny (model X.prog X.w) X.A (execs st X.env) (SP X pins D) X.xe s
theorem thn {α : Type} {t : Sem α} {Q Q' : α → Shared → Prop} {M : Model} {A : Around} {E : Value → Shared → Prop} {s : Shared} (h : wpAny M A t Q E s) (hQ : ∀ a s, Q a s → Q' a s) : wpAny M A t Q' E s := wpAny_mono h hQ fun _ _ x => x
end L2
namespace L2
open PySem PySem.Spec PyProof.Rows
section
variable {X : Cx}
theorem bin {a b : Expr} {ta tb : TE} (ha : PE X a ta) (hb : PE X b tb) {pins : List (Addr × Obj)} {s : Shared} {σ : St} {H : Hp} {R : V → V → Hp → Prop} (I : Inv X pins σ H s) (h : ta σ H fun x H1 => tb σ H1 fun y H2 => R x y H2)
    {α : Type} {Q : α → Shared → Prop} {f : Value → Value → Sem α}
    (hf : ∀ v u s2 x y H2, Inv X pins σ H2 s2 → RelV x v → RelV y u → R x y H2 → wpAny (model X.prog X.w) X.A (f v u) Q X.xe s2) :
    wpAny (model X.prog X.w) X.A (eval a X.env) (fun v s₁ => wpAny (model X.prog X.w) X.A (eval b X.env) (fun u s₂ => wpAny (model X.prog X.w) X.A (f v u) Q X.xe s₂) X.xe s₁) X.xe s := by
  refine thn (ha pins s σ H _ I h) fun v s1 ⟨x, H1, I1, r1, q1⟩ => ?_
  refine thn (hb pins s1 σ H1 _ I1 q1) fun u s2 ⟨y, H2, I2, r2, q2⟩ => ?_
  exact hf v u s2 x y H2 I2 r1 r2 q2
def tVar (i : Nat) : TE := fun σ H Q => ∃ v, σ[i]? = some (some v) ∧ Q v H
def tC (v : V) : TE := fun _ H Q => Q v H
theorem pe_var {i : Nat} {x : Str} {pos : Pos} (hN : X.N[i]? = some x) (hv : Vis X.env.scope x) (hd : (x == ("__debug__" : Str)) = false := by decide) (hcd : (x == ("__classdict__" : Str)) = false := by decide) : PE X (.Name x pos) (tVar i) := by
  intro pins s σ H Q I h
  obtain ⟨v, e, h⟩ := h
  obtain ⟨m, hn, hl⟩ := I.loc
  obtain ⟨u, r, l⟩ := hl i x v hN e hv
  have fin : EP X pins σ Q u s := ⟨v, H, I, r, h⟩
  rcases l with ⟨hk, hm⟩ | ⟨hk, c, hc, hcell⟩
  · exact wpAny_Name (wpAny_loadName_local I.ok.kind hk hn hm fin) hd
  · rcases hk with hk | hk
    · exact wpAny_Name (wpAny_loadName_cell I.ok.kind hk hc hcell fin) hd
    · exact wpAny_Name (wpAny_loadName_free I.ok.kind hk hc hcell fin hcd) hd
theorem pe_int {i j pos} : PE X (.Constant (.int i) j pos) (tC (.int i)) := fun _ _ _ H _ I h => wpAny_Constant_int ⟨.int i, H, I.tok _, ⟨_, rfl⟩, h⟩
theorem pe_bl {b j pos} : PE X (.Constant (.bool b) j pos) (tC (.bl b)) := fun _ _ _ H _ I h => Constant_bool ⟨.bl b, H, I, rfl, h⟩
theorem pe_non {j pos} : PE X (.Constant .none j pos) (tC .non) := fun _ _ _ H _ I h => Constant_none ⟨.non, H, I, rfl, h⟩
theorem pe_str {x j pos} : PE X (.Constant (.str x) j pos) (tC (.str x)) := fun _ _ _ H _ I h => Calls.Constant_str ⟨.str x, H, I.tok _, ⟨_, rfl⟩, h⟩
def Gl (X : Cx) (x : Str) : Prop := X.env.kindOf x = some .globalImplicit
theorem ld_glob {E : Value → Shared → Prop} {pins : List (Addr × Obj)} {s : Shared} {σ : St} {H : Hp} {x : Str} {u : Value} {pos : Pos} {Q : Value → Shared → Prop} (I : Inv X pins σ H s) (hg : Gl X x) (hm : X.mg x = some u) (h : Q u s)
    (hd : (x == ("__debug__" : Str)) = false := by decide) : wpAny (model X.prog X.w) X.A (eval (.Name x pos) X.env) Q E s :=
  Calls.Name_function_global I.ok.kind hg (Calls.loadGlobal_global (by rw [I.ok.glob]; exact I.mod.glob.keeps I.bk) hm h) hd
theorem ld_blt {E : Value → Shared → Prop} {pins : List (Addr × Obj)} {s : Shared} {σ : St} {H : Hp} {x : Str} {u : Value} {pos : Pos} {Q : Value → Shared → Prop} (I : Inv X pins σ H s) (hg : Gl X x) (hm : X.mg x = none) (hv : bootBuiltins x = some u) (h : Q u s)
    (hn : x ≠ "__name__" := by decide) (hd : (x == ("__debug__" : Str)) = false := by decide) : wpAny (model X.prog X.w) X.A (eval (.Name x pos) X.env) Q E s := by
  obtain ⟨mb, h1, h2⟩ := I.mod.blt
  exact Calls.Name_function_global I.ok.kind hg (Calls.loadGlobal_builtin (by rw [I.ok.glob]; exact I.mod.glob.keeps I.bk) hm (by rw [I.ok.blt]; exact h1.keeps I.bk) ((h2 x hn).trans hv) h) hd
theorem pe_glob {x : Str} {v : V} {u : Value} {pos : Pos} (hg : Gl X x) (hm : X.mg x = some u) (r : RelV v u) (hd : (x == ("__debug__" : Str)) = false := by decide) : PE X (.Name x pos) (tC v) :=
  fun _ _ _ H _ I h => ld_glob I hg hm ⟨v, H, I, r, h⟩ hd
theorem pe_bltn {x : Str} {v : V} {u : Value} {pos : Pos} (hg : Gl X x) (hm : X.mg x = none) (hv : bootBuiltins x = some u) (r : RelV v u) (hn : x ≠ "__name__" := by decide) (hd : (x == ("__debug__" : Str)) = false := by decide) : PE X (.Name x pos) (tC v) :=
  fun _ _ _ H _ I h => ld_blt I hg hm hv ⟨v, H, I, r, h⟩ hn hd
variable {a b : Expr} {ta tb : TE} {pos : Pos}
def PC (X : Cx) (op : CmpOp) (a b : Expr) (t : TE) : Prop :=
  ∀ (pins : List (Addr × Obj)) (s : Shared) (σ : St) (H : Hp) (Q : VK), Inv X pins σ H s → t σ H Q →
    wpAny (model X.prog X.w) X.A (eval a X.env) (fun v s₁ => wpAny (model X.prog X.w) X.A (eval b X.env) (fun u s₂ => wpAny (model X.prog X.w) X.A (compareOp op v u) (EP X pins σ Q) X.xe s₂) X.xe s₁) X.xe s
theorem nobehind (b : Expr) {op : CmpOp} (h : op ≠ .In) (h2 : op ≠ .NotIn) : behindInMarks op b = false := by
  have e1 : (op == CmpOp.In) = false := by cases op <;> first | rfl | exact absurd rfl h
  have e2 : (op == CmpOp.NotIn) = false := by cases op <;> first | rfl | exact absurd rfl h2
  cases b <;> simp [behindInMarks, e1, e2]
def tIsN (ta : TE) : TE := fun σ H Q => ta σ H fun x H1 => Q (.bl (decide (x = .non))) H1
theorem RelV.none_iff {x : V} {v : Value} (r : RelV x v) : (v == Value.none) = decide (x = .non) := by
  cases x with
  | non => cases r; rfl
  | bl _ => cases r; rfl
  | int _ => obtain ⟨t, rfl⟩ := r; rfl
  | str _ => obtain ⟨t, rfl⟩ := r; rfl
  | byt _ => obtain ⟨t, rfl⟩ := r; rfl
  | flt _ => obtain ⟨t, rfl⟩ := r; rfl
  | ref _ => cases r; rfl
  | ty _ => cases r; rfl
theorem pc_isN {j pos'} (ha : PE X a ta) : PC X .Is a (.Constant .none j pos') (tIsN ta) := by
  intro pins s σ H Q I h
  refine thn (ha pins s σ H _ I h) fun v s1 ⟨x, H1, I1, r1, q1⟩ => ?_
  exact Constant_none (is_none_gen ⟨.bl _, H1, I1, by rw [r1.none_iff]; rfl, q1⟩)
def tB (t : TE) : TT := fun σ H Q => t σ H fun x H1 => ∃ c, x = .bl c ∧ Q c H1
theorem pt_cmp {op : CmpOp} {t : TE} (h : PC X op a b t) (h1 : behindInMarks op b = false := by first | exact nobehind _ (by decide) (by decide) | rfl) : PT X (.Compare a [op] [b] pos) (tB t) := by
  intro pins s σ H Q I hw
  refine wpAny_isTrue_Compare1 (thn (h pins s σ H _ I hw) fun v s1 h1 => thn h1 fun u s2 h2 => thn h2 fun c s3 ⟨x, H1, I1, r1, q1⟩ => ?_) h1
  obtain ⟨d, rfl, q⟩ := q1
  cases r1
  exact wpAny_truthy_bool ⟨H1, I1, q⟩
theorem pt_val {e : Expr} {t : TE} (h : PE X e t) (he : ∀ whole, isTrue e X.env whole = (do let v ← whole; standAt e.pos; holding [v] (truthy v)) := by intro _; rfl) : PT X e (tB t) := by
  intro pins s σ H Q I hw
  refine isTrue_plain (thn (h pins s σ H _ I hw) fun v s1 ⟨x, H1, I1, r1, q1⟩ => ?_) (he _)
  obtain ⟨d, rfl, q⟩ := q1
  cases r1
  exact wpAny_truthy_bool ⟨H1, I1, q⟩
variable {tA tB' : TT} {rest : List Expr}
def tAnd (t u : TT) : TT := fun σ H Q => t σ H fun c H1 => if c = true then u σ H1 Q else Q false H1
def tOr (t u : TT) : TT := fun σ H Q => t σ H fun c H1 => if c = true then Q true H1 else u σ H1 Q
def tNot (t : TT) : TT := fun σ H Q => t σ H fun c H1 => Q (!c) H1
theorem pw_and1 (ha : PT X a tA) : PW X (.BoolOp .And [a] pos) tA := by
  intro wh pins s σ H Q I h
  refine isTrue_and (thn (ha pins s σ H Q I h) fun c s1 e => ?_)
  cases c with
  | true => exact isTrue_and_nil e
  | false => exact e
theorem pw_or1 (ha : PT X a tA) : PW X (.BoolOp .Or [a] pos) tA := by
  intro wh pins s σ H Q I h
  refine isTrue_or (thn (ha pins s σ H Q I h) fun c s1 e => ?_)
  cases c with
  | false => exact isTrue_or_nil e
  | true => exact e
theorem pw_and (ha : PT X a tA) (hb : PW X (.BoolOp .And (b :: rest) pos) tB') : PW X (.BoolOp .And (a :: b :: rest) pos) (tAnd tA tB') := by
  intro wh pins s σ H Q I h
  refine isTrue_and (thn (ha pins s σ H _ I h) fun c s1 ⟨H1, I1, q1⟩ => ?_)
  cases c with
  | true => exact hb wh pins s1 σ H1 Q I1 q1
  | false => exact ⟨H1, I1, q1⟩
theorem pw_or (ha : PT X a tA) (hb : PW X (.BoolOp .Or (b :: rest) pos) tB') : PW X (.BoolOp .Or (a :: b :: rest) pos) (tOr tA tB') := by
  intro wh pins s σ H Q I h
  refine isTrue_or (thn (ha pins s σ H _ I h) fun c s1 ⟨H1, I1, q1⟩ => ?_)
  cases c with
  | true => exact ⟨H1, I1, q1⟩
  | false => exact hb wh pins s1 σ H1 Q I1 q1
theorem pt_not (ha : PT X a tA) : PT X (.UnaryOp .Not a pos) (tNot tA) := by
  intro pins s σ H Q I h
  exact isTrue_not (ha pins s σ H (fun c H1 => Q (!c) H1) I h)
def tAndV (ta tb : TE) : TE := fun σ H Q => ta σ H fun x H1 => ∃ c, x = .bl c ∧ if c = true then tb σ H1 Q else Q (.bl false) H1
def tNotV (ta : TE) : TE := fun σ H Q => ta σ H fun x H1 => ∃ c, x = .bl c ∧ Q (.bl (!c)) H1
theorem pe_one {op} {t : TE} (h : PE X a t) : PE X (.BoolOp op [a] pos) t := fun pins s σ H Q I hw => BoolOp_one (h pins s σ H Q I hw)
theorem pe_and (ha : PE X a ta) (hb : PE X (.BoolOp .And (b :: rest) pos) tb) : PE X (.BoolOp .And (a :: b :: rest) pos) (tAndV ta tb) := by
  intro pins s σ H Q I h
  refine BoolOp_and (thn (ha pins s σ H _ I h) fun v s1 ⟨x, H1, I1, r1, q1⟩ => ?_)
  obtain ⟨c, rfl, q1⟩ := q1
  cases r1
  refine wpAny_truthy_bool ?_
  cases c with
  | true => exact hb pins s1 σ H1 Q I1 q1
  | false => exact ⟨.bl false, H1, I1, rfl, q1⟩
theorem pe_not (ha : PE X a ta) : PE X (.UnaryOp .Not a pos) (tNotV ta) := by
  intro pins s σ H Q I h
  refine UnaryOp_ (thn (ha pins s σ H _ I h) fun v s1 ⟨x, H1, I1, r1, q1⟩ => ?_)
  obtain ⟨c, rfl, q1⟩ := q1
  cases r1
  exact not_of (wpAny_truthy_bool ⟨.bl (!c), H1, I1, rfl, q1⟩)
end
end L2
namespace L2
open PySem PySem.Spec PyProof.Rows
def SqL (K : PySem.W.Frag) (H : Hp) (a : Addr) (xs : List V) : Prop :=
  Rd H a (.lst xs) ∨
    ∃ (o : Obj) (its : Array Value) (n : Nat), K.lookup a = some o ∧ o.cls = .type "list" ∧ o.dict = none ∧ o.data = .seq its n ∧ its.size ≤ sizeLine ∧ Vals xs its.toList
def SqT (K : PySem.W.Frag) (H : Hp) (a : Addr) (xs : List V) : Prop :=
  Rd H a (.tup xs) ∨
    ∃ (o : Obj) (its : Array Value) (n : Nat), K.lookup a = some o ∧ o.cls = .type "tuple" ∧ o.data = .seq its n ∧ its.size ≤ sizeLine ∧ Vals xs its.toList
def absV : Value → Option V
  | .none => some .non
  | .bool b => some (.bl b)
  | .int i _ => some (.int i)
  | .str x _ => some (.str x)
  | .bytes b _ => some (.byt b)
  | .float b _ => some (.flt b)
  | .ref a => some (.ref a)
  | .type n => some (.ty n)
  | _ => none
theorem RelV.abs {x : V} {u : Value} (r : RelV x u) : absV u = some x := by
  cases x with
  | non => cases r; rfl
  | bl _ => cases r; rfl
  | int _ => obtain ⟨t, rfl⟩ := r; rfl
  | str _ => obtain ⟨t, rfl⟩ := r; rfl
  | byt _ => obtain ⟨t, rfl⟩ := r; rfl
  | flt _ => obtain ⟨t, rfl⟩ := r; rfl
  | ref _ => cases r; rfl
  | ty _ => cases r; rfl
theorem RelV.inj {x y : V} {u : Value} (r : RelV x u) (q : RelV y u) : x = y := Option.some.inj (r.abs.symm.trans q.abs)
theorem Vals.inj : ∀ {xs ys : List V} {us : List Value}, Vals xs us → Vals ys us → xs = ys
  | _, _, _, .nil, .nil => rfl
  | _, _, _, .cons r t, .cons r' t' => by rw [r.inj r', Vals.inj t t']
section
variable {X : Cx} {pins : List (Addr × Obj)} {σ : St} {H : Hp} {s : Shared} {a : Addr} {xs ys : List V}
theorem SqL.of {K : PySem.W.Frag} (h : H a = some (.lst xs)) : SqL K H a xs := .inl (.inl h)
theorem SqT.of {K : PySem.W.Frag} (h : H a = some (.tup xs)) : SqT K H a xs := .inl (.inl h)
theorem Inv.list (I : Inv X pins σ H s) (h : SqL X.K H a xs) : ∃ its : List Value, Vals xs its ∧ PlainL s.heap a its.toArray ∧ xs.length ≤ sizeLine := by
  rcases h with h | ⟨o, its, n, hk, hc, hd, hs, hz, r⟩
  · obtain ⟨z, its, n, r, e⟩ := h.ok I.hok
    exact ⟨its, r, ⟨_, n, e, rfl, rfl, rfl⟩, z⟩
  · refine ⟨its.toList, r, ⟨o, n, I.kIn a o hk, hc, hd, by simpa using hs⟩, ?_⟩
    have e := r.length
    simp only [Array.length_toList] at e
    omega
theorem Inv.tuple (I : Inv X pins σ H s) (h : SqT X.K H a xs) : ∃ its : List Value, Vals xs its ∧ IsTup s.heap a its.toArray ∧ xs.length ≤ sizeLine := by
  rcases h with h | ⟨o, its, n, hk, hc, hs, hz, r⟩
  · obtain ⟨z, its, r, p⟩ := h.ok I.hok
    exact ⟨its, r, p, z⟩
  · refine ⟨its.toList, r, ⟨o, I.kIn a o hk, hc, n, by simpa using hs⟩, ?_⟩
    have e := r.length
    simp only [Array.length_toList] at e
    omega
theorem Inv.list_inj (I : Inv X pins σ H s) (h : SqL X.K H a xs) (h' : SqL X.K H a ys) : xs = ys := by
  obtain ⟨its, r, ⟨o, n, e, _, _, d⟩, _⟩ := I.list h
  obtain ⟨its', r', ⟨o', n', e', _, _, d'⟩, _⟩ := I.list h'
  rw [e] at e'; cases e'
  rw [d] at d'
  injection d' with d1 _
  have : its = its' := by simpa using congrArg Array.toList d1
  subst this
  exact r.inj r'
theorem Inv.tuple_inj (I : Inv X pins σ H s) (h : SqT X.K H a xs) (h' : SqT X.K H a ys) : xs = ys := by
  obtain ⟨its, r, ⟨o, e, _, n, d⟩, _⟩ := I.tuple h
  obtain ⟨its', r', ⟨o', e', _, n', d'⟩, _⟩ := I.tuple h'
  rw [e] at e'; cases e'
  rw [d] at d'
  injection d' with d1 _
  have : its = its' := by simpa using congrArg Array.toList d1
  subst this
  exact r.inj r'
end
section
variable {X : Cx} {pins : List (Addr × Obj)} {σ : St} {H : Hp} {s : Shared} {E : Value → Shared → Prop}
end
section
variable {X : Cx} {st : Stmt} {rest : List Stmt} {t u : TS} {e : Expr} {te : TE} {pos : Pos}
def tNext : TS := fun D σ H => D.nx σ H
def tSeq (t u : TS) : TS := fun D σ H => t { D with nx := u D } σ H
theorem pss_nil : PSs X [] tNext := fun _ _ σ H _ I h => wpAny_execs_nil ⟨σ, H, I, h⟩
theorem pss_cons (h1 : PS X st t) (h2 : PSs X rest u) : PSs X (st :: rest) (tSeq t u) := by
  intro pins s σ H D I h
  refine wpAny_execs_cons (thn (h1 pins s σ H { D with nx := u D } I h) fun f s1 q => ?_)
  cases f with
  | next =>
    obtain ⟨σ', H', I', q⟩ := q
    exact h2 pins s1 σ' H' D I' q
  | ret v => exact q
  | brk => exact q
  | cont => exact q
theorem pss_one (h1 : PS X st t) : PSs X [st] t := by
  intro pins s σ H D I h
  refine wpAny_execs_cons (thn (h1 pins s σ H D I h) fun f s1 q => ?_)
  cases f with
  | next => exact wpAny_execs_nil q
  | ret v => exact q
  | brk => exact q
  | cont => exact q
theorem Inv.quiet {pins : List (Addr × Obj)} {σ : St} {H : Hp} {s : Shared} (I : Inv X pins σ H s) : interactive X.env = false := by simp [interactive, I.ok.kind]
def tDrop (te : TE) : TS := fun D σ H => te σ H fun _ H1 => D.nx σ H1
theorem ps_expr (he : PE X e te) (hs : swapsWith e none pos.line X.env = pure false := by rfl) : PS X (.Expr e pos) (tDrop te) := by
  intro pins s σ H D I h
  exact wpAny_Expr_any (thn (he pins s σ H _ I h) fun v s1 ⟨x, H1, I1, r1, q1⟩ => ⟨σ, H1, I1, q1⟩) I.quiet hs
def tRet (te : TE) : TS := fun D σ H => te σ H D.rt
theorem ps_ret (he : PE X e te) : PS X (.Return (some e) pos) (tRet te) := by
  intro pins s σ H D I h
  exact wpAny_Return_some (thn (he pins s σ H _ I h) fun v s1 ⟨x, H1, I1, r1, q1⟩ => ⟨x, σ, H1, I1, r1, q1⟩)
def tIfS (c : TT) (t u : TS) : TS := fun D σ H => c σ H fun b H1 => if b = true then t D σ H1 else u D σ H1
theorem ps_if {c : Expr} {a b : List Stmt} {tc : TT} (hc : PT X c tc) (ha : PSs X a t) (hb : PSs X b u) : PS X (.If c a b pos) (tIfS tc t u) := by
  intro pins s σ H D I h
  refine wpAny_If (thn (hc pins s σ H _ I h) fun d s1 ⟨H1, I1, q1⟩ => ?_)
  cases d with
  | true => exact ha pins s1 σ H1 D I1 q1
  | false => exact hb pins s1 σ H1 D I1 q1
def tNever : TS := fun _ _ _ => False
theorem ps_never : PS X st tNever := fun _ _ _ _ _ _ h => h.elim
end
abbrev TG := V → St → Hp → (St → Hp → Prop) → Prop
abbrev TGs := List V → St → Hp → (St → Hp → Prop) → Prop
def PG (X : Cx) (target : Expr) (t : TG) : Prop :=
  ∀ (pins : List (Addr × Obj)) (s : Shared) (σ : St) (H : Hp) (v : V) (u : Value) (Q : St → Hp → Prop), Inv X pins σ H s → RelV v u → t v σ H Q →
    wpAny (model X.prog X.w) X.A (assign target X.env u) (fun _ s' => ∃ σ' H', Inv X pins σ' H' s' ∧ Q σ' H') X.xe s
def PGs (X : Cx) (ts : List Expr) (t : TGs) : Prop :=
  ∀ (pins : List (Addr × Obj)) (s : Shared) (σ : St) (H : Hp) (vs : List V) (us : List Value) (Q : St → Hp → Prop), Inv X pins σ H s → Vals vs us → t vs σ H Q →
    wpAny (model X.prog X.w) X.A (assignInOrder ((assignEach ts X.env).map (·.2)) us) (fun _ s' => ∃ σ' H', Inv X pins σ' H' s' ∧ Q σ' H') X.xe s
abbrev TSet := V → V → V → Hp → (Hp → Prop) → Prop
def PSet (X : Cx) (t : TSet) : Prop :=
  ∀ (pins : List (Addr × Obj)) (s : Shared) (σ : St) (H : Hp) (o i v : V) (ov iv u : Value) (Q : Hp → Prop), Inv X pins σ H s → RelV o ov → RelV i iv → RelV v u → t o i v H Q →
    wpAny (model X.prog X.w) X.A (setItem ov iv u) (fun _ s' => ∃ H', Inv X pins σ H' s' ∧ Q H') X.xe s
section
variable {X : Cx} {pos : Pos}
def gName (i : Nat) : TG := fun v σ H Q => Q (σ.set i (some v)) H
theorem pg_name {i : Nat} {x : Str} (hN : X.N.Nodup) (hi : X.N[i]? = some x) (hx : Loc X.env.scope x) (hf : X.fn x = true ∨ X.env.scope.names.lookup x = some .local := by first | exact .inl rfl | exact .inr rfl | assumption) : PG X (.Name x pos) (gName i) := by
  intro pins s σ H v u Q I r h
  exact wpAny_assign_Name (store_ok I hN hi hx r (fun s' I' => ⟨_, H, I', h⟩) hf)
def gNil : TGs := fun vs σ H Q => vs = [] ∧ Q σ H
def gCons (t : TG) (u : TGs) : TGs := fun vs σ H Q => ∃ v r, vs = v :: r ∧ t v σ H fun σ' H' => u r σ' H' Q
theorem pgs_nil : PGs X [] gNil := by
  intro pins s σ H vs us Q I r h
  obtain ⟨e, h⟩ := h
  subst e
  cases r
  exact assignInOrder_nil ⟨σ, H, I, h⟩
theorem pgs_cons {e : Expr} {es : List Expr} {t : TG} {u : TGs} (h1 : PG X e t) (h2 : PGs X es u)
    (hs : (assignEach (e :: es) X.env).map (·.2) = assign e X.env :: (assignEach es X.env).map (·.2) := by rfl) : PGs X (e :: es) (gCons t u) := by
  intro pins s σ H vs us Q I r h
  obtain ⟨v, vr, e1, h⟩ := h
  subst e1
  cases r with
  | cons r rr =>
    rw [hs]
    refine assignInOrder_cons (thn (h1 pins s σ H _ _ _ I r h) fun _ s1 ⟨σ1, H1, I1, q1⟩ => ?_)
    exact h2 pins s1 σ1 H1 _ _ Q I1 rr q1
def gTup (K : PySem.W.Frag) (n : Nat) (t : TGs) : TG := fun v σ H Q => ∃ a xs, v = .ref a ∧ SqT K H a xs ∧ xs.length = n ∧ t xs σ H Q
theorem pg_tup {es : List Expr} {k : Nat} {t : TGs} {n : Nat} (hc : X.calm = true) (h : PGs X es t)
    (hn : (assignEach es X.env).length = n := by rfl) (hst : (assignEach es X.env).findIdx? (·.1) = none := by rfl) : PG X (.Tuple es k pos) (gTup X.K n t) := by
  intro pins s σ H v u Q I r hw
  obtain ⟨a, xs, e1, hq, hl, hw⟩ := hw
  subst e1
  cases r
  obtain ⟨its, rv, ht, hz⟩ := I.tuple hq
  refine assign_Tuple_tuple (I.ok.hd hc) ht (by simp [hn, ← hl, rv.length]) hst fun h' hx => ?_
  have I1 : Inv X pins σ H { s with heap := h' } := I.kept (t' := s.toks) fun b o e => hx b o (Nat.ne_of_lt (Heap.lt_size e)) e
  exact h pins _ σ H xs _ Q I1 (by simpa using rv) hw
def gSub (to ti : TE) (t : TSet) : TG := fun v σ H Q => to σ H fun o H1 => ti σ H1 fun i H2 => t o i v H2 fun H3 => Q σ H3
theorem pg_sub {o i : Expr} {to ti : TE} {t : TSet} (ho : PE X o to) (hi : PE X i ti) (hs : PSet X t)
    (ha : ∀ v, assign (.Subscript o i pos) X.env v = (do
      let ov ← holding [v] (eval o X.env)
      let iv ← holding [v, ov] (eval i X.env)
      standAt pos
      holding [v, ov, iv] (setItem ov iv v)
      release [v, ov, iv] []) := by intro _; rfl) : PG X (.Subscript o i pos) (gSub to ti t) := by
  intro pins s σ H v u Q I r h
  rw [ha]
  refine wpAny_bind (wpAny_holding (thn (ho pins s σ H _ I h) fun ov s1 ⟨x, H1, I1, r1, q1⟩ => ?_))
  refine wpAny_bind (wpAny_holding (thn (hi pins s1 σ H1 _ I1 q1) fun iv s2 ⟨y, H2, I2, r2, q2⟩ => ?_))
  refine wpAny_bind (wpAny_standAt (wpAny_bind (wpAny_holding (thn (hs pins s2 σ H2 x y v ov iv u _ I2 r1 r2 r q2) fun _ s3 ⟨H3, I3, q3⟩ => ?_))))
  exact wpAny_release ⟨σ, H3, I3, q3⟩
def tAsg (te : TE) (g : TG) : TS := fun D σ H => te σ H fun x H1 => g x σ H1 D.nx
theorem ps_asg {tg e : Expr} {te : TE} {g : TG} (he : PE X e te) (hg : PG X tg g) (hs : swapsWithSole [tg] e pos.line X.env = pure false := by rfl) (hw : swappedStores [tg] e X.env = pure none := by rfl)
    (h1 : (assignEach [tg] X.env).map (·.2) = [assign tg X.env] := by rfl) : PS X (.Assign [tg] e pos) (tAsg te g) := by
  intro pins s σ H D I h
  refine wpAny_Assign_stores (thn (he pins s σ H _ I h) fun v s1 ⟨x, H1, I1, r1, q1⟩ => ?_) hs hw
  rw [h1]
  exact thn (hg pins s1 σ H1 x v _ I1 r1 q1) fun _ s2 q => q
theorem ps_set {i : Nat} {x : Str} {e : Expr} {te : TE} {pos' : Pos} (hN : X.N.Nodup) (hi : X.N[i]? = some x) (hx : Loc X.env.scope x) (he : PE X e te) (hs : swapsWith e (some (.Name x pos')) pos.line X.env = pure false := by rfl) (hf : X.fn x = true ∨ X.env.scope.names.lookup x = some .local := by first | exact .inl rfl | exact .inr rfl | assumption) :
    PS X (.Assign [.Name x pos'] e pos) (tAsg te (gName i)) := by
  intro pins s σ H D I h
  refine wpAny_Assign_Name (thn (he pins s σ H _ I h) fun v s1 ⟨y, H1, I1, r1, q1⟩ => ?_) hs
  exact store_ok I1 hN hi hx r1 (fun s2 I2 => ⟨_, H1, I2, q1⟩) hf
end
section
variable {X : Cx} {pos : Pos}
end
structure It where
  go : Nat → Hp → Prop
  yld : Nat → Hp → V → Hp → Prop
  stop : Nat → Hp → Prop
def FpOk (X : Cx) (pins : List (Addr × Obj)) (H : Hp) (b : Addr) : Prop :=
  H b = none ∧ b ≠ X.env.locals ∧ b ∉ X.fs ∧ (b ∈ X.ex ∨ X.s₀.heap.objs.size ≤ b) ∧ (∀ x c, X.env.cells.lookup x = some c → c ≠ b) ∧ ∀ p ∈ X.pn ++ pins, p.1 ≠ b
theorem Inv.fpOk {X : Cx} {pins : List (Addr × Obj)} {σ : St} {H H' : Hp} {s : Shared} {b : Addr} (I : Inv X pins σ H s) (hb : s.heap.objs.size ≤ b) (hn : H' b = none) : FpOk X pins H' b := by
  refine ⟨hn, Nat.ne_of_gt (Nat.lt_of_lt_of_le I.lt hb), I.nofs hb, .inr (Nat.le_trans I.sz hb), fun x c e z => ?_, fun p hp z => ?_⟩
  · obtain ⟨v, q⟩ := I.cell x c e
    exact absurd (Nat.lt_of_lt_of_le q.lt (by rw [z]; exact hb)) (Nat.lt_irrefl _)
  · exact absurd (Nat.lt_of_lt_of_le (Heap.lt_size (I.pin p hp).1) (by rw [z]; exact hb)) (Nat.lt_irrefl _)
structure Turn (P : Program) (w : World) (K : PySem.W.Frag) (tg : Expr) (J : It) (fp : List Addr) (it : Addr) (tn : Nat → Heap → Prop) (nm : Bool) : Prop where
  mem : it ∈ fp
  obj : ∀ i h, tn i h → ∀ b ∈ fp, ∃ o, h.get? b = some o ∧ ∀ v, o.data ≠ .cell v
  keep : ∀ i h h', tn i h → (∀ b ∈ fp, ∀ o, h.get? b = some o → h'.get? b = some o) → tn i h'
  item : ∀ (X : Cx), X.prog = P → X.w = w → X.K = K → (nm = true → X.calm = true) → ∀ (i : Nat) (pins : List (Addr × Obj)) (s : Shared) (σ : St) (H : Hp) (E : Value → Shared → Prop), Inv X pins σ H s → (∀ b ∈ fp, FpOk X pins H b) → tn i s.heap → J.go i H →
    wpAny (model P w) X.A (pyNext (.ref it)) (fun r s1 => ∃ u, r = some u ∧
      wpAny (model P w) X.A (letOwnedTupleGo tg (.ref it) u) (fun _ s2 => ∃ x H', Inv X pins σ H' s2 ∧ RelV x u ∧ J.yld i H x H' ∧ tn (i + 1) s2.heap ∧ ∀ b ∈ fp, H' b = none) E s1) E s
  done : ∀ (X : Cx), X.prog = P → X.w = w → X.K = K → (nm = true → X.calm = true) → ∀ (i : Nat) (pins : List (Addr × Obj)) (s : Shared) (σ : St) (H : Hp) (E : Value → Shared → Prop), Inv X pins σ H s → (∀ b ∈ fp, FpOk X pins H b) → tn i s.heap → J.stop i H →
    wpAny (model P w) X.A (pyNext (.ref it)) (fun r s1 => r = none ∧ Inv X pins σ H s1) E s
  self : ∀ (A : Around) (i : Nat) (s : Shared) (Q : Value → Shared → Prop) (E : Value → Shared → Prop), tn i s.heap → Q (.ref it) s → wpAny (model P w) A (pyIter (.ref it)) Q E s
def TurnX (X : Cx) (tg : Expr) (J : It) (fp : List Addr) (it : Addr) (tn : Nat → Heap → Prop) : Prop := ∃ nm, Turn X.prog X.w X.K tg J fp it tn nm ∧ (nm = true → X.calm = true)
theorem TurnX.of {X : Cx} {tg : Expr} {J : It} {fp : List Addr} {it : Addr} {tn : Nat → Heap → Prop} (T : Turn X.prog X.w X.K tg J fp it tn false) : TurnX X tg J fp it tn := ⟨false, T, fun z => by cases z⟩
abbrev TI := St → Hp → (It → Hp → Prop) → Prop
def PIE (X : Cx) (pins : List (Addr × Obj)) (σ : St) (tg : Expr) (R : It → Hp → Prop) (itv : Value) (s2 : Shared) : Prop :=
  ∃ (it : Addr) (fp : List Addr) (tn : Nat → Heap → Prop) (J : It) (H' : Hp), itv = .ref it ∧ Inv X pins σ H' s2 ∧ TurnX X tg J fp it tn ∧ tn 0 s2.heap ∧ (∀ b ∈ fp, FpOk X pins H' b) ∧ R J H'
def PI (X : Cx) (tg iter : Expr) (wi : TI) : Prop :=
  ∀ (pins : List (Addr × Obj)) (s : Shared) (σ : St) (H : Hp) (R : It → Hp → Prop), Inv X pins σ H s → wi σ H R →
    wpAny (model X.prog X.w) X.A (eval iter X.env) (fun v s1 => wpAny (model X.prog X.w) X.A (pyIter v) (PIE X pins σ tg R) X.xe s1) X.xe s
theorem go_of {M : Model} {A : Around} {E : Value → Shared → Prop} {s : Shared} {tg : Expr} {it : Addr} {u : Value} {o : Obj} {n : String} {vs : Array Value} {Q : Unit → Shared → Prop} (ho : s.heap.get? it = some o) (hc : o.cls = .type n) (hd : o.data = .fields vs)
    (hn : ["enumerate", "zip", "dict_itemiterator", "dict_reverseitemiterator", "odict_iterator", "itertools.zip_longest", "itertools.pairwise"].contains n = false) (hQ : Q () s) : wpAny M A (letOwnedTupleGo tg (.ref it) u) Q E s := by
  unfold letOwnedTupleGo
  cases tg <;> first
    | exact wpAny_pure hQ
    | (cases u <;> first
        | exact wpAny_pure hQ
        | (refine wpAny_bind (wpAny_load ho ?_)
           rw [hc, hd]
           show wpAny M A (if (["enumerate", "zip", "dict_itemiterator", "dict_reverseitemiterator", "odict_iterator", "itertools.zip_longest", "itertools.pairwise"].contains n && vs[0]? == some (rawInt _)) = true then _ else _) Q E s
           rw [if_neg (by intro h; rw [hn, Bool.false_and] at h; cases h)]
           exact wpAny_pure hQ))
def Itl (K : PySem.W.Frag) (a : Addr) : It :=
  ⟨fun i H => ∃ xs x, SqL K H a xs ∧ xs[i]? = some x, fun i H x H' => H' = H ∧ ∀ xs, SqL K H a xs → xs[i]? = some x, fun i H => ∃ xs, SqL K H a xs ∧ xs.length ≤ i⟩
def Itr (lo : Int) (n : Nat) : It := ⟨fun i _ => i < n, fun i H x H' => H' = H ∧ x = .int (lo + i), fun i _ => n ≤ i⟩
theorem turn_list {P : Program} {w : World} {K : PySem.W.Frag} {tg : Expr} (a it : Addr) : Turn P w K tg (Itl K a) [it] it (fun i h => h.IsListIter it a i) false where
  mem := by simp
  obj := fun i h st b hb => by
    have e : b = it := by simpa using hb
    subst e
    obtain ⟨o, e, c, d⟩ := st
    exact ⟨o, e, fun v z => by rw [d] at z; cases z⟩
  keep := fun i h h' st k => st.at fun o e => k it (by simp) o e
  item := by
    intro X hP hw hK hc i pins s σ H E I hf st hg
    subst hP hw hK
    obtain ⟨xs, x, hq, hx⟩ := hg
    obtain ⟨its, rv, p, hz⟩ := I.list hq
    obtain ⟨u, hu, ru⟩ := rv.get hx
    obtain ⟨f0, f1, f2, f3, f4, f5⟩ := hf it (by simp)
    refine wpAny_pyNext_list_item st p.isList (x := u) (by simpa using hu) fun h' st' sb => ?_
    have I1 : Inv X pins σ H { s with heap := h' } := I.turned (t' := s.toks) (fun b o hb e => (sb.2 b hb).trans e) f0 f1 f3 f4 f5
    obtain ⟨o, e, c, d⟩ := id st'
    exact ⟨u, rfl, go_of (s := { s with heap := h' }) e c d (by decide) ⟨x, H, I1, ru, ⟨rfl, fun ys hy => by rw [I.list_inj hy hq]; exact hx⟩, st', fun b hb => (hf b hb).1⟩⟩
  done := by
    intro X hP hw hK hc i pins s σ H E I hf st hg
    subst hP hw hK
    obtain ⟨xs, hq, hx⟩ := hg
    obtain ⟨its, rv, p, hz⟩ := I.list hq
    obtain ⟨f0, f1, f2, f3, f4, f5⟩ := hf it (by simp)
    have hl := rv.length
    exact list_on (I.hn.now I.hok) st p.isList (by simp; omega) fun h' eb => ⟨rfl, I.turned (t' := s.toks) (fun b o hb e => eb b o hb e) f0 f1 f3 f4 f5⟩
  self := fun _ _ _ _ _ st h => wpAny_pyIter_listiter st h
theorem turn_range {P : Program} {w : World} {K : PySem.W.Frag} {tg : Expr} (it : Addr) (lo : Int) (n : Nat) : Turn P w K tg (Itr lo n) [it] it (fun i h => IsRangeIter h it (lo + (i : Nat) * 1) ((n : Int) - (i : Nat)) 1) false where
  mem := by simp
  obj := fun i h st b hb => by
    have e : b = it := by simpa using hb
    subst e
    exact ⟨_, st, fun v z => by
      have z' : Data.fields _ = Data.cell v := z
      cases z'⟩
  keep := fun i h h' st k => k it (by simp) _ st
  item := by
    intro X hP hw hK hc i pins s σ H E I hf st hg
    subst hP hw hK
    obtain ⟨f0, f1, f2, f3, f4, f5⟩ := hf it (by simp)
    refine wpAny_pyNext_range_item st (by have : i < n := hg; omega) fun h' st' sb => ?_
    obtain ⟨tk, htk⟩ : ∃ tk, tk = s.toks + 1 := ⟨_, rfl⟩
    rw [← htk]
    have I1 : Inv X pins σ H { s with heap := h', toks := tk } := I.turned (fun b o hb e => (sb.2 b hb).trans e) f0 f1 f3 f4 f5
    have st2 : IsRangeIter h' it (lo + ((i + 1 : Nat) : Int) * 1) ((n : Int) - ((i + 1 : Nat) : Int)) 1 := by
      rw [show lo + ((i + 1 : Nat) : Int) * 1 = lo + (i : Int) * 1 + 1 by omega, show (n : Int) - ((i + 1 : Nat) : Int) = (n : Int) - (i : Int) - 1 by omega]; exact st'
    refine ⟨_, rfl, go_of (s := { s with heap := h', toks := tk }) (n := "range_iterator") st' rfl rfl (by decide) ⟨.int (lo + i), H, I1, ⟨s.toks, ?_⟩, ⟨rfl, rfl⟩, st2, fun b hb => (hf b hb).1⟩⟩
    rw [Int.mul_one]
  done := by
    intro X hP hw hK hc i pins s σ H E I hf st hg
    subst hP hw hK
    obtain ⟨f0, f1, f2, f3, f4, f5⟩ := hf it (by simp)
    exact range_on (I.hn.now I.hok) st (by have : n ≤ i := hg; omega) fun h' eb => ⟨rfl, I.turned (t' := s.toks) (fun b o hb e => eb b o hb e) f0 f1 f3 f4 f5⟩
  self := fun _ _ _ _ _ st h => wpAny_pyIter_rangeiter st h
end L2
namespace L2
open PySem PySem.Spec PyProof.Rows
section
variable {X : Cx} {tg : Expr}
def iList (K : PySem.W.Frag) (tl : TE) : TI := fun σ H R => tl σ H fun x H1 => ∃ a, x = .ref a ∧ (∃ xs, SqL K H1 a xs) ∧ R (Itl K a) H1
theorem pi_list {l : Expr} {tl : TE} (hl : PE X l tl) : PI X tg l (iList X.K tl) := by
  intro pins s σ H R I h
  refine thn (hl pins s σ H _ I h) fun v s1 ⟨x, H1, I1, r1, q1⟩ => ?_
  obtain ⟨a, e, ⟨xs, hq⟩, q⟩ := q1
  subst e
  cases r1
  obtain ⟨its, rv, p, hz⟩ := I1.list hq
  refine wpAny_pyIter_list p.isList ?_
  refine ⟨s1.heap.objs.size, [s1.heap.objs.size], _, _, H1, rfl, I1.kept (t' := s1.toks) fun b o e => Heap.get?_push_of_some _ e, TurnX.of (turn_list a _), ⟨_, Heap.get?_push_size _ rfl, rfl, rfl⟩, fun b hb => ?_, q⟩
  have e : b = s1.heap.objs.size := by simpa using hb
  subst e
  exact I1.fpOk (Nat.le_refl _) (I1.hok.fresh (Nat.le_refl _))
theorem range_it {pins : List (Addr × Obj)} {σ : St} {H : Hp} {s : Shared} {R : It → Hp → Prop} {E : Value → Shared → Prop} {lo hi : Int} {t u v : Tok} {tk : Nat} (I : Inv X pins σ H s) (h1 : -(2 ^ 62) ≤ lo) (h2 : lo < 2 ^ 62) (h3 : -(2 ^ 62) ≤ hi) (h4 : hi < 2 ^ 62)
    (q : R (Itr lo (hi - lo).toNat) H) : wpAny (model X.prog X.w) X.A (pyIter (.ref s.heap.objs.size)) (PIE X pins σ tg R) E { s with heap := s.heap.push { cls := .type "range", data := .fields #[.int lo t, .int hi u, .int 1 v] }, toks := tk } := by
  refine wpAny_pyIter_range (IsRange.new ..) (small_one h1 h2 h3 h4) ?_
  have I1 : Inv X pins σ H { s with heap := s.heap.push { cls := .type "range", data := .fields #[.int lo t, .int hi u, .int 1 v] }, toks := tk } := I.kept fun b o e => Heap.get?_push_of_some _ e
  refine ⟨(s.heap.push { cls := .type "range", data := .fields #[.int lo t, .int hi u, .int 1 v] }).objs.size, [(s.heap.push { cls := .type "range", data := .fields #[.int lo t, .int hi u, .int 1 v] }).objs.size], _, _, H, rfl,
    I1.kept (t' := tk) fun b o e => Heap.get?_push_of_some _ e, TurnX.of (turn_range _ lo (hi - lo).toNat), ?_, fun b hb => ?_, q⟩
  · have e1 : lo + ((0 : Nat) : Int) * 1 = lo := by simp
    have e2 : (((hi - lo).toNat : Nat) : Int) - ((0 : Nat) : Int) = Builtin.Range.rangeSize lo hi 1 := by rw [rangeSize_one]; split <;> omega
    show IsRangeIter _ _ (lo + ((0 : Nat) : Int) * 1) ((((hi - lo).toNat : Nat) : Int) - ((0 : Nat) : Int)) 1
    rw [e1, e2]
    exact Heap.get?_push_size _ rfl
  · have e : b = (s.heap.push { cls := .type "range", data := .fields #[.int lo t, .int hi u, .int 1 v] }).objs.size := by simpa using hb
    subst e
    exact I1.fpOk (Nat.le_refl _) (I1.hok.fresh (Nat.le_refl _))
def iRng1 (ta : TA) : TI := fun σ H R => ta σ H fun vs H1 => ∃ j : Int, vs = [.int j] ∧ -(2 ^ 62) ≤ j ∧ j < 2 ^ 62 ∧ R (Itr 0 j.toNat) H1
theorem pi_range1 {a : Expr} {ta : TA} {p pos : Pos} (hg : Gl X "range") (hm : X.mg "range" = none) (ha : PA X [a] ta) (hs : starEach [a] X.env = [(false, eval a X.env)] := by rfl) : PI X tg (.Call (.Name "range" p) [a] [] pos) (iRng1 ta) := by
  intro pins s σ H R I h
  refine Call_ (ld_blt I hg hm boot_range (PyProof.Rows.callWith_type1 (thn (ha pos pins s σ H _ I h) fun us s1 ⟨vs, H1, I1, r1, q1⟩ => ?_) hs rfl))
  obtain ⟨j, e, q1, q2, q⟩ := q1
  subst e
  cases r1 with
  | cons r rr =>
    cases rr
    obtain ⟨t, rfl⟩ := r
    exact call_range_1 (range_it I1 (by omega) (by omega) q1 q2 (by simpa using q))
def tFor (wi : TI) (g : TG) (tb : TS) : TS := fun D σ H => wi σ H fun J H1 => ∃ W : Nat → Nat → St → Hp → Prop, (∃ m, W 0 m σ H1) ∧ ∀ i m σ H, W i m σ H →
  (J.stop i H ∧ D.nx σ H) ∨ (J.go i H ∧ ∃ N : St → Hp → Prop, (∀ σ' H', N σ' H' → ∃ m', m' < m ∧ W (i + 1) m' σ' H') ∧ ∀ x H', J.yld i H x H' → g x σ H' fun σ2 H2 => tb { D with nx := N, ct := N, bk := D.nx } σ2 H2)
def pinsAt (fp : List Addr) (h : Heap) : List (Addr × Obj) := fp.filterMap fun b => (h.get? b).map fun o => (b, o)
theorem mem_pinsAt {fp : List Addr} {h : Heap} {b : Addr} {o : Obj} (hb : b ∈ fp) (e : h.get? b = some o) : (b, o) ∈ pinsAt fp h := List.mem_filterMap.mpr ⟨b, hb, by rw [e]; rfl⟩
theorem of_pinsAt {fp : List Addr} {h : Heap} {p : Addr × Obj} (hp : p ∈ pinsAt fp h) : p.1 ∈ fp ∧ h.get? p.1 = some p.2 := by
  obtain ⟨b, hb, e⟩ := List.mem_filterMap.mp hp
  cases q : h.get? b with
  | none => rw [q] at e; cases e
  | some o =>
    rw [q] at e
    have e' : (b, o) = p := Option.some.inj e
    subst e'
    exact ⟨hb, q⟩
theorem Inv.pinned {pins : List (Addr × Obj)} {σ : St} {H : Hp} {s : Shared} {fp : List Addr} (I : Inv X pins σ H s) (hf : ∀ b ∈ fp, FpOk X pins H b) (ho : ∀ b ∈ fp, ∃ o, s.heap.get? b = some o ∧ ∀ v, o.data ≠ .cell v) : Inv X (pins ++ pinsAt fp s.heap) σ H s :=
  I.pins_of fun p hp => (List.mem_append.mp hp).elim (fun z => I.pin p (List.mem_append_right _ z)) fun z => by
    obtain ⟨hb, e⟩ := of_pinsAt z
    obtain ⟨f0, f1, f2, _⟩ := hf p.1 hb
    obtain ⟨o, e', d⟩ := ho p.1 hb
    rw [e] at e'; cases e'
    exact ⟨e, f0, f1, f2, d⟩
theorem Inv.unpinned {pins pl : List (Addr × Obj)} {σ : St} {H : Hp} {s : Shared} (I : Inv X (pins ++ pl) σ H s) : Inv X pins σ H s := I.pins_of fun p hp => I.pin p (List.mem_append_right _ (List.mem_append_left _ hp))
theorem ps_for {iter : Expr} {body : List Stmt} {wi : TI} {g : TG} {tb : TS} {pos : Pos} (hp : PassesOwn (model X.prog X.w) X.A X.env X.xe) (hi : PI X tg iter wi) (hg : PG X tg g) (hb : PSs X body tb)
    (hs : ∀ x, foldedSetIterable iter X.env x = pure x := by intro _; rfl) : PS X (.For tg iter body [] pos) (tFor wi g tb) := by
  intro pins s σ H D I h
  refine wpAny_For (thn (hi pins s σ H _ I h) fun v s1 h1 => thn h1 fun itv s2 h2 => ?_) hs
  obtain ⟨it, fp, tn, J, H2, e, I2, T, st2, f2, W, ⟨m0, w0⟩, turn⟩ := h2
  subst e
  obtain ⟨nm, T, hc⟩ := T
  have stat : ∀ {H' : Hp}, (∀ b ∈ fp, H' b = none) → ∀ b ∈ fp, FpOk X pins H' b := fun hn b hb => ⟨hn b hb, (f2 b hb).2⟩
  refine codeAny_forLoop_any (fun n s' => ∃ i σ' H', Inv X pins σ' H' s' ∧ tn i s'.heap ∧ (∀ b ∈ fp, H' b = none) ∧ W i n σ' H') ?_ m0 ⟨0, σ, H2, I2, st2, fun b hb => (f2 b hb).1, w0⟩
  rintro n s3 ⟨i, σ3, H3, I3, st3, fr3, w3⟩
  rcases turn i n σ3 H3 w3 with ⟨stop, qn⟩ | ⟨go, N, hN, step⟩
  · refine wpAny_passesOwn hp (thn (T.done X rfl rfl rfl hc i pins s3 σ3 H3 X.xe I3 (stat fr3) st3 stop) fun r s4 ⟨hr, I4⟩ => ?_)
    subst hr
    exact wpAny_execs_nil ⟨σ3, H3, I4, qn⟩
  · refine wpAny_passesOwn hp (thn (T.item X rfl rfl rfl hc i pins s3 σ3 H3 X.xe I3 (stat fr3) st3 go) fun r s4 ⟨u, hr, h4⟩ => ?_)
    subst hr
    refine wpAny_passesOwn hp (thn h4 fun _ s5 ⟨x, H5, I5, r5, y5, st5, fr5⟩ => ?_)
    have I5' := I5.pinned (stat fr5) (T.obj _ _ st5)
    refine wpAny_passesOwn hp (thn (hg _ s5 σ3 H5 x u _ I5' r5 (step x H5 y5)) fun _ s6 ⟨σ6, H6, I6, q6⟩ => ?_)
    refine wpAny_passesOwn hp (thn (hb _ s6 σ6 H6 _ I6 q6) fun f s7 q7 => ?_)
    have again : ∀ {σ7 : St} {H7 : Hp}, Inv X (pins ++ pinsAt fp s5.heap) σ7 H7 s7 → N σ7 H7 → ∃ m, m < n ∧ ∃ i σ' H', Inv X pins σ' H' s7 ∧ tn i s7.heap ∧ (∀ b ∈ fp, H' b = none) ∧ W i m σ' H' := fun {σ7 H7} I7 n7 => by
      obtain ⟨m', hm, w7⟩ := hN σ7 H7 n7
      refine ⟨m', hm, i + 1, σ7, H7, I7.unpinned, T.keep _ _ _ st5 fun b hb o e => (I7.pin (b, o) (List.mem_append_right _ (List.mem_append_right _ (mem_pinsAt hb e)))).1, fun b hb => ?_, w7⟩
      obtain ⟨o, e, d⟩ := T.obj _ _ st5 b hb
      exact (I7.pin (b, o) (List.mem_append_right _ (List.mem_append_right _ (mem_pinsAt hb e)))).2.1
    cases f with
    | next => obtain ⟨σ7, H7, I7, n7⟩ := q7; exact again I7 n7
    | cont => obtain ⟨σ7, H7, I7, n7⟩ := q7; exact again I7 n7
    | brk => obtain ⟨σ7, H7, I7, q7⟩ := q7; exact ⟨σ7, H7, I7.unpinned, q7⟩
    | ret v => obtain ⟨x7, σ7, H7, I7, r7, q7⟩ := q7; exact ⟨x7, σ7, H7, I7.unpinned, r7, q7⟩
end
theorem for_list {K : PySem.W.Frag} {a : Addr} {xs : List V} {g : TG} {tb : TS} {D : Ends} {σ : St} {H : Hp} (Pv : Nat → St → Hp → Prop) (h0 : Pv 0 σ H) (hl : ∀ i σ H, i ≤ xs.length → Pv i σ H → SqL K H a xs)
    (hs : ∀ i x σ H, xs[i]? = some x → Pv i σ H → g x σ H fun σ2 H2 => tb { D with nx := Pv (i + 1), ct := Pv (i + 1), bk := D.nx } σ2 H2) (hd : ∀ σ H, Pv xs.length σ H → D.nx σ H) :
    ∃ W : Nat → Nat → St → Hp → Prop, (∃ m, W 0 m σ H) ∧ ∀ i m σ H, W i m σ H →
      ((Itl K a).stop i H ∧ D.nx σ H) ∨ ((Itl K a).go i H ∧ ∃ N : St → Hp → Prop, (∀ σ' H', N σ' H' → ∃ m', m' < m ∧ W (i + 1) m' σ' H') ∧ ∀ x H', (Itl K a).yld i H x H' → g x σ H' fun σ2 H2 => tb { D with nx := N, ct := N, bk := D.nx } σ2 H2) := by
  refine ⟨fun i m σ H => m = xs.length - i ∧ i ≤ xs.length ∧ Pv i σ H, ⟨xs.length, by simp, Nat.zero_le _, h0⟩, ?_⟩
  rintro i m σ H ⟨rfl, hi, p⟩
  have q := hl i σ H hi p
  by_cases hlt : i < xs.length
  · refine .inr ⟨⟨xs, xs[i], q, by simp [hlt]⟩, Pv (i + 1), fun σ' H' p' => ⟨xs.length - (i + 1), by omega, rfl, hlt, p'⟩, fun x H' y => ?_⟩
    obtain ⟨e, y⟩ := y
    subst e
    exact hs i x σ _ (y xs q) p
  · have e : i = xs.length := by omega
    subst e
    exact .inl ⟨⟨xs, q, Nat.le_refl _⟩, hd σ H p⟩
theorem for_range {lo : Int} {n : Nat} {g : TG} {tb : TS} {D : Ends} {σ : St} {H : Hp} (Pv : Nat → St → Hp → Prop) (h0 : Pv 0 σ H)
    (hs : ∀ i σ H, i < n → Pv i σ H → g (.int (lo + i)) σ H fun σ2 H2 => tb { D with nx := Pv (i + 1), ct := Pv (i + 1), bk := D.nx } σ2 H2) (hd : ∀ σ H, Pv n σ H → D.nx σ H) :
    ∃ W : Nat → Nat → St → Hp → Prop, (∃ m, W 0 m σ H) ∧ ∀ i m σ H, W i m σ H →
      ((Itr lo n).stop i H ∧ D.nx σ H) ∨ ((Itr lo n).go i H ∧ ∃ N : St → Hp → Prop, (∀ σ' H', N σ' H' → ∃ m', m' < m ∧ W (i + 1) m' σ' H') ∧ ∀ x H', (Itr lo n).yld i H x H' → g x σ H' fun σ2 H2 => tb { D with nx := N, ct := N, bk := D.nx } σ2 H2) := by
  refine ⟨fun i m σ H => m = n - i ∧ i ≤ n ∧ Pv i σ H, ⟨n, by simp, Nat.zero_le _, h0⟩, ?_⟩
  rintro i m σ H ⟨rfl, hi, p⟩
  by_cases hlt : i < n
  · refine .inr ⟨hlt, Pv (i + 1), fun σ' H' p' => ⟨n - (i + 1), by omega, rfl, hlt, p'⟩, fun x H' y => ?_⟩
    obtain ⟨e, y⟩ := y
    subst e y
    exact hs i σ _ hlt p
  · have e : i = n := by omega
    subst e
    exact .inl ⟨Nat.le_refl _, hd σ H p⟩
end L2
namespace L2
open PySem PySem.Spec PyProof.Rows
abbrev R2 := V → V → Hp → VK → Prop
def OpR (X : Cx) (f : Value → Value → Sem Value) (r : R2) : Prop :=
  ∀ (pins : List (Addr × Obj)) (s : Shared) (σ : St) (H : Hp) (x y : V) (v u : Value) (Q : VK), Inv X pins σ H s → RelV x v → RelV y u → r x y H Q →
    wpAny (model X.prog X.w) X.A (f v u) (EP X pins σ Q) X.xe s
def CallR (X : Cx) (f : Value) (r : List V → Hp → VK → Prop) : Prop :=
  ∀ (pins : List (Addr × Obj)) (s : Shared) (σ : St) (H : Hp) (xs : List V) (us : List Value) (Q : VK), Inv X pins σ H s → Vals xs us → r xs H Q →
    wpAny (model X.prog X.w) X.A (call f us) (EP X pins σ Q) X.xe s
def tOp (r : R2) (ta tb : TE) : TE := fun σ H Q => ta σ H fun x H1 => tb σ H1 fun y H2 => r x y H2 Q
def rI (C : Int → Int → Prop) (g : Int → Int → V) : R2 := fun x y H Q => ∃ i j, x = .int i ∧ y = .int j ∧ C i j ∧ Q (g i j) H
def rI0 (g : Int → Int → V) : R2 := fun x y H Q => ∃ i j, x = .int i ∧ y = .int j ∧ Q (g i j) H
section
variable {X : Cx} {a b c : Expr} {ta tb tc : TE} {pos : Pos}
theorem binT (ha : PE X a ta) (hb : PE X b tb) {pins : List (Addr × Obj)} {s : Shared} {σ : St} {H : Hp} {R : V → V → Hp → Prop} (I : Inv X pins σ H s)
    (h : ta σ H fun x H1 => tb σ H1 fun y H2 => R x y H2) {Q : Value → Shared → Prop} {f : Value → Value → Sem Value}
    (hf : ∀ v u s2 x y H2, Inv X pins σ H2 s2 → RelV x v → RelV y u → R x y H2 → wpAny (model X.prog X.w) X.A (f v u) Q X.xe s2) :
    wpAny (model X.prog X.w) X.A (eval a X.env) (fun v s₁ => wpAny (model X.prog X.w) X.A (eval b X.env) (fun u s₂ => wpAny (model X.prog X.w) X.A (f v u) Q X.xe s₂) X.xe s₁) X.xe s := by
  refine thn (ha pins s σ H _ I h) fun v s1 ⟨x, H1, I1, r1, q1⟩ => ?_
  refine thn (hb pins s1 σ H1 _ I1 q1) fun u s2 ⟨y, H2, I2, r2, q2⟩ => ?_
  exact hf v u s2 x y H2 I2 r1 r2 q2
theorem pe_op {op : Operator} {r : R2} (ho : OpR X (binaryOp op) r) (ha : PE X a ta) (hb : PE X b tb) : PE X (.BinOp a op b pos) (tOp r ta tb) := by
  intro pins s σ H Q I h
  exact wpAny_BinOp (binT ha hb I h fun v u s2 x y H2 I2 rx ry q => ho pins s2 σ H2 x y v u Q I2 rx ry q)
theorem opI {f : Value → Value → Sem Value} {C : Int → Int → Prop} {g : Int → Int → Int}
    (rule : ∀ (i j : Int) (t u : Tok) (s : Shared) (Q : Value → Shared → Prop) (E : Value → Shared → Prop), C i j → Q (.int (g i j) s.toks) { s with toks := s.toks + 1 } → wpAny (model X.prog X.w) X.A (f (.int i t) (.int j u)) Q E s) :
    OpR X f (rI C fun i j => .int (g i j)) := by
  intro pins s σ H x y v u Q I rx ry h
  obtain ⟨i, j, rfl, rfl, hc, q⟩ := h
  obtain ⟨t, rfl⟩ := rx
  obtain ⟨t', rfl⟩ := ry
  exact rule i j t t' s _ _ hc ⟨.int (g i j), H, I.tok _, ⟨_, rfl⟩, q⟩
theorem opI0 {f : Value → Value → Sem Value} {g : Int → Int → Int}
    (rule : ∀ (i j : Int) (t u : Tok) (s : Shared) (Q : Value → Shared → Prop) (E : Value → Shared → Prop), Q (.int (g i j) s.toks) { s with toks := s.toks + 1 } → wpAny (model X.prog X.w) X.A (f (.int i t) (.int j u)) Q E s) :
    OpR X f (rI0 fun i j => .int (g i j)) := by
  intro pins s σ H x y v u Q I rx ry h
  obtain ⟨i, j, rfl, rfl, q⟩ := h
  obtain ⟨t, rfl⟩ := rx
  obtain ⟨t', rfl⟩ := ry
  exact rule i j t t' s _ _ ⟨.int (g i j), H, I.tok _, ⟨_, rfl⟩, q⟩
theorem opB0 {f : Value → Value → Sem Value} {g : Int → Int → Bool}
    (rule : ∀ (i j : Int) (t u : Tok) (s : Shared) (Q : Value → Shared → Prop) (E : Value → Shared → Prop), Q (.bool (g i j)) s → wpAny (model X.prog X.w) X.A (f (.int i t) (.int j u)) Q E s) :
    OpR X f (rI0 fun i j => .bl (g i j)) := by
  intro pins s σ H x y v u Q I rx ry h
  obtain ⟨i, j, rfl, rfl, q⟩ := h
  obtain ⟨t, rfl⟩ := rx
  obtain ⟨t', rfl⟩ := ry
  exact rule i j t t' s _ _ ⟨.bl (g i j), H, I, rfl, q⟩
def CDiv (i j : Int) : Prop := 0 < j ∧ j < 1073741824
def CPow (i j : Int) : Prop := 0 ≤ j ∧ j ≤ 1000000 ∧ i.natAbs < 2 ^ 64
def CMul (i j : Int) : Prop := (-(2 ^ 64) < i ∧ i < 2 ^ 64) ∨ (-(2 ^ 64) < j ∧ j < 2 ^ 64)
theorem CMul.ok {i j : Int} (h : CMul i j) : IntMulOk i j := by
  rcases h with ⟨h1, h2⟩ | ⟨h1, h2⟩
  · exact .of_left (intBits_le_64 h1 h2)
  · exact .of_right (intBits_le_64 h1 h2)
theorem two_pow_nn (k : Nat) : (0 : Int) ≤ 2 ^ k := by
  rw [two_pow_cast]
  exact Int.natCast_nonneg _
theorem op_add : OpR X (binaryOp .Add) (rI0 fun i j => .int (i + j)) := opI0 fun _ _ _ _ _ _ _ q => add_int q
theorem op_sub : OpR X (binaryOp .Sub) (rI0 fun i j => .int (i - j)) := opI0 fun _ _ _ _ _ _ _ q => sub_int q
theorem op_mul : OpR X (binaryOp .Mult) (rI CMul fun i j => .int (i * j)) := opI fun _ _ _ _ _ _ _ hc q => mul_int q hc.ok
theorem op_fdiv : OpR X (binaryOp .FloorDiv) (rI CDiv fun i j => .int (i / j)) := opI fun i j _ _ _ _ _ hc q => by
  have h1 : (0 : Int) < j := hc.1
  have h2 : j < 1073741824 := hc.2
  exact floordiv_int (by omega) (by rw [Int.fdiv_eq_ediv_of_nonneg i (by omega)]; exact q) (.inl (PyProof.noPylong_small (by omega)))
theorem op_mod : OpR X (binaryOp .Mod) (rI (fun _ j => 0 < j) fun i j => .int (i % j)) := opI fun i j _ _ _ _ _ hc q => by
  have h1 : (0 : Int) < j := hc
  exact mod_int' (by omega) (by rw [Int.fmod_eq_emod_of_nonneg i (by omega)]; exact q)
theorem op_shl : OpR X (binaryOp .LShift) (rI CPow fun i j => .int (i * 2 ^ j.toNat)) := opI fun _ _ _ _ _ _ _ hc q => lshift_int_small hc.1 hc.2.1 hc.2.2 q
theorem op_shr : OpR X (binaryOp .RShift) (rI (fun _ j => 0 ≤ j) fun i j => .int (i / 2 ^ j.toNat)) := opI fun i j _ _ _ _ _ hc q =>
  rshift_int hc (by rw [Int.fdiv_eq_ediv_of_nonneg i (two_pow_nn _)]; exact q)
theorem op_and : OpR X (binaryOp .BitAnd) (rI0 fun i j => .int (Builtin.bitAnd i j)) := opI0 fun _ _ _ _ _ _ _ q => and_int q
theorem op_or : OpR X (binaryOp .BitOr) (rI0 fun i j => .int (Builtin.bitOr i j)) := opI0 fun _ _ _ _ _ _ _ q => or_int q
end
def scal : V → V → Bool
  | .non, .non => true | .non, .int _ => true | .int _, .non => true | .non, .bl _ => true | .bl _, .non => true | .non, .str _ => true | .str _, .non => true
  | .int _, .int _ => true | .bl _, .bl _ => true | .str _, .str _ => true | .byt _, .byt _ => true
  | .int _, .str _ => true | .str _, .int _ => true | .bl _, .str _ => true | .str _, .bl _ => true
  | _, _ => false
def rEq : R2 := fun x y H Q => scal x y = true ∧ Q (.bl (decide (x = y))) H
def rNe : R2 := fun x y H Q => scal x y = true ∧ Q (.bl (!decide (x = y))) H
theorem dec_int {i j : Int} : decide (V.int i = V.int j) = (i == j) := by
  rw [Bool.eq_iff_iff]
  simp
theorem dec_bl {i j : Bool} : decide (V.bl i = V.bl j) = (i == j) := by
  rw [Bool.eq_iff_iff]
  simp
theorem dec_str {i j : Str} : decide (V.str i = V.str j) = (i == j) := by
  rw [Bool.eq_iff_iff]
  simp
theorem dec_byt {i j : Array UInt8} : decide (V.byt i = V.byt j) = (i.toList == j.toList) := by
  rw [Bool.eq_iff_iff]
  cases i
  cases j
  simp
section
variable {X : Cx} {a b c : Expr} {ta tb tc : TE} {pos : Pos}
theorem fin_bl {pins : List (Addr × Obj)} {σ : St} {H : Hp} {s : Shared} {Q : VK} {k k' : Bool} (I : Inv X pins σ H s) (q : Q (.bl k) H) (e : k = k') : EP X pins σ Q (.bool k') s := by
  subst e
  exact ⟨.bl k, H, I, rfl, q⟩
theorem op_eq : OpR X (compareOp .Eq) rEq := by
  intro pins s σ H x y v u Q I rx ry h
  obtain ⟨hs, q⟩ := h
  cases x with
  | non =>
    cases rx
    cases y with
    | non => cases ry; exact PySem.EqNone.eq_none_none (fin_bl I q (by simp))
    | bl j => cases ry; exact PySem.EqNone.eq_none_bool (fin_bl I q (by simp))
    | int j => obtain ⟨t', rfl⟩ := ry; exact PySem.EqNone.eq_none_int (fin_bl I q (by simp))
    | str j => obtain ⟨t', rfl⟩ := ry; exact PySem.EqNone.eq_none_str (fin_bl I q (by simp))
    | _ => exact absurd (show false = true from hs) Bool.false_ne_true
  | bl i =>
    cases rx
    cases y with
    | non => cases ry; exact PySem.EqNone.eq_bool_none (fin_bl I q (by simp))
    | bl j => cases ry; exact eq_bool (fin_bl I q dec_bl)
    | str j => obtain ⟨t', rfl⟩ := ry; exact PySem.EqMixed.eq_bool_str (fin_bl I q (by simp))
    | _ => exact absurd (show false = true from hs) Bool.false_ne_true
  | int i =>
    obtain ⟨t, rfl⟩ := rx
    cases y with
    | non => cases ry; exact PySem.EqNone.eq_int_none (fin_bl I q (by simp))
    | int j => obtain ⟨t', rfl⟩ := ry; exact eq_int (fin_bl I q dec_int)
    | str j => obtain ⟨t', rfl⟩ := ry; exact PySem.EqMixed.eq_int_str (fin_bl I q (by simp))
    | _ => exact absurd (show false = true from hs) Bool.false_ne_true
  | str i =>
    obtain ⟨t, rfl⟩ := rx
    cases y with
    | non => cases ry; exact PySem.EqNone.eq_str_none (fin_bl I q (by simp))
    | bl j => cases ry; exact PySem.EqMixed.eq_str_bool (fin_bl I q (by simp))
    | int j => obtain ⟨t', rfl⟩ := ry; exact PySem.EqMixed.eq_str_int (fin_bl I q (by simp))
    | str j => obtain ⟨t', rfl⟩ := ry; exact eq_str (fin_bl I q dec_str)
    | _ => exact absurd (show false = true from hs) Bool.false_ne_true
  | byt i =>
    obtain ⟨t, rfl⟩ := rx
    cases y with
    | byt j => obtain ⟨t', rfl⟩ := ry; exact PySem.W.eq_bytes (fin_bl I q dec_byt)
    | _ => exact absurd (show false = true from hs) Bool.false_ne_true
  | _ => cases y <;> exact absurd (show false = true from hs) Bool.false_ne_true
theorem op_ne : OpR X (compareOp .NotEq) rNe := by
  intro pins s σ H x y v u Q I rx ry h
  obtain ⟨hs, q⟩ := h
  cases x with
  | non =>
    cases rx
    cases y with
    | non => cases ry; exact PySem.EqNone.ne_none_none (fin_bl I q (by simp))
    | bl j => cases ry; exact PySem.EqNone.ne_none_bool (fin_bl I q (by simp))
    | int j => obtain ⟨t', rfl⟩ := ry; exact PySem.EqNone.ne_none_int (fin_bl I q (by simp))
    | str j => obtain ⟨t', rfl⟩ := ry; exact PySem.EqNone.ne_none_str (fin_bl I q (by simp))
    | _ => exact absurd (show false = true from hs) Bool.false_ne_true
  | bl i =>
    cases rx
    cases y with
    | non => cases ry; exact PySem.EqNone.ne_bool_none (fin_bl I q (by simp))
    | bl j => cases ry; exact ne_bool (fin_bl I q (congrArg not dec_bl))
    | str j => obtain ⟨t', rfl⟩ := ry; exact PySem.EqMixed.ne_bool_str (fin_bl I q (by simp))
    | _ => exact absurd (show false = true from hs) Bool.false_ne_true
  | int i =>
    obtain ⟨t, rfl⟩ := rx
    cases y with
    | non => cases ry; exact PySem.EqNone.ne_int_none (fin_bl I q (by simp))
    | int j => obtain ⟨t', rfl⟩ := ry; exact ne_int (fin_bl I q (congrArg not dec_int))
    | str j => obtain ⟨t', rfl⟩ := ry; exact PySem.EqMixed.ne_int_str (fin_bl I q (by simp))
    | _ => exact absurd (show false = true from hs) Bool.false_ne_true
  | str i =>
    obtain ⟨t, rfl⟩ := rx
    cases y with
    | non => cases ry; exact PySem.EqNone.ne_str_none (fin_bl I q (by simp))
    | bl j => cases ry; exact PySem.EqMixed.ne_str_bool (fin_bl I q (by simp))
    | int j => obtain ⟨t', rfl⟩ := ry; exact PySem.EqMixed.ne_str_int (fin_bl I q (by simp))
    | str j => obtain ⟨t', rfl⟩ := ry; exact ne_str (fin_bl I q (congrArg not dec_str))
    | _ => exact absurd (show false = true from hs) Bool.false_ne_true
  | byt i =>
    obtain ⟨t, rfl⟩ := rx
    cases y with
    | byt j => obtain ⟨t', rfl⟩ := ry; exact PySem.W.ne_bytes (fin_bl I q (congrArg not dec_byt))
    | _ => exact absurd (show false = true from hs) Bool.false_ne_true
  | _ => cases y <;> exact absurd (show false = true from hs) Bool.false_ne_true
theorem op_lt : OpR X (compareOp .Lt) (rI0 fun i j => .bl (decide (i < j))) := opB0 fun _ _ _ _ _ _ _ q => lt_int q
theorem op_le : OpR X (compareOp .LtE) (rI0 fun i j => .bl (decide (i ≤ j))) := opB0 fun _ _ _ _ _ _ _ q => le_int q
theorem nomark (b : Expr) {op : CmpOp} (h : op ≠ .In := by decide) (h2 : op ≠ .NotIn := by decide) : behindInMarks op b = false := by
  have e1 : (op == CmpOp.In) = false := by cases op <;> first | rfl | exact absurd rfl h
  have e2 : (op == CmpOp.NotIn) = false := by cases op <;> first | rfl | exact absurd rfl h2
  cases b <;> simp [behindInMarks, e1, e2]
theorem pe_cmpR {op : CmpOp} {r : R2} (ho : OpR X (compareOp op) r) (ha : PE X a ta) (hb : PE X b tb) (hm : behindInMarks op b = false) : PE X (.Compare a [op] [b] pos) (tOp r ta tb) := by
  intro pins s σ H Q I h
  exact wpAny_Compare1 (binT ha hb I h fun v u s2 x y H2 I2 rx ry q => ho pins s2 σ H2 x y v u Q I2 rx ry q) hm
def tTest (t : TE) : TT := fun σ H Q => t σ H fun x H' => ∃ k, x = .bl k ∧ Q k H'
theorem pt_cmpR {op : CmpOp} {r : R2} (ho : OpR X (compareOp op) r) (ha : PE X a ta) (hb : PE X b tb) (hm : behindInMarks op b = false) : PT X (.Compare a [op] [b] pos) (tTest (tOp r ta tb)) := by
  intro pins s σ H Q I h
  refine wpAny_isTrue_Compare1 (thn (ha pins s σ H _ I h) fun v s1 ⟨x, H1, I1, r1, q1⟩ => thn (hb pins s1 σ H1 _ I1 q1) fun u s2 ⟨y, H2, I2, r2, q2⟩ =>
    thn (ho pins s2 σ H2 x y v u _ I2 r1 r2 q2) fun c s3 ⟨z, H3, I3, r3, k, e, q3⟩ => ?_) hm
  subst e
  cases r3
  exact wpAny_truthy_bool ⟨H3, I3, q3⟩
def tChain (r r' : R2) (ta tb tc : TE) : TE := fun σ H Q => ta σ H fun x H1 => tb σ H1 fun y H2 => r x y H2 fun z H3 => ∃ k, z = .bl k ∧
  (if k = true then tc σ H3 fun w' H4 => r' y w' H4 Q else Q (.bl false) H3)
theorem pe_chain {op op' : CmpOp} {r r' : R2} (ho : OpR X (compareOp op) r) (ho' : OpR X (compareOp op') r') (ha : PE X a ta) (hb : PE X b tb) (hc : PE X c tc)
    (hm : lastMarks [op, op'] [b, c] = false := by with_unfolding_all rfl) : PE X (.Compare a [op, op'] [b, c] pos) (tChain r r' ta tb tc) := by
  intro pins s σ H Q I h
  refine Compare_chain (thn (ha pins s σ H _ I h) fun v s1 ⟨x, H1, I1, r1, q1⟩ => chain_link (thn (hb pins s1 σ H1 _ I1 q1) fun u s2 ⟨y, H2, I2, r2, q2⟩ =>
    thn (ho pins s2 σ H2 x y v u _ I2 r1 r2 q2) fun d s3 ⟨z, H3, I3, r3, k, e, q3⟩ => ?_)) hm
  subst e
  cases r3
  refine wpAny_truthy_bool ?_
  cases k with
  | false => exact ite_ff ⟨.bl false, H3, I3, rfl, q3⟩
  | true => exact ite_tt (chain_last (thn (hc pins s3 σ H3 _ I3 q3) fun w' s4 ⟨z', H4, I4, r4, q4⟩ => ho' pins s4 σ H4 y z' u w' Q I4 r2 r4 q4))
theorem pt_chain {op op' : CmpOp} {r r' : R2} (ho : OpR X (compareOp op) r) (ho' : OpR X (compareOp op') r') (ha : PE X a ta) (hb : PE X b tb) (hc : PE X c tc)
    (hm : lastMarks [op, op'] [b, c] = false := by with_unfolding_all rfl) : PT X (.Compare a [op, op'] [b, c] pos) (tTest (tChain r r' ta tb tc)) := by
  intro pins s σ H Q I h
  refine isTrue_chain (thn (ha pins s σ H _ I h) fun v s1 ⟨x, H1, I1, r1, q1⟩ => test_link (thn (hb pins s1 σ H1 _ I1 q1) fun u s2 ⟨y, H2, I2, r2, q2⟩ =>
    thn (ho pins s2 σ H2 x y v u _ I2 r1 r2 q2) fun d s3 ⟨z, H3, I3, r3, k, e, q3⟩ => ?_)) hm
  subst e
  cases r3
  refine wpAny_truthy_bool ?_
  cases k with
  | false =>
    obtain ⟨k', e', q'⟩ := q3
    cases e'
    exact ite_ff ⟨H3, I3, q'⟩
  | true =>
    refine ite_tt (test_last (thn (hc pins s3 σ H3 _ I3 q3) fun w' s4 ⟨z', H4, I4, r4, q4⟩ => thn (ho' pins s4 σ H4 y z' u w' _ I4 r2 r4 q4) fun d' s5 ⟨z2, H5, I5, r5, k2, e2, q5⟩ => ?_))
    subst e2
    cases r5
    exact wpAny_truthy_bool ⟨H5, I5, q5⟩
theorem line63 : (sizeLine : Nat) < 2 ^ 63 := by rw [sizeLine_eq]; decide
theorem vals1 {x : V} {us : List Value} (r : Vals [x] us) : ∃ u, us = [u] ∧ RelV x u := by
  cases r with
  | cons r1 r2 => cases r2; exact ⟨_, rfl, r1⟩
theorem vals2 {x y : V} {us : List Value} (r : Vals [x, y] us) : ∃ u w', us = [u, w'] ∧ RelV x u ∧ RelV y w' := by
  cases r with
  | cons r1 r2 =>
    cases r2 with
    | cons r3 r4 => cases r4; exact ⟨_, _, rfl, r1, r3⟩
end
end L2
namespace L2
open PySem PySem.Spec PyProof.Rows
structure ObjM (h : Heap) (x dx C : Addr) (mA : Str → Option Value) : Prop where
  obj : h.get? x = some (PySem.W.instObj C dx)
  ns : h.Ns1 dx mA
  ne : dx ≠ x
theorem lookIn_ns {h : Heap} {dx : Addr} {mA : Str → Option Value} (n : h.Ns1 dx mA) : ∃ od, h.get? dx = some od ∧ ∀ name, PySem.W.lookIn name od = some (mA name) := by
  obtain ⟨o, es, ep, ho, hd, hk, _, hm⟩ := n
  refine ⟨o, ho, fun name => ?_⟩
  have e := hm name
  unfold nsFind findBy at e
  rw [← Array.find?_toList] at e
  unfold PySem.W.lookIn
  rw [hd]
  dsimp only
  split
  · rename_i y q
    rw [q] at e
    exact congrArg some e
  · rename_i q
    rw [q] at e
    have a : es.toList.any (·.refKey) = false := by
      rw [List.any_eq_false]
      intro y hy
      obtain ⟨z, t, hkey⟩ := hk y (Array.mem_toList_iff.mp hy)
      simp [DictEntry.refKey, hkey]
    have a' : ¬ es.toList.any (·.refKey) = true := by rw [a]; exact Bool.false_ne_true
    rw [if_neg a']
    exact congrArg some e
theorem ObjM.look {h : Heap} {x dx C : Addr} {mA : Str → Option Value} (I : ObjM h x dx C mA) : ∃ od, PySem.W.InstAt h x (PySem.W.instObj C dx) C (some od) ∧ ∀ name, PySem.W.lookIn name od = some (mA name) :=
  let ⟨od, ho, hl⟩ := lookIn_ns I.ns
  ⟨od, ⟨I.obj, rfl, rfl, ho⟩, hl⟩
section
variable {prog : Program} {w : World} {A : Around} {E : Value → Shared → Prop} {s : Shared} {K : PySem.W.Frag} {x dx C f : Addr} {mA : Str → Option Value} {name : Str} {v : Value}
theorem get_map {expr : Bool} {Q : Value → Shared → Prop} (X : K.In s.heap) (I : ObjM s.heap x dx C mA) (hg : PySem.W.plainGet K C name = true) (hh : PySem.W.hasDictIn K C = true)
    (ha : PySem.W.findIn K (.ref C) name = some none) (hv : mA name = some v) (hv' : PySem.W.handedIn v = true) (h : Q v { s with toks := s.toks + 1 }) :
    wpAny (model prog w) A (getAttr (.ref x) name expr) Q E s := by
  obtain ⟨od, J, hl⟩ := I.look
  exact PySem.W.get_value X J (PySem.W.plainGet_of hg).1 (PySem.W.findObj_own hh ha rfl (by rw [hl, hv])) hv' h
theorem get_meth {pl : Sem Bool} {Q : Value × List Value → Shared → Prop} (X : K.In s.heap) (I : ObjM s.heap x dx C mA) (hg : PySem.W.plainGet K C name = true)
    (hf : PySem.W.findIn K (.ref C) name = some (some (.ref f))) (ht : PySem.W.isFn K (.ref f) = true) (hv : mA name = none) (h : Q (.ref f, [.ref x]) s) :
    wpAny (model prog w) A (getMethod (.ref x) name pl) Q E s := by
  obtain ⟨od, J, hl⟩ := I.look
  exact PySem.W.method_fn X J (PySem.W.plainGet_of hg).1 (PySem.W.plainGet_of hg).2 hf (beq_iff_eq.mp ht) (by show (PySem.W.lookIn name od).map (·.isSome) = some false; rw [hl, hv]; rfl) h
theorem set_map {ns : List Str} {Q : Unit → Shared → Prop} (X : K.In s.heap) (I : ObjM s.heap x dx C mA)
    (hs : PySem.W.findIn K (.ref C) "__setattr__" = some (some (.builtin "object.__setattr__"))) (hp : PySem.W.plainOver K C = true) (ht : PySem.W.takerIn K C name = some none) (hh : PySem.W.hasDictIn K C = true)
    (hw : PySem.Within mA ns) (hsz : ns.length ≤ sizeLine)
    (h : ∀ h', ObjM h' x dx C (fun y => if y = name then some v else mA y) → Heap.SameBut dx s.heap h' → Q () { s with heap := h', toks := s.toks + 2 }) :
    wpAny (model prog w) A (setAttr (.ref x) name v) Q E s := by
  obtain ⟨od, J, hl⟩ := I.look
  refine PySem.W.set_plain X J hs (PySem.W.osa_open (s := { s with toks := s.toks + 1 }) (r := none) X J hp ht fun b => ?_)
  obtain ⟨cd, hc, hd'⟩ := PySem.W.any_some hh
  have hx : s.heap.get? x = some ⟨.ref C, some dx, .plain, #[]⟩ := I.obj
  refine wpAny_bind (wpAny_pure (wpAny_bind (wpAny_bind (wpAny_loadPart hx (wpAny_bind (PySem.W.Looks.here (s := { s with toks := s.toks + 1 }) (PySem.W.looks_clsIn X hc) ?_))))))
  rw [hd']
  refine wpAny_pure (a := some dx) (wpAny_bind (wpAny_pure (wpAny_bind ?_)))
  refine wpAny_nsSet1 (s := { s with toks := s.toks + 1 }) I.ns fun h' hn2 hs2 => ?_
  obtain ⟨oD, esD, epD, hoD, hdD, hcD⟩ := hn2.count (PySem.Within.cons name v hw)
  refine wpAny_bind (wpAny_lookBehind hoD (by rw [hdD]; exact pastItsLine_dict (Nat.le_trans hcD (by rw [List.length_cons]; omega))) ?_)
  exact wpAny_pure (h _ ⟨(hs2.2 _ (Ne.symm I.ne)).trans I.obj, hn2, I.ne⟩ hs2)
theorem make_map {R : Result → Shared → Prop} {vs : List Value} {kw : List (Str × Value)} (X : K.In s.heap) (hm : PySem.W.makesIn K C = true)
    (hi : PySem.W.findIn K (.ref C) "__init__" = some (some (.ref f))) (hf : PySem.W.typeIn K (.ref f) = some (.type "function"))
    (h : codeAny (model prog w) (A.under (.builtin "type.__call__" ⟨.ref C :: vs, kw⟩)) (.call (.ref f) ⟨.ref (s.heap.objs.size + 1) :: vs, kw⟩) (PySem.W.InitBack (s.heap.objs.size + 1) R)
      { s with heap := (s.heap.push PySem.W.emptyDict).push (PySem.W.instObj C s.heap.objs.size) }) :
    codeAny (model prog w) A (.call (.ref C) ⟨vs, kw⟩) R s := by
  obtain ⟨hh, g, d, t, os⟩ := s
  exact PySem.W.make_core (PySem.W.makes_of X hm) (PySem.W.looks_findIn X hi) (fun self => PySem.W.bind_fn X self hf) (.inl rfl) h
end
def putF (f : Str) (v : V) : List (Str × V) → List (Str × V)
  | [] => [(f, v)]
  | (g, x) :: r => if g = f then (g, v) :: r else (g, x) :: putF f v r
theorem lookup_putF (f g : Str) (v : V) : ∀ fs : List (Str × V), (putF f v fs).lookup g = if g = f then some v else fs.lookup g
  | [] => by
    show List.lookup g [(f, v)] = _
    by_cases h : g = f
    · have hb : (g == f) = true := beq_iff_eq.mpr h
      simp only [List.lookup, hb, if_pos h]
    · have hb : (g == f) = false := beq_eq_false_iff_ne.mpr h
      simp only [List.lookup, hb, if_neg h]
  | (k, x) :: r => by
    have ih := lookup_putF f g v r
    rw [show putF f v ((k, x) :: r) = (if k = f then (k, v) :: r else (k, x) :: putF f v r) from rfl]
    by_cases hk : k = f
    · rw [if_pos hk]
      by_cases h : g = k
      · have hb : (g == k) = true := beq_iff_eq.mpr h
        simp only [List.lookup, hb, if_pos (h.trans hk)]
      · have hb : (g == k) = false := beq_eq_false_iff_ne.mpr h
        simp only [List.lookup, hb, if_neg (fun e : g = f => h (e.trans hk.symm))]
    · rw [if_neg hk]
      by_cases h : g = k
      · have hb : (g == k) = true := beq_iff_eq.mpr h
        simp only [List.lookup, hb, if_neg (fun e : g = f => hk (h.symm.trans e))]
      · have hb : (g == k) = false := beq_eq_false_iff_ne.mpr h
        simp only [List.lookup, hb]
        exact ih
theorem keys_putF (f : Str) (v : V) : ∀ fs : List (Str × V), f ∈ (putF f v fs).map (·.1) ∧ ∀ g, g ∈ fs.map (·.1) → g ∈ (putF f v fs).map (·.1)
  | [] => ⟨by simp [putF], fun g h => by simp at h⟩
  | (k, x) :: r => by
    obtain ⟨i1, i2⟩ := keys_putF f v r
    rw [show putF f v ((k, x) :: r) = (if k = f then (k, v) :: r else (k, x) :: putF f v r) from rfl]
    by_cases hk : k = f
    · rw [if_pos hk]
      subst hk
      exact ⟨by simp, fun g h => by simpa using h⟩
    · rw [if_neg hk]
      refine ⟨?_, fun g h => ?_⟩
      · rw [List.map_cons]
        exact List.mem_cons_of_mem _ i1
      · rw [List.map_cons] at h ⊢
        rcases List.mem_cons.mp h with e | e
        · exact List.mem_cons.mpr (.inl e)
        · exact List.mem_cons_of_mem _ (i2 g e)
theorem length_putF (f : Str) (v : V) : ∀ fs : List (Str × V), (putF f v fs).length ≤ fs.length + 1
  | [] => by simp [putF]
  | (k, x) :: r => by
    have ih := length_putF f v r
    rw [show putF f v ((k, x) :: r) = (if k = f then (k, v) :: r else (k, x) :: putF f v r) from rfl]
    by_cases hk : k = f
    · rw [if_pos hk, List.length_cons, List.length_cons]; omega
    · rw [if_neg hk, List.length_cons, List.length_cons]; omega
theorem RelO.some_of {v : V} {o : Option Value} (r : RelO (some v) o) : ∃ u, o = some u ∧ RelV v u := by
  cases o with
  | none => exact (show False from r).elim
  | some u => exact ⟨u, rfl, r⟩
theorem RelO.none_of {o : Option Value} (r : RelO none o) : o = none := by
  cases o with
  | none => rfl
  | some u => exact (show False from r).elim
theorem handed_of {v : V} {u : Value} (r : RelV v u) : PySem.W.handedIn u = true := by
  cases v with
  | non => cases (show u = Value.none from r); rfl
  | bl b => cases (show u = Value.bool b from r); rfl
  | int i => obtain ⟨t, e⟩ := (show ∃ t, u = Value.int i t from r); cases e; rfl
  | str x => obtain ⟨t, e⟩ := (show ∃ t, u = Value.str x t from r); cases e; rfl
  | byt b => obtain ⟨t, e⟩ := (show ∃ t, u = Value.bytes b t from r); cases e; rfl
  | flt b => obtain ⟨t, e⟩ := (show ∃ t, u = Value.float b t from r); cases e; rfl
  | ref a => cases (show u = Value.ref a from r); rfl
  | ty n => cases (show u = Value.type n from r); rfl
section
variable {P : Program} {w : World} {H H' : Hp} {h h' : Heap} {a C dx : Addr} {fs fs' : List (Str × V)}
theorem ins_get (hok : HOk P w H h) (e : H a = some (.ins C dx fs)) : ∃ mA, ObjM h a dx C mA ∧ (∀ f, RelO (fs.lookup f) (mA f)) ∧ PySem.Within mA (fs.map (·.1)) ∧ fs.length ≤ 1000 ∧ H dx = some (.own a) := by
  obtain ⟨d, z, ne, ob, mA, n, r, q⟩ := (show ObjOk P w H h a (.ins C dx fs) from hok a _ e)
  exact ⟨mA, ⟨ob, n, ne⟩, r, q, z, d⟩
end
structure Cls (K : PySem.W.Frag) (C : Addr) : Prop where
  pg : PySem.W.plainGet K C Str.empty = true
  hd : PySem.W.hasDictIn K C = true
  po : PySem.W.plainOver K C = true
  sa : PySem.W.findIn K (.ref C) "__setattr__" = some (some (.builtin "object.__setattr__"))
theorem Cls.get {K : PySem.W.Frag} {C : Addr} (c : Cls K C) (f : Str) : PySem.W.plainGet K C f = true := c.pg
def NoAttr (K : PySem.W.Frag) (C : Addr) (f : Str) : Prop := PySem.W.findIn K (.ref C) f = some none
theorem NoAttr.taker {K : PySem.W.Frag} {C : Addr} {f : Str} (n : NoAttr K C f) : PySem.W.takerIn K C f = some none := by
  unfold PySem.W.takerIn
  rw [show PySem.W.findIn K (.ref C) f = some none from n]
  rfl
structure Meth (K : PySem.W.Frag) (C : Addr) (m : Str) (f : Addr) : Prop where
  at_ : PySem.W.findIn K (.ref C) m = some (some (.ref f))
  fn : PySem.W.isFn K (.ref f) = true
  kp : PySem.W.keepIn K (.ref f) = true
section
variable {X : Cx} {pins : List (Addr × Obj)} {σ : St} {H : Hp} {s : Shared} {a C dx : Addr} {fs : List (Str × V)} {f : Str} {v : V} {A : Around} {E : Value → Shared → Prop}
theorem getattr_ok {b : Bool} {Q : Value → Shared → Prop} (I : Inv X pins σ H s) (e : H a = some (.ins C dx fs)) (c : Cls X.K C) (n : NoAttr X.K C f) (l : fs.lookup f = some v)
    (h : ∀ u s', Inv X pins σ H s' → RelV v u → Q u s') : wpAny (model X.prog X.w) A (getAttr (.ref a) f b) Q E s := by
  obtain ⟨mA, O, r, _, _, _⟩ := ins_get I.hok e
  obtain ⟨u, hu, ru⟩ := RelO.some_of (v := v) (o := mA f) (by rw [← l]; exact r f)
  exact get_map I.kIn O (c.get f) c.hd n hu (handed_of ru) (h u _ (I.tok _) ru)
theorem getmeth_ok {m : Str} {g : Addr} {pl : Sem Bool} {Q : Value × List Value → Shared → Prop} (I : Inv X pins σ H s) (e : H a = some (.ins C dx fs)) (c : Cls X.K C) (k : Meth X.K C m g) (l : fs.lookup m = none)
    (h : Q (.ref g, [.ref a]) s) : wpAny (model X.prog X.w) A (getMethod (.ref a) m pl) Q E s := by
  obtain ⟨mA, O, r, _, _, _⟩ := ins_get I.hok e
  have hn : mA m = none := RelO.none_of (by rw [← l]; exact r m)
  exact get_meth I.kIn O (c.get m) k.at_ k.fn hn h
theorem setattr_ok {y : V} {u : Value} {Q : Unit → Shared → Prop} (I : Inv X pins σ H s) (e : H a = some (.ins C dx fs)) (c : Cls X.K C) (n : NoAttr X.K C f) (hl : fs.length < 1000) (ry : RelV y u)
    (h : ∀ s', Inv X pins σ (upd H a (.ins C dx (putF f y fs))) s' → Q () s') : wpAny (model X.prog X.w) A (setAttr (.ref a) f u) Q E s := by
  obtain ⟨mA, O, r, wi, _, ho⟩ := ins_get I.hok e
  have hz : (fs.map (·.1)).length ≤ sizeLine := by rw [List.length_map, sizeLine_eq]; omega
  refine set_map I.kIn O c.sa c.po n.taker c.hd wi hz fun h' O' sb => h _ ?_
  have hd : ∃ o, h'.get? dx = some o := let ⟨o, _, _, e', _⟩ := O'.ns; ⟨o, e'⟩
  refine I.write (x := a) (e := dx) (by rw [e]; exact True.intro) (.inr ho) (fun b q hb z => (sb.2 b hb).trans z) hd ?_
  refine ⟨by rw [upd_ne O.ne]; exact ho, ?_, O.ne, O'.obj, _, O'.ns, fun g => ?_, fun g hg => ?_⟩
  · have := length_putF f y fs; omega
  · show RelO ((putF f y fs).lookup g) (if g = f then some u else mA g)
    rw [lookup_putF]
    by_cases q : g = f
    · rw [if_pos q, if_pos q]; exact ry
    · rw [if_neg q, if_neg q]; exact r g
  · by_cases q : g = f
    · rw [q]; exact (keys_putF f y fs).1
    · refine (keys_putF f y fs).2 g (wi g fun z => hg ?_)
      show (if g = f then some u else mA g) = none
      rw [if_neg q]; exact z
theorem Inv.made (I : Inv X pins σ H s) : Inv X pins σ (upd (upd H s.heap.objs.size (.own (s.heap.objs.size + 1))) (s.heap.objs.size + 1) (.ins C s.heap.objs.size []))
    { s with heap := (s.heap.push PySem.W.emptyDict).push (PySem.W.instObj C s.heap.objs.size) } := by
  have e1 : (s.heap.push PySem.W.emptyDict).get? s.heap.objs.size = some PySem.W.emptyDict := Heap.get?_push_size s.heap rfl
  have e2 : ((s.heap.push PySem.W.emptyDict).push (PySem.W.instObj C s.heap.objs.size)).get? (s.heap.objs.size + 1) = some (PySem.W.instObj C s.heap.objs.size) := by
    have := Heap.get?_push_size (s.heap.push PySem.W.emptyDict) (o := PySem.W.instObj C s.heap.objs.size) rfl
    rwa [Heap.size_push] at this
  have e3 : (s.heap.push PySem.W.emptyDict).Ns s.heap.objs.size (fun _ => none) := ⟨PySem.W.emptyDict, #[], _, e1, rfl, (fun e he => absurd he (by simp)), fun _ => rfl⟩
  have I1 := I.laid (a := s.heap.objs.size) (o := .own (s.heap.objs.size + 1)) (h' := s.heap.push PySem.W.emptyDict) (t' := s.toks) (fun b u q => Heap.get?_push_of_some _ q) (Nat.le_refl _) ⟨_, e1⟩
  refine I1.laid (a := s.heap.objs.size + 1) (o := .ins C s.heap.objs.size []) (t' := s.toks) (fun b u q => Heap.get?_push_of_some _ q) (Nat.le_of_eq (Heap.size_push _ _)) ?_
  have ne : s.heap.objs.size ≠ s.heap.objs.size + 1 := Nat.ne_of_lt (Nat.lt_succ_self _)
  refine ⟨by rw [upd_ne ne, upd_same], Nat.zero_le _, ne, e2, fun _ => none, (Heap.Ns1.of_empty e3).at fun o q => Heap.get?_push_of_some _ q, fun _ => True.intro, fun y hy => absurd rfl hy⟩
theorem attr_of {prog : Program} {w : World} {env : Env} {e : Expr} {f : Str} {pos : Pos} {s : Shared} {Q : Value → Shared → Prop} (hb : attributeBase e f env (eval e env) = eval e env)
    (h : wpAny (model prog w) A (eval e env) (fun o s₁ => wpAny (model prog w) A (getAttr o f true) Q E s₁) E s) : wpAny (model prog w) A (eval (.Attribute e f pos) env) Q E s :=
  Attribute_any_ h (by rw [arm_eval_Attribute, hb])
end
def tFld (K : PySem.W.Frag) (ta : TE) (f : Str) : TE := fun σ H Q => ta σ H fun x H1 => ∃ a C dx fs v, x = .ref a ∧ H1 a = some (.ins C dx fs) ∧ Cls K C ∧ NoAttr K C f ∧ fs.lookup f = some v ∧ Q v H1
def sFld (K : PySem.W.Frag) (ta tv : TE) (f : Str) : TS := fun D σ H => tv σ H fun y H1 => ta σ H1 fun x H2 => ∃ a C dx fs, x = .ref a ∧ H2 a = some (.ins C dx fs) ∧ Cls K C ∧ NoAttr K C f ∧ fs.length < 1000 ∧
  D.nx σ (upd H2 a (.ins C dx (putF f y fs)))
section
variable {X : Cx} {o e value : Expr} {f : Str} {pos pos' tpos : Pos} {ta tv : TE}
theorem pe_fld (he : PE X e ta) (hb : attributeBase e f X.env (eval e X.env) = eval e X.env) : PE X (.Attribute e f pos) (tFld X.K ta f) := by
  intro pins s σ H Q I h
  refine attr_of hb (thn (he pins s σ H _ I h) fun u s1 ⟨x, H1, I1, rx, a, C, dx, fs, v, ex, ea, c, n, l, q⟩ => ?_)
  subst ex
  obtain rfl : u = Value.ref a := rx
  exact getattr_ok I1 ea c n l fun u' s2 I2 ru => ⟨v, H1, I2, ru, q⟩
theorem ps_fld (ha : PE X o ta) (hv : PE X value tv) (hs : swapsWith value (some (.Attribute o f pos')) pos.line X.env = pure false) : PS X (.Assign [.Attribute o f pos'] value pos) (sFld X.K ta tv f) := by
  intro pins s σ H D I h
  refine plainObj_wpAny_Assign_Attribute (thn (hv pins s σ H _ I h) fun u s1 ⟨y, H1, I1, ry, q⟩ => thn (ha pins s1 σ H1 _ I1 q) fun ov s2 ⟨x, H2, I2, rx, a, C, dx, fs, ex, ea, c, n, l, q2⟩ => ?_) hs
  subst ex
  obtain rfl : ov = Value.ref a := rx
  exact setattr_ok I2 ea c n l ry fun s3 I3 => ⟨σ, _, I3, q2⟩
theorem methcall_of {pl : Sem Bool} {m : Str} {apos : Pos} {args : List Expr} {pins : List (Addr × Obj)} {s : Shared} {σ : St} {H : Hp} {Q : Value → Shared → Prop} {te : TE} (he : PE X e te) (I : Inv X pins σ H s)
    (h : te σ H fun x H1 => ∃ a C dx fs g, x = .ref a ∧ H1 a = some (.ins C dx fs) ∧ Cls X.K C ∧ Meth X.K C m g ∧ fs.lookup m = none ∧
      ∀ s1, Inv X pins σ H1 s1 → wpAny (model X.prog X.w) X.A (callWith pos (.ref g) [.ref a] (backTo pos (starEach args X.env)) (backToKw pos (keywordEach [] X.env))) Q X.xe s1)
    (ht : eval (.Call (.Attribute e m apos) args [] pos) X.env = (do
      let ov ← eval e X.env
      standAt apos.atName
      let (f, first) ← holding [ov] (getMethod ov m pl)
      callWith pos f first (backTo pos (starEach args X.env)) (backToKw pos (keywordEach [] X.env)))) :
    wpAny (model X.prog X.w) X.A (eval (.Call (.Attribute e m apos) args [] pos) X.env) Q X.xe s := by
  refine PySem.W.methodCall_KW (pl := pl) (thn (he pins s σ H _ I h) fun u s1 ⟨x, H1, I1, rx, a, C, dx, fs, g, ex, ea, c, k, l, q⟩ => ?_) ht
  subst ex
  obtain rfl : u = Value.ref a := rx
  exact getmeth_ok I1 ea c k l (q s1 I1)
end
section
variable {X : Cx} {pins : List (Addr × Obj)} {σ : St} {H : Hp} {s : Shared} {A : Around} {E : Value → Shared → Prop} {Q : Value → Shared → Prop} {c : Value} {b : Bool}
inductive TyOf (K : PySem.W.Frag) (H : Hp) : V → Value → Prop where
  | non : TyOf K H .non (.type "NoneType")
  | bl (x : Bool) : TyOf K H (.bl x) (.type "bool")
  | int (i : Int) : TyOf K H (.int i) (.type "int")
  | str (x : Str) : TyOf K H (.str x) (.type "str")
  | flt (x : UInt64) : TyOf K H (.flt x) (.type "float")
  | lst {a : Addr} {xs : List V} (e : H a = some (.lst xs)) : TyOf K H (.ref a) (.type "list")
  | frz {a : Addr} {o : Obj} {xs : List V} (e : H a = some (.frz o (.lst xs))) : TyOf K H (.ref a) (.type "list")
  | tup {a : Addr} {xs : List V} (e : H a = some (.tup xs)) : TyOf K H (.ref a) (.type "tuple")
  | dK {a : Addr} {kvs : List (Key × V)} (e : H a = some (.dK kvs)) : TyOf K H (.ref a) (.type "dict")
  | dT {a : Addr} {kvs : List (List Key × V)} (e : H a = some (.dT kvs)) : TyOf K H (.ref a) (.type "dict")
  | ins {a C dx : Addr} {fs : List (Str × V)} (e : H a = some (.ins C dx fs)) (cl : Cls K C) (ha : PySem.W.findIn K (.ref C) "__class__" = some (some (.builtin "object.__class__")))
      (hn : PySem.W.specialIn K (.builtin "object.__class__") "__get__" = some (some (.builtin "getset_descriptor.__get__"))) (htk : PySem.W.takesIn K (.builtin "object.__class__") = some true)
      (hm : PySem.W.mroIn K C (.type "object") = some true) : TyOf K H (.ref a) (.ref C)
theorem isinst_ok {x : V} {u t : Value} (I : Inv X pins σ H s) (rx : RelV x u) (ty : TyOf X.K H x t) (e : PySem.W.kitOne X.K t c = some b) (h : ∀ tk, Q (.bool b) { s with toks := tk }) :
    wpAny (model X.prog X.w) A (call (.builtin "isinstance") [u, c]) Q E s := by
  cases ty with
  | non => cases (show u = Value.none from rx); exact PySem.W.kia_one PySem.W.kitx_none I.kIn True.intro e (fun z => nomatch z) h
  | bl y => cases (show u = Value.bool y from rx); exact PySem.W.kia_one PySem.W.kitx_bool I.kIn True.intro e (fun z => nomatch z) h
  | int i => obtain ⟨t, q⟩ := (show ∃ t, u = Value.int i t from rx); cases q; exact PySem.W.kia_one PySem.W.kitx_int I.kIn True.intro e (fun z => nomatch z) h
  | str y => obtain ⟨t, q⟩ := (show ∃ t, u = Value.str y t from rx); cases q; exact PySem.W.kia_one PySem.W.kitx_str I.kIn True.intro e (fun z => nomatch z) h
  | flt y => obtain ⟨t, q⟩ := (show ∃ t, u = Value.float y t from rx); cases q; exact PySem.W.kia_one PySem.W.kitx_float I.kIn True.intro e (fun z => nomatch z) h
  | @lst a xs ea =>
    cases (show u = Value.ref a from rx)
    obtain ⟨_, _, n, _, h1⟩ := (show ObjOk X.prog X.w H s.heap a (.lst xs) from I.hok a _ ea)
    exact PySem.W.kia_one PySem.W.kitx_list I.kIn ⟨_, h1, rfl⟩ e (fun z => nomatch z) h
  | @frz a ob xs ea =>
    cases (show u = Value.ref a from rx)
    obtain ⟨_, _, _, n, _, h1⟩ := (show ObjOk X.prog X.w H s.heap a (.frz ob (.lst xs)) from I.hok a _ ea)
    exact PySem.W.kia_one PySem.W.kitx_list I.kIn ⟨_, h1, rfl⟩ e (fun z => nomatch z) h
  | @tup a xs ea =>
    cases (show u = Value.ref a from rx)
    obtain ⟨_, _, _, p⟩ := (show ObjOk X.prog X.w H s.heap a (.tup xs) from I.hok a _ ea)
    obtain ⟨o, h1, h2, _⟩ := p
    exact PySem.W.kia_one PySem.W.kitx_tuple I.kIn ⟨o, h1, h2⟩ e (fun z => nomatch z) h
  | @dK a kvs ea =>
    cases (show u = Value.ref a from rx)
    obtain ⟨_, _, vs, _, p⟩ := (show ObjOk X.prog X.w H s.heap a (.dK kvs) from I.hok a _ ea)
    obtain ⟨o, es, ep, h1, h2, _⟩ := p
    exact PySem.W.kia_one PySem.W.kitx_dict I.kIn ⟨o, h1, h2.1⟩ e (fun z => nomatch z) h
  | @dT a kvs ea =>
    cases (show u = Value.ref a from rx)
    obtain ⟨_, _, xs, _, o, es, ep, h1, h2, _⟩ := (show ObjOk X.prog X.w H s.heap a (.dT kvs) from I.hok a _ ea)
    exact PySem.W.kia_one PySem.W.kitx_dict I.kIn ⟨o, h1, h2.1⟩ e (fun z => nomatch z) h
  | @ins a C dx fs ea cl ha hn htk hm =>
    cases (show u = Value.ref a from rx)
    obtain ⟨mA, O, _⟩ := ins_get I.hok ea
    obtain ⟨od, J, _⟩ := O.look
    exact PySem.W.kia_one (PySem.W.kitx_own (cl.get _) cl.hd ha hn htk hm) I.kIn J e (fun z => nomatch z) h
end
end L2
namespace L2
open PySem PySem.Spec PyProof.Rows
structure RoomC (c : Bool) (k : Nat) (A : Around) : Prop where
  hd : c = true → A.handled = none
  dp : A.depth + 3 * k + 5 < recursionLimit
  un : A.units + 16 * k + 200 < cLine
abbrev Room := RoomC true
theorem RoomC.mono {c c' : Bool} {j k : Nat} {A : Around} (r : RoomC c k A) (h : j ≤ k) (hc : c' = true → c = true := by decide) : RoomC c' j A := ⟨fun z => r.hd (hc z), by have := r.dp; omega, by have := r.un; omega⟩
theorem RoomC.deeper {c : Bool} {k : Nat} {A : Around} (r : RoomC c (k + 1) A) (env : Env) : RoomC c k (A.deeper env) :=
  ⟨r.hd, by have := r.dp; show A.depth + 1 + 3 * k + 5 < _; omega, by have := r.un; show A.units + 3 + 16 * k + 200 < _; omega⟩
theorem make_depth {A : Around} {C : Addr} {us : List Value} {kw : List (Str × Value)} : (A.under (.builtin "type.__call__" ⟨.ref C :: us, kw⟩)).depth = A.depth + 1 := by
  first | rfl | simp [Around.under, Code.weight, Code.isCreation, Code.isGuard, Code.isCaller, Code.frames, Code.isFrame, guardIds]
theorem make_units {A : Around} {C : Addr} {us : List Value} {kw : List (Str × Value)} : (A.under (.builtin "type.__call__" ⟨.ref C :: us, kw⟩)).units = A.units + 1 := by
  first | rfl | simp [Around.under, Code.cUnits, Code.frames, Code.isFrame]
theorem RoomC.make {c : Bool} {k : Nat} {A : Around} (r : RoomC c (k + 1) A) (C : Addr) (us : List Value) (kw : List (Str × Value)) : RoomC c k (A.under (.builtin "type.__call__" ⟨.ref C :: us, kw⟩)) :=
  ⟨r.hd, by have := r.dp; rw [make_depth]; omega, by have := r.un; rw [make_units]; omega⟩
theorem RoomC.depth {c : Bool} {k : Nat} {A : Around} (r : RoomC c k A) : A.depth < recursionLimit := by have := r.dp; omega
theorem RoomC.units {c : Bool} {k : Nat} {A : Around} (r : RoomC c k A) : A.units + 64 < cLine := by have := r.un; omega
theorem RoomC.units0 {c : Bool} {k : Nat} {A : Around} (r : RoomC c k A) : A.units < cLine := by have := r.un; omega
def tNil : TA := fun _ H Q => Q [] H
def tCons (ta : TE) (tr : TA) : TA := fun σ H Q => ta σ H fun x H1 => tr σ H1 fun xs H2 => Q (x :: xs) H2
section
variable {X : Cx} {e : Expr} {es : List Expr} {te : TE} {t : TA} {pos : Pos}
theorem pa_nil : PA X [] tNil := fun _ _ _ _ H Q I h => Calls.spliced_nil ⟨[], H, I, .nil, h⟩
theorem pa_cons (ha : PE X e te) (hr : PA X es t) (hs : starEach (e :: es) X.env = (false, eval e X.env) :: starEach es X.env := by rfl) : PA X (e :: es) (tCons te t) := by
  intro pos pins s σ H Q I h
  rw [hs]
  show wpAny _ _ (spliced ((false, eval e X.env) :: backTo pos (starEach es X.env))) _ _ s
  refine Calls.spliced_cons (thn (ha pins s σ H _ I h) fun u s1 ⟨x, H1, I1, r1, q1⟩ => ?_)
  exact thn (hr pos pins s1 σ H1 _ I1 q1) fun us s2 ⟨xs, H2, I2, r2, q2⟩ => ⟨x :: xs, H2, I2, .cons r1 r2, q2⟩
def tTup (t : TA) : TE := fun σ H Q => t σ H fun xs H1 => xs.length ≤ sizeLine ∧ ∀ p, H1 p = none → Q (.ref p) (upd H1 p (.tup xs))
def tLst (t : TA) : TE := fun σ H Q => t σ H fun xs H1 => xs.length ≤ sizeLine ∧ ∀ p, H1 p = none → Q (.ref p) (upd H1 p (.lst xs))
theorem pe_tup {x1} (h : PA X es t) : PE X (.Tuple es x1 pos) (tTup t) := by
  intro pins s σ H Q I hq
  refine wpAny_Tuple_spliced (thn (h pos pins s σ H _ I hq) fun us s1 ⟨xs, H1, I1, r, z, q⟩ => ⟨by rw [← r.length]; exact z, ?_⟩)
  have hf : H1 s1.heap.objs.size = none := I1.hok.fresh (Nat.le_refl _)
  refine ⟨.ref s1.heap.objs.size, upd H1 s1.heap.objs.size (.tup xs), I1.laid (t' := s1.toks) (fun b u e => Heap.get?_push_of_some _ e) (Nat.le_refl _) ?_, rfl, q _ hf⟩
  exact ⟨z, us, r, ⟨_, Heap.get?_push_size _ rfl, rfl, _, rfl⟩⟩
theorem pe_lst (h : PA X es t) : PE X (.List es pos) (tLst t) := by
  intro pins s σ H Q I hq
  refine wpAny_List_spliced (thn (h pos pins s σ H _ I hq) fun us s1 ⟨xs, H1, I1, r, z, q⟩ => ⟨by rw [← r.length]; exact z, ?_⟩)
  have hf : H1 s1.heap.objs.size = none := I1.hok.fresh (Nat.le_refl _)
  refine ⟨.ref s1.heap.objs.size, upd H1 s1.heap.objs.size (.lst xs), I1.laid (t' := s1.toks) (fun b u e => Heap.get?_push_of_some _ e) (Nat.le_refl _) ?_, rfl, q _ hf⟩
  exact ⟨z, us, 0, r, Heap.get?_push_size _ rfl⟩
end
abbrev Sp := List V → Hp → VK → XK → Prop
abbrev CXT := List Env → Hp → Shared → XK → Value → Shared → Prop
structure Env0 (P : Program) (w : World) (K : PySem.W.Frag) (mg : Str → Option Value) (base : Heap) (A : Around) (outer : List Env) (s : Shared) (H : Hp) : Prop where
  frames : A.frames = some outer
  mod : Mod K mg base
  bs : ∀ b o, base.get? b = some o → s.heap.get? b = some o ∧ H b = none
  bsz : base.objs.size ≤ s.heap.objs.size
  funs : s.heap.FunFrames base outer
  frf : ∀ b ∈ frs outer, H b = none
  hok : HOk P w H s.heap
  bare : AllBare s.gens
  hn : HdF A H
def CE (outer : List Env) (P : Program) (w : World) (H : Hp) (s : Shared) (Q : VK) (u : Value) (s' : Shared) : Prop :=
  ∃ v H', s'.os = s.os ∧ AllBare s'.gens ∧ Un (frs outer) [] H H' s.heap s'.heap ∧ HOk P w H' s'.heap ∧ RelV v u ∧ Q v H'
def CR (CX : CXT) (outer : List Env) (P : Program) (w : World) (H : Hp) (s : Shared) (Q : VK) (E : XK) (r : Result) (s' : Shared) : Prop :=
  match r with
  | .ok (.ret u) => CE outer P w H s Q u s'
  | .ok _ => False
  | .error e => CX outer H s E e s'
structure FnOk (P : Program) (w : World) (K : PySem.W.Frag) (mg : Str → Option Value) (base : Heap) (CX : CXT) (k : Nat) (f : Addr) (fd : FuncData) (ps : List Str) (sp : Sp) (c : Bool := true) : Prop where
  len : ∀ vs H Q E, sp vs H Q E → vs.length = ps.length
  run : ∀ (A : Around) (outer : List Env) (s : Shared) (H : Hp) (args : Args) (us : List Value) (vs : List V) (Q : VK) (E : XK), RoomC c k A → Env0 P w K mg base A outer s H → BindsTo s fd args (ps.zip us) → Vals vs us → sp vs H Q E →
    codeAny (model P w) A (.call (.ref f) args) (CR CX outer P w H s Q E) s
theorem Env0.make {P : Program} {w : World} {K : PySem.W.Frag} {mg : Str → Option Value} {base : Heap} {A : Around} {outer : List Env} {s : Shared} {H : Hp} (e : Env0 P w K mg base A outer s H) (C : Addr) (us : List Value) (kw : List (Str × Value)) :
    Env0 P w K mg base (A.under (.builtin "type.__call__" ⟨.ref C :: us, kw⟩)) outer s H := ⟨by first | exact e.frames | (simpa [Around.under, Code.envs, Code.isFrame, pushEnvs] using e.frames), e.mod, e.bs, e.bsz, e.funs, e.frf, e.hok, e.bare, e.hn⟩
section
variable {X : Cx} {pins : List (Addr × Obj)} {σ : St} {H : Hp} {s s' : Shared}
theorem Inv.env0 (I : Inv X pins σ H s) : Env0 X.prog X.w X.K X.mg X.base X.A X.stack s H :=
  ⟨I.ok.frames, I.ok.mod, I.bs, Nat.le_trans I.ok.bsz I.sz, I.stack, I.stkFree, I.hok, I.bare, I.hn⟩
theorem Inv.after {Q : VK} {u : Value} (I : Inv X pins σ H s) (h : CE X.stack X.prog X.w H s Q u s') : EP X pins σ Q u s' := by
  obtain ⟨v, H', os, bare, un, hok, r, q⟩ := h
  obtain ⟨hh, g, d, t, os'⟩ := s'
  obtain rfl : os' = s.os := os
  exact ⟨v, H', I.call (h' := hh) (g' := g) (d' := d) (t' := t) (ch := []) un hok bare (fun b z => absurd z (by simp)), r, q⟩
end
def tCall (sp : Sp) (dvs : List V) (E : XK) (t : TA) : TE := fun σ H Q => t σ H fun vs H1 => sp (vs ++ dvs) H1 Q E
def tMeth (C : Addr) (m : Str) (sp : Sp) (dvs : List V) (E : XK) (ta : TE) (t : TA) : TE := fun σ H Q => ta σ H fun x H1 => ∃ a dx fs, x = .ref a ∧ H1 a = some (.ins C dx fs) ∧ fs.lookup m = none ∧
  t σ H1 fun vs H2 => sp (x :: (vs ++ dvs)) H2 Q E
def tMake (C : Addr) (sp : Sp) (dvs : List V) (E : XK) (t : TA) : TE := fun σ H Q => t σ H fun vs H1 => ∀ x dx, H1 x = none → H1 dx = none → dx ≠ x →
  sp (.ref x :: (vs ++ dvs)) (upd (upd H1 dx (.own x)) x (.ins C dx [])) (fun v H2 => v = .non ∧ Q (.ref x) H2) E
def Binds (K : PySem.W.Frag) (fd : FuncData) (ps : List Str) (ds : List Value) : Prop :=
  ∀ (s : Shared) (us : List Value), K.In s.heap → (us ++ ds).length = ps.length → BindsTo s fd ⟨us, []⟩ (ps.zip (us ++ ds))
theorem Binds.all {K : PySem.W.Frag} {fd : FuncData} {ps : List Str} (h : ∀ us : List Value, us.length = ps.length → bindArgs fd ⟨us, []⟩ = pure (ps.zip us)) : Binds K fd ps [] := fun s us _ hl => by
  rw [List.append_nil] at hl ⊢
  exact .of_eq (h us hl)
def Passes (CX : CXT) (X : Cx) (E : XK) : Prop := ∀ (pins : List (Addr × Obj)) (σ : St) (H : Hp) (s : Shared) (e : Value) (s' : Shared), Inv X pins σ H s → CX X.stack H s E e s' → X.xe e s'
section
variable {X : Cx} {CX : CXT} {k : Nat} {f C : Addr} {fd : FuncData} {ps : List Str} {sp : Sp} {dvs : List V} {ds : List Value} {E : XK} {x m : Str} {p pos apos : Pos} {e o : Expr} {es : List Expr} {ta : TE} {t : TA}
theorem run_fn {pins : List (Addr × Obj)} {σ : St} {H : Hp} {s : Shared} {Q : VK} {us : List Value} {vs : List V} {cm : Bool} (F : FnOk X.prog X.w X.K X.mg X.base CX k f fd ps sp cm) (hr : RoomC cm k X.A) (hb : Binds X.K fd ps ds) (hd : Vals dvs ds) (hx : Passes CX X E)
    (I : Inv X pins σ H s) (r : Vals vs us) (h : sp (vs ++ dvs) H Q E) : wpAny (model X.prog X.w) X.A (call (.ref f) us) (EP X pins σ Q) X.xe s := by
  have r2 : Vals (vs ++ dvs) (us ++ ds) := r.append hd
  have hl : (us ++ ds).length = ps.length := by rw [← r2.length]; exact F.len _ _ _ _ h
  refine wpAny_call (codeAny_mono (F.run X.A X.stack s H ⟨us, []⟩ (us ++ ds) (vs ++ dvs) Q E hr I.env0 (hb s us I.kIn hl) r2 h) fun r s' hq => ?_)
  cases r with
  | error e => exact hx pins σ H s e s' I hq
  | ok fl =>
    cases fl with
    | ret u => exact I.after hq
    | next => exact False.elim hq
    | brk => exact False.elim hq
    | cont => exact False.elim hq
theorem pe_call {cm : Bool} (F : FnOk X.prog X.w X.K X.mg X.base CX k f fd ps sp cm) (hr : RoomC cm k X.A) (hg : Gl X x) (hm : X.mg x = some (.ref f)) (hk : PySem.W.keepIn X.K (.ref f) = true) (hb : Binds X.K fd ps ds) (hd : Vals dvs ds) (hx : Passes CX X E)
    (ha : PA X (e :: es) t) (hdb : (x == ("__debug__" : Str)) = false := by decide) (he : starEach (e :: es) X.env = (false, eval e X.env) :: starEach es X.env := by rfl) (hpl : (backTo pos (starEach es X.env)).any (·.1) = false := by rfl) :
    PE X (.Call (.Name x p) (e :: es) [] pos) (tCall sp dvs E t) := by
  intro pins s σ H Q I h
  refine wpAny_Call_Name_kw (ld_glob I hg hm ?_ hdb)
  refine PySem.W.callWith_K (h₀ := X.base) I.ok.mod.kin hk (thn (ha pos pins s σ H _ I h) fun us s1 ⟨vs, H1, I1, r, q⟩ => ⟨I1.kIn, ?_⟩) he hpl
  exact run_fn F hr hb hd hx I1 r q
theorem pe_meth {pl : Sem Bool} (he : PE X o ta) (c : Cls X.K C) (hm : Meth X.K C m f) {cm : Bool} (F : FnOk X.prog X.w X.K X.mg X.base CX k f fd ps sp cm) (hr : RoomC cm k X.A) (hb : Binds X.K fd ps ds) (hd : Vals dvs ds) (hx : Passes CX X E) (ha : PA X (e :: es) t)
    (hst : starEach (e :: es) X.env = (false, eval e X.env) :: starEach es X.env := by rfl) (hpl : (backTo pos (starEach es X.env)).any (·.1) = false := by rfl)
    (ht : eval (.Call (.Attribute o m apos) (e :: es) [] pos) X.env = (do
      let ov ← eval o X.env
      standAt apos.atName
      let (f, first) ← holding [ov] (getMethod ov m pl)
      callWith pos f first (backTo pos (starEach (e :: es) X.env)) (backToKw pos (keywordEach [] X.env))) := by rfl) :
    PE X (.Call (.Attribute o m apos) (e :: es) [] pos) (tMeth C m sp dvs E ta t) := by
  intro pins s σ H Q I h
  refine PySem.W.methodCall_KW (pl := pl) (thn (he pins s σ H _ I h) fun u s1 ⟨x, H1, I1, rx, a, dx, fs, ex, ea, l, q⟩ => ?_) ht
  subst ex
  obtain rfl : u = Value.ref a := rx
  refine getmeth_ok I1 ea c hm l ?_
  refine PySem.W.callWith_K (first := [.ref a]) (h₀ := X.base) I.ok.mod.kin hm.kp (thn (ha pos pins s1 σ H1 _ I1 q) fun us s2 ⟨vs, H2, I2, r, q2⟩ => ⟨I2.kIn, ?_⟩) hst hpl
  exact run_fn (us := .ref a :: us) (vs := .ref a :: vs) F hr hb hd hx I2 (.cons rfl r) q2
structure Mk (K : PySem.W.Frag) (C f : Addr) : Prop where
  makes : PySem.W.makesIn K C = true
  init : PySem.W.findIn K (.ref C) "__init__" = some (some (.ref f))
  fn : PySem.W.isFn K (.ref f) = true
  kp : PySem.W.keepIn K (.ref C) = true
theorem run_make {pins : List (Addr × Obj)} {σ : St} {H : Hp} {s : Shared} {Q : VK} {us : List Value} {vs : List V} (M : Mk X.K C f) (F : FnOk X.prog X.w X.K X.mg X.base CX k f fd ps sp) (hr : Room (k + 1) X.A) (hb : Binds X.K fd ps ds) (hd : Vals dvs ds)
    (hx : Passes CX X E) (I : Inv X pins σ H s) (r : Vals vs us)
    (h : ∀ x dx, H x = none → H dx = none → dx ≠ x → sp (.ref x :: (vs ++ dvs)) (upd (upd H dx (.own x)) x (.ins C dx [])) (fun v H2 => v = .non ∧ Q (.ref x) H2) E) :
    wpAny (model X.prog X.w) X.A (call (.ref C) us) (EP X pins σ Q) X.xe s := by
  have hq := h (s.heap.objs.size + 1) s.heap.objs.size (I.hok.fresh (Nat.le_succ _)) (I.hok.fresh (Nat.le_refl _)) (Nat.ne_of_lt (Nat.lt_succ_self _))
  have I2 := Inv.made (C := C) I
  have r2 : Vals (V.ref (s.heap.objs.size + 1) :: (vs ++ dvs)) (Value.ref (s.heap.objs.size + 1) :: (us ++ ds)) := .cons rfl (r.append hd)
  have hl : (Value.ref (s.heap.objs.size + 1) :: us ++ ds).length = ps.length := by
    have e := r2.length
    rw [F.len _ _ _ _ hq] at e
    exact e.symm
  refine wpAny_call (make_map (f := f) I.kIn M.makes M.init (beq_iff_eq.mp M.fn) (codeAny_mono (F.run _ X.stack _ _ ⟨Value.ref (s.heap.objs.size + 1) :: us, []⟩ (Value.ref (s.heap.objs.size + 1) :: (us ++ ds)) _ _ E (hr.make C us [])
    (I2.env0.make C us []) (hb _ (Value.ref (s.heap.objs.size + 1) :: us) I2.kIn hl) r2 hq) fun r s' hq' => ?_))
  cases r with
  | error e => exact hx pins σ _ _ e s' I2 hq'
  | ok fl =>
    cases fl with
    | ret u =>
      obtain ⟨v, H', I3, rv, ev, q3⟩ := I2.after hq'
      subst ev
      exact ⟨rv, ⟨V.ref (s.heap.objs.size + 1), H', I3, rfl, q3⟩⟩
    | next => exact False.elim hq'
    | brk => exact False.elim hq'
    | cont => exact False.elim hq'
theorem pe_make (M : Mk X.K C f) (F : FnOk X.prog X.w X.K X.mg X.base CX k f fd ps sp) (hr : Room (k + 1) X.A) (hg : Gl X x) (hm : X.mg x = some (.ref C)) (hb : Binds X.K fd ps ds) (hd : Vals dvs ds) (hx : Passes CX X E)
    (ha : PA X (e :: es) t) (hdb : (x == ("__debug__" : Str)) = false := by decide) (he : starEach (e :: es) X.env = (false, eval e X.env) :: starEach es X.env := by rfl) (hpl : (backTo pos (starEach es X.env)).any (·.1) = false := by rfl) :
    PE X (.Call (.Name x p) (e :: es) [] pos) (tMake C sp dvs E t) := by
  intro pins s σ H Q I h
  refine wpAny_Call_Name_kw (ld_glob I hg hm ?_ hdb)
  refine PySem.W.callWith_K (h₀ := X.base) I.ok.mod.kin M.kp (thn (ha pos pins s σ H _ I h) fun us s1 ⟨vs, H1, I1, r, q⟩ => ⟨I1.kIn, ?_⟩) he hpl
  exact run_make M F hr hb hd hx I1 r q
end
section
variable {X : Cx} {CX : CXT} {k : Nat} {f C : Addr} {fd : FuncData} {ps ks : List Str} {sp : Sp} {E : XK} {x m : Str} {p pos apos kpos : Pos} {e o : Expr} {es : List Expr} {kws : List Keyword} {te ta : TE} {t tk : TA} {nm : Option Str}
variable {g : List Value → List Value → List Value} {gV : List V → List V → List V}
end
structure FnScope (N P : List Str) (sc : Scope) : Prop where
  kind : sc.kind = .function
  co : sc.isCoroutine = false
  gen : sc.isGenerator = false
  nd : N.Nodup
  pre : N.take P.length = P
  par : ∀ x ∈ P, sc.names.lookup x = some .local ∨ sc.names.lookup x = some .cell
  nofree : ∀ y ∈ sc.names, y.2 ≠ .free
theorem bindL_out {kindOf : Str → Option NameKind} {x : Str} : ∀ {binds : List (Str × Value)} {m : Str → Option Value}, (∀ v, (x, v) ∉ binds) → bindL kindOf binds m x = m x
  | [], _, _ => rfl
  | (n, v) :: r, m, h => by
    unfold bindL
    rw [bindL_out fun w hw => h w (List.mem_cons_of_mem _ hw)]
    split
    · have : x ≠ n := by rintro rfl; exact h v List.mem_cons_self
      simp [this]
    · rfl
theorem bindC_out {kindOf : Str → Option NameKind} {x : Str} : ∀ {binds : List (Str × Value)} {m : Str → Option Value}, (∀ v, (x, v) ∉ binds) → bindC kindOf binds m x = m x
  | [], _, _ => rfl
  | (n, v) :: r, m, h => by
    unfold bindC
    rw [bindC_out fun w hw => h w (List.mem_cons_of_mem _ hw)]
    split
    · rfl
    · have : x ≠ n := by rintro rfl; exact h v List.mem_cons_self
      simp [this]
theorem bindL_get {kindOf : Str → Option NameKind} {x : Str} {v : Value} : ∀ {P : List Str} {vs : List Value} {i : Nat} {m : Str → Option Value}, P.Nodup → P[i]? = some x → vs[i]? = some v → kindOf x = some .local →
    bindL kindOf (P.zip vs) m x = some v
  | [], _, _, _, _, h, _, _ => by simp at h
  | _ :: _, [], _, _, _, _, h, _ => by simp at h
  | p :: P, w :: vs, 0, m, nd, h1, h2, hk => by
    simp at h1 h2; subst h1; subst h2
    show bindL kindOf ((p, w) :: P.zip vs) m p = _
    unfold bindL
    rw [bindL_out fun v hv => (List.nodup_cons.mp nd).1 (List.of_mem_zip hv).1, if_pos hk]
    simp
  | p :: P, w :: vs, i + 1, m, nd, h1, h2, hk => by
    show bindL kindOf ((p, w) :: P.zip vs) m x = _
    unfold bindL
    exact bindL_get (i := i) (List.nodup_cons.mp nd).2 (by simpa using h1) (by simpa using h2) hk
theorem bindC_get {kindOf : Str → Option NameKind} {x : Str} {v : Value} : ∀ {P : List Str} {vs : List Value} {i : Nat} {m : Str → Option Value}, P.Nodup → P[i]? = some x → vs[i]? = some v → kindOf x ≠ some .local →
    bindC kindOf (P.zip vs) m x = some v
  | [], _, _, _, _, h, _, _ => by simp at h
  | _ :: _, [], _, _, _, _, h, _ => by simp at h
  | p :: P, w :: vs, 0, m, nd, h1, h2, hk => by
    simp at h1 h2; subst h1; subst h2
    show bindC kindOf ((p, w) :: P.zip vs) m p = _
    unfold bindC
    rw [bindC_out fun v hv => (List.nodup_cons.mp nd).1 (List.of_mem_zip hv).1, if_neg hk]
    simp
  | p :: P, w :: vs, i + 1, m, nd, h1, h2, hk => by
    show bindC kindOf ((p, w) :: P.zip vs) m x = _
    unfold bindC
    exact bindC_get (i := i) (List.nodup_cons.mp nd).2 (by simpa using h1) (by simpa using h2) hk
def start (N : List Str) (vs : List V) : St := vs.map some ++ List.replicate (N.length - vs.length) none
def cxOf (CX : CXT) (P : Program) (w : World) (K : PySem.W.Frag) (mg : Str → Option Value) (base : Heap) (N : List Str) (qual : Str) (scope : Scope) (f : Addr) (cd : Value) (A : Around) (outer : List Env) (s : Shared) (H : Hp) (E : XK) (c : Bool := true) : Cx where
  prog := P
  w := w
  K := K
  mg := mg
  base := base
  A := A.deeper (envOfC qual scope s.heap.objs.size f cd)
  N := N
  s₀ := s
  H₀ := H
  env := envOfC qual scope s.heap.objs.size f cd
  outer := outer
  stack := envOfC qual scope s.heap.objs.size f cd :: outer
  ex := []
  calm := c
  fn := fun _ => true
  pn := []
  xe := fun e s' => wpAny (model P w) (A.deeper (envOfC qual scope s.heap.objs.size f cd)) (leaving (envOfC qual scope s.heap.objs.size f cd) e) (fun _ s'' => CX outer H s E e s'') (fun e' s'' => CX outer H s E e' s'') s'
theorem cell_has {sc : Scope} {n : Nat} {x : Str} (h : sc.names.lookup x = some .cell) : ∃ c, (cellsFrom n sc.names []).lookup x = some c := by
  have q := PySem.W.cellsFrom_some sc.names n [] (.inl h)
  exact Option.isSome_iff_exists.mp q
theorem inv_start {CX : CXT} {P : Program} {w : World} {K : PySem.W.Frag} {mg : Str → Option Value} {base : Heap} {N ps : List Str} {qual : Str} {scope : Scope} {f : Addr} {cd : Value} {A : Around} {outer : List Env} {s s1 : Shared} {H : Hp} {E : XK} {us : List Value} {vs : List V}
    {c : Bool} (S : FnScope N ps scope) (hd : c = true → A.handled = none) (e0 : Env0 P w K mg base A outer s H) (hl : vs.length = ps.length) (r : Vals vs us)
    (x : InCallC s s.heap.objs.size (bindL (envOfC qual scope s.heap.objs.size f cd).kindOf (ps.zip us) fun _ => none) (cellsFrom (s.heap.objs.size + 1) scope.names []) (bindC (envOfC qual scope s.heap.objs.size f cd).kindOf (ps.zip us) fun _ => none) s1) :
    Inv (cxOf CX P w K mg base N qual scope f cd A outer s H E c) [] (start N vs) H s1 := by
  have hpl : ps.length ≤ N.length := by have := congrArg List.length S.pre; rw [List.length_take] at this; omega
  obtain ⟨h1, tk, rfl, hk⟩ := x.done
  have noA : ∀ b : Addr, b ∉ (cxOf CX P w K mg base N qual scope f cd A outer s H E c).ex := fun b z => absurd (show b ∈ ([] : List Addr) from z) (by simp)
  refine ⟨⟨e0.mod, S.kind, rfl, rfl, Nat.le_refl _, fun y z c h1 h2 => ?_, fun y hy => ?_, fun y c' _ h => ?_, hd, Around.frames_deeper e0.frames, .inr ⟨rfl, rfl⟩, fun b z => absurd z (noA b), e0.bs, e0.bsz, fun b _ _ => noA b, fun b z => absurd z (noA b), e0.funs, e0.frf⟩,
    rfl, e0.bare, Un.kept hk, ⟨_, x.toInCall.ns, fun i y v h1 h2 h3 => ?_⟩, fun y c h => ⟨_, x.cell y c h⟩, e0.hok.fresh (Nat.le_refl _), fun y c h => ?_, fun p hp => absurd (show p ∈ ([] : List (Addr × Obj)) from hp) (by simp), e0.hok.kept hk, ?_, e0.hn⟩
  · exact name_of_addr x.apart (PySem.mem_of_lookup h1) (PySem.mem_of_lookup h2)
  · have hy : scope.names.lookup y = some .cell ∨ scope.names.lookup y = some .free := hy
    rcases hy with hy | hy
    · exact cell_has hy
    · exact absurd rfl (S.nofree _ (PySem.mem_of_lookup hy))
  · exact Nat.le_of_lt (x.above y c' (PySem.mem_of_lookup h))
  · have hi : i < vs.length := by
      unfold start at h2
      by_cases hi : i < vs.length
      · exact hi
      · rw [List.getElem?_append_right (by simpa using hi)] at h2
        rw [List.getElem?_replicate] at h2
        split at h2 <;> cases h2
    have ha : vs[i]? = some v := by
      unfold start at h2
      rw [List.getElem?_append_left (by simpa using hi), List.getElem?_map] at h2
      cases e : vs[i]? with
      | none => rw [e] at h2; cases h2
      | some a => rw [e] at h2; cases h2; rfl
    obtain ⟨u, hu, rv⟩ := r.get ha
    have hp : ps[i]? = some y := by
      rw [← S.pre, List.getElem?_take_of_lt (by omega)]; exact h1
    have ndP : ps.Nodup := by rw [← S.pre]; exact S.nd.sublist (List.take_sublist _ _)
    refine ⟨u, rv, ?_⟩
    rcases S.par y (List.mem_of_getElem? hp) with k | k
    · exact .inl ⟨k, bindL_get ndP hp hu k⟩
    · obtain ⟨c, e⟩ := cell_has (n := s.heap.objs.size + 1) k
      refine .inr ⟨.inl k, c, e, ?_⟩
      have q := x.cell y c e
      rw [bindC_get ndP hp hu (by show scope.names.lookup y ≠ _; rw [k]; decide)] at q
      exact q
  · exact e0.hok.fresh (Nat.le_of_lt (x.above y c (PySem.mem_of_lookup h)))
  · unfold start
    show _ = N.length
    rw [List.length_append, List.length_map, List.length_replicate]
    omega
theorem fn_of {CX : CXT} {P : Program} {w : World} {K : PySem.W.Frag} {mg : Str → Option Value} {base : Heap} {k : Nat} {f : Addr} {name qual : Str} {params : Arguments} {body : List Stmt} {scope : Scope} {dV kV doc pm cdv ct oc : Value} {an od : Option Addr}
    {osl : Array (Option Value)} {N ps : List Str} {sp : Sp} {c : Bool} (lk : K.lookup f = some ⟨oc, od, .func (PySem.W.fnOf name qual params body scope dV kV doc pm an cdv ct), osl⟩) (hcd : PySem.W.codeIn K cdv qual = true) (S : FnScope N ps scope)
    (len : ∀ vs H Q E, sp vs H Q E → vs.length = ps.length)
    (hbody : ∀ (A : Around) (outer : List Env) (s : Shared) (H : Hp) (vs : List V) (Q : VK) (E : XK), RoomC c k (A.deeper (envOfC qual scope s.heap.objs.size f cdv)) → sp vs H Q E →
      ∃ t, PSs (cxOf CX P w K mg base N qual scope f cdv A outer s H E c) body t ∧ t { nx := fun _ H' => Q .non H', rt := Q } (start N vs) H) :
    FnOk P w K mg base CX (k + 1) f (PySem.W.fnOf name qual params body scope dV kV doc pm an cdv ct) ps sp c := by
  refine ⟨len, fun A outer s H args us vs Q E hr e0 hb r hsp => ?_⟩
  have hl := len _ _ _ _ hsp
  have KX : K.In s.heap := e0.mod.kin.keeps fun b o e => (e0.bs b o e).1
  have lim : s.heap.NoLimit := e0.mod.nolimit.keeps fun b o e => (e0.bs b o e).1
  have hkind : ∀ y ∈ ps.zip us, scope.names.lookup y.1 = some .local ∨ (scope.names.lookup y.1 = some .cell ∧ ((cellsFrom (s.heap.objs.size + 1) scope.names []).lookup y.1).isSome = true) := fun ⟨n, v⟩ hy => by
    rcases S.par n (List.of_mem_zip hy).1 with q | q
    · exact .inl q
    · exact .inr ⟨q, PySem.W.cellsFrom_some _ _ _ (.inl q)⟩
  refine codeAny_call_function hr.depth (KX _ _ lk) rfl S.co S.gen rfl (PySem.W.codeRec_of KX hcd) (hb _ _ _ _ ?_)
  refine wpAny_newFunctionEnv_cells S.kind hkind fun env he s1 x => ?_
  subst he
  refine ⟨lim.keeps x.toInCall.keep, codeAny_func ?_⟩
  obtain ⟨t, ht, hq⟩ := hbody A outer s H vs Q E (hr.deeper _) hsp
  have I : Inv (cxOf CX P w K mg base N qual scope f cdv A outer s H E c) [] (start N vs) H s1 := inv_start S hr.hd e0 hl r x
  refine wpAny_mono (ht [] s1 (start N vs) H _ I hq) (fun fl s' hs => ?_) fun e s' hs => hs
  have fin : ∀ {σ' : St} {H' : Hp} {v : V} {u : Value}, Inv (cxOf CX P w K mg base N qual scope f cdv A outer s H E c) [] σ' H' s' → RelV v u → Q v H' → CE outer P w H s Q u s' :=
    fun {σ' H' v u} J rv q => ⟨v, H', J.os, J.bare, J.base, J.hok, rv, q⟩
  cases fl with
  | ret u =>
    obtain ⟨v, σ', H', J, rv, q⟩ := hs
    exact fin J rv q
  | next =>
    obtain ⟨σ', H', J, q⟩ := hs
    exact fin (v := V.non) (u := Value.none) J rfl q
  | brk =>
    obtain ⟨_, _, _, q⟩ := hs
    exact False.elim q
  | cont =>
    obtain ⟨_, _, _, q⟩ := hs
    exact False.elim q
end L2
namespace L2
open PySem PySem.Spec PyProof.Rows
section
variable {X : Cx} {x : Str} {p pos : Pos} {e : Expr} {es : List Expr} {t : TA} {id T : String} {r : List V → Hp → VK → Prop}
def tCB (r : List V → Hp → VK → Prop) (t : TA) : TE := fun σ H Q => t σ H fun vs H1 => r vs H1 Q
theorem pe_callB (hc : CallR X (.builtin id) r) (hg : Gl X x) (hm : X.mg x = none) (hv : bootBuiltins x = some (.builtin id)) (ha : PA X (e :: es) t) (hn : x ≠ "__name__" := by decide) (hdb : (x == ("__debug__" : Str)) = false := by decide)
    (he : starEach (e :: es) X.env = (false, eval e X.env) :: starEach es X.env := by rfl) (hpl : (backTo pos (starEach es X.env)).any (·.1) = false := by rfl) : PE X (.Call (.Name x p) (e :: es) [] pos) (tCB r t) := by
  intro pins s σ H Q I h
  refine wpAny_Call_Name_kw (ld_blt I hg hm hv ?_ hn hdb)
  exact PyProof.Rows.callWith_builtin1 (thn (ha pos pins s σ H _ I h) fun us s1 ⟨vs, H1, I1, r1, q1⟩ => hc pins s1 σ H1 vs us Q I1 r1 q1) he hpl
end
end L2
namespace HT
open PySem PyProof.Rows
section
open PySem.SeqAt
open PySem.AutoSeq1 (wpAny_loadPart')
open PySem.MeetsSeq PySem.MeetsSeq2 PySem.MeetsSeq3
end
section
variable {prog : Program} {w : World} {A : Around} {E : Value → Shared → Prop} {s : Shared}
theorem cat_tup {t b : Addr} {vs ws : List Value} {Q : Value → Shared → Prop} (ht : IsTup s.heap t vs.toArray) (hb : IsTup s.heap b ws.toArray) (hv : vs ≠ [])
    (h1 : ws = [] → Q (.ref t) s) (h2 : ws ≠ [] → Q (.ref s.heap.objs.size) { s with heap := s.heap.push { cls := .type "tuple", data := .seq (vs ++ ws).toArray } })
    (hsz : vs.length + ws.length ≤ sizeLine) : wpAny (model prog w) A (binaryOp .Add (.ref t) (.ref b)) Q E s := by
  obtain ⟨⟨cls, dd, data, sl⟩, ho, hc, n, hd⟩ := id ht
  obtain ⟨⟨cls2, dd2, data2, sl2⟩, ho2, hc2, n2, hd2⟩ := id hb
  simp only at hc hd hc2 hd2
  subst hc hd hc2 hd2
  have e : vs.toArray ++ ws.toArray = (vs ++ ws).toArray := by simp
  by_cases hw : ws = []
  · exact concat_meets ⟨_, ho, rfl⟩ ⟨_, ho2, rfl⟩ noFill_tuple_add seq_tuple_add PySem.F.slot_tuple_add PySem.F.entry_tuple_add (PySem.F.args_tuple_add_2 _ _)
      (tuple_addW1 t b vs.toArray ws.toArray n n2 dd dd2 sl sl2 (by simpa using hv) (by simp [hw])) ⟨ho, ho2, h1 hw⟩
  · refine concat_meets ⟨_, ho, rfl⟩ ⟨_, ho2, rfl⟩ noFill_tuple_add seq_tuple_add PySem.F.slot_tuple_add PySem.F.entry_tuple_add (PySem.F.args_tuple_add_2 _ _)
      (tuple_addW2 t b vs.toArray ws.toArray n n2 dd dd2 sl sl2 (by simpa using hv) (by simpa using hw) (by rw [List.size_toArray, List.size_toArray]; exact hsz)) ⟨ho, ho2, ?_⟩
    rw [e]
    exact h2 hw
def sIx (n d : Nat) : Option Int → Nat
  | none => d
  | some v => if v < 0 then (v + (n : Int)).toNat else min v.toNat n
theorem sIx_le (n d : Nat) (hd : d ≤ n) (o : Option Int) : sIx n d o ≤ n := by
  cases o with
  | none => exact hd
  | some v =>
    show (if v < 0 then (v + (n : Int)).toNat else min v.toNat n) ≤ n
    by_cases hv : v < 0
    · rw [if_pos hv]; omega
    · rw [if_neg hv]; exact Nat.min_le_right _ _
theorem clip_eq (v : Int) (n d : Nat) : (if v < 0 then max (v + (n : Int)) 0 else min v (n : Int)) = ((sIx n d (some v) : Nat) : Int) := by
  show (if v < 0 then max (v + (n : Int)) 0 else min v (n : Int)) = (((if v < 0 then (v + (n : Int)).toNat else min v.toNat n) : Nat) : Int)
  by_cases hv : v < 0
  · simp only [if_pos hv]; omega
  · simp only [if_neg hv]; omega
theorem adjust_gen (lo hi : Option Int) (n : Nat) : Builtin.Slice.sliceAdjust lo hi 1 (n : Int) = (((sIx n 0 lo : Nat) : Int), ((sIx n n hi : Nat) : Int)) := by
  have h1 : ¬ ((1 : Int) < 0) := by omega
  unfold Builtin.Slice.sliceAdjust
  simp only [h1, if_false]
  refine Prod.ext ?_ ?_
  · cases lo with
    | none => rfl
    | some v => exact clip_eq v n 0
  · cases hi with
    | none => rfl
    | some v => exact clip_eq v n n
theorem places_gen (i j : Nat) : Builtin.Slice.slicePlaces (i : Int) (j : Int) 1 = j - i := by
  unfold Builtin.Slice.slicePlaces
  have h1 : (1 : Int) > 0 := by omega
  simp only [h1, if_true, Int.ediv_one]
  split <;> omega
theorem slicePart_ {v : Value} {o : Option Int} {Q : Option Int → Shared → Prop} (p : IsPart v o) (h : Q o s) : wpAny (model prog w) A (Builtin.Slice.slicePartIndex v) Q E s := by
  cases p with
  | none => exact slicePart_none h
  | int i t => exact slicePart_int h
theorem sliceApplied_gen {sl : Addr} {vl vu : Value} {lo hi : Option Int} {n : Nat} {Q : Int × Int × Nat → Shared → Prop} (hs : s.heap.IsSliceOf sl vl vu .none) (pl : IsPart vl lo) (pu : IsPart vu hi)
    (h : Q (((sIx n 0 lo : Nat) : Int), 1, sIx n n hi - sIx n 0 lo) s) : wpAny (model prog w) A (Builtin.Slice.sliceApplied (.ref sl) (pure (n : Int))) Q E s := by
  obtain ⟨os, hos, hcs, hds⟩ := id hs
  unfold Builtin.Slice.sliceApplied Builtin.Slice.sliceFields
  refine wpAny_bind (wpAny_bind (wpAny_field hos hds (x := vl) rfl (wpAny_bind (wpAny_field hos hds (x := vu) rfl (wpAny_bind (wpAny_field hos hds (x := .none) rfl (wpAny_pure ?_)))))))
  refine wpAny_bind (slicePart_none ?_)
  show wpAny _ _ (if ((1 : Int) == 0) = true then _ else _) _ _ s
  rw [if_neg (by decide)]
  refine wpAny_bind (slicePart_ pl (wpAny_bind (slicePart_ pu (wpAny_bind (wpAny_pure ?_)))))
  show wpAny _ _ (match Builtin.Slice.sliceAdjust lo hi 1 (n : Int) with | (lo, hi) => pure (lo, (1 : Int), Builtin.Slice.slicePlaces lo hi 1)) _ _ s
  rw [adjust_gen lo hi n]
  show wpAny _ _ (pure (((sIx n 0 lo : Nat) : Int), (1 : Int), Builtin.Slice.slicePlaces ((sIx n 0 lo : Nat) : Int) ((sIx n n hi : Nat) : Int) 1)) _ _ s
  rw [places_gen]
  exact wpAny_pure h
theorem pick_gen (xs : Array Value) (i k : Nat) : ((List.range k).filterMap fun (m : Nat) => xs[((i : Int) + (m : Int) * 1).toNat]?).toArray = ((xs.toList.drop i).take k).toArray := by
  have e : (fun (m : Nat) => xs[((i : Int) + (m : Int) * 1).toNat]?) = fun m => xs[i + m]? := by
    funext m
    have : ((i : Int) + (m : Int) * 1).toNat = i + m := by omega
    rw [this]
  rw [e]
  have := pick_run xs i k
  rw [List.filterMap_map] at this
  have e2 : ((fun x => xs[x]?) ∘ fun x => i + x) = fun m => xs[i + m]? := rfl
  rw [e2] at this
  rw [this]
theorem getItem_tuple_cut {t sl : Addr} {items : Array Value} {vl vu : Value} {lo hi : Option Int} {Q : Value → Shared → Prop} (ht : IsTup s.heap t items) (hs : s.heap.IsSliceOf sl vl vu .none) (pl : IsPart vl lo) (pu : IsPart vu hi)
    (hw : ¬ (sIx items.size 0 lo = 0 ∧ sIx items.size items.size hi = items.size))
    (h : Q (.ref s.heap.objs.size) { s with heap := s.heap.push { cls := .type "tuple", data := .seq ((items.toList.drop (sIx items.size 0 lo)).take (sIx items.size items.size hi - sIx items.size 0 lo)).toArray } })
    (hsz : items.size ≤ sizeLine) : wpAny (model prog w) A (getItem (.ref t) (.ref sl)) Q E s := by
  have htake : sizeOk (.seq ((items.toList.drop (sIx items.size 0 lo)).take (sIx items.size items.size hi - sIx items.size 0 lo)).toArray) := by
    show ((items.toList.drop (sIx items.size 0 lo)).take (sIx items.size items.size hi - sIx items.size 0 lo)).toArray.size ≤ sizeLine
    rw [List.size_toArray, List.length_take, List.length_drop, Array.length_toList]
    omega
  have hj : sIx items.size items.size hi ≤ items.size := sIx_le _ _ (Nat.le_refl _) hi
  obtain ⟨os, hos, hcs, hds⟩ := id hs
  have hTs : s.TypeIs (.ref sl) "slice" := ⟨os, hos, hcs⟩
  unfold getItem
  try with_reducible refine wpAny_holding ?_
  first | refine wpAny_bind (wpAny_pure ?_) | skip
  refine wpAny_bind (wpAny_sequenceKey ht.typeIs (by decide) ?_)
  refine wpAny_bind (wpAny_callSpecial?_slot (name := Str.ofString "__getitem__") ht.typeIs PyProof.Rows.slot_tuple_getitem
    (wpAny_call_entry PyProof.Rows.slot_tuple_getitem ht.typeIs entry_tuple_getitem ?_ (args_tuple_getitem _ _)))
  show wpAny _ _ (Builtin.Tuple.tupleItemsOf (.ref t) >>= _) _ _ s
  refine wpAny_bind (tupleItemsOf_ ht ?_)
  refine wpAny_bind (wpAny_typeOf hTs ?_)
  rw [if_pos (by decide)]
  refine wpAny_bind (sliceApplied_gen hs pl pu ?_)
  have hno : ¬ ((((sIx items.size 0 lo : Nat) : Int) == 0 && (1 : Int) == 1 && (sIx items.size items.size hi - sIx items.size 0 lo) == items.size) = true) := by
    intro q
    rw [Bool.and_eq_true, Bool.and_eq_true] at q
    have q1 : ((sIx items.size 0 lo : Nat) : Int) = 0 := eq_of_beq q.1.1
    have q2 : sIx items.size items.size hi - sIx items.size 0 lo = items.size := eq_of_beq q.2
    exact hw ⟨by omega, by omega⟩
  show wpAny _ _ (if (((sIx items.size 0 lo : Nat) : Int) == 0 && (1 : Int) == 1 && (sIx items.size items.size hi - sIx items.size 0 lo) == items.size) = true then _ else _) _ _ s
  rw [if_neg hno, pick_gen]
  first
    | exact wpAny_bind (m := Builtin.Tuple.tupleExact _) (wpAny_newObj_type (wpAny_pure ⟨_, rfl, wpAny_pure h⟩) htake)
    | exact wpAny_bind (m := Builtin.Tuple.tupleExact _) (wpAny_newObj_type (wpAny_bind (wpAny_pure (wpAny_pure ⟨_, rfl, wpAny_pure h⟩))) htake)
    | exact wpAny_bind (wpAny_bind (m := Builtin.Tuple.tupleExact _) (wpAny_newObj_type (wpAny_pure (wpAny_pure ⟨_, rfl, wpAny_pure h⟩)) htake))
    | exact wpAny_bind (wpAny_bind (m := Builtin.Tuple.tupleExact _) (wpAny_newObj_type (wpAny_pure ⟨_, rfl, wpAny_pure h⟩) htake))
end
end HT
namespace L2
open PySem PySem.Spec PyProof.Rows
abbrev TO := St → Hp → (Option Int → Hp → Prop) → Prop
def PO (X : Cx) (e : Option Expr) (t : TO) : Prop :=
  ∀ (pins : List (Addr × Obj)) (s : Shared) (σ : St) (H : Hp) (Q : Option Int → Hp → Prop), Inv X pins σ H s → t σ H Q →
    wpAny (model X.prog X.w) X.A (evalPart e X.env) (fun u s' => ∃ o H', Inv X pins σ H' s' ∧ IsPart u o ∧ Q o H') X.xe s
def tNoPart : TO := fun _ H Q => Q none H
def tPart (t : TE) : TO := fun σ H Q => t σ H fun x H1 => ∃ i, x = .int i ∧ Q (some i) H1
section
variable {X : Cx} {e : Expr} {te : TE} {lo hi : Option Expr} {tl th : TO} {pos p2 : Pos}
theorem po_none : PO X none tNoPart := by
  intro pins s σ H Q I h
  rw [evalPart_none]
  exact wpAny_pure ⟨none, H, I, .none, h⟩
theorem po_some (h : PE X e te) : PO X (some e) (tPart te) := by
  intro pins s σ H Q I hw
  rw [evalPart_some]
  refine thn (h pins s σ H _ I hw) fun u s1 ⟨x, H1, I1, r1, q1⟩ => ?_
  obtain ⟨i, rfl, q⟩ := q1
  obtain ⟨t, rfl⟩ := r1
  exact ⟨some i, H1, I1, .int i t, q⟩
def SlR (X : Cx) (r : V → Option Int → Option Int → Hp → VK → Prop) : Prop :=
  ∀ (pins : List (Addr × Obj)) (s : Shared) (σ : St) (H : Hp) (x : V) (v vl vu : Value) (lo hi : Option Int) (sl : Addr) (Q : VK), Inv X pins σ H s → RelV x v → s.heap.IsSliceOf sl vl vu .none → IsPart vl lo → IsPart vu hi → r x lo hi H Q →
    ∃ T id, typeLookup (.type T) "__getitem__" = pure (some (.builtin id)) ∧ s.TypeIs v T ∧ wpAny (model X.prog X.w) X.A (getItem v (.ref sl)) (EP X pins σ Q) X.xe s
def tSl (r : V → Option Int → Option Int → Hp → VK → Prop) (te : TE) (tl th : TO) : TE := fun σ H Q => te σ H fun x H1 => tl σ H1 fun l H2 => th σ H2 fun u H3 => r x l u H3 Q
theorem pe_slice {r : V → Option Int → Option Int → Hp → VK → Prop} (hr : SlR X r) (he : PE X e te) (hl : PO X lo tl) (hu : PO X hi th) : PE X (.Subscript e (.Slice lo hi none p2) pos) (tSl r te tl th) := by
  intro pins s σ H Q I h
  refine Subscript_ (thn (he pins s σ H _ I h) fun v s1 ⟨x, H1, I1, r1, q1⟩ => ?_)
  refine wpAny_Slice (thn (hl pins s1 σ H1 _ I1 q1) fun vl s2 ⟨l, H2, I2, pl, q2⟩ => thn (hu pins s2 σ H2 _ I2 q2) fun vu s3 ⟨u, H3, I3, pu, q3⟩ => ?_)
  rw [evalPart_none]
  refine wpAny_pure ?_
  have I4 : Inv X pins σ H3 { s3 with heap := s3.heap.push { cls := .type "slice", data := .fields #[vl, vu, .none] } } := I3.kept (t' := s3.toks) fun b ob q => Heap.get?_push_of_some _ q
  obtain ⟨T, id, hT, ht, hg⟩ := hr pins { s3 with heap := s3.heap.push { cls := .type "slice", data := .fields #[vl, vu, .none] } } σ H3 x v vl vu l u s3.heap.objs.size Q I4 r1 (Heap.IsSliceOf.new ..) pl pu q3
  show wpAny (model X.prog X.w) X.A (subscriptTail e (.Slice lo hi none p2) v (.ref s3.heap.objs.size)) (EP X pins σ Q) X.xe { s3 with heap := s3.heap.push { cls := .type "slice", data := .fields #[vl, vu, .none] } }
  exact tail_any (ops := [.ref s3.heap.objs.size, v]) ht hT hg (by with_unfolding_all rfl)
def cutV (xs : List V) (lo hi : Option Int) : List V := (xs.drop (HT.sIx xs.length 0 lo)).take (HT.sIx xs.length xs.length hi - HT.sIx xs.length 0 lo)
theorem cutV_length (xs : List V) (lo hi : Option Int) : (cutV xs lo hi).length ≤ xs.length := by
  unfold cutV
  rw [List.length_take, List.length_drop]
  omega
def rSlT (K : PySem.W.Frag) : V → Option Int → Option Int → Hp → VK → Prop := fun x lo hi H Q => ∃ a xs, x = .ref a ∧ SqT K H a xs ∧
  ¬ (HT.sIx xs.length 0 lo = 0 ∧ HT.sIx xs.length xs.length hi = xs.length) ∧ ∀ p, H p = none → Q (.ref p) (upd H p (.tup (cutV xs lo hi)))
theorem sl_tup : SlR X (rSlT X.K) := by
  intro pins s σ H x v vl vu lo hi sl Q I rx hs pl pu h
  obtain ⟨a, xs, rfl, hx, hw, q⟩ := h
  cases rx
  obtain ⟨its, r, ht, hz⟩ := I.tuple hx
  have hlen : its.toArray.size = xs.length := by rw [List.size_toArray]; exact r.length.symm
  refine ⟨"tuple", _, PyProof.Rows.slot_tuple_getitem.lookup, ht.typeIs, ?_⟩
  refine HT.getItem_tuple_cut ht hs pl pu (by rw [hlen]; exact hw) ?_ (by rw [hlen]; exact hz)
  rw [hlen]
  refine ⟨.ref s.heap.objs.size, _, I.laid (t' := s.toks) (o := .tup (cutV xs lo hi)) (fun b ob q => Heap.get?_push_of_some _ q) (Nat.le_refl _) ?_, rfl, q _ (I.hok.fresh (Nat.le_refl _))⟩
  exact ⟨Nat.le_trans (cutV_length xs lo hi) hz, _, (r.drop (HT.sIx xs.length 0 lo)).take (HT.sIx xs.length xs.length hi - HT.sIx xs.length 0 lo), IsTup.new _ _⟩
def rCatT (K : PySem.W.Frag) : R2 := fun x y H Q => ∃ a b xs ys, x = .ref a ∧ y = .ref b ∧ SqT K H a xs ∧ SqT K H b ys ∧ xs ≠ [] ∧ xs.length + ys.length ≤ sizeLine ∧
  (ys = [] → Q (.ref a) H) ∧ (ys ≠ [] → ∀ p, H p = none → Q (.ref p) (upd H p (.tup (xs ++ ys))))
theorem Vals.nil_iff {xs : List V} {us : List Value} (r : Vals xs us) : us = [] ↔ xs = [] := by
  cases r with
  | nil => simp
  | cons _ _ => simp
theorem op_catT : OpR X (binaryOp .Add) (rCatT X.K) := by
  intro pins s σ H x y v u Q I rx ry h
  obtain ⟨a, b, xs, ys, rfl, rfl, ha, hb, hx, hz, q1, q2⟩ := h
  cases rx
  cases ry
  obtain ⟨its, r1, p1, _⟩ := I.tuple ha
  obtain ⟨its2, r2, p2, _⟩ := I.tuple hb
  refine HT.cat_tup p1 p2 (fun z => hx (r1.nil_iff.mp z)) (fun z => ⟨.ref a, H, I, rfl, q1 (r2.nil_iff.mp z)⟩) (fun z => ?_) (by rw [← r1.length, ← r2.length]; exact hz)
  refine ⟨.ref s.heap.objs.size, _, I.laid (t' := s.toks) (o := .tup (xs ++ ys)) (fun b ob q => Heap.get?_push_of_some _ q) (Nat.le_refl _) ?_, rfl, q2 (fun w => z (r2.nil_iff.mpr w)) _ (I.hok.fresh (Nat.le_refl _))⟩
  exact ⟨by rw [List.length_append]; exact hz, _, r1.append r2, IsTup.new _ _⟩
end
end L2
namespace L2
open PySem PySem.Spec PyProof.Rows
def ixN (n : Nat) (i : Int) : Option Nat := if 0 ≤ i then (if i < n then some i.toNat else none) else if -(n : Int) ≤ i then some (i + n).toNat else none
def atI {α : Type} (xs : List α) (i : Int) : Option α := (ixN xs.length i).bind fun j => xs[j]?
theorem ixN_seq {n : Nat} {i : Int} {j : Nat} (h : ixN n i = some j) : seqIndex? i n = some j ∧ j < n ∧ -(n : Int) ≤ i ∧ i < n := by
  unfold ixN at h
  by_cases h0 : 0 ≤ i
  · rw [if_pos h0] at h
    by_cases h1 : i < n
    · rw [if_pos h1] at h
      have e : i.toNat = j := Option.some.inj h
      exact ⟨by rw [seqIndex_of h0 h1, e], by omega, by omega, h1⟩
    · rw [if_neg h1] at h; cases h
  · rw [if_neg h0] at h
    by_cases h1 : -(n : Int) ≤ i
    · rw [if_pos h1] at h
      have e : (i + n).toNat = j := Option.some.inj h
      exact ⟨by rw [seqIndex_neg (by omega) h1, e], by omega, h1, by omega⟩
    · rw [if_neg h1] at h; cases h
theorem atI_get {α : Type} {xs : List α} {i : Int} {v : α} (h : atI xs i = some v) : ∃ j, seqIndex? i xs.length = some j ∧ xs[j]? = some v ∧ j < xs.length ∧ -(xs.length : Int) ≤ i ∧ i < xs.length := by
  unfold atI at h
  cases e : ixN xs.length i with
  | none => rw [e] at h; cases h
  | some j =>
    rw [e] at h
    obtain ⟨h1, h2, h3, h4⟩ := ixN_seq e
    exact ⟨j, h1, h, h2, h3, h4⟩
theorem atI_nat {α : Type} {xs : List α} {j : Nat} {v : α} (h : xs[j]? = some v) : atI xs (j : Int) = some v := by
  have hj : j < xs.length := (List.getElem?_eq_some_iff.mp h).1
  have e : ixN xs.length (j : Int) = some j := by
    unfold ixN
    rw [if_pos (by omega), if_pos (by omega)]; simp
  unfold atI; rw [e]; exact h
def PlainIx (b : Expr) : Prop := ∀ o i, subscripted b false o i = operate [o, i] (getItem o i)
def IxR (X : Cx) (r : R2) : Prop :=
  ∀ (value slice : Expr) (pins : List (Addr × Obj)) (s : Shared) (σ : St) (H : Hp) (x y : V) (v u : Value) (Q : VK), Inv X pins σ H s → RelV x v → RelV y u → r x y H Q →
    subscripted slice false v u = operate [v, u] (getItem v u) → wpAny (model X.prog X.w) X.A (subscriptTail value slice v u) (EP X pins σ Q) X.xe s
def MtR (X : Cx) (id : String) (r : V → List V → Hp → VK → Prop) : Prop :=
  ∀ (pins : List (Addr × Obj)) (s : Shared) (σ : St) (H : Hp) (x : V) (xs : List V) (v : Value) (us : List Value) (Q : VK), Inv X pins σ H s → RelV x v → Vals xs us → r x xs H Q →
    wpAny (model X.prog X.w) X.A (call (.builtin id) (v :: us)) (EP X pins σ Q) X.xe s
section
variable {X : Cx} {a b : Expr} {ta tb : TE} {pos : Pos}
theorem pe_ix {r : R2} (hr : IxR X r) (ha : PE X a ta) (hb : PE X b tb) (hs : PlainIx b) : PE X (.Subscript a b pos) (tOp r ta tb) := by
  intro pins s σ H Q I h
  exact Subscript_ (binT ha hb I h fun v u s2 x y H2 I2 rx ry q => hr a b pins s2 σ H2 x y v u Q I2 rx ry q (hs _ _))
def rIxL (K : PySem.W.Frag) : R2 := fun x y H Q => ∃ p xs i v, x = .ref p ∧ y = .int i ∧ SqL K H p xs ∧ atI xs i = some v ∧ Q v H
def rIxT (K : PySem.W.Frag) : R2 := fun x y H Q => ∃ p xs i v, x = .ref p ∧ y = .int i ∧ SqT K H p xs ∧ atI xs i = some v ∧ Q v H
theorem ix_list : IxR X (rIxL X.K) := by
  intro value slice pins s σ H x y v u Q I rx ry h hs
  obtain ⟨p, xs, i, z, rfl, rfl, hq, he, q⟩ := h
  cases rx
  obtain ⟨t, rfl⟩ := ry
  obtain ⟨its, r, pl, hz⟩ := I.list hq
  obtain ⟨j, h1, h2, h3, h4, h5⟩ := atI_get he
  obtain ⟨w, ew, rw'⟩ := r.get h2
  have hl := r.length
  have hn := line63
  have fin : EP X pins σ Q w s := ⟨z, H, I, rw', q⟩
  by_cases h0 : 0 ≤ i
  · have hj : i.toNat = j := by
      rw [seqIndex_of h0 h5] at h1
      exact Option.some.inj h1
    exact item_listR pl.isList h0 (by omega) (by rw [hj]; simpa using ew) fin hs
  · have hj : (i + (its.toArray.size : Int)).toNat = j := by
      rw [seqIndex_neg (by omega) h4] at h1
      rw [List.size_toArray, ← hl]
      exact Option.some.inj h1
    exact subscriptTail_builtinR (x := w) pl.isList.typeIs slot_list_getitem.lookup
      (wpAny_getItem_list_neg (Q := fun r s' => r = w ∧ EP X pins σ Q r s') pl.isList (by omega) (by rw [List.size_toArray] <;> omega) (by omega) (by rw [hj]; simpa using ew) ⟨rfl, fin⟩) hs
theorem ix_tup : IxR X (rIxT X.K) := by
  intro value slice pins s σ H x y v u Q I rx ry h hs
  obtain ⟨p, xs, i, z, rfl, rfl, hq, he, q⟩ := h
  cases rx
  obtain ⟨t, rfl⟩ := ry
  obtain ⟨its, r, pl, hz⟩ := I.tuple hq
  obtain ⟨j, h1, h2, h3, h4, h5⟩ := atI_get he
  obtain ⟨w, ew, rw'⟩ := r.get h2
  have hl := r.length
  have hn := line63
  have fin : EP X pins σ Q w s := ⟨z, H, I, rw', q⟩
  exact subscriptTail_builtinR (x := w) pl.typeIs slot_tuple_getitem.lookup
    (getItem_tuple (j := j) (Q := fun r s' => r = w ∧ EP X pins σ Q r s') pl (by omega) (by omega) (by rw [List.size_toArray, ← hl]; exact h1) (by simpa using ew) ⟨rfl, fin⟩) hs
theorem mapSeq_set (its : List Value) (n j : Nat) (u : Value) : Obj.mapSeq (·.setIfInBounds j u) { cls := .type "list", data := .seq its.toArray n } = { cls := .type "list", data := .seq (its.set j u).toArray n } := by
  simp [Obj.mapSeq]
theorem Inv.lst {pins : List (Addr × Obj)} {σ : St} {H : Hp} {s : Shared} {p : Addr} {xs : List V} (I : Inv X pins σ H s) (h : H p = some (.lst xs)) :
    ∃ (its : List Value) (n : Nat), Vals xs its ∧ s.heap.get? p = some { cls := .type "list", data := .seq its.toArray n } ∧ xs.length ≤ sizeLine := by
  obtain ⟨z, its, n, r, e⟩ := I.hok p _ h
  exact ⟨its, n, r, e, z⟩
theorem Inv.lstUpd {pins : List (Addr × Obj)} {σ : St} {H : Hp} {s : Shared} {p : Addr} {xs ys : List V} {its its' : List Value} {n n' : Nat} {f : Obj → Obj} (I : Inv X pins σ H s) (h : H p = some (.lst xs))
    (ho : s.heap.get? p = some { cls := .type "list", data := .seq its.toArray n }) (hf : f { cls := .type "list", data := .seq its.toArray n } = { cls := .type "list", data := .seq its'.toArray n' }) (r : Vals ys its') (hz : ys.length ≤ sizeLine) (t : Nat) :
    Inv X pins σ (upd H p (.lst ys)) { s with heap := s.heap.update p f, toks := t } := by
  have e : (s.heap.update p f).get? p = some { cls := .type "list", data := .seq its'.toArray n' } := by
    rw [Heap.get?_update_self f ho (by rw [hf] <;> rfl), hf]
  refine I.write (x := p) (e := p) (by rw [h]; trivial) (.inl rfl) (fun b u hb q => (Heap.get?_update_other _ _ (Ne.symm hb)).trans q) ⟨_, e⟩ ?_
  exact ⟨hz, its', n', r, e⟩
def rSetL : V → V → V → Hp → (Hp → Prop) → Prop := fun o i v H Q => ∃ p xs k j, o = .ref p ∧ i = .int k ∧ H p = some (.lst xs) ∧ ixN xs.length k = some j ∧ Q (upd H p (.lst (xs.set j v)))
theorem set_list : PSet X rSetL := by
  intro pins s σ H o i v ov iv u Q I ro ri rv h
  obtain ⟨p, xs, k, j, rfl, rfl, hp, hj, q⟩ := h
  cases ro
  obtain ⟨t, rfl⟩ := ri
  obtain ⟨its, n, r, ho, hz⟩ := I.lst hp
  obtain ⟨h1, h2, h3, h4⟩ := ixN_seq hj
  have hl := r.length
  have hn := line63
  have I' : Inv X pins σ (upd H p (.lst (xs.set j v))) { s with heap := s.heap.update p (Obj.mapSeq (·.setIfInBounds j u)) } :=
    I.lstUpd hp ho (mapSeq_set its n j u) (r.set rv j) (by rw [List.length_set]; exact hz) s.toks
  by_cases h0 : 0 ≤ k
  · have hk : k.toNat = j := by
      rw [seqIndex_of h0 h4] at h1
      exact Option.some.inj h1
    exact PySem.W.ki_setAt ho h0 (by omega) (by rw [List.size_toArray, ← hl]; exact h4) (by rw [hk]; exact ⟨_, I', q⟩)
  · have hk : (k + (its.toArray.size : Int)).toNat = j := by
      rw [seqIndex_neg (by omega) h3] at h1
      rw [List.size_toArray, ← hl]
      exact Option.some.inj h1
    exact PySem.W.ki_setBack ho (by omega) (by rw [List.size_toArray, ← hl]; exact h3) (by omega) (by rw [hk]; exact ⟨_, I', q⟩)
theorem call_len_seq : CallR X (.builtin "len") (fun xs H Q => ∃ p ys, xs = [.ref p] ∧ (SqL X.K H p ys ∨ SqT X.K H p ys) ∧ Q (.int ys.length) H) := by
  intro pins s σ H xs us Q I r h
  obtain ⟨p, ys, rfl, hq, q⟩ := h
  obtain ⟨u, rfl, rx⟩ := vals1 r
  cases rx
  have hn := line63
  rcases hq with hq | hq
  · obtain ⟨its, r', pl, hz⟩ := I.list hq
    have hlen := r'.length
    exact Calls.call_len_list pl.isList (by simp only [List.size_toArray] <;> omega) ⟨.int ys.length, H, I.tok _, ⟨s.toks + 1, by rw [List.size_toArray, hlen]⟩, q⟩
  · obtain ⟨its, r', pl, hz⟩ := I.tuple hq
    have hlen := r'.length
    exact len_tuple pl (by simp only [List.size_toArray] <;> omega) ⟨.int ys.length, H, I.tok _, ⟨s.toks + 1, by rw [List.size_toArray, hlen]⟩, q⟩
def tyV (K : PySem.W.Frag) (T : String) (x : V) (H : Hp) : Prop := match x with
  | .str _ => T = "str"
  | .int _ => T = "int"
  | .ref p => (T = "list" ∧ ∃ xs, SqL K H p xs) ∨ (T = "tuple" ∧ ∃ o, K.lookup p = some o ∧ o.cls = .type "tuple" ∧ o.dict = none) ∨
      (T = "dict" ∧ ((∃ kvs, H p = some (.dK kvs)) ∨ ∃ kvs, H p = some (.dT kvs))) ∨ (T = "set" ∧ ∃ S n, H p = some (.set S n))
  | _ => False
theorem tyV_is {pins : List (Addr × Obj)} {σ : St} {H : Hp} {s : Shared} {T : String} {x : V} {v : Value} (I : Inv X pins σ H s) (r : RelV x v) (ty : tyV X.K T x H) :
    s.TypeIs v T ∧ ∀ a, v = .ref a → ∃ ob, s.heap.get? a = some ob ∧ ob.dict = none := by
  cases x with
  | str z =>
    obtain ⟨t, rfl⟩ := r
    cases (show T = "str" from ty)
    exact ⟨typeIs_str s z t, fun _ e => nomatch e⟩
  | int i =>
    obtain ⟨t, rfl⟩ := r
    cases (show T = "int" from ty)
    exact ⟨typeIs_int s i t, fun _ e => nomatch e⟩
  | ref p =>
    cases r
    rcases ty with ⟨rfl, xs, hq⟩ | ⟨rfl, o, hk, hc, hd⟩ | ⟨rfl, hk⟩ | ⟨rfl, S, n, hk⟩
    · obtain ⟨its, _, pl, _⟩ := I.list hq
      refine ⟨pl.isList.typeIs, fun a e => ?_⟩
      cases e
      obtain ⟨o, n, e, c, hd, _⟩ := pl
      exact ⟨o, e, hd⟩
    · refine ⟨⟨o, I.kIn p o hk, hc⟩, fun a e => ?_⟩
      cases e
      exact ⟨o, I.kIn _ o hk, hd⟩
    · have z : ∃ o, s.heap.get? p = some o ∧ o.ExactDict := by
        rcases hk with ⟨kvs, hk⟩ | ⟨kvs, hk⟩
        · obtain ⟨_, _, _, _, o, _, _, e, ex, _⟩ := I.hok p _ hk
          exact ⟨o, e, ex⟩
        · obtain ⟨_, _, _, _, o, _, _, e, ex, _⟩ := I.hok p _ hk
          exact ⟨o, e, ex⟩
      obtain ⟨o, e, ex⟩ := z
      refine ⟨⟨o, e, ex.1⟩, fun a e2 => ?_⟩
      cases e2
      exact ⟨o, e, ex.2.1⟩
    · obtain ⟨o, _, _, _, e, ex, _⟩ := I.hok p _ hk
      refine ⟨⟨o, e, ex.1⟩, fun a e2 => ?_⟩
      cases e2
      exact ⟨o, e, ex.2.1⟩
  | _ => exact False.elim ty
def tBM (K : PySem.W.Frag) (T : String) (r : V → List V → Hp → VK → Prop) (to : TE) (t : TA) : TE := fun σ H Q => to σ H fun x H1 => tyV K T x H1 ∧ t σ H1 fun xs H2 => r x xs H2 Q
variable {o e : Expr} {es : List Expr} {to : TE} {t : TA} {name : Str} {apos cpos : Pos} {T id : String} {r : V → List V → Hp → VK → Prop}
theorem pe_bm (pa : PlainAttrs T) (slot : Slot T name id) (hty : typeOf (.builtin id) = pure (.type "method_descriptor")) (hm : MtR X id r) (ho : PE X o to) (ha : PA X (e :: es) t)
    (hbase : attributeBase o name X.env (eval o X.env) = eval o X.env := by rfl)
    (hfew : ((backTo cpos (starEach (e :: es) X.env)).all (fun x => !x.1) && (backToKw cpos (keywordEach [] X.env)).all (fun x => x.1.isSome)
      && decide ((e :: es).length + ([] : List Keyword).length + (if ([] : List Keyword).isEmpty then 0 else 1) < 30)) = true := by rfl)
    (hline : (apos.endLine == cpos.line) = true := by rfl) (hs : starEach (e :: es) X.env = (false, eval e X.env) :: starEach es X.env := by rfl) (hplain : (backTo cpos (starEach es X.env)).any (·.1) = false := by rfl) :
    PE X (.Call (.Attribute o name apos) (e :: es) [] cpos) (tBM X.K T r to t) := by
  intro pins s σ H Q I h
  refine wpAny_Call_method_late hbase hfew hline rfl (thn (ho pins s σ H _ I h) fun v s1 ⟨x, H1, I1, r1, ty, q1⟩ => ?_)
  obtain ⟨h1, h2⟩ := tyV_is I1 r1 ty
  refine ⟨T, id, pa, slot, hty, h1, h2, ?_⟩
  have hA := ha cpos pins s1 σ H1 _ I1 q1
  rw [hs] at hA ⊢
  refine Calls.callWith_builtin (by show (false || (backTo cpos (starEach es X.env)).any (·.1)) = false; rw [hplain] <;> rfl) (Calls.evalArgs_plain ?_)
  exact thn hA fun us s2 ⟨vs, H2, I2, r2, q2⟩ => hm pins s2 σ H2 x vs v us Q I2 r1 r2 q2
end
end L2
namespace L2
open PySem PySem.Spec PyProof.Rows
def MtM (X : Cx) (id : String) (r : V → List V → Hp → VK → Prop) : Prop :=
  ∀ (pins : List (Addr × Obj)) (s : Shared) (σ : St) (H : Hp) (x : V) (xs : List V) (v : Value) (us : List Value) (Q : VK), Inv X pins σ H s → RelV x v → Vals xs us → r x xs H Q →
    wpAny (model X.prog X.w) X.A (call (.builtin id) (v :: us)) (EP X pins σ Q) X.xe s
theorem Vals.one : ∀ {x : V} {us : List Value}, Vals [x] us → ∃ u, us = [u] ∧ RelV x u
  | _, _, .cons r .nil => ⟨_, rfl, r⟩
section
variable {X : Cx} {pins : List (Addr × Obj)} {σ : St} {H : Hp} {s : Shared} {l b : Addr} {xs ys zs : List V}
theorem Inv.lset {its its' : List Value} {n : Nat} {f : Array Value → Array Value} {t' : Nat} (I : Inv X pins σ H s) (hH : H l = some (.lst xs))
    (e : s.heap.get? l = some { cls := .type "list", data := .seq its.toArray n }) (hf : f its.toArray = its'.toArray) (hv : Vals ys its') (hz : ys.length ≤ sizeLine) :
    Inv X pins σ (upd H l (.lst ys)) { s with heap := s.heap.update l (Obj.mapSeq f), toks := t' } := by
  have q := PySem.IsL.update e f
  rw [hf] at q
  refine I.write (x := l) (e := l) (by rw [hH]; exact trivial) (.inl rfl) (fun b' u hb hu => (Heap.get?_update_other s.heap (Obj.mapSeq f) (Ne.symm hb)).trans hu) ⟨_, q⟩ ?_
  exact ⟨hz, its', _, hv, q⟩
theorem Inv.lnew {its : List Value} {t' : Nat} (I : Inv X pins σ H s) (hv : Vals ys its) (hz : ys.length ≤ sizeLine) :
    Inv X pins σ (upd H s.heap.objs.size (.lst ys)) { s with heap := s.heap.push { cls := .type "list", data := .seq its.toArray }, toks := t' } :=
  I.laid (fun _ _ q => Heap.get?_push_of_some _ q) (Nat.le_refl _) ⟨hz, its, 0, hv, Heap.get?_push_size _ rfl⟩
theorem Inv.fresh (I : Inv X pins σ H s) : H s.heap.objs.size = none := I.hok.fresh (Nat.le_refl _)
theorem Inv.lstM (I : Inv X pins σ H s) (hH : H l = some (.lst xs)) : xs.length ≤ sizeLine ∧ ∃ (its : List Value) (n : Nat), Vals xs its ∧ xs.length = its.length ∧ s.heap.get? l = some { cls := .type "list", data := .seq its.toArray n } := by
  obtain ⟨z, its, n, r, e⟩ := I.hok l _ hH
  exact ⟨z, its, n, r, r.length, e⟩
theorem notLongL {n : Nat} (h : n ≤ sizeLine) : Builtin.List.listTooLong n = false := by
  unfold Builtin.List.listTooLong
  exact decide_eq_false (by omega)
end
section
variable {X : Cx}
def rAppend : V → List V → Hp → VK → Prop := fun x vs H Q => ∃ l xs y, x = .ref l ∧ vs = [y] ∧ H l = some (.lst xs) ∧ xs.length < sizeLine ∧ Q .non (upd H l (.lst (xs ++ [y])))
theorem mt_append : MtM X "list.append" rAppend := by
  intro pins s σ H x vs v us Q I rx rv h
  obtain ⟨l, xs, y, rfl, rfl, hH, hz, q⟩ := h
  cases rx
  obtain ⟨u, rfl, ru⟩ := rv.one
  obtain ⟨z, its, n, r, hl, e⟩ := I.lstM hH
  refine call_meets F.slot_list_append ⟨_, e, rfl⟩ F.entry_list_append (F.args_list_append_2 _ _) (PySem.list_append l its.toArray n u (by rw [List.size_toArray]; omega)) ⟨e, ?_⟩
  refine ⟨.non, _, I.lset (its' := its ++ [u]) hH e (by simp) (r.append (.cons ru .nil)) ?_, rfl, q⟩
  rw [List.length_append, List.length_singleton]
  omega
def rExtend : V → List V → Hp → VK → Prop := fun x vs H Q => ∃ l b xs zs, x = .ref l ∧ vs = [.ref b] ∧ H l = some (.lst xs) ∧ H b = some (.lst zs) ∧ xs.length + zs.length ≤ sizeLine ∧ Q .non (upd H l (.lst (xs ++ zs)))
theorem mt_extend : MtM X "list.extend" rExtend := by
  intro pins s σ H x vs v us Q I rx rv h
  obtain ⟨l, b, xs, zs, rfl, rfl, hH, hB, hz, q⟩ := h
  cases rx
  obtain ⟨u, rfl, ru⟩ := rv.one
  cases ru
  obtain ⟨z, its, n, r, hl, e⟩ := I.lstM hH
  obtain ⟨z2, its2, n2, r2, hl2, e2⟩ := I.lstM hB
  have hsz : its.toArray.size + its2.toArray.size ≤ sizeLine := by rw [List.size_toArray, List.size_toArray]; omega
  have hlong : ¬ (!its.toArray.isEmpty && Builtin.List.listTooLong (its.toArray.size + its2.toArray.size)) = true := by
    rw [notLongL hsz, Bool.and_false]
    exact Bool.false_ne_true
  refine call_meets F.slot_list_extend ⟨_, e, rfl⟩ F.entry_list_extend (F.args_list_extend_2 _ _)
    (AutoSeq1.list_extend_list_list_0 l its.toArray n b its2.toArray n2 hlong (by rw [List.size_toArray]; omega) (by omega)) ⟨e, e2, ?_⟩
  refine ⟨.non, _, I.lset (its' := its ++ its2) hH e (by simp) (r.append r2) ?_, rfl, q⟩
  rw [List.length_append]
  omega
def rCat : R2 := fun x y H Q => ∃ l b xs zs, x = .ref l ∧ y = .ref b ∧ H l = some (.lst xs) ∧ H b = some (.lst zs) ∧ xs.length + zs.length ≤ sizeLine ∧ ∀ p, H p = none → Q (.ref p) (upd H p (.lst (xs ++ zs)))
theorem op_cat : OpR X (binaryOp .Add) rCat := by
  intro pins s σ H x y v u Q I rx ry h
  obtain ⟨l, b, xs, zs, rfl, rfl, hH, hB, hz, q⟩ := h
  cases rx
  cases ry
  obtain ⟨z, its, n, r, hl, e⟩ := I.lstM hH
  obtain ⟨z2, its2, n2, r2, hl2, e2⟩ := I.lstM hB
  refine PySem.P.add_list e e2 ?_ (by rw [List.size_toArray, List.size_toArray]; omega)
  have ea : its.toArray ++ its2.toArray = (its ++ its2).toArray := by simp
  rw [ea]
  exact ⟨.ref _, _, I.lnew (t' := s.toks) (r.append r2) (by rw [List.length_append]; omega), rfl, q _ I.fresh⟩
end
section
variable {prog : Program} {w : World} {A : Around} {E : Value → Shared → Prop} {s : Shared}
end
section
variable {X : Cx}
end
end L2
namespace Att
open PySem PySem.W PySem.Calls PyProof.Rows
theorem ints_of_wellAll {P : Params} {h : Heap} : ∀ (ns : List Int) (vs : List Value), WellAll P h vs (ns.map WData.int) → IntsAre vs ns := by
  intro ns
  induction ns with
  | nil =>
    intro vs w
    rw [List.map_nil] at w
    cases w
    exact .nil
  | cons n ns ih =>
    intro vs w
    rw [List.map_cons] at w
    cases w with
    | cons a b =>
      cases a
      exact .cons _ _ (ih _ b)
theorem script_of {l : OpenLaw} {n : Nat} (hn : l.most = some n) {P : Params} {h : Heap} {args : List WData} {vals : List Value}
    (hpre : l.row.toRowW.claim.pre args = true) (hwl : WellAll P h vals args) :
    ∃ a vs ns, vals = [Value.ref a] ∧ args = [WData.list (ns.map WData.int)] ∧ h.get? a = some { cls := .type "list", data := .seq vs.toArray } ∧ IntsAre vs ns ∧ ns.length ≤ n := by
  have hsh : WShape.hasAll [] args [.list .int] = true := (pre_splitW hpre).1
  have hc : l.pre.holds [] { args := args } = true := (pre_splitW hpre).2
  obtain ⟨d, r, rfl, h1, h2⟩ := hasAllW_cons hsh
  obtain rfl := hasAllW_nil h2
  obtain ⟨xs, rfl, h3⟩ := hasW_list h1
  obtain ⟨ns, rfl⟩ := items_int h3
  have hlen : ns.length ≤ n := by
    unfold OpenLaw.pre at hc
    have h4 : (WTm.not (.lt (.lit (.int (n : Int))) (.len (.arg 0)))).holds [] { args := [.list (ns.map .int)] } = true := by
      have h4 := (holds_andW hc).1
      rw [hn] at h4
      exact h4
    have h5 := condW_of h4 (w_not (w_lt w_lit (w_len_list (w_arg rfl))))
    rw [List.length_map] at h5
    refine Nat.le_of_not_lt fun q => ?_
    have q' : (n : Int) < ((ns.length : Nat) : Int) := by omega
    first
      | (rw [decide_eq_true q'] at h5; exact absurd h5 (by decide))
      | (simp at h5; omega)
  cases hwl with
  | cons w1 w2 =>
    cases w2
    cases w1 with
    | list ho hall => exact ⟨_, _, ns, rfl, rfl, ho, ints_of_wellAll ns _ hall, hlen⟩
theorem post_true (l : OpenLaw) (args : List WData) : l.row.toRowW.claim.post args (.bool true) args = true :=
  postW_of (r := l.row.toRowW) (X := (true == true))
    (show WShape.has [] (.bool true) .bool = true by first | rfl | decide | simp [WShape.has, WShape.arms, WShape.armsAll])
    (show (WTm.eq .res (.lit (.bool true))).value [] { args := args, res := some (.bool true), after := args } = some (.bool (true == true)) from w_eq_bool (w_res rfl) w_lit) rfl
theorem attach_call {l : OpenLaw} {n : Nat} {q : Program} {loose : List Str} {XP : (Str → Option Value) → Heap → Prop} {YP : World → Heap → Prop} {d : DefRec}
    (hn : l.most = some n) (hdf : d.params.defaults = [])
    (call : ∀ (w : World) (s₀ s₁ : Shared) (mg mb : Str → Option Value) (fa : Addr) (o : Obj) (pm cd doc : Value) (a : Addr) (vs : List Value) (ns : List Int),
      Ground q loose [] XP w s₀ mg mb s₁.heap → YP w s₁.heap →
      s₁.heap.get? fa = some o → o.data = .func (docDef d.name d.params d.body d.scope pm cd doc) → s₁.heap.CodeRec cd d.name → mg d.name = some (.ref fa) →
      s₁.heap.get? a = some { cls := .type "list", data := .seq vs.toArray } → IntsAre vs ns → ns.length ≤ n → s₁.gens = #[] →
      codeAny (model l.prog w) callerA (.call (.ref fa) ⟨[.ref a], []⟩) (fun r s' => r = .ok (.ret (.bool true)) ∧ OldK s₁.heap s'.heap ∧ s'.os = s₁.os ∧ AllBare s'.gens) s₁) :
    WalkO q loose XP YP l.row.toRowW d [] (fun f vs => PySem.call f vs) := by
  intro w s₀ s₁ mg mb G Y fa o pm cd doc dV kV ho hd hcd hD hmg hg args vals as hpre hlay hrd hwl hlo
  obtain rfl : dV = .none := Dflts.none hD hdf
  obtain rfl : kV = .none := Dflts.noKw hD
  obtain ⟨a, vs, ns, rfl, rfl, hobj, hints, hlen⟩ := script_of hn hpre hwl
  refine enter_call (codeAny_mono (call w s₀ s₁ mg mb fa o pm cd doc a vs ns G Y ho (fd_plain hd) hcd hmg hobj hints hlen hg) fun r s' hq => ?_)
  obtain ⟨rfl, h2, h3, h4⟩ := hq
  exact ⟨.inl ⟨.bool true, .bool true, [], rfl, fun _ => rfl, .bool true, post_true l _, fun _ => ⟨List.Pairwise.nil, fun _ hm => (nomatch hm)⟩⟩, h2, h3, h4⟩
section
variable {prog : Program} {w : World} {A : Around} {E : Value → Shared → Prop} {s : Shared} {K : Frag}
end
end Att
namespace L2
open PySem PySem.Spec PyProof.Rows
theorem vals_ints : ∀ {vs : List Value} {ns : List Int}, IntsAre vs ns → Vals (ns.map V.int) vs
  | _, _, .nil => .nil
  | _, _, .cons n t h => .cons ⟨t, rfl⟩ (vals_ints h)
end L2
namespace L2
open PySem PySem.Spec PyProof.Rows
abbrev KOf {K : PySem.W.Frag} {h : Heap} (_ : K.In h) : PySem.W.Frag := K
end L2
namespace L2
open PySem PySem.Spec PyProof.Rows
def inClass (s : Stmt) (j : Nat) : Stmt := match s with
  | .ClassDef _ _ _ body _ _ _ _ _ _ _ => body.getD j (.Pass ⟨0, 0, 0, 0⟩)
  | _ => .Pass ⟨0, 0, 0, 0⟩
def defArgs (s : Stmt) : Arguments := match s with
  | .FunctionDef _ a _ _ _ _ _ _ _ _ => a
  | _ => { posonlyargs := [], args := [], vararg := none, kwonlyargs := [], kw_defaults := [], kwarg := none, defaults := [] }
def defBody (s : Stmt) : List Stmt := match s with
  | .FunctionDef _ _ b _ _ _ _ _ _ _ => b
  | _ => []
def defScope (s : Stmt) : Scope := match s with
  | .FunctionDef _ _ _ _ _ _ sc _ _ _ => sc
  | _ => { kind := .function, names := [], isGenerator := false, isCoroutine := false }
structure Fun (K : PySem.W.Frag) (x qual : Str) (st : Stmt) (f : Addr) (fd : FuncData) : Prop where
  ex : ∃ (oc : Value) (od : Option Addr) (kV doc pm : Value) (an : Option Addr) (cdv ct : Value) (osl : Array (Option Value)),
    fd = PySem.W.fnOf x qual (defArgs st) (defBody st) (defScope st) .none kV doc pm an cdv ct ∧ K.lookup f = some ⟨oc, od, .func fd, osl⟩ ∧ PySem.W.codeIn K cdv qual = true
  kp : PySem.W.keepIn K (.ref f) = true
section
variable {P : Program} {w : World} {K : PySem.W.Frag} {mg : Str → Option Value} {base : Heap}
theorem Fun.binds {x qual : Str} {st : Stmt} {f : Addr} {fd : FuncData} {ps : List Str} (F : Fun K x qual st f fd)
    (h : ∀ (kV doc pm : Value) (an : Option Addr) (cdv ct : Value) (us : List Value), us.length = ps.length → bindArgs (PySem.W.fnOf x qual (defArgs st) (defBody st) (defScope st) .none kV doc pm an cdv ct) ⟨us, []⟩ = pure (ps.zip us)) : Binds K fd ps [] := by
  obtain ⟨oc, od, kV, doc, pm, an, cdv, ct, osl, rfl, lk, hcd⟩ := F.ex
  exact .all (h kV doc pm an cdv ct)
theorem fun_mk {x qual : Str} {st : Stmt} {f : Addr} {oc : Value} {od an : Option Addr} {osl : Array (Option Value)} {kV doc pm cdv ct : Value} (l : K.lookup f = some ⟨oc, od, .func (PySem.W.fnOf x qual (defArgs st) (defBody st) (defScope st) .none kV doc pm an cdv ct), osl⟩)
    (c : PySem.W.codeIn K cdv qual = true) (k : PySem.W.keepIn K (.ref f) = true) : Fun K x qual st f (PySem.W.fnOf x qual (defArgs st) (defBody st) (defScope st) .none kV doc pm an cdv ct) := ⟨⟨oc, od, kV, doc, pm, an, cdv, ct, osl, rfl, l, c⟩, k⟩
end
theorem hu_of {A : Around} {k : Nat} (hr : Room k A) : A.units + 1 < cLine := Nat.lt_of_le_of_lt (Nat.add_le_add_left (by decide : 1 ≤ 64) _) hr.units
section
variable {X : Cx}
theorem pv (i : Nat) {x : Str} {pos : Pos} (hN : X.N[i]? = some x := by rfl) (hv : Vis X.env.scope x := by first | exact Or.inl rfl | exact Or.inr (Or.inl rfl) | exact Or.inr (Or.inr rfl)) (hd : (x == ("__debug__" : Str)) = false := by decide)
    (hcd : (x == ("__classdict__" : Str)) = false := by decide) : PE X (.Name x pos) (tVar i) := pe_var hN hv hd hcd
end
theorem iteF {A B : Prop} (h : B) : if false = true then A else B := by
  rw [if_neg Bool.false_ne_true]
  exact h
theorem iteT {A B : Prop} (h : A) : if true = true then A else B := by
  rw [if_pos rfl]
  exact h
def Same (H H' : Hp) : Prop := ∀ b o, H b = some o → H' b = some o
theorem Same.refl (H : Hp) : Same H H := fun _ _ h => h
theorem Same.trans {H H1 H2 : Hp} (a : Same H H1) (b : Same H1 H2) : Same H H2 := fun c o h => b c o (a c o h)
end L2
namespace L2
open PySem PySem.Spec PyProof.Rows
theorem ObjOk.there {P : Program} {w : World} {H : Hp} {h : Heap} {a : Addr} {o : HO} (x : ObjOk P w H h a o) : ∃ u, h.get? a = some u := by
  cases o with
  | lst xs => obtain ⟨_, _, _, _, e⟩ := x; exact ⟨_, e⟩
  | tup xs => obtain ⟨_, _, _, ob, e, _⟩ := x; exact ⟨_, e⟩
  | dK kvs => obtain ⟨_, _, _, _, ob, _, _, e, _⟩ := x; exact ⟨_, e⟩
  | dT kvs => obtain ⟨_, _, _, _, ob, _, _, e, _⟩ := x; exact ⟨_, e⟩
  | set S n => obtain ⟨ob, _, _, _, e, _⟩ := x; exact ⟨_, e⟩
  | ins C dx fs => obtain ⟨_, _, _, e, _⟩ := x; exact ⟨_, e⟩
  | own y => exact x
  | xd fs => obtain ⟨_, ⟨_, _, _, e, _⟩, _⟩ := x; exact ⟨_, e⟩
  | rng lo hi => obtain ⟨_, _, _, e⟩ := x; exact ⟨_, e⟩
  | frz ob u => obtain ⟨e, _⟩ := x; exact ⟨_, e⟩
  | tbl ps => exact ⟨_, (show h.get? a = some _ from x)⟩
  | met f y => exact ⟨_, (show h.get? a = some _ from x)⟩
  | ext φ => obtain ⟨_, e, _⟩ := x; exact e
theorem HOk.free_of {P : Program} {w : World} {H : Hp} {h : Heap} {a : Addr} (x : HOk P w H h) (e : h.get? a = none) : H a = none := by
  cases q : H a with
  | none => rfl
  | some o => obtain ⟨u, z⟩ := (x a o q).there; rw [e] at z; cases z
structure Flies (h0 h : Heap) (H : Hp) (e C : Addr) : Prop where
  ex : ∃ oe vs T oT ts, ∃ a0 : Value × Value, h.get? e = some oe ∧ oe.cls = .ref C ∧ vs[0]? = some a0.1 ∧ oe.data = .fields vs ∧ vs[1]? = some (.ref T) ∧ T ≠ e ∧ h.get? T = some oT ∧ oT.data = .fields ts ∧ ts[3]? = some .none ∧ h0.get? T = none ∧ H T = none ∧ vs[2]? = some a0.2 ∧ CxO H a0.2
  new : h0.get? e = none
  free : H e = none
def XC (P : Program) (w : World) : CXT := fun outer H s E e s' => ∃ (ea C : Addr) (H' : Hp), e = .ref ea ∧ s'.os = s.os ∧ AllBare s'.gens ∧ Un (frs outer) [] H H' s.heap s'.heap ∧ HOk P w H' s'.heap ∧ Flies s.heap s'.heap H' ea C ∧ E (.ref C) none H'
theorem Un.late {fs ex ch : List Addr} {H H' : Hp} {h h1 h2 : Heap} (u : Un fs ex H H' h h1) (fresh : ∀ b ∈ ch, h.get? b = none)
    (k : ∀ b o, b ∉ fs → b ∉ ch → h1.get? b = some o → h2.get? b = some o) (ks : ∀ b o, b ∈ fs → h1.get? b = some o → ∃ sl, h2.get? b = some { o with slots := sl }) : Un fs ex H H' h h2 := by
  have nch : ∀ b o, h.get? b = some o → b ∉ ch := fun b o q z => by have := fresh b z; rw [q] at this; cases this
  refine ⟨fun b o q n hb hx => k b o hb (nch b o q) (u.keep b o q n hb hx), fun b o q n hb hx => ?_, u.free, fun b o q hx => ?_, u.tups, u.frzs, u.tbls⟩
  · obtain ⟨sl, e1⟩ := u.slot b o q n hb hx
    obtain ⟨sl', e2⟩ := ks b _ hb e1
    exact ⟨sl', e2⟩
  · obtain ⟨o', e1⟩ := u.there b o q hx
    by_cases hb : b ∈ fs
    · obtain ⟨sl, e2⟩ := ks b o' hb e1
      exact ⟨_, e2⟩
    · exact ⟨o', k b o' hb (nch b o q) e1⟩
section
variable {X : Cx} {pins : List (Addr × Obj)} {σ : St} {H H' : Hp} {s s' : Shared} {ea C : Addr} {a0 : Value × Value} {h' : Heap} {ch : List Addr}
theorem fly_after (I : Inv X pins σ H s) (hst : X.stack = X.env :: X.outer) (os : s'.os = s.os) (bare : AllBare s'.gens) (un : Un (frs X.stack) [] H H' s.heap s'.heap) (hok : HOk X.prog X.w H' s'.heap)
    (hch : ∀ b ∈ ch, s.heap.get? b = none ∧ H' b = none) (hea : ea ∈ ch) (hcx : CxO H' a0.2) (L : StepC (PySem.W.hideAll s'.heap (ch ++ frs X.stack)) (X.env :: X.outer) ea (.ref C) a0 .none s'.heap h') :
    Inv X pins σ H' { s' with heap := h' } ∧ Flies s.heap h' H' ea C := by
  have I1 : Inv X pins σ H' s' := I.call' (ch := []) os un hok bare (fun b z => absurd z (by simp))
  obtain ⟨st, ff, tr, up⟩ := L
  have FF : s'.heap.FunFrames X.base X.stack := I1.stack
  have keep : ∀ b o, b ∉ frs X.stack → b ∉ ch → s'.heap.get? b = some o → h'.get? b = some o := fun b o hb hc e => st b o (PySem.W.hideAll_get _ e fun z => (List.mem_append.mp z).elim hc hb)
  have slots : ∀ b o, b ∈ frs X.stack → s'.heap.get? b = some o → ∃ sl, h'.get? b = some { o with slots := sl } := fun b o hb e => by
    obtain ⟨_, o', ho', hd⟩ := FF.mem hb
    rw [e] at ho'; cases ho'
    exact up b o e hd
  have un2 : Un (frs X.stack) [] H H' s.heap h' := un.late (ch := ch) (fun b hb => (hch b hb).1) keep slots
  have free : ∀ b, H' b ≠ none → b ∉ frs X.stack ∧ b ∉ ch := fun b n => ⟨fun z => n (I1.stkFree b z), fun z => n (hch b z).2⟩
  have hok2 : HOk X.prog X.w H' h' := fun b o e => (hok b o e).stay (fun c u hc q => by
    have n : H' c ≠ none := by
      rcases hc with z | z
      · rw [z, e]; simp
      · rw [z]; simp
    exact keep c u (free c n).1 (free c n).2 q) (fun _ q => q) fun _ _ q => q
  refine ⟨I.call' (s' := { s' with heap := h' }) (ch := []) os un2 hok2 bare (fun b z => absurd z (by simp)), ⟨?_, (hch ea hea).1, (hch ea hea).2⟩⟩
  obtain ⟨oe, vs, T, oT, ts, e1, ⟨e2, e3, c3⟩, e4, e5, e6, e7, e8, e9, e10⟩ := tr
  have hT : s.heap.get? T = none ∧ H' T = none := by
    cases q : s'.heap.get? T with
    | none =>
      refine ⟨?_, hok.free_of q⟩
      cases q2 : s.heap.get? T with
      | none => rfl
      | some o => obtain ⟨o', z⟩ := un.there T o q2 (by simp); rw [q] at z; cases z
    | some o =>
      by_cases hc : T ∈ ch
      · exact hch T hc
      · by_cases hf : T ∈ frs X.stack
        · have hf2 : T ∈ frs (X.env :: X.outer) := hst ▸ hf
          obtain ⟨_, o', ho', hd⟩ := ff.mem hf2
          rw [e8] at ho'; cases ho'
          exact absurd e9 (hd ts)
        · rw [PySem.W.hideAll_get _ q fun z => (List.mem_append.mp z).elim hc hf] at e6
          cases e6
  exact ⟨oe, vs, T, oT, ts, a0, e1, e2, e3, e4, e5, e7, e8, e9, e10, hT.1, hT.2, c3, hcx⟩
theorem frames_hid (I : Inv X pins σ H' s') (hst : X.stack = X.env :: X.outer) (ch : List Addr) : s'.heap.FunFrames (PySem.W.hideAll s'.heap (ch ++ frs X.stack)) (X.env :: X.outer) := by
  have FF : s'.heap.FunFrames X.base X.stack := I.stack
  rw [← hst]
  exact PySem.W.funFrames_hide FF fun env he a hf => List.mem_append_right _ (List.mem_filterMap.mpr ⟨env, he, hf⟩)
theorem leave_on (I : Inv X pins σ H s) (hst : X.stack = X.env :: X.outer) (hf : X.env.frame = some X.env.locals) (os : s'.os = s.os) (bare : AllBare s'.gens) (un : Un (frs X.stack) [] H H' s.heap s'.heap) (hok : HOk X.prog X.w H' s'.heap)
    (fl : Flies s.heap s'.heap H' ea C) {M : Model} {E : Value → Shared → Prop} {Q : Unit → Shared → Prop} (h : ∀ h', Inv X pins σ H' { s' with heap := h' } → Flies s.heap h' H' ea C → Q () { s' with heap := h' }) :
    wpAny M X.A (leaving X.env (.ref ea)) Q E s' := by
  have I1 : Inv X pins σ H' s' := I.call' (ch := []) os un hok bare (fun b z => absurd z (by simp))
  obtain ⟨oe, vs, T, oT, ts, a0, e1, e2, e3, e4, e5, e7, e8, e9, e10, e11, e12, c3, cx⟩ := fl.ex
  have hfr : X.A.frames = some (X.env :: X.outer) := by rw [← hst]; exact I.ok.frames
  refine leave_next (base := PySem.W.hideAll s'.heap ([ea, T] ++ frs X.stack)) (cls := .ref C) (a0 := a0) hfr (frames_hid I1 hst [ea, T]) hf
    ⟨oe, vs, T, oT, ts, e1, ⟨e2, e3, c3⟩, e4, e5, PySem.W.hideAll_none _ (by simp), e7, e8, e9, e10⟩ (fun b o q => PySem.W.of_hideAll _ q) (PySem.W.hideAll_none _ (by simp)) fun h' L => ?_
  obtain ⟨J, F⟩ := fly_after (ch := [ea, T]) I hst os bare un hok (fun b hb => by
    rcases List.mem_cons.mp hb with rfl | hb
    · exact ⟨fl.new, fl.free⟩
    · obtain rfl : b = T := by simpa using hb
      exact ⟨e11, e12⟩) (by simp) cx L
  exact h h' J F
theorem leave_made (I : Inv X pins σ H s) (hst : X.stack = X.env :: X.outer) (hf : X.env.frame = some X.env.locals) {h1 : Heap} {args : List Value} (hm : Heap.MadeExcOf s.heap h1 ea (.ref C) args)
    {M : Model} {E : Value → Shared → Prop} {Q : Unit → Shared → Prop} (h : ∀ h', Inv X pins σ H { s with heap := h' } → Flies s.heap h' H ea C → Q () { s with heap := h' }) :
    wpAny M X.A (leaving X.env (.ref ea)) Q E { s with heap := h1 } := by
  have I1 : Inv X pins σ H { s with heap := h1 } := I.kept (t' := s.toks) hm.keeps
  obtain ⟨t, e1, e2, e3⟩ := hm.there
  have hfr : X.A.frames = some (X.env :: X.outer) := by rw [← hst]; exact I.ok.frames
  refine leave_first (s := { s with heap := h1 }) (base := PySem.W.hideAll h1 ([ea] ++ frs X.stack)) (a0 := (.ref t, .none)) hfr (frames_hid I1 hst [ea]) hf e1 (fun b o q => PySem.W.of_hideAll _ q)
    (PySem.W.hideAll_none _ (by simp)) rfl rfl rfl rfl fun h' L => ?_
  obtain ⟨J, F⟩ := fly_after (ch := [ea]) (s' := { s with heap := h1 }) I hst rfl I.bare (Un.kept hm.keeps) I1.hok (fun b hb => by
    obtain rfl : b = ea := by simpa using hb
    exact ⟨hm.new, I.hok.free_of hm.new⟩) (by simp) .nil L
  exact h h' J F
end
def Throws (X : Cx) (E : XK) : Prop := ∀ (pins : List (Addr × Obj)) (σ : St) (H : Hp) (s : Shared) (ea C : Addr) (h' : Heap) (args : List Value), Inv X pins σ H s → Heap.MadeExcOf s.heap h' ea (.ref C) args → E (.ref C) none H → X.xe (.ref ea) { s with heap := h' }
section
variable {P : Program} {w : World} {K : PySem.W.Frag} {mg : Str → Option Value} {base : Heap} {N ps : List Str} {qual : Str} {scope : Scope} {f : Addr} {cd : Value} {A : Around} {outer : List Env} {s : Shared} {H : Hp} {E : XK}
abbrev cxE (P : Program) (w : World) (K : PySem.W.Frag) (mg : Str → Option Value) (base : Heap) (N : List Str) (qual : Str) (scope : Scope) (f : Addr) (cd : Value) (A : Around) (outer : List Env) (s : Shared) (H : Hp) (E : XK) (c : Bool := true) : Cx :=
  cxOf (XC P w) P w K mg base N qual scope f cd A outer s H E c
theorem fresh_start {c : Bool} {pins : List (Addr × Obj)} {σ : St} {H1 H' : Hp} {s1 : Shared} {h' : Heap} {ea C : Addr} (I : Inv (cxE P w K mg base N qual scope f cd A outer s H E c) pins σ H1 s1) (F : Flies s1.heap h' H' ea C) : Flies s.heap h' H' ea C := by
  have z : ∀ b, s1.heap.get? b = none → s.heap.get? b = none := fun b q => by
    cases q2 : s.heap.get? b with
    | none => rfl
    | some o => obtain ⟨o', e⟩ := I.base.there b o q2 (by simp [cxOf]); rw [q] at e; cases e
  obtain ⟨oe, vs, T, oT, ts, a0, e1, e2, e3, e4, e5, e7, e8, e9, e10, e11, e12, c3, cx⟩ := F.ex
  exact ⟨⟨oe, vs, T, oT, ts, a0, e1, e2, e3, e4, e5, e7, e8, e9, e10, z _ e11, e12, c3, cx⟩, z _ F.new, F.free⟩
theorem passes_of {c : Bool} : Passes (XC P w) (cxE P w K mg base N qual scope f cd A outer s H E c) E := by
  intro pins σ H1 s1 e s' I h
  obtain ⟨ea, C', H', rfl, os, bare, un, hok, fl, q⟩ := h
  refine leave_on I rfl rfl os bare un hok fl fun h' J F => ?_
  exact ⟨ea, C', H', rfl, J.os, J.bare, J.base, J.hok, fresh_start I F, q⟩
theorem throws_of {c : Bool} : Throws (cxE P w K mg base N qual scope f cd A outer s H E c) E := by
  intro pins σ H1 s1 ea C h1 args I hm q
  refine leave_made I rfl rfl hm fun h' J F => ?_
  exact ⟨ea, C, H1, rfl, J.os, J.bare, J.base, J.hok, fresh_start I F, q⟩
theorem owns_of {c : Bool} : PassesOwn (model P w) (cxE P w K mg base N qual scope f cd A outer s H E c).A (cxE P w K mg base N qual scope f cd A outer s H E c).env (cxE P w K mg base N qual scope f cd A outer s H E c).xe := PassesOwn.leaving
theorem Fun.okX {x : Str} {st : Stmt} {fd : FuncData} {k : Nat} {sp : Sp} {c : Bool} (F : Fun K x qual st f fd) (S : FnScope N ps (defScope st)) (len : ∀ vs H Q E, sp vs H Q E → vs.length = ps.length)
    (hbody : ∀ (cdv : Value) (A : Around) (outer : List Env) (s : Shared) (H : Hp) (vs : List V) (Q : VK) (E : XK), RoomC c k (A.deeper (envOfC qual (defScope st) s.heap.objs.size f cdv)) → sp vs H Q E →
      ∃ t, PSs (cxE P w K mg base N qual (defScope st) f cdv A outer s H E c) (defBody st) t ∧ t { nx := fun _ H' => Q .non H', rt := Q } (start N vs) H) : FnOk P w K mg base (XC P w) (k + 1) f fd ps sp c := by
  obtain ⟨oc, od, kV, doc, pm, an, cdv, ct, osl, rfl, lk, hcd⟩ := F.ex
  exact fn_of lk hcd S len fun A outer s H vs Q E hr hsp => hbody cdv A outer s H vs Q E hr hsp
end
theorem exc_cls {K : PySem.W.Frag} {h : Heap} {C : Addr} {bmB : List Value} {newId : String} (X : K.In h) (q : PySem.W.excIn K C bmB newId = true) :
    ∃ nm qn N bs bm hdct sn sub ab col dd k0 k1 k2 k3 k5 mN, h.get? C = some (excClassObj nm qn C N bs bm hdct sn sub ab col dd k0 k1 k2 k3 k5 newId) ∧ h.Ns N mN ∧ mN "__init__" = none ∧ OwnTail h bmB bm := by
  unfold PySem.W.excIn at q
  split at q
  · rename_i dd cd sl ho
    split at q
    · rename_i C' bm k0 k1 k2 k3 n k5 hm hs
      simp only [Bool.and_eq_true, beq_iff_eq, Bool.not_eq_true'] at q
      obtain ⟨⟨⟨⟨⟨e1, e2⟩, hdel⟩, ht⟩, hok⟩, hni⟩ := q
      subst e1 e2
      obtain ⟨nm, bs, mro, ns, qn, hd, sn, sub, ab, col, del⟩ := cd
      dsimp only at hm hdel hok hni
      subst hm hdel
      obtain ⟨l⟩ := sl
      have hs' : l = [k0, k1, k2, k3, some (.builtin n), k5] := hs
      subst hs'
      exact ⟨nm, qn, ns, bs, bm, hd, sn, sub, ab, col, dd, k0, k1, k2, k3, k5, _, X _ _ ho, .of_isNs (PySem.W.isNs_of_in X hok), PySem.W.nsMap_none_of_in X hok hni, PySem.W.tail_of_in X ht⟩
    · cases q
  · cases q
abbrev bmV : List Value := [.type "ValueError", .type "Exception", .type "BaseException", .type "object"]
structure Err (K : PySem.W.Frag) (mg : Str → Option Value) (x : Str) (C : Addr) : Prop where
  mg : mg x = some (.ref C)
  ex : PySem.W.excIn K C bmV "ValueError.__new__" = true
def tRaise (C : Addr) (ta : TA) (E : XK) : TS := fun _ σ H => ta σ H fun vs H1 => vs.length ≤ sizeLine ∧ E (.ref C) none H1
theorem ps_raise {X : Cx} {E : XK} {x : Str} {C : Addr} {e : Expr} {es : List Expr} {ta : TA} {np cpos pos : Pos} (hT : Throws X E) (hc : X.calm = true) (R : Err X.K X.mg x C) (hg : Gl X x) (ha : PA X (e :: es) ta)
    (hd : (x == ("__debug__" : Str)) = false := by decide) (he : starEach (e :: es) X.env = (false, eval e X.env) :: starEach es X.env := by rfl) (hpl : (backTo cpos (starEach es X.env)).any (·.1) = false := by rfl) :
    PS X (.Raise (some (.Call (.Name x np) (e :: es) [] cpos)) none pos) (tRaise C ta E) := by
  intro pins s σ H D I h
  obtain ⟨nm, qn, N, bs, bm, hdct, sn, sub, ab, col, dd, k0, k1, k2, k3, k5, mN, hC, hN, hni, T⟩ := exc_cls I.ok.mod.kin R.ex
  refine wpAny_Raise_call_subU (C := C) (nm := nm) (q := qn) (N := N) (bs := bs) (bm := bm) (hdct := hdct) (sn := sn) (sub := sub) (ab := ab) (col := col) (dd := dd) (k0 := k0) (k1 := k1) (k2 := k2) (k3 := k3) (k5 := k5)
    PySem.F.excBase_ValueError (by decide +kernel) PySem.F.excBase_ValueError (mN := mN) (T.hasType (by decide +kernel)) (I.ok.hd hc) (by rw [he]; show (false || (backTo cpos (starEach es X.env)).any (·.1)) = false; rw [hpl]; rfl) hni
    (ld_glob I hg R.mg ⟨rfl, ?_⟩ hd)
  have ha' := ha cpos pins s σ H _ I h
  rw [he] at ha' ⊢
  refine Calls.evalArgs_plain (thn ha' fun us s1 ⟨vs, H1, I1, r, hl, q⟩ => ?_)
  refine ⟨rfl, by rw [← r.length]; exact hl, I1.bk _ _ hC, hN.keeps I1.bk, T.keeps I1.bk, fun h' ea hm => ?_⟩
  exact hT pins σ H1 s1 ea C h' us I1 hm q
end L2
namespace L2
open PySem PySem.Spec PyProof.Rows
theorem comp_turns {prog : Program} {w : World} {A : Around} {R : Result → Shared → Prop} {s : Shared} {elt tg iter : Expr} {ifs : List Expr} {scope : Scope} {pos : Pos} {it acc : Value} {env : Env} (J : Nat → Shared → Prop)
    (turn : ∀ n s, J n s → wpAny (model prog w) A (pyNext it) (fun r s1 => match r with
      | none => R (.ok .next) s1
      | some v => wpAny (model prog w) A (letOwnedTupleGo tg it v) (fun _ s2 => wpAny (model prog w) A (assign tg env v) (fun _ s3 =>
          wpAny (model prog w) A (forIn ifs true fun c r => if r = true then do let ok ← isTrue c env (eval c env); pure (ForInStep.yield ok) else pure (ForInStep.yield r)) (fun ok s4 =>
            if ok = true then wpAny (model prog w) A (eval elt env) (fun x s5 => wpAny (model prog w) A (call (.builtin "list.append") [acc, x]) (fun _ s6 => ∃ m, m < n ∧ J m s6) (fun _ _ => False) s5) (fun _ _ => False) s4
            else ∃ m, m < n ∧ J m s4) (fun _ _ => False) s3) (fun _ _ => False) s2) (fun _ _ => False) s1) (fun _ _ => False) s)
    (n : Nat) (h : J n s) : codeAny (model prog w) A (.compLoop (.ListComp elt [⟨tg, iter, ifs, 0⟩] scope pos) 0 it acc env) R s := by
  refine codeAny_loop rfl J (fun n s hJ => ?_) n h
  show wpAny _ A ((compTurn (.ListComp elt [⟨tg, iter, ifs, 0⟩] scope pos) 0 it acc env).onRaise _) _ _ s
  refine wpAny_noted (wpAny_noRaise ?_)
  rw [compTurn_list]
  refine wpAny_bind (wpAny_standAt (wpAny_bind (thn (turn n s hJ) fun r s1 h1 => ?_)))
  cases r with
  | none => exact wpAny_pure h1
  | some v =>
    refine wpAny_bind (thn h1 fun _ s2 h2 => wpAny_bind (thn h2 fun _ s3 h3 => wpAny_bind (thn h3 fun ok s4 h4 => ?_)))
    cases ok with
    | false => exact wpAny_pure ⟨rfl, h4⟩
    | true => exact wpAny_bind (wpAny_bind (thn h4 fun x s5 h5 => wpAny_bind (thn h5 fun _ s6 h6 => wpAny_pure (wpAny_pure ⟨rfl, h6⟩))))
abbrev Cx.blk (X : Cx) (scope : Scope) (cl : List (Str × Addr)) (C : Addr) (own : List Str) (s : Shared) (H : Hp) (fp : List Addr) (pins : List (Addr × Obj)) : Cx :=
  { X with N := X.N ++ own, env := compEnvC scope cl C X.env, s₀ := s, H₀ := H, outer := X.stack, ex := fp, fn := fun _ => false, pn := X.pn ++ pins, xe := fun _ _ => False }
theorem lookup_relab {env : Env} {x : Str} : ∀ {names : List (Str × NameKind)}, (names.map fun (n, k) => if (k == NameKind.free && env.scope.kind == .function && env.kindOf n == some .cell) then (n, NameKind.cell) else (n, k)).lookup x =
    (names.lookup x).map fun k => if (k == NameKind.free && env.scope.kind == .function && env.kindOf x == some .cell) then NameKind.cell else k
  | [] => rfl
  | (n, k) :: r => by
    have ih := @lookup_relab env x r
    rw [List.map_cons]
    show List.lookup x ((if (k == NameKind.free && env.scope.kind == .function && env.kindOf n == some .cell) = true then (n, NameKind.cell) else (n, k)) :: _) = _
    have e : (if (k == NameKind.free && env.scope.kind == .function && env.kindOf n == some .cell) = true then (n, NameKind.cell) else (n, k)) = (n, if (k == NameKind.free && env.scope.kind == .function && env.kindOf n == some .cell) = true then NameKind.cell else k) := by
      split <;> rfl
    rw [e]
    cases q : x == n with
    | true =>
      obtain rfl : x = n := by simpa using q
      simp [List.lookup_cons]
    | false => simp only [List.lookup_cons, q]; exact ih
structure CompScope (X : Cx) (scope : Scope) (cl : List (Str × Addr)) : Prop where
  clos : closureFor scope X.env = pure cl
  kind : scope.kind = .function
  nocell : ∀ y ∈ scope.names, y.2 ≠ .cell
  names : ∀ y ∈ scope.names, y.2 = .local → scope.names.lookup y.1 = some .local
  sub : ∀ x c, cl.lookup x = some c → X.env.cells.lookup x = some c
  has : ∀ x, scope.names.lookup x = some .free → ∃ c, cl.lookup x = some c
  apart : ∀ x ∈ X.N, scope.names.lookup x ≠ some .local
  outer : ∀ x, scope.names.lookup x = some .free → X.env.kindOf x = some .cell ∨ X.env.kindOf x = some .free
theorem lookup_mem {α β : Type} [BEq α] [LawfulBEq α] {l : List (α × β)} {x : α} {b : β} (h : l.lookup x = some b) : (x, b) ∈ l := by
  induction l with
  | nil => simp at h
  | cons p r ih =>
    obtain ⟨a, c⟩ := p
    rw [List.lookup_cons] at h
    split at h
    · rename_i q
      obtain rfl : x = a := by simpa using q
      cases h; exact .head _
    · exact .tail _ (ih h)
section
variable {X : Cx} {scope : Scope} {cl : List (Str × Addr)} {own : List Str} {pins : List (Addr × Obj)} {σ : St} {H2 H3 : Hp} {s2 : Shared} {fp : List Addr} {C : Addr} {h1 : Heap}
theorem stk_no {b : Addr} (I2 : Inv X pins σ H2 s2) (n1 : b ≠ X.env.locals) (n2 : b ∉ X.fs) : b ∉ frs X.stack := fun z => (List.mem_cons.mp (I2.stkSub b z)).elim n1 n2
theorem blk_in (S : CompScope X scope cl) (I2 : Inv X pins σ H2 s2) (f2 : ∀ b ∈ fp, FpOk X pins H2 b) (hlt : ∀ b ∈ fp, b < s2.heap.objs.size) (hC : s2.heap.objs.size ≤ C) {m : Str → Option Value} (hns : h1.Ns C m)
    (keep : ∀ b o, s2.heap.get? b = some o → h1.get? b = some o) (hH : ∀ b o, s2.heap.get? b = some o → H2 b = none → H3 b = none) (un : Un (frs X.stack) fp H2 H3 s2.heap h1) (hok : HOk X.prog X.w H3 h1) (hCf : H3 C = none) {tk : Nat} :
    Inv (X.blk scope cl C own s2 H2 fp pins) [] (σ ++ List.replicate own.length none) H3 { s2 with heap := h1, toks := tk } := by
  have neC : ∀ b o, s2.heap.get? b = some o → b ≠ C := fun b o e => Nat.ne_of_lt (Nat.lt_of_lt_of_le (Heap.lt_size e) hC)
  have kof : ∀ x, (compEnvC scope cl C X.env).kindOf x = (scope.names.lookup x).map fun k => if (k == NameKind.free && X.env.scope.kind == .function && X.env.kindOf x == some .cell) then NameKind.cell else k := fun x => lookup_relab
  have isfree : ∀ x, ((compEnvC scope cl C X.env).kindOf x = some .cell ∨ (compEnvC scope cl C X.env).kindOf x = some .free) → scope.names.lookup x = some .free := fun x hx => by
    rw [kof x] at hx
    cases q : scope.names.lookup x with
    | none => rw [q] at hx; rcases hx with z | z <;> cases z
    | some k =>
      rw [q] at hx
      have nc := S.nocell _ (lookup_mem q)
      cases k <;> simp_all
  refine ⟨⟨I2.ok.mod, S.kind, I2.ok.glob, I2.ok.blt, hC, fun x y c e1 e2 => I2.ok.inj x y c (S.sub x c e1) (S.sub y c e2), fun x hx => S.has x (isfree x hx), fun x c z _ => (by cases z), I2.ok.hd, I2.ok.frames, .inl rfl,
    fun b hb => ⟨Nat.ne_of_lt (Nat.lt_of_lt_of_le (hlt b hb) hC), fun x c e => (f2 b hb).2.2.2.2.1 x c (S.sub x c e)⟩, fun b o e => ⟨(I2.bs b o e).1, (I2.bs b o e).2⟩, Nat.le_trans I2.ok.bsz I2.sz, fun b o e hb => ?_, fun b hb => stk_no I2 (f2 b hb).2.1 (f2 b hb).2.2.1, I2.stack, I2.stkFree⟩,
    rfl, I2.bare, un, ⟨m, hns, fun i x v e1 e2 e3 => ?_⟩, fun x c e => ?_, hCf, fun x c e => ?_, fun p hp => ?_, hok, ?_, I2.hn.mono un.frzs⟩
  · rcases (f2 b hb).2.2.2.1 with z | z
    · exact I2.ok.noex b o e z
    · exact absurd (Nat.lt_of_lt_of_le (Nat.lt_of_lt_of_le (Heap.lt_size e) I2.ok.bsz) z) (Nat.lt_irrefl _)
  ·
    have hi : i < σ.length := by
      apply Classical.byContradiction
      intro hn
      rw [List.getElem?_append_right (by omega), List.getElem?_replicate] at e2
      split at e2 <;> cases e2
    rw [List.getElem?_append_left hi] at e2
    have hi2 : i < X.N.length := by rw [← I2.len]; exact hi
    have e1' : X.N[i]? = some x := by rw [← List.getElem?_append_left (l₂ := own) hi2]; exact e1
    have hx : x ∈ X.N := List.mem_of_getElem? e1'
    have e3' : (compEnvC scope cl C X.env).kindOf x = some .local ∨ (compEnvC scope cl C X.env).kindOf x = some .cell ∨ (compEnvC scope cl C X.env).kindOf x = some .free := e3
    have nl : (compEnvC scope cl C X.env).kindOf x ≠ some .local := fun z => by
      rw [kof x] at z
      cases q : scope.names.lookup x with
      | none => rw [q] at z; cases z
      | some k =>
        rw [q, Option.map_some] at z
        have na := S.apart x hx
        rw [q] at na
        cases k <;> first
          | exact na rfl
          | (have z' := Option.some.inj z; split at z' <;> cases z')
    have hcf : (compEnvC scope cl C X.env).kindOf x = some .cell ∨ (compEnvC scope cl C X.env).kindOf x = some .free := e3'.resolve_left nl
    obtain ⟨c, hc⟩ := S.has x (isfree x hcf)
    obtain ⟨m0, hn0, hl0⟩ := I2.loc
    have hcX := S.sub x c hc
    have ho := S.outer x (isfree x hcf)
    obtain ⟨u, r, l⟩ := hl0 i x v e1' e2 (.inr ho)
    refine ⟨u, r, .inr ⟨hcf, c, hc, ?_⟩⟩
    rcases l with ⟨z, _⟩ | ⟨_, c', hc', oc, hoc, hdc⟩
    · rcases ho with y | y <;> (rw [y] at z; cases z)
    · rw [hcX] at hc'
      cases hc'
      exact ⟨oc, keep _ _ hoc, hdc⟩
  · obtain ⟨v, ⟨oc, hoc, hdc⟩⟩ := I2.cell x c (S.sub x c e)
    exact ⟨v, oc, keep _ _ hoc, hdc⟩
  · obtain ⟨v, ⟨oc, hoc, hdc⟩⟩ := I2.cell x c (S.sub x c e)
    exact hH c oc hoc (I2.freeC x c (S.sub x c e))
  · obtain ⟨q1, q2, q3, q4, q5⟩ := I2.pin p (by simpa using hp)
    exact ⟨keep _ _ q1, hH _ _ q1 q2, neC _ _ q1, stk_no I2 q3 q4, q5⟩
  · show (σ ++ List.replicate own.length none).length = (X.N ++ own).length
    rw [List.length_append, List.length_append, List.length_replicate, I2.len]
theorem blk_out (I2 : Inv X pins σ H2 s2) (f2 : ∀ b ∈ fp, FpOk X pins H2 b) (hC : s2.heap.objs.size ≤ C) {pl : List (Addr × Obj)} {σ' : St} {s4 : Shared} {h' : Heap} (I4 : Inv (X.blk scope cl C own s2 H2 fp pins) pl σ' H3 s4) (sb : Heap.SameBut C s4.heap h') :
    Inv X pins σ H3 { s4 with heap := h' } := by
  have un : Un (frs X.stack) fp H2 H3 s2.heap s4.heap := I4.base
  have nC : s2.heap.get? C = none := Heap.get?_none_of_le hC
  have CF : C ∉ frs X.stack := fun z => by
    obtain ⟨_, o, ho, _⟩ := I2.stack.mem z
    rw [nC] at ho; cases ho
  have un2 : Un (frs X.stack) fp H2 H3 s2.heap h' := un.late (ch := [C]) (fun b hb => by
    obtain rfl : b = C := by simpa using hb
    exact nC) (fun b o _ hb e => (sb.2 b (by simpa using hb)).trans e) fun b o hb e => ⟨o.slots, (sb.2 b fun z => CF (z ▸ hb)).trans e⟩
  have hf : H3 C = none := I4.free
  have hok : HOk X.prog X.w H3 h' := fun b o e => (I4.hok b o e).stay (fun c u hc q => (sb.2 c fun z => by
    subst z
    rcases hc with z | z
    · rw [z, e] at hf; cases hf
    · rw [z] at hf; cases hf).trans q) (fun _ q => q) fun _ _ q => q
  exact I2.call' (s' := { s4 with heap := h' }) (ch := fp) I4.os un2 hok I4.bare fun b hb => ⟨(f2 b hb).2.2.2.1, (f2 b hb).2.1, (f2 b hb).2.2.2.2.1, (f2 b hb).2.2.2.2.2⟩
end
def PF (X : Cx) (ifs : List Expr) (t : TT) : Prop :=
  ∀ (pins : List (Addr × Obj)) (s : Shared) (σ : St) (H : Hp) (Q : Bool → Hp → Prop), Inv X pins σ H s → t σ H Q →
    wpAny (model X.prog X.w) X.A (forIn ifs true fun c r => if r = true then do let ok ← isTrue c X.env (eval c X.env); pure (ForInStep.yield ok) else pure (ForInStep.yield r)) (TP X pins σ Q) X.xe s
theorem pf_nil {X : Cx} : PF X [] (fun _ H Q => Q true H) := fun _ _ _ H _ I h => wpAny_tests_nil ⟨H, I, h⟩
theorem pf_one {X : Cx} {c : Expr} {t : TT} (h : PT X c t) : PF X [c] t := fun pins s σ H Q I q => wpAny_tests_one (h pins s σ H Q I q)
def compT (k : Nat) (g : TG) (tc : TT) (te : TE) (σ : St) (Q : VK) : It → Hp → Prop := fun J H1 => ∀ D, H1 D = none → ∃ W : Nat → Nat → List V → Hp → Prop, (∃ m, W 0 m [] (upd H1 D (.lst []))) ∧ ∀ i m ys H, W i m ys H →
  H D = some (.lst ys) ∧ ((J.stop i H ∧ Q (.ref D) H) ∨ (J.go i H ∧ ys.length < sizeLine ∧ ∀ x H', J.yld i H x H' → g x (σ ++ List.replicate k none) H' fun σ2 H2 => (∃ zs, σ2 = σ ++ zs ∧ zs.length = k) ∧ tc σ2 H2 fun b H3 =>
    if b = true then te σ2 H3 fun y H4 => H4 D = some (.lst ys) ∧ ∃ m', m' < m ∧ W (i + 1) m' (ys ++ [y]) (upd H4 D (.lst (ys ++ [y]))) else ∃ m', m' < m ∧ W (i + 1) m' ys H3))
def tComp (wi : TI) (k : Nat) (g : TG) (tc : TT) (te : TE) : TE := fun σ H Q => wi σ H (compT k g tc te σ Q)
section
variable {X : Cx} {tg elt iter : Expr} {ifs : List Expr} {scope : Scope} {cl : List (Str × Addr)} {own : List Str} {wi : TI} {g : TG} {tc : TT} {te : TE} {pos : Pos}
theorem comp_core {p2 : Pos} {use : Option (Value → Sem Unit)} {QV : Value → Shared → Prop} {pins : List (Addr × Obj)} {s : Shared} {σ : St} {H : Hp} {Q : VK} (S : CompScope X scope cl) (hi : PI X tg iter wi)
    (hg : ∀ C s H fp pins, PG (X.blk scope cl C own s H fp pins) tg g) (ht : ∀ C s H fp pins, PF (X.blk scope cl C own s H fp pins) ifs tc) (he : ∀ C s H fp pins, PE (X.blk scope cl C own s H fp pins) elt te)
    (hs : ∀ x, foldedSetIterable iter X.env x = pure x) (I : Inv X pins σ H s) (h : tComp wi own.length g tc te σ H Q)
    (fin : ∀ D C s2 H2 H3 s4, Inv X pins σ H2 s2 → s2.heap.objs.size ≤ C → H3 C = none → (∃ m, s4.heap.Ns C m) → (∀ h', Heap.SameBut C s4.heap h' → Inv X pins σ H3 { s4 with heap := h' }) → Q (.ref D) H3 → compPost (model X.prog X.w) X.A X.xe use QV (.ref D) C (.ok .next) s4) :
    wpAny (model X.prog X.w) X.A (comprehension (.ListComp elt [⟨tg, iter, ifs, 0⟩] scope pos) scope X.env p2 (newList []) false (eval iter X.env) use) QV X.xe s := by
  refine wpAny_comprehension_free (use := use) rfl hs S.clos S.kind S.names (thn (hi pins s σ H _ I h) fun v s1 h1 => thn h1 fun itv s2 h2 => ?_)
  obtain ⟨it, fp, tn, J, H2, e, I2, T, st2, f2, R⟩ := h2
  subst e
  obtain ⟨nm, T, hc⟩ := T
  refine wpAny_newObj_type (wpAny_newFunctionEnv S.nocell (by intro y hy; simp at hy) (fun h1 hns hsb => ?_) S.kind)
  dsimp only at hns hsb ⊢
  have hlt : ∀ b ∈ fp, b < s2.heap.objs.size := fun b hb => by
    obtain ⟨o, ho, _⟩ := T.obj 0 _ st2 b hb
    exact Heap.lt_size ho
  generalize hp : s2.heap.push { cls := .type "list", dict := none, data := .seq ([] : List Value).toArray } = hl at hns hsb ⊢
  have hC : hl.objs.size = s2.heap.objs.size + 1 := by rw [← hp, Heap.size_push]
  have hCle : s2.heap.objs.size ≤ hl.objs.size := by rw [hC]; exact Nat.le_succ _
  have hDC : s2.heap.objs.size ≠ hl.objs.size := by rw [hC]; exact Nat.ne_of_lt (Nat.lt_succ_self _)
  have old : ∀ b o, hl.get? b = some o → h1.get? b = some o := fun b o e => hsb.extBut b o (Nat.ne_of_lt (Heap.lt_size e)) (Heap.get?_push_of_some _ e)
  have old2 : ∀ b o, s2.heap.get? b = some o → h1.get? b = some o := fun b o e => old b o (hp ▸ Heap.get?_push_of_some _ e)
  have Dn : H2 s2.heap.objs.size = none := I2.fresh
  have Cn : H2 hl.objs.size = none := I2.hok.fresh hCle
  obtain ⟨W, ⟨m0, w0⟩, step⟩ := R s2.heap.objs.size Dn
  have hobj : h1.get? s2.heap.objs.size = some { cls := .type "list", data := .seq ([] : List Value).toArray } := old _ _ (hp ▸ Heap.get?_push_size _ rfl)
  have I3 : Inv (X.blk scope cl hl.objs.size own s2 H2 fp pins) [] (σ ++ List.replicate own.length none) (upd H2 s2.heap.objs.size (.lst [])) { s2 with heap := h1, toks := s2.toks + ([] : List (Str × Value)).length } :=
    blk_in S I2 f2 hlt hCle hns old2 (fun b o e n => by rw [upd_ne (Nat.ne_of_lt (Heap.lt_size e))]; exact n) (Un.laid old2 (Nat.le_refl _) Dn) (I2.hok.laid old2 (Nat.le_refl _) (show ObjOk X.prog X.w (upd H2 s2.heap.objs.size (.lst [])) h1 s2.heap.objs.size (.lst []) from ⟨Nat.zero_le _, [], 0, .nil, hobj⟩)) (by rw [upd_ne (Ne.symm hDC)]; exact Cn)
  have fpn : ∀ b ∈ fp, upd H2 s2.heap.objs.size (.lst []) b = none := fun b hb => by rw [upd_ne (Nat.ne_of_lt (hlt b hb))]; exact (f2 b hb).1
  have stat : ∀ {H' : Hp}, (∀ b ∈ fp, H' b = none) → ∀ b ∈ fp, FpOk (X.blk scope cl hl.objs.size own s2 H2 fp pins) [] H' b := fun hn b hb =>
    ⟨hn b hb, Nat.ne_of_lt (Nat.lt_of_lt_of_le (hlt b hb) hCle), stk_no I2 (f2 b hb).2.1 (f2 b hb).2.2.1, .inl hb, fun x c e => (f2 b hb).2.2.2.2.1 x c (S.sub x c e), fun p hp => (f2 b hb).2.2.2.2.2 p (by simpa using hp)⟩
  have loop : ∀ s3 : Shared, s3 = { s2 with heap := h1, toks := s2.toks + ([] : List (Str × Value)).length } →
      codeAny (model X.prog X.w) X.A (.compLoop (.ListComp elt [⟨tg, iter, ifs, 0⟩] scope pos) 0 (.ref it) (.ref s2.heap.objs.size) (compEnvC scope cl hl.objs.size X.env)) (compPost (model X.prog X.w) X.A X.xe use QV (.ref s2.heap.objs.size) hl.objs.size) s3 := by
    rintro s3 rfl
    refine comp_turns (fun n s' => ∃ i ys H', Inv (X.blk scope cl hl.objs.size own s2 H2 fp pins) [] (σ ++ List.replicate own.length none) H' s' ∧ tn i s'.heap ∧ (∀ b ∈ fp, H' b = none) ∧ W i n ys H') ?_ m0
      ⟨0, [], _, I3, T.keep 0 _ _ st2 (fun b _ o e => old2 b o e), fpn, w0⟩
    rintro n s3 ⟨i, ys, H3, J3, st3, fr3, w3⟩
    obtain ⟨hD, ⟨stop, q⟩ | ⟨go, hlen, turn⟩⟩ := step i n ys H3 w3
    · refine thn (T.done (X.blk scope cl hl.objs.size own s2 H2 fp pins) rfl rfl rfl hc i [] s3 _ H3 _ J3 (stat fr3) st3 stop) fun r s4 ⟨hr, J4⟩ => ?_
      subst hr
      obtain ⟨m4, hn4, _⟩ := J4.loc
      exact fin _ _ s2 H2 H3 s4 I2 hCle J4.free ⟨m4, hn4⟩ (fun h' sb => blk_out I2 f2 hCle J4 sb) q
    · refine thn (T.item (X.blk scope cl hl.objs.size own s2 H2 fp pins) rfl rfl rfl hc i [] s3 _ H3 _ J3 (stat fr3) st3 go) fun r s4 ⟨u, hr, h4⟩ => ?_
      subst hr
      refine thn h4 fun _ s5 ⟨x, H5, J5, r5, y5, st5, fr5⟩ => ?_
      have J5' := J5.pinned (stat fr5) (T.obj _ _ st5)
      refine thn (hg _ _ _ _ _ _ s5 _ H5 x u _ J5' r5 (turn x H5 y5)) fun _ s6 ⟨σ6, H6, J6, ⟨ts, e6, hts⟩, q6⟩ => ?_
      subst e6
      refine thn (ht _ _ _ _ _ _ s6 _ H6 _ J6 q6) fun ok s7 ⟨H7, J7, q7⟩ => ?_
      have again : ∀ {s8 : Shared} {H8 : Hp} {zs : List V}, Inv (X.blk scope cl hl.objs.size own s2 H2 fp pins) ([] ++ pinsAt fp s5.heap) (σ ++ ts) H8 s8 → (∃ m', m' < n ∧ W (i + 1) m' zs H8) →
          ∃ m, m < n ∧ ∃ i ys H', Inv (X.blk scope cl hl.objs.size own s2 H2 fp pins) [] (σ ++ List.replicate own.length none) H' s8 ∧ tn i s8.heap ∧ (∀ b ∈ fp, H' b = none) ∧ W i m ys H' := fun {s8 H8 zs} J8 ⟨m', hm, w8⟩ => by
        refine ⟨m', hm, i + 1, zs, H8, ?_, T.keep _ _ _ st5 fun b hb o e => (J8.pin (b, o) (List.mem_append_right _ (List.mem_append_right _ (mem_pinsAt hb e)))).1, fun b hb => ?_, w8⟩
        · refine J8.unpinned.weak (by rw [List.length_append, List.length_append, List.length_replicate, hts]) fun j v ej => ?_
          by_cases hj : j < σ.length
          · rw [List.getElem?_append_left hj] at ej ⊢
            exact ej
          · rw [List.getElem?_append_right (by omega), List.getElem?_replicate] at ej
            split at ej <;> cases ej
        · obtain ⟨o, e, d⟩ := T.obj _ _ st5 b hb
          exact (J8.pin (b, o) (List.mem_append_right _ (List.mem_append_right _ (mem_pinsAt hb e)))).2.1
      cases ok with
      | false => exact again J7 q7
      | true =>
        refine thn (he _ _ _ _ _ _ s7 _ H7 _ J7 q7) fun z s8 ⟨y, H8, J8, r8, hD8, q8⟩ => ?_
        refine thn (mt_append _ s8 _ H8 (.ref s2.heap.objs.size) [y] _ [z] (fun _ H9 => ∃ m', m' < n ∧ W (i + 1) m' (ys ++ [y]) H9) J8 rfl (.cons r8 .nil) ⟨_, ys, y, rfl, rfl, hD8, hlen, q8⟩) fun _ s9 ⟨_, H9, J9, _, q9⟩ => again J9 q9
  exact codeAny_compStart_list (loop _ rfl) (T.self _ 0 _ _ _ (T.keep 0 _ _ st2 fun b _ o e => old2 b o e) (loop _ rfl))
theorem pe_comp (S : CompScope X scope cl) (hi : PI X tg iter wi)
    (hg : ∀ C s H fp pins, PG (X.blk scope cl C own s H fp pins) tg g) (ht : ∀ C s H fp pins, PF (X.blk scope cl C own s H fp pins) ifs tc) (he : ∀ C s H fp pins, PE (X.blk scope cl C own s H fp pins) elt te)
    (hs : ∀ x, foldedSetIterable iter X.env x = pure x := by intro _; rfl) : PE X (.ListComp elt [⟨tg, iter, ifs, 0⟩] scope pos) (tComp wi own.length g tc te) := by
  intro pins s σ H Q I h
  rw [eval_ListComp]
  exact comp_core (use := none) (QV := EP X pins σ Q) S hi hg ht he hs I h fun D C s2 H2 H3 s4 _ _ _ hn inv q => hn.elim fun m hn => ⟨m, hn, fun h' sb => ⟨.ref D, H3, inv h' sb, rfl, q⟩⟩
theorem Inv.let_go {pins : List (Addr × Obj)} {σ σ2 : St} {H H2 : Hp} {s s2 : Shared} {C : Addr} {h' : Heap} (I : Inv X pins σ H s) (I2 : Inv X pins σ2 H2 s2) (hC : s2.heap.objs.size ≤ C) (hf : H C = none) (sb : Heap.SameBut C s.heap h') : Inv X pins σ H { s with heap := h' } := by
  have nC : s2.heap.get? C = none := Heap.get?_none_of_le hC
  have CF : C ∉ frs X.stack := fun z => by
    obtain ⟨_, o, ho, _⟩ := I2.stack.mem z
    rw [nC] at ho; cases ho
  have off : ∀ b o, s2.heap.get? b = some o → b ≠ C := fun b o e z => by rw [z, nC] at e; cases e
  have un : Un (frs X.stack) [C] H H s.heap h' := ⟨fun b o q _ _ hx => (sb.2 b fun z => hx (by simp [z])).trans q, fun b o q _ hb _ => ⟨o.slots, (sb.2 b fun z => CF (z ▸ hb)).trans q⟩, fun _ _ _ n _ => n, fun b o q hx => ⟨o, (sb.2 b fun z => hx (by simp [z])).trans q⟩, fun _ _ q => q, fun _ _ _ q => q, fun b ps q => ⟨#[], by rw [Array.append_empty]; exact q⟩⟩
  have hok : HOk X.prog X.w H h' := fun b o e => (I.hok b o e).stay (fun c u hc q => (sb.2 c fun z => by
    subst z
    rcases hc with z | z
    · rw [z, e] at hf; cases hf
    · rw [z] at hf; cases hf).trans q) (fun _ q => q) fun _ _ q => q
  refine I.call' (s' := { s with heap := h' }) (ch := [C]) rfl un hok I.bare fun b hb => ?_
  obtain rfl : b = C := by simpa using hb
  obtain ⟨_, hn, _⟩ := I2.loc
  obtain ⟨_, _, _, hL, _⟩ := hn
  refine ⟨.inr (Nat.le_trans I2.sz hC), fun z => off _ _ hL z.symm, fun x c e => ?_, fun p hp => off _ _ (I2.pin p hp).1⟩
  obtain ⟨_, _, hc, _⟩ := I2.cell x c e
  exact off _ _ hc
theorem ps_setcomp {i : Nat} {x : Str} {pos' spos : Pos} (hN : X.N.Nodup) (hix : X.N[i]? = some x) (hx : Loc X.env.scope x) (S : CompScope X scope cl) (hi : PI X tg iter wi)
    (hg : ∀ C s H fp pins, PG (X.blk scope cl C own s H fp pins) tg g) (ht : ∀ C s H fp pins, PF (X.blk scope cl C own s H fp pins) ifs tc) (he : ∀ C s H fp pins, PE (X.blk scope cl C own s H fp pins) elt te)
    (hs : ∀ x, foldedSetIterable iter X.env x = pure x := by intro _; rfl) (hsw : swapsWith (.ListComp elt [⟨tg, iter, ifs, 0⟩] scope pos) (some (.Name x pos')) spos.line X.env = pure true := by rfl)
    (hf : X.fn x = true ∨ X.env.scope.names.lookup x = some .local := by first | exact .inl rfl | exact .inr rfl | assumption) :
    PS X (.Assign [.Name x pos'] (.ListComp elt [⟨tg, iter, ifs, 0⟩] scope pos) spos) (tAsg (tComp wi own.length g tc te) (gName i)) := by
  intro pins s σ H D I h
  rw [exec_Assign_Name_used _ _ _ _ hsw]
  refine wpAny_bind (wpAny_standAt (wpAny_bind ?_))
  show wpAny _ X.A (do let _ ← comprehension (.ListComp elt [⟨tg, iter, ifs, 0⟩] scope pos) scope X.env _ (newList []) false (eval iter X.env) (some (assign (.Name x pos') X.env))) _ _ s
  refine wpAny_bind (wpAny_mono (comp_core (pos := pos) (use := some (assign (.Name x pos') X.env)) (QV := fun _ s' => SP X pins D .next s') S hi hg ht he hs I h fun Da C s2 H2 H3 s4 I2 hC hfree hn inv q => ?_) (fun _ s' hq => wpAny_pure (wpAny_pure hq)) fun _ _ e => e)
  obtain ⟨m, hn⟩ := hn
  have I4 : Inv X pins σ H3 s4 := inv s4.heap (Heap.SameBut.refl _ _)
  have nC : s2.heap.get? C = none := Heap.get?_none_of_le hC
  refine wpAny_assign_Name (store_ok2 I4 hN hix hx (show RelV (.ref Da) (.ref Da) from rfl) (fun s5 I5 ⟨a, sb, ha⟩ => ⟨m, hn.sameBut sb ?_, fun h' sb' => ⟨_, H3, I5.let_go I2 hC hfree sb', q⟩⟩) hf)
  rintro rfl
  rcases ha with z | z
  · obtain ⟨_, hn2, _⟩ := I2.loc
    obtain ⟨_, _, _, hL, _⟩ := hn2
    rw [← z, nC] at hL; cases hL
  · obtain ⟨_, _, hc, _⟩ := I2.cell x _ z
    rw [nC] at hc; cases hc
end
end L2
namespace L2
open PySem PySem.Spec PyProof.Rows
theorem Inv.track {X : Cx} {pins : List (Addr × Obj)} {σ : St} {H : Hp} {s : Shared} {a : Addr} {o : HO} (I : Inv X pins σ H s) (hn : H a = none) (h0 : X.s₀.heap.get? a = none) (hL : a ≠ X.env.locals)
    (hc : ∀ x c, X.env.cells.lookup x = some c → c ≠ a) (hp : ∀ p ∈ X.pn ++ pins, p.1 ≠ a) (new : ObjOk X.prog X.w (upd H a o) s.heap a o) : Inv X pins σ (upd H a o) s := by
  have ne : ∀ b u, H b = some u → b ≠ a := fun b u e z => by rw [z, hn] at e; cases e
  refine ⟨I.ok, I.os, I.bare, ⟨I.base.keep, I.base.slot, fun b u e n hx => ?_, I.base.there, fun b xs e => ?_, fun b u v e => ?_, fun b ps e => ?_⟩, I.loc, I.cell, ?_, fun x c e => ?_, fun p h => ?_, fun b u e => ?_, I.len, I.hn.mono fun b u v e => by rw [upd_ne (ne b _ e)]; exact e⟩
  · rw [upd_ne (fun z => by rw [z, h0] at e; cases e)]; exact I.base.free b u e n hx
  · have q := I.base.tups b xs e
    rw [upd_ne (ne b _ q)]; exact q
  · have q := I.base.frzs b u v e
    rw [upd_ne (ne b _ q)]; exact q
  · obtain ⟨m, q⟩ := I.base.tbls b ps e
    exact ⟨m, by rw [upd_ne (ne b _ q)]; exact q⟩
  · rw [upd_ne (Ne.symm hL)]; exact I.free
  · rw [upd_ne (hc x c e)]; exact I.freeC x c e
  · obtain ⟨q1, q2, q3⟩ := I.pin p h
    exact ⟨q1, by rw [upd_ne (hp p h)]; exact q2, q3⟩
  · by_cases hb : b = a
    · subst hb; rw [upd_same] at e; cases e; exact new
    · rw [upd_ne hb] at e
      exact (I.hok b u e).stay (fun _ _ _ q => q) (fun c q => by rw [upd_ne (ne c _ q)]; exact q) fun c xs q => by rw [upd_ne (ne c _ q)]; exact q
section
variable {X : Cx} {k : Nat} {f : Addr} {fd : FuncData} {ps : List Str} {sp : Sp} {E : St → XK} {x : Str} {p pos : Pos} {e : Expr} {es : List Expr} {t : TA}
end
section
variable {X : Cx} {pins pl : List (Addr × Obj)} {σ : St} {H : Hp} {s : Shared} {E : Value → Shared → Prop}
end
section
variable {X : Cx} {body : List Stmt} {b0 : Stmt} {suite : List Stmt} {cn n : Str} {np hpos pos : Pos} {C0 : Addr} {i : Nat} {tb : (St → XK) → TS} {th : TS}
end
end L2
namespace L2
open PySem PySem.Spec PyProof.Rows
section
variable {P : Program} {w : World} {K : PySem.W.Frag} {mg : Str → Option Value} {base : Heap} {k : Nat} {x m : Str} {C : Addr} {ps : List Str} {sp : Sp}
structure GoodF (P : Program) (w : World) (K : PySem.W.Frag) (mg : Str → Option Value) (base : Heap) (k : Nat) (x : Str) (ps : List Str) (sp : Sp) (c : Bool := true) : Prop where
  ex : ∃ f fd, FnOk P w K mg base (XC P w) k f fd ps sp c ∧ Binds K fd ps [] ∧ PySem.W.keepIn K (.ref f) = true ∧ mg x = some (.ref f)
structure GoodC (P : Program) (w : World) (K : PySem.W.Frag) (mg : Str → Option Value) (base : Heap) (k : Nat) (x : Str) (C : Addr) (ps : List Str) (sp : Sp) : Prop where
  ex : ∃ f fd, Mk K C f ∧ FnOk P w K mg base (XC P w) k f fd ps sp ∧ Binds K fd ps [] ∧ mg x = some (.ref C)
structure GoodM (P : Program) (w : World) (K : PySem.W.Frag) (mg : Str → Option Value) (base : Heap) (k : Nat) (C : Addr) (m : Str) (ps : List Str) (sp : Sp) : Prop where
  cl : Cls K C
  ex : ∃ f fd, Meth K C m f ∧ FnOk P w K mg base (XC P w) k f fd ps sp ∧ Binds K fd ps []
end
section
variable {X : Cx} {k : Nat} {x m : Str} {C : Addr} {ps : List Str} {sp : Sp} {E : XK} {p pos apos : Pos} {e o : Expr} {es : List Expr} {ta : TE} {t : TA}
theorem pe_callG {cm : Bool} (G : GoodF X.prog X.w X.K X.mg X.base k x ps sp cm) (hr : RoomC cm k X.A) (hx : Passes (XC X.prog X.w) X E) (hg : Gl X x) (ha : PA X (e :: es) t)
    (hdb : (x == ("__debug__" : Str)) = false := by decide) (he : starEach (e :: es) X.env = (false, eval e X.env) :: starEach es X.env := by rfl) (hpl : (backTo pos (starEach es X.env)).any (·.1) = false := by rfl) :
    PE X (.Call (.Name x p) (e :: es) [] pos) (tCall sp [] E t) := by
  obtain ⟨f, fd, F, b, kp, mgx⟩ := G.ex
  exact pe_call F hr hg mgx kp b .nil hx ha hdb he hpl
theorem pe_makeG (G : GoodC X.prog X.w X.K X.mg X.base k x C ps sp) (hr : Room (k + 1) X.A) (hx : Passes (XC X.prog X.w) X E) (hg : Gl X x) (ha : PA X (e :: es) t)
    (hdb : (x == ("__debug__" : Str)) = false := by decide) (he : starEach (e :: es) X.env = (false, eval e X.env) :: starEach es X.env := by rfl) (hpl : (backTo pos (starEach es X.env)).any (·.1) = false := by rfl) :
    PE X (.Call (.Name x p) (e :: es) [] pos) (tMake C sp [] E t) := by
  obtain ⟨f, fd, M, F, b, mgx⟩ := G.ex
  exact pe_make M F hr hg mgx b .nil hx ha hdb he hpl
theorem pe_methG {pl : Sem Bool} (ho : PE X o ta) (G : GoodM X.prog X.w X.K X.mg X.base k C m ps sp) (hr : Room k X.A) (hx : Passes (XC X.prog X.w) X E) (ha : PA X (e :: es) t)
    (hst : starEach (e :: es) X.env = (false, eval e X.env) :: starEach es X.env := by rfl) (hpl : (backTo pos (starEach es X.env)).any (·.1) = false := by rfl)
    (ht : eval (.Call (.Attribute o m apos) (e :: es) [] pos) X.env = (do
      let ov ← eval o X.env
      standAt apos.atName
      let (f, first) ← holding [ov] (getMethod ov m pl)
      callWith pos f first (backTo pos (starEach (e :: es) X.env)) (backToKw pos (keywordEach [] X.env))) := by rfl) :
    PE X (.Call (.Attribute o m apos) (e :: es) [] pos) (tMeth C m sp [] E ta t) := by
  obtain ⟨f, fd, M, F, b⟩ := G.ex
  exact pe_meth ho G.cl M F hr b .nil hx ha hst hpl ht
def rMeth0 (C : Addr) (m : Str) (sp : Sp) (E : XK) : V → Hp → VK → Prop := fun x H Q => ∃ a dx fs, x = .ref a ∧ H a = some (.ins C dx fs) ∧ fs.lookup m = none ∧ sp [x] H Q E
def M0R (X : Cx) (m : Str) (r : V → Hp → VK → Prop) : Prop := ∀ (pins : List (Addr × Obj)) (s : Shared) (σ : St) (H : Hp) (x : V) (u : Value) (Q : VK) (pl : Sem Bool) (pos : Pos), Inv X pins σ H s → RelV x u → r x H Q →
  wpAny (model X.prog X.w) X.A (holding [u] (getMethod u m pl)) (fun fm s1 => wpAny (model X.prog X.w) X.A (callWith pos fm.1 fm.2 (backTo pos (starEach [] X.env)) (backToKw pos (keywordEach [] X.env))) (EP X pins σ Q) X.xe s1) X.xe s
theorem m0_of (G : GoodM X.prog X.w X.K X.mg X.base k C m ps sp) (hr : Room k X.A) (hx : Passes (XC X.prog X.w) X E) : M0R X m (rMeth0 C m sp E) := by
  intro pins s σ H x u Q pl pos I r h
  obtain ⟨f, fd, M, F, b⟩ := G.ex
  obtain ⟨a, dx, fs, rfl, ea, l, q⟩ := h
  obtain rfl : u = Value.ref a := r
  refine wpAny_holding (getmeth_ok I ea G.cl M l ?_)
  exact PySem.W.callWith_K0 (first := [.ref a]) I.kIn M.kp (run_fn (us := [.ref a]) (vs := [.ref a]) F hr b .nil hx I (.cons rfl .nil) q)
def tM0 (r : V → Hp → VK → Prop) (ta : TE) : TE := fun σ H Q => ta σ H fun x H1 => r x H1 Q
theorem pe_meth0G {pl : Sem Bool} {r : V → Hp → VK → Prop} (hr : M0R X m r) (ho : PE X o ta)
    (ht : eval (.Call (.Attribute o m apos) [] [] pos) X.env = (do
      let ov ← eval o X.env
      standAt apos.atName
      let (f, first) ← holding [ov] (getMethod ov m pl)
      callWith pos f first (backTo pos (starEach [] X.env)) (backToKw pos (keywordEach [] X.env))) := by rfl) : PE X (.Call (.Attribute o m apos) [] [] pos) (tM0 r ta) := by
  intro pins s σ H Q I h
  rw [ht]
  refine wpAny_bind (thn (ho pins s σ H _ I h) fun u s1 ⟨x, H1, I1, rx, q⟩ => wpAny_bind (wpAny_standAt (wpAny_bind ?_)))
  exact hr pins s1 σ H1 x u Q pl pos I1 rx q
end
inductive ClsV : V → Value → Prop where
  | ty (n : String) : ClsV (.ty n) (.type n)
  | ref (a : Addr) : ClsV (.ref a) (.ref a)
theorem ClsV.val {c : V} {cv u : Value} (h : ClsV c cv) (r : RelV c u) : u = cv := by cases h <;> exact r
section
variable {X : Cx}
theorem call_isi : CallR X (.builtin "isinstance") (fun xs H Q => ∃ x c t cv b, xs = [x, c] ∧ TyOf X.K H x t ∧ ClsV c cv ∧ PySem.W.kitOne X.K t cv = some b ∧ Q (.bl b) H) := by
  intro pins s σ H xs us Q I r h
  obtain ⟨x, c, t, cv, b, rfl, ty, hc, e, q⟩ := h
  obtain ⟨u, w, rfl, ru, rc⟩ := vals2 r
  obtain rfl := hc.val rc
  exact isinst_ok I ru ty e fun tk => ⟨.bl b, H, I.tok tk, rfl, q⟩
end
theorem Inv.turnedL {X : Cx} {pins : List (Addr × Obj)} {σ : St} {H : Hp} {s : Shared} {h' : Heap} {t' : Nat} {ch : List Addr} (I : Inv X pins σ H s) (fp : ∀ c ∈ ch, FpOk X pins H c) (keep : ∀ c o, c ∉ ch → s.heap.get? c = some o → h'.get? c = some o) :
    Inv X pins σ H { s with heap := h', toks := t' } := by
  have nfp : ∀ c o, H c = some o → c ∉ ch := fun c o e hc => by have := (fp c hc).1; rw [e] at this; cases this
  refine I.step (g' := s.gens) (d' := s.drawn) (ch := ch) (fun c hc => ⟨(fp c hc).2.2.2.1, (fp c hc).2.1, (fp c hc).2.2.2.2.1, (fp c hc).2.2.2.2.2⟩)
    (fun c o _ _ hc e _ => keep c o hc e) (fun c o _ _ hc e _ => ⟨o.slots, keep c o hc e⟩) (fun _ _ _ _ n => n) (fun c o hc e => ⟨o, keep c o hc e⟩) (fun _ _ e => e) (fun _ _ _ e => e) (fun c ps e => ⟨#[], by rw [e]; simp⟩) (fun m hm => ?_) (fun c o e => ?_) I.bare
  · obtain ⟨o, es, ep, ho, r⟩ := hm
    exact ⟨o, es, ep, keep _ o (fun hc => (fp _ hc).2.1 rfl) ho, r⟩
  · refine (I.hok c o e).stay (fun d u hd q => keep d u ?_ q) (fun _ q => q) fun _ _ q => q
    rcases hd with z | z
    · rw [z]; exact nfp c o e
    · exact nfp d _ z
section
variable {X : Cx} {elts : List Expr} {kk : Nat} {tpos : Pos}
end
section
variable {X : Cx} {tg : Expr}
end
end L2
namespace L2
open PySem PySem.Spec PyProof.Rows
theorem b_int : bootBuiltins "int" = some (.type "int") := by decide +kernel
theorem b_bool : bootBuiltins "bool" = some (.type "bool") := by decide +kernel
theorem b_tuple : bootBuiltins "tuple" = some (.type "tuple") := by decide +kernel
theorem b_isinstance : bootBuiltins "isinstance" = some (.builtin "isinstance") := by decide +kernel
theorem b_len : bootBuiltins "len" = some (.builtin "len") := by decide +kernel
section
variable {X : Cx} {tg : Expr}
end
section
variable {X : Cx}
end
theorem cs_nil {X : Cx} {scope : Scope} {N : List Str} (hN : X.N = N) (hk : scope.kind = .function) (h1 : (scope.names.all fun y => y.2 != .free && y.2 != .cell) = true) (h2 : (scope.names.all fun y => y.2 != .local || scope.names.lookup y.1 == some .local) = true)
    (h3 : (N.all fun x => scope.names.lookup x != some .local) = true) : CompScope X scope [] where
  clos := closureFor_none fun y hy => by
    have := List.all_eq_true.mp h1 y hy
    simp only [Bool.and_eq_true, bne_iff_ne] at this
    exact this.1
  kind := hk
  nocell := fun y hy => by
    have := List.all_eq_true.mp h1 y hy
    simp only [Bool.and_eq_true, bne_iff_ne] at this
    exact this.2
  names := fun y hy e => by
    have := List.all_eq_true.mp h2 y hy
    rw [e] at this
    simpa using this
  sub := fun x c e => by cases e
  has := fun x e => by
    have := List.all_eq_true.mp h1 _ (lookup_mem e)
    simp at this
  apart := fun x hx => by
    have := List.all_eq_true.mp h3 x (hN ▸ hx)
    simpa using this
  outer := fun x e => by
    have := List.all_eq_true.mp h1 _ (lookup_mem e)
    simp at this
theorem cs_one {X : Cx} {scope : Scope} {N : List Str} {n : Str} {a : Addr} (hN : X.N = N) (hk : scope.kind = .function) (hcl : closureFor scope X.env = pure [(n, a)]) (hsub : X.env.cells.lookup n = some a) (hout : X.env.kindOf n = some .cell)
    (h1 : (scope.names.all fun y => y.2 != .cell && (y.2 != .free || y.1 == n)) = true) (h2 : (scope.names.all fun y => y.2 != .local || scope.names.lookup y.1 == some .local) = true)
    (h3 : (N.all fun x => scope.names.lookup x != some .local) = true) : CompScope X scope [(n, a)] where
  clos := hcl
  kind := hk
  nocell := fun y hy => by
    have := List.all_eq_true.mp h1 y hy
    simp only [Bool.and_eq_true, bne_iff_ne] at this
    exact this.1
  names := fun y hy e => by
    have := List.all_eq_true.mp h2 y hy
    rw [e] at this
    simpa using this
  sub := fun x c e => by
    rw [List.lookup_cons] at e
    split at e
    · rename_i q
      obtain rfl : x = n := by simpa using q
      cases e; exact hsub
    · cases e
  has := fun x e => by
    have := List.all_eq_true.mp h1 _ (lookup_mem e)
    simp at this
    exact ⟨a, by rw [this]; simp [List.lookup_cons]⟩
  apart := fun x hx => by
    have := List.all_eq_true.mp h3 x (hN ▸ hx)
    simpa using this
  outer := fun x e => by
    have := List.all_eq_true.mp h1 _ (lookup_mem e)
    simp at this
    exact .inl (this ▸ hout)
end L2
namespace L2
open PySem PySem.Spec PyProof.Rows PySem.W
section
variable {prog : Program} {w : World} {A : Around} {E : Value → Shared → Prop} {s : Shared} {K : PySem.W.Frag} {x C : Addr}
end
section
variable {K : PySem.W.Frag} {x C : Addr}
end
section
variable {X : Cx}
theorem refs_of : ∀ {cs : List Addr} {us : List Value}, Vals (cs.map V.ref) us → us = cs.map Value.ref
  | [], _, .nil => rfl
  | _ :: _, _, .cons r t => by cases r; rw [refs_of t]; rfl
theorem ix_tupK {K : PySem.W.Frag} (h : X.K = K) : IxR X (rIxT K) := by
  subst h; exact ix_tup
end
end L2
namespace L2
open PySem PySem.Spec PyProof.Rows PySem.W
section
variable {X : Cx}
end
end L2
namespace L2
open PySem PySem.Spec PyProof.Rows PySem.W
section
variable {X : Cx} {tg : Expr}
end
end L2
namespace L2
open PySem PySem.Spec PyProof.Rows PySem.W
section
variable {X : Cx} {e : Expr} {te : TE} {pos p2 q1 q2 : Pos} {j1 j2 : Nat}
end
end L2
namespace L2
open PySem PySem.Spec PyProof.Rows PySem.W
section
variable {X : Cx}
end
section
variable {X : Cx}
end
end L2
namespace Wd
open PySem L2 PySem.NumText PySem.W
def Lg (n : Int) : Prop := n.natAbs.log2 < 1920
theorem lg_of {n : Int} (h : n.natAbs < 10 ^ 42) : Lg n := by
  unfold Lg
  by_cases z : n.natAbs = 0
  · rw [z]; decide
  · refine (Nat.log2_lt z).mpr (Nat.lt_of_lt_of_le h ?_)
    exact Nat.le_trans (show (10 : Nat) ^ 42 ≤ 2 ^ 200 by decide) (Nat.pow_le_pow_right (by decide) (by decide))
end Wd
namespace L2
open PySem PySem.Spec PyProof.Rows
end L2
namespace L2
open PySem PySem.Spec PyProof.Rows PySem.W
theorem all_same {α : Type} [DecidableEq α] (d : α) (xs ys : List α) : ((List.range (min xs.length ys.length)).all (fun j => decide (xs.getD j d = ys.getD j d)) && xs.length == ys.length) = decide (xs = ys) := by
  rw [Bool.eq_iff_iff, Bool.and_eq_true, List.all_eq_true, decide_eq_true_iff, beq_iff_eq]
  constructor
  · rintro ⟨h, hl⟩
    refine List.ext_getElem hl fun j h1 h2 => ?_
    have := of_decide_eq_true (h j (List.mem_range.mpr (by omega)))
    rwa [List.getD_eq_getElem?_getD, List.getD_eq_getElem?_getD, List.getElem?_eq_getElem h1, List.getElem?_eq_getElem h2] at this
  · rintro rfl
    exact ⟨fun j _ => decide_eq_true rfl, rfl⟩
structure Tups (K : PySem.W.Frag) (H : Hp) (ps : List Addr) (nss : List (List Int)) : Prop where
  len : ps.length = nss.length
  at_ : ∀ (i : Nat) (p : Addr) (ns : List Int), ps[i]? = some p → nss[i]? = some ns → SqT K H p (ns.map V.int)
section
variable {X : Cx} {pins : List (Addr × Obj)} {σ : St} {H : Hp} {s : Shared}
theorem eqAt_ints {A : Around} {its its2 : List Value} {ns ms : List Int} (r1 : Vals (ns.map V.int) its) (r2 : Vals (ms.map V.int) its2) (j : Nat) (h1 : j < its.toArray.size) (h2 : j < its2.toArray.size) :
    SeqAt.EqAt A s its.toArray[j] its2.toArray[j] (decide (ns.getD j 0 = ms.getD j 0)) := by
  have l1 := r1.length
  have l2 := r2.length
  rw [List.length_map] at l1 l2
  rw [List.size_toArray] at h1 h2
  have g1 : j < ns.length := by omega
  have g2 : j < ms.length := by omega
  obtain ⟨u, hu, ru⟩ := r1.get (i := j) (x := V.int ns[j]) (by simp [g1])
  obtain ⟨v, hv, rv⟩ := r2.get (i := j) (x := V.int ms[j]) (by simp [g2])
  obtain ⟨t, rfl⟩ := ru
  obtain ⟨t2, rfl⟩ := rv
  have e1 : its.toArray[j] = .int ns[j] t := by
    rw [List.getElem_toArray]
    exact Option.some.inj ((List.getElem?_eq_getElem h1).symm.trans hu)
  have e2 : its2.toArray[j] = .int ms[j] t2 := by
    rw [List.getElem_toArray]
    exact Option.some.inj ((List.getElem?_eq_getElem h2).symm.trans hv)
  rw [e1, e2]
  have e3 : (ns[j] == ms[j]) = decide (ns.getD j 0 = ms.getD j 0) := by
    rw [List.getD_eq_getElem?_getD, List.getD_eq_getElem?_getD, List.getElem?_eq_getElem g1, List.getElem?_eq_getElem g2]
    rw [Bool.eq_iff_iff, beq_iff_eq, decide_eq_true_iff]; rfl
  rw [← e3]
  exact SeqAt.EqAt.int_int _ _ _ _
theorem tups_bool {its its2 : List Value} {ns ms : List Int} (r1 : Vals (ns.map V.int) its) (r2 : Vals (ms.map V.int) its2) :
    ((List.range (min its.toArray.size its2.toArray.size)).all (fun j => decide (ns.getD j 0 = ms.getD j 0)) && its.toArray.size == its2.toArray.size) = decide (ns = ms) := by
  have l1 := r1.length
  have l2 := r2.length
  rw [List.length_map] at l1 l2
  rw [List.size_toArray, List.size_toArray, ← l1, ← l2]
  exact all_same 0 ns ms
theorem eqAt_tup (I : Inv X pins σ H s) {A : Around} {a b : Addr} {ns ms : List Int} (hu : A.units < cLine) (ha : SqT X.K H a (ns.map V.int)) (hb : SqT X.K H b (ms.map V.int)) : SeqAt.EqAt A s (.ref a) (.ref b) (decide (ns = ms)) := by
  by_cases hab : a = b
  · subst hab
    have e := I.tuple_inj ha hb
    have e2 : ns = ms := (List.map_inj_right (f := V.int) fun x y h => V.int.inj h).mp e
    rw [decide_eq_true e2]
    exact SeqAt.EqAt.same _
  · obtain ⟨its, r1, p1, _⟩ := I.tuple ha
    obtain ⟨its2, r2, p2, _⟩ := I.tuple hb
    rw [← tups_bool r1 r2]
    exact SeqAt.EqAt.of_refs hab (SeqAt.RcAt.tuples p1 p2 hu fun j h1 h2 => eqAt_ints r1 r2 j h1 h2)
theorem op_neT (hu : X.A.units < cLine) : OpR X (compareOp .NotEq) (fun x y H Q => ∃ (a b : Addr) (ns ms : List Int), x = .ref a ∧ y = .ref b ∧ SqT X.K H a (ns.map V.int) ∧ SqT X.K H b (ms.map V.int) ∧ Q (.bl (!decide (ns = ms))) H) := by
  intro pins s σ H x y v u Q I rx ry h
  obtain ⟨a, b, ns, ms, rfl, rfl, ha, hb, q⟩ := h
  cases rx
  cases ry
  obtain ⟨its, r1, p1, _⟩ := I.tuple ha
  obtain ⟨its2, r2, p2, _⟩ := I.tuple hb
  rw [← tups_bool r1 r2] at q
  exact EqBoolInt.of_rcne (SeqAt.RcNeAt.tuples p1 p2 hu fun j h1 h2 => eqAt_ints r1 r2 j h1 h2) ⟨.bl _, H, I, rfl, q⟩
theorem eqAt_refs (I : Inv X pins σ H s) {A : Around} {its its2 : List Value} {ps qs : List Addr} {nss mss : List (List Int)} (hu : A.units < cLine) (T1 : Tups X.K H ps nss) (T2 : Tups X.K H qs mss) (r1 : Vals (ps.map V.ref) its) (r2 : Vals (qs.map V.ref) its2) (j : Nat) (h1 : j < its.toArray.size) (h2 : j < its2.toArray.size) :
    SeqAt.EqAt A s its.toArray[j] its2.toArray[j] (decide (nss.getD j [] = mss.getD j [])) := by
  have e1 := refs_of r1
  have e2 := refs_of r2
  subst e1 e2
  rw [List.size_toArray, List.length_map] at h1 h2
  have g1 : j < nss.length := by rw [← T1.len]; exact h1
  have g2 : j < mss.length := by rw [← T2.len]; exact h2
  rw [List.getElem_toArray, List.getElem_toArray, List.getElem_map, List.getElem_map, List.getD_eq_getElem?_getD, List.getD_eq_getElem?_getD, List.getElem?_eq_getElem g1, List.getElem?_eq_getElem g2]
  exact eqAt_tup I hu (T1.at_ j _ _ (List.getElem?_eq_getElem h1) (List.getElem?_eq_getElem g1)) (T2.at_ j _ _ (List.getElem?_eq_getElem h2) (List.getElem?_eq_getElem g2))
theorem lists_bool {its its2 : List Value} {ps qs : List Addr} {nss mss : List (List Int)} (l1 : ps.length = nss.length) (l2 : qs.length = mss.length) (r1 : Vals (ps.map V.ref) its) (r2 : Vals (qs.map V.ref) its2) (hz : its.toArray.size = its2.toArray.size) :
    (List.range its.toArray.size).all (fun j => decide (nss.getD j [] = mss.getD j [])) = decide (nss = mss) := by
  have e1 := r1.length
  have e2 := r2.length
  rw [List.length_map] at e1 e2
  rw [List.size_toArray] at hz ⊢
  rw [List.size_toArray] at hz
  rw [← all_same [] nss mss, show min nss.length mss.length = its.length by omega, show (nss.length == mss.length) = true by rw [beq_iff_eq]; omega, Bool.and_true]
theorem op_neLT (hu : X.A.units + 64 < cLine) : OpR X (compareOp .NotEq) (fun x y H Q => ∃ a b ps qs nss mss, x = .ref a ∧ y = .ref b ∧ SqL X.K H a (ps.map V.ref) ∧ SqL X.K H b (qs.map V.ref) ∧ Tups X.K H ps nss ∧ Tups X.K H qs mss ∧ Q (.bl (!decide (nss = mss))) H) := by
  intro pins s σ H x y v u Q I rx ry h
  obtain ⟨a, b, ps, qs, nss, mss, rfl, rfl, ha, hb, T1, T2, q⟩ := h
  cases rx
  cases ry
  obtain ⟨its, r1, p1, _⟩ := I.list ha
  obtain ⟨its2, r2, p2, _⟩ := I.list hb
  have hu1 : X.A.units < cLine := by omega
  have hu2 : X.A.in1.units < cLine := by show X.A.units + 1 < cLine; omega
  by_cases hz : its.toArray.size = its2.toArray.size
  · rw [← lists_bool T1.len T2.len r1 r2 hz] at q
    exact EqBoolInt.of_rcne (SeqAt.RcNeAt.lists p1.isList p2.isList hz hu1 fun j h1 h2 => eqAt_refs I hu2 T1 T2 r1 r2 j h1 h2) ⟨.bl _, H, I, rfl, q⟩
  · have hne : nss ≠ mss := fun e => by
      have e1 := r1.length
      have e2 := r2.length
      rw [List.length_map] at e1 e2
      rw [List.size_toArray, List.size_toArray] at hz
      have := T1.len
      have := T2.len
      rw [e] at *
      omega
    rw [decide_eq_false hne] at q
    exact EqBoolInt.of_rcne (SeqAt.RcNeAt.lists_lengths p1.isList p2.isList (bne_iff_ne.mpr hz) hu1) ⟨.bl true, H, I, rfl, q⟩
theorem op_eqLT (hu : X.A.units + 64 < cLine) : OpR X (compareOp .Eq) (fun x y H Q => ∃ a b ps qs nss mss, x = .ref a ∧ y = .ref b ∧ SqL X.K H a (ps.map V.ref) ∧ SqL X.K H b (qs.map V.ref) ∧ Tups X.K H ps nss ∧ Tups X.K H qs mss ∧ Q (.bl (decide (nss = mss))) H) := by
  intro pins s σ H x y v u Q I rx ry h
  obtain ⟨a, b, ps, qs, nss, mss, rfl, rfl, ha, hb, T1, T2, q⟩ := h
  cases rx
  cases ry
  obtain ⟨its, r1, p1, _⟩ := I.list ha
  obtain ⟨its2, r2, p2, _⟩ := I.list hb
  have hu1 : X.A.units < cLine := by omega
  have hu2 : X.A.in1.units < cLine := by show X.A.units + 1 < cLine; omega
  by_cases hz : its.toArray.size = its2.toArray.size
  · rw [← lists_bool T1.len T2.len r1 r2 hz] at q
    exact EqBoolInt.of_rc (SeqAt.RcAt.lists p1.isList p2.isList hz hu1 fun j h1 h2 => eqAt_refs I hu2 T1 T2 r1 r2 j h1 h2) ⟨.bl _, H, I, rfl, q⟩
  · have hne : nss ≠ mss := fun e => by
      have e1 := r1.length
      have e2 := r2.length
      rw [List.length_map] at e1 e2
      rw [List.size_toArray, List.size_toArray] at hz
      have := T1.len
      have := T2.len
      rw [e] at *
      omega
    rw [decide_eq_false hne] at q
    exact EqBoolInt.of_rc (SeqAt.RcAt.lists_lengths p1.isList p2.isList (bne_iff_ne.mpr hz) hu1) ⟨.bl false, H, I, rfl, q⟩
def Fmt (x : V) : Prop := (∃ n, x = .int n ∧ n.natAbs.log2 < 1920) ∨ ∃ z, x = .str z ∧ z.length ≤ 2000
theorem fmt_ok {prog : Program} {w : World} {A : Around} {E : Value → Shared → Prop} {Q : Value → Shared → Prop} {x : V} {v : Value} (r : RelV x v) (F : Fmt x) (k : ∀ (y : Str) (t : Tok) (tk : Nat), y.length ≤ 2000 → Q (.str y t) { s with toks := tk }) : wpAny (model prog w) A (formatField v Str.empty) Q E s := by
  rcases F with ⟨n, rfl, hd⟩ | ⟨z, rfl, hz⟩
  · obtain ⟨t, rfl⟩ := r
    exact formatField_int_small hd (k _ _ _ (Nat.le_trans (int_text_len_1921 hd) (by decide)))
  · obtain ⟨t, rfl⟩ := r
    exact formatField_str (fun t' tk => k _ _ _ hz) (Nat.le_trans hz (by decide))
end
theorem comp_list {K : PySem.W.Frag} {a : Addr} {xs : List V} {g : TG} {tc : TT} {te : TE} {k : Nat} {σ : St} {H : Hp} {Q : VK} (Pv : Addr → Nat → List V → Hp → Prop) (hz : xs.length ≤ sizeLine)
    (h0 : ∀ D, H D = none → Pv D 0 [] (upd H D (.lst []))) (hD : ∀ D i ys H', Pv D i ys H' → H' D = some (.lst ys) ∧ ys.length ≤ i ∧ SqL K H' a xs)
    (step : ∀ D i x ys H' (Qy : VK) (Qn : Hp → Prop), xs[i]? = some x → Pv D i ys H' → (∀ y H4, H4 D = some (.lst ys) → Pv D (i + 1) (ys ++ [y]) (upd H4 D (.lst (ys ++ [y]))) → Qy y H4) → (∀ H4, Pv D (i + 1) ys H4 → Qn H4) →
      g x (σ ++ List.replicate k none) H' fun σ2 H2 => (∃ zs, σ2 = σ ++ zs ∧ zs.length = k) ∧ tc σ2 H2 fun b H3 => if b = true then te σ2 H3 Qy else Qn H3)
    (q : ∀ D ys H', H D = none → Pv D xs.length ys H' → Q (.ref D) H') : compT k g tc te σ Q (Itl K a) H := by
  intro D hDn
  refine ⟨fun i m ys H' => m = xs.length - i ∧ i ≤ xs.length ∧ Pv D i ys H', ⟨xs.length, by simp, Nat.zero_le _, h0 D hDn⟩, ?_⟩
  rintro i m ys H' ⟨rfl, hi, p⟩
  obtain ⟨e, hl, q1⟩ := hD D i ys H' p
  refine ⟨e, ?_⟩
  by_cases hlt : i < xs.length
  · refine .inr ⟨⟨xs, xs[i], q1, by simp [hlt]⟩, by omega, fun x H2 y => ?_⟩
    obtain ⟨rfl, y⟩ := y
    exact step D i x ys H2 _ _ (y xs q1) p (fun y H4 e4 p4 => ⟨e4, xs.length - (i + 1), by omega, rfl, hlt, p4⟩) fun H4 p4 => ⟨xs.length - (i + 1), by omega, rfl, hlt, p4⟩
  · obtain rfl : i = xs.length := by omega
    exact .inl ⟨⟨xs, q1, Nat.le_refl _⟩, q D ys H' hDn p⟩
section
variable {X : Cx} {K : PySem.W.Frag}
end
end L2
namespace Wd
open PySem L2 PySem.NumText PySem.W
end Wd
namespace L2
open PySem PySem.Spec PyProof.Rows
section
variable {M : Model} {A : Around} {E : Value → Shared → Prop} {s : Shared} {base : Heap} {env : Env} {outer : List Env} {L e : Addr} {cls : Value} {a0 : Value × Value}
end
section
variable {X : Cx} {pins : List (Addr × Obj)} {σ : St} {H H' : Hp} {s s' : Shared} {ea C : Addr} {a0 : Value × Value} {h' : Heap} {ch fp : List Addr}
end
section
variable {P : Program} {w : World} {K : PySem.W.Frag} {mg : Str → Option Value} {base : Heap} {N ps : List Str} {qual : Str} {scope : Scope} {f : Addr} {cd : Value} {A : Around} {outer : List Env} {s : Shared} {H : Hp} {E : XK}
end
section
variable {X : Cx} {scope : Scope} {cl : List (Str × Addr)} {own : List Str} {pins pn pl : List (Addr × Obj)} {σ : St} {H H2 : Hp} {s s2 : Shared} {fp : List Addr} {C : Addr} {xe : Value → Shared → Prop}
end
section
variable {X : Cx} {tg elt iter : Expr} {ifs : List Expr} {scope : Scope} {cl : List (Str × Addr)} {own : List Str} {wi : TI} {g : TG} {tc : TT} {te : TE} {pos : Pos}
end
end L2
namespace L2
open PySem PySem.Spec PyProof.Rows
section
variable {prog : Program} {w : World} {A : Around} {E : Value → Shared → Prop} {s : Shared} {z TI TO i1 i2 i3 l1 l2 l3 : Addr} {xs ys zs : Array Value} {k : Nat}
end
section
variable {X : Cx} {elts : List Expr} {kk : Nat} {tpos : Pos}
end
end L2
namespace L2
open PySem PySem.Spec PyProof.Rows
section
variable {X : Cx} {body : List Stmt} {b0 : Stmt} {suite : List Stmt} {cn : Str} {np hpos pos : Pos} {C0 : Addr} {tb : XK → TS} {th : TS}
end
section
variable {prog : Program} {w : World} {A : Around} {E : Value → Shared → Prop} {s : Shared}
end
section
variable {X : Cx}
end
end L2
namespace L2
open PySem PySem.Spec PyProof.Rows
section
variable {X : Cx} {scope : Scope} {cl : List (Str × Addr)} {own N0 : List Str} {pins : List (Addr × Obj)} {σ : St} {H2 H3 : Hp} {s2 : Shared} {fp : List Addr} {C : Addr} {h1 : Heap}
end
section
variable {X : Cx} {tg elt iter : Expr} {ifs : List Expr} {scope : Scope} {cl : List (Str × Addr)} {own N0 : List Str} {wi : TI} {g : TG} {tc : TT} {te : TE} {pos : Pos}
end
end L2
namespace L2
open PySem PySem.Spec PyProof.Rows
section
variable {κ : Type} [DecidableEq κ]
def valV (kvs : List (κ × V)) (k : κ) : Option V := (kvs.find? fun kv => decide (kv.1 = k)).map (·.2)
def putK (kvs : List (κ × V)) (k : κ) (v : V) : List (κ × V) :=
  if (kvs.any fun kv => decide (kv.1 = k)) = true then kvs.map (fun kv => if kv.1 = k then (kv.1, v) else kv) else kvs ++ [(k, v)]
def dropK (kvs : List (κ × V)) (k : κ) : List (κ × V) := kvs.filter fun kv => decide (kv.1 ≠ k)
theorem valV_pos {p : κ × V} {r : List (κ × V)} {k : κ} (e : p.1 = k) : valV (p :: r) k = some p.2 := by simp [valV, List.find?_cons, e]
theorem valV_neg {p : κ × V} {r : List (κ × V)} {k : κ} (e : ¬ p.1 = k) : valV (p :: r) k = valV r k := by simp [valV, List.find?_cons, e]
theorem valV_any (k : κ) : ∀ kvs : List (κ × V), (kvs.any fun kv => decide (kv.1 = k)) = (valV kvs k).isSome
  | [] => rfl
  | p :: r => by
    rw [List.any_cons]
    by_cases e : p.1 = k
    · simp only [valV_pos e, decide_eq_true e, Bool.true_or, Option.isSome_some]
    · rw [valV_neg e, decide_eq_false e, Bool.false_or]; exact valV_any k r
theorem length_putK (kvs : List (κ × V)) (k : κ) (v : V) : (putK kvs k v).length ≤ kvs.length + 1 := by
  unfold putK
  split
  · rw [List.length_map]; omega
  · rw [List.length_append, List.length_cons, List.length_nil]; omega
theorem putK_new {kvs : List (κ × V)} {k : κ} (v : V) (h : valV kvs k = none) : putK kvs k v = kvs ++ [(k, v)] := by
  unfold putK
  rw [valV_any, h]
  exact if_neg (by decide)
theorem RelO.isSome_eq {o : Option V} {u : Option Value} (r : RelO o u) : o.isSome = u.isSome := by
  cases o with
  | none => cases u with
    | none => rfl
    | some _ => exact (show False from r).elim
  | some _ => cases u with
    | none => exact (show False from r).elim
    | some _ => rfl
theorem KV.any {kvs : List (κ × V)} {vs : List (κ × Value)} (r : KV kvs vs) (k : κ) : (kvs.any fun kv => decide (kv.1 = k)) = vs.any fun kv => decide (kv.1 = k) := by
  unfold KV at r
  induction r with
  | nil => rfl
  | cons h t ih => rw [List.any_cons, List.any_cons, ih, h.1]
theorem KV.repl {kvs : List (κ × V)} {vs : List (κ × Value)} (r : KV kvs vs) (k : κ) {y : V} {u : Value} (ry : RelV y u) :
    KV (kvs.map fun kv => if kv.1 = k then (kv.1, y) else kv) (vs.map fun kv => if kv.1 = k then (kv.1, u) else kv) := by
  unfold KV at r ⊢
  induction r with
  | nil => exact .nil
  | @cons p q ps qs h t ih =>
    rw [List.map_cons, List.map_cons]
    refine .cons ?_ ih
    obtain ⟨h1, h2⟩ := h
    by_cases e : p.1 = k
    · rw [if_pos e, if_pos (h1.symm.trans e)]; exact ⟨h1, ry⟩
    · rw [if_neg e, if_neg (fun z => e (h1.trans z))]; exact ⟨h1, h2⟩
theorem KV.put {kvs : List (κ × V)} {vs : List (κ × Value)} (r : KV kvs vs) (k : κ) {y : V} {u : Value} (ry : RelV y u) : KV (putK kvs k y) (stored vs k u) := by
  unfold putK stored
  rw [r.any k]
  by_cases e : (vs.any fun kv => decide (kv.1 = k)) = true
  · rw [if_pos e, if_pos e]; exact r.repl k ry
  · rw [if_neg e, if_neg e]; exact Paired.snoc r ⟨rfl, ry⟩
theorem KV.length {kvs : List (κ × V)} {vs : List (κ × Value)} (r : KV kvs vs) : kvs.length = vs.length := Paired.length r
end
theorem kV_is {P : Program} {w : World} {k : Key} {u : Value} (r : RelV (kV k) u) : (mixKind P w).is k u = true := by
  cases k with
  | inl i => obtain ⟨t, e⟩ := (show ∃ t, u = Value.int i t from r); subst e; exact mixKind_int P w i t
  | inr x => obtain ⟨t, e⟩ := (show ∃ t, u = Value.str x t from r); subst e; exact mixKind_str P w x t
theorem items_are {P : Program} {w : World} : ∀ {ks : List Key} {us : List Value}, Vals (ks.map kV) us → ItemsAre (mixKind P w) ks us
  | [], _, r => by rw [List.map_nil] at r; cases r; exact .nil
  | k :: ks, _, r => by
    rw [List.map_cons] at r
    cases r with
    | cons h t => exact .cons (kV_is h) (items_are t)
abbrev KT (H : Hp) : List (List Key × V) → List (List Key × Addr × Value) → Prop := Paired fun p q => p.1 = q.1 ∧ H q.2.1 = some (.tup (p.1.map kV)) ∧ RelV p.2 q.2.2
theorem KT.val {H : Hp} {kvs : List (List Key × V)} {xs : List (List Key × Addr × Value)} (r : KT H kvs xs) (k : List Key) : RelO (valV kvs k) ((atKey xs k).map (·.2)) := by
  induction r with
  | nil => exact True.intro
  | @cons p q ps qs h t ih =>
    obtain ⟨h1, _, h2⟩ := h
    by_cases e : p.1 = k
    · have e' : q.1 = k := h1.symm.trans e
      have b : atKey (q :: qs) k = some q.2 := by simp [atKey, List.find?_cons, e']
      rw [valV_pos e, b]; exact h2
    · have e' : ¬ q.1 = k := fun z => e (h1.trans z)
      have b : atKey (q :: qs) k = atKey qs k := by simp [atKey, List.find?_cons, e']
      rw [valV_neg e, b]; exact ih
theorem KT.repl {H : Hp} {kvs : List (List Key × V)} {xs : List (List Key × Addr × Value)} (r : KT H kvs xs) (k : List Key) {y : V} {u : Value} (ry : RelV y u) :
    KT H (kvs.map fun kv => if kv.1 = k then (kv.1, y) else kv) (xs.map (putAt k u)) := by
  induction r with
  | nil => exact .nil
  | @cons p q ps qs h t ih =>
    rw [List.map_cons, List.map_cons]
    refine .cons ?_ ih
    obtain ⟨h1, h2, h3⟩ := h
    unfold putAt
    by_cases e : p.1 = k
    · rw [if_pos e, if_pos (h1.symm.trans e)]; exact ⟨h1, h2, ry⟩
    · rw [if_neg e, if_neg (fun z => e (h1.trans z))]; exact ⟨h1, h2, h3⟩
theorem KT.put {H : Hp} {kvs : List (List Key × V)} {xs : List (List Key × Addr × Value)} (r : KT H kvs xs) (k : List Key) {b : Addr} {y : V} {u : Value} (hb : H b = some (.tup (k.map kV))) (ry : RelV y u) :
    KT H (putK kvs k y) (storedH xs k b u) := by
  have e : (kvs.any fun kv => decide (kv.1 = k)) = (atKey xs k).isSome := by
    rw [valV_any, (r.val k).isSome_eq, Option.isSome_map]
  unfold putK storedH
  rw [e]
  by_cases q : (atKey xs k).isSome = true
  · rw [if_pos q, if_pos q]; exact r.repl k ry
  · rw [if_neg q, if_neg q]; exact Paired.snoc r ⟨rfl, hb, ry⟩
theorem KT.keeps {H H' : Hp} {kvs : List (List Key × V)} {xs : List (List Key × Addr × Value)} (r : KT H kvs xs) (ht : ∀ b ys, H b = some (.tup ys) → H' b = some (.tup ys)) : KT H' kvs xs :=
  Paired.mapP r fun _ _ z => ⟨z.1, ht _ _ z.2.1, z.2.2⟩
section
variable {P : Program} {w : World} {H : Hp} {h : Heap} {a : Addr}
theorem rd_of {u : HO} (ok : HOk P w H h) (e : Rd H a u) : ObjOk P w H h a u := e.ok ok
theorem dk_rd {kvs : List (Key × V)} (ok : HOk P w H h) (e : Rd H a (.dK kvs)) : kvs.length ≤ sizeLine ∧ (a == sysModules) = false ∧ ∃ vs, KV kvs vs ∧ h.DictOf (mixKind P w) a vs :=
  show ObjOk P w H h a (.dK kvs) from rd_of ok e
theorem dk_of {kvs : List (Key × V)} (ok : HOk P w H h) (e : H a = some (.dK kvs)) : kvs.length ≤ sizeLine ∧ (a == sysModules) = false ∧ ∃ vs, KV kvs vs ∧ h.DictOf (mixKind P w) a vs := dk_rd ok (.inl e)
theorem key_of {ks : List Key} (ok : HOk P w H h) (e : H a = some (.tup (ks.map kV))) : (tupleKind (mixKind P w)).is h ks a := by
  obtain ⟨_, its, r, o, h1, h2, n, h3⟩ := (show ObjOk P w H h a (.tup (ks.map kV)) from ok a _ e)
  exact ⟨o, its.toArray, n, h1, h2, h3, by simpa using items_are r⟩
theorem dt_rd {kvs : List (List Key × V)} (ok : HOk P w H h) (e : Rd H a (.dT kvs)) : kvs.length ≤ sizeLine ∧ (a == sysModules) = false ∧
    ∃ xs, KT H kvs xs ∧ h.DictOfH (tupleKind (mixKind P w)) a xs := by
  obtain ⟨z, y, xs, r, o, es, ep, h1, h2, h3, h4, h5⟩ := (show ObjOk P w H h a (.dT kvs) from rd_of ok e)
  refine ⟨z, y, xs, r, o, es, ep, h1, h2, h3, h4, fun x hx => ?_, h5⟩
  have all : ∀ {l : List (List Key × V)} {m : List (List Key × Addr × Value)}, KT H l m → ∀ x ∈ m, (tupleKind (mixKind P w)).is h x.1 x.2.1 := by
    intro l m q
    induction q with
    | nil => intro x hx; exact nomatch hx
    | @cons p q ps qs hq t ih =>
      intro x hx
      rcases List.mem_cons.mp hx with e | hx
      · subst e
        exact key_of ok (by rw [← hq.1]; exact hq.2.1)
      · exact ih x hx
  exact all r x hx
theorem dt_of {kvs : List (List Key × V)} (ok : HOk P w H h) (e : H a = some (.dT kvs)) : kvs.length ≤ sizeLine ∧ (a == sysModules) = false ∧
    ∃ xs, KT H kvs xs ∧ h.DictOfH (tupleKind (mixKind P w)) a xs := dt_rd ok (.inl e)
end
def DPut (H : Hp) (a : Addr) (y v : V) (H' : Hp) : Prop :=
  (∃ kvs k, H a = some (.dK kvs) ∧ y = kV k ∧ kvs.length < sizeLine ∧ H' = upd H a (.dK (putK kvs k v))) ∨
  ∃ kvs k b, H a = some (.dT kvs) ∧ y = .ref b ∧ H b = some (.tup (k.map kV)) ∧ kvs.length < sizeLine ∧ H' = upd H a (.dT (putK kvs k v))
theorem DPut.t {H : Hp} {a b : Addr} {kvs : List (List Key × V)} {k : List Key} {v : V} (e : H a = some (.dT kvs)) (eb : H b = some (.tup (k.map kV))) (hl : kvs.length < sizeLine) :
    DPut H a (.ref b) v (upd H a (.dT (putK kvs k v))) := .inr ⟨kvs, k, b, e, rfl, eb, hl, rfl⟩
section
variable {X : Cx} {pins : List (Addr × Obj)} {σ : St} {H : Hp} {s : Shared} {a : Addr} {y v : V} {u r : Value} {o : Option V} {A : Around} {E : Value → Shared → Prop}
theorem Inv.big (I : Inv X pins σ H s) : sysModules < s.heap.objs.size := by
  have h : mainGlobals < s.heap.objs.size := (I.mod.glob.keeps I.bk).lt
  exact Nat.lt_trans (by decide) h
theorem d_write {h' : Heap} {t' : Nat} {ob : HO} (I : Inv X pins σ H s) (mu : Mut (H a)) (hs : Heap.SameBut a s.heap h') (he : ∃ q, h'.get? a = some q) (new : ObjOk X.prog X.w (upd H a ob) h' a ob) :
    Inv X pins σ (upd H a ob) { s with heap := h', toks := t' } :=
  I.write (x := a) (e := a) mu (.inl rfl) (fun b q hb z => (hs.2 b hb).trans z) he new
theorem dk_new {P : Program} {w : World} {H' : Hp} {h' : Heap} {kvs : List (Key × V)} {vs : List (Key × Value)} (z : kvs.length ≤ sizeLine) (hd : (a == sysModules) = false) (rel : KV kvs vs) (dd : h'.DictOf (mixKind P w) a vs) :
    ObjOk P w H' h' a (.dK kvs) := ⟨z, hd, vs, rel, dd⟩
theorem d_setItem {H' : Hp} {Q : Unit → Shared → Prop} (hu : A.units + 1 < cLine) (I : Inv X pins σ H s) (g : DPut H a y v H') (ry : RelV y u) (rv : RelV v r) (h : ∀ s', Inv X pins σ H' s' → Q () s') :
    wpAny (model X.prog X.w) A (setItem (.ref a) u r) Q E s := by
  rcases g with ⟨kvs, k, e, ey, l, eH⟩ | ⟨kvs, k, b, e, ey, eb, l, eH⟩
  · subst ey eH
    obtain ⟨z, hd, vs, rel, dd⟩ := dk_of I.hok e
    have hz : vs.length ≤ sizeLine := by rw [← rel.length]; exact z
    have hl : (putK kvs k v).length ≤ sizeLine := by have := length_putK kvs k v; omega
    refine wpAny_setItem_pairs (hsz := hz) (kV_is ry) dd fun h' dd' hs => h _ ?_
    have he : ∃ q, h'.get? a = some q := let ⟨q, _, _, hq, _⟩ := dd'; ⟨q, hq⟩
    exact d_write I (by rw [e]; exact True.intro) hs he (dk_new hl hd (rel.put k rv) dd')
  · subst ey eH
    cases (show u = Value.ref b from ry)
    obtain ⟨z, hd, xs, rel, dd⟩ := dt_of I.hok e
    have hz : xs.length ≤ sizeLine := by rw [← Paired.length rel]; exact z
    have hl : (putK kvs k v).length ≤ sizeLine := by have := length_putK kvs k v; omega
    refine wpAny_setItem_heap (hsz := hz) (tupleKind_room_in1 hu) (key_of I.hok eb) dd fun h' dd' hs => h _ ?_
    obtain ⟨q, es, ep, hq, h2, h3, h4, _, h5⟩ := dd'
    refine d_write I (by rw [e]; exact True.intro) hs ⟨q, hq⟩ ⟨hl, hd, _, (rel.put k eb rv).keeps fun c ys ec => ?_, q, es, ep, hq, h2, h3, h4, h5⟩
    rw [upd_ne (ne_of ec e (fun z => nomatch z))]
    exact ec
end
section
variable {X : Cx} {pins : List (Addr × Obj)} {σ : St} {H : Hp} {s : Shared} {a : Addr} {kvs : List (Key × V)} {k : Key} {u : Value} {A : Around} {E : Value → Shared → Prop}
end
def sDPut (td ty tv : TE) : TS := fun D σ H => tv σ H fun v H1 => td σ H1 fun x H2 => ty σ H2 fun y H3 => ∃ a H4, x = .ref a ∧ DPut H3 a y v H4 ∧ D.nx σ H4
section
variable {X : Cx} {o i e value : Expr} {pos pos' tpos : Pos} {td ty tv : TE}
theorem ps_dput (hu : X.A.units + 1 < cLine) (ho : PE X o td) (hi : PE X i ty) (hv : PE X value tv) (hs : swapsWith value (some (.Subscript o i pos')) pos.line X.env = pure false) :
    PS X (.Assign [.Subscript o i pos'] value pos) (sDPut td ty tv) := by
  intro pins s σ H D I h
  refine wpAny_Assign_Subscript (thn (hv pins s σ H _ I h) fun r s1 ⟨v, H1, I1, rv, q1⟩ => thn (ho pins s1 σ H1 _ I1 q1) fun u s2 ⟨x, H2, I2, rx, q2⟩ => thn (hi pins s2 σ H2 _ I2 q2) fun iv s3 ⟨y, H3, I3, ry, a, H4, ex, g, q3⟩ => ?_) hs
  subst ex
  obtain rfl : u = Value.ref a := rx
  exact d_setItem hu I3 g ry rv fun s4 I4 => ⟨σ, H4, I4, q3⟩
end
theorem dt_empty {P : Program} {w : World} {H : Hp} (h : Heap) (hb : sysModules < h.objs.size) : ObjOk P w H (h.push { cls := .type "dict", data := .dict #[] }) h.objs.size (.dT []) :=
  ⟨Nat.zero_le _, beq_eq_false_iff_ne.mpr (Ne.symm (Nat.ne_of_lt hb)), [], .nil, _, #[], 0, Heap.get?_push_size _ rfl, ⟨rfl, rfl, rfl⟩, rfl, rfl, List.nodup_nil⟩
def tDNewT : TE := fun _ H Q => ∀ p, H p = none → Q (.ref p) (upd H p (.dT []))
section
variable {X : Cx} {pos : Pos}
theorem pe_dnewT : PE X (.Dict [] [] pos) tDNewT := fun pins s σ H Q I h =>
  wpAny_Dict_empty ⟨.ref s.heap.objs.size, _, I.laid (a := s.heap.objs.size) (o := .dT []) (t' := s.toks) (fun _ _ q => Heap.get?_push_of_some _ q) (Nat.le_refl _) (dt_empty s.heap I.big), rfl, h _ (I.hok.fresh (Nat.le_refl _))⟩
end
section
variable {X : Cx} {pins : List (Addr × Obj)} {σ : St} {H : Hp} {s : Shared} {a : Addr} {y d : V} {u r : Value} {o : Option V} {A : Around} {E : Value → Shared → Prop}
end
section
variable {X : Cx} {o e f : Expr} {apos cpos : Pos} {td ty tx : TE}
end
section
variable {X : Cx} {pins : List (Addr × Obj)} {σ : St} {H : Hp} {s : Shared} {a : Addr} {kvs : List (Key × V)} {A : Around} {E : Value → Shared → Prop}
end
section
variable {X : Cx} {pins : List (Addr × Obj)} {σ : St} {H : Hp} {s : Shared} {a : Addr} {y : V} {u : Value} {A : Around} {E : Value → Shared → Prop}
end
section
variable {κ : Type} [DecidableEq κ]
end
end L2
namespace L2
open PySem PySem.Spec PyProof.Rows
def ItEL (K : PySem.W.Frag) (a : Addr) : It :=
  ⟨fun i H => ∃ xs x, SqL K H a xs ∧ xs[i]? = some x,
   fun i H v H' => ∃ t x, H t = none ∧ v = .ref t ∧ H' = upd H t (.tup [.int i, x]) ∧ ∀ xs, SqL K H a xs → xs[i]? = some x,
   fun i H => ∃ xs, SqL K H a xs ∧ xs.length ≤ i⟩
theorem turn_enumL {P : Program} {w : World} {K : PySem.W.Frag} {elts : List Expr} {kk : Nat} {tpos : Pos} (e it l : Addr) (hei : e ≠ it) (hle : l ≠ e) (hli : l ≠ it) :
    Turn P w K (.Tuple elts kk tpos) (ItEL K l) [e, it] e (fun i h => (∃ old, IsEnum h e it i old) ∧ h.IsListIter it l i) true where
  mem := by simp
  obj := fun i h st b hb => by
    obtain ⟨⟨old, q1⟩, ⟨o4, q4, _, d4⟩⟩ := st
    simp only [List.mem_cons, List.not_mem_nil, or_false] at hb
    rcases hb with rfl | rfl
    · exact ⟨_, q1, fun v e => by cases e⟩
    · exact ⟨_, q4, fun v e => by rw [d4] at e; cases e⟩
  keep := fun i h h' st k => by
    obtain ⟨⟨old, q1⟩, q4⟩ := st
    exact ⟨⟨old, k e (by simp) _ q1⟩, q4.at fun o x => k it (by simp) o x⟩
  item := by
    intro X hP hw hK hc i pins s σ H E I hf st hg
    subst hP hw hK
    obtain ⟨xs, x, hx, ex⟩ := hg
    obtain ⟨its, r1, p1, _⟩ := I.list hx
    obtain ⟨v1, hv1, rv1⟩ := r1.get ex
    obtain ⟨⟨old, q1⟩, q4⟩ := st
    refine wpAny_pyNext_enum_item q1 q4 p1.isList (x := v1) (by simpa using hv1) hei fun h1 z1 z2 z3 z4 z5 => ?_
    refine ⟨_, rfl, wpAny_letOwnedTupleGo_enum (s := { s with heap := h1, toks := s.toks + 1 }) z1 fun h2 z1' sb => ?_⟩
    have keep : ∀ c o, c ∉ [e, it] → s.heap.get? c = some o → h2.get? c = some o := fun c o hc y => by
      simp only [List.mem_cons, List.not_mem_nil, or_false, not_or] at hc
      exact (sb.2 c hc.1).trans (z5 c o hc.1 hc.2 y)
    have hlt : ∀ {c o}, s.heap.get? c = some o → c ≠ s.heap.objs.size := fun e => Nat.ne_of_lt (Heap.lt_size e)
    obtain ⟨o4, e4, _, _⟩ := id q4
    have I1 : Inv X pins σ H { s with heap := h2, toks := s.toks + 1 } := I.turnedL (t' := s.toks + 1) hf keep
    have hp : H s.heap.objs.size = none := I.fresh
    have tp : h2.get? s.heap.objs.size = some { cls := .type "tuple", data := .seq #[.int i s.toks, v1] } := (sb.2 _ (Ne.symm (hlt q1))).trans z3
    have I2 : Inv X pins σ (upd H s.heap.objs.size (.tup [.int i, x])) { s with heap := h2, toks := s.toks + 1 } := I1.track hp (Heap.get?_none_of_le I.sz) (Nat.ne_of_gt I.lt)
      (fun n c e zz => by obtain ⟨v0, o0, h0, _⟩ := I.cell n c e; exact hlt h0 zz) (fun q hq zz => hlt (I.pin q hq).1 zz) ⟨by show 2 ≤ sizeLine; decide, [.int i s.toks, v1], .cons ⟨_, rfl⟩ (.cons rv1 .nil), _, tp, rfl, _, rfl⟩
    refine ⟨.ref s.heap.objs.size, _, I2, rfl, ⟨_, x, hp, rfl, rfl, fun xs' hx' => ?_⟩, ⟨⟨_, by simpa using z1'⟩, z2.extBut sb.extBut (Ne.symm hei)⟩, fun c hc => ?_⟩
    · rw [I.list_inj hx' hx]; exact ex
    · have hcn := (hf c hc).1
      rw [upd_ne ?_]
      · exact hcn
      · simp only [List.mem_cons, List.not_mem_nil, or_false] at hc
        rcases hc with rfl | rfl
        · exact hlt q1
        · exact hlt e4
  done := by
    intro X hP hw hK hc i pins s σ H E I hf st hg
    subst hP hw hK
    obtain ⟨xs, hx, hend⟩ := hg
    obtain ⟨its, rv, p, _⟩ := I.list hx
    obtain ⟨⟨old, q1⟩, q4⟩ := st
    have hl := rv.length
    refine wpAny_pyNext_enum_end (I.ok.hd (hc rfl)) q1 q4 p.isList (by simp; omega) fun h1 k => ⟨rfl, ?_⟩
    refine I.turnedL (t' := s.toks) (ch := [it]) (fun c hc => hf c ?_) fun c o hc y => ?_
    · simp only [List.mem_cons, List.not_mem_nil, or_false] at hc ⊢
      exact .inr hc
    · simp only [List.mem_cons, List.not_mem_nil, or_false, not_or] at hc
      exact k c o hc y
  self := fun _ _ _ _ _ st h => let ⟨_, q⟩ := st.1; wpAny_pyIter_enum q h
section
variable {X : Cx} {elts : List Expr} {kk : Nat} {tpos : Pos}
def iEnumL (K : PySem.W.Frag) (ta : TA) : TI := fun σ H R => ta σ H fun vs H1 => ∃ a, vs = [.ref a] ∧ (∃ xs, SqL K H1 a xs) ∧ R (ItEL K a) H1
theorem pi_enumL {a : Expr} {ta : TA} {p pos : Pos} (hcm : X.calm = true) (hg : Gl X "enumerate") (hm : X.mg "enumerate" = none) (ha : PA X [a] ta) (hs : starEach [a] X.env = (false, eval a X.env) :: starEach [] X.env := by rfl) (hpl : (backTo pos (starEach [] X.env)).any (·.1) = false := by rfl) :
    PI X (.Tuple elts kk tpos) (.Call (.Name "enumerate" p) [a] [] pos) (iEnumL X.K ta) := by
  intro pins s σ H R I h
  refine Call_ (ld_blt I hg hm boot_enumerate (PyProof.Rows.callWith_type1 (thn (ha pos pins s σ H _ I h) fun us s1 ⟨vs, H1, I1, r1, q1⟩ => ?_) hs hpl))
  obtain ⟨l1, e, ⟨xs, hx⟩, q⟩ := q1
  subst e
  cases r1 with
  | cons ra rr =>
    cases rr
    cases ra
    obtain ⟨its, _, p1, _⟩ := I1.list hx
    have a1 : l1 < s1.heap.objs.size := by obtain ⟨_, e, _⟩ := p1.isList; exact Heap.lt_size e
    refine call_enumerate_list p1.isList fun h' z1 z2 z3 k => wpAny_pyIter_enum (s := { s1 with heap := h' }) z1 ?_
    have I2 : Inv X pins σ H1 { s1 with heap := h' } := I1.kept (t' := s1.toks) k
    refine ⟨s1.heap.objs.size + 1, [s1.heap.objs.size + 1, s1.heap.objs.size], _, _, H1, rfl, I2, ⟨true, turn_enumL _ _ l1 (Nat.succ_ne_self _) (Nat.ne_of_lt (Nat.lt_succ_of_lt a1)) (Nat.ne_of_lt a1), fun _ => hcm⟩, ⟨⟨_, z1⟩, z2⟩, fun c hc => ?_, q⟩
    have le : s1.heap.objs.size ≤ c := by
      simp only [List.mem_cons, List.not_mem_nil, or_false] at hc
      rcases hc with rfl | rfl <;> omega
    exact I1.fpOk le (I1.hok.fresh le)
theorem for_enumL {K : PySem.W.Frag} {a : Addr} {xs : List V} {g : TG} {tb : TS} {D : Ends} {σ : St} {H : Hp} (Pv : Nat → St → Hp → Prop) (h0 : Pv 0 σ H) (hl : ∀ i σ H, i ≤ xs.length → Pv i σ H → SqL K H a xs)
    (hs : ∀ (i : Nat) x p σ H, xs[i]? = some x → H p = none → Pv i σ H → g (.ref p) σ (upd H p (.tup [.int i, x])) fun σ2 H2 => tb { D with nx := Pv (i + 1), ct := Pv (i + 1), bk := D.nx } σ2 H2) (hd : ∀ σ H, Pv xs.length σ H → D.nx σ H) :
    ∃ W : Nat → Nat → St → Hp → Prop, (∃ m, W 0 m σ H) ∧ ∀ i m σ H, W i m σ H →
      ((ItEL K a).stop i H ∧ D.nx σ H) ∨ ((ItEL K a).go i H ∧ ∃ N : St → Hp → Prop, (∀ σ' H', N σ' H' → ∃ m', m' < m ∧ W (i + 1) m' σ' H') ∧ ∀ x H', (ItEL K a).yld i H x H' → g x σ H' fun σ2 H2 => tb { D with nx := N, ct := N, bk := D.nx } σ2 H2) := by
  refine ⟨fun i m σ H => m = xs.length - i ∧ i ≤ xs.length ∧ Pv i σ H, ⟨xs.length, by simp, Nat.zero_le _, h0⟩, ?_⟩
  rintro i m σ H ⟨rfl, hi, p⟩
  have qa := hl i σ H hi p
  by_cases hlt : i < xs.length
  · refine .inr ⟨⟨xs, xs[i], qa, by simp [hlt]⟩, Pv (i + 1), fun σ' H' p' => ⟨xs.length - (i + 1), by omega, rfl, hlt, p'⟩, fun v H' yy => ?_⟩
    obtain ⟨t, x, ht, rfl, rfl, e⟩ := yy
    exact hs i x t σ H (e xs qa) ht p
  · obtain rfl : i = xs.length := by omega
    exact .inl ⟨⟨xs, qa, Nat.le_refl _⟩, hd σ H p⟩
end
end L2
namespace L2
open PySem PySem.Spec PyProof.Rows
section
variable {X : Cx} {body : List Stmt} {b0 : Stmt} {suite : List Stmt} {cn n : Str} {np hpos pos : Pos} {C0 : Addr} {i : Nat} {tb : (St → XK) → TS} {th : TS}
end
end L2
namespace L2
open PySem PySem.Spec PyProof.Rows
section
variable {prog : Program} {w : World} {A : Around} {E : Value → Shared → Prop} {env : Env}
variable {nm q : Str} {C N : Addr} {bs bm : List Value} {hdct : Bool} {sn : List Str} {sub : List Value} {ab : Bool} {col : Option Bool} {dd : Option Addr} {k0 k1 k2 k3 k5 : Option Value} {newId : String}
end
section
variable {P : Program} {w : World} {K : PySem.W.Frag} {mg : Str → Option Value} {base : Heap} {N ps : List Str} {qual : Str} {scope : Scope} {f : Addr} {cd : Value} {A : Around} {outer : List Env} {s : Shared} {H : Hp} {E : XK}
end
section
variable {X : Cx} {pins : List (Addr × Obj)} {σ : St} {H : Hp} {s : Shared}
end
section
variable {X : Cx} {body : List Stmt} {b0 : Stmt} {suite : List Stmt} {cn : Str} {np hpos pos : Pos} {C0 : Addr} {tb : XK → TS} {th : TS}
end
end L2
namespace L2
open PySem PySem.Spec PyProof.Rows
structure FunD (K : PySem.W.Frag) (x qual : Str) (st : Stmt) (f : Addr) (fd : FuncData) : Prop where
  ex : ∃ (oc : Value) (od : Option Addr) (dV kV doc pm : Value) (an : Option Addr) (cdv ct : Value) (osl : Array (Option Value)),
    fd = PySem.W.fnOf x qual (defArgs st) (defBody st) (defScope st) dV kV doc pm an cdv ct ∧ K.lookup f = some ⟨oc, od, .func fd, osl⟩ ∧ PySem.W.codeIn K cdv qual = true
  kp : PySem.W.keepIn K (.ref f) = true
section
variable {P : Program} {w : World} {K : PySem.W.Frag} {mg : Str → Option Value} {base : Heap}
theorem FunD.okX {x qual : Str} {st : Stmt} {f : Addr} {fd : FuncData} {N ps : List Str} {k : Nat} {sp : Sp} {c : Bool} (F : FunD K x qual st f fd) (S : FnScope N ps (defScope st)) (len : ∀ vs H Q E, sp vs H Q E → vs.length = ps.length)
    (hbody : ∀ (cdv : Value) (A : Around) (outer : List Env) (s : Shared) (H : Hp) (vs : List V) (Q : VK) (E : XK), RoomC c k (A.deeper (envOfC qual (defScope st) s.heap.objs.size f cdv)) → sp vs H Q E →
      ∃ t, PSs (cxE P w K mg base N qual (defScope st) f cdv A outer s H E c) (defBody st) t ∧ t { nx := fun _ H' => Q .non H', rt := Q } (start N vs) H) : FnOk P w K mg base (XC P w) (k + 1) f fd ps sp c := by
  obtain ⟨oc, od, dV, kV, doc, pm, an, cdv, ct, osl, rfl, lk, hcd⟩ := F.ex
  exact fn_of lk hcd S len fun A outer s H vs Q E hr hsp => hbody cdv A outer s H vs Q E hr hsp
theorem bindsD {fd : FuncData} {ps : List Str} {D : Addr} {od : Obj} {items : Array Value} {n : Nat} (hf : fd.defaults = .ref D) (dl : K.lookup D = some od) (hd : od.data = .seq items n)
    (h : ∀ us : List Value, us.length = ps.length → ∃ k : Option (Array Value) → Sem (List (Str × Value)), bindArgs fd ⟨us, []⟩ = seqItems? fd.defaults >>= k ∧ k (some items) = pure (ps.zip us)) : Binds K fd ps [] := by
  intro s us KX hl
  rw [List.append_nil] at hl ⊢
  obtain ⟨k, h1, h2⟩ := h us hl
  exact BindsTo.of_defaults hf (KX D od dl) hd h1 h2
theorem funD_mk {x qual : Str} {st : Stmt} {f : Addr} {oc : Value} {od an : Option Addr} {osl : Array (Option Value)} {dV kV doc pm cdv ct : Value} (l : K.lookup f = some ⟨oc, od, .func (PySem.W.fnOf x qual (defArgs st) (defBody st) (defScope st) dV kV doc pm an cdv ct), osl⟩)
    (c : PySem.W.codeIn K cdv qual = true) (k : PySem.W.keepIn K (.ref f) = true) : FunD K x qual st f (PySem.W.fnOf x qual (defArgs st) (defBody st) (defScope st) dV kV doc pm an cdv ct) := ⟨⟨oc, od, dV, kV, doc, pm, an, cdv, ct, osl, rfl, l, c⟩, k⟩
end
section
variable {X : Cx}
theorem pe_fstr7 {a b c d : Str} {e1 e2 e3 : Expr} {t1 t2 t3 : TE} {p1 p2 p3 p4 p5 p6 p7 p8 : Pos} {k1 k2 k3 k4 : Nat} (ha : a.length ≤ 1000) (hb : b.length ≤ 1000) (hc : c.length ≤ 1000) (hd : d.length ≤ 1000) (he1 : PE X e1 t1) (he2 : PE X e2 t2) (he3 : PE X e3 t3) :
    PE X (.JoinedStr [.Constant (.str a) k1 p1, .FormattedValue e1 (-1) none p2, .Constant (.str b) k2 p3, .FormattedValue e2 (-1) none p4, .Constant (.str c) k3 p5, .FormattedValue e3 (-1) none p6, .Constant (.str d) k4 p7] p8) (fun σ H Q => t1 σ H fun x H1 => Fmt x ∧ t2 σ H1 fun y H2 => Fmt y ∧ t3 σ H2 fun u H3 => Fmt u ∧ ∀ z, Q (.str z) H3) := by
  intro pins s σ H Q I h
  refine JoinedStr_many (joinParts_cons (Calls.Constant_str ?_))
  have hz : (12000 : Nat) ≤ sizeLine := by decide
  have l0 : (Str.empty ++ a).length ≤ 1000 := by rw [strLen_append]; show 0 + a.length ≤ 1000; omega
  refine ⟨Nat.le_trans l0 (by decide), joinParts_cons (FormattedValue_plain (thn (he1 pins _ σ H _ (I.tok _) h) fun v s1 ⟨x, H1, I1, r1, F1, q1⟩ => ?_))⟩
  refine fmt_ok r1 F1 fun y t tk ly => ?_
  have m1 := strLen_append (Str.empty ++ a) y
  refine ⟨by omega, joinParts_cons (Calls.Constant_str ?_)⟩
  have m2 := strLen_append (Str.empty ++ a ++ y) b
  refine ⟨by omega, joinParts_cons (FormattedValue_plain (thn (he2 pins _ σ H1 _ ((I1.tok _).tok _) q1) fun v s2 ⟨x2, H2, I2, r2, F2, q2⟩ => ?_))⟩
  refine fmt_ok r2 F2 fun y2 t2 tk2 ly2 => ?_
  have m3 := strLen_append (Str.empty ++ a ++ y ++ b) y2
  refine ⟨by omega, joinParts_cons (Calls.Constant_str ?_)⟩
  have m4 := strLen_append (Str.empty ++ a ++ y ++ b ++ y2) c
  refine ⟨by omega, joinParts_cons (FormattedValue_plain (thn (he3 pins _ σ H2 _ ((I2.tok _).tok _) q2) fun v s3 ⟨x3, H3, I3, r3, F3, q3⟩ => ?_))⟩
  refine fmt_ok r3 F3 fun y3 t3 tk3 ly3 => ?_
  have m5 := strLen_append (Str.empty ++ a ++ y ++ b ++ y2 ++ c) y3
  refine ⟨by omega, joinParts_cons (Calls.Constant_str ?_)⟩
  have m6 := strLen_append (Str.empty ++ a ++ y ++ b ++ y2 ++ c ++ y3) d
  exact ⟨by omega, joinParts_nil ⟨.str _, H3, ((I3.tok _).tok _), ⟨_, rfl⟩, q3 _⟩ (by omega)⟩
end
theorem cs_three {X : Cx} {scope : Scope} {N : List Str} {n1 n2 n3 : Str} {a1 a2 a3 : Addr} (hN : X.N = N) (hk : scope.kind = .function) (hcl : closureFor scope X.env = pure [(n1, a1), (n2, a2), (n3, a3)]) (s1 : X.env.cells.lookup n1 = some a1) (s2 : X.env.cells.lookup n2 = some a2) (s3 : X.env.cells.lookup n3 = some a3)
    (o1 : X.env.kindOf n1 = some .cell) (o2 : X.env.kindOf n2 = some .cell) (o3 : X.env.kindOf n3 = some .cell)
    (h1 : (scope.names.all fun y => y.2 != .cell && (y.2 != .free || (y.1 == n1 || y.1 == n2 || y.1 == n3))) = true) (h2 : (scope.names.all fun y => y.2 != .local || scope.names.lookup y.1 == some .local) = true)
    (h3 : (N.all fun x => scope.names.lookup x != some .local) = true) : CompScope X scope [(n1, a1), (n2, a2), (n3, a3)] where
  clos := hcl
  kind := hk
  nocell := fun y hy => by
    have := List.all_eq_true.mp h1 y hy
    simp only [Bool.and_eq_true, bne_iff_ne] at this
    exact this.1
  names := fun y hy e => by
    have := List.all_eq_true.mp h2 y hy
    rw [e] at this
    simpa using this
  sub := fun x c e => by
    rw [List.lookup_cons] at e
    split at e
    · rename_i q
      obtain rfl : x = n1 := by simpa using q
      cases e; exact s1
    · rw [List.lookup_cons] at e
      split at e
      · rename_i q
        obtain rfl : x = n2 := by simpa using q
        cases e; exact s2
      · rw [List.lookup_cons] at e
        split at e
        · rename_i q
          obtain rfl : x = n3 := by simpa using q
          cases e; exact s3
        · cases e
  has := fun x e => by
    have := List.all_eq_true.mp h1 _ (lookup_mem e)
    simp only [Bool.and_eq_true, Bool.or_eq_true, bne_iff_ne, ne_eq, beq_iff_eq] at this
    simp only [List.lookup_cons]
    by_cases q1 : x = n1
    · exact ⟨a1, by simp [q1]⟩
    · by_cases q2 : x = n2
      · subst q2; exact ⟨a2, by rw [show (x == n1) = false by simpa using q1]; simp⟩
      · by_cases q3 : x = n3
        · subst q3; exact ⟨a3, by rw [show (x == n1) = false by simpa using q1, show (x == n2) = false by simpa using q2]; simp⟩
        · rcases this.2 with z | (z | z) | z
          · exact absurd trivial z
          · exact absurd z q1
          · exact absurd z q2
          · exact absurd z q3
  apart := fun x hx => by
    have := List.all_eq_true.mp h3 x (hN ▸ hx)
    simpa using this
  outer := fun x e => by
    have := List.all_eq_true.mp h1 _ (lookup_mem e)
    simp only [Bool.and_eq_true, Bool.or_eq_true, bne_iff_ne, ne_eq, beq_iff_eq] at this
    rcases this.2 with z | (z | z) | z
    · exact absurd trivial z
    · exact .inl (z ▸ o1)
    · exact .inl (z ▸ o2)
    · exact .inl (z ▸ o3)
section
variable {X : Cx}
end
end L2
set_option maxHeartbeats 4000000
namespace L2
open PySem Builtin Builtin.Str
section
variable {X : Cx}
end
end L2
namespace TS
open PySem PyProof.Rows L2
def kLt : L2.Key → L2.Key → Bool
  | .inl a, .inl b => decide (a < b)
  | .inr a, .inr b => decide (a.cps.toList < b.cps.toList)
  | .inl _, .inr _ => true
  | .inr _, .inl _ => false
def lx : List L2.Key → List L2.Key → Bool
  | [], [] => false
  | [], _ :: _ => true
  | _ :: _, [] => false
  | a :: r, b :: q => if a = b then lx r q else kLt a b
theorem kLt_irr (a : L2.Key) : kLt a a = false := by
  cases a with
  | inl n => exact decide_eq_false (Int.lt_irrefl n)
  | inr x => exact decide_eq_false (List.lt_irrefl _)
theorem kLt_trans {a b c : L2.Key} (h1 : kLt a b = true) (h2 : kLt b c = true) : kLt a c = true := by
  cases a with
  | inl n => cases b with
    | inl m => cases c with
      | inl k => exact decide_eq_true (Int.lt_trans (of_decide_eq_true h1) (of_decide_eq_true h2))
      | inr k => rfl
    | inr m => cases c with
      | inl k => cases h2
      | inr k => rfl
  | inr n => cases b with
    | inl m => cases h1
    | inr m => cases c with
      | inl k => cases h2
      | inr k => exact decide_eq_true (List.lt_trans (of_decide_eq_true h1) (of_decide_eq_true h2))
theorem str_of_cps {x y : Str} (h : x.cps.toList = y.cps.toList) : x = y := Str.ext' (Array.toList_inj.mp h)
theorem kLt_tot {a b : L2.Key} (h1 : kLt a b = false) (h2 : kLt b a = false) : a = b := by
  cases a with
  | inl n => cases b with
    | inl m =>
      have := of_decide_eq_false h1
      have := of_decide_eq_false h2
      congr 1; omega
    | inr m => cases h1
  | inr n => cases b with
    | inl m => cases h2
    | inr m => exact congrArg Sum.inr (str_of_cps (List.le_antisymm (List.not_lt.mp (of_decide_eq_false h2)) (List.not_lt.mp (of_decide_eq_false h1))))
theorem kLt_ne {a b : L2.Key} (h : kLt a b = true) : a ≠ b := fun e => by rw [e, kLt_irr] at h; cases h
theorem lx_irr : ∀ a : List L2.Key, lx a a = false
  | [] => rfl
  | a :: r => by unfold lx; rw [if_pos rfl]; exact lx_irr r
theorem lx_tot : ∀ {a b : List L2.Key}, lx a b = false → lx b a = false → a = b
  | [], [], _, _ => rfl
  | [], _ :: _, h, _ => by cases h
  | _ :: _, [], _, h => by cases h
  | a :: r, b :: q, h1, h2 => by
    unfold lx at h1 h2
    by_cases e : a = b
    · rw [if_pos e] at h1
      rw [if_pos e.symm] at h2
      rw [e, lx_tot h1 h2]
    · rw [if_neg e] at h1
      rw [if_neg (fun z => e z.symm)] at h2
      exact absurd (kLt_tot h1 h2) e
theorem lx_trans : ∀ {a b c : List L2.Key}, lx a b = true → lx b c = true → lx a c = true
  | [], [], _, h, _ => by cases h
  | [], _ :: _, [], _, h => by cases h
  | [], _ :: _, _ :: _, _, _ => rfl
  | _ :: _, [], _, h, _ => by cases h
  | _ :: _, _ :: _, [], _, h => by cases h
  | a :: r, b :: q, c :: p, h1, h2 => by
    unfold lx at h1 h2 ⊢
    by_cases e1 : a = b
    · subst e1
      rw [if_pos rfl] at h1
      by_cases e2 : a = c
      · rw [if_pos e2] at h2 ⊢; exact lx_trans h1 h2
      · rw [if_neg e2] at h2 ⊢; exact h2
    · rw [if_neg e1] at h1
      by_cases e2 : b = c
      · subst e2; rw [if_neg e1]; exact h1
      · rw [if_neg e2] at h2
        have h3 := kLt_trans h1 h2
        rw [if_neg (kLt_ne h3)]; exact h3
theorem lx_neg {a b c : List L2.Key} (h : lx a c = true) : lx a b = true ∨ lx b c = true := by
  cases h1 : lx a b
  · right
    cases h2 : lx b a
    · rw [← lx_tot h1 h2]; exact h
    · exact lx_trans h2 h
  · exact .inl rfl
def kind (kc : Value → List L2.Key) : KeyKind where
  α := List L2.Key
  blt := lx
  irrefl := lx_irr
  trans := fun _ _ _ => lx_trans
  negTrans := fun _ _ _ => lx_neg
  total := fun _ _ => lx_tot
  keyOf := fun v => some (kc v)
  dflt := []
def KVal : L2.Key → Value → Prop
  | .inl n, v => ∃ t, v = .int n t
  | .inr x, v => ∃ t, v = .str x t
inductive KVals : List L2.Key → List Value → Prop
  | nil : KVals [] []
  | cons {k v ks vs} : KVal k v → KVals ks vs → KVals (k :: ks) (v :: vs)
def sd (ks : List L2.Key) : List Bool := ks.map Sum.isLeft
theorem keyLt_eq (f : Bool) (x y : Value) : keyLt' (tuples' f) x y = (do
    let p ← Builtin.List.listItems x
    let q ← Builtin.List.listItems y
    for ((u, v), i) in (p.toList.zip q.toList).zipIdx do
      if !(← eqBool u v) then return ← oneLt' (f && i == 0) u v
    return p.size < q.size) := rfl
section
variable {prog : Program} {w : World} {A : Around} {E : Value → Shared → Prop} {s : Shared}
theorem one_int (f : Bool) {a b : Int} {t u : Tok} {Q : Bool → Shared → Prop} (h : Q (decide (a < b)) s) : wpAny (model prog w) A (oneLt' f (.int a t) (.int b u)) Q E s := by
  cases f with
  | true => exact oneLt_int h
  | false =>
    rw [oneLt'_eq]
    rw [if_neg Bool.false_ne_true]
    exact wpAny_bind (richCompare_gives (op := .Lt) (typeIs_int s a t) (typeIs_int s b u) F.slot_int_lt F.entry_int_lt (F.args_int_lt_2 _ _) (gives_int_lt a b t u) (fun z => nomatch z) (wpAny_truthy_bool h))
theorem one_str (f : Bool) {a b : Str} {t u : Tok} {Q : Bool → Shared → Prop} (h : Q (decide (a.cps.toList < b.cps.toList)) s) : wpAny (model prog w) A (oneLt' f (.str a t) (.str b u)) Q E s := by
  cases f with
  | true => exact oneLt_str h
  | false =>
    rw [oneLt'_eq]
    rw [if_neg Bool.false_ne_true]
    exact wpAny_bind (richCompare_gives (op := .Lt) (typeIs_str s a t) (typeIs_str s b u) F.slot_str_lt F.entry_str_lt (F.args_str_lt_2 _ _) (gives_str_lt a b t u) (fun z => nomatch z) (wpAny_truthy_bool h))
theorem eq_key {c d : L2.Key} {u v : Value} (hs : c.isLeft = d.isLeft) (hc : KVal c u) (hd : KVal d v) {Q : Bool → Shared → Prop} (h : Q (decide (c = d)) s) : wpAny (model prog w) A (eqBool u v) Q E s := by
  cases c with
  | inl n => cases d with
    | inl m =>
      obtain ⟨t, rfl⟩ := hc
      obtain ⟨t', rfl⟩ := hd
      refine wpAny_eqBool_int ?_
      rw [show (n == m) = decide ((Sum.inl n : L2.Key) = Sum.inl m) by rw [Bool.eq_iff_iff, beq_iff_eq, decide_eq_true_iff]; exact ⟨fun e => e ▸ rfl, fun e => Sum.inl.inj e⟩]
      exact h
    | inr m => cases hs
  | inr n => cases d with
    | inl m => cases hs
    | inr m =>
      obtain ⟨t, rfl⟩ := hc
      obtain ⟨t', rfl⟩ := hd
      refine wpAny_eqBool_str ?_
      rw [show decide (n = m) = decide ((Sum.inr n : L2.Key) = Sum.inr m) by rw [Bool.eq_iff_iff, decide_eq_true_iff, decide_eq_true_iff]; exact ⟨fun e => e ▸ rfl, fun e => Sum.inr.inj e⟩]
      exact h
theorem one_key (f : Bool) {c d : L2.Key} {u v : Value} (hs : c.isLeft = d.isLeft) (hc : KVal c u) (hd : KVal d v) {Q : Bool → Shared → Prop} (h : Q (kLt c d) s) : wpAny (model prog w) A (oneLt' f u v) Q E s := by
  cases c with
  | inl n => cases d with
    | inl m =>
      obtain ⟨t, rfl⟩ := hc
      obtain ⟨t', rfl⟩ := hd
      exact one_int f h
    | inr m => cases hs
  | inr n => cases d with
    | inl m => cases hs
    | inr m =>
      obtain ⟨t, rfl⟩ := hc
      obtain ⟨t', rfl⟩ := hd
      exact one_str f h
theorem key_loop (f : Bool) : ∀ {cs ds : List L2.Key} {ps qs : List Value} (k : Nat), sd cs = sd ds → KVals cs ps → KVals ds qs → ∀ {R : Option Bool × Unit → Shared → Prop}, (cs ≠ ds → R (some (lx cs ds), ()) s) → (cs = ds → R (none, ()) s) →
    wpAny (model prog w) A (forIn ((ps.zip qs).zipIdx k) ((none, ()) : Option Bool × Unit) fun x _ =>
      match x with
      | ((u, v), i) => do
        let r ← eqBool u v
        if (!r) = true then do
            let r ← oneLt' (f && i == 0) u v
            pure (ForInStep.done (some r, ()))
          else pure (ForInStep.yield (none, ()))) R E s
  | [], [], _, _, k, _, .nil, .nil, R, _, h => by
    show wpAny _ _ (forIn [] _ _) _ _ _
    rw [List.forIn_nil]; exact wpAny_pure (h rfl)
  | [], _ :: _, _, _, _, hs, _, _, _, _, _ => by cases hs
  | _ :: _, [], _, _, _, hs, _, _, _, _, _ => by cases hs
  | c :: cs, d :: ds, _, _, k, hs, .cons hc hcs, .cons hd hds, R, h1, h2 => by
    obtain ⟨e1, e2⟩ := List.cons.inj hs
    rw [List.zip_cons_cons, List.zipIdx_cons, List.forIn_cons]
    refine wpAny_bind (wpAny_bind (eq_key e1 hc hd ?_))
    by_cases e : c = d
    · rw [decide_eq_true e]
      refine wpAny_pure (key_loop f (k + 1) e2 hcs hds (fun n => ?_) fun z => h2 (by rw [e, z]))
      have := h1 (fun z => n (List.cons.inj z).2)
      unfold lx at this
      rw [if_pos e] at this
      exact this
    · rw [decide_eq_false e]
      refine wpAny_bind (one_key _ e1 hc hd (wpAny_pure (wpAny_pure ?_)))
      have := h1 (fun z => e (List.cons.inj z).1)
      unfold lx at this
      rw [if_neg e] at this
      exact this
theorem KVals.len {cs : List L2.Key} {ps : List Value} (h : KVals cs ps) : ps.length = cs.length := by
  induction h with
  | nil => rfl
  | cons _ _ ih => rw [List.length_cons, List.length_cons, ih]
theorem key_lt (f : Bool) {a b : Addr} {o o' : Obj} {ps qs : List Value} {n m : Nat} {cs ds : List L2.Key} (ha : s.heap.get? a = some o) (hd : o.data = .seq ps.toArray n) (hb : s.heap.get? b = some o') (hd' : o'.data = .seq qs.toArray m)
    (hs : sd cs = sd ds) (hc : KVals cs ps) (hq : KVals ds qs) {Q : Bool → Shared → Prop} (h : Q (lx cs ds) s) : wpAny (model prog w) A (keyLt' (tuples' f) (.ref a) (.ref b)) Q E s := by
  rw [keyLt_eq]
  refine wpAny_bind (listItems_at ha hd ?_)
  refine wpAny_bind (listItems_at hb hd' ?_)
  refine wpAny_bind (key_loop f 0 hs hc hq (fun _ => wpAny_pure h) fun e => wpAny_pure ?_)
  have l1 := hc.len
  have l2 := hq.len
  rw [e] at l1 h
  rw [lx_irr] at h
  rw [show decide (ps.toArray.size < qs.toArray.size) = false by rw [List.size_toArray, List.size_toArray]; exact decide_eq_false (by omega)]
  exact h
variable {f : Bool} {z : Array Keyed} {o : KeyKind}
def kv (o : KeyKind) (p : Keyed) : o.α := (o.keyOf p.1).getD o.dflt
def Orc (prog : Program) (w : World) (A : Around) (s : Shared) (f : Bool) (o : KeyKind) (z : Array Keyed) : Prop := ∀ (E : Value → Shared → Prop) (p q : Keyed) (Q : Bool → Shared → Prop), p ∈ z.toList → q ∈ z.toList → Q (o.blt (kv o p) (kv o q)) s → wpAny (model prog w) A (keyLt' (tuples' f) p.1 q.1) Q E s
end
end TS
namespace TS
open PySem PyProof.Rows L2
section
variable {prog : Program} {w : World} {A : Around} {E : Value → Shared → Prop} {s : Shared}
theorem mapM_wp {α β : Type} {g : α → Sem β} {r : α → β} {M : Model} : ∀ {l : List α} {R : List β → Shared → Prop}, (∀ x ∈ l, ∀ R : β → Shared → Prop, R (r x) s → wpAny M A (g x) R E s) → R (l.map r) s → wpAny M A (l.mapM g) R E s
  | [], R, _, h => by rw [List.mapM_nil]; exact wpAny_pure h
  | a :: l, R, f, h => by
    rw [List.mapM_cons]
    exact wpAny_bind (f a (List.mem_cons_self ..) _ (wpAny_bind (mapM_wp (fun x hx => f x (List.mem_cons_of_mem _ hx)) (wpAny_pure h))))
def TupAt (h : Heap) (v : Value) (ks : List L2.Key) : Prop := ∃ a ob vs n, v = .ref a ∧ h.get? a = some ob ∧ ob.cls = .type "tuple" ∧ ob.data = .seq vs.toArray n ∧ KVals ks vs
theorem first_eq (v : Value) : firstOfTuple' v = (do
    if (← typeOf v) != .type "tuple" then return none
    return (← Builtin.List.listItems v)[0]?) := rfl
theorem typ_key {k : L2.Key} {v : Value} (h : KVal k v) {R : Value → Shared → Prop} (q : R (.type (if k.isLeft then "int" else "str")) s) : wpAny (model prog w) A (typeOf v) R E s := by
  cases k with
  | inl n => obtain ⟨t, rfl⟩ := h; exact wpAny_typeOf (typeIs_int s n t) q
  | inr x => obtain ⟨t, rfl⟩ := h; exact wpAny_typeOf (typeIs_str s x t) q
theorem key_kind {kc : Value → List L2.Key} {vs : List Value} {d : List Bool} (h2 : 2 ≤ vs.length) (ht : ∀ v ∈ vs, TupAt s.heap v (kc v)) (hs : ∀ v ∈ vs, sd (kc v) = d) (hd : d ≠ []) {R : SortKind → Shared → Prop} (q : R (tuples' true) s) : wpAny (model prog w) A (keyKind' vs.toArray) R E s := by
  have fx : ∃ fv : Value → Value, ∀ v ∈ vs, ∃ k r, kc v = k :: r ∧ k.isLeft = d.headD true ∧ KVal k (fv v) ∧ ∀ R : Option Value → Shared → Prop, R (some (fv v)) s → wpAny (model prog w) A (firstOfTuple' v) R E s := by
    have one : ∀ v ∈ vs, ∃ x : Value, ∃ k r, kc v = k :: r ∧ k.isLeft = d.headD true ∧ KVal k x ∧ ∀ R : Option Value → Shared → Prop, R (some x) s → wpAny (model prog w) A (firstOfTuple' v) R E s := fun v hv => by
      obtain ⟨a, ob, us, n, rfl, ho, hc, hda, hk⟩ := ht v hv
      have e := hs _ hv
      cases hkc : kc (.ref a) with
      | nil => rw [hkc] at e; exact absurd e.symm hd
      | cons k r =>
        rw [hkc] at hk e
        cases hk with
        | @cons _ x _ xs hx hxs =>
          refine ⟨x, k, r, rfl, by rw [← e]; rfl, hx, fun R hR => ?_⟩
          rw [first_eq]
          refine wpAny_bind (wpAny_typeOf (T := "tuple") ⟨ob, ho, hc⟩ ?_)
          rw [if_neg (by decide)]
          exact wpAny_bind (listItems_at ho hda (wpAny_pure hR))
    refine ⟨fun v => if hv : v ∈ vs then (one v hv).choose else .none, fun v hv => ?_⟩
    simp only [dif_pos hv]
    exact (one v hv).choose_spec
  obtain ⟨fv, hfv⟩ := fx
  rw [keyKind'_eq, List.mapM_toArray, ← bind_pure_comp]
  refine wpAny_bind (wpAny_bind (mapM_wp (r := fun v => some (fv v)) (fun v hv R hR => by obtain ⟨_, _, _, _, _, f⟩ := hfv v hv; exact f R hR) (wpAny_pure ?_)))
  rw [if_pos (by simp)]
  refine wpAny_bind (wpAny_rule (wpAny_bind ?_))
  rw [show (vs.map fun v => some (fv v)).toArray.filterMap id = (vs.map fv).toArray by simp [List.filterMap_map, Function.comp_def]]
  rw [oneTypeOnly'_eq, List.mapM_toArray, ← bind_pure_comp]
  refine wpAny_bind (wpAny_bind (mapM_wp (r := fun _ => Value.type (if d.headD true then "int" else "str")) (fun x hx R hR => ?_) (wpAny_pure ?_)))
  · obtain ⟨v, hv, rfl⟩ := List.mem_map.mp hx
    obtain ⟨k, r, _, e, hk, _⟩ := hfv v hv
    rw [← e] at hR
    exact typ_key hk hR
  · match vs, h2 with
    | a :: b :: r, _ =>
      have e0 : ((List.map fv (a :: b :: r)).map fun _ => Value.type (if d.headD true then "int" else "str")).toArray[0]? = some (Value.type (if d.headD true then "int" else "str")) := by simp
      rw [e0]
      have ea : (((List.map fv (a :: b :: r)).map fun _ => Value.type (if d.headD true then "int" else "str")).toArray.all fun x => x == Value.type (if d.headD true then "int" else "str")) = true := by
        simp only [List.all_toArray, List.all_map, List.all_eq_true]
        intro _ _
        cases d.headD true <;> rfl
      show wpAny _ _ (pure (if (((List.map fv (a :: b :: r)).map fun _ => Value.type (if d.headD true then "int" else "str")).toArray.all fun x => x == Value.type (if d.headD true then "int" else "str")) = true then some (Value.type (if d.headD true then "int" else "str")) else none)) _ _ _
      rw [if_pos ea]
      refine wpAny_pure (wpAny_pure ?_)
      have en : ((some (Value.type (if d.headD true then "int" else "str"))).any fun x => x != Value.type "tuple") = true := by cases d.headD true <;> rfl
      rw [en]
      exact q
theorem TupAt.upd {h : Heap} {v : Value} {ks : List L2.Key} (t : TupAt h v ks) {a : Addr} {g : Array Value → Array Value} {ob : Obj} (ho : h.get? a = some ob) (hc : ob.cls = .type "list") : TupAt (h.update a (Obj.mapSeq g)) v ks := by
  obtain ⟨b, o2, us, n, rfl, e, c, dt, k⟩ := t
  have ne : a ≠ b := fun z => by
    rw [z, e] at ho
    cases ho
    rw [c] at hc
    exact absurd hc (by decide)
  exact ⟨b, o2, us, n, rfl, (Heap.get?_update_other _ _ ne).trans e, c, dt, k⟩
theorem TupAt.push {h : Heap} {v : Value} {ks : List L2.Key} (t : TupAt h v ks) (ob : Obj) : TupAt (h.push ob) v ks := by
  obtain ⟨b, o2, us, n, rfl, e, c, dt, k⟩ := t
  exact ⟨b, o2, us, n, rfl, Heap.get?_push_of_some _ e, c, dt, k⟩
theorem mem_pairs {vs : List Value} {p : Keyed} (h : p ∈ (pairsOf vs).toList) : p.1 = p.2 ∧ p.1 ∈ vs := mem_zip_self (pairsOf_toList vs ▸ h)
theorem orc_of {kc : Value → List L2.Key} {vs : List Value} {d : List Bool} (ht : ∀ v ∈ vs, TupAt s.heap v (kc v)) (hs : ∀ v ∈ vs, sd (kc v) = d) (f : Bool) : Orc prog w A s f (kind kc) (pairsOf vs) := fun E p q Q hp hq h => by
  have m1 := (mem_pairs hp).2
  have m2 := (mem_pairs hq).2
  have h1 : Q (lx (kc p.1) (kc q.1)) s := h
  obtain ⟨a, o1, us, n, e1, ho, _, hd, hk⟩ := ht _ m1
  obtain ⟨b, o2, ws, m, e2, ho2, _, hd2, hk2⟩ := ht _ m2
  rw [e1, e2] at h1
  rw [e1] at hk
  rw [e2] at hk2
  have s1 := (hs _ m1).trans (hs _ m2).symm
  rw [e1, e2] at s1
  rw [e1, e2]
  exact key_lt f ho hd ho2 hd2 s1 hk hk2 h1
end
end TS
namespace TS
open PySem PyProof.Rows L2
def gal : Bool → Keyed → Array Keyed → Nat → Nat → Nat → StateT SortSt Sem (Option Nat) := sortPriv% PySem.Builtin.gallop
def bey (lf : Bool) (ky : Keyed) (xs : Array Keyed) (bs i : Nat) : StateT SortSt Sem (Option Bool) := do
  let x ← elem' xs (bs + i)
  if lf then lt' x ky else return (← lt' ky x).map (!·)
theorem gal_eq (lf : Bool) (ky : Keyed) (xs : Array Keyed) (bs n hi0 : Nat) : gal lf ky xs bs n hi0 = (do
    let mut la := 0
    let mut of := 1
    let mut l := 0
    let mut h := 0
    let some r ← bey lf ky xs bs hi0 | return none
    if r then
      let mx := n - hi0
      for _ in [0:n] do
        if of ≥ mx then break
        let some m ← bey lf ky xs bs (hi0 + of) | return none
        if !m then break
        la := of
        of := 2 * of + 1
      l := hi0 + la + 1
      h := hi0 + min of mx
    else
      let mx := hi0 + 1
      for _ in [0:n] do
        if of ≥ mx then break
        let some m ← bey lf ky xs bs (hi0 - of) | return none
        if m then break
        la := of
        of := 2 * of + 1
      l := hi0 + 1 - min of mx
      h := hi0 - la
    for _ in [0:n] do
      if l ≥ h then break
      let m := l + (h - l) / 2
      let some v ← bey lf ky xs bs m | return none
      if v then l := m + 1 else h := m
    return some h) := rfl
section
variable {prog : Program} {w : World} {A : Around} {E : Value → Shared → Prop} {s : Shared} {f : Bool} {z : Array Keyed} {o : KeyKind}
def galEnd (lf : Bool) (ky : Keyed) (xs : Array Keyed) (bs n l0 h0 : Nat) : StateT SortSt Sem (Option Nat) := do
  let mut l := l0
  let mut h := h0
  for _ in [0:n] do
    if l ≥ h then break
    let m := l + (h - l) / 2
    let some v ← bey lf ky xs bs m | return none
    if v then l := m + 1 else h := m
  return some h
theorem galEnd_wp {st : SortSt} {lf : Bool} {ky : Keyed} {xs : Array Keyed} {bs n l0 h0 : Nat} {B : Nat → Bool} {Q : Option Nat → SortSt → Prop} (hb : ∀ i, i < n → ∀ R : Option Bool → SortSt → Prop, R (some (B i)) st → wpS (model prog w) A E s (bey lf ky xs bs i) R st)
    (anti : ∀ i j, i ≤ j → j < n → B j = true → B i = true) (anti2 : ∀ i j, i ≤ j → j < n → B i = false → B j = false) (lh : l0 ≤ h0) (hn : h0 ≤ n) (bl : ∀ i, i < l0 → B i = true) (bh : ∀ i, h0 ≤ i → i < n → B i = false)
    (q : ∀ k, k ≤ n → (∀ i, i < k → B i = true) → (∀ i, k ≤ i → i < n → B i = false) → Q (some k) st) : wpS (model prog w) A E s (galEnd lf ky xs bs n l0 h0) Q st := by
  refine wpS_bind (wpS_mono (wpS_forRange (I := fun i c y => y = st ∧ ∃ l h, c = (none, l, h) ∧ l ≤ h ∧ h ≤ n ∧ h - l ≤ n - i ∧ (∀ g, g < l → B g = true) ∧ ∀ g, h ≤ g → g < n → B g = false) (Q := fun c y => y = st ∧ ∃ h, c = (none, h, h) ∧ h ≤ n ∧ (∀ g, g < h → B g = true) ∧ ∀ g, h ≤ g → g < n → B g = false) (fun i c y i1 i2 hy => ?_) (fun c y hy => ?_) ⟨rfl, l0, h0, rfl, lh, hn, by omega, bl, bh⟩) fun c y hy => ?_)
  · obtain ⟨rfl, l, h, rfl, h1, h2, h3, h4, h5⟩ := hy
    show wpS _ _ _ _ (if l ≥ h then _ else _) _ _
    rcases Nat.lt_or_ge l h with hlh | hlh
    · rw [if_neg (by omega)]
      have hm : l + (h - l) / 2 < n := by omega
      refine wpS_bind (hb _ hm _ ?_)
      show wpS _ _ _ _ (if B (l + (h - l) / 2) = true then _ else _) _ _
      cases hv : B (l + (h - l) / 2) with
      | true => rw [if_pos rfl]; exact wpS_pure ⟨rfl, l + (h - l) / 2 + 1, h, rfl, by omega, h2, by omega, fun g hg => anti g (l + (h - l) / 2) (by omega) hm hv, h5⟩
      | false => rw [if_neg Bool.false_ne_true]; exact wpS_pure ⟨rfl, l, l + (h - l) / 2, rfl, by omega, by omega, by omega, h4, fun g g1 g2 => anti2 _ g g1 g2 hv⟩
    · rw [if_pos hlh]
      obtain rfl : l = h := by omega
      exact wpS_pure ⟨rfl, l, rfl, h2, h4, h5⟩
  · obtain ⟨rfl, l, h, rfl, h1, h2, h3, h4, h5⟩ := hy
    obtain rfl : l = h := by omega
    exact ⟨rfl, l, rfl, h2, h4, h5⟩
  · obtain ⟨rfl, h, rfl, h2, h4, h5⟩ := hy
    exact wpS_pure (q h h2 h4 h5)
theorem gal_wp {st : SortSt} {lf : Bool} {ky : Keyed} {xs : Array Keyed} {bs n hi0 : Nat} {B : Nat → Bool} {Q : Option Nat → SortSt → Prop} (hb : ∀ i, i < n → ∀ R : Option Bool → SortSt → Prop, R (some (B i)) st → wpS (model prog w) A E s (bey lf ky xs bs i) R st)
    (anti : ∀ i j, i ≤ j → j < n → B j = true → B i = true) (hh : hi0 < n) (q : ∀ k, k ≤ n → (∀ i, i < k → B i = true) → (∀ i, k ≤ i → i < n → B i = false) → Q (some k) st) : wpS (model prog w) A E s (gal lf ky xs bs n hi0) Q st := by
  have anti2 : ∀ i j, i ≤ j → j < n → B i = false → B j = false := fun i j hij hj hi => by
    cases hj2 : B j with
    | false => rfl
    | true => rw [anti i j hij hj hj2] at hi; cases hi
  rw [gal_eq]
  refine wpS_bind (hb hi0 hh _ ?_)
  cases hr : B hi0 with
  | true =>
    refine wpS_bind (wpS_mono (wpS_forRange (I := fun i c y => y = st ∧ ∃ la k, c = (none, la, k) ∧ la < k ∧ i + 1 ≤ k ∧ (hi0 + la < n → B (hi0 + la) = true) ∧ hi0 + la < n) (Q := fun c y => y = st ∧ ∃ la k, c = (none, la, k) ∧ la < k ∧ hi0 + la < n ∧ B (hi0 + la) = true ∧ (n - hi0 ≤ k ∨ (hi0 + k < n ∧ B (hi0 + k) = false))) (fun i c y i1 i2 hy => ?_) (fun c y hy => ?_) ⟨rfl, 0, 1, rfl, by omega, by omega, fun _ => hr, by omega⟩) fun c y hy => ?_)
    · obtain ⟨rfl, la, k, rfl, h1, h2, h3, h4⟩ := hy
      show wpS _ _ _ _ (if k ≥ n - hi0 then _ else _) _ _
      rcases Nat.lt_or_ge k (n - hi0) with hk | hk
      · rw [if_neg (by omega)]
        refine wpS_bind (hb (hi0 + k) (by omega) _ ?_)
        show wpS _ _ _ _ (if (!B (hi0 + k)) = true then _ else _) _ _
        cases hv : B (hi0 + k) with
        | true => exact wpS_pure ⟨rfl, k, 2 * k + 1, rfl, by omega, by omega, fun _ => hv, by omega⟩
        | false => exact wpS_pure ⟨rfl, la, k, rfl, h1, h4, h3 h4, .inr ⟨by omega, hv⟩⟩
      · rw [if_pos hk]
        exact wpS_pure ⟨rfl, la, k, rfl, h1, h4, h3 h4, .inl hk⟩
    · obtain ⟨rfl, la, k, rfl, h1, h2, h3, h4⟩ := hy
      exact ⟨rfl, la, k, rfl, h1, h4, h3 h4, .inl (by omega)⟩
    · obtain ⟨rfl, la, k, rfl, h1, h4, h3, h5⟩ := hy
      refine galEnd_wp (l0 := hi0 + la + 1) (h0 := hi0 + min k (n - hi0)) hb anti anti2 ?_ ?_ (fun i hi => anti i _ (by omega) h4 h3) (fun i h6 h7 => ?_) q
      · rcases h5 with h5 | h5
        · rw [Nat.min_eq_right h5]; omega
        · rw [Nat.min_eq_left (by omega)]; omega
      · omega
      · rcases h5 with h5 | h5
        · rw [Nat.min_eq_right h5] at h6; omega
        · rw [Nat.min_eq_left (by omega)] at h6; exact anti2 _ i h6 h7 h5.2
  | false =>
    refine wpS_bind (wpS_mono (wpS_forRange (I := fun i c y => y = st ∧ ∃ la k, c = (none, la, k) ∧ la < k ∧ i + 1 ≤ k ∧ la ≤ hi0 ∧ B (hi0 - la) = false) (Q := fun c y => y = st ∧ ∃ la k, c = (none, la, k) ∧ la < k ∧ la ≤ hi0 ∧ B (hi0 - la) = false ∧ (hi0 + 1 ≤ k ∨ (k ≤ hi0 ∧ B (hi0 - k) = true))) (fun i c y i1 i2 hy => ?_) (fun c y hy => ?_) ⟨rfl, 0, 1, rfl, by omega, by omega, by omega, hr⟩) fun c y hy => ?_)
    · obtain ⟨rfl, la, k, rfl, h1, h2, h3, h4⟩ := hy
      show wpS _ _ _ _ (if k ≥ hi0 + 1 then _ else _) _ _
      rcases Nat.lt_or_ge k (hi0 + 1) with hk | hk
      · rw [if_neg (by omega)]
        refine wpS_bind (hb (hi0 - k) (by omega) _ ?_)
        show wpS _ _ _ _ (if B (hi0 - k) = true then _ else _) _ _
        cases hv : B (hi0 - k) with
        | true => rw [if_pos rfl]; exact wpS_pure ⟨rfl, la, k, rfl, h1, h3, h4, .inr ⟨by omega, hv⟩⟩
        | false => rw [if_neg Bool.false_ne_true]; exact wpS_pure ⟨rfl, k, 2 * k + 1, rfl, by omega, by omega, by omega, hv⟩
      · rw [if_pos hk]
        exact wpS_pure ⟨rfl, la, k, rfl, h1, h3, h4, .inl hk⟩
    · obtain ⟨rfl, la, k, rfl, h1, h2, h3, h4⟩ := hy
      exact ⟨rfl, la, k, rfl, h1, h3, h4, .inl (by omega)⟩
    · obtain ⟨rfl, la, k, rfl, h1, h3, h4, h5⟩ := hy
      refine galEnd_wp (l0 := hi0 + 1 - min k (hi0 + 1)) (h0 := hi0 - la) hb anti anti2 ?_ (by omega) (fun i hi => ?_) (fun i h6 h7 => anti2 _ i h6 h7 h4) q
      · rcases h5 with h5 | h5
        · rw [Nat.min_eq_right h5]; omega
        · rw [Nat.min_eq_left (by omega)]; omega
      · rcases h5 with h5 | h5
        · rw [Nat.min_eq_right h5] at hi; omega
        · rw [Nat.min_eq_left (by omega)] at hi; exact anti i (hi0 - k) (by omega) (by omega) h5.2
end
end TS
namespace TS
open PySem PyProof.Rows L2
def mLo : Array Keyed → Array Keyed → StateT SortSt Sem (Array Keyed) := sortPriv% PySem.Builtin.mergeLo
def mHi : Array Keyed → Array Keyed → StateT SortSt Sem (Array Keyed) := sortPriv% PySem.Builtin.mergeHi
def sMin : Nat → StateT SortSt Sem Unit := sortPriv% PySem.Builtin.setMinGallop
def dnA (a b out : Array Keyed) (i j : Nat) : Array Keyed := out ++ a.extract i a.size ++ b.extract j b.size
def dnB (a b out : Array Keyed) (i j : Nat) : Array Keyed := out ++ b.extract j b.size ++ a.extract i a.size
theorem mLo_eq (a b : Array Keyed) : mLo a b = (do
    liftM (rule "list.sort.merge-lo")
    let tt := a.size + b.size
    let mut out : Array Keyed := #[← elem' b 0]
    let mut i := 0
    let mut j := 1
    if j == b.size then return dnA a b out i j
    if i + 1 == a.size then return dnB a b out i j
    let mut mg := gallopOf (← get)
    for _ in [0:tt] do
      let mut ca := 0
      let mut cb := 0
      for _ in [0:tt] do
        let some bw ← lt' (← elem' b j) (← elem' a i) | return dnA a b out i j
        if bw then
          out := out.push (← elem' b j); j := j + 1; cb := cb + 1; ca := 0
          if j == b.size then return dnA a b out i j
          if cb ≥ mg then break
        else
          out := out.push (← elem' a i); i := i + 1; ca := ca + 1; cb := 0
          if i + 1 == a.size then return dnB a b out i j
          if ca ≥ mg then break
      liftM (rule "list.sort.gallop")
      mg := mg + 1
      for _ in [0:tt] do
        if mg > 1 then mg := mg - 1
        sMin mg
        let some k ← gal false (← elem' b j) a i (a.size - i) 0 | return dnA a b out i j
        ca := k
        if k > 0 then
          out := out ++ a.extract i (i + k); i := i + k
          if i + 1 == a.size then return dnB a b out i j
          if i == a.size then return dnA a b out i j
        out := out.push (← elem' b j); j := j + 1
        if j == b.size then return dnA a b out i j
        let some k ← gal true (← elem' a i) b j (b.size - j) 0 | return dnA a b out i j
        cb := k
        if k > 0 then
          out := out ++ b.extract j (j + k); j := j + k
          if j == b.size then return dnA a b out i j
        out := out.push (← elem' a i); i := i + 1
        if i + 1 == a.size then return dnB a b out i j
        if ca < 7 && cb < 7 then break
      mg := mg + 1
      sMin mg
    unsupported "internal:list.sort.merge-bound") := rfl
section
variable {prog : Program} {w : World} {A : Around} {E : Value → Shared → Prop} {s : Shared} {f : Bool} {z : Array Keyed} {o : KeyKind}
structure Sm (x y : SortSt) : Prop where
  ar : arrOf y = arrOf x
  kd : kindOf y = kindOf x
  fl : failedOf y = failedOf x
  pd : pendingOf y = pendingOf x
theorem Sm.refl (x : SortSt) : Sm x x := ⟨rfl, rfl, rfl, rfl⟩
def le2 (o : KeyKind) (p q : Keyed) : Prop := o.kle (kv o p) (kv o q)
def Up (o : KeyKind) (l : List Keyed) : Prop := l.Pairwise (le2 o)
theorem le2_trans {p q r : Keyed} (h1 : le2 o p q) (h2 : le2 o q r) : le2 o p r := KeyOrd.kle_trans h1 h2
theorem lt_wp {st : SortSt} {p q : Keyed} {Q : Option Bool → SortSt → Prop} (O : Orc prog w A s f o z) (kd : kindOf st = tuples' f) (hp : p ∈ z.toList) (hq : q ∈ z.toList) (h : Q (some (o.blt (kv o p) (kv o q))) st) : wpS (model prog w) A E s (lt' p q) Q st := by
  rw [lt'_eq]
  refine wpS_bind (wpS_get ?_)
  rw [kd]
  exact wpS_bind (wpS_lift (wpAny_attempt (O _ p q _ hp hq ⟨rfl, wpS_pure h⟩)))
theorem el_wp {st : SortSt} {xs : Array Keyed} {i : Nat} {Q : Keyed → SortSt → Prop} (hi : i < xs.size) (h : Q xs[i] st) : wpS (model prog w) A E s (elem' xs i) Q st := by
  rw [elem'_eq, getElem?_pos xs i hi]
  exact wpS_pure h
theorem mem_at {xs : Array Keyed} {i : Nat} (hi : i < xs.size) : xs[i] ∈ xs.toList := Array.getElem_mem_toList hi
theorem Up.at_ {xs : Array Keyed} (u : Up o xs.toList) {i j : Nat} (hij : i ≤ j) (hj : j < xs.size) : le2 o (xs[i]'(Nat.lt_of_le_of_lt hij hj)) xs[j] := by
  rcases Nat.lt_or_ge i j with h | h
  · have := (List.pairwise_iff_getElem.mp u) i j (by simpa using Nat.lt_of_le_of_lt hij hj) (by simpa using hj) h
    simpa using this
  · obtain rfl : i = j := by omega
    exact KeyOrd.kle_refl _
theorem gal_left {st : SortSt} {ky : Keyed} {xs : Array Keyed} {bs n h0 : Nat} {Q : Option Nat → SortSt → Prop} (O : Orc prog w A s f o z) (kd : kindOf st = tuples' f) (hx : ∀ p ∈ xs.toList, p ∈ z.toList) (hk : ky ∈ z.toList) (hn : bs + n ≤ xs.size) (hh : h0 < n) (up : ∀ i j (hij : i ≤ j) (hj : bs + j < xs.size), j < n → le2 o (xs[bs + i]'(by omega)) xs[bs + j])
    (q : ∀ k, k ≤ n → (∀ i (hi : bs + i < xs.size), i < k → o.klt (kv o xs[bs + i]) (kv o ky)) → (∀ i (hi : bs + i < xs.size), k ≤ i → i < n → le2 o ky xs[bs + i]) → Q (some k) st) : wpS (model prog w) A E s (gal true ky xs bs n h0) Q st := by
  refine gal_wp (B := fun i => if hi : bs + i < xs.size then o.blt (kv o xs[bs + i]) (kv o ky) else false) (fun i hi R hR => ?_) (fun i j hij hj h => ?_) hh fun k hk1 h1 h2 => q k hk1 (fun i hi hik => ?_) (fun i hi hik hin => ?_)
  · rw [dif_pos (by omega)] at hR
    refine wpS_bind (el_wp (by omega) ?_)
    rw [if_pos rfl]
    exact lt_wp O kd (hx _ (mem_at _)) hk hR
  · have hj2 : bs + j < xs.size := by omega
    have hi2 : bs + i < xs.size := by omega
    simp only [dif_pos hj2, dif_pos hi2] at h ⊢
    exact KeyOrd.klt_of_kle_of_klt (up i j hij hj2 hj) h
  · have := h1 i hik
    rw [dif_pos hi] at this
    exact this
  · have := h2 i hik hin
    rw [dif_pos hi] at this
    exact this
theorem gal_right {st : SortSt} {ky : Keyed} {xs : Array Keyed} {bs n h0 : Nat} {Q : Option Nat → SortSt → Prop} (O : Orc prog w A s f o z) (kd : kindOf st = tuples' f) (hx : ∀ p ∈ xs.toList, p ∈ z.toList) (hk : ky ∈ z.toList) (hn : bs + n ≤ xs.size) (hh : h0 < n) (up : ∀ i j (hij : i ≤ j) (hj : bs + j < xs.size), j < n → le2 o (xs[bs + i]'(by omega)) xs[bs + j])
    (q : ∀ k, k ≤ n → (∀ i (hi : bs + i < xs.size), i < k → le2 o xs[bs + i] ky) → (∀ i (hi : bs + i < xs.size), k ≤ i → i < n → o.klt (kv o ky) (kv o xs[bs + i])) → Q (some k) st) : wpS (model prog w) A E s (gal false ky xs bs n h0) Q st := by
  refine gal_wp (B := fun i => if hi : bs + i < xs.size then !o.blt (kv o ky) (kv o xs[bs + i]) else false) (fun i hi R hR => ?_) (fun i j hij hj h => ?_) hh fun k hk1 h1 h2 => q k hk1 (fun i hi hik => ?_) (fun i hi hik hin => ?_)
  · rw [dif_pos (by omega)] at hR
    refine wpS_bind (el_wp (by omega) ?_)
    rw [if_neg Bool.false_ne_true]
    exact wpS_bind (lt_wp O kd hk (hx _ (mem_at _)) (wpS_pure hR))
  · have hj2 : bs + j < xs.size := by omega
    have hi2 : bs + i < xs.size := by omega
    simp only [dif_pos hj2, dif_pos hi2, Bool.not_eq_true'] at h ⊢
    exact KeyOrd.kle_trans (up i j hij hj2 hj) h
  · have := h1 i hik
    rw [dif_pos hi, Bool.not_eq_true'] at this
    exact this
  · have := h2 i hik hin
    rw [dif_pos hi, Bool.not_eq_false'] at this
    exact this
structure ML (o : KeyKind) (a b out : Array Keyed) (i j : Nat) : Prop where
  pm : (out.toList ++ (a.toList.drop i ++ b.toList.drop j)).Perm (a.toList ++ b.toList)
  up : Up o out.toList
  le : ∀ p ∈ out.toList, ∀ q ∈ a.toList.drop i ++ b.toList.drop j, le2 o p q
theorem ML.mvA {a b out : Array Keyed} {i j k : Nat} (m : ML o a b out i j) (ua : Up o a.toList) (hk : i + k ≤ a.size) (h : ∀ p ∈ (a.toList.drop i).take k, ∀ q ∈ b.toList.drop j, le2 o p q) : ML o a b (out ++ a.extract i (i + k)) (i + k) j := by
  have e : (out ++ a.extract i (i + k)).toList = out.toList ++ (a.toList.drop i).take k := by
    rw [Array.toList_append, Array.toList_extract, List.extract_eq_drop_take, Nat.add_sub_cancel_left]
  have e2 : a.toList.drop i = (a.toList.drop i).take k ++ a.toList.drop (i + k) := by rw [← List.drop_drop, List.take_append_drop]
  have ud : Up o (a.toList.drop i) := ua.drop
  refine ⟨?_, ?_, ?_⟩
  · rw [e, List.append_assoc, ← List.append_assoc (List.take _ _), ← e2]; exact m.pm
  · rw [e]
    refine List.pairwise_append.mpr ⟨m.up, ud.take, fun p hp q hq => m.le p hp q (List.mem_append_left _ (List.mem_of_mem_take hq))⟩
  · rw [e]
    intro p hp q hq
    rcases List.mem_append.mp hp with hp | hp
    · rcases List.mem_append.mp hq with hq | hq
      · exact m.le p hp q (List.mem_append_left _ (by rw [e2]; exact List.mem_append_right _ hq))
      · exact m.le p hp q (List.mem_append_right _ hq)
    · rcases List.mem_append.mp hq with hq | hq
      · rw [e2] at ud
        exact (List.pairwise_append.mp ud).2.2 p hp q hq
      · exact h p hp q hq
theorem ML.mvB {a b out : Array Keyed} {i j k : Nat} (m : ML o a b out i j) (ub : Up o b.toList) (hk : j + k ≤ b.size) (h : ∀ p ∈ (b.toList.drop j).take k, ∀ q ∈ a.toList.drop i, le2 o p q) : ML o a b (out ++ b.extract j (j + k)) i (j + k) := by
  have e : (out ++ b.extract j (j + k)).toList = out.toList ++ (b.toList.drop j).take k := by
    rw [Array.toList_append, Array.toList_extract, List.extract_eq_drop_take, Nat.add_sub_cancel_left]
  have e2 : b.toList.drop j = (b.toList.drop j).take k ++ b.toList.drop (j + k) := by rw [← List.drop_drop, List.take_append_drop]
  have ud : Up o (b.toList.drop j) := ub.drop
  refine ⟨?_, ?_, ?_⟩
  · rw [e]
    refine List.Perm.trans ?_ m.pm
    rw [List.append_assoc]
    refine List.Perm.append_left _ ?_
    conv => rhs; rw [e2]
    exact (List.perm_append_comm_assoc _ _ _)
  · rw [e]
    refine List.pairwise_append.mpr ⟨m.up, ud.take, fun p hp q hq => m.le p hp q (List.mem_append_right _ (List.mem_of_mem_take hq))⟩
  · rw [e]
    intro p hp q hq
    rcases List.mem_append.mp hp with hp | hp
    · rcases List.mem_append.mp hq with hq | hq
      · exact m.le p hp q (List.mem_append_left _ hq)
      · exact m.le p hp q (List.mem_append_right _ (by rw [e2]; exact List.mem_append_right _ hq))
    · rcases List.mem_append.mp hq with hq | hq
      · exact h p hp q hq
      · rw [e2] at ud
        exact (List.pairwise_append.mp ud).2.2 p hp q hq
theorem ext1 {xs : Array Keyed} {i : Nat} (hi : i < xs.size) : xs.extract i (i + 1) = #[xs[i]] := by
  apply Array.toList_inj.mp
  rw [Array.toList_extract, List.extract_eq_drop_take, Nat.add_sub_cancel_left, List.drop_eq_getElem_cons (by simpa using hi)]
  simp
theorem push_ext {out xs : Array Keyed} {i : Nat} (hi : i < xs.size) : out.push xs[i] = out ++ xs.extract i (i + 1) := by
  rw [ext1 hi, Array.push_eq_append]
theorem mem_drop {xs : Array Keyed} {i : Nat} {p : Keyed} (h : p ∈ xs.toList.drop i) : ∃ k, ∃ hk : i + k < xs.size, p = xs[i + k] := by
  obtain ⟨k, hk, e⟩ := List.mem_iff_getElem.mp h
  rw [List.length_drop, Array.length_toList] at hk
  refine ⟨k, by omega, ?_⟩
  rw [← e, List.getElem_drop, Array.getElem_toList]
theorem mem_tk {xs : Array Keyed} {i n : Nat} {p : Keyed} (h : p ∈ (xs.toList.drop i).take n) : ∃ k, ∃ hk : i + k < xs.size, k < n ∧ p = xs[i + k] := by
  obtain ⟨k, hk, e⟩ := List.mem_iff_getElem.mp h
  rw [List.length_take, List.length_drop, Array.length_toList] at hk
  refine ⟨k, by omega, by omega, ?_⟩
  rw [← e, List.getElem_take, List.getElem_drop, Array.getElem_toList]
structure Mg (o : KeyKind) (a b m : Array Keyed) : Prop where
  pm : m.toList.Perm (a.toList ++ b.toList)
  up : Up o m.toList
theorem ML.endA {a b out : Array Keyed} {i j : Nat} (m : ML o a b out i j) (ua : Up o a.toList) (ub : Up o b.toList) (h : j = b.size ∨ i = a.size) : Mg o a b (dnA a b out i j) := by
  have e : (dnA a b out i j).toList = out.toList ++ (a.toList.drop i ++ b.toList.drop j) := by
    unfold dnA
    rw [Array.toList_append, Array.toList_append, Array.toList_extract, Array.toList_extract, List.extract_eq_drop_take, List.extract_eq_drop_take, List.append_assoc]
    congr 2 <;> exact List.take_of_length_le (by simp)
  have z0 : a.toList.drop i = [] ∨ b.toList.drop j = [] := by
    rcases h with h | h
    · exact .inr (List.drop_eq_nil_of_le (by simp [h]))
    · exact .inl (List.drop_eq_nil_of_le (by simp [h]))
  refine ⟨by rw [e]; exact m.pm, ?_⟩
  rw [e]
  refine List.pairwise_append.mpr ⟨m.up, ?_, m.le⟩
  rcases z0 with z0 | z0 <;> rw [z0]
  · exact ub.drop
  · rw [List.append_nil]; exact ua.drop
theorem ML.endB {a b out : Array Keyed} {i j : Nat} (m : ML o a b out i j) (ub : Up o b.toList) (h : i + 1 = a.size) (hl : ∀ p ∈ b.toList, ∀ hi : i < a.size, le2 o p a[i]) : Mg o a b (dnB a b out i j) := by
  have hi : i < a.size := by omega
  have e1 : a.toList.drop i = [a[i]] := by
    rw [List.drop_eq_getElem_cons (by simpa using hi), List.drop_eq_nil_of_le (by simp; omega)]; simp
  have e : (dnB a b out i j).toList = out.toList ++ (b.toList.drop j ++ a.toList.drop i) := by
    unfold dnB
    rw [Array.toList_append, Array.toList_append, Array.toList_extract, Array.toList_extract, List.extract_eq_drop_take, List.extract_eq_drop_take, List.append_assoc]
    congr 2 <;> exact List.take_of_length_le (by simp)
  refine ⟨?_, ?_⟩
  · rw [e]
    exact List.Perm.trans (List.Perm.append_left _ List.perm_append_comm) m.pm
  · rw [e]
    refine List.pairwise_append.mpr ⟨m.up, List.pairwise_append.mpr ⟨ub.drop, by rw [e1]; exact List.pairwise_singleton _ _, fun p hp q hq => ?_⟩, fun p hp q hq => m.le p hp q ?_⟩
    · rw [e1, List.mem_singleton] at hq
      rw [hq]
      exact hl p (List.mem_of_mem_drop hp) hi
    · rcases List.mem_append.mp hq with hq | hq
      · exact List.mem_append_right _ hq
      · exact List.mem_append_left _ hq
end
end TS
namespace TS
open PySem PyProof.Rows L2
abbrev LS := Option (Array Keyed) × Array Keyed × Nat × Nat × Nat × Nat × Nat
def lo3 (a b : Array Keyed) (i mg ca cb : Nat) (out : Array Keyed) (j : Nat) : StateT SortSt Sem (ForInStep LS) := do
  let x ← elem' a i
  if (i + 1 + 1 == a.size) = true then pure (.done (some (dnB a b (out.push x) (i + 1) j), out.push x, i + 1, j, mg, ca, cb))
  else if (decide (ca < 7) && decide (cb < 7)) = true then pure (.done (none, out.push x, i + 1, j, mg, ca, cb))
  else pure (.yield (none, out.push x, i + 1, j, mg, ca, cb))
def lo2 (a b : Array Keyed) (j mg ca cb : Nat) (out : Array Keyed) (i : Nat) : StateT SortSt Sem (ForInStep LS) := do
  let x ← elem' b j
  if (j + 1 == b.size) = true then pure (.done (some (dnA a b (out.push x) i (j + 1)), out.push x, i, j + 1, mg, ca, cb))
  else
    let y ← elem' a i
    let some k ← gal true y b (j + 1) (b.size - (j + 1)) 0 | pure (.done (some (dnA a b (out.push x) i (j + 1)), out.push x, i, j + 1, mg, ca, cb))
    if k > 0 then
      if (j + 1 + k == b.size) = true then pure (.done (some (dnA a b (out.push x ++ b.extract (j + 1) (j + 1 + k)) i (j + 1 + k)), out.push x ++ b.extract (j + 1) (j + 1 + k), i, j + 1 + k, mg, ca, k))
      else lo3 a b i mg ca k (out.push x ++ b.extract (j + 1) (j + 1 + k)) (j + 1 + k)
    else lo3 a b i mg ca k (out.push x) (j + 1)
def lo1 (a b out : Array Keyed) (i j ca cb mg : Nat) : StateT SortSt Sem (ForInStep LS) := do
  sMin mg
  let x ← elem' b j
  let some k ← gal false x a i (a.size - i) 0 | pure (.done (some (dnA a b out i j), out, i, j, mg, ca, cb))
  if k > 0 then
    if (i + k + 1 == a.size) = true then pure (.done (some (dnB a b (out ++ a.extract i (i + k)) (i + k) j), out ++ a.extract i (i + k), i + k, j, mg, k, cb))
    else if (i + k == a.size) = true then pure (.done (some (dnA a b (out ++ a.extract i (i + k)) (i + k) j), out ++ a.extract i (i + k), i + k, j, mg, k, cb))
    else lo2 a b j mg k cb (out ++ a.extract i (i + k)) (i + k)
  else lo2 a b j mg k cb out i
section
variable {prog : Program} {w : World} {A : Around} {E : Value → Shared → Prop} {s : Shared} {f : Bool} {z : Array Keyed} {o : KeyKind}
structure LI (o : KeyKind) (a b : Array Keyed) (st : SortSt) (t : Nat) (out : Array Keyed) (i j : Nat) (y : SortSt) : Prop where
  sm : Sm st y
  ml : ML o a b out i j
  hi : i + 1 < a.size
  hj : j < b.size
  tt : t ≤ i + j
def LFin (o : KeyKind) (a b : Array Keyed) (st : SortSt) (t : Nat) (c : LS) (y : SortSt) : Prop := (∃ m, c.1 = some m ∧ Sm st y ∧ Mg o a b m) ∨ (c.1 = none ∧ LI o a b st t c.2.1 c.2.2.1 c.2.2.2.1 y)
def LPost (o : KeyKind) (a b : Array Keyed) (st : SortSt) (t : Nat) : ForInStep LS → SortSt → Prop := fun r y => match r with | .done c => LFin o a b st t c y | .yield c => c.1 = none ∧ LI o a b st t c.2.1 c.2.2.1 c.2.2.2.1 y
structure Two (o : KeyKind) (f : Bool) (z a b : Array Keyed) (st : SortSt) : Prop where
  kd : kindOf st = tuples' f
  ma : ∀ p ∈ a.toList, p ∈ z.toList
  mb : ∀ p ∈ b.toList, p ∈ z.toList
  ua : Up o a.toList
  ub : Up o b.toList
  hl : ∀ p ∈ b.toList, ∀ hi : a.size - 1 < a.size, le2 o p a[a.size - 1]
  h0 : ∀ p ∈ a.toList, ∀ hi : 0 < b.size, le2 o b[0] p
theorem Sm.trans {x y u : SortSt} (h : Sm x y) (g : Sm y u) : Sm x u := ⟨g.ar.trans h.ar, g.kd.trans h.kd, g.fl.trans h.fl, g.pd.trans h.pd⟩
theorem Two.last {a b : Array Keyed} {st : SortSt} (T : Two o f z a b st) {i : Nat} (h : i + 1 = a.size) : ∀ p ∈ b.toList, ∀ hi : i < a.size, le2 o p a[i] := fun p hp hi => by
  have e : a.size - 1 = i := by omega
  have := T.hl p hp (by omega)
  simp only [e] at this
  exact this
theorem lo3_wp {a b : Array Keyed} {st y : SortSt} {t i j mg ca cb : Nat} {out : Array Keyed} (T : Two o f z a b st) (sm : Sm st y) (ml : ML o a b out i j) (hi : i + 1 < a.size) (hj : j < b.size) (tt : t ≤ i + j + 1) (h : ∀ q ∈ b.toList.drop j, le2 o a[i] q) :
    wpS (model prog w) A E s (lo3 a b i mg ca cb out j) (LPost o a b st t) y := by
  refine wpS_bind (el_wp (by omega) ?_)
  have m2 : ML o a b (out.push a[i]) (i + 1) j := by
    rw [push_ext (by omega)]
    refine ml.mvA T.ua (by omega) fun p hp q hq => ?_
    obtain ⟨k, hk, k1, rfl⟩ := mem_tk hp
    obtain rfl : k = 0 := by omega
    exact h q hq
  rcases Nat.lt_or_ge (i + 1 + 1) a.size with h1 | h1
  · rw [if_neg (by rw [beq_iff_eq]; omega)]
    have li : LI o a b st t (out.push a[i]) (i + 1) j y := ⟨sm, m2, h1, hj, by omega⟩
    split
    · exact wpS_pure (.inr ⟨rfl, li⟩)
    · exact wpS_pure ⟨rfl, li⟩
  · rw [if_pos (by rw [beq_iff_eq]; omega)]
    exact wpS_pure (.inl ⟨_, rfl, sm, m2.endB T.ub (by omega) (T.last (by omega))⟩)
theorem drop_lt {xs : Array Keyed} {j k : Nat} {q : Keyed} (h : q ∈ xs.toList.drop (j + k)) : ∃ g, ∃ hg : j + g < xs.size, k ≤ g ∧ q = xs[j + g] := by
  obtain ⟨g, hg, rfl⟩ := mem_drop h
  exact ⟨k + g, by omega, by omega, by congr 1; omega⟩
theorem lo2_wp {a b : Array Keyed} {st y : SortSt} {t i j mg ca cb : Nat} {out : Array Keyed} (O : Orc prog w A s f o z) (T : Two o f z a b st) (sm : Sm st y) (ml : ML o a b out i j) (hi : i + 1 < a.size) (hj : j < b.size) (tt : t ≤ i + j) (h : ∀ q ∈ a.toList.drop i, le2 o b[j] q) :
    wpS (model prog w) A E s (lo2 a b j mg ca cb out i) (LPost o a b st t) y := by
  refine wpS_bind (el_wp hj ?_)
  have m2 : ML o a b (out.push b[j]) i (j + 1) := by
    rw [push_ext hj]
    refine ml.mvB T.ub (by omega) fun p hp q hq => ?_
    obtain ⟨k, hk, k1, rfl⟩ := mem_tk hp
    obtain rfl : k = 0 := by omega
    exact h q hq
  rcases Nat.lt_or_ge (j + 1) b.size with h1 | h1
  · rw [if_neg (by rw [beq_iff_eq]; omega)]
    refine wpS_bind (el_wp (by omega) (wpS_bind (gal_left O (sm.kd.trans T.kd) T.mb (T.ma _ (mem_at _)) (by omega) (by omega) (fun g k hgk hk _ => T.ub.at_ (by omega) hk) fun k hk less rest => ?_)))
    show wpS _ _ _ _ (if k > 0 then _ else _) _ _
    have rest2 : ∀ q ∈ b.toList.drop (j + 1 + k), le2 o a[i] q := fun q hq => by
      obtain ⟨g, hg, hkg, rfl⟩ := drop_lt hq
      exact rest g hg hkg (by omega)
    rcases Nat.lt_or_ge 0 k with h2 | h2
    · rw [if_pos h2]
      have m3 : ML o a b (out.push b[j] ++ b.extract (j + 1) (j + 1 + k)) i (j + 1 + k) := m2.mvB T.ub (by omega) fun p hp q hq => by
        obtain ⟨g, hg, g1, rfl⟩ := mem_tk hp
        obtain ⟨g', hg', rfl⟩ := mem_drop hq
        exact le2_trans (KeyOrd.kle_of_klt (less g hg g1)) (T.ua.at_ (by omega) hg')
      rcases Nat.lt_or_ge (j + 1 + k) b.size with h3 | h3
      · rw [if_neg (by rw [beq_iff_eq]; omega)]
        exact lo3_wp T sm m3 hi h3 (by omega) rest2
      · rw [if_pos (by rw [beq_iff_eq]; omega)]
        exact wpS_pure (.inl ⟨_, rfl, sm, m3.endA T.ua T.ub (.inl (by omega))⟩)
    · rw [if_neg (by omega)]
      obtain rfl : k = 0 := by omega
      exact lo3_wp T sm m2 hi h1 (by omega) rest2
  · rw [if_pos (by rw [beq_iff_eq]; omega)]
    exact wpS_pure (.inl ⟨_, rfl, sm, m2.endA T.ua T.ub (.inl (by omega))⟩)
theorem sMin_wp {y : SortSt} {mg : Nat} {Q : Unit → SortSt → Prop} (h : ∀ y', Sm y y' → Q () y') : wpS (model prog w) A E s (sMin mg) Q y := wpS_modify (h _ ⟨rfl, rfl, rfl, rfl⟩)
theorem lo1_wp {a b : Array Keyed} {st y : SortSt} {t i j mg ca cb : Nat} {out : Array Keyed} (O : Orc prog w A s f o z) (T : Two o f z a b st) (li : LI o a b st t out i j y) :
    wpS (model prog w) A E s (lo1 a b out i j ca cb mg) (LPost o a b st t) y := by
  obtain ⟨sm0, ml, hi, hj, tt⟩ := li
  refine wpS_bind (sMin_wp fun y' s' => ?_)
  have sm := sm0.trans s'
  refine wpS_bind (el_wp hj (wpS_bind (gal_right O (sm.kd.trans T.kd) T.ma (T.mb _ (mem_at _)) (by omega) (by omega) (fun g k hgk hk _ => T.ua.at_ (by omega) hk) fun k hk less rest => ?_)))
  show wpS _ _ _ _ (if k > 0 then _ else _) _ _
  have rest2 : ∀ q ∈ a.toList.drop (i + k), le2 o b[j] q := fun q hq => by
    obtain ⟨g, hg, hkg, rfl⟩ := drop_lt hq
    exact KeyOrd.kle_of_klt (rest g hg hkg (by omega))
  rcases Nat.lt_or_ge 0 k with h2 | h2
  · rw [if_pos h2]
    have m2 : ML o a b (out ++ a.extract i (i + k)) (i + k) j := ml.mvA T.ua (by omega) fun p hp q hq => by
      obtain ⟨g, hg, g1, rfl⟩ := mem_tk hp
      obtain ⟨g', hg', rfl⟩ := mem_drop hq
      exact le2_trans (less g hg g1) (T.ub.at_ (by omega) hg')
    rcases Nat.lt_or_ge (i + k + 1) a.size with h3 | h3
    · rw [if_neg (by rw [beq_iff_eq]; omega), if_neg (by rw [beq_iff_eq]; omega)]
      exact lo2_wp O T sm m2 h3 hj (by omega) rest2
    · rcases Nat.lt_or_ge a.size (i + k + 1) with h4 | h4
      · rw [if_neg (by rw [beq_iff_eq]; omega), if_pos (by rw [beq_iff_eq]; omega)]
        exact wpS_pure (.inl ⟨_, rfl, sm, m2.endA T.ua T.ub (.inr (by omega))⟩)
      · rw [if_pos (by rw [beq_iff_eq]; omega)]
        exact wpS_pure (.inl ⟨_, rfl, sm, m2.endB T.ub (by omega) (T.last (by omega))⟩)
  · rw [if_neg (by omega)]
    obtain rfl : k = 0 := by omega
    exact lo2_wp O T sm ml hi hj tt rest2
theorem mLo_wp {st : SortSt} {a b : Array Keyed} {Q : Array Keyed → SortSt → Prop} (O : Orc prog w A s f o z) (T : Two o f z a b st) (ha : 0 < a.size) (hb : 0 < b.size) (q : ∀ m y, Sm st y → Mg o a b m → Q m y) : wpS (model prog w) A E s (mLo a b) Q st := by
  rw [mLo_eq]
  refine wpS_bind (wpS_lift (wpAny_rule ⟨rfl, wpS_bind (el_wp hb ?_)⟩))
  have m1 : ML o a b #[b[0]] 0 1 := by
    refine ⟨?_, List.pairwise_singleton _ _, fun p hp q hq => ?_⟩
    · have e : b.toList = b[0] :: b.toList.drop 1 := by
        have := List.drop_eq_getElem_cons (l := b.toList) (i := 0) (by simpa using hb)
        simpa using this
      show (b[0] :: (a.toList ++ b.toList.drop 1)).Perm _
      conv => rhs; rw [e]
      exact List.perm_middle.symm
    · obtain rfl := List.mem_singleton.mp hp
      rcases List.mem_append.mp hq with hq | hq
      · exact T.h0 q hq hb
      · obtain ⟨k, hk, rfl⟩ := mem_drop hq
        exact T.ub.at_ (Nat.zero_le _) hk
  rcases Nat.lt_or_ge 1 b.size with hb2 | hb2
  rotate_left
  · rw [if_pos (by rw [beq_iff_eq]; omega)]
    exact wpS_pure (q _ _ (Sm.refl _) (m1.endA T.ua T.ub (.inl (by omega))))
  rw [if_neg (by rw [beq_iff_eq]; omega)]
  rcases Nat.lt_or_ge 1 a.size with ha2 | ha2
  rotate_left
  · rw [if_pos (by rw [beq_iff_eq]; omega)]
    exact wpS_pure (q _ _ (Sm.refl _) (m1.endB T.ub (by omega) (T.last (by omega))))
  rw [if_neg (by rw [beq_iff_eq]; omega)]
  refine wpS_bind (wpS_get (wpS_bind (wpS_mono (wpS_forRange (I := fun x c y => c.1 = none ∧ LI o a b st (1 + x) c.2.1 c.2.2.1 c.2.2.2.1 y) (Q := fun c y => ∃ m, c.1 = some m ∧ Sm st y ∧ Mg o a b m) (fun x c y _ _ hy => ?_) (fun c y hy => ?_) ⟨rfl, Sm.refl _, m1, by show 0 + 1 < _; omega, hb2, by show 1 + 0 ≤ 0 + 1; omega⟩) fun c y hy => ?_)))
  · obtain ⟨c1, out, i, j, mg⟩ := c
    obtain ⟨e1, li⟩ := hy
    refine wpS_bind (wpS_mono (wpS_forRange (I := fun x' c y => c.1 = none ∧ LI o a b st (1 + x + x') c.2.1 c.2.2.1 c.2.2.2.1 y) (Q := fun c y => (∃ m, c.1 = some m ∧ Sm st y ∧ Mg o a b m) ∨ (c.1 = none ∧ LI o a b st (1 + x + 1) c.2.1 c.2.2.1 c.2.2.2.1 y)) (fun x' c y _ _ hy => ?_) (fun c y hy => ?_) ⟨rfl, li⟩) fun c y hy => ?_)
    · obtain ⟨c1, out, i, j, ca, cb⟩ := c
      obtain ⟨e1, sm, ml, hi, hj, tt⟩ := hy
      change i + 1 < a.size at hi
      change j < b.size at hj
      change 1 + x + x' ≤ i + j at tt
      change ML o a b out i j at ml
      refine wpS_bind (el_wp hj (wpS_bind (el_wp (show i < a.size by omega) (wpS_bind (lt_wp O (sm.kd.trans T.kd) (T.mb _ (mem_at _)) (T.ma _ (mem_at _)) ?_)))))
      show wpS _ _ _ _ (if o.blt (kv o b[j]) (kv o a[i]) = true then _ else _) _ _
      cases hv : o.blt (kv o b[j]) (kv o a[i]) with
      | true =>
        rw [if_pos rfl]
        refine wpS_bind (el_wp hj ?_)
        have m2 : ML o a b (out.push b[j]) i (j + 1) := by
          rw [push_ext hj]
          refine ml.mvB T.ub (by omega) fun p hp q hq => ?_
          obtain ⟨k, hk, k1, rfl⟩ := mem_tk hp
          obtain rfl : k = 0 := by omega
          obtain ⟨g, hg, rfl⟩ := mem_drop hq
          exact le2_trans (KeyOrd.kle_of_klt hv) (T.ua.at_ (by omega) hg)
        show wpS _ _ _ _ (if (j + 1 == b.size) = true then _ else _) _ _
        rcases Nat.lt_or_ge (j + 1) b.size with h1 | h1
        · rw [if_neg (by rw [beq_iff_eq]; omega)]
          have li : ∀ t, t ≤ i + (j + 1) → LI o a b st t (out.push b[j]) i (j + 1) y := fun t ht => ⟨sm, m2, hi, h1, ht⟩
          show wpS _ _ _ _ (if cb + 1 ≥ mg then _ else _) _ _
          split
          · exact wpS_pure (.inr ⟨rfl, li _ (by omega)⟩)
          · exact wpS_pure ⟨rfl, li _ (by omega)⟩
        · rw [if_pos (by rw [beq_iff_eq]; omega)]
          exact wpS_pure (.inl ⟨_, rfl, sm, m2.endA T.ua T.ub (.inl (by omega))⟩)
      | false =>
        rw [if_neg Bool.false_ne_true]
        refine wpS_bind (el_wp (show i < a.size by omega) ?_)
        have m2 : ML o a b (out.push a[i]) (i + 1) j := by
          rw [push_ext (show i < a.size by omega)]
          refine ml.mvA T.ua (by omega) fun p hp q hq => ?_
          obtain ⟨k, hk, k1, rfl⟩ := mem_tk hp
          obtain rfl : k = 0 := by omega
          obtain ⟨g, hg, rfl⟩ := mem_drop hq
          exact le2_trans (show le2 o a[i] b[j] from hv) (T.ub.at_ (by omega) hg)
        show wpS _ _ _ _ (if (i + 1 + 1 == a.size) = true then _ else _) _ _
        rcases Nat.lt_or_ge (i + 1 + 1) a.size with h1 | h1
        · rw [if_neg (by rw [beq_iff_eq]; omega)]
          have li : ∀ t, t ≤ i + 1 + j → LI o a b st t (out.push a[i]) (i + 1) j y := fun t ht => ⟨sm, m2, h1, hj, ht⟩
          show wpS _ _ _ _ (if ca + 1 ≥ mg then _ else _) _ _
          split
          · exact wpS_pure (.inr ⟨rfl, li _ (by omega)⟩)
          · exact wpS_pure ⟨rfl, li _ (by omega)⟩
        · rw [if_pos (by rw [beq_iff_eq]; omega)]
          exact wpS_pure (.inl ⟨_, rfl, sm, m2.endB T.ub (by omega) (T.last (by omega))⟩)
    · obtain ⟨e1, li⟩ := hy
      have h1 := li.hi
      have h2 := li.hj
      exact .inr ⟨e1, li.sm, li.ml, li.hi, li.hj, Nat.le_trans (by omega) li.tt⟩
    · obtain ⟨c1, out, i, j, ca, cb⟩ := c
      rcases hy with ⟨m, rfl, sm, mm⟩ | ⟨rfl, li⟩
      · exact wpS_pure ⟨m, rfl, sm, mm⟩
      · refine wpS_bind (wpS_lift (wpAny_rule ⟨rfl, wpS_bind (wpS_mono (wpS_forRange (I := fun x' c y => c.1 = none ∧ LI o a b st (1 + x + 1) c.2.1 c.2.2.1 c.2.2.2.1 y) (Q := LFin o a b st (1 + x + 1)) (fun x' c y _ _ hy => ?_) (fun c y hy => .inr hy) ⟨rfl, li⟩) fun c y hy => ?_)⟩))
        · obtain ⟨c1, out, i, j, mg, ca, cb⟩ := c
          obtain ⟨e1, li⟩ := hy
          show wpS _ _ _ _ (if mg > 1 then lo1 a b out i j ca cb (mg - 1) else lo1 a b out i j ca cb mg) _ _
          change LI o a b st (1 + x + 1) out i j y at li
          split
          · exact wpS_mono (lo1_wp O T li) fun r y h => by cases r <;> exact h
          · exact wpS_mono (lo1_wp O T li) fun r y h => by cases r <;> exact h
        · obtain ⟨c1, out, i, j, mg, ca, cb⟩ := c
          rcases hy with ⟨m, rfl, sm, mm⟩ | ⟨rfl, li⟩
          · exact wpS_pure ⟨m, rfl, sm, mm⟩
          · exact wpS_bind (sMin_wp fun y' s' => wpS_pure ⟨rfl, li.sm.trans s', li.ml, li.hi, li.hj, by have := li.tt; omega⟩)
  · obtain ⟨e1, li⟩ := hy
    have h1 := li.hi
    have h2 := li.hj
    have h3 := li.tt
    omega
  · obtain ⟨c1, out, i, j, mg⟩ := c
    obtain ⟨m, rfl, sm, mm⟩ := hy
    exact wpS_pure (q m y sm mm)
end
end TS
namespace TS
open PySem PyProof.Rows L2
def dnC (a b out : Array Keyed) (m n : Nat) : Array Keyed := a.extract 0 m ++ b.extract 0 n ++ out.reverse
def dnD (a b out : Array Keyed) (m n : Nat) : Array Keyed := b.extract 0 n ++ a.extract 0 m ++ out.reverse
theorem mHi_eq (a b : Array Keyed) : mHi a b = (do
    liftM (rule "list.sort.merge-hi")
    let tt := a.size + b.size
    let mut m := a.size - 1
    let mut n := b.size
    let mut out : Array Keyed := #[← elem' a m]
    if m == 0 then return dnC a b out m n
    if n == 1 then return dnD a b out m n
    let mut mg := gallopOf (← get)
    for _ in [0:tt] do
      let mut ca := 0
      let mut cb := 0
      for _ in [0:tt] do
        let some aw ← lt' (← elem' b (n - 1)) (← elem' a (m - 1)) | return dnC a b out m n
        if aw then
          m := m - 1; out := out.push (← elem' a m); ca := ca + 1; cb := 0
          if m == 0 then return dnC a b out m n
          if ca ≥ mg then break
        else
          n := n - 1; out := out.push (← elem' b n); cb := cb + 1; ca := 0
          if n == 1 then return dnD a b out m n
          if cb ≥ mg then break
      liftM (rule "list.sort.gallop")
      mg := mg + 1
      for _ in [0:tt] do
        if mg > 1 then mg := mg - 1
        sMin mg
        let some g ← gal false (← elem' b (n - 1)) a 0 m (m - 1) | return dnC a b out m n
        let k := m - g
        ca := k
        if k > 0 then
          out := out ++ (a.extract g m).reverse; m := g
          if m == 0 then return dnC a b out m n
        n := n - 1; out := out.push (← elem' b n)
        if n == 1 then return dnD a b out m n
        let some g ← gal true (← elem' a (m - 1)) b 0 n (n - 1) | return dnC a b out m n
        let k := n - g
        cb := k
        if k > 0 then
          out := out ++ (b.extract g n).reverse; n := g
          if n == 1 then return dnD a b out m n
          if n == 0 then return dnC a b out m n
        m := m - 1; out := out.push (← elem' a m)
        if m == 0 then return dnC a b out m n
        if ca < 7 && cb < 7 then break
      mg := mg + 1
      sMin mg
    unsupported "internal:list.sort.merge-bound") := rfl
abbrev HS := Option (Array Keyed) × Nat × Nat × Array Keyed × Nat × Nat × Nat
def hi3 (a b : Array Keyed) (m mg ca cb : Nat) (out : Array Keyed) (n : Nat) : StateT SortSt Sem (ForInStep HS) := do
  let x ← elem' a (m - 1)
  if (m - 1 == 0) = true then pure (.done (some (dnC a b (out.push x) (m - 1) n), m - 1, n, out.push x, mg, ca, cb))
  else if (decide (ca < 7) && decide (cb < 7)) = true then pure (.done (none, m - 1, n, out.push x, mg, ca, cb))
  else pure (.yield (none, m - 1, n, out.push x, mg, ca, cb))
def hi2 (a b : Array Keyed) (n mg ca cb : Nat) (out : Array Keyed) (m : Nat) : StateT SortSt Sem (ForInStep HS) := do
  let x ← elem' b (n - 1)
  if (n - 1 == 1) = true then pure (.done (some (dnD a b (out.push x) m (n - 1)), m, n - 1, out.push x, mg, ca, cb))
  else
    let y ← elem' a (m - 1)
    let some g ← gal true y b 0 (n - 1) (n - 1 - 1) | pure (.done (some (dnC a b (out.push x) m (n - 1)), m, n - 1, out.push x, mg, ca, cb))
    if n - 1 - g > 0 then
      if (g == 1) = true then pure (.done (some (dnD a b (out.push x ++ (b.extract g (n - 1)).reverse) m g), m, g, out.push x ++ (b.extract g (n - 1)).reverse, mg, ca, n - 1 - g))
      else if (g == 0) = true then pure (.done (some (dnC a b (out.push x ++ (b.extract g (n - 1)).reverse) m g), m, g, out.push x ++ (b.extract g (n - 1)).reverse, mg, ca, n - 1 - g))
      else hi3 a b m mg ca (n - 1 - g) (out.push x ++ (b.extract g (n - 1)).reverse) g
    else hi3 a b m mg ca (n - 1 - g) (out.push x) (n - 1)
def hi1 (a b out : Array Keyed) (m n ca cb mg : Nat) : StateT SortSt Sem (ForInStep HS) := do
  sMin mg
  let x ← elem' b (n - 1)
  let some g ← gal false x a 0 m (m - 1) | pure (.done (some (dnC a b out m n), m, n, out, mg, ca, cb))
  if m - g > 0 then
    if (g == 0) = true then pure (.done (some (dnC a b (out ++ (a.extract g m).reverse) g n), g, n, out ++ (a.extract g m).reverse, mg, m - g, cb))
    else hi2 a b n mg (m - g) cb (out ++ (a.extract g m).reverse) g
  else hi2 a b n mg (m - g) cb out m
section
variable {prog : Program} {w : World} {A : Around} {E : Value → Shared → Prop} {s : Shared} {f : Bool} {z : Array Keyed} {o : KeyKind}
structure MH (o : KeyKind) (a b out : Array Keyed) (m n : Nat) : Prop where
  pm : ((a.toList.take m ++ b.toList.take n) ++ out.toList.reverse).Perm (a.toList ++ b.toList)
  up : Up o out.toList.reverse
  le : ∀ p ∈ a.toList.take m ++ b.toList.take n, ∀ q ∈ out.toList, le2 o p q
theorem ext_rev {out xs : Array Keyed} {g m : Nat} : (out ++ (xs.extract g m).reverse).toList.reverse = (xs.toList.take m).drop g ++ out.toList.reverse := by
  rw [Array.toList_append, Array.toList_reverse, Array.toList_extract, List.reverse_append, List.reverse_reverse, List.extract_eq_drop_take, ← List.drop_take]
theorem tk_split {l : List Keyed} {g m : Nat} (h : g ≤ m) : l.take m = l.take g ++ (l.take m).drop g := by
  have := (List.take_append_drop g (l.take m)).symm
  rwa [List.take_take, Nat.min_eq_left h] at this
theorem MH.mvA {a b out : Array Keyed} {m n g : Nat} (x : MH o a b out m n) (ua : Up o a.toList) (hg : g ≤ m) (h : ∀ p ∈ (a.toList.take m).drop g, ∀ q ∈ b.toList.take n, le2 o q p) : MH o a b (out ++ (a.extract g m).reverse) g n := by
  have ut : Up o (a.toList.take m) := ua.take
  have e2 := tk_split (l := a.toList) hg
  have mo : ∀ q, q ∈ (out ++ (a.extract g m).reverse).toList ↔ q ∈ (a.toList.take m).drop g ∨ q ∈ out.toList := fun q => by
    rw [← List.mem_reverse, ext_rev, List.mem_append, List.mem_reverse]
  refine ⟨?_, ?_, fun p hp q hq => ?_⟩
  · rw [ext_rev]
    refine List.Perm.trans ?_ x.pm
    rw [← List.append_assoc]
    refine List.Perm.append_right _ ?_
    conv => rhs; rw [e2]
    rw [List.append_assoc, List.append_assoc]
    exact List.Perm.append_left _ List.perm_append_comm
  · rw [ext_rev]
    refine List.pairwise_append.mpr ⟨ut.drop, x.up, fun p hp q hq => x.le p (List.mem_append_left _ (List.mem_of_mem_drop hp)) q (List.mem_reverse.mp hq)⟩
  · rcases (mo q).mp hq with hq | hq
    · rcases List.mem_append.mp hp with hp | hp
      · rw [e2] at ut
        exact (List.pairwise_append.mp ut).2.2 p hp q hq
      · exact h q hq p hp
    · refine x.le p ?_ q hq
      rcases List.mem_append.mp hp with hp | hp
      · exact List.mem_append_left _ (by rw [e2]; exact List.mem_append_left _ hp)
      · exact List.mem_append_right _ hp
theorem MH.mvB {a b out : Array Keyed} {m n g : Nat} (x : MH o a b out m n) (ub : Up o b.toList) (hg : g ≤ n) (h : ∀ p ∈ (b.toList.take n).drop g, ∀ q ∈ a.toList.take m, le2 o q p) : MH o a b (out ++ (b.extract g n).reverse) m g := by
  have ut : Up o (b.toList.take n) := ub.take
  have e2 := tk_split (l := b.toList) hg
  have mo : ∀ q, q ∈ (out ++ (b.extract g n).reverse).toList ↔ q ∈ (b.toList.take n).drop g ∨ q ∈ out.toList := fun q => by
    rw [← List.mem_reverse, ext_rev, List.mem_append, List.mem_reverse]
  refine ⟨?_, ?_, fun p hp q hq => ?_⟩
  · rw [ext_rev]
    refine List.Perm.trans ?_ x.pm
    rw [← List.append_assoc]
    refine List.Perm.append_right _ ?_
    conv => rhs; rw [e2]
    rw [List.append_assoc]
  · rw [ext_rev]
    refine List.pairwise_append.mpr ⟨ut.drop, x.up, fun p hp q hq => x.le p (List.mem_append_right _ (List.mem_of_mem_drop hp)) q (List.mem_reverse.mp hq)⟩
  · rcases (mo q).mp hq with hq | hq
    · rcases List.mem_append.mp hp with hp | hp
      · exact h q hq p hp
      · rw [e2] at ut
        exact (List.pairwise_append.mp ut).2.2 p hp q hq
    · refine x.le p ?_ q hq
      rcases List.mem_append.mp hp with hp | hp
      · exact List.mem_append_left _ hp
      · exact List.mem_append_right _ (by rw [e2]; exact List.mem_append_left _ hp)
theorem ext_tk {xs : Array Keyed} {m : Nat} : (xs.extract 0 m).toList = xs.toList.take m := by
  rw [Array.toList_extract, List.extract_eq_drop_take, List.drop_zero, Nat.sub_zero]
theorem MH.endC {a b out : Array Keyed} {m n : Nat} (x : MH o a b out m n) (ua : Up o a.toList) (ub : Up o b.toList) (h : m = 0 ∨ n = 0) : Mg o a b (dnC a b out m n) := by
  have e : (dnC a b out m n).toList = (a.toList.take m ++ b.toList.take n) ++ out.toList.reverse := by
    unfold dnC
    rw [Array.toList_append, Array.toList_append, ext_tk, ext_tk, Array.toList_reverse]
  refine ⟨by rw [e]; exact x.pm, ?_⟩
  rw [e]
  refine List.pairwise_append.mpr ⟨?_, x.up, fun p hp q hq => x.le p hp q (List.mem_reverse.mp hq)⟩
  rcases h with rfl | rfl
  · rw [List.take_zero, List.nil_append]; exact ub.take
  · rw [List.take_zero, List.append_nil]; exact ua.take
theorem MH.endD {a b out : Array Keyed} {m n : Nat} (x : MH o a b out m n) (ua : Up o a.toList) (hn : n = 1) (hb : 0 < b.size) (h0 : ∀ p ∈ a.toList, le2 o b[0] p) : Mg o a b (dnD a b out m n) := by
  have e1 : b.toList.take n = [b[0]] := by
    rw [hn, List.take_one]
    have : b.toList.head? = some b[0] := by rw [List.head?_eq_getElem?]; simp [hb]
    rw [this]; rfl
  have e : (dnD a b out m n).toList = (b.toList.take n ++ a.toList.take m) ++ out.toList.reverse := by
    unfold dnD
    rw [Array.toList_append, Array.toList_append, ext_tk, ext_tk, Array.toList_reverse]
  refine ⟨?_, ?_⟩
  · rw [e]
    exact List.Perm.trans (List.Perm.append_right _ List.perm_append_comm) x.pm
  · rw [e]
    refine List.pairwise_append.mpr ⟨List.pairwise_append.mpr ⟨by rw [e1]; exact List.pairwise_singleton _ _, ua.take, fun p hp q hq => ?_⟩, x.up, fun p hp q hq => x.le p ?_ q (List.mem_reverse.mp hq)⟩
    · rw [e1, List.mem_singleton] at hp
      rw [hp]
      exact h0 q (List.mem_of_mem_take hq)
    · rcases List.mem_append.mp hp with hp | hp
      · exact List.mem_append_right _ hp
      · exact List.mem_append_left _ hp
theorem push_rev {out xs : Array Keyed} {m : Nat} (h1 : 1 ≤ m) (hm : m ≤ xs.size) : out.push (xs[m - 1]'(by omega)) = out ++ (xs.extract (m - 1) m).reverse := by
  have := ext1 (xs := xs) (i := m - 1) (by omega)
  rw [show m - 1 + 1 = m by omega] at this
  rw [this, Array.push_eq_append]
  rfl
theorem mem_td {xs : Array Keyed} {g m : Nat} {p : Keyed} (h : p ∈ (xs.toList.take m).drop g) : ∃ k, ∃ hk : k < xs.size, g ≤ k ∧ k < m ∧ p = xs[k] := by
  obtain ⟨k, hk, e⟩ := List.mem_iff_getElem.mp h
  rw [List.length_drop, List.length_take, Array.length_toList] at hk
  refine ⟨g + k, by omega, by omega, by omega, ?_⟩
  rw [← e, List.getElem_drop, List.getElem_take, Array.getElem_toList]
theorem mem_t {xs : Array Keyed} {m : Nat} {p : Keyed} (h : p ∈ xs.toList.take m) : ∃ k, ∃ hk : k < xs.size, k < m ∧ p = xs[k] := by
  obtain ⟨k, hk, e⟩ := List.mem_iff_getElem.mp h
  rw [List.length_take, Array.length_toList] at hk
  refine ⟨k, by omega, by omega, ?_⟩
  rw [← e, List.getElem_take, Array.getElem_toList]
structure HI (o : KeyKind) (a b : Array Keyed) (st : SortSt) (t : Nat) (out : Array Keyed) (m n : Nat) (y : SortSt) : Prop where
  sm : Sm st y
  mh : MH o a b out m n
  m1 : 1 ≤ m
  ma : m ≤ a.size
  n2 : 2 ≤ n
  nb : n ≤ b.size
  tt : m + n + t ≤ a.size + b.size
def HFin (o : KeyKind) (a b : Array Keyed) (st : SortSt) (t : Nat) (c : HS) (y : SortSt) : Prop := (∃ r, c.1 = some r ∧ Sm st y ∧ Mg o a b r) ∨ (c.1 = none ∧ HI o a b st t c.2.2.2.1 c.2.1 c.2.2.1 y)
def HPost (o : KeyKind) (a b : Array Keyed) (st : SortSt) (t : Nat) : ForInStep HS → SortSt → Prop := fun r y => match r with | .done c => HFin o a b st t c y | .yield c => c.1 = none ∧ HI o a b st t c.2.2.2.1 c.2.1 c.2.2.1 y
theorem hi3_wp {a b : Array Keyed} {st y : SortSt} {t m n mg ca cb : Nat} {out : Array Keyed} (T : Two o f z a b st) (sm : Sm st y) (mh : MH o a b out m n) (m1 : 1 ≤ m) (ma : m ≤ a.size) (n2 : 2 ≤ n) (nb : n ≤ b.size) (tt : m + n + t ≤ a.size + b.size + 1) (h : ∀ q ∈ b.toList.take n, ∀ hm : m - 1 < a.size, le2 o q a[m - 1]) :
    wpS (model prog w) A E s (hi3 a b m mg ca cb out n) (HPost o a b st t) y := by
  refine wpS_bind (el_wp (show m - 1 < a.size by omega) ?_)
  have m2 : MH o a b (out.push a[m - 1]) (m - 1) n := by
    rw [push_rev m1 ma]
    refine mh.mvA T.ua (by omega) fun p hp q hq => ?_
    obtain ⟨k, hk, k1, k2, rfl⟩ := mem_td hp
    obtain rfl : k = m - 1 := by omega
    exact h q hq hk
  rcases Nat.lt_or_ge 0 (m - 1) with h1 | h1
  · rw [if_neg (by rw [beq_iff_eq]; omega)]
    have hi : HI o a b st t (out.push a[m - 1]) (m - 1) n y := ⟨sm, m2, h1, by omega, n2, nb, by omega⟩
    split
    · exact wpS_pure (.inr ⟨rfl, hi⟩)
    · exact wpS_pure ⟨rfl, hi⟩
  · rw [if_pos (by rw [beq_iff_eq]; omega)]
    exact wpS_pure (.inl ⟨_, rfl, sm, m2.endC T.ua T.ub (.inl (by omega))⟩)
theorem hi2_wp {a b : Array Keyed} {st y : SortSt} {t m n mg ca cb : Nat} {out : Array Keyed} (O : Orc prog w A s f o z) (T : Two o f z a b st) (sm : Sm st y) (mh : MH o a b out m n) (m1 : 1 ≤ m) (ma : m ≤ a.size) (n2 : 2 ≤ n) (nb : n ≤ b.size) (tt : m + n + t ≤ a.size + b.size) (h : ∀ q ∈ a.toList.take m, ∀ hn : n - 1 < b.size, le2 o q b[n - 1]) :
    wpS (model prog w) A E s (hi2 a b n mg ca cb out m) (HPost o a b st t) y := by
  refine wpS_bind (el_wp (show n - 1 < b.size by omega) ?_)
  have m2 : MH o a b (out.push b[n - 1]) m (n - 1) := by
    rw [push_rev (by omega) nb]
    refine mh.mvB T.ub (by omega) fun p hp q hq => ?_
    obtain ⟨k, hk, k1, k2, rfl⟩ := mem_td hp
    obtain rfl : k = n - 1 := by omega
    exact h q hq hk
  have h0 : ∀ p ∈ a.toList, le2 o b[0] p := fun p hp => T.h0 p hp (by omega)
  rcases Nat.lt_or_ge 1 (n - 1) with h1 | h1
  · rw [if_neg (by rw [beq_iff_eq]; omega)]
    refine wpS_bind (el_wp (show m - 1 < a.size by omega) (wpS_bind (gal_left O (sm.kd.trans T.kd) T.mb (T.ma _ (mem_at _)) (by omega) (by omega) (fun g k hgk hk _ => T.ub.at_ (by omega) hk) fun g hg less rest => ?_)))
    simp only [Nat.zero_add] at less rest
    show wpS _ _ _ _ (if n - 1 - g > 0 then _ else _) _ _
    have below : ∀ q ∈ b.toList.take g, ∀ hm : m - 1 < a.size, le2 o q a[m - 1] := fun q hq hm => by
      obtain ⟨k, hk, k1, rfl⟩ := mem_t hq
      exact KeyOrd.kle_of_klt (less k hk k1)
    rcases Nat.lt_or_ge g (n - 1) with h2 | h2
    · rw [if_pos (by omega)]
      have m3 : MH o a b (out.push b[n - 1] ++ (b.extract g (n - 1)).reverse) m g := m2.mvB T.ub (by omega) fun p hp q hq => by
        obtain ⟨k, hk, k1, k2, rfl⟩ := mem_td hp
        obtain ⟨k', hk', k3, rfl⟩ := mem_t hq
        exact le2_trans (T.ua.at_ (by omega) (show m - 1 < a.size by omega)) (rest k hk k1 (by omega))
      rcases Nat.lt_or_ge 1 g with h3 | h3
      · rw [if_neg (by rw [beq_iff_eq]; omega), if_neg (by rw [beq_iff_eq]; omega)]
        exact hi3_wp T sm m3 m1 ma h3 (by omega) (by omega) below
      · rcases Nat.lt_or_ge 0 g with h4 | h4
        · rw [if_pos (by rw [beq_iff_eq]; omega)]
          exact wpS_pure (.inl ⟨_, rfl, sm, m3.endD T.ua (by omega) (by omega) h0⟩)
        · rw [if_neg (by rw [beq_iff_eq]; omega), if_pos (by rw [beq_iff_eq]; omega)]
          exact wpS_pure (.inl ⟨_, rfl, sm, m3.endC T.ua T.ub (.inr (by omega))⟩)
    · rw [if_neg (by omega)]
      obtain rfl : g = n - 1 := by omega
      exact hi3_wp T sm m2 m1 ma h1 (by omega) (by omega) below
  · rw [if_pos (by rw [beq_iff_eq]; omega)]
    exact wpS_pure (.inl ⟨_, rfl, sm, m2.endD T.ua (by omega) (by omega) h0⟩)
theorem hi1_wp {a b : Array Keyed} {st y : SortSt} {t m n mg ca cb : Nat} {out : Array Keyed} (O : Orc prog w A s f o z) (T : Two o f z a b st) (hi : HI o a b st t out m n y) :
    wpS (model prog w) A E s (hi1 a b out m n ca cb mg) (HPost o a b st t) y := by
  obtain ⟨sm0, mh, m1, ma, n2, nb, tt⟩ := hi
  refine wpS_bind (sMin_wp fun y' s' => ?_)
  have sm := sm0.trans s'
  refine wpS_bind (el_wp (show n - 1 < b.size by omega) (wpS_bind (gal_right O (sm.kd.trans T.kd) T.ma (T.mb _ (mem_at _)) (by omega) (by omega) (fun g k hgk hk _ => T.ua.at_ (by omega) hk) fun g hg less rest => ?_)))
  simp only [Nat.zero_add] at less rest
  show wpS _ _ _ _ (if m - g > 0 then _ else _) _ _
  have below : ∀ q ∈ a.toList.take g, ∀ hn : n - 1 < b.size, le2 o q b[n - 1] := fun q hq hn => by
    obtain ⟨k, hk, k1, rfl⟩ := mem_t hq
    exact less k hk k1
  rcases Nat.lt_or_ge g m with h2 | h2
  · rw [if_pos (by omega)]
    have m2 : MH o a b (out ++ (a.extract g m).reverse) g n := mh.mvA T.ua (by omega) fun p hp q hq => by
      obtain ⟨k, hk, k1, k2, rfl⟩ := mem_td hp
      obtain ⟨k', hk', k3, rfl⟩ := mem_t hq
      exact le2_trans (T.ub.at_ (by omega) (show n - 1 < b.size by omega)) (KeyOrd.kle_of_klt (rest k hk k1 (by omega)))
    rcases Nat.lt_or_ge 0 g with h3 | h3
    · rw [if_neg (by rw [beq_iff_eq]; omega)]
      exact hi2_wp O T sm m2 h3 (by omega) n2 nb (by omega) below
    · rw [if_pos (by rw [beq_iff_eq]; omega)]
      exact wpS_pure (.inl ⟨_, rfl, sm, m2.endC T.ua T.ub (.inl (by omega))⟩)
  · rw [if_neg (by omega)]
    obtain rfl : g = m := by omega
    exact hi2_wp O T sm mh m1 ma n2 nb tt below
theorem mHi_wp {st : SortSt} {a b : Array Keyed} {Q : Array Keyed → SortSt → Prop} (O : Orc prog w A s f o z) (T : Two o f z a b st) (ha : 0 < a.size) (hb : 0 < b.size) (q : ∀ m y, Sm st y → Mg o a b m → Q m y) : wpS (model prog w) A E s (mHi a b) Q st := by
  rw [mHi_eq]
  have ha1 : a.size - 1 < a.size := by omega
  have h0 : ∀ p ∈ a.toList, le2 o b[0] p := fun p hp => T.h0 p hp hb
  refine wpS_bind (wpS_lift (wpAny_rule ⟨rfl, wpS_bind (el_wp ha1 ?_)⟩))
  have m1 : MH o a b #[a[a.size - 1]] (a.size - 1) b.size := by
    have e : a.toList = a.toList.take (a.size - 1) ++ [a[a.size - 1]] := by
      have := (List.take_append_drop (a.size - 1) a.toList).symm
      rw [List.drop_eq_getElem_cons (by simpa using ha1), List.drop_eq_nil_of_le (by simp; omega)] at this
      simpa using this
    have eb : b.toList.take b.size = b.toList := List.take_of_length_le (by simp)
    refine ⟨?_, List.pairwise_singleton _ _, fun p hp q hq => ?_⟩
    · rw [eb]
      show ((a.toList.take (a.size - 1) ++ b.toList) ++ [a[a.size - 1]]).Perm _
      conv => rhs; rw [e]
      rw [List.append_assoc, List.append_assoc]
      exact List.Perm.append_left _ List.perm_append_comm
    · obtain rfl := List.mem_singleton.mp hq
      rcases List.mem_append.mp hp with hp | hp
      · obtain ⟨k, hk, k1, rfl⟩ := mem_t hp
        exact T.ua.at_ (by omega) ha1
      · exact T.hl p (List.mem_of_mem_take hp) ha1
  rcases Nat.lt_or_ge 1 a.size with ha2 | ha2
  rotate_left
  · rw [if_pos (by rw [beq_iff_eq]; omega)]
    exact wpS_pure (q _ _ (Sm.refl _) (m1.endC T.ua T.ub (.inl (by omega))))
  rw [if_neg (by rw [beq_iff_eq]; omega)]
  rcases Nat.lt_or_ge 1 b.size with hb2 | hb2
  rotate_left
  · rw [if_pos (by rw [beq_iff_eq]; omega)]
    exact wpS_pure (q _ _ (Sm.refl _) (m1.endD T.ua (by omega) hb h0))
  rw [if_neg (by rw [beq_iff_eq]; omega)]
  refine wpS_bind (wpS_get (wpS_bind (wpS_mono (wpS_forRange (I := fun x c y => c.1 = none ∧ HI o a b st (1 + x) c.2.2.2.1 c.2.1 c.2.2.1 y) (Q := fun c y => ∃ m, c.1 = some m ∧ Sm st y ∧ Mg o a b m) (fun x c y _ _ hy => ?_) (fun c y hy => ?_) ⟨rfl, Sm.refl _, m1, by show 1 ≤ a.size - 1; omega, by show a.size - 1 ≤ _; omega, hb2, Nat.le_refl _, by show a.size - 1 + b.size + (1 + 0) ≤ _; omega⟩) fun c y hy => ?_)))
  · obtain ⟨c1, m, n, out, mg⟩ := c
    obtain ⟨e1, li⟩ := hy
    refine wpS_bind (wpS_mono (wpS_forRange (I := fun x' c y => c.1 = none ∧ HI o a b st (1 + x + x') c.2.2.2.1 c.2.1 c.2.2.1 y) (Q := fun c y => (∃ m, c.1 = some m ∧ Sm st y ∧ Mg o a b m) ∨ (c.1 = none ∧ HI o a b st (1 + x + 1) c.2.2.2.1 c.2.1 c.2.2.1 y)) (fun x' c y _ _ hy => ?_) (fun c y hy => ?_) ⟨rfl, li⟩) fun c y hy => ?_)
    · obtain ⟨c1, m, n, out, ca, cb⟩ := c
      obtain ⟨e1, sm, mh, m1, ma, n2, nb, tt⟩ := hy
      change 1 ≤ m at m1
      change m ≤ a.size at ma
      change 2 ≤ n at n2
      change n ≤ b.size at nb
      change m + n + (1 + x + x') ≤ a.size + b.size at tt
      change MH o a b out m n at mh
      refine wpS_bind (el_wp (show n - 1 < b.size by omega) (wpS_bind (el_wp (show m - 1 < a.size by omega) (wpS_bind (lt_wp O (sm.kd.trans T.kd) (T.mb _ (mem_at _)) (T.ma _ (mem_at _)) ?_)))))
      show wpS _ _ _ _ (if o.blt (kv o (b[n - 1]'(by omega))) (kv o (a[m - 1]'(by omega))) = true then _ else _) _ _
      cases hv : o.blt (kv o (b[n - 1]'(by omega))) (kv o (a[m - 1]'(by omega))) with
      | true =>
        rw [if_pos rfl]
        refine wpS_bind (el_wp (show m - 1 < a.size by omega) ?_)
        have m2 : MH o a b (out.push (a[m - 1]'(by omega))) (m - 1) n := by
          rw [push_rev m1 ma]
          refine mh.mvA T.ua (by omega) fun p hp q hq => ?_
          obtain ⟨k, hk, k1, k2, rfl⟩ := mem_td hp
          obtain rfl : k = m - 1 := by omega
          obtain ⟨g, hg, g1, rfl⟩ := mem_t hq
          exact le2_trans (T.ub.at_ (show g ≤ n - 1 by omega) (show n - 1 < b.size by omega)) (KeyOrd.kle_of_klt hv)
        show wpS _ _ _ _ (if (m - 1 == 0) = true then _ else _) _ _
        rcases Nat.lt_or_ge 0 (m - 1) with h1 | h1
        · rw [if_neg (by rw [beq_iff_eq]; omega)]
          have li : ∀ t, m - 1 + n + t ≤ a.size + b.size → HI o a b st t (out.push (a[m - 1]'(by omega))) (m - 1) n y := fun t ht => ⟨sm, m2, h1, by omega, n2, nb, ht⟩
          show wpS _ _ _ _ (if ca + 1 ≥ mg then _ else _) _ _
          split
          · exact wpS_pure (.inr ⟨rfl, li _ (by omega)⟩)
          · exact wpS_pure ⟨rfl, li _ (by omega)⟩
        · rw [if_pos (by rw [beq_iff_eq]; omega)]
          exact wpS_pure (.inl ⟨_, rfl, sm, m2.endC T.ua T.ub (.inl (by omega))⟩)
      | false =>
        rw [if_neg Bool.false_ne_true]
        refine wpS_bind (el_wp (show n - 1 < b.size by omega) ?_)
        have m2 : MH o a b (out.push (b[n - 1]'(by omega))) m (n - 1) := by
          rw [push_rev (show 1 ≤ n by omega) nb]
          refine mh.mvB T.ub (by omega) fun p hp q hq => ?_
          obtain ⟨k, hk, k1, k2, rfl⟩ := mem_td hp
          obtain rfl : k = n - 1 := by omega
          obtain ⟨g, hg, g1, rfl⟩ := mem_t hq
          exact le2_trans (T.ua.at_ (show g ≤ m - 1 by omega) (show m - 1 < a.size by omega)) hv
        show wpS _ _ _ _ (if (n - 1 == 1) = true then _ else _) _ _
        rcases Nat.lt_or_ge 1 (n - 1) with h1 | h1
        · rw [if_neg (by rw [beq_iff_eq]; omega)]
          have li : ∀ t, m + (n - 1) + t ≤ a.size + b.size → HI o a b st t (out.push (b[n - 1]'(by omega))) m (n - 1) y := fun t ht => ⟨sm, m2, m1, ma, h1, by omega, ht⟩
          show wpS _ _ _ _ (if cb + 1 ≥ mg then _ else _) _ _
          split
          · exact wpS_pure (.inr ⟨rfl, li _ (by omega)⟩)
          · exact wpS_pure ⟨rfl, li _ (by omega)⟩
        · rw [if_pos (by rw [beq_iff_eq]; omega)]
          exact wpS_pure (.inl ⟨_, rfl, sm, m2.endD T.ua (by omega) hb h0⟩)
    · obtain ⟨e1, li⟩ := hy
      exact .inr ⟨e1, li.sm, li.mh, li.m1, li.ma, li.n2, li.nb, Nat.le_trans (by omega) li.tt⟩
    · obtain ⟨c1, m, n, out, ca, cb⟩ := c
      rcases hy with ⟨m, rfl, sm, mm⟩ | ⟨rfl, li⟩
      · exact wpS_pure ⟨m, rfl, sm, mm⟩
      · refine wpS_bind (wpS_lift (wpAny_rule ⟨rfl, wpS_bind (wpS_mono (wpS_forRange (I := fun x' c y => c.1 = none ∧ HI o a b st (1 + x + 1) c.2.2.2.1 c.2.1 c.2.2.1 y) (Q := HFin o a b st (1 + x + 1)) (fun x' c y _ _ hy => ?_) (fun c y hy => .inr hy) ⟨rfl, li⟩) fun c y hy => ?_)⟩))
        · obtain ⟨c1, m, n, out, mg, ca, cb⟩ := c
          obtain ⟨e1, li⟩ := hy
          show wpS _ _ _ _ (if mg > 1 then hi1 a b out m n ca cb (mg - 1) else hi1 a b out m n ca cb mg) _ _
          change HI o a b st (1 + x + 1) out m n y at li
          split
          · exact wpS_mono (hi1_wp O T li) fun r y h => by cases r <;> exact h
          · exact wpS_mono (hi1_wp O T li) fun r y h => by cases r <;> exact h
        · obtain ⟨c1, m, n, out, mg, ca, cb⟩ := c
          rcases hy with ⟨m, rfl, sm, mm⟩ | ⟨rfl, li⟩
          · exact wpS_pure ⟨m, rfl, sm, mm⟩
          · exact wpS_bind (sMin_wp fun y' s' => wpS_pure ⟨rfl, li.sm.trans s', li.mh, li.m1, li.ma, li.n2, li.nb, by have := li.tt; omega⟩)
  · obtain ⟨e1, li⟩ := hy
    have h1 := li.m1
    have h2 := li.n2
    have h3 := li.tt
    omega
  · obtain ⟨c1, m, n, out, mg⟩ := c
    obtain ⟨m, rfl, sm, mm⟩ := hy
    exact wpS_pure (q m y sm mm)
end
end TS
namespace TS
open PySem PyProof.Rows L2
theorem mAt_eq (i : Nat) : mergeAt' i = (do
    let t ← get
    let (some (sa, na, pw), some (sb, nb, _)) := ((pendingOf t)[i]?, (pendingOf t)[i + 1]?) | unsupported "internal:list.sort.pending"
    set (setPending t (((pendingOf t).setIfInBounds i (sa, na + nb, pw)).eraseIdxIfInBounds (i + 1)))
    let some k ← gal false (← elem' (arrOf t) sb) (arrOf t) sa na 0 | return false
    let (sa, na) := (sa + k, na - k)
    if na == 0 then return true
    let some nb ← gal true (← elem' (arrOf t) (sa + na - 1)) (arrOf t) sb nb (nb - 1) | return false
    if nb == 0 then return true
    let x := (arrOf t).extract sa sb
    let y := (arrOf t).extract sb (sb + nb)
    let m ← if na ≤ nb then mLo x y else mHi x y
    modify fun t => setArr t (m.toList.zipIdx.foldl (fun u (p, j) => u.setIfInBounds (sa + j) p) (arrOf t))
    return (failedOf (← get)).isNone) := rfl
def seg (xs : Array Keyed) (lo n : Nat) : List Keyed := (xs.toList.drop lo).take n
theorem seg_ext {xs : Array Keyed} {lo n : Nat} : (xs.extract lo (lo + n)).toList = seg xs lo n := by
  rw [Array.toList_extract, List.extract_eq_drop_take, Nat.add_sub_cancel_left]; rfl
theorem seg_split (xs : Array Keyed) (lo k n : Nat) (h : k ≤ n) : seg xs lo n = seg xs lo k ++ seg xs (lo + k) (n - k) := by
  unfold seg
  have := (List.take_append_drop k ((xs.toList.drop lo).take n)).symm
  rw [List.take_take, Nat.min_eq_left h, List.drop_take, List.drop_drop] at this
  exact this
theorem seg_mem {xs : Array Keyed} {lo n : Nat} {p : Keyed} (h : p ∈ seg xs lo n) : ∃ k, ∃ hk : lo + k < xs.size, k < n ∧ p = xs[lo + k] := mem_tk h
theorem seg_sub {xs : Array Keyed} {lo n : Nat} {p : Keyed} (h : p ∈ seg xs lo n) : p ∈ xs.toList := List.mem_of_mem_drop (List.mem_of_mem_take h)
theorem seg_len {xs : Array Keyed} {lo n : Nat} (h : lo + n ≤ xs.size) : (seg xs lo n).length = n := by
  unfold seg
  rw [List.length_take, List.length_drop, Array.length_toList]; omega
theorem seg_get {xs : Array Keyed} {lo n i : Nat} (h : i < (seg xs lo n).length) (h2 : lo + i < xs.size) : (seg xs lo n)[i] = xs[lo + i] := by
  simp only [seg, List.getElem_take, List.getElem_drop, Array.getElem_toList]
section
variable {prog : Program} {w : World} {A : Around} {E : Value → Shared → Prop} {s : Shared} {f : Bool} {z : Array Keyed} {o : KeyKind}
theorem seg_up {xs : Array Keyed} {lo n : Nat} (u : Up o (seg xs lo n)) {i j : Nat} (hij : i ≤ j) (hj : j < n) (h : lo + j < xs.size) : le2 o (xs[lo + i]'(by omega)) xs[lo + j] := by
  rcases Nat.lt_or_ge i j with hl | hl
  · have hlen : lo + j < xs.size → j < (seg xs lo n).length := fun h => by unfold seg; rw [List.length_take, List.length_drop, Array.length_toList]; omega
    have := (List.pairwise_iff_getElem.mp u) i j (by have := hlen h; omega) (hlen h) hl
    rw [seg_get _ (by omega), seg_get _ h] at this
    exact this
  · obtain rfl : i = j := by omega
    exact KeyOrd.kle_refl _
theorem fold_set : ∀ (l : List Keyed) (xs : Array Keyed) (at_ k : Nat), at_ + k + l.length ≤ xs.size → ((l.zipIdx k).foldl (fun (u : Array Keyed) (x : Keyed × Nat) => match x with | (p, j) => u.setIfInBounds (at_ + j) p) xs).toList = xs.toList.take (at_ + k) ++ l ++ xs.toList.drop (at_ + k + l.length)
  | [], xs, at_, k, _ => by
    show xs.toList = _
    rw [List.append_nil, List.length_nil, Nat.add_zero, List.take_append_drop]
  | p :: r, xs, at_, k, h => by
    rw [List.length_cons] at h
    rw [List.zipIdx_cons, List.foldl_cons]
    have e1 : (xs.setIfInBounds (at_ + k) p).toList = xs.toList.set (at_ + k) p := Array.toList_setIfInBounds ..
    have hl : at_ + k < xs.toList.length := by rw [Array.length_toList]; omega
    have e2 := List.set_eq_take_append_cons_drop (l := xs.toList) (i := at_ + k) (a := p)
    rw [if_pos hl] at e2
    have ih := fold_set r (xs.setIfInBounds (at_ + k) p) at_ (k + 1) (by rw [Array.size_setIfInBounds]; omega)
    refine ih.trans ?_
    have lt : (xs.toList.take (at_ + k)).length = at_ + k := by rw [List.length_take]; omega
    have t1 : (xs.toList.set (at_ + k) p).take (at_ + (k + 1)) = xs.toList.take (at_ + k) ++ [p] := by
      rw [e2, List.take_append, lt, show at_ + (k + 1) - (at_ + k) = 1 by omega, List.take_of_length_le (by rw [lt]; omega)]
      rfl
    have t2 : (xs.toList.set (at_ + k) p).drop (at_ + (k + 1) + r.length) = xs.toList.drop (at_ + k + (r.length + 1)) := by
      rw [List.drop_set_of_lt (by omega)]
      congr 1; omega
    rw [e1, t1, t2, List.length_cons]
    simp
theorem put_seg {xs ys : Array Keyed} {at_ : Nat} {m : List Keyed} (h : at_ + m.length ≤ xs.size) (e : ys.toList = xs.toList.take at_ ++ m ++ xs.toList.drop (at_ + m.length)) :
    (∀ k n, k + n ≤ at_ → seg ys k n = seg xs k n) ∧ (∀ k n, at_ + m.length ≤ k → seg ys k n = seg xs k n) ∧ seg ys at_ m.length = m := by
  have lt : (xs.toList.take at_).length = at_ := by rw [List.length_take, Array.length_toList]; omega
  refine ⟨fun k n hk => ?_, fun k n hk => ?_, ?_⟩
  · unfold seg
    rw [e, List.append_assoc, List.drop_append_of_le_length (by rw [lt]; omega), List.take_append_of_le_length (by rw [List.length_drop, lt]; omega), List.drop_take, List.take_take, Nat.min_eq_left (by omega)]
  · unfold seg
    rw [e, List.drop_append, List.length_append, lt, List.drop_eq_nil_of_le (by rw [List.length_append, lt]; exact hk), List.nil_append, List.drop_drop]
    congr 2; omega
  · unfold seg
    rw [e, List.append_assoc, List.drop_append, lt, List.drop_eq_nil_of_le (by rw [lt]; omega), List.nil_append, Nat.sub_self, List.drop_zero, List.take_left']
    rfl
structure Gd (f : Bool) (z : Array Keyed) (y : SortSt) : Prop where
  pm : (arrOf y).Perm z
  kd : kindOf y = tuples' f
  fl : failedOf y = none
theorem Gd.sz {y : SortSt} (g : Gd f z y) : (arrOf y).size = z.size := g.pm.size_eq
theorem Gd.mem {y : SortSt} (g : Gd f z y) : ∀ p ∈ (arrOf y).toList, p ∈ z.toList := fun p hp => (Array.perm_iff_toList_perm.mp g.pm).mem_iff.mp hp
theorem pend_merge {l1 l2 : List (Nat × Nat × Nat)} {x y v : Nat × Nat × Nat} {ps : Array (Nat × Nat × Nat)} (h : ps.toList = l1 ++ x :: y :: l2) : ((ps.setIfInBounds l1.length v).eraseIdxIfInBounds (l1.length + 1)).toList = l1 ++ v :: l2 := by
  rw [Array.toList_eraseIdxIfInBounds, Array.toList_setIfInBounds, h]
  induction l1 generalizing ps with
  | nil => rfl
  | cons a r ih => exact congrArg (a :: ·) (ih (ps := (r ++ x :: y :: l2).toArray) rfl)
theorem pend_at {l1 l2 : List (Nat × Nat × Nat)} {x y : Nat × Nat × Nat} {ps : Array (Nat × Nat × Nat)} (h : ps.toList = l1 ++ x :: y :: l2) : ps[l1.length]? = some x ∧ ps[l1.length + 1]? = some y := by
  rw [← Array.getElem?_toList, ← Array.getElem?_toList, h]
  constructor
  · simp
  · rw [List.getElem?_append_right (by omega)]; simp
theorem up_merge {a1 a2 b1 b2 m : List Keyed} (ua : Up o (a1 ++ a2)) (ub : Up o (b1 ++ b2)) (um : Up o m) (pm : m.Perm (a2 ++ b1)) (h1 : ∀ p ∈ a1, ∀ q ∈ b1 ++ b2, le2 o p q) (h2 : ∀ p ∈ a2, ∀ q ∈ b2, le2 o p q) : Up o (a1 ++ m ++ b2) := by
  obtain ⟨u1, _, c1⟩ := List.pairwise_append.mp ua
  obtain ⟨_, u2, c2⟩ := List.pairwise_append.mp ub
  refine List.pairwise_append.mpr ⟨List.pairwise_append.mpr ⟨u1, um, fun p hp q hq => ?_⟩, u2, fun p hp q hq => ?_⟩
  · rcases List.mem_append.mp (pm.mem_iff.mp hq) with hq | hq
    · exact c1 p hp q hq
    · exact h1 p hp q (List.mem_append_left _ hq)
  · rcases List.mem_append.mp hp with hp | hp
    · exact h1 p hp q (List.mem_append_right _ hq)
    · rcases List.mem_append.mp (pm.mem_iff.mp hp) with hp | hp
      · exact h2 p hp q hq
      · exact c2 p hp q hq
theorem set_wp {v y : SortSt} {Q : PUnit → SortSt → Prop} (h : Q ⟨⟩ v) : wpS (model prog w) A E s (set v : StateT SortSt Sem PUnit) Q y := wpS_modify (f := fun _ => v) h
theorem mAt_wp {st : SortSt} {l1 l2 : List (Nat × Nat × Nat)} {sa na pa sb nb pb : Nat} {Q : Bool → SortSt → Prop} (O : Orc prog w A s f o z) (g : Gd f z st) (hp : (pendingOf st).toList = l1 ++ (sa, na, pa) :: (sb, nb, pb) :: l2) (hsb : sb = sa + na) (n1 : 1 ≤ na) (n2 : 1 ≤ nb) (hsz : sb + nb ≤ z.size) (u1 : Up o (seg (arrOf st) sa na)) (u2 : Up o (seg (arrOf st) sb nb))
    (q : ∀ y, Gd f z y → (pendingOf y).toList = l1 ++ (sa, na + nb, pa) :: l2 → Up o (seg (arrOf y) sa (na + nb)) → (∀ k n, k + n ≤ sa → seg (arrOf y) k n = seg (arrOf st) k n) → (∀ k n, sb + nb ≤ k → seg (arrOf y) k n = seg (arrOf st) k n) → Q true y) : wpS (model prog w) A E s (mergeAt' l1.length) Q st := by
  have gz := g.sz
  have gm := g.mem
  generalize hxs : arrOf st = xs at gz gm u1 u2 q
  obtain ⟨p1, p2⟩ := pend_at hp
  rw [mAt_eq]
  refine wpS_bind (wpS_get ?_)
  rw [p1, p2, hxs]
  have hP := pend_merge (v := (sa, na + nb, pa)) hp
  show wpS _ _ _ _ ((set (setPending st (((pendingOf st).setIfInBounds l1.length (sa, na + nb, pa)).eraseIdxIfInBounds (l1.length + 1))) : StateT SortSt Sem PUnit) >>= _) _ _
  generalize hps : ((pendingOf st).setIfInBounds l1.length (sa, na + nb, pa)).eraseIdxIfInBounds (l1.length + 1) = ps at hP
  refine wpS_bind (set_wp ?_)
  have g1 : Gd f z (setPending st ps) := ⟨g.pm, g.kd, g.fl⟩
  have hsb2 : sb < xs.size := by omega
  have eu : ∀ y : SortSt, arrOf y = xs → Up o (seg xs sa (na + nb)) → Gd f z y → (pendingOf y).toList = l1 ++ (sa, na + nb, pa) :: l2 → Q true y := fun y ey u gy py => q y gy py (by rw [ey]; exact u) (fun k n _ => by rw [ey]) (fun k n _ => by rw [ey])
  have whole : seg xs sa (na + nb) = seg xs sa na ++ seg xs sb nb := by
    have := seg_split xs sa na (na + nb) (by omega)
    rw [this, show na + nb - na = nb by omega, ← hsb]
  refine wpS_bind (el_wp hsb2 (wpS_bind (gal_right O g1.kd gm (gm _ (mem_at _)) (by omega) (by omega) (fun i j hij hj hjn => seg_up u1 hij hjn hj) fun k hk less rest => ?_)))
  have b0 : ∀ q ∈ seg xs sb nb, le2 o xs[sb] q := fun q hq => by
    obtain ⟨j, hj, j1, rfl⟩ := seg_mem hq
    exact seg_up u2 (i := 0) (Nat.zero_le _) j1 hj
  have a1b : ∀ p ∈ seg xs sa k, ∀ q ∈ seg xs sb nb, le2 o p q := fun p hp q hq => by
    obtain ⟨j, hj, j1, rfl⟩ := seg_mem hp
    exact le2_trans (less j hj j1) (b0 q hq)
  have ea := seg_split xs sa k na hk
  show wpS _ _ _ _ (if (na - k == 0) = true then _ else _) _ _
  rcases Nat.lt_or_ge k na with hkn | hkn
  rotate_left
  · rw [if_pos (by rw [beq_iff_eq]; omega)]
    obtain rfl : k = na := by omega
    refine wpS_pure (eu _ hxs ?_ g1 hP)
    rw [whole]
    exact List.pairwise_append.mpr ⟨u1, u2, a1b⟩
  rw [if_neg (by rw [beq_iff_eq]; omega)]
  have hla : sa + k + (na - k) - 1 < xs.size := by omega
  have eix : sa + k + (na - k) - 1 = sa + (na - 1) := by omega
  refine wpS_bind (el_wp hla (wpS_bind (gal_left O g1.kd gm (gm _ (mem_at _)) (by omega) (by omega) (fun i j hij hj hjn => seg_up u2 hij hjn hj) fun nb' hnb less2 rest2 => ?_)))
  simp only [eix] at less2 rest2
  have eb := seg_split xs sb nb' nb hnb
  have a2b2 : ∀ p ∈ seg xs (sa + k) (na - k), ∀ q ∈ seg xs (sb + nb') (nb - nb'), le2 o p q := fun p hp q hq => by
    obtain ⟨i, hi, i1, rfl⟩ := seg_mem hp
    obtain ⟨j, hj, j1, rfl⟩ := seg_mem hq
    have h1 := seg_up u1 (i := k + i) (j := na - 1) (by omega) (by omega) (by omega)
    have h2 := rest2 (nb' + j) (by omega) (by omega) (by omega)
    have e1 : sa + (k + i) = sa + k + i := by omega
    have e2 : sb + (nb' + j) = sb + nb' + j := by omega
    simp only [e1] at h1
    simp only [e2] at h2
    exact le2_trans h1 h2
  show wpS _ _ _ _ (if (nb' == 0) = true then _ else _) _ _
  rcases Nat.eq_zero_or_pos nb' with h0 | h0
  · subst h0
    rw [if_pos (by rw [beq_iff_eq])]
    refine wpS_pure (eu _ hxs ?_ g1 hP)
    rw [whole]
    refine List.pairwise_append.mpr ⟨u1, u2, fun p hp q hq => ?_⟩
    rw [ea] at hp
    rcases List.mem_append.mp hp with hp | hp
    · exact a1b p hp q hq
    · exact a2b2 p hp q hq
  rw [if_neg (by rw [beq_iff_eq]; omega)]
  have ex : (xs.extract (sa + k) sb).toList = seg xs (sa + k) (na - k) := by
    rw [show sb = sa + k + (na - k) by omega]; exact seg_ext
  have ey : (xs.extract sb (sb + nb')).toList = seg xs sb nb' := seg_ext
  have sx : (xs.extract (sa + k) sb).size = na - k := by rw [Array.size_extract]; omega
  have sy : (xs.extract sb (sb + nb')).size = nb' := by rw [Array.size_extract]; omega
  have T : Two o f z (xs.extract (sa + k) sb) (xs.extract sb (sb + nb')) (setPending st ps) := by
    refine ⟨g1.kd, fun p hp => ?_, fun p hp => ?_, ?_, ?_, fun p hp hi => ?_, fun p hp hi => ?_⟩
    · rw [ex] at hp; exact gm p (seg_sub hp)
    · rw [ey] at hp; exact gm p (seg_sub hp)
    · rw [ex]; rw [ea] at u1; exact (List.pairwise_append.mp u1).2.1
    · rw [ey]; rw [eb] at u2; exact (List.pairwise_append.mp u2).1
    · rw [ey] at hp
      obtain ⟨j, hj, j1, rfl⟩ := seg_mem hp
      have h := KeyOrd.kle_of_klt (less2 j hj j1)
      rw [Array.getElem_extract]
      have e1 : sa + k + ((xs.extract (sa + k) sb).size - 1) = sa + (na - 1) := by rw [sx]; omega
      simp only [e1]
      exact h
    · rw [ex] at hp
      obtain ⟨j, hj, j1, rfl⟩ := seg_mem hp
      rw [Array.getElem_extract]
      have h := KeyOrd.kle_of_klt (rest (k + j) (by omega) (by omega) (by omega))
      have e1 : sa + (k + j) = sa + k + j := by omega
      simp only [e1] at h
      exact h
  have fin : ∀ m y, Sm (setPending st ps) y → Mg o (xs.extract (sa + k) sb) (xs.extract sb (sb + nb')) m → wpS (model prog w) A E s (do
      modify fun t => setArr t (m.toList.zipIdx.foldl (fun u (p, j) => u.setIfInBounds (sa + k + j) p) (arrOf t))
      return (failedOf (← get)).isNone) Q y := fun m y sm mg => by
    have ya : arrOf y = xs := sm.ar.trans hxs
    have ml : m.toList.length = na - k + nb' := by
      have := mg.pm.length_eq
      rw [List.length_append, Array.length_toList, Array.length_toList, Array.length_toList, sx, sy] at this
      rw [Array.length_toList]; exact this
    refine wpS_bind (wpS_modify (wpS_bind (wpS_get (wpS_pure ?_))))
    have e := fold_set m.toList xs (sa + k) 0 (by omega)
    rw [Nat.add_zero] at e
    show Q (failedOf y).isNone (setArr y (m.toList.zipIdx.foldl (fun u (p, j) => u.setIfInBounds (sa + k + j) p) (arrOf y)))
    rw [ya, sm.fl, show failedOf (setPending st ps) = none from g.fl]
    generalize m.toList.zipIdx.foldl (fun (u : Array Keyed) (x : Keyed × Nat) => match x with | (p, j) => u.setIfInBounds (sa + k + j) p) xs = ys at e
    obtain ⟨lo, hi, mid⟩ := put_seg (by omega) e
    have ends : sa + k + m.toList.length = sb + nb' := by omega
    have pmM : m.toList.Perm (seg xs (sa + k) (na - k) ++ seg xs sb nb') := by rw [← ex, ← ey]; exact mg.pm
    refine q (setArr y ys) ⟨?_, sm.kd.trans g1.kd, sm.fl.trans g1.fl⟩ ((congrArg Array.toList sm.pd).trans hP) ?_ (fun k' n hk' => lo k' n (by omega)) (fun k' n hk' => hi k' n (by omega))
    · show ys.Perm z
      refine Array.Perm.trans (Array.perm_iff_toList_perm.mpr ?_) (hxs ▸ g.pm)
      rw [e]
      have e3 : xs.toList = xs.toList.take (sa + k) ++ (seg xs (sa + k) (na - k) ++ seg xs sb nb') ++ xs.toList.drop (sa + k + m.toList.length) := by
        have h1 := (List.take_append_drop (sa + k) xs.toList).symm
        have h2 := (List.take_append_drop m.toList.length (xs.toList.drop (sa + k))).symm
        rw [List.drop_drop] at h2
        have h3 : (xs.toList.drop (sa + k)).take m.toList.length = seg xs (sa + k) (na - k) ++ seg xs sb nb' := by
          have := seg_split xs (sa + k) (na - k) (na - k + nb') (by omega)
          rw [show na - k + nb' - (na - k) = nb' by omega, show sa + k + (na - k) = sb by omega] at this
          rw [ml]; exact this
        rw [h3] at h2
        rw [h2, ← List.append_assoc] at h1
        exact h1
      conv => rhs; rw [e3]
      exact List.Perm.append_right _ (List.Perm.append_left _ pmM)
    · show Up o (seg ys sa (na + nb))
      have s1 := seg_split ys sa k (na + nb) (by omega)
      have s2 := seg_split ys (sa + k) m.toList.length (na + nb - k) (by omega)
      rw [s1, s2, mid, lo sa k (by omega), hi _ _ (by omega), ends, show na + nb - k - m.toList.length = nb - nb' by omega, ← List.append_assoc]
      refine up_merge (a2 := seg xs (sa + k) (na - k)) (b1 := seg xs sb nb') (by rw [← ea]; exact u1) (by rw [← eb]; exact u2) mg.up pmM (fun p hp q hq => a1b p hp q (by rw [eb]; exact hq)) a2b2
  show wpS _ _ _ _ (if na - k ≤ nb' then mLo (xs.extract (sa + k) sb) (xs.extract sb (sb + nb')) >>= _ else mHi (xs.extract (sa + k) sb) (xs.extract sb (sb + nb')) >>= _) _ _
  split
  · exact wpS_bind (mLo_wp O T (by omega) (by omega) fin)
  · exact wpS_bind (mHi_wp O T (by omega) (by omega) fin)
end
end TS
namespace TS
open PySem PyProof.Rows L2
def cUp (lo a n : Nat) : StateT SortSt Sem AscSt :=
  forIn [a:n] ((none, a) : AscSt) fun _ c => do
    let some r ← ltAt' (lo + c.2) (lo + c.2 - 1) | pure (.done (some none, c.2))
    if r then pure (.done (none, c.2)) else pure (.yield (none, c.2 + 1))
def cDown (lo a n : Nat) : StateT SortSt Sem DescSt :=
  forIn [a:n] ((none, a, 0) : DescSt) fun _ c => do
    let some r ← ltAt' (lo + c.2.1) (lo + c.2.1 - 1) | pure (.done (some none, c.2.1, c.2.2))
    if r then
      if c.2.2 > 0 then
        reverseSlice' (lo + c.2.1 - (c.2.2 + 1)) (lo + c.2.1)
        pure (.yield (none, c.2.1 + 1, 0))
      else pure (.yield (none, c.2.1 + 1, 0))
    else
      let some r ← ltAt' (lo + c.2.1 - 1) (lo + c.2.1) | pure (.done (some none, c.2.1, c.2.2))
      if r then pure (.done (none, c.2.1, c.2.2)) else pure (.yield (none, c.2.1 + 1, c.2.2 + 1))
section
variable {prog : Program} {w : World} {A : Around} {E : Value → Shared → Prop} {s : Shared} {f : Bool} {z : Array Keyed} {o : KeyKind}
theorem lt_g {st : SortSt} {i j : Nat} {Q : Option Bool → SortSt → Prop} (O : Orc prog w A s f o z) (g : Gd f z st) (hi : i < z.size) (hj : j < z.size) (h : Q (some (o.blt (KK o (arrOf st) i) (KK o (arrOf st) j))) st) : wpS (model prog w) A E s (ltAt' i j) Q st := by
  have kk : ∀ {k} (hk : k < (arrOf st).size), KK o (arrOf st) k = kv o (arrOf st)[k] := fun {k} hk => by unfold KK; rw [getElem?_pos (arrOf st) k hk]; rfl
  have h1 : i < (arrOf st).size := g.sz ▸ hi
  have h2 : j < (arrOf st).size := g.sz ▸ hj
  rw [kk h1, kk h2] at h
  rw [ltAt'_eq]
  exact wpS_bind (wpS_get (wpS_bind (el_wp h1 (wpS_bind (el_wp h2 (lt_wp O g.kd (g.mem _ (mem_at h1)) (g.mem _ (mem_at h2)) h))))))
structure Rn (f : Bool) (z : Array Keyed) (x : SortSt) (lo : Nat) (y : SortSt) : Prop where
  gd : Gd f z y
  pd : pendingOf y = pendingOf x
  low : ∀ k, k < lo → (arrOf y)[k]? = (arrOf x)[k]?
theorem Rn.refl {x : SortSt} (g : Gd f z x) (lo : Nat) : Rn f z x lo x := ⟨g, rfl, fun _ _ => rfl⟩
theorem Rn.mir {x y : SortSt} {lo i j : Nat} (r : Rn f z x lo y) (hi : lo ≤ i) (hj : j ≤ z.size) : Rn f z x lo (setArr y (mirror (arrOf y) i j ((j - i) / 2))) := by
  refine ⟨⟨(mirror_perm _ _ _ _).trans r.gd.pm, r.gd.kd, r.gd.fl⟩, r.pd, fun k hk => ?_⟩
  show (mirror (arrOf y) i j ((j - i) / 2))[k]? = _
  rw [getElem?_mirror_all (by rw [r.gd.sz]; exact hj), if_neg (by omega)]
  exact r.low k hk
def SU (o : KeyKind) (xs : Array Keyed) (lo m : Nat) : Prop := ∀ i j, i ≤ j → j < m → o.kle (KK o xs (lo + i)) (KK o xs (lo + j))
def SD (o : KeyKind) (xs : Array Keyed) (lo m : Nat) : Prop := ∀ i j, i ≤ j → j < m → o.kle (KK o xs (lo + j)) (KK o xs (lo + i))
theorem SU.more {xs : Array Keyed} {lo i : Nat} (u : SU o xs lo i) (h : 1 ≤ i) (hl : o.kle (KK o xs (lo + (i - 1))) (KK o xs (lo + i))) : SU o xs lo (i + 1) := fun g k hgk hk => by
  rcases Nat.lt_or_ge k i with hki | hki
  · exact u g k hgk hki
  · obtain rfl : k = i := by omega
    rcases Nat.lt_or_ge g k with hg | hg
    · exact KeyOrd.kle_trans (u g (k - 1) (by omega) (by omega)) hl
    · obtain rfl : g = k := by omega
      exact KeyOrd.kle_refl _
theorem SD.more {xs ys : Array Keyed} {lo i : Nat} (hk : ∀ k, KK o ys k = KK o xs k) (u : SD o xs lo i) (h : 1 ≤ i) (hl : o.kle (KK o xs (lo + i)) (KK o xs (lo + (i - 1)))) : SD o ys lo (i + 1) := fun g k hgk hk2 => by
  rw [hk, hk]
  rcases Nat.lt_or_ge k i with hki | hki
  · exact u g k hgk hki
  · obtain rfl : k = i := by omega
    rcases Nat.lt_or_ge g k with hg | hg
    · exact KeyOrd.kle_trans hl (u g (k - 1) (by omega) (by omega))
    · obtain rfl : g = k := by omega
      exact KeyOrd.kle_refl _
theorem cUp_wp {x st : SortSt} {lo a n : Nat} {Q : AscSt → SortSt → Prop} (O : Orc prog w A s f o z) (hn : lo + n ≤ z.size) (ha : 1 ≤ a) (han : a ≤ n) (r : Rn f z x lo st) (u : SU o (arrOf st) lo a)
    (q : ∀ m, a ≤ m → m ≤ n → SU o (arrOf st) lo m → (m = n ∨ o.klt (KK o (arrOf st) (lo + m)) (KK o (arrOf st) (lo + (m - 1)))) → Q (none, m) st) : wpS (model prog w) A E s (cUp lo a n) Q st := by
  refine wpS_forRange (I := fun i c y => y = st ∧ c = (none, i) ∧ SU o (arrOf st) lo i) (fun i c y h1 h2 hy => ?_) (fun c y hy => ?_) ⟨rfl, rfl, u⟩
  · obtain ⟨rfl, rfl, up⟩ := hy
    refine wpS_bind (lt_g O r.gd (show lo + i < _ by omega) (show lo + i - 1 < _ by omega) ?_)
    show wpS _ _ _ _ (if o.blt (KK o (arrOf y) (lo + i)) (KK o (arrOf y) (lo + i - 1)) = true then _ else _) _ _
    rw [show lo + i - 1 = lo + (i - 1) by omega]
    cases hl : o.blt (KK o (arrOf y) (lo + i)) (KK o (arrOf y) (lo + (i - 1))) with
    | true => rw [if_pos rfl]; exact wpS_pure (q i h1 (by omega) up (.inr hl))
    | false => rw [if_neg Bool.false_ne_true]; exact wpS_pure ⟨rfl, rfl, up.more (by omega) hl⟩
  · obtain ⟨rfl, rfl, up⟩ := hy
    have e : max a n = n := by omega
    rw [e] at up ⊢
    exact q n han (Nat.le_refl _) up (.inl rfl)
def Goes (k : AscSt → StateT SortSt Sem (Option Nat)) : Prop := ∀ m, k (none, m) = pure (some m)
theorem cEnd_wp {k : AscSt → StateT SortSt Sem (Option Nat)} (hk : Goes k) {x st : SortSt} {lo a n : Nat} {Q : Option Nat → SortSt → Prop} (O : Orc prog w A s f o z) (hn : lo + n ≤ z.size) (ha : 1 ≤ a) (han : a ≤ n) (r : Rn f z x lo st) (d : SD o (arrOf st) lo a)
    (q : ∀ m y, Rn f z x lo y → 1 ≤ m → m ≤ n → SU o (arrOf y) lo m → Q (some m) y) : wpS (model prog w) A E s (reverseSlice' lo (lo + a) >>= fun _ => cUp lo a n >>= k) Q st := by
  have hz : lo + a ≤ (arrOf st).size := by rw [r.gd.sz]; omega
  have r2 := r.mir (i := lo) (j := lo + a) (Nat.le_refl _) (by omega)
  refine wpS_bind (wpS_reverse (wpS_bind (cUp_wp O hn ha han r2 (fun i j hij hj => ?_) fun m h1 h2 up _ => by rw [hk]; exact wpS_pure (q m _ r2 (by omega) h2 up))))
  show o.kle (KK o (mirror (arrOf st) lo (lo + a) _) (lo + i)) (KK o (mirror (arrOf st) lo (lo + a) _) (lo + j))
  rw [KK_mirror hz, KK_mirror hz, if_pos ⟨by omega, by omega⟩, if_pos ⟨by omega, by omega⟩]
  have := d (a - 1 - j) (a - 1 - i) (by omega) (by omega)
  rw [show lo + (lo + a) - 1 - (lo + i) = lo + (a - 1 - i) by omega, show lo + (lo + a) - 1 - (lo + j) = lo + (a - 1 - j) by omega]
  exact this
theorem cDown_wp {x st : SortSt} {lo a n : Nat} {Q : DescSt → SortSt → Prop} (O : Orc prog w A s f o z) (hn : lo + n ≤ z.size) (ha : 1 ≤ a) (han : a ≤ n) (r : Rn f z x lo st) (d : SD o (arrOf st) lo a)
    (q : ∀ m e y, Rn f z x lo y → a ≤ m → m ≤ n → SD o (arrOf y) lo m → e + 1 ≤ m → (∀ i, lo + m - (e + 1) ≤ i → i < lo + m → KK o (arrOf y) i = KK o (arrOf y) (lo + m - 1)) → Q (none, m, e) y) : wpS (model prog w) A E s (cDown lo a n) Q st := by
  refine wpS_forRange (I := fun i c y => ∃ e, c = (none, i, e) ∧ Rn f z x lo y ∧ SD o (arrOf y) lo i ∧ e + 1 ≤ i ∧ ∀ k, lo + i - (e + 1) ≤ k → k < lo + i → KK o (arrOf y) k = KK o (arrOf y) (lo + i - 1)) (fun i c y h1 h2 hy => ?_) (fun c y hy => ?_) ⟨0, rfl, r, d, by omega, fun k p1 p2 => congrArg _ (by omega)⟩
  · obtain ⟨e, rfl, r2, dn, he, eqs⟩ := hy
    have hz : lo + i ≤ (arrOf y).size := by rw [r2.gd.sz]; omega
    refine wpS_bind (lt_g O r2.gd (show lo + i < _ by omega) (show lo + i - 1 < _ by omega) ?_)
    show wpS _ _ _ _ (if o.blt (KK o (arrOf y) (lo + i)) (KK o (arrOf y) (lo + i - 1)) = true then _ else _) _ _
    have ei : lo + i - 1 = lo + (i - 1) := by omega
    cases hl : o.blt (KK o (arrOf y) (lo + i)) (KK o (arrOf y) (lo + i - 1)) with
    | true =>
      rw [if_pos rfl]
      have hle : o.kle (KK o (arrOf y) (lo + i)) (KK o (arrOf y) (lo + (i - 1))) := by rw [← ei]; exact KeyOrd.kle_of_klt (O := o.toKeyOrd) hl
      show wpS _ _ _ _ (if e > 0 then _ else _) _ _
      by_cases h0 : e > 0
      · rw [if_pos h0]
        exact wpS_bind (wpS_reverse (wpS_pure ⟨0, rfl, r2.mir (show lo ≤ lo + i - (e + 1) by omega) (show lo + i ≤ _ by omega), SD.more (KK_mirror_equal hz eqs) dn (by omega) hle, by omega, fun k p1 p2 => congrArg _ (by omega)⟩))
      · rw [if_neg h0]
        exact wpS_pure ⟨0, rfl, r2, SD.more (fun _ => rfl) dn (by omega) hle, by omega, fun k p1 p2 => congrArg _ (by omega)⟩
    | false =>
      rw [if_neg Bool.false_ne_true]
      refine wpS_bind (lt_g O r2.gd (show lo + i - 1 < _ by omega) (show lo + i < _ by omega) ?_)
      show wpS _ _ _ _ (if o.blt (KK o (arrOf y) (lo + i - 1)) (KK o (arrOf y) (lo + i)) = true then _ else _) _ _
      cases hg : o.blt (KK o (arrOf y) (lo + i - 1)) (KK o (arrOf y) (lo + i)) with
      | true => rw [if_pos rfl]; exact wpS_pure (q i e y r2 h1 (by omega) dn he eqs)
      | false =>
        rw [if_neg Bool.false_ne_true]
        have same : KK o (arrOf y) (lo + i) = KK o (arrOf y) (lo + i - 1) := o.total _ _ hl hg
        refine wpS_pure ⟨e + 1, rfl, r2, SD.more (fun _ => rfl) dn (by omega) (by rw [← ei]; exact hg), by omega, fun k p1 p2 => ?_⟩
        rw [show lo + (i + 1) - 1 = lo + i by omega]
        rcases Nat.lt_or_ge k (lo + i) with hk | hk
        · rw [same]; exact eqs k (by omega) hk
        · exact congrArg _ (by omega)
  · obtain ⟨e, rfl, r2, dn, he, eqs⟩ := hy
    have em : max a n = n := by omega
    rw [em] at dn he eqs ⊢
    exact q n e y r2 han (Nat.le_refl _) dn he eqs
def Goes2 (lo n : Nat) (k : DescSt → StateT SortSt Sem (Option Nat)) : Prop := ∃ k1, Goes k1 ∧ ∀ m e, k (none, m, e) = if e > 0 then reverseSlice' (lo + m - (e + 1)) (lo + m) >>= fun _ => reverseSlice' lo (lo + m) >>= fun _ => cUp lo m n >>= k1 else reverseSlice' lo (lo + m) >>= fun _ => cUp lo m n >>= k1
theorem cPart_wp {k2 : DescSt → StateT SortSt Sem (Option Nat)} {x st : SortSt} {lo a n : Nat} {Q : Option Nat → SortSt → Prop} (hk : Goes2 lo n k2) (O : Orc prog w A s f o z) (hn : lo + n ≤ z.size) (han : a + 1 ≤ n) (r : Rn f z x lo st) (d : SD o (arrOf st) lo (a + 1))
    (q : ∀ m y, Rn f z x lo y → 1 ≤ m → m ≤ n → SU o (arrOf y) lo m → Q (some m) y) : wpS (model prog w) A E s (liftM (rule "list.sort.descending-run") >>= fun _ => cDown lo (a + 1) n >>= k2) Q st := by
  obtain ⟨k1, hk1, hk2⟩ := hk
  refine wpS_bind (wpS_lift (wpAny_rule ⟨rfl, wpS_bind (cDown_wp O hn (by omega) han r d fun m e y r2 h1 h2 dn he eqs => ?_)⟩))
  have hz : lo + m ≤ (arrOf y).size := by rw [r2.gd.sz]; omega
  rw [hk2]
  by_cases h0 : e > 0
  · rw [if_pos h0]
    refine wpS_bind (wpS_reverse (cEnd_wp hk1 (a := m) O hn (by omega) h2 (r2.mir (show lo ≤ lo + m - (e + 1) by omega) (show lo + m ≤ _ by omega)) (fun i j hij hj => ?_) q))
    have ek := KK_mirror_equal hz eqs
    show o.kle (KK o (mirror (arrOf y) (lo + m - (e + 1)) (lo + m) _) (lo + j)) (KK o (mirror (arrOf y) (lo + m - (e + 1)) (lo + m) _) (lo + i))
    rw [ek, ek]
    exact dn i j hij hj
  · rw [if_neg h0]
    exact cEnd_wp hk1 (a := m) O hn (by omega) h2 r2 dn q
theorem cnt_wp {st : SortSt} {lo n : Nat} {Q : Option Nat → SortSt → Prop} (O : Orc prog w A s f o z) (hn : lo + n ≤ z.size) (h1 : 1 ≤ n) (g : Gd f z st)
    (q : ∀ m y, Rn f z st lo y → 1 ≤ m → m ≤ n → SU o (arrOf y) lo m → Q (some m) y) : wpS (model prog w) A E s (countRun' lo n) Q st := by
  rw [countRun'_eq]
  show wpS _ _ _ _ (cUp lo 1 n >>= _) _ _
  have r := Rn.refl g lo
  refine wpS_bind (cUp_wp O hn (Nat.le_refl 1) h1 r (fun i j hij hj => ?_) fun m m1 m2 up last => ?_)
  · obtain rfl : i = j := by omega
    exact KeyOrd.kle_refl _
  show wpS _ _ _ _ (if (m == n) = true then _ else _) _ _
  rcases Nat.lt_or_ge m n with hmn | hmn
  · rw [if_neg (by rw [beq_iff_eq]; omega)]
    have hl := last.resolve_left (by omega)
    show wpS _ _ _ _ (if m > 1 then _ else _) _ _
    rcases Nat.lt_or_ge 1 m with hm | hm
    · rw [if_pos hm]
      refine wpS_bind (lt_g O g (show lo < _ by omega) (show lo + m - 1 < _ by omega) ?_)
      show wpS _ _ _ _ (if o.blt (KK o (arrOf st) lo) (KK o (arrOf st) (lo + m - 1)) = true then _ else _) _ _
      cases hr : o.blt (KK o (arrOf st) lo) (KK o (arrOf st) (lo + m - 1)) with
      | true => rw [if_pos rfl]; exact wpS_pure (q m st r m1 m2 up)
      | false =>
        rw [if_neg Bool.false_ne_true]
        have hz : lo + m ≤ (arrOf st).size := by rw [g.sz]; omega
        have eqs : ∀ k, lo ≤ k → k < lo + m → KK o (arrOf st) k = KK o (arrOf st) (lo + m - 1) := fun k k1 k2 => by
          have a1 := up (k - lo) (m - 1) (by omega) (by omega)
          have a2 := up 0 (k - lo) (by omega) (by omega)
          rw [show lo + (k - lo) = k by omega, show lo + (m - 1) = lo + m - 1 by omega] at a1
          rw [show lo + (k - lo) = k by omega, Nat.add_zero] at a2
          exact KeyOrd.kle_antisymm a1 (KeyOrd.kle_trans hr a2)
        have ek := KK_mirror_equal hz eqs
        refine wpS_bind (wpS_reverse ?_)
        show wpS _ _ _ _ (liftM (rule "list.sort.descending-run") >>= fun _ => cDown lo (m + 1) n >>= _) _ _
        refine cPart_wp ⟨_, fun _ => rfl, fun _ _ => rfl⟩ O hn (by omega) (r.mir (Nat.le_refl _) (by omega)) (SD.more (xs := arrOf st) ek (fun i j hij hj => ?_) m1 (KeyOrd.kle_of_klt hl)) q
        rw [eqs (lo + i) (by omega) (by omega), eqs (lo + j) (by omega) (by omega)]
        exact KeyOrd.kle_refl _
    · rw [if_neg (by omega)]
      obtain rfl : m = 1 := by omega
      show wpS _ _ _ _ (liftM (rule "list.sort.descending-run") >>= fun _ => cDown lo (1 + 1) n >>= _) _ _
      refine cPart_wp ⟨_, fun _ => rfl, fun _ _ => rfl⟩ O hn (by omega) r (SD.more (xs := arrOf st) (fun _ => rfl) (fun i j hij hj => ?_) m1 (KeyOrd.kle_of_klt hl)) q
      obtain rfl : i = j := by omega
      exact KeyOrd.kle_refl _
  · rw [if_pos (by rw [beq_iff_eq]; omega)]
    exact wpS_pure (q m st r m1 m2 up)
theorem bin_wp {x st : SortSt} {lo n a : Nat} {Q : Bool → SortSt → Prop} (O : Orc prog w A s f o z) (hn : lo + n ≤ z.size) (han : a ≤ n) (r : Rn f z x lo st) (u : SU o (arrOf st) lo a)
    (q : ∀ y, Rn f z x lo y → SU o (arrOf y) lo n → Q true y) : wpS (model prog w) A E s (binarySort' lo n a) Q st := by
  rw [binarySort'_eq]
  refine wpS_bind (wpS_mono (wpS_forRange (I := fun k c y => c = (none, ()) ∧ Rn f z x lo y ∧ SU o (arrOf y) lo (min k n)) (Q := fun c y => c = (none, ()) ∧ Rn f z x lo y ∧ SU o (arrOf y) lo n) (fun k c y k1 k2 hy => ?_) (fun c y hy => ?_) ⟨rfl, r, fun i j hij hj => ?_⟩) fun c y hy => ?_)
  · obtain ⟨rfl, b2, up⟩ := hy
    rw [Nat.min_eq_left (by omega)] at up
    have hk : lo + k < z.size := by omega
    refine wpS_bind (wpS_mono (wpS_forRange (I := fun i c y' => y' = y ∧ ∃ l r, c = (none, l, r) ∧ l ≤ r ∧ r ≤ k ∧ r - l ≤ k - i ∧ (∀ g, g < l → o.kle (KK o (arrOf y) (lo + g)) (KK o (arrOf y) (lo + k))) ∧ ∀ g, r ≤ g → g < k → o.klt (KK o (arrOf y) (lo + k)) (KK o (arrOf y) (lo + g)))
      (Q := fun c y' => y' = y ∧ ∃ l r, c = (none, l, r) ∧ l ≤ k ∧ (∀ g, g < l → o.kle (KK o (arrOf y) (lo + g)) (KK o (arrOf y) (lo + k))) ∧ ∀ g, l ≤ g → g < k → o.klt (KK o (arrOf y) (lo + k)) (KK o (arrOf y) (lo + g))) (fun i c y' i1 i2 hy => ?_) (fun c y' hy => ?_) ⟨rfl, 0, k, rfl, by omega, by omega, by omega, fun g hg => absurd hg (by omega), fun g p1 p2 => absurd p1 (by omega)⟩) fun c y' hy => ?_)
    · obtain ⟨rfl, l, r', rfl, lr, rk, fu, lw, hw⟩ := hy
      show wpS _ _ _ _ (if l ≥ r' then _ else _) _ _
      rcases Nat.lt_or_ge l r' with hlr | hlr
      · rw [if_neg (by omega)]
        refine wpS_bind (lt_g O b2.gd hk (show lo + (l + r') / 2 < _ by omega) ?_)
        show wpS _ _ _ _ (if o.blt (KK o (arrOf y') (lo + k)) (KK o (arrOf y') (lo + (l + r') / 2)) = true then _ else _) _ _
        cases hl : o.blt (KK o (arrOf y') (lo + k)) (KK o (arrOf y') (lo + (l + r') / 2)) with
        | true => rw [if_pos rfl]; exact wpS_pure ⟨rfl, l, (l + r') / 2, rfl, by omega, by omega, by omega, lw, fun g p1 p2 => KeyOrd.klt_of_klt_of_kle hl (up _ _ p1 p2)⟩
        | false => rw [if_neg Bool.false_ne_true]; exact wpS_pure ⟨rfl, (l + r') / 2 + 1, r', rfl, by omega, by omega, by omega, fun g p1 => KeyOrd.kle_trans (up g ((l + r') / 2) (by omega) (by omega)) hl, hw⟩
      · rw [if_pos hlr]
        obtain rfl : l = r' := by omega
        exact wpS_pure ⟨rfl, l, l, rfl, rk, lw, hw⟩
    · obtain ⟨rfl, l, r', rfl, lr, rk, fu, lw, hw⟩ := hy
      obtain rfl : l = r' := by omega
      exact ⟨rfl, l, l, rfl, rk, lw, hw⟩
    · obtain ⟨rfl, l, r', rfl, lk, lw, hw⟩ := hy
      show wpS _ _ _ _ (moveDown' (lo + k) (lo + l) >>= fun _ => pure (ForInStep.yield (none, ()))) _ _
      rw [moveDown'_eq]
      have hz : lo + k < (arrOf y').size := by rw [b2.gd.sz]; exact hk
      refine wpS_bind (wpS_modify (wpS_pure ⟨rfl, ⟨⟨(bubble_perm _ _ _).trans b2.gd.pm, b2.gd.kd, b2.gd.fl⟩, b2.pd, fun g hg => ?_⟩, fun i j hij hj => ?_⟩))
      · show (bubble (arrOf y') (lo + k) (lo + k - (lo + l)))[g]? = _
        rw [getElem?_bubble hz _ (by omega), if_neg (by omega), if_neg (by omega)]
        exact b2.low g hg
      · have kb := fun g => KK_bubble (κ := o) hz (show lo + k - (lo + l) ≤ lo + k by omega) g
        rw [show lo + k - (lo + k - (lo + l)) = lo + l by omega] at kb
        show o.kle (KK o (bubble (arrOf y') (lo + k) (lo + k - (lo + l))) (lo + i)) (KK o (bubble (arrOf y') (lo + k) (lo + k - (lo + l))) (lo + j))
        rw [kb, kb]
        rw [Nat.min_eq_left (by omega)] at hj
        have dec : ∀ g, lo + g - 1 = lo + (g - 1) ∨ g = 0 := fun g => by omega
        split
        · split
          · exact KeyOrd.kle_refl _
          · split
            · rw [show lo + j - 1 = lo + (j - 1) by omega]
              exact KeyOrd.kle_of_klt (hw _ (by omega) (by omega))
            · exact absurd hij (by omega)
        · split
          · split
            · exact absurd hij (by omega)
            · split
              · rw [show lo + i - 1 = lo + (i - 1) by omega, show lo + j - 1 = lo + (j - 1) by omega]
                exact up _ _ (by omega) (by omega)
              · exact absurd hij (by omega)
          · split
            · exact lw _ (by omega)
            · split
              · rw [show lo + j - 1 = lo + (j - 1) by omega]
                exact up _ _ (by omega) (by omega)
              · exact up _ _ (by omega) (by omega)
  · obtain ⟨rfl, b2, up⟩ := hy
    rw [Nat.min_eq_right (by omega)] at up
    exact ⟨rfl, b2, up⟩
  · rcases Nat.eq_zero_or_pos a with h0 | h0
    · obtain rfl : i = j := by omega
      exact KeyOrd.kle_refl _
    · exact u i j hij (by omega)
  · obtain ⟨rfl, b2, up⟩ := hy
    exact wpS_pure (q y b2 up)
end
end TS
namespace TS
open PySem PyProof.Rows L2
def Cov (o : KeyKind) (xs : Array Keyed) : List (Nat × Nat) → Nat → Nat → Prop
  | [], lo, hi => lo = hi
  | (a, n) :: r, lo, hi => a = lo ∧ 1 ≤ n ∧ Up o (seg xs lo n) ∧ Cov o xs r (lo + n) hi
def pr (t : Nat × Nat × Nat) : Nat × Nat := (t.1, t.2.1)
def runs (y : SortSt) : List (Nat × Nat) := (pendingOf y).toList.map pr
section
variable {prog : Program} {w : World} {A : Around} {E : Value → Shared → Prop} {s : Shared} {f : Bool} {z : Array Keyed} {o : KeyKind}
theorem Cov.le {xs : Array Keyed} : ∀ {l : List (Nat × Nat)} {lo hi : Nat}, Cov o xs l lo hi → lo + l.length ≤ hi
  | [], lo, hi, h => Nat.le_of_eq h
  | (a, n) :: r, lo, hi, ⟨_, h1, _, h2⟩ => by
    have := h2.le
    rw [List.length_cons]; omega
theorem Cov.congr {xs ys : Array Keyed} : ∀ {l : List (Nat × Nat)} {lo hi : Nat}, Cov o xs l lo hi → (∀ k n, lo ≤ k → k + n ≤ hi → seg ys k n = seg xs k n) → Cov o ys l lo hi
  | [], lo, hi, h, _ => h
  | (a, n) :: r, lo, hi, ⟨h0, h1, u, h2⟩, e => by
    have := h2.le
    exact ⟨h0, h1, by rw [e lo n (Nat.le_refl _) (by omega)]; exact u, h2.congr fun k m hk hm => e k m (by omega) hm⟩
theorem Cov.app {xs : Array Keyed} : ∀ {l1 l2 : List (Nat × Nat)} {lo hi : Nat}, Cov o xs (l1 ++ l2) lo hi → ∃ mid, Cov o xs l1 lo mid ∧ Cov o xs l2 mid hi
  | [], l2, lo, hi, h => ⟨lo, rfl, h⟩
  | (a, n) :: r, l2, lo, hi, ⟨h0, h1, u, h2⟩ => by
    obtain ⟨mid, c1, c2⟩ := Cov.app h2
    exact ⟨mid, ⟨h0, h1, u, c1⟩, c2⟩
theorem Cov.join {xs : Array Keyed} : ∀ {l1 l2 : List (Nat × Nat)} {lo mid hi : Nat}, Cov o xs l1 lo mid → Cov o xs l2 mid hi → Cov o xs (l1 ++ l2) lo hi
  | [], l2, lo, mid, hi, h, c => by obtain rfl : lo = mid := h; exact c
  | (a, n) :: r, l2, lo, mid, hi, ⟨h0, h1, u, h2⟩, c => ⟨h0, h1, u, h2.join c⟩
theorem mAt_cov {st : SortSt} {i hi : Nat} {Q : Bool → SortSt → Prop} (O : Orc prog w A s f o z) (g : Gd f z st) (c : Cov o (arrOf st) (runs st) 0 hi) (hh : hi ≤ z.size) (hi2 : i + 1 < (pendingOf st).size)
    (q : ∀ y, Gd f z y → Cov o (arrOf y) (runs y) 0 hi → (pendingOf y).size + 1 = (pendingOf st).size → (∀ k n, hi ≤ k → seg (arrOf y) k n = seg (arrOf st) k n) → Q true y) : wpS (model prog w) A E s (mergeAt' i) Q st := by
  obtain ⟨l1, x1, x2, l2, hl, h1⟩ : ∃ l1 x1 x2 l2, (pendingOf st).toList = l1 ++ x1 :: x2 :: l2 ∧ l1.length = i := by
    have h1 : i + 1 < (pendingOf st).toList.length := by rw [Array.length_toList]; exact hi2
    refine ⟨(pendingOf st).toList.take i, (pendingOf st).toList[i], (pendingOf st).toList[i + 1], (pendingOf st).toList.drop (i + 2), ?_, by rw [List.length_take]; omega⟩
    have e := (List.take_append_drop i (pendingOf st).toList).symm
    rw [List.drop_eq_getElem_cons (by omega), List.drop_eq_getElem_cons h1] at e
    exact e
  obtain ⟨sa, na, pa⟩ := x1
  obtain ⟨sb, nb, pb⟩ := x2
  have er : runs st = l1.map pr ++ (sa, na) :: (sb, nb) :: l2.map pr := by
    unfold runs
    rw [hl, List.map_append, List.map_cons, List.map_cons]; rfl
  rw [er] at c
  obtain ⟨mid, c1, h2, n1, u1, h3, n2, u2, c2⟩ := c.app
  subst h2
  subst h3
  have l3 := c2.le
  rw [← h1]
  refine mAt_wp O g hl rfl n1 n2 (by omega) u1 u2 fun y gy py up low high => q y gy ?_ ?_ fun k n hk => high k n (by omega)
  · have ey : runs y = l1.map pr ++ (sa, na + nb) :: l2.map pr := by
      unfold runs
      rw [py, List.map_append, List.map_cons]; rfl
    rw [ey]
    refine Cov.join (c1.congr fun k n _ hk => low k n hk) ⟨rfl, by omega, up, ?_⟩
    rw [← Nat.add_assoc]
    exact c2.congr fun k n hk _ => high k n hk
  · have e1 := congrArg List.length py
    have e2 := congrArg List.length hl
    simp only [Array.length_toList, List.length_append, List.length_cons] at e1 e2
    omega
theorem seg_low {xs ys : Array Keyed} {k n lo : Nat} (h : ∀ i, i < lo → ys[i]? = xs[i]?) (hk : k + n ≤ lo) : seg ys k n = seg xs k n := by
  apply List.ext_getElem?
  intro i
  unfold seg
  rw [List.getElem?_take, List.getElem?_take]
  split
  · rw [List.getElem?_drop, List.getElem?_drop, Array.getElem?_toList, Array.getElem?_toList]
    exact h _ (by omega)
  · rfl
theorem SU.up {xs : Array Keyed} {lo m : Nat} (u : SU o xs lo m) (h : lo + m ≤ xs.size) : Up o (seg xs lo m) := by
  have kk : ∀ {k} (hk : k < xs.size), KK o xs k = kv o xs[k] := fun {k} hk => by unfold KK; rw [getElem?_pos xs k hk]; rfl
  refine List.pairwise_iff_getElem.mpr fun i j hi hj hij => ?_
  rw [seg_len h] at hi hj
  rw [seg_get _ (by omega), seg_get _ (by omega)]
  have := u i j (by omega) hj
  rw [kk (by omega), kk (by omega)] at this
  exact this
theorem pend_mod {ps : Array (Nat × Nat × Nat)} {i pw : Nat} : (ps.modify i fun (t : Nat × Nat × Nat) => match t with | (a, n, _) => (a, n, pw)).toList.map pr = ps.toList.map pr := by
  apply List.ext_getElem?
  intro k
  rw [List.getElem?_map, List.getElem?_map, Array.getElem?_toList, Array.getElem?_toList, Array.getElem?_modify]
  split
  · cases ps[k]? with
    | none => rfl
    | some t => rfl
  · rfl
structure Bt (o : KeyKind) (f : Bool) (z : Array Keyed) (lo : Nat) (y : SortSt) : Prop where
  gd : Gd f z y
  cv : Cov o (arrOf y) (runs y) 0 lo
def mLoop (n pw : Nat) : StateT SortSt Sem (Option Unit × Unit) :=
  forIn [0:n] ((none, ()) : Option Unit × Unit) fun _ _ => do
    let p := pendingOf (← get)
    let some (_, _, older) := (if p.size > 1 then p[p.size - 2]? else none) | pure (.done (none, ()))
    if older ≤ pw then pure (.done (none, ()))
    else
      if !(← mergeAt' (p.size - 2)) then pure (.done (some (), ())) else pure (.yield (none, ()))
theorem mLoop_wp {st : SortSt} {n pw lo m : Nat} {Q : Option Unit × Unit → SortSt → Prop} (O : Orc prog w A s f o z) (b : Bt o f z lo st) (hl : lo ≤ z.size) (u : Up o (seg (arrOf st) lo m)) (q : ∀ y, Bt o f z lo y → Up o (seg (arrOf y) lo m) → Q (none, ()) y) : wpS (model prog w) A E s (mLoop n pw) Q st := by
  refine wpS_forRange (I := fun _ c y => c = (none, ()) ∧ Bt o f z lo y ∧ Up o (seg (arrOf y) lo m)) (fun i c y _ _ hy => ?_) (fun c y hy => ?_) ⟨rfl, b, u⟩
  · obtain ⟨rfl, b1, u1⟩ := hy
    refine wpS_bind (wpS_get ?_)
    dsimp only
    rcases Nat.lt_or_ge 1 (pendingOf y).size with h1 | h1
    · rw [if_pos h1, getElem?_pos (pendingOf y) _ (show (pendingOf y).size - 2 < _ by omega)]
      show wpS _ _ _ _ (if _ ≤ pw then _ else _) _ _
      split
      · exact wpS_pure (q y b1 u1)
      · refine wpS_bind (mAt_cov O b1.gd b1.cv hl (by omega) fun y2 g2 c2 _ hi2 => ?_)
        exact wpS_pure ⟨rfl, ⟨g2, c2⟩, by rw [hi2 lo m (Nat.le_refl _)]; exact u1⟩
    · rw [if_neg (by omega)]
      exact wpS_pure (q y b1 u1)
  · obtain ⟨rfl, b1, u1⟩ := hy
    exact q y b1 u1
theorem Bt.add {lo m : Nat} {y : SortSt} (b : Bt o f z lo y) (u : Up o (seg (arrOf y) lo m)) (hm : 1 ≤ m) : Bt o f z (lo + m) (setPending y ((pendingOf y).push (lo, m, 0))) := by
  refine ⟨⟨b.gd.pm, b.gd.kd, b.gd.fl⟩, ?_⟩
  have e : runs (setPending y ((pendingOf y).push (lo, m, 0))) = runs y ++ [(lo, m)] := by
    show ((pendingOf y).push (lo, m, 0)).toList.map pr = _
    rw [Array.toList_push, List.map_append]; rfl
  show Cov o (arrOf y) (runs (setPending y ((pendingOf y).push (lo, m, 0)))) 0 (lo + m)
  rw [e]
  exact b.cv.join ⟨rfl, hm, u, rfl⟩
theorem Bt.mod {lo i pw : Nat} {y : SortSt} (b : Bt o f z lo y) : Bt o f z lo (setPending y ((pendingOf y).modify i fun (t : Nat × Nat × Nat) => match t with | (a, n, _) => (a, n, pw))) := by
  refine ⟨⟨b.gd.pm, b.gd.kd, b.gd.fl⟩, ?_⟩
  show Cov o (arrOf y) (((pendingOf y).modify i fun (t : Nat × Nat × Nat) => match t with | (a, n, _) => (a, n, pw)).toList.map pr) 0 lo
  rw [pend_mod]
  exact b.cv
theorem Bt.run {lo : Nat} {x y : SortSt} (b : Bt o f z lo x) (r : Rn f z x lo y) : Bt o f z lo y := by
  refine ⟨r.gd, ?_⟩
  have e : runs y = runs x := by unfold runs; rw [r.pd]
  rw [e]
  exact b.cv.congr fun k n _ hk => seg_low r.low hk
theorem sort_wp {st : SortSt} {Q : Unit → SortSt → Prop} (O : Orc prog w A s f o z) (g : Gd f z st) (p0 : pendingOf st = #[]) (h2 : 2 ≤ z.size)
    (q : ∀ y, Gd f z y → Up o (arrOf y).toList → Q () y) : wpS (model prog w) A E s sortRuns' Q st := by
  rw [sortRuns'_eq]
  refine wpS_bind (wpS_get ?_)
  simp only [g.sz]
  generalize minRun' z.size z.size 0 = mr
  have b0 : Bt o f z 0 st := ⟨g, by unfold runs; rw [p0]; rfl⟩
  refine wpS_bind (wpS_mono (wpS_forRange (I := fun i c y => c.1 = none ∧ c.2 ≤ z.size ∧ i ≤ c.2 ∧ Bt o f z c.2 y) (Q := fun c y => c = (none, z.size) ∧ Bt o f z z.size y) (fun i c y _ hi hy => ?_) (fun c y hy => ?_) ⟨rfl, Nat.zero_le _, Nat.le_refl _, b0⟩) fun c y hy => ?_)
  · obtain ⟨c1, lo⟩ := c
    obtain ⟨e1, hl, hil, b⟩ := hy
    change c1 = none at e1
    change lo ≤ z.size at hl
    change i ≤ lo at hil
    change Bt o f z lo y at b
    subst e1
    show wpS _ _ _ _ (if lo ≥ z.size then _ else _) _ _
    rcases Nat.lt_or_ge lo z.size with hlo | hlo
    · rw [if_neg (by omega)]
      refine wpS_bind (cnt_wp O (show lo + (z.size - lo) ≤ _ by omega) (by omega) b.gd fun m y1 r1 m1 m2 su => ?_)
      have tail : ∀ (y2 : SortSt) (k : Nat), Bt o f z lo y2 → Up o (seg (arrOf y2) lo k) → 1 ≤ k → lo + k ≤ z.size → ∀ c : Option Unit × Nat, c = (none, lo + k) → c.1 = none ∧ c.2 ≤ z.size ∧ i + 1 ≤ c.2 ∧ Bt o f z c.2 (setPending y2 ((pendingOf y2).push (lo, k, 0))) := fun y2 k b2 u2 k1 k2 c hc => by
        subst hc
        exact ⟨rfl, k2, by show i + 1 ≤ lo + k; omega, b2.add u2 k1⟩
      show wpS _ _ _ _ (if m < mr then _ else _) _ _
      have rest : ∀ (y2 : SortSt) (k : Nat), Rn f z y lo y2 → SU o (arrOf y2) lo k → 1 ≤ k → lo + k ≤ z.size → Bt o f z lo y2 ∧ Up o (seg (arrOf y2) lo k) := fun y2 k r2 su2 k1 k2 => ⟨b.run r2, su2.up (by rw [r2.gd.sz]; exact k2)⟩
      split
      · refine wpS_bind (wpS_lift (wpAny_rule ⟨rfl, wpS_bind (bin_wp (x := y) O (show lo + min (z.size - lo) mr ≤ _ by omega) (by omega) r1 su fun y2 r2 su2 => ?_)⟩))
        obtain ⟨b2, u2⟩ := rest y2 _ r2 su2 (by omega) (by omega)
        refine wpS_bind (wpS_get ?_)
        cases hb : (pendingOf y2).back? with
        | none => exact wpS_bind (wpS_modify (wpS_pure (tail y2 _ b2 u2 (by omega) (by omega) _ rfl)))
        | some t =>
          obtain ⟨s1, n1, p1⟩ := t
          show wpS _ _ _ _ (mLoop z.size _ >>= _) _ _
          refine wpS_bind (mLoop_wp O b2 hl u2 fun y3 b3 u3 => ?_)
          exact wpS_bind (wpS_modify (wpS_bind (wpS_modify (wpS_pure (tail _ _ b3.mod u3 (by omega) (by omega) _ rfl)))))
      · obtain ⟨b2, u2⟩ := rest y1 _ r1 su m1 (by omega)
        refine wpS_bind (wpS_get ?_)
        cases hb : (pendingOf y1).back? with
        | none => exact wpS_bind (wpS_modify (wpS_pure (tail y1 _ b2 u2 m1 (by omega) _ rfl)))
        | some t =>
          obtain ⟨s1, n1, p1⟩ := t
          show wpS _ _ _ _ (mLoop z.size _ >>= _) _ _
          refine wpS_bind (mLoop_wp O b2 hl u2 fun y3 b3 u3 => ?_)
          exact wpS_bind (wpS_modify (wpS_bind (wpS_modify (wpS_pure (tail _ _ b3.mod u3 m1 (by omega) _ rfl)))))
    · rw [if_pos hlo]
      obtain rfl : lo = z.size := by omega
      exact wpS_pure ⟨rfl, b⟩
  · obtain ⟨c1, lo⟩ := c
    obtain ⟨e1, hl, hil, b⟩ := hy
    change c1 = none at e1
    change lo ≤ z.size at hl
    change max 0 z.size ≤ lo at hil
    change Bt o f z lo y at b
    obtain rfl : lo = z.size := by omega
    subst e1
    exact ⟨rfl, b⟩
  · obtain ⟨rfl, b⟩ := hy
    have len : ∀ y', Bt o f z z.size y' → (pendingOf y').size ≤ z.size := fun y' b' => by
      have := b'.cv.le
      unfold runs at this
      rw [List.length_map, Array.length_toList] at this
      omega
    refine wpS_bind (wpS_mono (wpS_forRange (I := fun i c y => c = (none, ()) ∧ Bt o f z z.size y ∧ ((pendingOf y).size ≤ 1 ∨ (pendingOf y).size + i ≤ z.size)) (Q := fun c y => c = (none, ()) ∧ Bt o f z z.size y ∧ (pendingOf y).size ≤ 1) (fun i c y _ _ hy => ?_) (fun c y hy => ?_) ⟨rfl, b, .inr (by have := len y b; omega)⟩) fun c y hy => ?_)
    · obtain ⟨rfl, b1, hp⟩ := hy
      refine wpS_bind (wpS_get ?_)
      show wpS _ _ _ _ (if (pendingOf y).size ≤ 1 then _ else _) _ _
      rcases Nat.lt_or_ge 1 (pendingOf y).size with h1 | h1
      · rw [if_neg (by omega)]
        have fin : ∀ k, k + 1 < (pendingOf y).size → ∀ {R : Bool → SortSt → Prop}, (∀ y2, Bt o f z z.size y2 → (pendingOf y2).size + 1 = (pendingOf y).size → R true y2) → wpS (model prog w) A E s (mergeAt' k) R y := fun k hk R hR => mAt_cov O b1.gd b1.cv (Nat.le_refl _) hk fun y2 g2 c2 e2 _ => hR y2 ⟨g2, c2⟩ e2
        refine wpS_bind (fin _ ?_ fun y2 b2 e2 => wpS_pure ⟨rfl, b2, .inr (by omega)⟩)
        have hi : ∀ bb : Bool, (if bb = true then (pendingOf y).size - 2 - 1 else (pendingOf y).size - 2) + 1 < (pendingOf y).size := fun bb => by
          cases bb
          · rw [if_neg Bool.false_ne_true]; omega
          · rw [if_pos rfl]; omega
        exact hi _
      · rw [if_pos h1]
        exact wpS_pure ⟨rfl, b1, h1⟩
    · obtain ⟨rfl, b1, hp⟩ := hy
      exact ⟨rfl, b1, by omega⟩
    · obtain ⟨rfl, b1, hp⟩ := hy
      refine wpS_pure (q y b1.gd ?_)
      have cv := b1.cv
      have hlen : (runs y).length ≤ 1 := by unfold runs; rw [List.length_map, Array.length_toList]; exact hp
      match hr : runs y, hlen with
      | [], _ =>
        rw [hr] at cv
        have : (0 : Nat) = z.size := cv
        omega
      | [(a, n)], _ =>
        rw [hr] at cv
        obtain ⟨_, _, u, e⟩ := cv
        have e2 : 0 + n = z.size := e
        have e3 : seg (arrOf y) 0 n = (arrOf y).toList := by
          unfold seg
          rw [List.drop_zero]
          exact List.take_of_length_le (by rw [Array.length_toList, b1.gd.sz]; omega)
        rw [e3] at u
        exact u
end
end TS
namespace TS
open PySem PyProof.Rows L2
def Dct (h : Heap) (d : Addr) (es : Array DictEntry) (ep : Nat) : Prop := ∃ ob, h.get? d = some ob ∧ ob.ExactDict ∧ ob.data = .dict es ep
theorem Dct.typeIs {s : Shared} {d : Addr} {es : Array DictEntry} {ep : Nat} (x : Dct s.heap d es ep) : s.TypeIs (.ref d) "dict" := by
  obtain ⟨ob, e, c, _⟩ := x
  exact ⟨ob, e, c.1⟩
section
variable {prog : Program} {w : World} {A : Around} {E : Value → Shared → Prop} {s : Shared} {d t : Addr} {es : Array DictEntry} {ep i : Nat}
theorem iter_dct {Q : Value → Shared → Prop} (hd : (d == sysModules) = false) (x : Dct s.heap d es ep)
    (q : Q (.ref s.heap.objs.size) { s with heap := s.heap.push { cls := .type "dict_keyiterator", data := .fields #[.ref d, .int 0 0, .int es.size 0, .int ep 0] } }) : wpAny (model prog w) A (pyIter (.ref d)) Q E s := by
  have ty := x.typeIs
  obtain ⟨ob, e, c, dt⟩ := x
  refine wpAny_pyIter_slot ty F.slot_dict_iter (wpAny_call_entry F.slot_dict_iter ty F.entry_dict_iter (wpAny_bind ?_) (F.args_dict_iter_1 _))
  refine wpAny_bind (wpAny_notOrdered_dict ty ?_)
  show wpAny _ _ (pure (Value.ref d)) _ _ s
  refine wpAny_pure ?_
  show wpAny _ _ (Builtin.Dict.showsAll d >>= _) _ _ s
  unfold Builtin.Dict.showsAll
  rw [if_neg (by rw [hd]; decide)]
  refine wpAny_bind (wpAny_pure (wpAny_bind (wpAny_dictEntries e dt (wpAny_bind (wpAny_dictEpoch e dt ?_)))))
  exact wpAny_bind (wpAny_newObj_type (wpAny_pure ⟨_, rfl, "dict_keyiterator", _, ⟨_, Heap.get?_push_size _ rfl, rfl⟩, F.slot_dict_keyiterator_next.lookup, q⟩))
theorem next_dct {Q : Option Value → Shared → Prop} (k : s.heap.IsKeyIter t d i es.size ep) (x : Dct s.heap d es ep) (hi : i < es.size)
    (q : ∀ h', h'.IsKeyIter t d (i + 1) es.size ep → Heap.SameBut t s.heap h' → Q (some es[i].key) { s with heap := h' }) : wpAny (model prog w) A (pyNext (.ref t)) Q E s := by
  have ty := k.typeIs
  obtain ⟨oi, e, c, dt⟩ := id k
  obtain ⟨ob, e2, _, dt2⟩ := x
  refine wpAny_bind (wpAny_attempt (wpAny_callSpecial?_slot (name := Str.ofString "__next__") ty F.slot_dict_keyiterator_next (wpAny_call_entry F.slot_dict_keyiterator_next ty F.entry_dict_keyiterator_next (wpAny_bind (wpAny_pure (wpAny_bind (wpAny_bind ?_)))) (F.args_dict_keyiterator_next_1 _))))
  refine wpAny_bind (wpAny_typeNameOfWhole_keyiter ty (wpAny_pure (wpAny_bind (wpAny_fieldsOf e dt ?_))))
  rw [show Builtin.Dict_items.ownsTuple "dict_keyiterator" = false by decide]
  show wpAny _ _ (if (Value.ref d == Value.none) = true then _ else _) _ _ s
  rw [if_neg (fun z => Bool.false_ne_true z)]
  refine wpAny_bind (wpAny_pure (wpAny_bind (wpAny_dictEntries e2 dt2 ?_)))
  rw [if_neg (by simp)]
  refine wpAny_bind (wpAny_pure (wpAny_bind (wpAny_dictEpoch e2 dt2 ?_)))
  rw [if_neg (by simp)]
  refine wpAny_pure ?_
  simp only [show ¬ ((i : Int) < 0) by omega, if_false, Int.toNat_natCast, Array.getElem?_eq_getElem hi]
  refine wpAny_bind (wpAny_bind (wpAny_typeNameOfWhole_keyiter ty (wpAny_pure (wpAny_bind (wpAny_isOneOf_keyiter ty ?_)))))
  show wpAny _ _ (setField (.ref t) 1 (rawInt ((i : Int) + 1)) >>= _) _ _ s
  refine wpAny_bind (wpAny_setField e dt (by simp) ?_)
  have k2 : (s.heap.update t (Obj.mapFields (·.setIfInBounds 1 (rawInt ((i : Int) + 1))))).IsKeyIter t d (i + 1) es.size ep := ⟨_, Heap.get?_update_self _ e (Obj.isFreed_of_fields (Obj.data_mapFields dt _)), (Obj.cls_mapFields ..).trans c, by rw [Obj.data_mapFields dt]; simp [rawInt]⟩
  refine wpAny_bind (wpAny_holding (wpAny_bind (wpAny_isOneOf_keyiter (s := { s with heap := s.heap.update t (Obj.mapFields (·.setIfInBounds 1 (rawInt ((i : Int) + 1)))) }) k2.typeIs ?_)))
  show wpAny _ _ (pure es[i].key) _ _ _
  exact wpAny_pure (wpAny_pure ⟨_, rfl, wpAny_pure (q _ k2 (Heap.SameBut.update ..))⟩)
theorem stop_dct {Q : Option Value → Shared → Prop} (hh : A.handled = none) (k : s.heap.IsKeyIter t d i es.size ep) (x : Dct s.heap d es ep) (hi : es.size ≤ i)
    (q : ∀ h', Heap.ExtBut t s.heap h' → Q none { s with heap := h' }) : wpAny (model prog w) A (pyNext (.ref t)) Q E s := by
  have ty := k.typeIs
  obtain ⟨oi, e, c, dt⟩ := id k
  obtain ⟨ob, e2, _, dt2⟩ := x
  refine wpAny_bind (wpAny_attempt (wpAny_callSpecial?_slot (name := Str.ofString "__next__") ty F.slot_dict_keyiterator_next (wpAny_call_entry F.slot_dict_keyiterator_next ty F.entry_dict_keyiterator_next (wpAny_bind (wpAny_pure (wpAny_bind (wpAny_bind ?_)))) (F.args_dict_keyiterator_next_1 _))))
  refine wpAny_bind (wpAny_typeNameOfWhole_keyiter ty (wpAny_pure (wpAny_bind (wpAny_fieldsOf e dt ?_))))
  rw [show Builtin.Dict_items.ownsTuple "dict_keyiterator" = false by decide]
  show wpAny _ _ (if (Value.ref d == Value.none) = true then _ else _) _ _ s
  rw [if_neg (fun z => Bool.false_ne_true z)]
  refine wpAny_bind (wpAny_pure (wpAny_bind (wpAny_dictEntries e2 dt2 ?_)))
  rw [if_neg (by simp)]
  refine wpAny_bind (wpAny_pure (wpAny_bind (wpAny_dictEpoch e2 dt2 ?_)))
  rw [if_neg (by simp)]
  refine wpAny_pure ?_
  simp only [show ¬ ((i : Int) < 0) by omega, if_false, Int.toNat_natCast, Array.getElem?_eq_none hi]
  refine wpAny_bind (wpAny_bind (wpAny_typeNameOfWhole_keyiter ty (wpAny_pure ?_)))
  show wpAny _ _ (setField (.ref t) 0 .none >>= _) _ _ s
  refine wpAny_bind (wpAny_setField e dt (by simp) ?_)
  show wpAny _ _ (newExc (.type "StopIteration") [] >>= _) _ _ _
  refine wpAny_bind ?_
  simp only [newExc, newTuple]
  refine wpAny_bind (wpAny_newObj_type (wpAny_bind (m := firstArgMember _ _) (wpAny_of_eq (a := Value.none) (by simp only [firstArgMember]; rfl) (wpAny_newObj_type ?_ (by size_fits)))) (by size_fits))
  simp only [raiseNew]
  refine wpAny_bind (wpAny_handled ?_)
  rw [show A.in1.handled = none from hh]
  refine wpAny_bind (wpAny_pure (wpAny_throw ?_))
  exact wpAny_bind (wpAny_isInstance (T := "StopIteration") (b := true) ⟨_, Heap.get?_push_size _ rfl, rfl⟩ isSubtype_stop (wpAny_pure (q _ (((Heap.SameBut.update ..).extBut.push _).push _))))
theorem Dct.keep {h h' : Heap} (x : Dct h d es ep) (k : ∀ o, h.get? d = some o → h'.get? d = some o) : Dct h' d es ep := by
  obtain ⟨ob, e, c⟩ := x
  exact ⟨ob, k _ e, c⟩
theorem src_dct (hd : (d == sysModules) = false) : PySem.W.KdlSrc prog w "dict" d d es.size (fun i v => ∃ hi : i < es.size, v = es[i].key) (fun h => Dct h d es ep) where
  type := fun _ x => x.typeIs
  there := fun _ x => by obtain ⟨ob, e, _⟩ := x; exact ⟨Heap.lt_size e, Heap.lt_size e⟩
  keep := fun _ _ x k => x.keep fun o e => k d (.inl rfl) o e
  notList := by decide
  notTuple := by decide
  hint := fun _ _ _ _ x q => PySem.W.kdl_hint_dict x.typeIs q
  iter := fun A s hh x => by
    have hlt : d < s.heap.objs.size := by obtain ⟨ob, e, _⟩ := x; exact Heap.lt_size e
    refine ⟨{ cls := .type "dict_keyiterator", data := .fields #[.ref d, .int 0 0, .int es.size 0, .int ep 0] }, fun i h => h.IsKeyIter s.heap.objs.size d i es.size ep ∧ Dct h d es ep, fun E Q q => iter_dct hd x q, ?_, ⟨_, Heap.get?_push_size _ rfl, rfl, rfl⟩, x.keep fun o e => Heap.get?_push_of_some _ e⟩
    refine ⟨fun b hb => by simp at hb; simp [hb], fun i h h' st k => ⟨?_, st.2.keep fun o e => k d (by simp) o e⟩, fun i s' Q E hi st q => ?_, fun s' Q E st q => ?_, fun i s' Q E st q => wpAny_pyIter_keyiter st.1 q⟩
    · obtain ⟨ob, e, r⟩ := st.1
      exact ⟨ob, k _ (by simp) ob e, r⟩
    · refine next_dct st.1 st.2 hi fun h' k' sb => q _ h' s'.toks ⟨hi, rfl⟩ ⟨k', st.2.keep fun o e => sb.extBut d o (Nat.ne_of_lt hlt) e⟩ fun b o hb e => sb.extBut b o (fun z => hb (by simp [z])) e
    · refine stop_dct hh st.1 st.2 (Nat.le_refl _) fun h' eb => q h' s'.toks fun b o hb e => eb b o (fun z => hb (by simp [z])) e
theorem run_dct {Q : Value → Shared → Prop} (hh : A.handled = none) (hd : (d == sysModules) = false) (x : Dct s.heap d es ep) (hn : es.size ≤ sizeLine)
    (q : ∀ h' tk acc c, (∀ b o, s.heap.get? b = some o → h'.get? b = some o) → h'.get? s.heap.objs.size = some { cls := .type "list", dict := none, data := .seq acc c, slots := #[] } → ItemsOf (fun i v => ∃ hi : i < es.size, v = es[i].key) acc es.size → Q (.ref s.heap.objs.size) { s with heap := h', toks := tk }) :
    wpAny (model prog w) A (runValue (.builtin "proto.collect" ⟨[.ref d], []⟩)) Q E s := by
  have hlt : d < s.heap.objs.size := by obtain ⟨ob, e, _⟩ := x; exact Heap.lt_size e
  have ne : s.heap.objs.size ≠ d := Nat.ne_of_gt hlt
  refine wpAny_runValue (codeAny_builtin F.entry_proto_collect ?_)
  rw [Around.under_plainId F.plain_proto_collect _]
  refine wpAny_bind (m := newList []) (wpAny_newObj_type (wpAny_pure ⟨plainId_quiet F.plain_list_iadd _, codeAny_builtin F.entry_list_iadd ?_⟩))
  rw [Around.under_plainId F.plain_list_iadd _]
  have x2 : Dct (s.heap.push { cls := .type "list", data := .seq ([] : List Value).toArray }) d es ep := x.keep fun o e => Heap.get?_push_of_some _ e
  exact PySem.W.kdl_extend (s := { s with heap := s.heap.push { cls := .type "list", data := .seq ([] : List Value).toArray } }) (R := fun r s' => match r with | .ok (.ret v) => Q v s' | .ok _ => False | .error e => E e s') (src_dct (es := es) (ep := ep) hd) hh x2 _ ne ne (.ref s.heap.objs.size) 0 (Heap.get?_push_size _ rfl)
    (fun h' tk acc c kp e items => q h' tk acc c (fun b o hb => kp b o (Nat.ne_of_lt (Heap.lt_size hb)) (Heap.get?_push_of_some _ hb)) e items) hn
theorem collect_dct {Q : List Value → Shared → Prop} (hh : A.handled = none) (hd : (d == sysModules) = false) (x : Dct s.heap d es ep) (hn : es.size ≤ sizeLine)
    (q : ∀ h' tk, (∀ b o, s.heap.get? b = some o → h'.get? b = some o) → s.heap.objs.size < h'.objs.size → Q (es.toList.map (·.key)) { s with heap := h', toks := tk }) : wpAny (model prog w) A (collect (.ref d)) Q E s := by
  refine wpAny_bind (run_dct hh hd x hn fun h' tk acc c kp e items => ?_)
  show wpAny _ A (load s.heap.objs.size >>= _) _ _ _
  refine wpAny_bind (wpAny_load e (wpAny_pure ?_))
  have ea : acc.toList = es.toList.map (·.key) := by
    apply List.ext_getElem?
    intro k
    rw [List.getElem?_map, Array.getElem?_toList, Array.getElem?_toList]
    rcases Nat.lt_or_ge k es.size with hk | hk
    · have h1 : k < acc.size := by rw [items.1]; exact hk
      rw [getElem?_pos es k hk, getElem?_pos acc k h1]
      obtain ⟨_, e2⟩ := items.2 k acc[k] (getElem?_pos acc k h1)
      rw [e2]; rfl
    · rw [getElem?_neg es k (by omega), getElem?_neg acc k (by rw [items.1]; omega)]; rfl
  rw [ea]
  exact q h' tk kp (Heap.lt_size e)
end
end TS
namespace TS
open PySem PyProof.Rows L2
section
variable {prog : Program} {w : World} {A : Around} {E : Value → Shared → Prop} {s : Shared}
theorem TupAt.keep {h h' : Heap} {v : Value} {ks : List L2.Key} (t : TupAt h v ks) (k : ∀ b o, h.get? b = some o → h'.get? b = some o) : TupAt h' v ks := by
  obtain ⟨b, o2, us, n, rfl, e, r⟩ := t
  exact ⟨b, o2, us, n, rfl, k _ _ e, r⟩
theorem out_up {kc : Value → List L2.Key} {vs : List Value} {y : Array Keyed} (pm : y.Perm (pairsOf vs)) (up : Up (kind kc) y.toList) :
    ∃ out : List Value, (y.map (·.2)) = out.toArray ∧ out.Perm vs ∧ out.Pairwise fun u v => lx (kc v) (kc u) = false := by
  have pl : y.toList.Perm (vs.zip vs) := pairsOf_toList vs ▸ Array.perm_iff_toList_perm.mp pm
  have hm : ∀ p ∈ y.toList, p.1 = p.2 := fun p hp => (mem_zip_self (pl.mem_iff.mp hp)).1
  refine ⟨y.toList.map (·.2), by rw [← Array.toList_map, Array.toArray_toList], ?_, ?_⟩
  · have := pl.map Prod.snd
    rwa [List.map_snd_zip (Nat.le_refl _)] at this
  · refine List.pairwise_map.mpr (up.imp_of_mem fun {p q} hp hq h => ?_)
    rw [← hm p hp, ← hm q hq]
    exact h
theorem sort_any {a : Addr} {vs : List Value} {n : Nat} {P : Fin → Shared → Prop} {kc : Value → List L2.Key} {d : List Bool} (ho : s.heap.get? a = some (seqObj "list" vs.toArray n)) (ht : ∀ v ∈ vs, TupAt s.heap v (kc v)) (hs : ∀ v ∈ vs, sd (kc v) = d) (hd : d ≠ []) (hl : vs.length ≤ sizeLine)
    (q : ∀ out : List Value, out.Perm vs → (out.Pairwise fun u v => lx (kc v) (kc u) = false) → P (.done (.ret .none)) { s with heap := sortedHeap s.heap a vs out.toArray }) : wpAny (model prog w) A (Builtin.«list.sort» ⟨[.ref a], []⟩) P E s := by
  rw [list_sort_plain]
  refine wpAny_bind (listItems_at ho rfl (wpAny_bind (listUpdate_at ho rfl ?_ (by rw [List.size_toArray]; exact hl))))
  have g1 := get?_update_seq ho (fun _ => #[])
  refine wpAny_bind (seqEpoch_at g1 rfl (wpAny_bind (wpAny_newTuple (wpAny_bind (wpAny_newList (wpAny_holding ?_))))))
  have g2 : (((s.heap.update a (Obj.mapSeq fun _ => #[])).push (seqObj "tuple" vs.toArray 0)).push (seqObj "list" #[] 0)).get? a = _ := Heap.get?_push_of_some _ (Heap.get?_push_of_some _ g1)
  have ht2 : ∀ v ∈ vs, TupAt (((s.heap.update a (Obj.mapSeq fun _ => #[])).push (seqObj "tuple" vs.toArray 0)).push (seqObj "list" #[] 0)) v (kc v) := fun v hv => (((ht v hv).upd ho rfl).push _).push _
  have room : ∀ y : Array Keyed, y.Perm (pairsOf vs) → (y.map (·.2)).size ≤ sizeLine + 1 := fun y hy => by
    rw [Array.size_map, hy.size_eq, pairsOf_size]; omega
  have fin : ∀ y : SortSt, (arrOf y).Perm (pairsOf vs) → Up (kind kc) (arrOf y).toList → P (.done (.ret .none)) { s with heap := sortedHeap s.heap a vs ((arrOf y).map (·.2)) } := fun y pm up => by
    obtain ⟨out, e, p, w⟩ := out_up pm up
    rw [e]; exact q out p w
  rcases Nat.lt_or_ge vs.length 2 with h2 | h2
  · rw [if_pos (by simpa using h2), if_pos (by simpa using h2)]
    refine wpAny_bind (wpAny_pure ?_)
    dsimp only
    rw [StateT.run_pure]
    refine wpAny_bind (wpAny_pure (wpAny_bind (seqEpoch_at g2 rfl (wpAny_bind (listUpdate_at g2 rfl ?_ (hsz2 := room _ (Array.Perm.refl _)))))))
    simp only [bne_self_eq_false, Bool.false_eq_true, if_false]
    refine wpAny_pure (fin (SortSt.mk' general' (pairsOf vs) #[] 7 none) (Array.Perm.refl _) ?_)
    show Up _ (pairsOf vs).toList
    rw [pairsOf_toList]
    match vs, h2 with
    | [], _ => exact List.Pairwise.nil
    | [v], _ => exact List.pairwise_singleton _ _
  · rw [if_neg (by simpa using h2), if_neg (by simpa using h2)]
    refine wpAny_bind (key_kind h2 ht2 hs hd ?_)
    refine wpAny_bind (wpAny_mono (sort_wp (o := kind kc) (z := pairsOf vs) (f := true) (st := SortSt.mk' (tuples' true) (vs.toArray.zip vs.toArray) #[] 7 none) (Q := fun _ y => Gd true (pairsOf vs) y ∧ Up (kind kc) (arrOf y).toList) (orc_of ht2 hs true) ⟨Array.Perm.refl _, rfl, rfl⟩ rfl (by rw [pairsOf_size]; exact h2) fun y p1 p2 => ⟨p1, p2⟩) ?_ fun _ _ e => e)
    rintro ⟨⟨⟩, y⟩ s2 ⟨rfl, gd, up⟩
    refine wpAny_bind (seqEpoch_at g2 rfl (wpAny_bind (listUpdate_at g2 rfl ?_ (hsz2 := room _ gd.pm))))
    rw [gd.fl]
    simp only [bne_self_eq_false, Bool.false_eq_true, if_false]
    exact wpAny_pure (fin y gd.pm up)
theorem sortedHeap_at {h : Heap} {a : Addr} {vs : List Value} {n : Nat} {out : Array Value} (ho : h.get? a = some (seqObj "list" vs.toArray n)) : ∃ c, (sortedHeap h a vs out).get? a = some (seqObj "list" out c) ∧ ∀ b o, b ≠ a → h.get? b = some o → (sortedHeap h a vs out).get? b = some o := by
  have g1 := get?_update_seq ho (fun _ => #[])
  have g2 : (((h.update a (Obj.mapSeq fun _ => #[])).push (seqObj "tuple" vs.toArray 0)).push (seqObj "list" #[] 0)).get? a = _ := Heap.get?_push_of_some _ (Heap.get?_push_of_some _ g1)
  have g3 := get?_update_seq g2 (fun _ => out)
  refine ⟨_, g3, fun b o hb e => ?_⟩
  exact (Heap.get?_update_other _ _ (Ne.symm hb)).trans (Heap.get?_push_of_some _ (Heap.get?_push_of_some _ ((Heap.get?_update_other _ _ (Ne.symm hb)).trans e)))
theorem sorted_of {x : Value} {vs : List Value} {kc : Value → List L2.Key} {d : List Bool} {Q : Value → Shared → Prop} (hc : ∀ R : List Value → Shared → Prop, (∀ h' tk, (∀ b o, s.heap.get? b = some o → h'.get? b = some o) → s.heap.objs.size < h'.objs.size → R vs { s with heap := h', toks := tk }) → wpAny (model prog w) A.in1 (collect x) R E s)
    (ht : ∀ v ∈ vs, TupAt s.heap v (kc v)) (hs : ∀ v ∈ vs, sd (kc v) = d) (hd : d ≠ []) (hl : vs.length ≤ sizeLine)
    (q : ∀ (h' : Heap) (tk c : Nat) (p : Addr) (out : List Value), (∀ b o, s.heap.get? b = some o → h'.get? b = some o) → s.heap.objs.size ≤ p → h'.get? p = some (seqObj "list" out.toArray c) → out.Perm vs → (out.Pairwise fun u v => lx (kc v) (kc u) = false) → Q (.ref p) { s with heap := h', toks := tk }) :
    wpAny (model prog w) A (call (.builtin "sorted") [x]) Q E s := by
  refine Calls.call_function_entry kind_sorted plain_sorted entry_sorted (args_sorted1 _) ?_
  refine wpAny_bind (m := checkCount "sorted" 1 1 _) (wpAny_pure ?_)
  refine wpAny_bind (hc _ fun h' tk kp lt => ?_)
  refine wpAny_bind (wpAny_newList ?_)
  have e1 : (h'.push (seqObj "list" vs.toArray 0)).get? h'.objs.size = some (seqObj "list" vs.toArray 0) := Heap.get?_push_size _ rfl
  have kp2 : ∀ b o, s.heap.get? b = some o → (h'.push (seqObj "list" vs.toArray 0)).get? b = some o := fun b o e => Heap.get?_push_of_some _ (kp b o e)
  refine wpAny_bind (wpAny_holding (wpAny_call_entry slot_list_sort ⟨_, e1, rfl⟩ entry_list_sort (sort_any e1 (fun v hv => (ht v hv).keep kp2) hs hd hl fun out pm up => ⟨_, rfl, wpAny_pure ⟨_, rfl, ?_⟩⟩) (args_list_sort _)))
  obtain ⟨c, g1, g2⟩ := sortedHeap_at (out := out.toArray) e1
  exact q _ tk c _ out (fun b o e => g2 b o (Nat.ne_of_lt (Nat.lt_trans (Heap.lt_size e) lt)) (kp2 b o e)) (Nat.le_of_lt lt) g1 pm up
end
end TS
namespace L2
open PySem PyProof.Rows TS
def unV : V → Key | .int n => .inl n | .str x => .inr x | _ => .inl 0
theorem unV_kV (k : Key) : unV (kV k) = k := by cases k <;> rfl
def KeyAt (H : Hp) (bs : List Addr) (ks : List (List Key)) : Prop := bs.length = ks.length ∧ ∀ (i : Nat) (b : Addr) (k : List Key), bs[i]? = some b → ks[i]? = some k → H b = some (.tup (k.map kV))
def kcOf (H : Hp) : Value → List Key
  | .ref b => match H b with | some (.tup ys) => ys.map unV | _ => []
  | _ => []
theorem kcOf_at {H : Hp} {b : Addr} {k : List Key} (e : H b = some (.tup (k.map kV))) : kcOf H (.ref b) = k := by
  show (match H b with | some (.tup ys) => ys.map unV | _ => []) = k
  rw [e]
  show (k.map kV).map unV = k
  rw [List.map_map]
  exact (List.map_congr_left fun x _ => unV_kV x).trans (List.map_id _)
theorem kVals_of : ∀ {ks : List Key} {us : List Value}, Vals (ks.map kV) us → KVals ks us
  | [], _, h => by rw [List.map_nil] at h; cases h; exact .nil
  | k :: ks, _, h => by
    rw [List.map_cons] at h
    cases h with
    | cons r t =>
      refine .cons ?_ (kVals_of t)
      cases k with
      | inl n => exact r
      | inr x => exact r
theorem tupAt_of {P : Program} {w : World} {H : Hp} {h : Heap} {b : Addr} {k : List Key} (ok : HOk P w H h) (e : H b = some (.tup (k.map kV))) : TS.TupAt h (.ref b) k := by
  obtain ⟨_, its, r, o, h1, h2, n, h3⟩ := (show ObjOk P w H h b (.tup (k.map kV)) from ok b _ e)
  exact ⟨b, o, its, n, rfl, h1, h2, h3, kVals_of r⟩
def adOf : Value → Addr | .ref b => b | _ => 0
theorem keys_out {H : Hp} {vs out : List Value} {ks : List (List Key)} (hv : ∀ v ∈ vs, ∃ (b : Addr) (k : List Key), v = .ref b ∧ H b = some (.tup (k.map kV))) (hk : vs.map (kcOf H) = ks) (pm : out.Perm vs) (up : out.Pairwise fun u v => lx (kcOf H v) (kcOf H u) = false) :
    Vals ((out.map adOf).map V.ref) out ∧ KeyAt H (out.map adOf) (out.map (kcOf H)) ∧ (out.map (kcOf H)).Perm ks ∧ (out.map (kcOf H)).Pairwise fun a b => lx b a = false := by
  have ho : ∀ v ∈ out, ∃ (b : Addr) (k : List Key), v = .ref b ∧ H b = some (.tup (k.map kV)) := fun v h => hv v (pm.mem_iff.mp h)
  refine ⟨?_, ⟨by rw [List.length_map, List.length_map], fun i b k h1 h2 => ?_⟩, hk ▸ pm.map _, List.pairwise_map.mpr up⟩
  · clear pm up hk
    induction out with
    | nil => exact .nil
    | cons v r ih =>
      obtain ⟨b, k, rfl, _⟩ := ho v (List.mem_cons_self ..)
      exact .cons rfl (ih fun u hu => ho u (List.mem_cons_of_mem _ hu))
  · rw [List.getElem?_map] at h1 h2
    obtain ⟨v, e1, rfl⟩ := Option.map_eq_some_iff.mp h1
    rw [e1] at h2
    cases h2
    obtain ⟨b, k, rfl, e⟩ := ho v (List.mem_of_getElem? e1)
    rw [kcOf_at e]
    exact e
theorem paired_mem {α β : Type} {F : α → β → Prop} : ∀ {l : List α} {m : List β} {y : β}, Paired F l m → y ∈ m → ∃ x ∈ l, F x y
  | _, _, _, .nil, h => by cases h
  | _, _, y, .cons r t, h => by
    rcases List.mem_cons.mp h with rfl | h
    · exact ⟨_, List.mem_cons_self .., r⟩
    · obtain ⟨x, hx, hf⟩ := paired_mem t h
      exact ⟨x, List.mem_cons_of_mem _ hx, hf⟩
theorem paired_map {α β γ : Type} {F : α → β → Prop} {g : α → γ} {g' : β → γ} : ∀ {l : List α} {m : List β}, Paired F l m → (∀ x y, F x y → g' y = g x) → l.map g = m.map g'
  | _, _, .nil, _ => rfl
  | _, _, .cons r t, h => by rw [List.map_cons, List.map_cons, h _ _ r, paired_map t h]
section
variable {X : Cx}
theorem call_sortedD (hc : X.calm = true) : CallR X (.builtin "sorted") (fun xs H Q => ∃ p kvs d, xs = [.ref p] ∧ H p = some (.dT kvs) ∧ (∀ kv ∈ kvs, sd kv.1 = d) ∧ d ≠ [] ∧
    ∀ l bs ks, H l = none → KeyAt H bs ks → ks.Perm (kvs.map (·.1)) → (ks.Pairwise fun a b => lx b a = false) → Q (.ref l) (upd H l (.lst (bs.map V.ref)))) := by
  intro pins s σ H xs us Q I r h
  obtain ⟨p, kvs, d, rfl, e, hs, hd, q⟩ := h
  obtain ⟨u, rfl, ru⟩ := vals1 r
  cases ru
  obtain ⟨hl, hm, ys, kt, ob, es, ep, h1, h2, h3, h4, h5, h6⟩ := dt_of I.hok e
  have hv : ∀ v ∈ es.toList.map (·.key), ∃ (b : Addr) (k : List Key), v = .ref b ∧ H b = some (.tup (k.map kV)) ∧ k ∈ kvs.map (·.1) := fun v hv => by
    rw [h4, List.map_map] at hv
    obtain ⟨y, hy, rfl⟩ := List.mem_map.mp hv
    obtain ⟨x, hx, e2, e3, _⟩ := paired_mem kt hy
    exact ⟨y.2.1, x.1, rfl, e3, List.mem_map.mpr ⟨x, hx, rfl⟩⟩
  have hk : (es.toList.map (·.key)).map (kcOf H) = kvs.map (·.1) := by
    rw [h4, List.map_map, List.map_map]
    exact (paired_map kt fun x y hxy => kcOf_at hxy.2.1).symm
  have hks : ∀ v ∈ es.toList.map (·.key), sd (kcOf H v) = d := fun v hv' => by
    obtain ⟨b, k, rfl, e1, hm⟩ := hv v hv'
    obtain ⟨kv, h7, rfl⟩ := List.mem_map.mp hm
    rw [kcOf_at e1]
    exact hs kv h7
  have hlen : es.size = kvs.length := by
    have := congrArg List.length h4
    rw [Array.length_toList, List.length_map] at this
    rw [this, Paired.length kt]
  refine sorted_of (kc := kcOf H) (fun R hR => collect_dct (A := X.A.in1) (I.ok.hd hc) hm ⟨ob, h1, h2, h3⟩ (by rw [hlen]; exact hl) hR) (fun v hv' => ?_) hks hd (by rw [List.length_map, Array.length_toList, hlen]; exact hl) fun h' tk c p' out kp hp e' pm up => ?_
  · obtain ⟨b, k, rfl, e1, _⟩ := hv v hv'
    rw [kcOf_at e1]
    exact tupAt_of I.hok e1
  · obtain ⟨rv, ka, pm2, up2⟩ := keys_out (fun v h => by obtain ⟨b, k, e1, e2, _⟩ := hv v h; exact ⟨b, k, e1, e2⟩) hk pm up
    refine ⟨.ref p', _, I.laid (t' := tk) (o := .lst ((out.map adOf).map V.ref)) kp hp ⟨?_, out, c, rv, e'⟩, rfl, q p' _ _ (I.hok.fresh hp) ka pm2 up2⟩
    rw [List.length_map, List.length_map, pm.length_eq, List.length_map, Array.length_toList, hlen]
    exact hl
end
end L2
namespace L2
open PySem PySem.Spec PyProof.Rows
section
variable {X : Cx} {pins : List (Addr × Obj)} {σ : St} {H : Hp} {s : Shared}
structure LT (K : PySem.W.Frag) (H : Hp) (a : Addr) (nss : List (List Int)) : Prop where
  ex : ∃ ps : List Addr, SqL K H a (ps.map V.ref) ∧ Tups K H ps nss
theorem eqAt_lt (I : Inv X pins σ H s) {A : Around} {a b : Addr} {nss mss : List (List Int)} (hu : A.units + 2 < cLine) (ha : LT X.K H a nss) (hb : LT X.K H b mss) (hab : a ≠ b) : SeqAt.EqAt A s (.ref a) (.ref b) (decide (nss = mss)) := by
  obtain ⟨ps, h1, T1⟩ := ha.ex
  obtain ⟨qs, h2, T2⟩ := hb.ex
  obtain ⟨its, r1, p1, _⟩ := I.list h1
  obtain ⟨its2, r2, p2, _⟩ := I.list h2
  have hu1 : A.units < cLine := by omega
  have hu2 : A.in1.units < cLine := by show A.units + 1 < cLine; omega
  by_cases hz : its.toArray.size = its2.toArray.size
  · rw [← lists_bool T1.len T2.len r1 r2 hz]
    exact SeqAt.EqAt.of_refs hab (SeqAt.RcAt.lists p1.isList p2.isList hz hu1 fun j g1 g2 => eqAt_refs I hu2 T1 T2 r1 r2 j g1 g2)
  · have hne : nss ≠ mss := fun e => by
      have e1 := r1.length
      have e2 := r2.length
      rw [List.length_map] at e1 e2
      rw [List.size_toArray, List.size_toArray] at hz
      have := T1.len
      have := T2.len
      rw [e] at *
      omega
    rw [decide_eq_false hne]
    exact SeqAt.EqAt.of_refs hab (SeqAt.RcAt.lists_lengths p1.isList p2.isList (bne_iff_ne.mpr hz) hu1)
end
end L2
namespace TS
open PySem PyProof.Rows L2
section
variable {prog : Program} {w : World} {A : Around} {E : Value → Shared → Prop} {s : Shared}
theorem for_list_wp {β : Type} {M : Model} {A : Around} {E : Value → Shared → Prop} {s : Shared} {g : Nat → β → Sem (ForInStep β)} (I : Nat → β → Prop) {Q : β → Shared → Prop} (n : Nat)
    (step : ∀ i c, i < n → I i c → wpAny M A (g i c) (fun r s' => s' = s ∧ match r with | .done c' => Q c' s | .yield c' => I (i + 1) c') E s) (fin : ∀ c, I n c → Q c s) : ∀ (k i : Nat) (c : β), i + k = n → I i c → wpAny M A (forIn (List.range' i k 1) c g) Q E s
  | 0, i, c, h, hi => by
    rw [List.range'_zero, List.forIn_nil]
    obtain rfl : i = n := by omega
    exact wpAny_pure (fin c hi)
  | k + 1, i, c, h, hi => by
    rw [List.range'_succ, List.forIn_cons]
    refine wpAny_bind (wpAny_mono (step i c (by omega) hi) (fun r s' hr => ?_) fun _ _ e => e)
    obtain ⟨rfl, hr⟩ := hr
    cases r with
    | done c' => exact wpAny_pure hr
    | yield c' => exact for_list_wp I n step fin k (i + 1) c' (by omega) hr
theorem for_range_wp {β : Type} {M : Model} {g : Nat → β → Sem (ForInStep β)} (I : Nat → β → Prop) {Q : β → Shared → Prop} {n : Nat} {c : β}
    (step : ∀ i c, i < n → I i c → wpAny M A (g i c) (fun r s' => s' = s ∧ match r with | .done c' => Q c' s | .yield c' => I (i + 1) c') E s) (fin : ∀ c, I n c → Q c s) (h0 : I 0 c) : wpAny M A (forIn [0:n] c g) Q E s := by
  rw [Std.Legacy.Range.forIn_eq_forIn_range']
  have hsz : ([0:n] : Std.Legacy.Range).size = n := by simp [Std.Legacy.Range.size]
  show wpAny M A (forIn (List.range' 0 ([0:n] : Std.Legacy.Range).size 1) c g) Q E s
  rw [hsz]
  exact for_list_wp I n step fin n 0 c (by omega) h0
variable {K : Type} [DecidableEq K] {knd : HeapKind prog w K}
theorem same_wp {id : String} {a b : Addr} {xs ys : List (K × Addr × Value)} {Q : Bool → Shared → Prop} (hu : knd.room A) (ha : (a == sysModules) = false) (hb : (b == sysModules) = false) (h1 : s.heap.DictOfH knd a xs) (h2 : s.heap.DictOfH knd b ys) (tx : ∀ x ∈ xs, x.2.2 = .bool true) (ty : ∀ y ∈ ys, y.2.2 = .bool true)
    (q : Q (decide (xs.length = ys.length) && xs.all fun x => ys.any fun y => decide (y.1 = x.1)) s) : wpAny (model prog w) A (Builtin.Dict.samePairs id a b) Q E s := by
  obtain ⟨oa, ea, epa, e1, _, d1, l1, i1, n1⟩ := h1
  obtain ⟨ob, eb, epb, e2, _, d2, l2, i2, n2⟩ := h2
  have s1 : ea.size = xs.length := by have := congrArg List.length l1; simpa using this
  have s2 : eb.size = ys.length := by have := congrArg List.length l2; simpa using this
  unfold Builtin.Dict.samePairs Builtin.Dict.showsAll
  rw [ha, hb]
  refine wpAny_bind (wpAny_pure (wpAny_bind (wpAny_pure (wpAny_bind (wpAny_dictEntries e1 d1 (wpAny_bind (wpAny_dictEntries e2 d2 ?_)))))))
  rcases Nat.decEq xs.length ys.length with hn | hn
  · rw [if_pos (by rw [s1, s2]; simpa using hn)]
    rw [decide_eq_false hn, Bool.false_and] at q
    exact wpAny_bind (wpAny_rule (wpAny_pure q))
  rw [if_neg (by rw [s1, s2]; simpa using hn)]
  rw [decide_eq_true hn, Bool.true_and] at q
  refine wpAny_bind (wpAny_dictEpoch e1 d1 (wpAny_bind (for_range_wp (n := ea.size) (I := fun i c => c = (none, ()) ∧ (xs.take i).all (fun x => ys.any fun y => decide (y.1 = x.1)) = true) (fun i c hi hc => ?_) (fun c hc => ?_) ⟨rfl, rfl⟩)))
  · obtain ⟨rfl, hall⟩ := hc
    have hi2 : i < xs.length := by omega
    have ee : ea[i]? = some (entryOfKey knd xs[i]) := by
      rw [← Array.getElem?_toList, l1, List.getElem?_map, List.getElem?_eq_getElem hi2]; rfl
    refine wpAny_bind (wpAny_dictEntries e1 d1 ?_)
    rw [ee]
    have hx : xs[i] ∈ xs := List.getElem_mem hi2
    refine wpAny_bind (wpAny_holding (wpAny_bind (wpAny_dictFind_heap hu (i1 _ hx) e2 d2 l2 i2 n2 (fun none => ?_) fun j p hj => ?_)))
    · refine wpAny_pure ?_
      rw [if_pos (by decide)]
      refine wpAny_pure ⟨rfl, ?_⟩
      have hf : (xs.all fun x => ys.any fun y => decide (y.1 = x.1)) = false := by
        refine Bool.eq_false_iff.mpr fun z => ?_
        have := List.all_eq_true.mp z _ hx
        obtain ⟨y, hy, e⟩ := List.any_eq_true.mp this
        obtain ⟨j, hj, e3⟩ := List.mem_iff_getElem.mp hy
        refine none j y.2 ?_
        rw [List.getElem?_eq_getElem hj, e3, ← of_decide_eq_true e]
      rw [hf] at q
      exact wpAny_pure q
    · have hj2 : eb[j]? = some (entryOfKey knd (xs[i].1, p)) := by
        rw [← Array.getElem?_toList, l2, List.getElem?_map, hj]; rfl
      refine wpAny_bind (wpAny_dictEntries e2 d2 ?_)
      rw [hj2]
      have hy : (xs[i].1, p) ∈ ys := List.mem_of_getElem? hj
      show wpAny _ _ (holding [_] (eqBool xs[i].2.2 p.2)) _ _ _
      rw [tx _ hx, show p.2 = .bool true from ty _ hy]
      refine wpAny_holding (SeqAt.EqAt.bool_bool true true prog w _ _ ?_)
      rw [if_neg (by decide)]
      refine wpAny_bind (wpAny_dictEpoch e1 d1 ?_)
      rw [if_neg (by simp)]
      refine wpAny_pure ⟨rfl, rfl, ?_⟩
      rw [List.take_succ, List.getElem?_eq_getElem hi2, List.all_append, hall, Bool.true_and]
      show ([xs[i]].all _) = true
      rw [List.all_cons, List.all_nil, Bool.and_true]
      exact List.any_eq_true.mpr ⟨_, hy, decide_eq_true rfl⟩
  · obtain ⟨rfl, hall⟩ := hc
    rw [s1, List.take_of_length_le (Nat.le_refl _)] at hall
    rw [hall] at q
    exact wpAny_pure q
end
end TS
namespace L2
open PySem PyProof.Rows TS
def sameD (kvs mvs : List (List Key × V)) : Bool := decide (kvs.length = mvs.length) && (kvs.map (·.1)).all fun k => (mvs.map (·.1)).any fun k' => decide (k' = k)
section
variable {X : Cx}
theorem op_eqD (hu : X.A.units + 64 < cLine) : OpR X (compareOp .Eq) (fun x y H Q => ∃ (a b : Addr) (kvs mvs : List (List Key × V)), x = .ref a ∧ y = .ref b ∧ H a = some (.dT kvs) ∧ H b = some (.dT mvs) ∧ (∀ kv ∈ kvs, kv.2 = .bl true) ∧ (∀ kv ∈ mvs, kv.2 = .bl true) ∧ Q (.bl (sameD kvs mvs)) H) := by
  intro pins s σ H x y v u Q I rx ry h
  obtain ⟨a, b, kvs, mvs, rfl, rfl, ha, hb, tk, tm, q⟩ := h
  cases rx
  cases ry
  obtain ⟨_, na, xs, k1, d1⟩ := dt_of I.hok ha
  obtain ⟨_, nb, ys, k2, d2⟩ := dt_of I.hok hb
  have t1 : s.TypeIs (.ref a) "dict" := by obtain ⟨ob, es, ep, e, c, _⟩ := d1; exact ⟨ob, e, c.1⟩
  have t2 : s.TypeIs (.ref b) "dict" := by obtain ⟨ob, es, ep, e, c, _⟩ := d2; exact ⟨ob, e, c.1⟩
  have tx : ∀ x ∈ xs, x.2.2 = .bool true := fun x hx => by
    obtain ⟨kv, hkv, _, _, r⟩ := paired_mem k1 hx
    rw [tk kv hkv] at r
    exact r
  have ty : ∀ x ∈ ys, x.2.2 = .bool true := fun x hx => by
    obtain ⟨kv, hkv, _, _, r⟩ := paired_mem k2 hx
    rw [tm kv hkv] at r
    exact r
  have m1 : kvs.map (·.1) = xs.map (·.1) := paired_map k1 fun x y h => h.1.symm
  have m2 : mvs.map (·.1) = ys.map (·.1) := paired_map k2 fun x y h => h.1.symm
  have es : sameD kvs mvs = (decide (xs.length = ys.length) && xs.all fun x => ys.any fun y => decide (y.1 = x.1)) := by
    unfold sameD
    rw [m1, m2, Paired.length k1, Paired.length k2, List.all_map]
    congr 1
    refine List.all_congr rfl fun x => ?_
    show (List.any (ys.map (·.1)) _) = _
    rw [List.any_map]; rfl
  rw [es] at q
  refine wpAny_richCompare_same_room (op := .Eq) t1 t2 PySem.F.slot_dict_eq (wpAny_call_entry PySem.F.slot_dict_eq t1 PySem.F.entry_dict_eq (wpAny_bind ?_) (PySem.F.args_dict_eq_2 _ _)) (by omega)
  refine wpAny_bind (wpAny_notOrdered_dict t1 ?_)
  show wpAny _ _ (pure (Value.ref a, Value.ref b)) _ _ s
  refine wpAny_pure (wpAny_bind (wpAny_isInstance (T := "dict") t2 PySem.F.sub_dict_dict ?_))
  rw [if_neg (by decide)]
  refine wpAny_bind (wpAny_pure (wpAny_bind (wpAny_pure (wpAny_bind (same_wp (tupleKind_room_in1 (by omega)) na nb d1 d2 tx ty ?_)))))
  refine wpAny_pure ⟨_, rfl, fun z => (nomatch z), .bl _, H, I, ?_, q⟩
  show Value.bool _ = Value.bool _
  cases (decide (xs.length = ys.length) && xs.all fun x => ys.any fun y => decide (y.1 = x.1)) <;> rfl
end
end L2
namespace TS
open PySem PyProof.Rows L2
theorem erase_keys {K V : Type} [DecidableEq K] : ∀ {xs : List (K × V)} {j : Nat} {k : K} {p : V}, (xs.map (·.1)).Nodup → xs[j]? = some (k, p) → xs.eraseIdx j = xs.filter fun x => decide (x.1 ≠ k)
  | [], j, k, p, _, h => by simp at h
  | x :: r, 0, k, p, n, h => by
    cases h
    have hn := (List.nodup_cons.mp n).1
    rw [List.eraseIdx_cons_zero, List.filter_cons_of_neg (by simp)]
    refine (List.filter_eq_self.mpr fun y hy => ?_).symm
    have : y.1 ≠ k := fun e => hn (List.mem_map.mpr ⟨y, hy, e⟩)
    simpa using this
  | x :: r, j + 1, k, p, n, h => by
    obtain ⟨hn, n2⟩ := List.nodup_cons.mp n
    rw [List.getElem?_cons_succ] at h
    have hx : x.1 ≠ k := fun e => hn (List.mem_map.mpr ⟨(k, p), List.mem_of_getElem? h, e.symm⟩)
    rw [List.eraseIdx_cons_succ, List.filter_cons_of_pos (by simpa using hx), erase_keys n2 h]
theorem erase_map {α β : Type} (g : α → β) : ∀ (l : List α) (j : Nat), (l.map g).eraseIdx j = (l.eraseIdx j).map g
  | [], j => rfl
  | a :: r, 0 => rfl
  | a :: r, j + 1 => congrArg (g a :: ·) (erase_map g r j)
section
variable {prog : Program} {w : World} {A : Around} {E : Value → Shared → Prop} {s : Shared} {K : Type} [DecidableEq K] {knd : HeapKind prog w K}
theorem take_wp {d a : Addr} {xs : List (K × Addr × Value)} {k : K} {Q : Option DictEntry → Shared → Prop} (hu : knd.room A) (hkey : knd.is s.heap k a) (hm : s.heap.DictOfH knd d xs) (hsz : xs.length ≤ sizeLine)
    (none : (∀ x ∈ xs, x.1 ≠ k) → ∀ tk, Q none { s with toks := tk }) (some : ∀ e h' tk, (∃ x ∈ xs, e.val = x.2.2) → h'.DictOfH knd d (xs.filter fun x => decide (x.1 ≠ k)) → Heap.SameBut d s.heap h' → Q (some e) { s with heap := h', toks := tk }) : wpAny (model prog w) A (Builtin.Dict.takeOut d (.ref a)) Q E s := by
  obtain ⟨ob, es, ep, ho, hc, hd, he, his, hn⟩ := hm
  refine wpAny_holding (wpAny_bind (knd.pyHash hu hkey (wpAny_bind (wpAny_dictFind_heap (s := { s with toks := s.toks + knd.draws k }) hu hkey ho hd he his hn (fun no => ?_) fun j p hj => ?_))))
  · refine wpAny_pure (none (fun x hx e => ?_) _)
    obtain ⟨j, hj, e2⟩ := List.mem_iff_getElem.mp hx
    exact no j x.2 (by rw [List.getElem?_eq_getElem hj, e2, ← e])
  · have hz : es.size ≤ sizeLine := by
      have := congrArg List.length he
      rw [Array.length_toList, List.length_map] at this
      omega
    refine wpAny_bind (wpAny_dictEntries (s := { s with toks := s.toks + knd.draws k }) ho hd ?_)
    have hj2 : es[j]? = Option.some (entryOfKey knd (k, p)) := by
      rw [← Array.getElem?_toList, he, List.getElem?_map, hj]; rfl
    rw [hj2]
    refine wpAny_bind (wpAny_updateDictKeys (s := { s with toks := s.toks + knd.draws k }) ho hd ?_ hz (by rw [← Array.length_toList, Array.toList_eraseIdxIfInBounds, List.length_eraseIdx, Array.length_toList]; split <;> omega))
    refine wpAny_pure (some _ _ _ ⟨_, List.mem_of_getElem? hj, rfl⟩ ⟨_, _, ep + 1, Heap.get?_update_self _ ho (Obj.isFreed_of_dict (Obj.data_mapDictKeys hd _)), hc.mapDictKeys _, Obj.data_mapDictKeys hd _, ?_, fun x hx => ?_, ?_⟩ (Heap.SameBut.update ..))
    · rw [Array.toList_eraseIdxIfInBounds, he, ← erase_keys hn hj, erase_map]
    · exact knd.keeps (his x (List.mem_filter.mp hx).1) ho hd (Heap.SameBut.update ..)
    · exact (List.filter_sublist.map _).nodup hn
end
end TS
namespace L2
open PySem PyProof.Rows TS
theorem KT.dropped {H : Hp} {kvs : List (List Key × V)} {xs : List (List Key × Addr × Value)} (r : KT H kvs xs) (k : List Key) : KT H (dropK kvs k) (xs.filter fun x => decide (x.1 ≠ k)) := by
  unfold KT at *
  induction r with
  | nil => exact .nil
  | @cons p q ps qs h t ih =>
    unfold dropK at ih ⊢
    by_cases e : p.1 = k
    · rw [List.filter_cons_of_neg (by simpa using e), List.filter_cons_of_neg (by rw [← h.1]; simpa using e)]
      exact ih
    · rw [List.filter_cons_of_pos (by simpa using e), List.filter_cons_of_pos (by rw [← h.1]; simpa using e)]
      exact .cons h ih
section
variable {X : Cx}
def rPopT : V → List V → Hp → VK → Prop := fun x vs H Q => ∃ (a b : Addr) (kvs : List (List Key × V)) (k : List Key), x = .ref a ∧ vs = [.ref b, .non] ∧ H a = some (.dT kvs) ∧ H b = some (.tup (k.map kV)) ∧ ∀ v, Q v (upd H a (.dT (dropK kvs k)))
theorem mt_popT (hu : X.A.units + 64 < cLine) : MtR X "dict.pop" rPopT := by
  intro pins s σ H x vs v us Q I rx rv h
  obtain ⟨a, b, kvs, k, rfl, rfl, ea, eb, q⟩ := h
  cases rx
  cases rv with
  | cons r1 t => cases t with
    | cons r2 t => cases t with
      | nil =>
  cases r1
  obtain rfl := (show _ = Value.none from r2)
  obtain ⟨z, hd, xs, rel, dd⟩ := dt_of I.hok ea
  have ty : s.TypeIs (.ref a) "dict" := dd.typeIs
  have hz : xs.length ≤ sizeLine := by rw [← Paired.length rel]; exact z
  have same : (∀ x ∈ xs, x.1 ≠ k) → upd H a (.dT (dropK kvs k)) = H := fun no => by
    have e : dropK kvs k = kvs := List.filter_eq_self.mpr fun kv hkv => by
      have : kv.1 ≠ k := fun e => by
        have hm : kv.1 ∈ kvs.map (·.1) := List.mem_map.mpr ⟨kv, hkv, rfl⟩
        rw [paired_map rel fun x y h => h.1.symm] at hm
        obtain ⟨x, hx, e2⟩ := List.mem_map.mp hm
        exact no x hx (e2.trans e)
      simpa using this
    rw [e]
    funext c
    by_cases hc : c = a
    · rw [hc, upd_same, ea]
    · rw [upd_ne hc]
  refine wpAny_call_entry PySem.F.slot_dict_pop ty PySem.F.entry_dict_pop (wpAny_bind (wpAny_bind (wpAny_notOrdered_dict ty ?_))) (PySem.F.args_dict_pop_3 _ _ _)
  show wpAny _ _ (pure (a, Value.ref b, some Value.none)) _ _ s
  refine wpAny_pure ?_
  simp only [show (keyPart (Value.ref b)).isSome = false from rfl, Bool.false_eq_true, if_false]
  obtain ⟨ob, es, ep, ho, hc, hdd, he, _⟩ := id dd
  have no_ : (∀ x ∈ xs, x.1 ≠ k) → ∀ tk, EP X pins σ Q .none { s with toks := tk } := fun no tk => ⟨.non, H, I.tok _, rfl, same no ▸ q .non⟩
  refine wpAny_bind (wpAny_dictEntries ho hdd (wpAny_bind (wpAny_pure ?_)))
  cases hE : es.isEmpty with
  | true =>
    have hx : xs = [] := by
      have h1 : es.size = 0 := by simpa [Array.isEmpty] using hE
      have := congrArg List.length he
      rw [Array.length_toList, List.length_map, h1] at this
      exact List.eq_nil_of_length_eq_zero this.symm
    rw [if_pos rfl]
    refine wpAny_bind (wpAny_rule (wpAny_bind (wpAny_pure ?_)))
    rw [if_pos (show (none : Option DictEntry).isNone = true from rfl)]
    exact wpAny_bind (wpAny_missedRemoval_other hd (wpAny_bind (wpAny_rule (wpAny_pure ⟨_, rfl, no_ (by rw [hx]; simp) s.toks⟩))))
  | false =>
    rw [if_neg Bool.false_ne_true]
    refine wpAny_bind (take_wp (tupleKind_room_in1 (by omega)) (key_of I.hok eb) dd hz (fun no tk => ?_) fun e h' tk hv dd' hs => ?_)
    · rw [if_pos (show (none : Option DictEntry).isNone = true from rfl)]
      exact wpAny_bind (wpAny_missedRemoval_other hd (wpAny_bind (wpAny_rule (wpAny_pure ⟨_, rfl, no_ no tk⟩))))
    · rw [if_neg (show ¬ (some e).isNone = true from Bool.false_ne_true)]
      obtain ⟨x, hx, ev⟩ := hv
      obtain ⟨kv, _, _, _, rv⟩ := paired_mem rel hx
      rw [← ev] at rv
      refine wpAny_bind (wpAny_letGo (wpAny_pure ⟨_, rfl, kv.2, _, ?_, rv, q kv.2⟩))
      obtain ⟨o2, es2, ep2, hq, h2, h3, h4, _, h5⟩ := dd'
      refine d_write I (by rw [ea]; exact True.intro) hs ⟨o2, hq⟩ ⟨Nat.le_trans (List.length_filter_le _ _) z, hd, _, (rel.dropped k).keeps fun c ys ec => ?_, o2, es2, ep2, hq, h2, h3, h4, h5⟩
      rw [upd_ne (ne_of ec ea (fun z => nomatch z))]
      exact ec
end
end L2
namespace L2
open PySem PySem.Spec PyProof.Rows
section
variable {P : Program} {w : World} {K : PySem.W.Frag} {mg : Str → Option Value} {base : Heap}
theorem bindsN {fd : FuncData} {ps : List Str} {D : Addr} {od : Obj} {items : Array Value} {n : Nat} (hf : fd.defaults = .ref D) (dl : K.lookup D = some od) (hd : od.data = .seq items n)
    (h : ∀ us : List Value, us.length + 1 = ps.length → ∃ k : Option (Array Value) → Sem (List (Str × Value)), bindArgs fd ⟨us, []⟩ = seqItems? fd.defaults >>= k ∧ k (some items) = pure (ps.zip (us ++ [Value.none]))) : Binds K fd ps [Value.none] := by
  intro s us KX hl
  rw [List.length_append] at hl
  obtain ⟨k, h1, h2⟩ := h us hl
  exact BindsTo.of_defaults hf (KX D od dl) hd h1 h2
structure GoodMN (P : Program) (w : World) (K : PySem.W.Frag) (mg : Str → Option Value) (base : Heap) (k : Nat) (C : Addr) (m : Str) (ps : List Str) (sp : Sp) : Prop where
  cl : Cls K C
  ex : ∃ f fd, Meth K C m f ∧ FnOk P w K mg base (XC P w) k f fd ps sp ∧ Binds K fd ps [Value.none]
end
section
variable {X : Cx} {k : Nat} {m : Str} {C : Addr} {ps : List Str} {sp : Sp} {E : XK}
def rMethN (C : Addr) (m : Str) (sp : Sp) (E : XK) : V → Hp → VK → Prop := fun x H Q => ∃ a dx fs, x = .ref a ∧ H a = some (.ins C dx fs) ∧ fs.lookup m = none ∧ sp [x, .non] H Q E
theorem mN_of (G : GoodMN X.prog X.w X.K X.mg X.base k C m ps sp) (hr : Room k X.A) (hx : Passes (XC X.prog X.w) X E) : M0R X m (rMethN C m sp E) := by
  intro pins s σ H x u Q pl pos I r h
  obtain ⟨f, fd, M, F, b⟩ := G.ex
  obtain ⟨a, dx, fs, rfl, ea, l, q⟩ := h
  obtain rfl : u = Value.ref a := r
  refine wpAny_holding (getmeth_ok I ea G.cl M l ?_)
  exact PySem.W.callWith_K0 (first := [.ref a]) I.kIn M.kp (run_fn (us := [.ref a]) (vs := [.ref a]) (dvs := [.non]) F hr b (.cons rfl .nil) hx I (.cons rfl .nil) q)
end
end L2
namespace L2
open PySem PyProof.Rows
section
variable {X : Cx}
end
end L2
namespace L2
open PySem PySem.Spec PyProof.Rows
theorem op_catTK {X : Cx} {K : PySem.W.Frag} (h : X.K = K) : OpR X (binaryOp .Add) (rCatT K) := h ▸ op_catT
section
variable {X : Cx} {k : Nat} {x m : Str} {C : Addr} {ps : List Str} {sp : Sp} {E : St → XK} {p pos apos : Pos} {e o : Expr} {es : List Expr} {ta : TE} {t : TA}
end
end L2
namespace L2
open PySem PySem.Spec PyProof.Rows TS
section
variable {X : Cx}
theorem call_sortedL : CallR X (.builtin "sorted") (fun xs H Q => ∃ p bs ks d, xs = [.ref p] ∧ H p = some (.lst (bs.map V.ref)) ∧ KeyAt H bs ks ∧ (∀ k ∈ ks, sd k = d) ∧ d ≠ [] ∧
    ∀ l bs' ks', H l = none → KeyAt H bs' ks' → ks'.Perm ks → (ks'.Pairwise fun a b => lx b a = false) → Q (.ref l) (upd H l (.lst (bs'.map V.ref)))) := by
  intro pins s σ H xs us Q I r h
  obtain ⟨p, bs, ks, d, rfl, e, ka, hs, hd, q⟩ := h
  obtain ⟨u, rfl, ru⟩ := vals1 r
  cases ru
  obtain ⟨its, rv, pl, hz⟩ := I.list (SqL.of e)
  obtain rfl := refs_of rv
  have hv : ∀ v ∈ bs.map Value.ref, ∃ (b : Addr) (k : List Key), v = .ref b ∧ H b = some (.tup (k.map kV)) ∧ k ∈ ks := fun v hv => by
    obtain ⟨b, hb, rfl⟩ := List.mem_map.mp hv
    obtain ⟨i, hi, eb⟩ := List.getElem_of_mem hb
    have hi2 : i < ks.length := by rw [← ka.1]; exact hi
    exact ⟨b, ks[i], rfl, ka.2 i b ks[i] (by rw [List.getElem?_eq_getElem hi, eb]) (List.getElem?_eq_getElem hi2), List.getElem_mem hi2⟩
  have hk : (bs.map Value.ref).map (kcOf H) = ks := by
    refine List.ext_getElem (by rw [List.length_map, List.length_map, ka.1]) fun i h1 h2 => ?_
    rw [List.getElem_map, List.getElem_map]
    have hb : i < bs.length := by simpa using h1
    exact kcOf_at (ka.2 i bs[i] ks[i] (List.getElem?_eq_getElem hb) (List.getElem?_eq_getElem h2))
  have hks : ∀ v ∈ bs.map Value.ref, sd (kcOf H v) = d := fun v hv' => by
    obtain ⟨b, k, rfl, e1, hm⟩ := hv v hv'
    rw [kcOf_at e1]
    exact hs k hm
  have hlen : (bs.map Value.ref).length ≤ sizeLine := by
    have := hz
    simpa using this
  refine sorted_of (kc := kcOf H) (fun R hR => collect_list (A := X.A.in1) pl.isList (hR _ s.toks (fun b o e => ?_) ?_) hlen) (fun v hv' => ?_) hks hd hlen fun h' tk c p' out kp hp e' pm up => ?_
  · exact (Heap.get?_update_other _ _ (Nat.ne_of_gt (Heap.lt_size e))).trans (Heap.get?_push_of_some _ e)
  · show s.heap.objs.size < ((s.heap.push _).update _ _).objs.size
    simp [Heap.update, Heap.push]
  · obtain ⟨b, k, rfl, e1, _⟩ := hv v hv'
    rw [kcOf_at e1]
    exact tupAt_of I.hok e1
  · obtain ⟨rv, ka, pm2, up2⟩ := keys_out (fun v h => by obtain ⟨b, k, e1, e2, _⟩ := hv v h; exact ⟨b, k, e1, e2⟩) hk pm up
    refine ⟨.ref p', _, I.laid (t' := tk) (o := .lst ((out.map adOf).map V.ref)) kp hp ⟨?_, out, c, rv, e'⟩, rfl, q p' _ _ (I.hok.fresh hp) ka pm2 up2⟩
    rw [List.length_map, List.length_map, pm.length_eq]
    exact hlen
def rInT (K : PySem.W.Frag) (neg : Bool) : R2 := fun x y H Q => ∃ (p a : Addr) (ns : List Int) (nss : List (List Int)), x = .ref p ∧ y = .ref a ∧ SqT K H p (ns.map V.int) ∧ LT K H a nss ∧ Q (.bl (if neg then !decide (ns ∈ nss) else decide (ns ∈ nss))) H
open Classical in
theorem tup_fun {pins : List (Addr × Obj)} {σ : St} {H : Hp} {s : Shared} (I : Inv X pins σ H s) : ∃ f : Addr → List Int, ∀ p ns, SqT X.K H p (ns.map V.int) → f p = ns :=
  ⟨fun p => if h : ∃ ns : List Int, SqT X.K H p (ns.map V.int) then Classical.choose h else [], fun p ns h => by
    have hx : ∃ ns : List Int, SqT X.K H p (ns.map V.int) := ⟨ns, h⟩
    show (if h : ∃ ns : List Int, SqT X.K H p (ns.map V.int) then Classical.choose h else []) = ns
    rw [dif_pos hx]
    have e := I.tuple_inj (Classical.choose_spec hx) h
    exact (List.map_inj_right (f := V.int) fun x y h => V.int.inj h).mp e⟩
theorem in_tups {pins : List (Addr × Obj)} {σ : St} {H : Hp} {s : Shared} (I : Inv X pins σ H s) (hu : X.A.units + 2 < cLine) {p a : Addr} {ns : List Int} {nss : List (List Int)} (hp : SqT X.K H p (ns.map V.int)) (ha : LT X.K H a nss) :
    ∃ (its : List Value) (e : Value → Bool), s.heap.IsList a its.toArray ∧ (∀ y, y ∈ its.toArray → SeqAt.EqAt X.A.in1 s y (.ref p) (e y)) ∧ its.toArray.any e = decide (ns ∈ nss) := by
  obtain ⟨ps, h1, T⟩ := ha.ex
  obtain ⟨its, r1, p1, _⟩ := I.list h1
  obtain rfl := refs_of r1
  obtain ⟨f, hf⟩ := tup_fun I
  have hu1 : X.A.in1.units < cLine := by show X.A.units + 1 < cLine; omega
  have at_ : ∀ q ∈ ps, ∃ ms ∈ nss, SqT X.K H q (ms.map V.int) := fun q hq => by
    obtain ⟨i, hi, e⟩ := List.getElem_of_mem hq
    have hi2 : i < nss.length := by rw [← T.len]; exact hi
    exact ⟨nss[i], List.getElem_mem hi2, T.at_ i q nss[i] (by rw [List.getElem?_eq_getElem hi, e]) (List.getElem?_eq_getElem hi2)⟩
  refine ⟨ps.map Value.ref, fun v => match v with | .ref q => decide (f q = ns) | _ => false, p1.isList, fun y hy => ?_, ?_⟩
  · obtain ⟨q, hq, rfl⟩ := List.mem_map.mp (by simpa using hy : y ∈ ps.map Value.ref)
    obtain ⟨ms, _, hq2⟩ := at_ q hq
    show SeqAt.EqAt _ _ _ _ (decide (f q = ns))
    rw [hf q ms hq2]
    exact eqAt_tup I hu1 hq2 hp
  · rw [Bool.eq_iff_iff, decide_eq_true_iff]
    constructor
    · intro h
      obtain ⟨q, hq, e2⟩ : ∃ q, q ∈ ps ∧ f q = ns := by simpa using h
      obtain ⟨ms, hm, hq2⟩ := at_ q hq
      rw [hf q ms hq2] at e2
      rw [← e2]; exact hm
    · intro h
      obtain ⟨i, hi, e⟩ := List.getElem_of_mem h
      have hi2 : i < ps.length := by rw [T.len]; exact hi
      have hq := T.at_ i ps[i] ns (List.getElem?_eq_getElem hi2) (by rw [List.getElem?_eq_getElem hi, e])
      have : ∃ q, q ∈ ps ∧ f q = ns := ⟨ps[i], List.getElem_mem hi2, hf _ ns hq⟩
      simpa using this
theorem op_inT (hu : X.A.units + 64 < cLine) : OpR X (compareOp .In) (rInT X.K false) := by
  intro pins s σ H x y v u Q I rx ry h
  obtain ⟨p, a, ns, nss, rfl, rfl, hp, ha, q⟩ := h
  cases rx
  cases ry
  obtain ⟨its, e, hl, he, ev⟩ := in_tups I (by omega) hp ha
  refine SeqAt.in_listAt e hl he ⟨.bl _, H, I, rfl, ?_⟩
  rw [ev]; exact q
end
end L2
namespace L2
open PySem PySem.Spec PyProof.Rows
theorem cs_two {X : Cx} {scope : Scope} {N : List Str} {n1 n2 : Str} {a1 a2 : Addr} (hN : X.N = N) (hk : scope.kind = .function) (hcl : closureFor scope X.env = pure [(n1, a1), (n2, a2)]) (s1 : X.env.cells.lookup n1 = some a1) (s2 : X.env.cells.lookup n2 = some a2)
    (o1 : X.env.kindOf n1 = some .cell) (o2 : X.env.kindOf n2 = some .cell)
    (h1 : (scope.names.all fun y => y.2 != .cell && (y.2 != .free || (y.1 == n1 || y.1 == n2))) = true) (h2 : (scope.names.all fun y => y.2 != .local || scope.names.lookup y.1 == some .local) = true)
    (h3 : (N.all fun x => scope.names.lookup x != some .local) = true) : CompScope X scope [(n1, a1), (n2, a2)] where
  clos := hcl
  kind := hk
  nocell := fun y hy => by
    have := List.all_eq_true.mp h1 y hy
    simp only [Bool.and_eq_true, bne_iff_ne] at this
    exact this.1
  names := fun y hy e => by
    have := List.all_eq_true.mp h2 y hy
    rw [e] at this
    simpa using this
  sub := fun x c e => by
    rw [List.lookup_cons] at e
    split at e
    · rename_i q
      obtain rfl : x = n1 := by simpa using q
      cases e; exact s1
    · rw [List.lookup_cons] at e
      split at e
      · rename_i q
        obtain rfl : x = n2 := by simpa using q
        cases e; exact s2
      · cases e
  has := fun x e => by
    have := List.all_eq_true.mp h1 _ (lookup_mem e)
    simp only [Bool.and_eq_true, Bool.or_eq_true, bne_iff_ne, ne_eq, beq_iff_eq] at this
    simp only [List.lookup_cons]
    by_cases q1 : x = n1
    · exact ⟨a1, by simp [q1]⟩
    · by_cases q2 : x = n2
      · subst q2; exact ⟨a2, by rw [show (x == n1) = false by simpa using q1]; simp⟩
      · rcases this.2 with z | z | z
        · exact absurd trivial z
        · exact absurd z q1
        · exact absurd z q2
  apart := fun x hx => by
    have := List.all_eq_true.mp h3 x (hN ▸ hx)
    simpa using this
  outer := fun x e => by
    have := List.all_eq_true.mp h1 _ (lookup_mem e)
    simp only [Bool.and_eq_true, Bool.or_eq_true, bne_iff_ne, ne_eq, beq_iff_eq] at this
    rcases this.2 with z | z | z
    · exact absurd trivial z
    · exact .inl (z ▸ o1)
    · exact .inl (z ▸ o2)
theorem comp_rangeN {lo : Int} {n : Nat} {g : TG} {tc : TT} {te : TE} {k : Nat} {σ : St} {H : Hp} {Q : VK} (Pv : Addr → Nat → List V → Hp → Prop) (hn : n ≤ sizeLine)
    (h0 : ∀ D, H D = none → Pv D 0 [] (upd H D (.lst []))) (hD : ∀ D i ys H', Pv D i ys H' → H' D = some (.lst ys) ∧ ys.length ≤ i)
    (step : ∀ D i ys H' (Qy : VK) (Qn : Hp → Prop), i < n → Pv D i ys H' → (∀ y H4, H4 D = some (.lst ys) → Pv D (i + 1) (ys ++ [y]) (upd H4 D (.lst (ys ++ [y]))) → Qy y H4) → (∀ H4, Pv D (i + 1) ys H4 → Qn H4) →
      g (.int (lo + i)) (σ ++ List.replicate k none) H' fun σ2 H2 => (∃ zs, σ2 = σ ++ zs ∧ zs.length = k) ∧ tc σ2 H2 fun b H3 => if b = true then te σ2 H3 Qy else Qn H3)
    (q : ∀ D ys H', H D = none → Pv D n ys H' → Q (.ref D) H') : compT k g tc te σ Q (Itr lo n) H := by
  intro D hDn
  refine ⟨fun i m ys H' => m = n - i ∧ i ≤ n ∧ Pv D i ys H', ⟨n, by simp, Nat.zero_le _, h0 D hDn⟩, ?_⟩
  rintro i m ys H' ⟨rfl, hi, p⟩
  obtain ⟨e, hl⟩ := hD D i ys H' p
  refine ⟨e, ?_⟩
  by_cases hlt : i < n
  · refine .inr ⟨hlt, by omega, fun x H2 y => ?_⟩
    obtain ⟨rfl, rfl⟩ := y
    exact step D i ys H2 _ _ hlt p (fun y H4 e4 p4 => ⟨e4, n - (i + 1), by omega, rfl, hlt, p4⟩) fun H4 p4 => ⟨n - (i + 1), by omega, rfl, hlt, p4⟩
  · obtain rfl : i = n := by omega
    exact .inl ⟨Nat.le_refl _, q D ys H' hDn p⟩
end L2
namespace L2
open PySem PySem.Spec PyProof.Rows TS
section
variable {X : Cx} {pos : Pos}
end
section
variable {X : Cx} {pins : List (Addr × Obj)} {σ : St} {H : Hp} {s : Shared}
open Classical in
end
end L2
namespace STb
open PySem SetTable
end STb
namespace STb
open PySem SetTable
end STb
namespace STb
open PySem SetTable
end STb
namespace STb
open PySem SetTable
end STb
namespace STb
open PySem PySem.Spec PyProof.Rows L2 SetTable
section
variable {P : Program} {w : World} {A : Around} {E : Value → Shared → Prop} {s : Shared}
end
end STb
namespace STb
open PySem PySem.Spec PyProof.Rows L2 SetTable
section
variable {P : Program} {w : World} {A : Around} {E : Value → Shared → Prop} {s : Shared}
end
end STb
namespace STb
open PySem PySem.Spec PyProof.Rows L2 SetTable
section
variable {P : Program} {w : World} {A : Around} {E : Value → Shared → Prop} {s : Shared}
end
end STb
namespace STb
open PySem PySem.Spec PyProof.Rows L2 SetTable
section
variable {P : Program} {w : World} {A : Around} {E : Value → Shared → Prop} {s : Shared}
end
end STb
namespace STb
open PySem PySem.Spec PyProof.Rows L2 SetTable
section
variable {P : Program} {w : World}
variable {A : Around} {R : Result → Shared → Prop} {It : Addr} {fp wr : List Addr} {G : Array GenState → Array GenState → Prop} {n : Nat} {Pr : Nat → Value → Prop} {St : Nat → Shared → Prop}
end
end STb
namespace STb
open PySem PySem.Spec PyProof.Rows L2 SetTable
section
variable {P : Program} {w : World} {A : Around} {E : Value → Shared → Prop} {s : Shared}
end
end STb
namespace L2
open PySem PySem.Spec PyProof.Rows TS STb
section
variable {X : Cx}
end
end L2
namespace L2
open PySem PySem.Spec PyProof.Rows
def CodeE (c : Addr) (qual : Str) : HO := .ext fun h => h.CodeRec (.ref c) qual
def LamE (f : Addr) (qual : Str) (params : Arguments) (body : Expr) (scope : Scope) (cl : List (Str × Addr)) (c : Addr) : HO :=
  .ext fun h => ∃ pm ct, h.get? f = some (PySem.W.kla_obj "<lambda>" qual params body scope cl pm c ct)
def Tbl (H : Hp) (P : Addr) (pos : Pos) (qual : Str) : Prop :=
  ∃ ps, H P = some (.tbl ps) ∧ TriplesOk ps.toList ∧ (codeAmong pos ps.toList = none ∨ ∃ c, codeAmong pos ps.toList = some (.ref c) ∧ H c = some (CodeE c qual))
def OffP (P : Addr) (H H' : Hp) : Prop := ∀ b u, b ≠ P → H b = some u → H' b = some u
def Sm (H H' : Hp) : Prop := (∀ b u, (∀ ps, u ≠ .tbl ps) → H b = some u → H' b = some u) ∧ ∀ b ps, H b = some (.tbl ps) → ∃ ps', H' b = some (.tbl ps')
theorem Sm.trans {H H1 H2 : Hp} (a : Sm H H1) (b : Sm H1 H2) : Sm H H2 := ⟨fun c u n e => b.1 c u n (a.1 c u n e), fun c ps e => let ⟨_, e1⟩ := a.2 c ps e; b.2 c _ e1⟩
theorem Sm.of {H H' : Hp} (a : Same H H') : Sm H H' := ⟨fun b u _ e => a b u e, fun b ps e => ⟨ps, a b _ e⟩⟩
theorem Sm.none {H H' : Hp} (a : Sm H H') {b : Addr} (n : H' b = none) : H b = none := by
  cases e : H b with
  | none => rfl
  | some u =>
    by_cases h : ∃ ps, u = .tbl ps
    · obtain ⟨ps, rfl⟩ := h
      obtain ⟨_, z⟩ := a.2 b ps e
      rw [n] at z; cases z
    · have z := a.1 b u (fun ps q => h ⟨ps, q⟩) e
      rw [n] at z; cases z
theorem OffP.sm {P : Addr} {H H' : Hp} {ps ps' : Array Value} (a : OffP P H H') (h : H P = some (.tbl ps)) (h' : H' P = some (.tbl ps')) : Sm H H' :=
  ⟨fun b u n e => a b u (fun z => by rw [z, h] at e; exact n _ (Option.some.inj e).symm) e, fun b qs e => by
    by_cases z : b = P
    · exact ⟨ps', z ▸ h'⟩
    · exact ⟨qs, a b _ z e⟩⟩
theorem Tbl.off {P P' : Addr} {H H' : Hp} {pos : Pos} {qual : Str} {ps : Array Value} (t : Tbl H P pos qual) (a : OffP P' H H') (ne : P ≠ P') (h : H P' = some (.tbl ps)) : Tbl H' P pos qual := by
  obtain ⟨qs, e, tr, k⟩ := t
  refine ⟨qs, a _ _ ne e, tr, ?_⟩
  rcases k with k | ⟨c, k, hc⟩
  · exact .inl k
  · exact .inr ⟨c, k, a _ _ (fun z => by rw [z, h] at hc; cases hc) hc⟩
theorem Tbl.same {P : Addr} {H H' : Hp} {pos : Pos} {qual : Str} (t : Tbl H P pos qual) (a : Same H H') : Tbl H' P pos qual := by
  obtain ⟨qs, e, tr, k⟩ := t
  refine ⟨qs, a _ _ e, tr, ?_⟩
  rcases k with k | ⟨c, k, hc⟩
  · exact .inl k
  · exact .inr ⟨c, k, a _ _ hc⟩
def BMod (mg : Str → Option Value) (base : Heap) : Prop :=
  ∃ bm ob, mg "__builtins__" = some (.ref bm) ∧ bm ≠ builtinsNs ∧ base.get? bm = some ob ∧ ob.cls = .type "module" ∧ ob.dict = some builtinsNs ∧ ob.data = .plain
def tLam (P : Addr) (qual : Str) (params : Arguments) (body : Expr) (scope : Scope) (cl : List (Str × Addr)) (pos : Pos) : TE := fun _ H Q =>
  Tbl H P pos qual ∧ ∀ c f H', OffP P H H' → Tbl H' P pos qual → H f = none → H' f = some (LamE f qual params body scope cl c) → H' c = some (CodeE c qual) → Q (.ref f) H'
section
variable {X : Cx} {params : Arguments} {body : Expr} {scope : Scope} {pos : Pos} {cl : List (Str × Addr)} {c0 P : Addr}
theorem codeE_ok {Pr : Program} {w : World} {H : Hp} {h : Heap} {c : Addr} {qual : Str} (r : h.CodeRec (.ref c) qual) : ObjOk Pr w H h c (CodeE c qual) := by
  obtain ⟨c', o, vs, t, e, g, r'⟩ := id r
  cases e
  refine ⟨r, ⟨o, g⟩, fun h1 h2 z k => ?_⟩
  obtain ⟨c', o, vs, t, e, g, r'⟩ := z
  cases e
  exact ⟨_, o, vs, t, rfl, k _ g, r'⟩
theorem lamE_ok {Pr : Program} {w : World} {H : Hp} {h : Heap} {f c : Addr} {qual : Str} {pm ct : Value} (e : h.get? f = some (PySem.W.kla_obj "<lambda>" qual params body scope cl pm c ct)) : ObjOk Pr w H h f (LamE f qual params body scope cl c) :=
  ⟨⟨pm, ct, e⟩, ⟨_, e⟩, fun h1 h2 ⟨pm, ct, z⟩ k => ⟨pm, ct, k _ z⟩⟩
theorem pe_lam (hdef : defaultsOf params X.env = ([], [])) (hcl : closureFor scope X.env = pure cl) (hcode : X.env.code = .ref c0) (C : PySem.W.codeHdIn X.K c0 P = true) (hB : BMod X.mg X.base) :
    PE X (.Lambda params body scope pos) (tLam P (X.env.qual ++ "<lambda>") params body scope cl pos) := by
  intro pins s σ H Q I h
  obtain ⟨⟨ps, hP, ht, hcase⟩, q⟩ := h
  refine PySem.W.kla_eval hdef ?_
  have hg : s.heap.Ns mainGlobals X.mg := I.mod.glob.keeps I.bk
  have CH : PySem.W.CodeHd s.heap c0 P := PySem.W.codeHd_of_K I.kIn C
  have hPo : s.heap.get? P = some (PySem.W.tabObj ps) := I.hok P _ hP
  have inb : ∀ b o, X.base.get? b = some o → b ≠ P := fun b o e z => by
    have := (I.bs b o e).2
    rw [z, hP] at this; cases this
  obtain ⟨bm, ob, b1, b2, b3, b4, b5, b6⟩ := hB
  have hgP : mainGlobals ≠ P := by
    obtain ⟨o, es, ep, e, _⟩ := I.mod.glob
    exact inb _ _ e
  have hne : bm ≠ mainGlobals := fun z => by
    obtain ⟨o, es, ep, e, hd, _⟩ := I.mod.glob
    rw [z, e] at b3; cases b3; rw [hd] at b6; cases b6
  have hb : s.heap.BuiltinsAt X.mg P := ⟨bm, ob, b1, b2, hne, inb _ _ b3, I.bk _ _ b3, b4, b5, b6⟩
  rcases hcase with hnf | ⟨c, hf, hc⟩
  · refine PySem.W.kla_makeFunction (mg := X.mg) hcl I.ok.glob hg hcode CH hPo ht hnf hgP hb fun c ctv h' tk hx hge hlt hrec htb => ?_
    have hfn : H h'.objs.size = none := I.hok.fresh (Nat.le_trans hge (Nat.le_of_lt hlt))
    have hcn : H c = none := I.hok.fresh hge
    have ncP : c ≠ P := fun z => by rw [z, hP] at hcn; cases hcn
    have nfP : h'.objs.size ≠ P := fun z => by rw [z, hP] at hfn; cases hfn
    have nfc : h'.objs.size ≠ c := Nat.ne_of_gt hlt
    generalize hps : ps ++ #[rawInt pos.line, rawInt pos.col, .ref c] = ps2 at htb
    generalize hH : upd (upd (upd H P (.tbl ps2)) c (CodeE c (X.env.qual ++ "<lambda>"))) h'.objs.size (LamE h'.objs.size (X.env.qual ++ "<lambda>") params body scope cl c) = H2
    have e1 : H2 h'.objs.size = some (LamE h'.objs.size (X.env.qual ++ "<lambda>") params body scope cl c) := by rw [← hH, upd_same]
    have e2 : H2 c = some (CodeE c (X.env.qual ++ "<lambda>")) := by rw [← hH, upd_ne (Ne.symm nfc), upd_same]
    have e3 : H2 P = some (.tbl ps2) := by rw [← hH, upd_ne (Ne.symm nfP), upd_ne (Ne.symm ncP), upd_same]
    have e4 : ∀ b, b ≠ P → b ≠ c → b ≠ h'.objs.size → H2 b = H b := fun b n1 n2 n3 => by rw [← hH, upd_ne n3, upd_ne n2, upd_ne n1]
    have off : OffP P H H2 := fun b u n e => by rw [e4 b n (ne_of_none e hcn) (ne_of_none e hfn)]; exact e
    have kp : ∀ b o, b ≠ P → s.heap.get? b = some o → (h'.push (PySem.W.kla_obj "<lambda>" (X.env.qual ++ "<lambda>") params body scope cl ((X.mg "__name__").getD .none) c ctv)).get? b = some o := fun b o n e => Heap.get?_push_of_some _ (hx b o n e)
    have low : ∀ b o, s.heap.get? b = some o → b ≠ c ∧ b ≠ h'.objs.size := fun b o e => ⟨Nat.ne_of_lt (Nat.lt_of_lt_of_le (Heap.lt_size e) hge), Nat.ne_of_lt (Nat.lt_trans (Nat.lt_of_lt_of_le (Heap.lt_size e) hge) hlt)⟩
    have un : Un X.fs [] H H2 s.heap (h'.push (PySem.W.kla_obj "<lambda>" (X.env.qual ++ "<lambda>") params body scope cl ((X.mg "__name__").getD .none) c ctv)) := by
      refine ⟨fun b o e n _ _ => kp b o (fun z => by rw [z, hP] at n; cases n) e, fun b o e n _ _ => ⟨o.slots, kp b o (fun z => by rw [z, hP] at n; cases n) e⟩, fun b o e n _ => ?_, fun b o e _ => ?_, fun b xs e => off b _ (fun z => by rw [z, hP] at e; cases e) e, fun b o u e => off b _ (fun z => by rw [z, hP] at e; cases e) e, fun b qs e => ?_⟩
      · rw [e4 b (fun z => by rw [z, hP] at n; cases n) (low b o e).1 (low b o e).2]; exact n
      · by_cases z : b = P
        · exact ⟨_, Heap.get?_push_of_some _ (z ▸ htb)⟩
        · exact ⟨o, kp b o z e⟩
      · by_cases z : b = P
        · rw [z, hP] at e; cases e
          exact ⟨#[rawInt pos.line, rawInt pos.col, .ref c], by rw [z, e3, hps]⟩
        · exact ⟨#[], by rw [off b _ z e]; simp⟩
    have hok : HOk X.prog X.w H2 (h'.push (PySem.W.kla_obj "<lambda>" (X.env.qual ++ "<lambda>") params body scope cl ((X.mg "__name__").getD .none) c ctv)) := fun b o e => by
      by_cases z1 : b = h'.objs.size
      · subst z1
        rw [e1] at e; cases e
        exact lamE_ok (Heap.get?_push_size _ rfl)
      · by_cases z2 : b = c
        · subst z2
          rw [e2] at e; cases e
          exact codeE_ok (hrec.push _)
        · by_cases z3 : b = P
          · subst z3
            rw [e3] at e; cases e
            exact (show _ = _ from Heap.get?_push_of_some _ htb)
          · rw [e4 b z3 z2 z1] at e
            refine (I.hok b o e).stay (fun d u hd g => kp d u (fun z => ?_) g) (fun d g => off d _ (fun z => by rw [z, hP] at g; cases g) g) fun d xs g => off d _ (fun z => by rw [z, hP] at g; cases g) g
            rcases hd with w1 | w1
            · exact z3 (w1 ▸ z)
            · rw [z, hP] at w1; cases w1
    refine ⟨.ref h'.objs.size, H2, I.un un hok, rfl, q c _ H2 off ⟨ps2, e3, ?_, .inr ⟨c, ?_, e2⟩⟩ hfn e1 e2⟩
    · rw [← hps]
      have : (ps ++ #[rawInt pos.line, rawInt pos.col, Value.ref c]).toList = ps.toList ++ [rawInt pos.line, rawInt pos.col, .ref c] := by simp
      rw [this]; exact TriplesOk_snoc _ _ _ _ ht
    · rw [← hps]
      have : (ps ++ #[rawInt pos.line, rawInt pos.col, Value.ref c]).toList = ps.toList ++ [rawInt pos.line, rawInt pos.col, .ref c] := by simp
      rw [this]; exact codeAmong_snoc _ ht hnf
  · refine PySem.W.kla_makeFunctionHit (mg := X.mg) hcl I.ok.glob hg hcode CH hPo ht hf hb fun ctv h' tk hk hsz => ?_
    have hfn : H h'.objs.size = none := I.hok.fresh hsz
    have nf : ∀ {b : Addr} {u : HO}, H b = some u → b ≠ h'.objs.size := fun e => ne_of_none e hfn
    have J := I.laid (a := h'.objs.size) (o := LamE h'.objs.size (X.env.qual ++ "<lambda>") params body scope cl c) (t' := tk) (h' := h'.push (PySem.W.kla_obj "<lambda>" (X.env.qual ++ "<lambda>") params body scope cl ((X.mg "__name__").getD .none) c ctv))
      (fun b u e => Heap.get?_push_of_some _ (hk b u e)) hsz (lamE_ok (Heap.get?_push_size _ rfl))
    refine ⟨.ref h'.objs.size, _, J, rfl, q c _ _ (fun b u _ e => by rw [upd_ne (nf e)]; exact e) ⟨ps, by rw [upd_ne (nf hP)]; exact hP, ht, .inr ⟨c, hf, by rw [upd_ne (nf hc)]; exact hc⟩⟩ hfn upd_same (by rw [upd_ne (nf hc)]; exact hc)⟩
end
end L2
namespace L2
open PySem PySem.Spec PyProof.Rows
theorem pe_lam1 {X : Cx} {params : Arguments} {body : Expr} {scope : Scope} {pos : Pos} {n : Str} {a c0 P : Addr} (hsub : X.env.cells.lookup n = some a) (hdef : defaultsOf params X.env = ([], [])) (hcl : closureFor scope X.env = pure [(n, a)]) (hcode : X.env.code = .ref c0) (C : PySem.W.codeHdIn X.K c0 P = true) (hB : BMod X.mg X.base) :
    PE X (.Lambda params body scope pos) (tLam P (X.env.qual ++ "<lambda>") params body scope [(n, a)] pos) := pe_lam hdef hcl hcode C hB
end L2
namespace L2
open PySem PySem.Spec PyProof.Rows
abbrev FrzO (c : Addr) (o : Obj) : HO := .frz o (.ext fun h => h.get? c = some o)
def CellO (o : Obj) (v : V) : Prop := ∃ u, RelV v u ∧ o.data = .cell (some u)
def FrzC (H : Hp) (c : Addr) (v : V) : Prop := ∃ o, H c = some (FrzO c o) ∧ CellO o v
def unf (H : Hp) (c : Addr) : Hp := fun b => if b = c then none else H b
theorem unf_ne {H : Hp} {b c : Addr} (n : b ≠ c) : unf H c b = H b := if_neg n
theorem unf_self {H : Hp} {c : Addr} : unf H c c = none := if_pos rfl
section
variable {X : Cx} {k : Nat} {f C : Addr} {fd : FuncData} {ps : List Str} {sp : Sp} {x m : Str} {p pos apos : Pos} {e o : Expr} {es : List Expr} {ta : TE} {t : TA} {i : Nat} {y : Str} {c : Addr}
theorem run_fnF {pins : List (Addr × Obj)} {σ : St} {H : Hp} {s : Shared} {Q : VK} {us : List Value} {vs : List V} {cm : Bool} {v : V} (F : FnOk X.prog X.w X.K X.mg X.base (XC X.prog X.w) k f fd ps sp cm) (hr : RoomC cm k X.A) (hb : Binds X.K fd ps [])
    (I : Inv X pins σ H s) (r : Vals vs us) (hi : X.N[i]? = some y) (hy : X.env.scope.names.lookup y = some .cell) (hc : X.env.cells.lookup y = some c) (hfn : X.fn y = true) (hv : σ[i]? = some (some v))
    (h : H c = none → ∀ oc, CellO oc v → sp vs (upd H c (FrzO c oc)) (fun r H' => Q r (unf H' c)) (fun _ _ _ => False)) : wpAny (model X.prog X.w) X.A (call (.ref f) us) (EP X pins σ Q) X.xe s := by
  obtain ⟨mm, hn, hl⟩ := I.loc
  obtain ⟨u, ru, l⟩ := hl i y v hi hv (.inr (.inl hy))
  have hcell : s.heap.IsCell c (some u) := by
    rcases l with ⟨z, _⟩ | ⟨_, c', hc', z⟩
    · have z' : X.env.scope.names.lookup y = some .local := z
      rw [hy] at z'; cases z'
    · rw [hc] at hc'; cases hc'; exact z
  obtain ⟨oc, hoc, hdc⟩ := hcell
  have hn0 := I.freeC y c hc
  have q := h hn0 oc ⟨u, ru, hdc⟩
  have cfs : ∀ b o, X.s₀.heap.get? b = some o → b ≠ c := fun b o e => Nat.ne_of_lt (Nat.lt_of_lt_of_le (Heap.lt_size e) (I.ok.cab y c hfn hc))
  have cst : ∀ b ∈ frs X.stack, b ≠ c := fun b hb => by
    rcases List.mem_cons.mp (I.stkSub b hb) with z | z
    · rw [z]; exact Ne.symm (I.cne y c hc)
    · obtain ⟨_, o, ho, _⟩ := I.ok.funs.mem z
      exact cfs b o ho
  have hok1 : HOk X.prog X.w (upd H c (FrzO c oc)) s.heap := fun b o e => by
    by_cases hb : b = c
    · subst hb
      rw [upd_same] at e; cases e
      exact ⟨hoc, hoc, ⟨_, hoc⟩, fun h1 h2 a k => k _ a⟩
    · rw [upd_ne hb] at e
      exact (I.hok b o e).stay (fun _ _ _ q => q) (fun d g => by rw [upd_ne (ne_of_none g hn0)]; exact g) fun d xs g => by rw [upd_ne (ne_of_none g hn0)]; exact g
  have e0 : Env0 X.prog X.w X.K X.mg X.base X.A X.stack s (upd H c (FrzO c oc)) :=
    ⟨I.ok.frames, I.ok.mod, fun b o e => ⟨(I.bs b o e).1, by rw [upd_ne (cfs b o (I.ok.bs b o e).1)]; exact (I.bs b o e).2⟩, Nat.le_trans I.ok.bsz I.sz, I.stack, fun b hb => by rw [upd_ne (cst b hb)]; exact I.stkFree b hb, hok1, I.bare,
     I.hn.mono fun b o u e => by rw [upd_ne (ne_of_none e hn0)]; exact e⟩
  have hl : (us ++ []).length = ps.length := by rw [List.append_nil, ← r.length]; exact F.len _ _ _ _ q
  have hb' := hb s us I.kIn hl
  rw [List.append_nil] at hb'
  refine wpAny_call (codeAny_mono (F.run X.A X.stack s _ ⟨us, []⟩ us vs _ _ hr e0 hb' r q) fun r s' hq => ?_)
  cases r with
  | error e =>
    obtain ⟨_, _, _, _, _, _, _, _, _, z⟩ := hq
    exact z.elim
  | ok fl =>
    cases fl with
    | next => exact False.elim hq
    | brk => exact False.elim hq
    | cont => exact False.elim hq
    | ret u =>
      obtain ⟨v', H', os, bare, un, hok', rv, q'⟩ := hq
      have zc : H' c = some (FrzO c oc) := un.frzs c oc _ upd_same
      have hc2 : s'.heap.get? c = some oc := (hok' c _ zc).1
      have nf : ∀ {b : Addr} {w : HO}, H' b = some w → (∀ o u, w ≠ .frz o u) → b ≠ c := fun e n z => by rw [z, zc] at e; exact n _ _ (Option.some.inj e).symm
      have un2 : Un (frs X.stack) [] H (unf H' c) s.heap s'.heap := by
        refine ⟨fun b o e n hb hx => ?_, fun b o e n hb hx => un.slot b o e (by rw [upd_ne (cst b hb)]; exact n) hb hx, fun b o e n hx => ?_, fun b o e hx => un.there b o e hx, fun b xs e => ?_, fun b o w e => ?_, fun b qs e => ?_⟩
        · by_cases z : b = c
          · subst z
            rw [hoc] at e; cases e; exact hc2
          · exact un.keep b o e (by rw [upd_ne z]; exact n) hb hx
        · by_cases z : b = c
          · rw [z, unf_self]
          · rw [unf_ne z]; exact un.free b o e (by rw [upd_ne z]; exact n) hx
        · have z := ne_of_none e hn0
          rw [unf_ne z]; exact un.tups b xs (by rw [upd_ne z]; exact e)
        · have z := ne_of_none e hn0
          rw [unf_ne z]; exact un.frzs b o w (by rw [upd_ne z]; exact e)
        · have z := ne_of_none e hn0
          rw [unf_ne z]; exact un.tbls b qs (by rw [upd_ne z]; exact e)
      have hok2 : HOk X.prog X.w (unf H' c) s'.heap := fun b o e => by
        by_cases z : b = c
        · rw [z, unf_self] at e; cases e
        · rw [unf_ne z] at e
          exact (hok' b o e).stay (fun _ _ _ g => g) (fun d g => by rw [unf_ne (nf g (by intro o u z; cases z))]; exact g) fun d xs g => by rw [unf_ne (nf g (by intro o u z; cases z))]; exact g
      exact ⟨v', _, I.call' (ch := []) os un2 hok2 bare (fun b z => absurd z (by simp)), rv, q'⟩
def tMethF (C : Addr) (m : Str) (sp : Sp) (i : Nat) (c : Addr) (ta : TE) (t : TA) : TE := fun σ H Q => ta σ H fun x H1 => ∃ a dx fs, x = .ref a ∧ H1 a = some (.ins C dx fs) ∧ fs.lookup m = none ∧
  t σ H1 fun vs H2 => ∃ v, σ[i]? = some (some v) ∧ (H2 c = none → ∀ oc, CellO oc v → sp (x :: vs) (upd H2 c (FrzO c oc)) (fun r H' => Q r (unf H' c)) (fun _ _ _ => False))
theorem pe_methF {pl : Sem Bool} (ho : PE X o ta) (G : GoodM X.prog X.w X.K X.mg X.base k C m ps sp) (hr : Room k X.A) (ha : PA X (e :: es) t)
    (hi : X.N[i]? = some y) (hy : X.env.scope.names.lookup y = some .cell) (hc : X.env.cells.lookup y = some c) (hfn : X.fn y = true)
    (hst : starEach (e :: es) X.env = (false, eval e X.env) :: starEach es X.env := by rfl) (hpl : (backTo pos (starEach es X.env)).any (·.1) = false := by rfl)
    (ht : eval (.Call (.Attribute o m apos) (e :: es) [] pos) X.env = (do
      let ov ← eval o X.env
      standAt apos.atName
      let (f, first) ← holding [ov] (getMethod ov m pl)
      callWith pos f first (backTo pos (starEach (e :: es) X.env)) (backToKw pos (keywordEach [] X.env))) := by rfl) :
    PE X (.Call (.Attribute o m apos) (e :: es) [] pos) (tMethF C m sp i c ta t) := by
  obtain ⟨f, fd, hm, F, b⟩ := G.ex
  intro pins s σ H Q I h
  refine PySem.W.methodCall_KW (pl := pl) (thn (ho pins s σ H _ I h) fun u s1 ⟨x, H1, I1, rx, a, dx, fs, ex, ea, l, q⟩ => ?_) ht
  subst ex
  obtain rfl : u = Value.ref a := rx
  refine getmeth_ok I1 ea G.cl hm l ?_
  refine PySem.W.callWith_K (first := [.ref a]) (h₀ := X.base) I.ok.mod.kin hm.kp (thn (ha pos pins s1 σ H1 _ I1 q) fun us s2 ⟨vs, H2, I2, r, v, hv, q2⟩ => ⟨I2.kIn, ?_⟩) hst hpl
  exact run_fnF (us := .ref a :: us) (vs := .ref a :: vs) F hr b I2 (.cons rfl r) hi hy hc hfn hv q2
def Calls (P : Program) (w : World) (K : PySem.W.Frag) (mg : Str → Option Value) (base : Heap) (k : Nat) (f : Addr) (sp : Sp) : Prop :=
  ∀ (A : Around) (outer : List Env) (s : Shared) (H : Hp) (us : List Value) (vs : List V) (Q : VK), Room k A → Env0 P w K mg base A outer s H → Vals vs us → sp vs H Q (fun _ _ _ => False) →
    codeAny (model P w) A (.call (.ref f) ⟨us, []⟩) (CR (XC P w) outer P w H s Q (fun _ _ _ => False)) s
def FnH (H : Hp) (f : Addr) : Prop := ∃ qual params body scope cl c, H f = some (LamE f qual params body scope cl c)
theorem FnH.at {P : Program} {w : World} {H : Hp} {h : Heap} {f : Addr} (x : FnH H f) (ok : HOk P w H h) : PySem.W.FnAt f h := by
  obtain ⟨qual, params, body, scope, cl, c, e⟩ := x
  obtain ⟨⟨pm, ct, z⟩, _⟩ := ok _ _ e
  exact ⟨_, _, _, _, z⟩
def tCallL (P : Program) (w : World) (K : PySem.W.Frag) (mg : Str → Option Value) (base : Heap) (k : Nat) (ta : TE) (t : TA) : TE := fun σ H Q => ta σ H fun x H1 => ∃ f, x = .ref f ∧ FnH H1 f ∧ t σ H1 fun vs H2 => FnH H2 f ∧
  ∃ sp, Calls P w K mg base k f sp ∧ sp vs H2 Q (fun _ _ _ => False)
theorem pe_callL (hf : PE X (.Name x p) ta) (hr : Room k X.A) (ha : PA X (e :: es) t)
    (he : starEach (e :: es) X.env = (false, eval e X.env) :: starEach es X.env := by rfl) (hpl : (backTo pos (starEach es X.env)).any (·.1) = false := by rfl) :
    PE X (.Call (.Name x p) (e :: es) [] pos) (tCallL X.prog X.w X.K X.mg X.base k ta t) := by
  intro pins s σ H Q I h
  refine wpAny_Call_Name_kw (thn (hf pins s σ H _ I h) fun u s1 ⟨v, H1, I1, rv, f, ev, hF, q⟩ => ?_)
  subst ev
  obtain rfl : u = Value.ref f := rv
  refine PySem.W.callWith_F (first := []) (hF.at I1.hok) (thn (ha pos pins s1 σ H1 _ I1 q) fun us s2 ⟨vs, H2, I2, r, hF2, sp, C, q2⟩ => ⟨hF2.at I2.hok, ?_⟩) he hpl
  refine wpAny_call (codeAny_mono (C X.A X.stack s2 H2 us vs Q hr I2.env0 r q2) fun r s' hq => ?_)
  cases r with
  | error e =>
    obtain ⟨_, _, _, _, _, _, _, _, _, z⟩ := hq
    exact z.elim
  | ok fl =>
    cases fl with
    | ret u => exact I2.after hq
    | next => exact False.elim hq
    | brk => exact False.elim hq
    | cont => exact False.elim hq
end
def unfs (H : Hp) (cl : List (Str × Addr)) : Hp := fun b => if b ∈ cl.map (·.2) then none else H b
def refs (H H' : Hp) (cl : List (Str × Addr)) : Hp := fun b => if b ∈ cl.map (·.2) then H b else H' b
theorem unfs_ne {H : Hp} {cl : List (Str × Addr)} {b : Addr} (n : b ∉ cl.map (·.2)) : unfs H cl b = H b := if_neg n
theorem unfs_in {H : Hp} {cl : List (Str × Addr)} {b : Addr} (n : b ∈ cl.map (·.2)) : unfs H cl b = none := if_pos n
theorem refs_ne {H H' : Hp} {cl : List (Str × Addr)} {b : Addr} (n : b ∉ cl.map (·.2)) : refs H H' cl b = H' b := if_neg n
theorem refs_in {H H' : Hp} {cl : List (Str × Addr)} {b : Addr} (n : b ∈ cl.map (·.2)) : refs H H' cl b = H b := if_pos n
theorem refs_new {H : Hp} {cl : List (Str × Addr)} {p : Addr} {o : HO} (z : ∀ q ∈ cl, upd (unfs H cl) p o q.2 = none) : refs H (upd (unfs H cl) p o) cl = upd H p o := by
  funext b
  by_cases e : b ∈ cl.map (·.2)
  · rw [refs_in e]
    obtain ⟨q, hq, rfl⟩ := List.mem_map.mp e
    have n : q.2 ≠ p := fun n => by have := z q hq; rw [n, upd_same] at this; cases this
    rw [upd_ne n]
  · rw [refs_ne e]
    by_cases n : b = p
    · rw [n, upd_same, upd_same]
    · rw [upd_ne n, upd_ne n, unfs_ne e]
structure LamScope (N ps : List Str) (scope : Scope) (cl : List (Str × Addr)) : Prop where
  kind : scope.kind = .function
  co : scope.isCoroutine = false
  gen : scope.isGenerator = false
  nocell : ∀ y ∈ scope.names, y.2 ≠ .cell
  nd : ps.Nodup
  N : N = ps ++ cl.map (·.1)
  par : ∀ x ∈ ps, scope.names.lookup x = some .local
  fre : ∀ q ∈ cl, scope.names.lookup q.1 = some .free ∧ cl.lookup q.1 = some q.2
  has : ∀ x, scope.names.lookup x = some .free → ∃ c, cl.lookup x = some c
  inj : ∀ x y c, cl.lookup x = some c → cl.lookup y = some c → x = y
theorem lamScope0 {ps : List Str} {scope : Scope} (h1 : scope.kind = .function) (h2 : scope.isCoroutine = false) (h3 : scope.isGenerator = false) (h4 : (scope.names.all fun y => y.2 != .cell && y.2 != .free) = true) (h5 : ps.Nodup)
    (h6 : (ps.all fun x => scope.names.lookup x == some .local) = true) : LamScope ps ps scope [] :=
  ⟨h1, h2, h3, fun y hy => by
      have := List.all_eq_true.mp h4 y hy
      simp only [Bool.and_eq_true, bne_iff_ne] at this
      exact this.1, h5, by simp, fun x hx => by simpa using List.all_eq_true.mp h6 x hx, fun q hq => absurd hq (by simp), fun x e => by
      have := List.all_eq_true.mp h4 _ (lookup_mem e)
      simp at this, fun x y c e => by simp at e⟩
theorem lamScope1 {ps : List Str} {scope : Scope} {n : Str} {a : Addr} (h1 : scope.kind = .function) (h2 : scope.isCoroutine = false) (h3 : scope.isGenerator = false) (h4 : (scope.names.all fun y => y.2 != .cell && (y.2 != .free || y.1 == n)) = true) (h5 : ps.Nodup)
    (h6 : (ps.all fun x => scope.names.lookup x == some .local) = true) (h7 : scope.names.lookup n = some .free) : LamScope (ps ++ [n]) ps scope [(n, a)] :=
  ⟨h1, h2, h3, fun y hy => by
      have := List.all_eq_true.mp h4 y hy
      simp only [Bool.and_eq_true, bne_iff_ne] at this
      exact this.1, h5, by simp, fun x hx => by simpa using List.all_eq_true.mp h6 x hx, fun q hq => by
      obtain rfl : q = (n, a) := by simpa using hq
      exact ⟨h7, by simp⟩, fun x e => by
      have := List.all_eq_true.mp h4 _ (lookup_mem e)
      simp only [Bool.and_eq_true, Bool.or_eq_true, bne_iff_ne, ne_eq, beq_iff_eq] at this
      rcases this.2 with z | z
      · exact absurd trivial z
      · exact ⟨a, by simp [z]⟩, fun x y c e1 e2 => by
      have f : ∀ z, List.lookup z [(n, a)] = some c → z = n := fun z e => by
        rw [List.lookup_cons] at e
        split at e
        · rename_i q; simpa using q
        · cases e
      rw [f x e1, f y e2]⟩
def cxL (P : Program) (w : World) (K : PySem.W.Frag) (mg : Str → Option Value) (base : Heap) (N : List Str) (qual : Str) (scope : Scope) (f c : Addr) (cl : List (Str × Addr)) (A : Around) (outer : List Env) (s : Shared) (H : Hp) : Cx where
  prog := P
  w := w
  K := K
  mg := mg
  base := base
  A := A.deeper (PySem.W.envX qual scope s.heap.objs.size f (.ref c) cl)
  N := N
  s₀ := s
  H₀ := H
  env := PySem.W.envX qual scope s.heap.objs.size f (.ref c) cl
  outer := outer
  stack := PySem.W.envX qual scope s.heap.objs.size f (.ref c) cl :: outer
  ex := []
  calm := true
  fn := fun _ => false
  pn := []
  xe := fun _ _ => False
theorem zip_rev_lookup {x : Str} {u : Value} : ∀ {ps : List Str} {us : List Value} {i : Nat}, ps.Nodup → ps[i]? = some x → us[i]? = some u → (ps.zip us).reverse.lookup x = some u
  | [], _, _, _, h, _ => by simp at h
  | _ :: _, [], _, _, _, h => by simp at h
  | p :: ps, v :: us, 0, nd, h1, h2 => by
    simp at h1 h2; subst h1; subst h2
    have : (ps.zip us).reverse.lookup p = none := by
      cases e : (ps.zip us).reverse.lookup p with
      | none => rfl
      | some w => exact absurd (List.of_mem_zip (List.mem_reverse.mp (lookup_mem e))).1 (List.nodup_cons.mp nd).1
    rw [List.zip_cons_cons, List.reverse_cons, List.lookup_append, this]; simp
  | p :: ps, v :: us, i + 1, nd, h1, h2 => by
    have := zip_rev_lookup (ps := ps) (us := us) (i := i) (List.nodup_cons.mp nd).2 (by simpa using h1) (by simpa using h2)
    rw [List.zip_cons_cons, List.reverse_cons, List.lookup_append, this]; simp
theorem paired_get {α β : Type} {F : α → β → Prop} : ∀ {l₁ : List α} {l₂ : List β} {i : Nat} {a : α}, Paired F l₁ l₂ → l₁[i]? = some a → ∃ b, l₂[i]? = some b ∧ F a b
  | _, _, _, _, .nil, e => by simp at e
  | _, _, 0, _, .cons r _, e => by simp at e; subst e; exact ⟨_, rfl, r⟩
  | _, _, i + 1, a, .cons _ t, e => by
    obtain ⟨u, h1, h2⟩ := paired_get (i := i) (a := a) t (by simpa using e)
    exact ⟨u, by simpa using h1, h2⟩
section
variable {P : Program} {w : World} {K : PySem.W.Frag} {mg : Str → Option Value} {base : Heap} {N ps : List Str} {qual : Str} {params : Arguments} {body : Expr} {scope : Scope} {cl : List (Str × Addr)} {cvs : List V} {f c : Addr} {k : Nat}
  {A : Around} {outer : List Env} {s : Shared} {H : Hp} {us : List Value} {vs : List V} {Q : VK} {E : XK}
theorem lam_call (S : LamScope N ps scope cl) (hb : ∀ (pm ct : Value) (us : List Value), us.length = ps.length → bindArgs (PySem.W.kla_fn "<lambda>" qual params body scope cl pm (.ref c) ct) ⟨us, []⟩ = pure (ps.zip us))
    (hr : Room (k + 1) A) (e0 : Env0 P w K mg base A outer s H) (r : Vals vs us) (hl : vs.length = ps.length) (hf : H f = some (LamE f qual params body scope cl c)) (hc : H c = some (CodeE c qual))
    (hcs : Paired (fun (p : Str × Addr) v => FrzC H p.2 v) cl cvs)
    (hbody : Room k (A.deeper (PySem.W.envX qual scope s.heap.objs.size f (.ref c) cl)) → ∃ te, PE (cxL P w K mg base N qual scope f c cl A outer s (unfs H cl)) body te ∧
      te (vs.map some ++ cvs.map some) (unfs H cl) (fun r H' => (∀ p ∈ cl, H' p.2 = none) → Q r (refs H H' cl))) :
    codeAny (model P w) A (.call (.ref f) ⟨us, []⟩) (CR (XC P w) outer P w H s Q E) s := by
  obtain ⟨⟨pm, ct, ho⟩, _⟩ := e0.hok f _ hf
  have hcd : s.heap.CodeRec (.ref c) qual := (e0.hok c _ hc).1
  have lim : s.heap.NoLimit := e0.mod.nolimit.keeps fun b o e => (e0.bs b o e).1
  have frz : ∀ b ∈ cl.map (·.2), ∃ ob u, H b = some (FrzO b ob) ∧ s.heap.get? b = some ob ∧ ob.data = .cell (some u) := fun b hb => by
    obtain ⟨p, hp, rfl⟩ := List.mem_map.mp hb
    obtain ⟨i, hi, e⟩ := List.getElem_of_mem hp
    obtain ⟨v, _, ob, e1, u, _, e2⟩ := paired_get (i := i) (a := p) hcs (by rw [List.getElem?_eq_getElem hi, e])
    exact ⟨ob, u, e1, (e0.hok _ _ e1).1, e2⟩
  have nin : ∀ {b : Addr}, H b = none → b ∉ cl.map (·.2) := fun n hb => by
    obtain ⟨_, _, e, _⟩ := frz _ hb
    rw [n] at e; cases e
  have nin2 : ∀ {b : Addr} {u : HO}, H b = some u → (∀ o z, u ≠ .frz o z) → b ∉ cl.map (·.2) := fun e n hb => by
    obtain ⟨_, _, e', _⟩ := frz _ hb
    rw [e] at e'; exact n _ _ (Option.some.inj e')
  have e1 : Env0 P w K mg base A outer s (unfs H cl) := by
    refine ⟨e0.frames, e0.mod, fun b o e => ⟨(e0.bs b o e).1, ?_⟩, e0.bsz, e0.funs, fun b hb => ?_, fun b o e => ?_, e0.bare, .inl (hr.hd rfl)⟩
    · have n := (e0.bs b o e).2
      rw [unfs_ne (nin n)]; exact n
    · have n := e0.frf b hb
      rw [unfs_ne (nin n)]; exact n
    · by_cases z : b ∈ cl.map (·.2)
      · rw [unfs_in z] at e; cases e
      · rw [unfs_ne z] at e
        exact (e0.hok b o e).stay (fun _ _ _ q => q) (fun d g => by rw [unfs_ne (nin2 g (by intro o u z; cases z))]; exact g) fun d xs g => by rw [unfs_ne (nin2 g (by intro o u z; cases z))]; exact g
  have hlu : us.length = ps.length := by rw [← r.length]; exact hl
  refine PySem.W.kla_callFunE hr.depth ho rfl S.co S.gen rfl hcd ?_
  rw [hb pm ct us hlu]
  refine wpAny_pure (wpAny_newFunctionEnv S.nocell (fun y hy => S.par _ (List.of_mem_zip hy).1) (fun h₁ hns hsb => ⟨lim.fresh _ hsb, ?_⟩) S.kind)
  have hk₁ : ∀ b o, s.heap.get? b = some o → h₁.get? b = some o := fun b o e => hsb.extBut b o (Nat.ne_of_lt (Heap.lt_size e)) (Heap.get?_push_of_some _ e)
  obtain ⟨te, ht, hq⟩ := hbody (hr.deeper _)
  have hcl : ∀ x d, cl.lookup x = some d → d ∈ cl.map (·.2) := fun x d e => List.mem_map.mpr ⟨_, lookup_mem e, rfl⟩
  have kof : ∀ x, (PySem.W.envX qual scope s.heap.objs.size f (.ref c) cl).kindOf x = scope.names.lookup x := fun _ => rfl
  have I : Inv (cxL P w K mg base N qual scope f c cl A outer s (unfs H cl)) [] (vs.map some ++ cvs.map some) (unfs H cl) { s with heap := h₁, toks := s.toks + (ps.zip us).length } := by
    have noA : ∀ b : Addr, b ∉ (cxL P w K mg base N qual scope f c cl A outer s (unfs H cl)).ex := fun b z => absurd (show b ∈ ([] : List Addr) from z) (by simp)
    refine ⟨⟨e1.mod, S.kind, rfl, rfl, Nat.le_refl _, S.inj, fun x hx => S.has x ?_, fun x d z => (by cases z), fun _ => hr.hd rfl, Around.frames_deeper e1.frames, .inr ⟨rfl, rfl⟩, fun b z => absurd z (noA b), e1.bs, e1.bsz, fun b _ _ => noA b, fun b z => absurd z (noA b), e1.funs, e1.frf⟩,
      rfl, e1.bare, Un.kept hk₁, ⟨_, hns, fun i x v h1 h2 h3 => ?_⟩, fun x d e => ?_, e1.hok.fresh (Nat.le_refl _), fun x d e => unfs_in (hcl x d e), fun p hp => absurd (show p ∈ ([] : List (Addr × Obj)) from hp) (by simp), e1.hok.kept hk₁, ?_, e1.hn⟩
    · rcases hx with z | z
      · exact absurd rfl (S.nocell _ (lookup_mem (show scope.names.lookup x = some .cell from z)))
      · exact z
    · have h1' : (ps ++ cl.map (·.1))[i]? = some x := by rw [← S.N]; exact h1
      by_cases hi : i < vs.length
      · rw [List.getElem?_append_left (by rw [List.length_map]; exact hi), List.getElem?_map] at h2
        cases ev : vs[i]? with
        | none => rw [ev] at h2; cases h2
        | some v' =>
          rw [ev] at h2; cases h2
          obtain ⟨u, hu, rv⟩ := r.get ev
          rw [List.getElem?_append_left (by omega)] at h1'
          exact ⟨u, rv, .inl ⟨S.par x (List.mem_of_getElem? h1'), zip_rev_lookup S.nd h1' hu⟩⟩
      · rw [List.getElem?_append_right (by rw [List.length_map]; omega), List.getElem?_map, List.length_map] at h2
        rw [List.getElem?_append_right (by omega), List.getElem?_map, ← hl] at h1'
        obtain ⟨p, ep, rfl⟩ := Option.map_eq_some_iff.mp h1'
        obtain ⟨v', ev, ob, g1, u, g2, g3⟩ := paired_get hcs ep
        rw [ev] at h2; cases h2
        obtain ⟨k1, k2⟩ := S.fre p (List.mem_of_getElem? ep)
        exact ⟨u, g2, .inr ⟨.inr k1, p.2, k2, ob, hk₁ _ _ (e0.hok _ _ g1).1, g3⟩⟩
    · obtain ⟨ob, u, _, g, d2⟩ := frz d (hcl x d e)
      exact ⟨_, ob, hk₁ _ _ g, d2⟩
    · show (vs.map some ++ cvs.map some).length = N.length
      have lc : cl.length = cvs.length := Paired.length hcs
      rw [S.N, List.length_append, List.length_append, List.length_map, List.length_map, List.length_map, hl, lc]
  refine PySem.W.kla_codeExpr (wpAny_mono (ht [] _ _ _ _ I hq) (fun u s' hs => ?_) fun _ _ z => z.elim)
  obtain ⟨v, H', J, rv, q⟩ := hs
  have jc : ∀ b ∈ cl.map (·.2), H' b = none := fun b hb => by
    obtain ⟨p, hp, rfl⟩ := List.mem_map.mp hb
    exact J.freeC p.1 p.2 (S.fre p hp).2
  have jb : Un (frs outer) [] (unfs H cl) H' s.heap s'.heap := J.base
  have nj : ∀ {b : Addr} {u : HO}, H' b = some u → b ∉ cl.map (·.2) := fun e hb => by rw [jc _ hb] at e; cases e
  refine ⟨v, refs H H' cl, J.os, J.bare, ?_, fun b o e => ?_, rv, q fun p hp => jc _ (List.mem_map_of_mem hp)⟩
  · refine ⟨fun b o e n hb hx => jb.keep b o e (by rw [unfs_ne (nin n)]; exact n) hb hx, fun b o e n hb hx => jb.slot b o e (by rw [unfs_ne (nin n)]; exact n) hb hx, fun b o e n hx => ?_, fun b o e hx => jb.there b o e hx, fun b xs e => ?_, fun b o z e => ?_, fun b qs e => ?_⟩
    · rw [refs_ne (nin n)]; exact jb.free b o e (by rw [unfs_ne (nin n)]; exact n) hx
    · have n := nin2 e (by intro o u z; cases z)
      rw [refs_ne n]; exact jb.tups b xs (by rw [unfs_ne n]; exact e)
    · by_cases n : b ∈ cl.map (·.2)
      · rw [refs_in n]; exact e
      · rw [refs_ne n]; exact jb.frzs b o z (by rw [unfs_ne n]; exact e)
    · have n := nin2 e (by intro o u z; cases z)
      rw [refs_ne n]; exact jb.tbls b qs (by rw [unfs_ne n]; exact e)
  · by_cases n : b ∈ cl.map (·.2)
    · rw [refs_in n] at e
      obtain ⟨ob, u, g1, g2, g3⟩ := frz b n
      rw [g1] at e; cases e
      have g4 : s'.heap.get? b = some ob := jb.keep b ob g2 (unfs_in n) (fun z => by rw [e0.frf b z] at g1; cases g1) (by simp)
      exact ⟨g4, g4, ⟨_, g4⟩, fun h1 h2 a k => k _ a⟩
    · rw [refs_ne n] at e
      exact (J.hok b o e).stay (fun _ _ _ g => g) (fun d g => by rw [refs_ne (nj g)]; exact g) fun d xs g => by rw [refs_ne (nj g)]; exact g
end
end L2
namespace L2
open PySem PySem.Spec PyProof.Rows
structure FunC (K : PySem.W.Frag) (x qual : Str) (st : Stmt) (f : Addr) (fd : FuncData) (c P : Addr) : Prop where
  ex : ∃ (oc : Value) (od : Option Addr) (kV doc pm : Value) (an : Option Addr) (ct : Value) (osl : Array (Option Value)),
    fd = PySem.W.fnOf x qual (defArgs st) (defBody st) (defScope st) .none kV doc pm an (.ref c) ct ∧ K.lookup f = some ⟨oc, od, .func fd, osl⟩ ∧ PySem.W.codeIn K (.ref c) qual = true
  kp : PySem.W.keepIn K (.ref f) = true
  hd : PySem.W.codeHdIn K c P = true
section
variable {P : Program} {w : World} {K : PySem.W.Frag} {mg : Str → Option Value} {base : Heap} {N ps : List Str} {x qual : Str} {st : Stmt} {f c Pl : Addr} {fd : FuncData}
theorem FunC.okX {k : Nat} {sp : Sp} {cm : Bool} (F : FunC K x qual st f fd c Pl) (S : FnScope N ps (defScope st)) (len : ∀ vs H Q E, sp vs H Q E → vs.length = ps.length)
    (hbody : ∀ (A : Around) (outer : List Env) (s : Shared) (H : Hp) (vs : List V) (Q : VK) (E : XK), RoomC cm k (A.deeper (envOfC qual (defScope st) s.heap.objs.size f (.ref c))) → sp vs H Q E →
      ∃ t, PSs (cxE P w K mg base N qual (defScope st) f (.ref c) A outer s H E cm) (defBody st) t ∧ t { nx := fun _ H' => Q .non H', rt := Q } (start N vs) H) : FnOk P w K mg base (XC P w) (k + 1) f fd ps sp cm := by
  obtain ⟨oc, od, kV, doc, pm, an, ct, osl, rfl, lk, hcd⟩ := F.ex
  exact fn_of lk hcd S len fun A outer s H vs Q E hr hsp => hbody A outer s H vs Q E hr hsp
theorem FunC.binds (F : FunC K x qual st f fd c Pl)
    (h : ∀ (kV doc pm : Value) (an : Option Addr) (cdv ct : Value) (us : List Value), us.length = ps.length → bindArgs (PySem.W.fnOf x qual (defArgs st) (defBody st) (defScope st) .none kV doc pm an cdv ct) ⟨us, []⟩ = pure (ps.zip us)) : Binds K fd ps [] := by
  obtain ⟨oc, od, kV, doc, pm, an, ct, osl, rfl, lk, hcd⟩ := F.ex
  exact .all (h kV doc pm an _ ct)
theorem funC_mk {oc : Value} {od an : Option Addr} {osl : Array (Option Value)} {kV doc pm ct : Value} (l : K.lookup f = some ⟨oc, od, .func (PySem.W.fnOf x qual (defArgs st) (defBody st) (defScope st) .none kV doc pm an (.ref c) ct), osl⟩)
    (h : PySem.W.codeIn K (.ref c) qual = true) (k : PySem.W.keepIn K (.ref f) = true) (d : PySem.W.codeHdIn K c Pl = true) : FunC K x qual st f (PySem.W.fnOf x qual (defArgs st) (defBody st) (defScope st) .none kV doc pm an (.ref c) ct) c Pl := ⟨⟨oc, od, kV, doc, pm, an, ct, osl, rfl, l, h⟩, k, d⟩
end
theorem law_callT {P : Program} {w : World} {K : PySem.W.Frag} {mg mb : Str → Option Value} {k : Nat} {fa a : Addr} {fd : FuncData} {x : Str} {sp : Sp} {s₁ : Shared} {vs : List Value} {ns : List Int} {tabs : List Addr}
    (KX : K.In s₁.heap) (hns : s₁.heap.Ns mainGlobals mg) (hb : s₁.heap.Ns builtinsNs mb) (hbb : ∀ x : Str, x ≠ "__name__" → mb x = bootBuiltins x) (hlim : s₁.heap.NoLimit) (hg : s₁.gens = #[]) (hBM : BMod mg s₁.heap)
    (hT : ∀ p ∈ tabs, isCodeTable s₁.heap p ∧ s₁.heap.get? p = some (PySem.W.tabObj #[]) ∧ K.lookup p = none)
    (ha : s₁.heap.get? a = some { cls := .type "list", data := .seq vs.toArray }) (hi : IntsAre vs ns) (hl : ns.length ≤ sizeLine) (hr : Room k callerA)
    (F : ∀ base : Heap, K.In base → base.Ns mainGlobals mg → BMod mg base → FnOk P w K mg base (XC P w) k fa fd [x] sp) (hbind : ∀ (s : Shared) (u : Value), BindsTo s fd ⟨[u], []⟩ [(x, u)])
    (hsp : ∀ H : Hp, SqL K H a (ns.map V.int) → (∀ p ∈ tabs, H p = some (.tbl #[])) → sp [.ref a] H (fun v _ => v = .bl true) fun _ _ _ => False) :
    codeAny (model P w) callerA (.call (.ref fa) ⟨[.ref a], []⟩) (fun r s' => r = .ok (.ret (.bool true)) ∧ OldK s₁.heap s'.heap ∧ s'.os = s₁.os ∧ AllBare s'.gens) s₁ := by
  have rv := vals_ints hi
  have lenV := hi.length
  have core : ∀ H : Hp, SqL K H a (ns.map V.int) → HOk P w H s₁.heap → (∀ b u, H b = some u → (b ∈ tabs ∧ u = .tbl #[]) ∨ (b = a ∧ K.lookup a = none ∧ ∃ o xs, u = .frz o (.lst xs))) → (∀ p ∈ tabs, H p = some (.tbl #[])) →
      codeAny (model P w) callerA (.call (.ref fa) ⟨[.ref a], []⟩) (fun r s' => r = .ok (.ret (.bool true)) ∧ OldK s₁.heap s'.heap ∧ s'.os = s₁.os ∧ AllBare s'.gens) s₁ := by
    intro H hS hok hA hTb
    have base_of : ∀ {b : Addr} {o : Obj}, s₁.heap.get? b = some o → H b = none → (hidT s₁.heap H).get? b = some o := fun e n => hidT_get e n
    have noA : ∀ {b : Addr} {o : Obj}, s₁.heap.get? b = some o → (∀ qs, o.data ≠ .fields qs) → (∀ xs n, o.data ≠ .seq xs n) → H b = none := fun {b o} e d1 d2 => by
      cases q : H b with
      | none => rfl
      | some u =>
        rcases hA b u q with ⟨z, _⟩ | ⟨z, _⟩
        · rw [(hT b z).2.1] at e; cases e; exact absurd rfl (d1 _)
        · subst z; rw [ha] at e; cases e; exact absurd rfl (d2 _ _)
    have nsK : ∀ {b : Addr} {m : Str → Option Value}, s₁.heap.Ns b m → (hidT s₁.heap H).Ns b m := fun {b m} ⟨o, es, ep, e, d, r⟩ => ⟨o, es, ep, base_of e (noA e (fun qs z => by rw [d] at z; cases z) fun xs n z => by rw [d] at z; cases z), d, r⟩
    have hKb : K.In (hidT s₁.heap H) := fun b o e => base_of (KX b o e) (by
      cases q : H b with
      | none => rfl
      | some u =>
        rcases hA b u q with ⟨z, _⟩ | ⟨z, z2, _⟩
        · rw [(hT b z).2.2] at e; cases e
        · subst z; rw [z2] at e; cases e)
    have hBb : BMod mg (hidT s₁.heap H) := by
      obtain ⟨bm, ob, b1, b2, b3, b4, b5, b6⟩ := hBM
      exact ⟨bm, ob, b1, b2, base_of b3 (noA b3 (fun qs z => by rw [b6] at z; cases z) fun xs n z => by rw [b6] at z; cases z), b4, b5, b6⟩
    have hM : Mod K mg (hidT s₁.heap H) := ⟨hKb, nsK hns, ⟨mb, nsK hb, hbb⟩, let ⟨mc, h1, h2⟩ := hlim; ⟨mc, nsK h1, h2⟩⟩
    have e0 : Env0 P w K mg (hidT s₁.heap H) callerA [] s₁ H := ⟨rfl, hM, fun b o e => of_hidT e, Nat.le_of_eq (hidT_size _ _), trivial, fun b hb => absurd (show b ∈ ([] : List Addr) from hb) (by simp), hok, .of_eq hg, .inl rfl⟩
    refine codeAny_mono ((F _ hKb (nsK hns) hBb).run callerA [] s₁ H ⟨[.ref a], []⟩ [.ref a] [.ref a] _ _ hr e0 (hbind s₁ (.ref a)) (.cons rfl .nil) (hsp H hS hTb)) fun r s' h => ?_
    cases r with
    | error e =>
      obtain ⟨_, _, _, _, _, _, _, _, _, z⟩ := h
      exact z.elim
    | ok fl =>
      cases fl with
      | next => exact False.elim h
      | brk => exact False.elim h
      | cont => exact False.elim h
      | ret u =>
        obtain ⟨v, H', os, bare, un, hok', r', q⟩ := h
        have q' : v = .bl true := q
        subst q'
        obtain rfl : u = Value.bool true := r'
        refine ⟨rfl, ⟨fun b o e => ?_, fun b o e => un.there b o e (by simp)⟩, os, bare⟩
        cases q : H b with
        | none => exact .inl (un.keep b o e q (by intro z; exact absurd (show b ∈ ([] : List Addr) from z) (by simp)) (by simp))
        | some u =>
          rcases hA b u q with ⟨z, rfl⟩ | ⟨z, _, ob, xs, rfl⟩
          · obtain ⟨more, z2⟩ := un.tbls b _ q
            have z3 : s'.heap.get? b = some (PySem.W.tabObj (#[] ++ more)) := hok' b _ z2
            rw [(hT b z).2.1] at e; cases e
            exact .inr (.inl ⟨(hT b z).1, rfl, #[], more, rfl, z3⟩)
          · have z2 := un.frzs b ob _ q
            obtain ⟨e1, _⟩ := hok b _ q
            obtain ⟨e2, _⟩ := hok' b _ z2
            rw [e] at e1; cases e1
            exact .inl e2
  have at' : a ∉ tabs := fun z => by
    have := (hT a z).2.1
    rw [ha] at this; cases this
  cases hk : K.lookup a with
  | some o =>
    have e := KX a o hk
    rw [ha] at e
    cases e
    refine core (fun b => if b ∈ tabs then some (.tbl #[]) else none) (.inr ⟨_, vs.toArray, _, hk, rfl, rfl, rfl, by rw [List.size_toArray, lenV]; exact hl, by simpa using rv⟩) (fun b u z => ?_) (fun b u z => ?_) fun p hp => if_pos hp
    · by_cases hb : b ∈ tabs
      · have z' := (if_pos hb).symm.trans z
        cases z'
        exact (hT b hb).2.1
      · have z' := (if_neg hb).symm.trans z
        cases z'
    · by_cases hb : b ∈ tabs
      · have z' := (if_pos hb).symm.trans z
        cases z'
        exact .inl ⟨hb, rfl⟩
      · have z' := (if_neg hb).symm.trans z
        cases z'
  | none =>
    have eH : ∀ b, b ≠ a → (fun b => if b = a then some (HO.frz { cls := .type "list", data := .seq vs.toArray } (.lst (ns.map V.int))) else if b ∈ tabs then some (HO.tbl #[]) else none) b = if b ∈ tabs then some (HO.tbl #[]) else none := fun b n => if_neg n
    refine core (fun b => if b = a then some (.frz { cls := .type "list", data := .seq vs.toArray } (.lst (ns.map V.int))) else if b ∈ tabs then some (.tbl #[]) else none) (.inl (.inr ⟨{ cls := .type "list", data := .seq vs.toArray }, if_pos rfl⟩)) (fun b u z => ?_) (fun b u z => ?_) fun p hp => ?_
    · by_cases hb : b = a
      · have z' := (if_pos hb).symm.trans z
        cases z'
        subst hb
        exact ⟨ha, by rw [List.length_map]; exact hl, vs, _, rv, ha⟩
      · replace z := (eH b hb).symm.trans z
        by_cases hb2 : b ∈ tabs
        · rw [if_pos hb2] at z; cases z
          exact (hT b hb2).2.1
        · rw [if_neg hb2] at z; cases z
    · by_cases hb : b = a
      · have z' := (if_pos hb).symm.trans z
        cases z'
        exact .inr ⟨hb, hk, _, _, rfl⟩
      · replace z := (eH b hb).symm.trans z
        by_cases hb2 : b ∈ tabs
        · rw [if_pos hb2] at z; cases z
          exact .inl ⟨hb2, rfl⟩
        · rw [if_neg hb2] at z; cases z
    · have n : p ≠ a := fun z => at' (z ▸ hp)
      exact (eH p n).trans (if_pos hp)
theorem walk_ofT {l : PySem.W.OpenLaw} {n k : Nat} {q : Program} {loose : List Str} {XP : (Str → Option Value) → Heap → Prop} {YP : World → Heap → Prop} {d : DefRec} {K : Params → PySem.W.Frag} {sp : PySem.W.Frag → List Addr → Sp} {x : Str}
    (hn : l.most = some n) (hn2 : n ≤ sizeLine) (hdf : d.params.defaults = []) (hr : Room k callerA)
    (hY : ∀ (w : World) (h : Heap), YP w h → (K w.params).In h)
    (F : ∀ (w : World) (mg : Str → Option Value) (fa : Addr) (h : Heap), YP w h → (K w.params).In h → h.Ns mainGlobals mg → mg d.name = some (.ref fa) →
      ∃ (fd : FuncData) (tabs : List Addr), (∀ (s : Shared) (u : Value), BindsTo s fd ⟨[u], []⟩ [(x, u)]) ∧ (∀ p ∈ tabs, isCodeTable h p ∧ h.get? p = some (PySem.W.tabObj #[]) ∧ (K w.params).lookup p = none) ∧
        ∀ base : Heap, (K w.params).In base → base.Ns mainGlobals mg → BMod mg base → FnOk l.prog w (K w.params) mg base (XC l.prog w) k fa fd [x] (sp (K w.params) tabs))
    (hsp : ∀ (K : PySem.W.Frag) (tabs : List Addr) (H : Hp) (a : Addr) (ns : List Int), ns.length ≤ n → SqL K H a (ns.map V.int) → (∀ p ∈ tabs, H p = some (.tbl #[])) → sp K tabs [.ref a] H (fun v _ => v = .bl true) fun _ _ _ => False) :
    PySem.W.WalkO q loose XP YP l.row.toRowW d [] (fun f vs => PySem.call f vs) := by
  refine Att.attach_call hn hdf fun w s₀ s₁ mg mb fa o pm cd doc a vs ns G Y ho hd hcd hmg hobj hints hlen hg => ?_
  have KX := hY w _ Y
  obtain ⟨fd, tabs, hb, hT, hF⟩ := F w mg fa _ Y KX G.T.g hmg
  exact law_callT KX G.T.g G.T.b G.T.builtins G.T.nolimit hg G.T.bmain hT hobj hints (Nat.le_trans hlen hn2) hr hF hb (fun H hS hTb => hsp _ tabs H a ns hlen hS hTb)
end L2
namespace L2
open PySem PySem.Spec PyProof.Rows
section
variable {X : Cx}
theorem ix_seqK {K : PySem.W.Frag} (h : X.K = K) : IxR X (fun x y H Q => rIxL K x y H Q ∨ rIxT K x y H Q) := by
  subst h
  intro value slice pins s σ H x y v u Q I rx ry h hs
  rcases h with h | h
  · exact ix_list value slice pins s σ H x y v u Q I rx ry h hs
  · exact ix_tup value slice pins s σ H x y v u Q I rx ry h hs
theorem op_eq3 (hu : X.A.units + 64 < cLine) : OpR X (compareOp .Eq) (fun x y H Q => ∃ (p q a1 a2 b1 b2 : Addr) (i j : Int) (n1 n2 m1 m2 : List (List Int)), x = .ref p ∧ y = .ref q ∧ SqT X.K H p [.int i, .ref a1, .ref a2] ∧ SqT X.K H q [.int j, .ref b1, .ref b2] ∧ LT X.K H a1 n1 ∧ LT X.K H a2 n2 ∧ LT X.K H b1 m1 ∧ LT X.K H b2 m2 ∧ a1 ≠ b1 ∧ a2 ≠ b2 ∧ Q (.bl (decide (i = j) && (decide (n1 = m1) && decide (n2 = m2)))) H) := by
  intro pins s σ H x y v u Q I rx ry h
  obtain ⟨p, q, a1, a2, b1, b2, i, j, n1, n2, m1, m2, rfl, rfl, hp, hq, l1, l2, l3, l4, d1, d2, k⟩ := h
  cases rx
  cases ry
  obtain ⟨its, r1, p1, _⟩ := I.tuple hp
  obtain ⟨its2, r2, p2, _⟩ := I.tuple hq
  obtain ⟨t1, rfl⟩ : ∃ t, its = [.int i t, .ref a1, .ref a2] := by
    cases r1 with
    | cons x t => cases t with
      | cons y t => cases t with
        | cons z t => cases t with
          | nil =>
            obtain ⟨t, rfl⟩ := x
            cases y; cases z
            exact ⟨t, rfl⟩
  obtain ⟨t2, rfl⟩ : ∃ t, its2 = [.int j t, .ref b1, .ref b2] := by
    cases r2 with
    | cons x t => cases t with
      | cons y t => cases t with
        | cons z t => cases t with
          | nil =>
            obtain ⟨t, rfl⟩ := x
            cases y; cases z
            exact ⟨t, rfl⟩
  have hu1 : X.A.units < cLine := by omega
  have hu2 : X.A.in1.units + 2 < cLine := by show X.A.units + 1 + 2 < cLine; omega
  have key : ∀ (m : Nat) (g1 : m < #[Value.int i t1, Value.ref a1, Value.ref a2].size) (g2 : m < #[Value.int j t2, Value.ref b1, Value.ref b2].size), SeqAt.EqAt X.A.in1 s #[Value.int i t1, Value.ref a1, Value.ref a2][m] #[Value.int j t2, Value.ref b1, Value.ref b2][m] ((fun m => if m = 0 then decide (i = j) else if m = 1 then decide (n1 = m1) else decide (n2 = m2)) m) := fun m g1 g2 => by
    match m, g1, g2 with
    | 0, _, _ =>
      have e : decide (i = j) = (i == j) := by rw [Bool.eq_iff_iff]; simp
      show SeqAt.EqAt _ _ _ _ (decide (i = j))
      rw [e]; exact SeqAt.EqAt.int_int i t1 j t2
    | 1, _, _ => exact eqAt_lt I hu2 l1 l3 d1
    | 2, _, _ => exact eqAt_lt I hu2 l2 l4 d2
  refine EqBoolInt.of_rc (SeqAt.RcAt.tuples p1 p2 hu1 key) ⟨.bl _, H, I, rfl, ?_⟩
  have ev : ((List.range 3).all (fun m => if m = 0 then decide (i = j) else if m = 1 then decide (n1 = m1) else decide (n2 = m2)) && (3 == 3)) = (decide (i = j) && (decide (n1 = m1) && decide (n2 = m2))) := by
    show ((decide (i = j)) && ((decide (n1 = m1)) && ((decide (n2 = m2)) && true)) && true) = _
    cases decide (i = j) <;> cases decide (n1 = m1) <;> cases decide (n2 = m2) <;> rfl
  rw [← ev] at k
  exact k
end
end L2
namespace L2
open PySem PySem.Spec PyProof.Rows
section
variable {X : Cx} {k : Nat} {x : Str} {p pos : Pos} {e : Expr} {es : List Expr} {ta : TE} {t : TA}
theorem pg_tupK {K : PySem.W.Frag} {es : List Expr} {j : Nat} {t : TGs} {n : Nat} (hK : X.K = K) (hc : X.calm = true) (h : PGs X es t)
    (hn : (assignEach es X.env).length = n := by rfl) (hst : (assignEach es X.env).findIdx? (·.1) = none := by rfl) : PG X (.Tuple es j pos) (gTup K n t) := by
  subst hK; exact pg_tup hc h hn hst
theorem pe_callLK {P : Program} {w : World} {K : PySem.W.Frag} {mg : Str → Option Value} {base : Heap} (h1 : X.prog = P) (h2 : X.w = w) (h3 : X.K = K) (h4 : X.mg = mg) (h5 : X.base = base) (hf : PE X (.Name x p) ta) (hr : Room k X.A) (ha : PA X (e :: es) t)
    (he : starEach (e :: es) X.env = (false, eval e X.env) :: starEach es X.env := by rfl) (hpl : (backTo pos (starEach es X.env)).any (·.1) = false := by rfl) :
    PE X (.Call (.Name x p) (e :: es) [] pos) (tCallL P w K mg base k ta t) := by
  subst h1 h2 h3 h4 h5; exact pe_callL hf hr ha he hpl
theorem op_neTK {K : PySem.W.Frag} (hK : X.K = K) (hu : X.A.units < cLine) : OpR X (compareOp .NotEq) (fun x y H Q => ∃ (a b : Addr) (ns ms : List Int), x = .ref a ∧ y = .ref b ∧ SqT K H a (ns.map V.int) ∧ SqT K H b (ms.map V.int) ∧ Q (.bl (!decide (ns = ms))) H) := by
  subst hK; exact op_neT hu
theorem sl_tupK {K : PySem.W.Frag} (hK : X.K = K) : SlR X (rSlT K) := by
  subst hK; exact sl_tup
end
end L2
namespace K13
open PySem L2 Wd
def top (i : Nat) : Stmt := PySem.Challenge.pw_copperbook_k13_turned_and_mirrored.main.body.getD i (.Pass ⟨0, 0, 0, 0⟩)
abbrev s_is_whole : Stmt := top 6
theorem sc_is_whole : FnScope ["value"] ["value"] (defScope s_is_whole) := ⟨rfl, rfl, rfl, by decide +kernel, rfl, by decide +kernel, by decide +kernel⟩
abbrev s_Board_init : Stmt := inClass (top 11) 0
theorem sc_Board_init : FnScope ["self", "wide", "high", "layers"] ["self", "wide", "high", "layers"] (defScope s_Board_init) := ⟨rfl, rfl, rfl, by decide +kernel, rfl, by decide +kernel, by decide +kernel⟩
abbrev s_Board_cells : Stmt := inClass (top 11) 10
theorem sc_Board_cells : FnScope ["self", "z"] ["self", "z"] (defScope s_Board_cells) := ⟨rfl, rfl, rfl, by decide +kernel, rfl, by decide +kernel, by decide +kernel⟩
abbrev s_Board_holes : Stmt := inClass (top 11) 11
theorem sc_Board_holes : FnScope ["self"] ["self"] (defScope s_Board_holes) := ⟨rfl, rfl, rfl, by decide +kernel, rfl, by decide +kernel, by decide +kernel⟩
abbrev s_Board_turned : Stmt := inClass (top 11) 13
theorem sc_Board_turned : FnScope ["self"] ["self"] (defScope s_Board_turned) := ⟨rfl, rfl, rfl, by decide +kernel, rfl, by decide +kernel, by decide +kernel⟩
abbrev s_Board_mirrored : Stmt := inClass (top 11) 14
theorem sc_Board_mirrored : FnScope ["self"] ["self"] (defScope s_Board_mirrored) := ⟨rfl, rfl, rfl, by decide +kernel, rfl, by decide +kernel, by decide +kernel⟩
abbrev s_Board_put : Stmt := inClass (top 11) 3
theorem sc_Board_put : FnScope ["self", "cells", "cell"] ["self", "cells"] (defScope s_Board_put) := ⟨rfl, rfl, rfl, by decide +kernel, rfl, by decide +kernel, by decide +kernel⟩
abbrev s_Board_take : Stmt := inClass (top 11) 4
theorem sc_Board_take : FnScope ["self", "cells", "cell"] ["self", "cells"] (defScope s_Board_take) := ⟨rfl, rfl, rfl, by decide +kernel, rfl, by decide +kernel, by decide +kernel⟩
abbrev s_Board_drill : Stmt := inClass (top 11) 5
theorem sc_Board_drill : FnScope ["self", "x", "y"] ["self", "x", "y"] (defScope s_Board_drill) := ⟨rfl, rfl, rfl, by decide +kernel, rfl, by decide +kernel, by decide +kernel⟩
abbrev s_Board_plug : Stmt := inClass (top 11) 6
theorem sc_Board_plug : FnScope ["self", "x", "y"] ["self", "x", "y"] (defScope s_Board_plug) := ⟨rfl, rfl, rfl, by decide +kernel, rfl, by decide +kernel, by decide +kernel⟩
abbrev s_Board_same_as : Stmt := inClass (top 11) 9
theorem sc_Board_same_as : FnScope ["self", "other"] ["self", "other"] (defScope s_Board_same_as) := ⟨rfl, rfl, rfl, by decide +kernel, rfl, by decide +kernel, by decide +kernel⟩
abbrev s_Board_redrawn : Stmt := inClass (top 11) 15
theorem sc_Board_redrawn : FnScope ["self", "wide", "high", "place", "other", "hole"] ["self", "wide", "high", "place"] (defScope s_Board_redrawn) := ⟨rfl, rfl, rfl, by decide +kernel, rfl, by decide +kernel, by decide +kernel⟩
abbrev s_Board_has_layer : Stmt := inClass (top 11) 16
theorem sc_Board_has_layer : FnScope ["self", "z"] ["self", "z"] (defScope s_Board_has_layer) := ⟨rfl, rfl, rfl, by decide +kernel, rfl, by decide +kernel, by decide +kernel⟩
abbrev s_Board_has_square : Stmt := inClass (top 11) 17
theorem sc_Board_has_square : FnScope ["self", "x", "y"] ["self", "x", "y"] (defScope s_Board_has_square) := ⟨rfl, rfl, rfl, by decide +kernel, rfl, by decide +kernel, by decide +kernel⟩
abbrev s_Board_has_cell : Stmt := inClass (top 11) 18
theorem sc_Board_has_cell : FnScope ["self", "cell"] ["self", "cell"] (defScope s_Board_has_cell) := ⟨rfl, rfl, rfl, by decide +kernel, rfl, by decide +kernel, by decide +kernel⟩
abbrev s_Board_need_square : Stmt := inClass (top 11) 19
theorem sc_Board_need_square : FnScope ["self", "x", "y"] ["self", "x", "y"] (defScope s_Board_need_square) := ⟨rfl, rfl, rfl, by decide +kernel, rfl, by decide +kernel, by decide +kernel⟩
abbrev s_Board_need_cells : Stmt := inClass (top 11) 20
theorem sc_Board_need_cells : FnScope ["self", "cells", "cell"] ["self", "cells"] (defScope s_Board_need_cells) := ⟨rfl, rfl, rfl, by decide +kernel, rfl, by decide +kernel, by decide +kernel⟩
abbrev s_need_measure : Stmt := top 12
theorem sc_need_measure : FnScope ["measure", "most"] ["measure", "most"] (defScope s_need_measure) := ⟨rfl, rfl, rfl, by decide +kernel, rfl, by decide +kernel, by decide +kernel⟩
abbrev s_law_cell_at : Stmt := top 14
theorem sc_law_cell_at : FnScope ["_law_script", "_law_k"] ["_law_script", "_law_k"] (defScope s_law_cell_at) := ⟨rfl, rfl, rfl, by decide +kernel, rfl, by decide +kernel, by decide +kernel⟩
abbrev s_law_mixed : Stmt := top 15
theorem sc_law_mixed : FnScope ["_law_cell", "_law_k", "_law_number"] ["_law_cell", "_law_k"] (defScope s_law_mixed) := ⟨rfl, rfl, rfl, by decide +kernel, rfl, by decide +kernel, by decide +kernel⟩
abbrev s_law_rows : Stmt := top 16
theorem sc_law_rows : FnScope ["_law_cell", "_law_many", "_law_wide", "_law_mixed_here", "_law_found", "_law_rest", "_law_k", "_law_draw"] ["_law_cell", "_law_many", "_law_wide", "_law_mixed_here"] (defScope s_law_rows) := ⟨rfl, rfl, rfl, by decide +kernel, rfl, by decide +kernel, by decide +kernel⟩
abbrev s_law_board : Stmt := top 17
theorem sc_law_board : FnScope ["_law_script", "_law_cell", "_law_size", "_law_mixed_here", "_law_cells", "_law_k", "_law_row", "_law_holes", "_law_y"] ["_law_script"] (defScope s_law_board) := ⟨rfl, rfl, rfl, by decide +kernel, rfl, by decide +kernel, by decide +kernel⟩
abbrev s_law_made : Stmt := top 18
theorem sc_law_made : FnScope ["_law_size", "_law_cells", "_law_holes", "_law_board_here", "_law_x", "_law_y"] ["_law_size", "_law_cells", "_law_holes"] (defScope s_law_made) := ⟨rfl, rfl, rfl, by decide +kernel, rfl, by decide +kernel, by decide +kernel⟩
abbrev s_law_tells : Stmt := top 19
theorem sc_law_tells : FnScope ["_law_board_here", "_law_size", "_law_cells", "_law_holes"] ["_law_board_here", "_law_size", "_law_cells", "_law_holes"] (defScope s_law_tells) := ⟨rfl, rfl, rfl, by decide +kernel, rfl, by decide +kernel, by decide +kernel⟩
abbrev s_law_unlike : Stmt := top 20
theorem sc_law_unlike : FnScope ["_law_board_here", "_law_size", "_law_cells", "_law_holes", "_law_k", "_law_more", "_law_other"] ["_law_board_here", "_law_size", "_law_cells", "_law_holes"] (defScope s_law_unlike) := ⟨rfl, rfl, rfl, by decide +kernel, rfl, by decide +kernel, by decide +kernel⟩
abbrev s_law_led_on : Stmt := top 21
theorem sc_law_led_on : FnScope ["_law_board_here", "_law_size", "_law_cells", "_law_holes", "_law_cell", "_law_turned", "_law_quarters", "_law_seen"] ["_law_board_here", "_law_size", "_law_cells", "_law_holes"] (defScope s_law_led_on) := ⟨rfl, rfl, rfl, by decide +kernel, rfl, by decide +kernel, by decide +kernel⟩
abbrev s_law : Stmt := top 22
theorem sc_law : FnScope ["_law_script", "_law_size", "_law_cells", "_law_holes", "_law_board_here", "_law_turned", "_law_quarter", "_law_seen", "_law_glass", "_law_other", "_law_same"] ["_law_script"] (defScope s_law) := ⟨rfl, rfl, rfl, by decide +kernel, rfl, by decide +kernel, by decide +kernel⟩
structure Adr where
  c_Board : Addr
  f_is_whole : Addr
  f_Board_init : Addr
  f_Board_cells : Addr
  f_Board_holes : Addr
  f_Board_turned : Addr
  cd_Board_turned : Addr
  pl_Board_turned : Addr
  f_Board_mirrored : Addr
  cd_Board_mirrored : Addr
  pl_Board_mirrored : Addr
  f_Board_put : Addr
  f_Board_take : Addr
  f_Board_drill : Addr
  f_Board_plug : Addr
  f_Board_same_as : Addr
  f_Board_redrawn : Addr
  f_Board_has_layer : Addr
  f_Board_has_square : Addr
  f_Board_has_cell : Addr
  f_Board_need_square : Addr
  f_Board_need_cells : Addr
  f_need_measure : Addr
  f_law_cell_at : Addr
  f_law_mixed : Addr
  f_law_rows : Addr
  f_law_board : Addr
  f_law_made : Addr
  f_law_tells : Addr
  f_law_unlike : Addr
  f_law_led_on : Addr
  f_law : Addr
  c_CopperError : Addr
  c_NoBoard : Addr
  c_NoPlace : Addr
  tk_MOST_WIDE : Tok
  tk_MOST_HIGH : Tok
  tk_MOST_LAYERS : Tok
structure Txt (K : PySem.W.Frag) (mg : Str → Option Value) (t : Adr) : Prop where
  g_Board : mg "Board" = some (.ref t.c_Board)
  cl_Board : Cls K t.c_Board
  na_Board_wide : NoAttr K t.c_Board "wide"
  na_Board_high : NoAttr K t.c_Board "high"
  na_Board_layers : NoAttr K t.c_Board "layers"
  na_Board_copper : NoAttr K t.c_Board "copper"
  na_Board_drilled : NoAttr K t.c_Board "drilled"
  F_is_whole : ∃ fd, Fun K "is_whole" "is_whole" s_is_whole t.f_is_whole fd ∧ Binds K fd ["value"] []
  g_is_whole : mg "is_whole" = some (.ref t.f_is_whole)
  F_Board_init : ∃ fd, FunD K "__init__" "Board.__init__" s_Board_init t.f_Board_init fd ∧ Binds K fd ["self", "wide", "high", "layers"] []
  K_Board : Mk K t.c_Board t.f_Board_init
  F_Board_cells : ∃ fd, FunD K "cells" "Board.cells" s_Board_cells t.f_Board_cells fd ∧ Binds K fd ["self", "z"] [] ∧ Binds K fd ["self", "z"] [Value.none]
  M_Board_cells : Meth K t.c_Board "cells" t.f_Board_cells
  F_Board_holes : ∃ fd, Fun K "holes" "Board.holes" s_Board_holes t.f_Board_holes fd ∧ Binds K fd ["self"] []
  M_Board_holes : Meth K t.c_Board "holes" t.f_Board_holes
  hd_Board_turned : PySem.W.codeHdIn K t.cd_Board_turned t.pl_Board_turned = true
  nl_Board_turned : K.lookup t.pl_Board_turned = none
  F_Board_turned : ∃ fd, FunC K "turned" "Board.turned" s_Board_turned t.f_Board_turned fd t.cd_Board_turned t.pl_Board_turned ∧ Binds K fd ["self"] []
  M_Board_turned : Meth K t.c_Board "turned" t.f_Board_turned
  hd_Board_mirrored : PySem.W.codeHdIn K t.cd_Board_mirrored t.pl_Board_mirrored = true
  nl_Board_mirrored : K.lookup t.pl_Board_mirrored = none
  F_Board_mirrored : ∃ fd, FunC K "mirrored" "Board.mirrored" s_Board_mirrored t.f_Board_mirrored fd t.cd_Board_mirrored t.pl_Board_mirrored ∧ Binds K fd ["self"] []
  M_Board_mirrored : Meth K t.c_Board "mirrored" t.f_Board_mirrored
  F_Board_put : ∃ fd, Fun K "put" "Board.put" s_Board_put t.f_Board_put fd ∧ Binds K fd ["self", "cells"] []
  M_Board_put : Meth K t.c_Board "put" t.f_Board_put
  F_Board_take : ∃ fd, Fun K "take" "Board.take" s_Board_take t.f_Board_take fd ∧ Binds K fd ["self", "cells"] []
  M_Board_take : Meth K t.c_Board "take" t.f_Board_take
  F_Board_drill : ∃ fd, Fun K "drill" "Board.drill" s_Board_drill t.f_Board_drill fd ∧ Binds K fd ["self", "x", "y"] []
  M_Board_drill : Meth K t.c_Board "drill" t.f_Board_drill
  F_Board_plug : ∃ fd, Fun K "plug" "Board.plug" s_Board_plug t.f_Board_plug fd ∧ Binds K fd ["self", "x", "y"] []
  M_Board_plug : Meth K t.c_Board "plug" t.f_Board_plug
  F_Board_same_as : ∃ fd, Fun K "same_as" "Board.same_as" s_Board_same_as t.f_Board_same_as fd ∧ Binds K fd ["self", "other"] []
  M_Board_same_as : Meth K t.c_Board "same_as" t.f_Board_same_as
  F_Board_redrawn : ∃ fd, Fun K "redrawn" "Board.redrawn" s_Board_redrawn t.f_Board_redrawn fd ∧ Binds K fd ["self", "wide", "high", "place"] []
  M_Board_redrawn : Meth K t.c_Board "redrawn" t.f_Board_redrawn
  F_Board_has_layer : ∃ fd, Fun K "has_layer" "Board.has_layer" s_Board_has_layer t.f_Board_has_layer fd ∧ Binds K fd ["self", "z"] []
  M_Board_has_layer : Meth K t.c_Board "has_layer" t.f_Board_has_layer
  F_Board_has_square : ∃ fd, Fun K "has_square" "Board.has_square" s_Board_has_square t.f_Board_has_square fd ∧ Binds K fd ["self", "x", "y"] []
  M_Board_has_square : Meth K t.c_Board "has_square" t.f_Board_has_square
  F_Board_has_cell : ∃ fd, Fun K "has_cell" "Board.has_cell" s_Board_has_cell t.f_Board_has_cell fd ∧ Binds K fd ["self", "cell"] []
  M_Board_has_cell : Meth K t.c_Board "has_cell" t.f_Board_has_cell
  F_Board_need_square : ∃ fd, Fun K "need_square" "Board.need_square" s_Board_need_square t.f_Board_need_square fd ∧ Binds K fd ["self", "x", "y"] []
  M_Board_need_square : Meth K t.c_Board "need_square" t.f_Board_need_square
  F_Board_need_cells : ∃ fd, Fun K "need_cells" "Board.need_cells" s_Board_need_cells t.f_Board_need_cells fd ∧ Binds K fd ["self", "cells"] []
  M_Board_need_cells : Meth K t.c_Board "need_cells" t.f_Board_need_cells
  F_need_measure : ∃ fd, Fun K "need_measure" "need_measure" s_need_measure t.f_need_measure fd ∧ Binds K fd ["measure", "most"] []
  g_need_measure : mg "need_measure" = some (.ref t.f_need_measure)
  F_law_cell_at : ∃ fd, Fun K "_law_cell_at" "_law_cell_at" s_law_cell_at t.f_law_cell_at fd ∧ Binds K fd ["_law_script", "_law_k"] []
  g__law_cell_at : mg "_law_cell_at" = some (.ref t.f_law_cell_at)
  F_law_mixed : ∃ fd, Fun K "_law_mixed" "_law_mixed" s_law_mixed t.f_law_mixed fd ∧ Binds K fd ["_law_cell", "_law_k"] []
  g__law_mixed : mg "_law_mixed" = some (.ref t.f_law_mixed)
  F_law_rows : ∃ fd, Fun K "_law_rows" "_law_rows" s_law_rows t.f_law_rows fd ∧ Binds K fd ["_law_cell", "_law_many", "_law_wide", "_law_mixed_here"] []
  g__law_rows : mg "_law_rows" = some (.ref t.f_law_rows)
  F_law_board : ∃ fd, Fun K "_law_board" "_law_board" s_law_board t.f_law_board fd ∧ Binds K fd ["_law_script"] []
  g__law_board : mg "_law_board" = some (.ref t.f_law_board)
  F_law_made : ∃ fd, Fun K "_law_made" "_law_made" s_law_made t.f_law_made fd ∧ Binds K fd ["_law_size", "_law_cells", "_law_holes"] []
  g__law_made : mg "_law_made" = some (.ref t.f_law_made)
  F_law_tells : ∃ fd, Fun K "_law_tells" "_law_tells" s_law_tells t.f_law_tells fd ∧ Binds K fd ["_law_board_here", "_law_size", "_law_cells", "_law_holes"] []
  g__law_tells : mg "_law_tells" = some (.ref t.f_law_tells)
  F_law_unlike : ∃ fd, Fun K "_law_unlike" "_law_unlike" s_law_unlike t.f_law_unlike fd ∧ Binds K fd ["_law_board_here", "_law_size", "_law_cells", "_law_holes"] []
  g__law_unlike : mg "_law_unlike" = some (.ref t.f_law_unlike)
  F_law_led_on : ∃ fd, Fun K "_law_led_on" "_law_led_on" s_law_led_on t.f_law_led_on fd ∧ Binds K fd ["_law_board_here", "_law_size", "_law_cells", "_law_holes"] []
  g__law_led_on : mg "_law_led_on" = some (.ref t.f_law_led_on)
  F_law : ∃ fd, Fun K "law" "law" s_law t.f_law fd ∧ ∀ (s : Shared) (u : Value), BindsTo s fd ⟨[u], []⟩ [("_law_script", u)]
  g_law : mg "law" = some (.ref t.f_law)
  pn_Board_turned_Board_mirrored : t.pl_Board_turned ≠ t.pl_Board_mirrored
  g_CopperError : mg "CopperError" = some (.ref t.c_CopperError)
  g_NoBoard : mg "NoBoard" = some (.ref t.c_NoBoard)
  g_NoPlace : mg "NoPlace" = some (.ref t.c_NoPlace)
  e_NoBoard : Err K mg "NoBoard" t.c_NoBoard
  e_NoPlace : Err K mg "NoPlace" t.c_NoPlace
  n_isinstance : mg "isinstance" = none
  n_int : mg "int" = none
  n_bool : mg "bool" = none
  n_list : mg "list" = none
  n_tuple : mg "tuple" = none
  n_len : mg "len" = none
  n_range : mg "range" = none
  n_enumerate : mg "enumerate" = none
  n_sorted : mg "sorted" = none
  g_MOST_WIDE : mg "MOST_WIDE" = some (.int 12 t.tk_MOST_WIDE)
  g_MOST_HIGH : mg "MOST_HIGH" = some (.int 12 t.tk_MOST_HIGH)
  g_MOST_LAYERS : mg "MOST_LAYERS" = some (.int 3 t.tk_MOST_LAYERS)
theorem txt_mk {K : PySem.W.Frag} {h : Heap} {mg : Str → Option Value} {c_Board f_is_whole f_Board_init f_Board_cells f_Board_holes f_Board_turned cd_Board_turned pl_Board_turned f_Board_mirrored cd_Board_mirrored pl_Board_mirrored f_Board_put f_Board_take f_Board_drill f_Board_plug f_Board_same_as f_Board_redrawn f_Board_has_layer f_Board_has_square f_Board_has_cell f_Board_need_square f_Board_need_cells f_need_measure f_law_cell_at f_law_mixed f_law_rows f_law_board f_law_made f_law_tells f_law_unlike f_law_led_on f_law c_CopperError c_NoBoard c_NoPlace : Addr} {tk_MOST_WIDE tk_MOST_HIGH tk_MOST_LAYERS : Tok}
    {od_is_whole an_is_whole od_Board_init an_Board_init od_Board_cells an_Board_cells od_Board_holes an_Board_holes od_Board_turned an_Board_turned od_Board_mirrored an_Board_mirrored od_Board_put an_Board_put od_Board_take an_Board_take od_Board_drill an_Board_drill od_Board_plug an_Board_plug od_Board_same_as an_Board_same_as od_Board_redrawn an_Board_redrawn od_Board_has_layer an_Board_has_layer od_Board_has_square an_Board_has_square od_Board_has_cell an_Board_has_cell od_Board_need_square an_Board_need_square od_Board_need_cells an_Board_need_cells od_need_measure an_need_measure od_law_cell_at an_law_cell_at od_law_mixed an_law_mixed od_law_rows an_law_rows od_law_board an_law_board od_law_made an_law_made od_law_tells an_law_tells od_law_unlike an_law_unlike od_law_led_on an_law_led_on od_law an_law : Option Addr} {sl_is_whole sl_Board_init sl_Board_cells sl_Board_holes sl_Board_turned sl_Board_mirrored sl_Board_put sl_Board_take sl_Board_drill sl_Board_plug sl_Board_same_as sl_Board_redrawn sl_Board_has_layer sl_Board_has_square sl_Board_has_cell sl_Board_need_square sl_Board_need_cells sl_need_measure sl_law_cell_at sl_law_mixed sl_law_rows sl_law_board sl_law_made sl_law_tells sl_law_unlike sl_law_led_on sl_law : Array (Option Value)} {oc_is_whole kV_is_whole dc_is_whole pm_is_whole cd_is_whole ct_is_whole oc_Board_init kV_Board_init dc_Board_init pm_Board_init cd_Board_init ct_Board_init oc_Board_cells kV_Board_cells dc_Board_cells pm_Board_cells cd_Board_cells ct_Board_cells oc_Board_holes kV_Board_holes dc_Board_holes pm_Board_holes cd_Board_holes ct_Board_holes oc_Board_turned kV_Board_turned dc_Board_turned pm_Board_turned ct_Board_turned oc_Board_mirrored kV_Board_mirrored dc_Board_mirrored pm_Board_mirrored ct_Board_mirrored oc_Board_put kV_Board_put dc_Board_put pm_Board_put cd_Board_put ct_Board_put oc_Board_take kV_Board_take dc_Board_take pm_Board_take cd_Board_take ct_Board_take oc_Board_drill kV_Board_drill dc_Board_drill pm_Board_drill cd_Board_drill ct_Board_drill oc_Board_plug kV_Board_plug dc_Board_plug pm_Board_plug cd_Board_plug ct_Board_plug oc_Board_same_as kV_Board_same_as dc_Board_same_as pm_Board_same_as cd_Board_same_as ct_Board_same_as oc_Board_redrawn kV_Board_redrawn dc_Board_redrawn pm_Board_redrawn cd_Board_redrawn ct_Board_redrawn oc_Board_has_layer kV_Board_has_layer dc_Board_has_layer pm_Board_has_layer cd_Board_has_layer ct_Board_has_layer oc_Board_has_square kV_Board_has_square dc_Board_has_square pm_Board_has_square cd_Board_has_square ct_Board_has_square oc_Board_has_cell kV_Board_has_cell dc_Board_has_cell pm_Board_has_cell cd_Board_has_cell ct_Board_has_cell oc_Board_need_square kV_Board_need_square dc_Board_need_square pm_Board_need_square cd_Board_need_square ct_Board_need_square oc_Board_need_cells kV_Board_need_cells dc_Board_need_cells pm_Board_need_cells cd_Board_need_cells ct_Board_need_cells oc_need_measure kV_need_measure dc_need_measure pm_need_measure cd_need_measure ct_need_measure oc_law_cell_at kV_law_cell_at dc_law_cell_at pm_law_cell_at cd_law_cell_at ct_law_cell_at oc_law_mixed kV_law_mixed dc_law_mixed pm_law_mixed cd_law_mixed ct_law_mixed oc_law_rows kV_law_rows dc_law_rows pm_law_rows cd_law_rows ct_law_rows oc_law_board kV_law_board dc_law_board pm_law_board cd_law_board ct_law_board oc_law_made kV_law_made dc_law_made pm_law_made cd_law_made ct_law_made oc_law_tells kV_law_tells dc_law_tells pm_law_tells cd_law_tells ct_law_tells oc_law_unlike kV_law_unlike dc_law_unlike pm_law_unlike cd_law_unlike ct_law_unlike oc_law_led_on kV_law_led_on dc_law_led_on pm_law_led_on cd_law_led_on ct_law_led_on oc_law kV_law dc_law pm_law cd_law ct_law : Value} {dV_Board_init : Addr} {dd_Board_init : Option Addr} {dn_Board_init : Nat} {ds_Board_init : Array (Option Value)} {dV_Board_cells : Addr} {dd_Board_cells : Option Addr} {dn_Board_cells : Nat} {ds_Board_cells : Array (Option Value)} {dt0_Board_init : Tok} {k1_Board_turned : Value} {k2_Board_turned : Option Addr} {kv_Board_turned : Array Value} {k4_Board_turned : Array (Option Value)} {k1_Board_mirrored : Value} {k2_Board_mirrored : Option Addr} {kv_Board_mirrored : Array Value} {k4_Board_mirrored : Array (Option Value)} (X : K.In h) (G : h.Ns mainGlobals mg)
    (g_Board : PySem.W.nsIn K mainGlobals "Board" = some (some (.ref c_Board)))
    (pg_Board : PySem.W.plainGet K c_Board Str.empty = true)
    (hd_Board : PySem.W.hasDictIn K c_Board = true)
    (po_Board : PySem.W.plainOver K c_Board = true)
    (sa_Board : PySem.W.findIn K (.ref c_Board) "__setattr__" = some (some (.builtin "object.__setattr__")))
    (mk_Board : PySem.W.makesIn K c_Board = true)
    (kc_Board : PySem.W.keepIn K (.ref c_Board) = true)
    (na_Board_wide : PySem.W.findIn K (.ref c_Board) "wide" = some none)
    (na_Board_high : PySem.W.findIn K (.ref c_Board) "high" = some none)
    (na_Board_layers : PySem.W.findIn K (.ref c_Board) "layers" = some none)
    (na_Board_copper : PySem.W.findIn K (.ref c_Board) "copper" = some none)
    (na_Board_drilled : PySem.W.findIn K (.ref c_Board) "drilled" = some none)
    (a_is_whole : PySem.W.nsIn K mainGlobals "is_whole" = some (some (.ref f_is_whole)))
    (l_is_whole : K.lookup f_is_whole = some ⟨oc_is_whole, od_is_whole, .func (PySem.W.fnOf "is_whole" "is_whole" (defArgs s_is_whole) (defBody s_is_whole) (defScope s_is_whole) .none kV_is_whole dc_is_whole pm_is_whole an_is_whole cd_is_whole ct_is_whole), sl_is_whole⟩)
    (cc_is_whole : PySem.W.codeIn K cd_is_whole "is_whole" = true)
    (k_is_whole : PySem.W.keepIn K (.ref f_is_whole) = true)
    (a_Board_init : PySem.W.findIn K (.ref c_Board) "__init__" = some (some (.ref f_Board_init)))
    (i_Board_init : PySem.W.isFn K (.ref f_Board_init) = true)
    (l_Board_init : K.lookup f_Board_init = some ⟨oc_Board_init, od_Board_init, .func (PySem.W.fnOf "__init__" "Board.__init__" (defArgs s_Board_init) (defBody s_Board_init) (defScope s_Board_init) (.ref dV_Board_init) kV_Board_init dc_Board_init pm_Board_init an_Board_init cd_Board_init ct_Board_init), sl_Board_init⟩)
    (dl_Board_init : K.lookup dV_Board_init = some ⟨.type "tuple", dd_Board_init, .seq [.int 1 dt0_Board_init].toArray dn_Board_init, ds_Board_init⟩)
    (cc_Board_init : PySem.W.codeIn K cd_Board_init "Board.__init__" = true)
    (k_Board_init : PySem.W.keepIn K (.ref f_Board_init) = true)
    (a_Board_cells : PySem.W.findIn K (.ref c_Board) "cells" = some (some (.ref f_Board_cells)))
    (i_Board_cells : PySem.W.isFn K (.ref f_Board_cells) = true)
    (l_Board_cells : K.lookup f_Board_cells = some ⟨oc_Board_cells, od_Board_cells, .func (PySem.W.fnOf "cells" "Board.cells" (defArgs s_Board_cells) (defBody s_Board_cells) (defScope s_Board_cells) (.ref dV_Board_cells) kV_Board_cells dc_Board_cells pm_Board_cells an_Board_cells cd_Board_cells ct_Board_cells), sl_Board_cells⟩)
    (dl_Board_cells : K.lookup dV_Board_cells = some ⟨.type "tuple", dd_Board_cells, .seq [.none].toArray dn_Board_cells, ds_Board_cells⟩)
    (cc_Board_cells : PySem.W.codeIn K cd_Board_cells "Board.cells" = true)
    (k_Board_cells : PySem.W.keepIn K (.ref f_Board_cells) = true)
    (a_Board_holes : PySem.W.findIn K (.ref c_Board) "holes" = some (some (.ref f_Board_holes)))
    (i_Board_holes : PySem.W.isFn K (.ref f_Board_holes) = true)
    (l_Board_holes : K.lookup f_Board_holes = some ⟨oc_Board_holes, od_Board_holes, .func (PySem.W.fnOf "holes" "Board.holes" (defArgs s_Board_holes) (defBody s_Board_holes) (defScope s_Board_holes) .none kV_Board_holes dc_Board_holes pm_Board_holes an_Board_holes cd_Board_holes ct_Board_holes), sl_Board_holes⟩)
    (cc_Board_holes : PySem.W.codeIn K cd_Board_holes "Board.holes" = true)
    (k_Board_holes : PySem.W.keepIn K (.ref f_Board_holes) = true)
    (a_Board_turned : PySem.W.findIn K (.ref c_Board) "turned" = some (some (.ref f_Board_turned)))
    (i_Board_turned : PySem.W.isFn K (.ref f_Board_turned) = true)
    (l_Board_turned : K.lookup f_Board_turned = some ⟨oc_Board_turned, od_Board_turned, .func (PySem.W.fnOf "turned" "Board.turned" (defArgs s_Board_turned) (defBody s_Board_turned) (defScope s_Board_turned) .none kV_Board_turned dc_Board_turned pm_Board_turned an_Board_turned (.ref cd_Board_turned) ct_Board_turned), sl_Board_turned⟩)
    (cc_Board_turned : PySem.W.codeIn K (.ref cd_Board_turned) "Board.turned" = true)
    (k_Board_turned : PySem.W.keepIn K (.ref f_Board_turned) = true)
    (ko_Board_turned : K.lookup cd_Board_turned = some ⟨k1_Board_turned, k2_Board_turned, .fields kv_Board_turned, k4_Board_turned⟩)
    (kp_Board_turned : kv_Board_turned[11]? = some (.ref pl_Board_turned))
    (ch_Board_turned : PySem.W.codeHdIn K cd_Board_turned pl_Board_turned = true)
    (nl_Board_turned : K.lookup pl_Board_turned = none)
    (tb_Board_turned : h.get? pl_Board_turned = some (PySem.W.tabObj #[]))
    (a_Board_mirrored : PySem.W.findIn K (.ref c_Board) "mirrored" = some (some (.ref f_Board_mirrored)))
    (i_Board_mirrored : PySem.W.isFn K (.ref f_Board_mirrored) = true)
    (l_Board_mirrored : K.lookup f_Board_mirrored = some ⟨oc_Board_mirrored, od_Board_mirrored, .func (PySem.W.fnOf "mirrored" "Board.mirrored" (defArgs s_Board_mirrored) (defBody s_Board_mirrored) (defScope s_Board_mirrored) .none kV_Board_mirrored dc_Board_mirrored pm_Board_mirrored an_Board_mirrored (.ref cd_Board_mirrored) ct_Board_mirrored), sl_Board_mirrored⟩)
    (cc_Board_mirrored : PySem.W.codeIn K (.ref cd_Board_mirrored) "Board.mirrored" = true)
    (k_Board_mirrored : PySem.W.keepIn K (.ref f_Board_mirrored) = true)
    (ko_Board_mirrored : K.lookup cd_Board_mirrored = some ⟨k1_Board_mirrored, k2_Board_mirrored, .fields kv_Board_mirrored, k4_Board_mirrored⟩)
    (kp_Board_mirrored : kv_Board_mirrored[11]? = some (.ref pl_Board_mirrored))
    (ch_Board_mirrored : PySem.W.codeHdIn K cd_Board_mirrored pl_Board_mirrored = true)
    (nl_Board_mirrored : K.lookup pl_Board_mirrored = none)
    (tb_Board_mirrored : h.get? pl_Board_mirrored = some (PySem.W.tabObj #[]))
    (a_Board_put : PySem.W.findIn K (.ref c_Board) "put" = some (some (.ref f_Board_put)))
    (i_Board_put : PySem.W.isFn K (.ref f_Board_put) = true)
    (l_Board_put : K.lookup f_Board_put = some ⟨oc_Board_put, od_Board_put, .func (PySem.W.fnOf "put" "Board.put" (defArgs s_Board_put) (defBody s_Board_put) (defScope s_Board_put) .none kV_Board_put dc_Board_put pm_Board_put an_Board_put cd_Board_put ct_Board_put), sl_Board_put⟩)
    (cc_Board_put : PySem.W.codeIn K cd_Board_put "Board.put" = true)
    (k_Board_put : PySem.W.keepIn K (.ref f_Board_put) = true)
    (a_Board_take : PySem.W.findIn K (.ref c_Board) "take" = some (some (.ref f_Board_take)))
    (i_Board_take : PySem.W.isFn K (.ref f_Board_take) = true)
    (l_Board_take : K.lookup f_Board_take = some ⟨oc_Board_take, od_Board_take, .func (PySem.W.fnOf "take" "Board.take" (defArgs s_Board_take) (defBody s_Board_take) (defScope s_Board_take) .none kV_Board_take dc_Board_take pm_Board_take an_Board_take cd_Board_take ct_Board_take), sl_Board_take⟩)
    (cc_Board_take : PySem.W.codeIn K cd_Board_take "Board.take" = true)
    (k_Board_take : PySem.W.keepIn K (.ref f_Board_take) = true)
    (a_Board_drill : PySem.W.findIn K (.ref c_Board) "drill" = some (some (.ref f_Board_drill)))
    (i_Board_drill : PySem.W.isFn K (.ref f_Board_drill) = true)
    (l_Board_drill : K.lookup f_Board_drill = some ⟨oc_Board_drill, od_Board_drill, .func (PySem.W.fnOf "drill" "Board.drill" (defArgs s_Board_drill) (defBody s_Board_drill) (defScope s_Board_drill) .none kV_Board_drill dc_Board_drill pm_Board_drill an_Board_drill cd_Board_drill ct_Board_drill), sl_Board_drill⟩)
    (cc_Board_drill : PySem.W.codeIn K cd_Board_drill "Board.drill" = true)
    (k_Board_drill : PySem.W.keepIn K (.ref f_Board_drill) = true)
    (a_Board_plug : PySem.W.findIn K (.ref c_Board) "plug" = some (some (.ref f_Board_plug)))
    (i_Board_plug : PySem.W.isFn K (.ref f_Board_plug) = true)
    (l_Board_plug : K.lookup f_Board_plug = some ⟨oc_Board_plug, od_Board_plug, .func (PySem.W.fnOf "plug" "Board.plug" (defArgs s_Board_plug) (defBody s_Board_plug) (defScope s_Board_plug) .none kV_Board_plug dc_Board_plug pm_Board_plug an_Board_plug cd_Board_plug ct_Board_plug), sl_Board_plug⟩)
    (cc_Board_plug : PySem.W.codeIn K cd_Board_plug "Board.plug" = true)
    (k_Board_plug : PySem.W.keepIn K (.ref f_Board_plug) = true)
    (a_Board_same_as : PySem.W.findIn K (.ref c_Board) "same_as" = some (some (.ref f_Board_same_as)))
    (i_Board_same_as : PySem.W.isFn K (.ref f_Board_same_as) = true)
    (l_Board_same_as : K.lookup f_Board_same_as = some ⟨oc_Board_same_as, od_Board_same_as, .func (PySem.W.fnOf "same_as" "Board.same_as" (defArgs s_Board_same_as) (defBody s_Board_same_as) (defScope s_Board_same_as) .none kV_Board_same_as dc_Board_same_as pm_Board_same_as an_Board_same_as cd_Board_same_as ct_Board_same_as), sl_Board_same_as⟩)
    (cc_Board_same_as : PySem.W.codeIn K cd_Board_same_as "Board.same_as" = true)
    (k_Board_same_as : PySem.W.keepIn K (.ref f_Board_same_as) = true)
    (a_Board_redrawn : PySem.W.findIn K (.ref c_Board) "redrawn" = some (some (.ref f_Board_redrawn)))
    (i_Board_redrawn : PySem.W.isFn K (.ref f_Board_redrawn) = true)
    (l_Board_redrawn : K.lookup f_Board_redrawn = some ⟨oc_Board_redrawn, od_Board_redrawn, .func (PySem.W.fnOf "redrawn" "Board.redrawn" (defArgs s_Board_redrawn) (defBody s_Board_redrawn) (defScope s_Board_redrawn) .none kV_Board_redrawn dc_Board_redrawn pm_Board_redrawn an_Board_redrawn cd_Board_redrawn ct_Board_redrawn), sl_Board_redrawn⟩)
    (cc_Board_redrawn : PySem.W.codeIn K cd_Board_redrawn "Board.redrawn" = true)
    (k_Board_redrawn : PySem.W.keepIn K (.ref f_Board_redrawn) = true)
    (a_Board_has_layer : PySem.W.findIn K (.ref c_Board) "has_layer" = some (some (.ref f_Board_has_layer)))
    (i_Board_has_layer : PySem.W.isFn K (.ref f_Board_has_layer) = true)
    (l_Board_has_layer : K.lookup f_Board_has_layer = some ⟨oc_Board_has_layer, od_Board_has_layer, .func (PySem.W.fnOf "has_layer" "Board.has_layer" (defArgs s_Board_has_layer) (defBody s_Board_has_layer) (defScope s_Board_has_layer) .none kV_Board_has_layer dc_Board_has_layer pm_Board_has_layer an_Board_has_layer cd_Board_has_layer ct_Board_has_layer), sl_Board_has_layer⟩)
    (cc_Board_has_layer : PySem.W.codeIn K cd_Board_has_layer "Board.has_layer" = true)
    (k_Board_has_layer : PySem.W.keepIn K (.ref f_Board_has_layer) = true)
    (a_Board_has_square : PySem.W.findIn K (.ref c_Board) "has_square" = some (some (.ref f_Board_has_square)))
    (i_Board_has_square : PySem.W.isFn K (.ref f_Board_has_square) = true)
    (l_Board_has_square : K.lookup f_Board_has_square = some ⟨oc_Board_has_square, od_Board_has_square, .func (PySem.W.fnOf "has_square" "Board.has_square" (defArgs s_Board_has_square) (defBody s_Board_has_square) (defScope s_Board_has_square) .none kV_Board_has_square dc_Board_has_square pm_Board_has_square an_Board_has_square cd_Board_has_square ct_Board_has_square), sl_Board_has_square⟩)
    (cc_Board_has_square : PySem.W.codeIn K cd_Board_has_square "Board.has_square" = true)
    (k_Board_has_square : PySem.W.keepIn K (.ref f_Board_has_square) = true)
    (a_Board_has_cell : PySem.W.findIn K (.ref c_Board) "has_cell" = some (some (.ref f_Board_has_cell)))
    (i_Board_has_cell : PySem.W.isFn K (.ref f_Board_has_cell) = true)
    (l_Board_has_cell : K.lookup f_Board_has_cell = some ⟨oc_Board_has_cell, od_Board_has_cell, .func (PySem.W.fnOf "has_cell" "Board.has_cell" (defArgs s_Board_has_cell) (defBody s_Board_has_cell) (defScope s_Board_has_cell) .none kV_Board_has_cell dc_Board_has_cell pm_Board_has_cell an_Board_has_cell cd_Board_has_cell ct_Board_has_cell), sl_Board_has_cell⟩)
    (cc_Board_has_cell : PySem.W.codeIn K cd_Board_has_cell "Board.has_cell" = true)
    (k_Board_has_cell : PySem.W.keepIn K (.ref f_Board_has_cell) = true)
    (a_Board_need_square : PySem.W.findIn K (.ref c_Board) "need_square" = some (some (.ref f_Board_need_square)))
    (i_Board_need_square : PySem.W.isFn K (.ref f_Board_need_square) = true)
    (l_Board_need_square : K.lookup f_Board_need_square = some ⟨oc_Board_need_square, od_Board_need_square, .func (PySem.W.fnOf "need_square" "Board.need_square" (defArgs s_Board_need_square) (defBody s_Board_need_square) (defScope s_Board_need_square) .none kV_Board_need_square dc_Board_need_square pm_Board_need_square an_Board_need_square cd_Board_need_square ct_Board_need_square), sl_Board_need_square⟩)
    (cc_Board_need_square : PySem.W.codeIn K cd_Board_need_square "Board.need_square" = true)
    (k_Board_need_square : PySem.W.keepIn K (.ref f_Board_need_square) = true)
    (a_Board_need_cells : PySem.W.findIn K (.ref c_Board) "need_cells" = some (some (.ref f_Board_need_cells)))
    (i_Board_need_cells : PySem.W.isFn K (.ref f_Board_need_cells) = true)
    (l_Board_need_cells : K.lookup f_Board_need_cells = some ⟨oc_Board_need_cells, od_Board_need_cells, .func (PySem.W.fnOf "need_cells" "Board.need_cells" (defArgs s_Board_need_cells) (defBody s_Board_need_cells) (defScope s_Board_need_cells) .none kV_Board_need_cells dc_Board_need_cells pm_Board_need_cells an_Board_need_cells cd_Board_need_cells ct_Board_need_cells), sl_Board_need_cells⟩)
    (cc_Board_need_cells : PySem.W.codeIn K cd_Board_need_cells "Board.need_cells" = true)
    (k_Board_need_cells : PySem.W.keepIn K (.ref f_Board_need_cells) = true)
    (a_need_measure : PySem.W.nsIn K mainGlobals "need_measure" = some (some (.ref f_need_measure)))
    (l_need_measure : K.lookup f_need_measure = some ⟨oc_need_measure, od_need_measure, .func (PySem.W.fnOf "need_measure" "need_measure" (defArgs s_need_measure) (defBody s_need_measure) (defScope s_need_measure) .none kV_need_measure dc_need_measure pm_need_measure an_need_measure cd_need_measure ct_need_measure), sl_need_measure⟩)
    (cc_need_measure : PySem.W.codeIn K cd_need_measure "need_measure" = true)
    (k_need_measure : PySem.W.keepIn K (.ref f_need_measure) = true)
    (a_law_cell_at : PySem.W.nsIn K mainGlobals "_law_cell_at" = some (some (.ref f_law_cell_at)))
    (l_law_cell_at : K.lookup f_law_cell_at = some ⟨oc_law_cell_at, od_law_cell_at, .func (PySem.W.fnOf "_law_cell_at" "_law_cell_at" (defArgs s_law_cell_at) (defBody s_law_cell_at) (defScope s_law_cell_at) .none kV_law_cell_at dc_law_cell_at pm_law_cell_at an_law_cell_at cd_law_cell_at ct_law_cell_at), sl_law_cell_at⟩)
    (cc_law_cell_at : PySem.W.codeIn K cd_law_cell_at "_law_cell_at" = true)
    (k_law_cell_at : PySem.W.keepIn K (.ref f_law_cell_at) = true)
    (a_law_mixed : PySem.W.nsIn K mainGlobals "_law_mixed" = some (some (.ref f_law_mixed)))
    (l_law_mixed : K.lookup f_law_mixed = some ⟨oc_law_mixed, od_law_mixed, .func (PySem.W.fnOf "_law_mixed" "_law_mixed" (defArgs s_law_mixed) (defBody s_law_mixed) (defScope s_law_mixed) .none kV_law_mixed dc_law_mixed pm_law_mixed an_law_mixed cd_law_mixed ct_law_mixed), sl_law_mixed⟩)
    (cc_law_mixed : PySem.W.codeIn K cd_law_mixed "_law_mixed" = true)
    (k_law_mixed : PySem.W.keepIn K (.ref f_law_mixed) = true)
    (a_law_rows : PySem.W.nsIn K mainGlobals "_law_rows" = some (some (.ref f_law_rows)))
    (l_law_rows : K.lookup f_law_rows = some ⟨oc_law_rows, od_law_rows, .func (PySem.W.fnOf "_law_rows" "_law_rows" (defArgs s_law_rows) (defBody s_law_rows) (defScope s_law_rows) .none kV_law_rows dc_law_rows pm_law_rows an_law_rows cd_law_rows ct_law_rows), sl_law_rows⟩)
    (cc_law_rows : PySem.W.codeIn K cd_law_rows "_law_rows" = true)
    (k_law_rows : PySem.W.keepIn K (.ref f_law_rows) = true)
    (a_law_board : PySem.W.nsIn K mainGlobals "_law_board" = some (some (.ref f_law_board)))
    (l_law_board : K.lookup f_law_board = some ⟨oc_law_board, od_law_board, .func (PySem.W.fnOf "_law_board" "_law_board" (defArgs s_law_board) (defBody s_law_board) (defScope s_law_board) .none kV_law_board dc_law_board pm_law_board an_law_board cd_law_board ct_law_board), sl_law_board⟩)
    (cc_law_board : PySem.W.codeIn K cd_law_board "_law_board" = true)
    (k_law_board : PySem.W.keepIn K (.ref f_law_board) = true)
    (a_law_made : PySem.W.nsIn K mainGlobals "_law_made" = some (some (.ref f_law_made)))
    (l_law_made : K.lookup f_law_made = some ⟨oc_law_made, od_law_made, .func (PySem.W.fnOf "_law_made" "_law_made" (defArgs s_law_made) (defBody s_law_made) (defScope s_law_made) .none kV_law_made dc_law_made pm_law_made an_law_made cd_law_made ct_law_made), sl_law_made⟩)
    (cc_law_made : PySem.W.codeIn K cd_law_made "_law_made" = true)
    (k_law_made : PySem.W.keepIn K (.ref f_law_made) = true)
    (a_law_tells : PySem.W.nsIn K mainGlobals "_law_tells" = some (some (.ref f_law_tells)))
    (l_law_tells : K.lookup f_law_tells = some ⟨oc_law_tells, od_law_tells, .func (PySem.W.fnOf "_law_tells" "_law_tells" (defArgs s_law_tells) (defBody s_law_tells) (defScope s_law_tells) .none kV_law_tells dc_law_tells pm_law_tells an_law_tells cd_law_tells ct_law_tells), sl_law_tells⟩)
    (cc_law_tells : PySem.W.codeIn K cd_law_tells "_law_tells" = true)
    (k_law_tells : PySem.W.keepIn K (.ref f_law_tells) = true)
    (a_law_unlike : PySem.W.nsIn K mainGlobals "_law_unlike" = some (some (.ref f_law_unlike)))
    (l_law_unlike : K.lookup f_law_unlike = some ⟨oc_law_unlike, od_law_unlike, .func (PySem.W.fnOf "_law_unlike" "_law_unlike" (defArgs s_law_unlike) (defBody s_law_unlike) (defScope s_law_unlike) .none kV_law_unlike dc_law_unlike pm_law_unlike an_law_unlike cd_law_unlike ct_law_unlike), sl_law_unlike⟩)
    (cc_law_unlike : PySem.W.codeIn K cd_law_unlike "_law_unlike" = true)
    (k_law_unlike : PySem.W.keepIn K (.ref f_law_unlike) = true)
    (a_law_led_on : PySem.W.nsIn K mainGlobals "_law_led_on" = some (some (.ref f_law_led_on)))
    (l_law_led_on : K.lookup f_law_led_on = some ⟨oc_law_led_on, od_law_led_on, .func (PySem.W.fnOf "_law_led_on" "_law_led_on" (defArgs s_law_led_on) (defBody s_law_led_on) (defScope s_law_led_on) .none kV_law_led_on dc_law_led_on pm_law_led_on an_law_led_on cd_law_led_on ct_law_led_on), sl_law_led_on⟩)
    (cc_law_led_on : PySem.W.codeIn K cd_law_led_on "_law_led_on" = true)
    (k_law_led_on : PySem.W.keepIn K (.ref f_law_led_on) = true)
    (a_law : PySem.W.nsIn K mainGlobals "law" = some (some (.ref f_law)))
    (l_law : K.lookup f_law = some ⟨oc_law, od_law, .func (PySem.W.fnOf "law" "law" (defArgs s_law) (defBody s_law) (defScope s_law) .none kV_law dc_law pm_law an_law cd_law ct_law), sl_law⟩)
    (cc_law : PySem.W.codeIn K cd_law "law" = true)
    (k_law : PySem.W.keepIn K (.ref f_law) = true)
    (pn_Board_turned_Board_mirrored : pl_Board_turned ≠ pl_Board_mirrored)
    (g_CopperError : PySem.W.nsIn K mainGlobals "CopperError" = some (some (.ref c_CopperError)))
    (g_NoBoard : PySem.W.nsIn K mainGlobals "NoBoard" = some (some (.ref c_NoBoard)))
    (g_NoPlace : PySem.W.nsIn K mainGlobals "NoPlace" = some (some (.ref c_NoPlace)))
    (x_NoBoard : PySem.W.excIn K c_NoBoard bmV "ValueError.__new__" = true)
    (x_NoPlace : PySem.W.excIn K c_NoPlace bmV "ValueError.__new__" = true)
    (n_isinstance : PySem.W.nsIn K mainGlobals "isinstance" = some none)
    (n_int : PySem.W.nsIn K mainGlobals "int" = some none)
    (n_bool : PySem.W.nsIn K mainGlobals "bool" = some none)
    (n_list : PySem.W.nsIn K mainGlobals "list" = some none)
    (n_tuple : PySem.W.nsIn K mainGlobals "tuple" = some none)
    (n_len : PySem.W.nsIn K mainGlobals "len" = some none)
    (n_range : PySem.W.nsIn K mainGlobals "range" = some none)
    (n_enumerate : PySem.W.nsIn K mainGlobals "enumerate" = some none)
    (n_sorted : PySem.W.nsIn K mainGlobals "sorted" = some none)
    (g_MOST_WIDE : PySem.W.nsIn K mainGlobals "MOST_WIDE" = some (some (.int 12 tk_MOST_WIDE)))
    (g_MOST_HIGH : PySem.W.nsIn K mainGlobals "MOST_HIGH" = some (some (.int 12 tk_MOST_HIGH)))
    (g_MOST_LAYERS : PySem.W.nsIn K mainGlobals "MOST_LAYERS" = some (some (.int 3 tk_MOST_LAYERS))) :
    ∃ t : Adr, Txt K mg t ∧ ∀ p ∈ [t.pl_Board_turned, t.pl_Board_mirrored], h.get? p = some (PySem.W.tabObj #[]) :=
  ⟨{ c_Board := c_Board, f_is_whole := f_is_whole, f_Board_init := f_Board_init, f_Board_cells := f_Board_cells, f_Board_holes := f_Board_holes, f_Board_turned := f_Board_turned, cd_Board_turned := cd_Board_turned, pl_Board_turned := pl_Board_turned, f_Board_mirrored := f_Board_mirrored, cd_Board_mirrored := cd_Board_mirrored, pl_Board_mirrored := pl_Board_mirrored, f_Board_put := f_Board_put, f_Board_take := f_Board_take, f_Board_drill := f_Board_drill, f_Board_plug := f_Board_plug, f_Board_same_as := f_Board_same_as, f_Board_redrawn := f_Board_redrawn, f_Board_has_layer := f_Board_has_layer, f_Board_has_square := f_Board_has_square, f_Board_has_cell := f_Board_has_cell, f_Board_need_square := f_Board_need_square, f_Board_need_cells := f_Board_need_cells, f_need_measure := f_need_measure, f_law_cell_at := f_law_cell_at, f_law_mixed := f_law_mixed, f_law_rows := f_law_rows, f_law_board := f_law_board, f_law_made := f_law_made, f_law_tells := f_law_tells, f_law_unlike := f_law_unlike, f_law_led_on := f_law_led_on, f_law := f_law, c_CopperError := c_CopperError, c_NoBoard := c_NoBoard, c_NoPlace := c_NoPlace, tk_MOST_WIDE := tk_MOST_WIDE, tk_MOST_HIGH := tk_MOST_HIGH, tk_MOST_LAYERS := tk_MOST_LAYERS }, { g_Board := PySem.W.mg_of X G g_Board, cl_Board := ⟨pg_Board, hd_Board, po_Board, sa_Board⟩, na_Board_wide := na_Board_wide, na_Board_high := na_Board_high, na_Board_layers := na_Board_layers, na_Board_copper := na_Board_copper, na_Board_drilled := na_Board_drilled, F_is_whole := ⟨_, fun_mk (st := s_is_whole) l_is_whole cc_is_whole k_is_whole, (fun_mk (st := s_is_whole) l_is_whole cc_is_whole k_is_whole).binds (ps := ["value"]) fun _ _ _ _ _ _ us hl => match us, hl with | [_], _ => rfl⟩, g_is_whole := PySem.W.mg_of X G a_is_whole, F_Board_init := ⟨_, funD_mk (st := s_Board_init) l_Board_init cc_Board_init k_Board_init, bindsD (ps := ["self", "wide", "high", "layers"]) rfl dl_Board_init rfl fun us hl => match us, hl with | [_, _, _, _], _ => ⟨_, rfl, rfl⟩⟩, K_Board := ⟨mk_Board, a_Board_init, i_Board_init, kc_Board⟩, F_Board_cells := ⟨_, funD_mk (st := s_Board_cells) l_Board_cells cc_Board_cells k_Board_cells, bindsD (ps := ["self", "z"]) rfl dl_Board_cells rfl fun us hl => match us, hl with | [_, _], _ => ⟨_, rfl, rfl⟩, bindsN (ps := ["self", "z"]) rfl dl_Board_cells rfl fun us hl => match us, hl with | [_], _ => ⟨_, rfl, rfl⟩⟩, M_Board_cells := ⟨a_Board_cells, i_Board_cells, k_Board_cells⟩, F_Board_holes := ⟨_, fun_mk (st := s_Board_holes) l_Board_holes cc_Board_holes k_Board_holes, (fun_mk (st := s_Board_holes) l_Board_holes cc_Board_holes k_Board_holes).binds (ps := ["self"]) fun _ _ _ _ _ _ us hl => match us, hl with | [_], _ => rfl⟩, M_Board_holes := ⟨a_Board_holes, i_Board_holes, k_Board_holes⟩, hd_Board_turned := ch_Board_turned, nl_Board_turned := nl_Board_turned, F_Board_turned := ⟨_, funC_mk (st := s_Board_turned) l_Board_turned cc_Board_turned k_Board_turned ch_Board_turned, (funC_mk (st := s_Board_turned) l_Board_turned cc_Board_turned k_Board_turned ch_Board_turned).binds (ps := ["self"]) fun _ _ _ _ _ _ us hl => match us, hl with | [_], _ => rfl⟩, M_Board_turned := ⟨a_Board_turned, i_Board_turned, k_Board_turned⟩, hd_Board_mirrored := ch_Board_mirrored, nl_Board_mirrored := nl_Board_mirrored, F_Board_mirrored := ⟨_, funC_mk (st := s_Board_mirrored) l_Board_mirrored cc_Board_mirrored k_Board_mirrored ch_Board_mirrored, (funC_mk (st := s_Board_mirrored) l_Board_mirrored cc_Board_mirrored k_Board_mirrored ch_Board_mirrored).binds (ps := ["self"]) fun _ _ _ _ _ _ us hl => match us, hl with | [_], _ => rfl⟩, M_Board_mirrored := ⟨a_Board_mirrored, i_Board_mirrored, k_Board_mirrored⟩, F_Board_put := ⟨_, fun_mk (st := s_Board_put) l_Board_put cc_Board_put k_Board_put, (fun_mk (st := s_Board_put) l_Board_put cc_Board_put k_Board_put).binds (ps := ["self", "cells"]) fun _ _ _ _ _ _ us hl => match us, hl with | [_, _], _ => rfl⟩, M_Board_put := ⟨a_Board_put, i_Board_put, k_Board_put⟩, F_Board_take := ⟨_, fun_mk (st := s_Board_take) l_Board_take cc_Board_take k_Board_take, (fun_mk (st := s_Board_take) l_Board_take cc_Board_take k_Board_take).binds (ps := ["self", "cells"]) fun _ _ _ _ _ _ us hl => match us, hl with | [_, _], _ => rfl⟩, M_Board_take := ⟨a_Board_take, i_Board_take, k_Board_take⟩, F_Board_drill := ⟨_, fun_mk (st := s_Board_drill) l_Board_drill cc_Board_drill k_Board_drill, (fun_mk (st := s_Board_drill) l_Board_drill cc_Board_drill k_Board_drill).binds (ps := ["self", "x", "y"]) fun _ _ _ _ _ _ us hl => match us, hl with | [_, _, _], _ => rfl⟩, M_Board_drill := ⟨a_Board_drill, i_Board_drill, k_Board_drill⟩, F_Board_plug := ⟨_, fun_mk (st := s_Board_plug) l_Board_plug cc_Board_plug k_Board_plug, (fun_mk (st := s_Board_plug) l_Board_plug cc_Board_plug k_Board_plug).binds (ps := ["self", "x", "y"]) fun _ _ _ _ _ _ us hl => match us, hl with | [_, _, _], _ => rfl⟩, M_Board_plug := ⟨a_Board_plug, i_Board_plug, k_Board_plug⟩, F_Board_same_as := ⟨_, fun_mk (st := s_Board_same_as) l_Board_same_as cc_Board_same_as k_Board_same_as, (fun_mk (st := s_Board_same_as) l_Board_same_as cc_Board_same_as k_Board_same_as).binds (ps := ["self", "other"]) fun _ _ _ _ _ _ us hl => match us, hl with | [_, _], _ => rfl⟩, M_Board_same_as := ⟨a_Board_same_as, i_Board_same_as, k_Board_same_as⟩, F_Board_redrawn := ⟨_, fun_mk (st := s_Board_redrawn) l_Board_redrawn cc_Board_redrawn k_Board_redrawn, (fun_mk (st := s_Board_redrawn) l_Board_redrawn cc_Board_redrawn k_Board_redrawn).binds (ps := ["self", "wide", "high", "place"]) fun _ _ _ _ _ _ us hl => match us, hl with | [_, _, _, _], _ => rfl⟩, M_Board_redrawn := ⟨a_Board_redrawn, i_Board_redrawn, k_Board_redrawn⟩, F_Board_has_layer := ⟨_, fun_mk (st := s_Board_has_layer) l_Board_has_layer cc_Board_has_layer k_Board_has_layer, (fun_mk (st := s_Board_has_layer) l_Board_has_layer cc_Board_has_layer k_Board_has_layer).binds (ps := ["self", "z"]) fun _ _ _ _ _ _ us hl => match us, hl with | [_, _], _ => rfl⟩, M_Board_has_layer := ⟨a_Board_has_layer, i_Board_has_layer, k_Board_has_layer⟩, F_Board_has_square := ⟨_, fun_mk (st := s_Board_has_square) l_Board_has_square cc_Board_has_square k_Board_has_square, (fun_mk (st := s_Board_has_square) l_Board_has_square cc_Board_has_square k_Board_has_square).binds (ps := ["self", "x", "y"]) fun _ _ _ _ _ _ us hl => match us, hl with | [_, _, _], _ => rfl⟩, M_Board_has_square := ⟨a_Board_has_square, i_Board_has_square, k_Board_has_square⟩, F_Board_has_cell := ⟨_, fun_mk (st := s_Board_has_cell) l_Board_has_cell cc_Board_has_cell k_Board_has_cell, (fun_mk (st := s_Board_has_cell) l_Board_has_cell cc_Board_has_cell k_Board_has_cell).binds (ps := ["self", "cell"]) fun _ _ _ _ _ _ us hl => match us, hl with | [_, _], _ => rfl⟩, M_Board_has_cell := ⟨a_Board_has_cell, i_Board_has_cell, k_Board_has_cell⟩, F_Board_need_square := ⟨_, fun_mk (st := s_Board_need_square) l_Board_need_square cc_Board_need_square k_Board_need_square, (fun_mk (st := s_Board_need_square) l_Board_need_square cc_Board_need_square k_Board_need_square).binds (ps := ["self", "x", "y"]) fun _ _ _ _ _ _ us hl => match us, hl with | [_, _, _], _ => rfl⟩, M_Board_need_square := ⟨a_Board_need_square, i_Board_need_square, k_Board_need_square⟩, F_Board_need_cells := ⟨_, fun_mk (st := s_Board_need_cells) l_Board_need_cells cc_Board_need_cells k_Board_need_cells, (fun_mk (st := s_Board_need_cells) l_Board_need_cells cc_Board_need_cells k_Board_need_cells).binds (ps := ["self", "cells"]) fun _ _ _ _ _ _ us hl => match us, hl with | [_, _], _ => rfl⟩, M_Board_need_cells := ⟨a_Board_need_cells, i_Board_need_cells, k_Board_need_cells⟩, F_need_measure := ⟨_, fun_mk (st := s_need_measure) l_need_measure cc_need_measure k_need_measure, (fun_mk (st := s_need_measure) l_need_measure cc_need_measure k_need_measure).binds (ps := ["measure", "most"]) fun _ _ _ _ _ _ us hl => match us, hl with | [_, _], _ => rfl⟩, g_need_measure := PySem.W.mg_of X G a_need_measure, F_law_cell_at := ⟨_, fun_mk (st := s_law_cell_at) l_law_cell_at cc_law_cell_at k_law_cell_at, (fun_mk (st := s_law_cell_at) l_law_cell_at cc_law_cell_at k_law_cell_at).binds (ps := ["_law_script", "_law_k"]) fun _ _ _ _ _ _ us hl => match us, hl with | [_, _], _ => rfl⟩, g__law_cell_at := PySem.W.mg_of X G a_law_cell_at, F_law_mixed := ⟨_, fun_mk (st := s_law_mixed) l_law_mixed cc_law_mixed k_law_mixed, (fun_mk (st := s_law_mixed) l_law_mixed cc_law_mixed k_law_mixed).binds (ps := ["_law_cell", "_law_k"]) fun _ _ _ _ _ _ us hl => match us, hl with | [_, _], _ => rfl⟩, g__law_mixed := PySem.W.mg_of X G a_law_mixed, F_law_rows := ⟨_, fun_mk (st := s_law_rows) l_law_rows cc_law_rows k_law_rows, (fun_mk (st := s_law_rows) l_law_rows cc_law_rows k_law_rows).binds (ps := ["_law_cell", "_law_many", "_law_wide", "_law_mixed_here"]) fun _ _ _ _ _ _ us hl => match us, hl with | [_, _, _, _], _ => rfl⟩, g__law_rows := PySem.W.mg_of X G a_law_rows, F_law_board := ⟨_, fun_mk (st := s_law_board) l_law_board cc_law_board k_law_board, (fun_mk (st := s_law_board) l_law_board cc_law_board k_law_board).binds (ps := ["_law_script"]) fun _ _ _ _ _ _ us hl => match us, hl with | [_], _ => rfl⟩, g__law_board := PySem.W.mg_of X G a_law_board, F_law_made := ⟨_, fun_mk (st := s_law_made) l_law_made cc_law_made k_law_made, (fun_mk (st := s_law_made) l_law_made cc_law_made k_law_made).binds (ps := ["_law_size", "_law_cells", "_law_holes"]) fun _ _ _ _ _ _ us hl => match us, hl with | [_, _, _], _ => rfl⟩, g__law_made := PySem.W.mg_of X G a_law_made, F_law_tells := ⟨_, fun_mk (st := s_law_tells) l_law_tells cc_law_tells k_law_tells, (fun_mk (st := s_law_tells) l_law_tells cc_law_tells k_law_tells).binds (ps := ["_law_board_here", "_law_size", "_law_cells", "_law_holes"]) fun _ _ _ _ _ _ us hl => match us, hl with | [_, _, _, _], _ => rfl⟩, g__law_tells := PySem.W.mg_of X G a_law_tells, F_law_unlike := ⟨_, fun_mk (st := s_law_unlike) l_law_unlike cc_law_unlike k_law_unlike, (fun_mk (st := s_law_unlike) l_law_unlike cc_law_unlike k_law_unlike).binds (ps := ["_law_board_here", "_law_size", "_law_cells", "_law_holes"]) fun _ _ _ _ _ _ us hl => match us, hl with | [_, _, _, _], _ => rfl⟩, g__law_unlike := PySem.W.mg_of X G a_law_unlike, F_law_led_on := ⟨_, fun_mk (st := s_law_led_on) l_law_led_on cc_law_led_on k_law_led_on, (fun_mk (st := s_law_led_on) l_law_led_on cc_law_led_on k_law_led_on).binds (ps := ["_law_board_here", "_law_size", "_law_cells", "_law_holes"]) fun _ _ _ _ _ _ us hl => match us, hl with | [_, _, _, _], _ => rfl⟩, g__law_led_on := PySem.W.mg_of X G a_law_led_on, F_law := ⟨_, fun_mk (st := s_law) l_law cc_law k_law, fun s u => .of_eq rfl⟩, g_law := PySem.W.mg_of X G a_law, pn_Board_turned_Board_mirrored := pn_Board_turned_Board_mirrored, g_CopperError := PySem.W.mg_of X G g_CopperError, g_NoBoard := PySem.W.mg_of X G g_NoBoard, g_NoPlace := PySem.W.mg_of X G g_NoPlace, e_NoBoard := ⟨PySem.W.mg_of X G g_NoBoard, x_NoBoard⟩, e_NoPlace := ⟨PySem.W.mg_of X G g_NoPlace, x_NoPlace⟩, n_isinstance := PySem.W.mg_none_of X G n_isinstance, n_int := PySem.W.mg_none_of X G n_int, n_bool := PySem.W.mg_none_of X G n_bool, n_list := PySem.W.mg_none_of X G n_list, n_tuple := PySem.W.mg_none_of X G n_tuple, n_len := PySem.W.mg_none_of X G n_len, n_range := PySem.W.mg_none_of X G n_range, n_enumerate := PySem.W.mg_none_of X G n_enumerate, n_sorted := PySem.W.mg_none_of X G n_sorted, g_MOST_WIDE := PySem.W.mg_of X G g_MOST_WIDE, g_MOST_HIGH := PySem.W.mg_of X G g_MOST_HIGH, g_MOST_LAYERS := PySem.W.mg_of X G g_MOST_LAYERS }, List.forall_mem_cons.mpr ⟨tb_Board_turned, List.forall_mem_cons.mpr ⟨tb_Board_mirrored, fun _ h => nomatch h⟩⟩⟩
def isW : V → Bool | .int _ => true | _ => false
theorem iteNB {b : Bool} {A B : Prop} (h1 : b = false → A) (h2 : b = true → B) : if (!b) = true then A else B := by
  cases b
  · exact (if_pos (show (!false) = true from rfl)) ▸ h1 rfl
  · rw [if_neg (by decide)]; exact h2 rfl
theorem iteD {c A B : Prop} [Decidable c] (h1 : c → A) (h2 : ¬ c → B) : if decide c = true then A else B := by
  by_cases h : c
  · rw [if_pos (decide_eq_true h)]; exact h1 h
  · rw [if_neg (by simp [h])]; exact h2 h
theorem same_new {p : Addr} {H H' : Hp} {o : HO} (x : Same H H') (hp : H' p = none) : Same H (L2.upd H' p o) := fun b u e => by
  have := x b u e
  rw [upd_ne (ne_of_none this hp)]; exact this
theorem lg_small {n : Int} (h0 : 0 ≤ n) (h1 : n < 1000) : Lg n := by
  have h : n.natAbs < 1000 := by omega
  exact lg_of (Nat.lt_trans h (by decide))
abbrev Tab := List (List Key × V)
def fB (w h l : Int) (c d : Addr) : List (Str × V) := [("wide", .int w), ("high", .int h), ("layers", .int l), ("copper", .ref c), ("drilled", .ref d)]
theorem fB_put (w h l : Int) (c d : Addr) : putF "drilled" (.ref d) (putF "copper" (.ref c) (putF "layers" (.int l) (putF "high" (.int h) (putF "wide" (.int w) [])))) = fB w h l c d := by kernel_rfl
def okM (m : Int) (most : Int) : Prop := 1 ≤ m ∧ m ≤ most
def okV (v : V) (most : Int) : Prop := match v with | .int m => okM m most | _ => False
def inB (x w : Int) : Bool := decide (0 ≤ x) && decide (x < w)
section
variable {P : Program} {w : World} {K : PySem.W.Frag} {mg : Str → Option Value} {base : Heap} {t : Adr}
def AnyV (H : Hp) : V → Prop | .int _ => True | .bl _ => True | .str _ => True | .non => True | .ref p => ∃ xs, H p = some (.tup xs) | _ => False
def spIsWhole : Sp := fun vs H Q _ => ∃ v, vs = [v] ∧ AnyV H v ∧ Q (.bl (isW v)) H
theorem ok_is_whole (T : Txt K mg t) : GoodF P w K mg base 1 "is_whole" ["value"] spIsWhole := by
  obtain ⟨fd, F, b⟩ := T.F_is_whole
  refine ⟨_, fd, F.okX sc_is_whole (fun vs H Q E h => ?_) (fun cdv A outer s H vs Q E hr h => ?_), b, F.kp, T.g_is_whole⟩
  · obtain ⟨v, rfl, _⟩ := h
    rfl
  · obtain ⟨v, rfl, hv, k⟩ := h
    refine ⟨_, (pss_one (ps_ret (pe_and (pe_callB call_isi (by rfl) T.n_isinstance b_isinstance (pa_cons (pv 0) (pa_cons (pe_bltn (v := .ty "int") (by rfl) T.n_int b_int rfl) pa_nil))) (pe_one (pe_not (pe_callB call_isi (by rfl) T.n_isinstance b_isinstance (pa_cons (pv 0) (pa_cons (pe_bltn (v := .ty "bool") (by rfl) T.n_bool b_bool rfl) pa_nil)))))))), ?_⟩
    cases v with
    | int i => exact ⟨_, rfl, .int i, .ty "int", _, _, true, rfl, .int i, .ty _, by kernel_rfl, true, rfl, iteT ⟨_, rfl, .int i, .ty "bool", _, _, false, rfl, .int i, .ty _, by kernel_rfl, false, rfl, k⟩⟩
    | bl x => exact ⟨_, rfl, .bl x, .ty "int", _, _, true, rfl, .bl x, .ty _, by kernel_rfl, true, rfl, iteT ⟨_, rfl, .bl x, .ty "bool", _, _, true, rfl, .bl x, .ty _, by kernel_rfl, true, rfl, k⟩⟩
    | str x => exact ⟨_, rfl, .str x, .ty "int", _, _, false, rfl, .str x, .ty _, by kernel_rfl, false, rfl, iteF k⟩
    | non => exact ⟨_, rfl, .non, .ty "int", _, _, false, rfl, .non, .ty _, by kernel_rfl, false, rfl, iteF k⟩
    | ref p =>
      obtain ⟨xs, e⟩ := hv
      exact ⟨_, rfl, .ref p, .ty "int", _, _, false, rfl, .tup e, .ty _, by kernel_rfl, false, rfl, iteF k⟩
    | _ => cases hv
def spCell (K : PySem.W.Frag) : Sp := fun vs H Q _ => ∃ (a : Addr) (ns : List Int) (k : Int), vs = [.ref a, .int k] ∧ SqL K H a (ns.map V.int) ∧ 0 ≤ k ∧ k < 1000 ∧ ns.length ≤ 63 ∧ Q (.int (ns.getD k.toNat 0)) H
theorem ok_law_cell_at (T : Txt K mg t) : GoodF P w K mg base 1 "_law_cell_at" ["_law_script", "_law_k"] (spCell K) := by
  obtain ⟨fd, F, b⟩ := T.F_law_cell_at
  refine ⟨_, fd, F.okX sc_law_cell_at (fun vs H Q E h => ?_) (fun cdv A outer s H vs Q E hr h => ?_), b, F.kp, T.g__law_cell_at⟩
  · obtain ⟨a, ns, k, rfl, _⟩ := h
    rfl
  · obtain ⟨a, ns, k, rfl, hq, h0, h1, hl, q⟩ := h
    refine ⟨_, (pss_cons (ps_if (pt_cmpR op_lt (pv 1) (pe_callB call_len_seq (by rfl) T.n_len b_len (pa_cons (pv 0) pa_nil)) (nomark _)) (pss_one (ps_ret (pe_ix ix_list (pv 0) (pv 1) (fun _ _ => rfl)))) pss_nil)
      (pss_one (ps_ret pe_int))), ?_⟩
    refine ⟨_, rfl, _, rfl, a, _, rfl, .inl hq, k, _, rfl, rfl, _, rfl, iteD (fun hlt => ?_) fun hge => ?_⟩
    · rw [List.length_map] at hlt
      have e : ((k.toNat : Nat) : Int) = k := by omega
      refine ⟨_, rfl, _, rfl, a, _, k, .int (ns.getD k.toNat 0), rfl, rfl, hq, ?_, q⟩
      have hlt2 : k.toNat < ns.length := by omega
      have hz : (ns.map V.int)[k.toNat]? = some (V.int (ns.getD k.toNat 0)) := by
        rw [List.getElem?_map, List.getD_eq_getElem?_getD, List.getElem?_eq_getElem hlt2]; rfl
      have hz2 := atI_nat hz
      rwa [e] at hz2
    · rw [List.length_map] at hge
      have e : ns.getD k.toNat 0 = 0 := by rw [List.getD_eq_getElem?_getD, List.getElem?_eq_none (by omega)]; rfl
      rw [e] at q
      exact q
def spNeedMeasure (C : Addr) : Sp := fun vs H Q E => ∃ (v : V) (most : Int), vs = [v, .int most] ∧ AnyV H v ∧ (okV v most → Q .non H) ∧ (¬ okV v most → E (.ref C) none H)
theorem ok_need_measure (T : Txt K mg t) : GoodF P w K mg base 2 "need_measure" ["measure", "most"] (spNeedMeasure t.c_NoBoard) := by
  obtain ⟨fd, F, b⟩ := T.F_need_measure
  have G_is_whole := ok_is_whole (P := P) (w := w) (base := base) T
  refine ⟨_, fd, F.okX sc_need_measure (fun vs H Q E h => ?_) (fun cdv A outer s H vs Q E hr h => ?_), b, F.kp, T.g_need_measure⟩
  · obtain ⟨v, most, rfl, _⟩ := h
    rfl
  · obtain ⟨v, most, rfl, hv, q, e⟩ := h
    refine ⟨_, (pss_one (ps_if (pw_or (pt_not (pt_val (pe_callG G_is_whole (hr.mono (by decide)) passes_of (by rfl) (pa_cons (pv 0) pa_nil)))) (pw_or1 (pt_not (pt_chain op_le op_le pe_int (pv 0) (pv 1))))).pt (pss_one (ps_raise throws_of rfl T.e_NoBoard rfl (pa_cons (pe_fstr7 (by decide) (by decide) (by decide) (by decide) (pe_glob (v := .int 12) (by rfl) T.g_MOST_WIDE ⟨_, rfl⟩) (pe_glob (v := .int 12) (by rfl) T.g_MOST_HIGH ⟨_, rfl⟩) (pe_glob (v := .int 3) (by rfl) T.g_MOST_LAYERS ⟨_, rfl⟩)) pa_nil))) pss_nil)), ?_⟩
    have l12 : Fmt (.int 12) := .inl ⟨12, rfl, lg_small (by decide) (by decide)⟩
    have l3 : Fmt (.int 3) := .inl ⟨3, rfl, lg_small (by decide) (by decide)⟩
    have bad : ¬ okV v most → (Fmt (.int 12) ∧ Fmt (.int 12) ∧ Fmt (.int 3) ∧ ∀ z : Str, 1 ≤ sizeLine ∧ E (.ref t.c_NoBoard) none H) := fun n => ⟨l12, l12, l3, fun z => ⟨by decide, e n⟩⟩
    refine ⟨_, rfl, v, rfl, hv, isW v, rfl, iteNB (fun hf => bad fun z => ?_) fun ht => ?_⟩
    · cases v <;> first | exact z | cases hf
    · cases v with
      | int m =>
        refine ⟨_, rfl, 1, m, rfl, rfl, _, rfl, iteD (fun h1 => ⟨_, rfl, m, most, rfl, rfl, _, rfl, iteNB (fun h2 => bad fun z => of_decide_eq_false h2 z.2) fun h2 => q ⟨h1, of_decide_eq_true h2⟩⟩) fun h1 => ⟨_, rfl, iteT (bad fun z => h1 z.1)⟩⟩
      | _ => cases ht
def spBoard (C NB : Addr) : Sp := fun vs H Q E => ∃ (o dx : Addr) (m1 m2 m3 : V), vs = [.ref o, m1, m2, m3] ∧ H o = some (.ins C dx []) ∧ AnyV H m1 ∧ AnyV H m2 ∧ AnyV H m3 ∧
  (∀ w h l : Int, m1 = .int w → m2 = .int h → m3 = .int l → okM w 12 → okM h 12 → okM l 3 → ∀ c d H', (∀ b u, b ≠ o → H b = some u → H' b = some u) → H' o = some (.ins C dx (fB w h l c d)) → H' c = some (.dT []) → H' d = some (.dT []) → H c = none → H d = none → c ≠ d → c ≠ o → d ≠ o → Q .non H') ∧ (¬ (okV m1 12 ∧ okV m2 12 ∧ okV m3 3) → E (.ref NB) none H)
theorem ok_Board_init (T : Txt K mg t) : GoodC P w K mg base 3 "Board" t.c_Board ["self", "wide", "high", "layers"] (spBoard t.c_Board t.c_NoBoard) := by
  obtain ⟨fd, F, b⟩ := T.F_Board_init
  have G_need_measure := ok_need_measure (P := P) (w := w) (base := base) T
  refine ⟨_, fd, T.K_Board, F.okX sc_Board_init (fun vs H Q E h => ?_) (fun cdv A outer s H vs Q E hr h => ?_), b, T.g_Board⟩
  · obtain ⟨o, dx, m1, m2, m3, rfl, _⟩ := h
    rfl
  · obtain ⟨o, dx, m1, m2, m3, rfl, ho, a1, a2, a3, kQ, kE⟩ := h
    refine ⟨_, (pss_cons (ps_expr (pe_callG G_need_measure (hr.mono (by decide)) passes_of (by rfl) (pa_cons (pv 1) (pa_cons (pe_glob (v := .int 12) (by rfl) T.g_MOST_WIDE ⟨_, rfl⟩) pa_nil))))
      (pss_cons (ps_expr (pe_callG G_need_measure (hr.mono (by decide)) passes_of (by rfl) (pa_cons (pv 2) (pa_cons (pe_glob (v := .int 12) (by rfl) T.g_MOST_HIGH ⟨_, rfl⟩) pa_nil))))
      (pss_cons (ps_expr (pe_callG G_need_measure (hr.mono (by decide)) passes_of (by rfl) (pa_cons (pv 3) (pa_cons (pe_glob (v := .int 3) (by rfl) T.g_MOST_LAYERS ⟨_, rfl⟩) pa_nil))))
      (pss_cons (ps_fld (pv 0) (pv 1) rfl)
      (pss_cons (ps_fld (pv 0) (pv 2) rfl)
      (pss_cons (ps_fld (pv 0) (pv 3) rfl)
      (pss_cons (ps_fld (pv 0) pe_dnewT rfl)
      (pss_one (ps_fld (pv 0) pe_dnewT rfl))))))))), ?_⟩
    refine ⟨_, rfl, m1, 12, rfl, a1, fun g1 => ?_, fun n => kE fun z => n z.1⟩
    refine ⟨_, rfl, m2, 12, rfl, a2, fun g2 => ?_, fun n => kE fun z => n z.2.1⟩
    refine ⟨_, rfl, m3, 3, rfl, a3, fun g3 => ?_, fun n => kE fun z => n z.2.2⟩
    obtain ⟨w1, rfl⟩ : ∃ n, m1 = .int n := by cases m1 <;> first | exact ⟨_, rfl⟩ | cases g1
    obtain ⟨w2, rfl⟩ : ∃ n, m2 = .int n := by cases m2 <;> first | exact ⟨_, rfl⟩ | cases g2
    obtain ⟨w3, rfl⟩ : ∃ n, m3 = .int n := by cases m3 <;> first | exact ⟨_, rfl⟩ | cases g3
    refine ⟨_, rfl, _, rfl, o, _, dx, _, rfl, ho, T.cl_Board, T.na_Board_wide, (by decide), ?_⟩
    refine ⟨_, rfl, _, rfl, o, _, dx, _, rfl, upd_same, T.cl_Board, T.na_Board_high, Nat.le_of_ble_eq_true (by kernel_rfl), ?_⟩
    refine ⟨_, rfl, _, rfl, o, _, dx, _, rfl, upd_same, T.cl_Board, T.na_Board_layers, Nat.le_of_ble_eq_true (by kernel_rfl), ?_⟩
    intro c hc
    have nco : c ≠ o := fun z => by rw [z, upd_same] at hc; cases hc
    have Hc : H c = none := by rw [upd_ne nco, upd_ne nco, upd_ne nco] at hc; exact hc
    refine ⟨_, rfl, o, _, dx, _, rfl, by rw [upd_ne (Ne.symm nco)]; exact upd_same, T.cl_Board, T.na_Board_copper, Nat.le_of_ble_eq_true (by kernel_rfl), ?_⟩
    intro d hd
    have ndo : d ≠ o := fun z => by rw [z, upd_same] at hd; cases hd
    have ndc : d ≠ c := fun z => by rw [z, upd_ne nco, upd_same] at hd; cases hd
    have Hd : H d = none := by rw [upd_ne ndo, upd_ne ndc, upd_ne ndo, upd_ne ndo, upd_ne ndo] at hd; exact hd
    refine ⟨_, rfl, o, _, dx, _, rfl, by rw [upd_ne (Ne.symm ndo)]; exact upd_same, T.cl_Board, T.na_Board_drilled, Nat.le_of_ble_eq_true (by kernel_rfl), ?_⟩
    refine kQ w1 w2 w3 rfl rfl rfl g1 g2 g3 c d _ (fun b u hb e => ?_) ?_ ?_ ?_ Hc Hd (Ne.symm ndc) nco ndo
    · rw [upd_ne hb, upd_ne (ne_of_none e Hd), upd_ne hb, upd_ne (ne_of_none e Hc), upd_ne hb, upd_ne hb, upd_ne hb]; exact e
    · rw [upd_same, fB_put]
    · rw [upd_ne nco, upd_ne (Ne.symm ndc), upd_ne nco]; exact upd_same
    · rw [upd_ne ndo]; exact upd_same
end
end K13
namespace K13
open PySem L2 Wd TS
section
variable {P : Program} {w : World} {K : PySem.W.Frag} {mg : Str → Option Value} {base : Heap} {t : Adr}
def spHasSquare (C : Addr) : Sp := fun vs H Q _ => ∃ (o dx c d : Addr) (w h l x y : Int), vs = [.ref o, .int x, .int y] ∧ H o = some (.ins C dx (fB w h l c d)) ∧ Q (.bl (inB x w && inB y h)) H
theorem ok_Board_has_square (T : Txt K mg t) : GoodM P w K mg base 2 t.c_Board "has_square" ["self", "x", "y"] (spHasSquare t.c_Board) := by
  obtain ⟨fd, F, b⟩ := T.F_Board_has_square
  have G_is_whole := ok_is_whole (P := P) (w := w) (base := base) T
  refine ⟨T.cl_Board, _, fd, T.M_Board_has_square, F.okX sc_Board_has_square (fun vs H Q E h => ?_) (fun cdv A outer s H vs Q E hr h => ?_), b⟩
  · obtain ⟨o, dx, c, d, w, h, l, x, y, rfl, _⟩ := h
    rfl
  · obtain ⟨o, dx, c, d, w, h, l, x, y, rfl, ho, q⟩ := h
    refine ⟨_, (pss_one (ps_ret (pe_and (pe_callG G_is_whole (hr.mono (by decide)) passes_of (by rfl) (pa_cons (pv 1) pa_nil)) (pe_and (pe_callG G_is_whole (hr.mono (by decide)) passes_of (by rfl) (pa_cons (pv 2) pa_nil)) (pe_and (pe_chain op_le op_lt pe_int (pv 1) (pe_fld (pv 0) rfl)) (pe_one (pe_chain op_le op_lt pe_int (pv 2) (pe_fld (pv 0) rfl)))))))), ?_⟩
    refine ⟨_, rfl, .int x, rfl, trivial, true, rfl, iteT ⟨_, rfl, .int y, rfl, trivial, true, rfl, iteT ?_⟩⟩
    have fin : ∀ b : Bool, (inB x w && inB y h) = b → Q (.bl b) H := fun b e => e ▸ q
    refine ⟨_, rfl, 0, x, rfl, rfl, _, rfl, iteD (fun h1 => ⟨_, rfl, o, _, dx, _, .int w, rfl, ho, T.cl_Board, T.na_Board_wide, rfl, x, w, rfl, rfl, _, rfl, iteD (fun h2 => ?_) fun h2 => fin _ (by simp [inB, h2])⟩) fun h1 => ⟨_, rfl, iteF (fin _ (by simp [inB, h1]))⟩⟩
    refine ⟨_, rfl, 0, y, rfl, rfl, _, rfl, iteD (fun h3 => ⟨_, rfl, o, _, dx, _, .int h, rfl, ho, T.cl_Board, T.na_Board_high, rfl, y, h, rfl, rfl, fin _ (by simp [inB, h1, h2, h3])⟩) fun h3 => fin _ (by simp [inB, h3])⟩
def spHasLayer (C : Addr) : Sp := fun vs H Q _ => ∃ (o dx c d : Addr) (w h l z : Int), vs = [.ref o, .int z] ∧ H o = some (.ins C dx (fB w h l c d)) ∧ Q (.bl (inB z l)) H
theorem ok_Board_has_layer (T : Txt K mg t) : GoodM P w K mg base 2 t.c_Board "has_layer" ["self", "z"] (spHasLayer t.c_Board) := by
  obtain ⟨fd, F, b⟩ := T.F_Board_has_layer
  have G_is_whole := ok_is_whole (P := P) (w := w) (base := base) T
  refine ⟨T.cl_Board, _, fd, T.M_Board_has_layer, F.okX sc_Board_has_layer (fun vs H Q E h => ?_) (fun cdv A outer s H vs Q E hr h => ?_), b⟩
  · obtain ⟨o, dx, c, d, w, h, l, z, rfl, _⟩ := h
    rfl
  · obtain ⟨o, dx, c, d, w, h, l, z, rfl, ho, q⟩ := h
    refine ⟨_, (pss_one (ps_ret (pe_and (pe_callG G_is_whole (hr.mono (by decide)) passes_of (by rfl) (pa_cons (pv 1) pa_nil)) (pe_one (pe_chain op_le op_lt pe_int (pv 1) (pe_fld (pv 0) rfl)))))), ?_⟩
    have fin : ∀ b : Bool, inB z l = b → Q (.bl b) H := fun b e => e ▸ q
    refine ⟨_, rfl, .int z, rfl, trivial, true, rfl, iteT ?_⟩
    refine ⟨_, rfl, 0, z, rfl, rfl, _, rfl, iteD (fun h1 => ⟨_, rfl, o, _, dx, _, .int l, rfl, ho, T.cl_Board, T.na_Board_layers, rfl, z, l, rfl, rfl, fin _ (by simp [inB, h1])⟩) fun h1 => fin _ (by simp [inB, h1])⟩
def spHasCell (C : Addr) : Sp := fun vs H Q _ => ∃ (o dx c d p : Addr) (w h l x y z : Int), vs = [.ref o, .ref p] ∧ H o = some (.ins C dx (fB w h l c d)) ∧ H p = some (.tup [.int x, .int y, .int z]) ∧ Q (.bl (inB x w && inB y h && inB z l)) H
theorem ok_Board_has_cell (T : Txt K mg t) : GoodM P w K mg base 3 t.c_Board "has_cell" ["self", "cell"] (spHasCell t.c_Board) := by
  obtain ⟨fd, F, b⟩ := T.F_Board_has_cell
  have G_Board_has_square := ok_Board_has_square (P := P) (w := w) (base := base) T
  have G_Board_has_layer := ok_Board_has_layer (P := P) (w := w) (base := base) T
  refine ⟨T.cl_Board, _, fd, T.M_Board_has_cell, F.okX sc_Board_has_cell (fun vs H Q E h => ?_) (fun cdv A outer s H vs Q E hr h => ?_), b⟩
  · obtain ⟨o, dx, c, d, p, w, h, l, x, y, z, rfl, _⟩ := h
    rfl
  · obtain ⟨o, dx, c, d, p, w, h, l, x, y, z, rfl, ho, hp, q⟩ := h
    refine ⟨_, (pss_cons (ps_if (pw_or (pt_not (pt_val (pe_callB call_isi (by rfl) T.n_isinstance b_isinstance (pa_cons (pv 1) (pa_cons (pe_bltn (v := .ty "tuple") (by rfl) T.n_tuple b_tuple rfl) pa_nil))))) (pw_or1 (pt_cmpR op_ne (pe_callB call_len_seq (by rfl) T.n_len b_len (pa_cons (pv 1) pa_nil)) pe_int (nomark _)))).pt (pss_one (ps_ret pe_bl)) pss_nil)
      (pss_one (ps_ret (pe_and (pe_methG (pv 0) G_Board_has_square (hr.mono (by decide)) passes_of (pa_cons (pe_ix ix_tup (pv 1) pe_int (fun _ _ => rfl)) (pa_cons (pe_ix ix_tup (pv 1) pe_int (fun _ _ => rfl)) pa_nil))) (pe_one (pe_methG (pv 0) G_Board_has_layer (hr.mono (by decide)) passes_of (pa_cons (pe_ix ix_tup (pv 1) pe_int (fun _ _ => rfl)) pa_nil))))))), ?_⟩
    have S : SqT K H p [.int x, .int y, .int z] := SqT.of hp
    refine ⟨_, rfl, .ref p, .ty "tuple", _, _, true, rfl, .tup hp, .ty _, by kernel_rfl, true, rfl, iteF ?_⟩
    refine ⟨_, rfl, p, _, rfl, .inr S, rfl, _, rfl, iteNB (fun z => absurd (of_decide_eq_false z rfl) (fun z => z)) fun _ => ?_⟩
    have fin : ∀ b : Bool, (inB x w && inB y h && inB z l) = b → Q (.bl b) H := fun b e => e ▸ q
    refine ⟨_, rfl, o, dx, _, rfl, ho, rfl, _, rfl, p, _, 0, .int x, rfl, rfl, S, rfl, _, rfl, p, _, 1, .int y, rfl, rfl, S, rfl, o, dx, c, d, w, h, l, x, y, rfl, ho, _, rfl, ?_⟩
    cases h1 : (inB x w && inB y h) with
    | false => exact iteF (fin _ (by rw [h1]; rfl))
    | true => exact iteT ⟨_, rfl, o, dx, _, rfl, ho, rfl, _, rfl, p, _, 2, .int z, rfl, rfl, S, rfl, o, dx, c, d, w, h, l, z, rfl, ho, fin _ (by rw [h1]; rfl)⟩
end
end K13
namespace K13
open PySem L2 Wd
theorem b_sorted : bootBuiltins "sorted" = some (.builtin "sorted") := by decide +kernel
def Cells (H : Hp) (ps : List Addr) (cl : List (Int × Int × Int)) : Prop := ps.length = cl.length ∧ ∀ (i : Nat) (p : Addr) (c : Int × Int × Int), ps[i]? = some p → cl[i]? = some c → H p = some (.tup [.int c.1, .int c.2.1, .int c.2.2])
def k3 (c : Int × Int × Int) : List Key := [.inl c.1, .inl c.2.1, .inl c.2.2]
def putAll (cs : Tab) (cl : List (Int × Int × Int)) : Tab := cl.foldl (fun t c => putK t (k3 c) (.bl true)) cs
theorem putAll_len (cl : List (Int × Int × Int)) : ∀ cs : Tab, (putAll cs cl).length ≤ cs.length + cl.length := by
  induction cl with
  | nil => intro cs; exact Nat.le_refl _
  | cons c r ih =>
    intro cs
    have h1 := ih (putK cs (k3 c) (.bl true))
    have h2 := length_putK cs (k3 c) (.bl true)
    show (putAll (putK cs (k3 c) (.bl true)) r).length ≤ _
    rw [List.length_cons]; omega
theorem putAll_snoc (cs : Tab) (cl : List (Int × Int × Int)) (c : Int × Int × Int) : putAll cs (cl ++ [c]) = putK (putAll cs cl) (k3 c) (.bl true) := by
  unfold putAll; rw [List.foldl_append]; rfl
def onB (w h l : Int) (c : Int × Int × Int) : Bool := inB c.1 w && inB c.2.1 h && inB c.2.2 l
section
variable {P : Program} {w : World} {K : PySem.W.Frag} {mg : Str → Option Value} {base : Heap} {t : Adr}
def spNeedSquare (C NP : Addr) : Sp := fun vs H Q E => ∃ (o dx c d : Addr) (w h l x y : Int), vs = [.ref o, .int x, .int y] ∧ H o = some (.ins C dx (fB w h l c d)) ∧ ((inB x w && inB y h) = true → Q .non H) ∧ ((inB x w && inB y h) = false → E (.ref NP) none H)
theorem ok_Board_need_square (T : Txt K mg t) : GoodM P w K mg base 3 t.c_Board "need_square" ["self", "x", "y"] (spNeedSquare t.c_Board t.c_NoPlace) := by
  obtain ⟨fd, F, b⟩ := T.F_Board_need_square
  have G_Board_has_square := ok_Board_has_square (P := P) (w := w) (base := base) T
  refine ⟨T.cl_Board, _, fd, T.M_Board_need_square, F.okX sc_Board_need_square (fun vs H Q E h => ?_) (fun cdv A outer s H vs Q E hr h => ?_), b⟩
  · obtain ⟨o, dx, c, d, w, h, l, x, y, rfl, _⟩ := h
    rfl
  · obtain ⟨o, dx, c, d, w, h, l, x, y, rfl, ho, q, e⟩ := h
    refine ⟨_, (pss_one (ps_if (pt_not (pt_val (pe_methG (pv 0) G_Board_has_square (hr.mono (by decide)) passes_of (pa_cons (pv 1) (pa_cons (pv 2) pa_nil))))) (pss_one (ps_raise throws_of rfl T.e_NoPlace rfl (pa_cons pe_str pa_nil))) pss_nil)), ?_⟩
    exact ⟨_, rfl, o, dx, _, rfl, ho, rfl, _, rfl, _, rfl, o, dx, c, d, w, h, l, x, y, rfl, ho, _, rfl, iteNB (fun hf => ⟨by show 1 ≤ sizeLine; decide, e hf⟩) fun ht => q ht⟩
def spNeedAll (C NP : Addr) : Sp := fun vs H Q E => ∃ (o dx c d a : Addr) (ps : List Addr) (cl : List (Int × Int × Int)) (w h l : Int), vs = [.ref o, .ref a] ∧ H o = some (.ins C dx (fB w h l c d)) ∧ H a = some (.lst (ps.map V.ref)) ∧ Cells H ps cl ∧ (cl.all (onB w h l) = true → Q .non H) ∧ (cl.all (onB w h l) = false → E (.ref NP) none H)
theorem ok_Board_need_cells (T : Txt K mg t) : GoodM P w K mg base 4 t.c_Board "need_cells" ["self", "cells"] (spNeedAll t.c_Board t.c_NoPlace) := by
  obtain ⟨fd, F, b⟩ := T.F_Board_need_cells
  have G_Board_has_cell := ok_Board_has_cell (P := P) (w := w) (base := base) T
  refine ⟨T.cl_Board, _, fd, T.M_Board_need_cells, F.okX sc_Board_need_cells (fun vs H Q E h => ?_) (fun cdv A outer s H vs Q E hr h => ?_), b⟩
  · obtain ⟨o, dx, c, d, a, ps, cl, w, h, l, rfl, _⟩ := h
    rfl
  · obtain ⟨o, dx, c, d, a, ps, cl, w, h, l, rfl, ho, ha, hp, q, e⟩ := h
    refine ⟨_, (pss_one (ps_for owns_of (pi_list (pv 1)) (pg_name (i := 2) sc_Board_need_cells.nd rfl (Or.inl rfl)) (pss_one (ps_if (pt_not (pt_val (pe_methG (pv 0) G_Board_has_cell (hr.mono (by decide)) passes_of (pa_cons (pv 2) pa_nil)))) (pss_one (ps_raise throws_of rfl T.e_NoPlace rfl (pa_cons pe_str pa_nil))) pss_nil)))), ?_⟩
    refine ⟨_, rfl, a, rfl, ⟨_, SqL.of ha⟩, for_list (xs := ps.map V.ref) (fun i σ H2 => (∃ v, σ = [some (.ref o), some (.ref a), v]) ∧ H = H2 ∧ (cl.take i).all (onB w h l) = true) ⟨⟨_, rfl⟩, rfl, by simp⟩ (fun i σ H2 _ ⟨_, e, _⟩ => e ▸ SqL.of ha) ?_ ?_⟩
    · rintro i v σ H2 hx ⟨⟨u, rfl⟩, rfl, hall⟩
      rw [List.getElem?_map] at hx
      obtain ⟨p, e1, rfl⟩ := Option.map_eq_some_iff.mp hx
      have hi : i < cl.length := by rw [← hp.1]; exact (List.getElem?_eq_some_iff.mp e1).1
      have e2 := List.getElem?_eq_getElem hi
      refine ⟨_, rfl, o, dx, _, rfl, ho, rfl, _, rfl, o, dx, c, d, p, w, h, l, cl[i].1, cl[i].2.1, cl[i].2.2, rfl, ho, hp.2 i p _ e1 e2, _, rfl, iteNB (fun hf => ⟨by show 1 ≤ sizeLine; decide, e ?_⟩) fun ht => ⟨⟨_, rfl⟩, rfl, ?_⟩⟩
      · exact Bool.eq_false_iff.mpr fun z => by
          have := List.all_eq_true.mp z _ (List.getElem_mem hi)
          unfold onB at this; rw [this] at hf; cases hf
      · rw [List.take_add_one, e2, List.all_append, hall]
        simpa [onB] using ht
    · rintro σ H2 ⟨⟨u, rfl⟩, rfl, hall⟩
      rw [List.length_map, hp.1, List.take_length] at hall
      exact q hall
def spPuts (C NP : Addr) : Sp := fun vs H Q E => ∃ (o dx c d a : Addr) (ps : List Addr) (cl : List (Int × Int × Int)) (w h l : Int) (cs : Tab), vs = [.ref o, .ref a] ∧ H o = some (.ins C dx (fB w h l c d)) ∧ H a = some (.lst (ps.map V.ref)) ∧ Cells H ps cl ∧ H c = some (.dT cs) ∧ cs.length + cl.length ≤ 1000 ∧
  (cl.all (onB w h l) = true → Q .non (upd H c (.dT (putAll cs cl)))) ∧ (cl.all (onB w h l) = false → E (.ref NP) none H)
theorem ok_Board_put (T : Txt K mg t) : GoodM P w K mg base 5 t.c_Board "put" ["self", "cells"] (spPuts t.c_Board t.c_NoPlace) := by
  obtain ⟨fd, F, b⟩ := T.F_Board_put
  have G_Board_need_cells := ok_Board_need_cells (P := P) (w := w) (base := base) T
  refine ⟨T.cl_Board, _, fd, T.M_Board_put, F.okX sc_Board_put (fun vs H Q E h => ?_) (fun cdv A outer s H vs Q E hr h => ?_), b⟩
  · obtain ⟨o, dx, c, d, a, ps, cl, w, h, l, cs, rfl, _⟩ := h
    rfl
  · obtain ⟨o, dx, c, d, a, ps, cl, w, h, l, cs, rfl, ho, ha, hp, hc, hl, q, e⟩ := h
    refine ⟨_, (pss_cons (ps_expr (pe_methG (pv 0) G_Board_need_cells (hr.mono (by decide)) passes_of (pa_cons (pv 1) pa_nil)))
      (pss_one (ps_for owns_of (pi_list (pv 1)) (pg_name (i := 2) sc_Board_put.nd rfl (Or.inl rfl)) (pss_one (ps_dput (hu_of hr) (pe_fld (pv 0) rfl) (pv 2) pe_bl rfl))))), ?_⟩
    refine ⟨_, rfl, o, dx, _, rfl, ho, rfl, _, rfl, o, dx, c, d, a, ps, cl, w, h, l, rfl, ho, ha, hp, fun hb => ?_, e⟩
    have nac : a ≠ c := ne_of ha hc (by intro z; cases z)
    have noc : o ≠ c := ne_of ho hc (by intro z; cases z)
    refine ⟨_, rfl, a, rfl, ⟨_, SqL.of ha⟩, for_list (xs := ps.map V.ref) (fun i σ H2 => ∃ v, σ = [some (.ref o), some (.ref a), v] ∧ H2 = upd H c (.dT (putAll cs (cl.take i)))) ⟨_, rfl, ?_⟩ (fun i σ H2 _ ⟨_, _, e⟩ => ?_) ?_ ?_⟩
    · funext x
      by_cases e : x = c
      · rw [e, upd_same, hc]; rfl
      · rw [upd_ne e]
    · subst e
      exact SqL.of (by rw [upd_ne nac]; exact ha)
    · rintro i v σ H2 hx ⟨u, rfl, rfl⟩
      rw [List.getElem?_map] at hx
      obtain ⟨p, e1, rfl⟩ := Option.map_eq_some_iff.mp hx
      have hi : i < cl.length := by rw [← hp.1]; exact (List.getElem?_eq_some_iff.mp e1).1
      have e2 := List.getElem?_eq_getElem hi
      have e3 := hp.2 i p _ e1 e2
      have npc : p ≠ c := ne_of e3 hc (by intro z; cases z)
      have hlen := putAll_len (cl.take i) cs
      rw [List.length_take] at hlen
      refine ⟨_, rfl, o, _, dx, _, .ref c, rfl, by rw [upd_ne noc]; exact ho, T.cl_Board, T.na_Board_copper, rfl, _, rfl, c, _, rfl, DPut.t (kvs := putAll cs (cl.take i)) (k := k3 cl[i]) upd_same (by rw [upd_ne npc]; exact e3) (Nat.lt_of_le_of_lt (show _ ≤ 1000 by omega) (by decide)), _, rfl, ?_⟩
      funext x
      rw [List.take_succ, e2, show (some cl[i]).toList = [cl[i]] from rfl, putAll_snoc]
      by_cases e : x = c
      · rw [e, upd_same, upd_same]
      · rw [upd_ne e, upd_ne e, upd_ne e]
    · rintro σ H2 ⟨u, rfl, rfl⟩
      rw [List.length_map, hp.1, List.take_of_length_le (Nat.le_refl _)]
      exact q hb
def spTake (C : Addr) : Sp := fun vs H Q _ => ∃ (o dx c d a p : Addr) (w h l x y z : Int) (cs : Tab), vs = [.ref o, .ref a] ∧ H o = some (.ins C dx (fB w h l c d)) ∧ H a = some (.lst [.ref p]) ∧ H p = some (.tup [.int x, .int y, .int z]) ∧ (inB x w && inB y h && inB z l) = true ∧ H c = some (.dT cs) ∧
  Q .non (upd H c (.dT (dropK cs [.inl x, .inl y, .inl z])))
theorem ok_Board_take (T : Txt K mg t) : GoodM P w K mg base 5 t.c_Board "take" ["self", "cells"] (spTake t.c_Board) := by
  obtain ⟨fd, F, b⟩ := T.F_Board_take
  have G_Board_need_cells := ok_Board_need_cells (P := P) (w := w) (base := base) T
  refine ⟨T.cl_Board, _, fd, T.M_Board_take, F.okX sc_Board_take (fun vs H Q E h => ?_) (fun cdv A outer s H vs Q E hr h => ?_), b⟩
  · obtain ⟨o, dx, c, d, a, p, w, h, l, x, y, z, cs, rfl, _⟩ := h
    rfl
  · obtain ⟨o, dx, c, d, a, p, w, h, l, x, y, z, cs, rfl, ho, ha, hp, hb, hc, q⟩ := h
    refine ⟨_, (pss_cons (ps_expr (pe_methG (pv 0) G_Board_need_cells (hr.mono (by decide)) passes_of (pa_cons (pv 1) pa_nil)))
      (pss_one (ps_for owns_of (pi_list (pv 1)) (pg_name (i := 2) sc_Board_take.nd rfl (Or.inl rfl)) (pss_one (ps_expr (pe_bm PySem.F.plainAttrs_dict PySem.F.slot_dict_pop PySem.F.type_dict_pop (mt_popT hr.units) (pe_fld (pv 0) rfl) (pa_cons (pv 2) (pa_cons pe_non pa_nil)))))))), ?_⟩
    have C1 : Cells H [p] [(x, y, z)] := ⟨rfl, fun i q c h1 h2 => by
      cases i with
      | zero => cases h1; cases h2; exact hp
      | succ j => cases h1⟩
    have hb1 : ([(x, y, z)] : List (Int × Int × Int)).all (onB w h l) = true := by simp only [List.all_cons, List.all_nil, Bool.and_true]; exact hb
    refine ⟨_, rfl, o, dx, _, rfl, ho, rfl, _, rfl, o, dx, c, d, a, [p], [(x, y, z)], w, h, l, rfl, ho, ha, C1, fun _ => ?_, fun z => absurd hb1 (by rw [z]; decide)⟩
    have nac : a ≠ c := ne_of ha hc (by intro z; cases z)
    have e1 : ∀ u, upd H c u a = some (.lst [.ref p]) := fun u => by rw [upd_ne nac]; exact ha
    refine ⟨_, rfl, a, rfl, ⟨_, SqL.of ha⟩, for_list (xs := [.ref p]) (fun i σ H2 => ∃ v, σ = [some (.ref o), some (.ref a), v] ∧ ((i = 0 ∧ H2 = H) ∨ (i = 1 ∧ H2 = upd H c (.dT (dropK cs [.inl x, .inl y, .inl z]))))) ⟨_, rfl, .inl ⟨rfl, rfl⟩⟩ (fun i σ H2 _ ⟨_, _, e⟩ => ?_) ?_ ?_⟩
    · rcases e with ⟨_, rfl⟩ | ⟨_, rfl⟩
      · exact SqL.of ha
      · exact SqL.of (e1 _)
    · rintro i v σ H2 hx ⟨u, rfl, e⟩
      have hi : i = 0 := by
        cases i with
        | zero => rfl
        | succ j => simp at hx
      subst hi
      obtain rfl : v = .ref p := (Option.some.inj hx).symm
      obtain rfl : H2 = H := by
        rcases e with ⟨_, e⟩ | ⟨z, _⟩
        · exact e
        · cases z
      refine ⟨_, rfl, o, _, dx, _, .ref c, rfl, ho, T.cl_Board, T.na_Board_copper, rfl, .inr (.inr (.inl ⟨rfl, .inr ⟨_, hc⟩⟩)), _, rfl, c, p, cs, [.inl x, .inl y, .inl z], rfl, rfl, hc, hp, fun v => ⟨_, rfl, .inr ⟨rfl, rfl⟩⟩⟩
    · rintro σ H2 ⟨u, rfl, e⟩
      rcases e with ⟨z, _⟩ | ⟨_, rfl⟩
      · cases z
      · exact q
def spDrill (C NP : Addr) : Sp := fun vs H Q E => ∃ (o dx c d : Addr) (w h l x y : Int) (ds : Tab), vs = [.ref o, .int x, .int y] ∧ H o = some (.ins C dx (fB w h l c d)) ∧ H d = some (.dT ds) ∧ ds.length ≤ 1000 ∧
  ((inB x w && inB y h) = true → ∀ p, H p = none → Q .non (upd (upd H p (.tup [.int x, .int y])) d (.dT (putK ds [.inl x, .inl y] (.bl true))))) ∧ ((inB x w && inB y h) = false → E (.ref NP) none H)
theorem ok_Board_drill (T : Txt K mg t) : GoodM P w K mg base 4 t.c_Board "drill" ["self", "x", "y"] (spDrill t.c_Board t.c_NoPlace) := by
  obtain ⟨fd, F, b⟩ := T.F_Board_drill
  have G_Board_need_square := ok_Board_need_square (P := P) (w := w) (base := base) T
  refine ⟨T.cl_Board, _, fd, T.M_Board_drill, F.okX sc_Board_drill (fun vs H Q E h => ?_) (fun cdv A outer s H vs Q E hr h => ?_), b⟩
  · obtain ⟨o, dx, c, d, w, h, l, x, y, ds, rfl, _⟩ := h
    rfl
  · obtain ⟨o, dx, c, d, w, h, l, x, y, ds, rfl, ho, hd, hl, q, e⟩ := h
    refine ⟨_, (pss_cons (ps_expr (pe_methG (pv 0) G_Board_need_square (hr.mono (by decide)) passes_of (pa_cons (pv 1) (pa_cons (pv 2) pa_nil))))
      (pss_one (ps_dput (hu_of hr) (pe_fld (pv 0) rfl) (pe_tup (pa_cons (pv 1) (pa_cons (pv 2) pa_nil))) pe_bl rfl))), ?_⟩
    refine ⟨_, rfl, o, dx, _, rfl, ho, rfl, _, rfl, _, rfl, o, dx, c, d, w, h, l, x, y, rfl, ho, fun hb => ?_, e⟩
    refine ⟨_, rfl, o, _, dx, _, .ref d, rfl, ho, T.cl_Board, T.na_Board_drilled, rfl, _, rfl, _, rfl, (by show 2 ≤ sizeLine; decide), fun p hp => ?_⟩
    have ndp : d ≠ p := ne_of_none hd hp
    exact ⟨d, _, rfl, DPut.t (k := [.inl x, .inl y]) (by rw [upd_ne ndp]; exact hd) upd_same (Nat.lt_of_le_of_lt hl (by decide)), q hb p hp⟩
def spPlug (C : Addr) : Sp := fun vs H Q _ => ∃ (o dx c d : Addr) (w h l x y : Int) (ds : Tab), vs = [.ref o, .int x, .int y] ∧ H o = some (.ins C dx (fB w h l c d)) ∧ (inB x w && inB y h) = true ∧ H d = some (.dT ds) ∧
  ∀ p, H p = none → Q .non (upd (upd H p (.tup [.int x, .int y])) d (.dT (dropK ds [.inl x, .inl y])))
theorem ok_Board_plug (T : Txt K mg t) : GoodM P w K mg base 4 t.c_Board "plug" ["self", "x", "y"] (spPlug t.c_Board) := by
  obtain ⟨fd, F, b⟩ := T.F_Board_plug
  have G_Board_need_square := ok_Board_need_square (P := P) (w := w) (base := base) T
  refine ⟨T.cl_Board, _, fd, T.M_Board_plug, F.okX sc_Board_plug (fun vs H Q E h => ?_) (fun cdv A outer s H vs Q E hr h => ?_), b⟩
  · obtain ⟨o, dx, c, d, w, h, l, x, y, ds, rfl, _⟩ := h
    rfl
  · obtain ⟨o, dx, c, d, w, h, l, x, y, ds, rfl, ho, hb, hd, q⟩ := h
    refine ⟨_, (pss_cons (ps_expr (pe_methG (pv 0) G_Board_need_square (hr.mono (by decide)) passes_of (pa_cons (pv 1) (pa_cons (pv 2) pa_nil))))
      (pss_one (ps_expr (pe_bm PySem.F.plainAttrs_dict PySem.F.slot_dict_pop PySem.F.type_dict_pop (mt_popT hr.units) (pe_fld (pv 0) rfl) (pa_cons (pe_tup (pa_cons (pv 1) (pa_cons (pv 2) pa_nil))) (pa_cons pe_non pa_nil)))))), ?_⟩
    refine ⟨_, rfl, o, dx, _, rfl, ho, rfl, _, rfl, _, rfl, o, dx, c, d, w, h, l, x, y, rfl, ho, fun _ => ?_, fun z => absurd hb (by rw [z]; decide)⟩
    refine ⟨_, rfl, o, _, dx, _, .ref d, rfl, ho, T.cl_Board, T.na_Board_drilled, rfl, .inr (.inr (.inl ⟨rfl, .inr ⟨_, hd⟩⟩)), _, rfl, _, rfl, (by show 2 ≤ sizeLine; decide), fun p hp => ?_⟩
    have ndp : d ≠ p := ne_of_none hd hp
    exact ⟨d, p, ds, [.inl x, .inl y], rfl, rfl, by rw [upd_ne ndp]; exact hd, upd_same, fun v => q p hp⟩
end
end K13
namespace K13
open PySem L2 Wd TS
section
variable {P : Program} {w : World} {K : PySem.W.Frag} {mg : Str → Option Value} {base : Heap} {t : Adr}
def spCells (C : Addr) : Sp := fun vs H Q _ => ∃ (o dx c d : Addr) (w h l : Int) (cs : Tab), vs = [.ref o, .non] ∧ H o = some (.ins C dx (fB w h l c d)) ∧ H c = some (.dT cs) ∧ (∀ kv ∈ cs, sd kv.1 = [true, true, true]) ∧
  ∀ p bs ks, H p = none → KeyAt H bs ks → ks.Perm (cs.map (·.1)) → (ks.Pairwise fun a b => lx b a = false) → Q (.ref p) (upd H p (.lst (bs.map V.ref)))
theorem ok_Board_cells (T : Txt K mg t) : GoodMN P w K mg base 1 t.c_Board "cells" ["self", "z"] (spCells t.c_Board) := by
  obtain ⟨fd, F, _, b⟩ := T.F_Board_cells
  refine ⟨T.cl_Board, _, fd, T.M_Board_cells, F.okX sc_Board_cells (fun vs H Q E h => ?_) (fun cdv A outer s H vs Q E hr h => ?_), b⟩
  · obtain ⟨o, dx, c, d, w, h, l, cs, rfl, _⟩ := h
    rfl
  · obtain ⟨o, dx, c, d, w, h, l, cs, rfl, ho, hc, hs, q⟩ := h
    refine ⟨_, (pss_cons (ps_if (pt_cmp (pc_isN (pv 1))) (pss_one (ps_ret (pe_callB (call_sortedD rfl) (by rfl) T.n_sorted b_sorted (pa_cons (pe_fld (pv 0) rfl) pa_nil)))) pss_nil)
      (pss_cons ps_never
      (pss_one ps_never))), ?_⟩
    exact ⟨_, rfl, _, rfl, iteT ⟨_, rfl, o, _, dx, _, .ref c, rfl, ho, T.cl_Board, T.na_Board_copper, rfl, c, cs, _, rfl, hc, hs, by decide, fun p bs ks hp ka pm up => q p bs ks hp ka pm up⟩⟩
def spHoles (C : Addr) : Sp := fun vs H Q _ => ∃ (o dx c d : Addr) (w h l : Int) (ds : Tab), vs = [.ref o] ∧ H o = some (.ins C dx (fB w h l c d)) ∧ H d = some (.dT ds) ∧ (∀ kv ∈ ds, sd kv.1 = [true, true]) ∧
  ∀ p bs ks, H p = none → KeyAt H bs ks → ks.Perm (ds.map (·.1)) → (ks.Pairwise fun a b => lx b a = false) → Q (.ref p) (upd H p (.lst (bs.map V.ref)))
theorem ok_Board_holes (T : Txt K mg t) : GoodM P w K mg base 1 t.c_Board "holes" ["self"] (spHoles t.c_Board) := by
  obtain ⟨fd, F, b⟩ := T.F_Board_holes
  refine ⟨T.cl_Board, _, fd, T.M_Board_holes, F.okX sc_Board_holes (fun vs H Q E h => ?_) (fun cdv A outer s H vs Q E hr h => ?_), b⟩
  · obtain ⟨o, dx, c, d, w, h, l, cs, rfl, _⟩ := h
    rfl
  · obtain ⟨o, dx, c, d, w, h, l, ds, rfl, ho, hc, hs, q⟩ := h
    refine ⟨_, (pss_one (ps_ret (pe_callB (call_sortedD rfl) (by rfl) T.n_sorted b_sorted (pa_cons (pe_fld (pv 0) rfl) pa_nil)))), ?_⟩
    exact ⟨_, rfl, o, _, dx, _, .ref d, rfl, ho, T.cl_Board, T.na_Board_drilled, rfl, d, ds, _, rfl, hc, hs, by decide, fun p bs ks hp ka pm up => q p bs ks hp ka pm up⟩
end
end K13
namespace K13
open PySem L2 Wd TS
theorem seq_gen {a b : TS} {D : Ends} {σ : St} {H : Hp} (R : St → Hp → Prop) (h1 : ∀ B : TS, (∀ σ H, R σ H → B D σ H) → tSeq a B D σ H) (h2 : ∀ σ H, R σ H → b D σ H) : tSeq a b D σ H := h1 b h2
theorem gName_go {i : Nat} {x : V} {σ : St} {H : Hp} {Q : St → Hp → Prop} (h : Q (σ.set i (some x)) H) : gName i x σ H Q := h
theorem sorted_eq : ∀ {a b : List (List Key)}, a.Perm b → (a.Pairwise fun x y => lx y x = false) → (b.Pairwise fun x y => lx y x = false) → a = b
  | [], b, p, _, _ => (List.nil_perm.mp p).symm
  | x :: a, b, p, ha, hb => by
    cases b with
    | nil => exact absurd (List.perm_nil.mp p) (by simp)
    | cons y b =>
      obtain ⟨h1, ha2⟩ := List.pairwise_cons.mp ha
      obtain ⟨h2, hb2⟩ := List.pairwise_cons.mp hb
      have e : x = y := by
        rcases List.mem_cons.mp (p.mem_iff.mp (List.mem_cons_self ..)) with e | hx
        · exact e
        · rcases List.mem_cons.mp (p.mem_iff.mpr (List.mem_cons_self ..)) with e | hy
          · exact e.symm
          · exact lx_tot (h2 x hx) (h1 y hy)
      subst e
      rw [sorted_eq (List.perm_cons x |>.mp p) ha2 hb2]
theorem k3_inj {a b : Int × Int × Int} (h : k3 a = k3 b) : a = b := by
  obtain ⟨x, y, z⟩ := a
  obtain ⟨u, v, r⟩ := b
  unfold k3 at h
  injection h with e1 h
  injection h with e2 h
  injection h with e3 _
  injection e1 with e1
  injection e2 with e2
  injection e3 with e3
  simp only at e1 e2 e3
  rw [e1, e2, e3]
def Off (c : Addr) (H H' : Hp) : Prop := ∀ b u, b ≠ c → H b = some u → H' b = some u
theorem same_sqL {K : PySem.W.Frag} {H H' : Hp} {a : Addr} {xs : List V} (e : Same H H') (h : SqL K H a xs) : SqL K H' a xs := by
  rcases h with (h | h) | h
  · exact .inl (.inl (e _ _ h))
  · exact .inl (.inr (by obtain ⟨o, q⟩ := h; exact ⟨o, e _ _ q⟩))
  · exact .inr h
def unI : Key → Int | .inl n => n | .inr _ => 0
theorem sameD_of {cs cs' : Tab} (p : (cs.map (·.1)).Perm (cs'.map (·.1))) : sameD cs cs' = true := by
  unfold sameD
  have hl := p.length_eq
  rw [List.length_map, List.length_map] at hl
  rw [decide_eq_true hl, Bool.true_and, List.all_eq_true]
  intro k hk
  exact List.any_eq_true.mpr ⟨k, p.mem_iff.mp hk, decide_eq_true rfl⟩
theorem KeyAt.same {H H' : Hp} {bs : List Addr} {ks : List (List Key)} (k : KeyAt H bs ks) (s : Same H H') : KeyAt H' bs ks := ⟨k.1, fun i p c h1 h2 => s _ _ (k.2 i p c h1 h2)⟩
theorem Cells.of_key {H : Hp} {ps : List Addr} {cl : List (Int × Int × Int)} (k : KeyAt H ps (cl.map k3)) : Cells H ps cl := ⟨by rw [k.1, List.length_map], fun i p c h1 h2 => k.2 i p (k3 c) h1 (by rw [List.getElem?_map, h2]; rfl)⟩
theorem KeyAt.nil {H : Hp} : KeyAt H [] [] := ⟨rfl, fun i p c h => by cases h⟩
theorem KeyAt.snoc {H : Hp} {ps : List Addr} {ks : List (List Key)} {p : Addr} {k : List Key} (C : KeyAt H ps ks) (hp : H p = some (.tup (k.map kV))) : KeyAt H (ps ++ [p]) (ks ++ [k]) := ⟨by rw [List.length_append, List.length_append, C.1]; rfl, fun i q d h1 h2 => by
  by_cases h : i < ps.length
  · rw [List.getElem?_append_left h] at h1
    rw [List.getElem?_append_left (C.1 ▸ h)] at h2
    exact C.2 i q d h1 h2
  · rw [List.getElem?_append_right (by omega)] at h1
    rw [List.getElem?_append_right (by rw [← C.1]; omega), ← C.1] at h2
    generalize i - ps.length = m at h1 h2
    cases m with
    | zero => cases h1; cases h2; exact hp
    | succ m => cases h1⟩
theorem KeyAt.app {H : Hp} {ps qs : List Addr} {ks ms : List (List Key)} (C : KeyAt H ps ks) (D : KeyAt H qs ms) : KeyAt H (ps ++ qs) (ks ++ ms) := ⟨by rw [List.length_append, List.length_append, C.1, D.1], fun i q d h1 h2 => by
  by_cases h : i < ps.length
  · rw [List.getElem?_append_left h] at h1
    rw [List.getElem?_append_left (C.1 ▸ h)] at h2
    exact C.2 i q d h1 h2
  · rw [List.getElem?_append_right (by omega)] at h1
    rw [List.getElem?_append_right (by rw [← C.1]; omega), ← C.1] at h2
    exact D.2 _ q d h1 h2⟩
theorem KeyAt.wr {H : Hp} {D : Addr} {ps : List Addr} {ks : List (List Key)} {u u' : HO} (C : KeyAt H ps ks) (hD : H D = some u) (n : ∀ xs, u ≠ .tup xs) : KeyAt (upd H D u') ps ks := ⟨C.1, fun i q d h1 h2 => by
  have e := C.2 i q d h1 h2
  rw [upd_ne (ne_of e hD (fun z => n _ z.symm))]; exact e⟩
def LK (H : Hp) (a : Addr) (ks : List (List Key)) : Prop := ∃ ps : List Addr, H a = some (.lst (ps.map V.ref)) ∧ KeyAt H ps ks
theorem LK.same {H H' : Hp} {a : Addr} {ks : List (List Key)} (k : LK H a ks) (s : Same H H') : LK H' a ks := let ⟨ps, e, c⟩ := k; ⟨ps, s _ _ e, KeyAt.same c s⟩
def k2 (p : Int × Int) : List Key := [.inl p.1, .inl p.2]
theorem k2_inj {a b : Int × Int} (h : k2 a = k2 b) : a = b := by
  obtain ⟨x, y⟩ := a
  obtain ⟨u, v⟩ := b
  unfold k2 at h
  injection h with e1 h
  injection h with e2 _
  injection e1 with e1
  injection e2 with e2
  simp only at e1 e2
  rw [e1, e2]
theorem LK.lt {K : PySem.W.Frag} {H : Hp} {a : Addr} {ks : List (List Key)} (k : LK H a ks) (hi : ∀ k ∈ ks, ∀ c ∈ k, ∃ n, c = Sum.inl n) : LT K H a (ks.map fun k => k.map unI) := by
  obtain ⟨bs, e, ka⟩ := k
  refine ⟨bs, SqL.of e, ⟨by rw [ka.1, List.length_map], fun i p ns h1 h2 => ?_⟩⟩
  rw [List.getElem?_map] at h2
  obtain ⟨k, e2, rfl⟩ := Option.map_eq_some_iff.mp h2
  have := ka.2 i p k h1 e2
  refine SqT.of (this.trans ?_)
  rw [List.map_map]
  congr 2
  refine List.map_congr_left fun c hc => ?_
  obtain ⟨n, rfl⟩ := hi k (List.mem_of_getElem? e2) c hc
  rfl
theorem ints3 {cl : List (Int × Int × Int)} : ∀ k ∈ cl.map k3, ∀ c ∈ k, ∃ n, c = Sum.inl n := fun k hk c hc => by
  obtain ⟨x, _, rfl⟩ := List.mem_map.mp hk
  unfold k3 at hc
  simp only [List.mem_cons, List.not_mem_nil, or_false] at hc
  rcases hc with h | h | h <;> exact ⟨_, h⟩
theorem ints2 {hl : List (Int × Int)} : ∀ k ∈ hl.map k2, ∀ c ∈ k, ∃ n, c = Sum.inl n := fun k hk c hc => by
  obtain ⟨x, _, rfl⟩ := List.mem_map.mp hk
  unfold k2 at hc
  simp only [List.mem_cons, List.not_mem_nil, or_false] at hc
  rcases hc with h | h <;> exact ⟨_, h⟩
theorem ints_perm {ks ms : List (List Key)} (p : ks.Perm ms) (hi : ∀ k ∈ ms, ∀ c ∈ k, ∃ n, c = Sum.inl n) : ∀ k ∈ ks, ∀ c ∈ k, ∃ n, c = Sum.inl n := fun k hk => hi k (p.mem_iff.mp hk)
theorem sd3 {cl : List (Int × Int × Int)} : ∀ k ∈ cl.map k3, sd k = [true, true, true] := fun k hk => by
  obtain ⟨x, _, rfl⟩ := List.mem_map.mp hk; rfl
theorem sd2 {hl : List (Int × Int)} : ∀ k ∈ hl.map k2, sd k = [true, true] := fun k hk => by
  obtain ⟨x, _, rfl⟩ := List.mem_map.mp hk; rfl
theorem perm_inj {α β : Type} {f : α → β} (hf : ∀ a b, f a = f b → a = b) : ∀ {l m : List α}, (l.map f).Perm (m.map f) → l.Perm m := by
  intro l m p
  induction l generalizing m with
  | nil =>
    have := p.length_eq
    rw [List.length_map, List.length_map] at this
    exact (List.eq_nil_of_length_eq_zero this.symm) ▸ List.Perm.refl _
  | cons a l ih =>
    have ha : f a ∈ m.map f := p.mem_iff.mp (by simp)
    obtain ⟨b, hb, e⟩ := List.mem_map.mp ha
    obtain rfl := hf _ _ e
    obtain ⟨m1, m2, rfl⟩ := List.append_of_mem hb
    have q : (l.map f).Perm ((m1 ++ m2).map f) := by
      rw [List.map_cons, List.map_append, List.map_cons] at p
      rw [List.map_append]
      exact (p.trans List.perm_middle).cons_inv
    exact ((ih q).cons b).trans List.perm_middle.symm
theorem perm_of_sub {α : Type} [DecidableEq α] : ∀ {l m : List α}, l.Nodup → (∀ x ∈ l, x ∈ m) → m.length ≤ l.length → l.Perm m := by
  intro l
  induction l with
  | nil => intro m _ _ h; exact (List.eq_nil_of_length_eq_zero (Nat.le_zero.mp h)) ▸ List.Perm.refl _
  | cons a l ih =>
    intro m nd hs hl
    have ha := hs a (by simp)
    have nd' := List.nodup_cons.mp nd
    have q := ih (m := m.erase a) nd'.2 (fun x hx => (List.mem_erase_of_ne (fun z : x = a => nd'.1 (z ▸ hx))).mpr (hs x (by simp [hx]))) (by rw [List.length_erase_of_mem ha]; simp at hl; omega)
    exact (q.cons a).trans (List.perm_cons_erase ha).symm
theorem sameD_iff {cs cs' : Tab} (n : (cs.map (·.1)).Nodup) : sameD cs cs' = true ↔ (cs.map (·.1)).Perm (cs'.map (·.1)) := by
  constructor
  · intro h
    unfold sameD at h
    rw [Bool.and_eq_true] at h
    have hl := of_decide_eq_true h.1
    refine perm_of_sub n (fun k hk => ?_) (by rw [List.length_map, List.length_map]; omega)
    obtain ⟨k', h1, h2⟩ := List.any_eq_true.mp (List.all_eq_true.mp h.2 k hk)
    rw [← of_decide_eq_true h2]; exact h1
  · exact sameD_of
structure Bx (C : Addr) (H : Hp) (o dx c d : Addr) (w h l : Nat) (cl : List (Int × Int × Int)) (hl : List (Int × Int)) : Prop where
  eo : H o = some (.ins C dx (fB w h l c d))
  ec : ∃ cs, H c = some (.dT cs) ∧ (∀ kv ∈ cs, kv.2 = .bl true) ∧ (cs.map (·.1)).Perm (cl.map k3)
  ed : ∃ ds, H d = some (.dT ds) ∧ (∀ kv ∈ ds, kv.2 = .bl true) ∧ (ds.map (·.1)).Perm (hl.map k2)
  ne : c ≠ d
theorem Bx.same {C : Addr} {H H' : Hp} {o dx c d : Addr} {w h l : Nat} {cl : List (Int × Int × Int)} {hl : List (Int × Int)} (B : Bx C H o dx c d w h l cl hl) (s : Same H H') : Bx C H' o dx c d w h l cl hl :=
  ⟨s _ _ B.eo, let ⟨cs, e, r⟩ := B.ec; ⟨cs, s _ _ e, r⟩, let ⟨ds, e, r⟩ := B.ed; ⟨ds, s _ _ e, r⟩, B.ne⟩
theorem Bx.sm {C : Addr} {H H' : Hp} {o dx c d : Addr} {w h l : Nat} {cl : List (Int × Int × Int)} {hl : List (Int × Int)} (B : Bx C H o dx c d w h l cl hl) (s : Sm H H') : Bx C H' o dx c d w h l cl hl :=
  ⟨s.1 _ _ (by intro ps z; cases z) B.eo, let ⟨cs, e, r⟩ := B.ec; ⟨cs, s.1 _ _ (by intro ps z; cases z) e, r⟩, let ⟨ds, e, r⟩ := B.ed; ⟨ds, s.1 _ _ (by intro ps z; cases z) e, r⟩, B.ne⟩
theorem LK.sm {H H' : Hp} {a : Addr} {ks : List (List Key)} (k : LK H a ks) (s : Sm H H') : LK H' a ks := let ⟨ps, e, c⟩ := k; ⟨ps, s.1 _ _ (by intro ps z; cases z) e, ⟨c.1, fun i p c' h1 h2 => s.1 _ _ (by intro ps z; cases z) (c.2 i p c' h1 h2)⟩⟩
structure Ct (w h l : Nat) (cl : List (Int × Int × Int)) (hl : List (Int × Int)) : Prop where
  sw : 1 ≤ w ∧ w ≤ 12
  sh : 1 ≤ h ∧ h ≤ 12
  sl : 1 ≤ l ∧ l ≤ 3
  nc : cl.Nodup
  nh : hl.Nodup
  ic : ∀ c ∈ cl, onB w h l c = true
  ih : ∀ p ∈ hl, (inB p.1 w && inB p.2 h) = true
  lc : cl.length ≤ 450
  lh : hl.length ≤ 150
theorem onB_iff {w h l : Int} {c : Int × Int × Int} : onB w h l c = true ↔ (0 ≤ c.1 ∧ c.1 < w) ∧ (0 ≤ c.2.1 ∧ c.2.1 < h) ∧ (0 ≤ c.2.2 ∧ c.2.2 < l) := by
  unfold onB inB; simp [and_assoc]
theorem inB2_iff {w h : Int} {p : Int × Int} : (inB p.1 w && inB p.2 h) = true ↔ (0 ≤ p.1 ∧ p.1 < w) ∧ (0 ≤ p.2 ∧ p.2 < h) := by
  unfold inB; simp [and_assoc]
def tn2 (h : Nat) (p : Int × Int) : Int × Int := ((h : Int) - 1 - p.2, p.1)
def mr2 (w : Nat) (p : Int × Int) : Int × Int := ((w : Int) - 1 - p.1, p.2)
def g3 (g : Int × Int → Int × Int) (c : Int × Int × Int) : Int × Int × Int := ((g (c.1, c.2.1)).1, (g (c.1, c.2.1)).2, c.2.2)
structure Lead (g : Int × Int → Int × Int) (w h w' h' : Nat) : Prop where
  on : ∀ p, (inB p.1 w && inB p.2 h) = true → (inB (g p).1 w' && inB (g p).2 h') = true
  inj : ∀ p q, g p = g q → p = q
theorem lead_tn (w h : Nat) : Lead (tn2 h) w h h w := ⟨fun p hp => by
  rw [inB2_iff] at hp ⊢
  unfold tn2; simp only; omega, fun p q e => by
  unfold tn2 at e
  injection e with e1 e2
  exact Prod.ext e2 (by omega)⟩
theorem lead_mr (w h : Nat) : Lead (mr2 w) w h w h := ⟨fun p hp => by
  rw [inB2_iff] at hp ⊢
  unfold mr2; simp only; omega, fun p q e => by
  unfold mr2 at e
  injection e with e1 e2
  exact Prod.ext (by omega) e2⟩
theorem g3_inj {g : Int × Int → Int × Int} (hg : ∀ p q, g p = g q → p = q) (a b : Int × Int × Int) (e : g3 g a = g3 g b) : a = b := by
  unfold g3 at e
  injection e with e1 e2
  injection e2 with e2 e3
  have := hg _ _ (Prod.ext e1 e2)
  injection this with a1 a2
  exact Prod.ext a1 (Prod.ext a2 e3)
theorem g3_on {g : Int × Int → Int × Int} {w h w' h' l : Nat} (L : Lead g w h w' h') {c : Int × Int × Int} (hc : onB w h l c = true) : onB w' h' l (g3 g c) = true := by
  rw [onB_iff] at hc ⊢
  have := inB2_iff.mp (L.on (c.1, c.2.1) (inB2_iff.mpr ⟨hc.1, hc.2.1⟩))
  exact ⟨this.1, this.2, hc.2.2⟩
theorem nodup_inj {α β : Type} {f : α → β} (hf : ∀ a b, f a = f b → a = b) {l : List α} (n : l.Nodup) : (l.map f).Nodup := List.Pairwise.map f (fun a b h e => h (hf a b e)) n
theorem Ct.led {g : Int × Int → Int × Int} {w h l w' h' : Nat} {cl : List (Int × Int × Int)} {hl : List (Int × Int)} (C : Ct w h l cl hl) (L : Lead g w h w' h') (bw : 1 ≤ w' ∧ w' ≤ 12) (bh : 1 ≤ h' ∧ h' ≤ 12) : Ct w' h' l (cl.map (g3 g)) (hl.map g) :=
  ⟨bw, bh, C.sl, nodup_inj (g3_inj L.inj) C.nc, nodup_inj L.inj C.nh, fun c hc => by
    obtain ⟨x, hx, rfl⟩ := List.mem_map.mp hc
    exact g3_on L (C.ic x hx), fun p hp => by
    obtain ⟨x, hx, rfl⟩ := List.mem_map.mp hp
    exact L.on x (C.ih x hx), by rw [List.length_map]; exact C.lc, by rw [List.length_map]; exact C.lh⟩
theorem put_key_in {cs : Tab} {k : List Key} (hk : k ∈ cs.map (·.1)) : ((putK cs k (.bl true)).map (·.1)) = cs.map (·.1) := by
  have : (valV cs k).isSome = true := by
    rw [← valV_any]
    obtain ⟨x, hx, e2⟩ := List.mem_map.mp hk
    exact List.any_eq_true.mpr ⟨x, hx, decide_eq_true e2⟩
  unfold putK
  rw [if_pos (by rw [valV_any]; exact this), List.map_map]
  refine List.map_congr_left fun x _ => ?_
  show (if x.1 = k then (x.1, V.bl true) else x).1 = x.1
  split <;> rfl
theorem put_key_new {cs : Tab} {k : List Key} (hk : k ∉ cs.map (·.1)) : ((putK cs k (.bl true)).map (·.1)) = cs.map (·.1) ++ [k] := by
  have : valV cs k = none := by
    cases e : valV cs k with
    | none => rfl
    | some v =>
      have h1 : (cs.any fun x => decide (x.1 = k)) = true := by rw [valV_any, e]; rfl
      obtain ⟨x, hx, e2⟩ := List.any_eq_true.mp h1
      exact absurd (List.mem_map.mpr ⟨x, hx, of_decide_eq_true e2⟩) hk
  rw [putK_new _ this, List.map_append]; rfl
theorem put_val {cs : Tab} {k : List Key} (h : ∀ kv ∈ cs, kv.2 = .bl true) : ∀ kv ∈ putK cs k (.bl true), kv.2 = .bl true := fun kv hkv => by
  unfold putK at hkv
  split at hkv
  · obtain ⟨x, hx, rfl⟩ := List.mem_map.mp hkv
    split
    · rfl
    · exact h x hx
  · rcases List.mem_append.mp hkv with hkv | hkv
    · exact h kv hkv
    · rw [List.mem_singleton.mp hkv]
theorem drop_key {cs : Tab} {k : List Key} : ((dropK cs k).map (·.1)) = (cs.map (·.1)).filter fun x => decide (x ≠ k) := by
  unfold dropK
  rw [List.filter_map]
  congr 1
theorem drop_val' {cs : Tab} {k : List Key} (h : ∀ kv ∈ cs, kv.2 = .bl true) : ∀ kv ∈ dropK cs k, kv.2 = .bl true := fun kv hkv => h kv (List.mem_filter.mp hkv).1
def addL {α : Type} [DecidableEq α] (l : List α) (a : α) : List α := if a ∈ l then l else l ++ [a]
def delL {α : Type} [DecidableEq α] (l : List α) (a : α) : List α := l.filter fun x => decide (x ≠ a)
theorem put_perm {α : Type} [DecidableEq α] {f : α → List Key} (hf : ∀ a b, f a = f b → a = b) {cs : Tab} {l : List α} {a : α} (p : (cs.map (·.1)).Perm (l.map f)) : ((putK cs (f a) (.bl true)).map (·.1)).Perm ((addL l a).map f) := by
  unfold addL
  have e : f a ∈ cs.map (·.1) ↔ a ∈ l := by
    rw [p.mem_iff, List.mem_map]
    exact ⟨fun ⟨b, hb, e⟩ => hf _ _ e ▸ hb, fun h => ⟨a, h, rfl⟩⟩
  by_cases ha : a ∈ l
  · rw [if_pos ha, put_key_in (e.mpr ha)]; exact p
  · rw [if_neg ha, put_key_new (fun z => ha (e.mp z)), List.map_append]
    exact List.Perm.append p (List.Perm.refl _)
theorem drop_perm {α : Type} [DecidableEq α] {f : α → List Key} (hf : ∀ a b, f a = f b → a = b) {cs : Tab} {l : List α} {a : α} (p : (cs.map (·.1)).Perm (l.map f)) : ((dropK cs (f a)).map (·.1)).Perm ((delL l a).map f) := by
  rw [drop_key]
  refine (p.filter _).trans ?_
  unfold delL
  rw [List.filter_map]
  refine List.Perm.of_eq (congrArg (List.map f) (List.filter_congr fun x _ => ?_))
  show decide (f x ≠ f a) = decide (x ≠ a)
  rw [decide_eq_decide]
  exact ⟨fun h e => h (by rw [e]), fun h e => h (hf _ _ e)⟩
theorem putAll_keys : ∀ (cl : List (Int × Int × Int)) (cs : Tab), (∀ kv ∈ cs, kv.2 = .bl true) → (cs.map (·.1) ++ cl.map k3).Nodup → ((putAll cs cl).map (·.1)) = cs.map (·.1) ++ cl.map k3 ∧ ∀ kv ∈ putAll cs cl, kv.2 = .bl true
  | [], cs, hv, _ => ⟨by simp [putAll], hv⟩
  | c :: r, cs, hv, n => by
    have hk : k3 c ∉ cs.map (·.1) := fun z => (List.nodup_append.mp n).2.2 _ z _ (by simp) rfl
    have e : (putK cs (k3 c) (.bl true)).map (·.1) = cs.map (·.1) ++ [k3 c] := by exact put_key_new hk
    have := putAll_keys r (putK cs (k3 c) (.bl true)) (put_val hv) (by rw [e]; simpa using n)
    rw [e] at this
    exact ⟨by show (putAll (putK cs (k3 c) (.bl true)) r).map (·.1) = _; rw [this.1]; simp, this.2⟩
theorem comp_mapK {K : PySem.W.Frag} {α : Type} {g : TG} {tc : TT} {te : TE} {k : Nat} {σ : St} {H : Hp} {Q : VK} {a : Addr} {ps : List Addr} {xs : List α} (key key' : α → List Key) (hz : xs.length ≤ sizeLine) (ha : H a = some (.lst (ps.map V.ref))) (C : KeyAt H ps (xs.map key))
    (hg : ∀ (r : Addr) (x : α) (H' : Hp) (Qy : VK) (Qn : Hp → Prop), x ∈ xs → Same H H' → H' r = some (.tup ((key x).map kV)) → (∀ p H2, Same H' H2 → H2 p = some (.tup ((key' x).map kV)) → Qy (.ref p) H2) → g (.ref r) (σ ++ List.replicate k none) H' fun σ2 H2 => (∃ zs, σ2 = σ ++ zs ∧ zs.length = k) ∧ tc σ2 H2 fun b H3 => if b = true then te σ2 H3 Qy else Qn H3)
    (q : ∀ D rs H', Same H H' → H D = none → H' D = some (.lst (rs.map V.ref)) → KeyAt H' rs (xs.map key') → Q (.ref D) H') : compT k g tc te σ Q (Itl K a) H := by
  have hl : ps.length = xs.length := by rw [C.1, List.length_map]
  refine comp_list (xs := ps.map V.ref) (fun D i ys H' => H D = none ∧ Same H H' ∧ H' D = some (.lst ys) ∧ ys.length ≤ i ∧ ∃ rs : List Addr, ys = rs.map V.ref ∧ KeyAt H' rs ((xs.take i).map key')) (by rw [List.length_map, hl]; exact hz) (fun D hD => ⟨hD, same_new (Same.refl _) hD, upd_same, Nat.le_refl _, [], rfl, ⟨rfl, fun i p c h => by cases h⟩⟩) (fun D i ys H' hv => ⟨hv.2.2.1, hv.2.2.2.1, SqL.of (hv.2.1 _ _ ha)⟩) ?_ ?_
  · rintro D i v ys H' Qy Qn hx ⟨d1, d2, d3, d4, rs, rfl, C'⟩ hy hn
    rw [List.getElem?_map] at hx
    obtain ⟨r, hx1, rfl⟩ := Option.map_eq_some_iff.mp hx
    have hi : i < xs.length := by rw [← hl]; exact (List.getElem?_eq_some_iff.mp hx1).1
    have hs := List.getElem?_eq_getElem hi
    have er := d2 _ _ (C.2 i r _ hx1 (by rw [List.getElem?_map, hs]; rfl))
    refine hg r xs[i] H' Qy Qn (List.getElem_mem hi) d2 er fun p H2 s2 ep => ?_
    have d3' := s2 _ _ d3
    refine hy _ _ d3' ⟨d1, fun b u e => ?_, upd_same, by rw [List.length_append]; exact Nat.succ_le_succ d4, rs ++ [p], by rw [List.map_append]; rfl, ?_⟩
    · rw [upd_ne (ne_of_none e d1)]; exact s2 _ _ (d2 _ _ e)
    · rw [List.take_add_one, hs, List.map_append]
      exact KeyAt.wr (KeyAt.snoc (KeyAt.same C' s2) ep) d3' (by intro xs z; cases z)
  · rintro D ys H3 hD ⟨d1, d2, d3, d4, rs, rfl, C'⟩
    rw [List.length_map, hl, List.take_length] at C'
    exact q D rs H3 d2 d1 d3 C'
theorem comp_pickK {K : PySem.W.Frag} {α : Type} {g : TG} {tc : TT} {te : TE} {k : Nat} {σ : St} {H : Hp} {Q : VK} {a : Addr} {ps : List Addr} {xs : List α} (key : α → List Key) (f : α → Bool) (hz : xs.length ≤ sizeLine) (ha : H a = some (.lst (ps.map V.ref))) (C : KeyAt H ps (xs.map key))
    (hg : ∀ (r : Addr) (x : α) (H' : Hp) (Qy : VK) (Qn : Hp → Prop), x ∈ xs → Same H H' → H' r = some (.tup ((key x).map kV)) → (f x = true → ∀ H2, Same H' H2 → Qy (.ref r) H2) → (f x = false → ∀ H2, Same H' H2 → Qn H2) → g (.ref r) (σ ++ List.replicate k none) H' fun σ2 H2 => (∃ zs, σ2 = σ ++ zs ∧ zs.length = k) ∧ tc σ2 H2 fun b H3 => if b = true then te σ2 H3 Qy else Qn H3)
    (q : ∀ D rs H', Same H H' → H D = none → H' D = some (.lst (rs.map V.ref)) → KeyAt H' rs ((xs.filter f).map key) → Q (.ref D) H') : compT k g tc te σ Q (Itl K a) H := by
  have hl : ps.length = xs.length := by rw [C.1, List.length_map]
  refine comp_list (xs := ps.map V.ref) (fun D i ys H' => H D = none ∧ Same H H' ∧ H' D = some (.lst ys) ∧ ys.length ≤ i ∧ ∃ rs : List Addr, ys = rs.map V.ref ∧ KeyAt H' rs (((xs.take i).filter f).map key)) (by rw [List.length_map, hl]; exact hz) (fun D hD => ⟨hD, same_new (Same.refl _) hD, upd_same, Nat.le_refl _, [], rfl, ⟨rfl, fun i p c h => by cases h⟩⟩) (fun D i ys H' hv => ⟨hv.2.2.1, hv.2.2.2.1, SqL.of (hv.2.1 _ _ ha)⟩) ?_ ?_
  · rintro D i v ys H' Qy Qn hx ⟨d1, d2, d3, d4, rs, rfl, C'⟩ hy hn
    rw [List.getElem?_map] at hx
    obtain ⟨r, hx1, rfl⟩ := Option.map_eq_some_iff.mp hx
    have hi : i < xs.length := by rw [← hl]; exact (List.getElem?_eq_some_iff.mp hx1).1
    have hs := List.getElem?_eq_getElem hi
    have er := d2 _ _ (C.2 i r _ hx1 (by rw [List.getElem?_map, hs]; rfl))
    have tk : ∀ b : Bool, f xs[i] = b → (xs.take (i + 1)).filter f = (xs.take i).filter f ++ (if b = true then [xs[i]] else []) := fun b hb => by
      rw [List.take_add_one, hs, List.filter_append]
      congr 1
      cases b <;> simp [hb]
    refine hg r xs[i] H' Qy Qn (List.getElem_mem hi) d2 er (fun hb H2 s2 => ?_) fun hb H2 s2 => ?_
    · have d3' := s2 _ _ d3
      refine hy _ _ d3' ⟨d1, fun b u e => ?_, upd_same, by rw [List.length_append]; exact Nat.succ_le_succ d4, rs ++ [r], by rw [List.map_append]; rfl, ?_⟩
      · rw [upd_ne (ne_of_none e d1)]; exact s2 _ _ (d2 _ _ e)
      · rw [tk true hb, if_pos rfl, List.map_append]
        exact KeyAt.wr (KeyAt.snoc (KeyAt.same C' s2) (s2 _ _ er)) d3' (by intro xs z; cases z)
    · refine hn _ ⟨d1, Same.trans d2 s2, s2 _ _ d3, by omega, rs, rfl, ?_⟩
      rw [tk false hb, if_neg (by decide), List.append_nil]
      exact KeyAt.same C' s2
  · rintro D ys H3 hD ⟨d1, d2, d3, d4, rs, rfl, C'⟩
    rw [List.length_map, hl, List.take_length] at C'
    exact q D rs H3 d2 d1 d3 C'
end K13
namespace K13
open PySem L2 Wd TS
section
variable {P : Program} {w : World} {K : PySem.W.Frag} {mg : Str → Option Value} {base : Heap} {t : Adr}
def spSameAs (C : Addr) : Sp := fun vs H Q _ => ∃ (o dx c d o2 dx2 c2 d2 : Addr) (w h l w2 h2 l2 : Nat) (cl cl2 : List (Int × Int × Int)) (hl hl2 : List (Int × Int)), vs = [.ref o, .ref o2] ∧ Bx C H o dx c d w h l cl hl ∧ Bx C H o2 dx2 c2 d2 w2 h2 l2 cl2 hl2 ∧ cl.Nodup ∧ hl.Nodup ∧
  ∀ b H', Same H H' → (b = true ↔ (w = w2 ∧ h = h2 ∧ l = l2) ∧ cl.Perm cl2 ∧ hl.Perm hl2) → Q (.bl b) H'
theorem ok_Board_same_as (T : Txt K mg t) : GoodM P w K mg base 1 t.c_Board "same_as" ["self", "other"] (spSameAs t.c_Board) := by
  obtain ⟨fd, F, b⟩ := T.F_Board_same_as
  refine ⟨T.cl_Board, _, fd, T.M_Board_same_as, F.okX sc_Board_same_as (fun vs H Q E h => ?_) (fun cdv A outer s H vs Q E hr h => ?_), b⟩
  · obtain ⟨o, dx, c, d, o2, dx2, c2, d2, w, h, l, w2, h2, l2, cl, cl2, hl, hl2, rfl, _⟩ := h
    rfl
  · obtain ⟨o, dx, c, d, o2, dx2, c2, d2, w, h, l, w2, h2, l2, cl, cl2, hl, hl2, rfl, B, B2, nc, nh, q⟩ := h
    refine ⟨_, (pss_cons (ps_if (pt_cmpR (op_neT hr.units0) (pe_tup (pa_cons (pe_fld (pv 0) rfl) (pa_cons (pe_fld (pv 0) rfl) (pa_cons (pe_fld (pv 0) rfl) pa_nil)))) (pe_tup (pa_cons (pe_fld (pv 1) rfl) (pa_cons (pe_fld (pv 1) rfl) (pa_cons (pe_fld (pv 1) rfl) pa_nil)))) (nomark _)) (pss_one (ps_ret pe_bl)) pss_nil)
      (pss_one (ps_ret (pe_and (pe_cmpR (op_eqD hr.units) (pe_fld (pv 0) rfl) (pe_fld (pv 1) rfl) (nomark _)) (pe_one (pe_cmpR (op_eqD hr.units) (pe_fld (pv 0) rfl) (pe_fld (pv 1) rfl) (nomark _))))))), ?_⟩
    have s0 := Same.refl H
    refine ⟨_, rfl, o, _, dx, _, .int w, rfl, B.eo, T.cl_Board, T.na_Board_wide, rfl, _, rfl, o, _, dx, _, .int h, rfl, B.eo, T.cl_Board, T.na_Board_high, rfl, _, rfl, o, _, dx, _, .int l, rfl, B.eo, T.cl_Board, T.na_Board_layers, rfl, (by show 3 ≤ sizeLine; decide), fun p1 hp1 => ?_⟩
    have s1 := same_new (o := .tup [.int w, .int h, .int l]) s0 hp1
    have B1 := B2.same s1
    refine ⟨_, rfl, o2, _, dx2, _, .int w2, rfl, B1.eo, T.cl_Board, T.na_Board_wide, rfl, _, rfl, o2, _, dx2, _, .int h2, rfl, B1.eo, T.cl_Board, T.na_Board_high, rfl, _, rfl, o2, _, dx2, _, .int l2, rfl, B1.eo, T.cl_Board, T.na_Board_layers, rfl, (by show 3 ≤ sizeLine; decide), fun p2 hp2 => ?_⟩
    have s2 := same_new (o := .tup [.int w2, .int h2, .int l2]) s1 hp2
    have n12 : p1 ≠ p2 := fun z => by rw [← z, upd_same] at hp2; cases hp2
    refine ⟨p1, p2, [(w : Int), h, l], [(w2 : Int), h2, l2], rfl, rfl, SqT.of (by rw [upd_ne n12]; exact upd_same), SqT.of upd_same, _, rfl, iteNB (fun z => q false _ s2 ⟨fun e => (by cases e), fun ⟨⟨e1, e2, e3⟩, _⟩ => absurd (by rw [e1, e2, e3]) (of_decide_eq_false z)⟩) fun z => ?_⟩
    have ez : w = w2 ∧ h = h2 ∧ l = l2 := by
      have := of_decide_eq_true z
      injection this with e1 e
      injection e with e2 e
      injection e with e3 _
      omega
    have C1 := B.same s2
    have C2 := B2.same s2
    obtain ⟨cs, hc, t1, p1'⟩ := C1.ec
    obtain ⟨ds, hd, t2, p2'⟩ := C1.ed
    obtain ⟨cs2, hc2, t3, p3'⟩ := C2.ec
    obtain ⟨ds2, hd2, t4, p4'⟩ := C2.ed
    have i1 : sameD cs cs2 = true ↔ cl.Perm cl2 := (sameD_iff (p1'.nodup_iff.mpr (nodup_inj (fun a b => k3_inj) nc))).trans ⟨fun h => perm_inj (fun a b => k3_inj) ((p1'.symm.trans h).trans p3'), fun h => (p1'.trans (h.map k3)).trans p3'.symm⟩
    have i2 : sameD ds ds2 = true ↔ hl.Perm hl2 := (sameD_iff (p2'.nodup_iff.mpr (nodup_inj (fun a b => k2_inj) nh))).trans ⟨fun h => perm_inj (fun a b => k2_inj) ((p2'.symm.trans h).trans p4'), fun h => (p2'.trans (h.map k2)).trans p4'.symm⟩
    refine ⟨_, rfl, o, _, dx, _, .ref c, rfl, C1.eo, T.cl_Board, T.na_Board_copper, rfl, _, rfl, o2, _, dx2, _, .ref c2, rfl, C2.eo, T.cl_Board, T.na_Board_copper, rfl, c, c2, cs, cs2, rfl, rfl, hc, hc2, t1, t3, _, rfl, ?_⟩
    cases e1 : sameD cs cs2 with
    | false => exact iteF (q _ _ s2 ⟨fun e => (by cases e), fun ⟨_, h, _⟩ => (by rw [i1.mpr h] at e1; cases e1)⟩)
    | true => exact iteT ⟨_, rfl, o, _, dx, _, .ref d, rfl, C1.eo, T.cl_Board, T.na_Board_drilled, rfl, _, rfl, o2, _, dx2, _, .ref d2, rfl, C2.eo, T.cl_Board, T.na_Board_drilled, rfl, d, d2, ds, ds2, rfl, rfl, hd, hd2, t2, t4, q _ _ s2 ⟨fun e => ⟨ez, i1.mp e1, i2.mp e⟩, fun ⟨_, _, h⟩ => i2.mpr h⟩⟩
end
end K13
namespace K13
open PySem L2 Wd TS
def lamOf (st : Stmt) : Arguments × Expr × Scope × Pos := match defBody st with
  | [.Return (some (.Call _ [_, _, .Lambda a b sc p] _ _)) _] => (a, b, sc, p)
  | _ => ({ posonlyargs := [], args := [], vararg := none, kwonlyargs := [], kw_defaults := [], kwarg := none, defaults := [] }, .Name "" ⟨0, 0, 0, 0⟩, { kind := .function, names := [], isGenerator := false, isCoroutine := false }, ⟨0, 0, 0, 0⟩)
abbrev qT : Str := "Board.turned" ++ ".<locals>." ++ "<lambda>"
abbrev qM : Str := "Board.mirrored" ++ ".<locals>." ++ "<lambda>"
section
variable {P : Program} {w : World} {K : PySem.W.Frag} {mg : Str → Option Value} {base : Heap} {t : Adr}
def spLam (C f c a : Addr) (q : Str) (st : Stmt) (g : Nat → Nat → Int × Int → Int × Int) : Sp := fun vs H Q _ => ∃ (x y : Int) (o dx cc d : Addr) (w h l : Nat), vs = [.int x, .int y] ∧ H f = some (LamE f q (lamOf st).1 (lamOf st).2.1 (lamOf st).2.2.1 [("self", a)] c) ∧ H c = some (CodeE c q) ∧ FrzC H a (.ref o) ∧ H o = some (.ins C dx (fB w h l cc d)) ∧
  ∀ p, H p = none → Q (.ref p) (upd H p (.tup [.int (g w h (x, y)).1, .int (g w h (x, y)).2]))
theorem lam_end {H : Hp} {a p : Addr} {u : HO} {Q : VK} (hp : unfs H [("self", a)] p = none) (q : ∀ p, H p = none → Q (.ref p) (upd H p u)) : (∀ q ∈ [(("self" : Str), a)], upd (unfs H [("self", a)]) p u q.2 = none) → Q (.ref p) (refs H (upd (unfs H [("self", a)]) p u) [("self", a)]) := by
  intro z
  rw [refs_new z]
  refine q p ?_
  have n : p ∉ ([(("self" : Str), a)]).map (·.2) := fun e => by
    have e' : p = a := by simpa using e
    have := z ("self", a) (by simp)
    rw [← e', upd_same] at this; cases this
  rw [unfs_ne n] at hp; exact hp
theorem unf_o {H : Hp} {a o C dx : Addr} {fs : List (Str × V)} {v : V} (hF : FrzC H a v) (ho : H o = some (.ins C dx fs)) : unfs H [("self", a)] o = some (.ins C dx fs) := by
  obtain ⟨ob, e, _⟩ := hF
  rw [unfs_ne (fun z => by
    have z' : o = a := by simpa using z
    rw [z', e] at ho; cases ho)]
  exact ho
theorem calls_T (T : Txt K mg t) (f c a : Addr) : Calls P w K mg base 2 f (spLam t.c_Board f c a qT s_Board_turned fun _ h => tn2 h) := by
  intro A outer s H us vs Q hr e0 r h
  obtain ⟨x, y, o, dx, cc, d, w', h', l', rfl, hf, hc, hF, ho, q⟩ := h
  refine lam_call (k := 1) (lamScope1 (ps := ["x", "y"]) (n := "self") rfl rfl rfl (by decide +kernel) (by decide +kernel) (by decide +kernel) rfl) (fun pm ct us hl => match us, hl with | [_, _], _ => rfl) hr e0 r rfl hf hc (.cons hF .nil) fun hr2 => ?_
  refine ⟨_, (pe_tup (pa_cons (pe_op op_sub (pe_op op_sub (pe_fld (pv 2) rfl) pe_int) (pv 1)) (pa_cons (pv 0) pa_nil))), ?_⟩
  refine ⟨_, rfl, o, _, dx, _, .int h', rfl, unf_o hF ho, T.cl_Board, T.na_Board_high, rfl, (h' : Int), 1, rfl, rfl, _, rfl, (h' : Int) - 1, y, rfl, rfl, _, rfl, (by show 2 ≤ sizeLine; decide), fun p hp => lam_end hp q⟩
theorem calls_M (T : Txt K mg t) (f c a : Addr) : Calls P w K mg base 2 f (spLam t.c_Board f c a qM s_Board_mirrored fun w _ => mr2 w) := by
  intro A outer s H us vs Q hr e0 r h
  obtain ⟨x, y, o, dx, cc, d, w', h', l', rfl, hf, hc, hF, ho, q⟩ := h
  refine lam_call (k := 1) (lamScope1 (ps := ["x", "y"]) (n := "self") rfl rfl rfl (by decide +kernel) (by decide +kernel) (by decide +kernel) rfl) (fun pm ct us hl => match us, hl with | [_, _], _ => rfl) hr e0 r rfl hf hc (.cons hF .nil) fun hr2 => ?_
  refine ⟨_, (pe_tup (pa_cons (pe_op op_sub (pe_op op_sub (pe_fld (pv 2) rfl) pe_int) (pv 0)) (pa_cons (pv 1) pa_nil))), ?_⟩
  refine ⟨_, rfl, o, _, dx, _, .int w', rfl, unf_o hF ho, T.cl_Board, T.na_Board_wide, rfl, (w' : Int), 1, rfl, rfl, _, rfl, (w' : Int) - 1, x, rfl, rfl, _, rfl, (by show 2 ≤ sizeLine; decide), fun p hp => lam_end hp q⟩
end
end K13
namespace K13
open PySem L2 Wd TS
theorem none_of {H H' : Hp} (s : Same H H') {b : Addr} (n : H' b = none) : H b = none := by
  cases e : H b with
  | none => rfl
  | some u => rw [s _ _ e] at n; cases n
theorem map_of_keys {α : Type} {f : α → List Key} {ks : List (List Key)} {l : List α} (p : ks.Perm (l.map f)) : ∃ l' : List α, ks = l'.map f ∧ l'.Perm l := by
  induction l generalizing ks with
  | nil => exact ⟨[], by rw [List.perm_nil.mp p]; rfl, List.Perm.refl _⟩
  | cons a l ih =>
    have ha : f a ∈ ks := p.mem_iff.mpr (by simp)
    obtain ⟨k1, k2, rfl⟩ := List.append_of_mem ha
    have q : (k1 ++ k2).Perm (l.map f) := (List.perm_middle.symm.trans p).cons_inv
    obtain ⟨l', e, pl⟩ := ih q
    obtain ⟨l1, l2, rfl, rfl, rfl⟩ := List.map_eq_append_iff.mp e.symm
    exact ⟨l1 ++ a :: l2, by simp, List.perm_middle.trans (pl.cons a)⟩
def putHs (ds : Tab) (hl : List (Int × Int)) : Tab := hl.foldl (fun t p => putK t (k2 p) (.bl true)) ds
theorem putHs_snoc (ds : Tab) (hl : List (Int × Int)) (p : Int × Int) : putHs ds (hl ++ [p]) = putK (putHs ds hl) (k2 p) (.bl true) := by
  unfold putHs; rw [List.foldl_append]; rfl
theorem putHs_keys : ∀ (hl : List (Int × Int)) (ds : Tab), (∀ kv ∈ ds, kv.2 = .bl true) → (ds.map (·.1) ++ hl.map k2).Nodup → ((putHs ds hl).map (·.1)) = ds.map (·.1) ++ hl.map k2 ∧ ∀ kv ∈ putHs ds hl, kv.2 = .bl true
  | [], ds, hv, _ => ⟨by simp [putHs], hv⟩
  | c :: r, ds, hv, n => by
    have hk : k2 c ∉ ds.map (·.1) := fun z => (List.nodup_append.mp n).2.2 _ z _ (by simp) rfl
    have e : (putK ds (k2 c) (.bl true)).map (·.1) = ds.map (·.1) ++ [k2 c] := by exact put_key_new hk
    have := putHs_keys r (putK ds (k2 c) (.bl true)) (put_val hv) (by rw [e]; simpa using n)
    rw [e] at this
    exact ⟨by show (putHs (putK ds (k2 c) (.bl true)) r).map (·.1) = _; rw [this.1]; simp, this.2⟩
theorem putHs_len (hl : List (Int × Int)) : ∀ ds : Tab, (putHs ds hl).length ≤ ds.length + hl.length := by
  induction hl with
  | nil => intro cs; exact Nat.le_refl _
  | cons c r ih =>
    intro cs
    have h1 := ih (putK cs (k2 c) (.bl true))
    have h2 := length_putK cs (k2 c) (.bl true)
    show (putHs (putK cs (k2 c) (.bl true)) r).length ≤ _
    rw [List.length_cons]; omega
section
variable {P : Program} {w : World} {K : PySem.W.Frag} {mg : Str → Option Value} {base : Heap} {t : Adr}
def PlaceOk (P : Program) (w : World) (K : PySem.W.Frag) (mg : Str → Option Value) (base : Heap) (H : Hp) (f : Addr) (g : Int × Int → Int × Int) : Prop :=
  FnH H f ∧ ∃ sp, Calls P w K mg base 2 f sp ∧ ∀ H' x y Q, Same H H' → (∀ p, H' p = none → Q (.ref p) (upd H' p (.tup [.int (g (x, y)).1, .int (g (x, y)).2]))) → sp [.int x, .int y] H' Q (fun _ _ _ => False)
theorem FnH.same {H H' : Hp} {f : Addr} (x : FnH H f) (s : Same H H') : FnH H' f := let ⟨a, b, c, d, e, g, h⟩ := x; ⟨a, b, c, d, e, g, s _ _ h⟩
def spRedrawn (P : Program) (w : World) (K : PySem.W.Frag) (mg : Str → Option Value) (base : Heap) (C : Addr) : Sp := fun vs H Q _ => ∃ (o dx c d f : Addr) (w0 h0 l w' h' : Nat) (cl : List (Int × Int × Int)) (hl : List (Int × Int)) (g : Int × Int → Int × Int), vs = [.ref o, .int w', .int h', .ref f] ∧ Bx C H o dx c d w0 h0 l cl hl ∧ Ct w0 h0 l cl hl ∧ (1 ≤ w' ∧ w' ≤ 12) ∧ (1 ≤ h' ∧ h' ≤ 12) ∧
  Lead g w0 h0 w' h' ∧ PlaceOk P w K mg base H f g ∧ ∀ o2 dx2 c2 d2 H', Same H H' → H o2 = none → H c2 = none → H d2 = none → Bx C H' o2 dx2 c2 d2 w' h' l (cl.map (g3 g)) (hl.map g) → Q (.ref o2) H'
theorem ok_Board_redrawn (T : Txt K mg t) : GoodM P w K mg base 6 t.c_Board "redrawn" ["self", "wide", "high", "place"] (spRedrawn P w K mg base t.c_Board) := by
  obtain ⟨fd, F, b⟩ := T.F_Board_redrawn
  have G_Board := ok_Board_init (P := P) (w := w) (base := base) T
  have G_Board_put := ok_Board_put (P := P) (w := w) (base := base) T
  have G_Board_drill := ok_Board_drill (P := P) (w := w) (base := base) T
  have G_Board_cells := ok_Board_cells (P := P) (w := w) (base := base) T
  have G_Board_holes := ok_Board_holes (P := P) (w := w) (base := base) T
  refine ⟨T.cl_Board, _, fd, T.M_Board_redrawn, F.okX sc_Board_redrawn (fun vs H Q E h => ?_) (fun cdv A outer s H vs Q E hr h => ?_), b⟩
  · obtain ⟨o, dx, c, d, f, w0, h0, l, w', h', cl, hl, g, rfl, _⟩ := h
    rfl
  · obtain ⟨o, dx, c, d, f, w0, h0, l, w', h', cl, hl, g, rfl, B, Cc, bw, bh, L, ⟨hF, sp, hC, hsp⟩, q⟩ := h
    refine ⟨_, (pss_cons (ps_set (i := 4) sc_Board_redrawn.nd rfl (Or.inl rfl) (pe_makeG G_Board (hr.mono (by decide)) passes_of (by rfl) (pa_cons (pv 1) (pa_cons (pv 2) (pa_cons (pe_fld (pv 0) rfl) pa_nil)))))
      (pss_cons (ps_expr (pe_methG (pv 4) G_Board_put (hr.mono (by decide)) passes_of (pa_cons (pe_comp (own := ["x", "y", "z"]) (cs_one (n := "place") (N := ["self", "wide", "high", "place", "other", "hole"]) rfl (by rfl) (by rfl) rfl (by rfl) (by decide +kernel) (by decide +kernel) (by decide +kernel)) (pi_list (pe_meth0G (mN_of G_Board_cells (hr.mono (by decide)) passes_of) (pv 0))) (fun _ _ _ _ _ => pg_tupK (K := K) (n := 3) rfl rfl (pgs_cons (pg_name (i := 6) (by show (["self", "wide", "high", "place", "other", "hole", "x", "y", "z"] : List Str).Nodup; decide +kernel) rfl (Or.inl rfl)) (pgs_cons (pg_name (i := 7) (by show (["self", "wide", "high", "place", "other", "hole", "x", "y", "z"] : List Str).Nodup; decide +kernel) rfl (Or.inl rfl)) (pgs_cons (pg_name (i := 8) (by show (["self", "wide", "high", "place", "other", "hole", "x", "y", "z"] : List Str).Nodup; decide +kernel) rfl (Or.inl rfl)) pgs_nil)))) (fun _ _ _ _ _ => pf_nil) (fun _ _ _ _ _ => (pe_op (op_catTK (K := K) rfl) (pe_callLK (k := 2) (P := P) (w := w) (K := K) (mg := mg) (base := base) rfl rfl rfl rfl rfl (pv 3) (hr.mono (by decide)) (pa_cons (pv 6) (pa_cons (pv 7) pa_nil))) (pe_tup (pa_cons (pv 8) pa_nil))))) pa_nil)))
      (pss_cons (ps_for owns_of (pi_list (pe_comp (own := ["x", "y"]) (cs_one (n := "place") (N := ["self", "wide", "high", "place", "other", "hole"]) rfl (by rfl) (by rfl) rfl (by rfl) (by decide +kernel) (by decide +kernel) (by decide +kernel)) (pi_list (pe_meth0G (m0_of G_Board_holes (hr.mono (by decide)) passes_of) (pv 0))) (fun _ _ _ _ _ => pg_tupK (K := K) (n := 2) rfl rfl (pgs_cons (pg_name (i := 6) (by show (["self", "wide", "high", "place", "other", "hole", "x", "y"] : List Str).Nodup; decide +kernel) rfl (Or.inl rfl)) (pgs_cons (pg_name (i := 7) (by show (["self", "wide", "high", "place", "other", "hole", "x", "y"] : List Str).Nodup; decide +kernel) rfl (Or.inl rfl)) pgs_nil))) (fun _ _ _ _ _ => pf_nil) (fun _ _ _ _ _ => (pe_callLK (k := 2) (P := P) (w := w) (K := K) (mg := mg) (base := base) rfl rfl rfl rfl rfl (pv 3) (hr.mono (by decide)) (pa_cons (pv 6) (pa_cons (pv 7) pa_nil)))))) (pg_name (i := 5) sc_Board_redrawn.nd rfl (Or.inl rfl)) (pss_one (ps_expr (pe_methG (pv 4) G_Board_drill (hr.mono (by decide)) passes_of (pa_cons (pe_ix ix_tup (pv 5) pe_int (fun _ _ => rfl)) (pa_cons (pe_ix ix_tup (pv 5) pe_int (fun _ _ => rfl)) pa_nil))))))
      (pss_one (ps_ret (pv 4)))))), ?_⟩
    refine ⟨_, rfl, _, rfl, _, rfl, o, _, dx, _, .int l, rfl, B.eo, T.cl_Board, T.na_Board_layers, rfl, fun o2 dx2 ho2 hdx2 ndo => ?_⟩
    refine ⟨o2, dx2, .int w', .int h', .int l, rfl, upd_same, trivial, trivial, trivial, fun w1 h1 l1 g1 g2 g3' _ _ _ c2 d2 H1 fr1 eo ec ed nc nd ncd nco ndo2 => ?_, fun n => absurd ⟨(⟨by omega, by omega⟩ : okM w' 12), (⟨by omega, by omega⟩ : okM h' 12), (⟨by have := Cc.sl; omega, by have := Cc.sl; omega⟩ : okM l 3)⟩ n⟩
    cases g1; cases g2; cases g3'
    refine ⟨rfl, ?_⟩
    refine gName_go ?_
    dsimp only
    have s1 : Same H H1 := fun b u e => fr1 b u (ne_of_none e ho2) (by rw [upd_ne (ne_of_none e ho2), upd_ne (ne_of_none e hdx2)]; exact e)
    have nc1 : H c2 = none := by
      rw [upd_ne nco, upd_ne (fun z => by rw [z, upd_same] at nc; cases nc)] at nc; exact nc
    have nd1 : H d2 = none := by
      rw [upd_ne ndo2, upd_ne (fun z => by rw [z, upd_same] at nd; cases nd)] at nd; exact nd
    have B1 := B.same s1
    have F1 := FnH.same hF s1
    have sz : cl.length ≤ sizeLine := Nat.le_trans Cc.lc (by decide)
    have szh : hl.length ≤ sizeLine := Nat.le_trans Cc.lh (by decide)
    obtain ⟨cs, hcs, tcs, pcs⟩ := B1.ec
    refine seq_gen (fun σ H' => σ = [some (.ref o), some (.int w'), some (.int h'), some (.ref f), some (.ref o2), none] ∧ Off c2 H1 H' ∧ ∃ cs2, H' c2 = some (.dT cs2) ∧ (∀ kv ∈ cs2, kv.2 = .bl true) ∧ (cs2.map (·.1)).Perm ((cl.map (g3 g)).map k3)) (fun R nx => ?_) ?_
    · refine ⟨_, rfl, o2, dx2, _, rfl, eo, rfl, _, rfl, o, dx, _, rfl, B1.eo, rfl, o, dx, c, d, w0, h0, l, cs, rfl, B1.eo, hcs, fun kv hkv => sd3 _ (pcs.mem_iff.mp (List.mem_map_of_mem hkv)), fun r bs ks hr1 ka pm up => ?_⟩
      obtain ⟨cl1, rfl, pcl⟩ := map_of_keys (pm.trans pcs)
      have s2 := same_new (o := .lst (bs.map V.ref)) (Same.refl H1) hr1
      have er : upd H1 r (.lst (bs.map V.ref)) r = some (.lst (bs.map V.ref)) := upd_same
      generalize upd H1 r (.lst (bs.map V.ref)) = H2 at s2 er ⊢
      refine ⟨r, rfl, ⟨_, SqL.of er⟩, comp_mapK (xs := cl1) k3 (fun c => k3 (g3 g c)) (by rw [pcl.length_eq]; exact sz) er (KeyAt.same ka s2) (fun r x H3 Qy Qn hx s3 er3 hy => ?_) fun D rs H3 s3 hD eD kD => ?_⟩
      · have s13 := Same.trans s2 s3
        have s03 := Same.trans s1 s13
        refine ⟨r, _, rfl, SqT.of er3, rfl, _, _, rfl, _, _, rfl, _, _, rfl, rfl, ⟨_, rfl, rfl⟩, iteT ⟨_, rfl, f, rfl, FnH.same F1 s13, _, rfl, _, rfl, FnH.same F1 s13, sp, hC, hsp H3 x.1 x.2.1 _ s03 fun p hp => ?_⟩⟩
        have s4 := same_new (o := .tup [.int (g (x.1, x.2.1)).1, .int (g (x.1, x.2.1)).2]) (Same.refl H3) hp
        have ep : upd H3 p (.tup [.int (g (x.1, x.2.1)).1, .int (g (x.1, x.2.1)).2]) p = some (.tup [.int (g (x.1, x.2.1)).1, .int (g (x.1, x.2.1)).2]) := upd_same
        generalize upd H3 p (.tup [.int (g (x.1, x.2.1)).1, .int (g (x.1, x.2.1)).2]) = H4 at s4 ep ⊢
        refine ⟨_, rfl, (by show 1 ≤ sizeLine; decide), fun p3 hp3 => ?_⟩
        have s5 := same_new (o := .tup [.int x.2.2]) (Same.refl H4) hp3
        have e5 : upd H4 p3 (.tup [.int x.2.2]) p3 = some (.tup [.int x.2.2]) := upd_same
        show ∃ _, _
        refine ⟨p, p3, _, _, rfl, rfl, SqT.of (s5 _ _ ep), SqT.of e5, by simp, (by show 3 ≤ sizeLine; decide), fun z => (by cases z), fun _ p4 hp4 => hy p4 _ (Same.trans s4 (Same.trans s5 (same_new (Same.refl _) hp4))) upd_same⟩
      · have s13 := Same.trans s2 s3
        have pp : (cl1.map (g3 g)).Perm (cl.map (g3 g)) := pcl.map _
        have hcl : Cells H3 rs (cl1.map (g3 g)) := Cells.of_key (by rw [List.map_map]; exact kD)
        have nd1' : (cl1.map (g3 g)).Nodup := nodup_inj (g3_inj L.inj) (pcl.nodup_iff.mpr Cc.nc)
        have all : (cl1.map (g3 g)).all (onB w' h' l) = true := List.all_eq_true.mpr fun c hc => by
          obtain ⟨x, hx, rfl⟩ := List.mem_map.mp hc
          exact g3_on L (Cc.ic x (pcl.mem_iff.mp hx))
        have ec3 := s13 _ _ ec
        refine ⟨o2, dx2, c2, d2, D, rs, cl1.map (g3 g), w', h', l, [], rfl, s13 _ _ eo, eD, hcl, ec3, ?_, fun _ => nx _ _ ⟨rfl, fun b u n e => ?_, _, upd_same, ?_, ?_⟩, fun z => absurd all (by rw [z]; decide)⟩
        · rw [List.length_map, pcl.length_eq]
          have := Cc.lc
          show 0 + _ ≤ 1000
          omega
        · rw [upd_ne n]; exact s13 _ _ e
        · exact (putAll_keys (cl1.map (g3 g)) [] (fun kv h => absurd h (by simp)) (by simpa using nodup_inj (fun a b => k3_inj) nd1')).2
        · rw [(putAll_keys (cl1.map (g3 g)) [] (fun kv h => absurd h (by simp)) (by simpa using nodup_inj (fun a b => k3_inj) nd1')).1]
          exact pp.map k3
    · rintro σ H2 ⟨rfl, off2, cs2, hc2, tc2, pc2⟩
      have dc : d2 ≠ c2 := Ne.symm ncd
      have noc : ∀ {b : Addr} {u : HO}, H b = some u → b ≠ c2 := fun e => ne_of_none e nc1
      have s02 : Same H H2 := fun b u e => off2 b u (noc e) (s1 _ _ e)
      have B2 := B.same s02
      have eo2 : H2 o2 = _ := off2 _ _ (Ne.symm nco) eo
      have ed2 : H2 d2 = _ := off2 _ _ dc ed
      obtain ⟨ds, hds, tds, pds⟩ := B2.ed
      refine seq_gen (fun σ H' => (∃ v, σ = [some (.ref o), some (.int w'), some (.int h'), some (.ref f), some (.ref o2), v]) ∧ Off d2 H2 H' ∧ ∃ ds2, H' d2 = some (.dT ds2) ∧ (∀ kv ∈ ds2, kv.2 = .bl true) ∧ (ds2.map (·.1)).Perm ((hl.map g).map k2)) (fun R nx => ?_) ?_
      · refine ⟨_, rfl, o, dx, _, rfl, B2.eo, rfl, o, dx, c, d, w0, h0, l, ds, rfl, B2.eo, hds, fun kv hkv => sd2 _ (pds.mem_iff.mp (List.mem_map_of_mem hkv)), fun r bs ks hr1 ka pm up => ?_⟩
        obtain ⟨hl1, rfl, phl⟩ := map_of_keys (pm.trans pds)
        have s3 := same_new (o := .lst (bs.map V.ref)) (Same.refl H2) hr1
        have er : upd H2 r (.lst (bs.map V.ref)) r = some (.lst (bs.map V.ref)) := upd_same
        generalize upd H2 r (.lst (bs.map V.ref)) = H3 at s3 er ⊢
        refine ⟨r, rfl, ⟨_, SqL.of er⟩, comp_mapK (xs := hl1) k2 (fun c => k2 (g c)) (by rw [phl.length_eq]; exact szh) er (KeyAt.same ka s3) (fun r x H4 Qy Qn hx s4 er4 hy => ?_) fun D rs H4 s4 hD eD kD => ?_⟩
        · have s04 := Same.trans s02 (Same.trans s3 s4)
          exact ⟨r, _, rfl, SqT.of er4, rfl, _, _, rfl, _, _, rfl, rfl, ⟨_, rfl, rfl⟩, iteT ⟨_, rfl, f, rfl, FnH.same hF s04, _, rfl, _, rfl, FnH.same hF s04, sp, hC, hsp H4 x.1 x.2 _ s04 fun p hp => hy p _ (same_new (Same.refl _) hp) upd_same⟩⟩
        · have s24 := Same.trans s3 s4
          have ed4 := s24 _ _ ed2
          have kD' : KeyAt H4 rs ((hl1.map g).map k2) := by rw [List.map_map]; exact kD
          have nd1' : (hl1.map g).Nodup := nodup_inj L.inj (phl.nodup_iff.mpr Cc.nh)
          have on : ∀ p ∈ hl1.map g, (inB p.1 w' && inB p.2 h') = true := fun p hp => by
            obtain ⟨x, hx, rfl⟩ := List.mem_map.mp hp
            exact L.on x (Cc.ih x (phl.mem_iff.mp hx))
          have ln : (hl1.map g).length ≤ 150 := by rw [List.length_map, phl.length_eq]; exact Cc.lh
          have pp : (hl1.map g).Perm (hl.map g) := phl.map _
          generalize hl1.map g = hl2 at kD' nd1' on ln pp
          have lrs : rs.length = hl2.length := by rw [kD'.1, List.length_map]
          have Dd : D ≠ d2 := ne_of eD ed4 (by intro z; cases z)
          refine ⟨D, rfl, ⟨_, SqL.of eD⟩, for_list (xs := rs.map V.ref) (fun i σ H' => (∃ v, σ = [some (.ref o), some (.int w'), some (.int h'), some (.ref f), some (.ref o2), v]) ∧ Off d2 H4 H' ∧ H' d2 = some (.dT (putHs [] (hl2.take i)))) ⟨⟨_, rfl⟩, fun b u _ e => e, ed4⟩ (fun i σ H' _ ⟨_, f, _⟩ => SqL.of (f _ _ Dd eD)) ?_ ?_⟩
          · rintro i v σ H5 hx ⟨⟨v5, rfl⟩, f5, e5⟩
            rw [List.getElem?_map] at hx
            obtain ⟨p, hx1, rfl⟩ := Option.map_eq_some_iff.mp hx
            have hi : i < hl2.length := by rw [← lrs]; exact (List.getElem?_eq_some_iff.mp hx1).1
            have hs := List.getElem?_eq_getElem hi
            have ep := kD'.2 i p _ hx1 (by rw [List.getElem?_map, hs]; rfl)
            have pd : p ≠ d2 := ne_of ep ed4 (by intro z; cases z)
            have S : SqT K H5 p [.int hl2[i].1, .int hl2[i].2] := SqT.of (f5 _ _ pd ep)
            have eo5 : H5 o2 = _ := f5 _ _ (Ne.symm ndo2) (s24 _ _ eo2)
            have hln := putHs_len (hl2.take i) []
            rw [List.length_take] at hln
            refine ⟨_, rfl, o2, dx2, _, rfl, eo5, rfl, _, rfl, p, _, 0, .int hl2[i].1, rfl, rfl, S, rfl, _, rfl, p, _, 1, .int hl2[i].2, rfl, rfl, S, rfl, o2, dx2, c2, d2, w', h', l, hl2[i].1, hl2[i].2, _, rfl, eo5, e5, (by simp at hln; omega), fun _ q hq => ⟨⟨_, rfl⟩, fun b u n e => ?_, ?_⟩, fun z => absurd (on _ (List.getElem_mem hi)) (by rw [z]; decide)⟩
            · rw [upd_ne n, upd_ne (ne_of_none (f5 _ _ n e) hq)]; exact f5 _ _ n e
            · rw [upd_same, List.take_add_one, hs]
              show _ = some (HO.dT (putHs [] (hl2.take i ++ [hl2[i]])))
              rw [putHs_snoc]; rfl
          · rintro σ H5 ⟨⟨v5, rfl⟩, f5, e5⟩
            rw [List.length_map, lrs, List.take_length] at e5
            have kk := putHs_keys hl2 [] (fun kv h => absurd h (by simp)) (by simpa using nodup_inj (fun a b => k2_inj) nd1')
            refine nx _ _ ⟨⟨_, rfl⟩, fun b u n e => f5 b u n (s24 _ _ e), _, e5, kk.2, ?_⟩
            rw [kk.1]
            exact pp.map k2
      · rintro σ H3 ⟨⟨v, rfl⟩, f3, ds2, e3, td3, pd3⟩
        have s03 : Same H H3 := fun b u e => f3 b u (ne_of_none e nd1) (s02 _ _ e)
        exact ⟨_, rfl, q o2 dx2 c2 d2 H3 s03 ho2 nc1 nd1 ⟨f3 _ _ (Ne.symm ndo2) eo2, ⟨cs2, f3 _ _ ncd hc2, tc2, pc2⟩, ⟨ds2, e3, td3, pd3⟩, ncd⟩⟩
end
end K13
namespace K13
open PySem L2 Wd TS
def Tabs (t : Adr) (H : Hp) : Prop := Tbl H t.pl_Board_turned (lamOf s_Board_turned).2.2.2 qT ∧ Tbl H t.pl_Board_mirrored (lamOf s_Board_mirrored).2.2.2 qM ∧ t.pl_Board_turned ≠ t.pl_Board_mirrored
theorem Tabs.same {t : Adr} {H H' : Hp} (x : Tabs t H) (s : Same H H') : Tabs t H' := ⟨x.1.same s, x.2.1.same s, x.2.2⟩
theorem Tbl.unf {H : Hp} {P a : Addr} {oc : Obj} {pos : Pos} {qual : Str} (x : Tbl H P pos qual) (e : H a = some (FrzO a oc)) : Tbl (unf H a) P pos qual := by
  obtain ⟨ps, hP, tr, k⟩ := x
  refine ⟨ps, by rw [unf_ne (fun z => by rw [z, e] at hP; cases hP)]; exact hP, tr, ?_⟩
  rcases k with k | ⟨c, k, hc⟩
  · exact .inl k
  · exact .inr ⟨c, k, by rw [unf_ne (fun z => by rw [z, e] at hc; cases hc)]; exact hc⟩
theorem Bx.unf {C : Addr} {H : Hp} {o dx c d a : Addr} {oc : Obj} {w h l : Nat} {cl : List (Int × Int × Int)} {hl : List (Int × Int)} (B : Bx C H o dx c d w h l cl hl) (e : H a = some (FrzO a oc)) : Bx C (unf H a) o dx c d w h l cl hl := by
  obtain ⟨cs, hc, rc⟩ := B.ec
  obtain ⟨ds, hd, rd⟩ := B.ed
  have ho := B.eo
  exact ⟨by rw [unf_ne (fun z => by rw [z, e] at ho; cases ho)]; exact ho, ⟨cs, by rw [unf_ne (fun z => by rw [z, e] at hc; cases hc)]; exact hc, rc⟩, ⟨ds, by rw [unf_ne (fun z => by rw [z, e] at hd; cases hd)]; exact hd, rd⟩, B.ne⟩
theorem sm_unf {H H1 H' : Hp} {a : Addr} {oc : Obj} (s : Sm H H1) (hn : H1 a = none) (s2 : Same (upd H1 a (FrzO a oc)) H') : Sm H (unf H' a) := by
  have k : ∀ b u, H1 b = some u → unf H' a b = some u := fun b u e => by
    have n := ne_of_none e hn
    rw [unf_ne n]; exact s2 _ _ (by rw [upd_ne n]; exact e)
  exact ⟨fun b u n e => k b u (s.1 b u n e), fun b ps e => let ⟨ps', e'⟩ := s.2 b ps e; ⟨ps', k b _ e'⟩⟩
section
variable {P : Program} {w : World} {K : PySem.W.Frag} {mg : Str → Option Value} {base : Heap} {t : Adr}
def spTurned (t : Adr) : Sp := fun vs H Q _ => ∃ (o dx c d : Addr) (w h l : Nat) (cl : List (Int × Int × Int)) (hl : List (Int × Int)), vs = [.ref o] ∧ Bx t.c_Board H o dx c d w h l cl hl ∧ Ct w h l cl hl ∧ Tabs t H ∧
  ∀ o2 dx2 c2 d2 H', Sm H H' → Tabs t H' → H o2 = none → H c2 = none → H d2 = none → Bx t.c_Board H' o2 dx2 c2 d2 h w l (cl.map (g3 (tn2 h))) (hl.map (tn2 h)) → Q (.ref o2) H'
theorem ok_Board_turned (T : Txt K mg t) (hB : BMod mg base) : GoodM P w K mg base 7 t.c_Board "turned" ["self"] (spTurned t) := by
  obtain ⟨fd, F, b⟩ := T.F_Board_turned
  have G_Board_redrawn := ok_Board_redrawn (P := P) (w := w) (base := base) T
  refine ⟨T.cl_Board, _, fd, T.M_Board_turned, F.okX sc_Board_turned (fun vs H Q E h => ?_) (fun A outer s H vs Q E hr h => ?_), b⟩
  · obtain ⟨o, dx, c, d, w, h, l, cl, hl, rfl, _⟩ := h
    rfl
  · obtain ⟨o, dx, c, d, w', h', l, cl, hl, rfl, B, Cc, tb, q⟩ := h
    refine ⟨_, (pss_one (ps_ret (pe_methF (i := 0) (y := "self") (pv 0) G_Board_redrawn (hr.mono (by decide)) (pa_cons (pe_fld (pv 0) rfl) (pa_cons (pe_fld (pv 0) rfl) (pa_cons (pe_lam1 (n := "self") (c0 := t.cd_Board_turned) (P := t.pl_Board_turned) rfl rfl (by rfl) rfl T.hd_Board_turned hB) pa_nil))) rfl rfl rfl rfl))), ?_⟩
    refine ⟨_, rfl, o, dx, _, rfl, B.eo, rfl, _, rfl, o, _, dx, _, .int h', rfl, B.eo, T.cl_Board, T.na_Board_high, rfl, _, rfl, o, _, dx, _, .int w', rfl, B.eo, T.cl_Board, T.na_Board_wide, rfl, tb.1, fun cc f H1 off tb1 hf ef ecc => ⟨_, rfl, fun hn oc hoc => ?_⟩⟩
    obtain ⟨ps, hP, _⟩ := id tb.1
    obtain ⟨ps1, hP1, _⟩ := id tb1
    have sm1 : Sm H H1 := off.sm hP hP1
    have s2 := same_new (o := FrzO (s.heap.objs.size + 1) oc) (Same.refl H1) hn
    have tabs1 : Tabs t H1 := ⟨tb1, tb.2.1.off off (Ne.symm tb.2.2) hP, tb.2.2⟩
    have ea : upd H1 (s.heap.objs.size + 1) (FrzO (s.heap.objs.size + 1) oc) (s.heap.objs.size + 1) = some (FrzO (s.heap.objs.size + 1) oc) := upd_same
    refine ⟨o, dx, c, d, f, w', h', l, h', w', cl, hl, tn2 h', rfl, (B.sm sm1).same s2, Cc, Cc.sh, Cc.sw, lead_tn w' h', ⟨⟨_, _, _, _, _, _, s2 _ _ ef⟩, _, calls_T T f cc _, fun H' x y Q s3 k => ⟨x, y, o, dx, c, d, w', h', l, rfl, s3 _ _ (s2 _ _ ef), s3 _ _ (s2 _ _ ecc), ⟨oc, s3 _ _ upd_same, hoc⟩, (((B.sm sm1).same s2).same s3).eo, k⟩⟩, fun o2 dx2 c2 d2 H' s3 n1 n2 n3 B2 => ?_⟩
    have eF := s3 _ _ ea
    have tabs3 := (tabs1.same s2).same s3
    exact q o2 dx2 c2 d2 _ (sm_unf sm1 hn s3) ⟨Tbl.unf tabs3.1 eF, Tbl.unf tabs3.2.1 eF, tb.2.2⟩ (sm1.none (none_of s2 n1)) (sm1.none (none_of s2 n2)) (sm1.none (none_of s2 n3)) (B2.unf eF)
def spMirrored (t : Adr) : Sp := fun vs H Q _ => ∃ (o dx c d : Addr) (w h l : Nat) (cl : List (Int × Int × Int)) (hl : List (Int × Int)), vs = [.ref o] ∧ Bx t.c_Board H o dx c d w h l cl hl ∧ Ct w h l cl hl ∧ Tabs t H ∧
  ∀ o2 dx2 c2 d2 H', Sm H H' → Tabs t H' → H o2 = none → H c2 = none → H d2 = none → Bx t.c_Board H' o2 dx2 c2 d2 w h l (cl.map (g3 (mr2 w))) (hl.map (mr2 w)) → Q (.ref o2) H'
theorem ok_Board_mirrored (T : Txt K mg t) (hB : BMod mg base) : GoodM P w K mg base 7 t.c_Board "mirrored" ["self"] (spMirrored t) := by
  obtain ⟨fd, F, b⟩ := T.F_Board_mirrored
  have G_Board_redrawn := ok_Board_redrawn (P := P) (w := w) (base := base) T
  refine ⟨T.cl_Board, _, fd, T.M_Board_mirrored, F.okX sc_Board_mirrored (fun vs H Q E h => ?_) (fun A outer s H vs Q E hr h => ?_), b⟩
  · obtain ⟨o, dx, c, d, w, h, l, cl, hl, rfl, _⟩ := h
    rfl
  · obtain ⟨o, dx, c, d, w', h', l, cl, hl, rfl, B, Cc, tb, q⟩ := h
    refine ⟨_, (pss_one (ps_ret (pe_methF (i := 0) (y := "self") (pv 0) G_Board_redrawn (hr.mono (by decide)) (pa_cons (pe_fld (pv 0) rfl) (pa_cons (pe_fld (pv 0) rfl) (pa_cons (pe_lam1 (n := "self") (c0 := t.cd_Board_mirrored) (P := t.pl_Board_mirrored) rfl rfl (by rfl) rfl T.hd_Board_mirrored hB) pa_nil))) rfl rfl rfl rfl))), ?_⟩
    refine ⟨_, rfl, o, dx, _, rfl, B.eo, rfl, _, rfl, o, _, dx, _, .int w', rfl, B.eo, T.cl_Board, T.na_Board_wide, rfl, _, rfl, o, _, dx, _, .int h', rfl, B.eo, T.cl_Board, T.na_Board_high, rfl, tb.2.1, fun cc f H1 off tb1 hf ef ecc => ⟨_, rfl, fun hn oc hoc => ?_⟩⟩
    obtain ⟨ps, hP, _⟩ := id tb.2.1
    obtain ⟨ps1, hP1, _⟩ := id tb1
    have sm1 : Sm H H1 := off.sm hP hP1
    have s2 := same_new (o := FrzO (s.heap.objs.size + 1) oc) (Same.refl H1) hn
    have tabs1 : Tabs t H1 := ⟨tb.1.off off tb.2.2 hP, tb1, tb.2.2⟩
    have ea : upd H1 (s.heap.objs.size + 1) (FrzO (s.heap.objs.size + 1) oc) (s.heap.objs.size + 1) = some (FrzO (s.heap.objs.size + 1) oc) := upd_same
    refine ⟨o, dx, c, d, f, w', h', l, w', h', cl, hl, mr2 w', rfl, (B.sm sm1).same s2, Cc, Cc.sw, Cc.sh, lead_mr w' h', ⟨⟨_, _, _, _, _, _, s2 _ _ ef⟩, _, calls_M T f cc _, fun H' x y Q s3 k => ⟨x, y, o, dx, c, d, w', h', l, rfl, s3 _ _ (s2 _ _ ef), s3 _ _ (s2 _ _ ecc), ⟨oc, s3 _ _ upd_same, hoc⟩, (((B.sm sm1).same s2).same s3).eo, k⟩⟩, fun o2 dx2 c2 d2 H' s3 n1 n2 n3 B2 => ?_⟩
    have eF := s3 _ _ ea
    have tabs3 := (tabs1.same s2).same s3
    exact q o2 dx2 c2 d2 _ (sm_unf sm1 hn s3) ⟨Tbl.unf tabs3.1 eF, Tbl.unf tabs3.2.1 eF, tb.2.2⟩ (sm1.none (none_of s2 n1)) (sm1.none (none_of s2 n2)) (sm1.none (none_of s2 n3)) (B2.unf eF)
end
end K13
namespace K13
open PySem L2 Wd TS
def mx1 (c k : Int) : Int := (c % 2147483647 + 7919 * k + 1) * 48271 % 2147483647
def mx2 (n : Int) : Int := n * (n / 1009 + 69621) % 2147483647
def mx3 (n k : Int) : Int := (n + 104729 * k) % 2147483647 * (n / 2003 + 16807) % 2147483647
def mixF (c k : Int) : Int := mx3 (mx2 (mx1 c k)) k
def drF (c k : Int) : Int := Builtin.bitOr (mixF c k / 5) (mixF c (k + 50) / 7 * (c % 2))
def rowsF (c : Int) (w : Nat) (b : Bool) : Nat → Int × List Int
  | 0 => (c, [])
  | k + 1 => if b = true ∨ ((rowsF c w b k).1 = 0 ∧ c ≠ 0) then ((rowsF c w b k).1, (rowsF c w b k).2 ++ [drF c k % (1 * 2 ^ w)]) else ((rowsF c w b k).1 / 2 ^ w, (rowsF c w b k).2 ++ [(rowsF c w b k).1 % (1 * 2 ^ w)])
theorem rowsF_len (c : Int) (w : Nat) (b : Bool) : ∀ k, (rowsF c w b k).2.length = k
  | 0 => rfl
  | k + 1 => by
    unfold rowsF
    split
    · rw [List.length_append, rowsF_len c w b k]; rfl
    · rw [List.length_append, rowsF_len c w b k]; rfl
section
variable {P : Program} {w : World} {K : PySem.W.Frag} {mg : Str → Option Value} {base : Heap} {t : Adr}
def spMixed : Sp := fun vs H Q _ => ∃ c k : Int, vs = [.int c, .int k] ∧ Q (.int (mixF c k)) H
theorem ok_law_mixed (T : Txt K mg t) : GoodF P w K mg base 1 "_law_mixed" ["_law_cell", "_law_k"] spMixed := by
  obtain ⟨fd, F, b⟩ := T.F_law_mixed
  refine ⟨_, fd, F.okX sc_law_mixed (fun vs H Q E h => ?_) (fun cdv A outer s H vs Q E hr h => ?_), b, F.kp, T.g__law_mixed⟩
  · obtain ⟨c, k, rfl, _⟩ := h
    rfl
  · obtain ⟨c, k, rfl, q⟩ := h
    refine ⟨_, (pss_cons (ps_set (i := 2) sc_law_mixed.nd rfl (Or.inl rfl) (pe_op op_mod (pe_op op_mul (pe_op op_add (pe_op op_add (pe_op op_mod (pv 0) pe_int) (pe_op op_mul pe_int (pv 1))) pe_int) pe_int) pe_int))
      (pss_cons (ps_set (i := 2) sc_law_mixed.nd rfl (Or.inl rfl) (pe_op op_mod (pe_op op_mul (pv 2) (pe_op op_add (pe_op op_fdiv (pv 2) pe_int) pe_int)) pe_int))
      (pss_one (ps_ret (pe_op op_mod (pe_op op_mul (pe_op op_mod (pe_op op_add (pv 2) (pe_op op_mul pe_int (pv 1))) pe_int) (pe_op op_add (pe_op op_fdiv (pv 2) pe_int) pe_int)) pe_int))))), ?_⟩
    have pos : (0 : Int) < 2147483647 := by decide
    have bd : ∀ a : Int, -(2 ^ 64) < a % 2147483647 ∧ a % 2147483647 < 2 ^ 64 := fun a => by omega
    unfold mixF at q
    refine ⟨_, rfl, c, 2147483647, rfl, rfl, pos, _, rfl, 7919, k, rfl, rfl, .inl ⟨by decide, by decide⟩, _, _, rfl, rfl, _, 1, rfl, rfl, _, 48271, rfl, rfl, .inr ⟨by decide, by decide⟩, _, 2147483647, rfl, rfl, pos, ?_⟩
    refine gName_go ?_
    dsimp only
    have b1 : -(2 ^ 64) < mx1 c k ∧ mx1 c k < 2 ^ 64 := bd _
    show tSeq _ _ _ ([some (.int c), some (.int k), some (.int (mx1 c k))]) H
    generalize mx1 c k = n1 at q b1 ⊢
    refine ⟨_, rfl, _, rfl, _, 1009, rfl, rfl, ⟨by decide, by decide⟩, _, 69621, rfl, rfl, _, _, rfl, rfl, .inl b1, _, 2147483647, rfl, rfl, pos, ?_⟩
    refine gName_go ?_
    dsimp only
    show tRet _ _ ([some (.int c), some (.int k), some (.int (mx2 n1))]) H
    generalize mx2 n1 = n2 at q ⊢
    exact ⟨_, rfl, _, rfl, 104729, k, rfl, rfl, .inl ⟨by decide, by decide⟩, _, _, rfl, rfl, _, 2147483647, rfl, rfl, pos, _, rfl, _, 2003, rfl, rfl, ⟨by decide, by decide⟩, _, 16807, rfl, rfl, _, _, rfl, rfl, .inl (bd _), _, 2147483647, rfl, rfl, pos, q⟩
def spRows : Sp := fun vs H Q _ => ∃ (c : Int) (n w : Nat) (b : Bool), vs = [.int c, .int n, .int w, .bl b] ∧ n ≤ 40 ∧ w ≤ 12 ∧ ∀ (p : Addr) (H' : Hp), Same H H' → H p = none → H' p = some (.lst ((rowsF c w b n).2.map V.int)) → Q (.ref p) H'
theorem ok_law_rows (T : Txt K mg t) : GoodF P w K mg base 2 "_law_rows" ["_law_cell", "_law_many", "_law_wide", "_law_mixed_here"] spRows := by
  obtain ⟨fd, F, b⟩ := T.F_law_rows
  have G_law_mixed := ok_law_mixed (P := P) (w := w) (base := base) T
  refine ⟨_, fd, F.okX sc_law_rows (fun vs H Q E h => ?_) (fun cdv A outer s H vs Q E hr h => ?_), b, F.kp, T.g__law_rows⟩
  · obtain ⟨c, n, w, b, rfl, _⟩ := h
    rfl
  · obtain ⟨c, n, w, b, rfl, hn, hw, q⟩ := h
    refine ⟨_, (pss_cons (ps_set (i := 4) sc_law_rows.nd rfl (Or.inl rfl) (pe_lst pa_nil))
      (pss_cons (ps_set (i := 5) sc_law_rows.nd rfl (Or.inl rfl) (pv 0))
      (pss_cons (ps_for owns_of (pi_range1 rfl T.n_range (pa_cons (pv 1) pa_nil)) (pg_name (i := 6) sc_law_rows.nd rfl (Or.inl rfl)) (pss_cons (ps_set (i := 7) sc_law_rows.nd rfl (Or.inl rfl) (pv 5))
      (pss_cons (ps_if (pw_or (pt_val (pv 3)) (pw_or1 (pw_and (pt_cmpR op_eq (pv 5) pe_int (nomark _)) (pw_and1 (pt_cmpR op_ne (pv 0) pe_int (nomark _)))).pt)).pt (pss_one (ps_set (i := 7) sc_law_rows.nd rfl (Or.inl rfl) (pe_op op_or (pe_op op_fdiv (pe_callG G_law_mixed (hr.mono (by decide)) passes_of (by rfl) (pa_cons (pv 0) (pa_cons (pv 6) pa_nil))) pe_int) (pe_op op_mul (pe_op op_fdiv (pe_callG G_law_mixed (hr.mono (by decide)) passes_of (by rfl) (pa_cons (pv 0) (pa_cons (pe_op op_add (pv 6) pe_int) pa_nil))) pe_int) (pe_op op_mod (pv 0) pe_int))))) (pss_one (ps_set (i := 5) sc_law_rows.nd rfl (Or.inl rfl) (pe_op op_shr (pv 5) (pv 2)))))
      (pss_one (ps_expr (pe_bm PySem.F.plainAttrs_list PySem.F.slot_list_append PySem.F.type_list_append mt_append (pv 4) (pa_cons (pe_op op_mod (pv 7) (pe_op op_shl pe_int (pv 2))) pa_nil)))))))
      (pss_one (ps_ret (pv 4)))))), ?_⟩
    refine ⟨(by show 0 ≤ sizeLine; omega), fun p hp => ?_⟩
    refine ⟨_, rfl, ?_⟩
    have s1 : Same H (upd H p (.lst [])) := same_new (Same.refl H) hp
    refine ⟨_, rfl, (n : Int), rfl, by omega, by omega, for_range (fun k σ H' => ∃ v6 v7, σ = [some (.int c), some (.int n), some (.int w), some (.bl b), some (.ref p), some (.int (rowsF c w b k).1), v6, v7] ∧ Same H H' ∧ H' p = some (.lst ((rowsF c w b k).2.map V.int))) ⟨_, _, rfl, s1, upd_same⟩ ?_ ?_⟩
    · rintro k σ H2 hk ⟨v6, v7, rfl, s2, e2⟩
      rw [Int.toNat_natCast] at hk
      have e0 : (0 : Int) + (k : Int) = (k : Int) := by omega
      rw [e0]
      have ll := rowsF_len c w b k
      refine ⟨_, rfl, ?_⟩
      refine gName_go ?_
      dsimp only
      refine seq_gen (fun σ H' => ∃ rest' draw, σ = [some (.int c), some (.int n), some (.int w), some (.bl b), some (.ref p), some (.int rest'), some (.int (k : Int)), some (.int draw)] ∧ H' = H2 ∧ rowsF c w b (k + 1) = (rest', (rowsF c w b k).2 ++ [draw % (1 * 2 ^ w)])) (fun B nx => ?_) ?_
      · have two : (0 : Int) < 2 := by decide
        cases b with
        | true =>
          refine ⟨_, rfl, true, rfl, iteT ?_⟩
          exact ⟨_, rfl, _, rfl, c, _, rfl, ⟨_, 5, rfl, rfl, ⟨by decide, by decide⟩, _, rfl, _, rfl, _, 50, rfl, rfl, c, _, rfl, ⟨_, 7, rfl, rfl, ⟨by decide, by decide⟩, _, rfl, c, 2, rfl, rfl, two, _, _, rfl, rfl, .inr ⟨by omega, by omega⟩, _, _, rfl, rfl, nx _ _ ⟨_, drF c k, rfl, rfl, by show (if _ then _ else _) = _; rw [if_pos (.inl rfl)]⟩⟩⟩⟩
        | false =>
          refine ⟨_, rfl, false, rfl, iteF ⟨_, rfl, rfl, _, rfl, iteD (fun g1 => ⟨_, rfl, rfl, _, rfl, iteNB (fun g2 => ?_) fun g2 => ?_⟩) fun g1 => ?_⟩⟩
          · have h1 : (rowsF c w false k).1 = 0 := V.int.inj g1
            have h2 : c ≠ 0 := fun z => of_decide_eq_false g2 (congrArg V.int z)
            exact ⟨_, rfl, _, rfl, c, _, rfl, ⟨_, 5, rfl, rfl, ⟨by decide, by decide⟩, _, rfl, _, rfl, _, 50, rfl, rfl, c, _, rfl, ⟨_, 7, rfl, rfl, ⟨by decide, by decide⟩, _, rfl, c, 2, rfl, rfl, two, _, _, rfl, rfl, .inr ⟨by omega, by omega⟩, _, _, rfl, rfl, nx _ _ ⟨_, drF c k, rfl, rfl, by show (if _ then _ else _) = _; rw [if_pos (.inr ⟨h1, h2⟩)]⟩⟩⟩⟩
          · have h2 : c = 0 := V.int.inj (of_decide_eq_true g2)
            exact ⟨_, rfl, _, rfl, _, (w : Int), rfl, rfl, (by show (0 : Int) ≤ w; omega), nx _ _ ⟨_, _, rfl, rfl, by show (if _ then _ else _) = _; rw [if_neg (fun z => z.elim (fun e => Bool.noConfusion e) fun e => e.2 h2)]; rfl⟩⟩
          · have h1 : (rowsF c w false k).1 ≠ 0 := fun z => g1 (congrArg V.int z)
            exact ⟨_, rfl, _, rfl, _, (w : Int), rfl, rfl, (by show (0 : Int) ≤ w; omega), nx _ _ ⟨_, _, rfl, rfl, by show (if _ then _ else _) = _; rw [if_neg (fun z => z.elim (fun e => Bool.noConfusion e) fun e => h1 e.1)]; rfl⟩⟩
      · rintro σ H3 ⟨rest', draw, rfl, rfl, er⟩
        have pw : (0 : Int) < 1 * 2 ^ ((w : Int)).toNat := by rw [Int.toNat_natCast, Int.one_mul]; exact Int.pow_pos (by decide)
        refine ⟨_, rfl, .inl ⟨rfl, _, SqL.of e2⟩, _, rfl, _, rfl, 1, (w : Int), rfl, rfl, ⟨by omega, by omega, by decide⟩, draw, _, rfl, rfl, pw, p, _, _, rfl, rfl, e2, ?_, _, _, by rw [er], ?_, ?_⟩
        · rw [List.length_map]; exact Nat.lt_of_le_of_lt (show (rowsF c w b k).2.length ≤ 100 by omega) (by decide)
        · exact fun b u e => by rw [upd_ne (ne_of_none e hp)]; exact s2 _ _ e
        · rw [upd_same, er, List.map_append]; rfl
    · rintro σ H2 ⟨v6, v7, rfl, s2, e2⟩
      rw [Int.toNat_natCast] at e2
      exact ⟨_, rfl, q p H2 s2 hp e2⟩
end
def bt (r : Int) (x : Nat) : Bool := decide (Builtin.bitAnd (r / 2 ^ x) 1 = 1)
def clOf (w k h : Nat) (r : Int) (n : Nat) : List (Int × Int × Int) := ((List.range n).filter (bt r)).map fun (x : Nat) => ((x : Int), ((k % h : Nat) : Int), ((k / h : Nat) : Int))
theorem clOf_len (w k h : Nat) (r : Int) (n : Nat) : (clOf w k h r n).length ≤ n := by
  unfold clOf
  rw [List.length_map]
  exact Nat.le_trans (List.length_filter_le _ _) (by simp)
theorem clOf_yes {w k h n : Nat} {r : Int} (e : bt r n = true) : clOf w k h r (n + 1) = clOf w k h r n ++ [((n : Int), ((k % h : Nat) : Int), ((k / h : Nat) : Int))] := by
  unfold clOf
  rw [List.range_succ, List.filter_append, List.map_append]
  simp [e]
theorem clOf_no {w k h n : Nat} {r : Int} (e : bt r n = false) : clOf w k h r (n + 1) = clOf w k h r n := by
  unfold clOf
  rw [List.range_succ, List.filter_append, List.map_append]
  simp [e]
def bW (sc : List Int) : Nat := (1 + sc.getD 0 0 % 12).toNat
def bH (sc : List Int) : Nat := (1 + sc.getD 0 0 / 12 % 12).toNat
def bL (sc : List Int) : Nat := (1 + sc.getD 0 0 / 144 % 3).toNat
def bM (sc : List Int) : Bool := decide (V.int (sc.getD 0 0 / 432 % 2) = V.int 1)
end K13
namespace K13
open PySem L2 Wd TS
def clF (ns : List Int) (w h : Nat) : Nat → List (Int × Int × Int)
  | 0 => []
  | k + 1 => clF ns w h k ++ clOf w k h (ns.getD k 0) w
def hoOf (k : Nat) (r : Int) (n : Nat) : List (Int × Int) := ((List.range n).filter (bt r)).map fun (x : Nat) => ((x : Int), (k : Int))
theorem hoOf_len (k : Nat) (r : Int) (n : Nat) : (hoOf k r n).length ≤ n := by
  unfold hoOf
  rw [List.length_map]
  exact Nat.le_trans (List.length_filter_le _ _) (by simp)
theorem hoOf_yes {k n : Nat} {r : Int} (e : bt r n = true) : hoOf k r (n + 1) = hoOf k r n ++ [((n : Int), (k : Int))] := by
  unfold hoOf
  rw [List.range_succ, List.filter_append, List.map_append]
  simp [e]
theorem hoOf_no {k n : Nat} {r : Int} (e : bt r n = false) : hoOf k r (n + 1) = hoOf k r n := by
  unfold hoOf
  rw [List.range_succ, List.filter_append, List.map_append]
  simp [e]
def hlF (ms : List Int) (w : Nat) : Nat → List (Int × Int)
  | 0 => []
  | k + 1 => hlF ms w k ++ hoOf k (ms.getD k 0) w
theorem clF_ct {ns : List Int} {w h l : Nat} (h1 : 1 ≤ h) : ∀ n, n ≤ h * l → (clF ns w h n).Nodup ∧ (∀ c ∈ clF ns w h n, onB w h l c = true ∧ ∃ k : Nat, k < n ∧ c.2.1 = ((k % h : Nat) : Int) ∧ c.2.2 = ((k / h : Nat) : Int)) ∧ (clF ns w h n).length ≤ w * n
  | 0, _ => ⟨List.nodup_nil, fun c hc => absurd hc (by simp [clF]), Nat.le_refl _⟩
  | n + 1, hn => by
    obtain ⟨a, b, e⟩ := clF_ct (ns := ns) (w := w) (l := l) h1 n (by omega)
    have hin : ∀ c ∈ clOf w n h (ns.getD n 0) w, ∃ x : Nat, x < w ∧ c = ((x : Int), ((n % h : Nat) : Int), ((n / h : Nat) : Int)) := fun c hc => by
      obtain ⟨x, hx, rfl⟩ := List.mem_map.mp hc
      exact ⟨x, List.mem_range.mp (List.mem_filter.mp hx).1, rfl⟩
    refine ⟨List.nodup_append.mpr ⟨a, nodup_inj (fun x y e => by injection e with e; omega) (List.nodup_range.filter _), fun x hx y hy z => ?_⟩, fun c hc => ?_, ?_⟩
    · obtain ⟨_, k, hk, e1, e2⟩ := b x hx
      obtain ⟨u, _, rfl⟩ := hin y hy
      rw [z] at e1 e2
      have q1 : (n % h : Nat) = k % h := Int.ofNat.inj e1
      have q2 : (n / h : Nat) = k / h := Int.ofNat.inj e2
      have := Nat.div_add_mod n h
      have := Nat.div_add_mod k h
      rw [q1, q2] at *
      omega
    · rcases List.mem_append.mp hc with hc | hc
      · obtain ⟨p, k, hk, r⟩ := b c hc
        exact ⟨p, k, by omega, r⟩
      · obtain ⟨x, hx, rfl⟩ := hin c hc
        refine ⟨onB_iff.mpr ⟨⟨by show (0 : Int) ≤ (x : Int); omega, by show (x : Int) < w; omega⟩, ?_, ?_⟩, n, Nat.lt_succ_self n, rfl, rfl⟩
        · have := Nat.mod_lt n (show 0 < h by omega)
          exact ⟨Int.natCast_nonneg (n % h), Int.ofNat_lt.mpr this⟩
        · have : n / h < l := (Nat.div_lt_iff_lt_mul (by omega)).mpr (by rw [Nat.mul_comm]; omega)
          exact ⟨Int.natCast_nonneg (n / h), Int.ofNat_lt.mpr this⟩
    · show (clF ns w h n ++ clOf w n h (ns.getD n 0) w).length ≤ w * (n + 1)
      rw [List.length_append, Nat.mul_add, Nat.mul_one]
      have := clOf_len w n h (ns.getD n 0) w
      omega
theorem hlF_ct {ms : List Int} {w h : Nat} : ∀ n, n ≤ h → (hlF ms w n).Nodup ∧ (∀ p ∈ hlF ms w n, (inB p.1 w && inB p.2 h) = true ∧ p.2 < (n : Int)) ∧ (hlF ms w n).length ≤ w * n
  | 0, _ => ⟨List.nodup_nil, fun c hc => absurd hc (by simp [hlF]), Nat.le_refl _⟩
  | n + 1, hn => by
    obtain ⟨a, b, e⟩ := hlF_ct (ms := ms) (w := w) (h := h) n (by omega)
    have hin : ∀ c ∈ hoOf n (ms.getD n 0) w, ∃ x : Nat, x < w ∧ c = ((x : Int), (n : Int)) := fun c hc => by
      obtain ⟨x, hx, rfl⟩ := List.mem_map.mp hc
      exact ⟨x, List.mem_range.mp (List.mem_filter.mp hx).1, rfl⟩
    refine ⟨List.nodup_append.mpr ⟨a, nodup_inj (fun x y e => by injection e with e; omega) (List.nodup_range.filter _), fun x hx y hy z => ?_⟩, fun c hc => ?_, ?_⟩
    · have := (b x hx).2
      obtain ⟨u, _, rfl⟩ := hin y hy
      rw [z] at this
      have : (n : Int) < n := this
      omega
    · rcases List.mem_append.mp hc with hc | hc
      · have := b c hc
        exact ⟨this.1, by have := this.2; omega⟩
      · obtain ⟨x, hx, rfl⟩ := hin c hc
        exact ⟨inB2_iff.mpr ⟨⟨by show (0 : Int) ≤ (x : Int); omega, by show (x : Int) < w; omega⟩, by show (0 : Int) ≤ (n : Int); omega, by show (n : Int) < h; omega⟩, by show (n : Int) < _; omega⟩
    · show (hlF ms w n ++ hoOf n (ms.getD n 0) w).length ≤ w * (n + 1)
      rw [List.length_append, Nat.mul_add, Nat.mul_one]
      have := hoOf_len n (ms.getD n 0) w
      omega
def bC (sc : List Int) : List (Int × Int × Int) := clF (rowsF (sc.getD 1 0) (bW sc) (bM sc) (bH sc * bL sc)).2 (bW sc) (bH sc) (bH sc * bL sc)
def bD (sc : List Int) : List (Int × Int) := hlF (rowsF (sc.getD 2 0) (bW sc) (bM sc) (bH sc)).2 (bW sc) (bH sc)
theorem b_sizes (sc : List Int) : (1 ≤ bW sc ∧ bW sc ≤ 12) ∧ (1 ≤ bH sc ∧ bH sc ≤ 12) ∧ 1 ≤ bL sc ∧ bL sc ≤ 3 := by unfold bW bH bL; omega
theorem b_ct (sc : List Int) : Ct (bW sc) (bH sc) (bL sc) (bC sc) (bD sc) := by
  obtain ⟨⟨w1, w2⟩, ⟨h1, h2⟩, l1, l2⟩ := b_sizes sc
  have hl : bH sc * bL sc ≤ 12 * 3 := Nat.mul_le_mul h2 l2
  obtain ⟨a1, a2, a3⟩ := clF_ct (ns := (rowsF (sc.getD 1 0) (bW sc) (bM sc) (bH sc * bL sc)).2) (w := bW sc) (l := bL sc) h1 (bH sc * bL sc) (Nat.le_refl _)
  obtain ⟨b1, b2, b3⟩ := hlF_ct (ms := (rowsF (sc.getD 2 0) (bW sc) (bM sc) (bH sc)).2) (w := bW sc) (h := bH sc) (bH sc) (Nat.le_refl _)
  exact ⟨⟨w1, w2⟩, ⟨h1, h2⟩, ⟨l1, l2⟩, a1, b1, fun c hc => (a2 c hc).1, fun p hp => (b2 p hp).1, Nat.le_trans (Nat.le_trans a3 (Nat.mul_le_mul w2 hl)) (by decide), Nat.le_trans (Nat.le_trans b3 (Nat.mul_le_mul w2 h2)) (by decide)⟩
theorem b_len (sc : List Int) : (bC sc).length ≤ 432 ∧ (bD sc).length ≤ 144 := by
  obtain ⟨⟨w1, w2⟩, ⟨h1, h2⟩, l1, l2⟩ := b_sizes sc
  have hl : bH sc * bL sc ≤ 12 * 3 := Nat.mul_le_mul h2 l2
  obtain ⟨a1, a2, a3⟩ := clF_ct (ns := (rowsF (sc.getD 1 0) (bW sc) (bM sc) (bH sc * bL sc)).2) (w := bW sc) (l := bL sc) h1 (bH sc * bL sc) (Nat.le_refl _)
  obtain ⟨b1, b2, b3⟩ := hlF_ct (ms := (rowsF (sc.getD 2 0) (bW sc) (bM sc) (bH sc)).2) (w := bW sc) (h := bH sc) (bH sc) (Nat.le_refl _)
  exact ⟨Nat.le_trans a3 (Nat.mul_le_mul w2 hl), Nat.le_trans b3 (Nat.mul_le_mul w2 h2)⟩
section
variable {P : Program} {w : World} {K : PySem.W.Frag} {mg : Str → Option Value} {base : Heap} {t : Adr}
def spLawBoard (K : PySem.W.Frag) : Sp := fun vs H Q _ => ∃ (a : Addr) (sc : List Int), vs = [.ref a] ∧ SqL K H a (sc.map V.int) ∧ sc.length ≤ 63 ∧
  ∀ (r p a1 a2 : Addr) (H' : Hp), Same H H' → H' r = some (.tup [.ref p, .ref a1, .ref a2]) → H' p = some (.tup [.int (bW sc), .int (bH sc), .int (bL sc)]) → LK H' a1 ((bC sc).map k3) → LK H' a2 ((bD sc).map k2) → Q (.ref r) H'
theorem ok_law_board (T : Txt K mg t) : GoodF P w K mg base 3 "_law_board" ["_law_script"] (spLawBoard K) := by
  obtain ⟨fd, F, b⟩ := T.F_law_board
  have G_law_cell_at := ok_law_cell_at (P := P) (w := w) (base := base) T
  have G_law_rows := ok_law_rows (P := P) (w := w) (base := base) T
  refine ⟨_, fd, F.okX sc_law_board (fun vs H Q E h => ?_) (fun cdv A outer s H vs Q E hr h => ?_), b, F.kp, T.g__law_board⟩
  · obtain ⟨a, sc, rfl, _⟩ := h
    rfl
  · obtain ⟨a, sc, rfl, ha, hsc, q⟩ := h
    refine ⟨_, (pss_cons (ps_set (i := 1) sc_law_board.nd rfl (Or.inl rfl) (pe_callG G_law_cell_at (hr.mono (by decide)) passes_of (by rfl) (pa_cons (pv 0) (pa_cons pe_int pa_nil))))
      (pss_cons (ps_set (i := 2) sc_law_board.nd rfl (Or.inr rfl) (pe_tup (pa_cons (pe_op op_add pe_int (pe_op op_mod (pv 1) pe_int)) (pa_cons (pe_op op_add pe_int (pe_op op_mod (pe_op op_fdiv (pv 1) pe_int) pe_int)) (pa_cons (pe_op op_add pe_int (pe_op op_mod (pe_op op_fdiv (pv 1) pe_int) pe_int)) pa_nil)))))
      (pss_cons (ps_set (i := 3) sc_law_board.nd rfl (Or.inl rfl) (pe_cmpR op_eq (pe_op op_mod (pe_op op_fdiv (pv 1) pe_int) pe_int) pe_int (nomark _)))
      (pss_cons (ps_set (i := 4) sc_law_board.nd rfl (Or.inl rfl) (pe_lst pa_nil))
      (pss_cons (ps_for owns_of (pi_enumL rfl rfl T.n_enumerate (pa_cons (pe_callG G_law_rows (hr.mono (by decide)) passes_of (by rfl) (pa_cons (pe_callG G_law_cell_at (hr.mono (by decide)) passes_of (by rfl) (pa_cons (pv 0) (pa_cons pe_int pa_nil))) (pa_cons (pe_op op_mul (pe_ix ix_tup (pv 2) pe_int (fun _ _ => rfl)) (pe_ix ix_tup (pv 2) pe_int (fun _ _ => rfl))) (pa_cons (pe_ix ix_tup (pv 2) pe_int (fun _ _ => rfl)) (pa_cons (pv 3) pa_nil))))) pa_nil)) (pg_tup rfl (pgs_cons (pg_name (i := 5) sc_law_board.nd rfl (Or.inr rfl)) (pgs_cons (pg_name (i := 6) sc_law_board.nd rfl (Or.inr rfl)) pgs_nil))) (pss_one (ps_set (i := 4) sc_law_board.nd rfl (Or.inl rfl) (pe_op op_cat (pv 4) (pe_comp (own := ["_law_x"]) (cs_three (n1 := "_law_size") (n2 := "_law_row") (n3 := "_law_k") (N := ["_law_script", "_law_cell", "_law_size", "_law_mixed_here", "_law_cells", "_law_k", "_law_row", "_law_holes", "_law_y"]) rfl (by rfl) (by rfl) rfl rfl rfl (by rfl) (by rfl) (by rfl) (by decide +kernel) (by decide +kernel) (by decide +kernel)) (pi_range1 rfl T.n_range (pa_cons (pe_ix ix_tup (pv 2) pe_int (fun _ _ => rfl)) pa_nil)) (fun _ _ _ _ _ => pg_name (i := 9) (by show (["_law_script", "_law_cell", "_law_size", "_law_mixed_here", "_law_cells", "_law_k", "_law_row", "_law_holes", "_law_y", "_law_x"] : List Str).Nodup; decide +kernel) rfl (Or.inl rfl)) (fun _ _ _ _ _ => pf_one (pt_cmpR op_eq (pe_op op_and (pe_op op_shr (pv 6) (pv 9)) pe_int) pe_int (nomark _))) (fun _ _ _ _ _ => (pe_tup (pa_cons (pv 9) (pa_cons (pe_op op_mod (pv 5) (pe_ix (ix_tupK (K := K) rfl) (pv 2) pe_int (fun _ _ => rfl))) (pa_cons (pe_op op_fdiv (pv 5) (pe_ix (ix_tupK (K := K) rfl) (pv 2) pe_int (fun _ _ => rfl))) pa_nil))))))))))
      (pss_cons (ps_set (i := 7) sc_law_board.nd rfl (Or.inl rfl) (pe_lst pa_nil))
      (pss_cons (ps_for owns_of (pi_enumL rfl rfl T.n_enumerate (pa_cons (pe_callG G_law_rows (hr.mono (by decide)) passes_of (by rfl) (pa_cons (pe_callG G_law_cell_at (hr.mono (by decide)) passes_of (by rfl) (pa_cons (pv 0) (pa_cons pe_int pa_nil))) (pa_cons (pe_ix ix_tup (pv 2) pe_int (fun _ _ => rfl)) (pa_cons (pe_ix ix_tup (pv 2) pe_int (fun _ _ => rfl)) (pa_cons (pv 3) pa_nil))))) pa_nil)) (pg_tup rfl (pgs_cons (pg_name (i := 8) sc_law_board.nd rfl (Or.inr rfl)) (pgs_cons (pg_name (i := 6) sc_law_board.nd rfl (Or.inr rfl)) pgs_nil))) (pss_one (ps_set (i := 7) sc_law_board.nd rfl (Or.inl rfl) (pe_op op_cat (pv 7) (pe_comp (own := ["_law_x"]) (cs_two (n1 := "_law_y") (n2 := "_law_row") (N := ["_law_script", "_law_cell", "_law_size", "_law_mixed_here", "_law_cells", "_law_k", "_law_row", "_law_holes", "_law_y"]) rfl (by rfl) (by rfl) rfl rfl (by rfl) (by rfl) (by decide +kernel) (by decide +kernel) (by decide +kernel)) (pi_range1 rfl T.n_range (pa_cons (pe_ix ix_tup (pv 2) pe_int (fun _ _ => rfl)) pa_nil)) (fun _ _ _ _ _ => pg_name (i := 9) (by show (["_law_script", "_law_cell", "_law_size", "_law_mixed_here", "_law_cells", "_law_k", "_law_row", "_law_holes", "_law_y", "_law_x"] : List Str).Nodup; decide +kernel) rfl (Or.inl rfl)) (fun _ _ _ _ _ => pf_one (pt_cmpR op_eq (pe_op op_and (pe_op op_shr (pv 6) (pv 9)) pe_int) pe_int (nomark _))) (fun _ _ _ _ _ => (pe_tup (pa_cons (pv 9) (pa_cons (pv 8) pa_nil)))))))))
      (pss_one (ps_ret (pe_tup (pa_cons (pv 2) (pa_cons (pv 4) (pa_cons (pv 7) pa_nil))))))))))))), ?_⟩
    refine ⟨_, rfl, a, sc, 0, rfl, ha, by decide, by decide, hsc, ?_⟩
    unfold bC bD bM bW bH bL at q
    show tSeq _ _ _ [some (.ref a), some (.int (sc.getD 0 0)), none, none, none, none, none, none, none] H
    have ew0 : ((1 + sc.getD 0 0 % 12).toNat : Int) = 1 + sc.getD 0 0 % 12 := by omega
    have eh0 : ((1 + sc.getD 0 0 / 12 % 12).toNat : Int) = 1 + sc.getD 0 0 / 12 % 12 := by omega
    have el0 : ((1 + sc.getD 0 0 / 144 % 3).toNat : Int) = 1 + sc.getD 0 0 / 144 % 3 := by omega
    have bw : 1 ≤ (1 + sc.getD 0 0 % 12).toNat ∧ (1 + sc.getD 0 0 % 12).toNat ≤ 12 := by omega
    have bh : 1 ≤ (1 + sc.getD 0 0 / 12 % 12).toNat ∧ (1 + sc.getD 0 0 / 12 % 12).toNat ≤ 12 := by omega
    have bl : 1 ≤ (1 + sc.getD 0 0 / 144 % 3).toNat ∧ (1 + sc.getD 0 0 / 144 % 3).toNat ≤ 3 := by omega
    generalize (1 + sc.getD 0 0 % 12).toNat = w' at q ew0 bw
    generalize (1 + sc.getD 0 0 / 12 % 12).toNat = h at q eh0 bh
    generalize (1 + sc.getD 0 0 / 144 % 3).toNat = l at q el0 bl
    generalize sc.getD 0 0 = c at q ew0 eh0 el0
    obtain ⟨w1, w12⟩ := bw
    obtain ⟨h1, h12⟩ := bh
    obtain ⟨l1, l3⟩ := bl
    have hhl : h * l ≤ 12 * 3 := Nat.mul_le_mul h12 l3
    have hl1 : h ≤ h * l := Nat.le_mul_of_pos_right h (by omega)
    refine ⟨_, rfl, c, 12, rfl, rfl, (by show (0 : Int) < 12; decide), 1, _, rfl, rfl, _, rfl, c, 12, rfl, rfl, ⟨by decide, by decide⟩, _, 12, rfl, rfl, (by show (0 : Int) < 12; decide), 1, _, rfl, rfl, _, rfl, c, 144, rfl, rfl, ⟨by decide, by decide⟩, _, 3, rfl, rfl, (by show (0 : Int) < 3; decide), 1, _, rfl, rfl, (by show 3 ≤ sizeLine; decide), fun p hp => ?_⟩
    have s1 : Same H (upd H p (.tup [.int (1 + c % 12), .int (1 + c / 12 % 12), .int (1 + c / 144 % 3)])) := same_new (Same.refl H) hp
    have e1 : upd H p (.tup [.int (1 + c % 12), .int (1 + c / 12 % 12), .int (1 + c / 144 % 3)]) p = some (.tup [.int w', .int h, .int l]) := by rw [upd_same, ew0, eh0, el0]
    show tSeq _ _ _ _ (upd H p (.tup [.int (1 + c % 12), .int (1 + c / 12 % 12), .int (1 + c / 144 % 3)]))
    generalize upd H p (.tup [.int (1 + c % 12), .int (1 + c / 12 % 12), .int (1 + c / 144 % 3)]) = H1 at s1 e1
    have T1 : ∀ {H' : Hp}, Same H1 H' → SqT K H' p [.int w', .int h, .int l] := fun s => SqT.of (s _ _ e1)
    refine ⟨_, rfl, c, 432, rfl, rfl, ⟨by decide, by decide⟩, _, 2, rfl, rfl, (by show (0 : Int) < 2; decide), rfl, ?_⟩
    refine gName_go ?_
    dsimp only
    generalize decide (V.int (c / 432 % 2) = V.int 1) = mx at q ⊢
    refine ⟨(by show 0 ≤ sizeLine; decide), fun r0 hr0 => ?_⟩
    have s2 := same_new (o := .lst []) (Same.refl H1) hr0
    have e2 : upd H1 r0 (.lst []) r0 = some (.lst []) := upd_same
    refine gName_go ?_
    dsimp only
    generalize upd H1 r0 (.lst []) = H2 at s2 e2 ⊢
    have ln := rowsF_len (sc.getD 1 0) w' mx (h * l)
    have lm := rowsF_len (sc.getD 2 0) w' mx h
    have ha2 : SqL K H2 a (sc.map V.int) := same_sqL (Same.trans s1 s2) ha
    refine seq_gen (fun σ H' => ∃ r1 v5 v6, σ = [some (.ref a), some (.int c), some (.ref p), some (.bl mx), some (.ref r1), v5, v6, none, none] ∧ Same H2 H' ∧ LK H' r1 ((clF (rowsF (sc.getD 1 0) w' mx (h * l)).2 w' h (h * l)).map k3)) (fun B nx => ?_) ?_
    · have T4 : SqT K H2 p [.int w', .int h, .int l] := T1 s2
      refine ⟨_, rfl, a, sc, 1, rfl, ha2, by decide, by decide, hsc, _, rfl, p, _, 1, .int h, rfl, rfl, T4, rfl, _, rfl, p, _, 2, .int l, rfl, rfl, T4, rfl, (h : Int), (l : Int), rfl, rfl, .inl ⟨by omega, by omega⟩, _, rfl, p, _, 0, .int w', rfl, rfl, T4, rfl, _, rfl, _, h * l, w', mx, by rw [Int.natCast_mul]; rfl, by omega, w12, fun r H5 s5 hr5 er => ?_⟩
      show ∃ _, _
      have e0 : (rowsF (sc.getD (1 : Int).toNat 0) w' mx (h * l)) = rowsF (sc.getD 1 0) w' mx (h * l) := rfl
      rw [e0] at er
      generalize (rowsF (sc.getD 1 0) w' mx (h * l)).2 = ns at ln er q nx
      refine ⟨r, rfl, ⟨_, SqL.of er⟩, for_enumL (xs := ns.map V.int) (fun k σ H' => ∃ r1 v5 v6, σ = [some (.ref a), some (.int c), some (.ref p), some (.bl mx), some (.ref r1), v5, v6, none, none] ∧ Same H5 H' ∧ LK H' r1 ((clF ns w' h k).map k3)) ⟨r0, _, _, rfl, Same.refl _, [], s5 _ _ e2, KeyAt.nil⟩ (fun k σ H' _ ⟨_, _, _, _, f, _⟩ => SqL.of (f _ _ er)) ?_ ?_⟩
      · rintro k x p7 σ H7 hx hp7 ⟨r1, v5, v6, rfl, s7, ps1, er1, k1⟩
        rw [List.getElem?_map] at hx
        obtain ⟨rr, err, rfl⟩ := Option.map_eq_some_iff.mp hx
        have hk : k < h * l := by rw [← ln]; exact (List.getElem?_eq_some_iff.mp err).1
        have erg : ns.getD k 0 = rr := by rw [List.getD_eq_getElem?_getD, err]; rfl
        have s8 := same_new (o := .tup [.int k, .int rr]) (Same.refl H7) hp7
        refine ⟨p7, _, rfl, SqT.of upd_same, rfl, _, _, rfl, _, _, rfl, rfl, ?_⟩
        show ∃ _, _
        generalize upd H7 p7 (.tup [.int k, .int rr]) = H8 at s8
        have s28 := Same.trans s5 (Same.trans s7 s8)
        have S8 : ∀ {H' : Hp}, Same H8 H' → SqT K H' p [.int w', .int h, .int l] := fun s => T1 (Same.trans s2 (Same.trans s28 s))
        refine ⟨_, rfl, _, rfl, p, _, 0, .int w', rfl, rfl, S8 (Same.refl _), rfl, (w' : Int), rfl, by omega, by omega, comp_rangeN (fun D i ys H' => ∃ ps, ys = ps.map V.ref ∧ H' D = some (.lst ys) ∧ H8 D = none ∧ Same H8 H' ∧ KeyAt H' ps ((clOf w' k h rr i).map k3) ∧ ys.length ≤ i) (by rw [Int.toNat_natCast]; exact Nat.le_trans w12 (by decide)) (fun D hD => ⟨[], rfl, upd_same, hD, same_new (Same.refl H8) hD, KeyAt.nil, Nat.le_refl _⟩) (fun D i ys H' ⟨ps, _, e, _, _, _, hl⟩ => ⟨e, hl⟩) ?_ ?_⟩
        · rintro D i ys H9 Qy Qn hi ⟨ps, rfl, eD, nD, s9, ce, hl⟩ hy hn
          have hz : (0 : Int) ≤ 0 + (i : Int) := by omega
          have ti : ((0 : Int) + (i : Int)).toNat = i := by omega
          refine ⟨⟨_, rfl, rfl⟩, _, rfl, _, rfl, rr, _, rfl, rfl, hz, _, 1, rfl, rfl, rfl, _, rfl, iteD (fun e => ?_) fun e => ?_⟩
          · have hb : bt rr i = true := decide_eq_true (by rw [ti] at e; injection e)
            refine ⟨_, rfl, _, rfl, _, rfl, p, _, 1, .int h, rfl, rfl, S8 s9, rfl, (k : Int), (h : Int), rfl, rfl, by omega, _, rfl, _, rfl, p, _, 1, .int h, rfl, rfl, S8 s9, rfl, (k : Int), (h : Int), rfl, rfl, ⟨by omega, by omega⟩, (by show 3 ≤ sizeLine; decide), fun q hq => ?_⟩
            have nDq : D ≠ q := ne_of_none eD hq
            have eD' : upd H9 q (.tup [.int (0 + (i : Int)), .int ((k : Int) % h), .int ((k : Int) / h)]) D = some (.lst (ps.map V.ref)) := by rw [upd_ne nDq]; exact eD
            refine hy _ _ eD' ⟨ps ++ [q], by rw [List.map_append]; rfl, upd_same, nD, fun b u e => ?_, ?_, ?_⟩
            · rw [upd_ne (ne_of_none e nD), upd_ne (ne_of_none (s9 _ _ e) hq)]; exact s9 _ _ e
            · rw [clOf_yes hb, List.map_append]
              refine KeyAt.wr (KeyAt.snoc (KeyAt.same ce (same_new (Same.refl _) hq)) ?_) eD' (by intro xs z; cases z)
              rw [upd_same, Int.zero_add]; rfl
            · rw [List.length_append]; exact Nat.succ_le_succ hl
          · have hb : bt rr i = false := decide_eq_false (fun z => e (by show V.int (Builtin.bitAnd (rr / 2 ^ ((0 : Int) + (i : Int)).toNat) 1) = V.int 1; rw [ti, z]))
            exact hn _ ⟨ps, rfl, eD, nD, s9, by rw [clOf_no hb]; exact ce, by omega⟩
        · rintro D ys H9 hD ⟨ps, rfl, eD, nD, s9, ce, hl⟩
          rw [Int.toNat_natCast] at ce
          have er9 := s9 _ _ (s8 _ _ er1)
          have lk := k1.1
          rw [List.length_map] at lk
          obtain ⟨_, _, lc7⟩ := clF_ct (ns := ns) (w := w') (l := l) h1 k (by omega)
          have lc8 : w' * k ≤ 12 * 36 := Nat.mul_le_mul w12 (by omega)
          refine ⟨r1, D, _, _, rfl, rfl, er9, eD, ?_, fun r2 hr2 => ?_⟩
          · rw [List.length_map]
            rw [Int.toNat_natCast] at hl
            exact Nat.le_trans (show ps1.length + (ps.map V.ref).length ≤ 1000 by omega) (by decide)
          · refine ⟨r2, _, _, rfl, fun b u e => ?_, ps1 ++ ps, by rw [upd_same, List.map_append], ?_⟩
            · have := s9 _ _ (s8 _ _ (s7 _ _ e))
              rw [upd_ne (ne_of_none this hr2)]; exact this
            · show KeyAt _ _ ((clF ns w' h k ++ clOf w' k h (ns.getD k 0) w').map k3)
              rw [erg, List.map_append]
              exact KeyAt.same (KeyAt.app (KeyAt.same k1 (Same.trans s8 s9)) ce) (same_new (Same.refl _) hr2)
      · rintro σ H7 ⟨r1, v5, v6, rfl, s7, k7⟩
        rw [List.length_map, ln] at k7
        exact nx _ _ ⟨_, _, _, rfl, Same.trans s5 s7, k7⟩
    · rintro σ H3 ⟨r1, v5, v6, rfl, s3, k3'⟩
      refine ⟨(by show 0 ≤ sizeLine; decide), fun g0 hg0 => ?_⟩
      have s4 := same_new (o := .lst []) (Same.refl H3) hg0
      have e4 : upd H3 g0 (.lst []) g0 = some (.lst []) := upd_same
      refine gName_go ?_
      dsimp only
      generalize upd H3 g0 (.lst []) = H4 at s4 e4 ⊢
      have s24 := Same.trans s3 s4
      have T4 : SqT K H4 p [.int w', .int h, .int l] := T1 (Same.trans s2 s24)
      refine seq_gen (fun σ H' => ∃ r2 v5 v6 v8, σ = [some (.ref a), some (.int c), some (.ref p), some (.bl mx), some (.ref r1), v5, v6, some (.ref r2), v8] ∧ Same H4 H' ∧ LK H' r2 ((hlF (rowsF (sc.getD 2 0) w' mx h).2 w' h).map k2)) (fun B nx => ?_) ?_
      · refine ⟨_, rfl, a, sc, 2, rfl, same_sqL (Same.trans (Same.trans s1 s2) s24) ha, by decide, by decide, hsc, _, rfl, p, _, 1, .int h, rfl, rfl, T4, rfl, _, rfl, p, _, 0, .int w', rfl, rfl, T4, rfl, _, rfl, _, h, w', mx, rfl, by omega, w12, fun r H5 s5 hr5 er => ?_⟩
        show ∃ _, _
        have e0 : (rowsF (sc.getD (2 : Int).toNat 0) w' mx h) = rowsF (sc.getD 2 0) w' mx h := rfl
        rw [e0] at er
        generalize (rowsF (sc.getD 2 0) w' mx h).2 = ms at lm er q nx
        refine ⟨r, rfl, ⟨_, SqL.of er⟩, for_enumL (xs := ms.map V.int) (fun k σ H' => ∃ r2 v5 v6 v8, σ = [some (.ref a), some (.int c), some (.ref p), some (.bl mx), some (.ref r1), v5, v6, some (.ref r2), v8] ∧ Same H5 H' ∧ LK H' r2 ((hlF ms w' k).map k2)) ⟨g0, _, _, _, rfl, Same.refl _, [], s5 _ _ e4, KeyAt.nil⟩ (fun k σ H' _ ⟨_, _, _, _, _, f, _⟩ => SqL.of (f _ _ er)) ?_ ?_⟩
        · rintro k x p7 σ H7 hx hp7 ⟨r2, v5, v6, v8, rfl, s7, ps1, er1, k1⟩
          rw [List.getElem?_map] at hx
          obtain ⟨rr, err, rfl⟩ := Option.map_eq_some_iff.mp hx
          have hk : k < h := by rw [← lm]; exact (List.getElem?_eq_some_iff.mp err).1
          have erg : ms.getD k 0 = rr := by rw [List.getD_eq_getElem?_getD, err]; rfl
          have s8 := same_new (o := .tup [.int k, .int rr]) (Same.refl H7) hp7
          refine ⟨p7, _, rfl, SqT.of upd_same, rfl, _, _, rfl, _, _, rfl, rfl, ?_⟩
          show ∃ _, _
          generalize upd H7 p7 (.tup [.int k, .int rr]) = H8 at s8
          have s48 := Same.trans s5 (Same.trans s7 s8)
          have S8 : SqT K H8 p [.int w', .int h, .int l] := T1 (Same.trans s2 (Same.trans s24 s48))
          refine ⟨_, rfl, _, rfl, p, _, 0, .int w', rfl, rfl, S8, rfl, (w' : Int), rfl, by omega, by omega, comp_rangeN (fun D i ys H' => ∃ ps, ys = ps.map V.ref ∧ H' D = some (.lst ys) ∧ H8 D = none ∧ Same H8 H' ∧ KeyAt H' ps ((hoOf k rr i).map k2) ∧ ys.length ≤ i) (by rw [Int.toNat_natCast]; exact Nat.le_trans w12 (by decide)) (fun D hD => ⟨[], rfl, upd_same, hD, same_new (Same.refl H8) hD, KeyAt.nil, Nat.le_refl _⟩) (fun D i ys H' ⟨ps, _, e, _, _, _, hl⟩ => ⟨e, hl⟩) ?_ ?_⟩
          · rintro D i ys H9 Qy Qn hi ⟨ps, rfl, eD, nD, s9, ce, hl⟩ hy hn
            have hz : (0 : Int) ≤ 0 + (i : Int) := by omega
            have ti : ((0 : Int) + (i : Int)).toNat = i := by omega
            refine ⟨⟨_, rfl, rfl⟩, _, rfl, _, rfl, rr, _, rfl, rfl, hz, _, 1, rfl, rfl, rfl, _, rfl, iteD (fun e => ?_) fun e => ?_⟩
            · have hb : bt rr i = true := decide_eq_true (by rw [ti] at e; injection e)
              refine ⟨_, rfl, _, rfl, (by show 2 ≤ sizeLine; decide), fun q hq => ?_⟩
              have nDq : D ≠ q := ne_of_none eD hq
              have eD' : upd H9 q (.tup [.int (0 + (i : Int)), .int (k : Int)]) D = some (.lst (ps.map V.ref)) := by rw [upd_ne nDq]; exact eD
              refine hy _ _ eD' ⟨ps ++ [q], by rw [List.map_append]; rfl, upd_same, nD, fun b u e => ?_, ?_, ?_⟩
              · rw [upd_ne (ne_of_none e nD), upd_ne (ne_of_none (s9 _ _ e) hq)]; exact s9 _ _ e
              · rw [hoOf_yes hb, List.map_append]
                refine KeyAt.wr (KeyAt.snoc (KeyAt.same ce (same_new (Same.refl _) hq)) ?_) eD' (by intro xs z; cases z)
                rw [upd_same, Int.zero_add]; rfl
              · rw [List.length_append]; exact Nat.succ_le_succ hl
            · have hb : bt rr i = false := decide_eq_false (fun z => e (by show V.int (Builtin.bitAnd (rr / 2 ^ ((0 : Int) + (i : Int)).toNat) 1) = V.int 1; rw [ti, z]))
              exact hn _ ⟨ps, rfl, eD, nD, s9, by rw [hoOf_no hb]; exact ce, by omega⟩
          · rintro D ys H9 hD ⟨ps, rfl, eD, nD, s9, ce, hl⟩
            rw [Int.toNat_natCast] at ce
            have er9 := s9 _ _ (s8 _ _ er1)
            have lk := k1.1
            rw [List.length_map] at lk
            obtain ⟨_, _, lc7⟩ := hlF_ct (ms := ms) (w := w') (h := h) k (by omega)
            have lc8 : w' * k ≤ 12 * 12 := Nat.mul_le_mul w12 (by omega)
            refine ⟨r2, D, _, _, rfl, rfl, er9, eD, ?_, fun r3 hr3 => ?_⟩
            · rw [List.length_map]
              rw [Int.toNat_natCast] at hl
              exact Nat.le_trans (show ps1.length + (ps.map V.ref).length ≤ 1000 by omega) (by decide)
            · refine ⟨r3, _, _, _, rfl, fun b u e => ?_, ps1 ++ ps, by rw [upd_same, List.map_append], ?_⟩
              · have := s9 _ _ (s8 _ _ (s7 _ _ e))
                rw [upd_ne (ne_of_none this hr3)]; exact this
              · show KeyAt _ _ ((hlF ms w' k ++ hoOf k (ms.getD k 0) w').map k2)
                rw [erg, List.map_append]
                exact KeyAt.same (KeyAt.app (KeyAt.same k1 (Same.trans s8 s9)) ce) (same_new (Same.refl _) hr3)
        · rintro σ H7 ⟨r2, v5, v6, v8, rfl, s7, k7⟩
          rw [List.length_map, lm] at k7
          exact nx _ _ ⟨_, _, _, _, rfl, Same.trans s5 s7, k7⟩
      · rintro σ H5 ⟨r2, v5, v6, v8, rfl, s5, k5⟩
        refine ⟨_, rfl, _, rfl, _, rfl, (by show 3 ≤ sizeLine; decide), fun r hr' => ?_⟩
        have s6 := same_new (o := .tup [.ref p, .ref r1, .ref r2]) (Same.refl H5) hr'
        have sA := Same.trans s24 (Same.trans s5 s6)
        exact q r p r1 r2 _ (Same.trans s1 (Same.trans s2 sA)) upd_same ((Same.trans s2 sA) _ _ e1) (LK.same k3' (Same.trans s4 (Same.trans s5 s6))) (LK.same k5 s6)
end
end K13
namespace K13
open PySem L2 Wd TS
section
variable {P : Program} {w : World} {K : PySem.W.Frag} {mg : Str → Option Value} {base : Heap} {t : Adr}
def spMade (K : PySem.W.Frag) (C : Addr) : Sp := fun vs H Q _ => ∃ (p a1 a2 : Addr) (w h l : Nat) (cl : List (Int × Int × Int)) (hl : List (Int × Int)), vs = [.ref p, .ref a1, .ref a2] ∧ (SqL K H p [.int w, .int h, .int l] ∨ SqT K H p [.int w, .int h, .int l]) ∧ LK H a1 (cl.map k3) ∧ LK H a2 (hl.map k2) ∧ Ct w h l cl hl ∧
  ∀ o dx c d H', Same H H' → H o = none → H c = none → H d = none → Bx C H' o dx c d w h l cl hl → Q (.ref o) H'
theorem ixS {K : PySem.W.Frag} {H : Hp} {p : Addr} {xs : List V} {i : Int} {v : V} {Q : VK} (h : SqL K H p xs ∨ SqT K H p xs) (e : atI xs i = some v) (q : Q v H) : rIxL K (.ref p) (.int i) H Q ∨ rIxT K (.ref p) (.int i) H Q := by
  rcases h with h | h
  · exact .inl ⟨p, xs, i, v, rfl, rfl, h, e, q⟩
  · exact .inr ⟨p, xs, i, v, rfl, rfl, h, e, q⟩
theorem ok_law_made (T : Txt K mg t) : GoodF P w K mg base 6 "_law_made" ["_law_size", "_law_cells", "_law_holes"] (spMade K t.c_Board) := by
  obtain ⟨fd, F, b⟩ := T.F_law_made
  have G_Board := ok_Board_init (P := P) (w := w) (base := base) T
  have G_Board_put := ok_Board_put (P := P) (w := w) (base := base) T
  have G_Board_drill := ok_Board_drill (P := P) (w := w) (base := base) T
  refine ⟨_, fd, F.okX sc_law_made (fun vs H Q E h => ?_) (fun cdv A outer s H vs Q E hr h => ?_), b, F.kp, T.g__law_made⟩
  · obtain ⟨p, a1, a2, w, h, l, cl, hl, rfl, _⟩ := h
    rfl
  · obtain ⟨p, a1, a2, w', h', l, cl, hl, rfl, hp, ⟨ps1, e1, k1⟩, ⟨ps2, e2, k2'⟩, Cc, q⟩ := h
    refine ⟨_, (pss_cons (ps_set (i := 3) sc_law_made.nd rfl (Or.inl rfl) (pe_makeG G_Board (hr.mono (by decide)) passes_of (by rfl) (pa_cons (pe_ix (ix_seqK (K := K) rfl) (pv 0) pe_int (fun _ _ => rfl)) (pa_cons (pe_ix (ix_seqK (K := K) rfl) (pv 0) pe_int (fun _ _ => rfl)) (pa_cons (pe_ix (ix_seqK (K := K) rfl) (pv 0) pe_int (fun _ _ => rfl)) pa_nil)))))
      (pss_cons (ps_expr (pe_methG (pv 3) G_Board_put (hr.mono (by decide)) passes_of (pa_cons (pv 1) pa_nil)))
      (pss_cons (ps_for owns_of (pi_list (pv 2)) (pg_tup rfl (pgs_cons (pg_name (i := 4) sc_law_made.nd rfl (Or.inl rfl)) (pgs_cons (pg_name (i := 5) sc_law_made.nd rfl (Or.inl rfl)) pgs_nil))) (pss_one (ps_expr (pe_methG (pv 3) G_Board_drill (hr.mono (by decide)) passes_of (pa_cons (pv 4) (pa_cons (pv 5) pa_nil))))))
      (pss_one (ps_ret (pv 3)))))), ?_⟩
    refine ⟨_, rfl, ixS hp (v := .int w') rfl ⟨_, rfl, ixS hp (v := .int h') rfl ⟨_, rfl, ixS hp (v := .int l) rfl fun o2 dx2 ho2 hdx2 ndo => ?_⟩⟩⟩
    refine ⟨o2, dx2, .int w', .int h', .int l, rfl, upd_same, trivial, trivial, trivial, fun w1 h1 l1 g1 g2 g3' _ _ _ c2 d2 H1 fr1 eo ec ed nc nd ncd nco ndo2 => ?_, fun n => absurd ⟨(⟨by have := Cc.sw; omega, by have := Cc.sw; omega⟩ : okM w' 12), (⟨by have := Cc.sh; omega, by have := Cc.sh; omega⟩ : okM h' 12), (⟨by have := Cc.sl; omega, by have := Cc.sl; omega⟩ : okM l 3)⟩ n⟩
    cases g1; cases g2; cases g3'
    refine ⟨rfl, ?_⟩
    refine gName_go ?_
    dsimp only
    have s1 : Same H H1 := fun b u e => fr1 b u (ne_of_none e ho2) (by rw [upd_ne (ne_of_none e ho2), upd_ne (ne_of_none e hdx2)]; exact e)
    have nc1 : H c2 = none := by
      rw [upd_ne nco, upd_ne (fun z => by rw [z, upd_same] at nc; cases nc)] at nc; exact nc
    have nd1 : H d2 = none := by
      rw [upd_ne ndo2, upd_ne (fun z => by rw [z, upd_same] at nd; cases nd)] at nd; exact nd
    have all : cl.all (onB w' h' l) = true := List.all_eq_true.mpr Cc.ic
    refine ⟨_, rfl, o2, dx2, _, rfl, eo, rfl, _, rfl, o2, dx2, c2, d2, a1, ps1, cl, w', h', l, [], rfl, eo, s1 _ _ e1, Cells.of_key (KeyAt.same k1 s1), ec, ?_, fun _ => ?_, fun z => absurd all (by rw [z]; decide)⟩
    · have := Cc.lc
      show 0 + _ ≤ 1000
      omega
    have kk := putAll_keys cl [] (fun kv h => absurd h (by simp)) (by simpa using nodup_inj (fun a b => k3_inj) Cc.nc)
    have off2 : Off c2 H1 (upd H1 c2 (.dT (putAll [] cl))) := fun b u n e => by rw [upd_ne n]; exact e
    have ec2 : upd H1 c2 (.dT (putAll [] cl)) c2 = some (.dT (putAll [] cl)) := upd_same
    generalize upd H1 c2 (.dT (putAll [] cl)) = H2 at off2 ec2 ⊢
    have s02 : Same H H2 := fun b u e => off2 b u (ne_of_none e nc1) (s1 _ _ e)
    have eo2 : H2 o2 = _ := off2 _ _ (Ne.symm nco) eo
    have ed2 : H2 d2 = _ := off2 _ _ (Ne.symm ncd) ed
    have e22 := s02 _ _ e2
    have a2d : a2 ≠ d2 := ne_of e22 ed2 (by intro z; cases z)
    have lps : ps2.length = hl.length := by rw [k2'.1, List.length_map]
    refine ⟨_, rfl, a2, rfl, ⟨_, SqL.of e22⟩, for_list (xs := ps2.map V.ref) (fun i σ H' => (∃ v4 v5, σ = [some (.ref p), some (.ref a1), some (.ref a2), some (.ref o2), v4, v5]) ∧ Off d2 H2 H' ∧ H' d2 = some (.dT (putHs [] (hl.take i)))) ⟨⟨_, _, rfl⟩, fun b u _ e => e, ed2⟩ (fun i σ H' _ ⟨_, f, _⟩ => SqL.of (f _ _ a2d e22)) ?_ ?_⟩
    · rintro i v σ H5 hx ⟨⟨v4, v5, rfl⟩, f5, e5⟩
      rw [List.getElem?_map] at hx
      obtain ⟨r, hx1, rfl⟩ := Option.map_eq_some_iff.mp hx
      have hi : i < hl.length := by rw [← lps]; exact (List.getElem?_eq_some_iff.mp hx1).1
      have hs := List.getElem?_eq_getElem hi
      have ep := s02 _ _ (k2'.2 i r _ hx1 (by rw [List.getElem?_map, hs]; rfl))
      have pd : r ≠ d2 := ne_of ep ed2 (by intro z; cases z)
      have S : SqT K H5 r [.int hl[i].1, .int hl[i].2] := SqT.of (f5 _ _ pd ep)
      have eo5 : H5 o2 = _ := f5 _ _ (Ne.symm ndo2) eo2
      have hln := putHs_len (hl.take i) []
      rw [List.length_take] at hln
      have := Cc.lh
      refine ⟨r, _, rfl, S, rfl, _, _, rfl, _, _, rfl, rfl, _, rfl, o2, dx2, _, rfl, eo5, rfl, _, rfl, _, rfl, o2, dx2, c2, d2, w', h', l, hl[i].1, hl[i].2, _, rfl, eo5, e5, (by simp at hln; omega), fun _ q hq => ⟨⟨_, _, rfl⟩, fun b u n e => ?_, ?_⟩, fun z => absurd (Cc.ih _ (List.getElem_mem hi)) (by rw [z]; decide)⟩
      · rw [upd_ne n, upd_ne (ne_of_none (f5 _ _ n e) hq)]; exact f5 _ _ n e
      · rw [upd_same, List.take_add_one, hs]
        show _ = some (HO.dT (putHs [] (hl.take i ++ [hl[i]])))
        rw [putHs_snoc]; rfl
    · rintro σ H5 ⟨⟨v4, v5, rfl⟩, f5, e5⟩
      rw [List.length_map, lps, List.take_length] at e5
      have kh := putHs_keys hl [] (fun kv h => absurd h (by simp)) (by simpa using nodup_inj (fun a b => k2_inj) Cc.nh)
      have s05 : Same H H5 := fun b u e => f5 b u (ne_of_none e nd1) (s02 _ _ e)
      exact ⟨_, rfl, q o2 dx2 c2 d2 H5 s05 ho2 nc1 nd1 ⟨f5 _ _ (Ne.symm ndo2) eo2, ⟨_, f5 _ _ ncd ec2, kk.2, by rw [kk.1]; exact List.Perm.refl _⟩, ⟨_, e5, kh.2, by rw [kh.1]; exact List.Perm.refl _⟩, ncd⟩⟩
def spTells (K : PySem.W.Frag) (C : Addr) : Sp := fun vs H Q _ => ∃ (o dx c d p a1 a2 : Addr) (w h l : Nat) (cl cl' : List (Int × Int × Int)) (hl hl' : List (Int × Int)), vs = [.ref o, .ref p, .ref a1, .ref a2] ∧ Bx C H o dx c d w h l cl hl ∧ H p = some (.tup [.int w, .int h, .int l]) ∧ LK H a1 (cl'.map k3) ∧ LK H a2 (hl'.map k2) ∧ cl.Perm cl' ∧ hl.Perm hl' ∧ ∀ H', Same H H' → Q (.bl true) H'
theorem ok_law_tells (T : Txt K mg t) : GoodF P w K mg base 2 "_law_tells" ["_law_board_here", "_law_size", "_law_cells", "_law_holes"] (spTells K t.c_Board) := by
  obtain ⟨fd, F, b⟩ := T.F_law_tells
  have G_Board_cells := ok_Board_cells (P := P) (w := w) (base := base) T
  have G_Board_holes := ok_Board_holes (P := P) (w := w) (base := base) T
  refine ⟨_, fd, F.okX sc_law_tells (fun vs H Q E h => ?_) (fun cdv A outer s H vs Q E hr h => ?_), b, F.kp, T.g__law_tells⟩
  · obtain ⟨o, dx, c, d, p, a1, a2, w, h, l, cl, cl', hl, hl', rfl, _⟩ := h
    rfl
  · obtain ⟨o, dx, c, d, p, a1, a2, w', h', l, cl, cl', hl, hl', rfl, B, hp, L1, L2', pc, ph, q⟩ := h
    refine ⟨_, (pss_cons (ps_if (pt_cmpR (op_neT hr.units0) (pe_tup (pa_cons (pe_fld (pv 0) rfl) (pa_cons (pe_fld (pv 0) rfl) (pa_cons (pe_fld (pv 0) rfl) pa_nil)))) (pv 1) (nomark _)) (pss_one (ps_ret pe_bl)) pss_nil)
      (pss_one (ps_ret (pe_and (pe_cmpR (op_eqLT hr.units) (pe_meth0G (mN_of G_Board_cells (hr.mono (by decide)) passes_of) (pv 0)) (pe_callB call_sortedL (by rfl) T.n_sorted b_sorted (pa_cons (pv 2) pa_nil)) (nomark _)) (pe_one (pe_cmpR (op_eqLT hr.units) (pe_meth0G (m0_of G_Board_holes (hr.mono (by decide)) passes_of) (pv 0)) (pe_callB call_sortedL (by rfl) T.n_sorted b_sorted (pa_cons (pv 3) pa_nil)) (nomark _))))))), ?_⟩
    refine ⟨_, rfl, o, _, dx, _, .int w', rfl, B.eo, T.cl_Board, T.na_Board_wide, rfl, _, rfl, o, _, dx, _, .int h', rfl, B.eo, T.cl_Board, T.na_Board_high, rfl, _, rfl, o, _, dx, _, .int l, rfl, B.eo, T.cl_Board, T.na_Board_layers, rfl, (by show 3 ≤ sizeLine; decide), fun p1 hp1 => ?_⟩
    have s1 := same_new (o := .tup [.int w', .int h', .int l]) (Same.refl H) hp1
    have e1 : upd H p1 (.tup [.int w', .int h', .int l]) p1 = some (.tup [.int w', .int h', .int l]) := upd_same
    show ∃ _, _
    generalize upd H p1 (.tup [.int w', .int h', .int l]) = H1 at s1 e1 ⊢
    refine ⟨_, rfl, p1, p, [(w' : Int), h', l], [(w' : Int), h', l], rfl, rfl, SqT.of e1, SqT.of (s1 _ _ hp), _, rfl, iteNB (fun z => absurd rfl (of_decide_eq_false z)) fun _ => ?_⟩
    have B1 := B.same s1
    obtain ⟨cs, hcs, tcs, pcs⟩ := B1.ec
    refine ⟨_, rfl, o, dx, _, rfl, B1.eo, rfl, o, dx, c, d, w', h', l, cs, rfl, B1.eo, hcs, fun kv hkv => sd3 _ (pcs.mem_iff.mp (List.mem_map_of_mem hkv)), fun r bs ks hr1 ka pm up => ?_⟩
    have s2 := same_new (o := .lst (bs.map V.ref)) (Same.refl H1) hr1
    have er : LK (upd H1 r (.lst (bs.map V.ref))) r ks := ⟨bs, upd_same, KeyAt.same ka s2⟩
    show ∃ _, _
    generalize upd H1 r (.lst (bs.map V.ref)) = H2 at s2 er ⊢
    obtain ⟨ps1, g1, k1⟩ := LK.same L1 (Same.trans s1 s2)
    refine ⟨_, rfl, a1, ps1, _, _, rfl, g1, k1, sd3, by decide, fun r2 bs2 ks2 hr2 ka2 pm2 up2 => ?_⟩
    have s3 := same_new (o := .lst (bs2.map V.ref)) (Same.refl H2) hr2
    have er2 : LK (upd H2 r2 (.lst (bs2.map V.ref))) r2 ks2 := ⟨bs2, upd_same, KeyAt.same ka2 s3⟩
    show ∃ _, _
    generalize upd H2 r2 (.lst (bs2.map V.ref)) = H3 at s3 er2 ⊢
    have q1 : ks = ks2 := sorted_eq ((pm.trans pcs).trans ((pc.map k3).trans pm2.symm)) up up2
    subst q1
    have ik := ints_perm (pm.trans pcs) ints3
    obtain ⟨ps3, h3, T3⟩ := ((LK.same er s3).lt (K := K) ik).ex
    obtain ⟨ps4, h4, T4⟩ := (er2.lt (K := K) ik).ex
    refine ⟨r, r2, ps3, ps4, _, _, rfl, rfl, h3, h4, T3, T4, _, rfl, ?_⟩
    rw [decide_eq_true rfl]
    have s13 := Same.trans s1 (Same.trans s2 s3)
    have B3 := B.same s13
    obtain ⟨ds, hds, tds, pds⟩ := B3.ed
    refine iteT ⟨_, rfl, o, dx, _, rfl, B3.eo, rfl, o, dx, c, d, w', h', l, ds, rfl, B3.eo, hds, fun kv hkv => sd2 _ (pds.mem_iff.mp (List.mem_map_of_mem hkv)), fun r5 bs5 ks5 hr5 ka5 pm5 up5 => ?_⟩
    have s4 := same_new (o := .lst (bs5.map V.ref)) (Same.refl H3) hr5
    have er5 : LK (upd H3 r5 (.lst (bs5.map V.ref))) r5 ks5 := ⟨bs5, upd_same, KeyAt.same ka5 s4⟩
    show ∃ _, _
    generalize upd H3 r5 (.lst (bs5.map V.ref)) = H4 at s4 er5 ⊢
    have s14 := Same.trans s13 s4
    obtain ⟨ps6, g6, k6⟩ := LK.same L2' s14
    refine ⟨_, rfl, a2, ps6, _, _, rfl, g6, k6, sd2, by decide, fun r7 bs7 ks7 hr7 ka7 pm7 up7 => ?_⟩
    have s5 := same_new (o := .lst (bs7.map V.ref)) (Same.refl H4) hr7
    have er7 : LK (upd H4 r7 (.lst (bs7.map V.ref))) r7 ks7 := ⟨bs7, upd_same, KeyAt.same ka7 s5⟩
    show ∃ _, _
    generalize upd H4 r7 (.lst (bs7.map V.ref)) = H5 at s5 er7 ⊢
    have q2 : ks5 = ks7 := sorted_eq ((pm5.trans pds).trans ((ph.map k2).trans pm7.symm)) up5 up7
    subst q2
    have ih := ints_perm (pm5.trans pds) ints2
    obtain ⟨ps8, h8, T8⟩ := ((LK.same er5 s5).lt (K := K) ih).ex
    obtain ⟨ps9, h9, T9⟩ := (er7.lt (K := K) ih).ex
    refine ⟨r5, r7, ps8, ps9, _, _, rfl, rfl, h8, h9, T8, T9, ?_⟩
    rw [decide_eq_true rfl]
    exact q _ (Same.trans s14 s5)
end
end K13
namespace K13
open PySem L2 Wd TS
theorem Ct.wider {w h l w2 h2 l2 : Nat} {cl : List (Int × Int × Int)} {hl : List (Int × Int)} (C : Ct w h l cl hl) (a : w ≤ w2 ∧ w2 ≤ 12) (b : h ≤ h2 ∧ h2 ≤ 12) (c : l ≤ l2 ∧ l2 ≤ 3) : Ct w2 h2 l2 cl hl :=
  ⟨⟨by have := C.sw; omega, a.2⟩, ⟨by have := C.sh; omega, b.2⟩, ⟨by have := C.sl; omega, c.2⟩, C.nc, C.nh, fun x hx => by
    have := onB_iff.mp (C.ic x hx)
    exact onB_iff.mpr (by omega), fun x hx => by
    have := inB2_iff.mp (C.ih x hx)
    exact inB2_iff.mpr (by omega), C.lc, C.lh⟩
section
variable {P : Program} {w : World} {K : PySem.W.Frag} {mg : Str → Option Value} {base : Heap} {t : Adr}
def spUnlike (K : PySem.W.Frag) (C : Addr) : Sp := fun vs H Q _ => ∃ (o dx c d p a1 a2 : Addr) (w h l : Nat) (cl : List (Int × Int × Int)) (hl : List (Int × Int)), vs = [.ref o, .ref p, .ref a1, .ref a2] ∧ Bx C H o dx c d w h l cl hl ∧ Ct w h l cl hl ∧ H p = some (.tup [.int w, .int h, .int l]) ∧ LK H a1 (cl.map k3) ∧ LK H a2 (hl.map k2) ∧ ∀ H', Same H H' → Q (.bl true) H'
theorem ok_law_unlike (T : Txt K mg t) : GoodF P w K mg base 7 "_law_unlike" ["_law_board_here", "_law_size", "_law_cells", "_law_holes"] (spUnlike K t.c_Board) := by
  obtain ⟨fd, F, b⟩ := T.F_law_unlike
  have G_law_made := ok_law_made (P := P) (w := w) (base := base) T
  have G_Board_same_as := ok_Board_same_as (P := P) (w := w) (base := base) T
  refine ⟨_, fd, F.okX sc_law_unlike (fun vs H Q E h => ?_) (fun cdv A outer s H vs Q E hr h => ?_), b, F.kp, T.g__law_unlike⟩
  · obtain ⟨o, dx, c, d, p, a1, a2, w, h, l, cl, hl, rfl, _⟩ := h
    rfl
  · obtain ⟨o, dx, c, d, p, a1, a2, w', h', l, cl, hl, rfl, B, Cc, hp, L1, L2', q⟩ := h
    refine ⟨_, (pss_cons (ps_for owns_of (pi_range1 rfl T.n_range (pa_cons pe_int pa_nil)) (pg_name (i := 4) sc_law_unlike.nd rfl (Or.inl rfl)) (pss_cons (ps_set (i := 5) sc_law_unlike.nd rfl (Or.inl rfl) (pe_lst (pa_cons (pe_ix ix_tup (pv 1) pe_int (fun _ _ => rfl)) (pa_cons (pe_ix ix_tup (pv 1) pe_int (fun _ _ => rfl)) (pa_cons (pe_ix ix_tup (pv 1) pe_int (fun _ _ => rfl)) pa_nil)))))
      (pss_cons (ps_asg (pe_op op_add (pe_ix ix_list (pv 5) (pv 4) (fun _ _ => rfl)) pe_int) (pg_sub (pv 5) (pv 4) set_list))
      (pss_one (ps_if (pt_cmpR op_le (pe_ix ix_list (pv 5) (pv 4) (fun _ _ => rfl)) (pe_ix ix_list (pe_lst (pa_cons pe_int (pa_cons pe_int (pa_cons pe_int pa_nil)))) (pv 4) (fun _ _ => rfl)) (nomark _)) (pss_cons (ps_set (i := 6) sc_law_unlike.nd rfl (Or.inl rfl) (pe_callG G_law_made (hr.mono (by decide)) passes_of (by rfl) (pa_cons (pv 5) (pa_cons (pv 2) (pa_cons (pv 3) pa_nil)))))
      (pss_one (ps_if (pw_or (pt_val (pe_methG (pv 0) G_Board_same_as (hr.mono (by decide)) passes_of (pa_cons (pv 6) pa_nil))) (pw_or1 (pt_val (pe_methG (pv 6) G_Board_same_as (hr.mono (by decide)) passes_of (pa_cons (pv 0) pa_nil))))).pt (pss_one (ps_ret pe_bl)) pss_nil))) pss_nil)))))
      (pss_one (ps_ret pe_bl))), ?_⟩
    refine ⟨3, rfl, by decide, by decide, for_range (n := 3) (fun k σ H' => (∃ v4 v5 v6, σ = [some (.ref o), some (.ref p), some (.ref a1), some (.ref a2), v4, v5, v6]) ∧ Same H H') ⟨⟨_, _, _, rfl⟩, Same.refl _⟩ ?_ ?_⟩
    · rintro k σ H1 hk ⟨⟨v4, v5, v6, rfl⟩, s1⟩
      have S1 : SqT K H1 p [.int w', .int h', .int l] := SqT.of (s1 _ _ hp)
      refine seq_gen (fun σ H' => ∃ pm w2 h2 l2, σ = [some (.ref o), some (.ref p), some (.ref a1), some (.ref a2), some (.int (0 + (k : Int))), some (.ref pm), v6] ∧ Same H H' ∧ H' pm = some (.lst [.int ((w2 : Nat) : Int), .int ((h2 : Nat) : Int), .int ((l2 : Nat) : Int)]) ∧ w2 = w' ∧ h2 = h' ∧ l2 = l ∧ H1 pm = none) (fun R nx => ?_) ?_
      · refine ⟨_, rfl, p, _, 0, .int w', rfl, rfl, S1, rfl, _, rfl, p, _, 1, .int h', rfl, rfl, S1, rfl, _, rfl, p, _, 2, .int l, rfl, rfl, S1, rfl, (by show 3 ≤ sizeLine; decide), fun pm hpm => nx _ _ ⟨pm, w', h', l, rfl, same_new s1 hpm, upd_same, rfl, rfl, rfl, hpm⟩⟩
      rintro σ H2 ⟨pm, w2, h2, l2, rfl, s2, e2, rfl, rfl, rfl, npm⟩
      refine seq_gen (fun σ H' => ∃ w3 h3 l3 : Nat, σ = [some (.ref o), some (.ref p), some (.ref a1), some (.ref a2), some (.int (0 + (k : Int))), some (.ref pm), v6] ∧ Same H H' ∧ H' pm = some (.lst [.int (w3 : Int), .int (h3 : Int), .int (l3 : Int)]) ∧ ((k = 0 ∧ w3 = w2 + 1 ∧ h3 = h2 ∧ l3 = l2) ∨ (k = 1 ∧ w3 = w2 ∧ h3 = h2 + 1 ∧ l3 = l2) ∨ (k = 2 ∧ w3 = w2 ∧ h3 = h2 ∧ l3 = l2 + 1))) (fun R nx => ?_) ?_
      · have n0 : H pm = none := none_of s1 npm
        have kp : ∀ u, Same H (upd H2 pm u) := fun u b v e => by rw [upd_ne (ne_of_none e n0)]; exact s2 _ _ e
        match k, hk with
        | 0, _ => exact ⟨_, rfl, _, rfl, pm, _, 0, .int w2, rfl, rfl, SqL.of e2, rfl, _, 1, rfl, rfl, _, rfl, _, rfl, pm, _, 0, 0, rfl, rfl, e2, rfl, nx _ _ ⟨w2 + 1, h2, l2, rfl, kp _, upd_same, .inl ⟨rfl, rfl, rfl, rfl⟩⟩⟩
        | 1, _ => exact ⟨_, rfl, _, rfl, pm, _, 1, .int h2, rfl, rfl, SqL.of e2, rfl, _, 1, rfl, rfl, _, rfl, _, rfl, pm, _, 1, 1, rfl, rfl, e2, rfl, nx _ _ ⟨w2, h2 + 1, l2, rfl, kp _, upd_same, .inr (.inl ⟨rfl, rfl, rfl, rfl⟩)⟩⟩
        | 2, _ => exact ⟨_, rfl, _, rfl, pm, _, 2, .int l2, rfl, rfl, SqL.of e2, rfl, _, 1, rfl, rfl, _, rfl, _, rfl, pm, _, 2, 2, rfl, rfl, e2, rfl, nx _ _ ⟨w2, h2, l2 + 1, rfl, kp _, upd_same, .inr (.inr ⟨rfl, rfl, rfl, rfl⟩)⟩⟩
      rintro σ H3 ⟨w3, h3, l3, rfl, s3, e3, alt⟩
      have hm : ∃ m mx : Int, atI [V.int (w3 : Int), .int (h3 : Int), .int (l3 : Int)] (0 + (k : Int)) = some (.int m) ∧ atI [V.int 12, .int 12, .int 3] (0 + (k : Int)) = some (.int mx) ∧ (m ≤ mx → w3 ≤ 12 ∧ h3 ≤ 12 ∧ l3 ≤ 3) := by
        have := Cc.sw
        have := Cc.sh
        have := Cc.sl
        match k, hk with
        | 0, _ => exact ⟨w3, 12, rfl, rfl, fun h => by omega⟩
        | 1, _ => exact ⟨h3, 12, rfl, rfl, fun h => by omega⟩
        | 2, _ => exact ⟨l3, 3, rfl, rfl, fun h => by omega⟩
      obtain ⟨m, mx, at1, at2, hmx⟩ := hm
      refine ⟨_, rfl, _, rfl, pm, _, _, .int m, rfl, rfl, SqL.of e3, at1, (by show 3 ≤ sizeLine; decide), fun r hr' => ?_⟩
      have s4 := same_new (o := .lst [.int 12, .int 12, .int 3]) (Same.refl H3) hr'
      refine ⟨_, rfl, r, _, _, .int mx, rfl, rfl, SqL.of upd_same, at2, m, mx, rfl, rfl, _, rfl, iteD (fun hle => ?_) fun _ => ⟨⟨_, _, _, rfl⟩, Same.trans s3 s4⟩⟩
      generalize upd H3 r (.lst [.int 12, .int 12, .int 3]) = H4 at s4 ⊢
      have s04 := Same.trans s3 s4
      obtain ⟨b1, b2, b3⟩ := hmx hle
      have C3 : Ct w3 h3 l3 cl hl := Cc.wider ⟨by omega, b1⟩ ⟨by omega, b2⟩ ⟨by omega, b3⟩
      refine ⟨_, rfl, _, rfl, _, rfl, pm, a1, a2, w3, h3, l3, cl, hl, rfl, .inl (SqL.of (s4 _ _ e3)), LK.same L1 s04, LK.same L2' s04, C3, fun o2 dx2 c2 d2 H5 s5 _ _ _ B5 => ?_⟩
      have s05 := Same.trans s04 s5
      have BB := B.same s05
      have no : ∀ {x : Bool}, (x = true ↔ (w2 = w3 ∧ h2 = h3 ∧ l2 = l3) ∧ cl.Perm cl ∧ hl.Perm hl) → x = false := fun {x} i => by
        cases x with
        | false => rfl
        | true => have := (i.mp rfl).1; omega
      have no2 : ∀ {x : Bool}, (x = true ↔ (w3 = w2 ∧ h3 = h2 ∧ l3 = l2) ∧ cl.Perm cl ∧ hl.Perm hl) → x = false := fun {x} i => by
        cases x with
        | false => rfl
        | true => have := (i.mp rfl).1; omega
      refine ⟨_, rfl, o, dx, _, rfl, BB.eo, rfl, _, rfl, o, dx, c, d, o2, dx2, c2, d2, _, _, _, _, _, _, cl, cl, hl, hl, rfl, BB, B5, Cc.nc, Cc.nh, fun x H6 s6 i6 => ?_⟩
      obtain rfl := no i6
      have B6 := BB.same s6
      have B7 := B5.same s6
      refine ⟨_, rfl, iteF ⟨_, rfl, o2, dx2, _, rfl, B7.eo, rfl, _, rfl, o2, dx2, c2, d2, o, dx, c, d, _, _, _, _, _, _, cl, cl, hl, hl, rfl, B7, B6, Cc.nc, Cc.nh, fun x H7 s7 i7 => ?_⟩⟩
      obtain rfl := no2 i7
      exact ⟨_, rfl, iteF ⟨⟨_, _, _, rfl⟩, Same.trans s05 (Same.trans s6 s7)⟩⟩
    · rintro σ H1 ⟨⟨v4, v5, v6, rfl⟩, s1⟩
      exact q _ s1
end
end K13
namespace K13
open PySem L2 Wd TS
theorem un3_mem {cl : List (Int × Int × Int)} {c : Int × Int × Int} : [c.1, c.2.1, c.2.2] ∈ (cl.map k3).map (fun k => k.map unI) ↔ c ∈ cl := by
  rw [List.map_map]
  constructor
  · intro h
    obtain ⟨x, hx, e⟩ := List.mem_map.mp h
    have e' : [x.1, x.2.1, x.2.2] = [c.1, c.2.1, c.2.2] := e
    injection e' with e1 e2
    injection e2 with e2 e3
    injection e3 with e3 _
    have : x = c := Prod.ext e1 (Prod.ext e2 e3)
    rw [← this]; exact hx
  · exact fun h => List.mem_map.mpr ⟨c, h, rfl⟩
theorem un2_mem {hl : List (Int × Int)} {p : Int × Int} : [p.1, p.2] ∈ (hl.map k2).map (fun k => k.map unI) ↔ p ∈ hl := by
  rw [List.map_map]
  constructor
  · intro h
    obtain ⟨x, hx, e⟩ := List.mem_map.mp h
    have e' : [x.1, x.2] = [p.1, p.2] := e
    injection e' with e1 e2
    injection e2 with e2 _
    have : x = p := Prod.ext e1 e2
    rw [← this]; exact hx
  · exact fun h => List.mem_map.mpr ⟨p, h, rfl⟩
theorem Ct.delC {w h l : Nat} {cl : List (Int × Int × Int)} {hl : List (Int × Int)} (C : Ct w h l cl hl) (c : Int × Int × Int) : Ct w h l (delL cl c) hl :=
  ⟨C.sw, C.sh, C.sl, C.nc.filter _, C.nh, fun x hx => C.ic x (List.mem_filter.mp hx).1, C.ih, Nat.le_trans (List.length_filter_le _ _) C.lc, C.lh⟩
theorem Ct.delH {w h l : Nat} {cl : List (Int × Int × Int)} {hl : List (Int × Int)} (C : Ct w h l cl hl) (c : Int × Int) : Ct w h l cl (delL hl c) :=
  ⟨C.sw, C.sh, C.sl, C.nc, C.nh.filter _, C.ic, fun x hx => C.ih x (List.mem_filter.mp hx).1, C.lc, Nat.le_trans (List.length_filter_le _ _) C.lh⟩
theorem nodup_snoc {α : Type} {l : List α} {a : α} (n : l.Nodup) (h : a ∉ l) : (l ++ [a]).Nodup := List.nodup_append.mpr ⟨n, by simp, fun x hx y hy z => h (by rw [List.mem_singleton.mp hy] at z; exact z ▸ hx)⟩
theorem Ct.addC {w h l : Nat} {cl : List (Int × Int × Int)} {hl : List (Int × Int)} (C : Ct w h l cl hl) {c : Int × Int × Int} (n : c ∉ cl) (o : onB w h l c = true) (lc : cl.length ≤ 449) : Ct w h l (cl ++ [c]) hl :=
  ⟨C.sw, C.sh, C.sl, nodup_snoc C.nc n, C.nh, fun x hx => by
    rcases List.mem_append.mp hx with hx | hx
    · exact C.ic x hx
    · rw [List.mem_singleton.mp hx]; exact o, C.ih, by rw [List.length_append]; show _ + 1 ≤ _; omega, C.lh⟩
theorem Ct.addH {w h l : Nat} {cl : List (Int × Int × Int)} {hl : List (Int × Int)} (C : Ct w h l cl hl) {c : Int × Int} (n : c ∉ hl) (o : (inB c.1 w && inB c.2 h) = true) (lc : hl.length ≤ 149) : Ct w h l cl (hl ++ [c]) :=
  ⟨C.sw, C.sh, C.sl, C.nc, nodup_snoc C.nh n, C.ic, fun x hx => by
    rcases List.mem_append.mp hx with hx | hx
    · exact C.ih x hx
    · rw [List.mem_singleton.mp hx]; exact o, C.lc, by rw [List.length_append]; show _ + 1 ≤ _; omega⟩
theorem Bx.wrC {C : Addr} {H : Hp} {o dx c d : Addr} {w h l : Nat} {cl cl' : List (Int × Int × Int)} {hl : List (Int × Int)} {cs' : Tab} (B : Bx C H o dx c d w h l cl hl) (t : ∀ kv ∈ cs', kv.2 = .bl true) (p : (cs'.map (·.1)).Perm (cl'.map k3)) : Bx C (upd H c (.dT cs')) o dx c d w h l cl' hl := by
  obtain ⟨cs, hc, _⟩ := B.ec
  obtain ⟨ds, hd, r⟩ := B.ed
  exact ⟨by rw [upd_ne (ne_of B.eo hc (by intro z; cases z))]; exact B.eo, ⟨cs', upd_same, t, p⟩, ⟨ds, by rw [upd_ne (Ne.symm B.ne)]; exact hd, r⟩, B.ne⟩
theorem Bx.wrD {C : Addr} {H : Hp} {o dx c d : Addr} {w h l : Nat} {cl : List (Int × Int × Int)} {hl hl' : List (Int × Int)} {ds' : Tab} (B : Bx C H o dx c d w h l cl hl) (t : ∀ kv ∈ ds', kv.2 = .bl true) (p : (ds'.map (·.1)).Perm (hl'.map k2)) : Bx C (upd H d (.dT ds')) o dx c d w h l cl hl' := by
  obtain ⟨cs, hc, r⟩ := B.ec
  obtain ⟨ds, hd, _⟩ := B.ed
  exact ⟨by rw [upd_ne (ne_of B.eo hd (by intro z; cases z))]; exact B.eo, ⟨cs, by rw [upd_ne B.ne]; exact hc, r⟩, ⟨ds', upd_same, t, p⟩, B.ne⟩
theorem LK.wrT {H : Hp} {a c : Addr} {ks : List (List Key)} {u u' : Tab} (k : LK H a ks) (hc : H c = some (.dT u)) : LK (upd H c (.dT u')) a ks := by
  obtain ⟨ps, e, ka⟩ := k
  exact ⟨ps, by rw [upd_ne (ne_of e hc (by intro z; cases z))]; exact e, KeyAt.wr ka hc (by intro xs z; cases z)⟩
theorem Tbl.wrT {H : Hp} {P c : Addr} {pos : Pos} {qual : Str} {u u' : Tab} (x : Tbl H P pos qual) (hc : H c = some (.dT u)) : Tbl (upd H c (.dT u')) P pos qual := by
  obtain ⟨ps, hP, tr, k⟩ := x
  refine ⟨ps, by rw [upd_ne (ne_of hP hc (by intro z; cases z))]; exact hP, tr, ?_⟩
  rcases k with k | ⟨c', k, hc'⟩
  · exact .inl k
  · exact .inr ⟨c', k, by rw [upd_ne (ne_of hc' hc (by intro z; cases z))]; exact hc'⟩
theorem Tabs.wrT {t : Adr} {H : Hp} {c : Addr} {u u' : Tab} (x : Tabs t H) (hc : H c = some (.dT u)) : Tabs t (upd H c (.dT u')) := ⟨Tbl.wrT x.1 hc, Tbl.wrT x.2.1 hc, x.2.2⟩
section
variable {P : Program} {w : World} {K : PySem.W.Frag} {mg : Str → Option Value} {base : Heap} {t : Adr}
def spLedOn (t : Adr) : Sp := fun vs H Q _ => ∃ (o dx c d p a1 a2 : Addr) (w h l : Nat) (cl : List (Int × Int × Int)) (hl : List (Int × Int)), vs = [.ref o, .ref p, .ref a1, .ref a2] ∧ Bx t.c_Board H o dx c d w h l cl hl ∧ Ct w h l cl hl ∧ cl.length ≤ 449 ∧ hl.length ≤ 149 ∧ Tabs t H ∧ H p = some (.tup [.int w, .int h, .int l]) ∧ LK H a1 (cl.map k3) ∧ LK H a2 (hl.map k2) ∧ ∀ H', Q (.bl true) H'
theorem ok_law_led_on (T : Txt K mg t) (hB : BMod mg base) : GoodF P w K mg base 8 "_law_led_on" ["_law_board_here", "_law_size", "_law_cells", "_law_holes"] (spLedOn t) := by
  obtain ⟨fd, F, b⟩ := T.F_law_led_on
  have G_law_tells := ok_law_tells (P := P) (w := w) (base := base) T
  have G_Board_take := ok_Board_take (P := P) (w := w) (base := base) T
  have G_Board_put := ok_Board_put (P := P) (w := w) (base := base) T
  have G_Board_drill := ok_Board_drill (P := P) (w := w) (base := base) T
  have G_Board_plug := ok_Board_plug (P := P) (w := w) (base := base) T
  have G_Board_turned := ok_Board_turned (P := P) (w := w) (base := base) T hB
  have G_Board_mirrored := ok_Board_mirrored (P := P) (w := w) (base := base) T hB
  refine ⟨_, fd, F.okX sc_law_led_on (fun vs H Q E h => ?_) (fun cdv A outer s H vs Q E hr h => ?_), b, F.kp, T.g__law_led_on⟩
  · obtain ⟨o, dx, c, d, p, a1, a2, w, h, l, cl, hl, rfl, _⟩ := h
    rfl
  · obtain ⟨o, dx, c, d, p, a1, a2, w', h', l, cl, hl, rfl, B, Cc, lc, lh, tb, hp, L1, L2', q⟩ := h
    refine ⟨_, (pss_cons (ps_set (i := 4) sc_law_led_on.nd rfl (Or.inr rfl) (pe_tup (pa_cons (pe_op op_fdiv (pe_ix ix_tup (pv 1) pe_int (fun _ _ => rfl)) pe_int) (pa_cons (pe_op op_fdiv (pe_ix ix_tup (pv 1) pe_int (fun _ _ => rfl)) pe_int) (pa_cons (pe_op op_sub (pe_ix ix_tup (pv 1) pe_int (fun _ _ => rfl)) pe_int) pa_nil)))))
      (pss_cons (ps_if (pt_cmpR (op_inT hr.units) (pv 4) (pv 2) (by with_unfolding_all rfl)) (pss_cons (ps_setcomp (i := 2) sc_law_led_on.nd rfl (Or.inl rfl) (own := ["_law_one"]) (cs_one (n := "_law_cell") (N := ["_law_board_here", "_law_size", "_law_cells", "_law_holes", "_law_cell", "_law_turned", "_law_quarters", "_law_seen"]) rfl (by rfl) (by rfl) rfl (by rfl) (by decide +kernel) (by decide +kernel) (by decide +kernel)) (pi_list (pv 2)) (fun _ _ _ _ _ => pg_name (i := 8) (by show (["_law_board_here", "_law_size", "_law_cells", "_law_holes", "_law_cell", "_law_turned", "_law_quarters", "_law_seen", "_law_one"] : List Str).Nodup; decide +kernel) rfl (Or.inl rfl)) (fun _ _ _ _ _ => pf_one (pt_cmpR (op_neTK (K := K) rfl hr.units0) (pv 8) (pv 4) (nomark _))) (fun _ _ _ _ _ => (pv 8)))
      (pss_one (ps_expr (pe_methG (pv 0) G_Board_take (hr.mono (by decide)) passes_of (pa_cons (pe_lst (pa_cons (pv 4) pa_nil)) pa_nil))))) (pss_cons (ps_set (i := 2) sc_law_led_on.nd rfl (Or.inl rfl) (pe_op op_cat (pv 2) (pe_lst (pa_cons (pv 4) pa_nil))))
      (pss_one (ps_expr (pe_methG (pv 0) G_Board_put (hr.mono (by decide)) passes_of (pa_cons (pe_lst (pa_cons (pv 4) pa_nil)) pa_nil))))))
      (pss_cons (ps_if (pt_cmpR (op_inT hr.units) (pe_slice sl_tup (pv 4) po_none (po_some pe_int)) (pv 3) (by with_unfolding_all rfl)) (pss_cons (ps_setcomp (i := 3) sc_law_led_on.nd rfl (Or.inl rfl) (own := ["_law_one"]) (cs_one (n := "_law_cell") (N := ["_law_board_here", "_law_size", "_law_cells", "_law_holes", "_law_cell", "_law_turned", "_law_quarters", "_law_seen"]) rfl (by rfl) (by rfl) rfl (by rfl) (by decide +kernel) (by decide +kernel) (by decide +kernel)) (pi_list (pv 3)) (fun _ _ _ _ _ => pg_name (i := 8) (by show (["_law_board_here", "_law_size", "_law_cells", "_law_holes", "_law_cell", "_law_turned", "_law_quarters", "_law_seen", "_law_one"] : List Str).Nodup; decide +kernel) rfl (Or.inl rfl)) (fun _ _ _ _ _ => pf_one (pt_cmpR (op_neTK (K := K) rfl hr.units0) (pv 8) (pe_slice (sl_tupK (K := K) rfl) (pv 4) po_none (po_some pe_int)) (nomark _))) (fun _ _ _ _ _ => (pv 8)))
      (pss_one (ps_expr (pe_methG (pv 0) G_Board_plug (hr.mono (by decide)) passes_of (pa_cons (pe_ix ix_tup (pv 4) pe_int (fun _ _ => rfl)) (pa_cons (pe_ix ix_tup (pv 4) pe_int (fun _ _ => rfl)) pa_nil)))))) (pss_cons (ps_set (i := 3) sc_law_led_on.nd rfl (Or.inl rfl) (pe_op op_cat (pv 3) (pe_lst (pa_cons (pe_slice sl_tup (pv 4) po_none (po_some pe_int)) pa_nil))))
      (pss_one (ps_expr (pe_methG (pv 0) G_Board_drill (hr.mono (by decide)) passes_of (pa_cons (pe_ix ix_tup (pv 4) pe_int (fun _ _ => rfl)) (pa_cons (pe_ix ix_tup (pv 4) pe_int (fun _ _ => rfl)) pa_nil)))))))
      (pss_cons (ps_setcomp (i := 5) sc_law_led_on.nd rfl (Or.inl rfl) (own := ["_law_x", "_law_y", "_law_z"]) (cs_one (n := "_law_size") (N := ["_law_board_here", "_law_size", "_law_cells", "_law_holes", "_law_cell", "_law_turned", "_law_quarters", "_law_seen"]) rfl (by rfl) (by rfl) rfl (by rfl) (by decide +kernel) (by decide +kernel) (by decide +kernel)) (pi_list (pv 2)) (fun _ _ _ _ _ => pg_tupK (K := K) (n := 3) rfl rfl (pgs_cons (pg_name (i := 8) (by show (["_law_board_here", "_law_size", "_law_cells", "_law_holes", "_law_cell", "_law_turned", "_law_quarters", "_law_seen", "_law_x", "_law_y", "_law_z"] : List Str).Nodup; decide +kernel) rfl (Or.inl rfl)) (pgs_cons (pg_name (i := 9) (by show (["_law_board_here", "_law_size", "_law_cells", "_law_holes", "_law_cell", "_law_turned", "_law_quarters", "_law_seen", "_law_x", "_law_y", "_law_z"] : List Str).Nodup; decide +kernel) rfl (Or.inl rfl)) (pgs_cons (pg_name (i := 10) (by show (["_law_board_here", "_law_size", "_law_cells", "_law_holes", "_law_cell", "_law_turned", "_law_quarters", "_law_seen", "_law_x", "_law_y", "_law_z"] : List Str).Nodup; decide +kernel) rfl (Or.inl rfl)) pgs_nil)))) (fun _ _ _ _ _ => pf_nil) (fun _ _ _ _ _ => (pe_tup (pa_cons (pe_op op_sub (pe_op op_sub (pe_ix (ix_tupK (K := K) rfl) (pv 1) pe_int (fun _ _ => rfl)) pe_int) (pv 9)) (pa_cons (pv 8) (pa_cons (pv 10) pa_nil))))))
      (pss_cons (ps_setcomp (i := 6) sc_law_led_on.nd rfl (Or.inl rfl) (own := ["_law_x", "_law_y"]) (cs_one (n := "_law_size") (N := ["_law_board_here", "_law_size", "_law_cells", "_law_holes", "_law_cell", "_law_turned", "_law_quarters", "_law_seen"]) rfl (by rfl) (by rfl) rfl (by rfl) (by decide +kernel) (by decide +kernel) (by decide +kernel)) (pi_list (pv 3)) (fun _ _ _ _ _ => pg_tupK (K := K) (n := 2) rfl rfl (pgs_cons (pg_name (i := 8) (by show (["_law_board_here", "_law_size", "_law_cells", "_law_holes", "_law_cell", "_law_turned", "_law_quarters", "_law_seen", "_law_x", "_law_y"] : List Str).Nodup; decide +kernel) rfl (Or.inl rfl)) (pgs_cons (pg_name (i := 9) (by show (["_law_board_here", "_law_size", "_law_cells", "_law_holes", "_law_cell", "_law_turned", "_law_quarters", "_law_seen", "_law_x", "_law_y"] : List Str).Nodup; decide +kernel) rfl (Or.inl rfl)) pgs_nil))) (fun _ _ _ _ _ => pf_nil) (fun _ _ _ _ _ => (pe_tup (pa_cons (pe_op op_sub (pe_op op_sub (pe_ix (ix_tupK (K := K) rfl) (pv 1) pe_int (fun _ _ => rfl)) pe_int) (pv 9)) (pa_cons (pv 8) pa_nil)))))
      (pss_cons (ps_if (pt_not (pt_val (pe_callG G_law_tells (hr.mono (by decide)) passes_of (by rfl) (pa_cons (pe_meth0G (m0_of G_Board_turned (hr.mono (by decide)) passes_of) (pv 0)) (pa_cons (pe_tup (pa_cons (pe_ix ix_tup (pv 1) pe_int (fun _ _ => rfl)) (pa_cons (pe_ix ix_tup (pv 1) pe_int (fun _ _ => rfl)) (pa_cons (pe_ix ix_tup (pv 1) pe_int (fun _ _ => rfl)) pa_nil)))) (pa_cons (pv 5) (pa_cons (pv 6) pa_nil))))))) (pss_one (ps_ret pe_bl)) pss_nil)
      (pss_cons (ps_setcomp (i := 7) sc_law_led_on.nd rfl (Or.inl rfl) (own := ["_law_x", "_law_y", "_law_z"]) (cs_one (n := "_law_size") (N := ["_law_board_here", "_law_size", "_law_cells", "_law_holes", "_law_cell", "_law_turned", "_law_quarters", "_law_seen"]) rfl (by rfl) (by rfl) rfl (by rfl) (by decide +kernel) (by decide +kernel) (by decide +kernel)) (pi_list (pv 2)) (fun _ _ _ _ _ => pg_tupK (K := K) (n := 3) rfl rfl (pgs_cons (pg_name (i := 8) (by show (["_law_board_here", "_law_size", "_law_cells", "_law_holes", "_law_cell", "_law_turned", "_law_quarters", "_law_seen", "_law_x", "_law_y", "_law_z"] : List Str).Nodup; decide +kernel) rfl (Or.inl rfl)) (pgs_cons (pg_name (i := 9) (by show (["_law_board_here", "_law_size", "_law_cells", "_law_holes", "_law_cell", "_law_turned", "_law_quarters", "_law_seen", "_law_x", "_law_y", "_law_z"] : List Str).Nodup; decide +kernel) rfl (Or.inl rfl)) (pgs_cons (pg_name (i := 10) (by show (["_law_board_here", "_law_size", "_law_cells", "_law_holes", "_law_cell", "_law_turned", "_law_quarters", "_law_seen", "_law_x", "_law_y", "_law_z"] : List Str).Nodup; decide +kernel) rfl (Or.inl rfl)) pgs_nil)))) (fun _ _ _ _ _ => pf_nil) (fun _ _ _ _ _ => (pe_tup (pa_cons (pe_op op_sub (pe_op op_sub (pe_ix (ix_tupK (K := K) rfl) (pv 1) pe_int (fun _ _ => rfl)) pe_int) (pv 8)) (pa_cons (pv 9) (pa_cons (pv 10) pa_nil))))))
      (pss_one (ps_ret (pe_callG G_law_tells (hr.mono (by decide)) passes_of (by rfl) (pa_cons (pe_meth0G (m0_of G_Board_mirrored (hr.mono (by decide)) passes_of) (pv 0)) (pa_cons (pv 1) (pa_cons (pv 7) (pa_cons (pe_comp (own := ["_law_x", "_law_y"]) (cs_one (n := "_law_size") (N := ["_law_board_here", "_law_size", "_law_cells", "_law_holes", "_law_cell", "_law_turned", "_law_quarters", "_law_seen"]) rfl (by rfl) (by rfl) rfl (by rfl) (by decide +kernel) (by decide +kernel) (by decide +kernel)) (pi_list (pv 3)) (fun _ _ _ _ _ => pg_tupK (K := K) (n := 2) rfl rfl (pgs_cons (pg_name (i := 8) (by show (["_law_board_here", "_law_size", "_law_cells", "_law_holes", "_law_cell", "_law_turned", "_law_quarters", "_law_seen", "_law_x", "_law_y"] : List Str).Nodup; decide +kernel) rfl (Or.inl rfl)) (pgs_cons (pg_name (i := 9) (by show (["_law_board_here", "_law_size", "_law_cells", "_law_holes", "_law_cell", "_law_turned", "_law_quarters", "_law_seen", "_law_x", "_law_y"] : List Str).Nodup; decide +kernel) rfl (Or.inl rfl)) pgs_nil))) (fun _ _ _ _ _ => pf_nil) (fun _ _ _ _ _ => (pe_tup (pa_cons (pe_op op_sub (pe_op op_sub (pe_ix (ix_tupK (K := K) rfl) (pv 1) pe_int (fun _ _ => rfl)) pe_int) (pv 8)) (pa_cons (pv 9) pa_nil))))) pa_nil)))))))))))))), ?_⟩
    have S : SqT K H p [.int w', .int h', .int l] := SqT.of hp
    refine ⟨_, rfl, p, _, 0, .int w', rfl, rfl, S, rfl, (w' : Int), 2, rfl, rfl, ⟨by decide, by decide⟩, _, rfl, p, _, 1, .int h', rfl, rfl, S, rfl, (h' : Int), 3, rfl, rfl, ⟨by decide, by decide⟩, _, rfl, p, _, 2, .int l, rfl, rfl, S, rfl, (l : Int), 1, rfl, rfl, (by show 3 ≤ sizeLine; decide), fun p4 hp4 => ?_⟩
    have on : onB w' h' l ((w' : Int) / 2, (h' : Int) / 3, (l : Int) - 1) = true := by
      have := Cc.sw
      have := Cc.sh
      have := Cc.sl
      exact onB_iff.mpr (by simp only; omega)
    refine gName_go ?_
    dsimp only
    generalize (w' : Int) / 2 = x0 at on ⊢
    generalize (h' : Int) / 3 = y0 at on ⊢
    generalize (l : Int) - 1 = z0 at on ⊢
    have s1 := same_new (o := .tup [.int x0, .int y0, .int z0]) (Same.refl H) hp4
    have e4 : upd H p4 (.tup [.int x0, .int y0, .int z0]) p4 = some (.tup [.int x0, .int y0, .int z0]) := upd_same
    generalize upd H p4 (.tup [.int x0, .int y0, .int z0]) = H1 at s1 e4 ⊢
    have B1 := B.same s1
    have M1 := LK.same L1 s1
    have M2 := LK.same L2' s1
    have tb1 := tb.same s1
    have hp1 := s1 _ _ hp
    clear s1 B L1 L2' tb S
    refine seq_gen (fun σ H' => ∃ a3 cl', σ = [some (.ref o), some (.ref p), some (.ref a3), some (.ref a2), some (.ref p4), none, none, none] ∧ H' p = some (.tup [.int w', .int h', .int l]) ∧ H' p4 = some (.tup [.int x0, .int y0, .int z0]) ∧ Bx t.c_Board H' o dx c d w' h' l cl' hl ∧ Ct w' h' l cl' hl ∧ Tabs t H' ∧ LK H' a3 (cl'.map k3) ∧ LK H' a2 (hl.map k2)) (fun R nx => ?_) ?_
    · refine ⟨_, rfl, _, rfl, p4, a1, [x0, y0, z0], _, rfl, rfl, SqT.of e4, LK.lt M1 ints3, _, rfl, ?_⟩
      refine iteD (fun hin => ?_) fun hin => ?_
      · have hc : (x0, y0, z0) ∈ cl := un3_mem.mp hin
        obtain ⟨ps1, g1, ka1⟩ := M1
        refine ⟨_, rfl, a1, rfl, ⟨_, SqL.of g1⟩, comp_pickK (xs := cl) k3 (fun x => decide (x ≠ (x0, y0, z0))) (Nat.le_trans Cc.lc (by decide)) g1 ka1 (fun r x H3 Qy Qn hx s3 er hy hn => ?_) fun D rs H3 s3 hD eD kD => ?_⟩
        · refine ⟨⟨_, rfl, rfl⟩, _, rfl, _, rfl, r, p4, [x.1, x.2.1, x.2.2], [x0, y0, z0], rfl, rfl, SqT.of er, SqT.of (s3 _ _ e4), _, rfl, iteNB (fun z => ?_) fun z => ?_⟩
          · exact ⟨_, rfl, hy (decide_eq_true fun e => of_decide_eq_false z (by rw [e])) _ (Same.refl _)⟩
          · exact hn (decide_eq_false fun e => e (by
              have := of_decide_eq_true z
              injection this with e1 e2
              injection e2 with e2 e3
              injection e3 with e3 _
              exact Prod.ext e1 (Prod.ext e2 e3))) _ (Same.refl _)
        · have B3 := B1.same s3
          have tb3 := tb1.same s3
          have M3 : LK H3 D ((delL cl (x0, y0, z0)).map k3) := ⟨rs, eD, kD⟩
          have M4 := LK.same M2 s3
          have hp3 := s3 _ _ hp1
          have e43 := s3 _ _ e4
          refine gName_go ?_
          dsimp only
          refine ⟨_, rfl, o, dx, _, rfl, B3.eo, rfl, _, rfl, (by show 1 ≤ sizeLine; decide), fun r hr' => ?_⟩
          have s4 := same_new (o := .lst [.ref p4]) (Same.refl H3) hr'
          have er4 : upd H3 r (.lst [.ref p4]) r = some (.lst [.ref p4]) := upd_same
          show ∃ _, _
          generalize upd H3 r (.lst [.ref p4]) = H4 at s4 er4 ⊢
          have B4 := B3.same s4
          obtain ⟨cs, hcs, tcs, pcs⟩ := B4.ec
          refine ⟨o, dx, c, d, r, p4, w', h', l, x0, y0, z0, cs, rfl, B4.eo, er4, s4 _ _ e43, on, hcs, nx _ _ ⟨D, delL cl (x0, y0, z0), rfl, ?_, ?_, B4.wrC (drop_val' tcs) (drop_perm (f := k3) (a := (x0, y0, z0)) (fun a b => k3_inj) pcs), Cc.delC _, (tb3.same s4).wrT hcs, LK.wrT (LK.same M3 s4) hcs, LK.wrT (LK.same M4 s4) hcs⟩⟩
          · rw [upd_ne (ne_of (s4 _ _ hp3) hcs (by intro z; cases z))]; exact s4 _ _ hp3
          · rw [upd_ne (ne_of (s4 _ _ e43) hcs (by intro z; cases z))]; exact s4 _ _ e43
      · have hc : (x0, y0, z0) ∉ cl := fun z => hin (un3_mem.mpr z)
        obtain ⟨ps1, g1, ka1⟩ := M1
        refine ⟨_, rfl, _, rfl, (by show 1 ≤ sizeLine; decide), fun r hr' => ?_⟩
        have s2 := same_new (o := .lst [.ref p4]) (Same.refl H1) hr'
        have er2 : upd H1 r (.lst [.ref p4]) r = some (.lst [.ref p4]) := upd_same
        show ∃ _, _
        generalize upd H1 r (.lst [.ref p4]) = H2 at s2 er2 ⊢
        have lk := ka1.1
        rw [List.length_map] at lk
        refine ⟨a1, r, _, _, rfl, rfl, s2 _ _ g1, er2, ?_, fun D hD => ?_⟩
        · rw [List.length_map, lk]
          exact Nat.le_trans (show cl.length + 1 ≤ 1000 by have := Cc.lc; omega) (by decide)
        have s3 := same_new (o := .lst (ps1.map V.ref ++ [.ref p4])) (Same.refl H2) hD
        have eD : upd H2 D (.lst (ps1.map V.ref ++ [.ref p4])) D = some (.lst ((ps1 ++ [p4]).map V.ref)) := by rw [upd_same, List.map_append]; rfl
        refine gName_go ?_
        dsimp only
        generalize upd H2 D (.lst (ps1.map V.ref ++ [.ref p4])) = H3 at s3 eD ⊢
        have s13 := Same.trans s2 s3
        have B3 := B1.same s13
        have e43 := s13 _ _ e4
        have M3 : LK H3 D ((cl ++ [(x0, y0, z0)]).map k3) := ⟨ps1 ++ [p4], eD, by rw [List.map_append]; exact KeyAt.snoc (KeyAt.same ka1 s13) e43⟩
        refine ⟨_, rfl, o, dx, _, rfl, B3.eo, rfl, _, rfl, (by show 1 ≤ sizeLine; decide), fun r2 hr2 => ?_⟩
        have s4 := same_new (o := .lst [.ref p4]) (Same.refl H3) hr2
        have er4 : upd H3 r2 (.lst [.ref p4]) r2 = some (.lst [.ref p4]) := upd_same
        show ∃ _, _
        generalize upd H3 r2 (.lst [.ref p4]) = H4 at s4 er4 ⊢
        have B4 := B3.same s4
        have s14 := Same.trans s13 s4
        obtain ⟨cs, hcs, tcs, pcs⟩ := B4.ec
        have lcs : cs.length = cl.length := by have := pcs.length_eq; rw [List.length_map, List.length_map] at this; exact this
        have onl : ([(x0, y0, z0)] : List (Int × Int × Int)).all (onB w' h' l) = true := by rw [List.all_cons, on]; rfl
        have pp : ((putAll cs [(x0, y0, z0)]).map (·.1)).Perm ((cl ++ [(x0, y0, z0)]).map k3) := by
          have := put_perm (f := k3) (a := (x0, y0, z0)) (fun a b => k3_inj) pcs
          unfold addL at this
          rw [if_neg hc] at this
          exact this
        refine ⟨o, dx, c, d, r2, [p4], [(x0, y0, z0)], w', h', l, cs, rfl, B4.eo, er4, Cells.of_key (KeyAt.snoc KeyAt.nil (s4 _ _ e43)), hcs, by rw [lcs]; show _ + 1 ≤ 1000; omega, fun _ => nx _ _ ⟨D, cl ++ [(x0, y0, z0)], rfl, ?_, ?_, B4.wrC (put_val tcs) pp, Cc.addC hc on lc, (tb1.same s14).wrT hcs, LK.wrT (LK.same M3 s4) hcs, LK.wrT (LK.same M2 s14) hcs⟩, fun z => absurd onl (by rw [z]; decide)⟩
        · rw [upd_ne (ne_of (s14 _ _ hp1) hcs (by intro z; cases z))]; exact s14 _ _ hp1
        · rw [upd_ne (ne_of (s4 _ _ e43) hcs (by intro z; cases z))]; exact s4 _ _ e43
    · rintro σ H2 ⟨a3, cl2, rfl, hp2, e42, B2, C2, tb2, N1, N2⟩
      have sl : ∀ {H' : Hp} {Q' : VK}, H' p4 = some (.tup [.int x0, .int y0, .int z0]) → (∀ p5, H' p5 = none → Q' (.ref p5) (upd H' p5 (.tup [.int x0, .int y0]))) → rSlT K (.ref p4) none (some 2) H' Q' := fun e k => ⟨p4, _, rfl, SqT.of e, (by show ¬ (HT.sIx 3 0 none = 0 ∧ HT.sIx 3 3 (some 2) = 3); decide), fun p5 h5 => k p5 h5⟩
      refine seq_gen (fun σ H' => ∃ a4 hl', σ = [some (.ref o), some (.ref p), some (.ref a3), some (.ref a4), some (.ref p4), none, none, none] ∧ H' p = some (.tup [.int w', .int h', .int l]) ∧ Bx t.c_Board H' o dx c d w' h' l cl2 hl' ∧ Ct w' h' l cl2 hl' ∧ Tabs t H' ∧ LK H' a3 (cl2.map k3) ∧ LK H' a4 (hl'.map k2)) (fun R nx => ?_) ?_
      · refine ⟨_, rfl, 2, rfl, sl e42 fun p5 h5 => ?_⟩
        have s3 := same_new (o := .tup [.int x0, .int y0]) (Same.refl H2) h5
        have e5 : upd H2 p5 (.tup [.int x0, .int y0]) p5 = some (.tup [.int x0, .int y0]) := upd_same
        show ∃ _, _
        generalize upd H2 p5 (.tup [.int x0, .int y0]) = H3 at s3 e5 ⊢
        have B3 := B2.same s3
        have tb3 := tb2.same s3
        have M1 := LK.same N1 s3
        have M2 := LK.same N2 s3
        have e43 := s3 _ _ e42
        have hp3 := s3 _ _ hp2
        have on2 : (inB (x0, y0).1 w' && inB (x0, y0).2 h') = true := by
          have := onB_iff.mp on
          exact inB2_iff.mpr ⟨this.1, this.2.1⟩
        refine ⟨_, rfl, p5, a2, [x0, y0], _, rfl, rfl, SqT.of e5, LK.lt M2 ints2, _, rfl, ?_⟩
        refine iteD (fun hin => ?_) fun hin => ?_
        · have hc : (x0, y0) ∈ hl := un2_mem.mp hin
          obtain ⟨ps1, g1, ka1⟩ := M2
          refine ⟨_, rfl, a2, rfl, ⟨_, SqL.of g1⟩, comp_pickK (xs := hl) k2 (fun x => decide (x ≠ (x0, y0))) (Nat.le_trans Cc.lh (by decide)) g1 ka1 (fun r x H4 Qy Qn hx s4 er hy hn => ?_) fun D rs H4 s4 hD eD kD => ?_⟩
          · refine ⟨⟨_, rfl, rfl⟩, _, rfl, _, rfl, 2, rfl, sl (s4 _ _ e43) fun p6 h6 => ?_⟩
            have s5 := same_new (o := .tup [.int x0, .int y0]) (Same.refl H4) h6
            refine ⟨r, p6, [x.1, x.2], [x0, y0], rfl, rfl, SqT.of (s5 _ _ er), SqT.of upd_same, _, rfl, iteNB (fun z => ?_) fun z => ?_⟩
            · exact ⟨_, rfl, hy (decide_eq_true fun e => of_decide_eq_false z (by rw [e])) _ s5⟩
            · exact hn (decide_eq_false fun e => e (by
                have := of_decide_eq_true z
                injection this with e1 e2
                injection e2 with e2 _
                exact Prod.ext e1 e2)) _ s5
          · have B4 := B3.same s4
            have tb4 := tb3.same s4
            have M3 : LK H4 D ((delL hl (x0, y0)).map k2) := ⟨rs, eD, kD⟩
            have M4 := LK.same M1 s4
            have hp4' := s4 _ _ hp3
            have S4 : SqT K H4 p4 [.int x0, .int y0, .int z0] := SqT.of (s4 _ _ e43)
            refine gName_go ?_
            dsimp only
            obtain ⟨ds, hds, tds, pds⟩ := B4.ed
            refine ⟨_, rfl, o, dx, _, rfl, B4.eo, rfl, _, rfl, p4, _, 0, .int x0, rfl, rfl, S4, rfl, _, rfl, p4, _, 1, .int y0, rfl, rfl, S4, rfl, o, dx, c, d, w', h', l, x0, y0, ds, rfl, B4.eo, on2, hds, fun p6 h6 => ?_⟩
            have s5 := same_new (o := .tup [.int x0, .int y0]) (Same.refl H4) h6
            generalize upd H4 p6 (.tup [.int x0, .int y0]) = H5 at s5 ⊢
            have hd5 := s5 _ _ hds
            exact nx _ _ ⟨D, delL hl (x0, y0), rfl, by rw [upd_ne (ne_of (s5 _ _ hp4') hd5 (by intro z; cases z))]; exact s5 _ _ hp4', (B4.same s5).wrD (drop_val' tds) (drop_perm (f := k2) (a := (x0, y0)) (fun a b => k2_inj) pds), C2.delH _, (tb4.same s5).wrT hd5, LK.wrT (LK.same M4 s5) hd5, LK.wrT (LK.same M3 s5) hd5⟩
        · have hc : (x0, y0) ∉ hl := fun z => hin (un2_mem.mpr z)
          obtain ⟨ps1, g1, ka1⟩ := M2
          refine ⟨_, rfl, _, rfl, 2, rfl, sl e43 fun p6 h6 => ?_⟩
          have s4 := same_new (o := .tup [.int x0, .int y0]) (Same.refl H3) h6
          have e6 : upd H3 p6 (.tup [.int x0, .int y0]) p6 = some (.tup [.int x0, .int y0]) := upd_same
          show _ ∧ _
          generalize upd H3 p6 (.tup [.int x0, .int y0]) = H4 at s4 e6 ⊢
          refine ⟨(by show 1 ≤ sizeLine; decide), fun r hr' => ?_⟩
          have s5 := same_new (o := .lst [.ref p6]) (Same.refl H4) hr'
          have er5 : upd H4 r (.lst [.ref p6]) r = some (.lst [.ref p6]) := upd_same
          show ∃ _, _
          generalize upd H4 r (.lst [.ref p6]) = H5 at s5 er5 ⊢
          have s35 := Same.trans s4 s5
          have lk := ka1.1
          rw [List.length_map] at lk
          refine ⟨a2, r, _, _, rfl, rfl, s35 _ _ g1, er5, ?_, fun D hD => ?_⟩
          · rw [List.length_map, lk]
            exact Nat.le_trans (show hl.length + 1 ≤ 1000 by omega) (by decide)
          have s6 := same_new (o := .lst (ps1.map V.ref ++ [.ref p6])) (Same.refl H5) hD
          have eD : upd H5 D (.lst (ps1.map V.ref ++ [.ref p6])) D = some (.lst ((ps1 ++ [p6]).map V.ref)) := by rw [upd_same, List.map_append]; rfl
          refine gName_go ?_
          dsimp only
          generalize upd H5 D (.lst (ps1.map V.ref ++ [.ref p6])) = H6 at s6 eD ⊢
          have s36 := Same.trans s35 s6
          have B6 := B3.same s36
          have M3 : LK H6 D ((hl ++ [(x0, y0)]).map k2) := ⟨ps1 ++ [p6], eD, by rw [List.map_append]; exact KeyAt.snoc (KeyAt.same ka1 s36) (s6 _ _ (s5 _ _ e6))⟩
          have S6 : SqT K H6 p4 [.int x0, .int y0, .int z0] := SqT.of (s36 _ _ e43)
          obtain ⟨ds, hds, tds, pds⟩ := B6.ed
          have lds : ds.length = hl.length := by have := pds.length_eq; rw [List.length_map, List.length_map] at this; exact this
          have pp : ((putK ds [.inl x0, .inl y0] (.bl true)).map (·.1)).Perm ((hl ++ [(x0, y0)]).map k2) := by
            have := put_perm (f := k2) (a := (x0, y0)) (fun a b => k2_inj) pds
            unfold addL at this
            rw [if_neg hc] at this
            exact this
          refine ⟨_, rfl, o, dx, _, rfl, B6.eo, rfl, _, rfl, p4, _, 0, .int x0, rfl, rfl, S6, rfl, _, rfl, p4, _, 1, .int y0, rfl, rfl, S6, rfl, o, dx, c, d, w', h', l, x0, y0, ds, rfl, B6.eo, hds, by omega, fun _ p7 h7 => ?_, fun z => absurd on2 (by rw [z]; decide)⟩
          have s7 := same_new (o := .tup [.int x0, .int y0]) (Same.refl H6) h7
          generalize upd H6 p7 (.tup [.int x0, .int y0]) = H7 at s7 ⊢
          have hd7 := s7 _ _ hds
          have s37 := Same.trans s36 s7
          exact nx _ _ ⟨D, hl ++ [(x0, y0)], rfl, by rw [upd_ne (ne_of (s37 _ _ hp3) hd7 (by intro z; cases z))]; exact s37 _ _ hp3, (B6.same s7).wrD (put_val tds) pp, C2.addH hc on2 lh, (tb3.same s37).wrT hd7, LK.wrT (LK.same M1 s37) hd7, LK.wrT (LK.same M3 s7) hd7⟩
      · rintro σ H3 ⟨a4, hl3, rfl, hp3, B3, C3, tb3, N3, N4⟩
        have big : ∀ {n : Nat}, n ≤ 450 → n ≤ sizeLine := fun h => Nat.le_trans h (by decide)
        obtain ⟨ps1, g1, ka1⟩ := N3
        refine ⟨_, rfl, a3, rfl, ⟨_, SqL.of g1⟩, comp_mapK (xs := cl2) k3 (fun c => k3 (g3 (tn2 h') c)) (big C3.lc) g1 ka1 (fun r x H4 Qy Qn hx s4 er hy => ⟨r, _, rfl, SqT.of er, rfl, _, _, rfl, _, _, rfl, _, _, rfl, rfl, ⟨_, rfl, rfl⟩, iteT ⟨_, rfl, p, _, 1, .int h', rfl, rfl, SqT.of (s4 _ _ hp3), rfl, (h' : Int), 1, rfl, rfl, _, rfl, (h' : Int) - 1, x.2.1, rfl, rfl, _, rfl, _, rfl, (by show 3 ≤ sizeLine; decide), fun p6 h6 => hy p6 _ (same_new (Same.refl _) h6) upd_same⟩⟩) fun D rs H4 s4 hD eD kD => ?_⟩
        have T4 : LK H4 D ((cl2.map (g3 (tn2 h'))).map k3) := ⟨rs, eD, by rw [List.map_map]; exact kD⟩
        have hp4' := s4 _ _ hp3
        obtain ⟨ps2, g2, ka2⟩ := LK.same N4 s4
        refine gName_go ?_
        dsimp only
        refine ⟨_, rfl, a4, rfl, ⟨_, SqL.of g2⟩, comp_mapK (xs := hl3) k2 (fun c => k2 (tn2 h' c)) (big (by have := C3.lh; omega)) g2 ka2 (fun r x H5 Qy Qn hx s5 er hy => ⟨r, _, rfl, SqT.of er, rfl, _, _, rfl, _, _, rfl, rfl, ⟨_, rfl, rfl⟩, iteT ⟨_, rfl, p, _, 1, .int h', rfl, rfl, SqT.of (s5 _ _ hp4'), rfl, (h' : Int), 1, rfl, rfl, _, rfl, (h' : Int) - 1, x.2, rfl, rfl, _, rfl, (by show 2 ≤ sizeLine; decide), fun p6 h6 => hy p6 _ (same_new (Same.refl _) h6) upd_same⟩⟩) fun D2 rs2 H5 s5 hD2 eD2 kD2 => ?_⟩
        have T5 : LK H5 D2 ((hl3.map (tn2 h')).map k2) := ⟨rs2, eD2, by rw [List.map_map]; exact kD2⟩
        have s35 := Same.trans s4 s5
        have B5 := B3.same s35
        refine gName_go ?_
        dsimp only
        refine ⟨_, rfl, o, dx, _, rfl, B5.eo, rfl, o, dx, c, d, w', h', l, cl2, hl3, rfl, B5, C3, tb3.same s35, fun o2 dx2 c2 d2 H6 sm6 tb6 n1 n2 n3 B6 => ?_⟩
        have hp6 := sm6.1 _ _ (by intro ps z; cases z) (s35 _ _ hp3)
        have S6 : SqT K H6 p [.int w', .int h', .int l] := SqT.of hp6
        refine ⟨_, rfl, p, _, 1, .int h', rfl, rfl, S6, rfl, _, rfl, p, _, 0, .int w', rfl, rfl, S6, rfl, _, rfl, p, _, 2, .int l, rfl, rfl, S6, rfl, (by show 3 ≤ sizeLine; decide), fun p7 h7 => ?_⟩
        have s7 := same_new (o := .tup [.int h', .int w', .int l]) (Same.refl H6) h7
        have e7 : upd H6 p7 (.tup [.int h', .int w', .int l]) p7 = some (.tup [.int h', .int w', .int l]) := upd_same
        show ∃ _, _
        generalize upd H6 p7 (.tup [.int h', .int w', .int l]) = H7 at s7 e7 ⊢
        refine ⟨_, rfl, _, rfl, o2, dx2, c2, d2, p7, D, D2, h', w', l, _, _, _, _, rfl, B6.same s7, e7, LK.same (LK.sm (LK.same T4 s5) sm6) s7, LK.same (LK.sm T5 sm6) s7, List.Perm.refl _, List.Perm.refl _, fun H8 s8 => ⟨_, rfl, iteF ?_⟩⟩
        have s68 := Same.trans s7 s8
        have smA : Sm H3 H8 := (Sm.of s35).trans (sm6.trans (Sm.of s68))
        have hp8 := s68 _ _ hp6
        obtain ⟨ps3, g3', ka3⟩ := LK.sm ⟨ps1, g1, ka1⟩ smA
        have B8 := B3.sm smA
        have tb8 := tb6.same s68
        have N8 := LK.sm N4 smA
        clear s68 s7 s8 sm6 B6 T4 T5 e7
        refine ⟨_, rfl, a3, rfl, ⟨_, SqL.of g3'⟩, comp_mapK (xs := cl2) k3 (fun c => k3 (g3 (mr2 w') c)) (big C3.lc) g3' ka3 (fun r x H9 Qy Qn hx s9 er hy => ⟨r, _, rfl, SqT.of er, rfl, _, _, rfl, _, _, rfl, _, _, rfl, rfl, ⟨_, rfl, rfl⟩, iteT ⟨_, rfl, p, _, 0, .int w', rfl, rfl, SqT.of (s9 _ _ hp8), rfl, (w' : Int), 1, rfl, rfl, _, rfl, (w' : Int) - 1, x.1, rfl, rfl, _, rfl, _, rfl, (by show 3 ≤ sizeLine; decide), fun p6 h6 => hy p6 _ (same_new (Same.refl _) h6) upd_same⟩⟩) fun D3 rs3 H9 s9 hD3 eD3 kD3 => ?_⟩
        have T9 : LK H9 D3 ((cl2.map (g3 (mr2 w'))).map k3) := ⟨rs3, eD3, by rw [List.map_map]; exact kD3⟩
        have hp9 := s9 _ _ hp8
        have B9 := B8.same s9
        refine gName_go ?_
        dsimp only
        refine ⟨_, rfl, o, dx, _, rfl, B9.eo, rfl, o, dx, c, d, w', h', l, cl2, hl3, rfl, B9, C3, tb8.same s9, fun o3 dx3 c3 d3 H10 sm10 tb10 n1 n2 n3 B10 => ?_⟩
        have hp10 := sm10.1 _ _ (by intro ps z; cases z) hp9
        obtain ⟨ps4, g4, ka4⟩ := LK.sm (LK.same N8 s9) sm10
        refine ⟨_, rfl, _, rfl, _, rfl, a4, rfl, ⟨_, SqL.of g4⟩, comp_mapK (xs := hl3) k2 (fun c => k2 (mr2 w' c)) (big (by have := C3.lh; omega)) g4 ka4 (fun r x H11 Qy Qn hx s11 er hy => ⟨r, _, rfl, SqT.of er, rfl, _, _, rfl, _, _, rfl, rfl, ⟨_, rfl, rfl⟩, iteT ⟨_, rfl, p, _, 0, .int w', rfl, rfl, SqT.of (s11 _ _ hp10), rfl, (w' : Int), 1, rfl, rfl, _, rfl, (w' : Int) - 1, x.1, rfl, rfl, _, rfl, (by show 2 ≤ sizeLine; decide), fun p6 h6 => hy p6 _ (same_new (Same.refl _) h6) upd_same⟩⟩) fun D4 rs4 H11 s11 hD4 eD4 kD4 => ?_⟩
        have T11 : LK H11 D4 ((hl3.map (mr2 w')).map k2) := ⟨rs4, eD4, by rw [List.map_map]; exact kD4⟩
        exact ⟨o3, dx3, c3, d3, p, D3, D4, w', h', l, _, _, _, _, rfl, B10.same s11, s11 _ _ hp10, LK.same (LK.sm T9 sm10) s11, T11, List.Perm.refl _, List.Perm.refl _, fun H12 s12 => q _⟩
end
end K13
namespace K13
open PySem L2 Wd TS
structure Th (t : Adr) (H : Hp) (o dx c d p a1 a2 : Addr) (w h l : Nat) (cl : List (Int × Int × Int)) (hl : List (Int × Int)) : Prop where
  tb : Tabs t H
  B : Bx t.c_Board H o dx c d w h l cl hl
  hp : H p = some (.tup [.int w, .int h, .int l])
  L1 : LK H a1 (cl.map k3)
  L2 : LK H a2 (hl.map k2)
section
variable {t : Adr} {H H' : Hp} {o dx c d p a1 a2 : Addr} {w h l : Nat} {cl : List (Int × Int × Int)} {hl : List (Int × Int)}
theorem Th.sm (T : Th t H o dx c d p a1 a2 w h l cl hl) (s : Sm H H') (tb : Tabs t H') : Th t H' o dx c d p a1 a2 w h l cl hl := ⟨tb, T.B.sm s, s.1 _ _ (by intro ps z; cases z) T.hp, LK.sm T.L1 s, LK.sm T.L2 s⟩
theorem Th.same (T : Th t H o dx c d p a1 a2 w h l cl hl) (s : Same H H') : Th t H' o dx c d p a1 a2 w h l cl hl := T.sm (.of s) (T.tb.same s)
def Off2 (c2 d2 : Addr) (H H' : Hp) : Prop := ∀ b u, b ≠ c2 → b ≠ d2 → H b = some u → H' b = some u
theorem Th.off {c2 d2 : Addr} {u v : Tab} (T : Th t H o dx c d p a1 a2 w h l cl hl) (f : Off2 c2 d2 H H') (hc : H c2 = some (.dT u)) (hd : H d2 = some (.dT v)) (n1 : c ≠ c2) (n2 : c ≠ d2) (n3 : d ≠ c2) (n4 : d ≠ d2) : Th t H' o dx c d p a1 a2 w h l cl hl := by
  have g : ∀ b z, (∀ r, z ≠ .dT r) → H b = some z → H' b = some z := fun b z n e => f b z (fun q => by rw [q, hc] at e; exact n _ (Option.some.inj e).symm) (fun q => by rw [q, hd] at e; exact n _ (Option.some.inj e).symm) e
  have gt : ∀ {P : Addr} {pos : Pos} {qual : Str}, Tbl H P pos qual → Tbl H' P pos qual := fun ⟨ps, e, tr, k⟩ => ⟨ps, g _ _ (by intro r z; cases z) e, tr, k.imp id fun ⟨cc, k1, k2⟩ => ⟨cc, k1, g _ _ (by intro r z; cases z) k2⟩⟩
  have gl : ∀ {a : Addr} {ks : List (List Key)}, LK H a ks → LK H' a ks := fun ⟨ps, e, k⟩ => ⟨ps, g _ _ (by intro r z; cases z) e, k.1, fun i q kk h1 h2 => g _ _ (by intro r z; cases z) (k.2 i q kk h1 h2)⟩
  exact ⟨⟨gt T.tb.1, gt T.tb.2.1, T.tb.2.2⟩, ⟨g _ _ (by intro r z; cases z) T.B.eo, let ⟨cs, e, r⟩ := T.B.ec; ⟨cs, f _ _ n1 n2 e, r⟩, let ⟨ds, e, r⟩ := T.B.ed; ⟨ds, f _ _ n3 n4 e, r⟩, T.B.ne⟩, g _ _ (by intro r z; cases z) T.hp, gl T.L1, gl T.L2⟩
end
theorem mr_mr (w : Nat) (cl : List (Int × Int × Int)) : (cl.map (g3 (mr2 w))).map (g3 (mr2 w)) = cl := by
  rw [List.map_map]
  refine (List.map_congr_left (g := id) fun c _ => ?_).trans (List.map_id _)
  obtain ⟨x, y, z⟩ := c
  show (((w : Int) - 1 - ((w : Int) - 1 - x), y, z) : Int × Int × Int) = (x, y, z)
  rw [show (w : Int) - 1 - ((w : Int) - 1 - x) = x by omega]
theorem mr_mr2 (w : Nat) (hl : List (Int × Int)) : (hl.map (mr2 w)).map (mr2 w) = hl := by
  rw [List.map_map]
  refine (List.map_congr_left (g := id) fun c _ => ?_).trans (List.map_id _)
  obtain ⟨x, y⟩ := c
  show (((w : Int) - 1 - ((w : Int) - 1 - x), y) : Int × Int) = (x, y)
  rw [show (w : Int) - 1 - ((w : Int) - 1 - x) = x by omega]
theorem tn4 (w h : Nat) (cl : List (Int × Int × Int)) : ((((cl.map (g3 (tn2 h))).map (g3 (tn2 w))).map (g3 (tn2 h))).map (g3 (tn2 w))) = cl := by
  rw [List.map_map, List.map_map, List.map_map]
  refine (List.map_congr_left (g := id) fun c _ => ?_).trans (List.map_id _)
  obtain ⟨x, y, z⟩ := c
  show (((w : Int) - 1 - ((w : Int) - 1 - x), (h : Int) - 1 - ((h : Int) - 1 - y), z) : Int × Int × Int) = (x, y, z)
  rw [show (w : Int) - 1 - ((w : Int) - 1 - x) = x by omega, show (h : Int) - 1 - ((h : Int) - 1 - y) = y by omega]
theorem tn4' (w h : Nat) (hl : List (Int × Int)) : ((((hl.map (tn2 h)).map (tn2 w)).map (tn2 h)).map (tn2 w)) = hl := by
  rw [List.map_map, List.map_map, List.map_map]
  refine (List.map_congr_left (g := id) fun c _ => ?_).trans (List.map_id _)
  obtain ⟨x, y⟩ := c
  show (((w : Int) - 1 - ((w : Int) - 1 - x), (h : Int) - 1 - ((h : Int) - 1 - y)) : Int × Int) = (x, y)
  rw [show (w : Int) - 1 - ((w : Int) - 1 - x) = x by omega, show (h : Int) - 1 - ((h : Int) - 1 - y) = y by omega]
theorem bool_iff {b r : Bool} {Q : Prop} (h1 : b = true ↔ Q) (h2 : r = true ↔ Q) : b = r := by
  rw [Bool.eq_iff_iff, h1, h2]
theorem un_inj : ∀ {ks ms : List (List Key)}, (∀ k ∈ ks, ∀ c ∈ k, ∃ n, c = Sum.inl n) → (∀ k ∈ ms, ∀ c ∈ k, ∃ n, c = Sum.inl n) → (ks.map (fun k => k.map unI)) = (ms.map (fun k => k.map unI)) → ks = ms := by
  have f : ∀ {k : List Key}, (∀ c ∈ k, ∃ n, c = Sum.inl n) → (k.map unI).map (Sum.inl : Int → Key) = k := fun {k} h => by
    rw [List.map_map]
    refine (List.map_congr_left (g := id) fun c hc => ?_).trans (List.map_id _)
    obtain ⟨n, rfl⟩ := h c hc
    rfl
  have g : ∀ {ks : List (List Key)}, (∀ k ∈ ks, ∀ c ∈ k, ∃ n, c = Sum.inl n) → (ks.map (fun k => k.map unI)).map (fun k => k.map (Sum.inl : Int → Key)) = ks := fun {ks} h => by
    rw [List.map_map]
    refine (List.map_congr_left (g := id) fun k hk => ?_).trans (List.map_id _)
    exact f (h k hk)
  intro ks ms h1 h2 e
  rw [← g h1, ← g h2, e]
theorem sorted_iff {α : Type} {f : α → List Key} (hf : ∀ a b, f a = f b → a = b) {l m : List α} {ks ms : List (List Key)} (il : ∀ k ∈ l.map f, ∀ c ∈ k, ∃ n, c = Sum.inl n) (im : ∀ k ∈ m.map f, ∀ c ∈ k, ∃ n, c = Sum.inl n) (p : ks.Perm (l.map f)) (q : ms.Perm (m.map f)) (u : ks.Pairwise fun a b => lx b a = false) (v : ms.Pairwise fun a b => lx b a = false) :
    (ks.map fun k => k.map unI) = (ms.map fun k => k.map unI) ↔ l.Perm m := by
  constructor
  · intro e
    have := un_inj (ints_perm p il) (ints_perm q im) e
    exact perm_inj hf ((p.symm.trans (this ▸ List.Perm.refl _)).trans q)
  · intro e
    rw [sorted_eq (p.trans ((e.map f).trans q.symm)) u v]
theorem Ct.addLC {w h l : Nat} {cl : List (Int × Int × Int)} {hl : List (Int × Int)} (C : Ct w h l cl hl) {c : Int × Int × Int} (o : onB w h l c = true) (lc : cl.length ≤ 449) : Ct w h l (addL cl c) hl := by
  unfold addL
  split
  · exact C
  · rename_i n; exact C.addC n o lc
theorem Ct.addLH {w h l : Nat} {cl : List (Int × Int × Int)} {hl : List (Int × Int)} (C : Ct w h l cl hl) {c : Int × Int} (o : (inB c.1 w && inB c.2 h) = true) (lc : hl.length ≤ 149) : Ct w h l cl (addL hl c) := by
  unfold addL
  split
  · exact C
  · rename_i n; exact C.addH n o lc
section
variable {P : Program} {w : World} {K : PySem.W.Frag} {mg : Str → Option Value} {base : Heap} {t : Adr}
def tabsOf (t : Adr) : List Addr := [t.pl_Board_turned, t.pl_Board_mirrored]
def spLaw (K : PySem.W.Frag) (tabs : List Addr) : Sp := fun vs H Q _ => ∃ (a : Addr) (sc : List Int), vs = [.ref a] ∧ SqL K H a (sc.map V.int) ∧ sc.length ≤ 63 ∧ (∀ p ∈ tabs, H p = some (.tbl #[])) ∧ ∀ H', Q (.bl true) H'
theorem law_ok (T : Txt K mg t) (hB : BMod mg base) {fd : FuncData} (F : Fun K "law" "law" s_law t.f_law fd) : FnOk P w K mg base (XC P w) 9 t.f_law fd ["_law_script"] (spLaw K (tabsOf t)) := by
  have G_law_board := ok_law_board (P := P) (w := w) (base := base) T
  have G_law_made := ok_law_made (P := P) (w := w) (base := base) T
  have G_law_tells := ok_law_tells (P := P) (w := w) (base := base) T
  have G_law_unlike := ok_law_unlike (P := P) (w := w) (base := base) T
  have G_law_led_on := ok_law_led_on (P := P) (w := w) (base := base) T hB
  have G_Board_take := ok_Board_take (P := P) (w := w) (base := base) T
  have G_Board_put := ok_Board_put (P := P) (w := w) (base := base) T
  have G_Board_drill := ok_Board_drill (P := P) (w := w) (base := base) T
  have G_Board_plug := ok_Board_plug (P := P) (w := w) (base := base) T
  have G_Board_cells := ok_Board_cells (P := P) (w := w) (base := base) T
  have G_Board_holes := ok_Board_holes (P := P) (w := w) (base := base) T
  have G_Board_same_as := ok_Board_same_as (P := P) (w := w) (base := base) T
  have G_Board_turned := ok_Board_turned (P := P) (w := w) (base := base) T hB
  have G_Board_mirrored := ok_Board_mirrored (P := P) (w := w) (base := base) T hB
  refine F.okX sc_law (fun vs H Q E h => ?_) (fun cdv A outer s H vs Q E hr h => ?_)
  · obtain ⟨a, sc, rfl, _⟩ := h
    rfl
  · obtain ⟨a, sc, rfl, ha, hsc, htb, q⟩ := h
    refine ⟨_, (pss_cons (ps_asg (pe_callG G_law_board (hr.mono (by decide)) passes_of (by rfl) (pa_cons (pv 0) pa_nil)) (pg_tup rfl (pgs_cons (pg_name (i := 1) sc_law.nd rfl (Or.inr rfl)) (pgs_cons (pg_name (i := 2) sc_law.nd rfl (Or.inl rfl)) (pgs_cons (pg_name (i := 3) sc_law.nd rfl (Or.inl rfl)) pgs_nil)))))
      (pss_cons (ps_set (i := 4) sc_law.nd rfl (Or.inl rfl) (pe_callG G_law_made (hr.mono (by decide)) passes_of (by rfl) (pa_cons (pv 1) (pa_cons (pv 2) (pa_cons (pv 3) pa_nil)))))
      (pss_cons (ps_setcomp (i := 5) sc_law.nd rfl (Or.inl rfl) (own := ["_law_x", "_law_y", "_law_z"]) (cs_one (n := "_law_size") (N := ["_law_script", "_law_size", "_law_cells", "_law_holes", "_law_board_here", "_law_turned", "_law_quarter", "_law_seen", "_law_glass", "_law_other", "_law_same"]) rfl (by rfl) (by rfl) rfl (by rfl) (by decide +kernel) (by decide +kernel) (by decide +kernel)) (pi_list (pv 2)) (fun _ _ _ _ _ => pg_tupK (K := K) (n := 3) rfl rfl (pgs_cons (pg_name (i := 11) (by show (["_law_script", "_law_size", "_law_cells", "_law_holes", "_law_board_here", "_law_turned", "_law_quarter", "_law_seen", "_law_glass", "_law_other", "_law_same", "_law_x", "_law_y", "_law_z"] : List Str).Nodup; decide +kernel) rfl (Or.inl rfl)) (pgs_cons (pg_name (i := 12) (by show (["_law_script", "_law_size", "_law_cells", "_law_holes", "_law_board_here", "_law_turned", "_law_quarter", "_law_seen", "_law_glass", "_law_other", "_law_same", "_law_x", "_law_y", "_law_z"] : List Str).Nodup; decide +kernel) rfl (Or.inl rfl)) (pgs_cons (pg_name (i := 13) (by show (["_law_script", "_law_size", "_law_cells", "_law_holes", "_law_board_here", "_law_turned", "_law_quarter", "_law_seen", "_law_glass", "_law_other", "_law_same", "_law_x", "_law_y", "_law_z"] : List Str).Nodup; decide +kernel) rfl (Or.inl rfl)) pgs_nil)))) (fun _ _ _ _ _ => pf_nil) (fun _ _ _ _ _ => (pe_tup (pa_cons (pe_op op_sub (pe_op op_sub (pe_ix (ix_tupK (K := K) rfl) (pv 1) pe_int (fun _ _ => rfl)) pe_int) (pv 12)) (pa_cons (pv 11) (pa_cons (pv 13) pa_nil))))))
      (pss_cons (ps_set (i := 6) sc_law.nd rfl (Or.inl rfl) (pe_meth0G (m0_of G_Board_turned (hr.mono (by decide)) passes_of) (pv 4)))
      (pss_cons (ps_if (pt_not (pt_val (pe_callG G_law_tells (hr.mono (by decide)) passes_of (by rfl) (pa_cons (pv 6) (pa_cons (pe_tup (pa_cons (pe_ix ix_tup (pv 1) pe_int (fun _ _ => rfl)) (pa_cons (pe_ix ix_tup (pv 1) pe_int (fun _ _ => rfl)) (pa_cons (pe_ix ix_tup (pv 1) pe_int (fun _ _ => rfl)) pa_nil)))) (pa_cons (pv 5) (pa_cons (pe_comp (own := ["_law_x", "_law_y"]) (cs_one (n := "_law_size") (N := ["_law_script", "_law_size", "_law_cells", "_law_holes", "_law_board_here", "_law_turned", "_law_quarter", "_law_seen", "_law_glass", "_law_other", "_law_same"]) rfl (by rfl) (by rfl) rfl (by rfl) (by decide +kernel) (by decide +kernel) (by decide +kernel)) (pi_list (pv 3)) (fun _ _ _ _ _ => pg_tupK (K := K) (n := 2) rfl rfl (pgs_cons (pg_name (i := 11) (by show (["_law_script", "_law_size", "_law_cells", "_law_holes", "_law_board_here", "_law_turned", "_law_quarter", "_law_seen", "_law_glass", "_law_other", "_law_same", "_law_x", "_law_y"] : List Str).Nodup; decide +kernel) rfl (Or.inl rfl)) (pgs_cons (pg_name (i := 12) (by show (["_law_script", "_law_size", "_law_cells", "_law_holes", "_law_board_here", "_law_turned", "_law_quarter", "_law_seen", "_law_glass", "_law_other", "_law_same", "_law_x", "_law_y"] : List Str).Nodup; decide +kernel) rfl (Or.inl rfl)) pgs_nil))) (fun _ _ _ _ _ => pf_nil) (fun _ _ _ _ _ => (pe_tup (pa_cons (pe_op op_sub (pe_op op_sub (pe_ix (ix_tupK (K := K) rfl) (pv 1) pe_int (fun _ _ => rfl)) pe_int) (pv 12)) (pa_cons (pv 11) pa_nil))))) pa_nil))))))) (pss_one (ps_ret pe_bl)) pss_nil)
      (pss_cons (ps_setcomp (i := 7) sc_law.nd rfl (Or.inl rfl) (own := ["_law_x", "_law_y", "_law_z"]) (cs_one (n := "_law_size") (N := ["_law_script", "_law_size", "_law_cells", "_law_holes", "_law_board_here", "_law_turned", "_law_quarter", "_law_seen", "_law_glass", "_law_other", "_law_same"]) rfl (by rfl) (by rfl) rfl (by rfl) (by decide +kernel) (by decide +kernel) (by decide +kernel)) (pi_list (pv 2)) (fun _ _ _ _ _ => pg_tupK (K := K) (n := 3) rfl rfl (pgs_cons (pg_name (i := 11) (by show (["_law_script", "_law_size", "_law_cells", "_law_holes", "_law_board_here", "_law_turned", "_law_quarter", "_law_seen", "_law_glass", "_law_other", "_law_same", "_law_x", "_law_y", "_law_z"] : List Str).Nodup; decide +kernel) rfl (Or.inl rfl)) (pgs_cons (pg_name (i := 12) (by show (["_law_script", "_law_size", "_law_cells", "_law_holes", "_law_board_here", "_law_turned", "_law_quarter", "_law_seen", "_law_glass", "_law_other", "_law_same", "_law_x", "_law_y", "_law_z"] : List Str).Nodup; decide +kernel) rfl (Or.inl rfl)) (pgs_cons (pg_name (i := 13) (by show (["_law_script", "_law_size", "_law_cells", "_law_holes", "_law_board_here", "_law_turned", "_law_quarter", "_law_seen", "_law_glass", "_law_other", "_law_same", "_law_x", "_law_y", "_law_z"] : List Str).Nodup; decide +kernel) rfl (Or.inl rfl)) pgs_nil)))) (fun _ _ _ _ _ => pf_nil) (fun _ _ _ _ _ => (pe_tup (pa_cons (pe_op op_sub (pe_op op_sub (pe_ix (ix_tupK (K := K) rfl) (pv 1) pe_int (fun _ _ => rfl)) pe_int) (pv 11)) (pa_cons (pv 12) (pa_cons (pv 13) pa_nil))))))
      (pss_cons (ps_set (i := 8) sc_law.nd rfl (Or.inl rfl) (pe_meth0G (m0_of G_Board_mirrored (hr.mono (by decide)) passes_of) (pv 4)))
      (pss_cons (ps_if (pt_not (pt_val (pe_callG G_law_tells (hr.mono (by decide)) passes_of (by rfl) (pa_cons (pv 8) (pa_cons (pv 1) (pa_cons (pv 7) (pa_cons (pe_comp (own := ["_law_x", "_law_y"]) (cs_one (n := "_law_size") (N := ["_law_script", "_law_size", "_law_cells", "_law_holes", "_law_board_here", "_law_turned", "_law_quarter", "_law_seen", "_law_glass", "_law_other", "_law_same"]) rfl (by rfl) (by rfl) rfl (by rfl) (by decide +kernel) (by decide +kernel) (by decide +kernel)) (pi_list (pv 3)) (fun _ _ _ _ _ => pg_tupK (K := K) (n := 2) rfl rfl (pgs_cons (pg_name (i := 11) (by show (["_law_script", "_law_size", "_law_cells", "_law_holes", "_law_board_here", "_law_turned", "_law_quarter", "_law_seen", "_law_glass", "_law_other", "_law_same", "_law_x", "_law_y"] : List Str).Nodup; decide +kernel) rfl (Or.inl rfl)) (pgs_cons (pg_name (i := 12) (by show (["_law_script", "_law_size", "_law_cells", "_law_holes", "_law_board_here", "_law_turned", "_law_quarter", "_law_seen", "_law_glass", "_law_other", "_law_same", "_law_x", "_law_y"] : List Str).Nodup; decide +kernel) rfl (Or.inl rfl)) pgs_nil))) (fun _ _ _ _ _ => pf_nil) (fun _ _ _ _ _ => (pe_tup (pa_cons (pe_op op_sub (pe_op op_sub (pe_ix (ix_tupK (K := K) rfl) (pv 1) pe_int (fun _ _ => rfl)) pe_int) (pv 11)) (pa_cons (pv 12) pa_nil))))) pa_nil))))))) (pss_one (ps_ret pe_bl)) pss_nil)
      (pss_cons (ps_for owns_of (pi_list (pe_lst (pa_cons (pv 6) (pa_cons (pv 8) (pa_cons (pe_meth0G (m0_of G_Board_turned (hr.mono (by decide)) passes_of) (pe_meth0G (m0_of G_Board_turned (hr.mono (by decide)) passes_of) (pv 4))) pa_nil))))) (pg_name (i := 9) sc_law.nd rfl (Or.inl rfl)) (pss_cons (ps_set (i := 10) sc_law.nd rfl (Or.inl rfl) (pe_cmpR (op_eq3 hr.units) (pe_tup (pa_cons (pe_fld (pv 9) rfl) (pa_cons (pe_meth0G (mN_of G_Board_cells (hr.mono (by decide)) passes_of) (pv 9)) (pa_cons (pe_meth0G (m0_of G_Board_holes (hr.mono (by decide)) passes_of) (pv 9)) pa_nil)))) (pe_tup (pa_cons (pe_fld (pv 4) rfl) (pa_cons (pe_meth0G (mN_of G_Board_cells (hr.mono (by decide)) passes_of) (pv 4)) (pa_cons (pe_meth0G (m0_of G_Board_holes (hr.mono (by decide)) passes_of) (pv 4)) pa_nil)))) (nomark _)))
      (pss_one (ps_if (pw_or (pt_cmpR op_ne (pe_methG (pv 4) G_Board_same_as (hr.mono (by decide)) passes_of (pa_cons (pv 9) pa_nil)) (pv 10) (nomark _)) (pw_or1 (pt_cmpR op_ne (pe_methG (pv 9) G_Board_same_as (hr.mono (by decide)) passes_of (pa_cons (pv 4) pa_nil)) (pv 10) (nomark _)))).pt (pss_one (ps_ret pe_bl)) pss_nil))))
      (pss_cons (ps_if (pt_not (pt_val (pe_callG G_law_unlike (hr.mono (by decide)) passes_of (by rfl) (pa_cons (pv 4) (pa_cons (pv 1) (pa_cons (pv 2) (pa_cons (pv 3) pa_nil))))))) (pss_one (ps_ret pe_bl)) pss_nil)
      (pss_cons (ps_for owns_of (pi_list (pe_lst (pa_cons (pv 6) (pa_cons (pv 8) pa_nil)))) (pg_name (i := 9) sc_law.nd rfl (Or.inl rfl)) (pss_cons (ps_expr (pe_methG (pv 9) G_Board_put (hr.mono (by decide)) passes_of (pa_cons (pe_lst (pa_cons (pe_tup (pa_cons pe_int (pa_cons pe_int (pa_cons pe_int pa_nil)))) pa_nil)) pa_nil)))
      (pss_cons (ps_expr (pe_methG (pv 9) G_Board_drill (hr.mono (by decide)) passes_of (pa_cons pe_int (pa_cons pe_int pa_nil))))
      (pss_cons (ps_expr (pe_methG (pv 9) G_Board_take (hr.mono (by decide)) passes_of (pa_cons (pe_lst (pa_cons (pe_tup (pa_cons (pe_op op_sub (pe_fld (pv 9) rfl) pe_int) (pa_cons (pe_op op_sub (pe_fld (pv 9) rfl) pe_int) (pa_cons (pe_op op_sub (pe_ix ix_tup (pv 1) pe_int (fun _ _ => rfl)) pe_int) pa_nil)))) pa_nil)) pa_nil)))
      (pss_one (ps_expr (pe_methG (pv 9) G_Board_plug (hr.mono (by decide)) passes_of (pa_cons (pe_op op_sub (pe_fld (pv 9) rfl) pe_int) (pa_cons (pe_op op_sub (pe_fld (pv 9) rfl) pe_int) pa_nil)))))))))
      (pss_cons (ps_if (pw_or (pt_not (pt_val (pe_callG G_law_tells (hr.mono (by decide)) passes_of (by rfl) (pa_cons (pv 4) (pa_cons (pv 1) (pa_cons (pv 2) (pa_cons (pv 3) pa_nil))))))) (pw_or1 (pt_not (pt_val (pe_methG (pe_meth0G (m0_of G_Board_mirrored (hr.mono (by decide)) passes_of) (pe_meth0G (m0_of G_Board_mirrored (hr.mono (by decide)) passes_of) (pv 8))) G_Board_same_as (hr.mono (by decide)) passes_of (pa_cons (pv 8) pa_nil)))))).pt (pss_one (ps_ret pe_bl)) pss_nil)
      (pss_cons (ps_if (pt_not (pt_val (pe_methG (pe_meth0G (m0_of G_Board_turned (hr.mono (by decide)) passes_of) (pe_meth0G (m0_of G_Board_turned (hr.mono (by decide)) passes_of) (pe_meth0G (m0_of G_Board_turned (hr.mono (by decide)) passes_of) (pe_meth0G (m0_of G_Board_turned (hr.mono (by decide)) passes_of) (pv 4))))) G_Board_same_as (hr.mono (by decide)) passes_of (pa_cons (pv 4) pa_nil)))) (pss_one (ps_ret pe_bl)) pss_nil)
      (pss_one (ps_ret (pe_and (pe_methG (pe_meth0G (m0_of G_Board_mirrored (hr.mono (by decide)) passes_of) (pe_meth0G (m0_of G_Board_mirrored (hr.mono (by decide)) passes_of) (pv 4))) G_Board_same_as (hr.mono (by decide)) passes_of (pa_cons (pv 4) pa_nil)) (pe_one (pe_callG G_law_led_on (hr.mono (by decide)) passes_of (by rfl) (pa_cons (pv 4) (pa_cons (pv 1) (pa_cons (pv 2) (pa_cons (pv 3) pa_nil)))))))))))))))))))))), ?_⟩
    have tb0 : Tabs t H := ⟨⟨#[], htb _ (by simp [tabsOf]), trivial, .inl rfl⟩, ⟨#[], htb _ (by simp [tabsOf]), trivial, .inl rfl⟩, T.pn_Board_turned_Board_mirrored⟩
    have big : ∀ {n : Nat}, n ≤ 450 → n ≤ sizeLine := fun h => Nat.le_trans h (by decide)
    refine ⟨_, rfl, a, sc, rfl, ha, hsc, fun r p a1 a2 H1 s1 er ep L1 L2' => ⟨r, _, rfl, SqT.of er, rfl, _, _, rfl, _, _, rfl, _, _, rfl, rfl, ?_⟩⟩
    have Cc := b_ct sc
    have l432 := b_len sc
    generalize bC sc = cl at L1 Cc l432
    generalize bD sc = hl at L2' Cc l432
    generalize bW sc = w' at ep Cc
    generalize bH sc = h' at ep Cc
    generalize bL sc = l at ep Cc
    have tb1 := tb0.same s1
    clear tb0 s1 ha er
    refine ⟨_, rfl, _, rfl, _, rfl, p, a1, a2, w', h', l, cl, hl, rfl, .inr (SqT.of ep), L1, L2', Cc, fun o dx c d H2 s2 no nc nd B2 => ?_⟩
    have X2 : Th t H2 o dx c d p a1 a2 w' h' l cl hl := ⟨tb1.same s2, B2, s2 _ _ ep, LK.same L1 s2, LK.same L2' s2⟩
    clear tb1 s2 B2 L1 L2' ep no nc nd
    refine gName_go ?_
    dsimp only
    obtain ⟨ps1, g1, ka1⟩ := X2.L1
    have hp2 := X2.hp
    refine ⟨_, rfl, a1, rfl, ⟨_, SqL.of g1⟩, comp_mapK (xs := cl) k3 (fun c => k3 (g3 (tn2 h') c)) (big Cc.lc) g1 ka1 (fun r x H4 Qy Qn hx s4 er hy => ⟨r, _, rfl, SqT.of er, rfl, _, _, rfl, _, _, rfl, _, _, rfl, rfl, ⟨_, rfl, rfl⟩, iteT ⟨_, rfl, p, _, 1, .int h', rfl, rfl, SqT.of (s4 _ _ hp2), rfl, (h' : Int), 1, rfl, rfl, _, rfl, (h' : Int) - 1, x.2.1, rfl, rfl, _, rfl, _, rfl, (by show 3 ≤ sizeLine; decide), fun p6 h6 => hy p6 _ (same_new (Same.refl _) h6) upd_same⟩⟩) fun D rs H3 s3 hD eD kD => ?_⟩
    have T3 : LK H3 D ((cl.map (g3 (tn2 h'))).map k3) := ⟨rs, eD, by rw [List.map_map]; exact kD⟩
    have X3 := X2.same s3
    clear g1 ka1 hp2 s3 X2 eD kD hD
    refine gName_go ?_
    dsimp only
    refine ⟨_, rfl, o, dx, _, rfl, X3.B.eo, rfl, o, dx, c, d, w', h', l, cl, hl, rfl, X3.B, Cc, X3.tb, fun oq dxq cq dq H4 sm4 tb4 n1 n2 n3 Bq => ?_⟩
    obtain ⟨cs0, hc0, _⟩ := X3.B.ec
    obtain ⟨ds0, hd0, _⟩ := X3.B.ed
    have qs : c ≠ cq ∧ c ≠ dq ∧ d ≠ cq ∧ d ≠ dq := ⟨ne_of_none hc0 n2, ne_of_none hc0 n3, ne_of_none hd0 n2, ne_of_none hd0 n3⟩
    have X4 := X3.sm sm4 tb4
    have T4 := LK.sm T3 sm4
    clear X3 sm4 tb4 n1 n2 n3 hc0 hd0 T3
    refine gName_go ?_
    dsimp only
    have Cq : Ct h' w' l (cl.map (g3 (tn2 h'))) (hl.map (tn2 h')) := Cc.led (lead_tn w' h') Cc.sh Cc.sw
    have S4 : SqT K H4 p [.int w', .int h', .int l] := SqT.of X4.hp
    refine ⟨_, rfl, _, rfl, p, _, 1, .int h', rfl, rfl, S4, rfl, _, rfl, p, _, 0, .int w', rfl, rfl, S4, rfl, _, rfl, p, _, 2, .int l, rfl, rfl, S4, rfl, (by show 3 ≤ sizeLine; decide), fun p7 h7 => ?_⟩
    have s5 := same_new (o := .tup [.int h', .int w', .int l]) (Same.refl H4) h7
    have e7 : upd H4 p7 (.tup [.int h', .int w', .int l]) p7 = some (.tup [.int h', .int w', .int l]) := upd_same
    show ∃ _, _
    generalize upd H4 p7 (.tup [.int h', .int w', .int l]) = H5 at s5 e7 ⊢
    have X5 := X4.same s5
    have hp5 := X5.hp
    obtain ⟨ps2, g2, ka2⟩ := X5.L2
    refine ⟨_, rfl, _, rfl, a2, rfl, ⟨_, SqL.of g2⟩, comp_mapK (xs := hl) k2 (fun c => k2 (tn2 h' c)) (big (by have := Cc.lh; omega)) g2 ka2 (fun r x H5 Qy Qn hx s5 er hy => ⟨r, _, rfl, SqT.of er, rfl, _, _, rfl, _, _, rfl, rfl, ⟨_, rfl, rfl⟩, iteT ⟨_, rfl, p, _, 1, .int h', rfl, rfl, SqT.of (s5 _ _ hp5), rfl, (h' : Int), 1, rfl, rfl, _, rfl, (h' : Int) - 1, x.2, rfl, rfl, _, rfl, (by show 2 ≤ sizeLine; decide), fun p6 h6 => hy p6 _ (same_new (Same.refl _) h6) upd_same⟩⟩) fun D2 rs2 H6 s6 hD2 eD2 kD2 => ?_⟩
    have T6 : LK H6 D2 ((hl.map (tn2 h')).map k2) := ⟨rs2, eD2, by rw [List.map_map]; exact kD2⟩
    refine ⟨oq, dxq, cq, dq, p7, D, D2, h', w', l, _, _, _, _, rfl, Bq.same (Same.trans s5 s6), s6 _ _ e7, LK.same (LK.same T4 s5) s6, T6, List.Perm.refl _, List.Perm.refl _, fun H7 s7 => ⟨_, rfl, iteF ?_⟩⟩
    have s47 := Same.trans s5 (Same.trans s6 s7)
    have X7 := X4.same s47
    have Bq7 := Bq.same s47
    clear X4 X5 s5 s6 s7 s47 T6 T4 eD2 kD2 e7 S4 g2 ka2 hp5 Bq
    obtain ⟨ps3, g3', ka3⟩ := X7.L1
    have hp7 := X7.hp
    refine ⟨_, rfl, a1, rfl, ⟨_, SqL.of g3'⟩, comp_mapK (xs := cl) k3 (fun c => k3 (g3 (mr2 w') c)) (big Cc.lc) g3' ka3 (fun r x H9 Qy Qn hx s9 er hy => ⟨r, _, rfl, SqT.of er, rfl, _, _, rfl, _, _, rfl, _, _, rfl, rfl, ⟨_, rfl, rfl⟩, iteT ⟨_, rfl, p, _, 0, .int w', rfl, rfl, SqT.of (s9 _ _ hp7), rfl, (w' : Int), 1, rfl, rfl, _, rfl, (w' : Int) - 1, x.1, rfl, rfl, _, rfl, _, rfl, (by show 3 ≤ sizeLine; decide), fun p6 h6 => hy p6 _ (same_new (Same.refl _) h6) upd_same⟩⟩) fun D3 rs3 H8 s8 hD3 eD3 kD3 => ?_⟩
    have T8 : LK H8 D3 ((cl.map (g3 (mr2 w'))).map k3) := ⟨rs3, eD3, by rw [List.map_map]; exact kD3⟩
    have X8 := X7.same s8
    have Bq8 := Bq7.same s8
    clear X7 Bq7 s8 eD3 kD3 hD3 g3' ka3 hp7
    refine gName_go ?_
    dsimp only
    refine ⟨_, rfl, o, dx, _, rfl, X8.B.eo, rfl, o, dx, c, d, w', h', l, cl, hl, rfl, X8.B, Cc, X8.tb, fun og dxg cg dg H9 sm9 tb9 n1 n2 n3 Bg => ?_⟩
    obtain ⟨cs0, hc0, _⟩ := X8.B.ec
    obtain ⟨ds0, hd0, _⟩ := X8.B.ed
    obtain ⟨cs1, hc1, _⟩ := Bq8.ec
    obtain ⟨ds1, hd1, _⟩ := Bq8.ed
    have gs : c ≠ cg ∧ c ≠ dg ∧ d ≠ cg ∧ d ≠ dg := ⟨ne_of_none hc0 n2, ne_of_none hc0 n3, ne_of_none hd0 n2, ne_of_none hd0 n3⟩
    have gq : cq ≠ cg ∧ cq ≠ dg ∧ dq ≠ cg ∧ dq ≠ dg := ⟨ne_of_none hc1 n2, ne_of_none hc1 n3, ne_of_none hd1 n2, ne_of_none hd1 n3⟩
    have X9 := X8.sm sm9 tb9
    have Bq9 := Bq8.sm sm9
    have T9 := LK.sm T8 sm9
    clear X8 Bq8 sm9 tb9 n1 n2 n3 hc0 hd0 hc1 hd1 T8
    refine gName_go ?_
    dsimp only
    have Cg : Ct w' h' l (cl.map (g3 (mr2 w'))) (hl.map (mr2 w')) := Cc.led (lead_mr w' h') Cc.sw Cc.sh
    refine seq_gen (fun σ H' => (∃ v5 v7, σ = [some (.ref a), some (.ref p), some (.ref a1), some (.ref a2), some (.ref o), v5, some (.ref oq), v7, some (.ref og), none, none]) ∧ Th t H' o dx c d p a1 a2 w' h' l cl hl ∧ Bx t.c_Board H' oq dxq cq dq h' w' l (cl.map (g3 (tn2 h'))) (hl.map (tn2 h')) ∧ Bx t.c_Board H' og dxg cg dg w' h' l (cl.map (g3 (mr2 w'))) (hl.map (mr2 w'))) (fun R nx => ?_) ?_
    · have hp9 := X9.hp
      obtain ⟨ps4, g4, ka4⟩ := X9.L2
      refine ⟨_, rfl, _, rfl, _, rfl, _, rfl, a2, rfl, ⟨_, SqL.of g4⟩, comp_mapK (xs := hl) k2 (fun c => k2 (mr2 w' c)) (big (by have := Cc.lh; omega)) g4 ka4 (fun r x H11 Qy Qn hx s11 er hy => ⟨r, _, rfl, SqT.of er, rfl, _, _, rfl, _, _, rfl, rfl, ⟨_, rfl, rfl⟩, iteT ⟨_, rfl, p, _, 0, .int w', rfl, rfl, SqT.of (s11 _ _ hp9), rfl, (w' : Int), 1, rfl, rfl, _, rfl, (w' : Int) - 1, x.1, rfl, rfl, _, rfl, (by show 2 ≤ sizeLine; decide), fun p6 h6 => hy p6 _ (same_new (Same.refl _) h6) upd_same⟩⟩) fun D4 rs4 H11 s11 hD4 eD4 kD4 => ?_⟩
      have T11 : LK H11 D4 ((hl.map (mr2 w')).map k2) := ⟨rs4, eD4, by rw [List.map_map]; exact kD4⟩
      refine ⟨og, dxg, cg, dg, p, D3, D4, w', h', l, _, _, _, _, rfl, Bg.same s11, s11 _ _ hp9, LK.same T9 s11, T11, List.Perm.refl _, List.Perm.refl _, fun H12 s12 => ⟨_, rfl, iteF ?_⟩⟩
      have sx := Same.trans s11 s12
      exact nx _ _ ⟨⟨_, _, rfl⟩, X9.same sx, Bq9.same sx, Bg.same sx⟩
    clear X9 Bq9 Bg T9
    rintro σ H1 ⟨⟨v5, v7, rfl⟩, X1, Bq, Bg⟩
    refine seq_gen (fun σ H' => (∃ v9 v10, σ = [some (.ref a), some (.ref p), some (.ref a1), some (.ref a2), some (.ref o), v5, some (.ref oq), v7, some (.ref og), v9, v10]) ∧ Th t H' o dx c d p a1 a2 w' h' l cl hl ∧ Bx t.c_Board H' oq dxq cq dq h' w' l (cl.map (g3 (tn2 h'))) (hl.map (tn2 h')) ∧ Bx t.c_Board H' og dxg cg dg w' h' l (cl.map (g3 (mr2 w'))) (hl.map (mr2 w'))) (fun R nx => ?_) ?_
    · refine ⟨_, rfl, _, rfl, _, rfl, o, dx, _, rfl, X1.B.eo, rfl, o, dx, c, d, w', h', l, cl, hl, rfl, X1.B, Cc, X1.tb, fun o1 dx1 c1 d1 H2 sm2 tb2 _ _ _ B2 => ?_⟩
      refine ⟨o1, dx1, _, rfl, B2.eo, rfl, o1, dx1, c1, d1, h', w', l, _, _, rfl, B2, Cq, tb2, fun o2 dx2 c2 d2 H3 sm3 tb3 _ _ _ Bt => ?_⟩
      have sm13 := sm2.trans sm3
      have X3 := X1.sm sm13 tb3
      have Bq3 := Bq.sm sm13
      have Bg3 := Bg.sm sm13
      have Ct2 := Cq.led (lead_tn h' w') Cc.sw Cc.sh
      refine ⟨(by show 3 ≤ sizeLine; decide), fun rr hrr => ?_⟩
      have s4 := same_new (o := .lst [.ref oq, .ref og, .ref o2]) (Same.refl H3) hrr
      have e4 : upd H3 rr (.lst [.ref oq, .ref og, .ref o2]) rr = some (.lst [.ref oq, .ref og, .ref o2]) := upd_same
      show ∃ _, _
      generalize upd H3 rr (.lst [.ref oq, .ref og, .ref o2]) = H4 at s4 e4 ⊢
      refine ⟨rr, rfl, ⟨_, SqL.of e4⟩, for_list (xs := [.ref oq, .ref og, .ref o2]) (fun i σ H' => (∃ v9 v10, σ = [some (.ref a), some (.ref p), some (.ref a1), some (.ref a2), some (.ref o), v5, some (.ref oq), v7, some (.ref og), v9, v10]) ∧ Same H4 H') ⟨⟨_, _, rfl⟩, Same.refl _⟩ (fun i σ H' _ h => SqL.of (h.2 _ _ e4)) ?_ ?_⟩
      · rintro i v σ H5 hx ⟨⟨v9, v10, rfl⟩, s5⟩
        have s35 := Same.trans s4 s5
        have key : ∃ (o5 dx5 c5 d5 : Addr) (w5 h5 : Nat) (cl5 : List (Int × Int × Int)) (hl5 : List (Int × Int)), v = .ref o5 ∧ Bx t.c_Board H5 o5 dx5 c5 d5 w5 h5 l cl5 hl5 ∧ cl5.Nodup ∧ hl5.Nodup ∧ (w' = w5 → h' = h5) := by
          match i, hx with
          | 0, hx => cases hx; exact ⟨oq, dxq, cq, dq, _, _, _, _, rfl, Bq3.same s35, Cq.nc, Cq.nh, fun e => e.symm⟩
          | 1, hx => cases hx; exact ⟨og, dxg, cg, dg, _, _, _, _, rfl, Bg3.same s35, Cg.nc, Cg.nh, fun _ => rfl⟩
          | 2, hx => cases hx; exact ⟨o2, dx2, c2, d2, _, _, _, _, rfl, Bt.same s35, Ct2.nc, Ct2.nh, fun _ => rfl⟩
        obtain ⟨o5, dx5, c5, d5, w5, h5, cl5, hl5, rfl, B5, nc5, nh5, hwh⟩ := key
        have X5 := X3.same s35
        refine gName_go ?_
        dsimp only
        obtain ⟨cs5, hc5, tc5, pc5⟩ := B5.ec
        refine ⟨_, rfl, o5, _, dx5, _, .int w5, rfl, B5.eo, T.cl_Board, T.na_Board_wide, rfl, _, rfl, o5, dx5, _, rfl, B5.eo, rfl, o5, dx5, c5, d5, w5, h5, l, cs5, rfl, B5.eo, hc5, fun kv hkv => sd3 _ (pc5.mem_iff.mp (List.mem_map_of_mem hkv)), fun r1 bs1 ks1 hr1 kA1 pm1 up1 => ?_⟩
        have s6 := same_new (o := .lst (bs1.map V.ref)) (Same.refl H5) hr1
        have e6 : LK (upd H5 r1 (.lst (bs1.map V.ref))) r1 ks1 := ⟨bs1, upd_same, KeyAt.same kA1 s6⟩
        show ∃ _, _
        generalize upd H5 r1 (.lst (bs1.map V.ref)) = H6 at s6 e6 ⊢
        have B6 := B5.same s6
        obtain ⟨ds5, hd5, td5, pd5⟩ := B6.ed
        refine ⟨_, rfl, o5, dx5, _, rfl, B6.eo, rfl, o5, dx5, c5, d5, w5, h5, l, ds5, rfl, B6.eo, hd5, fun kv hkv => sd2 _ (pd5.mem_iff.mp (List.mem_map_of_mem hkv)), fun r2 bs2 ks2 hr2 kA2 pm2 up2 => ?_⟩
        have s7 := same_new (o := .lst (bs2.map V.ref)) (Same.refl H6) hr2
        have e7 : LK (upd H6 r2 (.lst (bs2.map V.ref))) r2 ks2 := ⟨bs2, upd_same, KeyAt.same kA2 s7⟩
        show _ ∧ _
        generalize upd H6 r2 (.lst (bs2.map V.ref)) = H7 at s7 e7 ⊢
        refine ⟨(by show 3 ≤ sizeLine; decide), fun q1 hq1 => ?_⟩
        have s8 := same_new (o := .tup [.int w5, .ref r1, .ref r2]) (Same.refl H7) hq1
        have e8 : upd H7 q1 (.tup [.int w5, .ref r1, .ref r2]) q1 = some (.tup [.int w5, .ref r1, .ref r2]) := upd_same
        show ∃ _, _
        generalize upd H7 q1 (.tup [.int w5, .ref r1, .ref r2]) = H8 at s8 e8 ⊢
        have s58 := Same.trans s6 (Same.trans s7 s8)
        have B8 := X5.B.same s58
        obtain ⟨cs8, hc8, tc8, pc8⟩ := B8.ec
        refine ⟨_, rfl, o, _, dx, _, .int w', rfl, B8.eo, T.cl_Board, T.na_Board_wide, rfl, _, rfl, o, dx, _, rfl, B8.eo, rfl, o, dx, c, d, w', h', l, cs8, rfl, B8.eo, hc8, fun kv hkv => sd3 _ (pc8.mem_iff.mp (List.mem_map_of_mem hkv)), fun r3 bs3 ks3 hr3 kA3 pm3 up3 => ?_⟩
        have s9 := same_new (o := .lst (bs3.map V.ref)) (Same.refl H8) hr3
        have e9 : LK (upd H8 r3 (.lst (bs3.map V.ref))) r3 ks3 := ⟨bs3, upd_same, KeyAt.same kA3 s9⟩
        show ∃ _, _
        generalize upd H8 r3 (.lst (bs3.map V.ref)) = H9 at s9 e9 ⊢
        have B9 := B8.same s9
        obtain ⟨ds9, hd9, td9, pd9⟩ := B9.ed
        refine ⟨_, rfl, o, dx, _, rfl, B9.eo, rfl, o, dx, c, d, w', h', l, ds9, rfl, B9.eo, hd9, fun kv hkv => sd2 _ (pd9.mem_iff.mp (List.mem_map_of_mem hkv)), fun r4 bs4 ks4 hr4 kA4 pm4 up4 => ?_⟩
        have s10 := same_new (o := .lst (bs4.map V.ref)) (Same.refl H9) hr4
        have e10 : LK (upd H9 r4 (.lst (bs4.map V.ref))) r4 ks4 := ⟨bs4, upd_same, KeyAt.same kA4 s10⟩
        show _ ∧ _
        generalize upd H9 r4 (.lst (bs4.map V.ref)) = H10 at s10 e10 ⊢
        refine ⟨(by show 3 ≤ sizeLine; decide), fun q2 hq2 => ?_⟩
        have s11 := same_new (o := .tup [.int w', .ref r3, .ref r4]) (Same.refl H10) hq2
        have e11 : upd H10 q2 (.tup [.int w', .ref r3, .ref r4]) q2 = some (.tup [.int w', .ref r3, .ref r4]) := upd_same
        show ∃ _, _
        generalize upd H10 q2 (.tup [.int w', .ref r3, .ref r4]) = H11 at s11 e11 ⊢
        have s8b := Same.trans s9 (Same.trans s10 s11)
        have n13 : r1 ≠ r3 := fun z => by
          obtain ⟨_, e, _⟩ := LK.same e6 (Same.trans s7 s8)
          rw [z, hr3] at e; cases e
        have n24 : r2 ≠ r4 := fun z => by
          obtain ⟨_, e, _⟩ := LK.same e7 (Same.trans s8 s9)
          rw [z, hr4] at e; cases e
        have i1 := sorted_iff (fun a b => k3_inj) ints3 ints3 (pm1.trans pc5) (pm3.trans pc8) up1 up3
        have i2 := sorted_iff (fun a b => k2_inj) ints2 ints2 (pm2.trans pd5) (pm4.trans pd9) up2 up4
        refine ⟨q1, q2, r1, r2, r3, r4, (w5 : Int), (w' : Int), _, _, _, _, rfl, rfl, SqT.of (s8b _ _ e8), SqT.of e11, (LK.same e6 (Same.trans s7 (Same.trans s8 s8b))).lt (ints_perm (pm1.trans pc5) ints3), (LK.same e7 (Same.trans s8 s8b)).lt (ints_perm (pm2.trans pd5) ints2), (LK.same e9 (Same.trans s10 s11)).lt (ints_perm (pm3.trans pc8) ints3), (LK.same e10 s11).lt (ints_perm (pm4.trans pd9) ints2), n13, n24, ?_⟩
        have hb : (decide ((w5 : Int) = (w' : Int)) && (decide ((ks1.map fun k => k.map unI) = (ks3.map fun k => k.map unI)) && decide ((ks2.map fun k => k.map unI) = (ks4.map fun k => k.map unI)))) = true ↔ w5 = w' ∧ cl5.Perm cl ∧ hl5.Perm hl := by
          rw [Bool.and_eq_true, Bool.and_eq_true, decide_eq_true_iff, decide_eq_true_iff, decide_eq_true_iff, i1, i2, Int.ofNat_inj]
        refine gName_go ?_
        dsimp only
        generalize (decide ((w5 : Int) = (w' : Int)) && (decide ((ks1.map fun k => k.map unI) = (ks3.map fun k => k.map unI)) && decide ((ks2.map fun k => k.map unI) = (ks4.map fun k => k.map unI)))) = rb at hb ⊢
        have s511 := Same.trans s58 s8b
        have Ba := X5.B.same s511
        have Bb := B5.same s511
        refine ⟨_, rfl, o, dx, _, rfl, Ba.eo, rfl, _, rfl, o, dx, c, d, o5, dx5, c5, d5, _, _, _, _, _, _, cl, cl5, hl, hl5, rfl, Ba, Bb, Cc.nc, Cc.nh, fun x H12 s12 i12 => ?_⟩
        obtain rfl : x = rb := bool_iff i12 (hb.trans ⟨fun ⟨a, b, c⟩ => ⟨⟨a.symm, hwh a.symm, rfl⟩, b.symm, c.symm⟩, fun ⟨⟨a, _⟩, b, c⟩ => ⟨a.symm, b.symm, c.symm⟩⟩)
        have Bc := Ba.same s12
        have Bd := Bb.same s12
        refine ⟨_, rfl, rfl, _, rfl, iteNB (fun z => absurd rfl (of_decide_eq_false z)) fun _ => ⟨_, rfl, o5, dx5, _, rfl, Bd.eo, rfl, _, rfl, o5, dx5, c5, d5, o, dx, c, d, _, _, _, _, _, _, cl5, cl, hl5, hl, rfl, Bd, Bc, nc5, nh5, fun y H13 s13 i13 => ?_⟩⟩
        obtain rfl : y = x := bool_iff i13 (hb.trans ⟨fun ⟨a, b, c⟩ => ⟨⟨a, (hwh a.symm).symm, rfl⟩, b, c⟩, fun ⟨⟨a, _⟩, b, c⟩ => ⟨a, b, c⟩⟩)
        exact ⟨_, rfl, rfl, _, rfl, iteNB (fun z => absurd rfl (of_decide_eq_false z)) fun _ => ⟨⟨_, _, rfl⟩, Same.trans s5 (Same.trans s511 (Same.trans s12 s13))⟩⟩
      · rintro σ H5 ⟨⟨v9, v10, rfl⟩, s5⟩
        have s35 := Same.trans s4 s5
        exact nx _ _ ⟨⟨_, _, rfl⟩, X3.same s35, Bq3.same s35, Bg3.same s35⟩
    clear X1 Bq Bg
    rintro σ H1 ⟨⟨v9, v10, rfl⟩, X1, Bq, Bg⟩
    refine seq_gen (fun σ H' => σ = [some (.ref a), some (.ref p), some (.ref a1), some (.ref a2), some (.ref o), v5, some (.ref oq), v7, some (.ref og), v9, v10] ∧ Th t H' o dx c d p a1 a2 w' h' l cl hl ∧ Bx t.c_Board H' oq dxq cq dq h' w' l (cl.map (g3 (tn2 h'))) (hl.map (tn2 h')) ∧ Bx t.c_Board H' og dxg cg dg w' h' l (cl.map (g3 (mr2 w'))) (hl.map (mr2 w'))) (fun R nx => ⟨_, rfl, _, rfl, _, rfl, _, rfl, o, dx, c, d, p, a1, a2, w', h', l, cl, hl, rfl, X1.B, Cc, X1.hp, X1.L1, X1.L2, fun H2 s2 => ⟨_, rfl, iteF (nx _ _ ⟨rfl, X1.same s2, Bq.same s2, Bg.same s2⟩)⟩⟩) ?_
    clear X1 Bq Bg
    rintro σ H2 ⟨rfl, X2, Bq2, Bg2⟩
    refine seq_gen (fun σ H' => (∃ v9, σ = [some (.ref a), some (.ref p), some (.ref a1), some (.ref a2), some (.ref o), v5, some (.ref oq), v7, some (.ref og), v9, v10]) ∧ Th t H' o dx c d p a1 a2 w' h' l cl hl ∧ ∃ clg hlg, Bx t.c_Board H' og dxg cg dg w' h' l clg hlg ∧ Ct w' h' l clg hlg) (fun R nx => ?_) ?_
    · refine ⟨_, rfl, _, rfl, (by show 2 ≤ sizeLine; decide), fun rr hrr => ?_⟩
      have s3 := same_new (o := .lst [.ref oq, .ref og]) (Same.refl H2) hrr
      have e3 : upd H2 rr (.lst [.ref oq, .ref og]) rr = some (.lst [.ref oq, .ref og]) := upd_same
      show ∃ _, _
      generalize upd H2 rr (.lst [.ref oq, .ref og]) = H3 at s3 e3 ⊢
      refine ⟨rr, rfl, ⟨_, SqL.of e3⟩, for_list (xs := [.ref oq, .ref og]) (fun i σ H' => (∃ v9, σ = [some (.ref a), some (.ref p), some (.ref a1), some (.ref a2), some (.ref o), v5, some (.ref oq), v7, some (.ref og), v9, v10]) ∧ H' rr = some (.lst [.ref oq, .ref og]) ∧ Th t H' o dx c d p a1 a2 w' h' l cl hl ∧ (i = 0 → Bx t.c_Board H' oq dxq cq dq h' w' l (cl.map (g3 (tn2 h'))) (hl.map (tn2 h'))) ∧ (i ≤ 1 → Bx t.c_Board H' og dxg cg dg w' h' l (cl.map (g3 (mr2 w'))) (hl.map (mr2 w'))) ∧ (i = 2 → ∃ clg hlg, Bx t.c_Board H' og dxg cg dg w' h' l clg hlg ∧ Ct w' h' l clg hlg)) ⟨⟨_, rfl⟩, e3, X2.same s3, fun _ => Bq2.same s3, fun _ => Bg2.same s3, fun z => (by cases z)⟩ (fun i σ H' _ h => SqL.of h.2.1) ?_ ?_⟩
      · rintro i v σ H5 hx ⟨⟨v9, rfl⟩, er5, X5, iq, ig, ie⟩
        have key : ∃ (o5 dx5 c5 d5 : Addr) (w5 h5 : Nat) (cl5 : List (Int × Int × Int)) (hl5 : List (Int × Int)), v = .ref o5 ∧ Bx t.c_Board H5 o5 dx5 c5 d5 w5 h5 l cl5 hl5 ∧ Ct w5 h5 l cl5 hl5 ∧ cl5.length ≤ 449 ∧ hl5.length ≤ 149 ∧ (c ≠ c5 ∧ c ≠ d5 ∧ d ≠ c5 ∧ d ≠ d5) ∧
            ∀ H', Off2 c5 d5 H5 H' → (∃ cl6 hl6, Bx t.c_Board H' o5 dx5 c5 d5 w5 h5 l cl6 hl6 ∧ Ct w5 h5 l cl6 hl6) → (i + 1 = 0 → Bx t.c_Board H' oq dxq cq dq h' w' l (cl.map (g3 (tn2 h'))) (hl.map (tn2 h'))) ∧ (i + 1 ≤ 1 → Bx t.c_Board H' og dxg cg dg w' h' l (cl.map (g3 (mr2 w'))) (hl.map (mr2 w'))) ∧ (i + 1 = 2 → ∃ clg hlg, Bx t.c_Board H' og dxg cg dg w' h' l clg hlg ∧ Ct w' h' l clg hlg) := by
          match i, hx, iq, ig, ie with
          | 0, hx, iq, ig, ie =>
            cases hx
            have Bg5 := ig (by omega)
            have Bq5 := iq rfl
            obtain ⟨u1, hu1, _⟩ := Bq5.ec
            obtain ⟨u2, hu2, _⟩ := Bq5.ed
            refine ⟨oq, dxq, cq, dq, _, _, _, _, rfl, Bq5, Cq, by rw [List.length_map]; omega, by rw [List.length_map]; omega, qs, fun H' f _ => ⟨fun z => (by cases z), fun _ => ⟨f _ _ (ne_of Bg5.eo hu1 (by intro z; cases z)) (ne_of Bg5.eo hu2 (by intro z; cases z)) Bg5.eo, let ⟨cs, e, r⟩ := Bg5.ec; ⟨cs, f _ _ (Ne.symm gq.1) (Ne.symm gq.2.2.1) e, r⟩, let ⟨ds, e, r⟩ := Bg5.ed; ⟨ds, f _ _ (Ne.symm gq.2.1) (Ne.symm gq.2.2.2) e, r⟩, Bg5.ne⟩, fun z => (by cases z)⟩⟩
          | 1, hx, iq, ig, ie =>
            cases hx
            exact ⟨og, dxg, cg, dg, _, _, _, _, rfl, ig (Nat.le_refl _), Cg, by rw [List.length_map]; omega, by rw [List.length_map]; omega, gs, fun H' f h => ⟨fun z => (by cases z), fun z => absurd z (by omega), fun _ => h⟩⟩
        obtain ⟨o5, dx5, c5, d5, w5, h5, cl5, hl5, rfl, B5, C5, lc5, lh5, ns, fin⟩ := key
        obtain ⟨cs5, hc5, tc5, pc5⟩ := B5.ec
        obtain ⟨ds5, hd5, td5, pd5⟩ := B5.ed
        have rr5 : rr ≠ c5 ∧ rr ≠ d5 := ⟨ne_of er5 hc5 (by intro z; cases z), ne_of er5 hd5 (by intro z; cases z)⟩
        have o00 : onB w5 h5 l (0, 0, 0) = true := by
          have := C5.sw; have := C5.sh; have := C5.sl
          exact onB_iff.mpr (by simp only; omega)
        have o0 : (inB ((0, 0) : Int × Int).1 w5 && inB ((0, 0) : Int × Int).2 h5) = true := by
          have := C5.sw; have := C5.sh
          exact inB2_iff.mpr (by simp only; omega)
        have oe : onB w5 h5 l ((w5 : Int) - 1, (h5 : Int) - 1, (l : Int) - 1) = true := by
          have := C5.sw; have := C5.sh; have := C5.sl
          exact onB_iff.mpr (by simp only; omega)
        have oe2 : (inB ((w5 : Int) - 1) w5 && inB ((h5 : Int) - 1) h5) = true := by
          have := C5.sw; have := C5.sh
          exact (inB2_iff (p := ((w5 : Int) - 1, (h5 : Int) - 1))).mpr (by simp only; omega)
        refine gName_go ?_
        dsimp only
        refine ⟨_, rfl, o5, dx5, _, rfl, B5.eo, rfl, (by show 3 ≤ sizeLine; decide), fun t1 ht1 => ?_⟩
        have s6 := same_new (o := .tup [.int 0, .int 0, .int 0]) (Same.refl H5) ht1
        have e6 : upd H5 t1 (.tup [.int 0, .int 0, .int 0]) t1 = some (.tup [.int 0, .int 0, .int 0]) := upd_same
        show _ ∧ _
        generalize upd H5 t1 (.tup [.int 0, .int 0, .int 0]) = H6 at s6 e6 ⊢
        refine ⟨(by show 1 ≤ sizeLine; decide), fun t2 ht2 => ?_⟩
        have s7 := same_new (o := .lst [.ref t1]) (Same.refl H6) ht2
        have e7 : upd H6 t2 (.lst [.ref t1]) t2 = some (.lst [.ref t1]) := upd_same
        show ∃ _, _
        generalize upd H6 t2 (.lst [.ref t1]) = H7 at s7 e7 ⊢
        have s57 := Same.trans s6 s7
        have B7 := B5.same s57
        have hc7 := s57 _ _ hc5
        have lcs : cs5.length = cl5.length := by have := pc5.length_eq; rw [List.length_map, List.length_map] at this; exact this
        have lds : ds5.length = hl5.length := by have := pd5.length_eq; rw [List.length_map, List.length_map] at this; exact this
        have onl : ([(0, 0, 0)] : List (Int × Int × Int)).all (onB w5 h5 l) = true := by rw [List.all_cons, o00]; rfl
        refine ⟨o5, dx5, c5, d5, t2, [t1], [(0, 0, 0)], w5, h5, l, cs5, rfl, B7.eo, e7, Cells.of_key (KeyAt.snoc KeyAt.nil (s7 _ _ e6)), hc7, by rw [lcs]; show _ + 1 ≤ 1000; omega, fun _ => ?_, fun z => absurd onl (by rw [z]; decide)⟩
        have f8 : Off2 c5 d5 H5 (upd H7 c5 (.dT (putAll cs5 [(0, 0, 0)]))) := fun b u n1 n2 e => by rw [upd_ne n1]; exact s57 _ _ e
        have B8 := B7.wrC (cl' := addL cl5 (0, 0, 0)) (cs' := putAll cs5 [(0, 0, 0)]) (put_val tc5) (put_perm (f := k3) (a := ((0, 0, 0) : Int × Int × Int)) (fun a b => k3_inj) pc5)
        have C8 := C5.addLC o00 lc5
        generalize upd H7 c5 (.dT (putAll cs5 [(0, 0, 0)])) = H8 at f8 B8 ⊢
        obtain ⟨ds8, hd8, td8, pd8⟩ := B8.ed
        have lds8 : ds8.length = hl5.length := by have := pd8.length_eq; rw [List.length_map, List.length_map] at this; exact this
        refine ⟨_, rfl, o5, dx5, _, rfl, B8.eo, rfl, o5, dx5, c5, d5, w5, h5, l, 0, 0, ds8, rfl, B8.eo, hd8, by omega, fun _ t3 ht3 => ?_, fun z => absurd o0 (by rw [z]; decide)⟩
        have s9 := same_new (o := .tup [.int 0, .int 0]) (Same.refl H8) ht3
        generalize upd H8 t3 (.tup [.int 0, .int 0]) = H9 at s9 ⊢
        have f10 : Off2 c5 d5 H5 (upd H9 d5 (.dT (putK ds8 [.inl 0, .inl 0] (.bl true)))) := fun b u n1 n2 e => by rw [upd_ne n2]; exact s9 _ _ (f8 b u n1 n2 e)
        have B10 := (B8.same s9).wrD (hl' := addL hl5 (0, 0)) (ds' := putK ds8 [.inl 0, .inl 0] (.bl true)) (put_val td8) (put_perm (f := k2) (a := ((0, 0) : Int × Int)) (fun a b => k2_inj) pd8)
        have C10 := C8.addLH o0 lh5
        generalize upd H9 d5 (.dT (putK ds8 [.inl 0, .inl 0] (.bl true))) = H10 at f10 B10 ⊢
        have hpd : ∀ {H' : Hp}, Off2 c5 d5 H5 H' → SqT K H' p [.int w', .int h', .int l] := fun f => SqT.of (f _ _ (ne_of X5.hp hc5 (by intro z; cases z)) (ne_of X5.hp hd5 (by intro z; cases z)) X5.hp)
        refine ⟨_, rfl, o5, dx5, _, rfl, B10.eo, rfl, _, rfl, o5, _, dx5, _, .int w5, rfl, B10.eo, T.cl_Board, T.na_Board_wide, rfl, (w5 : Int), 1, rfl, rfl, _, rfl, o5, _, dx5, _, .int h5, rfl, B10.eo, T.cl_Board, T.na_Board_high, rfl, (h5 : Int), 1, rfl, rfl, _, rfl, p, _, 2, .int l, rfl, rfl, hpd f10, rfl, (l : Int), 1, rfl, rfl, (by show 3 ≤ sizeLine; decide), fun t4 ht4 => ?_⟩
        have s11 := same_new (o := .tup [.int ((w5 : Int) - 1), .int ((h5 : Int) - 1), .int ((l : Int) - 1)]) (Same.refl H10) ht4
        have e11 : upd H10 t4 (.tup [.int ((w5 : Int) - 1), .int ((h5 : Int) - 1), .int ((l : Int) - 1)]) t4 = some (.tup [.int ((w5 : Int) - 1), .int ((h5 : Int) - 1), .int ((l : Int) - 1)]) := upd_same
        show _ ∧ _
        generalize upd H10 t4 (.tup [.int ((w5 : Int) - 1), .int ((h5 : Int) - 1), .int ((l : Int) - 1)]) = H11 at s11 e11 ⊢
        refine ⟨(by show 1 ≤ sizeLine; decide), fun t5 ht5 => ?_⟩
        have s12 := same_new (o := .lst [.ref t4]) (Same.refl H11) ht5
        have e12 : upd H11 t5 (.lst [.ref t4]) t5 = some (.lst [.ref t4]) := upd_same
        show ∃ _, _
        generalize upd H11 t5 (.lst [.ref t4]) = H12 at s12 e12 ⊢
        have s1012 := Same.trans s11 s12
        have B12 := B10.same s1012
        obtain ⟨cs12, hc12, tc12, pc12⟩ := B12.ec
        refine ⟨o5, dx5, c5, d5, t5, t4, w5, h5, l, _, _, _, cs12, rfl, B12.eo, e12, s12 _ _ e11, oe, hc12, ?_⟩
        have f13 : Off2 c5 d5 H5 (upd H12 c5 (.dT (dropK cs12 [.inl ((w5 : Int) - 1), .inl ((h5 : Int) - 1), .inl ((l : Int) - 1)]))) := fun b u n1 n2 e => by rw [upd_ne n1]; exact s1012 _ _ (f10 b u n1 n2 e)
        have B13 := B12.wrC (cl' := delL (addL cl5 (0, 0, 0)) ((w5 : Int) - 1, (h5 : Int) - 1, (l : Int) - 1)) (cs' := dropK cs12 [.inl ((w5 : Int) - 1), .inl ((h5 : Int) - 1), .inl ((l : Int) - 1)]) (drop_val' tc12) (drop_perm (f := k3) (a := ((w5 : Int) - 1, (h5 : Int) - 1, (l : Int) - 1)) (fun a b => k3_inj) pc12)
        have C13 := C10.delC ((w5 : Int) - 1, (h5 : Int) - 1, (l : Int) - 1)
        generalize upd H12 c5 (.dT (dropK cs12 [.inl ((w5 : Int) - 1), .inl ((h5 : Int) - 1), .inl ((l : Int) - 1)])) = H13 at f13 B13 ⊢
        obtain ⟨ds13, hd13, td13, pd13⟩ := B13.ed
        refine ⟨_, rfl, o5, dx5, _, rfl, B13.eo, rfl, _, rfl, o5, _, dx5, _, .int w5, rfl, B13.eo, T.cl_Board, T.na_Board_wide, rfl, (w5 : Int), 1, rfl, rfl, _, rfl, o5, _, dx5, _, .int h5, rfl, B13.eo, T.cl_Board, T.na_Board_high, rfl, (h5 : Int), 1, rfl, rfl, o5, dx5, c5, d5, w5, h5, l, _, _, ds13, rfl, B13.eo, oe2, hd13, fun t6 ht6 => ?_⟩
        have s14 := same_new (o := .tup [.int ((w5 : Int) - 1), .int ((h5 : Int) - 1)]) (Same.refl H13) ht6
        generalize upd H13 t6 (.tup [.int ((w5 : Int) - 1), .int ((h5 : Int) - 1)]) = H14 at s14 ⊢
        have f15 : Off2 c5 d5 H5 (upd H14 d5 (.dT (dropK ds13 [.inl ((w5 : Int) - 1), .inl ((h5 : Int) - 1)]))) := fun b u n1 n2 e => by rw [upd_ne n2]; exact s14 _ _ (f13 b u n1 n2 e)
        have B15 := (B13.same s14).wrD (hl' := delL (addL hl5 (0, 0)) ((w5 : Int) - 1, (h5 : Int) - 1)) (ds' := dropK ds13 [.inl ((w5 : Int) - 1), .inl ((h5 : Int) - 1)]) (drop_val' td13) (drop_perm (f := k2) (a := ((w5 : Int) - 1, (h5 : Int) - 1)) (fun a b => k2_inj) pd13)
        have C15 := C13.delH ((w5 : Int) - 1, (h5 : Int) - 1)
        generalize upd H14 d5 (.dT (dropK ds13 [.inl ((w5 : Int) - 1), .inl ((h5 : Int) - 1)])) = H15 at f15 B15 ⊢
        exact ⟨⟨_, rfl⟩, f15 _ _ rr5.1 rr5.2 er5, X5.off f15 hc5 hd5 ns.1 ns.2.1 ns.2.2.1 ns.2.2.2, fin _ f15 ⟨_, _, B15, C15⟩⟩
      · rintro σ H5 ⟨⟨v9, rfl⟩, er5, X5, _, _, ie⟩
        exact nx _ _ ⟨⟨_, rfl⟩, X5, ie rfl⟩
    clear X2 Bq2 Bg2
    rintro σ H1 ⟨⟨v9, rfl⟩, X1, clg, hlg, Bg, Cg'⟩
    refine seq_gen (fun σ H' => σ = [some (.ref a), some (.ref p), some (.ref a1), some (.ref a2), some (.ref o), v5, some (.ref oq), v7, some (.ref og), v9, v10] ∧ Th t H' o dx c d p a1 a2 w' h' l cl hl) (fun R nx => ?_) ?_
    · refine ⟨_, rfl, _, rfl, _, rfl, _, rfl, o, dx, c, d, p, a1, a2, w', h', l, cl, cl, hl, hl, rfl, X1.B, X1.hp, X1.L1, X1.L2, List.Perm.refl _, List.Perm.refl _, fun H2 s2 => ⟨_, rfl, iteF ?_⟩⟩
      have X2 := X1.same s2
      have Bg2 := Bg.same s2
      refine ⟨_, rfl, og, dxg, _, rfl, Bg2.eo, rfl, og, dxg, cg, dg, w', h', l, clg, hlg, rfl, Bg2, Cg', X2.tb, fun o3 dx3 c3 d3 H3 sm3 tb3 _ _ _ B3 => ?_⟩
      have C3 := Cg'.led (lead_mr w' h') Cg'.sw Cg'.sh
      refine ⟨o3, dx3, _, rfl, B3.eo, rfl, o3, dx3, c3, d3, w', h', l, _, _, rfl, B3, C3, tb3, fun o4 dx4 c4 d4 H4 sm4 tb4 _ _ _ B4 => ?_⟩
      rw [mr_mr, mr_mr2] at B4
      have sm24 := sm3.trans sm4
      have Bg4 := Bg2.sm sm24
      refine ⟨o4, dx4, _, rfl, B4.eo, rfl, _, rfl, o4, dx4, c4, d4, og, dxg, cg, dg, _, _, _, _, _, _, clg, clg, hlg, hlg, rfl, B4, Bg4, Cg'.nc, Cg'.nh, fun x H5 s5 i5 => ?_⟩
      obtain rfl : x = true := i5.mpr ⟨⟨rfl, rfl, rfl⟩, List.Perm.refl _, List.Perm.refl _⟩
      exact ⟨_, rfl, iteF (nx _ _ ⟨rfl, (X2.sm sm24 tb4).same s5⟩)⟩
    clear X1 Bg
    rintro σ H1 ⟨rfl, X1⟩
    have C1 := Cc.led (lead_tn w' h') Cc.sh Cc.sw
    have C2 := C1.led (lead_tn h' w') Cc.sw Cc.sh
    have C3 := C2.led (lead_tn w' h') Cc.sh Cc.sw
    refine seq_gen (fun σ H' => σ = [some (.ref a), some (.ref p), some (.ref a1), some (.ref a2), some (.ref o), v5, some (.ref oq), v7, some (.ref og), v9, v10] ∧ Th t H' o dx c d p a1 a2 w' h' l cl hl) (fun R nx => ?_) ?_
    · refine ⟨_, rfl, o, dx, _, rfl, X1.B.eo, rfl, o, dx, c, d, w', h', l, cl, hl, rfl, X1.B, Cc, X1.tb, fun o2 dx2 c2 d2 H2 sm2 tb2 _ _ _ B2 => ?_⟩
      refine ⟨o2, dx2, _, rfl, B2.eo, rfl, o2, dx2, c2, d2, h', w', l, _, _, rfl, B2, C1, tb2, fun o3 dx3 c3 d3 H3 sm3 tb3 _ _ _ B3 => ?_⟩
      refine ⟨o3, dx3, _, rfl, B3.eo, rfl, o3, dx3, c3, d3, w', h', l, _, _, rfl, B3, C2, tb3, fun o4 dx4 c4 d4 H4 sm4 tb4 _ _ _ B4 => ?_⟩
      refine ⟨o4, dx4, _, rfl, B4.eo, rfl, o4, dx4, c4, d4, h', w', l, _, _, rfl, B4, C3, tb4, fun o5 dx5 c5 d5 H5 sm5 tb5 _ _ _ B5 => ?_⟩
      rw [tn4, tn4'] at B5
      have sm15 := sm2.trans (sm3.trans (sm4.trans sm5))
      have X5 := X1.sm sm15 tb5
      refine ⟨o5, dx5, _, rfl, B5.eo, rfl, _, rfl, o5, dx5, c5, d5, o, dx, c, d, _, _, _, _, _, _, cl, cl, hl, hl, rfl, B5, X5.B, Cc.nc, Cc.nh, fun x H6 s6 i6 => ?_⟩
      obtain rfl : x = true := i6.mpr ⟨⟨rfl, rfl, rfl⟩, List.Perm.refl _, List.Perm.refl _⟩
      exact ⟨_, rfl, iteF (nx _ _ ⟨rfl, X5.same s6⟩)⟩
    clear X1
    rintro σ H1 ⟨rfl, X1⟩
    refine ⟨_, rfl, o, dx, _, rfl, X1.B.eo, rfl, o, dx, c, d, w', h', l, cl, hl, rfl, X1.B, Cc, X1.tb, fun o2 dx2 c2 d2 H2 sm2 tb2 _ _ _ B2 => ?_⟩
    refine ⟨o2, dx2, _, rfl, B2.eo, rfl, o2, dx2, c2, d2, w', h', l, _, _, rfl, B2, Cg, tb2, fun o3 dx3 c3 d3 H3 sm3 tb3 _ _ _ B3 => ?_⟩
    rw [mr_mr, mr_mr2] at B3
    have X3 := X1.sm (sm2.trans sm3) tb3
    refine ⟨o3, dx3, _, rfl, B3.eo, rfl, _, rfl, o3, dx3, c3, d3, o, dx, c, d, _, _, _, _, _, _, cl, cl, hl, hl, rfl, B3, X3.B, Cc.nc, Cc.nh, fun x H4 s4 i4 => ?_⟩
    obtain rfl : x = true := i4.mpr ⟨⟨rfl, rfl, rfl⟩, List.Perm.refl _, List.Perm.refl _⟩
    have X4 := X3.same s4
    exact ⟨_, rfl, iteT ⟨_, rfl, _, rfl, _, rfl, _, rfl, o, dx, c, d, p, a1, a2, w', h', l, cl, hl, rfl, X4.B, Cc, by omega, by omega, X4.tb, X4.hp, X4.L1, X4.L2, fun H5 => q H5⟩⟩
theorem law_fn (T : Txt K mg t) {h : Heap} (KX : K.In h) (hT : ∀ p ∈ [t.pl_Board_turned, t.pl_Board_mirrored], h.get? p = some (PySem.W.tabObj #[])) : ∃ (fd : FuncData) (tabs : List Addr), (∀ (s : Shared) (u : Value), BindsTo s fd ⟨[u], []⟩ [("_law_script", u)]) ∧ (∀ p ∈ tabs, isCodeTable h p ∧ h.get? p = some (PySem.W.tabObj #[]) ∧ K.lookup p = none) ∧
    ∀ base : Heap, K.In base → base.Ns mainGlobals mg → BMod mg base → FnOk P w K mg base (XC P w) 9 t.f_law fd ["_law_script"] (spLaw K tabs) := by
  obtain ⟨fd, F, b⟩ := T.F_law
  refine ⟨fd, tabsOf t, b, fun p hp => ⟨?_, hT p hp, ?_⟩, fun base _ _ hB => law_ok T hB F⟩
  · have hp' : p = t.pl_Board_turned ∨ p = t.pl_Board_mirrored := by simpa [tabsOf] using hp
    rcases hp' with rfl | rfl
    · exact ((PySem.W.codeHd_of_K KX T.hd_Board_turned).tab (hT _ hp)).isCodeTable
    · exact ((PySem.W.codeHd_of_K KX T.hd_Board_mirrored).tab (hT _ hp)).isCodeTable
  · have hp' : p = t.pl_Board_turned ∨ p = t.pl_Board_mirrored := by simpa [tabsOf] using hp
    rcases hp' with rfl | rfl
    · exact T.nl_Board_turned
    · exact T.nl_Board_mirrored
end
theorem walk {l : PySem.W.OpenLaw} {q : Program} {loose : List Str} {XP : (Str → Option Value) → Heap → Prop} {YP : World → Heap → Prop} {d : DefRec} {K : Params → PySem.W.Frag} (hn : l.most = some 63) (hdf : d.params.defaults = [])
    (hY : ∀ (w : World) (h : Heap), YP w h → (K w.params).In h)
    (F : ∀ (w : World) (mg : Str → Option Value) (fa : Addr) (h : Heap), YP w h → (K w.params).In h → h.Ns mainGlobals mg → mg d.name = some (.ref fa) →
      ∃ (fd : FuncData) (tabs : List Addr), (∀ (s : Shared) (u : Value), BindsTo s fd ⟨[u], []⟩ [("_law_script", u)]) ∧ (∀ p ∈ tabs, isCodeTable h p ∧ h.get? p = some (PySem.W.tabObj #[]) ∧ (K w.params).lookup p = none) ∧
        ∀ base : Heap, (K w.params).In base → base.Ns mainGlobals mg → BMod mg base → FnOk l.prog w (K w.params) mg base (XC l.prog w) 9 fa fd ["_law_script"] (spLaw (K w.params) tabs)) :
    PySem.W.WalkO q loose XP YP l.row.toRowW d [] (fun f vs => PySem.call f vs) :=
  L2.walk_ofT (n := 63) (k := 9) (x := "_law_script") (sp := spLaw) hn (by decide) hdf ⟨fun _ => rfl, by decide, by decide⟩ hY F fun K tabs H a ns hl hS hT => ⟨a, ns, rfl, hS, hl, hT, fun _ => rfl⟩
end K13
open PySem PySem.W PyProof.Rows
set_option maxRecDepth 100000 in
set_option maxHeartbeats 0 in
theorem PySem.Challenge.cw_copperbook_k13_turned_and_mirrored_holds : PySem.Challenge.rw_copperbook_k13_turned_and_mirrored.Holds := by
  w_on; o_law; k_head; (case hw => w_witness2)
  k_fill
  refine K13.walk (l := PySem.Challenge.rw_copperbook_k13_turned_and_mirrored) rfl rfl (fun w h Y => PySem.W.km_in_of Y) ?F
  case F =>
    intro w mg fa h Y KX G hmg
    have hT8 := PySem.W.km_tabs_of Y
    have TT : ∃ t : K13.Adr, K13.Txt (L2.KOf KX) mg t ∧ ∀ p ∈ [t.pl_Board_turned, t.pl_Board_mirrored], h.get? p = some (PySem.W.tabObj #[]) := by
      dsimp only [L2.KOf]
      refine' K13.txt_mk KX G ?g_Board ?pg_Board ?hd_Board ?po_Board ?sa_Board ?mk_Board ?kc_Board ?na_Board_wide ?na_Board_high ?na_Board_layers ?na_Board_copper ?na_Board_drilled ?a_is_whole ?l_is_whole ?cc_is_whole ?k_is_whole ?a_Board_init ?i_Board_init ?l_Board_init ?dl_Board_init ?cc_Board_init ?k_Board_init ?a_Board_cells ?i_Board_cells ?l_Board_cells ?dl_Board_cells ?cc_Board_cells ?k_Board_cells ?a_Board_holes ?i_Board_holes ?l_Board_holes ?cc_Board_holes ?k_Board_holes ?a_Board_turned ?i_Board_turned ?l_Board_turned ?cc_Board_turned ?k_Board_turned ?ko_Board_turned ?kp_Board_turned ?ch_Board_turned ?nl_Board_turned ?tb_Board_turned ?a_Board_mirrored ?i_Board_mirrored ?l_Board_mirrored ?cc_Board_mirrored ?k_Board_mirrored ?ko_Board_mirrored ?kp_Board_mirrored ?ch_Board_mirrored ?nl_Board_mirrored ?tb_Board_mirrored ?a_Board_put ?i_Board_put ?l_Board_put ?cc_Board_put ?k_Board_put ?a_Board_take ?i_Board_take ?l_Board_take ?cc_Board_take ?k_Board_take ?a_Board_drill ?i_Board_drill ?l_Board_drill ?cc_Board_drill ?k_Board_drill ?a_Board_plug ?i_Board_plug ?l_Board_plug ?cc_Board_plug ?k_Board_plug ?a_Board_same_as ?i_Board_same_as ?l_Board_same_as ?cc_Board_same_as ?k_Board_same_as ?a_Board_redrawn ?i_Board_redrawn ?l_Board_redrawn ?cc_Board_redrawn ?k_Board_redrawn ?a_Board_has_layer ?i_Board_has_layer ?l_Board_has_layer ?cc_Board_has_layer ?k_Board_has_layer ?a_Board_has_square ?i_Board_has_square ?l_Board_has_square ?cc_Board_has_square ?k_Board_has_square ?a_Board_has_cell ?i_Board_has_cell ?l_Board_has_cell ?cc_Board_has_cell ?k_Board_has_cell ?a_Board_need_square ?i_Board_need_square ?l_Board_need_square ?cc_Board_need_square ?k_Board_need_square ?a_Board_need_cells ?i_Board_need_cells ?l_Board_need_cells ?cc_Board_need_cells ?k_Board_need_cells ?a_need_measure ?l_need_measure ?cc_need_measure ?k_need_measure ?a_law_cell_at ?l_law_cell_at ?cc_law_cell_at ?k_law_cell_at ?a_law_mixed ?l_law_mixed ?cc_law_mixed ?k_law_mixed ?a_law_rows ?l_law_rows ?cc_law_rows ?k_law_rows ?a_law_board ?l_law_board ?cc_law_board ?k_law_board ?a_law_made ?l_law_made ?cc_law_made ?k_law_made ?a_law_tells ?l_law_tells ?cc_law_tells ?k_law_tells ?a_law_unlike ?l_law_unlike ?cc_law_unlike ?k_law_unlike ?a_law_led_on ?l_law_led_on ?cc_law_led_on ?k_law_led_on ?a_law ?l_law ?cc_law ?k_law ?pn_Board_turned_Board_mirrored ?g_CopperError ?g_NoBoard ?g_NoPlace ?x_NoBoard ?x_NoPlace ?n_isinstance ?n_int ?n_bool ?n_list ?n_tuple ?n_len ?n_range ?n_enumerate ?n_sorted ?g_MOST_WIDE ?g_MOST_HIGH ?g_MOST_LAYERS
      (case g_Board => k_is)
      (case pg_Board => k_is)
      (case hd_Board => k_is)
      (case po_Board => k_is)
      (case sa_Board => k_is)
      (case mk_Board => k_is)
      (case kc_Board => k_is)
      (case na_Board_wide => k_is)
      (case na_Board_high => k_is)
      (case na_Board_layers => k_is)
      (case na_Board_copper => k_is)
      (case na_Board_drilled => k_is)
      (case a_is_whole => k_is)
      (case l_is_whole => k_is)
      (case cc_is_whole => k_is)
      (case k_is_whole => k_is)
      (case a_Board_init => k_is)
      (case i_Board_init => k_is)
      (case l_Board_init => k_is)
      (case dl_Board_init => k_is)
      (case cc_Board_init => k_is)
      (case k_Board_init => k_is)
      (case a_Board_cells => k_is)
      (case i_Board_cells => k_is)
      (case l_Board_cells => k_is)
      (case dl_Board_cells => k_is)
      (case cc_Board_cells => k_is)
      (case k_Board_cells => k_is)
      (case a_Board_holes => k_is)
      (case i_Board_holes => k_is)
      (case l_Board_holes => k_is)
      (case cc_Board_holes => k_is)
      (case k_Board_holes => k_is)
      (case a_Board_turned => k_is)
      (case i_Board_turned => k_is)
      (case l_Board_turned => k_is)
      (case cc_Board_turned => k_is)
      (case k_Board_turned => k_is)
      (case ko_Board_turned => k_is)
      (case kp_Board_turned => exact rfl)
      (case ch_Board_turned => kernel_rfl)
      (case nl_Board_turned => kernel_rfl)
      (case tb_Board_turned => exact hT8 _ (by decide))
      (case a_Board_mirrored => k_is)
      (case i_Board_mirrored => k_is)
      (case l_Board_mirrored => k_is)
      (case cc_Board_mirrored => k_is)
      (case k_Board_mirrored => k_is)
      (case ko_Board_mirrored => k_is)
      (case kp_Board_mirrored => exact rfl)
      (case ch_Board_mirrored => kernel_rfl)
      (case nl_Board_mirrored => kernel_rfl)
      (case tb_Board_mirrored => exact hT8 _ (by decide))
      (case a_Board_put => k_is)
      (case i_Board_put => k_is)
      (case l_Board_put => k_is)
      (case cc_Board_put => k_is)
      (case k_Board_put => k_is)
      (case a_Board_take => k_is)
      (case i_Board_take => k_is)
      (case l_Board_take => k_is)
      (case cc_Board_take => k_is)
      (case k_Board_take => k_is)
      (case a_Board_drill => k_is)
      (case i_Board_drill => k_is)
      (case l_Board_drill => k_is)
      (case cc_Board_drill => k_is)
      (case k_Board_drill => k_is)
      (case a_Board_plug => k_is)
      (case i_Board_plug => k_is)
      (case l_Board_plug => k_is)
      (case cc_Board_plug => k_is)
      (case k_Board_plug => k_is)
      (case a_Board_same_as => k_is)
      (case i_Board_same_as => k_is)
      (case l_Board_same_as => k_is)
      (case cc_Board_same_as => k_is)
      (case k_Board_same_as => k_is)
      (case a_Board_redrawn => k_is)
      (case i_Board_redrawn => k_is)
      (case l_Board_redrawn => k_is)
      (case cc_Board_redrawn => k_is)
      (case k_Board_redrawn => k_is)
      (case a_Board_has_layer => k_is)
      (case i_Board_has_layer => k_is)
      (case l_Board_has_layer => k_is)
      (case cc_Board_has_layer => k_is)
      (case k_Board_has_layer => k_is)
      (case a_Board_has_square => k_is)
      (case i_Board_has_square => k_is)
      (case l_Board_has_square => k_is)
      (case cc_Board_has_square => k_is)
      (case k_Board_has_square => k_is)
      (case a_Board_has_cell => k_is)
      (case i_Board_has_cell => k_is)
      (case l_Board_has_cell => k_is)
      (case cc_Board_has_cell => k_is)
      (case k_Board_has_cell => k_is)
      (case a_Board_need_square => k_is)
      (case i_Board_need_square => k_is)
      (case l_Board_need_square => k_is)
      (case cc_Board_need_square => k_is)
      (case k_Board_need_square => k_is)
      (case a_Board_need_cells => k_is)
      (case i_Board_need_cells => k_is)
      (case l_Board_need_cells => k_is)
      (case cc_Board_need_cells => k_is)
      (case k_Board_need_cells => k_is)
      (case a_need_measure => k_is)
      (case l_need_measure => k_is)
      (case cc_need_measure => k_is)
      (case k_need_measure => k_is)
      (case a_law_cell_at => k_is)
      (case l_law_cell_at => k_is)
      (case cc_law_cell_at => k_is)
      (case k_law_cell_at => k_is)
      (case a_law_mixed => k_is)
      (case l_law_mixed => k_is)
      (case cc_law_mixed => k_is)
      (case k_law_mixed => k_is)
      (case a_law_rows => k_is)
      (case l_law_rows => k_is)
      (case cc_law_rows => k_is)
      (case k_law_rows => k_is)
      (case a_law_board => k_is)
      (case l_law_board => k_is)
      (case cc_law_board => k_is)
      (case k_law_board => k_is)
      (case a_law_made => k_is)
      (case l_law_made => k_is)
      (case cc_law_made => k_is)
      (case k_law_made => k_is)
      (case a_law_tells => k_is)
      (case l_law_tells => k_is)
      (case cc_law_tells => k_is)
      (case k_law_tells => k_is)
      (case a_law_unlike => k_is)
      (case l_law_unlike => k_is)
      (case cc_law_unlike => k_is)
      (case k_law_unlike => k_is)
      (case a_law_led_on => k_is)
      (case l_law_led_on => k_is)
      (case cc_law_led_on => k_is)
      (case k_law_led_on => k_is)
      (case a_law => k_is)
      (case l_law => k_is)
      (case cc_law => k_is)
      (case k_law => k_is)
      (case pn_Board_turned_Board_mirrored => decide)
      (case g_CopperError => k_is)
      (case g_NoBoard => k_is)
      (case g_NoPlace => k_is)
      (case x_NoBoard => k_exc)
      (case x_NoPlace => k_exc)
      (case n_isinstance => k_is)
      (case n_int => k_is)
      (case n_bool => k_is)
      (case n_list => k_is)
      (case n_tuple => k_is)
      (case n_len => k_is)
      (case n_range => k_is)
      (case n_enumerate => k_is)
      (case n_sorted => k_is)
      (case g_MOST_WIDE => k_is)
      (case g_MOST_HIGH => k_is)
      (case g_MOST_LAYERS => k_is)
    obtain ⟨t, T, hT⟩ := TT
    have e := hmg.symm.trans T.g_law
    cases e
    exact K13.law_fn T KX hT
