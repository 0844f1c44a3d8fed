import PyProof.Rows.All
import Wide.All
import OpenK.AllK
import Wide.FinOn
import PyProof.Seq
import PyProof.RangeIter
import PyProof.TupleIter
import PyProof.StrLoop
import PyProof.WalkInts
import PyProof.StationsW
import PyProof.ZipIter
import PyProof.ListNew
import Lean
import PyProof.EqAt
import PyProof.EqKinds
import PyProof.TupleCall
import PyProof.NeKinds
import KE.IntTextLaws
import KE.KIntText
import PyProof.Draws
import PyProof.EnumMake
import PyProof.EnumFor
import PyProof.NsDelKeeps
import PyProof.Rows.StrFit
import PySem.Challenge.RW_copperbook_k15_no_picture
set_option Elab.async false
set_option linter.all false
set_option maxRecDepth 100000
/- These names keep the theorem's opening from writing out equations that only make the build larger: what is built must stay
   below 64 MiB. They say nothing and are used nowhere. -/
theorem PySem.W.Fast.tw16731327084676000141 : True := trivial
theorem PySem.W.Fast.tw3301640886441680615 : True := trivial
theorem PySem.W.Fast.te639101239986998651 : True := trivial
theorem PySem.W.Fast.tw14469358696214780166 : True := trivial
theorem PySem.W.Fast.tw17267775624926094340 : True := trivial
theorem PySem.W.Fast.tw4426623746032162866 : True := trivial
theorem PySem.W.Fast.tw13972378894869341611 : True := trivial
theorem PySem.W.Fast.tw1671800088823253616 : True := trivial
namespace L2
open PySem
inductive Chn (h : Heap) (D : List Addr) : Value → Prop
  | nil : Chn h D .none
  | cons {b : Addr} {ob : Obj} {us : Array Value} {c : Value} : b ∈ D → h.get? b = some ob → ob.data = .fields us → us[2]? = some c → Chn h D c → Chn h D (.ref b)
theorem Chn.kept {h h' : Heap} {D D' : List Addr} {v : Value} (n : Chn h D v) (k : ∀ b ∈ D, ∀ o, h.get? b = some o → h'.get? b = some o) (d : ∀ b ∈ D, b ∈ D') : Chn h' D' v := by
  induction n with
  | nil => exact .nil
  | cons q1 q2 q3 q4 _ ih => exact .cons (d _ q1) (k _ q1 _ q2) q3 q4 ih
theorem Chn.small {h : Heap} {D : List Addr} {v : Value} (n : Chn h D v) : ∃ D', Chn h D' v ∧ ∀ b ∈ D', ∃ (o : Obj) (us : Array Value), h.get? b = some o ∧ o.data = .fields us ∧ 2 < us.size := by
  induction n with
  | nil => exact ⟨[], .nil, fun b hb => absurd hb (by simp)⟩
  | @cons b ob us c q1 q2 q3 q4 _ ih =>
    obtain ⟨D', m, l⟩ := ih
    refine ⟨b :: D', .cons (by simp) q2 q3 q4 (m.kept (fun _ _ _ e => e) fun d hd => List.mem_cons_of_mem _ hd), fun d hd => ?_⟩
    rcases List.mem_cons.mp hd with rfl | hd
    · exact ⟨ob, us, q2, q3, (Array.getElem?_eq_some_iff.mp q4).1⟩
    · exact l d hd
def HdL (A : Around) (h : Heap) (D : List Addr) : Prop := A.handled = none ∨ ∃ ea : Addr, A.handled = some (.ref ea) ∧ Chn h D (.ref ea)
def HdN (A : Around) (h : Heap) : Prop := ∃ D, HdL A h D
theorem HdL.keptD {A : Around} {h h' : Heap} {D : List Addr} (n : HdL A h D) (k : ∀ b ∈ D, ∀ o, h.get? b = some o → h'.get? b = some o) : HdL A h' D := by
  rcases n with z | ⟨ea, h1, h2⟩
  · exact .inl z
  · exact .inr ⟨ea, h1, h2.kept k fun _ q => q⟩
theorem HdN.small {A : Around} {h : Heap} (n : HdN A h) : ∃ D, HdL A h D ∧ ∀ b ∈ D, ∃ (o : Obj) (us : Array Value), h.get? b = some o ∧ o.data = .fields us ∧ 2 < us.size := by
  obtain ⟨D, n⟩ := n
  rcases n with z | ⟨ea, h1, h2⟩
  · exact ⟨[], .inl z, fun b hb => absurd hb (by simp)⟩
  · obtain ⟨D', m, l⟩ := h2.small
    exact ⟨D', .inr ⟨ea, h1, m⟩, l⟩
theorem HdN.but {A : Around} {h h' : Heap} {it : Addr} (n : HdN A h) (k : Heap.SameBut it h h') (ne : ∃ (o : Obj) (us : Array Value), h.get? it = some o ∧ o.data = .fields us ∧ us.size ≤ 2) : HdN A h' := by
  obtain ⟨D, n, l⟩ := n.small
  refine ⟨D, n.keptD fun b hb o e => (k.2 b fun q => ?_).trans e⟩
  obtain ⟨o1, us1, e1, e2, e3⟩ := l b hb
  obtain ⟨o2, us2, f1, f2, f3⟩ := ne
  rw [q, f1] at e1; cases e1
  rw [f2] at e2; cases e2
  omega
theorem entry_unchain : entryFor table "proto.unchain" = some Builtin.«proto.unchain» := entryFor_of_tree (by kernel_rfl)
section
variable {prog : Program} {w : World} {A : Around} {E : Value → Shared → Prop} {s : Shared}
inductive Pth (h : Heap) : Addr → Addr → Prop
  | refl (a : Addr) : Pth h a a
  | step {a b o : Addr} {ob : Obj} {us : Array Value} : h.get? a = some ob → ob.data = .fields us → us[2]? = some (.ref b) → Pth h b o → Pth h a o
theorem Pth.snoc {h : Heap} {a o b : Addr} {ob : Obj} {us : Array Value} (p : Pth h a o) (h1 : h.get? o = some ob) (h2 : ob.data = .fields us) (h3 : us[2]? = some (.ref b)) : Pth h a b := by
  induction p with
  | refl a => exact .step h1 h2 h3 (.refl b)
  | step q1 q2 q3 _ ih => exact .step q1 q2 q3 (ih h1)
def Far (h : Heap) (a o : Addr) : Prop := ∃ (b : Addr) (ob : Obj) (us : Array Value), h.get? a = some ob ∧ ob.data = .fields us ∧ us[2]? = some (.ref b) ∧ Pth h b o
theorem Pth.far {h : Heap} {a o b : Addr} {ob : Obj} {us : Array Value} (p : Pth h a o) (h1 : h.get? o = some ob) (h2 : ob.data = .fields us) (h3 : us[2]? = some (.ref b)) : Far h a b := by
  cases p with
  | refl => exact ⟨b, ob, us, h1, h2, h3, .refl b⟩
  | step q1 q2 q3 p => exact ⟨_, _, _, q1, q2, q3, p.snoc h1 h2 h3⟩
theorem unchain_on {e : Addr} {D : List Addr} {R : Result → Shared → Prop} (new : e ∉ D) (h : R (.ok (.ret .none)) s) {v : Value} (n : Chn s.heap D v) : ∀ (o slow : Addr) (tg : Bool), v = .ref o → Pth s.heap slow o → (tg = true → Far s.heap slow o) →
    codeAny (model prog w) A (.builtin "proto.unchain" ⟨[.ref e, .ref o, .ref slow, .bool tg], []⟩) R s := by
  induction n with
  | nil => intro o slow tg q; cases q
  | @cons b ob us c q1 q2 q3 q4 m ih =>
    intro o slow tg q p far
    cases q
    refine codeAny_builtin entry_unchain ?_
    unfold Builtin.«proto.unchain»
    dsimp only
    refine wpAny_bind (wpAny_field q2 q3 (x := c) q4 ?_)
    cases m with
    | nil => exact wpAny_pure h
    | @cons b2 ob2 us2 c2 r1 r2 r3 r4 m2 =>
      have nbe : b2 ≠ e := fun q => new (q ▸ r1)
      rw [if_neg (show ¬ ((Value.ref b2 == Value.none) = true) from Bool.false_ne_true), if_neg (show ¬ ((Value.ref b2 == Value.ref e) = true) by simpa using nbe)]
      by_cases hs : b2 = slow
      · subst hs
        rw [if_pos (by simp)]
        exact wpAny_bind (wpAny_rule (wpAny_pure h))
      · rw [if_neg (show ¬ ((Value.ref b2 == Value.ref slow) = true) by simpa using hs)]
        cases tg with
        | false => exact wpAny_bind (wpAny_pure (wpAny_pure ⟨Code.quiet_builtin _ (by decide +kernel), ih b2 slow true rfl (p.snoc q2 q3 q4) fun _ => p.far q2 q3 q4⟩))
        | true =>
          obtain ⟨b3, ob3, us3, f1, f2, f3, p3⟩ := far rfl
          exact wpAny_bind (wpAny_field f1 f2 (x := .ref b3) f3 (wpAny_pure ⟨Code.quiet_builtin _ (by decide +kernel), ih b2 b3 false rfl (p3.snoc q2 q3 q4) fun z => by cases z⟩))
theorem raise_on {α : Type} {Q : α → Shared → Prop} {e : Addr} {oe : Obj} {vs : Array Value} {D : List Addr} (hn : HdL A s.heap D) (he : s.heap.get? e = some oe) (hd : oe.data = .fields vs) (h2 : 2 < vs.size)
    (new : e ∉ D)
    (h : ∀ h', (h' = s.heap ∧ A.handled = none) ∨ (∃ ea, A.handled = some (.ref ea) ∧ h' = s.heap.update e (Obj.mapFields (·.setIfInBounds 2 (.ref ea)))) → Heap.SameBut e s.heap h' → (∃ o, h'.get? e = some o ∧ o.cls = oe.cls) → E (.ref e) { s with heap := h' }) : wpAny (model prog w) A (raiseNew (.ref e) : Sem α) Q E s := by
  unfold raiseNew
  refine wpAny_bind (wpAny_handled ?_)
  rcases hn with z | ⟨ea, z, n⟩
  · rw [z]
    exact wpAny_bind (wpAny_pure (wpAny_throw (h s.heap (.inl ⟨rfl, z⟩) ⟨rfl, fun _ _ => rfl⟩ ⟨oe, he, rfl⟩)))
  · have ne : ea ≠ e := fun q => by cases n with | cons q1 => exact new (q ▸ q1)
    rw [z]
    dsimp only
    have hne : (Value.ref ea != Value.ref e) = true := by
      rw [bne_iff_ne]; intro q; exact ne (Value.ref.inj q)
    rw [hne]
    have wf : ∀ {P : Unit → Shared → Prop}, P () { s with heap := s.heap.update e (Obj.mapFields (·.setIfInBounds 2 (.ref ea))) } → wpAny (model prog w) A (updateField e 2 (.ref ea)) P E s := fun {P} q => wpAny_setField he hd h2 q
    refine wpAny_bind (wpAny_holding (wpAny_runValue (unchain_on new ?_ n ea ea false rfl (.refl ea) fun z => by cases z)))
    exact wpAny_bind (wf (wpAny_throw (h _ (.inr ⟨ea, z, rfl⟩) (Heap.SameBut.update ..) ⟨_, Heap.get?_update_self _ he (Obj.isFreed_of_fields (Obj.data_mapFields hd _)), Obj.cls_mapFields ..⟩)))
theorem stop_on {α : Type} {Q : α → Shared → Prop} (hn : HdN A s.heap) (h : ∀ h' e, (∀ b o, s.heap.get? b = some o → h'.get? b = some o) → (∃ o, h'.get? e = some o ∧ o.cls = .type "StopIteration") → E (.ref e) { s with heap := h' }) :
    wpAny (model prog w) A (newExc (.type "StopIteration") [] >>= fun x => (raiseNew x : Sem α)) Q E s := by
  refine wpAny_bind ?_
  unfold newExc newTuple
  refine wpAny_bind (wpAny_newObj_type ?_ (by show 0 ≤ sizeLine; decide))
  refine wpAny_bind (m := firstArgMember (.type "StopIteration") []) (wpAny_of_eq (a := Value.none) rfl (wpAny_newObj_type ?_ (by size_fits)))
  generalize hp : s.heap.push _ = h1
  have k1 : ∀ b o, s.heap.get? b = some o → h1.get? b = some o := fun b o e => hp ▸ Heap.get?_push_of_some _ e
  have k2 : ∀ ob b o, h1.get? b = some o → (h1.push ob).get? b = some o := fun ob b o e => Heap.get?_push_of_some _ e
  obtain ⟨D, nD, lD⟩ := hn.small
  refine raise_on (e := h1.objs.size) (vs := _) (D := D) ((nD.keptD fun b _ o e => k1 b o e).keptD fun b _ o e => k2 _ b o e) (Heap.get?_push_size _ rfl) rfl (by show 2 < 6; decide) (fun q => ?_) fun h' _ sb ex => h h' _ (fun b o e => (sb.2 b ?_).trans (k2 _ b o (k1 b o e))) ex
  · obtain ⟨o, _, eo, _⟩ := lD _ q
    exact absurd (Heap.lt_size (k1 _ _ eo)) (Nat.lt_irrefl _)
  · exact Nat.ne_of_lt (Heap.lt_size (k1 b o e))
theorem stopped {Q : Option Value → Shared → Prop} {e : Addr} (ex : ∃ o, s.heap.get? e = some o ∧ o.cls = .type "StopIteration") (h : Q none s) :
    wpAny (model prog w) A (do if (← isInstance (.ref e) (.type "StopIteration")) = true then pure (none : Option Value) else throw (.ref e)) Q E s := by
  obtain ⟨o, h1, h2⟩ := ex
  refine wpAny_bind (wpAny_isInstance (T := "StopIteration") (b := true) ⟨o, h1, h2⟩ isSubtype_stop ?_)
  exact wpAny_pure h
theorem list_on {it l : Addr} {i : Nat} {items : Array Value} {Q : Option Value → Shared → Prop} (hn : HdN A s.heap) (hit : s.heap.IsListIter it l i) (hl : s.heap.IsList l items) (hx : items[i]? = none)
    (hQ : ∀ h', Heap.ExtBut it s.heap h' → Q none { s with heap := h' }) : wpAny (model prog w) A (pyNext (.ref it)) Q E s := by
  obtain ⟨o, ho, hc, hd⟩ := id hit
  obtain ⟨ol, hol, _, nl, hdl⟩ := hl
  unfold pyNext
  refine wpAny_bind (wpAny_attempt (wpAny_callSpecial?_slot (name := Str.ofString "__next__") hit.typeIs slot_listiter_next (wpAny_call_entry slot_listiter_next hit.typeIs entry_listiter_next ?_ (args_listiter_next _))))
  refine (show ∀ {R : Fin → Shared → Prop} {F : Value → Shared → Prop}, wpAny (model prog w) A.in1 (field (.ref it) 0 >>= _) R F s → wpAny (model prog w) A.in1 (Builtin.«list_iterator.__next__» _) R F s from fun z => z) (wpAny_bind (wpAny_field ho hd (x := .ref l) rfl ?_))
  rw [if_neg (show ¬ ((Value.ref l == Value.none) = true) from Bool.false_ne_true)]
  refine wpAny_bind (wpAny_field (i := 1) ho hd (x := .int i 0) rfl (wpAny_bind (wpAny_seqItems hol hdl ?_)))
  simp only [Int.toNat_natCast, hx]
  refine wpAny_bind (wpAny_rule (wpAny_bind (wpAny_setField ho hd (by simp) ?_)))
  have sb : Heap.SameBut it s.heap (s.heap.update it (Obj.mapFields (·.setIfInBounds 0 .none))) := Heap.SameBut.update ..
  refine stop_on (A := A.in1) (s := { s with heap := _ }) (hn.but sb ⟨o, _, ho, hd, by simp⟩) fun h' e k ex => stopped (s := { s with heap := h' }) ex (hQ h' fun b o hb q => k b o ((sb.2 b hb).trans q))
theorem tuple_on {it l : Addr} {i : Nat} {items : Array Value} {Q : Option Value → Shared → Prop} (hn : HdN A s.heap) (hit : s.heap.IsTupleIter it l i) (hl : s.heap.IsTuple l items) (hx : items[i]? = none)
    (hQ : ∀ h', Heap.ExtBut it s.heap h' → Q none { s with heap := h' }) : wpAny (model prog w) A (pyNext (.ref it)) Q E s := by
  obtain ⟨o, ho, hc, hd⟩ := id hit
  obtain ⟨ol, hol, _, nl, hdl⟩ := hl
  unfold pyNext
  refine wpAny_bind (wpAny_attempt (wpAny_callSpecial?_slot (name := Str.ofString "__next__") hit.typeIs F.slot_tuple_iterator_next (wpAny_call_entry F.slot_tuple_iterator_next hit.typeIs F.entry_tuple_iterator_next ?_ (F.args_tuple_iterator_next_1 _))))
  refine (show ∀ {R : Fin → Shared → Prop} {F : Value → Shared → Prop}, wpAny (model prog w) A.in1 (field (.ref it) 0 >>= _) R F s → wpAny (model prog w) A.in1 (Builtin.«tuple_iterator.__next__» _) R F s from fun z => z) (wpAny_bind (wpAny_field ho hd (x := .ref l) rfl ?_))
  rw [if_neg (show ¬ ((Value.ref l == Value.none) = true) from Bool.false_ne_true)]
  refine wpAny_bind (wpAny_field (i := 1) ho hd (x := .int i 0) rfl (wpAny_bind (wpAny_seqItems hol hdl ?_)))
  simp only [Int.toNat_natCast, hx]
  refine wpAny_bind (wpAny_rule (wpAny_bind (wpAny_setField ho hd (by simp) ?_)))
  have sb : Heap.SameBut it s.heap (s.heap.update it (Obj.mapFields (·.setIfInBounds 0 .none))) := Heap.SameBut.update ..
  refine stop_on (A := A.in1) (s := { s with heap := _ }) (hn.but sb ⟨o, _, ho, hd, by simp⟩) fun h' e k ex => stopped (s := { s with heap := h' }) ex (hQ h' fun b o hb q => k b o ((sb.2 b hb).trans q))
theorem range_on {it : Addr} {x left step : Int} {Q : Option Value → Shared → Prop} (hn : HdN A s.heap) (hit : IsRangeIter s.heap it x left step) (hleft : left ≤ 0)
    (hQ : ∀ h', Heap.ExtBut it s.heap h' → Q none { s with heap := h' }) : wpAny (model prog w) A (pyNext (.ref it)) Q E s := by
  have hT : s.TypeIs (.ref it) "range_iterator" := ⟨_, hit, rfl⟩
  unfold pyNext
  refine wpAny_bind (wpAny_attempt (wpAny_callSpecial?_slot (name := Str.ofString "__next__") hT F.slot_range_iterator_next (wpAny_call_entry F.slot_range_iterator_next hT F.entry_range_iterator_next ?_ (F.args_range_iterator_next_1 _))))
  refine (show ∀ {R : Fin → Shared → Prop} {F : Value → Shared → Prop}, wpAny (model prog w) A.in1 (field (.ref it) 0 >>= _) R F s → wpAny (model prog w) A.in1 (Builtin.«range_iterator.__next__» _) R F s from fun z => z) (wpAny_bind (wpAny_field hit rfl (x := rawInt x) rfl ?_))
  refine (show ∀ {k : Value → Sem Fin} {R : Fin → Shared → Prop} {F : Value → Shared → Prop}, wpAny (model prog w) A.in1 (k (rawInt left)) R F s → wpAny (model prog w) A.in1 (field (.ref it) 1 >>= k) R F s from fun z => wpAny_bind (wpAny_field hit rfl (x := rawInt left) rfl z)) ?_
  refine (show ∀ {k : Value → Sem Fin} {R : Fin → Shared → Prop} {F : Value → Shared → Prop}, wpAny (model prog w) A.in1 (k (rawInt step)) R F s → wpAny (model prog w) A.in1 (field (.ref it) 2 >>= k) R F s from fun z => wpAny_bind (wpAny_field hit rfl (x := rawInt step) rfl z)) ?_
  refine (show ∀ {a b : Sem Fin} {R : Fin → Shared → Prop} {F : Value → Shared → Prop}, wpAny (model prog w) A.in1 a R F s → wpAny (model prog w) A.in1 (if left ≤ 0 then a else b) R F s from fun z => by rw [if_pos hleft]; exact z) ?_
  refine wpAny_bind (wpAny_rule (wpAny_bind ?_))
  exact stop_on (A := A.in1) hn fun h' e k ex => stopped (s := { s with heap := h' }) ex (hQ h' fun b o _ q => k b o q)
theorem ascii_on {it : Addr} {x : Str} {t : Tok} {i : Nat} {Q : Option Value → Shared → Prop} (hn : HdN A s.heap) (hit : s.heap.IsStrIter it "str_ascii_iterator" x t i) (hx : x.cps[i]? = none)
    (hQ : ∀ h', Heap.ExtBut it s.heap h' → Q none { s with heap := h' }) : wpAny (model prog w) A (pyNext (.ref it)) Q E s := by
  obtain ⟨o, ho, hc, hd⟩ := id hit
  unfold pyNext
  refine wpAny_bind (wpAny_attempt (wpAny_callSpecial?_slot (name := Str.ofString "__next__") hit.typeIs F.slot_str_ascii_iterator_next (wpAny_call_entry F.slot_str_ascii_iterator_next hit.typeIs F.entry_str_ascii_iterator_next ?_ (F.args_str_ascii_iterator_next_1 _))))
  refine (show ∀ {R : Fin → Shared → Prop} {F : Value → Shared → Prop}, wpAny (model prog w) A.in1 (field (.ref it) 0 >>= _) R F s → wpAny (model prog w) A.in1 (Builtin.«str_ascii_iterator.__next__» _) R F s from fun z => z) (wpAny_bind (wpAny_field ho hd (x := .str x t) rfl ?_))
  refine wpAny_bind (wpAny_of_eq (a := some x) rfl ?_)
  refine wpAny_bind (wpAny_field (i := 1) ho hd (x := .int i 0) rfl ?_)
  simp only [Int.toNat_natCast, hx]
  refine wpAny_bind (wpAny_rule (wpAny_bind (wpAny_setField ho hd (by simp) (wpAny_bind (wpAny_letGo ?_)))))
  have sb : Heap.SameBut it s.heap (s.heap.update it (Obj.mapFields (·.setIfInBounds 0 .none))) := Heap.SameBut.update ..
  refine stop_on (A := A.in1) (s := { s with heap := _ }) (hn.but sb ⟨o, _, ho, hd, by simp⟩) fun h' e k ex => stopped (s := { s with heap := h' }) ex (hQ h' fun b o hb q => k b o ((sb.2 b hb).trans q))
theorem wide_on {it : Addr} {x : Str} {t : Tok} {i : Nat} {Q : Option Value → Shared → Prop} (hn : HdN A s.heap) (hit : s.heap.IsStrIter it "str_iterator" x t i) (hx : x.cps[i]? = none)
    (hQ : ∀ h', Heap.ExtBut it s.heap h' → Q none { s with heap := h' }) : wpAny (model prog w) A (pyNext (.ref it)) Q E s := by
  obtain ⟨o, ho, hc, hd⟩ := id hit
  unfold pyNext
  refine wpAny_bind (wpAny_attempt (wpAny_callSpecial?_slot (name := Str.ofString "__next__") hit.typeIs F.slot_str_iterator_next (wpAny_call_entry F.slot_str_iterator_next hit.typeIs F.entry_str_iterator_next ?_ (F.args_str_iterator_next_1 _))))
  refine (show ∀ {R : Fin → Shared → Prop} {F : Value → Shared → Prop}, wpAny (model prog w) A.in1 (field (.ref it) 0 >>= _) R F s → wpAny (model prog w) A.in1 (Builtin.«str_iterator.__next__» _) R F s from fun z => z) (wpAny_bind (wpAny_field ho hd (x := .str x t) rfl ?_))
  refine wpAny_bind (wpAny_of_eq (a := some x) rfl ?_)
  refine wpAny_bind (wpAny_field (i := 1) ho hd (x := .int i 0) rfl ?_)
  simp only [Int.toNat_natCast, hx]
  refine wpAny_bind (wpAny_rule (wpAny_bind (wpAny_setField ho hd (by simp) (wpAny_bind (wpAny_letGo ?_)))))
  have sb : Heap.SameBut it s.heap (s.heap.update it (Obj.mapFields (·.setIfInBounds 0 .none))) := Heap.SameBut.update ..
  refine stop_on (A := A.in1) (s := { s with heap := _ }) (hn.but sb ⟨o, _, ho, hd, by simp⟩) fun h' e k ex => stopped (s := { s with heap := h' }) ex (hQ h' fun b o hb q => k b o ((sb.2 b hb).trans q))
end
end L2
set_option Elab.async false
set_option linter.all false
set_option maxRecDepth 100000
namespace L2
open PySem
def TrC (h base : Heap) (e : Addr) (cls : Value) (a0 : Value × Value) (fl : Value) : Prop :=
  ∃ oe vs T oT ts, h.get? e = some oe ∧ (oe.cls = cls ∧ vs[0]? = some a0.1 ∧ vs[2]? = some a0.2) ∧ oe.data = .fields vs ∧ vs[1]? = some (.ref T) ∧ base.get? T = none ∧ T ≠ e ∧ h.get? T = some oT ∧ oT.data = .fields ts ∧ ts[3]? = some fl
structure StepC (base : Heap) (l : List Env) (e : Addr) (cls : Value) (a0 : Value × Value) (fl : Value) (h h' : Heap) : Prop where
  st : base.StaysIn h'
  ff : h'.FunFrames base l
  tr : TrC h' base e cls a0 fl
  up : h.UpToSlots h'
section
variable {M : Model} {A : Around} {E : Value → Shared → Prop} {s : Shared} {base : Heap} {env : Env} {outer : List Env} {L e : Addr} {cls : Value} {a0 : Value × Value}
theorem entry_c {oe : Obj} {vs : Array Value} {head : Value} {hadNext : Bool} {Q : Unit → Shared → Prop} (hfr : A.frames = some (env :: outer)) (hl : s.heap.FunFrames base (env :: outer)) (hf : env.frame = some L)
    (he : s.heap.get? e = some oe) (hkb : base.StaysIn s.heap) (hen : base.get? e = none) (hd : oe.data = .fields vs) (hsz : 1 < vs.size) (h0 : vs[0]? = some a0.1) (h2 : vs[2]? = some a0.2)
    (h : ∀ h', StepC base (env :: outer) e oe.cls a0 (rawInt L) s.heap h' → Q () { s with heap := h' }) :
    wpAny M A (do let a ← frameOf env; let pl ← entryPlaceOf L hadNext; let b ← EntryCells.newEntry head a .none (rawInt L) .none pl; setField (.ref e) 1 b) Q E s := by
  have rec1 : ∀ b o, s.heap.get? b = some o → (∀ us, o.data ≠ .fields us) → b ≠ e := fun b o hb hn q => by
    subst q
    rw [he] at hb; cases hb
    exact hn vs hd
  have efr : e ∉ (env :: outer).filterMap (·.frame) := fun hm => by
    obtain ⟨_, o, ho, hn⟩ := hl.mem hm
    exact rec1 e o ho hn rfl
  refine wpAny_bind (wpAny_frameOf_fun hfr hl hf fun g hg => wpAny_bind (wpAny_entryPlaceOf fun pl hpl => ?_))
  unfold EntryCells.newEntry newFields
  refine wpAny_bind (wpAny_newObj_type ?_ (hpl.sizeOk5 _ _ _ _ _))
  generalize ho : (Obj.mk (.type "traceback") none (.fields ([head, .ref L, .none, rawInt L, .none] ++ (if pl.isEmpty then List.replicate 6 Value.none else pl)).toArray) #[]) = ot
  have hoc : ot.data = .fields ([head, .ref L, .none, rawInt L, .none] ++ (if pl.isEmpty then List.replicate 6 Value.none else pl)).toArray := by rw [← ho]
  have eg : g.get? e = some oe := (hg.2.1 e efr).trans he
  have bg : base.StaysIn g := fun b o hb => (hg.2.1 b fun hm => by rw [(hl.mem hm).1] at hb; cases hb).trans (hkb b o hb)
  have nT : g.objs.size ≠ e := Nat.ne_of_gt (Heap.lt_size eg)
  have e2 : (g.push ot).get? e = some oe := Heap.get?_push_of_some _ eg
  refine wpAny_setField e2 hd hsz (h _ ?_)
  have d3 := Obj.data_mapFields hd (·.setIfInBounds 1 (Value.ref g.objs.size))
  have e3 := Heap.get?_update_self (Obj.mapFields (·.setIfInBounds 1 (Value.ref g.objs.size))) e2 (Obj.isFreed_of_fields d3)
  have keep : ∀ b o, b ≠ e → g.get? b = some o → ((g.push ot).update e (Obj.mapFields (·.setIfInBounds 1 (Value.ref g.objs.size)))).get? b = some o := fun b o hb q => by
    rw [Heap.get?_update_other _ _ (Ne.symm hb)]
    exact Heap.get?_push_of_some _ q
  have T3 : ((g.push ot).update e (Obj.mapFields (·.setIfInBounds 1 (Value.ref g.objs.size)))).get? g.objs.size = some ot := by
    rw [Heap.get?_update_other _ _ (Ne.symm nT)]
    exact Heap.get?_push_size g (by rw [← ho]; rfl)
  refine ⟨fun b o hb => keep b o (fun q => by rw [q, hen] at hb; cases hb) (bg b o hb), hl.of_keeps fun b o hb hn => ?_, ⟨_, _, g.objs.size, ot, _, e3, ⟨Obj.cls_mapFields _ _, ?_, ?_⟩, d3, by simp [hsz], bg.fresh, nT, T3, hoc, ?_⟩, fun b o hb hn => ?_⟩
  · obtain ⟨sl, q⟩ := hg.2.2 b o hb
    exact ⟨_, keep b _ (rec1 b o hb hn) q, rfl⟩
  · rw [Array.getElem?_setIfInBounds_ne (by decide)]; exact h0
  · rw [Array.getElem?_setIfInBounds_ne (by decide)]; exact h2
  · first | (simp; done) | (rcases hpl with rfl | ⟨_, _, _, _, _, _, _, rfl⟩ <;> simp)
  · obtain ⟨sl, q⟩ := hg.2.2 b o hb
    exact ⟨sl, keep b _ (rec1 b o hb hn) q⟩
theorem flight_c {l : List Env} {fl : Value} {Q : Unit → Shared → Prop} (hkb : base.StaysIn s.heap) (hl : s.heap.FunFrames base l) (ht : TrC s.heap base e cls a0 fl)
    (h : ∀ h', StepC base l e cls a0 .none s.heap h' → (∀ b o, s.heap.get? b = some o → (∀ us, o.data ≠ .fields us) → h'.get? b = some o) → Q () { s with heap := h' }) : wpAny M A (setFlight (.ref e) none) Q E s := by
  obtain ⟨oe, vs, T, oT, ts, he, hc, hd, h1, hnT, hTe, hT, hdT, h3⟩ := ht
  have z3 : 3 < ts.size := (Array.getElem?_eq_some_iff.mp h3).1
  have nrec : ∀ b o, s.heap.get? b = some o → (∀ us, o.data ≠ .fields us) → T ≠ b := fun b o hb hn q => by
    subst q
    rw [hT] at hb; cases hb
    exact hn ts hdT
  unfold setFlight
  refine wpAny_bind (wpAny_field he hd h1 ?_)
  rw [if_pos (show (Value.ref T != Value.none) = true by simp)]
  refine wpAny_setField hT hdT z3 (h _ ⟨fun b o hb => ?_, hl.of_keeps fun b o hb hn => ⟨o, ?_, rfl⟩, ⟨oe, vs, T, _, _, ?_, hc, hd, h1, hnT, hTe, Heap.get?_update_self _ hT (Obj.isFreed_of_fields (Obj.data_mapFields hdT _)), Obj.data_mapFields hdT _, by simp [z3]⟩, fun b o hb hn => ⟨o.slots, ?_⟩⟩ fun b o hb hn => ?_)
  · rw [Heap.get?_update_other _ _ (fun q => by rw [← q, hnT] at hb; cases hb)]; exact hkb b o hb
  · rw [Heap.get?_update_other _ _ (nrec b o hb hn)]; exact hb
  · rw [Heap.get?_update_other _ _ hTe]; exact he
  · rw [Heap.get?_update_other _ _ (nrec b o hb hn)]; exact hb
  · rw [Heap.get?_update_other _ _ (nrec b o hb hn)]; exact hb
theorem note_first {oe : Obj} {vs : Array Value} {Q : Unit → Shared → Prop} (hfr : A.frames = some (env :: outer)) (hl : s.heap.FunFrames base (env :: outer)) (hf : env.frame = some L)
    (he : s.heap.get? e = some oe) (hkb : base.StaysIn s.heap) (hen : base.get? e = none) (hd : oe.data = .fields vs) (h1 : vs[1]? = some .none) (h0 : vs[0]? = some a0.1) (h2 : vs[2]? = some a0.2)
    (h : ∀ h', StepC base (env :: outer) e oe.cls a0 (rawInt L) s.heap h' → Q () { s with heap := h' }) : wpAny M A (noteFrame (.ref e) env) Q E s := by
  unfold noteFrame
  simp only [hf]
  refine wpAny_bind (wpAny_field he hd h1 ?_)
  rw [if_neg (by decide)]
  exact entry_c hfr hl hf he hkb hen hd (Array.getElem?_eq_some_iff.mp h1).1 h0 h2 h
theorem note_next {Q : Unit → Shared → Prop} (hfr : A.frames = some (env :: outer)) (hl : s.heap.FunFrames base (env :: outer)) (hf : env.frame = some L) (ht : TrC s.heap base e cls a0 .none) (hkb : base.StaysIn s.heap) (hen : base.get? e = none)
    (h : ∀ h', StepC base (env :: outer) e cls a0 (rawInt L) s.heap h' → Q () { s with heap := h' }) : wpAny M A (noteFrame (.ref e) env) Q E s := by
  obtain ⟨oe, vs, T, oT, ts, he, ⟨hc, h0, h2⟩, hd, h1, hnT, hTe, hT, hdT, h3⟩ := ht
  subst hc
  have nrec : ∀ b o, s.heap.get? b = some o → (∀ us, o.data ≠ .fields us) → T ≠ b := fun b o hb hn q => by
    subst q
    rw [hT] at hb; cases hb
    exact hn ts hdT
  unfold noteFrame
  simp only [hf]
  refine wpAny_bind (wpAny_field he hd h1 ?_)
  rw [if_pos (show (Value.ref T != Value.none) = true by simp)]
  refine wpAny_bind (wpAny_field hT hdT h3 ?_)
  rw [if_neg (show ¬ ((Value.none == rawInt L) = true) by simp [rawInt])]
  refine wpAny_bind (wpAny_setField hT hdT (Array.getElem?_eq_some_iff.mp h3).1 ?_)
  refine entry_c (s := { s with heap := _ }) hfr (hl.of_keeps fun b o hb hn => ⟨o, by rw [Heap.get?_update_other _ _ (nrec b o hb hn)]; exact hb, rfl⟩) hf (by rw [Heap.get?_update_other _ _ hTe]; exact he) (fun b o hb => by
    rw [Heap.get?_update_other _ _ (fun q => by rw [← q, hnT] at hb; cases hb)]; exact hkb b o hb) hen hd (Array.getElem?_eq_some_iff.mp h1).1 h0 h2 fun h' S => h h' ⟨S.st, S.ff, S.tr, fun b o hb hn => S.up b o (by rw [Heap.get?_update_other _ _ (nrec b o hb hn)]; exact hb) hn⟩
theorem leave_first {oe : Obj} {vs : Array Value} {Q : Unit → Shared → Prop} (hfr : A.frames = some (env :: outer)) (hl : s.heap.FunFrames base (env :: outer)) (hf : env.frame = some L)
    (he : s.heap.get? e = some oe) (hkb : base.StaysIn s.heap) (hen : base.get? e = none) (hd : oe.data = .fields vs) (h1 : vs[1]? = some .none) (h0 : vs[0]? = some a0.1) (h2 : vs[2]? = some a0.2)
    (h : ∀ h', StepC base (env :: outer) e oe.cls a0 .none s.heap h' → Q () { s with heap := h' }) : wpAny M A (leaving env (.ref e)) Q E s := by
  unfold leaving
  refine wpAny_bind (note_first hfr hl hf he hkb hen hd h1 h0 h2 fun h1 S => flight_c (s := { s with heap := h1 }) S.st S.ff S.tr fun h2 S2 _ => h h2 ⟨S2.st, S2.ff, S2.tr, S.up.trans S2.up⟩)
theorem leave_next {Q : Unit → Shared → Prop} (hfr : A.frames = some (env :: outer)) (hl : s.heap.FunFrames base (env :: outer)) (hf : env.frame = some L) (ht : TrC s.heap base e cls a0 .none) (hkb : base.StaysIn s.heap) (hen : base.get? e = none)
    (h : ∀ h', StepC base (env :: outer) e cls a0 .none s.heap h' → Q () { s with heap := h' }) : wpAny M A (leaving env (.ref e)) Q E s := by
  unfold leaving
  refine wpAny_bind (note_next hfr hl hf ht hkb hen fun h1 S => flight_c (s := { s with heap := h1 }) S.st S.ff S.tr fun h2 S2 _ => h h2 ⟨S2.st, S2.ff, S2.tr, S.up.trans S2.up⟩)
end
end L2
set_option Elab.async false
set_option linter.all false
set_option maxRecDepth 100000
namespace L2
open PySem
section
variable {prog : Program} {w : World} {A : Around} {E : Value → Shared → Prop} {s : Shared} {z TI TO i1 i2 l1 l2 : Addr} {xs ys : Array Value}
end
end L2
set_option Elab.async false
set_option linter.all false
set_option maxRecDepth 100000
namespace L2
open PySem PySem.Spec PyProof.Rows
abbrev Key := Sum Int Str
def keyIs : Key → Value → Bool
  | .inl k, v => Value.isInt k v
  | .inr x, v => Value.isStrOf x v
def keyH (w : World) : Key → Int
  | .inl k => hashInt k
  | .inr x => hashStr w x
theorem keyIs_shape : ∀ {k : Key} {v : Value}, keyIs k v = true → (∃ i t, k = Sum.inl i ∧ v = Value.int i t) ∨ (∃ x t, k = Sum.inr x ∧ v = Value.str x t)
  | .inl i, v, h => by
    obtain ⟨t, e⟩ := Value.isInt_shape (k := i) (v := v) h
    exact .inl ⟨i, t, rfl, e⟩
  | .inr x, v, h => by
    obtain ⟨t, e⟩ := Value.isStrOf_shape (x := x) (v := v) h
    exact .inr ⟨x, t, rfl, e⟩
theorem keyIs_int (i : Int) (t : Tok) : keyIs (.inl i) (.int i t) = true := by simp [keyIs, Value.isInt]
theorem keyIs_str (x : Str) (t : Tok) : keyIs (.inr x) (.str x t) = true := by simp [keyIs, Value.isStrOf]
theorem key_ll (a b : Int) : decide ((Sum.inl a : Key) = Sum.inl b) = (a == b) := by
  by_cases e : a = b
  · subst e; simp
  · have h : ¬ (Sum.inl a : Key) = Sum.inl b := fun q => e (Sum.inl.inj q)
    rw [decide_eq_false h]
    exact (beq_eq_false_iff_ne.mpr e).symm
theorem key_rr (a b : Str) : decide ((Sum.inr a : Key) = Sum.inr b) = decide (a = b) := by
  by_cases e : a = b
  · subst e; simp
  · have h : ¬ (Sum.inr a : Key) = Sum.inr b := fun q => e (Sum.inr.inj q)
    rw [decide_eq_false h, decide_eq_false e]
theorem key_lr (a : Int) (b : Str) : decide ((Sum.inl a : Key) = Sum.inr b) = false := decide_eq_false (fun q => nomatch q)
theorem key_rl (a : Str) (b : Int) : decide ((Sum.inr a : Key) = Sum.inl b) = false := decide_eq_false (fun q => nomatch q)
def mixKind (prog : Program) (w : World) : PySem.KeyKind prog w Key where
  is := keyIs
  hash := keyH w
  inj := fun v a b ha hb => by
    rcases keyIs_shape ha with ⟨i, t, rfl, rfl⟩ | ⟨x, t, rfl, rfl⟩
    · rcases keyIs_shape hb with ⟨j, u, rfl, e⟩ | ⟨y, u, rfl, e⟩
      · injection e with e1 _; rw [e1]
      · exact nomatch e
    · rcases keyIs_shape hb with ⟨j, u, rfl, e⟩ | ⟨y, u, rfl, e⟩
      · exact nomatch e
      · injection e with e1 _; rw [e1]
  byValue := fun k v h => by
    rcases keyIs_shape h with ⟨i, t, rfl, rfl⟩ | ⟨x, t, rfl, rfl⟩ <;> rfl
  pyHash := fun hv h => by
    rcases keyIs_shape hv with ⟨i, t, rfl, rfl⟩ | ⟨x, t, rfl, rfl⟩
    · exact wpAny_pyHash_int h
    · exact wpAny_pyHash_str h
  eqBool := fun hu hv h => by
    rcases keyIs_shape hu with ⟨i, t, rfl, rfl⟩ | ⟨x, t, rfl, rfl⟩
    · rcases keyIs_shape hv with ⟨j, u, rfl, rfl⟩ | ⟨y, u, rfl, rfl⟩
      · rw [key_ll] at h; exact wpAny_eqBool_int h
      · rw [key_lr] at h; exact SeqAt.EqAt.int_str i t y u _ _ _ _ h
    · rcases keyIs_shape hv with ⟨j, u, rfl, rfl⟩ | ⟨y, u, rfl, rfl⟩
      · rw [key_rl] at h; exact SeqAt.EqAt.str_int x t j u _ _ _ _ h
      · rw [key_rr] at h; exact wpAny_eqBool_str h
  «strs» := fun k x t v h => by
    rcases keyIs_shape h with ⟨i, u, rfl, e⟩ | ⟨y, u, rfl, e⟩
    · exact nomatch e
    · injection e with e1 _
      subst e1
      cases v <;> rfl
theorem mixKind_int (prog : Program) (w : World) (i : Int) (t : Tok) : (mixKind prog w).is (.inl i) (.int i t) = true := keyIs_int i t
theorem mixKind_str (prog : Program) (w : World) (x : Str) (t : Tok) : (mixKind prog w).is (.inr x) (.str x t) = true := keyIs_str x t
end L2
namespace L2
open PySem PySem.Spec PyProof.Rows
inductive V where
  | non | bl (b : Bool) | int (i : Int) | str (x : Str) | byt (b : Array UInt8) | flt (b : UInt64) | ref (a : Addr) | ty (n : String)
  deriving DecidableEq
def RelV : V → Value → Prop
  | .non, u => u = Value.none
  | .bl b, u => u = Value.bool b
  | .int i, u => ∃ t, u = Value.int i t
  | .str x, u => ∃ t, u = Value.str x t
  | .byt b, u => ∃ t, u = Value.bytes b t
  | .flt b, u => ∃ t, u = Value.float b t
  | .ref a, u => u = Value.ref a
  | .ty n, u => u = Value.type n
abbrev Vals : List V → List Value → Prop := Paired RelV
theorem Vals.length {xs : List V} {us : List Value} (r : Vals xs us) : xs.length = us.length := Paired.length r
theorem Vals.get : ∀ {xs : List V} {us : List Value} {i : Nat} {x : V}, Vals xs us → xs[i]? = some x → ∃ u, us[i]? = some u ∧ RelV x u
  | _, _, _, _, .nil, e => by simp at e
  | _, _, 0, _, .cons r _, e => by simp at e; subst e; exact ⟨_, rfl, r⟩
  | _, _, i + 1, x, .cons _ t, e => by
    obtain ⟨u, h1, h2⟩ := Vals.get (i := i) (x := x) t (by simpa using e)
    exact ⟨u, by simpa using h1, h2⟩
theorem Vals.set {x : V} {u : Value} (r : RelV x u) : ∀ {xs : List V} {us : List Value} (i : Nat), Vals xs us → Vals (xs.set i x) (us.set i u)
  | _, _, _, .nil => .nil
  | _, _, 0, .cons _ t => .cons r t
  | _, _, i + 1, .cons q t => .cons q (Vals.set r i t)
theorem Vals.append : ∀ {xs ys : List V} {us ws : List Value}, Vals xs us → Vals ys ws → Vals (xs ++ ys) (us ++ ws)
  | _, _, _, _, .nil, s => s
  | _, _, _, _, .cons r t, s => .cons r (Vals.append t s)
theorem Vals.take : ∀ {xs : List V} {us : List Value} (n : Nat), Vals xs us → Vals (xs.take n) (us.take n)
  | _, _, 0, _ => .nil
  | _, _, _ + 1, .nil => .nil
  | _, _, n + 1, .cons r t => .cons r (Vals.take n t)
theorem Vals.drop : ∀ {xs : List V} {us : List Value} (n : Nat), Vals xs us → Vals (xs.drop n) (us.drop n)
  | _, _, 0, r => r
  | _, _, _ + 1, .nil => .nil
  | _, _, n + 1, .cons _ t => Vals.drop n t
def RelO : Option V → Option Value → Prop
  | some v, some u => RelV v u
  | none, none => True
  | _, _ => False
def KV {κ : Type} : List (κ × V) → List (κ × Value) → Prop := Paired fun (p : κ × V) (q : κ × Value) => p.1 = q.1 ∧ RelV p.2 q.2
def kV : Key → V
  | .inl i => .int i
  | .inr x => .str x
inductive HO where
  | lst (xs : List V)
  | tup (xs : List V)
  | dK (kvs : List (Key × V)) | dT (kvs : List (List Key × V))
  | set (S : Int → Bool) (n : Nat)
  | ins (C dx : Addr) (fs : List (Str × V))
  | own (x : Addr)
  | xd (fs : List (Str × V))
  | met (f x : Addr)
  | rng (lo hi : Int)
  | frz (o : Obj) (u : HO)
  | tbl (ps : Array Value)
  | ext (φ : Heap → Prop)
abbrev Hp := Addr → Option HO
def upd (H : Hp) (a : Addr) (o : HO) : Hp := fun b => if b = a then some o else H b
theorem upd_same {H : Hp} {a : Addr} {o : HO} : upd H a o a = some o := by unfold upd; rw [if_pos rfl]
theorem upd_ne {H : Hp} {a b : Addr} {o : HO} (h : b ≠ a) : upd H a o b = H b := by unfold upd; rw [if_neg h]
theorem upd_upd {H : Hp} {a : Addr} {o u : HO} : upd (upd H a o) a u = upd H a u := by
  funext b; unfold upd; split <;> rfl
theorem ne_of {H : Hp} {a b : Addr} {o u : HO} (h : H a = some o) (h' : H b = some u) (d : o ≠ u) : a ≠ b := by
  intro e; subst e; rw [h] at h'; exact d (Option.some.inj h')
theorem ne_of_none {H : Hp} {a b : Addr} {o : HO} (h : H a = some o) (h' : H b = none) : a ≠ b := by
  intro e; subst e; rw [h] at h'; cases h'
section
variable (P : Program) (w : World)
def ObjOk (H : Hp) (h : Heap) (a : Addr) : HO → Prop
  | .lst xs => xs.length ≤ sizeLine ∧ ∃ (its : List Value) (n : Nat), Vals xs its ∧ h.get? a = some { cls := .type "list", data := .seq its.toArray n }
  | .tup xs => xs.length ≤ sizeLine ∧ ∃ its : List Value, Vals xs its ∧ IsTup h a its.toArray
  | .dK kvs => kvs.length ≤ sizeLine ∧ (a == sysModules) = false ∧ ∃ vs, KV kvs vs ∧ h.DictOf (mixKind P w) a vs
  | .dT kvs => kvs.length ≤ sizeLine ∧ (a == sysModules) = false ∧ ∃ xs : List (List Key × Addr × Value),
      Paired (fun (p : List Key × V) (q : List Key × Addr × Value) => p.1 = q.1 ∧ H q.2.1 = some (.tup (p.1.map kV)) ∧ RelV p.2 q.2.2) kvs xs ∧
      ∃ o es ep, h.get? a = some o ∧ o.ExactDict ∧ o.data = .dict es ep ∧ es.toList = xs.map (entryOfKey (tupleKind (mixKind P w))) ∧ (xs.map (·.1)).Nodup
  | .set S n => h.SetOf (intKind P w) a S n
  | .ins C dx fs => H dx = some (.own a) ∧ fs.length ≤ 1000 ∧ dx ≠ a ∧ h.get? a = some (PySem.W.instObj C dx) ∧
      ∃ mA, h.Ns1 dx mA ∧ (∀ f, RelO (fs.lookup f) (mA f)) ∧ PySem.Within mA (fs.map (·.1))
  | .own _ => ∃ o, h.get? a = some o
  | .xd fs => ∃ mA, h.Ns1 a mA ∧ ∀ f, RelO (fs.lookup f) (mA f)
  | .rng lo hi => ∃ t u v, h.get? a = some { cls := .type "range", data := .fields #[.int lo t, .int hi u, .int 1 v] }
  | .frz o u => h.get? a = some o ∧ ObjOk H h a u
  | .tbl ps => h.get? a = some { cls := .none, data := .fields ps }
  | .met f x => h.get? a = some (PySem.W.methodObj (.ref f) (.ref x))
  | .ext φ => φ h ∧ (∃ o, h.get? a = some o) ∧ ∀ h1 h2 : Heap, φ h1 → (∀ o, h1.get? a = some o → h2.get? a = some o) → φ h2
def HOk (H : Hp) (h : Heap) : Prop := ∀ a o, H a = some o → ObjOk P w H h a o
end
section
variable {P : Program} {w : World} {H H' : Hp} {h h' : Heap} {a : Addr} {o : HO}
theorem ObjOk.lt (x : ObjOk P w H h a o) : a < h.objs.size := by
  cases o with
  | lst xs => obtain ⟨_, _, _, _, e⟩ := x; exact Heap.lt_size e
  | tup xs => obtain ⟨_, _, _, p⟩ := x; exact p.lt
  | dK kvs => obtain ⟨_, _, _, _, o, _, _, e, _⟩ := x; exact Heap.lt_size e
  | dT kvs => obtain ⟨_, _, _, _, o, _, _, e, _⟩ := x; exact Heap.lt_size e
  | set S n => obtain ⟨o, _, _, _, e, _⟩ := x; exact Heap.lt_size e
  | ins C dx fs => obtain ⟨_, _, _, e, _⟩ := x; exact Heap.lt_size e
  | own y => obtain ⟨_, e⟩ := x; exact Heap.lt_size e
  | xd fs => obtain ⟨_, ⟨_, _, _, e, _⟩, _⟩ := x; exact Heap.lt_size e
  | rng lo hi => obtain ⟨_, _, _, e⟩ := x; exact Heap.lt_size e
  | frz ob u => obtain ⟨e, _⟩ := x; exact Heap.lt_size e
  | tbl ps => exact Heap.lt_size (show h.get? a = some _ from x)
  | met f y => exact Heap.lt_size (show h.get? a = some _ from x)
  | ext φ => obtain ⟨_, ⟨_, e⟩, _⟩ := x; exact Heap.lt_size e
theorem Paired.mapP {α β : Type} {F G : α → β → Prop} : ∀ {l₁ : List α} {l₂ : List β}, Paired F l₁ l₂ → (∀ a b, F a b → G a b) → Paired G l₁ l₂
  | _, _, .nil, _ => .nil
  | _, _, .cons r t, f => .cons (f _ _ r) (Paired.mapP t f)
theorem ObjOk.stay (x : ObjOk P w H h a o) (k : ∀ b u, (b = a ∨ H b = some (.own a)) → h.get? b = some u → h'.get? b = some u)
    (ho : ∀ b, H b = some (.own a) → H' b = some (.own a)) (ht : ∀ b xs, H b = some (.tup xs) → H' b = some (.tup xs)) : ObjOk P w H' h' a o := by
  induction o with
  | lst xs => obtain ⟨z, its, n, r, e⟩ := x; exact ⟨z, its, n, r, k _ _ (.inl rfl) e⟩
  | tup xs => obtain ⟨z, its, r, ob, e, c⟩ := x; exact ⟨z, its, r, ob, k _ _ (.inl rfl) e, c⟩
  | dK kvs => obtain ⟨z, y, vs, r, ob, es, ep, e, c⟩ := x; exact ⟨z, y, vs, r, ob, es, ep, k _ _ (.inl rfl) e, c⟩
  | dT kvs =>
    obtain ⟨z, y, xs, r, ob, es, ep, e, c⟩ := x
    exact ⟨z, y, xs, Paired.mapP r fun p q z => ⟨z.1, ht _ _ z.2.1, z.2.2⟩, ob, es, ep, k _ _ (.inl rfl) e, c⟩
  | set S n => obtain ⟨ob, es, ep, t, e, c⟩ := x; exact ⟨ob, es, ep, t, k _ _ (.inl rfl) e, c⟩
  | ins C dx fs =>
    obtain ⟨d, z, ne, e, mA, ⟨od, es, ep, e2, c⟩, r⟩ := x
    exact ⟨ho _ d, z, ne, k _ _ (.inl rfl) e, mA, ⟨od, es, ep, k _ _ (.inr d) e2, c⟩, r⟩
  | own y => obtain ⟨ob, e⟩ := x; exact ⟨ob, k _ _ (.inl rfl) e⟩
  | xd fs => obtain ⟨mA, ⟨od, es, ep, e, c⟩, r⟩ := x; exact ⟨mA, ⟨od, es, ep, k _ _ (.inl rfl) e, c⟩, r⟩
  | rng lo hi => obtain ⟨t, u, v, e⟩ := x; exact ⟨t, u, v, k _ _ (.inl rfl) e⟩
  | frz ob u ih => obtain ⟨e, q⟩ := x; exact ⟨k _ _ (.inl rfl) e, ih q⟩
  | tbl ps =>
    have e : h.get? a = some { cls := .none, data := .fields ps } := x
    show h'.get? a = some { cls := .none, data := .fields ps }
    exact k a _ (.inl rfl) e
  | met f y =>
    have e : h.get? a = some (PySem.W.methodObj (.ref f) (.ref y)) := x
    show h'.get? a = some (PySem.W.methodObj (.ref f) (.ref y))
    exact k a _ (.inl rfl) e
  | ext φ => obtain ⟨p, ⟨o, e⟩, st⟩ := x; exact ⟨st _ _ p fun o q => k _ _ (.inl rfl) q, ⟨o, k _ _ (.inl rfl) e⟩, st⟩
theorem HOk.lt (x : HOk P w H h) (e : H a = some o) : a < h.objs.size := (x a o e).lt
theorem HOk.fresh (x : HOk P w H h) (e : h.objs.size ≤ a) : H a = none := by
  cases q : H a with
  | none => rfl
  | some u => exact absurd (Nat.lt_of_lt_of_le (x.lt q) e) (Nat.lt_irrefl _)
theorem HOk.kept (x : HOk P w H h) (k : ∀ b u, h.get? b = some u → h'.get? b = some u) : HOk P w H h' := fun a o e =>
  (x a o e).stay (fun b u _ q => k b u q) (fun _ q => q) fun _ _ q => q
theorem HOk.laid (x : HOk P w H h) (k : ∀ b u, h.get? b = some u → h'.get? b = some u) (hp : h.objs.size ≤ a) (new : ObjOk P w (upd H a o) h' a o) : HOk P w (upd H a o) h' := fun b u e => by
  have hn := x.fresh hp
  by_cases hb : b = a
  · subst hb; rw [upd_same] at e; cases e; exact new
  · rw [upd_ne hb] at e
    exact (x b u e).stay (fun c v _ q => k c v q) (fun c q => by rw [upd_ne (ne_of_none q hn)]; exact q) fun c xs q => by rw [upd_ne (ne_of_none q hn)]; exact q
end
def Rd (H : Hp) (a : Addr) (u : HO) : Prop := H a = some u ∨ ∃ o, H a = some (.frz o u)
theorem Rd.ok {P : Program} {w : World} {H : Hp} {h : Heap} {a : Addr} {u : HO} (r : Rd H a u) (x : HOk P w H h) : ObjOk P w H h a u := by
  rcases r with r | ⟨o, r⟩
  · exact x a u r
  · obtain ⟨_, q⟩ := x a _ r
    exact q
def Mut : Option HO → Prop
  | some (.lst _) => True
  | some (.dK _) => True
  | some (.dT _) => True
  | some (.set _ _) => True
  | some (.ins _ _ _) => True
  | some (.ext _) => True
  | _ => False
section
variable {P : Program} {w : World} {H : Hp} {h h' : Heap} {x e : Addr} {o' : HO}
theorem HOk.write (ok : HOk P w H h) (mu : Mut (H x)) (he : e = x ∨ H e = some (.own x)) (k : ∀ b u, b ≠ e → h.get? b = some u → h'.get? b = some u) (heo : ∃ u, h'.get? e = some u)
    (new : ObjOk P w (upd H x o') h' x o') : HOk P w (upd H x o') h' := fun b u q => by
  have nown : ∀ c y, H c = some (.own y) → c ≠ x := fun c y r z => by subst z; rw [r] at mu; exact mu
  have ntup : ∀ c xs, H c = some (.tup xs) → c ≠ x := fun c xs r z => by subst z; rw [r] at mu; exact mu
  by_cases hb : b = x
  · subst hb; rw [upd_same] at q; cases q; exact new
  · rw [upd_ne hb] at q
    by_cases hbe : b = e
    · have q' : H b = some (.own x) := by
        rcases he with z | z
        · exact absurd (hbe.trans z) hb
        · rw [hbe]; exact z
      rw [q] at q'; cases q'
      obtain ⟨v, hv⟩ := heo
      exact ⟨v, by rw [hbe]; exact hv⟩
    · refine (ok b u q).stay (fun c v hc r => k c v ?_ r) (fun c r => by rw [upd_ne (nown c b r)]; exact r) fun c xs r => by rw [upd_ne (ntup c xs r)]; exact r
      rcases hc with rfl | hc
      · exact hbe
      · rintro rfl
        rcases he with z | z
        · exact nown c b hc z
        · rw [hc] at z; cases z; exact hb rfl
end
structure Un (fs ex : List Addr) (H H' : Hp) (h h' : Heap) : Prop where
  keep : ∀ b o, h.get? b = some o → H b = none → b ∉ fs → b ∉ ex → h'.get? b = some o
  slot : ∀ b o, h.get? b = some o → H b = none → b ∈ fs → b ∉ ex → ∃ sl, h'.get? b = some { o with slots := sl }
  free : ∀ b o, h.get? b = some o → H b = none → b ∉ ex → H' b = none
  there : ∀ b o, h.get? b = some o → b ∉ ex → ∃ o', h'.get? b = some o'
  tups : ∀ b xs, H b = some (.tup xs) → H' b = some (.tup xs)
  frzs : ∀ b o u, H b = some (.frz o u) → H' b = some (.frz o u)
  tbls : ∀ b ps, H b = some (.tbl ps) → ∃ more, H' b = some (.tbl (ps ++ more))
section
variable {fs fs' ex ex' : List Addr} {H H1 H2 : Hp} {h h1 h2 h' : Heap} {a x e : Addr} {o : HO}
theorem Un.any (u : Un fs ex H H1 h h1) {b : Addr} {ob : Obj} (q : h.get? b = some ob) (n : H b = none) (hx : b ∉ ex) : ∃ sl, h1.get? b = some { ob with slots := sl } := by
  by_cases hb : b ∈ fs
  · exact u.slot b ob q n hb hx
  · exact ⟨ob.slots, u.keep b ob q n hb hx⟩
theorem Un.kept (k : ∀ b u, h.get? b = some u → h'.get? b = some u) : Un fs ex H H h h' :=
  ⟨fun b ob q _ _ _ => k b ob q, fun b ob q _ _ _ => ⟨ob.slots, k b ob q⟩, fun _ _ _ n _ => n, fun b ob q _ => ⟨ob, k b ob q⟩, fun _ _ q => q, fun _ _ _ q => q, fun _ ps q => ⟨#[], by rw [q]; simp⟩⟩
theorem Un.refl : Un fs ex H H h h := Un.kept fun _ _ q => q
theorem Un.laid (k : ∀ b u, h.get? b = some u → h'.get? b = some u) (hp : h.objs.size ≤ a) (hn : H a = none) : Un fs ex H (upd H a o) h h' where
  keep := fun b u q _ _ _ => k b u q
  slot := fun b u q _ _ _ => ⟨u.slots, k b u q⟩
  free := fun b u q n _ => by rw [upd_ne (Nat.ne_of_lt (Nat.lt_of_lt_of_le (Heap.lt_size q) hp))]; exact n
  there := fun b u q _ => ⟨u, k b u q⟩
  tups := fun b xs q => by rw [upd_ne (ne_of_none q hn)]; exact q
  frzs := fun b u xs q => by rw [upd_ne (ne_of_none q hn)]; exact q
  tbls := fun b ps q => ⟨#[], by rw [upd_ne (ne_of_none q hn), q]; simp⟩
theorem Un.write (mu : Mut (H x)) (he : e = x ∨ H e = some (.own x)) (k : ∀ b u, b ≠ e → h.get? b = some u → h'.get? b = some u) (heo : ∃ u, h'.get? e = some u) : Un fs ex H (upd H x o) h h' := by
  have hx : ∀ b, H b = none → b ≠ x := fun b n z => by subst z; rw [n] at mu; exact mu
  have hb : ∀ b, H b = none → b ≠ e := fun b n z => by
    subst z
    rcases he with r | r
    · exact hx b n r
    · rw [n] at r; cases r
  have hm : ∀ b u, H b = some u → ¬ Mut (some u) → b ≠ x := fun b u q nm z => by subst z; rw [q] at mu; exact nm mu
  refine ⟨fun b u q n _ _ => k b u (hb b n) q, fun b u q n _ _ => ⟨u.slots, k b u (hb b n) q⟩, fun b u q n _ => by rw [upd_ne (hx b n)]; exact n, fun b u q _ => ?_,
    fun b xs q => by rw [upd_ne (hm b _ q fun z => z)]; exact q, fun b u xs q => by rw [upd_ne (hm b _ q fun z => z)]; exact q, fun b ps q => ⟨#[], by rw [upd_ne (hm b _ q fun z => z), q]; simp⟩⟩
  by_cases hbe : b = e
  · subst hbe; exact heo
  · exact ⟨u, k b u hbe q⟩
end
def trk (h : Heap) (H : Hp) : List Addr := (List.range h.objs.size).filter fun a => (H a).isSome
def hidT (h : Heap) (H : Hp) : Heap := PySem.W.hideAll h (trk h H)
theorem hidT_size (h : Heap) (H : Hp) : (hidT h H).objs.size = h.objs.size := PySem.W.hideAll_size _ _
theorem hidT_get {h : Heap} {H : Hp} {b : Addr} {o : Obj} (e : h.get? b = some o) (n : H b = none) : (hidT h H).get? b = some o :=
  PySem.W.hideAll_get _ e fun hm => by
    have q : (H b).isSome = true := (List.mem_filter.mp hm).2
    rw [n] at q; simp at q
theorem of_hidT {h : Heap} {H : Hp} {b : Addr} {o : Obj} (e : (hidT h H).get? b = some o) : h.get? b = some o ∧ H b = none := by
  have e' : h.get? b = some o := PySem.W.of_hideAll (trk h H) e
  refine ⟨e', ?_⟩
  cases q : H b with
  | none => rfl
  | some x =>
    have hm : b ∈ trk h H := List.mem_filter.mpr ⟨List.mem_range.mpr (Heap.lt_size e'), by simp [q]⟩
    have z : (hidT h H).get? b = none := PySem.W.hideAll_none (trk h H) hm
    rw [z] at e; cases e
end L2
namespace L2
open PySem PySem.Spec PyProof.Rows
structure Mod (K : PySem.W.Frag) (mg : Str → Option Value) (base : Heap) : Prop where
  kin : K.In base
  glob : base.Ns mainGlobals mg
  blt : ∃ mb, base.Ns builtinsNs mb ∧ ∀ x : Str, x ≠ "__name__" → mb x = bootBuiltins x
  nolimit : base.NoLimit
structure Cx where
  prog : Program
  w : World
  K : PySem.W.Frag
  mg : Str → Option Value
  base : Heap
  A : Around
  N : List Str
  s₀ : Shared
  H₀ : Hp
  env : Env
  outer : List Env
  stack : List Env
  ex : List Addr
  fn : Str → Bool
  calm : Bool
  pn : List (Addr × Obj)
  xe : Value → Shared → Prop
def frs (l : List Env) : List Addr := l.filterMap (·.frame)
abbrev Cx.fs (X : Cx) : List Addr := frs X.outer
def Vis (sc : Scope) (x : Str) : Prop := sc.names.lookup x = some .local ∨ sc.names.lookup x = some .cell ∨ sc.names.lookup x = some .free
def Loc (sc : Scope) (x : Str) : Prop := sc.names.lookup x = some .local ∨ sc.names.lookup x = some .cell
def Look (env : Env) (h : Heap) (m : Str → Option Value) (x : Str) (u : Value) : Prop :=
  (env.kindOf x = some .local ∧ m x = some u) ∨ ((env.kindOf x = some .cell ∨ env.kindOf x = some .free) ∧ ∃ c, env.cells.lookup x = some c ∧ h.IsCell c (some u))
structure Cx.Ok (X : Cx) : Prop where
  mod : Mod X.K X.mg X.base
  kind : X.env.scope.kind = .function
  glob : X.env.globals = mainGlobals
  blt : X.env.builtins = builtinsNs
  above : X.s₀.heap.objs.size ≤ X.env.locals
  inj : ∀ x y c, X.env.cells.lookup x = some c → X.env.cells.lookup y = some c → x = y
  has : ∀ x, (X.env.kindOf x = some .cell ∨ X.env.kindOf x = some .free) → ∃ c, X.env.cells.lookup x = some c
  cab : ∀ x c, X.fn x = true → X.env.cells.lookup x = some c → X.s₀.heap.objs.size ≤ c
  hd : X.calm = true → X.A.handled = none
  frames : X.A.frames = some X.stack
  stk : X.stack = X.outer ∨ (X.stack = X.env :: X.outer ∧ X.env.frame = some X.env.locals)
  exf : ∀ b ∈ X.ex, b ≠ X.env.locals ∧ ∀ x c, X.env.cells.lookup x = some c → c ≠ b
  bs : ∀ b o, X.base.get? b = some o → X.s₀.heap.get? b = some o ∧ X.H₀ b = none
  bsz : X.base.objs.size ≤ X.s₀.heap.objs.size
  noex : ∀ b o, X.base.get? b = some o → b ∉ X.ex
  exfs : ∀ b ∈ X.ex, b ∉ X.fs
  funs : X.s₀.heap.FunFrames X.base X.outer
  frf : ∀ b ∈ X.fs, X.H₀ b = none
inductive CxO (H : Hp) : Value → Prop
  | nil : CxO H .none
  | cons {b : Addr} {ob : Obj} {us : Array Value} {u : HO} {c : Value} : H b = some (.frz ob u) → ob.data = .fields us → us[2]? = some c → CxO H c → CxO H (.ref b)
theorem CxO.mono {H H' : Hp} {c : Value} (h : CxO H c) (k : ∀ b o u, H b = some (.frz o u) → H' b = some (.frz o u)) : CxO H' c := by
  induction h with
  | nil => exact .nil
  | cons q1 q2 q3 _ ih => exact .cons (k _ _ _ q1) q2 q3 ih
theorem CxO.upd {H : Hp} {c : Value} {a : Addr} {o : HO} (h : CxO H c) (n : H a = none) : CxO (upd H a o) c := h.mono fun b _ _ e => by rw [upd_ne (ne_of_none e n)]; exact e
theorem CxO.chn {P : Program} {w : World} {H : Hp} {h : Heap} {c : Value} (n : CxO H c) (ok : HOk P w H h) : ∃ D, Chn h D c ∧ ∀ b ∈ D, ∃ o u, H b = some (.frz o u) := by
  induction n with
  | nil => exact ⟨[], .nil, fun b hb => absurd hb (by simp)⟩
  | @cons b ob us u c q1 q2 q3 _ ih =>
    obtain ⟨D, m, l⟩ := ih
    refine ⟨b :: D, .cons (by simp) (ok b _ q1).1 q2 q3 (m.kept (fun _ _ _ e => e) fun d hd => List.mem_cons_of_mem _ hd), fun d hd => ?_⟩
    rcases List.mem_cons.mp hd with rfl | hd
    · exact ⟨_, _, q1⟩
    · exact l d hd
def HdF (A : Around) (H : Hp) : Prop := A.handled = none ∨ ∃ ea : Addr, A.handled = some (.ref ea) ∧ CxO H (.ref ea)
theorem HdF.mono {A : Around} {H H' : Hp} (h : HdF A H) (k : ∀ b o u, H b = some (.frz o u) → H' b = some (.frz o u)) : HdF A H' := by
  rcases h with z | ⟨ea, h1, h2⟩
  · exact .inl z
  · exact .inr ⟨ea, h1, h2.mono k⟩
theorem HdF.now {P : Program} {w : World} {A : Around} {H : Hp} {h : Heap} (n : HdF A H) (ok : HOk P w H h) : HdN A h := by
  rcases n with z | ⟨ea, h1, h2⟩
  · exact ⟨[], .inl z⟩
  · obtain ⟨D, m, _⟩ := h2.chn ok
    exact ⟨D, .inr ⟨ea, h1, m⟩⟩
structure Inv (X : Cx) (pins : List (Addr × Obj)) (σ : List (Option V)) (H : Hp) (s : Shared) : Prop where
  ok : X.Ok
  os : s.os = X.s₀.os
  bare : AllBare s.gens
  base : Un X.fs X.ex X.H₀ H X.s₀.heap s.heap
  loc : ∃ m, s.heap.Ns X.env.locals m ∧ ∀ (i : Nat) (x : Str) (v : V), X.N[i]? = some x → σ[i]? = some (some v) → Vis X.env.scope x → ∃ u, RelV v u ∧ Look X.env s.heap m x u
  cell : ∀ x c, X.env.cells.lookup x = some c → ∃ v, s.heap.IsCell c v
  free : H X.env.locals = none
  freeC : ∀ x c, X.env.cells.lookup x = some c → H c = none
  pin : ∀ p ∈ X.pn ++ pins, s.heap.get? p.1 = some p.2 ∧ H p.1 = none ∧ p.1 ≠ X.env.locals ∧ p.1 ∉ X.fs ∧ ∀ v, p.2.data ≠ .cell v
  hok : HOk X.prog X.w H s.heap
  len : σ.length = X.N.length
  hn : HdF X.A H
section
variable {X : Cx} {pins : List (Addr × Obj)} {σ : List (Option V)} {H H' : Hp} {s : Shared} {h' : Heap}
theorem Cx.Ok.nofr (ok : X.Ok) {b : Addr} {o : Obj} (e : X.base.get? b = some o) : b ∉ X.fs := fun hb => by
  have := (ok.funs.mem hb).1
  rw [e] at this; cases this
theorem Inv.bs (I : Inv X pins σ H s) : ∀ b o, X.base.get? b = some o → s.heap.get? b = some o ∧ H b = none := fun b o e =>
  ⟨I.base.keep b o (I.ok.bs b o e).1 (I.ok.bs b o e).2 (I.ok.nofr e) (I.ok.noex b o e), I.base.free b o (I.ok.bs b o e).1 (I.ok.bs b o e).2 (I.ok.noex b o e)⟩
theorem Inv.bk (I : Inv X pins σ H s) : ∀ b o, X.base.get? b = some o → s.heap.get? b = some o := fun b o e => (I.bs b o e).1
theorem Inv.mod (I : Inv X pins σ H s) : Mod X.K X.mg X.base := I.ok.mod
theorem Inv.kIn (I : Inv X pins σ H s) : X.K.In s.heap := I.ok.mod.kin.keeps I.bk
theorem Inv.fr (I : Inv X pins σ H s) : ∃ m, Fr X.base X.env.locals s.heap m :=
  let ⟨m, hn, _⟩ := I.loc
  ⟨m, hn, I.bk, Nat.le_trans I.ok.bsz I.ok.above⟩
theorem Inv.lt (I : Inv X pins σ H s) : X.env.locals < s.heap.objs.size := let ⟨_, hn, _⟩ := I.loc; hn.lt
theorem Inv.sz (I : Inv X pins σ H s) : X.s₀.heap.objs.size ≤ s.heap.objs.size := Nat.le_trans I.ok.above (Nat.le_of_lt I.lt)
theorem Inv.nofs (I : Inv X pins σ H s) {a : Addr} (h : s.heap.objs.size ≤ a) : a ∉ X.fs := fun hb => by
  obtain ⟨_, o, ho, _⟩ := I.ok.funs.mem hb
  exact absurd (Nat.lt_of_lt_of_le (Heap.lt_size ho) (Nat.le_trans I.sz h)) (Nat.lt_irrefl _)
theorem Inv.cne (I : Inv X pins σ H s) : ∀ x c, X.env.cells.lookup x = some c → c ≠ X.env.locals := fun x c e z => by
  obtain ⟨v, o, ho, hd⟩ := I.cell x c e
  obtain ⟨m, ⟨o', es, ep, ho', hd', _⟩, _⟩ := I.loc
  rw [z, ho'] at ho; cases ho; rw [hd'] at hd; cases hd
theorem Inv.funs (I : Inv X pins σ H s) : s.heap.FunFrames X.base X.outer := by
  have all : ∀ (l : List Env), (∀ b ∈ frs l, b ∈ X.fs) → X.s₀.heap.FunFrames X.base l → s.heap.FunFrames X.base l := by
    intro l
    induction l with
    | nil => intro _ _; trivial
    | cons env r ih =>
      intro hs hl
      obtain ⟨hk, ⟨L, o, hf, hn, ho, hd⟩, hr⟩ := hl
      have hL : L ∈ X.fs := hs L (by unfold frs; rw [List.filterMap_cons, hf]; exact List.mem_cons_self)
      obtain ⟨sl, e⟩ := I.base.slot L o ho (I.ok.frf L hL) hL fun z => I.ok.exfs L z hL
      exact ⟨hk, ⟨L, _, hf, hn, e, hd⟩, ih (fun b hb => hs b (by unfold frs; rw [List.filterMap_cons, hf]; exact List.mem_cons_of_mem _ hb)) hr⟩
  exact all X.outer (fun _ hb => hb) I.ok.funs
theorem Inv.stack (I : Inv X pins σ H s) : s.heap.FunFrames X.base X.stack := by
  rcases I.ok.stk with e | ⟨e, hf⟩
  · rw [e]; exact I.funs
  · rw [e]
    obtain ⟨m, hn, _⟩ := I.loc
    refine .cons (by rw [I.ok.kind]; decide) hf hn ?_ I.funs
    exact Heap.get?_none_of_le (Nat.le_trans I.ok.bsz I.ok.above)
theorem Inv.stkSub (I : Inv X pins σ H s) : ∀ b ∈ frs X.stack, b ∈ X.env.locals :: X.fs := fun b hb => by
  rcases I.ok.stk with e | ⟨e, hf⟩
  · rw [e] at hb; exact List.mem_cons_of_mem _ hb
  · rw [e] at hb
    unfold frs at hb
    rw [List.filterMap_cons, hf] at hb
    exact hb
theorem Inv.stkFree (I : Inv X pins σ H s) : ∀ b ∈ frs X.stack, H b = none := fun b hb => by
  rcases List.mem_cons.mp (I.stkSub b hb) with e | hb
  · rw [e]; exact I.free
  · obtain ⟨_, o, ho, _⟩ := I.ok.funs.mem hb
    exact I.base.free b o ho (I.ok.frf b hb) fun z => I.ok.exfs b z hb
theorem Inv.step {g' : Array GenState} {t' : Nat} {d' : Drawn} {ch : List Addr} (I : Inv X pins σ H s)
    (hch : ∀ b ∈ ch, (b ∈ X.ex ∨ X.s₀.heap.objs.size ≤ b) ∧ b ≠ X.env.locals ∧ (∀ x c, X.env.cells.lookup x = some c → c ≠ b) ∧ ∀ p ∈ X.pn ++ pins, p.1 ≠ b)
    (keep : ∀ b o, b ≠ X.env.locals → b ∉ X.fs → b ∉ ch → s.heap.get? b = some o → H b = none → h'.get? b = some o)
    (slot : ∀ b o, b ≠ X.env.locals → b ∈ X.fs → b ∉ ch → s.heap.get? b = some o → H b = none → ∃ sl, h'.get? b = some { o with slots := sl }) (free : ∀ b o, b ∉ ch → s.heap.get? b = some o → H b = none → H' b = none)
    (there : ∀ b o, b ∉ ch → s.heap.get? b = some o → ∃ o', h'.get? b = some o')
    (tups : ∀ b xs, H b = some (.tup xs) → H' b = some (.tup xs)) (frzs : ∀ b o u, H b = some (.frz o u) → H' b = some (.frz o u)) (tbls : ∀ b ps, H b = some (.tbl ps) → ∃ more, H' b = some (.tbl (ps ++ more)))
    (ns : ∀ m, s.heap.Ns X.env.locals m → h'.Ns X.env.locals m) (hok : HOk X.prog X.w H' h') (hg : AllBare g') :
    Inv X pins σ H' { s with heap := h', gens := g', drawn := d', toks := t' } := by
  have neL : ∀ b o, X.s₀.heap.get? b = some o → b ≠ X.env.locals := fun b o e => Nat.ne_of_lt (Nat.lt_of_lt_of_le (Heap.lt_size e) I.ok.above)
  have neC : ∀ b o, X.s₀.heap.get? b = some o → b ∉ X.ex → b ∉ ch := fun b o e hx hb => by
    rcases (hch b hb).1 with z | z
    · exact hx z
    · exact absurd (Nat.lt_of_lt_of_le (Heap.lt_size e) z) (Nat.lt_irrefl _)
  have cellK : ∀ x c, X.env.cells.lookup x = some c → ∀ v, s.heap.IsCell c v → h'.IsCell c v := fun x c e v ⟨o, ho, hd⟩ => by
    have nch : c ∉ ch := fun z => (hch c z).2.2.1 x c e rfl
    by_cases hc : c ∈ X.fs
    · obtain ⟨sl, q⟩ := slot c o (I.cne x c e) hc nch ho (I.freeC x c e)
      exact ⟨_, q, hd⟩
    · exact ⟨o, keep c o (I.cne x c e) hc nch ho (I.freeC x c e), hd⟩
  refine ⟨I.ok, I.os, hg, ⟨fun b o e n hb hx => ?_, fun b o e n hb hx => ?_, fun b o e n hx => ?_, fun b o e hx => ?_, fun b xs e => tups b xs (I.base.tups b xs e), fun b o xs e => frzs b o xs (I.base.frzs b o xs e), fun b ps e => ?_⟩, ?_, fun x c e => ?_, ?_, fun x c e => ?_, fun p hp => ?_, hok, I.len, I.hn.mono frzs⟩
  · exact keep b o (neL b o e) hb (neC b o e hx) (I.base.keep b o e n hb hx) (I.base.free b o e n hx)
  · obtain ⟨sl, e1⟩ := I.base.slot b o e n hb hx
    obtain ⟨sl', e2⟩ := slot b _ (neL b o e) hb (neC b o e hx) e1 (I.base.free b o e n hx)
    exact ⟨sl', e2⟩
  · obtain ⟨o', e1⟩ := I.base.there b o e hx
    exact free b o' (neC b o e hx) e1 (I.base.free b o e n hx)
  · obtain ⟨o', e1⟩ := I.base.there b o e hx
    exact there b o' (neC b o e hx) e1
  · obtain ⟨m1, e1⟩ := I.base.tbls b ps e
    obtain ⟨m2, e2⟩ := tbls b _ e1
    exact ⟨m1 ++ m2, by rw [e2, Array.append_assoc]⟩
  · obtain ⟨m, hn, hl⟩ := I.loc
    refine ⟨m, ns m hn, fun i x v e1 e2 e3 => ?_⟩
    obtain ⟨u, r, l⟩ := hl i x v e1 e2 e3
    refine ⟨u, r, ?_⟩
    rcases l with l | ⟨k, c, e, z⟩
    · exact .inl l
    · exact .inr ⟨k, c, e, cellK x c e _ z⟩
  · obtain ⟨v, z⟩ := I.cell x c e
    exact ⟨v, cellK x c e v z⟩
  · obtain ⟨m, ⟨o, _, _, ho, _⟩, _⟩ := I.loc
    exact free _ o (fun z => (hch _ z).2.1 rfl) ho I.free
  · obtain ⟨v, o, ho, hd⟩ := I.cell x c e
    exact free c o (fun z => (hch c z).2.2.1 x c e rfl) ho (I.freeC x c e)
  · obtain ⟨e, n, ne, nf, d⟩ := I.pin p hp
    have nch : p.1 ∉ ch := fun z => (hch p.1 z).2.2.2 p hp rfl
    exact ⟨keep p.1 p.2 ne nf nch e n, free p.1 p.2 nch e n, ne, nf, d⟩
theorem Inv.un {t' : Nat} (I : Inv X pins σ H s) (u : Un X.fs [] H H' s.heap h') (hok : HOk X.prog X.w H' h') : Inv X pins σ H' { s with heap := h', toks := t' } := by
  obtain ⟨m, ⟨o, es, ep, ho, r⟩, _⟩ := id I.loc
  obtain ⟨sl, hL⟩ := u.any ho I.free (by simp)
  exact I.step (g' := s.gens) (d' := s.drawn) (ch := []) (fun _ z => nomatch z) (fun b o _ hb _ e n => u.keep b o e n hb (by simp)) (fun b o _ hb _ e n => u.slot b o e n hb (by simp)) (fun b o _ e n => u.free b o e n (by simp)) (fun b o _ e => u.there b o e (by simp)) u.tups u.frzs u.tbls (fun m' hm => by
    obtain ⟨o', es', ep', ho', r'⟩ := hm
    rw [ho] at ho'; cases ho'
    exact ⟨_, es', ep', hL, r'⟩) hok I.bare
theorem Inv.call {g' : Array GenState} {t' : Nat} {d' : Drawn} {ch : List Addr} (I : Inv X pins σ H s) (u : Un (frs X.stack) ch H H' s.heap h') (hok : HOk X.prog X.w H' h') (hg : AllBare g')
    (hch : ∀ b ∈ ch, (b ∈ X.ex ∨ X.s₀.heap.objs.size ≤ b) ∧ b ≠ X.env.locals ∧ (∀ x c, X.env.cells.lookup x = some c → c ≠ b) ∧ ∀ p ∈ X.pn ++ pins, p.1 ≠ b) :
    Inv X pins σ H' { s with heap := h', gens := g', drawn := d', toks := t' } := by
  obtain ⟨m, ⟨o, es, ep, ho, r⟩, _⟩ := id I.loc
  obtain ⟨sl, hL⟩ := u.any ho I.free fun z => (hch _ z).2.1 rfl
  exact I.step (ch := ch) hch (fun b o hL hb hc e n => u.keep b o e n (fun z => (List.mem_cons.mp (I.stkSub b z)).elim hL hb) hc) (fun b o _ _ hc e n => u.any e n hc) (fun b o hc e n => u.free b o e n hc) (fun b o hc e => u.there b o e hc) u.tups u.frzs u.tbls (fun m' hm => by
    obtain ⟨o', es', ep', ho', r'⟩ := hm
    rw [ho] at ho'; cases ho'
    exact ⟨_, es', ep', hL, r'⟩) hok hg
theorem Inv.turned {t' : Nat} {it : Addr} (I : Inv X pins σ H s) (k : ∀ b o, b ≠ it → s.heap.get? b = some o → h'.get? b = some o) (hn : H it = none) (hL : it ≠ X.env.locals)
    (h1 : it ∈ X.ex ∨ X.s₀.heap.objs.size ≤ it) (h2 : ∀ x c, X.env.cells.lookup x = some c → c ≠ it) (h3 : ∀ p ∈ X.pn ++ pins, p.1 ≠ it) : Inv X pins σ H { s with heap := h', toks := t' } := by
  have nit : ∀ b u, H b = some u → b ≠ it := fun b u e z => by rw [z, hn] at e; cases e
  refine I.step (g' := s.gens) (d' := s.drawn) (ch := [it]) (fun b hb => ?_) (fun b o _ _ hc e _ => k b o (fun z => hc (by simp [z])) e) (fun b o _ _ hc e _ => ⟨o.slots, k b o (fun z => hc (by simp [z])) e⟩) (fun _ _ _ _ n => n)
    (fun b o hc e => ⟨o, k b o (fun z => hc (by simp [z])) e⟩) (fun _ _ e => e) (fun _ _ _ e => e) (fun b ps e => ⟨#[], by rw [e]; simp⟩) (fun m hm => ?_) (fun b u e => ?_) I.bare
  · have e : b = it := by simpa using hb
    subst e
    exact ⟨h1, hL, h2, h3⟩
  · obtain ⟨o, es, ep, ho, r⟩ := hm
    exact ⟨o, es, ep, k _ o (Ne.symm hL) ho, r⟩
  · refine (I.hok b u e).stay (fun c v hc q => k c v ?_ q) (fun _ q => q) fun _ _ q => q
    rcases hc with z | z
    · rw [z]; exact nit b u e
    · exact nit c _ z
theorem Inv.tok (I : Inv X pins σ H s) (t : Nat) : Inv X pins σ H { s with toks := t } := I.un (h' := s.heap) (t' := t) Un.refl I.hok
theorem Inv.kept {t' : Nat} (I : Inv X pins σ H s) (k : ∀ b u, s.heap.get? b = some u → h'.get? b = some u) : Inv X pins σ H { s with heap := h', toks := t' } := I.un (Un.kept k) (I.hok.kept k)
theorem Inv.laid {a : Addr} {o : HO} {t' : Nat} (I : Inv X pins σ H s) (k : ∀ b u, s.heap.get? b = some u → h'.get? b = some u) (hp : s.heap.objs.size ≤ a) (new : ObjOk X.prog X.w (upd H a o) h' a o) :
    Inv X pins σ (upd H a o) { s with heap := h', toks := t' } := I.un (Un.laid k hp (I.hok.fresh hp)) (I.hok.laid k hp new)
theorem Inv.write {x e : Addr} {o : HO} {t' : Nat} (I : Inv X pins σ H s) (mu : Mut (H x)) (he : e = x ∨ H e = some (.own x)) (k : ∀ b u, b ≠ e → s.heap.get? b = some u → h'.get? b = some u) (heo : ∃ u, h'.get? e = some u)
    (new : ObjOk X.prog X.w (upd H x o) h' x o) : Inv X pins σ (upd H x o) { s with heap := h', toks := t' } := I.un (Un.write mu he k heo) (I.hok.write mu he k heo new)
theorem Inv.weak {σ' : List (Option V)} (I : Inv X pins σ H s) (hl : σ'.length = σ.length) (w : ∀ (i : Nat) v, σ'[i]? = some (some v) → σ[i]? = some (some v)) : Inv X pins σ' H s :=
  ⟨I.ok, I.os, I.bare, I.base, let ⟨m, hn, hl'⟩ := I.loc; ⟨m, hn, fun i x v e1 e2 e3 => hl' i x v e1 (w i v e2) e3⟩, I.cell, I.free, I.freeC, I.pin, I.hok, hl.trans I.len, I.hn⟩
theorem Inv.pins_of {pins' : List (Addr × Obj)} (I : Inv X pins σ H s) (h : ∀ p ∈ pins', s.heap.get? p.1 = some p.2 ∧ H p.1 = none ∧ p.1 ≠ X.env.locals ∧ p.1 ∉ X.fs ∧ ∀ v, p.2.data ≠ .cell v) : Inv X pins' σ H s :=
  ⟨I.ok, I.os, I.bare, I.base, I.loc, I.cell, I.free, I.freeC, fun p hp => (List.mem_append.mp hp).elim (fun z => I.pin p (List.mem_append_left _ z)) (h p), I.hok, I.len, I.hn⟩
theorem nodup_ix {N : List Str} (hN : N.Nodup) {i j : Nat} {x : Str} (a : N[i]? = some x) (b : N[j]? = some x) : i = j := by
  obtain ⟨h1, e1⟩ := List.getElem?_eq_some_iff.mp a
  obtain ⟨h2, e2⟩ := List.getElem?_eq_some_iff.mp b
  exact (List.getElem_inj hN).mp (e1.trans e2.symm)
theorem store_ok2 {M : Model} {A : Around} {E : Value → Shared → Prop} {i : Nat} {x : Str} {v : V} {u : Value} {Q : Unit → Shared → Prop} (I : Inv X pins σ H s) (hN : X.N.Nodup) (hi : X.N[i]? = some x) (hx : Loc X.env.scope x) (r : RelV v u)
    (h : ∀ s', Inv X pins (σ.set i (some v)) H s' → (∃ a, Heap.SameBut a s.heap s'.heap ∧ (a = X.env.locals ∨ X.env.cells.lookup x = some a)) → Q () s') (hf : X.fn x = true ∨ X.env.scope.names.lookup x = some .local := by first | exact .inl rfl | exact .inr rfl | assumption) : wpAny M A (storeName X.env x u) Q E s := by
  obtain ⟨m, hn, hl⟩ := id I.loc
  have hcls : (X.env.scope.kind == .class || (X.env.scope.kind == .module && X.env.locals != X.env.globals)) = false := by rw [I.ok.kind]; rfl
  have hiσ : i < σ.length := by rw [I.len]; exact (List.getElem?_eq_some_iff.mp hi).1
  have cne := I.cne
  have tracked : ∀ {a : Addr} {h' : Heap}, (∃ o, s.heap.get? a = some o ∧ H a = none) → Heap.SameBut a s.heap h' → HOk X.prog X.w H h' := fun {a h'} ha hs b ob e => by
    obtain ⟨_, _, hfree⟩ := ha
    refine (I.hok b ob e).stay (fun c w' hc q => (hs.2 c ?_).trans q) (fun _ q => q) fun _ _ q => q
    rintro rfl
    rcases hc with rfl | hc
    · rw [hfree] at e; cases e
    · rw [hfree] at hc; cases hc
  rcases hx with hk | hk
  · refine wpAny_storeName_local hk hn (fun h' hn' hs => ?_) hcls
    obtain ⟨oL, _, _, hoL, _⟩ := id hn
    refine h _ ⟨I.ok, I.os, I.bare, ⟨fun b o e n hb hx => ?_, fun b o e n hb hx => ?_, I.base.free, fun b o e hx => ?_, I.base.tups, I.base.frzs, I.base.tbls⟩, ⟨_, hn', fun j y v' e1 e2 e3 => ?_⟩, fun y c e => ?_, I.free, I.freeC, fun p hp => ?_, tracked ⟨oL, hoL, I.free⟩ hs, by simpa using I.len, I.hn⟩ ⟨_, hs, .inl rfl⟩
    · exact (hs.2 b (Nat.ne_of_lt (Nat.lt_of_lt_of_le (Heap.lt_size e) I.ok.above))).trans (I.base.keep b o e n hb hx)
    · obtain ⟨sl, e1⟩ := I.base.slot b o e n hb hx
      exact ⟨sl, (hs.2 b (Nat.ne_of_lt (Nat.lt_of_lt_of_le (Heap.lt_size e) I.ok.above))).trans e1⟩
    · obtain ⟨o', e1⟩ := I.base.there b o e hx
      exact ⟨o', (hs.2 b (Nat.ne_of_lt (Nat.lt_of_lt_of_le (Heap.lt_size e) I.ok.above))).trans e1⟩
    · by_cases hj : j = i
      · subst hj
        rw [hi] at e1; cases e1
        rw [List.getElem?_set_self hiσ] at e2
        cases e2
        exact ⟨u, r, .inl ⟨hk, by simp⟩⟩
      · rw [List.getElem?_set_ne (Ne.symm hj)] at e2
        obtain ⟨u', r', q⟩ := hl j y v' e1 e2 e3
        refine ⟨u', r', ?_⟩
        rcases q with ⟨k, e⟩ | ⟨k, c, e, z⟩
        · refine .inl ⟨k, ?_⟩
          have : y ≠ x := fun e => hj (nodup_ix hN e1 (e ▸ hi))
          simp [this, e]
        · exact .inr ⟨k, c, e, z.sameBut hs (cne y c e)⟩
    · obtain ⟨w', z⟩ := I.cell y c e
      exact ⟨w', z.sameBut hs (cne y c e)⟩
    · obtain ⟨e, n, ne, nf, d⟩ := I.pin p hp
      exact ⟨(hs.2 p.1 ne).trans e, n, ne, nf, d⟩
  · have hfn : X.fn x = true := by
      rcases hf with z | z
      · exact z
      · rw [z] at hk; cases hk
    obtain ⟨c, hc⟩ := I.ok.has x (.inl hk)
    obtain ⟨w', z⟩ := I.cell x c hc
    refine wpAny_storeName_cell I.ok.kind hk hc z (fun h' hc' hs => ?_)
    obtain ⟨oc, hoc, hocd⟩ := id z
    refine h { s with heap := h' } ⟨I.ok, I.os, I.bare, ⟨fun b o e n hb hx => ?_, fun b o e n hb hx => ?_, I.base.free, fun b o e hx => ?_, I.base.tups, I.base.frzs, I.base.tbls⟩, ⟨m, hn.sameBut hs (Ne.symm (cne x c hc)), fun j y v' e1 e2 e3 => ?_⟩, fun y c' e => ?_, I.free, I.freeC, fun p hp => ?_, tracked ⟨oc, hoc, I.freeC x c hc⟩ hs, by simpa using I.len, I.hn⟩ ⟨c, hs, .inr hc⟩
    · exact (hs.2 b (Nat.ne_of_lt (Nat.lt_of_lt_of_le (Heap.lt_size e) (I.ok.cab x c hfn hc)))).trans (I.base.keep b o e n hb hx)
    · obtain ⟨sl, e1⟩ := I.base.slot b o e n hb hx
      exact ⟨sl, (hs.2 b (Nat.ne_of_lt (Nat.lt_of_lt_of_le (Heap.lt_size e) (I.ok.cab x c hfn hc)))).trans e1⟩
    · obtain ⟨o', e1⟩ := I.base.there b o e hx
      exact ⟨o', (hs.2 b (Nat.ne_of_lt (Nat.lt_of_lt_of_le (Heap.lt_size e) (I.ok.cab x c hfn hc)))).trans e1⟩
    · by_cases hj : j = i
      · subst hj
        rw [hi] at e1; cases e1
        rw [List.getElem?_set_self hiσ] at e2
        cases e2
        exact ⟨u, r, .inr ⟨.inl hk, c, hc, hc'⟩⟩
      · rw [List.getElem?_set_ne (Ne.symm hj)] at e2
        obtain ⟨u', r', q⟩ := hl j y v' e1 e2 e3
        refine ⟨u', r', ?_⟩
        rcases q with q | ⟨k, c', e, z'⟩
        · exact .inl q
        · refine .inr ⟨k, c', e, z'.sameBut hs ?_⟩
          rintro rfl
          exact hj (nodup_ix hN e1 (I.ok.inj _ _ _ e hc ▸ hi))
    · by_cases hcc : c' = c
      · subst hcc; exact ⟨_, hc'⟩
      · obtain ⟨w2, z2⟩ := I.cell y c' e
        exact ⟨w2, z2.sameBut hs hcc⟩
    · obtain ⟨e, n, ne, nf, d⟩ := I.pin p hp
      refine ⟨(hs.2 p.1 ?_).trans e, n, ne, nf, d⟩
      intro q
      rw [q, hoc] at e
      have q' : oc = p.2 := Option.some.inj e
      exact d w' (by rw [← q']; exact hocd)
theorem store_ok {M : Model} {A : Around} {E : Value → Shared → Prop} {i : Nat} {x : Str} {v : V} {u : Value} {Q : Unit → Shared → Prop} (I : Inv X pins σ H s) (hN : X.N.Nodup) (hi : X.N[i]? = some x) (hx : Loc X.env.scope x) (r : RelV v u)
    (h : ∀ s', Inv X pins (σ.set i (some v)) H s' → Q () s') (hf : X.fn x = true ∨ X.env.scope.names.lookup x = some .local := by first | exact .inl rfl | exact .inr rfl | assumption) : wpAny M A (storeName X.env x u) Q E s :=
  store_ok2 I hN hi hx r (fun s' I' _ => h s' I') hf
theorem Inv.call' {s' : Shared} {ch : List Addr} (I : Inv X pins σ H s) (ho : s'.os = s.os) (u : Un (frs X.stack) ch H H' s.heap s'.heap) (hok : HOk X.prog X.w H' s'.heap) (hg : AllBare s'.gens)
    (hch : ∀ b ∈ ch, (b ∈ X.ex ∨ X.s₀.heap.objs.size ≤ b) ∧ b ≠ X.env.locals ∧ (∀ x c, X.env.cells.lookup x = some c → c ≠ b) ∧ ∀ p ∈ X.pn ++ pins, p.1 ≠ b) : Inv X pins σ H' s' := by
  obtain ⟨h', g', d', t', o'⟩ := s'
  have e : o' = s.os := ho
  subst e
  exact I.call (g' := g') (t' := t') (d' := d') u hok hg hch
end
abbrev XK := Value → Option Addr → Hp → Prop
abbrev St := List (Option V)
abbrev VK := V → Hp → Prop
abbrev TE := St → Hp → VK → Prop
abbrev TT := St → Hp → (Bool → Hp → Prop) → Prop
abbrev TA := St → Hp → (List V → Hp → Prop) → Prop
structure Ends where
  nx : St → Hp → Prop
  rt : VK
  bk : St → Hp → Prop := fun _ _ => False
  ct : St → Hp → Prop := fun _ _ => False
abbrev TS := Ends → St → Hp → Prop
def EP (X : Cx) (pins : List (Addr × Obj)) (σ : St) (Q : VK) (u : Value) (s' : Shared) : Prop := ∃ v H', Inv X pins σ H' s' ∧ RelV v u ∧ Q v H'
def TP (X : Cx) (pins : List (Addr × Obj)) (σ : St) (Q : Bool → Hp → Prop) (b : Bool) (s' : Shared) : Prop := ∃ H', Inv X pins σ H' s' ∧ Q b H'
def AP (X : Cx) (pins : List (Addr × Obj)) (σ : St) (Q : List V → Hp → Prop) (us : List Value) (s' : Shared) : Prop := ∃ vs H', Inv X pins σ H' s' ∧ Vals vs us ∧ Q vs H'
def SP (X : Cx) (pins : List (Addr × Obj)) (D : Ends) (f : Flow) (s' : Shared) : Prop :=
  match f with
  | .next => ∃ σ' H', Inv X pins σ' H' s' ∧ D.nx σ' H'
  | .brk => ∃ σ' H', Inv X pins σ' H' s' ∧ D.bk σ' H'
  | .cont => ∃ σ' H', Inv X pins σ' H' s' ∧ D.ct σ' H'
  | .ret u => ∃ v σ' H', Inv X pins σ' H' s' ∧ RelV v u ∧ D.rt v H'
def PE (X : Cx) (e : Expr) (t : TE) : Prop :=
  ∀ (pins : List (Addr × Obj)) (s : Shared) (σ : St) (H : Hp) (Q : VK), Inv X pins σ H s → t σ H Q → wpAny (model X.prog X.w) X.A (eval e X.env) (EP X pins σ Q) X.xe s
def PT (X : Cx) (e : Expr) (t : TT) : Prop :=
  ∀ (pins : List (Addr × Obj)) (s : Shared) (σ : St) (H : Hp) (Q : Bool → Hp → Prop), Inv X pins σ H s → t σ H Q → wpAny (model X.prog X.w) X.A (isTrue e X.env (eval e X.env)) (TP X pins σ Q) X.xe s
def PW (X : Cx) (e : Expr) (t : TT) : Prop :=
  ∀ (whole : Sem Value) (pins : List (Addr × Obj)) (s : Shared) (σ : St) (H : Hp) (Q : Bool → Hp → Prop), Inv X pins σ H s → t σ H Q → wpAny (model X.prog X.w) X.A (isTrue e X.env whole) (TP X pins σ Q) X.xe s
theorem PW.pt {X : Cx} {e : Expr} {t : TT} (h : PW X e t) : PT X e t := h _
def PA (X : Cx) (es : List Expr) (t : TA) : Prop :=
  ∀ (pos : Pos) (pins : List (Addr × Obj)) (s : Shared) (σ : St) (H : Hp) (Q : List V → Hp → Prop), Inv X pins σ H s → t σ H Q → wpAny (model X.prog X.w) X.A (spliced (backTo pos (starEach es X.env))) (AP X pins σ Q) X.xe s
def PS (X : Cx) (st : Stmt) (t : TS) : Prop :=
  ∀ (pins : List (Addr × Obj)) (s : Shared) (σ : St) (H : Hp) (D : Ends), Inv X pins σ H s → t D σ H → wpAny (model X.prog X.w) X.A (exec st X.env) (SP X pins D) X.xe s
def PSs (X : Cx) (st : List Stmt) (t : TS) : Prop :=
  ∀ (pins : List (Addr × Obj)) (s : Shared) (σ : St) (H : Hp) (D : Ends), Inv X pins σ H s → t D σ H → wpAny (model X.prog X.w) X.A (execs st X.env) (SP X pins D) X.xe s
theorem thn {α : Type} {t : Sem α} {Q Q' : α → Shared → Prop} {M : Model} {A : Around} {E : Value → Shared → Prop} {s : Shared} (h : wpAny M A t Q E s) (hQ : ∀ a s, Q a s → Q' a s) : wpAny M A t Q' E s := wpAny_mono h hQ fun _ _ x => x
end L2
namespace L2
open PySem PySem.Spec PyProof.Rows
section
variable {X : Cx}
theorem bin {a b : Expr} {ta tb : TE} (ha : PE X a ta) (hb : PE X b tb) {pins : List (Addr × Obj)} {s : Shared} {σ : St} {H : Hp} {R : V → V → Hp → Prop} (I : Inv X pins σ H s) (h : ta σ H fun x H1 => tb σ H1 fun y H2 => R x y H2)
    {α : Type} {Q : α → Shared → Prop} {f : Value → Value → Sem α}
    (hf : ∀ v u s2 x y H2, Inv X pins σ H2 s2 → RelV x v → RelV y u → R x y H2 → wpAny (model X.prog X.w) X.A (f v u) Q X.xe s2) :
    wpAny (model X.prog X.w) X.A (eval a X.env) (fun v s₁ => wpAny (model X.prog X.w) X.A (eval b X.env) (fun u s₂ => wpAny (model X.prog X.w) X.A (f v u) Q X.xe s₂) X.xe s₁) X.xe s := by
  refine thn (ha pins s σ H _ I h) fun v s1 ⟨x, H1, I1, r1, q1⟩ => ?_
  refine thn (hb pins s1 σ H1 _ I1 q1) fun u s2 ⟨y, H2, I2, r2, q2⟩ => ?_
  exact hf v u s2 x y H2 I2 r1 r2 q2
def tVar (i : Nat) : TE := fun σ H Q => ∃ v, σ[i]? = some (some v) ∧ Q v H
def tC (v : V) : TE := fun _ H Q => Q v H
theorem pe_var {i : Nat} {x : Str} {pos : Pos} (hN : X.N[i]? = some x) (hv : Vis X.env.scope x) (hd : (x == ("__debug__" : Str)) = false := by decide) (hcd : (x == ("__classdict__" : Str)) = false := by decide) : PE X (.Name x pos) (tVar i) := by
  intro pins s σ H Q I h
  obtain ⟨v, e, h⟩ := h
  obtain ⟨m, hn, hl⟩ := I.loc
  obtain ⟨u, r, l⟩ := hl i x v hN e hv
  have fin : EP X pins σ Q u s := ⟨v, H, I, r, h⟩
  rcases l with ⟨hk, hm⟩ | ⟨hk, c, hc, hcell⟩
  · exact wpAny_Name (wpAny_loadName_local I.ok.kind hk hn hm fin) hd
  · rcases hk with hk | hk
    · exact wpAny_Name (wpAny_loadName_cell I.ok.kind hk hc hcell fin) hd
    · exact wpAny_Name (wpAny_loadName_free I.ok.kind hk hc hcell fin hcd) hd
theorem pe_int {i j pos} : PE X (.Constant (.int i) j pos) (tC (.int i)) := fun _ _ _ H _ I h => wpAny_Constant_int ⟨.int i, H, I.tok _, ⟨_, rfl⟩, h⟩
theorem pe_bl {b j pos} : PE X (.Constant (.bool b) j pos) (tC (.bl b)) := fun _ _ _ H _ I h => Constant_bool ⟨.bl b, H, I, rfl, h⟩
theorem pe_non {j pos} : PE X (.Constant .none j pos) (tC .non) := fun _ _ _ H _ I h => Constant_none ⟨.non, H, I, rfl, h⟩
theorem pe_str {x j pos} : PE X (.Constant (.str x) j pos) (tC (.str x)) := fun _ _ _ H _ I h => Calls.Constant_str ⟨.str x, H, I.tok _, ⟨_, rfl⟩, h⟩
def Gl (X : Cx) (x : Str) : Prop := X.env.kindOf x = some .globalImplicit
theorem ld_glob {E : Value → Shared → Prop} {pins : List (Addr × Obj)} {s : Shared} {σ : St} {H : Hp} {x : Str} {u : Value} {pos : Pos} {Q : Value → Shared → Prop} (I : Inv X pins σ H s) (hg : Gl X x) (hm : X.mg x = some u) (h : Q u s)
    (hd : (x == ("__debug__" : Str)) = false := by decide) : wpAny (model X.prog X.w) X.A (eval (.Name x pos) X.env) Q E s :=
  Calls.Name_function_global I.ok.kind hg (Calls.loadGlobal_global (by rw [I.ok.glob]; exact I.mod.glob.keeps I.bk) hm h) hd
theorem ld_blt {E : Value → Shared → Prop} {pins : List (Addr × Obj)} {s : Shared} {σ : St} {H : Hp} {x : Str} {u : Value} {pos : Pos} {Q : Value → Shared → Prop} (I : Inv X pins σ H s) (hg : Gl X x) (hm : X.mg x = none) (hv : bootBuiltins x = some u) (h : Q u s)
    (hn : x ≠ "__name__" := by decide) (hd : (x == ("__debug__" : Str)) = false := by decide) : wpAny (model X.prog X.w) X.A (eval (.Name x pos) X.env) Q E s := by
  obtain ⟨mb, h1, h2⟩ := I.mod.blt
  exact Calls.Name_function_global I.ok.kind hg (Calls.loadGlobal_builtin (by rw [I.ok.glob]; exact I.mod.glob.keeps I.bk) hm (by rw [I.ok.blt]; exact h1.keeps I.bk) ((h2 x hn).trans hv) h) hd
theorem pe_glob {x : Str} {v : V} {u : Value} {pos : Pos} (hg : Gl X x) (hm : X.mg x = some u) (r : RelV v u) (hd : (x == ("__debug__" : Str)) = false := by decide) : PE X (.Name x pos) (tC v) :=
  fun _ _ _ H _ I h => ld_glob I hg hm ⟨v, H, I, r, h⟩ hd
theorem pe_bltn {x : Str} {v : V} {u : Value} {pos : Pos} (hg : Gl X x) (hm : X.mg x = none) (hv : bootBuiltins x = some u) (r : RelV v u) (hn : x ≠ "__name__" := by decide) (hd : (x == ("__debug__" : Str)) = false := by decide) : PE X (.Name x pos) (tC v) :=
  fun _ _ _ H _ I h => ld_blt I hg hm hv ⟨v, H, I, r, h⟩ hn hd
variable {a b : Expr} {ta tb : TE} {pos : Pos}
def PC (X : Cx) (op : CmpOp) (a b : Expr) (t : TE) : Prop :=
  ∀ (pins : List (Addr × Obj)) (s : Shared) (σ : St) (H : Hp) (Q : VK), Inv X pins σ H s → t σ H Q →
    wpAny (model X.prog X.w) X.A (eval a X.env) (fun v s₁ => wpAny (model X.prog X.w) X.A (eval b X.env) (fun u s₂ => wpAny (model X.prog X.w) X.A (compareOp op v u) (EP X pins σ Q) X.xe s₂) X.xe s₁) X.xe s
theorem nobehind (b : Expr) {op : CmpOp} (h : op ≠ .In) (h2 : op ≠ .NotIn) : behindInMarks op b = false := by
  have e1 : (op == CmpOp.In) = false := by cases op <;> first | rfl | exact absurd rfl h
  have e2 : (op == CmpOp.NotIn) = false := by cases op <;> first | rfl | exact absurd rfl h2
  cases b <;> simp [behindInMarks, e1, e2]
def tIsN (ta : TE) : TE := fun σ H Q => ta σ H fun x H1 => Q (.bl (decide (x = .non))) H1
theorem RelV.none_iff {x : V} {v : Value} (r : RelV x v) : (v == Value.none) = decide (x = .non) := by
  cases x with
  | non => cases r; rfl
  | bl _ => cases r; rfl
  | int _ => obtain ⟨t, rfl⟩ := r; rfl
  | str _ => obtain ⟨t, rfl⟩ := r; rfl
  | byt _ => obtain ⟨t, rfl⟩ := r; rfl
  | flt _ => obtain ⟨t, rfl⟩ := r; rfl
  | ref _ => cases r; rfl
  | ty _ => cases r; rfl
theorem pc_isN {j pos'} (ha : PE X a ta) : PC X .Is a (.Constant .none j pos') (tIsN ta) := by
  intro pins s σ H Q I h
  refine thn (ha pins s σ H _ I h) fun v s1 ⟨x, H1, I1, r1, q1⟩ => ?_
  exact Constant_none (is_none_gen ⟨.bl _, H1, I1, by rw [r1.none_iff]; rfl, q1⟩)
def tB (t : TE) : TT := fun σ H Q => t σ H fun x H1 => ∃ c, x = .bl c ∧ Q c H1
theorem pe_cmp {op : CmpOp} {t : TE} (h : PC X op a b t) (h1 : behindInMarks op b = false := by first | exact nobehind _ (by decide) (by decide) | rfl) : PE X (.Compare a [op] [b] pos) t := fun pins s σ H Q I hw => wpAny_Compare1 (h pins s σ H Q I hw) h1
theorem pt_cmp {op : CmpOp} {t : TE} (h : PC X op a b t) (h1 : behindInMarks op b = false := by first | exact nobehind _ (by decide) (by decide) | rfl) : PT X (.Compare a [op] [b] pos) (tB t) := by
  intro pins s σ H Q I hw
  refine wpAny_isTrue_Compare1 (thn (h pins s σ H _ I hw) fun v s1 h1 => thn h1 fun u s2 h2 => thn h2 fun c s3 ⟨x, H1, I1, r1, q1⟩ => ?_) h1
  obtain ⟨d, rfl, q⟩ := q1
  cases r1
  exact wpAny_truthy_bool ⟨H1, I1, q⟩
theorem pt_val {e : Expr} {t : TE} (h : PE X e t) (he : ∀ whole, isTrue e X.env whole = (do let v ← whole; standAt e.pos; holding [v] (truthy v)) := by intro _; rfl) : PT X e (tB t) := by
  intro pins s σ H Q I hw
  refine isTrue_plain (thn (h pins s σ H _ I hw) fun v s1 ⟨x, H1, I1, r1, q1⟩ => ?_) (he _)
  obtain ⟨d, rfl, q⟩ := q1
  cases r1
  exact wpAny_truthy_bool ⟨H1, I1, q⟩
variable {tA tB' : TT} {rest : List Expr}
def tAnd (t u : TT) : TT := fun σ H Q => t σ H fun c H1 => if c = true then u σ H1 Q else Q false H1
def tOr (t u : TT) : TT := fun σ H Q => t σ H fun c H1 => if c = true then Q true H1 else u σ H1 Q
def tNot (t : TT) : TT := fun σ H Q => t σ H fun c H1 => Q (!c) H1
theorem pw_and1 (ha : PT X a tA) : PW X (.BoolOp .And [a] pos) tA := by
  intro wh pins s σ H Q I h
  refine isTrue_and (thn (ha pins s σ H Q I h) fun c s1 e => ?_)
  cases c with
  | true => exact isTrue_and_nil e
  | false => exact e
theorem pw_or1 (ha : PT X a tA) : PW X (.BoolOp .Or [a] pos) tA := by
  intro wh pins s σ H Q I h
  refine isTrue_or (thn (ha pins s σ H Q I h) fun c s1 e => ?_)
  cases c with
  | false => exact isTrue_or_nil e
  | true => exact e
theorem pw_and (ha : PT X a tA) (hb : PW X (.BoolOp .And (b :: rest) pos) tB') : PW X (.BoolOp .And (a :: b :: rest) pos) (tAnd tA tB') := by
  intro wh pins s σ H Q I h
  refine isTrue_and (thn (ha pins s σ H _ I h) fun c s1 ⟨H1, I1, q1⟩ => ?_)
  cases c with
  | true => exact hb wh pins s1 σ H1 Q I1 q1
  | false => exact ⟨H1, I1, q1⟩
theorem pw_or (ha : PT X a tA) (hb : PW X (.BoolOp .Or (b :: rest) pos) tB') : PW X (.BoolOp .Or (a :: b :: rest) pos) (tOr tA tB') := by
  intro wh pins s σ H Q I h
  refine isTrue_or (thn (ha pins s σ H _ I h) fun c s1 ⟨H1, I1, q1⟩ => ?_)
  cases c with
  | true => exact ⟨H1, I1, q1⟩
  | false => exact hb wh pins s1 σ H1 Q I1 q1
theorem pt_not (ha : PT X a tA) : PT X (.UnaryOp .Not a pos) (tNot tA) := by
  intro pins s σ H Q I h
  exact isTrue_not (ha pins s σ H (fun c H1 => Q (!c) H1) I h)
def tAndV (ta tb : TE) : TE := fun σ H Q => ta σ H fun x H1 => ∃ c, x = .bl c ∧ if c = true then tb σ H1 Q else Q (.bl false) H1
def tNotV (ta : TE) : TE := fun σ H Q => ta σ H fun x H1 => ∃ c, x = .bl c ∧ Q (.bl (!c)) H1
theorem pe_one {op} {t : TE} (h : PE X a t) : PE X (.BoolOp op [a] pos) t := fun pins s σ H Q I hw => BoolOp_one (h pins s σ H Q I hw)
theorem pe_and (ha : PE X a ta) (hb : PE X (.BoolOp .And (b :: rest) pos) tb) : PE X (.BoolOp .And (a :: b :: rest) pos) (tAndV ta tb) := by
  intro pins s σ H Q I h
  refine BoolOp_and (thn (ha pins s σ H _ I h) fun v s1 ⟨x, H1, I1, r1, q1⟩ => ?_)
  obtain ⟨c, rfl, q1⟩ := q1
  cases r1
  refine wpAny_truthy_bool ?_
  cases c with
  | true => exact hb pins s1 σ H1 Q I1 q1
  | false => exact ⟨.bl false, H1, I1, rfl, q1⟩
theorem pe_not (ha : PE X a ta) : PE X (.UnaryOp .Not a pos) (tNotV ta) := by
  intro pins s σ H Q I h
  refine UnaryOp_ (thn (ha pins s σ H _ I h) fun v s1 ⟨x, H1, I1, r1, q1⟩ => ?_)
  obtain ⟨c, rfl, q1⟩ := q1
  cases r1
  exact not_of (wpAny_truthy_bool ⟨.bl (!c), H1, I1, rfl, q1⟩)
def tIf (t : TT) (ta tb : TE) : TE := fun σ H Q => t σ H fun c H1 => if c = true then ta σ H1 Q else tb σ H1 Q
theorem pe_ifExp {c : Expr} (hc : PT X c tA) (ha : PE X a ta) (hb : PE X b tb) : PE X (.IfExp c a b pos) (tIf tA ta tb) := by
  intro pins s σ H Q I h
  refine wpAny_IfExp (thn (hc pins s σ H _ I h) fun d s1 ⟨H1, I1, q1⟩ => ?_)
  cases d with
  | true => exact ha pins s1 σ H1 Q I1 q1
  | false => exact hb pins s1 σ H1 Q I1 q1
end
end L2
namespace L2
open PySem PySem.Spec PyProof.Rows
def SqL (K : PySem.W.Frag) (H : Hp) (a : Addr) (xs : List V) : Prop :=
  Rd H a (.lst xs) ∨
    ∃ (o : Obj) (its : Array Value) (n : Nat), K.lookup a = some o ∧ o.cls = .type "list" ∧ o.dict = none ∧ o.data = .seq its n ∧ its.size ≤ sizeLine ∧ Vals xs its.toList
def SqT (K : PySem.W.Frag) (H : Hp) (a : Addr) (xs : List V) : Prop :=
  Rd H a (.tup xs) ∨
    ∃ (o : Obj) (its : Array Value) (n : Nat), K.lookup a = some o ∧ o.cls = .type "tuple" ∧ o.data = .seq its n ∧ its.size ≤ sizeLine ∧ Vals xs its.toList
def absV : Value → Option V
  | .none => some .non
  | .bool b => some (.bl b)
  | .int i _ => some (.int i)
  | .str x _ => some (.str x)
  | .bytes b _ => some (.byt b)
  | .float b _ => some (.flt b)
  | .ref a => some (.ref a)
  | .type n => some (.ty n)
  | _ => none
theorem RelV.abs {x : V} {u : Value} (r : RelV x u) : absV u = some x := by
  cases x with
  | non => cases r; rfl
  | bl _ => cases r; rfl
  | int _ => obtain ⟨t, rfl⟩ := r; rfl
  | str _ => obtain ⟨t, rfl⟩ := r; rfl
  | byt _ => obtain ⟨t, rfl⟩ := r; rfl
  | flt _ => obtain ⟨t, rfl⟩ := r; rfl
  | ref _ => cases r; rfl
  | ty _ => cases r; rfl
theorem RelV.inj {x y : V} {u : Value} (r : RelV x u) (q : RelV y u) : x = y := Option.some.inj (r.abs.symm.trans q.abs)
theorem Vals.inj : ∀ {xs ys : List V} {us : List Value}, Vals xs us → Vals ys us → xs = ys
  | _, _, _, .nil, .nil => rfl
  | _, _, _, .cons r t, .cons r' t' => by rw [r.inj r', Vals.inj t t']
section
variable {X : Cx} {pins : List (Addr × Obj)} {σ : St} {H : Hp} {s : Shared} {a : Addr} {xs ys : List V}
theorem SqL.of {K : PySem.W.Frag} (h : H a = some (.lst xs)) : SqL K H a xs := .inl (.inl h)
theorem SqT.of {K : PySem.W.Frag} (h : H a = some (.tup xs)) : SqT K H a xs := .inl (.inl h)
theorem Inv.list (I : Inv X pins σ H s) (h : SqL X.K H a xs) : ∃ its : List Value, Vals xs its ∧ PlainL s.heap a its.toArray ∧ xs.length ≤ sizeLine := by
  rcases h with h | ⟨o, its, n, hk, hc, hd, hs, hz, r⟩
  · obtain ⟨z, its, n, r, e⟩ := h.ok I.hok
    exact ⟨its, r, ⟨_, n, e, rfl, rfl, rfl⟩, z⟩
  · refine ⟨its.toList, r, ⟨o, n, I.kIn a o hk, hc, hd, by simpa using hs⟩, ?_⟩
    have e := r.length
    simp only [Array.length_toList] at e
    omega
theorem Inv.tuple (I : Inv X pins σ H s) (h : SqT X.K H a xs) : ∃ its : List Value, Vals xs its ∧ IsTup s.heap a its.toArray ∧ xs.length ≤ sizeLine := by
  rcases h with h | ⟨o, its, n, hk, hc, hs, hz, r⟩
  · obtain ⟨z, its, r, p⟩ := h.ok I.hok
    exact ⟨its, r, p, z⟩
  · refine ⟨its.toList, r, ⟨o, I.kIn a o hk, hc, n, by simpa using hs⟩, ?_⟩
    have e := r.length
    simp only [Array.length_toList] at e
    omega
theorem Inv.list_inj (I : Inv X pins σ H s) (h : SqL X.K H a xs) (h' : SqL X.K H a ys) : xs = ys := by
  obtain ⟨its, r, ⟨o, n, e, _, _, d⟩, _⟩ := I.list h
  obtain ⟨its', r', ⟨o', n', e', _, _, d'⟩, _⟩ := I.list h'
  rw [e] at e'; cases e'
  rw [d] at d'
  injection d' with d1 _
  have : its = its' := by simpa using congrArg Array.toList d1
  subst this
  exact r.inj r'
theorem Inv.tuple_inj (I : Inv X pins σ H s) (h : SqT X.K H a xs) (h' : SqT X.K H a ys) : xs = ys := by
  obtain ⟨its, r, ⟨o, e, _, n, d⟩, _⟩ := I.tuple h
  obtain ⟨its', r', ⟨o', e', _, n', d'⟩, _⟩ := I.tuple h'
  rw [e] at e'; cases e'
  rw [d] at d'
  injection d' with d1 _
  have : its = its' := by simpa using congrArg Array.toList d1
  subst this
  exact r.inj r'
end
abbrev Cx.wish (X : Cx) (E : Value → Shared → Prop) : Cx := { X with xe := E }
theorem Cx.Ok.wish {X : Cx} (ok : X.Ok) (E : Value → Shared → Prop) : (X.wish E).Ok :=
  ⟨ok.mod, ok.kind, ok.glob, ok.blt, ok.above, ok.inj, ok.has, ok.cab, ok.hd, ok.frames, ok.stk, ok.exf, ok.bs, ok.bsz, ok.noex, ok.exfs, ok.funs, ok.frf⟩
section
variable {X : Cx} {pins : List (Addr × Obj)} {σ : St} {H : Hp} {s : Shared} {E : Value → Shared → Prop}
theorem Inv.wish (I : Inv X pins σ H s) (E : Value → Shared → Prop) : Inv (X.wish E) pins σ H s := ⟨I.ok.wish E, I.os, I.bare, I.base, I.loc, I.cell, I.free, I.freeC, I.pin, I.hok, I.len, I.hn⟩
end
section
variable {X : Cx} {st : Stmt} {rest : List Stmt} {t u : TS} {e : Expr} {te : TE} {pos : Pos}
def tNext : TS := fun D σ H => D.nx σ H
def tSeq (t u : TS) : TS := fun D σ H => t { D with nx := u D } σ H
theorem pss_nil : PSs X [] tNext := fun _ _ σ H _ I h => wpAny_execs_nil ⟨σ, H, I, h⟩
theorem pss_cons (h1 : PS X st t) (h2 : PSs X rest u) : PSs X (st :: rest) (tSeq t u) := by
  intro pins s σ H D I h
  refine wpAny_execs_cons (thn (h1 pins s σ H { D with nx := u D } I h) fun f s1 q => ?_)
  cases f with
  | next =>
    obtain ⟨σ', H', I', q⟩ := q
    exact h2 pins s1 σ' H' D I' q
  | ret v => exact q
  | brk => exact q
  | cont => exact q
theorem pss_one (h1 : PS X st t) : PSs X [st] t := by
  intro pins s σ H D I h
  refine wpAny_execs_cons (thn (h1 pins s σ H D I h) fun f s1 q => ?_)
  cases f with
  | next => exact wpAny_execs_nil q
  | ret v => exact q
  | brk => exact q
  | cont => exact q
theorem Inv.quiet {pins : List (Addr × Obj)} {σ : St} {H : Hp} {s : Shared} (I : Inv X pins σ H s) : interactive X.env = false := by simp [interactive, I.ok.kind]
def tDrop (te : TE) : TS := fun D σ H => te σ H fun _ H1 => D.nx σ H1
theorem ps_expr (he : PE X e te) (hs : swapsWith e none pos.line X.env = pure false := by rfl) : PS X (.Expr e pos) (tDrop te) := by
  intro pins s σ H D I h
  exact wpAny_Expr_any (thn (he pins s σ H _ I h) fun v s1 ⟨x, H1, I1, r1, q1⟩ => ⟨σ, H1, I1, q1⟩) I.quiet hs
def tRet (te : TE) : TS := fun D σ H => te σ H D.rt
theorem ps_ret (he : PE X e te) : PS X (.Return (some e) pos) (tRet te) := by
  intro pins s σ H D I h
  exact wpAny_Return_some (thn (he pins s σ H _ I h) fun v s1 ⟨x, H1, I1, r1, q1⟩ => ⟨x, σ, H1, I1, r1, q1⟩)
def tIfS (c : TT) (t u : TS) : TS := fun D σ H => c σ H fun b H1 => if b = true then t D σ H1 else u D σ H1
theorem ps_if {c : Expr} {a b : List Stmt} {tc : TT} (hc : PT X c tc) (ha : PSs X a t) (hb : PSs X b u) : PS X (.If c a b pos) (tIfS tc t u) := by
  intro pins s σ H D I h
  refine wpAny_If (thn (hc pins s σ H _ I h) fun d s1 ⟨H1, I1, q1⟩ => ?_)
  cases d with
  | true => exact ha pins s1 σ H1 D I1 q1
  | false => exact hb pins s1 σ H1 D I1 q1
end
abbrev TG := V → St → Hp → (St → Hp → Prop) → Prop
abbrev TGs := List V → St → Hp → (St → Hp → Prop) → Prop
def PG (X : Cx) (target : Expr) (t : TG) : Prop :=
  ∀ (pins : List (Addr × Obj)) (s : Shared) (σ : St) (H : Hp) (v : V) (u : Value) (Q : St → Hp → Prop), Inv X pins σ H s → RelV v u → t v σ H Q →
    wpAny (model X.prog X.w) X.A (assign target X.env u) (fun _ s' => ∃ σ' H', Inv X pins σ' H' s' ∧ Q σ' H') X.xe s
def PGs (X : Cx) (ts : List Expr) (t : TGs) : Prop :=
  ∀ (pins : List (Addr × Obj)) (s : Shared) (σ : St) (H : Hp) (vs : List V) (us : List Value) (Q : St → Hp → Prop), Inv X pins σ H s → Vals vs us → t vs σ H Q →
    wpAny (model X.prog X.w) X.A (assignInOrder ((assignEach ts X.env).map (·.2)) us) (fun _ s' => ∃ σ' H', Inv X pins σ' H' s' ∧ Q σ' H') X.xe s
abbrev TSet := V → V → V → Hp → (Hp → Prop) → Prop
def PSet (X : Cx) (t : TSet) : Prop :=
  ∀ (pins : List (Addr × Obj)) (s : Shared) (σ : St) (H : Hp) (o i v : V) (ov iv u : Value) (Q : Hp → Prop), Inv X pins σ H s → RelV o ov → RelV i iv → RelV v u → t o i v H Q →
    wpAny (model X.prog X.w) X.A (setItem ov iv u) (fun _ s' => ∃ H', Inv X pins σ H' s' ∧ Q H') X.xe s
section
variable {X : Cx} {pos : Pos}
def gName (i : Nat) : TG := fun v σ H Q => Q (σ.set i (some v)) H
theorem pg_name {i : Nat} {x : Str} (hN : X.N.Nodup) (hi : X.N[i]? = some x) (hx : Loc X.env.scope x) (hf : X.fn x = true ∨ X.env.scope.names.lookup x = some .local := by first | exact .inl rfl | exact .inr rfl | assumption) : PG X (.Name x pos) (gName i) := by
  intro pins s σ H v u Q I r h
  exact wpAny_assign_Name (store_ok I hN hi hx r (fun s' I' => ⟨_, H, I', h⟩) hf)
def gNil : TGs := fun vs σ H Q => vs = [] ∧ Q σ H
def gCons (t : TG) (u : TGs) : TGs := fun vs σ H Q => ∃ v r, vs = v :: r ∧ t v σ H fun σ' H' => u r σ' H' Q
theorem pgs_nil : PGs X [] gNil := by
  intro pins s σ H vs us Q I r h
  obtain ⟨e, h⟩ := h
  subst e
  cases r
  exact assignInOrder_nil ⟨σ, H, I, h⟩
theorem pgs_cons {e : Expr} {es : List Expr} {t : TG} {u : TGs} (h1 : PG X e t) (h2 : PGs X es u)
    (hs : (assignEach (e :: es) X.env).map (·.2) = assign e X.env :: (assignEach es X.env).map (·.2) := by rfl) : PGs X (e :: es) (gCons t u) := by
  intro pins s σ H vs us Q I r h
  obtain ⟨v, vr, e1, h⟩ := h
  subst e1
  cases r with
  | cons r rr =>
    rw [hs]
    refine assignInOrder_cons (thn (h1 pins s σ H _ _ _ I r h) fun _ s1 ⟨σ1, H1, I1, q1⟩ => ?_)
    exact h2 pins s1 σ1 H1 _ _ Q I1 rr q1
def gTup (K : PySem.W.Frag) (n : Nat) (t : TGs) : TG := fun v σ H Q => ∃ a xs, v = .ref a ∧ SqT K H a xs ∧ xs.length = n ∧ t xs σ H Q
theorem pg_tup {es : List Expr} {k : Nat} {t : TGs} {n : Nat} (hc : X.calm = true) (h : PGs X es t)
    (hn : (assignEach es X.env).length = n := by rfl) (hst : (assignEach es X.env).findIdx? (·.1) = none := by rfl) : PG X (.Tuple es k pos) (gTup X.K n t) := by
  intro pins s σ H v u Q I r hw
  obtain ⟨a, xs, e1, hq, hl, hw⟩ := hw
  subst e1
  cases r
  obtain ⟨its, rv, ht, hz⟩ := I.tuple hq
  refine assign_Tuple_tuple (I.ok.hd hc) ht (by simp [hn, ← hl, rv.length]) hst fun h' hx => ?_
  have I1 : Inv X pins σ H { s with heap := h' } := I.kept (t' := s.toks) fun b o e => hx b o (Nat.ne_of_lt (Heap.lt_size e)) e
  exact h pins _ σ H xs _ Q I1 (by simpa using rv) hw
def gSub (to ti : TE) (t : TSet) : TG := fun v σ H Q => to σ H fun o H1 => ti σ H1 fun i H2 => t o i v H2 fun H3 => Q σ H3
theorem pg_sub {o i : Expr} {to ti : TE} {t : TSet} (ho : PE X o to) (hi : PE X i ti) (hs : PSet X t)
    (ha : ∀ v, assign (.Subscript o i pos) X.env v = (do
      let ov ← holding [v] (eval o X.env)
      let iv ← holding [v, ov] (eval i X.env)
      standAt pos
      holding [v, ov, iv] (setItem ov iv v)
      release [v, ov, iv] []) := by intro _; rfl) : PG X (.Subscript o i pos) (gSub to ti t) := by
  intro pins s σ H v u Q I r h
  rw [ha]
  refine wpAny_bind (wpAny_holding (thn (ho pins s σ H _ I h) fun ov s1 ⟨x, H1, I1, r1, q1⟩ => ?_))
  refine wpAny_bind (wpAny_holding (thn (hi pins s1 σ H1 _ I1 q1) fun iv s2 ⟨y, H2, I2, r2, q2⟩ => ?_))
  refine wpAny_bind (wpAny_standAt (wpAny_bind (wpAny_holding (thn (hs pins s2 σ H2 x y v ov iv u _ I2 r1 r2 r q2) fun _ s3 ⟨H3, I3, q3⟩ => ?_))))
  exact wpAny_release ⟨σ, H3, I3, q3⟩
def tAsg (te : TE) (g : TG) : TS := fun D σ H => te σ H fun x H1 => g x σ H1 D.nx
theorem ps_asg {tg e : Expr} {te : TE} {g : TG} (he : PE X e te) (hg : PG X tg g) (hs : swapsWithSole [tg] e pos.line X.env = pure false := by rfl) (hw : swappedStores [tg] e X.env = pure none := by rfl)
    (h1 : (assignEach [tg] X.env).map (·.2) = [assign tg X.env] := by rfl) : PS X (.Assign [tg] e pos) (tAsg te g) := by
  intro pins s σ H D I h
  refine wpAny_Assign_stores (thn (he pins s σ H _ I h) fun v s1 ⟨x, H1, I1, r1, q1⟩ => ?_) hs hw
  rw [h1]
  exact thn (hg pins s1 σ H1 x v _ I1 r1 q1) fun _ s2 q => q
theorem ps_set {i : Nat} {x : Str} {e : Expr} {te : TE} {pos' : Pos} (hN : X.N.Nodup) (hi : X.N[i]? = some x) (hx : Loc X.env.scope x) (he : PE X e te) (hs : swapsWith e (some (.Name x pos')) pos.line X.env = pure false := by rfl) (hf : X.fn x = true ∨ X.env.scope.names.lookup x = some .local := by first | exact .inl rfl | exact .inr rfl | assumption) :
    PS X (.Assign [.Name x pos'] e pos) (tAsg te (gName i)) := by
  intro pins s σ H D I h
  refine wpAny_Assign_Name (thn (he pins s σ H _ I h) fun v s1 ⟨y, H1, I1, r1, q1⟩ => ?_) hs
  exact store_ok I1 hN hi hx r1 (fun s2 I2 => ⟨_, H1, I2, q1⟩) hf
end
section
variable {X : Cx} {pos : Pos}
end
structure It where
  go : Nat → Hp → Prop
  yld : Nat → Hp → V → Hp → Prop
  stop : Nat → Hp → Prop
def FpOk (X : Cx) (pins : List (Addr × Obj)) (H : Hp) (b : Addr) : Prop :=
  H b = none ∧ b ≠ X.env.locals ∧ b ∉ X.fs ∧ (b ∈ X.ex ∨ X.s₀.heap.objs.size ≤ b) ∧ (∀ x c, X.env.cells.lookup x = some c → c ≠ b) ∧ ∀ p ∈ X.pn ++ pins, p.1 ≠ b
theorem Inv.fpOk {X : Cx} {pins : List (Addr × Obj)} {σ : St} {H H' : Hp} {s : Shared} {b : Addr} (I : Inv X pins σ H s) (hb : s.heap.objs.size ≤ b) (hn : H' b = none) : FpOk X pins H' b := by
  refine ⟨hn, Nat.ne_of_gt (Nat.lt_of_lt_of_le I.lt hb), I.nofs hb, .inr (Nat.le_trans I.sz hb), fun x c e z => ?_, fun p hp z => ?_⟩
  · obtain ⟨v, q⟩ := I.cell x c e
    exact absurd (Nat.lt_of_lt_of_le q.lt (by rw [z]; exact hb)) (Nat.lt_irrefl _)
  · exact absurd (Nat.lt_of_lt_of_le (Heap.lt_size (I.pin p hp).1) (by rw [z]; exact hb)) (Nat.lt_irrefl _)
structure Turn (P : Program) (w : World) (K : PySem.W.Frag) (tg : Expr) (J : It) (fp : List Addr) (it : Addr) (tn : Nat → Heap → Prop) (nm : Bool) : Prop where
  mem : it ∈ fp
  obj : ∀ i h, tn i h → ∀ b ∈ fp, ∃ o, h.get? b = some o ∧ ∀ v, o.data ≠ .cell v
  keep : ∀ i h h', tn i h → (∀ b ∈ fp, ∀ o, h.get? b = some o → h'.get? b = some o) → tn i h'
  item : ∀ (X : Cx), X.prog = P → X.w = w → X.K = K → (nm = true → X.calm = true) → ∀ (i : Nat) (pins : List (Addr × Obj)) (s : Shared) (σ : St) (H : Hp) (E : Value → Shared → Prop), Inv X pins σ H s → (∀ b ∈ fp, FpOk X pins H b) → tn i s.heap → J.go i H →
    wpAny (model P w) X.A (pyNext (.ref it)) (fun r s1 => ∃ u, r = some u ∧
      wpAny (model P w) X.A (letOwnedTupleGo tg (.ref it) u) (fun _ s2 => ∃ x H', Inv X pins σ H' s2 ∧ RelV x u ∧ J.yld i H x H' ∧ tn (i + 1) s2.heap ∧ ∀ b ∈ fp, H' b = none) E s1) E s
  done : ∀ (X : Cx), X.prog = P → X.w = w → X.K = K → (nm = true → X.calm = true) → ∀ (i : Nat) (pins : List (Addr × Obj)) (s : Shared) (σ : St) (H : Hp) (E : Value → Shared → Prop), Inv X pins σ H s → (∀ b ∈ fp, FpOk X pins H b) → tn i s.heap → J.stop i H →
    wpAny (model P w) X.A (pyNext (.ref it)) (fun r s1 => r = none ∧ Inv X pins σ H s1) E s
  self : ∀ (A : Around) (i : Nat) (s : Shared) (Q : Value → Shared → Prop) (E : Value → Shared → Prop), tn i s.heap → Q (.ref it) s → wpAny (model P w) A (pyIter (.ref it)) Q E s
def TurnX (X : Cx) (tg : Expr) (J : It) (fp : List Addr) (it : Addr) (tn : Nat → Heap → Prop) : Prop := ∃ nm, Turn X.prog X.w X.K tg J fp it tn nm ∧ (nm = true → X.calm = true)
theorem TurnX.of {X : Cx} {tg : Expr} {J : It} {fp : List Addr} {it : Addr} {tn : Nat → Heap → Prop} (T : Turn X.prog X.w X.K tg J fp it tn false) : TurnX X tg J fp it tn := ⟨false, T, fun z => by cases z⟩
abbrev TI := St → Hp → (It → Hp → Prop) → Prop
def PIE (X : Cx) (pins : List (Addr × Obj)) (σ : St) (tg : Expr) (R : It → Hp → Prop) (itv : Value) (s2 : Shared) : Prop :=
  ∃ (it : Addr) (fp : List Addr) (tn : Nat → Heap → Prop) (J : It) (H' : Hp), itv = .ref it ∧ Inv X pins σ H' s2 ∧ TurnX X tg J fp it tn ∧ tn 0 s2.heap ∧ (∀ b ∈ fp, FpOk X pins H' b) ∧ R J H'
def PI (X : Cx) (tg iter : Expr) (wi : TI) : Prop :=
  ∀ (pins : List (Addr × Obj)) (s : Shared) (σ : St) (H : Hp) (R : It → Hp → Prop), Inv X pins σ H s → wi σ H R →
    wpAny (model X.prog X.w) X.A (eval iter X.env) (fun v s1 => wpAny (model X.prog X.w) X.A (pyIter v) (PIE X pins σ tg R) X.xe s1) X.xe s
theorem go_of {M : Model} {A : Around} {E : Value → Shared → Prop} {s : Shared} {tg : Expr} {it : Addr} {u : Value} {o : Obj} {n : String} {vs : Array Value} {Q : Unit → Shared → Prop} (ho : s.heap.get? it = some o) (hc : o.cls = .type n) (hd : o.data = .fields vs)
    (hn : ["enumerate", "zip", "dict_itemiterator", "dict_reverseitemiterator", "odict_iterator", "itertools.zip_longest", "itertools.pairwise"].contains n = false) (hQ : Q () s) : wpAny M A (letOwnedTupleGo tg (.ref it) u) Q E s := by
  unfold letOwnedTupleGo
  cases tg <;> first
    | exact wpAny_pure hQ
    | (cases u <;> first
        | exact wpAny_pure hQ
        | (refine wpAny_bind (wpAny_load ho ?_)
           rw [hc, hd]
           show wpAny M A (if (["enumerate", "zip", "dict_itemiterator", "dict_reverseitemiterator", "odict_iterator", "itertools.zip_longest", "itertools.pairwise"].contains n && vs[0]? == some (rawInt _)) = true then _ else _) Q E s
           rw [if_neg (by intro h; rw [hn, Bool.false_and] at h; cases h)]
           exact wpAny_pure hQ))
def Itl (K : PySem.W.Frag) (a : Addr) : It :=
  ⟨fun i H => ∃ xs x, SqL K H a xs ∧ xs[i]? = some x, fun i H x H' => H' = H ∧ ∀ xs, SqL K H a xs → xs[i]? = some x, fun i H => ∃ xs, SqL K H a xs ∧ xs.length ≤ i⟩
def Itt (K : PySem.W.Frag) (a : Addr) : It :=
  ⟨fun i H => ∃ xs x, SqT K H a xs ∧ xs[i]? = some x, fun i H x H' => H' = H ∧ ∀ xs, SqT K H a xs → xs[i]? = some x, fun i H => ∃ xs, SqT K H a xs ∧ xs.length ≤ i⟩
def Itr (lo : Int) (n : Nat) : It := ⟨fun i _ => i < n, fun i H x H' => H' = H ∧ x = .int (lo + i), fun i _ => n ≤ i⟩
theorem turn_list {P : Program} {w : World} {K : PySem.W.Frag} {tg : Expr} (a it : Addr) : Turn P w K tg (Itl K a) [it] it (fun i h => h.IsListIter it a i) false where
  mem := by simp
  obj := fun i h st b hb => by
    have e : b = it := by simpa using hb
    subst e
    obtain ⟨o, e, c, d⟩ := st
    exact ⟨o, e, fun v z => by rw [d] at z; cases z⟩
  keep := fun i h h' st k => st.at fun o e => k it (by simp) o e
  item := by
    intro X hP hw hK hc i pins s σ H E I hf st hg
    subst hP hw hK
    obtain ⟨xs, x, hq, hx⟩ := hg
    obtain ⟨its, rv, p, hz⟩ := I.list hq
    obtain ⟨u, hu, ru⟩ := rv.get hx
    obtain ⟨f0, f1, f2, f3, f4, f5⟩ := hf it (by simp)
    refine wpAny_pyNext_list_item st p.isList (x := u) (by simpa using hu) fun h' st' sb => ?_
    have I1 : Inv X pins σ H { s with heap := h' } := I.turned (t' := s.toks) (fun b o hb e => (sb.2 b hb).trans e) f0 f1 f3 f4 f5
    obtain ⟨o, e, c, d⟩ := id st'
    exact ⟨u, rfl, go_of (s := { s with heap := h' }) e c d (by decide) ⟨x, H, I1, ru, ⟨rfl, fun ys hy => by rw [I.list_inj hy hq]; exact hx⟩, st', fun b hb => (hf b hb).1⟩⟩
  done := by
    intro X hP hw hK hc i pins s σ H E I hf st hg
    subst hP hw hK
    obtain ⟨xs, hq, hx⟩ := hg
    obtain ⟨its, rv, p, hz⟩ := I.list hq
    obtain ⟨f0, f1, f2, f3, f4, f5⟩ := hf it (by simp)
    have hl := rv.length
    exact list_on (I.hn.now I.hok) st p.isList (by simp; omega) fun h' eb => ⟨rfl, I.turned (t' := s.toks) (fun b o hb e => eb b o hb e) f0 f1 f3 f4 f5⟩
  self := fun _ _ _ _ _ st h => wpAny_pyIter_listiter st h
theorem turn_tuple {P : Program} {w : World} {K : PySem.W.Frag} {tg : Expr} (a it : Addr) : Turn P w K tg (Itt K a) [it] it (fun i h => h.IsTupleIter it a i) false where
  mem := by simp
  obj := fun i h st b hb => by
    have e : b = it := by simpa using hb
    subst e
    obtain ⟨o, e, c, d⟩ := st
    exact ⟨o, e, fun v z => by rw [d] at z; cases z⟩
  keep := fun i h h' st k => st.at fun o e => k it (by simp) o e
  item := by
    intro X hP hw hK hc i pins s σ H E I hf st hg
    subst hP hw hK
    obtain ⟨xs, x, hq, hx⟩ := hg
    obtain ⟨its, rv, p, hz⟩ := I.tuple hq
    obtain ⟨u, hu, ru⟩ := rv.get hx
    obtain ⟨f0, f1, f2, f3, f4, f5⟩ := hf it (by simp)
    refine wpAny_pyNext_tuple_item st (show s.heap.IsTuple a its.toArray from p) (x := u) (by simpa using hu) fun h' st' sb => ?_
    have I1 : Inv X pins σ H { s with heap := h' } := I.turned (t' := s.toks) (fun b o hb e => (sb.2 b hb).trans e) f0 f1 f3 f4 f5
    obtain ⟨o, e, c, d⟩ := id st'
    exact ⟨u, rfl, go_of (s := { s with heap := h' }) e c d (by decide) ⟨x, H, I1, ru, ⟨rfl, fun ys hy => by rw [I.tuple_inj hy hq]; exact hx⟩, st', fun b hb => (hf b hb).1⟩⟩
  done := by
    intro X hP hw hK hc i pins s σ H E I hf st hg
    subst hP hw hK
    obtain ⟨xs, hq, hx⟩ := hg
    obtain ⟨its, rv, p, hz⟩ := I.tuple hq
    obtain ⟨f0, f1, f2, f3, f4, f5⟩ := hf it (by simp)
    have hl := rv.length
    exact tuple_on (I.hn.now I.hok) st (show s.heap.IsTuple a its.toArray from p) (by simp; omega) fun h' eb => ⟨rfl, I.turned (t' := s.toks) (fun b o hb e => eb b o hb e) f0 f1 f3 f4 f5⟩
  self := fun _ _ _ _ _ st h => wpAny_pyIter_tupleiter st h
theorem turn_range {P : Program} {w : World} {K : PySem.W.Frag} {tg : Expr} (it : Addr) (lo : Int) (n : Nat) : Turn P w K tg (Itr lo n) [it] it (fun i h => IsRangeIter h it (lo + (i : Nat) * 1) ((n : Int) - (i : Nat)) 1) false where
  mem := by simp
  obj := fun i h st b hb => by
    have e : b = it := by simpa using hb
    subst e
    exact ⟨_, st, fun v z => by
      have z' : Data.fields _ = Data.cell v := z
      cases z'⟩
  keep := fun i h h' st k => k it (by simp) _ st
  item := by
    intro X hP hw hK hc i pins s σ H E I hf st hg
    subst hP hw hK
    obtain ⟨f0, f1, f2, f3, f4, f5⟩ := hf it (by simp)
    refine wpAny_pyNext_range_item st (by have : i < n := hg; omega) fun h' st' sb => ?_
    obtain ⟨tk, htk⟩ : ∃ tk, tk = s.toks + 1 := ⟨_, rfl⟩
    rw [← htk]
    have I1 : Inv X pins σ H { s with heap := h', toks := tk } := I.turned (fun b o hb e => (sb.2 b hb).trans e) f0 f1 f3 f4 f5
    have st2 : IsRangeIter h' it (lo + ((i + 1 : Nat) : Int) * 1) ((n : Int) - ((i + 1 : Nat) : Int)) 1 := by
      rw [show lo + ((i + 1 : Nat) : Int) * 1 = lo + (i : Int) * 1 + 1 by omega, show (n : Int) - ((i + 1 : Nat) : Int) = (n : Int) - (i : Int) - 1 by omega]; exact st'
    refine ⟨_, rfl, go_of (s := { s with heap := h', toks := tk }) (n := "range_iterator") st' rfl rfl (by decide) ⟨.int (lo + i), H, I1, ⟨s.toks, ?_⟩, ⟨rfl, rfl⟩, st2, fun b hb => (hf b hb).1⟩⟩
    rw [Int.mul_one]
  done := by
    intro X hP hw hK hc i pins s σ H E I hf st hg
    subst hP hw hK
    obtain ⟨f0, f1, f2, f3, f4, f5⟩ := hf it (by simp)
    exact range_on (I.hn.now I.hok) st (by have : n ≤ i := hg; omega) fun h' eb => ⟨rfl, I.turned (t' := s.toks) (fun b o hb e => eb b o hb e) f0 f1 f3 f4 f5⟩
  self := fun _ _ _ _ _ st h => wpAny_pyIter_rangeiter st h
end L2
namespace L2
open PySem PySem.Spec PyProof.Rows
section
variable {X : Cx} {tg : Expr}
def iList (K : PySem.W.Frag) (tl : TE) : TI := fun σ H R => tl σ H fun x H1 => ∃ a, x = .ref a ∧ (∃ xs, SqL K H1 a xs) ∧ R (Itl K a) H1
theorem pi_list {l : Expr} {tl : TE} (hl : PE X l tl) : PI X tg l (iList X.K tl) := by
  intro pins s σ H R I h
  refine thn (hl pins s σ H _ I h) fun v s1 ⟨x, H1, I1, r1, q1⟩ => ?_
  obtain ⟨a, e, ⟨xs, hq⟩, q⟩ := q1
  subst e
  cases r1
  obtain ⟨its, rv, p, hz⟩ := I1.list hq
  refine wpAny_pyIter_list p.isList ?_
  refine ⟨s1.heap.objs.size, [s1.heap.objs.size], _, _, H1, rfl, I1.kept (t' := s1.toks) fun b o e => Heap.get?_push_of_some _ e, TurnX.of (turn_list a _), ⟨_, Heap.get?_push_size _ rfl, rfl, rfl⟩, fun b hb => ?_, q⟩
  have e : b = s1.heap.objs.size := by simpa using hb
  subst e
  exact I1.fpOk (Nat.le_refl _) (I1.hok.fresh (Nat.le_refl _))
theorem range_it {pins : List (Addr × Obj)} {σ : St} {H : Hp} {s : Shared} {R : It → Hp → Prop} {E : Value → Shared → Prop} {lo hi : Int} {t u v : Tok} {tk : Nat} (I : Inv X pins σ H s) (h1 : -(2 ^ 62) ≤ lo) (h2 : lo < 2 ^ 62) (h3 : -(2 ^ 62) ≤ hi) (h4 : hi < 2 ^ 62)
    (q : R (Itr lo (hi - lo).toNat) H) : wpAny (model X.prog X.w) X.A (pyIter (.ref s.heap.objs.size)) (PIE X pins σ tg R) E { s with heap := s.heap.push { cls := .type "range", data := .fields #[.int lo t, .int hi u, .int 1 v] }, toks := tk } := by
  refine wpAny_pyIter_range (IsRange.new ..) (small_one h1 h2 h3 h4) ?_
  have I1 : Inv X pins σ H { s with heap := s.heap.push { cls := .type "range", data := .fields #[.int lo t, .int hi u, .int 1 v] }, toks := tk } := I.kept fun b o e => Heap.get?_push_of_some _ e
  refine ⟨(s.heap.push { cls := .type "range", data := .fields #[.int lo t, .int hi u, .int 1 v] }).objs.size, [(s.heap.push { cls := .type "range", data := .fields #[.int lo t, .int hi u, .int 1 v] }).objs.size], _, _, H, rfl,
    I1.kept (t' := tk) fun b o e => Heap.get?_push_of_some _ e, TurnX.of (turn_range _ lo (hi - lo).toNat), ?_, fun b hb => ?_, q⟩
  · have e1 : lo + ((0 : Nat) : Int) * 1 = lo := by simp
    have e2 : (((hi - lo).toNat : Nat) : Int) - ((0 : Nat) : Int) = Builtin.Range.rangeSize lo hi 1 := by rw [rangeSize_one]; split <;> omega
    show IsRangeIter _ _ (lo + ((0 : Nat) : Int) * 1) ((((hi - lo).toNat : Nat) : Int) - ((0 : Nat) : Int)) 1
    rw [e1, e2]
    exact Heap.get?_push_size _ rfl
  · have e : b = (s.heap.push { cls := .type "range", data := .fields #[.int lo t, .int hi u, .int 1 v] }).objs.size := by simpa using hb
    subst e
    exact I1.fpOk (Nat.le_refl _) (I1.hok.fresh (Nat.le_refl _))
def iRng1 (ta : TA) : TI := fun σ H R => ta σ H fun vs H1 => ∃ j : Int, vs = [.int j] ∧ -(2 ^ 62) ≤ j ∧ j < 2 ^ 62 ∧ R (Itr 0 j.toNat) H1
theorem pi_range1 {a : Expr} {ta : TA} {p pos : Pos} (hg : Gl X "range") (hm : X.mg "range" = none) (ha : PA X [a] ta) (hs : starEach [a] X.env = [(false, eval a X.env)] := by rfl) : PI X tg (.Call (.Name "range" p) [a] [] pos) (iRng1 ta) := by
  intro pins s σ H R I h
  refine Call_ (ld_blt I hg hm boot_range (PyProof.Rows.callWith_type1 (thn (ha pos pins s σ H _ I h) fun us s1 ⟨vs, H1, I1, r1, q1⟩ => ?_) hs rfl))
  obtain ⟨j, e, q1, q2, q⟩ := q1
  subst e
  cases r1 with
  | cons r rr =>
    cases rr
    obtain ⟨t, rfl⟩ := r
    exact call_range_1 (range_it I1 (by omega) (by omega) q1 q2 (by simpa using q))
def tFor (wi : TI) (g : TG) (tb : TS) : TS := fun D σ H => wi σ H fun J H1 => ∃ W : Nat → Nat → St → Hp → Prop, (∃ m, W 0 m σ H1) ∧ ∀ i m σ H, W i m σ H →
  (J.stop i H ∧ D.nx σ H) ∨ (J.go i H ∧ ∃ N : St → Hp → Prop, (∀ σ' H', N σ' H' → ∃ m', m' < m ∧ W (i + 1) m' σ' H') ∧ ∀ x H', J.yld i H x H' → g x σ H' fun σ2 H2 => tb { D with nx := N, ct := N, bk := D.nx } σ2 H2)
def pinsAt (fp : List Addr) (h : Heap) : List (Addr × Obj) := fp.filterMap fun b => (h.get? b).map fun o => (b, o)
theorem mem_pinsAt {fp : List Addr} {h : Heap} {b : Addr} {o : Obj} (hb : b ∈ fp) (e : h.get? b = some o) : (b, o) ∈ pinsAt fp h := List.mem_filterMap.mpr ⟨b, hb, by rw [e]; rfl⟩
theorem of_pinsAt {fp : List Addr} {h : Heap} {p : Addr × Obj} (hp : p ∈ pinsAt fp h) : p.1 ∈ fp ∧ h.get? p.1 = some p.2 := by
  obtain ⟨b, hb, e⟩ := List.mem_filterMap.mp hp
  cases q : h.get? b with
  | none => rw [q] at e; cases e
  | some o =>
    rw [q] at e
    have e' : (b, o) = p := Option.some.inj e
    subst e'
    exact ⟨hb, q⟩
theorem Inv.pinned {pins : List (Addr × Obj)} {σ : St} {H : Hp} {s : Shared} {fp : List Addr} (I : Inv X pins σ H s) (hf : ∀ b ∈ fp, FpOk X pins H b) (ho : ∀ b ∈ fp, ∃ o, s.heap.get? b = some o ∧ ∀ v, o.data ≠ .cell v) : Inv X (pins ++ pinsAt fp s.heap) σ H s :=
  I.pins_of fun p hp => (List.mem_append.mp hp).elim (fun z => I.pin p (List.mem_append_right _ z)) fun z => by
    obtain ⟨hb, e⟩ := of_pinsAt z
    obtain ⟨f0, f1, f2, _⟩ := hf p.1 hb
    obtain ⟨o, e', d⟩ := ho p.1 hb
    rw [e] at e'; cases e'
    exact ⟨e, f0, f1, f2, d⟩
theorem Inv.unpinned {pins pl : List (Addr × Obj)} {σ : St} {H : Hp} {s : Shared} (I : Inv X (pins ++ pl) σ H s) : Inv X pins σ H s := I.pins_of fun p hp => I.pin p (List.mem_append_right _ (List.mem_append_left _ hp))
theorem ps_for {iter : Expr} {body : List Stmt} {wi : TI} {g : TG} {tb : TS} {pos : Pos} (hp : PassesOwn (model X.prog X.w) X.A X.env X.xe) (hi : PI X tg iter wi) (hg : PG X tg g) (hb : PSs X body tb)
    (hs : ∀ x, foldedSetIterable iter X.env x = pure x := by intro _; rfl) : PS X (.For tg iter body [] pos) (tFor wi g tb) := by
  intro pins s σ H D I h
  refine wpAny_For (thn (hi pins s σ H _ I h) fun v s1 h1 => thn h1 fun itv s2 h2 => ?_) hs
  obtain ⟨it, fp, tn, J, H2, e, I2, T, st2, f2, W, ⟨m0, w0⟩, turn⟩ := h2
  subst e
  obtain ⟨nm, T, hc⟩ := T
  have stat : ∀ {H' : Hp}, (∀ b ∈ fp, H' b = none) → ∀ b ∈ fp, FpOk X pins H' b := fun hn b hb => ⟨hn b hb, (f2 b hb).2⟩
  refine codeAny_forLoop_any (fun n s' => ∃ i σ' H', Inv X pins σ' H' s' ∧ tn i s'.heap ∧ (∀ b ∈ fp, H' b = none) ∧ W i n σ' H') ?_ m0 ⟨0, σ, H2, I2, st2, fun b hb => (f2 b hb).1, w0⟩
  rintro n s3 ⟨i, σ3, H3, I3, st3, fr3, w3⟩
  rcases turn i n σ3 H3 w3 with ⟨stop, qn⟩ | ⟨go, N, hN, step⟩
  · refine wpAny_passesOwn hp (thn (T.done X rfl rfl rfl hc i pins s3 σ3 H3 X.xe I3 (stat fr3) st3 stop) fun r s4 ⟨hr, I4⟩ => ?_)
    subst hr
    exact wpAny_execs_nil ⟨σ3, H3, I4, qn⟩
  · refine wpAny_passesOwn hp (thn (T.item X rfl rfl rfl hc i pins s3 σ3 H3 X.xe I3 (stat fr3) st3 go) fun r s4 ⟨u, hr, h4⟩ => ?_)
    subst hr
    refine wpAny_passesOwn hp (thn h4 fun _ s5 ⟨x, H5, I5, r5, y5, st5, fr5⟩ => ?_)
    have I5' := I5.pinned (stat fr5) (T.obj _ _ st5)
    refine wpAny_passesOwn hp (thn (hg _ s5 σ3 H5 x u _ I5' r5 (step x H5 y5)) fun _ s6 ⟨σ6, H6, I6, q6⟩ => ?_)
    refine wpAny_passesOwn hp (thn (hb _ s6 σ6 H6 _ I6 q6) fun f s7 q7 => ?_)
    have again : ∀ {σ7 : St} {H7 : Hp}, Inv X (pins ++ pinsAt fp s5.heap) σ7 H7 s7 → N σ7 H7 → ∃ m, m < n ∧ ∃ i σ' H', Inv X pins σ' H' s7 ∧ tn i s7.heap ∧ (∀ b ∈ fp, H' b = none) ∧ W i m σ' H' := fun {σ7 H7} I7 n7 => by
      obtain ⟨m', hm, w7⟩ := hN σ7 H7 n7
      refine ⟨m', hm, i + 1, σ7, H7, I7.unpinned, T.keep _ _ _ st5 fun b hb o e => (I7.pin (b, o) (List.mem_append_right _ (List.mem_append_right _ (mem_pinsAt hb e)))).1, fun b hb => ?_, w7⟩
      obtain ⟨o, e, d⟩ := T.obj _ _ st5 b hb
      exact (I7.pin (b, o) (List.mem_append_right _ (List.mem_append_right _ (mem_pinsAt hb e)))).2.1
    cases f with
    | next => obtain ⟨σ7, H7, I7, n7⟩ := q7; exact again I7 n7
    | cont => obtain ⟨σ7, H7, I7, n7⟩ := q7; exact again I7 n7
    | brk => obtain ⟨σ7, H7, I7, q7⟩ := q7; exact ⟨σ7, H7, I7.unpinned, q7⟩
    | ret v => obtain ⟨x7, σ7, H7, I7, r7, q7⟩ := q7; exact ⟨x7, σ7, H7, I7.unpinned, r7, q7⟩
end
theorem for_list {K : PySem.W.Frag} {a : Addr} {xs : List V} {g : TG} {tb : TS} {D : Ends} {σ : St} {H : Hp} (Pv : Nat → St → Hp → Prop) (h0 : Pv 0 σ H) (hl : ∀ i σ H, i ≤ xs.length → Pv i σ H → SqL K H a xs)
    (hs : ∀ i x σ H, xs[i]? = some x → Pv i σ H → g x σ H fun σ2 H2 => tb { D with nx := Pv (i + 1), ct := Pv (i + 1), bk := D.nx } σ2 H2) (hd : ∀ σ H, Pv xs.length σ H → D.nx σ H) :
    ∃ W : Nat → Nat → St → Hp → Prop, (∃ m, W 0 m σ H) ∧ ∀ i m σ H, W i m σ H →
      ((Itl K a).stop i H ∧ D.nx σ H) ∨ ((Itl K a).go i H ∧ ∃ N : St → Hp → Prop, (∀ σ' H', N σ' H' → ∃ m', m' < m ∧ W (i + 1) m' σ' H') ∧ ∀ x H', (Itl K a).yld i H x H' → g x σ H' fun σ2 H2 => tb { D with nx := N, ct := N, bk := D.nx } σ2 H2) := by
  refine ⟨fun i m σ H => m = xs.length - i ∧ i ≤ xs.length ∧ Pv i σ H, ⟨xs.length, by simp, Nat.zero_le _, h0⟩, ?_⟩
  rintro i m σ H ⟨rfl, hi, p⟩
  have q := hl i σ H hi p
  by_cases hlt : i < xs.length
  · refine .inr ⟨⟨xs, xs[i], q, by simp [hlt]⟩, Pv (i + 1), fun σ' H' p' => ⟨xs.length - (i + 1), by omega, rfl, hlt, p'⟩, fun x H' y => ?_⟩
    obtain ⟨e, y⟩ := y
    subst e
    exact hs i x σ _ (y xs q) p
  · have e : i = xs.length := by omega
    subst e
    exact .inl ⟨⟨xs, q, Nat.le_refl _⟩, hd σ H p⟩
theorem for_range {lo : Int} {n : Nat} {g : TG} {tb : TS} {D : Ends} {σ : St} {H : Hp} (Pv : Nat → St → Hp → Prop) (h0 : Pv 0 σ H)
    (hs : ∀ i σ H, i < n → Pv i σ H → g (.int (lo + i)) σ H fun σ2 H2 => tb { D with nx := Pv (i + 1), ct := Pv (i + 1), bk := D.nx } σ2 H2) (hd : ∀ σ H, Pv n σ H → D.nx σ H) :
    ∃ W : Nat → Nat → St → Hp → Prop, (∃ m, W 0 m σ H) ∧ ∀ i m σ H, W i m σ H →
      ((Itr lo n).stop i H ∧ D.nx σ H) ∨ ((Itr lo n).go i H ∧ ∃ N : St → Hp → Prop, (∀ σ' H', N σ' H' → ∃ m', m' < m ∧ W (i + 1) m' σ' H') ∧ ∀ x H', (Itr lo n).yld i H x H' → g x σ H' fun σ2 H2 => tb { D with nx := N, ct := N, bk := D.nx } σ2 H2) := by
  refine ⟨fun i m σ H => m = n - i ∧ i ≤ n ∧ Pv i σ H, ⟨n, by simp, Nat.zero_le _, h0⟩, ?_⟩
  rintro i m σ H ⟨rfl, hi, p⟩
  by_cases hlt : i < n
  · refine .inr ⟨hlt, Pv (i + 1), fun σ' H' p' => ⟨n - (i + 1), by omega, rfl, hlt, p'⟩, fun x H' y => ?_⟩
    obtain ⟨e, y⟩ := y
    subst e y
    exact hs i σ _ hlt p
  · have e : i = n := by omega
    subst e
    exact .inl ⟨Nat.le_refl _, hd σ H p⟩
end L2
namespace L2
open PySem PySem.Spec PyProof.Rows
abbrev R2 := V → V → Hp → VK → Prop
def OpR (X : Cx) (f : Value → Value → Sem Value) (r : R2) : Prop :=
  ∀ (pins : List (Addr × Obj)) (s : Shared) (σ : St) (H : Hp) (x y : V) (v u : Value) (Q : VK), Inv X pins σ H s → RelV x v → RelV y u → r x y H Q →
    wpAny (model X.prog X.w) X.A (f v u) (EP X pins σ Q) X.xe s
def UnR (X : Cx) (f : Value → Sem Value) (r : V → Hp → VK → Prop) : Prop :=
  ∀ (pins : List (Addr × Obj)) (s : Shared) (σ : St) (H : Hp) (x : V) (v : Value) (Q : VK), Inv X pins σ H s → RelV x v → r x H Q →
    wpAny (model X.prog X.w) X.A (f v) (EP X pins σ Q) X.xe s
def CallR (X : Cx) (f : Value) (r : List V → Hp → VK → Prop) : Prop :=
  ∀ (pins : List (Addr × Obj)) (s : Shared) (σ : St) (H : Hp) (xs : List V) (us : List Value) (Q : VK), Inv X pins σ H s → Vals xs us → r xs H Q →
    wpAny (model X.prog X.w) X.A (call f us) (EP X pins σ Q) X.xe s
def tOp (r : R2) (ta tb : TE) : TE := fun σ H Q => ta σ H fun x H1 => tb σ H1 fun y H2 => r x y H2 Q
def tUn (r : V → Hp → VK → Prop) (ta : TE) : TE := fun σ H Q => ta σ H fun x H1 => r x H1 Q
def rI (C : Int → Int → Prop) (g : Int → Int → V) : R2 := fun x y H Q => ∃ i j, x = .int i ∧ y = .int j ∧ C i j ∧ Q (g i j) H
def rI0 (g : Int → Int → V) : R2 := fun x y H Q => ∃ i j, x = .int i ∧ y = .int j ∧ Q (g i j) H
def rU (g : Int → V) : V → Hp → VK → Prop := fun x H Q => ∃ i, x = .int i ∧ Q (g i) H
section
variable {X : Cx} {a b c : Expr} {ta tb tc : TE} {pos : Pos}
theorem binT (ha : PE X a ta) (hb : PE X b tb) {pins : List (Addr × Obj)} {s : Shared} {σ : St} {H : Hp} {R : V → V → Hp → Prop} (I : Inv X pins σ H s)
    (h : ta σ H fun x H1 => tb σ H1 fun y H2 => R x y H2) {Q : Value → Shared → Prop} {f : Value → Value → Sem Value}
    (hf : ∀ v u s2 x y H2, Inv X pins σ H2 s2 → RelV x v → RelV y u → R x y H2 → wpAny (model X.prog X.w) X.A (f v u) Q X.xe s2) :
    wpAny (model X.prog X.w) X.A (eval a X.env) (fun v s₁ => wpAny (model X.prog X.w) X.A (eval b X.env) (fun u s₂ => wpAny (model X.prog X.w) X.A (f v u) Q X.xe s₂) X.xe s₁) X.xe s := by
  refine thn (ha pins s σ H _ I h) fun v s1 ⟨x, H1, I1, r1, q1⟩ => ?_
  refine thn (hb pins s1 σ H1 _ I1 q1) fun u s2 ⟨y, H2, I2, r2, q2⟩ => ?_
  exact hf v u s2 x y H2 I2 r1 r2 q2
theorem pe_op {op : Operator} {r : R2} (ho : OpR X (binaryOp op) r) (ha : PE X a ta) (hb : PE X b tb) : PE X (.BinOp a op b pos) (tOp r ta tb) := by
  intro pins s σ H Q I h
  exact wpAny_BinOp (binT ha hb I h fun v u s2 x y H2 I2 rx ry q => ho pins s2 σ H2 x y v u Q I2 rx ry q)
theorem pe_un {op : UnaryOp} {r : V → Hp → VK → Prop} (ho : UnR X (unaryOp op) r) (ha : PE X a ta) : PE X (.UnaryOp op a pos) (tUn r ta) := by
  intro pins s σ H Q I h
  exact UnaryOp_ (thn (ha pins s σ H _ I h) fun v s1 ⟨x, H1, I1, r1, q1⟩ => ho pins s1 σ H1 x v Q I1 r1 q1)
theorem opI {f : Value → Value → Sem Value} {C : Int → Int → Prop} {g : Int → Int → Int}
    (rule : ∀ (i j : Int) (t u : Tok) (s : Shared) (Q : Value → Shared → Prop) (E : Value → Shared → Prop), C i j → Q (.int (g i j) s.toks) { s with toks := s.toks + 1 } → wpAny (model X.prog X.w) X.A (f (.int i t) (.int j u)) Q E s) :
    OpR X f (rI C fun i j => .int (g i j)) := by
  intro pins s σ H x y v u Q I rx ry h
  obtain ⟨i, j, rfl, rfl, hc, q⟩ := h
  obtain ⟨t, rfl⟩ := rx
  obtain ⟨t', rfl⟩ := ry
  exact rule i j t t' s _ _ hc ⟨.int (g i j), H, I.tok _, ⟨_, rfl⟩, q⟩
theorem opI0 {f : Value → Value → Sem Value} {g : Int → Int → Int}
    (rule : ∀ (i j : Int) (t u : Tok) (s : Shared) (Q : Value → Shared → Prop) (E : Value → Shared → Prop), Q (.int (g i j) s.toks) { s with toks := s.toks + 1 } → wpAny (model X.prog X.w) X.A (f (.int i t) (.int j u)) Q E s) :
    OpR X f (rI0 fun i j => .int (g i j)) := by
  intro pins s σ H x y v u Q I rx ry h
  obtain ⟨i, j, rfl, rfl, q⟩ := h
  obtain ⟨t, rfl⟩ := rx
  obtain ⟨t', rfl⟩ := ry
  exact rule i j t t' s _ _ ⟨.int (g i j), H, I.tok _, ⟨_, rfl⟩, q⟩
theorem opB0 {f : Value → Value → Sem Value} {g : Int → Int → Bool}
    (rule : ∀ (i j : Int) (t u : Tok) (s : Shared) (Q : Value → Shared → Prop) (E : Value → Shared → Prop), Q (.bool (g i j)) s → wpAny (model X.prog X.w) X.A (f (.int i t) (.int j u)) Q E s) :
    OpR X f (rI0 fun i j => .bl (g i j)) := by
  intro pins s σ H x y v u Q I rx ry h
  obtain ⟨i, j, rfl, rfl, q⟩ := h
  obtain ⟨t, rfl⟩ := rx
  obtain ⟨t', rfl⟩ := ry
  exact rule i j t t' s _ _ ⟨.bl (g i j), H, I, rfl, q⟩
def CDiv (i j : Int) : Prop := 0 < j ∧ j < 1073741824
def CPow (i j : Int) : Prop := 0 ≤ j ∧ j ≤ 1000000 ∧ i.natAbs < 2 ^ 64
def CMul (i j : Int) : Prop := (-(2 ^ 64) < i ∧ i < 2 ^ 64) ∨ (-(2 ^ 64) < j ∧ j < 2 ^ 64)
theorem CMul.ok {i j : Int} (h : CMul i j) : IntMulOk i j := by
  rcases h with ⟨h1, h2⟩ | ⟨h1, h2⟩
  · exact .of_left (intBits_le_64 h1 h2)
  · exact .of_right (intBits_le_64 h1 h2)
theorem two_pow_nn (k : Nat) : (0 : Int) ≤ 2 ^ k := by
  rw [two_pow_cast]
  exact Int.natCast_nonneg _
theorem op_add : OpR X (binaryOp .Add) (rI0 fun i j => .int (i + j)) := opI0 fun _ _ _ _ _ _ _ q => add_int q
theorem op_sub : OpR X (binaryOp .Sub) (rI0 fun i j => .int (i - j)) := opI0 fun _ _ _ _ _ _ _ q => sub_int q
theorem op_mul : OpR X (binaryOp .Mult) (rI CMul fun i j => .int (i * j)) := opI fun _ _ _ _ _ _ _ hc q => mul_int q hc.ok
theorem op_fdiv : OpR X (binaryOp .FloorDiv) (rI CDiv fun i j => .int (i / j)) := opI fun i j _ _ _ _ _ hc q => by
  have h1 : (0 : Int) < j := hc.1
  have h2 : j < 1073741824 := hc.2
  exact floordiv_int (by omega) (by rw [Int.fdiv_eq_ediv_of_nonneg i (by omega)]; exact q) (.inl (PyProof.noPylong_small (by omega)))
theorem op_mod : OpR X (binaryOp .Mod) (rI (fun _ j => 0 < j) fun i j => .int (i % j)) := opI fun i j _ _ _ _ _ hc q => by
  have h1 : (0 : Int) < j := hc
  exact mod_int' (by omega) (by rw [Int.fmod_eq_emod_of_nonneg i (by omega)]; exact q)
theorem op_pow : OpR X (binaryOp .Pow) (rI CPow fun i j => .int (i ^ j.toNat)) := opI fun _ _ _ _ _ _ _ hc q => pow_int_small hc.1 hc.2.1 hc.2.2 q
theorem op_shr : OpR X (binaryOp .RShift) (rI (fun _ j => 0 ≤ j) fun i j => .int (i / 2 ^ j.toNat)) := opI fun i j _ _ _ _ _ hc q =>
  rshift_int hc (by rw [Int.fdiv_eq_ediv_of_nonneg i (two_pow_nn _)]; exact q)
theorem op_and : OpR X (binaryOp .BitAnd) (rI0 fun i j => .int (Builtin.bitAnd i j)) := opI0 fun _ _ _ _ _ _ _ q => and_int q
theorem unI {f : Value → Sem Value} {g : Int → Int}
    (rule : ∀ (i : Int) (t : Tok) (s : Shared) (Q : Value → Shared → Prop) (E : Value → Shared → Prop), Q (.int (g i) s.toks) { s with toks := s.toks + 1 } → wpAny (model X.prog X.w) X.A (f (.int i t)) Q E s) :
    UnR X f (rU fun i => .int (g i)) := by
  intro pins s σ H x v Q I rx h
  obtain ⟨i, rfl, q⟩ := h
  obtain ⟨t, rfl⟩ := rx
  exact rule i t s _ _ ⟨.int (g i), H, I.tok _, ⟨_, rfl⟩, q⟩
theorem un_neg : UnR X (unaryOp .USub) (rU fun i => .int (-i)) := unI fun _ _ _ _ _ q => neg_int q
end
def scal : V → V → Bool
  | .non, .non => true | .non, .int _ => true | .int _, .non => true | .non, .bl _ => true | .bl _, .non => true | .non, .str _ => true | .str _, .non => true
  | .int _, .int _ => true | .bl _, .bl _ => true | .str _, .str _ => true | .byt _, .byt _ => true
  | .int _, .str _ => true | .str _, .int _ => true | .bl _, .str _ => true | .str _, .bl _ => true
  | _, _ => false
def rEq : R2 := fun x y H Q => scal x y = true ∧ Q (.bl (decide (x = y))) H
def rNe : R2 := fun x y H Q => scal x y = true ∧ Q (.bl (!decide (x = y))) H
theorem dec_int {i j : Int} : decide (V.int i = V.int j) = (i == j) := by
  rw [Bool.eq_iff_iff]
  simp
theorem dec_bl {i j : Bool} : decide (V.bl i = V.bl j) = (i == j) := by
  rw [Bool.eq_iff_iff]
  simp
theorem dec_str {i j : Str} : decide (V.str i = V.str j) = (i == j) := by
  rw [Bool.eq_iff_iff]
  simp
theorem dec_byt {i j : Array UInt8} : decide (V.byt i = V.byt j) = (i.toList == j.toList) := by
  rw [Bool.eq_iff_iff]
  cases i
  cases j
  simp
section
variable {X : Cx} {a b c : Expr} {ta tb tc : TE} {pos : Pos}
theorem fin_bl {pins : List (Addr × Obj)} {σ : St} {H : Hp} {s : Shared} {Q : VK} {k k' : Bool} (I : Inv X pins σ H s) (q : Q (.bl k) H) (e : k = k') : EP X pins σ Q (.bool k') s := by
  subst e
  exact ⟨.bl k, H, I, rfl, q⟩
theorem op_eq : OpR X (compareOp .Eq) rEq := by
  intro pins s σ H x y v u Q I rx ry h
  obtain ⟨hs, q⟩ := h
  cases x with
  | non =>
    cases rx
    cases y with
    | non => cases ry; exact PySem.EqNone.eq_none_none (fin_bl I q (by simp))
    | bl j => cases ry; exact PySem.EqNone.eq_none_bool (fin_bl I q (by simp))
    | int j => obtain ⟨t', rfl⟩ := ry; exact PySem.EqNone.eq_none_int (fin_bl I q (by simp))
    | str j => obtain ⟨t', rfl⟩ := ry; exact PySem.EqNone.eq_none_str (fin_bl I q (by simp))
    | _ => exact absurd (show false = true from hs) Bool.false_ne_true
  | bl i =>
    cases rx
    cases y with
    | non => cases ry; exact PySem.EqNone.eq_bool_none (fin_bl I q (by simp))
    | bl j => cases ry; exact eq_bool (fin_bl I q dec_bl)
    | str j => obtain ⟨t', rfl⟩ := ry; exact PySem.EqMixed.eq_bool_str (fin_bl I q (by simp))
    | _ => exact absurd (show false = true from hs) Bool.false_ne_true
  | int i =>
    obtain ⟨t, rfl⟩ := rx
    cases y with
    | non => cases ry; exact PySem.EqNone.eq_int_none (fin_bl I q (by simp))
    | int j => obtain ⟨t', rfl⟩ := ry; exact eq_int (fin_bl I q dec_int)
    | str j => obtain ⟨t', rfl⟩ := ry; exact PySem.EqMixed.eq_int_str (fin_bl I q (by simp))
    | _ => exact absurd (show false = true from hs) Bool.false_ne_true
  | str i =>
    obtain ⟨t, rfl⟩ := rx
    cases y with
    | non => cases ry; exact PySem.EqNone.eq_str_none (fin_bl I q (by simp))
    | bl j => cases ry; exact PySem.EqMixed.eq_str_bool (fin_bl I q (by simp))
    | int j => obtain ⟨t', rfl⟩ := ry; exact PySem.EqMixed.eq_str_int (fin_bl I q (by simp))
    | str j => obtain ⟨t', rfl⟩ := ry; exact eq_str (fin_bl I q dec_str)
    | _ => exact absurd (show false = true from hs) Bool.false_ne_true
  | byt i =>
    obtain ⟨t, rfl⟩ := rx
    cases y with
    | byt j => obtain ⟨t', rfl⟩ := ry; exact PySem.W.eq_bytes (fin_bl I q dec_byt)
    | _ => exact absurd (show false = true from hs) Bool.false_ne_true
  | _ => cases y <;> exact absurd (show false = true from hs) Bool.false_ne_true
theorem op_ne : OpR X (compareOp .NotEq) rNe := by
  intro pins s σ H x y v u Q I rx ry h
  obtain ⟨hs, q⟩ := h
  cases x with
  | non =>
    cases rx
    cases y with
    | non => cases ry; exact PySem.EqNone.ne_none_none (fin_bl I q (by simp))
    | bl j => cases ry; exact PySem.EqNone.ne_none_bool (fin_bl I q (by simp))
    | int j => obtain ⟨t', rfl⟩ := ry; exact PySem.EqNone.ne_none_int (fin_bl I q (by simp))
    | str j => obtain ⟨t', rfl⟩ := ry; exact PySem.EqNone.ne_none_str (fin_bl I q (by simp))
    | _ => exact absurd (show false = true from hs) Bool.false_ne_true
  | bl i =>
    cases rx
    cases y with
    | non => cases ry; exact PySem.EqNone.ne_bool_none (fin_bl I q (by simp))
    | bl j => cases ry; exact ne_bool (fin_bl I q (congrArg not dec_bl))
    | str j => obtain ⟨t', rfl⟩ := ry; exact PySem.EqMixed.ne_bool_str (fin_bl I q (by simp))
    | _ => exact absurd (show false = true from hs) Bool.false_ne_true
  | int i =>
    obtain ⟨t, rfl⟩ := rx
    cases y with
    | non => cases ry; exact PySem.EqNone.ne_int_none (fin_bl I q (by simp))
    | int j => obtain ⟨t', rfl⟩ := ry; exact ne_int (fin_bl I q (congrArg not dec_int))
    | str j => obtain ⟨t', rfl⟩ := ry; exact PySem.EqMixed.ne_int_str (fin_bl I q (by simp))
    | _ => exact absurd (show false = true from hs) Bool.false_ne_true
  | str i =>
    obtain ⟨t, rfl⟩ := rx
    cases y with
    | non => cases ry; exact PySem.EqNone.ne_str_none (fin_bl I q (by simp))
    | bl j => cases ry; exact PySem.EqMixed.ne_str_bool (fin_bl I q (by simp))
    | int j => obtain ⟨t', rfl⟩ := ry; exact PySem.EqMixed.ne_str_int (fin_bl I q (by simp))
    | str j => obtain ⟨t', rfl⟩ := ry; exact ne_str (fin_bl I q (congrArg not dec_str))
    | _ => exact absurd (show false = true from hs) Bool.false_ne_true
  | byt i =>
    obtain ⟨t, rfl⟩ := rx
    cases y with
    | byt j => obtain ⟨t', rfl⟩ := ry; exact PySem.W.ne_bytes (fin_bl I q (congrArg not dec_byt))
    | _ => exact absurd (show false = true from hs) Bool.false_ne_true
  | _ => cases y <;> exact absurd (show false = true from hs) Bool.false_ne_true
theorem op_lt : OpR X (compareOp .Lt) (rI0 fun i j => .bl (decide (i < j))) := opB0 fun _ _ _ _ _ _ _ q => lt_int q
theorem op_le : OpR X (compareOp .LtE) (rI0 fun i j => .bl (decide (i ≤ j))) := opB0 fun _ _ _ _ _ _ _ q => le_int q
theorem op_in_str : OpR X (compareOp .In) (fun x y H Q => ∃ i j, x = .str i ∧ y = .str j ∧ Q (.bl (!(Builtin.Str.occurrences j i 0 j.length 1).isEmpty)) H) := by
  intro pins s σ H x y v u Q I rx ry h
  obtain ⟨i, j, rfl, rfl, q⟩ := h
  obtain ⟨t, rfl⟩ := rx
  obtain ⟨t', rfl⟩ := ry
  exact in_str (fin_bl I q rfl)
theorem nomark (b : Expr) {op : CmpOp} (h : op ≠ .In := by decide) (h2 : op ≠ .NotIn := by decide) : behindInMarks op b = false := by
  have e1 : (op == CmpOp.In) = false := by cases op <;> first | rfl | exact absurd rfl h
  have e2 : (op == CmpOp.NotIn) = false := by cases op <;> first | rfl | exact absurd rfl h2
  cases b <;> simp [behindInMarks, e1, e2]
theorem pe_cmpR {op : CmpOp} {r : R2} (ho : OpR X (compareOp op) r) (ha : PE X a ta) (hb : PE X b tb) (hm : behindInMarks op b = false) : PE X (.Compare a [op] [b] pos) (tOp r ta tb) := by
  intro pins s σ H Q I h
  exact wpAny_Compare1 (binT ha hb I h fun v u s2 x y H2 I2 rx ry q => ho pins s2 σ H2 x y v u Q I2 rx ry q) hm
def tTest (t : TE) : TT := fun σ H Q => t σ H fun x H' => ∃ k, x = .bl k ∧ Q k H'
theorem pt_cmpR {op : CmpOp} {r : R2} (ho : OpR X (compareOp op) r) (ha : PE X a ta) (hb : PE X b tb) (hm : behindInMarks op b = false) : PT X (.Compare a [op] [b] pos) (tTest (tOp r ta tb)) := by
  intro pins s σ H Q I h
  refine wpAny_isTrue_Compare1 (thn (ha pins s σ H _ I h) fun v s1 ⟨x, H1, I1, r1, q1⟩ => thn (hb pins s1 σ H1 _ I1 q1) fun u s2 ⟨y, H2, I2, r2, q2⟩ =>
    thn (ho pins s2 σ H2 x y v u _ I2 r1 r2 q2) fun c s3 ⟨z, H3, I3, r3, k, e, q3⟩ => ?_) hm
  subst e
  cases r3
  exact wpAny_truthy_bool ⟨H3, I3, q3⟩
def tChain (r r' : R2) (ta tb tc : TE) : TE := fun σ H Q => ta σ H fun x H1 => tb σ H1 fun y H2 => r x y H2 fun z H3 => ∃ k, z = .bl k ∧
  (if k = true then tc σ H3 fun w' H4 => r' y w' H4 Q else Q (.bl false) H3)
theorem pe_chain {op op' : CmpOp} {r r' : R2} (ho : OpR X (compareOp op) r) (ho' : OpR X (compareOp op') r') (ha : PE X a ta) (hb : PE X b tb) (hc : PE X c tc)
    (hm : lastMarks [op, op'] [b, c] = false := by with_unfolding_all rfl) : PE X (.Compare a [op, op'] [b, c] pos) (tChain r r' ta tb tc) := by
  intro pins s σ H Q I h
  refine Compare_chain (thn (ha pins s σ H _ I h) fun v s1 ⟨x, H1, I1, r1, q1⟩ => chain_link (thn (hb pins s1 σ H1 _ I1 q1) fun u s2 ⟨y, H2, I2, r2, q2⟩ =>
    thn (ho pins s2 σ H2 x y v u _ I2 r1 r2 q2) fun d s3 ⟨z, H3, I3, r3, k, e, q3⟩ => ?_)) hm
  subst e
  cases r3
  refine wpAny_truthy_bool ?_
  cases k with
  | false => exact ite_ff ⟨.bl false, H3, I3, rfl, q3⟩
  | true => exact ite_tt (chain_last (thn (hc pins s3 σ H3 _ I3 q3) fun w' s4 ⟨z', H4, I4, r4, q4⟩ => ho' pins s4 σ H4 y z' u w' Q I4 r2 r4 q4))
theorem pt_chain {op op' : CmpOp} {r r' : R2} (ho : OpR X (compareOp op) r) (ho' : OpR X (compareOp op') r') (ha : PE X a ta) (hb : PE X b tb) (hc : PE X c tc)
    (hm : lastMarks [op, op'] [b, c] = false := by with_unfolding_all rfl) : PT X (.Compare a [op, op'] [b, c] pos) (tTest (tChain r r' ta tb tc)) := by
  intro pins s σ H Q I h
  refine isTrue_chain (thn (ha pins s σ H _ I h) fun v s1 ⟨x, H1, I1, r1, q1⟩ => test_link (thn (hb pins s1 σ H1 _ I1 q1) fun u s2 ⟨y, H2, I2, r2, q2⟩ =>
    thn (ho pins s2 σ H2 x y v u _ I2 r1 r2 q2) fun d s3 ⟨z, H3, I3, r3, k, e, q3⟩ => ?_)) hm
  subst e
  cases r3
  refine wpAny_truthy_bool ?_
  cases k with
  | false =>
    obtain ⟨k', e', q'⟩ := q3
    cases e'
    exact ite_ff ⟨H3, I3, q'⟩
  | true =>
    refine ite_tt (test_last (thn (hc pins s3 σ H3 _ I3 q3) fun w' s4 ⟨z', H4, I4, r4, q4⟩ => thn (ho' pins s4 σ H4 y z' u w' _ I4 r2 r4 q4) fun d' s5 ⟨z2, H5, I5, r5, k2, e2, q5⟩ => ?_))
    subst e2
    cases r5
    exact wpAny_truthy_bool ⟨H5, I5, q5⟩
theorem line63 : (sizeLine : Nat) < 2 ^ 63 := by rw [sizeLine_eq]; decide
theorem op_add_str : OpR X (binaryOp .Add) (fun x y H Q => ∃ i j, x = .str i ∧ y = .str j ∧ i.length + j.length ≤ sizeLine ∧ Q (.str (i ++ j)) H) := by
  intro pins s σ H x y v u Q I rx ry h
  obtain ⟨i, j, rfl, rfl, hz, q⟩ := h
  obtain ⟨t, rfl⟩ := rx
  obtain ⟨t', rfl⟩ := ry
  exact add_str (fun t' tk => ⟨.str (i ++ j), H, I.tok _, ⟨_, rfl⟩, q⟩) hz
theorem vals1 {x : V} {us : List Value} (r : Vals [x] us) : ∃ u, us = [u] ∧ RelV x u := by
  cases r with
  | cons r1 r2 => cases r2; exact ⟨_, rfl, r1⟩
theorem vals2 {x y : V} {us : List Value} (r : Vals [x, y] us) : ∃ u w', us = [u, w'] ∧ RelV x u ∧ RelV y w' := by
  cases r with
  | cons r1 r2 =>
    cases r2 with
    | cons r3 r4 => cases r4; exact ⟨_, _, rfl, r1, r3⟩
theorem call_str_int : CallR X (.type "str") (fun xs H Q => ∃ i, xs = [.int i] ∧ i.natAbs.log2 < 1920 ∧ Q (.str (toString i)) H) := by
  intro pins s σ H xs us Q I r h
  obtain ⟨i, rfl, hz, q⟩ := h
  obtain ⟨u, rfl, t, rfl⟩ := vals1 r
  exact PySem.P.str_of_int hz ⟨.str _, H, I.tok _, ⟨_, rfl⟩, q⟩
end
end L2
namespace L2
open PySem PySem.Spec PyProof.Rows
structure ObjM (h : Heap) (x dx C : Addr) (mA : Str → Option Value) : Prop where
  obj : h.get? x = some (PySem.W.instObj C dx)
  ns : h.Ns1 dx mA
  ne : dx ≠ x
theorem lookIn_ns {h : Heap} {dx : Addr} {mA : Str → Option Value} (n : h.Ns1 dx mA) : ∃ od, h.get? dx = some od ∧ ∀ name, PySem.W.lookIn name od = some (mA name) := by
  obtain ⟨o, es, ep, ho, hd, hk, _, hm⟩ := n
  refine ⟨o, ho, fun name => ?_⟩
  have e := hm name
  unfold nsFind findBy at e
  rw [← Array.find?_toList] at e
  unfold PySem.W.lookIn
  rw [hd]
  dsimp only
  split
  · rename_i y q
    rw [q] at e
    exact congrArg some e
  · rename_i q
    rw [q] at e
    have a : es.toList.any (·.refKey) = false := by
      rw [List.any_eq_false]
      intro y hy
      obtain ⟨z, t, hkey⟩ := hk y (Array.mem_toList_iff.mp hy)
      simp [DictEntry.refKey, hkey]
    have a' : ¬ es.toList.any (·.refKey) = true := by rw [a]; exact Bool.false_ne_true
    rw [if_neg a']
    exact congrArg some e
theorem ObjM.look {h : Heap} {x dx C : Addr} {mA : Str → Option Value} (I : ObjM h x dx C mA) : ∃ od, PySem.W.InstAt h x (PySem.W.instObj C dx) C (some od) ∧ ∀ name, PySem.W.lookIn name od = some (mA name) :=
  let ⟨od, ho, hl⟩ := lookIn_ns I.ns
  ⟨od, ⟨I.obj, rfl, rfl, ho⟩, hl⟩
section
variable {prog : Program} {w : World} {A : Around} {E : Value → Shared → Prop} {s : Shared} {K : PySem.W.Frag} {x dx C f : Addr} {mA : Str → Option Value} {name : Str} {v : Value}
theorem get_map {expr : Bool} {Q : Value → Shared → Prop} (X : K.In s.heap) (I : ObjM s.heap x dx C mA) (hg : PySem.W.plainGet K C name = true) (hh : PySem.W.hasDictIn K C = true)
    (ha : PySem.W.findIn K (.ref C) name = some none) (hv : mA name = some v) (hv' : PySem.W.handedIn v = true) (h : Q v { s with toks := s.toks + 1 }) :
    wpAny (model prog w) A (getAttr (.ref x) name expr) Q E s := by
  obtain ⟨od, J, hl⟩ := I.look
  exact PySem.W.get_value X J (PySem.W.plainGet_of hg).1 (PySem.W.findObj_own hh ha rfl (by rw [hl, hv])) hv' h
theorem get_meth {pl : Sem Bool} {Q : Value × List Value → Shared → Prop} (X : K.In s.heap) (I : ObjM s.heap x dx C mA) (hg : PySem.W.plainGet K C name = true)
    (hf : PySem.W.findIn K (.ref C) name = some (some (.ref f))) (ht : PySem.W.isFn K (.ref f) = true) (hv : mA name = none) (h : Q (.ref f, [.ref x]) s) :
    wpAny (model prog w) A (getMethod (.ref x) name pl) Q E s := by
  obtain ⟨od, J, hl⟩ := I.look
  exact PySem.W.method_fn X J (PySem.W.plainGet_of hg).1 (PySem.W.plainGet_of hg).2 hf (beq_iff_eq.mp ht) (by show (PySem.W.lookIn name od).map (·.isSome) = some false; rw [hl, hv]; rfl) h
theorem set_map {ns : List Str} {Q : Unit → Shared → Prop} (X : K.In s.heap) (I : ObjM s.heap x dx C mA)
    (hs : PySem.W.findIn K (.ref C) "__setattr__" = some (some (.builtin "object.__setattr__"))) (hp : PySem.W.plainOver K C = true) (ht : PySem.W.takerIn K C name = some none) (hh : PySem.W.hasDictIn K C = true)
    (hw : PySem.Within mA ns) (hsz : ns.length ≤ sizeLine)
    (h : ∀ h', ObjM h' x dx C (fun y => if y = name then some v else mA y) → Heap.SameBut dx s.heap h' → Q () { s with heap := h', toks := s.toks + 2 }) :
    wpAny (model prog w) A (setAttr (.ref x) name v) Q E s := by
  obtain ⟨od, J, hl⟩ := I.look
  refine PySem.W.set_plain X J hs (PySem.W.osa_open (s := { s with toks := s.toks + 1 }) (r := none) X J hp ht fun b => ?_)
  obtain ⟨cd, hc, hd'⟩ := PySem.W.any_some hh
  have hx : s.heap.get? x = some ⟨.ref C, some dx, .plain, #[]⟩ := I.obj
  refine wpAny_bind (wpAny_pure (wpAny_bind (wpAny_bind (wpAny_loadPart hx (wpAny_bind (PySem.W.Looks.here (s := { s with toks := s.toks + 1 }) (PySem.W.looks_clsIn X hc) ?_))))))
  rw [hd']
  refine wpAny_pure (a := some dx) (wpAny_bind (wpAny_pure (wpAny_bind ?_)))
  refine wpAny_nsSet1 (s := { s with toks := s.toks + 1 }) I.ns fun h' hn2 hs2 => ?_
  obtain ⟨oD, esD, epD, hoD, hdD, hcD⟩ := hn2.count (PySem.Within.cons name v hw)
  refine wpAny_bind (wpAny_lookBehind hoD (by rw [hdD]; exact pastItsLine_dict (Nat.le_trans hcD (by rw [List.length_cons]; omega))) ?_)
  exact wpAny_pure (h _ ⟨(hs2.2 _ (Ne.symm I.ne)).trans I.obj, hn2, I.ne⟩ hs2)
theorem make_map {R : Result → Shared → Prop} {vs : List Value} {kw : List (Str × Value)} (X : K.In s.heap) (hm : PySem.W.makesIn K C = true)
    (hi : PySem.W.findIn K (.ref C) "__init__" = some (some (.ref f))) (hf : PySem.W.typeIn K (.ref f) = some (.type "function"))
    (h : codeAny (model prog w) (A.under (.builtin "type.__call__" ⟨.ref C :: vs, kw⟩)) (.call (.ref f) ⟨.ref (s.heap.objs.size + 1) :: vs, kw⟩) (PySem.W.InitBack (s.heap.objs.size + 1) R)
      { s with heap := (s.heap.push PySem.W.emptyDict).push (PySem.W.instObj C s.heap.objs.size) }) :
    codeAny (model prog w) A (.call (.ref C) ⟨vs, kw⟩) R s := by
  obtain ⟨hh, g, d, t, os⟩ := s
  exact PySem.W.make_core (PySem.W.makes_of X hm) (PySem.W.looks_findIn X hi) (fun self => PySem.W.bind_fn X self hf) (.inl rfl) h
end
def putF (f : Str) (v : V) : List (Str × V) → List (Str × V)
  | [] => [(f, v)]
  | (g, x) :: r => if g = f then (g, v) :: r else (g, x) :: putF f v r
theorem lookup_putF (f g : Str) (v : V) : ∀ fs : List (Str × V), (putF f v fs).lookup g = if g = f then some v else fs.lookup g
  | [] => by
    show List.lookup g [(f, v)] = _
    by_cases h : g = f
    · have hb : (g == f) = true := beq_iff_eq.mpr h
      simp only [List.lookup, hb, if_pos h]
    · have hb : (g == f) = false := beq_eq_false_iff_ne.mpr h
      simp only [List.lookup, hb, if_neg h]
  | (k, x) :: r => by
    have ih := lookup_putF f g v r
    rw [show putF f v ((k, x) :: r) = (if k = f then (k, v) :: r else (k, x) :: putF f v r) from rfl]
    by_cases hk : k = f
    · rw [if_pos hk]
      by_cases h : g = k
      · have hb : (g == k) = true := beq_iff_eq.mpr h
        simp only [List.lookup, hb, if_pos (h.trans hk)]
      · have hb : (g == k) = false := beq_eq_false_iff_ne.mpr h
        simp only [List.lookup, hb, if_neg (fun e : g = f => h (e.trans hk.symm))]
    · rw [if_neg hk]
      by_cases h : g = k
      · have hb : (g == k) = true := beq_iff_eq.mpr h
        simp only [List.lookup, hb, if_neg (fun e : g = f => hk (h.symm.trans e))]
      · have hb : (g == k) = false := beq_eq_false_iff_ne.mpr h
        simp only [List.lookup, hb]
        exact ih
theorem keys_putF (f : Str) (v : V) : ∀ fs : List (Str × V), f ∈ (putF f v fs).map (·.1) ∧ ∀ g, g ∈ fs.map (·.1) → g ∈ (putF f v fs).map (·.1)
  | [] => ⟨by simp [putF], fun g h => by simp at h⟩
  | (k, x) :: r => by
    obtain ⟨i1, i2⟩ := keys_putF f v r
    rw [show putF f v ((k, x) :: r) = (if k = f then (k, v) :: r else (k, x) :: putF f v r) from rfl]
    by_cases hk : k = f
    · rw [if_pos hk]
      subst hk
      exact ⟨by simp, fun g h => by simpa using h⟩
    · rw [if_neg hk]
      refine ⟨?_, fun g h => ?_⟩
      · rw [List.map_cons]
        exact List.mem_cons_of_mem _ i1
      · rw [List.map_cons] at h ⊢
        rcases List.mem_cons.mp h with e | e
        · exact List.mem_cons.mpr (.inl e)
        · exact List.mem_cons_of_mem _ (i2 g e)
theorem length_putF (f : Str) (v : V) : ∀ fs : List (Str × V), (putF f v fs).length ≤ fs.length + 1
  | [] => by simp [putF]
  | (k, x) :: r => by
    have ih := length_putF f v r
    rw [show putF f v ((k, x) :: r) = (if k = f then (k, v) :: r else (k, x) :: putF f v r) from rfl]
    by_cases hk : k = f
    · rw [if_pos hk, List.length_cons, List.length_cons]; omega
    · rw [if_neg hk, List.length_cons, List.length_cons]; omega
theorem RelO.some_of {v : V} {o : Option Value} (r : RelO (some v) o) : ∃ u, o = some u ∧ RelV v u := by
  cases o with
  | none => exact (show False from r).elim
  | some u => exact ⟨u, rfl, r⟩
theorem RelO.none_of {o : Option Value} (r : RelO none o) : o = none := by
  cases o with
  | none => rfl
  | some u => exact (show False from r).elim
theorem handed_of {v : V} {u : Value} (r : RelV v u) : PySem.W.handedIn u = true := by
  cases v with
  | non => cases (show u = Value.none from r); rfl
  | bl b => cases (show u = Value.bool b from r); rfl
  | int i => obtain ⟨t, e⟩ := (show ∃ t, u = Value.int i t from r); cases e; rfl
  | str x => obtain ⟨t, e⟩ := (show ∃ t, u = Value.str x t from r); cases e; rfl
  | byt b => obtain ⟨t, e⟩ := (show ∃ t, u = Value.bytes b t from r); cases e; rfl
  | flt b => obtain ⟨t, e⟩ := (show ∃ t, u = Value.float b t from r); cases e; rfl
  | ref a => cases (show u = Value.ref a from r); rfl
  | ty n => cases (show u = Value.type n from r); rfl
section
variable {P : Program} {w : World} {H H' : Hp} {h h' : Heap} {a C dx : Addr} {fs fs' : List (Str × V)}
theorem ins_get (hok : HOk P w H h) (e : H a = some (.ins C dx fs)) : ∃ mA, ObjM h a dx C mA ∧ (∀ f, RelO (fs.lookup f) (mA f)) ∧ PySem.Within mA (fs.map (·.1)) ∧ fs.length ≤ 1000 ∧ H dx = some (.own a) := by
  obtain ⟨d, z, ne, ob, mA, n, r, q⟩ := (show ObjOk P w H h a (.ins C dx fs) from hok a _ e)
  exact ⟨mA, ⟨ob, n, ne⟩, r, q, z, d⟩
end
structure Cls (K : PySem.W.Frag) (C : Addr) : Prop where
  pg : PySem.W.plainGet K C Str.empty = true
  hd : PySem.W.hasDictIn K C = true
  po : PySem.W.plainOver K C = true
  sa : PySem.W.findIn K (.ref C) "__setattr__" = some (some (.builtin "object.__setattr__"))
theorem Cls.get {K : PySem.W.Frag} {C : Addr} (c : Cls K C) (f : Str) : PySem.W.plainGet K C f = true := c.pg
def NoAttr (K : PySem.W.Frag) (C : Addr) (f : Str) : Prop := PySem.W.findIn K (.ref C) f = some none
theorem NoAttr.taker {K : PySem.W.Frag} {C : Addr} {f : Str} (n : NoAttr K C f) : PySem.W.takerIn K C f = some none := by
  unfold PySem.W.takerIn
  rw [show PySem.W.findIn K (.ref C) f = some none from n]
  rfl
structure Meth (K : PySem.W.Frag) (C : Addr) (m : Str) (f : Addr) : Prop where
  at_ : PySem.W.findIn K (.ref C) m = some (some (.ref f))
  fn : PySem.W.isFn K (.ref f) = true
  kp : PySem.W.keepIn K (.ref f) = true
section
variable {X : Cx} {pins : List (Addr × Obj)} {σ : St} {H : Hp} {s : Shared} {a C dx : Addr} {fs : List (Str × V)} {f : Str} {v : V} {A : Around} {E : Value → Shared → Prop}
theorem getattr_ok {b : Bool} {Q : Value → Shared → Prop} (I : Inv X pins σ H s) (e : H a = some (.ins C dx fs)) (c : Cls X.K C) (n : NoAttr X.K C f) (l : fs.lookup f = some v)
    (h : ∀ u s', Inv X pins σ H s' → RelV v u → Q u s') : wpAny (model X.prog X.w) A (getAttr (.ref a) f b) Q E s := by
  obtain ⟨mA, O, r, _, _, _⟩ := ins_get I.hok e
  obtain ⟨u, hu, ru⟩ := RelO.some_of (v := v) (o := mA f) (by rw [← l]; exact r f)
  exact get_map I.kIn O (c.get f) c.hd n hu (handed_of ru) (h u _ (I.tok _) ru)
theorem getmeth_ok {m : Str} {g : Addr} {pl : Sem Bool} {Q : Value × List Value → Shared → Prop} (I : Inv X pins σ H s) (e : H a = some (.ins C dx fs)) (c : Cls X.K C) (k : Meth X.K C m g) (l : fs.lookup m = none)
    (h : Q (.ref g, [.ref a]) s) : wpAny (model X.prog X.w) A (getMethod (.ref a) m pl) Q E s := by
  obtain ⟨mA, O, r, _, _, _⟩ := ins_get I.hok e
  have hn : mA m = none := RelO.none_of (by rw [← l]; exact r m)
  exact get_meth I.kIn O (c.get m) k.at_ k.fn hn h
theorem setattr_ok {y : V} {u : Value} {Q : Unit → Shared → Prop} (I : Inv X pins σ H s) (e : H a = some (.ins C dx fs)) (c : Cls X.K C) (n : NoAttr X.K C f) (hl : fs.length < 1000) (ry : RelV y u)
    (h : ∀ s', Inv X pins σ (upd H a (.ins C dx (putF f y fs))) s' → Q () s') : wpAny (model X.prog X.w) A (setAttr (.ref a) f u) Q E s := by
  obtain ⟨mA, O, r, wi, _, ho⟩ := ins_get I.hok e
  have hz : (fs.map (·.1)).length ≤ sizeLine := by rw [List.length_map, sizeLine_eq]; omega
  refine set_map I.kIn O c.sa c.po n.taker c.hd wi hz fun h' O' sb => h _ ?_
  have hd : ∃ o, h'.get? dx = some o := let ⟨o, _, _, e', _⟩ := O'.ns; ⟨o, e'⟩
  refine I.write (x := a) (e := dx) (by rw [e]; exact True.intro) (.inr ho) (fun b q hb z => (sb.2 b hb).trans z) hd ?_
  refine ⟨by rw [upd_ne O.ne]; exact ho, ?_, O.ne, O'.obj, _, O'.ns, fun g => ?_, fun g hg => ?_⟩
  · have := length_putF f y fs; omega
  · show RelO ((putF f y fs).lookup g) (if g = f then some u else mA g)
    rw [lookup_putF]
    by_cases q : g = f
    · rw [if_pos q, if_pos q]; exact ry
    · rw [if_neg q, if_neg q]; exact r g
  · by_cases q : g = f
    · rw [q]; exact (keys_putF f y fs).1
    · refine (keys_putF f y fs).2 g (wi g fun z => hg ?_)
      show (if g = f then some u else mA g) = none
      rw [if_neg q]; exact z
theorem Inv.made (I : Inv X pins σ H s) : Inv X pins σ (upd (upd H s.heap.objs.size (.own (s.heap.objs.size + 1))) (s.heap.objs.size + 1) (.ins C s.heap.objs.size []))
    { s with heap := (s.heap.push PySem.W.emptyDict).push (PySem.W.instObj C s.heap.objs.size) } := by
  have e1 : (s.heap.push PySem.W.emptyDict).get? s.heap.objs.size = some PySem.W.emptyDict := Heap.get?_push_size s.heap rfl
  have e2 : ((s.heap.push PySem.W.emptyDict).push (PySem.W.instObj C s.heap.objs.size)).get? (s.heap.objs.size + 1) = some (PySem.W.instObj C s.heap.objs.size) := by
    have := Heap.get?_push_size (s.heap.push PySem.W.emptyDict) (o := PySem.W.instObj C s.heap.objs.size) rfl
    rwa [Heap.size_push] at this
  have e3 : (s.heap.push PySem.W.emptyDict).Ns s.heap.objs.size (fun _ => none) := ⟨PySem.W.emptyDict, #[], _, e1, rfl, (fun e he => absurd he (by simp)), fun _ => rfl⟩
  have I1 := I.laid (a := s.heap.objs.size) (o := .own (s.heap.objs.size + 1)) (h' := s.heap.push PySem.W.emptyDict) (t' := s.toks) (fun b u q => Heap.get?_push_of_some _ q) (Nat.le_refl _) ⟨_, e1⟩
  refine I1.laid (a := s.heap.objs.size + 1) (o := .ins C s.heap.objs.size []) (t' := s.toks) (fun b u q => Heap.get?_push_of_some _ q) (Nat.le_of_eq (Heap.size_push _ _)) ?_
  have ne : s.heap.objs.size ≠ s.heap.objs.size + 1 := Nat.ne_of_lt (Nat.lt_succ_self _)
  refine ⟨by rw [upd_ne ne, upd_same], Nat.zero_le _, ne, e2, fun _ => none, (Heap.Ns1.of_empty e3).at fun o q => Heap.get?_push_of_some _ q, fun _ => True.intro, fun y hy => absurd rfl hy⟩
theorem attr_of {prog : Program} {w : World} {env : Env} {e : Expr} {f : Str} {pos : Pos} {s : Shared} {Q : Value → Shared → Prop} (hb : attributeBase e f env (eval e env) = eval e env)
    (h : wpAny (model prog w) A (eval e env) (fun o s₁ => wpAny (model prog w) A (getAttr o f true) Q E s₁) E s) : wpAny (model prog w) A (eval (.Attribute e f pos) env) Q E s :=
  Attribute_any_ h (by rw [arm_eval_Attribute, hb])
end
def tFld (K : PySem.W.Frag) (ta : TE) (f : Str) : TE := fun σ H Q => ta σ H fun x H1 => ∃ a C dx fs v, x = .ref a ∧ H1 a = some (.ins C dx fs) ∧ Cls K C ∧ NoAttr K C f ∧ fs.lookup f = some v ∧ Q v H1
def sFld (K : PySem.W.Frag) (ta tv : TE) (f : Str) : TS := fun D σ H => tv σ H fun y H1 => ta σ H1 fun x H2 => ∃ a C dx fs, x = .ref a ∧ H2 a = some (.ins C dx fs) ∧ Cls K C ∧ NoAttr K C f ∧ fs.length < 1000 ∧
  D.nx σ (upd H2 a (.ins C dx (putF f y fs)))
section
variable {X : Cx} {o e value : Expr} {f : Str} {pos pos' tpos : Pos} {ta tv : TE}
theorem pe_fld (he : PE X e ta) (hb : attributeBase e f X.env (eval e X.env) = eval e X.env) : PE X (.Attribute e f pos) (tFld X.K ta f) := by
  intro pins s σ H Q I h
  refine attr_of hb (thn (he pins s σ H _ I h) fun u s1 ⟨x, H1, I1, rx, a, C, dx, fs, v, ex, ea, c, n, l, q⟩ => ?_)
  subst ex
  obtain rfl : u = Value.ref a := rx
  exact getattr_ok I1 ea c n l fun u' s2 I2 ru => ⟨v, H1, I2, ru, q⟩
theorem ps_fld (ha : PE X o ta) (hv : PE X value tv) (hs : swapsWith value (some (.Attribute o f pos')) pos.line X.env = pure false) : PS X (.Assign [.Attribute o f pos'] value pos) (sFld X.K ta tv f) := by
  intro pins s σ H D I h
  refine plainObj_wpAny_Assign_Attribute (thn (hv pins s σ H _ I h) fun u s1 ⟨y, H1, I1, ry, q⟩ => thn (ha pins s1 σ H1 _ I1 q) fun ov s2 ⟨x, H2, I2, rx, a, C, dx, fs, ex, ea, c, n, l, q2⟩ => ?_) hs
  subst ex
  obtain rfl : ov = Value.ref a := rx
  exact setattr_ok I2 ea c n l ry fun s3 I3 => ⟨σ, _, I3, q2⟩
theorem methcall_of {pl : Sem Bool} {m : Str} {apos : Pos} {args : List Expr} {pins : List (Addr × Obj)} {s : Shared} {σ : St} {H : Hp} {Q : Value → Shared → Prop} {te : TE} (he : PE X e te) (I : Inv X pins σ H s)
    (h : te σ H fun x H1 => ∃ a C dx fs g, x = .ref a ∧ H1 a = some (.ins C dx fs) ∧ Cls X.K C ∧ Meth X.K C m g ∧ fs.lookup m = none ∧
      ∀ s1, Inv X pins σ H1 s1 → wpAny (model X.prog X.w) X.A (callWith pos (.ref g) [.ref a] (backTo pos (starEach args X.env)) (backToKw pos (keywordEach [] X.env))) Q X.xe s1)
    (ht : eval (.Call (.Attribute e m apos) args [] pos) X.env = (do
      let ov ← eval e X.env
      standAt apos.atName
      let (f, first) ← holding [ov] (getMethod ov m pl)
      callWith pos f first (backTo pos (starEach args X.env)) (backToKw pos (keywordEach [] X.env)))) :
    wpAny (model X.prog X.w) X.A (eval (.Call (.Attribute e m apos) args [] pos) X.env) Q X.xe s := by
  refine PySem.W.methodCall_KW (pl := pl) (thn (he pins s σ H _ I h) fun u s1 ⟨x, H1, I1, rx, a, C, dx, fs, g, ex, ea, c, k, l, q⟩ => ?_) ht
  subst ex
  obtain rfl : u = Value.ref a := rx
  exact getmeth_ok I1 ea c k l (q s1 I1)
end
section
variable {X : Cx} {pins : List (Addr × Obj)} {σ : St} {H : Hp} {s : Shared} {A : Around} {E : Value → Shared → Prop} {Q : Value → Shared → Prop} {c : Value} {b : Bool}
inductive TyOf (K : PySem.W.Frag) (H : Hp) : V → Value → Prop where
  | non : TyOf K H .non (.type "NoneType")
  | bl (x : Bool) : TyOf K H (.bl x) (.type "bool")
  | int (i : Int) : TyOf K H (.int i) (.type "int")
  | str (x : Str) : TyOf K H (.str x) (.type "str")
  | flt (x : UInt64) : TyOf K H (.flt x) (.type "float")
  | lst {a : Addr} {xs : List V} (e : H a = some (.lst xs)) : TyOf K H (.ref a) (.type "list")
  | frz {a : Addr} {o : Obj} {xs : List V} (e : H a = some (.frz o (.lst xs))) : TyOf K H (.ref a) (.type "list")
  | tup {a : Addr} {xs : List V} (e : H a = some (.tup xs)) : TyOf K H (.ref a) (.type "tuple")
  | dK {a : Addr} {kvs : List (Key × V)} (e : H a = some (.dK kvs)) : TyOf K H (.ref a) (.type "dict")
  | dT {a : Addr} {kvs : List (List Key × V)} (e : H a = some (.dT kvs)) : TyOf K H (.ref a) (.type "dict")
  | ins {a C dx : Addr} {fs : List (Str × V)} (e : H a = some (.ins C dx fs)) (cl : Cls K C) (ha : PySem.W.findIn K (.ref C) "__class__" = some (some (.builtin "object.__class__")))
      (hn : PySem.W.specialIn K (.builtin "object.__class__") "__get__" = some (some (.builtin "getset_descriptor.__get__"))) (htk : PySem.W.takesIn K (.builtin "object.__class__") = some true)
      (hm : PySem.W.mroIn K C (.type "object") = some true) : TyOf K H (.ref a) (.ref C)
theorem isinst_ok {x : V} {u t : Value} (I : Inv X pins σ H s) (rx : RelV x u) (ty : TyOf X.K H x t) (e : PySem.W.kitOne X.K t c = some b) (h : ∀ tk, Q (.bool b) { s with toks := tk }) :
    wpAny (model X.prog X.w) A (call (.builtin "isinstance") [u, c]) Q E s := by
  cases ty with
  | non => cases (show u = Value.none from rx); exact PySem.W.kia_one PySem.W.kitx_none I.kIn True.intro e (fun z => nomatch z) h
  | bl y => cases (show u = Value.bool y from rx); exact PySem.W.kia_one PySem.W.kitx_bool I.kIn True.intro e (fun z => nomatch z) h
  | int i => obtain ⟨t, q⟩ := (show ∃ t, u = Value.int i t from rx); cases q; exact PySem.W.kia_one PySem.W.kitx_int I.kIn True.intro e (fun z => nomatch z) h
  | str y => obtain ⟨t, q⟩ := (show ∃ t, u = Value.str y t from rx); cases q; exact PySem.W.kia_one PySem.W.kitx_str I.kIn True.intro e (fun z => nomatch z) h
  | flt y => obtain ⟨t, q⟩ := (show ∃ t, u = Value.float y t from rx); cases q; exact PySem.W.kia_one PySem.W.kitx_float I.kIn True.intro e (fun z => nomatch z) h
  | @lst a xs ea =>
    cases (show u = Value.ref a from rx)
    obtain ⟨_, _, n, _, h1⟩ := (show ObjOk X.prog X.w H s.heap a (.lst xs) from I.hok a _ ea)
    exact PySem.W.kia_one PySem.W.kitx_list I.kIn ⟨_, h1, rfl⟩ e (fun z => nomatch z) h
  | @frz a ob xs ea =>
    cases (show u = Value.ref a from rx)
    obtain ⟨_, _, _, n, _, h1⟩ := (show ObjOk X.prog X.w H s.heap a (.frz ob (.lst xs)) from I.hok a _ ea)
    exact PySem.W.kia_one PySem.W.kitx_list I.kIn ⟨_, h1, rfl⟩ e (fun z => nomatch z) h
  | @tup a xs ea =>
    cases (show u = Value.ref a from rx)
    obtain ⟨_, _, _, p⟩ := (show ObjOk X.prog X.w H s.heap a (.tup xs) from I.hok a _ ea)
    obtain ⟨o, h1, h2, _⟩ := p
    exact PySem.W.kia_one PySem.W.kitx_tuple I.kIn ⟨o, h1, h2⟩ e (fun z => nomatch z) h
  | @dK a kvs ea =>
    cases (show u = Value.ref a from rx)
    obtain ⟨_, _, vs, _, p⟩ := (show ObjOk X.prog X.w H s.heap a (.dK kvs) from I.hok a _ ea)
    obtain ⟨o, es, ep, h1, h2, _⟩ := p
    exact PySem.W.kia_one PySem.W.kitx_dict I.kIn ⟨o, h1, h2.1⟩ e (fun z => nomatch z) h
  | @dT a kvs ea =>
    cases (show u = Value.ref a from rx)
    obtain ⟨_, _, xs, _, o, es, ep, h1, h2, _⟩ := (show ObjOk X.prog X.w H s.heap a (.dT kvs) from I.hok a _ ea)
    exact PySem.W.kia_one PySem.W.kitx_dict I.kIn ⟨o, h1, h2.1⟩ e (fun z => nomatch z) h
  | @ins a C dx fs ea cl ha hn htk hm =>
    cases (show u = Value.ref a from rx)
    obtain ⟨mA, O, _⟩ := ins_get I.hok ea
    obtain ⟨od, J, _⟩ := O.look
    exact PySem.W.kia_one (PySem.W.kitx_own (cl.get _) cl.hd ha hn htk hm) I.kIn J e (fun z => nomatch z) h
end
end L2
namespace L2
open PySem PySem.Spec PyProof.Rows
structure RoomC (c : Bool) (k : Nat) (A : Around) : Prop where
  hd : c = true → A.handled = none
  dp : A.depth + 3 * k + 5 < recursionLimit
  un : A.units + 16 * k + 200 < cLine
abbrev Room := RoomC true
theorem RoomC.mono {c c' : Bool} {j k : Nat} {A : Around} (r : RoomC c k A) (h : j ≤ k) (hc : c' = true → c = true := by decide) : RoomC c' j A := ⟨fun z => r.hd (hc z), by have := r.dp; omega, by have := r.un; omega⟩
theorem RoomC.deeper {c : Bool} {k : Nat} {A : Around} (r : RoomC c (k + 1) A) (env : Env) : RoomC c k (A.deeper env) :=
  ⟨r.hd, by have := r.dp; show A.depth + 1 + 3 * k + 5 < _; omega, by have := r.un; show A.units + 3 + 16 * k + 200 < _; omega⟩
theorem make_depth {A : Around} {C : Addr} {us : List Value} {kw : List (Str × Value)} : (A.under (.builtin "type.__call__" ⟨.ref C :: us, kw⟩)).depth = A.depth + 1 := by
  first | rfl | simp [Around.under, Code.weight, Code.isCreation, Code.isGuard, Code.isCaller, Code.frames, Code.isFrame, guardIds]
theorem make_units {A : Around} {C : Addr} {us : List Value} {kw : List (Str × Value)} : (A.under (.builtin "type.__call__" ⟨.ref C :: us, kw⟩)).units = A.units + 1 := by
  first | rfl | simp [Around.under, Code.cUnits, Code.frames, Code.isFrame]
theorem RoomC.make {c : Bool} {k : Nat} {A : Around} (r : RoomC c (k + 1) A) (C : Addr) (us : List Value) (kw : List (Str × Value)) : RoomC c k (A.under (.builtin "type.__call__" ⟨.ref C :: us, kw⟩)) :=
  ⟨r.hd, by have := r.dp; rw [make_depth]; omega, by have := r.un; rw [make_units]; omega⟩
theorem RoomC.depth {c : Bool} {k : Nat} {A : Around} (r : RoomC c k A) : A.depth < recursionLimit := by have := r.dp; omega
theorem RoomC.units {c : Bool} {k : Nat} {A : Around} (r : RoomC c k A) : A.units + 64 < cLine := by have := r.un; omega
theorem RoomC.units0 {c : Bool} {k : Nat} {A : Around} (r : RoomC c k A) : A.units < cLine := by have := r.un; omega
def tNil : TA := fun _ H Q => Q [] H
def tCons (ta : TE) (tr : TA) : TA := fun σ H Q => ta σ H fun x H1 => tr σ H1 fun xs H2 => Q (x :: xs) H2
section
variable {X : Cx} {e : Expr} {es : List Expr} {te : TE} {t : TA} {pos : Pos}
theorem pa_nil : PA X [] tNil := fun _ _ _ _ H Q I h => Calls.spliced_nil ⟨[], H, I, .nil, h⟩
theorem pa_cons (ha : PE X e te) (hr : PA X es t) (hs : starEach (e :: es) X.env = (false, eval e X.env) :: starEach es X.env := by rfl) : PA X (e :: es) (tCons te t) := by
  intro pos pins s σ H Q I h
  rw [hs]
  show wpAny _ _ (spliced ((false, eval e X.env) :: backTo pos (starEach es X.env))) _ _ s
  refine Calls.spliced_cons (thn (ha pins s σ H _ I h) fun u s1 ⟨x, H1, I1, r1, q1⟩ => ?_)
  exact thn (hr pos pins s1 σ H1 _ I1 q1) fun us s2 ⟨xs, H2, I2, r2, q2⟩ => ⟨x :: xs, H2, I2, .cons r1 r2, q2⟩
def tTup (t : TA) : TE := fun σ H Q => t σ H fun xs H1 => xs.length ≤ sizeLine ∧ ∀ p, H1 p = none → Q (.ref p) (upd H1 p (.tup xs))
def tLst (t : TA) : TE := fun σ H Q => t σ H fun xs H1 => xs.length ≤ sizeLine ∧ ∀ p, H1 p = none → Q (.ref p) (upd H1 p (.lst xs))
theorem pe_tup {x1} (h : PA X es t) : PE X (.Tuple es x1 pos) (tTup t) := by
  intro pins s σ H Q I hq
  refine wpAny_Tuple_spliced (thn (h pos pins s σ H _ I hq) fun us s1 ⟨xs, H1, I1, r, z, q⟩ => ⟨by rw [← r.length]; exact z, ?_⟩)
  have hf : H1 s1.heap.objs.size = none := I1.hok.fresh (Nat.le_refl _)
  refine ⟨.ref s1.heap.objs.size, upd H1 s1.heap.objs.size (.tup xs), I1.laid (t' := s1.toks) (fun b u e => Heap.get?_push_of_some _ e) (Nat.le_refl _) ?_, rfl, q _ hf⟩
  exact ⟨z, us, r, ⟨_, Heap.get?_push_size _ rfl, rfl, _, rfl⟩⟩
theorem pe_lst (h : PA X es t) : PE X (.List es pos) (tLst t) := by
  intro pins s σ H Q I hq
  refine wpAny_List_spliced (thn (h pos pins s σ H _ I hq) fun us s1 ⟨xs, H1, I1, r, z, q⟩ => ⟨by rw [← r.length]; exact z, ?_⟩)
  have hf : H1 s1.heap.objs.size = none := I1.hok.fresh (Nat.le_refl _)
  refine ⟨.ref s1.heap.objs.size, upd H1 s1.heap.objs.size (.lst xs), I1.laid (t' := s1.toks) (fun b u e => Heap.get?_push_of_some _ e) (Nat.le_refl _) ?_, rfl, q _ hf⟩
  exact ⟨z, us, 0, r, Heap.get?_push_size _ rfl⟩
end
abbrev Sp := List V → Hp → VK → XK → Prop
abbrev CXT := List Env → Hp → Shared → XK → Value → Shared → Prop
structure Env0 (P : Program) (w : World) (K : PySem.W.Frag) (mg : Str → Option Value) (base : Heap) (A : Around) (outer : List Env) (s : Shared) (H : Hp) : Prop where
  frames : A.frames = some outer
  mod : Mod K mg base
  bs : ∀ b o, base.get? b = some o → s.heap.get? b = some o ∧ H b = none
  bsz : base.objs.size ≤ s.heap.objs.size
  funs : s.heap.FunFrames base outer
  frf : ∀ b ∈ frs outer, H b = none
  hok : HOk P w H s.heap
  bare : AllBare s.gens
  hn : HdF A H
def CE (outer : List Env) (P : Program) (w : World) (H : Hp) (s : Shared) (Q : VK) (u : Value) (s' : Shared) : Prop :=
  ∃ v H', s'.os = s.os ∧ AllBare s'.gens ∧ Un (frs outer) [] H H' s.heap s'.heap ∧ HOk P w H' s'.heap ∧ RelV v u ∧ Q v H'
def CR (CX : CXT) (outer : List Env) (P : Program) (w : World) (H : Hp) (s : Shared) (Q : VK) (E : XK) (r : Result) (s' : Shared) : Prop :=
  match r with
  | .ok (.ret u) => CE outer P w H s Q u s'
  | .ok _ => False
  | .error e => CX outer H s E e s'
structure FnOk (P : Program) (w : World) (K : PySem.W.Frag) (mg : Str → Option Value) (base : Heap) (CX : CXT) (k : Nat) (f : Addr) (fd : FuncData) (ps : List Str) (sp : Sp) (c : Bool := true) : Prop where
  len : ∀ vs H Q E, sp vs H Q E → vs.length = ps.length
  run : ∀ (A : Around) (outer : List Env) (s : Shared) (H : Hp) (args : Args) (us : List Value) (vs : List V) (Q : VK) (E : XK), RoomC c k A → Env0 P w K mg base A outer s H → BindsTo s fd args (ps.zip us) → Vals vs us → sp vs H Q E →
    codeAny (model P w) A (.call (.ref f) args) (CR CX outer P w H s Q E) s
theorem Env0.make {P : Program} {w : World} {K : PySem.W.Frag} {mg : Str → Option Value} {base : Heap} {A : Around} {outer : List Env} {s : Shared} {H : Hp} (e : Env0 P w K mg base A outer s H) (C : Addr) (us : List Value) (kw : List (Str × Value)) :
    Env0 P w K mg base (A.under (.builtin "type.__call__" ⟨.ref C :: us, kw⟩)) outer s H := ⟨by first | exact e.frames | (simpa [Around.under, Code.envs, Code.isFrame, pushEnvs] using e.frames), e.mod, e.bs, e.bsz, e.funs, e.frf, e.hok, e.bare, e.hn⟩
section
variable {X : Cx} {pins : List (Addr × Obj)} {σ : St} {H : Hp} {s s' : Shared}
theorem Inv.env0 (I : Inv X pins σ H s) : Env0 X.prog X.w X.K X.mg X.base X.A X.stack s H :=
  ⟨I.ok.frames, I.ok.mod, I.bs, Nat.le_trans I.ok.bsz I.sz, I.stack, I.stkFree, I.hok, I.bare, I.hn⟩
theorem Inv.after {Q : VK} {u : Value} (I : Inv X pins σ H s) (h : CE X.stack X.prog X.w H s Q u s') : EP X pins σ Q u s' := by
  obtain ⟨v, H', os, bare, un, hok, r, q⟩ := h
  obtain ⟨hh, g, d, t, os'⟩ := s'
  obtain rfl : os' = s.os := os
  exact ⟨v, H', I.call (h' := hh) (g' := g) (d' := d) (t' := t) (ch := []) un hok bare (fun b z => absurd z (by simp)), r, q⟩
end
def tCall (sp : Sp) (dvs : List V) (E : XK) (t : TA) : TE := fun σ H Q => t σ H fun vs H1 => sp (vs ++ dvs) H1 Q E
def tMeth (C : Addr) (m : Str) (sp : Sp) (dvs : List V) (E : XK) (ta : TE) (t : TA) : TE := fun σ H Q => ta σ H fun x H1 => ∃ a dx fs, x = .ref a ∧ H1 a = some (.ins C dx fs) ∧ fs.lookup m = none ∧
  t σ H1 fun vs H2 => sp (x :: (vs ++ dvs)) H2 Q E
def tMake (C : Addr) (sp : Sp) (dvs : List V) (E : XK) (t : TA) : TE := fun σ H Q => t σ H fun vs H1 => ∀ x dx, H1 x = none → H1 dx = none → dx ≠ x →
  sp (.ref x :: (vs ++ dvs)) (upd (upd H1 dx (.own x)) x (.ins C dx [])) (fun v H2 => v = .non ∧ Q (.ref x) H2) E
def Binds (K : PySem.W.Frag) (fd : FuncData) (ps : List Str) (ds : List Value) : Prop :=
  ∀ (s : Shared) (us : List Value), K.In s.heap → (us ++ ds).length = ps.length → BindsTo s fd ⟨us, []⟩ (ps.zip (us ++ ds))
theorem Binds.all {K : PySem.W.Frag} {fd : FuncData} {ps : List Str} (h : ∀ us : List Value, us.length = ps.length → bindArgs fd ⟨us, []⟩ = pure (ps.zip us)) : Binds K fd ps [] := fun s us _ hl => by
  rw [List.append_nil] at hl ⊢
  exact .of_eq (h us hl)
def Passes (CX : CXT) (X : Cx) (E : XK) : Prop := ∀ (pins : List (Addr × Obj)) (σ : St) (H : Hp) (s : Shared) (e : Value) (s' : Shared), Inv X pins σ H s → CX X.stack H s E e s' → X.xe e s'
section
variable {X : Cx} {CX : CXT} {k : Nat} {f C : Addr} {fd : FuncData} {ps : List Str} {sp : Sp} {dvs : List V} {ds : List Value} {E : XK} {x m : Str} {p pos apos : Pos} {e o : Expr} {es : List Expr} {ta : TE} {t : TA}
theorem run_fn {pins : List (Addr × Obj)} {σ : St} {H : Hp} {s : Shared} {Q : VK} {us : List Value} {vs : List V} {cm : Bool} (F : FnOk X.prog X.w X.K X.mg X.base CX k f fd ps sp cm) (hr : RoomC cm k X.A) (hb : Binds X.K fd ps ds) (hd : Vals dvs ds) (hx : Passes CX X E)
    (I : Inv X pins σ H s) (r : Vals vs us) (h : sp (vs ++ dvs) H Q E) : wpAny (model X.prog X.w) X.A (call (.ref f) us) (EP X pins σ Q) X.xe s := by
  have r2 : Vals (vs ++ dvs) (us ++ ds) := r.append hd
  have hl : (us ++ ds).length = ps.length := by rw [← r2.length]; exact F.len _ _ _ _ h
  refine wpAny_call (codeAny_mono (F.run X.A X.stack s H ⟨us, []⟩ (us ++ ds) (vs ++ dvs) Q E hr I.env0 (hb s us I.kIn hl) r2 h) fun r s' hq => ?_)
  cases r with
  | error e => exact hx pins σ H s e s' I hq
  | ok fl =>
    cases fl with
    | ret u => exact I.after hq
    | next => exact False.elim hq
    | brk => exact False.elim hq
    | cont => exact False.elim hq
theorem pe_call {cm : Bool} (F : FnOk X.prog X.w X.K X.mg X.base CX k f fd ps sp cm) (hr : RoomC cm k X.A) (hg : Gl X x) (hm : X.mg x = some (.ref f)) (hk : PySem.W.keepIn X.K (.ref f) = true) (hb : Binds X.K fd ps ds) (hd : Vals dvs ds) (hx : Passes CX X E)
    (ha : PA X (e :: es) t) (hdb : (x == ("__debug__" : Str)) = false := by decide) (he : starEach (e :: es) X.env = (false, eval e X.env) :: starEach es X.env := by rfl) (hpl : (backTo pos (starEach es X.env)).any (·.1) = false := by rfl) :
    PE X (.Call (.Name x p) (e :: es) [] pos) (tCall sp dvs E t) := by
  intro pins s σ H Q I h
  refine wpAny_Call_Name_kw (ld_glob I hg hm ?_ hdb)
  refine PySem.W.callWith_K (h₀ := X.base) I.ok.mod.kin hk (thn (ha pos pins s σ H _ I h) fun us s1 ⟨vs, H1, I1, r, q⟩ => ⟨I1.kIn, ?_⟩) he hpl
  exact run_fn F hr hb hd hx I1 r q
theorem pe_meth {pl : Sem Bool} (he : PE X o ta) (c : Cls X.K C) (hm : Meth X.K C m f) {cm : Bool} (F : FnOk X.prog X.w X.K X.mg X.base CX k f fd ps sp cm) (hr : RoomC cm k X.A) (hb : Binds X.K fd ps ds) (hd : Vals dvs ds) (hx : Passes CX X E) (ha : PA X (e :: es) t)
    (hst : starEach (e :: es) X.env = (false, eval e X.env) :: starEach es X.env := by rfl) (hpl : (backTo pos (starEach es X.env)).any (·.1) = false := by rfl)
    (ht : eval (.Call (.Attribute o m apos) (e :: es) [] pos) X.env = (do
      let ov ← eval o X.env
      standAt apos.atName
      let (f, first) ← holding [ov] (getMethod ov m pl)
      callWith pos f first (backTo pos (starEach (e :: es) X.env)) (backToKw pos (keywordEach [] X.env))) := by rfl) :
    PE X (.Call (.Attribute o m apos) (e :: es) [] pos) (tMeth C m sp dvs E ta t) := by
  intro pins s σ H Q I h
  refine PySem.W.methodCall_KW (pl := pl) (thn (he pins s σ H _ I h) fun u s1 ⟨x, H1, I1, rx, a, dx, fs, ex, ea, l, q⟩ => ?_) ht
  subst ex
  obtain rfl : u = Value.ref a := rx
  refine getmeth_ok I1 ea c hm l ?_
  refine PySem.W.callWith_K (first := [.ref a]) (h₀ := X.base) I.ok.mod.kin hm.kp (thn (ha pos pins s1 σ H1 _ I1 q) fun us s2 ⟨vs, H2, I2, r, q2⟩ => ⟨I2.kIn, ?_⟩) hst hpl
  exact run_fn (us := .ref a :: us) (vs := .ref a :: vs) F hr hb hd hx I2 (.cons rfl r) q2
structure Mk (K : PySem.W.Frag) (C f : Addr) : Prop where
  makes : PySem.W.makesIn K C = true
  init : PySem.W.findIn K (.ref C) "__init__" = some (some (.ref f))
  fn : PySem.W.isFn K (.ref f) = true
  kp : PySem.W.keepIn K (.ref C) = true
theorem run_make {pins : List (Addr × Obj)} {σ : St} {H : Hp} {s : Shared} {Q : VK} {us : List Value} {vs : List V} (M : Mk X.K C f) (F : FnOk X.prog X.w X.K X.mg X.base CX k f fd ps sp) (hr : Room (k + 1) X.A) (hb : Binds X.K fd ps ds) (hd : Vals dvs ds)
    (hx : Passes CX X E) (I : Inv X pins σ H s) (r : Vals vs us)
    (h : ∀ x dx, H x = none → H dx = none → dx ≠ x → sp (.ref x :: (vs ++ dvs)) (upd (upd H dx (.own x)) x (.ins C dx [])) (fun v H2 => v = .non ∧ Q (.ref x) H2) E) :
    wpAny (model X.prog X.w) X.A (call (.ref C) us) (EP X pins σ Q) X.xe s := by
  have hq := h (s.heap.objs.size + 1) s.heap.objs.size (I.hok.fresh (Nat.le_succ _)) (I.hok.fresh (Nat.le_refl _)) (Nat.ne_of_lt (Nat.lt_succ_self _))
  have I2 := Inv.made (C := C) I
  have r2 : Vals (V.ref (s.heap.objs.size + 1) :: (vs ++ dvs)) (Value.ref (s.heap.objs.size + 1) :: (us ++ ds)) := .cons rfl (r.append hd)
  have hl : (Value.ref (s.heap.objs.size + 1) :: us ++ ds).length = ps.length := by
    have e := r2.length
    rw [F.len _ _ _ _ hq] at e
    exact e.symm
  refine wpAny_call (make_map (f := f) I.kIn M.makes M.init (beq_iff_eq.mp M.fn) (codeAny_mono (F.run _ X.stack _ _ ⟨Value.ref (s.heap.objs.size + 1) :: us, []⟩ (Value.ref (s.heap.objs.size + 1) :: (us ++ ds)) _ _ E (hr.make C us [])
    (I2.env0.make C us []) (hb _ (Value.ref (s.heap.objs.size + 1) :: us) I2.kIn hl) r2 hq) fun r s' hq' => ?_))
  cases r with
  | error e => exact hx pins σ _ _ e s' I2 hq'
  | ok fl =>
    cases fl with
    | ret u =>
      obtain ⟨v, H', I3, rv, ev, q3⟩ := I2.after hq'
      subst ev
      exact ⟨rv, ⟨V.ref (s.heap.objs.size + 1), H', I3, rfl, q3⟩⟩
    | next => exact False.elim hq'
    | brk => exact False.elim hq'
    | cont => exact False.elim hq'
theorem pe_make (M : Mk X.K C f) (F : FnOk X.prog X.w X.K X.mg X.base CX k f fd ps sp) (hr : Room (k + 1) X.A) (hg : Gl X x) (hm : X.mg x = some (.ref C)) (hb : Binds X.K fd ps ds) (hd : Vals dvs ds) (hx : Passes CX X E)
    (ha : PA X (e :: es) t) (hdb : (x == ("__debug__" : Str)) = false := by decide) (he : starEach (e :: es) X.env = (false, eval e X.env) :: starEach es X.env := by rfl) (hpl : (backTo pos (starEach es X.env)).any (·.1) = false := by rfl) :
    PE X (.Call (.Name x p) (e :: es) [] pos) (tMake C sp dvs E t) := by
  intro pins s σ H Q I h
  refine wpAny_Call_Name_kw (ld_glob I hg hm ?_ hdb)
  refine PySem.W.callWith_K (h₀ := X.base) I.ok.mod.kin M.kp (thn (ha pos pins s σ H _ I h) fun us s1 ⟨vs, H1, I1, r, q⟩ => ⟨I1.kIn, ?_⟩) he hpl
  exact run_make M F hr hb hd hx I1 r q
end
section
variable {X : Cx} {CX : CXT} {k : Nat} {f C : Addr} {fd : FuncData} {ps ks : List Str} {sp : Sp} {E : XK} {x m : Str} {p pos apos kpos : Pos} {e o : Expr} {es : List Expr} {kws : List Keyword} {te ta : TE} {t tk : TA} {nm : Option Str}
variable {g : List Value → List Value → List Value} {gV : List V → List V → List V}
end
structure FnScope (N P : List Str) (sc : Scope) : Prop where
  kind : sc.kind = .function
  co : sc.isCoroutine = false
  gen : sc.isGenerator = false
  nd : N.Nodup
  pre : N.take P.length = P
  par : ∀ x ∈ P, sc.names.lookup x = some .local ∨ sc.names.lookup x = some .cell
  nofree : ∀ y ∈ sc.names, y.2 ≠ .free
theorem bindL_out {kindOf : Str → Option NameKind} {x : Str} : ∀ {binds : List (Str × Value)} {m : Str → Option Value}, (∀ v, (x, v) ∉ binds) → bindL kindOf binds m x = m x
  | [], _, _ => rfl
  | (n, v) :: r, m, h => by
    unfold bindL
    rw [bindL_out fun w hw => h w (List.mem_cons_of_mem _ hw)]
    split
    · have : x ≠ n := by rintro rfl; exact h v List.mem_cons_self
      simp [this]
    · rfl
theorem bindC_out {kindOf : Str → Option NameKind} {x : Str} : ∀ {binds : List (Str × Value)} {m : Str → Option Value}, (∀ v, (x, v) ∉ binds) → bindC kindOf binds m x = m x
  | [], _, _ => rfl
  | (n, v) :: r, m, h => by
    unfold bindC
    rw [bindC_out fun w hw => h w (List.mem_cons_of_mem _ hw)]
    split
    · rfl
    · have : x ≠ n := by rintro rfl; exact h v List.mem_cons_self
      simp [this]
theorem bindL_get {kindOf : Str → Option NameKind} {x : Str} {v : Value} : ∀ {P : List Str} {vs : List Value} {i : Nat} {m : Str → Option Value}, P.Nodup → P[i]? = some x → vs[i]? = some v → kindOf x = some .local →
    bindL kindOf (P.zip vs) m x = some v
  | [], _, _, _, _, h, _, _ => by simp at h
  | _ :: _, [], _, _, _, _, h, _ => by simp at h
  | p :: P, w :: vs, 0, m, nd, h1, h2, hk => by
    simp at h1 h2; subst h1; subst h2
    show bindL kindOf ((p, w) :: P.zip vs) m p = _
    unfold bindL
    rw [bindL_out fun v hv => (List.nodup_cons.mp nd).1 (List.of_mem_zip hv).1, if_pos hk]
    simp
  | p :: P, w :: vs, i + 1, m, nd, h1, h2, hk => by
    show bindL kindOf ((p, w) :: P.zip vs) m x = _
    unfold bindL
    exact bindL_get (i := i) (List.nodup_cons.mp nd).2 (by simpa using h1) (by simpa using h2) hk
theorem bindC_get {kindOf : Str → Option NameKind} {x : Str} {v : Value} : ∀ {P : List Str} {vs : List Value} {i : Nat} {m : Str → Option Value}, P.Nodup → P[i]? = some x → vs[i]? = some v → kindOf x ≠ some .local →
    bindC kindOf (P.zip vs) m x = some v
  | [], _, _, _, _, h, _, _ => by simp at h
  | _ :: _, [], _, _, _, _, h, _ => by simp at h
  | p :: P, w :: vs, 0, m, nd, h1, h2, hk => by
    simp at h1 h2; subst h1; subst h2
    show bindC kindOf ((p, w) :: P.zip vs) m p = _
    unfold bindC
    rw [bindC_out fun v hv => (List.nodup_cons.mp nd).1 (List.of_mem_zip hv).1, if_neg hk]
    simp
  | p :: P, w :: vs, i + 1, m, nd, h1, h2, hk => by
    show bindC kindOf ((p, w) :: P.zip vs) m x = _
    unfold bindC
    exact bindC_get (i := i) (List.nodup_cons.mp nd).2 (by simpa using h1) (by simpa using h2) hk
def start (N : List Str) (vs : List V) : St := vs.map some ++ List.replicate (N.length - vs.length) none
def cxOf (CX : CXT) (P : Program) (w : World) (K : PySem.W.Frag) (mg : Str → Option Value) (base : Heap) (N : List Str) (qual : Str) (scope : Scope) (f : Addr) (cd : Value) (A : Around) (outer : List Env) (s : Shared) (H : Hp) (E : XK) (c : Bool := true) : Cx where
  prog := P
  w := w
  K := K
  mg := mg
  base := base
  A := A.deeper (envOfC qual scope s.heap.objs.size f cd)
  N := N
  s₀ := s
  H₀ := H
  env := envOfC qual scope s.heap.objs.size f cd
  outer := outer
  stack := envOfC qual scope s.heap.objs.size f cd :: outer
  ex := []
  calm := c
  fn := fun _ => true
  pn := []
  xe := fun e s' => wpAny (model P w) (A.deeper (envOfC qual scope s.heap.objs.size f cd)) (leaving (envOfC qual scope s.heap.objs.size f cd) e) (fun _ s'' => CX outer H s E e s'') (fun e' s'' => CX outer H s E e' s'') s'
theorem cell_has {sc : Scope} {n : Nat} {x : Str} (h : sc.names.lookup x = some .cell) : ∃ c, (cellsFrom n sc.names []).lookup x = some c := by
  have q := PySem.W.cellsFrom_some sc.names n [] (.inl h)
  exact Option.isSome_iff_exists.mp q
theorem inv_start {CX : CXT} {P : Program} {w : World} {K : PySem.W.Frag} {mg : Str → Option Value} {base : Heap} {N ps : List Str} {qual : Str} {scope : Scope} {f : Addr} {cd : Value} {A : Around} {outer : List Env} {s s1 : Shared} {H : Hp} {E : XK} {us : List Value} {vs : List V}
    {c : Bool} (S : FnScope N ps scope) (hd : c = true → A.handled = none) (e0 : Env0 P w K mg base A outer s H) (hl : vs.length = ps.length) (r : Vals vs us)
    (x : InCallC s s.heap.objs.size (bindL (envOfC qual scope s.heap.objs.size f cd).kindOf (ps.zip us) fun _ => none) (cellsFrom (s.heap.objs.size + 1) scope.names []) (bindC (envOfC qual scope s.heap.objs.size f cd).kindOf (ps.zip us) fun _ => none) s1) :
    Inv (cxOf CX P w K mg base N qual scope f cd A outer s H E c) [] (start N vs) H s1 := by
  have hpl : ps.length ≤ N.length := by have := congrArg List.length S.pre; rw [List.length_take] at this; omega
  obtain ⟨h1, tk, rfl, hk⟩ := x.done
  have noA : ∀ b : Addr, b ∉ (cxOf CX P w K mg base N qual scope f cd A outer s H E c).ex := fun b z => absurd (show b ∈ ([] : List Addr) from z) (by simp)
  refine ⟨⟨e0.mod, S.kind, rfl, rfl, Nat.le_refl _, fun y z c h1 h2 => ?_, fun y hy => ?_, fun y c' _ h => ?_, hd, Around.frames_deeper e0.frames, .inr ⟨rfl, rfl⟩, fun b z => absurd z (noA b), e0.bs, e0.bsz, fun b _ _ => noA b, fun b z => absurd z (noA b), e0.funs, e0.frf⟩,
    rfl, e0.bare, Un.kept hk, ⟨_, x.toInCall.ns, fun i y v h1 h2 h3 => ?_⟩, fun y c h => ⟨_, x.cell y c h⟩, e0.hok.fresh (Nat.le_refl _), fun y c h => ?_, fun p hp => absurd (show p ∈ ([] : List (Addr × Obj)) from hp) (by simp), e0.hok.kept hk, ?_, e0.hn⟩
  · exact name_of_addr x.apart (PySem.mem_of_lookup h1) (PySem.mem_of_lookup h2)
  · have hy : scope.names.lookup y = some .cell ∨ scope.names.lookup y = some .free := hy
    rcases hy with hy | hy
    · exact cell_has hy
    · exact absurd rfl (S.nofree _ (PySem.mem_of_lookup hy))
  · exact Nat.le_of_lt (x.above y c' (PySem.mem_of_lookup h))
  · have hi : i < vs.length := by
      unfold start at h2
      by_cases hi : i < vs.length
      · exact hi
      · rw [List.getElem?_append_right (by simpa using hi)] at h2
        rw [List.getElem?_replicate] at h2
        split at h2 <;> cases h2
    have ha : vs[i]? = some v := by
      unfold start at h2
      rw [List.getElem?_append_left (by simpa using hi), List.getElem?_map] at h2
      cases e : vs[i]? with
      | none => rw [e] at h2; cases h2
      | some a => rw [e] at h2; cases h2; rfl
    obtain ⟨u, hu, rv⟩ := r.get ha
    have hp : ps[i]? = some y := by
      rw [← S.pre, List.getElem?_take_of_lt (by omega)]; exact h1
    have ndP : ps.Nodup := by rw [← S.pre]; exact S.nd.sublist (List.take_sublist _ _)
    refine ⟨u, rv, ?_⟩
    rcases S.par y (List.mem_of_getElem? hp) with k | k
    · exact .inl ⟨k, bindL_get ndP hp hu k⟩
    · obtain ⟨c, e⟩ := cell_has (n := s.heap.objs.size + 1) k
      refine .inr ⟨.inl k, c, e, ?_⟩
      have q := x.cell y c e
      rw [bindC_get ndP hp hu (by show scope.names.lookup y ≠ _; rw [k]; decide)] at q
      exact q
  · exact e0.hok.fresh (Nat.le_of_lt (x.above y c (PySem.mem_of_lookup h)))
  · unfold start
    show _ = N.length
    rw [List.length_append, List.length_map, List.length_replicate]
    omega
theorem fn_of {CX : CXT} {P : Program} {w : World} {K : PySem.W.Frag} {mg : Str → Option Value} {base : Heap} {k : Nat} {f : Addr} {name qual : Str} {params : Arguments} {body : List Stmt} {scope : Scope} {dV kV doc pm cdv ct oc : Value} {an od : Option Addr}
    {osl : Array (Option Value)} {N ps : List Str} {sp : Sp} {c : Bool} (lk : K.lookup f = some ⟨oc, od, .func (PySem.W.fnOf name qual params body scope dV kV doc pm an cdv ct), osl⟩) (hcd : PySem.W.codeIn K cdv qual = true) (S : FnScope N ps scope)
    (len : ∀ vs H Q E, sp vs H Q E → vs.length = ps.length)
    (hbody : ∀ (A : Around) (outer : List Env) (s : Shared) (H : Hp) (vs : List V) (Q : VK) (E : XK), RoomC c k (A.deeper (envOfC qual scope s.heap.objs.size f cdv)) → sp vs H Q E →
      ∃ t, PSs (cxOf CX P w K mg base N qual scope f cdv A outer s H E c) body t ∧ t { nx := fun _ H' => Q .non H', rt := Q } (start N vs) H) :
    FnOk P w K mg base CX (k + 1) f (PySem.W.fnOf name qual params body scope dV kV doc pm an cdv ct) ps sp c := by
  refine ⟨len, fun A outer s H args us vs Q E hr e0 hb r hsp => ?_⟩
  have hl := len _ _ _ _ hsp
  have KX : K.In s.heap := e0.mod.kin.keeps fun b o e => (e0.bs b o e).1
  have lim : s.heap.NoLimit := e0.mod.nolimit.keeps fun b o e => (e0.bs b o e).1
  have hkind : ∀ y ∈ ps.zip us, scope.names.lookup y.1 = some .local ∨ (scope.names.lookup y.1 = some .cell ∧ ((cellsFrom (s.heap.objs.size + 1) scope.names []).lookup y.1).isSome = true) := fun ⟨n, v⟩ hy => by
    rcases S.par n (List.of_mem_zip hy).1 with q | q
    · exact .inl q
    · exact .inr ⟨q, PySem.W.cellsFrom_some _ _ _ (.inl q)⟩
  refine codeAny_call_function hr.depth (KX _ _ lk) rfl S.co S.gen rfl (PySem.W.codeRec_of KX hcd) (hb _ _ _ _ ?_)
  refine wpAny_newFunctionEnv_cells S.kind hkind fun env he s1 x => ?_
  subst he
  refine ⟨lim.keeps x.toInCall.keep, codeAny_func ?_⟩
  obtain ⟨t, ht, hq⟩ := hbody A outer s H vs Q E (hr.deeper _) hsp
  have I : Inv (cxOf CX P w K mg base N qual scope f cdv A outer s H E c) [] (start N vs) H s1 := inv_start S hr.hd e0 hl r x
  refine wpAny_mono (ht [] s1 (start N vs) H _ I hq) (fun fl s' hs => ?_) fun e s' hs => hs
  have fin : ∀ {σ' : St} {H' : Hp} {v : V} {u : Value}, Inv (cxOf CX P w K mg base N qual scope f cdv A outer s H E c) [] σ' H' s' → RelV v u → Q v H' → CE outer P w H s Q u s' :=
    fun {σ' H' v u} J rv q => ⟨v, H', J.os, J.bare, J.base, J.hok, rv, q⟩
  cases fl with
  | ret u =>
    obtain ⟨v, σ', H', J, rv, q⟩ := hs
    exact fin J rv q
  | next =>
    obtain ⟨σ', H', J, q⟩ := hs
    exact fin (v := V.non) (u := Value.none) J rfl q
  | brk =>
    obtain ⟨_, _, _, q⟩ := hs
    exact False.elim q
  | cont =>
    obtain ⟨_, _, _, q⟩ := hs
    exact False.elim q
end L2
namespace L2
open PySem PySem.Spec PyProof.Rows
section
variable {X : Cx} {x : Str} {p pos : Pos} {e : Expr} {es : List Expr} {t : TA} {id T : String} {r : List V → Hp → VK → Prop}
def tCB (r : List V → Hp → VK → Prop) (t : TA) : TE := fun σ H Q => t σ H fun vs H1 => r vs H1 Q
theorem pe_callB (hc : CallR X (.builtin id) r) (hg : Gl X x) (hm : X.mg x = none) (hv : bootBuiltins x = some (.builtin id)) (ha : PA X (e :: es) t) (hn : x ≠ "__name__" := by decide) (hdb : (x == ("__debug__" : Str)) = false := by decide)
    (he : starEach (e :: es) X.env = (false, eval e X.env) :: starEach es X.env := by rfl) (hpl : (backTo pos (starEach es X.env)).any (·.1) = false := by rfl) : PE X (.Call (.Name x p) (e :: es) [] pos) (tCB r t) := by
  intro pins s σ H Q I h
  refine wpAny_Call_Name_kw (ld_blt I hg hm hv ?_ hn hdb)
  exact PyProof.Rows.callWith_builtin1 (thn (ha pos pins s σ H _ I h) fun us s1 ⟨vs, H1, I1, r1, q1⟩ => hc pins s1 σ H1 vs us Q I1 r1 q1) he hpl
theorem pe_callTy (hc : CallR X (.type T) r) (hg : Gl X x) (hm : X.mg x = none) (hv : bootBuiltins x = some (.type T)) (ha : PA X (e :: es) t) (hn : x ≠ "__name__" := by decide) (hdb : (x == ("__debug__" : Str)) = false := by decide)
    (he : starEach (e :: es) X.env = (false, eval e X.env) :: starEach es X.env := by rfl) (hpl : (backTo pos (starEach es X.env)).any (·.1) = false := by rfl) : PE X (.Call (.Name x p) (e :: es) [] pos) (tCB r t) := by
  intro pins s σ H Q I h
  refine wpAny_Call_Name_kw (ld_blt I hg hm hv ?_ hn hdb)
  exact PyProof.Rows.callWith_type1 (thn (ha pos pins s σ H _ I h) fun us s1 ⟨vs, H1, I1, r1, q1⟩ => hc pins s1 σ H1 vs us Q I1 r1 q1) he hpl
end
end L2
namespace HT
open PySem PyProof.Rows
section
open PySem.SeqAt
open PySem.AutoSeq1 (wpAny_loadPart')
open PySem.MeetsSeq PySem.MeetsSeq2 PySem.MeetsSeq3
end
section
variable {prog : Program} {w : World} {A : Around} {E : Value → Shared → Prop} {s : Shared}
def sIx (n d : Nat) : Option Int → Nat
  | none => d
  | some v => if v < 0 then (v + (n : Int)).toNat else min v.toNat n
theorem sIx_none (n d : Nat) : sIx n d none = d := rfl
theorem sIx_nat (n d k : Nat) : sIx n d (some (k : Int)) = min k n := by
  show (if (k : Int) < 0 then ((k : Int) + (n : Int)).toNat else min (k : Int).toNat n) = min k n
  rw [if_neg (by omega), Int.toNat_natCast]
end
end HT
namespace L2
open PySem PySem.Spec PyProof.Rows
abbrev TO := St → Hp → (Option Int → Hp → Prop) → Prop
def PO (X : Cx) (e : Option Expr) (t : TO) : Prop :=
  ∀ (pins : List (Addr × Obj)) (s : Shared) (σ : St) (H : Hp) (Q : Option Int → Hp → Prop), Inv X pins σ H s → t σ H Q →
    wpAny (model X.prog X.w) X.A (evalPart e X.env) (fun u s' => ∃ o H', Inv X pins σ H' s' ∧ IsPart u o ∧ Q o H') X.xe s
def tNoPart : TO := fun _ H Q => Q none H
def tPart (t : TE) : TO := fun σ H Q => t σ H fun x H1 => ∃ i, x = .int i ∧ Q (some i) H1
section
variable {X : Cx} {e : Expr} {te : TE} {lo hi : Option Expr} {tl th : TO} {pos p2 : Pos}
theorem po_none : PO X none tNoPart := by
  intro pins s σ H Q I h
  rw [evalPart_none]
  exact wpAny_pure ⟨none, H, I, .none, h⟩
theorem po_some (h : PE X e te) : PO X (some e) (tPart te) := by
  intro pins s σ H Q I hw
  rw [evalPart_some]
  refine thn (h pins s σ H _ I hw) fun u s1 ⟨x, H1, I1, r1, q1⟩ => ?_
  obtain ⟨i, rfl, q⟩ := q1
  obtain ⟨t, rfl⟩ := r1
  exact ⟨some i, H1, I1, .int i t, q⟩
def SlR (X : Cx) (r : V → Option Int → Option Int → Hp → VK → Prop) : Prop :=
  ∀ (pins : List (Addr × Obj)) (s : Shared) (σ : St) (H : Hp) (x : V) (v vl vu : Value) (lo hi : Option Int) (sl : Addr) (Q : VK), Inv X pins σ H s → RelV x v → s.heap.IsSliceOf sl vl vu .none → IsPart vl lo → IsPart vu hi → r x lo hi H Q →
    ∃ T id, typeLookup (.type T) "__getitem__" = pure (some (.builtin id)) ∧ s.TypeIs v T ∧ wpAny (model X.prog X.w) X.A (getItem v (.ref sl)) (EP X pins σ Q) X.xe s
def tSl (r : V → Option Int → Option Int → Hp → VK → Prop) (te : TE) (tl th : TO) : TE := fun σ H Q => te σ H fun x H1 => tl σ H1 fun l H2 => th σ H2 fun u H3 => r x l u H3 Q
theorem pe_slice {r : V → Option Int → Option Int → Hp → VK → Prop} (hr : SlR X r) (he : PE X e te) (hl : PO X lo tl) (hu : PO X hi th) : PE X (.Subscript e (.Slice lo hi none p2) pos) (tSl r te tl th) := by
  intro pins s σ H Q I h
  refine Subscript_ (thn (he pins s σ H _ I h) fun v s1 ⟨x, H1, I1, r1, q1⟩ => ?_)
  refine wpAny_Slice (thn (hl pins s1 σ H1 _ I1 q1) fun vl s2 ⟨l, H2, I2, pl, q2⟩ => thn (hu pins s2 σ H2 _ I2 q2) fun vu s3 ⟨u, H3, I3, pu, q3⟩ => ?_)
  rw [evalPart_none]
  refine wpAny_pure ?_
  have I4 : Inv X pins σ H3 { s3 with heap := s3.heap.push { cls := .type "slice", data := .fields #[vl, vu, .none] } } := I3.kept (t' := s3.toks) fun b ob q => Heap.get?_push_of_some _ q
  obtain ⟨T, id, hT, ht, hg⟩ := hr pins { s3 with heap := s3.heap.push { cls := .type "slice", data := .fields #[vl, vu, .none] } } σ H3 x v vl vu l u s3.heap.objs.size Q I4 r1 (Heap.IsSliceOf.new ..) pl pu q3
  show wpAny (model X.prog X.w) X.A (subscriptTail e (.Slice lo hi none p2) v (.ref s3.heap.objs.size)) (EP X pins σ Q) X.xe { s3 with heap := s3.heap.push { cls := .type "slice", data := .fields #[vl, vu, .none] } }
  exact tail_any (ops := [.ref s3.heap.objs.size, v]) ht hT hg (by with_unfolding_all rfl)
def cutV (xs : List V) (lo hi : Option Int) : List V := (xs.drop (HT.sIx xs.length 0 lo)).take (HT.sIx xs.length xs.length hi - HT.sIx xs.length 0 lo)
theorem cutV_length (xs : List V) (lo hi : Option Int) : (cutV xs lo hi).length ≤ xs.length := by
  unfold cutV
  rw [List.length_take, List.length_drop]
  omega
end
end L2
namespace L2
open PySem PySem.Spec PyProof.Rows
def ixN (n : Nat) (i : Int) : Option Nat := if 0 ≤ i then (if i < n then some i.toNat else none) else if -(n : Int) ≤ i then some (i + n).toNat else none
def atI {α : Type} (xs : List α) (i : Int) : Option α := (ixN xs.length i).bind fun j => xs[j]?
theorem ixN_seq {n : Nat} {i : Int} {j : Nat} (h : ixN n i = some j) : seqIndex? i n = some j ∧ j < n ∧ -(n : Int) ≤ i ∧ i < n := by
  unfold ixN at h
  by_cases h0 : 0 ≤ i
  · rw [if_pos h0] at h
    by_cases h1 : i < n
    · rw [if_pos h1] at h
      have e : i.toNat = j := Option.some.inj h
      exact ⟨by rw [seqIndex_of h0 h1, e], by omega, by omega, h1⟩
    · rw [if_neg h1] at h; cases h
  · rw [if_neg h0] at h
    by_cases h1 : -(n : Int) ≤ i
    · rw [if_pos h1] at h
      have e : (i + n).toNat = j := Option.some.inj h
      exact ⟨by rw [seqIndex_neg (by omega) h1, e], by omega, h1, by omega⟩
    · rw [if_neg h1] at h; cases h
theorem atI_get {α : Type} {xs : List α} {i : Int} {v : α} (h : atI xs i = some v) : ∃ j, seqIndex? i xs.length = some j ∧ xs[j]? = some v ∧ j < xs.length ∧ -(xs.length : Int) ≤ i ∧ i < xs.length := by
  unfold atI at h
  cases e : ixN xs.length i with
  | none => rw [e] at h; cases h
  | some j =>
    rw [e] at h
    obtain ⟨h1, h2, h3, h4⟩ := ixN_seq e
    exact ⟨j, h1, h, h2, h3, h4⟩
theorem atI_nat {α : Type} {xs : List α} {j : Nat} {v : α} (h : xs[j]? = some v) : atI xs (j : Int) = some v := by
  have hj : j < xs.length := (List.getElem?_eq_some_iff.mp h).1
  have e : ixN xs.length (j : Int) = some j := by
    unfold ixN
    rw [if_pos (by omega), if_pos (by omega)]; simp
  unfold atI; rw [e]; exact h
def PlainIx (b : Expr) : Prop := ∀ o i, subscripted b false o i = operate [o, i] (getItem o i)
def IxR (X : Cx) (r : R2) : Prop :=
  ∀ (value slice : Expr) (pins : List (Addr × Obj)) (s : Shared) (σ : St) (H : Hp) (x y : V) (v u : Value) (Q : VK), Inv X pins σ H s → RelV x v → RelV y u → r x y H Q →
    subscripted slice false v u = operate [v, u] (getItem v u) → wpAny (model X.prog X.w) X.A (subscriptTail value slice v u) (EP X pins σ Q) X.xe s
def MtR (X : Cx) (id : String) (r : V → List V → Hp → VK → Prop) : Prop :=
  ∀ (pins : List (Addr × Obj)) (s : Shared) (σ : St) (H : Hp) (x : V) (xs : List V) (v : Value) (us : List Value) (Q : VK), Inv X pins σ H s → RelV x v → Vals xs us → r x xs H Q →
    wpAny (model X.prog X.w) X.A (call (.builtin id) (v :: us)) (EP X pins σ Q) X.xe s
section
variable {X : Cx} {a b : Expr} {ta tb : TE} {pos : Pos}
theorem pe_ix {r : R2} (hr : IxR X r) (ha : PE X a ta) (hb : PE X b tb) (hs : PlainIx b) : PE X (.Subscript a b pos) (tOp r ta tb) := by
  intro pins s σ H Q I h
  exact Subscript_ (binT ha hb I h fun v u s2 x y H2 I2 rx ry q => hr a b pins s2 σ H2 x y v u Q I2 rx ry q (hs _ _))
def rIxL (K : PySem.W.Frag) : R2 := fun x y H Q => ∃ p xs i v, x = .ref p ∧ y = .int i ∧ SqL K H p xs ∧ atI xs i = some v ∧ Q v H
def rIxT (K : PySem.W.Frag) : R2 := fun x y H Q => ∃ p xs i v, x = .ref p ∧ y = .int i ∧ SqT K H p xs ∧ atI xs i = some v ∧ Q v H
def rIxS : R2 := fun x y H Q => ∃ z i c, x = .str z ∧ y = .int i ∧ z.length ≤ sizeLine ∧ atI z.cps.toList i = some c ∧ Q (.str ⟨#[c]⟩) H
theorem ix_list : IxR X (rIxL X.K) := by
  intro value slice pins s σ H x y v u Q I rx ry h hs
  obtain ⟨p, xs, i, z, rfl, rfl, hq, he, q⟩ := h
  cases rx
  obtain ⟨t, rfl⟩ := ry
  obtain ⟨its, r, pl, hz⟩ := I.list hq
  obtain ⟨j, h1, h2, h3, h4, h5⟩ := atI_get he
  obtain ⟨w, ew, rw'⟩ := r.get h2
  have hl := r.length
  have hn := line63
  have fin : EP X pins σ Q w s := ⟨z, H, I, rw', q⟩
  by_cases h0 : 0 ≤ i
  · have hj : i.toNat = j := by
      rw [seqIndex_of h0 h5] at h1
      exact Option.some.inj h1
    exact item_listR pl.isList h0 (by omega) (by rw [hj]; simpa using ew) fin hs
  · have hj : (i + (its.toArray.size : Int)).toNat = j := by
      rw [seqIndex_neg (by omega) h4] at h1
      rw [List.size_toArray, ← hl]
      exact Option.some.inj h1
    exact subscriptTail_builtinR (x := w) pl.isList.typeIs slot_list_getitem.lookup
      (wpAny_getItem_list_neg (Q := fun r s' => r = w ∧ EP X pins σ Q r s') pl.isList (by omega) (by rw [List.size_toArray] <;> omega) (by omega) (by rw [hj]; simpa using ew) ⟨rfl, fin⟩) hs
theorem ix_tup : IxR X (rIxT X.K) := by
  intro value slice pins s σ H x y v u Q I rx ry h hs
  obtain ⟨p, xs, i, z, rfl, rfl, hq, he, q⟩ := h
  cases rx
  obtain ⟨t, rfl⟩ := ry
  obtain ⟨its, r, pl, hz⟩ := I.tuple hq
  obtain ⟨j, h1, h2, h3, h4, h5⟩ := atI_get he
  obtain ⟨w, ew, rw'⟩ := r.get h2
  have hl := r.length
  have hn := line63
  have fin : EP X pins σ Q w s := ⟨z, H, I, rw', q⟩
  exact subscriptTail_builtinR (x := w) pl.typeIs slot_tuple_getitem.lookup
    (getItem_tuple (j := j) (Q := fun r s' => r = w ∧ EP X pins σ Q r s') pl (by omega) (by omega) (by rw [List.size_toArray, ← hl]; exact h1) (by simpa using ew) ⟨rfl, fin⟩) hs
theorem ix_str : IxR X rIxS := by
  intro value slice pins s σ H x y v u Q I rx ry h hs
  obtain ⟨z, i, c, rfl, rfl, hz, he, q⟩ := h
  obtain ⟨t, rfl⟩ := rx
  obtain ⟨t', rfl⟩ := ry
  obtain ⟨j, h1, h2, h3, h4, h5⟩ := atI_get he
  have hl : z.cps.toList.length = z.length := by simp [Str.length]
  rw [hl] at h1 h4 h5
  have hn := line63
  exact tail_any (typeIs_str s z t) slot_str_getitem.lookup (getItem_str (c := c) (by
    have e1 : decide (i < -(2 ^ 63 : Int)) = false := decide_eq_false (by omega)
    have e2 : decide (i ≥ 2 ^ 63) = false := decide_eq_false (by omega)
    rw [e1, e2, Bool.or_false]) (by rw [h1]; simpa using h2) ⟨.str ⟨#[c]⟩, H, I.tok _, ⟨_, rfl⟩, q⟩) hs
theorem mapSeq_set (its : List Value) (n j : Nat) (u : Value) : Obj.mapSeq (·.setIfInBounds j u) { cls := .type "list", data := .seq its.toArray n } = { cls := .type "list", data := .seq (its.set j u).toArray n } := by
  simp [Obj.mapSeq]
theorem Inv.lst {pins : List (Addr × Obj)} {σ : St} {H : Hp} {s : Shared} {p : Addr} {xs : List V} (I : Inv X pins σ H s) (h : H p = some (.lst xs)) :
    ∃ (its : List Value) (n : Nat), Vals xs its ∧ s.heap.get? p = some { cls := .type "list", data := .seq its.toArray n } ∧ xs.length ≤ sizeLine := by
  obtain ⟨z, its, n, r, e⟩ := I.hok p _ h
  exact ⟨its, n, r, e, z⟩
theorem Inv.lstUpd {pins : List (Addr × Obj)} {σ : St} {H : Hp} {s : Shared} {p : Addr} {xs ys : List V} {its its' : List Value} {n n' : Nat} {f : Obj → Obj} (I : Inv X pins σ H s) (h : H p = some (.lst xs))
    (ho : s.heap.get? p = some { cls := .type "list", data := .seq its.toArray n }) (hf : f { cls := .type "list", data := .seq its.toArray n } = { cls := .type "list", data := .seq its'.toArray n' }) (r : Vals ys its') (hz : ys.length ≤ sizeLine) (t : Nat) :
    Inv X pins σ (upd H p (.lst ys)) { s with heap := s.heap.update p f, toks := t } := by
  have e : (s.heap.update p f).get? p = some { cls := .type "list", data := .seq its'.toArray n' } := by
    rw [Heap.get?_update_self f ho (by rw [hf] <;> rfl), hf]
  refine I.write (x := p) (e := p) (by rw [h]; trivial) (.inl rfl) (fun b u hb q => (Heap.get?_update_other _ _ (Ne.symm hb)).trans q) ⟨_, e⟩ ?_
  exact ⟨hz, its', n', r, e⟩
def rSetL : V → V → V → Hp → (Hp → Prop) → Prop := fun o i v H Q => ∃ p xs k j, o = .ref p ∧ i = .int k ∧ H p = some (.lst xs) ∧ ixN xs.length k = some j ∧ Q (upd H p (.lst (xs.set j v)))
theorem set_list : PSet X rSetL := by
  intro pins s σ H o i v ov iv u Q I ro ri rv h
  obtain ⟨p, xs, k, j, rfl, rfl, hp, hj, q⟩ := h
  cases ro
  obtain ⟨t, rfl⟩ := ri
  obtain ⟨its, n, r, ho, hz⟩ := I.lst hp
  obtain ⟨h1, h2, h3, h4⟩ := ixN_seq hj
  have hl := r.length
  have hn := line63
  have I' : Inv X pins σ (upd H p (.lst (xs.set j v))) { s with heap := s.heap.update p (Obj.mapSeq (·.setIfInBounds j u)) } :=
    I.lstUpd hp ho (mapSeq_set its n j u) (r.set rv j) (by rw [List.length_set]; exact hz) s.toks
  by_cases h0 : 0 ≤ k
  · have hk : k.toNat = j := by
      rw [seqIndex_of h0 h4] at h1
      exact Option.some.inj h1
    exact PySem.W.ki_setAt ho h0 (by omega) (by rw [List.size_toArray, ← hl]; exact h4) (by rw [hk]; exact ⟨_, I', q⟩)
  · have hk : (k + (its.toArray.size : Int)).toNat = j := by
      rw [seqIndex_neg (by omega) h3] at h1
      rw [List.size_toArray, ← hl]
      exact Option.some.inj h1
    exact PySem.W.ki_setBack ho (by omega) (by rw [List.size_toArray, ← hl]; exact h3) (by omega) (by rw [hk]; exact ⟨_, I', q⟩)
theorem slice_bounds (lo hi : Option Int) (n : Nat) : (sliceBounds lo hi none n).1 = ((HT.sIx n 0 lo : Nat) : Int) ∧ (sliceBounds lo hi none n).2.1 = ((HT.sIx n n hi : Nat) : Int) ∧ (sliceBounds lo hi none n).2.2 = 1 := by
  refine ⟨?_, ?_, rfl⟩
  · cases lo with
    | none => simp [sliceBounds, HT.sIx]
    | some i =>
      simp only [sliceBounds, HT.sIx, Option.getD_none, show (1 : Int) > 0 by decide, if_true]
      by_cases h : i < 0
      · simp only [h, if_true] <;> omega
      · simp only [h, if_false] <;> omega
  · cases hi with
    | none => simp [sliceBounds, HT.sIx]
    | some i =>
      simp only [sliceBounds, HT.sIx, Option.getD_none, show (1 : Int) > 0 by decide, if_true]
      by_cases h : i < 0
      · simp only [h, if_true] <;> omega
      · simp only [h, if_false] <;> omega
theorem slicePick_cut (its : List Value) (lo hi : Option Int) : slicePick its.toArray lo hi none = ((its.drop (HT.sIx its.length 0 lo)).take (HT.sIx its.length its.length hi - HT.sIx its.length 0 lo)).toArray := by
  obtain ⟨h1, h2, h3⟩ := slice_bounds lo hi its.toArray.size
  unfold slicePick
  rw [h1, h2, h3]
  simp only [sliceRange_one, pick_run, List.size_toArray] <;> rfl
def rSlL (K : PySem.W.Frag) : V → Option Int → Option Int → Hp → VK → Prop := fun x lo hi H Q => ∃ a xs, x = .ref a ∧ SqL K H a xs ∧ ∀ p, H p = none → Q (.ref p) (upd H p (.lst (cutV xs lo hi)))
theorem sl_list : SlR X (rSlL X.K) := by
  intro pins s σ H x v vl vu lo hi sl Q I rx hs pl pu h
  obtain ⟨a, xs, rfl, hx, q⟩ := h
  cases rx
  obtain ⟨its, r, ht, hz⟩ := I.list hx
  have hlen := r.length
  refine ⟨"list", _, slot_list_getitem.lookup, ht.isList.typeIs, ?_⟩
  refine wpAny_getItem_list_slice ht.isList hs pl pu .none (by simp) ?_ (by rw [List.size_toArray] <;> omega)
  rw [slicePick_cut, ← hlen]
  refine ⟨.ref s.heap.objs.size, _, I.laid (t' := s.toks) (o := .lst (cutV xs lo hi)) (fun b ob q => Heap.get?_push_of_some _ q) (Nat.le_refl _) ?_, rfl, q _ (I.hok.fresh (Nat.le_refl _))⟩
  exact ⟨Nat.le_trans (cutV_length xs lo hi) hz, _, 0, (r.drop (HT.sIx xs.length 0 lo)).take (HT.sIx xs.length xs.length hi - HT.sIx xs.length 0 lo), Heap.get?_push_size _ rfl⟩
def flatV : V → Bool
  | .non => true
  | .bl _ => true
  | .int _ => true
  | .str _ => true
  | _ => false
def eqV : V → V → Bool
  | .non, .non => true
  | .bl a, .bl b => a == b
  | .bl a, .int b => (if a then 1 else 0) == b
  | .int a, .bl b => a == (if b then 1 else 0)
  | .int a, .int b => a == b
  | .str a, .str b => a == b
  | _, _ => false
theorem eqAt_V {A : Around} {s : Shared} {y x : V} {u v : Value} (ry : RelV y u) (rx : RelV x v) (fy : flatV y = true) (fx : flatV x = true) : SeqAt.EqAt A s u v (eqV y x) := by
  cases y with
  | non =>
    cases ry
    cases x with
    | non => cases rx; exact SeqAt.EqAt.same _
    | bl b => cases rx; exact SeqAt.EqAt.none_bool b
    | int b => obtain ⟨t, rfl⟩ := rx; exact SeqAt.EqAt.none_int b t
    | str b => obtain ⟨t, rfl⟩ := rx; exact SeqAt.EqAt.none_str b t
    | _ => exact absurd (show false = true from fx) Bool.false_ne_true
  | bl a =>
    cases ry
    cases x with
    | non => cases rx; exact SeqAt.EqAt.bool_none a
    | bl b => cases rx; exact SeqAt.EqAt.bool_bool a b
    | int b => obtain ⟨t, rfl⟩ := rx; exact SeqAt.EqAt.bool_int a b t
    | str b => obtain ⟨t, rfl⟩ := rx; exact SeqAt.EqAt.bool_str a b t
    | _ => exact absurd (show false = true from fx) Bool.false_ne_true
  | int a =>
    obtain ⟨t', rfl⟩ := ry
    cases x with
    | non => cases rx; exact SeqAt.EqAt.int_none a t'
    | bl b => cases rx; exact SeqAt.EqAt.int_bool a t' b
    | int b => obtain ⟨t, rfl⟩ := rx; exact SeqAt.EqAt.int_int a t' b t
    | str b => obtain ⟨t, rfl⟩ := rx; exact SeqAt.EqAt.int_str a t' b t
    | _ => exact absurd (show false = true from fx) Bool.false_ne_true
  | str a =>
    obtain ⟨t', rfl⟩ := ry
    cases x with
    | non => cases rx; exact SeqAt.EqAt.str_none a t'
    | bl b => cases rx; exact SeqAt.EqAt.str_bool a t' b
    | int b => obtain ⟨t, rfl⟩ := rx; exact SeqAt.EqAt.str_int a t' b t
    | str b => obtain ⟨t, rfl⟩ := rx; exact SeqAt.EqAt.str_str a t' b t
    | _ => exact absurd (show false = true from fx) Bool.false_ne_true
  | _ => exact absurd (show false = true from fy) Bool.false_ne_true
def eqU (x : V) (u : Value) : Bool := match u with
  | .none => eqV .non x
  | .bool b => eqV (.bl b) x
  | .int i _ => eqV (.int i) x
  | .str z _ => eqV (.str z) x
  | _ => false
theorem eqU_of {x y : V} {u : Value} (r : RelV y u) (f : flatV y = true) : eqU x u = eqV y x := by
  cases y with
  | non => cases r; rfl
  | bl b => cases r; rfl
  | int i => obtain ⟨t, rfl⟩ := r; rfl
  | str z => obtain ⟨t, rfl⟩ := r; rfl
  | _ => exact absurd (show false = true from f) Bool.false_ne_true
theorem any_eqU {x : V} : ∀ {xs : List V} {us : List Value}, Vals xs us → xs.all flatV = true → us.any (eqU x) = xs.any fun y => eqV y x
  | _, _, .nil, _ => rfl
  | y :: xs, u :: us, .cons r t, f => by
    rw [List.all_cons, Bool.and_eq_true] at f
    rw [List.any_cons, List.any_cons, eqU_of r f.1, any_eqU t f.2]
theorem mem_eqAt {A : Around} {s : Shared} {x : V} {v : Value} (rx : RelV x v) (fx : flatV x = true) : ∀ {xs : List V} {us : List Value}, Vals xs us → xs.all flatV = true → ∀ u ∈ us, SeqAt.EqAt A s u v (eqU x u)
  | _, _, .nil, _ => fun u hu => by cases hu
  | y :: xs, u :: us, .cons r t, f => fun u' hu => by
    rw [List.all_cons, Bool.and_eq_true] at f
    rcases List.mem_cons.mp hu with rfl | hu
    · rw [eqU_of r f.1]; exact eqAt_V r rx f.1 fx
    · exact mem_eqAt rx fx t f.2 u' hu
def inV (x : V) (xs : List V) : Bool := xs.any fun y => eqV y x
def rIn (K : PySem.W.Frag) (neg : Bool) : R2 := fun x y H Q => ∃ p xs, y = .ref p ∧ (SqL K H p xs ∨ SqT K H p xs) ∧ flatV x = true ∧ xs.all flatV = true ∧ Q (.bl (if neg then !inV x xs else inV x xs)) H
theorem op_in_seq : OpR X (compareOp .In) (rIn X.K false) := by
  intro pins s σ H x y v u Q I rx ry h
  obtain ⟨p, xs, rfl, hq, fx, fs, q⟩ := h
  cases ry
  rcases hq with hq | hq
  · obtain ⟨its, r, pl, hz⟩ := I.list hq
    refine SeqAt.in_listAt (eqU x) pl.isList (fun w hw => mem_eqAt rx fx r fs w (by simpa using hw)) ⟨.bl _, H, I, rfl, ?_⟩
    rw [show its.toArray.any (eqU x) = its.any (eqU x) by simp, any_eqU r fs]
    exact q
  · obtain ⟨its, r, pl, hz⟩ := I.tuple hq
    refine SeqAt.in_tupleAt (eqU x) pl (fun w hw => mem_eqAt rx fx r fs w (by simpa using hw)) ⟨.bl _, H, I, rfl, ?_⟩
    rw [show its.toArray.any (eqU x) = its.any (eqU x) by simp, any_eqU r fs]
    exact q
theorem call_len_seq : CallR X (.builtin "len") (fun xs H Q => ∃ p ys, xs = [.ref p] ∧ (SqL X.K H p ys ∨ SqT X.K H p ys) ∧ Q (.int ys.length) H) := by
  intro pins s σ H xs us Q I r h
  obtain ⟨p, ys, rfl, hq, q⟩ := h
  obtain ⟨u, rfl, rx⟩ := vals1 r
  cases rx
  have hn := line63
  rcases hq with hq | hq
  · obtain ⟨its, r', pl, hz⟩ := I.list hq
    have hlen := r'.length
    exact Calls.call_len_list pl.isList (by simp only [List.size_toArray] <;> omega) ⟨.int ys.length, H, I.tok _, ⟨s.toks + 1, by rw [List.size_toArray, hlen]⟩, q⟩
  · obtain ⟨its, r', pl, hz⟩ := I.tuple hq
    have hlen := r'.length
    exact len_tuple pl (by simp only [List.size_toArray] <;> omega) ⟨.int ys.length, H, I.tok _, ⟨s.toks + 1, by rw [List.size_toArray, hlen]⟩, q⟩
theorem call_len_str : CallR X (.builtin "len") (fun xs H Q => ∃ z, xs = [.str z] ∧ z.length ≤ sizeLine ∧ Q (.int z.length) H) := by
  intro pins s σ H xs us Q I r h
  obtain ⟨z, rfl, hz, q⟩ := h
  obtain ⟨u, rfl, t, rfl⟩ := vals1 r
  have hn := line63
  exact len_str (by omega) ⟨.int z.length, H, I.tok _, ⟨_, rfl⟩, q⟩
def tyV (K : PySem.W.Frag) (T : String) (x : V) (H : Hp) : Prop := match x with
  | .str _ => T = "str"
  | .int _ => T = "int"
  | .ref p => (T = "list" ∧ ∃ xs, SqL K H p xs) ∨ (T = "tuple" ∧ ∃ o, K.lookup p = some o ∧ o.cls = .type "tuple" ∧ o.dict = none) ∨
      (T = "dict" ∧ ((∃ kvs, H p = some (.dK kvs)) ∨ ∃ kvs, H p = some (.dT kvs))) ∨ (T = "set" ∧ ∃ S n, H p = some (.set S n))
  | _ => False
theorem tyV_is {pins : List (Addr × Obj)} {σ : St} {H : Hp} {s : Shared} {T : String} {x : V} {v : Value} (I : Inv X pins σ H s) (r : RelV x v) (ty : tyV X.K T x H) :
    s.TypeIs v T ∧ ∀ a, v = .ref a → ∃ ob, s.heap.get? a = some ob ∧ ob.dict = none := by
  cases x with
  | str z =>
    obtain ⟨t, rfl⟩ := r
    cases (show T = "str" from ty)
    exact ⟨typeIs_str s z t, fun _ e => nomatch e⟩
  | int i =>
    obtain ⟨t, rfl⟩ := r
    cases (show T = "int" from ty)
    exact ⟨typeIs_int s i t, fun _ e => nomatch e⟩
  | ref p =>
    cases r
    rcases ty with ⟨rfl, xs, hq⟩ | ⟨rfl, o, hk, hc, hd⟩ | ⟨rfl, hk⟩ | ⟨rfl, S, n, hk⟩
    · obtain ⟨its, _, pl, _⟩ := I.list hq
      refine ⟨pl.isList.typeIs, fun a e => ?_⟩
      cases e
      obtain ⟨o, n, e, c, hd, _⟩ := pl
      exact ⟨o, e, hd⟩
    · refine ⟨⟨o, I.kIn p o hk, hc⟩, fun a e => ?_⟩
      cases e
      exact ⟨o, I.kIn _ o hk, hd⟩
    · have z : ∃ o, s.heap.get? p = some o ∧ o.ExactDict := by
        rcases hk with ⟨kvs, hk⟩ | ⟨kvs, hk⟩
        · obtain ⟨_, _, _, _, o, _, _, e, ex, _⟩ := I.hok p _ hk
          exact ⟨o, e, ex⟩
        · obtain ⟨_, _, _, _, o, _, _, e, ex, _⟩ := I.hok p _ hk
          exact ⟨o, e, ex⟩
      obtain ⟨o, e, ex⟩ := z
      refine ⟨⟨o, e, ex.1⟩, fun a e2 => ?_⟩
      cases e2
      exact ⟨o, e, ex.2.1⟩
    · obtain ⟨o, _, _, _, e, ex, _⟩ := I.hok p _ hk
      refine ⟨⟨o, e, ex.1⟩, fun a e2 => ?_⟩
      cases e2
      exact ⟨o, e, ex.2.1⟩
  | _ => exact False.elim ty
def tBM0 (K : PySem.W.Frag) (T : String) (r : V → List V → Hp → VK → Prop) (to : TE) : TE := fun σ H Q => to σ H fun x H1 => tyV K T x H1 ∧ r x [] H1 Q
def tBM (K : PySem.W.Frag) (T : String) (r : V → List V → Hp → VK → Prop) (to : TE) (t : TA) : TE := fun σ H Q => to σ H fun x H1 => tyV K T x H1 ∧ t σ H1 fun xs H2 => r x xs H2 Q
variable {o e : Expr} {es : List Expr} {to : TE} {t : TA} {name : Str} {apos cpos : Pos} {T id : String} {r : V → List V → Hp → VK → Prop}
theorem pe_bm0 (pa : PlainAttrs T) (slot : Slot T name id) (hty : typeOf (.builtin id) = pure (.type "method_descriptor")) (hm : MtR X id r) (ho : PE X o to)
    (hbase : attributeBase o name X.env (eval o X.env) = eval o X.env := by rfl) (hline : (apos.endLine == cpos.line) = true := by rfl) : PE X (.Call (.Attribute o name apos) [] [] cpos) (tBM0 X.K T r to) := by
  intro pins s σ H Q I h
  refine wpAny_Call_method0_late hbase hline (thn (ho pins s σ H _ I h) fun v s1 ⟨x, H1, I1, r1, ty, q1⟩ => ?_)
  obtain ⟨h1, h2⟩ := tyV_is I1 r1 ty
  exact ⟨T, id, pa, slot, hty, h1, h2, Calls.callWith_builtin rfl (PySem.evalArgs_none (hm pins s1 σ H1 x [] v [] Q I1 r1 .nil q1))⟩
theorem pe_bm (pa : PlainAttrs T) (slot : Slot T name id) (hty : typeOf (.builtin id) = pure (.type "method_descriptor")) (hm : MtR X id r) (ho : PE X o to) (ha : PA X (e :: es) t)
    (hbase : attributeBase o name X.env (eval o X.env) = eval o X.env := by rfl)
    (hfew : ((backTo cpos (starEach (e :: es) X.env)).all (fun x => !x.1) && (backToKw cpos (keywordEach [] X.env)).all (fun x => x.1.isSome)
      && decide ((e :: es).length + ([] : List Keyword).length + (if ([] : List Keyword).isEmpty then 0 else 1) < 30)) = true := by rfl)
    (hline : (apos.endLine == cpos.line) = true := by rfl) (hs : starEach (e :: es) X.env = (false, eval e X.env) :: starEach es X.env := by rfl) (hplain : (backTo cpos (starEach es X.env)).any (·.1) = false := by rfl) :
    PE X (.Call (.Attribute o name apos) (e :: es) [] cpos) (tBM X.K T r to t) := by
  intro pins s σ H Q I h
  refine wpAny_Call_method_late hbase hfew hline rfl (thn (ho pins s σ H _ I h) fun v s1 ⟨x, H1, I1, r1, ty, q1⟩ => ?_)
  obtain ⟨h1, h2⟩ := tyV_is I1 r1 ty
  refine ⟨T, id, pa, slot, hty, h1, h2, ?_⟩
  have hA := ha cpos pins s1 σ H1 _ I1 q1
  rw [hs] at hA ⊢
  refine Calls.callWith_builtin (by show (false || (backTo cpos (starEach es X.env)).any (·.1)) = false; rw [hplain] <;> rfl) (Calls.evalArgs_plain ?_)
  exact thn hA fun us s2 ⟨vs, H2, I2, r2, q2⟩ => hm pins s2 σ H2 x vs v us Q I2 r1 r2 q2
end
end L2
namespace L2
open PySem PySem.Spec PyProof.Rows
def MtM (X : Cx) (id : String) (r : V → List V → Hp → VK → Prop) : Prop :=
  ∀ (pins : List (Addr × Obj)) (s : Shared) (σ : St) (H : Hp) (x : V) (xs : List V) (v : Value) (us : List Value) (Q : VK), Inv X pins σ H s → RelV x v → Vals xs us → r x xs H Q →
    wpAny (model X.prog X.w) X.A (call (.builtin id) (v :: us)) (EP X pins σ Q) X.xe s
theorem Vals.one : ∀ {x : V} {us : List Value}, Vals [x] us → ∃ u, us = [u] ∧ RelV x u
  | _, _, .cons r .nil => ⟨_, rfl, r⟩
theorem Vals.rep {xs : List V} {us : List Value} (h : Vals xs us) : ∀ k : Nat, Vals (List.replicate k xs).flatten (List.replicate k us).flatten
  | 0 => .nil
  | k + 1 => by
    rw [List.replicate_succ, List.replicate_succ, List.flatten_cons, List.flatten_cons]
    exact Vals.append h (Vals.rep h k)
theorem foldl_rep (its : List Value) : ∀ (k : Nat) (acc : List Value),
    List.foldl (fun x1 x2 => x1 ++ x2) acc.toArray (List.replicate k its.toArray) = (acc ++ (List.replicate k its).flatten).toArray
  | 0, acc => by simp
  | k + 1, acc => by
    have e : acc.toArray ++ its.toArray = (acc ++ its).toArray := by simp
    have e2 : (acc ++ its) ++ (List.replicate k its).flatten = acc ++ (List.replicate (k + 1) its).flatten := by
      rw [List.replicate_succ, List.flatten_cons, List.append_assoc]
    rw [← e2, ← foldl_rep its k (acc ++ its), ← e, List.replicate_succ, List.foldl_cons]
section
variable {X : Cx} {pins : List (Addr × Obj)} {σ : St} {H : Hp} {s : Shared} {l b : Addr} {xs ys zs : List V}
theorem Inv.lset {its its' : List Value} {n : Nat} {f : Array Value → Array Value} {t' : Nat} (I : Inv X pins σ H s) (hH : H l = some (.lst xs))
    (e : s.heap.get? l = some { cls := .type "list", data := .seq its.toArray n }) (hf : f its.toArray = its'.toArray) (hv : Vals ys its') (hz : ys.length ≤ sizeLine) :
    Inv X pins σ (upd H l (.lst ys)) { s with heap := s.heap.update l (Obj.mapSeq f), toks := t' } := by
  have q := PySem.IsL.update e f
  rw [hf] at q
  refine I.write (x := l) (e := l) (by rw [hH]; exact trivial) (.inl rfl) (fun b' u hb hu => (Heap.get?_update_other s.heap (Obj.mapSeq f) (Ne.symm hb)).trans hu) ⟨_, q⟩ ?_
  exact ⟨hz, its', _, hv, q⟩
theorem Inv.lnew {its : List Value} {t' : Nat} (I : Inv X pins σ H s) (hv : Vals ys its) (hz : ys.length ≤ sizeLine) :
    Inv X pins σ (upd H s.heap.objs.size (.lst ys)) { s with heap := s.heap.push { cls := .type "list", data := .seq its.toArray }, toks := t' } :=
  I.laid (fun _ _ q => Heap.get?_push_of_some _ q) (Nat.le_refl _) ⟨hz, its, 0, hv, Heap.get?_push_size _ rfl⟩
theorem Inv.fresh (I : Inv X pins σ H s) : H s.heap.objs.size = none := I.hok.fresh (Nat.le_refl _)
theorem Inv.lstM (I : Inv X pins σ H s) (hH : H l = some (.lst xs)) : xs.length ≤ sizeLine ∧ ∃ (its : List Value) (n : Nat), Vals xs its ∧ xs.length = its.length ∧ s.heap.get? l = some { cls := .type "list", data := .seq its.toArray n } := by
  obtain ⟨z, its, n, r, e⟩ := I.hok l _ hH
  exact ⟨z, its, n, r, r.length, e⟩
theorem notLongL {n : Nat} (h : n ≤ sizeLine) : Builtin.List.listTooLong n = false := by
  unfold Builtin.List.listTooLong
  exact decide_eq_false (by omega)
end
section
variable {X : Cx}
def rAppend : V → List V → Hp → VK → Prop := fun x vs H Q => ∃ l xs y, x = .ref l ∧ vs = [y] ∧ H l = some (.lst xs) ∧ xs.length < sizeLine ∧ Q .non (upd H l (.lst (xs ++ [y])))
theorem mt_append : MtM X "list.append" rAppend := by
  intro pins s σ H x vs v us Q I rx rv h
  obtain ⟨l, xs, y, rfl, rfl, hH, hz, q⟩ := h
  cases rx
  obtain ⟨u, rfl, ru⟩ := rv.one
  obtain ⟨z, its, n, r, hl, e⟩ := I.lstM hH
  refine call_meets F.slot_list_append ⟨_, e, rfl⟩ F.entry_list_append (F.args_list_append_2 _ _) (PySem.list_append l its.toArray n u (by rw [List.size_toArray]; omega)) ⟨e, ?_⟩
  refine ⟨.non, _, I.lset (its' := its ++ [u]) hH e (by simp) (r.append (.cons ru .nil)) ?_, rfl, q⟩
  rw [List.length_append, List.length_singleton]
  omega
def rExtend : V → List V → Hp → VK → Prop := fun x vs H Q => ∃ l b xs zs, x = .ref l ∧ vs = [.ref b] ∧ H l = some (.lst xs) ∧ H b = some (.lst zs) ∧ xs.length + zs.length ≤ sizeLine ∧ Q .non (upd H l (.lst (xs ++ zs)))
theorem mt_extend : MtM X "list.extend" rExtend := by
  intro pins s σ H x vs v us Q I rx rv h
  obtain ⟨l, b, xs, zs, rfl, rfl, hH, hB, hz, q⟩ := h
  cases rx
  obtain ⟨u, rfl, ru⟩ := rv.one
  cases ru
  obtain ⟨z, its, n, r, hl, e⟩ := I.lstM hH
  obtain ⟨z2, its2, n2, r2, hl2, e2⟩ := I.lstM hB
  have hsz : its.toArray.size + its2.toArray.size ≤ sizeLine := by rw [List.size_toArray, List.size_toArray]; omega
  have hlong : ¬ (!its.toArray.isEmpty && Builtin.List.listTooLong (its.toArray.size + its2.toArray.size)) = true := by
    rw [notLongL hsz, Bool.and_false]
    exact Bool.false_ne_true
  refine call_meets F.slot_list_extend ⟨_, e, rfl⟩ F.entry_list_extend (F.args_list_extend_2 _ _)
    (AutoSeq1.list_extend_list_list_0 l its.toArray n b its2.toArray n2 hlong (by rw [List.size_toArray]; omega) (by omega)) ⟨e, e2, ?_⟩
  refine ⟨.non, _, I.lset (its' := its ++ its2) hH e (by simp) (r.append r2) ?_, rfl, q⟩
  rw [List.length_append]
  omega
def rCat : R2 := fun x y H Q => ∃ l b xs zs, x = .ref l ∧ y = .ref b ∧ H l = some (.lst xs) ∧ H b = some (.lst zs) ∧ xs.length + zs.length ≤ sizeLine ∧ ∀ p, H p = none → Q (.ref p) (upd H p (.lst (xs ++ zs)))
theorem op_cat : OpR X (binaryOp .Add) rCat := by
  intro pins s σ H x y v u Q I rx ry h
  obtain ⟨l, b, xs, zs, rfl, rfl, hH, hB, hz, q⟩ := h
  cases rx
  cases ry
  obtain ⟨z, its, n, r, hl, e⟩ := I.lstM hH
  obtain ⟨z2, its2, n2, r2, hl2, e2⟩ := I.lstM hB
  refine PySem.P.add_list e e2 ?_ (by rw [List.size_toArray, List.size_toArray]; omega)
  have ea : its.toArray ++ its2.toArray = (its ++ its2).toArray := by simp
  rw [ea]
  exact ⟨.ref _, _, I.lnew (t' := s.toks) (r.append r2) (by rw [List.length_append]; omega), rfl, q _ I.fresh⟩
def rRep : R2 := fun x y H Q => ∃ l k xs, x = .ref l ∧ y = .int k ∧ H l = some (.lst xs) ∧ -(2 ^ 63) ≤ k ∧ k < 2 ^ 63 ∧ xs.length * k.toNat ≤ sizeLine ∧
  ∀ p, H p = none → Q (.ref p) (upd H p (.lst (List.replicate k.toNat xs).flatten))
theorem len_rep {α : Type} (xs : List α) (k : Nat) : (List.replicate k xs).flatten.length = k * xs.length := by
  induction k with
  | zero => simp
  | succ k ih => rw [List.replicate_succ, List.flatten_cons, List.length_append, ih, Nat.succ_mul, Nat.add_comm]
theorem op_rep : OpR X (binaryOp .Mult) rRep := by
  intro pins s σ H x y v u Q I rx ry h
  obtain ⟨l, k, xs, rfl, rfl, hH, h1, h2, hz, q⟩ := h
  cases rx
  obtain ⟨t, rfl⟩ := ry
  obtain ⟨z, its, n, r, hl, e⟩ := I.lstM hH
  have hlen : its.toArray.size * k.toNat ≤ sizeLine := by rw [List.size_toArray, ← hl]; exact hz
  have hcap : ¬ its.toArray.size * k.toNat > (2 ^ 63 - 1) / 8 := by
    have : (sizeLine : Nat) ≤ (2 ^ 63 - 1) / 8 := by decide
    omega
  have hfit : ¬ (!Builtin.List.listFitsIndex k) = true := by
    rw [fitsIndex_both h1 h2]
    exact Bool.false_ne_true
  have hlong : ¬ Builtin.List.listTooLong (its.toArray.size * k.toNat) = true := by
    rw [notLongL hlen]
    exact Bool.false_ne_true
  have hnew : List.foldl (fun x1 x2 => x1 ++ x2) #[] (List.replicate (if its.toArray.isEmpty = true then 0 else k.toNat) its.toArray) = (List.replicate k.toNat its).flatten.toArray := by
    have f0 : ∀ m : Nat, List.foldl (fun x1 x2 => x1 ++ x2) #[] (List.replicate m its.toArray) = (List.replicate m its).flatten.toArray := fun m => by
      have := foldl_rep its m []
      rw [List.nil_append] at this
      exact this
    rw [f0]
    cases its with
    | nil => simp
    | cons a r' => rw [if_neg (by simp)]
  refine wpAny_binaryOp_repeat_ref (T := "list") (U := "int") (by decide) ⟨_, e, rfl⟩ (fun s' => typeIs_int s' k t) noFill_list_mul F.fills_int_mul F.slot_int_rmul repeat_list F.slot_int_index.lookup
    (call_meets F.slot_int_rmul (typeIs_int s k t) F.entry_int_rmul (F.args_int_rmul_2 _ _) (int___rmul___int_list k t l its.toArray n)
      ⟨e, rfl, ⟨_, e, rfl⟩, call_meets F.slot_list_mul ⟨_, e, rfl⟩ F.entry_list_mul (F.args_list_mul_2 _ _) (AutoListH.list___mul___list_int_3 l its.toArray n k t hfit hcap hlong) ⟨e, ?_⟩⟩)
  rw [hnew]
  exact ⟨.ref _, _, I.lnew (t' := s.toks) (r.rep k.toNat) (by rw [len_rep, Nat.mul_comm]; exact hz), rfl, q _ I.fresh⟩
end
section
variable {prog : Program} {w : World} {A : Around} {E : Value → Shared → Prop} {s : Shared}
end
section
variable {X : Cx}
end
end L2
namespace Att
open PySem PySem.W PySem.Calls PyProof.Rows
theorem ints_of_wellAll {P : Params} {h : Heap} : ∀ (ns : List Int) (vs : List Value), WellAll P h vs (ns.map WData.int) → IntsAre vs ns := by
  intro ns
  induction ns with
  | nil =>
    intro vs w
    rw [List.map_nil] at w
    cases w
    exact .nil
  | cons n ns ih =>
    intro vs w
    rw [List.map_cons] at w
    cases w with
    | cons a b =>
      cases a
      exact .cons _ _ (ih _ b)
theorem script_of {l : OpenLaw} {n : Nat} (hn : l.most = some n) {P : Params} {h : Heap} {args : List WData} {vals : List Value}
    (hpre : l.row.toRowW.claim.pre args = true) (hwl : WellAll P h vals args) :
    ∃ a vs ns, vals = [Value.ref a] ∧ args = [WData.list (ns.map WData.int)] ∧ h.get? a = some { cls := .type "list", data := .seq vs.toArray } ∧ IntsAre vs ns ∧ ns.length ≤ n := by
  have hsh : WShape.hasAll [] args [.list .int] = true := (pre_splitW hpre).1
  have hc : l.pre.holds [] { args := args } = true := (pre_splitW hpre).2
  obtain ⟨d, r, rfl, h1, h2⟩ := hasAllW_cons hsh
  obtain rfl := hasAllW_nil h2
  obtain ⟨xs, rfl, h3⟩ := hasW_list h1
  obtain ⟨ns, rfl⟩ := items_int h3
  have hlen : ns.length ≤ n := by
    unfold OpenLaw.pre at hc
    have h4 : (WTm.not (.lt (.lit (.int (n : Int))) (.len (.arg 0)))).holds [] { args := [.list (ns.map .int)] } = true := by
      have h4 := (holds_andW hc).1
      rw [hn] at h4
      exact h4
    have h5 := condW_of h4 (w_not (w_lt w_lit (w_len_list (w_arg rfl))))
    rw [List.length_map] at h5
    refine Nat.le_of_not_lt fun q => ?_
    have q' : (n : Int) < ((ns.length : Nat) : Int) := by omega
    first
      | (rw [decide_eq_true q'] at h5; exact absurd h5 (by decide))
      | (simp at h5; omega)
  cases hwl with
  | cons w1 w2 =>
    cases w2
    cases w1 with
    | list ho hall => exact ⟨_, _, ns, rfl, rfl, ho, ints_of_wellAll ns _ hall, hlen⟩
theorem post_true (l : OpenLaw) (args : List WData) : l.row.toRowW.claim.post args (.bool true) args = true :=
  postW_of (r := l.row.toRowW) (X := (true == true))
    (show WShape.has [] (.bool true) .bool = true by first | rfl | decide | simp [WShape.has, WShape.arms, WShape.armsAll])
    (show (WTm.eq .res (.lit (.bool true))).value [] { args := args, res := some (.bool true), after := args } = some (.bool (true == true)) from w_eq_bool (w_res rfl) w_lit) rfl
theorem attach_call {l : OpenLaw} {n : Nat} {q : Program} {loose : List Str} {XP : (Str → Option Value) → Heap → Prop} {YP : World → Heap → Prop} {d : DefRec}
    (hn : l.most = some n) (hdf : d.params.defaults = [])
    (call : ∀ (w : World) (s₀ s₁ : Shared) (mg mb : Str → Option Value) (fa : Addr) (o : Obj) (pm cd doc : Value) (a : Addr) (vs : List Value) (ns : List Int),
      Ground q loose [] XP w s₀ mg mb s₁.heap → YP w s₁.heap →
      s₁.heap.get? fa = some o → o.data = .func (docDef d.name d.params d.body d.scope pm cd doc) → s₁.heap.CodeRec cd d.name → mg d.name = some (.ref fa) →
      s₁.heap.get? a = some { cls := .type "list", data := .seq vs.toArray } → IntsAre vs ns → ns.length ≤ n → s₁.gens = #[] →
      codeAny (model l.prog w) callerA (.call (.ref fa) ⟨[.ref a], []⟩) (fun r s' => r = .ok (.ret (.bool true)) ∧ OldK s₁.heap s'.heap ∧ s'.os = s₁.os ∧ AllBare s'.gens) s₁) :
    WalkO q loose XP YP l.row.toRowW d [] (fun f vs => PySem.call f vs) := by
  intro w s₀ s₁ mg mb G Y fa o pm cd doc dV kV ho hd hcd hD hmg hg args vals as hpre hlay hrd hwl hlo
  obtain rfl : dV = .none := Dflts.none hD hdf
  obtain rfl : kV = .none := Dflts.noKw hD
  obtain ⟨a, vs, ns, rfl, rfl, hobj, hints, hlen⟩ := script_of hn hpre hwl
  refine enter_call (codeAny_mono (call w s₀ s₁ mg mb fa o pm cd doc a vs ns G Y ho (fd_plain hd) hcd hmg hobj hints hlen hg) fun r s' hq => ?_)
  obtain ⟨rfl, h2, h3, h4⟩ := hq
  exact ⟨.inl ⟨.bool true, .bool true, [], rfl, fun _ => rfl, .bool true, post_true l _, fun _ => ⟨List.Pairwise.nil, fun _ hm => (nomatch hm)⟩⟩, h2, h3, h4⟩
section
variable {prog : Program} {w : World} {A : Around} {E : Value → Shared → Prop} {s : Shared} {K : Frag}
end
end Att
namespace L2
open PySem PySem.Spec PyProof.Rows
theorem vals_ints : ∀ {vs : List Value} {ns : List Int}, IntsAre vs ns → Vals (ns.map V.int) vs
  | _, _, .nil => .nil
  | _, _, .cons n t h => .cons ⟨t, rfl⟩ (vals_ints h)
def Only (H : Hp) : Prop := ∀ b, H b = none ∨ ∃ o xs, H b = some (.frz o (.lst xs))
theorem law_call {P : Program} {w : World} {K : PySem.W.Frag} {mg mb : Str → Option Value} {CX : CXT} {k : Nat} {fa a : Addr} {fd : FuncData} {x : Str} {sp : Sp} {s₁ : Shared} {vs : List Value} {ns : List Int}
    (KX : K.In s₁.heap) (hns : s₁.heap.Ns mainGlobals mg) (hb : s₁.heap.Ns builtinsNs mb) (hbb : ∀ x : Str, x ≠ "__name__" → mb x = bootBuiltins x) (hlim : s₁.heap.NoLimit) (hg : s₁.gens = #[])
    (ha : s₁.heap.get? a = some { cls := .type "list", data := .seq vs.toArray }) (hi : IntsAre vs ns) (hl : ns.length ≤ sizeLine) (hr : Room k callerA)
    (F : ∀ base : Heap, K.In base → base.Ns mainGlobals mg → FnOk P w K mg base CX k fa fd [x] sp) (hbind : ∀ (s : Shared) (u : Value), BindsTo s fd ⟨[u], []⟩ [(x, u)])
    (hsp : ∀ H : Hp, Only H → SqL K H a (ns.map V.int) → sp [.ref a] H (fun v _ => v = .bl true) fun _ _ _ => False)
    (hCX : ∀ H e s', CX [] H s₁ (fun _ _ _ => False) e s' → False) :
    codeAny (model P w) callerA (.call (.ref fa) ⟨[.ref a], []⟩) (fun r s' => r = .ok (.ret (.bool true)) ∧ OldK s₁.heap s'.heap ∧ s'.os = s₁.os ∧ AllBare s'.gens) s₁ := by
  have rv := vals_ints hi
  have lenV := hi.length
  have core : ∀ H : Hp, Only H → SqL K H a (ns.map V.int) → HOk P w H s₁.heap → (∀ b, H b ≠ none → b = a) → (H a ≠ none → K.lookup a = none) →
      codeAny (model P w) callerA (.call (.ref fa) ⟨[.ref a], []⟩) (fun r s' => r = .ok (.ret (.bool true)) ∧ OldK s₁.heap s'.heap ∧ s'.os = s₁.os ∧ AllBare s'.gens) s₁ := by
    intro H hO hS hok hA hK
    have base_of : ∀ {b : Addr} {o : Obj}, s₁.heap.get? b = some o → H b = none → (hidT s₁.heap H).get? b = some o := fun e n => hidT_get e n
    have noA : ∀ {b : Addr} {o : Obj} {es : Array DictEntry} {ep : Nat}, s₁.heap.get? b = some o → o.data = .dict es ep → H b = none := fun {b o es ep} e d => by
      cases q : H b with
      | none => rfl
      | some u =>
        have e' : b = a := hA b (by rw [q]; simp)
        subst e'
        rw [ha] at e; cases e
        have d' : Data.seq vs.toArray _ = Data.dict es ep := d
        cases d'
    have nsK : ∀ {b : Addr} {m : Str → Option Value}, s₁.heap.Ns b m → (hidT s₁.heap H).Ns b m := fun {b m} ⟨o, es, ep, e, d, r⟩ => ⟨o, es, ep, base_of e (noA e d), d, r⟩
    have hKb : K.In (hidT s₁.heap H) := fun b o e => base_of (KX b o e) (by
      cases q : H b with
      | none => rfl
      | some u =>
        have e' : b = a := hA b (by rw [q]; simp)
        subst e'
        rw [hK (by rw [q]; simp)] at e; cases e)
    have hM : Mod K mg (hidT s₁.heap H) := ⟨hKb, nsK hns, ⟨mb, nsK hb, hbb⟩, let ⟨mc, h1, h2⟩ := hlim; ⟨mc, nsK h1, h2⟩⟩
    have e0 : Env0 P w K mg (hidT s₁.heap H) callerA [] s₁ H := ⟨rfl, hM, fun b o e => of_hidT e, Nat.le_of_eq (hidT_size _ _), trivial, fun b hb => absurd (show b ∈ ([] : List Addr) from hb) (by simp), hok, .of_eq hg, .inl rfl⟩
    refine codeAny_mono ((F _ hKb (nsK hns)).run callerA [] s₁ H ⟨[.ref a], []⟩ [.ref a] [.ref a] _ _ hr e0 (hbind s₁ (.ref a)) (.cons rfl .nil) (hsp H hO hS)) fun r s' h => ?_
    cases r with
    | error e => exact (hCX H e s' h).elim
    | ok fl =>
      cases fl with
      | next => exact False.elim h
      | brk => exact False.elim h
      | cont => exact False.elim h
      | ret u =>
        obtain ⟨v, H', os, bare, un, hok', r', q⟩ := h
        have q' : v = .bl true := q
        subst q'
        obtain rfl : u = Value.bool true := r'
        refine ⟨rfl, OldK.of_keep fun b o e => ?_, os, bare⟩
        cases q : H b with
        | none => exact un.keep b o e q (by intro z; exact absurd (show b ∈ ([] : List Addr) from z) (by simp)) (by simp)
        | some u =>
          rcases hO b with z | ⟨ob, xs, z⟩
          · rw [q] at z; cases z
          · have z2 := un.frzs b ob _ z
            obtain ⟨e1, _⟩ := hok b _ z
            obtain ⟨e2, _⟩ := hok' b _ z2
            rw [e] at e1; cases e1
            exact e2
  cases hk : K.lookup a with
  | some o =>
    have e := KX a o hk
    rw [ha] at e
    cases e
    refine core (fun _ => none) (fun _ => .inl rfl) (.inr ⟨_, vs.toArray, _, hk, rfl, rfl, rfl, by rw [List.size_toArray, lenV]; exact hl, by simpa using rv⟩) (fun b u z => by have z' : (none : Option HO) = some u := z; cases z') (fun b z => absurd rfl z) fun z => absurd rfl z
  | none =>
    refine core (fun b => if b = a then some (.frz { cls := .type "list", data := .seq vs.toArray } (.lst (ns.map V.int))) else none) (fun b => ?_) (.inl (.inr ⟨{ cls := .type "list", data := .seq vs.toArray }, if_pos rfl⟩)) (fun b u z => ?_) (fun b z => ?_) fun _ => hk
    · by_cases hb : b = a
      · exact .inr ⟨_, _, if_pos hb⟩
      · exact .inl (if_neg hb)
    · by_cases hb : b = a
      · have z' := (if_pos hb).symm.trans z
        cases z'
        subst hb
        exact ⟨ha, by rw [List.length_map]; exact hl, vs, _, rv, ha⟩
      · have z' := (if_neg hb).symm.trans z
        cases z'
    · by_cases hb : b = a
      · exact hb
      · exact absurd (if_neg hb) z
end L2
namespace L2
open PySem PySem.Spec PyProof.Rows
abbrev KOf {K : PySem.W.Frag} {h : Heap} (_ : K.In h) : PySem.W.Frag := K
theorem walk_of {l : PySem.W.OpenLaw} {n k : Nat} {q : Program} {loose : List Str} {XP : (Str → Option Value) → Heap → Prop} {YP : World → Heap → Prop} {d : DefRec} {K : Params → PySem.W.Frag} {CX : World → CXT} {sp : World → Sp} {x : Str}
    (hn : l.most = some n) (hn2 : n ≤ sizeLine) (hdf : d.params.defaults = []) (hr : Room k callerA)
    (hY : ∀ (w : World) (h : Heap), YP w h → (K w.params).In h)
    (F : ∀ (w : World) (mg : Str → Option Value) (fa : Addr) (h : Heap), (K w.params).In h → h.Ns mainGlobals mg → mg d.name = some (.ref fa) →
      ∃ fd : FuncData, (∀ (s : Shared) (u : Value), BindsTo s fd ⟨[u], []⟩ [(x, u)]) ∧
        ∀ base : Heap, (K w.params).In base → base.Ns mainGlobals mg → FnOk l.prog w (K w.params) mg base (CX w) k fa fd [x] (sp w))
    (hsp : ∀ (w : World) (H : Hp) (a : Addr) (ns : List Int), ns.length ≤ n → Only H → SqL (K w.params) H a (ns.map V.int) → sp w [.ref a] H (fun v _ => v = .bl true) fun _ _ _ => False)
    (hCX : ∀ (w : World) (H : Hp) (s : Shared) (e : Value) (s' : Shared), CX w [] H s (fun _ _ _ => False) e s' → False) :
    PySem.W.WalkO q loose XP YP l.row.toRowW d [] (fun f vs => PySem.call f vs) := by
  refine Att.attach_call hn hdf fun w s₀ s₁ mg mb fa o pm cd doc a vs ns G Y ho hd hcd hmg hobj hints hlen hg => ?_
  have KX := hY w _ Y
  obtain ⟨fd, hb, hF⟩ := F w mg fa _ KX G.T.g hmg
  exact law_call KX G.T.g G.T.b G.T.builtins G.T.nolimit hg hobj hints (Nat.le_trans hlen hn2) hr hF hb (fun H hO hS => hsp w H a ns hlen hO hS) fun H e s' => hCX w H s₁ e s'
end L2
namespace L2
open PySem PySem.Spec PyProof.Rows
def inClass (s : Stmt) (j : Nat) : Stmt := match s with
  | .ClassDef _ _ _ body _ _ _ _ _ _ _ => body.getD j (.Pass ⟨0, 0, 0, 0⟩)
  | _ => .Pass ⟨0, 0, 0, 0⟩
def defArgs (s : Stmt) : Arguments := match s with
  | .FunctionDef _ a _ _ _ _ _ _ _ _ => a
  | _ => { posonlyargs := [], args := [], vararg := none, kwonlyargs := [], kw_defaults := [], kwarg := none, defaults := [] }
def defBody (s : Stmt) : List Stmt := match s with
  | .FunctionDef _ _ b _ _ _ _ _ _ _ => b
  | _ => []
def defScope (s : Stmt) : Scope := match s with
  | .FunctionDef _ _ _ _ _ _ sc _ _ _ => sc
  | _ => { kind := .function, names := [], isGenerator := false, isCoroutine := false }
structure Fun (K : PySem.W.Frag) (x qual : Str) (st : Stmt) (f : Addr) (fd : FuncData) : Prop where
  ex : ∃ (oc : Value) (od : Option Addr) (kV doc pm : Value) (an : Option Addr) (cdv ct : Value) (osl : Array (Option Value)),
    fd = PySem.W.fnOf x qual (defArgs st) (defBody st) (defScope st) .none kV doc pm an cdv ct ∧ K.lookup f = some ⟨oc, od, .func fd, osl⟩ ∧ PySem.W.codeIn K cdv qual = true
  kp : PySem.W.keepIn K (.ref f) = true
section
variable {P : Program} {w : World} {K : PySem.W.Frag} {mg : Str → Option Value} {base : Heap}
theorem Fun.binds {x qual : Str} {st : Stmt} {f : Addr} {fd : FuncData} {ps : List Str} (F : Fun K x qual st f fd)
    (h : ∀ (kV doc pm : Value) (an : Option Addr) (cdv ct : Value) (us : List Value), us.length = ps.length → bindArgs (PySem.W.fnOf x qual (defArgs st) (defBody st) (defScope st) .none kV doc pm an cdv ct) ⟨us, []⟩ = pure (ps.zip us)) : Binds K fd ps [] := by
  obtain ⟨oc, od, kV, doc, pm, an, cdv, ct, osl, rfl, lk, hcd⟩ := F.ex
  exact .all (h kV doc pm an cdv ct)
theorem fun_mk {x qual : Str} {st : Stmt} {f : Addr} {oc : Value} {od an : Option Addr} {osl : Array (Option Value)} {kV doc pm cdv ct : Value} (l : K.lookup f = some ⟨oc, od, .func (PySem.W.fnOf x qual (defArgs st) (defBody st) (defScope st) .none kV doc pm an cdv ct), osl⟩)
    (c : PySem.W.codeIn K cdv qual = true) (k : PySem.W.keepIn K (.ref f) = true) : Fun K x qual st f (PySem.W.fnOf x qual (defArgs st) (defBody st) (defScope st) .none kV doc pm an cdv ct) := ⟨⟨oc, od, kV, doc, pm, an, cdv, ct, osl, rfl, l, c⟩, k⟩
end
theorem hu_of {A : Around} {k : Nat} (hr : Room k A) : A.units + 1 < cLine := Nat.lt_of_le_of_lt (Nat.add_le_add_left (by decide : 1 ≤ 64) _) hr.units
section
variable {X : Cx}
theorem pv (i : Nat) {x : Str} {pos : Pos} (hN : X.N[i]? = some x := by rfl) (hv : Vis X.env.scope x := by first | exact Or.inl rfl | exact Or.inr (Or.inl rfl) | exact Or.inr (Or.inr rfl)) (hd : (x == ("__debug__" : Str)) = false := by decide)
    (hcd : (x == ("__classdict__" : Str)) = false := by decide) : PE X (.Name x pos) (tVar i) := pe_var hN hv hd hcd
end
theorem iteF {A B : Prop} (h : B) : if false = true then A else B := by
  rw [if_neg Bool.false_ne_true]
  exact h
theorem iteT {A B : Prop} (h : A) : if true = true then A else B := by
  rw [if_pos rfl]
  exact h
def Same (H H' : Hp) : Prop := ∀ b o, H b = some o → H' b = some o
theorem Same.refl (H : Hp) : Same H H := fun _ _ h => h
theorem Same.trans {H H1 H2 : Hp} (a : Same H H1) (b : Same H1 H2) : Same H H2 := fun c o h => b c o (a c o h)
theorem Same.free {H H' : Hp} (e : Same H H') {l : Addr} (h : H' l = Option.none) : H l = Option.none := by
  cases q : H l with
  | none => rfl
  | some o =>
    rw [e l o q] at h
    cases h
theorem Same.seq {K : PySem.W.Frag} {H H' : Hp} {a : Addr} {xs : List V} (e : Same H H') (h : SqL K H a xs) : SqL K H' a xs := by
  rcases h with (h | ⟨o, h⟩) | h
  · exact .inl (.inl (e _ _ h))
  · exact .inl (.inr ⟨o, e _ _ h⟩)
  · exact .inr h
end L2
set_option Elab.async false
set_option linter.all false
set_option maxRecDepth 100000
namespace L2
open PySem PySem.Spec PyProof.Rows
theorem ObjOk.there {P : Program} {w : World} {H : Hp} {h : Heap} {a : Addr} {o : HO} (x : ObjOk P w H h a o) : ∃ u, h.get? a = some u := by
  cases o with
  | lst xs => obtain ⟨_, _, _, _, e⟩ := x; exact ⟨_, e⟩
  | tup xs => obtain ⟨_, _, _, ob, e, _⟩ := x; exact ⟨_, e⟩
  | dK kvs => obtain ⟨_, _, _, _, ob, _, _, e, _⟩ := x; exact ⟨_, e⟩
  | dT kvs => obtain ⟨_, _, _, _, ob, _, _, e, _⟩ := x; exact ⟨_, e⟩
  | set S n => obtain ⟨ob, _, _, _, e, _⟩ := x; exact ⟨_, e⟩
  | ins C dx fs => obtain ⟨_, _, _, e, _⟩ := x; exact ⟨_, e⟩
  | own y => exact x
  | xd fs => obtain ⟨_, ⟨_, _, _, e, _⟩, _⟩ := x; exact ⟨_, e⟩
  | rng lo hi => obtain ⟨_, _, _, e⟩ := x; exact ⟨_, e⟩
  | frz ob u => obtain ⟨e, _⟩ := x; exact ⟨_, e⟩
  | tbl ps => exact ⟨_, (show h.get? a = some _ from x)⟩
  | met f y => exact ⟨_, (show h.get? a = some _ from x)⟩
  | ext φ => obtain ⟨_, e, _⟩ := x; exact e
theorem HOk.free_of {P : Program} {w : World} {H : Hp} {h : Heap} {a : Addr} (x : HOk P w H h) (e : h.get? a = none) : H a = none := by
  cases q : H a with
  | none => rfl
  | some o => obtain ⟨u, z⟩ := (x a o q).there; rw [e] at z; cases z
structure Flies (h0 h : Heap) (H : Hp) (e C : Addr) : Prop where
  ex : ∃ oe vs T oT ts, ∃ a0 : Value × Value, h.get? e = some oe ∧ oe.cls = .ref C ∧ vs[0]? = some a0.1 ∧ oe.data = .fields vs ∧ vs[1]? = some (.ref T) ∧ T ≠ e ∧ h.get? T = some oT ∧ oT.data = .fields ts ∧ ts[3]? = some .none ∧ h0.get? T = none ∧ H T = none ∧ vs[2]? = some a0.2 ∧ CxO H a0.2
  new : h0.get? e = none
  free : H e = none
def XC (P : Program) (w : World) : CXT := fun outer H s E e s' => ∃ (ea C : Addr) (H' : Hp), e = .ref ea ∧ s'.os = s.os ∧ AllBare s'.gens ∧ Un (frs outer) [] H H' s.heap s'.heap ∧ HOk P w H' s'.heap ∧ Flies s.heap s'.heap H' ea C ∧ E (.ref C) none H'
theorem Un.late {fs ex ch : List Addr} {H H' : Hp} {h h1 h2 : Heap} (u : Un fs ex H H' h h1) (fresh : ∀ b ∈ ch, h.get? b = none)
    (k : ∀ b o, b ∉ fs → b ∉ ch → h1.get? b = some o → h2.get? b = some o) (ks : ∀ b o, b ∈ fs → h1.get? b = some o → ∃ sl, h2.get? b = some { o with slots := sl }) : Un fs ex H H' h h2 := by
  have nch : ∀ b o, h.get? b = some o → b ∉ ch := fun b o q z => by have := fresh b z; rw [q] at this; cases this
  refine ⟨fun b o q n hb hx => k b o hb (nch b o q) (u.keep b o q n hb hx), fun b o q n hb hx => ?_, u.free, fun b o q hx => ?_, u.tups, u.frzs, u.tbls⟩
  · obtain ⟨sl, e1⟩ := u.slot b o q n hb hx
    obtain ⟨sl', e2⟩ := ks b _ hb e1
    exact ⟨sl', e2⟩
  · obtain ⟨o', e1⟩ := u.there b o q hx
    by_cases hb : b ∈ fs
    · obtain ⟨sl, e2⟩ := ks b o' hb e1
      exact ⟨_, e2⟩
    · exact ⟨o', k b o' hb (nch b o q) e1⟩
section
variable {X : Cx} {pins : List (Addr × Obj)} {σ : St} {H H' : Hp} {s s' : Shared} {ea C : Addr} {a0 : Value × Value} {h' : Heap} {ch : List Addr}
theorem fly_after (I : Inv X pins σ H s) (hst : X.stack = X.env :: X.outer) (os : s'.os = s.os) (bare : AllBare s'.gens) (un : Un (frs X.stack) [] H H' s.heap s'.heap) (hok : HOk X.prog X.w H' s'.heap)
    (hch : ∀ b ∈ ch, s.heap.get? b = none ∧ H' b = none) (hea : ea ∈ ch) (hcx : CxO H' a0.2) (L : StepC (PySem.W.hideAll s'.heap (ch ++ frs X.stack)) (X.env :: X.outer) ea (.ref C) a0 .none s'.heap h') :
    Inv X pins σ H' { s' with heap := h' } ∧ Flies s.heap h' H' ea C := by
  have I1 : Inv X pins σ H' s' := I.call' (ch := []) os un hok bare (fun b z => absurd z (by simp))
  obtain ⟨st, ff, tr, up⟩ := L
  have FF : s'.heap.FunFrames X.base X.stack := I1.stack
  have keep : ∀ b o, b ∉ frs X.stack → b ∉ ch → s'.heap.get? b = some o → h'.get? b = some o := fun b o hb hc e => st b o (PySem.W.hideAll_get _ e fun z => (List.mem_append.mp z).elim hc hb)
  have slots : ∀ b o, b ∈ frs X.stack → s'.heap.get? b = some o → ∃ sl, h'.get? b = some { o with slots := sl } := fun b o hb e => by
    obtain ⟨_, o', ho', hd⟩ := FF.mem hb
    rw [e] at ho'; cases ho'
    exact up b o e hd
  have un2 : Un (frs X.stack) [] H H' s.heap h' := un.late (ch := ch) (fun b hb => (hch b hb).1) keep slots
  have free : ∀ b, H' b ≠ none → b ∉ frs X.stack ∧ b ∉ ch := fun b n => ⟨fun z => n (I1.stkFree b z), fun z => n (hch b z).2⟩
  have hok2 : HOk X.prog X.w H' h' := fun b o e => (hok b o e).stay (fun c u hc q => by
    have n : H' c ≠ none := by
      rcases hc with z | z
      · rw [z, e]; simp
      · rw [z]; simp
    exact keep c u (free c n).1 (free c n).2 q) (fun _ q => q) fun _ _ q => q
  refine ⟨I.call' (s' := { s' with heap := h' }) (ch := []) os un2 hok2 bare (fun b z => absurd z (by simp)), ⟨?_, (hch ea hea).1, (hch ea hea).2⟩⟩
  obtain ⟨oe, vs, T, oT, ts, e1, ⟨e2, e3, c3⟩, e4, e5, e6, e7, e8, e9, e10⟩ := tr
  have hT : s.heap.get? T = none ∧ H' T = none := by
    cases q : s'.heap.get? T with
    | none =>
      refine ⟨?_, hok.free_of q⟩
      cases q2 : s.heap.get? T with
      | none => rfl
      | some o => obtain ⟨o', z⟩ := un.there T o q2 (by simp); rw [q] at z; cases z
    | some o =>
      by_cases hc : T ∈ ch
      · exact hch T hc
      · by_cases hf : T ∈ frs X.stack
        · have hf2 : T ∈ frs (X.env :: X.outer) := hst ▸ hf
          obtain ⟨_, o', ho', hd⟩ := ff.mem hf2
          rw [e8] at ho'; cases ho'
          exact absurd e9 (hd ts)
        · rw [PySem.W.hideAll_get _ q fun z => (List.mem_append.mp z).elim hc hf] at e6
          cases e6
  exact ⟨oe, vs, T, oT, ts, a0, e1, e2, e3, e4, e5, e7, e8, e9, e10, hT.1, hT.2, c3, hcx⟩
theorem frames_hid (I : Inv X pins σ H' s') (hst : X.stack = X.env :: X.outer) (ch : List Addr) : s'.heap.FunFrames (PySem.W.hideAll s'.heap (ch ++ frs X.stack)) (X.env :: X.outer) := by
  have FF : s'.heap.FunFrames X.base X.stack := I.stack
  rw [← hst]
  exact PySem.W.funFrames_hide FF fun env he a hf => List.mem_append_right _ (List.mem_filterMap.mpr ⟨env, he, hf⟩)
theorem leave_on (I : Inv X pins σ H s) (hst : X.stack = X.env :: X.outer) (hf : X.env.frame = some X.env.locals) (os : s'.os = s.os) (bare : AllBare s'.gens) (un : Un (frs X.stack) [] H H' s.heap s'.heap) (hok : HOk X.prog X.w H' s'.heap)
    (fl : Flies s.heap s'.heap H' ea C) {M : Model} {E : Value → Shared → Prop} {Q : Unit → Shared → Prop} (h : ∀ h', Inv X pins σ H' { s' with heap := h' } → Flies s.heap h' H' ea C → Q () { s' with heap := h' }) :
    wpAny M X.A (leaving X.env (.ref ea)) Q E s' := by
  have I1 : Inv X pins σ H' s' := I.call' (ch := []) os un hok bare (fun b z => absurd z (by simp))
  obtain ⟨oe, vs, T, oT, ts, a0, e1, e2, e3, e4, e5, e7, e8, e9, e10, e11, e12, c3, cx⟩ := fl.ex
  have hfr : X.A.frames = some (X.env :: X.outer) := by rw [← hst]; exact I.ok.frames
  refine leave_next (base := PySem.W.hideAll s'.heap ([ea, T] ++ frs X.stack)) (cls := .ref C) (a0 := a0) hfr (frames_hid I1 hst [ea, T]) hf
    ⟨oe, vs, T, oT, ts, e1, ⟨e2, e3, c3⟩, e4, e5, PySem.W.hideAll_none _ (by simp), e7, e8, e9, e10⟩ (fun b o q => PySem.W.of_hideAll _ q) (PySem.W.hideAll_none _ (by simp)) fun h' L => ?_
  obtain ⟨J, F⟩ := fly_after (ch := [ea, T]) I hst os bare un hok (fun b hb => by
    rcases List.mem_cons.mp hb with rfl | hb
    · exact ⟨fl.new, fl.free⟩
    · obtain rfl : b = T := by simpa using hb
      exact ⟨e11, e12⟩) (by simp) cx L
  exact h h' J F
theorem leave_made (I : Inv X pins σ H s) (hst : X.stack = X.env :: X.outer) (hf : X.env.frame = some X.env.locals) {h1 : Heap} {args : List Value} (hm : Heap.MadeExcOf s.heap h1 ea (.ref C) args)
    {M : Model} {E : Value → Shared → Prop} {Q : Unit → Shared → Prop} (h : ∀ h', Inv X pins σ H { s with heap := h' } → Flies s.heap h' H ea C → Q () { s with heap := h' }) :
    wpAny M X.A (leaving X.env (.ref ea)) Q E { s with heap := h1 } := by
  have I1 : Inv X pins σ H { s with heap := h1 } := I.kept (t' := s.toks) hm.keeps
  obtain ⟨t, e1, e2, e3⟩ := hm.there
  have hfr : X.A.frames = some (X.env :: X.outer) := by rw [← hst]; exact I.ok.frames
  refine leave_first (s := { s with heap := h1 }) (base := PySem.W.hideAll h1 ([ea] ++ frs X.stack)) (a0 := (.ref t, .none)) hfr (frames_hid I1 hst [ea]) hf e1 (fun b o q => PySem.W.of_hideAll _ q)
    (PySem.W.hideAll_none _ (by simp)) rfl rfl rfl rfl fun h' L => ?_
  obtain ⟨J, F⟩ := fly_after (ch := [ea]) (s' := { s with heap := h1 }) I hst rfl I.bare (Un.kept hm.keeps) I1.hok (fun b hb => by
    obtain rfl : b = ea := by simpa using hb
    exact ⟨hm.new, I.hok.free_of hm.new⟩) (by simp) .nil L
  exact h h' J F
end
def Throws (X : Cx) (E : XK) : Prop := ∀ (pins : List (Addr × Obj)) (σ : St) (H : Hp) (s : Shared) (ea C : Addr) (h' : Heap) (args : List Value), Inv X pins σ H s → Heap.MadeExcOf s.heap h' ea (.ref C) args → E (.ref C) none H → X.xe (.ref ea) { s with heap := h' }
section
variable {P : Program} {w : World} {K : PySem.W.Frag} {mg : Str → Option Value} {base : Heap} {N ps : List Str} {qual : Str} {scope : Scope} {f : Addr} {cd : Value} {A : Around} {outer : List Env} {s : Shared} {H : Hp} {E : XK}
abbrev cxE (P : Program) (w : World) (K : PySem.W.Frag) (mg : Str → Option Value) (base : Heap) (N : List Str) (qual : Str) (scope : Scope) (f : Addr) (cd : Value) (A : Around) (outer : List Env) (s : Shared) (H : Hp) (E : XK) (c : Bool := true) : Cx :=
  cxOf (XC P w) P w K mg base N qual scope f cd A outer s H E c
theorem fresh_start {c : Bool} {pins : List (Addr × Obj)} {σ : St} {H1 H' : Hp} {s1 : Shared} {h' : Heap} {ea C : Addr} (I : Inv (cxE P w K mg base N qual scope f cd A outer s H E c) pins σ H1 s1) (F : Flies s1.heap h' H' ea C) : Flies s.heap h' H' ea C := by
  have z : ∀ b, s1.heap.get? b = none → s.heap.get? b = none := fun b q => by
    cases q2 : s.heap.get? b with
    | none => rfl
    | some o => obtain ⟨o', e⟩ := I.base.there b o q2 (by simp [cxOf]); rw [q] at e; cases e
  obtain ⟨oe, vs, T, oT, ts, a0, e1, e2, e3, e4, e5, e7, e8, e9, e10, e11, e12, c3, cx⟩ := F.ex
  exact ⟨⟨oe, vs, T, oT, ts, a0, e1, e2, e3, e4, e5, e7, e8, e9, e10, z _ e11, e12, c3, cx⟩, z _ F.new, F.free⟩
theorem passes_of {c : Bool} : Passes (XC P w) (cxE P w K mg base N qual scope f cd A outer s H E c) E := by
  intro pins σ H1 s1 e s' I h
  obtain ⟨ea, C', H', rfl, os, bare, un, hok, fl, q⟩ := h
  refine leave_on I rfl rfl os bare un hok fl fun h' J F => ?_
  exact ⟨ea, C', H', rfl, J.os, J.bare, J.base, J.hok, fresh_start I F, q⟩
theorem throws_of {c : Bool} : Throws (cxE P w K mg base N qual scope f cd A outer s H E c) E := by
  intro pins σ H1 s1 ea C h1 args I hm q
  refine leave_made I rfl rfl hm fun h' J F => ?_
  exact ⟨ea, C, H1, rfl, J.os, J.bare, J.base, J.hok, fresh_start I F, q⟩
theorem owns_of {c : Bool} : PassesOwn (model P w) (cxE P w K mg base N qual scope f cd A outer s H E c).A (cxE P w K mg base N qual scope f cd A outer s H E c).env (cxE P w K mg base N qual scope f cd A outer s H E c).xe := PassesOwn.leaving
theorem Fun.okX {x : Str} {st : Stmt} {fd : FuncData} {k : Nat} {sp : Sp} {c : Bool} (F : Fun K x qual st f fd) (S : FnScope N ps (defScope st)) (len : ∀ vs H Q E, sp vs H Q E → vs.length = ps.length)
    (hbody : ∀ (cdv : Value) (A : Around) (outer : List Env) (s : Shared) (H : Hp) (vs : List V) (Q : VK) (E : XK), RoomC c k (A.deeper (envOfC qual (defScope st) s.heap.objs.size f cdv)) → sp vs H Q E →
      ∃ t, PSs (cxE P w K mg base N qual (defScope st) f cdv A outer s H E c) (defBody st) t ∧ t { nx := fun _ H' => Q .non H', rt := Q } (start N vs) H) : FnOk P w K mg base (XC P w) (k + 1) f fd ps sp c := by
  obtain ⟨oc, od, kV, doc, pm, an, cdv, ct, osl, rfl, lk, hcd⟩ := F.ex
  exact fn_of lk hcd S len fun A outer s H vs Q E hr hsp => hbody cdv A outer s H vs Q E hr hsp
end
theorem exc_cls {K : PySem.W.Frag} {h : Heap} {C : Addr} {bmB : List Value} {newId : String} (X : K.In h) (q : PySem.W.excIn K C bmB newId = true) :
    ∃ nm qn N bs bm hdct sn sub ab col dd k0 k1 k2 k3 k5 mN, h.get? C = some (excClassObj nm qn C N bs bm hdct sn sub ab col dd k0 k1 k2 k3 k5 newId) ∧ h.Ns N mN ∧ mN "__init__" = none ∧ OwnTail h bmB bm := by
  unfold PySem.W.excIn at q
  split at q
  · rename_i dd cd sl ho
    split at q
    · rename_i C' bm k0 k1 k2 k3 n k5 hm hs
      simp only [Bool.and_eq_true, beq_iff_eq, Bool.not_eq_true'] at q
      obtain ⟨⟨⟨⟨⟨e1, e2⟩, hdel⟩, ht⟩, hok⟩, hni⟩ := q
      subst e1 e2
      obtain ⟨nm, bs, mro, ns, qn, hd, sn, sub, ab, col, del⟩ := cd
      dsimp only at hm hdel hok hni
      subst hm hdel
      obtain ⟨l⟩ := sl
      have hs' : l = [k0, k1, k2, k3, some (.builtin n), k5] := hs
      subst hs'
      exact ⟨nm, qn, ns, bs, bm, hd, sn, sub, ab, col, dd, k0, k1, k2, k3, k5, _, X _ _ ho, .of_isNs (PySem.W.isNs_of_in X hok), PySem.W.nsMap_none_of_in X hok hni, PySem.W.tail_of_in X ht⟩
    · cases q
  · cases q
abbrev bmV : List Value := [.type "ValueError", .type "Exception", .type "BaseException", .type "object"]
structure Err (K : PySem.W.Frag) (mg : Str → Option Value) (x : Str) (C : Addr) : Prop where
  mg : mg x = some (.ref C)
  ex : PySem.W.excIn K C bmV "ValueError.__new__" = true
def tRaise (C : Addr) (ta : TA) (E : XK) : TS := fun _ σ H => ta σ H fun vs H1 => vs.length ≤ sizeLine ∧ E (.ref C) none H1
theorem ps_raise {X : Cx} {E : XK} {x : Str} {C : Addr} {e : Expr} {es : List Expr} {ta : TA} {np cpos pos : Pos} (hT : Throws X E) (hc : X.calm = true) (R : Err X.K X.mg x C) (hg : Gl X x) (ha : PA X (e :: es) ta)
    (hd : (x == ("__debug__" : Str)) = false := by decide) (he : starEach (e :: es) X.env = (false, eval e X.env) :: starEach es X.env := by rfl) (hpl : (backTo cpos (starEach es X.env)).any (·.1) = false := by rfl) :
    PS X (.Raise (some (.Call (.Name x np) (e :: es) [] cpos)) none pos) (tRaise C ta E) := by
  intro pins s σ H D I h
  obtain ⟨nm, qn, N, bs, bm, hdct, sn, sub, ab, col, dd, k0, k1, k2, k3, k5, mN, hC, hN, hni, T⟩ := exc_cls I.ok.mod.kin R.ex
  refine wpAny_Raise_call_subU (C := C) (nm := nm) (q := qn) (N := N) (bs := bs) (bm := bm) (hdct := hdct) (sn := sn) (sub := sub) (ab := ab) (col := col) (dd := dd) (k0 := k0) (k1 := k1) (k2 := k2) (k3 := k3) (k5 := k5)
    PySem.F.excBase_ValueError (by decide +kernel) PySem.F.excBase_ValueError (mN := mN) (T.hasType (by decide +kernel)) (I.ok.hd hc) (by rw [he]; show (false || (backTo cpos (starEach es X.env)).any (·.1)) = false; rw [hpl]; rfl) hni
    (ld_glob I hg R.mg ⟨rfl, ?_⟩ hd)
  have ha' := ha cpos pins s σ H _ I h
  rw [he] at ha' ⊢
  refine Calls.evalArgs_plain (thn ha' fun us s1 ⟨vs, H1, I1, r, hl, q⟩ => ?_)
  refine ⟨rfl, by rw [← r.length]; exact hl, I1.bk _ _ hC, hN.keeps I1.bk, T.keeps I1.bk, fun h' ea hm => ?_⟩
  exact hT pins σ H1 s1 ea C h' us I1 hm q
end L2
set_option Elab.async false
set_option linter.all false
set_option maxRecDepth 100000
namespace L2
open PySem PySem.Spec PyProof.Rows
theorem comp_turns {prog : Program} {w : World} {A : Around} {R : Result → Shared → Prop} {s : Shared} {elt tg iter : Expr} {ifs : List Expr} {scope : Scope} {pos : Pos} {it acc : Value} {env : Env} (J : Nat → Shared → Prop)
    (turn : ∀ n s, J n s → wpAny (model prog w) A (pyNext it) (fun r s1 => match r with
      | none => R (.ok .next) s1
      | some v => wpAny (model prog w) A (letOwnedTupleGo tg it v) (fun _ s2 => wpAny (model prog w) A (assign tg env v) (fun _ s3 =>
          wpAny (model prog w) A (forIn ifs true fun c r => if r = true then do let ok ← isTrue c env (eval c env); pure (ForInStep.yield ok) else pure (ForInStep.yield r)) (fun ok s4 =>
            if ok = true then wpAny (model prog w) A (eval elt env) (fun x s5 => wpAny (model prog w) A (call (.builtin "list.append") [acc, x]) (fun _ s6 => ∃ m, m < n ∧ J m s6) (fun _ _ => False) s5) (fun _ _ => False) s4
            else ∃ m, m < n ∧ J m s4) (fun _ _ => False) s3) (fun _ _ => False) s2) (fun _ _ => False) s1) (fun _ _ => False) s)
    (n : Nat) (h : J n s) : codeAny (model prog w) A (.compLoop (.ListComp elt [⟨tg, iter, ifs, 0⟩] scope pos) 0 it acc env) R s := by
  refine codeAny_loop rfl J (fun n s hJ => ?_) n h
  show wpAny _ A ((compTurn (.ListComp elt [⟨tg, iter, ifs, 0⟩] scope pos) 0 it acc env).onRaise _) _ _ s
  refine wpAny_noted (wpAny_noRaise ?_)
  rw [compTurn_list]
  refine wpAny_bind (wpAny_standAt (wpAny_bind (thn (turn n s hJ) fun r s1 h1 => ?_)))
  cases r with
  | none => exact wpAny_pure h1
  | some v =>
    refine wpAny_bind (thn h1 fun _ s2 h2 => wpAny_bind (thn h2 fun _ s3 h3 => wpAny_bind (thn h3 fun ok s4 h4 => ?_)))
    cases ok with
    | false => exact wpAny_pure ⟨rfl, h4⟩
    | true => exact wpAny_bind (wpAny_bind (thn h4 fun x s5 h5 => wpAny_bind (thn h5 fun _ s6 h6 => wpAny_pure (wpAny_pure ⟨rfl, h6⟩))))
abbrev Cx.blk (X : Cx) (scope : Scope) (cl : List (Str × Addr)) (C : Addr) (own : List Str) (s : Shared) (H : Hp) (fp : List Addr) (pins : List (Addr × Obj)) : Cx :=
  { X with N := X.N ++ own, env := compEnvC scope cl C X.env, s₀ := s, H₀ := H, outer := X.stack, ex := fp, fn := fun _ => false, pn := X.pn ++ pins, xe := fun _ _ => False }
theorem lookup_relab {env : Env} {x : Str} : ∀ {names : List (Str × NameKind)}, (names.map fun (n, k) => if (k == NameKind.free && env.scope.kind == .function && env.kindOf n == some .cell) then (n, NameKind.cell) else (n, k)).lookup x =
    (names.lookup x).map fun k => if (k == NameKind.free && env.scope.kind == .function && env.kindOf x == some .cell) then NameKind.cell else k
  | [] => rfl
  | (n, k) :: r => by
    have ih := @lookup_relab env x r
    rw [List.map_cons]
    show List.lookup x ((if (k == NameKind.free && env.scope.kind == .function && env.kindOf n == some .cell) = true then (n, NameKind.cell) else (n, k)) :: _) = _
    have e : (if (k == NameKind.free && env.scope.kind == .function && env.kindOf n == some .cell) = true then (n, NameKind.cell) else (n, k)) = (n, if (k == NameKind.free && env.scope.kind == .function && env.kindOf n == some .cell) = true then NameKind.cell else k) := by
      split <;> rfl
    rw [e]
    cases q : x == n with
    | true =>
      obtain rfl : x = n := by simpa using q
      simp [List.lookup_cons]
    | false => simp only [List.lookup_cons, q]; exact ih
structure CompScope (X : Cx) (scope : Scope) (cl : List (Str × Addr)) : Prop where
  clos : closureFor scope X.env = pure cl
  kind : scope.kind = .function
  nocell : ∀ y ∈ scope.names, y.2 ≠ .cell
  names : ∀ y ∈ scope.names, y.2 = .local → scope.names.lookup y.1 = some .local
  sub : ∀ x c, cl.lookup x = some c → X.env.cells.lookup x = some c
  has : ∀ x, scope.names.lookup x = some .free → ∃ c, cl.lookup x = some c
  apart : ∀ x ∈ X.N, scope.names.lookup x ≠ some .local
  outer : ∀ x, scope.names.lookup x = some .free → X.env.kindOf x = some .cell ∨ X.env.kindOf x = some .free
theorem lookup_mem {α β : Type} [BEq α] [LawfulBEq α] {l : List (α × β)} {x : α} {b : β} (h : l.lookup x = some b) : (x, b) ∈ l := by
  induction l with
  | nil => simp at h
  | cons p r ih =>
    obtain ⟨a, c⟩ := p
    rw [List.lookup_cons] at h
    split at h
    · rename_i q
      obtain rfl : x = a := by simpa using q
      cases h; exact .head _
    · exact .tail _ (ih h)
section
variable {X : Cx} {scope : Scope} {cl : List (Str × Addr)} {own : List Str} {pins : List (Addr × Obj)} {σ : St} {H2 H3 : Hp} {s2 : Shared} {fp : List Addr} {C : Addr} {h1 : Heap}
theorem stk_no {b : Addr} (I2 : Inv X pins σ H2 s2) (n1 : b ≠ X.env.locals) (n2 : b ∉ X.fs) : b ∉ frs X.stack := fun z => (List.mem_cons.mp (I2.stkSub b z)).elim n1 n2
theorem blk_in (S : CompScope X scope cl) (I2 : Inv X pins σ H2 s2) (f2 : ∀ b ∈ fp, FpOk X pins H2 b) (hlt : ∀ b ∈ fp, b < s2.heap.objs.size) (hC : s2.heap.objs.size ≤ C) {m : Str → Option Value} (hns : h1.Ns C m)
    (keep : ∀ b o, s2.heap.get? b = some o → h1.get? b = some o) (hH : ∀ b o, s2.heap.get? b = some o → H2 b = none → H3 b = none) (un : Un (frs X.stack) fp H2 H3 s2.heap h1) (hok : HOk X.prog X.w H3 h1) (hCf : H3 C = none) {tk : Nat} :
    Inv (X.blk scope cl C own s2 H2 fp pins) [] (σ ++ List.replicate own.length none) H3 { s2 with heap := h1, toks := tk } := by
  have neC : ∀ b o, s2.heap.get? b = some o → b ≠ C := fun b o e => Nat.ne_of_lt (Nat.lt_of_lt_of_le (Heap.lt_size e) hC)
  have kof : ∀ x, (compEnvC scope cl C X.env).kindOf x = (scope.names.lookup x).map fun k => if (k == NameKind.free && X.env.scope.kind == .function && X.env.kindOf x == some .cell) then NameKind.cell else k := fun x => lookup_relab
  have isfree : ∀ x, ((compEnvC scope cl C X.env).kindOf x = some .cell ∨ (compEnvC scope cl C X.env).kindOf x = some .free) → scope.names.lookup x = some .free := fun x hx => by
    rw [kof x] at hx
    cases q : scope.names.lookup x with
    | none => rw [q] at hx; rcases hx with z | z <;> cases z
    | some k =>
      rw [q] at hx
      have nc := S.nocell _ (lookup_mem q)
      cases k <;> simp_all
  refine ⟨⟨I2.ok.mod, S.kind, I2.ok.glob, I2.ok.blt, hC, fun x y c e1 e2 => I2.ok.inj x y c (S.sub x c e1) (S.sub y c e2), fun x hx => S.has x (isfree x hx), fun x c z _ => (by cases z), I2.ok.hd, I2.ok.frames, .inl rfl,
    fun b hb => ⟨Nat.ne_of_lt (Nat.lt_of_lt_of_le (hlt b hb) hC), fun x c e => (f2 b hb).2.2.2.2.1 x c (S.sub x c e)⟩, fun b o e => ⟨(I2.bs b o e).1, (I2.bs b o e).2⟩, Nat.le_trans I2.ok.bsz I2.sz, fun b o e hb => ?_, fun b hb => stk_no I2 (f2 b hb).2.1 (f2 b hb).2.2.1, I2.stack, I2.stkFree⟩,
    rfl, I2.bare, un, ⟨m, hns, fun i x v e1 e2 e3 => ?_⟩, fun x c e => ?_, hCf, fun x c e => ?_, fun p hp => ?_, hok, ?_, I2.hn.mono un.frzs⟩
  · rcases (f2 b hb).2.2.2.1 with z | z
    · exact I2.ok.noex b o e z
    · exact absurd (Nat.lt_of_lt_of_le (Nat.lt_of_lt_of_le (Heap.lt_size e) I2.ok.bsz) z) (Nat.lt_irrefl _)
  ·
    have hi : i < σ.length := by
      apply Classical.byContradiction
      intro hn
      rw [List.getElem?_append_right (by omega), List.getElem?_replicate] at e2
      split at e2 <;> cases e2
    rw [List.getElem?_append_left hi] at e2
    have hi2 : i < X.N.length := by rw [← I2.len]; exact hi
    have e1' : X.N[i]? = some x := by rw [← List.getElem?_append_left (l₂ := own) hi2]; exact e1
    have hx : x ∈ X.N := List.mem_of_getElem? e1'
    have e3' : (compEnvC scope cl C X.env).kindOf x = some .local ∨ (compEnvC scope cl C X.env).kindOf x = some .cell ∨ (compEnvC scope cl C X.env).kindOf x = some .free := e3
    have nl : (compEnvC scope cl C X.env).kindOf x ≠ some .local := fun z => by
      rw [kof x] at z
      cases q : scope.names.lookup x with
      | none => rw [q] at z; cases z
      | some k =>
        rw [q, Option.map_some] at z
        have na := S.apart x hx
        rw [q] at na
        cases k <;> first
          | exact na rfl
          | (have z' := Option.some.inj z; split at z' <;> cases z')
    have hcf : (compEnvC scope cl C X.env).kindOf x = some .cell ∨ (compEnvC scope cl C X.env).kindOf x = some .free := e3'.resolve_left nl
    obtain ⟨c, hc⟩ := S.has x (isfree x hcf)
    obtain ⟨m0, hn0, hl0⟩ := I2.loc
    have hcX := S.sub x c hc
    have ho := S.outer x (isfree x hcf)
    obtain ⟨u, r, l⟩ := hl0 i x v e1' e2 (.inr ho)
    refine ⟨u, r, .inr ⟨hcf, c, hc, ?_⟩⟩
    rcases l with ⟨z, _⟩ | ⟨_, c', hc', oc, hoc, hdc⟩
    · rcases ho with y | y <;> (rw [y] at z; cases z)
    · rw [hcX] at hc'
      cases hc'
      exact ⟨oc, keep _ _ hoc, hdc⟩
  · obtain ⟨v, ⟨oc, hoc, hdc⟩⟩ := I2.cell x c (S.sub x c e)
    exact ⟨v, oc, keep _ _ hoc, hdc⟩
  · obtain ⟨v, ⟨oc, hoc, hdc⟩⟩ := I2.cell x c (S.sub x c e)
    exact hH c oc hoc (I2.freeC x c (S.sub x c e))
  · obtain ⟨q1, q2, q3, q4, q5⟩ := I2.pin p (by simpa using hp)
    exact ⟨keep _ _ q1, hH _ _ q1 q2, neC _ _ q1, stk_no I2 q3 q4, q5⟩
  · show (σ ++ List.replicate own.length none).length = (X.N ++ own).length
    rw [List.length_append, List.length_append, List.length_replicate, I2.len]
theorem blk_out (I2 : Inv X pins σ H2 s2) (f2 : ∀ b ∈ fp, FpOk X pins H2 b) (hC : s2.heap.objs.size ≤ C) {pl : List (Addr × Obj)} {σ' : St} {s4 : Shared} {h' : Heap} (I4 : Inv (X.blk scope cl C own s2 H2 fp pins) pl σ' H3 s4) (sb : Heap.SameBut C s4.heap h') :
    Inv X pins σ H3 { s4 with heap := h' } := by
  have un : Un (frs X.stack) fp H2 H3 s2.heap s4.heap := I4.base
  have nC : s2.heap.get? C = none := Heap.get?_none_of_le hC
  have CF : C ∉ frs X.stack := fun z => by
    obtain ⟨_, o, ho, _⟩ := I2.stack.mem z
    rw [nC] at ho; cases ho
  have un2 : Un (frs X.stack) fp H2 H3 s2.heap h' := un.late (ch := [C]) (fun b hb => by
    obtain rfl : b = C := by simpa using hb
    exact nC) (fun b o _ hb e => (sb.2 b (by simpa using hb)).trans e) fun b o hb e => ⟨o.slots, (sb.2 b fun z => CF (z ▸ hb)).trans e⟩
  have hf : H3 C = none := I4.free
  have hok : HOk X.prog X.w H3 h' := fun b o e => (I4.hok b o e).stay (fun c u hc q => (sb.2 c fun z => by
    subst z
    rcases hc with z | z
    · rw [z, e] at hf; cases hf
    · rw [z] at hf; cases hf).trans q) (fun _ q => q) fun _ _ q => q
  exact I2.call' (s' := { s4 with heap := h' }) (ch := fp) I4.os un2 hok I4.bare fun b hb => ⟨(f2 b hb).2.2.2.1, (f2 b hb).2.1, (f2 b hb).2.2.2.2.1, (f2 b hb).2.2.2.2.2⟩
end
def PF (X : Cx) (ifs : List Expr) (t : TT) : Prop :=
  ∀ (pins : List (Addr × Obj)) (s : Shared) (σ : St) (H : Hp) (Q : Bool → Hp → Prop), Inv X pins σ H s → t σ H Q →
    wpAny (model X.prog X.w) X.A (forIn ifs true fun c r => if r = true then do let ok ← isTrue c X.env (eval c X.env); pure (ForInStep.yield ok) else pure (ForInStep.yield r)) (TP X pins σ Q) X.xe s
theorem pf_nil {X : Cx} : PF X [] (fun _ H Q => Q true H) := fun _ _ _ H _ I h => wpAny_tests_nil ⟨H, I, h⟩
def compT (k : Nat) (g : TG) (tc : TT) (te : TE) (σ : St) (Q : VK) : It → Hp → Prop := fun J H1 => ∀ D, H1 D = none → ∃ W : Nat → Nat → List V → Hp → Prop, (∃ m, W 0 m [] (upd H1 D (.lst []))) ∧ ∀ i m ys H, W i m ys H →
  H D = some (.lst ys) ∧ ((J.stop i H ∧ Q (.ref D) H) ∨ (J.go i H ∧ ys.length < sizeLine ∧ ∀ x H', J.yld i H x H' → g x (σ ++ List.replicate k none) H' fun σ2 H2 => (∃ zs, σ2 = σ ++ zs ∧ zs.length = k) ∧ tc σ2 H2 fun b H3 =>
    if b = true then te σ2 H3 fun y H4 => H4 D = some (.lst ys) ∧ ∃ m', m' < m ∧ W (i + 1) m' (ys ++ [y]) (upd H4 D (.lst (ys ++ [y]))) else ∃ m', m' < m ∧ W (i + 1) m' ys H3))
def tComp (wi : TI) (k : Nat) (g : TG) (tc : TT) (te : TE) : TE := fun σ H Q => wi σ H (compT k g tc te σ Q)
section
variable {X : Cx} {tg elt iter : Expr} {ifs : List Expr} {scope : Scope} {cl : List (Str × Addr)} {own : List Str} {wi : TI} {g : TG} {tc : TT} {te : TE} {pos : Pos}
theorem comp_core {p2 : Pos} {use : Option (Value → Sem Unit)} {QV : Value → Shared → Prop} {pins : List (Addr × Obj)} {s : Shared} {σ : St} {H : Hp} {Q : VK} (S : CompScope X scope cl) (hi : PI X tg iter wi)
    (hg : ∀ C s H fp pins, PG (X.blk scope cl C own s H fp pins) tg g) (ht : ∀ C s H fp pins, PF (X.blk scope cl C own s H fp pins) ifs tc) (he : ∀ C s H fp pins, PE (X.blk scope cl C own s H fp pins) elt te)
    (hs : ∀ x, foldedSetIterable iter X.env x = pure x) (I : Inv X pins σ H s) (h : tComp wi own.length g tc te σ H Q)
    (fin : ∀ D C s2 H2 H3 s4, Inv X pins σ H2 s2 → s2.heap.objs.size ≤ C → H3 C = none → (∃ m, s4.heap.Ns C m) → (∀ h', Heap.SameBut C s4.heap h' → Inv X pins σ H3 { s4 with heap := h' }) → Q (.ref D) H3 → compPost (model X.prog X.w) X.A X.xe use QV (.ref D) C (.ok .next) s4) :
    wpAny (model X.prog X.w) X.A (comprehension (.ListComp elt [⟨tg, iter, ifs, 0⟩] scope pos) scope X.env p2 (newList []) false (eval iter X.env) use) QV X.xe s := by
  refine wpAny_comprehension_free (use := use) rfl hs S.clos S.kind S.names (thn (hi pins s σ H _ I h) fun v s1 h1 => thn h1 fun itv s2 h2 => ?_)
  obtain ⟨it, fp, tn, J, H2, e, I2, T, st2, f2, R⟩ := h2
  subst e
  obtain ⟨nm, T, hc⟩ := T
  refine wpAny_newObj_type (wpAny_newFunctionEnv S.nocell (by intro y hy; simp at hy) (fun h1 hns hsb => ?_) S.kind)
  dsimp only at hns hsb ⊢
  have hlt : ∀ b ∈ fp, b < s2.heap.objs.size := fun b hb => by
    obtain ⟨o, ho, _⟩ := T.obj 0 _ st2 b hb
    exact Heap.lt_size ho
  generalize hp : s2.heap.push { cls := .type "list", dict := none, data := .seq ([] : List Value).toArray } = hl at hns hsb ⊢
  have hC : hl.objs.size = s2.heap.objs.size + 1 := by rw [← hp, Heap.size_push]
  have hCle : s2.heap.objs.size ≤ hl.objs.size := by rw [hC]; exact Nat.le_succ _
  have hDC : s2.heap.objs.size ≠ hl.objs.size := by rw [hC]; exact Nat.ne_of_lt (Nat.lt_succ_self _)
  have old : ∀ b o, hl.get? b = some o → h1.get? b = some o := fun b o e => hsb.extBut b o (Nat.ne_of_lt (Heap.lt_size e)) (Heap.get?_push_of_some _ e)
  have old2 : ∀ b o, s2.heap.get? b = some o → h1.get? b = some o := fun b o e => old b o (hp ▸ Heap.get?_push_of_some _ e)
  have Dn : H2 s2.heap.objs.size = none := I2.fresh
  have Cn : H2 hl.objs.size = none := I2.hok.fresh hCle
  obtain ⟨W, ⟨m0, w0⟩, step⟩ := R s2.heap.objs.size Dn
  have hobj : h1.get? s2.heap.objs.size = some { cls := .type "list", data := .seq ([] : List Value).toArray } := old _ _ (hp ▸ Heap.get?_push_size _ rfl)
  have I3 : Inv (X.blk scope cl hl.objs.size own s2 H2 fp pins) [] (σ ++ List.replicate own.length none) (upd H2 s2.heap.objs.size (.lst [])) { s2 with heap := h1, toks := s2.toks + ([] : List (Str × Value)).length } :=
    blk_in S I2 f2 hlt hCle hns old2 (fun b o e n => by rw [upd_ne (Nat.ne_of_lt (Heap.lt_size e))]; exact n) (Un.laid old2 (Nat.le_refl _) Dn) (I2.hok.laid old2 (Nat.le_refl _) (show ObjOk X.prog X.w (upd H2 s2.heap.objs.size (.lst [])) h1 s2.heap.objs.size (.lst []) from ⟨Nat.zero_le _, [], 0, .nil, hobj⟩)) (by rw [upd_ne (Ne.symm hDC)]; exact Cn)
  have fpn : ∀ b ∈ fp, upd H2 s2.heap.objs.size (.lst []) b = none := fun b hb => by rw [upd_ne (Nat.ne_of_lt (hlt b hb))]; exact (f2 b hb).1
  have stat : ∀ {H' : Hp}, (∀ b ∈ fp, H' b = none) → ∀ b ∈ fp, FpOk (X.blk scope cl hl.objs.size own s2 H2 fp pins) [] H' b := fun hn b hb =>
    ⟨hn b hb, Nat.ne_of_lt (Nat.lt_of_lt_of_le (hlt b hb) hCle), stk_no I2 (f2 b hb).2.1 (f2 b hb).2.2.1, .inl hb, fun x c e => (f2 b hb).2.2.2.2.1 x c (S.sub x c e), fun p hp => (f2 b hb).2.2.2.2.2 p (by simpa using hp)⟩
  have loop : ∀ s3 : Shared, s3 = { s2 with heap := h1, toks := s2.toks + ([] : List (Str × Value)).length } →
      codeAny (model X.prog X.w) X.A (.compLoop (.ListComp elt [⟨tg, iter, ifs, 0⟩] scope pos) 0 (.ref it) (.ref s2.heap.objs.size) (compEnvC scope cl hl.objs.size X.env)) (compPost (model X.prog X.w) X.A X.xe use QV (.ref s2.heap.objs.size) hl.objs.size) s3 := by
    rintro s3 rfl
    refine comp_turns (fun n s' => ∃ i ys H', Inv (X.blk scope cl hl.objs.size own s2 H2 fp pins) [] (σ ++ List.replicate own.length none) H' s' ∧ tn i s'.heap ∧ (∀ b ∈ fp, H' b = none) ∧ W i n ys H') ?_ m0
      ⟨0, [], _, I3, T.keep 0 _ _ st2 (fun b _ o e => old2 b o e), fpn, w0⟩
    rintro n s3 ⟨i, ys, H3, J3, st3, fr3, w3⟩
    obtain ⟨hD, ⟨stop, q⟩ | ⟨go, hlen, turn⟩⟩ := step i n ys H3 w3
    · refine thn (T.done (X.blk scope cl hl.objs.size own s2 H2 fp pins) rfl rfl rfl hc i [] s3 _ H3 _ J3 (stat fr3) st3 stop) fun r s4 ⟨hr, J4⟩ => ?_
      subst hr
      obtain ⟨m4, hn4, _⟩ := J4.loc
      exact fin _ _ s2 H2 H3 s4 I2 hCle J4.free ⟨m4, hn4⟩ (fun h' sb => blk_out I2 f2 hCle J4 sb) q
    · refine thn (T.item (X.blk scope cl hl.objs.size own s2 H2 fp pins) rfl rfl rfl hc i [] s3 _ H3 _ J3 (stat fr3) st3 go) fun r s4 ⟨u, hr, h4⟩ => ?_
      subst hr
      refine thn h4 fun _ s5 ⟨x, H5, J5, r5, y5, st5, fr5⟩ => ?_
      have J5' := J5.pinned (stat fr5) (T.obj _ _ st5)
      refine thn (hg _ _ _ _ _ _ s5 _ H5 x u _ J5' r5 (turn x H5 y5)) fun _ s6 ⟨σ6, H6, J6, ⟨ts, e6, hts⟩, q6⟩ => ?_
      subst e6
      refine thn (ht _ _ _ _ _ _ s6 _ H6 _ J6 q6) fun ok s7 ⟨H7, J7, q7⟩ => ?_
      have again : ∀ {s8 : Shared} {H8 : Hp} {zs : List V}, Inv (X.blk scope cl hl.objs.size own s2 H2 fp pins) ([] ++ pinsAt fp s5.heap) (σ ++ ts) H8 s8 → (∃ m', m' < n ∧ W (i + 1) m' zs H8) →
          ∃ m, m < n ∧ ∃ i ys H', Inv (X.blk scope cl hl.objs.size own s2 H2 fp pins) [] (σ ++ List.replicate own.length none) H' s8 ∧ tn i s8.heap ∧ (∀ b ∈ fp, H' b = none) ∧ W i m ys H' := fun {s8 H8 zs} J8 ⟨m', hm, w8⟩ => by
        refine ⟨m', hm, i + 1, zs, H8, ?_, T.keep _ _ _ st5 fun b hb o e => (J8.pin (b, o) (List.mem_append_right _ (List.mem_append_right _ (mem_pinsAt hb e)))).1, fun b hb => ?_, w8⟩
        · refine J8.unpinned.weak (by rw [List.length_append, List.length_append, List.length_replicate, hts]) fun j v ej => ?_
          by_cases hj : j < σ.length
          · rw [List.getElem?_append_left hj] at ej ⊢
            exact ej
          · rw [List.getElem?_append_right (by omega), List.getElem?_replicate] at ej
            split at ej <;> cases ej
        · obtain ⟨o, e, d⟩ := T.obj _ _ st5 b hb
          exact (J8.pin (b, o) (List.mem_append_right _ (List.mem_append_right _ (mem_pinsAt hb e)))).2.1
      cases ok with
      | false => exact again J7 q7
      | true =>
        refine thn (he _ _ _ _ _ _ s7 _ H7 _ J7 q7) fun z s8 ⟨y, H8, J8, r8, hD8, q8⟩ => ?_
        refine thn (mt_append _ s8 _ H8 (.ref s2.heap.objs.size) [y] _ [z] (fun _ H9 => ∃ m', m' < n ∧ W (i + 1) m' (ys ++ [y]) H9) J8 rfl (.cons r8 .nil) ⟨_, ys, y, rfl, rfl, hD8, hlen, q8⟩) fun _ s9 ⟨_, H9, J9, _, q9⟩ => again J9 q9
  exact codeAny_compStart_list (loop _ rfl) (T.self _ 0 _ _ _ (T.keep 0 _ _ st2 fun b _ o e => old2 b o e) (loop _ rfl))
theorem pe_comp (S : CompScope X scope cl) (hi : PI X tg iter wi)
    (hg : ∀ C s H fp pins, PG (X.blk scope cl C own s H fp pins) tg g) (ht : ∀ C s H fp pins, PF (X.blk scope cl C own s H fp pins) ifs tc) (he : ∀ C s H fp pins, PE (X.blk scope cl C own s H fp pins) elt te)
    (hs : ∀ x, foldedSetIterable iter X.env x = pure x := by intro _; rfl) : PE X (.ListComp elt [⟨tg, iter, ifs, 0⟩] scope pos) (tComp wi own.length g tc te) := by
  intro pins s σ H Q I h
  rw [eval_ListComp]
  exact comp_core (use := none) (QV := EP X pins σ Q) S hi hg ht he hs I h fun D C s2 H2 H3 s4 _ _ _ hn inv q => hn.elim fun m hn => ⟨m, hn, fun h' sb => ⟨.ref D, H3, inv h' sb, rfl, q⟩⟩
theorem Inv.let_go {pins : List (Addr × Obj)} {σ σ2 : St} {H H2 : Hp} {s s2 : Shared} {C : Addr} {h' : Heap} (I : Inv X pins σ H s) (I2 : Inv X pins σ2 H2 s2) (hC : s2.heap.objs.size ≤ C) (hf : H C = none) (sb : Heap.SameBut C s.heap h') : Inv X pins σ H { s with heap := h' } := by
  have nC : s2.heap.get? C = none := Heap.get?_none_of_le hC
  have CF : C ∉ frs X.stack := fun z => by
    obtain ⟨_, o, ho, _⟩ := I2.stack.mem z
    rw [nC] at ho; cases ho
  have off : ∀ b o, s2.heap.get? b = some o → b ≠ C := fun b o e z => by rw [z, nC] at e; cases e
  have un : Un (frs X.stack) [C] H H s.heap h' := ⟨fun b o q _ _ hx => (sb.2 b fun z => hx (by simp [z])).trans q, fun b o q _ hb _ => ⟨o.slots, (sb.2 b fun z => CF (z ▸ hb)).trans q⟩, fun _ _ _ n _ => n, fun b o q hx => ⟨o, (sb.2 b fun z => hx (by simp [z])).trans q⟩, fun _ _ q => q, fun _ _ _ q => q, fun b ps q => ⟨#[], by rw [Array.append_empty]; exact q⟩⟩
  have hok : HOk X.prog X.w H h' := fun b o e => (I.hok b o e).stay (fun c u hc q => (sb.2 c fun z => by
    subst z
    rcases hc with z | z
    · rw [z, e] at hf; cases hf
    · rw [z] at hf; cases hf).trans q) (fun _ q => q) fun _ _ q => q
  refine I.call' (s' := { s with heap := h' }) (ch := [C]) rfl un hok I.bare fun b hb => ?_
  obtain rfl : b = C := by simpa using hb
  obtain ⟨_, hn, _⟩ := I2.loc
  obtain ⟨_, _, _, hL, _⟩ := hn
  refine ⟨.inr (Nat.le_trans I2.sz hC), fun z => off _ _ hL z.symm, fun x c e => ?_, fun p hp => off _ _ (I2.pin p hp).1⟩
  obtain ⟨_, _, hc, _⟩ := I2.cell x c e
  exact off _ _ hc
theorem ps_setcomp {i : Nat} {x : Str} {pos' spos : Pos} (hN : X.N.Nodup) (hix : X.N[i]? = some x) (hx : Loc X.env.scope x) (S : CompScope X scope cl) (hi : PI X tg iter wi)
    (hg : ∀ C s H fp pins, PG (X.blk scope cl C own s H fp pins) tg g) (ht : ∀ C s H fp pins, PF (X.blk scope cl C own s H fp pins) ifs tc) (he : ∀ C s H fp pins, PE (X.blk scope cl C own s H fp pins) elt te)
    (hs : ∀ x, foldedSetIterable iter X.env x = pure x := by intro _; rfl) (hsw : swapsWith (.ListComp elt [⟨tg, iter, ifs, 0⟩] scope pos) (some (.Name x pos')) spos.line X.env = pure true := by rfl)
    (hf : X.fn x = true ∨ X.env.scope.names.lookup x = some .local := by first | exact .inl rfl | exact .inr rfl | assumption) :
    PS X (.Assign [.Name x pos'] (.ListComp elt [⟨tg, iter, ifs, 0⟩] scope pos) spos) (tAsg (tComp wi own.length g tc te) (gName i)) := by
  intro pins s σ H D I h
  rw [exec_Assign_Name_used _ _ _ _ hsw]
  refine wpAny_bind (wpAny_standAt (wpAny_bind ?_))
  show wpAny _ X.A (do let _ ← comprehension (.ListComp elt [⟨tg, iter, ifs, 0⟩] scope pos) scope X.env _ (newList []) false (eval iter X.env) (some (assign (.Name x pos') X.env))) _ _ s
  refine wpAny_bind (wpAny_mono (comp_core (pos := pos) (use := some (assign (.Name x pos') X.env)) (QV := fun _ s' => SP X pins D .next s') S hi hg ht he hs I h fun Da C s2 H2 H3 s4 I2 hC hfree hn inv q => ?_) (fun _ s' hq => wpAny_pure (wpAny_pure hq)) fun _ _ e => e)
  obtain ⟨m, hn⟩ := hn
  have I4 : Inv X pins σ H3 s4 := inv s4.heap (Heap.SameBut.refl _ _)
  have nC : s2.heap.get? C = none := Heap.get?_none_of_le hC
  refine wpAny_assign_Name (store_ok2 I4 hN hix hx (show RelV (.ref Da) (.ref Da) from rfl) (fun s5 I5 ⟨a, sb, ha⟩ => ⟨m, hn.sameBut sb ?_, fun h' sb' => ⟨_, H3, I5.let_go I2 hC hfree sb', q⟩⟩) hf)
  rintro rfl
  rcases ha with z | z
  · obtain ⟨_, hn2, _⟩ := I2.loc
    obtain ⟨_, _, _, hL, _⟩ := hn2
    rw [← z, nC] at hL; cases hL
  · obtain ⟨_, _, hc, _⟩ := I2.cell x _ z
    rw [nC] at hc; cases hc
end
end L2
set_option Elab.async false
set_option linter.all false
set_option maxRecDepth 100000
namespace L2
open PySem PySem.Spec PyProof.Rows
theorem Inv.track {X : Cx} {pins : List (Addr × Obj)} {σ : St} {H : Hp} {s : Shared} {a : Addr} {o : HO} (I : Inv X pins σ H s) (hn : H a = none) (h0 : X.s₀.heap.get? a = none) (hL : a ≠ X.env.locals)
    (hc : ∀ x c, X.env.cells.lookup x = some c → c ≠ a) (hp : ∀ p ∈ X.pn ++ pins, p.1 ≠ a) (new : ObjOk X.prog X.w (upd H a o) s.heap a o) : Inv X pins σ (upd H a o) s := by
  have ne : ∀ b u, H b = some u → b ≠ a := fun b u e z => by rw [z, hn] at e; cases e
  refine ⟨I.ok, I.os, I.bare, ⟨I.base.keep, I.base.slot, fun b u e n hx => ?_, I.base.there, fun b xs e => ?_, fun b u v e => ?_, fun b ps e => ?_⟩, I.loc, I.cell, ?_, fun x c e => ?_, fun p h => ?_, fun b u e => ?_, I.len, I.hn.mono fun b u v e => by rw [upd_ne (ne b _ e)]; exact e⟩
  · rw [upd_ne (fun z => by rw [z, h0] at e; cases e)]; exact I.base.free b u e n hx
  · have q := I.base.tups b xs e
    rw [upd_ne (ne b _ q)]; exact q
  · have q := I.base.frzs b u v e
    rw [upd_ne (ne b _ q)]; exact q
  · obtain ⟨m, q⟩ := I.base.tbls b ps e
    exact ⟨m, by rw [upd_ne (ne b _ q)]; exact q⟩
  · rw [upd_ne (Ne.symm hL)]; exact I.free
  · rw [upd_ne (hc x c e)]; exact I.freeC x c e
  · obtain ⟨q1, q2, q3⟩ := I.pin p h
    exact ⟨q1, by rw [upd_ne (hp p h)]; exact q2, q3⟩
  · by_cases hb : b = a
    · subst hb; rw [upd_same] at e; cases e; exact new
    · rw [upd_ne hb] at e
      exact (I.hok b u e).stay (fun _ _ _ q => q) (fun c q => by rw [upd_ne (ne c _ q)]; exact q) fun c xs q => by rw [upd_ne (ne c _ q)]; exact q
def IsExc (a C : Addr) (h : Heap) : Prop := ∃ o vs, h.get? a = some o ∧ o.cls = .ref C ∧ o.data = .fields vs
abbrev HO.exc (a C : Addr) : HO := .ext (IsExc a C)
def Exc (H : Hp) (a C : Addr) : Prop := ∃ o, H a = some (.frz o (.exc a C))
theorem exc_ok {P : Program} {w : World} {H : Hp} {h : Heap} {a C : Addr} (e : IsExc a C h) : ObjOk P w H h a (.exc a C) := by
  obtain ⟨o, vs, h1, h2, h3⟩ := id e
  exact ⟨e, ⟨o, h1⟩, fun g1 g2 ⟨o', vs', q1, q2, q3⟩ k => ⟨o', vs', k _ q1, q2, q3⟩⟩
def PassS (X : Cx) (E : St → XK) : Prop := ∀ (pins : List (Addr × Obj)) (σ : St) (H : Hp) (s : Shared) (e : Value) (s' : Shared), Inv X pins σ H s → XC X.prog X.w X.stack H s (E σ) e s' → X.xe e s'
def tCallS (sp : Sp) (E : St → XK) (t : TA) : TE := fun σ H Q => t σ H fun vs H1 => sp vs H1 Q (E σ)
section
variable {X : Cx} {k : Nat} {f : Addr} {fd : FuncData} {ps : List Str} {sp : Sp} {E : St → XK} {x : Str} {p pos : Pos} {e : Expr} {es : List Expr} {t : TA}
theorem pe_callS {cm : Bool} (F : FnOk X.prog X.w X.K X.mg X.base (XC X.prog X.w) k f fd ps sp cm) (hr : RoomC cm k X.A) (hg : Gl X x) (hm : X.mg x = some (.ref f)) (hk : PySem.W.keepIn X.K (.ref f) = true) (hb : Binds X.K fd ps []) (hx : PassS X E)
    (ha : PA X (e :: es) t) (hdb : (x == ("__debug__" : Str)) = false := by decide) (he : starEach (e :: es) X.env = (false, eval e X.env) :: starEach es X.env := by rfl) (hpl : (backTo pos (starEach es X.env)).any (·.1) = false := by rfl) :
    PE X (.Call (.Name x p) (e :: es) [] pos) (tCallS sp E t) := by
  intro pins s σ H Q I h
  refine wpAny_Call_Name_kw (ld_glob I hg hm ?_ hdb)
  refine PySem.W.callWith_K (h₀ := X.base) I.ok.mod.kin hk (thn (ha pos pins s σ H _ I h) fun us s1 ⟨vs, H1, I1, r, q⟩ => ⟨I1.kIn, ?_⟩) he hpl
  have hl : (us ++ []).length = ps.length := by rw [List.append_nil, ← r.length]; exact F.len _ _ _ _ q
  have hb' := hb s1 us I1.kIn hl
  rw [List.append_nil] at hb'
  refine wpAny_call (codeAny_mono (F.run X.A X.stack s1 H1 ⟨us, []⟩ us vs Q (E σ) hr I1.env0 hb' r q) fun r' s' hq => ?_)
  cases r' with
  | error e' => exact hx pins σ H1 s1 e' s' I1 hq
  | ok fl =>
    cases fl with
    | ret u => exact I1.after hq
    | next => exact False.elim hq
    | brk => exact False.elim hq
    | cont => exact False.elim hq
end
abbrev Cx.tryb (X : Cx) (pins : List (Addr × Obj)) (E : Value → Shared → Prop) : Cx := { X with pn := X.pn ++ pins, xe := E }
abbrev Cx.hand (X : Cx) (e : Value) : Cx := { X with A := X.A.mark (some e), calm := false, xe := fun _ _ => False }
section
variable {X : Cx} {pins pl : List (Addr × Obj)} {σ : St} {H : Hp} {s : Shared} {E : Value → Shared → Prop}
theorem Inv.tryb (I : Inv X pins σ H s) : Inv (X.tryb pins E) [] σ H s :=
  ⟨⟨I.ok.mod, I.ok.kind, I.ok.glob, I.ok.blt, I.ok.above, I.ok.inj, I.ok.has, I.ok.cab, I.ok.hd, I.ok.frames, I.ok.stk, I.ok.exf, I.ok.bs, I.ok.bsz, I.ok.noex, I.ok.exfs, I.ok.funs, I.ok.frf⟩, I.os, I.bare, I.base, I.loc, I.cell, I.free, I.freeC, fun p hp => I.pin p (by simpa using hp), I.hok, I.len, I.hn⟩
theorem Inv.untry (I : Inv (X.tryb pins E) pl σ H s) : Inv X pins σ H s :=
  ⟨⟨I.ok.mod, I.ok.kind, I.ok.glob, I.ok.blt, I.ok.above, I.ok.inj, I.ok.has, I.ok.cab, I.ok.hd, I.ok.frames, I.ok.stk, I.ok.exf, I.ok.bs, I.ok.bsz, I.ok.noex, I.ok.exfs, I.ok.funs, I.ok.frf⟩, I.os, I.bare, I.base, I.loc, I.cell, I.free, I.freeC, fun p hp => I.pin p (List.mem_append_left _ hp), I.hok, I.len, I.hn⟩
theorem Inv.hand {e : Value} (I : Inv X pins σ H s) (hn : HdF (X.A.mark (some e)) H) : Inv (X.hand e) pins σ H s :=
  ⟨⟨I.ok.mod, I.ok.kind, I.ok.glob, I.ok.blt, I.ok.above, I.ok.inj, I.ok.has, I.ok.cab, (fun z => by cases z), I.ok.frames, I.ok.stk, I.ok.exf, I.ok.bs, I.ok.bsz, I.ok.noex, I.ok.exfs, I.ok.funs, I.ok.frf⟩, I.os, I.bare, I.base, I.loc, I.cell, I.free, I.freeC, I.pin, I.hok, I.len, hn⟩
theorem Inv.unhand {e : Value} (hd : X.calm = true → X.A.handled = none) (hn : X.A.handled = none) (I : Inv (X.hand e) pins σ H s) : Inv X pins σ H s :=
  ⟨⟨I.ok.mod, I.ok.kind, I.ok.glob, I.ok.blt, I.ok.above, I.ok.inj, I.ok.has, I.ok.cab, hd, I.ok.frames, I.ok.stk, I.ok.exf, I.ok.bs, I.ok.bsz, I.ok.noex, I.ok.exfs, I.ok.funs, I.ok.frf⟩, I.os, I.bare, I.base, I.loc, I.cell, I.free, I.freeC, I.pin, I.hok, I.len, .inl hn⟩
end
section
variable {X : Cx} {body : List Stmt} {b0 : Stmt} {suite : List Stmt} {cn n : Str} {np hpos pos : Pos} {C0 : Addr} {i : Nat} {tb : (St → XK) → TS} {th : TS}
end
end L2
set_option Elab.async false
set_option linter.all false
set_option maxRecDepth 100000
namespace L2
open PySem PySem.Spec PyProof.Rows
section
variable {P : Program} {w : World} {K : PySem.W.Frag} {mg : Str → Option Value} {base : Heap} {k : Nat} {x m : Str} {C : Addr} {ps : List Str} {sp : Sp}
structure GoodF (P : Program) (w : World) (K : PySem.W.Frag) (mg : Str → Option Value) (base : Heap) (k : Nat) (x : Str) (ps : List Str) (sp : Sp) (c : Bool := true) : Prop where
  ex : ∃ f fd, FnOk P w K mg base (XC P w) k f fd ps sp c ∧ Binds K fd ps [] ∧ PySem.W.keepIn K (.ref f) = true ∧ mg x = some (.ref f)
structure GoodC (P : Program) (w : World) (K : PySem.W.Frag) (mg : Str → Option Value) (base : Heap) (k : Nat) (x : Str) (C : Addr) (ps : List Str) (sp : Sp) : Prop where
  ex : ∃ f fd, Mk K C f ∧ FnOk P w K mg base (XC P w) k f fd ps sp ∧ Binds K fd ps [] ∧ mg x = some (.ref C)
structure GoodM (P : Program) (w : World) (K : PySem.W.Frag) (mg : Str → Option Value) (base : Heap) (k : Nat) (C : Addr) (m : Str) (ps : List Str) (sp : Sp) : Prop where
  cl : Cls K C
  ex : ∃ f fd, Meth K C m f ∧ FnOk P w K mg base (XC P w) k f fd ps sp ∧ Binds K fd ps []
end
section
variable {X : Cx} {k : Nat} {x m : Str} {C : Addr} {ps : List Str} {sp : Sp} {E : XK} {p pos apos : Pos} {e o : Expr} {es : List Expr} {ta : TE} {t : TA}
theorem pe_callG {cm : Bool} (G : GoodF X.prog X.w X.K X.mg X.base k x ps sp cm) (hr : RoomC cm k X.A) (hx : Passes (XC X.prog X.w) X E) (hg : Gl X x) (ha : PA X (e :: es) t)
    (hdb : (x == ("__debug__" : Str)) = false := by decide) (he : starEach (e :: es) X.env = (false, eval e X.env) :: starEach es X.env := by rfl) (hpl : (backTo pos (starEach es X.env)).any (·.1) = false := by rfl) :
    PE X (.Call (.Name x p) (e :: es) [] pos) (tCall sp [] E t) := by
  obtain ⟨f, fd, F, b, kp, mgx⟩ := G.ex
  exact pe_call F hr hg mgx kp b .nil hx ha hdb he hpl
theorem pe_callGS {cm : Bool} {Es : St → XK} (G : GoodF X.prog X.w X.K X.mg X.base k x ps sp cm) (hr : RoomC cm k X.A) (hx : PassS X Es) (hg : Gl X x) (ha : PA X (e :: es) t)
    (hdb : (x == ("__debug__" : Str)) = false := by decide) (he : starEach (e :: es) X.env = (false, eval e X.env) :: starEach es X.env := by rfl) (hpl : (backTo pos (starEach es X.env)).any (·.1) = false := by rfl) :
    PE X (.Call (.Name x p) (e :: es) [] pos) (tCallS sp Es t) := by
  obtain ⟨f, fd, F, b, kp, mgx⟩ := G.ex
  exact pe_callS F hr hg mgx kp b hx ha hdb he hpl
theorem pe_makeG (G : GoodC X.prog X.w X.K X.mg X.base k x C ps sp) (hr : Room (k + 1) X.A) (hx : Passes (XC X.prog X.w) X E) (hg : Gl X x) (ha : PA X (e :: es) t)
    (hdb : (x == ("__debug__" : Str)) = false := by decide) (he : starEach (e :: es) X.env = (false, eval e X.env) :: starEach es X.env := by rfl) (hpl : (backTo pos (starEach es X.env)).any (·.1) = false := by rfl) :
    PE X (.Call (.Name x p) (e :: es) [] pos) (tMake C sp [] E t) := by
  obtain ⟨f, fd, M, F, b, mgx⟩ := G.ex
  exact pe_make M F hr hg mgx b .nil hx ha hdb he hpl
theorem pe_methG {pl : Sem Bool} (ho : PE X o ta) (G : GoodM X.prog X.w X.K X.mg X.base k C m ps sp) (hr : Room k X.A) (hx : Passes (XC X.prog X.w) X E) (ha : PA X (e :: es) t)
    (hst : starEach (e :: es) X.env = (false, eval e X.env) :: starEach es X.env := by rfl) (hpl : (backTo pos (starEach es X.env)).any (·.1) = false := by rfl)
    (ht : eval (.Call (.Attribute o m apos) (e :: es) [] pos) X.env = (do
      let ov ← eval o X.env
      standAt apos.atName
      let (f, first) ← holding [ov] (getMethod ov m pl)
      callWith pos f first (backTo pos (starEach (e :: es) X.env)) (backToKw pos (keywordEach [] X.env))) := by rfl) :
    PE X (.Call (.Attribute o m apos) (e :: es) [] pos) (tMeth C m sp [] E ta t) := by
  obtain ⟨f, fd, M, F, b⟩ := G.ex
  exact pe_meth ho G.cl M F hr b .nil hx ha hst hpl ht
end
inductive ClsV : V → Value → Prop where
  | ty (n : String) : ClsV (.ty n) (.type n)
  | ref (a : Addr) : ClsV (.ref a) (.ref a)
theorem ClsV.val {c : V} {cv u : Value} (h : ClsV c cv) (r : RelV c u) : u = cv := by cases h <;> exact r
section
variable {X : Cx}
theorem call_isi : CallR X (.builtin "isinstance") (fun xs H Q => ∃ x c t cv b, xs = [x, c] ∧ TyOf X.K H x t ∧ ClsV c cv ∧ PySem.W.kitOne X.K t cv = some b ∧ Q (.bl b) H) := by
  intro pins s σ H xs us Q I r h
  obtain ⟨x, c, t, cv, b, rfl, ty, hc, e, q⟩ := h
  obtain ⟨u, w, rfl, ru, rc⟩ := vals2 r
  obtain rfl := hc.val rc
  exact isinst_ok I ru ty e fun tk => ⟨.bl b, H, I.tok tk, rfl, q⟩
end
theorem Inv.turnedL {X : Cx} {pins : List (Addr × Obj)} {σ : St} {H : Hp} {s : Shared} {h' : Heap} {t' : Nat} {ch : List Addr} (I : Inv X pins σ H s) (fp : ∀ c ∈ ch, FpOk X pins H c) (keep : ∀ c o, c ∉ ch → s.heap.get? c = some o → h'.get? c = some o) :
    Inv X pins σ H { s with heap := h', toks := t' } := by
  have nfp : ∀ c o, H c = some o → c ∉ ch := fun c o e hc => by have := (fp c hc).1; rw [e] at this; cases this
  refine I.step (g' := s.gens) (d' := s.drawn) (ch := ch) (fun c hc => ⟨(fp c hc).2.2.2.1, (fp c hc).2.1, (fp c hc).2.2.2.2.1, (fp c hc).2.2.2.2.2⟩)
    (fun c o _ _ hc e _ => keep c o hc e) (fun c o _ _ hc e _ => ⟨o.slots, keep c o hc e⟩) (fun _ _ _ _ n => n) (fun c o hc e => ⟨o, keep c o hc e⟩) (fun _ _ e => e) (fun _ _ _ e => e) (fun c ps e => ⟨#[], by rw [e]; simp⟩) (fun m hm => ?_) (fun c o e => ?_) I.bare
  · obtain ⟨o, es, ep, ho, r⟩ := hm
    exact ⟨o, es, ep, keep _ o (fun hc => (fp _ hc).2.1 rfl) ho, r⟩
  · refine (I.hok c o e).stay (fun d u hd q => keep d u ?_ q) (fun _ q => q) fun _ _ q => q
    rcases hd with z | z
    · rw [z]; exact nfp c o e
    · exact nfp d _ z
section
variable {X : Cx} {elts : List Expr} {kk : Nat} {tpos : Pos}
end
section
variable {X : Cx} {tg : Expr}
end
end L2
set_option Elab.async false
set_option linter.all false
set_option maxRecDepth 100000
namespace L2
open PySem PySem.Spec PyProof.Rows
theorem b_int : bootBuiltins "int" = some (.type "int") := by decide +kernel
theorem b_bool : bootBuiltins "bool" = some (.type "bool") := by decide +kernel
theorem b_str : bootBuiltins "str" = some (.type "str") := by decide +kernel
theorem b_tuple : bootBuiltins "tuple" = some (.type "tuple") := by decide +kernel
theorem b_ValueError : bootBuiltins "ValueError" = some (.type "ValueError") := by decide +kernel
theorem b_isinstance : bootBuiltins "isinstance" = some (.builtin "isinstance") := by decide +kernel
theorem b_len : bootBuiltins "len" = some (.builtin "len") := by decide +kernel
theorem passX0 {X : Cx} : Passes (XC X.prog X.w) X (fun _ _ _ => False) := by
  intro pins σ H s e s' I h
  obtain ⟨_, _, _, _, _, _, _, _, _, q⟩ := h
  exact q.elim
section
variable {X : Cx} {tg : Expr}
def iSeq (K : PySem.W.Frag) (tl : TE) : TI := fun σ H R => tl σ H fun x H1 => ∃ a, x = .ref a ∧ (((∃ xs, SqL K H1 a xs) ∧ R (Itl K a) H1) ∨ ((∃ xs, SqT K H1 a xs) ∧ R (Itt K a) H1))
theorem pi_seq {l : Expr} {tl : TE} (hl : PE X l tl) : PI X tg l (iSeq X.K tl) := by
  intro pins s σ H R I h
  refine thn (hl pins s σ H _ I h) fun v s1 ⟨x, H1, I1, r1, q1⟩ => ?_
  obtain ⟨a, e, ⟨⟨xs, hq⟩, q⟩ | ⟨⟨xs, hq⟩, q⟩⟩ := q1
  all_goals
    subst e
    cases r1
  · obtain ⟨its, rv, p, hz⟩ := I1.list hq
    refine wpAny_pyIter_list p.isList ?_
    refine ⟨s1.heap.objs.size, [s1.heap.objs.size], _, _, H1, rfl, I1.kept (t' := s1.toks) fun b o e => Heap.get?_push_of_some _ e, TurnX.of (turn_list a _), ⟨_, Heap.get?_push_size _ rfl, rfl, rfl⟩, fun b hb => ?_, q⟩
    obtain rfl : b = s1.heap.objs.size := by simpa using hb
    exact I1.fpOk (Nat.le_refl _) (I1.hok.fresh (Nat.le_refl _))
  · obtain ⟨its, rv, p, hz⟩ := I1.tuple hq
    refine wpAny_pyIter_tuple (show s1.heap.IsTuple a its.toArray from p) ?_
    refine ⟨s1.heap.objs.size, [s1.heap.objs.size], _, _, H1, rfl, I1.kept (t' := s1.toks) fun b o e => Heap.get?_push_of_some _ e, TurnX.of (turn_tuple a _), ⟨_, Heap.get?_push_size _ rfl, rfl, rfl⟩, fun b hb => ?_, q⟩
    obtain rfl : b = s1.heap.objs.size := by simpa using hb
    exact I1.fpOk (Nat.le_refl _) (I1.hok.fresh (Nat.le_refl _))
end
section
variable {X : Cx}
theorem strsAre_of {ns : List Str} : ∀ {us : List Value}, Vals (ns.map V.str) us → StrsAre us ns := by
  induction ns with
  | nil => intro us r; cases r; exact .nil
  | cons n r ih =>
    intro us rr
    cases rr with
    | cons ra rb =>
      obtain ⟨t, rfl⟩ := ra
      exact .cons n t (ih rb)
def rJoin (K : PySem.W.Frag) : V → List V → Hp → VK → Prop := fun x vs H Q => ∃ z p ys, x = .str z ∧ vs = [.ref p] ∧ SqL K H p (ys.map V.str) ∧ (ys.map (·.length)).sum + ys.length * z.length ≤ 16777216 ∧ Q (.str (Txt.join z ys)) H
theorem mt_join : MtR X "str.join" (rJoin X.K) := by
  intro pins s σ H x vs v us Q I rx rv h
  obtain ⟨z, p, ys, rfl, rfl, hq, hs, q⟩ := h
  obtain ⟨t, rfl⟩ := rx
  obtain ⟨u, rfl, ru⟩ := vals1 rv
  cases ru
  obtain ⟨its, r, pl, _⟩ := I.list hq
  exact join_list pl.isList (by simpa using strsAre_of r) hs fun t' k => ⟨.str _, H, I.tok k, ⟨t', rfl⟩, q⟩
end
theorem cs_nil {X : Cx} {scope : Scope} {N : List Str} (hN : X.N = N) (hk : scope.kind = .function) (h1 : (scope.names.all fun y => y.2 != .free && y.2 != .cell) = true) (h2 : (scope.names.all fun y => y.2 != .local || scope.names.lookup y.1 == some .local) = true)
    (h3 : (N.all fun x => scope.names.lookup x != some .local) = true) : CompScope X scope [] where
  clos := closureFor_none fun y hy => by
    have := List.all_eq_true.mp h1 y hy
    simp only [Bool.and_eq_true, bne_iff_ne] at this
    exact this.1
  kind := hk
  nocell := fun y hy => by
    have := List.all_eq_true.mp h1 y hy
    simp only [Bool.and_eq_true, bne_iff_ne] at this
    exact this.2
  names := fun y hy e => by
    have := List.all_eq_true.mp h2 y hy
    rw [e] at this
    simpa using this
  sub := fun x c e => by cases e
  has := fun x e => by
    have := List.all_eq_true.mp h1 _ (lookup_mem e)
    simp at this
  apart := fun x hx => by
    have := List.all_eq_true.mp h3 x (hN ▸ hx)
    simpa using this
  outer := fun x e => by
    have := List.all_eq_true.mp h1 _ (lookup_mem e)
    simp at this
theorem comp_pure {K : PySem.W.Frag} {a : Addr} {xs : List V} {g : TG} {tc : TT} {te : TE} {k : Nat} {σ : St} {H : Hp} {Q : VK} (p : V → Bool) (f : V → V) (hl : SqL K H a xs) (hz : xs.length ≤ sizeLine)
    (step : ∀ x ∈ xs, ∀ (H' : Hp) (Qy : VK) (Qn : Hp → Prop), Same H H' → (p x = true → Qy (f x) H') → (p x = false → Qn H') → g x (σ ++ List.replicate k none) H' fun σ2 H2 => (∃ zs, σ2 = σ ++ zs ∧ zs.length = k) ∧ tc σ2 H2 fun b H3 => if b = true then te σ2 H3 Qy else Qn H3)
    (q : ∀ D, H D = none → Q (.ref D) (upd H D (.lst ((xs.filter p).map f)))) :
    compT k g tc te σ Q (Itl K a) H := by
  intro D hD
  have sm : ∀ ys, Same H (upd H D (.lst ys)) := fun ys b o e => by rw [upd_ne (ne_of_none e hD)]; exact e
  refine ⟨fun i m ys H' => m = xs.length - i ∧ i ≤ xs.length ∧ ys = ((xs.take i).filter p).map f ∧ H' = upd H D (.lst ys), ⟨xs.length, by simp, Nat.zero_le _, by simp, rfl⟩, ?_⟩
  rintro i m ys H' ⟨rfl, hi, rfl, rfl⟩
  refine ⟨upd_same, ?_⟩
  have q1 : SqL K (upd H D (.lst (((xs.take i).filter p).map f))) a xs := (sm _).seq hl
  by_cases hlt : i < xs.length
  · refine .inr ⟨⟨xs, xs[i], q1, by simp [hlt]⟩, ?_, fun x H2 y => ?_⟩
    · have := List.length_filter_le p (xs.take i)
      rw [List.length_map]
      simp only [List.length_take] at this
      omega
    · obtain ⟨rfl, y⟩ := y
      have hx : xs[i]? = some x := y xs q1
      have hm : x ∈ xs := List.mem_of_getElem? hx
      have et : (xs.take (i + 1)).filter p = (xs.take i).filter p ++ (if p x then [x] else []) := take_succ_filter p xs i x hx
      refine step x hm _ _ _ (sm _) (fun hp => ⟨upd_same, xs.length - (i + 1), by omega, rfl, hlt, ?_, ?_⟩) fun hp => ⟨xs.length - (i + 1), by omega, rfl, hlt, ?_, rfl⟩
      · rw [et, hp]; simp
      · rw [upd_upd]
      · rw [et, hp]; simp
  · obtain rfl : i = xs.length := by omega
    refine .inl ⟨⟨xs, q1, Nat.le_refl _⟩, ?_⟩
    rw [List.take_length]
    exact q D hD
end L2
set_option Elab.async false
set_option linter.all false
set_option maxRecDepth 100000
namespace L2
open PySem PySem.Spec PyProof.Rows PySem.W
structure ErrF (K : PySem.W.Frag) (C : Addr) : Prop where
  ex : excIn K C bmV "ValueError.__new__" = true
  ga : findIn K (.ref C) "__getattribute__" = some (some (.builtin "BaseException.__getattribute__"))
  gt : findIn K (.ref C) "__getattr__" = some none
  cl : findIn K (.ref C) "__class__" = some (some (.builtin "object.__class__"))
  ge : specialIn K (.builtin "object.__class__") "__get__" = some (some (.builtin "getset_descriptor.__get__"))
  tk : takesIn K (.builtin "object.__class__") = some true
  mo : mroIn K C (.type "object") = some true
  mb : mroIn K C (.type "BaseException") = some true
section
variable {prog : Program} {w : World} {A : Around} {E : Value → Shared → Prop} {s : Shared} {K : PySem.W.Frag} {x C : Addr}
theorem exc_ty {M : Model} {h : Heap} (p : IsExc x C h) : Looks M h (typeOf (.ref x)) (.ref C) := by
  obtain ⟨o, vs, h1, h2, _⟩ := p
  exact h2 ▸ (Looks.ld h1).andThen .now
theorem exc_find {M : Model} {h : Heap} (F : ErrF K C) (X : K.In h) : Looks M h (Builtin.ObjectAttr.find (.ref x) (.ref C) "__class__") (.bind (.builtin "getset_descriptor.__get__") (.builtin "object.__class__")) := by
  have L1 := looks_findIn (M := M) X F.cl
  have L2 := looks_specialIn (M := M) X F.ge
  have L3 := looks_takesIn (M := M) X F.tk
  exact L1.andThen (L2.andThen ((show Looks M h (Builtin.ObjectAttr.dataDescriptor? (some (.builtin "object.__class__")) (some (.builtin "getset_descriptor.__get__"))) (some (.builtin "getset_descriptor.__get__", .builtin "object.__class__")) from L3.andThen .now).andThen (Looks.tag .now)))
theorem exc_get {R : Result → Shared → Prop} (F : ErrF K C) (X : K.In s.heap) (p : IsExc x C s.heap) (h : R (.ok (.ret (.ref C))) s) :
    codeAny (model prog w) A (.call (.builtin "getset_descriptor.__get__") ⟨[.builtin "object.__class__", .ref x, .ref C], []⟩) R s := by
  obtain ⟨hh, g, dr, t, os⟩ := s
  have L0 := exc_ty (M := model prog w) p
  have L1 := looks_mroIn (M := model prog w) X F.mo
  refine codeAny_call_builtin KF.slot_gs.plain KF.entry_gs
    (KF.slot_gs.check _ _ _ _ _ _ _ _ KF.type_class (KF.args_gs _ _ _) ?_)
  unfold Builtin.«getset_descriptor.__get__» Builtin.Getset_descriptor.descrGet
  rw [dga_obj]
  refine wpAny_bind (wpAny_pure ?_)
  unfold Builtin.Getset_descriptor.descrGetter Builtin.Getset_descriptor.descrCheckInstance Builtin.Getset_descriptor.descrNameAndClass isInstance
  simp only [KF.owner_class]
  repeat lk
  refine ⟨Code.quiet_builtin _ (by decide +kernel), codeAny_builtin KF.entry_class ?_⟩
  unfold Builtin.«object.__class__» shownTypeOf
  repeat lk
  exact h
theorem exc_ent {tk : Tok} {Q : Fin → Shared → Prop} (F : ErrF K C) (X : K.In s.heap) (p : IsExc x C s.heap) (h : Q (.done (.ret (.ref C))) s) :
    wpAny (model prog w) A (Builtin.«object.__getattribute__» ⟨[.ref x, .str "__class__" tk], []⟩) Q E s := by
  obtain ⟨hh, g, dr, t, os⟩ := s
  have L0 := exc_ty (M := model prog w) p
  have L3 := exc_find (M := model prog w) (x := x) F X
  unfold Builtin.«object.__getattribute__» Builtin.ObjectAttr.bindTo
  repeat (any_goals (first | with_reducible assumption | with_reducible refine L0.at ?_ | with_reducible refine L3.at ?_ | wp_step))
  refine exc_get F X p ?_
  repeat (any_goals (first | with_reducible assumption | wp_step))
theorem exc_ga {tk : Tok} {R : Result → Shared → Prop} (F : ErrF K C) (X : K.In s.heap) (p : IsExc x C s.heap) (h : R (.ok (.ret (.ref C))) s) :
    codeAny (model prog w) A (.call (.builtin "BaseException.__getattribute__") ⟨[.ref x, .str "__class__" tk], []⟩) R s := by
  have L4 : Looks (model prog w) s.heap (isInstance (.ref x) (.type "BaseException")) true := by
    unfold isInstance
    exact (exc_ty p).andThen (looks_mroIn X F.mb)
  have hk : builtinKind "BaseException.__getattribute__" = some .slot := by decide +kernel
  have hs : splitId "BaseException.__getattribute__" = some ("BaseException", "__getattribute__") := by decide +kernel
  refine codeAny_call_builtin PySem.F.excAttr_ValueError.ga.plain PySem.F.entry_bexc_ga ?_
  have ha := PySem.F.args_bexc_ga (.ref x) (.str "__class__" tk)
  generalize "BaseException.__getattribute__" = i at hk hs ha ⊢
  refine check_slot (self := .ref x) (rest := [.str "__class__" tk]) (kw := []) hk hs L4 ha ?_
  exact exc_ent F X p h
theorem exc_by {tk : Tok} {fill expr : Bool} {Q : Value → Shared → Prop} (F : ErrF K C) (X : K.In s.heap) (p : IsExc x C s.heap) (h : Q (.ref C) s) :
    wpAny (model prog w) A (getAttrBy (.ref x) (.str "__class__" tk) fill expr) Q E s := by
  obtain ⟨hh, g, dr, t, os⟩ := s
  have L0 := exc_ty (M := model prog w) p
  have L1 := looks_findIn (M := model prog w) X F.ga
  have L2 := looks_findIn (M := model prog w) X F.gt
  have f3 := PySem.F.excAttr_ValueError.ga.bind (.ref x)
  have hx0 : (expr && onTheHeap (Value.builtin "BaseException.__getattribute__")) = false := by cases expr <;> rfl
  have hx2 : (Value.builtin "BaseException.__getattribute__" == Value.builtin "object.__getattribute__") = false := by decide +kernel
  have hx1 : (onTheHeap (Value.ref C) && Value.builtin "BaseException.__getattribute__" == Value.builtin "object.__getattribute__") = false := by rw [hx2]; rfl
  repeat (any_goals (first | with_reducible assumption | with_reducible refine L0.at ?_ | with_reducible refine L1.at ?_ | with_reducible refine L2.at ?_ | wp_step))
  refine exc_ga F X p ?_
  repeat (any_goals (first | with_reducible assumption | wp_step))
theorem exc_class {Q : Option Value → Shared → Prop} (F : ErrF K C) (X : K.In s.heap) (p : IsExc x C s.heap) (h : Q (some (.ref C)) { s with toks := s.toks + 1 }) : wpAny (model prog w) A (getAttr? (.ref x) "__class__") Q E s := by
  obtain ⟨hh, g, dr, t, os⟩ := s
  unfold getAttr? getAttrBy?
  repeat (any_goals (first | with_reducible assumption | with_reducible refine exc_by F X p ?_ | wp_step))
end
section
variable {K : PySem.W.Frag} {x C : Addr}
theorem kitx_exc (F : ErrF K C) : KitX K (.ref x) (.ref C) (IsExc x C) where
  ty := fun M h X p => exc_ty p
  it := fun M h X p => by
    obtain ⟨nm, qn, N, bs, bm, hdct, sn, sub, ab, col, dd, k0, k1, k2, k3, k5, mN, hC, _⟩ := exc_cls X F.ex
    intro A Q E s k q
    unfold isType loadHead
    exact wpAny_bind (wpAny_loadPart (k _ _ hC) (wpAny_pure q))
  ne := fun h tp dd its n sl X htp => by
    obtain ⟨nm, qn, N, bs, bm, hdct, sn, sub, ab, col, dd, k0, k1, k2, k3, k5, mN, hC, _⟩ := exc_cls X F.ex
    refine Bool.eq_false_iff.mpr fun q => ?_
    obtain rfl : C = tp := Value.ref.inj (beq_iff_eq.mp q)
    have z := hC.symm.trans htp
    have z2 := congrArg Obj.cls (Option.some.inj z)
    exact absurd (Value.type.inj z2) (by decide)
  ca := fun X p k => exc_class F X p k
end
section
variable {X : Cx}
theorem exc_in {pins : List (Addr × Obj)} {σ : St} {H : Hp} {s : Shared} {a C : Addr} (I : Inv X pins σ H s) (e : Exc H a C) : IsExc a C s.heap := by
  obtain ⟨o, e⟩ := e
  exact (I.hok a _ e).2.1
theorem call_isiE : CallR X (.builtin "isinstance") (fun xs H Q => ∃ a C c cv b, xs = [.ref a, c] ∧ Exc H a C ∧ ErrF X.K C ∧ ClsV c cv ∧ kitOne X.K (.ref C) cv = some b ∧ Q (.bl b) H) := by
  intro pins s σ H xs us Q I r h
  obtain ⟨a, C, c, cv, b, rfl, ea, F, hc, e, q⟩ := h
  obtain ⟨u, w, rfl, ru, rc⟩ := vals2 r
  obtain rfl := hc.val rc
  cases ru
  exact kia_one (kitx_exc F) I.kIn (exc_in I ea) e (fun z => nomatch z) fun tk => ⟨.bl b, H, I.tok tk, rfl, q⟩
theorem call_isiEK {K : PySem.W.Frag} (h : X.K = K) : CallR X (.builtin "isinstance") (fun xs H Q => ∃ a C c cv b, xs = [.ref a, c] ∧ Exc H a C ∧ ErrF K C ∧ ClsV c cv ∧ kitOne K (.ref C) cv = some b ∧ Q (.bl b) H) := by
  subst h; exact call_isiE
theorem ix_listK {K : PySem.W.Frag} (h : X.K = K) : IxR X (rIxL K) := by
  subst h; exact ix_list
end
end L2
set_option Elab.async false
set_option linter.all false
set_option maxRecDepth 100000
namespace L2
open PySem PySem.Spec PyProof.Rows PySem.W
section
variable {X : Cx}
def rSlS : V → Option Int → Option Int → Hp → VK → Prop := fun x lo hi H Q => ∃ z, x = .str z ∧ z.length ≤ sizeLine ∧ Q (.str (Txt.slice z lo hi)) H
theorem sl_str : SlR X rSlS := by
  intro pins s σ H x v vl vu lo hi sl Q I rx hs pl pu h
  obtain ⟨z, rfl, hz, q⟩ := h
  obtain ⟨t, rfl⟩ := rx
  refine ⟨"str", _, F.slot_str_getitem.lookup, typeIs_str _ _ _, ?_⟩
  have hle := Nat.le_trans (Txt.slice_le z lo hi) hz
  have fin : ∀ t' k, EP X pins σ Q (.str (Txt.slice z lo hi) t') { s with toks := k } := fun t' k => ⟨.str _, H, I.tok k, ⟨t', rfl⟩, q⟩
  cases pl with
  | none =>
    cases pu with
    | none => exact wpAny_getItem_str_slice (l := none) (u := none) (st := none) hs rfl (post_val_or_str ⟨hle, fin⟩)
    | int j u => exact wpAny_getItem_str_slice (l := none) (u := some (j, u)) (st := none) hs rfl (post_val_or_str ⟨hle, fin⟩)
  | int i u0 =>
    cases pu with
    | none => exact wpAny_getItem_str_slice (l := some (i, u0)) (u := none) (st := none) hs rfl (post_val_or_str ⟨hle, fin⟩)
    | int j u => exact wpAny_getItem_str_slice (l := some (i, u0)) (u := some (j, u)) (st := none) hs rfl (post_val_or_str ⟨hle, fin⟩)
theorem vals_strsFrom : ∀ (ys : List Str) (k : Nat), Vals (ys.map V.str) (strsFrom k ys)
  | [], _ => .nil
  | y :: r, k => .cons ⟨k, rfl⟩ (vals_strsFrom r (k + 1))
def rSplit : V → List V → Hp → VK → Prop := fun x vs H Q => ∃ z y, x = .str z ∧ vs = [.str y] ∧ (y.length == 0) = false ∧ z.length ≤ sizeLine ∧ (Txt.split z y).length ≤ sizeLine ∧ ∀ p, H p = none → Q (.ref p) (upd H p (.lst ((Txt.split z y).map V.str)))
theorem mt_split : MtR X "str.split" rSplit := by
  intro pins s σ H x vs v us Q I rx rv h
  obtain ⟨z, y, rfl, rfl, hy, hz, hl, q⟩ := h
  obtain ⟨t, rfl⟩ := rx
  obtain ⟨u, rfl, ru⟩ := vals1 rv
  obtain ⟨t2, rfl⟩ := ru
  have fin : ∀ (ys : List Str) (its : List Value) (tk : Nat), Txt.split z y = ys → Vals (ys.map V.str) its → EP X pins σ Q (.ref s.heap.objs.size) { s with toks := tk, heap := s.heap.push { cls := .type "list", data := .seq its.toArray } } := fun ys its tk e r => by
    subst e
    exact ⟨.ref s.heap.objs.size, _, I.laid (t' := tk) (o := .lst ((Txt.split z y).map V.str)) (fun b ob e => Heap.get?_push_of_some _ e) (Nat.le_refl _) ⟨by rw [List.length_map]; exact hl, its, 0, r, Heap.get?_push_size _ rfl⟩, rfl, q _ I.fresh⟩
  cases h1 : (decide (z.length < y.length) || decide (Builtin.Str.strKind z < Builtin.Str.strKind y)) with
  | true => exact call_meets F.slot_str_split (typeIs_str _ _ _) F.entry_str_split (F.args_str_split_2 _ _) (meets_str_split_cannot_occur z y t t2 h1) (fin [z] _ s.toks (if_pos h1) (.cons ⟨t, rfl⟩ .nil))
  | false =>
    have n1 := ne_true_of_eq_false h1
    cases hf : (Builtin.Str.occurrences z y 0 z.length (z.length + 1)).isEmpty with
    | true => exact call_meets F.slot_str_split (typeIs_str _ _ _) F.entry_str_split (F.args_str_split_2 _ _) (meets_str_split_not_found z y t t2 h1 hy hf) (fin [z] _ s.toks ((if_neg n1).trans (if_pos hf)) (.cons ⟨t, rfl⟩ .nil))
    | false =>
      have e : Txt.split z y = Builtin.Str.partsBetween z (Builtin.Str.occurrences z y 0 z.length (z.length + 1)) y.length := (if_neg n1).trans (if_neg (ne_true_of_eq_false hf))
      exact call_meets F.slot_str_split (typeIs_str _ _ _) F.entry_str_split (F.args_str_split_2 _ _) (meets_str_split_sep z y t t2 h1 hy hf hz (e ▸ hl)) (fin _ _ _ e (vals_strsFrom _ _))
def rStarts : V → List V → Hp → VK → Prop := fun x vs H Q => ∃ z y, x = .str z ∧ vs = [.str y] ∧ Q (.bl (Txt.startswith z y)) H
theorem mt_startswith : MtR X "str.startswith" rStarts := by
  intro pins s σ H x vs v us Q I rx rv h
  obtain ⟨z, y, rfl, rfl, q⟩ := h
  obtain ⟨t, rfl⟩ := rx
  obtain ⟨u, rfl, ru⟩ := vals1 rv
  obtain ⟨t2, rfl⟩ := ru
  exact call_gives F.slot_str_startswith (typeIs_str _ _ _) F.entry_str_startswith (F.args_str_startswith_2 _ _) (gives_str_startswith z y t t2) (show EP X pins σ Q (.bool (Txt.startswith z y)) s from ⟨.bl _, H, I, rfl, q⟩)
theorem call_int_text : CallR X (.type "int") (fun xs H Q => ∃ z n, xs = [.str z] ∧ PySem.intText? z = some n ∧ z.length ≤ 640 ∧ Q (.int n) H) := by
  intro pins s σ H xs us Q I r h
  obtain ⟨z, n, rfl, hn, hl, q⟩ := h
  obtain ⟨u, rfl, ru⟩ := vals1 r
  obtain ⟨t, rfl⟩ := ru
  exact KIN.call_text hn hl ⟨.int n, H, I.tok _, ⟨_, rfl⟩, q⟩
end
end L2
set_option Elab.async false
set_option linter.all false
set_option maxRecDepth 100000
namespace L2
open PySem PySem.Spec PyProof.Rows PySem.W
def ItS (x : Str) : It := ⟨fun i _ => i < x.length, fun i H v H' => H' = H ∧ ∃ c, x.cps[i]? = some c ∧ v = .str ⟨#[c]⟩, fun i _ => x.length ≤ i⟩
theorem iterType (x : Str) : strIterType x = "str_ascii_iterator" ∨ strIterType x = "str_iterator" := by
  unfold strIterType; split
  · exact .inl rfl
  · exact .inr rfl
theorem turn_str {P : Program} {w : World} {K : PySem.W.Frag} {tg : Expr} (it : Addr) (x : Str) (t : Tok) : Turn P w K tg (ItS x) [it] it (fun i h => h.IsStrIter it (strIterType x) x t i) false where
  mem := by simp
  obj := fun i h st b hb => by
    obtain rfl : b = it := by simpa using hb
    obtain ⟨o, e, c, d⟩ := st
    exact ⟨o, e, fun v z => by rw [d] at z; cases z⟩
  keep := fun i h h' st k => by
    obtain ⟨o, e, r⟩ := st
    exact ⟨o, k it (by simp) o e, r⟩
  item := by
    intro X hP hw hK hc i pins s σ H E I hf st hg
    subst hP hw hK
    obtain ⟨f0, f1, f2, f3, f4, f5⟩ := hf it (by simp)
    have hi : i < x.cps.size := hg
    have hx : x.cps[i]? = some x.cps[i] := Array.getElem?_eq_getElem hi
    have fin : ∀ h', h'.IsStrIter it (strIterType x) x t (i + 1) → Heap.SameBut it s.heap h' → ∃ u, some (Value.str ⟨#[x.cps[i]]⟩ s.toks) = some u ∧
        wpAny (model X.prog X.w) X.A (letOwnedTupleGo tg (.ref it) u) (fun _ s2 => ∃ v H', Inv X pins σ H' s2 ∧ RelV v u ∧ (ItS x).yld i H v H' ∧ s2.heap.IsStrIter it (strIterType x) x t (i + 1) ∧ ∀ b ∈ [it], H' b = none) E { s with heap := h', toks := s.toks + 1 } := fun h' st' sb => by
      have I1 : Inv X pins σ H { s with heap := h', toks := s.toks + 1 } := I.turned (fun b o hb e => (sb.2 b hb).trans e) f0 f1 f3 f4 f5
      obtain ⟨o, e, c, d⟩ := id st'
      refine ⟨_, rfl, go_of (s := { s with heap := h', toks := s.toks + 1 }) e c d ?_ ⟨.str ⟨#[x.cps[i]]⟩, H, I1, ⟨_, rfl⟩, ⟨rfl, _, hx, rfl⟩, st', fun b hb => (hf b hb).1⟩⟩
      rcases iterType x with z | z <;> (rw [z]; decide)
    rcases iterType x with z | z
    · refine wpAny_pyNext_ascii_item (z ▸ st) hx fun h' st' sb => fin h' (z ▸ st') sb
    · refine wpAny_pyNext_wide_item (z ▸ st) hx fun h' st' sb => fin h' (z ▸ st') sb
  done := by
    intro X hP hw hK hc i pins s σ H E I hf st hg
    subst hP hw hK
    obtain ⟨f0, f1, f2, f3, f4, f5⟩ := hf it (by simp)
    have hx : x.cps[i]? = none := Array.getElem?_eq_none (show x.cps.size ≤ i from hg)
    rcases iterType x with z | z
    · exact ascii_on (I.hn.now I.hok) (z ▸ st) hx fun h' eb => ⟨rfl, I.turned (t' := s.toks) (fun b o hb e => eb b o hb e) f0 f1 f3 f4 f5⟩
    · exact wide_on (I.hn.now I.hok) (z ▸ st) hx fun h' eb => ⟨rfl, I.turned (t' := s.toks) (fun b o hb e => eb b o hb e) f0 f1 f3 f4 f5⟩
  self := fun A i s Q E st h => by
    rcases iterType x with z | z
    · exact wpAny_pyIter_striter_ascii (z ▸ st) h
    · exact wpAny_pyIter_striter_wide (z ▸ st) h
section
variable {X : Cx} {tg : Expr}
def iStr (tl : TE) : TI := fun σ H R => tl σ H fun v H1 => ∃ x, v = .str x ∧ R (ItS x) H1
theorem pi_str {l : Expr} {tl : TE} (hl : PE X l tl) : PI X tg l (iStr tl) := by
  intro pins s σ H R I h
  refine thn (hl pins s σ H _ I h) fun v s1 ⟨y, H1, I1, r1, x, e, q⟩ => ?_
  subst e
  obtain ⟨t, rfl⟩ := r1
  refine wpAny_pyIter_strU ?_
  refine ⟨s1.heap.objs.size, [s1.heap.objs.size], _, _, H1, rfl, I1.kept (t' := s1.toks) fun b o e => Heap.get?_push_of_some _ e, TurnX.of (turn_str _ x t), ⟨_, Heap.get?_push_size _ rfl, rfl, rfl⟩, fun b hb => ?_, q⟩
  obtain rfl : b = s1.heap.objs.size := by simpa using hb
  exact I1.fpOk (Nat.le_refl _) (I1.hok.fresh (Nat.le_refl _))
end
end L2
set_option Elab.async false
set_option linter.all false
set_option maxRecDepth 100000
namespace L2
open PySem PySem.Spec PyProof.Rows PySem.W
section
variable {X : Cx} {e : Expr} {te : TE} {pos p2 q1 q2 : Pos} {j1 j2 : Nat}
theorem all_range {bs : List Bool} : (List.range bs.length).all (fun j => bs.getD j true) = bs.all id := by
  rw [Bool.eq_iff_iff, List.all_eq_true, List.all_eq_true]
  constructor
  · intro h b hb
    obtain ⟨j, hj, rfl⟩ := List.getElem_of_mem hb
    have := h j (List.mem_range.mpr hj)
    rwa [List.getD_eq_getElem?_getD, List.getElem?_eq_getElem hj] at this
  · intro h j hj
    have hj := List.mem_range.mp hj
    rw [List.getD_eq_getElem?_getD, List.getElem?_eq_getElem hj]
    exact h _ (List.getElem_mem hj)
theorem call_all_bools (hc : X.calm = true) : CallR X (.builtin "all") (fun xs H Q => ∃ (p : Addr) (bs : List Bool), xs = [.ref p] ∧ SqL X.K H p (bs.map V.bl) ∧ Q (.bl (bs.all id)) H) := by
  intro pins s σ H xs us Q I r h
  obtain ⟨p, bs, rfl, hq, q⟩ := h
  obtain ⟨u, rfl, ru⟩ := vals1 r
  cases ru
  obtain ⟨its, rv, pl, _⟩ := I.list hq
  have hlen : its.length = bs.length := by rw [← rv.length, List.length_map]
  have hat : ∀ (i : Nat) (v : Value), its.toArray[i]? = some v → v = .bool (bs.getD i true) := fun i v e => by
    have e' : its[i]? = some v := by simpa using e
    have hi : i < bs.length := by rw [← hlen]; exact (List.getElem?_eq_some_iff.mp e').1
    obtain ⟨u, hu, ru⟩ := rv.get (i := i) (x := V.bl bs[i]) (by simp [hi])
    rw [e'] at hu; cases hu
    obtain rfl := ru
    rw [List.getD_eq_getElem?_getD, List.getElem?_eq_getElem hi]; rfl
  have hlt : p < s.heap.objs.size := by obtain ⟨_, e, _⟩ := pl.isList; exact Heap.lt_size e
  refine call_all_walk (wpAny_pyIter_list pl.isList ?_)
  refine ⟨_, _, _, _, _, _, fun j => bs.getD j true, rfl, Walks.list (A := X.A.in1) (I.ok.hd hc) s.heap.objs.size p (Nat.ne_of_lt hlt) its.toArray, ⟨⟨_, Heap.get?_push_size _ rfl, rfl, rfl⟩, pl.isList.push _⟩, ?_, fun h' tk hk => ?_⟩
  · intro i v s' Q' E' hP hq'
    obtain rfl := hat i v hP
    exact wpAny_of_eq rfl hq'
  · rw [List.size_toArray, hlen, all_range]
    exact ⟨.bl _, H, I.kept fun b o e => hk b o (fun hm => by simp at hm; exact absurd (hm ▸ Heap.lt_size e) (Nat.lt_irrefl _)) (Heap.get?_push_of_some _ e), rfl, q⟩
end
end L2
set_option Elab.async false
set_option linter.all false
set_option maxRecDepth 100000
namespace L2
open PySem PySem.Spec PyProof.Rows PySem.W
section
variable {X : Cx}
end
section
variable {X : Cx}
end
end L2
set_option Elab.async false
set_option linter.all false
set_option maxRecDepth 100000
namespace Wd
open PySem L2 PySem.NumText PySem.W
theorem str_ext {x y : Str} (h : x.cps.toList = y.cps.toList) : x = y := Str.ext' (Array.toList_inj.mp h)
theorem len_list (x : Str) : x.length = x.cps.toList.length := by simp [Str.length]
def figs : List Nat → List Nat
  | 45 :: r => r
  | l => l
theorem figs_neg (r : List Nat) : figs (45 :: r) = r := rfl
theorem figs_pos {l : List Nat} (h : l.head? ≠ some 45) : figs l = l := by
  unfold figs
  split
  · exact absurd rfl h
  · rfl
def isDig (c : Nat) : Bool := decide (48 ≤ c) && decide (c ≤ 57)
def isNumL (l : List Nat) : Bool := decide (1 ≤ (figs l).length) && decide ((figs l).length ≤ 40) && (figs l).all isDig && !((figs l).head? == some 48 && !(l == [48]))
def numL (l : List Nat) : Int := if l.head? = some 45 then -((digitsVal (figs l) : Nat) : Int) else ((digitsVal l : Nat) : Int)
structure NumOk (l : List Nat) : Prop where
  one : 1 ≤ (figs l).length
  few : (figs l).length ≤ 40
  dig : AllDigits (figs l)
  lead : (figs l).head? = some 48 → l = [48]
theorem numOk {l : List Nat} (h : isNumL l = true) : NumOk l := by
  unfold isNumL at h
  simp only [Bool.and_eq_true, decide_eq_true_eq, Bool.not_eq_true', Bool.and_eq_false_iff, beq_eq_false_iff_ne] at h
  obtain ⟨⟨⟨h1, h2⟩, h3⟩, h4⟩ := h
  refine ⟨h1, h2, fun c hc => ?_, fun e => ?_⟩
  · have := List.all_eq_true.mp h3 c hc
    simpa [isDig] using this
  · rcases h4 with z | z
    · exact absurd e z
    · simpa using z
theorem NumOk.ne {l : List Nat} (h : NumOk l) : figs l ≠ [] := fun e => by have := h.one; rw [e] at this; exact absurd this (by decide)
theorem NumOk.len {l : List Nat} (h : NumOk l) : l.length ≤ 41 := by
  have h2 := h.few
  unfold figs at h2
  split at h2
  · simp only [List.length_cons]; omega
  · omega
theorem int_of {w : Str} (h : NumOk w.cps.toList) : PySem.intText? w = some (numL w.cps.toList) := by
  have hl := h.len
  have h4 : w.length ≤ 4300 := by rw [len_list]; omega
  by_cases e : w.cps.toList.head? = some 45
  · obtain ⟨r, hr⟩ : ∃ r, w.cps.toList = 45 :: r := by
      cases q : w.cps.toList with
      | nil => rw [q] at e; cases e
      | cons a r => rw [q] at e; cases e; exact ⟨r, rfl⟩
    have hd := h.dig
    have hn := h.ne
    rw [hr, figs_neg] at hd hn
    unfold numL
    rw [if_pos e, hr, figs_neg]
    exact intText_neg hr hd hn h4
  · have hd := h.dig
    have hn := h.ne
    rw [figs_pos e] at hd hn
    unfold numL
    rw [if_neg e]
    exact intText_digits hd hn h4
theorem dv_snoc (cs : List Nat) (c : Nat) : digitsVal (cs ++ [c]) = digitsVal cs * 10 + (c - 48) := by
  unfold digitsVal; rw [List.foldl_append]; rfl
theorem dchar {d : Nat} (h : d < 10) : (Nat.digitChar d).toNat = 48 + d := by
  match d, h with
  | 0, _ | 1, _ | 2, _ | 3, _ | 4, _ | 5, _ | 6, _ | 7, _ | 8, _ | 9, _ => rfl
def Lg (n : Int) : Prop := n.natAbs.log2 < 1920
theorem lg_of {n : Int} (h : n.natAbs < 10 ^ 42) : Lg n := by
  unfold Lg
  by_cases z : n.natAbs = 0
  · rw [z]; decide
  · refine (Nat.log2_lt z).mpr (Nat.lt_of_lt_of_le h ?_)
    exact Nat.le_trans (show (10 : Nat) ^ 42 ≤ 2 ^ 200 by decide) (Nat.pow_le_pow_right (by decide) (by decide))
def tx (n : Int) : Str := PySem.Str.ofString (toString n)
theorem ofS (s : String) : (PySem.Str.ofString s).cps.toList = s.toList.map Char.toNat := by rw [PySem.Str.ofString_eq_toList]
theorem starts_one (w : Str) (c : Nat) : Txt.startswith w ⟨#[c]⟩ = decide (w.cps.toList.head? = some c) := by
  rw [Bool.eq_iff_iff, decide_eq_true_iff]
  have := StrLaws.subAt_one w c 0
  rw [← List.head?_eq_getElem?] at this
  rw [← this]
  unfold Txt.startswith
  simp
theorem slice1 {w : Str} (h : 1 ≤ w.cps.toList.length) : (Txt.slice w (some 1) none).cps.toList = w.cps.toList.drop 1 := by
  have := StrLaws.sliceText_from (x := w) (i := 1) ⟨by decide, by omega⟩
  show (StrLaws.sliceText w (some 1) none).cps.toList = _
  rw [this]
  show List.take _ (List.drop 1 _) = _
  exact List.take_of_length_le (by rw [List.length_drop]; omega)
theorem fig_in (c : Nat) : (!(Builtin.Str.occurrences ("0123456789" : Str) ⟨#[c]⟩ 0 ("0123456789" : Str).length 1).isEmpty) = isDig c := by
  rw [StrLaws.found_one]
  have e : ("0123456789" : Str).cps.toList = [48, 49, 50, 51, 52, 53, 54, 55, 56, 57] := by decide +kernel
  rw [e, Bool.eq_iff_iff, decide_eq_true_iff]
  simp only [List.mem_cons, List.not_mem_nil, or_false, isDig, Bool.and_eq_true, decide_eq_true_eq]
  omega
theorem split_ne (x y : Str) : Txt.split x y ≠ [] := by
  unfold Txt.split
  split
  · simp
  · split
    · simp
    · intro e
      have := congrArg List.length e
      rw [PyProof.Rows.len_partsBetween] at this
      cases this
end Wd
set_option Elab.async false
set_option linter.all false
set_option maxRecDepth 100000
namespace L2
open PySem PySem.Spec PyProof.Rows
theorem b_all : bootBuiltins "all" = some (.builtin "all") := by decide +kernel
theorem new_same {H H' : Hp} {D : Addr} {o : HO} (hD : H D = none) (s : Same H H') : Same H (upd H' D o) := fun b u e => by rw [upd_ne (ne_of_none e hD)]; exact s b u e
theorem comp_grow {K : PySem.W.Frag} {a : Addr} {xs : List V} {g : TG} {tc : TT} {te : TE} {k : Nat} {σ : St} {H : Hp} {Q : VK} (p : V → Bool) (f : V → V) (hl : SqL K H a xs) (hz : xs.length ≤ sizeLine)
    (step : ∀ x ∈ xs, ∀ (H' : Hp) (Qy : VK) (Qn : Hp → Prop), Same H H' → (p x = true → ∀ H'', Same H' H'' → Qy (f x) H'') → (p x = false → ∀ H'', Same H' H'' → Qn H'') → g x (σ ++ List.replicate k none) H' fun σ2 H2 => (∃ zs, σ2 = σ ++ zs ∧ zs.length = k) ∧ tc σ2 H2 fun b H3 => if b = true then te σ2 H3 Qy else Qn H3)
    (q : ∀ D H', H D = none → Same H H' → H' D = some (.lst ((xs.filter p).map f)) → Q (.ref D) H') : compT k g tc te σ Q (Itl K a) H := by
  intro D hD
  refine ⟨fun i m ys H' => m = xs.length - i ∧ i ≤ xs.length ∧ ys = ((xs.take i).filter p).map f ∧ Same H H' ∧ H' D = some (.lst ys), ⟨xs.length, by simp, Nat.zero_le _, by simp, new_same hD (Same.refl H), upd_same⟩, ?_⟩
  rintro i m ys H' ⟨rfl, hi, rfl, sm, eD⟩
  refine ⟨eD, ?_⟩
  have q1 : SqL K H' a xs := sm.seq hl
  by_cases hlt : i < xs.length
  · refine .inr ⟨⟨xs, xs[i], q1, by simp [hlt]⟩, ?_, fun x H2 y => ?_⟩
    · have := List.length_filter_le p (xs.take i)
      rw [List.length_map]
      simp only [List.length_take] at this
      omega
    · obtain ⟨rfl, y⟩ := y
      have hx : xs[i]? = some x := y xs q1
      have et : (xs.take (i + 1)).filter p = (xs.take i).filter p ++ (if p x then [x] else []) := take_succ_filter p xs i x hx
      refine step x (List.mem_of_getElem? hx) _ _ _ sm (fun hp H4 s4 => ⟨s4 _ _ eD, xs.length - (i + 1), by omega, rfl, hlt, ?_, new_same hD (Same.trans sm s4), upd_same⟩) fun hp H4 s4 => ⟨xs.length - (i + 1), by omega, rfl, hlt, ?_, Same.trans sm s4, s4 _ _ eD⟩
      · rw [et, hp]; simp
      · rw [et, hp]; simp
  · obtain rfl : i = xs.length := by omega
    refine .inl ⟨⟨xs, q1, Nat.le_refl _⟩, ?_⟩
    rw [List.take_length] at eD
    exact q D H' hD sm eD
theorem comp_str {x : Str} {g : TG} {tc : TT} {te : TE} {k : Nat} {σ : St} {H : Hp} {Q : VK} (p : Nat → Bool) (f : Nat → V) (hz : x.length ≤ sizeLine)
    (step : ∀ c ∈ x.cps.toList, ∀ (H' : Hp) (Qy : VK) (Qn : Hp → Prop), Same H H' → (p c = true → ∀ H'', Same H' H'' → Qy (f c) H'') → (p c = false → ∀ H'', Same H' H'' → Qn H'') → g (.str ⟨#[c]⟩) (σ ++ List.replicate k none) H' fun σ2 H2 => (∃ zs, σ2 = σ ++ zs ∧ zs.length = k) ∧ tc σ2 H2 fun b H3 => if b = true then te σ2 H3 Qy else Qn H3)
    (q : ∀ D H', H D = none → Same H H' → H' D = some (.lst ((x.cps.toList.filter p).map f)) → Q (.ref D) H') : compT k g tc te σ Q (ItS x) H := by
  intro D hD
  have hn : x.length = x.cps.toList.length := Wd.len_list x
  refine ⟨fun i m ys H' => m = x.length - i ∧ i ≤ x.length ∧ ys = ((x.cps.toList.take i).filter p).map f ∧ Same H H' ∧ H' D = some (.lst ys), ⟨x.length, by simp, Nat.zero_le _, by simp, new_same hD (Same.refl H), upd_same⟩, ?_⟩
  rintro i m ys H' ⟨rfl, hi, rfl, sm, eD⟩
  refine ⟨eD, ?_⟩
  by_cases hlt : i < x.length
  · refine .inr ⟨hlt, ?_, fun v H2 y => ?_⟩
    · have := List.length_filter_le p (x.cps.toList.take i)
      rw [List.length_map]
      simp only [List.length_take] at this
      omega
    · obtain ⟨rfl, c, hc, rfl⟩ := y
      have hx : x.cps.toList[i]? = some c := by rw [Array.getElem?_toList]; exact hc
      have et : (x.cps.toList.take (i + 1)).filter p = (x.cps.toList.take i).filter p ++ (if p c then [c] else []) := by
        rw [List.take_add_one, hx, List.filter_append]
        congr 1
        cases hpc : p c <;> simp [List.filter, hpc]
      refine step c (List.mem_of_getElem? hx) _ _ _ sm (fun hp H4 s4 => ⟨s4 _ _ eD, x.length - (i + 1), by omega, rfl, hlt, ?_, new_same hD (Same.trans sm s4), upd_same⟩) fun hp H4 s4 => ⟨x.length - (i + 1), by omega, rfl, hlt, ?_, Same.trans sm s4, s4 _ _ eD⟩
      · rw [et, hp]; simp
      · rw [et, hp]; simp
  · obtain rfl : i = x.length := by omega
    refine .inl ⟨Nat.le_refl _, ?_⟩
    rw [hn, List.take_length] at eD
    exact q D H' hD sm eD
end L2
set_option Elab.async false
set_option linter.all false
set_option maxRecDepth 100000
namespace L2
open PySem PySem.Spec PyProof.Rows PySem.W
theorem all_same {α : Type} [DecidableEq α] (d : α) (xs ys : List α) : ((List.range (min xs.length ys.length)).all (fun j => decide (xs.getD j d = ys.getD j d)) && xs.length == ys.length) = decide (xs = ys) := by
  rw [Bool.eq_iff_iff, Bool.and_eq_true, List.all_eq_true, decide_eq_true_iff, beq_iff_eq]
  constructor
  · rintro ⟨h, hl⟩
    refine List.ext_getElem hl fun j h1 h2 => ?_
    have := of_decide_eq_true (h j (List.mem_range.mpr (by omega)))
    rwa [List.getD_eq_getElem?_getD, List.getD_eq_getElem?_getD, List.getElem?_eq_getElem h1, List.getElem?_eq_getElem h2] at this
  · rintro rfl
    exact ⟨fun j _ => decide_eq_true rfl, rfl⟩
theorem Same.sqT {K : PySem.W.Frag} {H H' : Hp} {a : Addr} {xs : List V} (e : Same H H') (h : SqT K H a xs) : SqT K H' a xs := by
  rcases h with (h | ⟨o, h⟩) | h
  · exact .inl (.inl (e _ _ h))
  · exact .inl (.inr ⟨o, e _ _ h⟩)
  · exact .inr h
section
variable {X : Cx} {pins : List (Addr × Obj)} {σ : St} {H : Hp} {s : Shared}
theorem eqAt_ints {A : Around} {its its2 : List Value} {ns ms : List Int} (r1 : Vals (ns.map V.int) its) (r2 : Vals (ms.map V.int) its2) (j : Nat) (h1 : j < its.toArray.size) (h2 : j < its2.toArray.size) :
    SeqAt.EqAt A s its.toArray[j] its2.toArray[j] (decide (ns.getD j 0 = ms.getD j 0)) := by
  have l1 := r1.length
  have l2 := r2.length
  rw [List.length_map] at l1 l2
  rw [List.size_toArray] at h1 h2
  have g1 : j < ns.length := by omega
  have g2 : j < ms.length := by omega
  obtain ⟨u, hu, ru⟩ := r1.get (i := j) (x := V.int ns[j]) (by simp [g1])
  obtain ⟨v, hv, rv⟩ := r2.get (i := j) (x := V.int ms[j]) (by simp [g2])
  obtain ⟨t, rfl⟩ := ru
  obtain ⟨t2, rfl⟩ := rv
  have e1 : its.toArray[j] = .int ns[j] t := by
    rw [List.getElem_toArray]
    exact Option.some.inj ((List.getElem?_eq_getElem h1).symm.trans hu)
  have e2 : its2.toArray[j] = .int ms[j] t2 := by
    rw [List.getElem_toArray]
    exact Option.some.inj ((List.getElem?_eq_getElem h2).symm.trans hv)
  rw [e1, e2]
  have e3 : (ns[j] == ms[j]) = decide (ns.getD j 0 = ms.getD j 0) := by
    rw [List.getD_eq_getElem?_getD, List.getD_eq_getElem?_getD, List.getElem?_eq_getElem g1, List.getElem?_eq_getElem g2]
    rw [Bool.eq_iff_iff, beq_iff_eq, decide_eq_true_iff]; rfl
  rw [← e3]
  exact SeqAt.EqAt.int_int _ _ _ _
def rEnds : V → List V → Hp → VK → Prop := fun x vs H Q => ∃ z y, x = .str z ∧ vs = [.str y] ∧ Q (.bl (Txt.endswith z y)) H
theorem mt_endswith : MtR X "str.endswith" rEnds := by
  intro pins s σ H x vs v us Q I rx rv h
  obtain ⟨z, y, rfl, rfl, q⟩ := h
  obtain ⟨t, rfl⟩ := rx
  obtain ⟨u, rfl, ru⟩ := vals1 rv
  obtain ⟨t2, rfl⟩ := ru
  exact call_gives F.slot_str_endswith (typeIs_str _ _ _) F.entry_str_endswith (F.args_str_endswith_2 _ _) (gives_str_endswith z y t t2) (show EP X pins σ Q (.bool (Txt.endswith z y)) s from ⟨.bl _, H, I, rfl, q⟩)
def Fmt (x : V) : Prop := (∃ n, x = .int n ∧ n.natAbs.log2 < 1920) ∨ ∃ z, x = .str z ∧ z.length ≤ 2000
theorem fmt_ok {prog : Program} {w : World} {A : Around} {E : Value → Shared → Prop} {Q : Value → Shared → Prop} {x : V} {v : Value} (r : RelV x v) (F : Fmt x) (k : ∀ (y : Str) (t : Tok) (tk : Nat), y.length ≤ 2000 → Q (.str y t) { s with toks := tk }) : wpAny (model prog w) A (formatField v Str.empty) Q E s := by
  rcases F with ⟨n, rfl, hd⟩ | ⟨z, rfl, hz⟩
  · obtain ⟨t, rfl⟩ := r
    exact formatField_int_small hd (k _ _ _ (Nat.le_trans (int_text_len_1921 hd) (by decide)))
  · obtain ⟨t, rfl⟩ := r
    exact formatField_str (fun t' tk => k _ _ _ hz) (Nat.le_trans hz (by decide))
end
theorem comp_growT {K : PySem.W.Frag} {a : Addr} {xs : List V} {g : TG} {tc : TT} {te : TE} {k : Nat} {σ : St} {H : Hp} {Q : VK} (p : V → Bool) (f : V → V) (hl : SqT K H a xs) (hz : xs.length ≤ sizeLine)
    (step : ∀ x ∈ xs, ∀ (H' : Hp) (Qy : VK) (Qn : Hp → Prop), Same H H' → (p x = true → ∀ H'', Same H' H'' → Qy (f x) H'') → (p x = false → ∀ H'', Same H' H'' → Qn H'') → g x (σ ++ List.replicate k none) H' fun σ2 H2 => (∃ zs, σ2 = σ ++ zs ∧ zs.length = k) ∧ tc σ2 H2 fun b H3 => if b = true then te σ2 H3 Qy else Qn H3)
    (q : ∀ D H', H D = none → Same H H' → H' D = some (.lst ((xs.filter p).map f)) → Q (.ref D) H') : compT k g tc te σ Q (Itt K a) H := by
  intro D hD
  refine ⟨fun i m ys H' => m = xs.length - i ∧ i ≤ xs.length ∧ ys = ((xs.take i).filter p).map f ∧ Same H H' ∧ H' D = some (.lst ys), ⟨xs.length, by simp, Nat.zero_le _, by simp, new_same hD (Same.refl H), upd_same⟩, ?_⟩
  rintro i m ys H' ⟨rfl, hi, rfl, sm, eD⟩
  refine ⟨eD, ?_⟩
  have q1 : SqT K H' a xs := sm.sqT hl
  by_cases hlt : i < xs.length
  · refine .inr ⟨⟨xs, xs[i], q1, by simp [hlt]⟩, ?_, fun x H2 y => ?_⟩
    · have := List.length_filter_le p (xs.take i)
      rw [List.length_map]
      simp only [List.length_take] at this
      omega
    · obtain ⟨rfl, y⟩ := y
      have hx : xs[i]? = some x := y xs q1
      have et : (xs.take (i + 1)).filter p = (xs.take i).filter p ++ (if p x then [x] else []) := take_succ_filter p xs i x hx
      refine step x (List.mem_of_getElem? hx) _ _ _ sm (fun hp H4 s4 => ⟨s4 _ _ eD, xs.length - (i + 1), by omega, rfl, hlt, ?_, new_same hD (Same.trans sm s4), upd_same⟩) fun hp H4 s4 => ⟨xs.length - (i + 1), by omega, rfl, hlt, ?_, Same.trans sm s4, s4 _ _ eD⟩
      · rw [et, hp]; simp
      · rw [et, hp]; simp
  · obtain rfl : i = xs.length := by omega
    refine .inl ⟨⟨xs, q1, Nat.le_refl _⟩, ?_⟩
    rw [List.take_length] at eD
    exact q D H' hD sm eD
theorem comp_range {lo : Int} {n : Nat} {g : TG} {tc : TT} {te : TE} {k : Nat} {σ : St} {H : Hp} {Q : VK} (Pv : Addr → Nat → List V → Hp → Prop) (hn : n ≤ sizeLine)
    (h0 : ∀ D, H D = none → Pv D 0 [] (upd H D (.lst []))) (hD : ∀ D i ys H', Pv D i ys H' → H' D = some (.lst ys) ∧ ys.length = i)
    (step : ∀ D i ys H' (Qy : VK) (Qn : Hp → Prop), i < n → Pv D i ys H' → (∀ y H4, H4 D = some (.lst ys) → Pv D (i + 1) (ys ++ [y]) (upd H4 D (.lst (ys ++ [y]))) → Qy y H4) →
      g (.int (lo + i)) (σ ++ List.replicate k none) H' fun σ2 H2 => (∃ zs, σ2 = σ ++ zs ∧ zs.length = k) ∧ tc σ2 H2 fun b H3 => if b = true then te σ2 H3 Qy else Qn H3)
    (q : ∀ D ys H', H D = none → Pv D n ys H' → Q (.ref D) H') : compT k g tc te σ Q (Itr lo n) H := by
  intro D hDn
  refine ⟨fun i m ys H' => m = n - i ∧ i ≤ n ∧ Pv D i ys H', ⟨n, by simp, Nat.zero_le _, h0 D hDn⟩, ?_⟩
  rintro i m ys H' ⟨rfl, hi, p⟩
  obtain ⟨e, hl⟩ := hD D i ys H' p
  refine ⟨e, ?_⟩
  by_cases hlt : i < n
  · refine .inr ⟨hlt, by omega, fun x H2 y => ?_⟩
    obtain ⟨rfl, rfl⟩ := y
    exact step D i ys H2 _ _ hlt p fun y H4 e4 p4 => ⟨e4, n - (i + 1), by omega, rfl, hlt, p4⟩
  · obtain rfl : i = n := by omega
    exact .inl ⟨Nat.le_refl _, q D ys H' hDn p⟩
section
variable {X : Cx} {K : PySem.W.Frag}
end
end L2
set_option Elab.async false
set_option linter.all false
set_option maxRecDepth 100000
namespace Wd
open PySem L2 PySem.NumText PySem.W
theorem sg (n : Nat) : (tx (n : Int)).cps.toList = (Nat.toDigits 10 n).map Char.toNat := KIN.signs_num n
theorem dg_char {c : Char} (h : c.isDigit = true) : 48 ≤ c.toNat ∧ c.toNat ≤ 57 := by
  unfold Char.isDigit at h
  simp only [Bool.and_eq_true, decide_eq_true_eq] at h
  exact ⟨UInt32.le_iff_toNat_le.mp h.1, UInt32.le_iff_toNat_le.mp h.2⟩
theorem sg_dig (n : Nat) : AllDigits ((Nat.toDigits 10 n).map Char.toNat) := fun x hx => by
  obtain ⟨c, hc, rfl⟩ := List.mem_map.mp hx
  exact dg_char (Nat.isDigit_of_mem_toDigits (by decide) (by decide) hc)
theorem sg_val (n : Nat) : digitsVal ((Nat.toDigits 10 n).map Char.toNat) = n := by
  induction n using Nat.strongRecOn with
  | _ n ih =>
    rw [Nat.toDigits_eq_if (by decide)]
    split
    · rename_i h
      rw [List.map_singleton, dchar h]
      show 0 * 10 + (48 + n - 48) = n
      omega
    · rename_i h
      rw [List.map_append, List.map_singleton, dv_snoc, ih (n / 10) (by omega), dchar (by omega)]
      omega
theorem sg_lead (n : Nat) : ((Nat.toDigits 10 n).map Char.toNat).head? = some 48 → n = 0 := by
  induction n using Nat.strongRecOn with
  | _ n ih =>
    rw [Nat.toDigits_eq_if (by decide)]
    split
    · rename_i h
      rw [List.map_singleton, dchar h]
      intro e
      have := Option.some.inj e
      omega
    · rename_i h
      intro e
      rw [List.map_append, List.head?_append] at e
      cases q : (List.map Char.toNat (Nat.toDigits 10 (n / 10))).head? with
      | none =>
        rw [List.head?_eq_none_iff, List.map_eq_nil_iff] at q
        exact absurd q Nat.toDigits_ne_nil
      | some c =>
        rw [q] at e
        have e2 : c = 48 := Option.some.inj e
        have := ih (n / 10) (by omega) (by rw [q, e2])
        omega
theorem sg_num {n : Nat} (h : n < 10 ^ 40) : isNumL (tx (n : Int)).cps.toList = true ∧ numL (tx (n : Int)).cps.toList = n := by
  have hd := sg_dig n
  have hne : (Nat.toDigits 10 n).map Char.toNat ≠ [] := fun e => Nat.toDigits_ne_nil (List.map_eq_nil_iff.mp e)
  have hf : ((Nat.toDigits 10 n).map Char.toNat).head? ≠ some 45 := fun e => by
    obtain ⟨r, hr⟩ : ∃ r, (Nat.toDigits 10 n).map Char.toNat = 45 :: r := by
      cases q : (Nat.toDigits 10 n).map Char.toNat with
      | nil => rw [q] at e; cases e
      | cons a r => rw [q] at e; cases e; exact ⟨r, rfl⟩
    have := hd 45 (by rw [hr]; exact .head _)
    omega
  have hl : ((Nat.toDigits 10 n).map Char.toNat).length ≤ 40 := by rw [List.length_map]; exact (Nat.length_toDigits_le_iff (by decide) (by decide)).mpr h
  rw [sg]
  refine ⟨?_, ?_⟩
  · unfold isNumL
    rw [figs_pos hf]
    have h1 : 1 ≤ ((Nat.toDigits 10 n).map Char.toNat).length := List.length_pos_iff.mpr hne
    have h3 : ((Nat.toDigits 10 n).map Char.toNat).all isDig = true := List.all_eq_true.mpr fun c hc => by
      have := hd c hc
      unfold isDig
      rw [decide_eq_true this.1, decide_eq_true this.2]; rfl
    rw [decide_eq_true h1, decide_eq_true hl, h3]
    by_cases z : n = 0
    · subst z; decide
    · have : (((Nat.toDigits 10 n).map Char.toNat).head? == some 48) = false := by
        rw [beq_eq_false_iff_ne]; exact fun e => z (sg_lead n e)
      rw [this]; rfl
  · unfold numL
    rw [if_neg hf, sg_val]
def jl (c : Nat) : List (List Nat) → List Nat
  | [] => []
  | [x] => x
  | x :: y :: r => x ++ c :: jl c (y :: r)
theorem app_list (x y : Str) : (x ++ y).cps.toList = x.cps.toList ++ y.cps.toList := Array.toList_append
theorem join_toList (c : Nat) : ∀ ps : List Str, (Str.join ⟨#[c]⟩ ps).cps.toList = jl c (ps.map fun p => p.cps.toList)
  | [] => rfl
  | [x] => rfl
  | x :: y :: r => by
    rw [PyProof.Rows.join_cons_cons, app_list, app_list, join_toList c (y :: r), List.append_assoc]
    rfl
theorem mid_inj {c : Nat} : ∀ {x x' t t' : List Nat}, c ∉ x → c ∉ x' → x ++ c :: t = x' ++ c :: t' → x = x' ∧ t = t'
  | [], [], _, _, _, _, h => ⟨rfl, (List.cons.inj h).2⟩
  | [], a :: r, _, _, _, h2, h => absurd (List.cons.inj h).1 fun e => h2 (e ▸ .head _)
  | a :: r, [], _, _, h1, _, h => absurd (List.cons.inj h).1 fun e => h1 (e ▸ .head _)
  | a :: r, b :: r', t, t', h1, h2, h => by
    obtain ⟨e1, e2⟩ := List.cons.inj h
    obtain ⟨q1, q2⟩ := mid_inj (x := r) (x' := r') (fun z => h1 (.tail _ z)) (fun z => h2 (.tail _ z)) e2
    exact ⟨by rw [e1, q1], q2⟩
theorem jl_inj {c : Nat} : ∀ {ps qs : List (List Nat)}, ps ≠ [] → qs ≠ [] → (∀ p ∈ ps, c ∉ p) → (∀ p ∈ qs, c ∉ p) → jl c ps = jl c qs → ps = qs
  | [], _, h, _, _, _, _ => absurd rfl h
  | _ :: _, [], _, h, _, _, _ => absurd rfl h
  | [x], [x'], _, _, _, _, e => by rw [show x = x' from e]
  | [x], x' :: y' :: r', _, _, h1, _, e => absurd (show c ∈ x by rw [show x = x' ++ c :: jl c (y' :: r') from e]; simp) (h1 x (.head _))
  | x :: y :: r, [x'], _, _, _, h2, e => absurd (show c ∈ x' by rw [show x' = x ++ c :: jl c (y :: r) from e.symm]; simp) (h2 x' (.head _))
  | x :: y :: r, x' :: y' :: r', _, _, h1, h2, e => by
    obtain ⟨e1, e2⟩ := mid_inj (h1 x (.head _)) (h2 x' (.head _)) (show x ++ c :: jl c (y :: r) = x' ++ c :: jl c (y' :: r') from e)
    have := jl_inj (ps := y :: r) (qs := y' :: r') (by simp) (by simp) (fun p hp => h1 p (.tail _ hp)) (fun p hp => h2 p (.tail _ hp)) e2
    rw [e1, this]
theorem toL_inj : ∀ {ps qs : List Str}, (ps.map fun p => p.cps.toList) = (qs.map fun p => p.cps.toList) → ps = qs
  | [], [], _ => rfl
  | [], _ :: _, h => nomatch h
  | _ :: _, [], h => nomatch h
  | p :: r, q :: t, h => by
    have h := List.cons.inj h
    rw [str_ext h.1, toL_inj h.2]
theorem split_of_join {c : Nat} {ps : List Str} (hne : ps ≠ []) (hf : ∀ p ∈ ps, c ∉ p.cps.toList) : Txt.split (Str.join ⟨#[c]⟩ ps) ⟨#[c]⟩ = ps := by
  have e := StrLaws.join_split (Str.join ⟨#[c]⟩ ps) ⟨#[c]⟩
  have e2 := congrArg (fun s : Str => s.cps.toList) e
  simp only [join_toList] at e2
  refine toL_inj (jl_inj (fun z => split_ne _ _ (List.map_eq_nil_iff.mp z)) (fun z => hne (List.map_eq_nil_iff.mp z)) (fun p hp => ?_) (fun p hp => ?_) e2)
  · obtain ⟨q, hq, rfl⟩ := List.mem_map.mp hp
    exact StrLaws.split_free _ c q hq
  · obtain ⟨q, hq, rfl⟩ := List.mem_map.mp hp
    exact hf q hq
theorem tjoin (y : Str) (ps : List Str) : Txt.join y ps = Str.join y ps := beq_iff_eq.mp (PyProof.Rows.join_closes rfl)
theorem blank_is : (" " : Str) = ⟨#[32]⟩ := by decide +kernel
theorem nl_is : ("\n" : Str) = ⟨#[10]⟩ := by decide +kernel
def rowT (w : Str) (ns : List Int) : Str := Txt.join " " (w :: ns.map tx)
theorem tx_free (c : Nat) (h : c ≠ 45 ∧ (c < 48 ∨ 57 < c)) (n : Int) : c ∉ (tx n).cps.toList := fun hm => by
  by_cases hn : 0 ≤ n
  · obtain ⟨k, rfl⟩ := Int.eq_ofNat_of_zero_le hn
    rw [sg] at hm
    have := sg_dig k c hm
    omega
  · obtain ⟨k, rfl⟩ : ∃ k : Nat, n = -((k + 1 : Nat) : Int) := ⟨(-n).toNat - 1, by omega⟩
    have e2 : toString (-((k + 1 : Nat) : Int)) = "-" ++ toString (k + 1) := rfl
    unfold tx at hm
    rw [e2, ofS, String.toList_append, List.map_append] at hm
    have e3 : ((toString (k + 1) : String).toList.map Char.toNat) = (Nat.toDigits 10 (k + 1)).map Char.toNat := by
      show (Nat.repr (k + 1)).toList.map Char.toNat = _
      rw [Nat.toList_repr]
    rw [e3] at hm
    rcases List.mem_append.mp hm with z | z
    · have : c = 45 := by simpa using z
      omega
    · have := sg_dig (k + 1) c z
      omega
theorem row_split {w : Str} {ns : List Int} (hw : 32 ∉ w.cps.toList) : Txt.split (rowT w ns) " " = w :: ns.map tx := by
  unfold rowT
  rw [tjoin, blank_is]
  refine split_of_join (by simp) fun p hp => ?_
  rcases List.mem_cons.mp hp with rfl | hp
  · exact hw
  · obtain ⟨n, _, rfl⟩ := List.mem_map.mp hp
    exact tx_free 32 (by decide) n
theorem jl_mem {c d : Nat} (h : d ≠ c) : ∀ {ps : List (List Nat)}, d ∈ jl c ps → ∃ p ∈ ps, d ∈ p
  | [x], hm => ⟨x, .head _, hm⟩
  | x :: y :: r, hm => by
    rcases List.mem_append.mp (show d ∈ x ++ c :: jl c (y :: r) from hm) with z | z
    · exact ⟨x, .head _, z⟩
    · rcases List.mem_cons.mp z with z | z
      · exact absurd z h
      · obtain ⟨p, hp, e⟩ := jl_mem h (ps := y :: r) z
        exact ⟨p, .tail _ hp, e⟩
theorem row_free {w : Str} {ns : List Int} (hw : 10 ∉ w.cps.toList) : 10 ∉ (rowT w ns).cps.toList := fun hm => by
  unfold rowT at hm
  rw [tjoin, blank_is, join_toList] at hm
  obtain ⟨p, hp, e⟩ := jl_mem (by decide) hm
  obtain ⟨q, hq, rfl⟩ := List.mem_map.mp hp
  rcases List.mem_cons.mp hq with rfl | hq
  · exact hw e
  · obtain ⟨n, _, rfl⟩ := List.mem_map.mp hq
    exact tx_free 10 (by decide) n e
def linesT (rows : List Str) : Str := Txt.join "" (rows.map fun r => r ++ ("\n" : Str))
theorem empty_is : ("" : Str) = ⟨#[]⟩ := by decide +kernel
theorem join0 : ∀ ps : List Str, (Str.join ⟨#[]⟩ ps).cps.toList = ps.flatMap fun p => p.cps.toList
  | [] => rfl
  | [x] => by simp [Str.join]
  | x :: y :: r => by
    rw [PyProof.Rows.join_cons_cons, app_list, app_list, join0 (y :: r), List.flatMap_cons]
    simp
theorem lines_list (rows : List Str) : (linesT rows).cps.toList = rows.flatMap fun r => r.cps.toList ++ [10] := by
  unfold linesT
  rw [tjoin, empty_is, join0, List.flatMap_map]
  congr 1
  funext r
  rw [app_list, nl_is]
theorem jl_end : ∀ rows : List (List Nat), jl 10 (rows ++ [[]]) = rows.flatMap fun r => r ++ [10]
  | [] => rfl
  | [x] => by simp [jl]
  | x :: y :: r => by
    show x ++ 10 :: jl 10 ((y :: r) ++ [[]]) = _
    rw [jl_end (y :: r), List.flatMap_cons]
    simp
theorem lines_join (rows : List Str) : linesT rows = Str.join ⟨#[10]⟩ (rows ++ [("" : Str)]) := by
  apply str_ext
  rw [lines_list, join_toList, List.map_append]
  show _ = jl 10 (rows.map (fun p => p.cps.toList) ++ [("" : Str).cps.toList])
  rw [show ("" : Str).cps.toList = [] by decide +kernel, jl_end, List.flatMap_map]
theorem lines_split {rows : List Str} (h : ∀ r ∈ rows, 10 ∉ r.cps.toList) : Txt.split (linesT rows) "\n" = rows ++ [("" : Str)] := by
  rw [lines_join, nl_is]
  refine split_of_join (by simp) fun p hp => ?_
  rcases List.mem_append.mp hp with z | z
  · exact h p z
  · rw [List.mem_singleton.mp z]; decide +kernel
theorem ends_nl (z : Str) : Txt.endswith z "\n" = decide (z.cps.toList[z.cps.toList.length - 1]? = some 10) := by
  have h := StrLaws.subAt_one z 10 (z.length - 1)
  rw [nl_is]
  unfold Txt.endswith
  have e1 : (⟨#[10]⟩ : Str).length = 1 := rfl
  rw [e1] at h ⊢
  rw [← len_list, Bool.eq_iff_iff, Bool.and_eq_true, decide_eq_true_iff, decide_eq_true_iff, ← h]
  constructor
  · rintro ⟨a, b⟩; exact ⟨by omega, b⟩
  · rintro ⟨a, b⟩; exact ⟨by omega, b⟩
theorem lines_end {rows : List Str} (h : rows ≠ []) : Txt.endswith (linesT rows) "\n" = true := by
  rw [ends_nl, decide_eq_true_iff, lines_list]
  obtain ⟨rs, r, rfl⟩ : ∃ rs r, rows = rs ++ [r] := ⟨rows.dropLast, rows.getLast h, (List.dropLast_concat_getLast h).symm⟩
  rw [List.flatMap_append, List.flatMap_singleton, ← List.append_assoc]
  simp
end Wd
set_option Elab.async false
set_option linter.all false
set_option maxRecDepth 100000
namespace L2
open PySem PySem.Spec PyProof.Rows
section
variable {M : Model} {A : Around} {E : Value → Shared → Prop} {s : Shared} {base : Heap} {env : Env} {outer : List Env} {L e : Addr} {cls : Value} {a0 : Value × Value}
end
section
variable {X : Cx} {pins : List (Addr × Obj)} {σ : St} {H H' : Hp} {s s' : Shared} {ea C : Addr} {a0 : Value × Value} {h' : Heap} {ch fp : List Addr}
end
section
variable {P : Program} {w : World} {K : PySem.W.Frag} {mg : Str → Option Value} {base : Heap} {N ps : List Str} {qual : Str} {scope : Scope} {f : Addr} {cd : Value} {A : Around} {outer : List Env} {s : Shared} {H : Hp} {E : XK}
end
section
variable {X : Cx} {scope : Scope} {cl : List (Str × Addr)} {own : List Str} {pins pn pl : List (Addr × Obj)} {σ : St} {H H2 : Hp} {s s2 : Shared} {fp : List Addr} {C : Addr} {xe : Value → Shared → Prop}
end
section
variable {X : Cx} {tg elt iter : Expr} {ifs : List Expr} {scope : Scope} {cl : List (Str × Addr)} {own : List Str} {wi : TI} {g : TG} {tc : TT} {te : TE} {pos : Pos}
end
end L2
set_option Elab.async false
set_option linter.all false
set_option maxRecDepth 100000
namespace L2
open PySem PySem.Spec PyProof.Rows
section
variable {prog : Program} {w : World} {A : Around} {E : Value → Shared → Prop} {s : Shared} {z TI TO i1 i2 i3 l1 l2 l3 : Addr} {xs ys zs : Array Value} {k : Nat}
end
section
variable {X : Cx} {elts : List Expr} {kk : Nat} {tpos : Pos}
end
end L2
set_option Elab.async false
set_option linter.all false
set_option maxRecDepth 100000
namespace L2
open PySem PySem.Spec PyProof.Rows
def tTry0 (K : PySem.W.Frag) (C0 : Addr) (tb : XK → TS) (th : TS) : TS := fun D σ H =>
  tb (fun cls _ H1 => ∃ C, cls = .ref C ∧ PySem.W.exmOne K (.ref C) (.ref C0) = some true ∧ ∀ ea oe σ1, H1 ea = none → th { nx := fun _ _ => False, rt := D.rt } σ1 (upd H1 ea (.frz oe (.exc ea C)))) D σ H
section
variable {X : Cx} {body : List Stmt} {b0 : Stmt} {suite : List Stmt} {cn : Str} {np hpos pos : Pos} {C0 : Addr} {tb : XK → TS} {th : TS}
end
section
variable {prog : Program} {w : World} {A : Around} {E : Value → Shared → Prop} {s : Shared}
end
section
variable {X : Cx}
end
end L2
set_option Elab.async false
set_option linter.all false
set_option maxRecDepth 100000
namespace L2
open PySem PySem.Spec PyProof.Rows
abbrev Cx.blkN (X : Cx) (N0 : List Str) (scope : Scope) (cl : List (Str × Addr)) (C : Addr) (own : List Str) (s : Shared) (H : Hp) (fp : List Addr) (pins : List (Addr × Obj)) : Cx :=
  { X.blk scope cl C own s H fp pins with N := N0 ++ own }
structure CompScopeN (X : Cx) (N0 : List Str) (scope : Scope) (cl : List (Str × Addr)) : Prop where
  clos : closureFor scope X.env = pure cl
  kind : scope.kind = .function
  nocell : ∀ y ∈ scope.names, y.2 ≠ .cell
  names : ∀ y ∈ scope.names, y.2 = .local → scope.names.lookup y.1 = some .local
  sub : ∀ x c, cl.lookup x = some c → X.env.cells.lookup x = some c
  has : ∀ x, scope.names.lookup x = some .free → ∃ c, cl.lookup x = some c
  outer : ∀ x, scope.names.lookup x = some .free → X.env.kindOf x = some .cell ∨ X.env.kindOf x = some .free
  lenN : N0.length = X.N.length
  nm : ∀ (i : Nat) (x : Str), N0[i]? = some x → (X.N[i]? = some x ∧ scope.names.lookup x ≠ some .local) ∨ scope.names.lookup x = none
theorem cs_nilN {X : Cx} {N0 : List Str} {scope : Scope} {N : List Str} (hN : X.N = N) (hk : scope.kind = .function) (h1 : (scope.names.all fun y => y.2 != .free && y.2 != .cell) = true) (h2 : (scope.names.all fun y => y.2 != .local || scope.names.lookup y.1 == some .local) = true)
    (hl : N0.length = N.length) (h3 : ((N0.zip N).all fun y => (y.1 == y.2 && scope.names.lookup y.1 != some .local) || scope.names.lookup y.1 == none) = true) : CompScopeN X N0 scope [] where
  clos := closureFor_none fun y hy => by
    have := List.all_eq_true.mp h1 y hy
    simp only [Bool.and_eq_true, bne_iff_ne] at this
    exact this.1
  kind := hk
  nocell := fun y hy => by
    have := List.all_eq_true.mp h1 y hy
    simp only [Bool.and_eq_true, bne_iff_ne] at this
    exact this.2
  names := fun y hy e => by
    have := List.all_eq_true.mp h2 y hy
    rw [e] at this
    simpa using this
  sub := fun x c e => by cases e
  has := fun x e => by
    have := List.all_eq_true.mp h1 _ (lookup_mem e)
    simp at this
  outer := fun x e => by
    have := List.all_eq_true.mp h1 _ (lookup_mem e)
    simp at this
  lenN := by rw [hN]; exact hl
  nm := fun i x e => by
    have hi : i < N.length := by rw [← hl]; exact (List.getElem?_eq_some_iff.mp e).1
    have hz : (N0.zip N)[i]? = some (x, N[i]) := by rw [List.getElem?_zip_eq_some]; exact ⟨e, List.getElem?_eq_getElem hi⟩
    have := List.all_eq_true.mp h3 _ (List.mem_of_getElem? hz)
    simp only [Bool.or_eq_true, Bool.and_eq_true, beq_iff_eq, bne_iff_ne] at this
    rcases this with ⟨q1, q2⟩ | q
    · exact .inl ⟨by rw [hN, List.getElem?_eq_getElem hi, ← q1], q2⟩
    · exact .inr q
section
variable {X : Cx} {scope : Scope} {cl : List (Str × Addr)} {own N0 : List Str} {pins : List (Addr × Obj)} {σ : St} {H2 H3 : Hp} {s2 : Shared} {fp : List Addr} {C : Addr} {h1 : Heap}
theorem blkN_in (S : CompScopeN X N0 scope cl) (I2 : Inv X pins σ H2 s2) (f2 : ∀ b ∈ fp, FpOk X pins H2 b) (hlt : ∀ b ∈ fp, b < s2.heap.objs.size) (hC : s2.heap.objs.size ≤ C) {m : Str → Option Value} (hns : h1.Ns C m)
    (keep : ∀ b o, s2.heap.get? b = some o → h1.get? b = some o) (hH : ∀ b o, s2.heap.get? b = some o → H2 b = none → H3 b = none) (un : Un (frs X.stack) fp H2 H3 s2.heap h1) (hok : HOk X.prog X.w H3 h1) (hCf : H3 C = none) {tk : Nat} :
    Inv (X.blkN N0 scope cl C own s2 H2 fp pins) [] (σ ++ List.replicate own.length none) H3 { s2 with heap := h1, toks := tk } := by
  have neC : ∀ b o, s2.heap.get? b = some o → b ≠ C := fun b o e => Nat.ne_of_lt (Nat.lt_of_lt_of_le (Heap.lt_size e) hC)
  have kof : ∀ x, (compEnvC scope cl C X.env).kindOf x = (scope.names.lookup x).map fun k => if (k == NameKind.free && X.env.scope.kind == .function && X.env.kindOf x == some .cell) then NameKind.cell else k := fun x => lookup_relab
  have isfree : ∀ x, ((compEnvC scope cl C X.env).kindOf x = some .cell ∨ (compEnvC scope cl C X.env).kindOf x = some .free) → scope.names.lookup x = some .free := fun x hx => by
    rw [kof x] at hx
    cases q : scope.names.lookup x with
    | none => rw [q] at hx; rcases hx with z | z <;> cases z
    | some k =>
      rw [q] at hx
      have nc := S.nocell _ (lookup_mem q)
      cases k <;> simp_all
  refine ⟨⟨I2.ok.mod, S.kind, I2.ok.glob, I2.ok.blt, hC, fun x y c e1 e2 => I2.ok.inj x y c (S.sub x c e1) (S.sub y c e2), fun x hx => S.has x (isfree x hx), fun x c z _ => (by cases z), I2.ok.hd, I2.ok.frames, .inl rfl,
    fun b hb => ⟨Nat.ne_of_lt (Nat.lt_of_lt_of_le (hlt b hb) hC), fun x c e => (f2 b hb).2.2.2.2.1 x c (S.sub x c e)⟩, fun b o e => ⟨(I2.bs b o e).1, (I2.bs b o e).2⟩, Nat.le_trans I2.ok.bsz I2.sz, fun b o e hb => ?_, fun b hb => stk_no I2 (f2 b hb).2.1 (f2 b hb).2.2.1, I2.stack, I2.stkFree⟩,
    rfl, I2.bare, un, ⟨m, hns, fun i x v e1 e2 e3 => ?_⟩, fun x c e => ?_, hCf, fun x c e => ?_, fun p hp => ?_, hok, ?_, I2.hn.mono un.frzs⟩
  · rcases (f2 b hb).2.2.2.1 with z | z
    · exact I2.ok.noex b o e z
    · exact absurd (Nat.lt_of_lt_of_le (Nat.lt_of_lt_of_le (Heap.lt_size e) I2.ok.bsz) z) (Nat.lt_irrefl _)
  ·
    have hi : i < σ.length := by
      apply Classical.byContradiction
      intro hn
      rw [List.getElem?_append_right (by omega), List.getElem?_replicate] at e2
      split at e2 <;> cases e2
    rw [List.getElem?_append_left hi] at e2
    have hi2 : i < N0.length := by rw [S.lenN, ← I2.len]; exact hi
    have e0' : N0[i]? = some x := by rw [← List.getElem?_append_left (l₂ := own) hi2]; exact e1
    have hnm := S.nm i x e0'
    have e3' : (compEnvC scope cl C X.env).kindOf x = some .local ∨ (compEnvC scope cl C X.env).kindOf x = some .cell ∨ (compEnvC scope cl C X.env).kindOf x = some .free := e3
    have hnm : X.N[i]? = some x ∧ scope.names.lookup x ≠ some .local := hnm.resolve_right fun z => by
      have k0 := kof x
      rw [z] at k0
      rcases e3' with q | q | q <;> (rw [k0] at q; cases q)
    have e1' : X.N[i]? = some x := hnm.1
    have nl : (compEnvC scope cl C X.env).kindOf x ≠ some .local := fun z => by
      rw [kof x] at z
      cases q : scope.names.lookup x with
      | none => rw [q] at z; cases z
      | some k =>
        rw [q, Option.map_some] at z
        have na := hnm.2
        rw [q] at na
        cases k <;> first
          | exact na rfl
          | (have z' := Option.some.inj z; split at z' <;> cases z')
    have hcf : (compEnvC scope cl C X.env).kindOf x = some .cell ∨ (compEnvC scope cl C X.env).kindOf x = some .free := e3'.resolve_left nl
    obtain ⟨c, hc⟩ := S.has x (isfree x hcf)
    obtain ⟨m0, hn0, hl0⟩ := I2.loc
    have hcX := S.sub x c hc
    have ho := S.outer x (isfree x hcf)
    obtain ⟨u, r, l⟩ := hl0 i x v e1' e2 (.inr ho)
    refine ⟨u, r, .inr ⟨hcf, c, hc, ?_⟩⟩
    rcases l with ⟨z, _⟩ | ⟨_, c', hc', oc, hoc, hdc⟩
    · rcases ho with y | y <;> (rw [y] at z; cases z)
    · rw [hcX] at hc'
      cases hc'
      exact ⟨oc, keep _ _ hoc, hdc⟩
  · obtain ⟨v, ⟨oc, hoc, hdc⟩⟩ := I2.cell x c (S.sub x c e)
    exact ⟨v, oc, keep _ _ hoc, hdc⟩
  · obtain ⟨v, ⟨oc, hoc, hdc⟩⟩ := I2.cell x c (S.sub x c e)
    exact hH c oc hoc (I2.freeC x c (S.sub x c e))
  · obtain ⟨q1, q2, q3, q4, q5⟩ := I2.pin p (by simpa using hp)
    exact ⟨keep _ _ q1, hH _ _ q1 q2, neC _ _ q1, stk_no I2 q3 q4, q5⟩
  · show (σ ++ List.replicate own.length none).length = (N0 ++ own).length
    rw [List.length_append, List.length_append, List.length_replicate, I2.len, S.lenN]
theorem blkN_out (I2 : Inv X pins σ H2 s2) (f2 : ∀ b ∈ fp, FpOk X pins H2 b) (hC : s2.heap.objs.size ≤ C) {pl : List (Addr × Obj)} {σ' : St} {s4 : Shared} {h' : Heap} (I4 : Inv (X.blkN N0 scope cl C own s2 H2 fp pins) pl σ' H3 s4) (sb : Heap.SameBut C s4.heap h') :
    Inv X pins σ H3 { s4 with heap := h' } := by
  have un : Un (frs X.stack) fp H2 H3 s2.heap s4.heap := I4.base
  have nC : s2.heap.get? C = none := Heap.get?_none_of_le hC
  have CF : C ∉ frs X.stack := fun z => by
    obtain ⟨_, o, ho, _⟩ := I2.stack.mem z
    rw [nC] at ho; cases ho
  have un2 : Un (frs X.stack) fp H2 H3 s2.heap h' := un.late (ch := [C]) (fun b hb => by
    obtain rfl : b = C := by simpa using hb
    exact nC) (fun b o _ hb e => (sb.2 b (by simpa using hb)).trans e) fun b o hb e => ⟨o.slots, (sb.2 b fun z => CF (z ▸ hb)).trans e⟩
  have hf : H3 C = none := I4.free
  have hok : HOk X.prog X.w H3 h' := fun b o e => (I4.hok b o e).stay (fun c u hc q => (sb.2 c fun z => by
    subst z
    rcases hc with z | z
    · rw [z, e] at hf; cases hf
    · rw [z] at hf; cases hf).trans q) (fun _ q => q) fun _ _ q => q
  exact I2.call' (s' := { s4 with heap := h' }) (ch := fp) I4.os un2 hok I4.bare fun b hb => ⟨(f2 b hb).2.2.2.1, (f2 b hb).2.1, (f2 b hb).2.2.2.2.1, (f2 b hb).2.2.2.2.2⟩
end
section
variable {X : Cx} {tg elt iter : Expr} {ifs : List Expr} {scope : Scope} {cl : List (Str × Addr)} {own N0 : List Str} {wi : TI} {g : TG} {tc : TT} {te : TE} {pos : Pos}
theorem comp_coreN {p2 : Pos} {use : Option (Value → Sem Unit)} {QV : Value → Shared → Prop} {pins : List (Addr × Obj)} {s : Shared} {σ : St} {H : Hp} {Q : VK} (S : CompScopeN X N0 scope cl) (hi : PI X tg iter wi)
    (hg : ∀ C s H fp pins, PG (X.blkN N0 scope cl C own s H fp pins) tg g) (ht : ∀ C s H fp pins, PF (X.blkN N0 scope cl C own s H fp pins) ifs tc) (he : ∀ C s H fp pins, PE (X.blkN N0 scope cl C own s H fp pins) elt te)
    (hs : ∀ x, foldedSetIterable iter X.env x = pure x) (I : Inv X pins σ H s) (h : tComp wi own.length g tc te σ H Q)
    (fin : ∀ D C s2 H2 H3 s4, Inv X pins σ H2 s2 → s2.heap.objs.size ≤ C → H3 C = none → (∃ m, s4.heap.Ns C m) → (∀ h', Heap.SameBut C s4.heap h' → Inv X pins σ H3 { s4 with heap := h' }) → Q (.ref D) H3 → compPost (model X.prog X.w) X.A X.xe use QV (.ref D) C (.ok .next) s4) :
    wpAny (model X.prog X.w) X.A (comprehension (.ListComp elt [⟨tg, iter, ifs, 0⟩] scope pos) scope X.env p2 (newList []) false (eval iter X.env) use) QV X.xe s := by
  refine wpAny_comprehension_free (use := use) rfl hs S.clos S.kind S.names (thn (hi pins s σ H _ I h) fun v s1 h1 => thn h1 fun itv s2 h2 => ?_)
  obtain ⟨it, fp, tn, J, H2, e, I2, T, st2, f2, R⟩ := h2
  subst e
  obtain ⟨nm, T, hc⟩ := T
  refine wpAny_newObj_type (wpAny_newFunctionEnv S.nocell (by intro y hy; simp at hy) (fun h1 hns hsb => ?_) S.kind)
  dsimp only at hns hsb ⊢
  have hlt : ∀ b ∈ fp, b < s2.heap.objs.size := fun b hb => by
    obtain ⟨o, ho, _⟩ := T.obj 0 _ st2 b hb
    exact Heap.lt_size ho
  generalize hp : s2.heap.push { cls := .type "list", dict := none, data := .seq ([] : List Value).toArray } = hl at hns hsb ⊢
  have hC : hl.objs.size = s2.heap.objs.size + 1 := by rw [← hp, Heap.size_push]
  have hCle : s2.heap.objs.size ≤ hl.objs.size := by rw [hC]; exact Nat.le_succ _
  have hDC : s2.heap.objs.size ≠ hl.objs.size := by rw [hC]; exact Nat.ne_of_lt (Nat.lt_succ_self _)
  have old : ∀ b o, hl.get? b = some o → h1.get? b = some o := fun b o e => hsb.extBut b o (Nat.ne_of_lt (Heap.lt_size e)) (Heap.get?_push_of_some _ e)
  have old2 : ∀ b o, s2.heap.get? b = some o → h1.get? b = some o := fun b o e => old b o (hp ▸ Heap.get?_push_of_some _ e)
  have Dn : H2 s2.heap.objs.size = none := I2.fresh
  have Cn : H2 hl.objs.size = none := I2.hok.fresh hCle
  obtain ⟨W, ⟨m0, w0⟩, step⟩ := R s2.heap.objs.size Dn
  have hobj : h1.get? s2.heap.objs.size = some { cls := .type "list", data := .seq ([] : List Value).toArray } := old _ _ (hp ▸ Heap.get?_push_size _ rfl)
  have I3 : Inv (X.blkN N0 scope cl hl.objs.size own s2 H2 fp pins) [] (σ ++ List.replicate own.length none) (upd H2 s2.heap.objs.size (.lst [])) { s2 with heap := h1, toks := s2.toks + ([] : List (Str × Value)).length } :=
    blkN_in S I2 f2 hlt hCle hns old2 (fun b o e n => by rw [upd_ne (Nat.ne_of_lt (Heap.lt_size e))]; exact n) (Un.laid old2 (Nat.le_refl _) Dn) (I2.hok.laid old2 (Nat.le_refl _) (show ObjOk X.prog X.w (upd H2 s2.heap.objs.size (.lst [])) h1 s2.heap.objs.size (.lst []) from ⟨Nat.zero_le _, [], 0, .nil, hobj⟩)) (by rw [upd_ne (Ne.symm hDC)]; exact Cn)
  have fpn : ∀ b ∈ fp, upd H2 s2.heap.objs.size (.lst []) b = none := fun b hb => by rw [upd_ne (Nat.ne_of_lt (hlt b hb))]; exact (f2 b hb).1
  have stat : ∀ {H' : Hp}, (∀ b ∈ fp, H' b = none) → ∀ b ∈ fp, FpOk (X.blkN N0 scope cl hl.objs.size own s2 H2 fp pins) [] H' b := fun hn b hb =>
    ⟨hn b hb, Nat.ne_of_lt (Nat.lt_of_lt_of_le (hlt b hb) hCle), stk_no I2 (f2 b hb).2.1 (f2 b hb).2.2.1, .inl hb, fun x c e => (f2 b hb).2.2.2.2.1 x c (S.sub x c e), fun p hp => (f2 b hb).2.2.2.2.2 p (by simpa using hp)⟩
  have loop : ∀ s3 : Shared, s3 = { s2 with heap := h1, toks := s2.toks + ([] : List (Str × Value)).length } →
      codeAny (model X.prog X.w) X.A (.compLoop (.ListComp elt [⟨tg, iter, ifs, 0⟩] scope pos) 0 (.ref it) (.ref s2.heap.objs.size) (compEnvC scope cl hl.objs.size X.env)) (compPost (model X.prog X.w) X.A X.xe use QV (.ref s2.heap.objs.size) hl.objs.size) s3 := by
    rintro s3 rfl
    refine comp_turns (fun n s' => ∃ i ys H', Inv (X.blkN N0 scope cl hl.objs.size own s2 H2 fp pins) [] (σ ++ List.replicate own.length none) H' s' ∧ tn i s'.heap ∧ (∀ b ∈ fp, H' b = none) ∧ W i n ys H') ?_ m0
      ⟨0, [], _, I3, T.keep 0 _ _ st2 (fun b _ o e => old2 b o e), fpn, w0⟩
    rintro n s3 ⟨i, ys, H3, J3, st3, fr3, w3⟩
    obtain ⟨hD, ⟨stop, q⟩ | ⟨go, hlen, turn⟩⟩ := step i n ys H3 w3
    · refine thn (T.done (X.blkN N0 scope cl hl.objs.size own s2 H2 fp pins) rfl rfl rfl hc i [] s3 _ H3 _ J3 (stat fr3) st3 stop) fun r s4 ⟨hr, J4⟩ => ?_
      subst hr
      obtain ⟨m4, hn4, _⟩ := J4.loc
      exact fin _ _ s2 H2 H3 s4 I2 hCle J4.free ⟨m4, hn4⟩ (fun h' sb => blkN_out I2 f2 hCle J4 sb) q
    · refine thn (T.item (X.blkN N0 scope cl hl.objs.size own s2 H2 fp pins) rfl rfl rfl hc i [] s3 _ H3 _ J3 (stat fr3) st3 go) fun r s4 ⟨u, hr, h4⟩ => ?_
      subst hr
      refine thn h4 fun _ s5 ⟨x, H5, J5, r5, y5, st5, fr5⟩ => ?_
      have J5' := J5.pinned (stat fr5) (T.obj _ _ st5)
      refine thn (hg _ _ _ _ _ _ s5 _ H5 x u _ J5' r5 (turn x H5 y5)) fun _ s6 ⟨σ6, H6, J6, ⟨ts, e6, hts⟩, q6⟩ => ?_
      subst e6
      refine thn (ht _ _ _ _ _ _ s6 _ H6 _ J6 q6) fun ok s7 ⟨H7, J7, q7⟩ => ?_
      have again : ∀ {s8 : Shared} {H8 : Hp} {zs : List V}, Inv (X.blkN N0 scope cl hl.objs.size own s2 H2 fp pins) ([] ++ pinsAt fp s5.heap) (σ ++ ts) H8 s8 → (∃ m', m' < n ∧ W (i + 1) m' zs H8) →
          ∃ m, m < n ∧ ∃ i ys H', Inv (X.blkN N0 scope cl hl.objs.size own s2 H2 fp pins) [] (σ ++ List.replicate own.length none) H' s8 ∧ tn i s8.heap ∧ (∀ b ∈ fp, H' b = none) ∧ W i m ys H' := fun {s8 H8 zs} J8 ⟨m', hm, w8⟩ => by
        refine ⟨m', hm, i + 1, zs, H8, ?_, T.keep _ _ _ st5 fun b hb o e => (J8.pin (b, o) (List.mem_append_right _ (List.mem_append_right _ (mem_pinsAt hb e)))).1, fun b hb => ?_, w8⟩
        · refine J8.unpinned.weak (by rw [List.length_append, List.length_append, List.length_replicate, hts]) fun j v ej => ?_
          by_cases hj : j < σ.length
          · rw [List.getElem?_append_left hj] at ej ⊢
            exact ej
          · rw [List.getElem?_append_right (by omega), List.getElem?_replicate] at ej
            split at ej <;> cases ej
        · obtain ⟨o, e, d⟩ := T.obj _ _ st5 b hb
          exact (J8.pin (b, o) (List.mem_append_right _ (List.mem_append_right _ (mem_pinsAt hb e)))).2.1
      cases ok with
      | false => exact again J7 q7
      | true =>
        refine thn (he _ _ _ _ _ _ s7 _ H7 _ J7 q7) fun z s8 ⟨y, H8, J8, r8, hD8, q8⟩ => ?_
        refine thn (mt_append _ s8 _ H8 (.ref s2.heap.objs.size) [y] _ [z] (fun _ H9 => ∃ m', m' < n ∧ W (i + 1) m' (ys ++ [y]) H9) J8 rfl (.cons r8 .nil) ⟨_, ys, y, rfl, rfl, hD8, hlen, q8⟩) fun _ s9 ⟨_, H9, J9, _, q9⟩ => again J9 q9
  exact codeAny_compStart_list (loop _ rfl) (T.self _ 0 _ _ _ (T.keep 0 _ _ st2 fun b _ o e => old2 b o e) (loop _ rfl))
theorem pe_compN (S : CompScopeN X N0 scope cl) (hi : PI X tg iter wi)
    (hg : ∀ C s H fp pins, PG (X.blkN N0 scope cl C own s H fp pins) tg g) (ht : ∀ C s H fp pins, PF (X.blkN N0 scope cl C own s H fp pins) ifs tc) (he : ∀ C s H fp pins, PE (X.blkN N0 scope cl C own s H fp pins) elt te)
    (hs : ∀ x, foldedSetIterable iter X.env x = pure x := by intro _; rfl) : PE X (.ListComp elt [⟨tg, iter, ifs, 0⟩] scope pos) (tComp wi own.length g tc te) := by
  intro pins s σ H Q I h
  rw [eval_ListComp]
  exact comp_coreN (use := none) (QV := EP X pins σ Q) S hi hg ht he hs I h fun D C s2 H2 H3 s4 _ _ _ hn inv q => hn.elim fun m hn => ⟨m, hn, fun h' sb => ⟨.ref D, H3, inv h' sb, rfl, q⟩⟩
end
end L2
set_option Elab.async false
set_option linter.all false
set_option maxRecDepth 100000
namespace L2
open PySem PySem.Spec PyProof.Rows
section
variable {κ : Type} [DecidableEq κ]
def valV (kvs : List (κ × V)) (k : κ) : Option V := (kvs.find? fun kv => decide (kv.1 = k)).map (·.2)
def putK (kvs : List (κ × V)) (k : κ) (v : V) : List (κ × V) :=
  if (kvs.any fun kv => decide (kv.1 = k)) = true then kvs.map (fun kv => if kv.1 = k then (kv.1, v) else kv) else kvs ++ [(k, v)]
theorem valV_nil {k : κ} : valV ([] : List (κ × V)) k = none := rfl
theorem valV_pos {p : κ × V} {r : List (κ × V)} {k : κ} (e : p.1 = k) : valV (p :: r) k = some p.2 := by simp [valV, List.find?_cons, e]
theorem valV_neg {p : κ × V} {r : List (κ × V)} {k : κ} (e : ¬ p.1 = k) : valV (p :: r) k = valV r k := by simp [valV, List.find?_cons, e]
theorem valV_any (k : κ) : ∀ kvs : List (κ × V), (kvs.any fun kv => decide (kv.1 = k)) = (valV kvs k).isSome
  | [] => rfl
  | p :: r => by
    rw [List.any_cons]
    by_cases e : p.1 = k
    · simp only [valV_pos e, decide_eq_true e, Bool.true_or, Option.isSome_some]
    · rw [valV_neg e, decide_eq_false e, Bool.false_or]; exact valV_any k r
theorem valV_map (k j : κ) (y : V) : ∀ kvs : List (κ × V), valV (kvs.map fun kv => if kv.1 = k then (kv.1, y) else kv) j = (valV kvs j).map fun x => if j = k then y else x
  | [] => rfl
  | p :: r => by
    have ih := valV_map k j y r
    rw [List.map_cons]
    by_cases h : p.1 = k
    · rw [if_pos h]
      by_cases e : p.1 = j
      · rw [valV_pos (p := (p.1, y)) e, valV_pos e, Option.map_some, if_pos (e.symm.trans h)]
      · rw [valV_neg (p := (p.1, y)) e, valV_neg e, ih]
    · rw [if_neg h]
      by_cases e : p.1 = j
      · rw [valV_pos (p := p) e, valV_pos e, Option.map_some, if_neg (fun z => h (e.trans z))]
      · rw [valV_neg (p := p) e, valV_neg e, ih]
theorem valV_snoc (k j : κ) (y : V) : ∀ kvs : List (κ × V), valV kvs k = none → valV (kvs ++ [(k, y)]) j = if j = k then some y else valV kvs j
  | [], _ => by
    by_cases e : k = j
    · rw [if_pos e.symm]; exact valV_pos (p := (k, y)) e
    · rw [if_neg (fun z => e z.symm)]; exact valV_neg (p := (k, y)) e
  | p :: r, hn => by
    rw [List.cons_append]
    have hk : ¬ p.1 = k := fun z => by rw [valV_pos z] at hn; cases hn
    rw [valV_neg hk] at hn
    have ih := valV_snoc k j y r hn
    by_cases e : p.1 = j
    · rw [valV_pos e, valV_pos e, if_neg (fun z => hk (e.trans z))]
    · rw [valV_neg e, valV_neg e, ih]
theorem valV_put (kvs : List (κ × V)) (k j : κ) (y : V) : valV (putK kvs k y) j = if j = k then some y else valV kvs j := by
  unfold putK
  by_cases a : (kvs.any fun kv => decide (kv.1 = k)) = true
  · rw [if_pos a, valV_map]
    rw [valV_any] at a
    by_cases e : j = k
    · obtain ⟨x, hx⟩ := Option.isSome_iff_exists.mp a
      rw [if_pos e, e, hx, Option.map_some, if_pos rfl]
    · rw [if_neg e]
      cases valV kvs j with
      | none => rfl
      | some x => rw [Option.map_some, if_neg e]
  · rw [if_neg a]
    refine valV_snoc k j y kvs ?_
    rw [valV_any] at a
    cases q : valV kvs k with
    | none => rfl
    | some x => rw [q] at a; exact (a rfl).elim
theorem length_putK (kvs : List (κ × V)) (k : κ) (v : V) : (putK kvs k v).length ≤ kvs.length + 1 := by
  unfold putK
  split
  · rw [List.length_map]; omega
  · rw [List.length_append, List.length_cons, List.length_nil]; omega
theorem RelO.isSome_eq {o : Option V} {u : Option Value} (r : RelO o u) : o.isSome = u.isSome := by
  cases o with
  | none => cases u with
    | none => rfl
    | some _ => exact (show False from r).elim
  | some _ => cases u with
    | none => exact (show False from r).elim
    | some _ => rfl
theorem KV.val {kvs : List (κ × V)} {vs : List (κ × Value)} (r : KV kvs vs) (k : κ) : RelO (valV kvs k) (valueAt vs k) := by
  unfold KV at r
  induction r with
  | nil => exact True.intro
  | @cons p q ps qs h t ih =>
    obtain ⟨h1, h2⟩ := h
    by_cases e : p.1 = k
    · have e' : q.1 = k := h1.symm.trans e
      have b : valueAt (q :: qs) k = some q.2 := by simp [valueAt, List.find?_cons, e']
      rw [valV_pos e, b]; exact h2
    · have e' : ¬ q.1 = k := fun z => e (h1.trans z)
      have b : valueAt (q :: qs) k = valueAt qs k := by simp [valueAt, List.find?_cons, e']
      rw [valV_neg e, b]; exact ih
theorem KV.any {kvs : List (κ × V)} {vs : List (κ × Value)} (r : KV kvs vs) (k : κ) : (kvs.any fun kv => decide (kv.1 = k)) = vs.any fun kv => decide (kv.1 = k) := by
  unfold KV at r
  induction r with
  | nil => rfl
  | cons h t ih => rw [List.any_cons, List.any_cons, ih, h.1]
theorem KV.repl {kvs : List (κ × V)} {vs : List (κ × Value)} (r : KV kvs vs) (k : κ) {y : V} {u : Value} (ry : RelV y u) :
    KV (kvs.map fun kv => if kv.1 = k then (kv.1, y) else kv) (vs.map fun kv => if kv.1 = k then (kv.1, u) else kv) := by
  unfold KV at r ⊢
  induction r with
  | nil => exact .nil
  | @cons p q ps qs h t ih =>
    rw [List.map_cons, List.map_cons]
    refine .cons ?_ ih
    obtain ⟨h1, h2⟩ := h
    by_cases e : p.1 = k
    · rw [if_pos e, if_pos (h1.symm.trans e)]; exact ⟨h1, ry⟩
    · rw [if_neg e, if_neg (fun z => e (h1.trans z))]; exact ⟨h1, h2⟩
theorem KV.put {kvs : List (κ × V)} {vs : List (κ × Value)} (r : KV kvs vs) (k : κ) {y : V} {u : Value} (ry : RelV y u) : KV (putK kvs k y) (stored vs k u) := by
  unfold putK stored
  rw [r.any k]
  by_cases e : (vs.any fun kv => decide (kv.1 = k)) = true
  · rw [if_pos e, if_pos e]; exact r.repl k ry
  · rw [if_neg e, if_neg e]; exact Paired.snoc r ⟨rfl, ry⟩
theorem KV.length {kvs : List (κ × V)} {vs : List (κ × Value)} (r : KV kvs vs) : kvs.length = vs.length := Paired.length r
end
theorem kV_is {P : Program} {w : World} {k : Key} {u : Value} (r : RelV (kV k) u) : (mixKind P w).is k u = true := by
  cases k with
  | inl i => obtain ⟨t, e⟩ := (show ∃ t, u = Value.int i t from r); subst e; exact mixKind_int P w i t
  | inr x => obtain ⟨t, e⟩ := (show ∃ t, u = Value.str x t from r); subst e; exact mixKind_str P w x t
theorem items_are {P : Program} {w : World} : ∀ {ks : List Key} {us : List Value}, Vals (ks.map kV) us → ItemsAre (mixKind P w) ks us
  | [], _, r => by rw [List.map_nil] at r; cases r; exact .nil
  | k :: ks, _, r => by
    rw [List.map_cons] at r
    cases r with
    | cons h t => exact .cons (kV_is h) (items_are t)
abbrev KT (H : Hp) : List (List Key × V) → List (List Key × Addr × Value) → Prop := Paired fun p q => p.1 = q.1 ∧ H q.2.1 = some (.tup (p.1.map kV)) ∧ RelV p.2 q.2.2
theorem KT.val {H : Hp} {kvs : List (List Key × V)} {xs : List (List Key × Addr × Value)} (r : KT H kvs xs) (k : List Key) : RelO (valV kvs k) ((atKey xs k).map (·.2)) := by
  induction r with
  | nil => exact True.intro
  | @cons p q ps qs h t ih =>
    obtain ⟨h1, _, h2⟩ := h
    by_cases e : p.1 = k
    · have e' : q.1 = k := h1.symm.trans e
      have b : atKey (q :: qs) k = some q.2 := by simp [atKey, List.find?_cons, e']
      rw [valV_pos e, b]; exact h2
    · have e' : ¬ q.1 = k := fun z => e (h1.trans z)
      have b : atKey (q :: qs) k = atKey qs k := by simp [atKey, List.find?_cons, e']
      rw [valV_neg e, b]; exact ih
theorem KT.repl {H : Hp} {kvs : List (List Key × V)} {xs : List (List Key × Addr × Value)} (r : KT H kvs xs) (k : List Key) {y : V} {u : Value} (ry : RelV y u) :
    KT H (kvs.map fun kv => if kv.1 = k then (kv.1, y) else kv) (xs.map (putAt k u)) := by
  induction r with
  | nil => exact .nil
  | @cons p q ps qs h t ih =>
    rw [List.map_cons, List.map_cons]
    refine .cons ?_ ih
    obtain ⟨h1, h2, h3⟩ := h
    unfold putAt
    by_cases e : p.1 = k
    · rw [if_pos e, if_pos (h1.symm.trans e)]; exact ⟨h1, h2, ry⟩
    · rw [if_neg e, if_neg (fun z => e (h1.trans z))]; exact ⟨h1, h2, h3⟩
theorem KT.put {H : Hp} {kvs : List (List Key × V)} {xs : List (List Key × Addr × Value)} (r : KT H kvs xs) (k : List Key) {b : Addr} {y : V} {u : Value} (hb : H b = some (.tup (k.map kV))) (ry : RelV y u) :
    KT H (putK kvs k y) (storedH xs k b u) := by
  have e : (kvs.any fun kv => decide (kv.1 = k)) = (atKey xs k).isSome := by
    rw [valV_any, (r.val k).isSome_eq, Option.isSome_map]
  unfold putK storedH
  rw [e]
  by_cases q : (atKey xs k).isSome = true
  · rw [if_pos q, if_pos q]; exact r.repl k ry
  · rw [if_neg q, if_neg q]; exact Paired.snoc r ⟨rfl, hb, ry⟩
theorem KT.keeps {H H' : Hp} {kvs : List (List Key × V)} {xs : List (List Key × Addr × Value)} (r : KT H kvs xs) (ht : ∀ b ys, H b = some (.tup ys) → H' b = some (.tup ys)) : KT H' kvs xs :=
  Paired.mapP r fun _ _ z => ⟨z.1, ht _ _ z.2.1, z.2.2⟩
section
variable {P : Program} {w : World} {H : Hp} {h : Heap} {a : Addr}
theorem rd_of {u : HO} (ok : HOk P w H h) (e : Rd H a u) : ObjOk P w H h a u := e.ok ok
theorem dk_rd {kvs : List (Key × V)} (ok : HOk P w H h) (e : Rd H a (.dK kvs)) : kvs.length ≤ sizeLine ∧ (a == sysModules) = false ∧ ∃ vs, KV kvs vs ∧ h.DictOf (mixKind P w) a vs :=
  show ObjOk P w H h a (.dK kvs) from rd_of ok e
theorem dk_of {kvs : List (Key × V)} (ok : HOk P w H h) (e : H a = some (.dK kvs)) : kvs.length ≤ sizeLine ∧ (a == sysModules) = false ∧ ∃ vs, KV kvs vs ∧ h.DictOf (mixKind P w) a vs := dk_rd ok (.inl e)
theorem key_of {ks : List Key} (ok : HOk P w H h) (e : H a = some (.tup (ks.map kV))) : (tupleKind (mixKind P w)).is h ks a := by
  obtain ⟨_, its, r, o, h1, h2, n, h3⟩ := (show ObjOk P w H h a (.tup (ks.map kV)) from ok a _ e)
  exact ⟨o, its.toArray, n, h1, h2, h3, by simpa using items_are r⟩
theorem dt_rd {kvs : List (List Key × V)} (ok : HOk P w H h) (e : Rd H a (.dT kvs)) : kvs.length ≤ sizeLine ∧ (a == sysModules) = false ∧
    ∃ xs, KT H kvs xs ∧ h.DictOfH (tupleKind (mixKind P w)) a xs := by
  obtain ⟨z, y, xs, r, o, es, ep, h1, h2, h3, h4, h5⟩ := (show ObjOk P w H h a (.dT kvs) from rd_of ok e)
  refine ⟨z, y, xs, r, o, es, ep, h1, h2, h3, h4, fun x hx => ?_, h5⟩
  have all : ∀ {l : List (List Key × V)} {m : List (List Key × Addr × Value)}, KT H l m → ∀ x ∈ m, (tupleKind (mixKind P w)).is h x.1 x.2.1 := by
    intro l m q
    induction q with
    | nil => intro x hx; exact nomatch hx
    | @cons p q ps qs hq t ih =>
      intro x hx
      rcases List.mem_cons.mp hx with e | hx
      · subst e
        exact key_of ok (by rw [← hq.1]; exact hq.2.1)
      · exact ih x hx
  exact all r x hx
theorem dt_of {kvs : List (List Key × V)} (ok : HOk P w H h) (e : H a = some (.dT kvs)) : kvs.length ≤ sizeLine ∧ (a == sysModules) = false ∧
    ∃ xs, KT H kvs xs ∧ h.DictOfH (tupleKind (mixKind P w)) a xs := dt_rd ok (.inl e)
end
def DGet (H : Hp) (a : Addr) (y : V) (r : Option V) : Prop :=
  (∃ kvs k, Rd H a (.dK kvs) ∧ y = kV k ∧ r = valV kvs k) ∨ ∃ kvs k b, Rd H a (.dT kvs) ∧ y = .ref b ∧ H b = some (.tup (k.map kV)) ∧ r = valV kvs k
def DPut (H : Hp) (a : Addr) (y v : V) (H' : Hp) : Prop :=
  (∃ kvs k, H a = some (.dK kvs) ∧ y = kV k ∧ kvs.length < sizeLine ∧ H' = upd H a (.dK (putK kvs k v))) ∨
  ∃ kvs k b, H a = some (.dT kvs) ∧ y = .ref b ∧ H b = some (.tup (k.map kV)) ∧ kvs.length < sizeLine ∧ H' = upd H a (.dT (putK kvs k v))
theorem DGet.k {H : Hp} {a : Addr} {kvs : List (Key × V)} {k : Key} (e : H a = some (.dK kvs)) : DGet H a (kV k) (valV kvs k) := .inl ⟨kvs, k, .inl e, rfl, rfl⟩
theorem DGet.t {H : Hp} {a b : Addr} {kvs : List (List Key × V)} {k : List Key} (e : H a = some (.dT kvs)) (eb : H b = some (.tup (k.map kV))) : DGet H a (.ref b) (valV kvs k) := .inr ⟨kvs, k, b, .inl e, rfl, eb, rfl⟩
theorem DPut.t {H : Hp} {a b : Addr} {kvs : List (List Key × V)} {k : List Key} {v : V} (e : H a = some (.dT kvs)) (eb : H b = some (.tup (k.map kV))) (hl : kvs.length < sizeLine) :
    DPut H a (.ref b) v (upd H a (.dT (putK kvs k v))) := .inr ⟨kvs, k, b, e, rfl, eb, hl, rfl⟩
section
variable {X : Cx} {pins : List (Addr × Obj)} {σ : St} {H : Hp} {s : Shared} {a : Addr} {y v : V} {u r : Value} {o : Option V} {A : Around} {E : Value → Shared → Prop}
theorem Inv.big (I : Inv X pins σ H s) : sysModules < s.heap.objs.size := by
  have h : mainGlobals < s.heap.objs.size := (I.mod.glob.keeps I.bk).lt
  exact Nat.lt_trans (by decide) h
theorem d_getItem {Q : Value → Shared → Prop} (hu : A.units + 1 < cLine) (I : Inv X pins σ H s) (g : DGet H a y (some v)) (ry : RelV y u) (h : ∀ w' s', Inv X pins σ H s' → RelV v w' → Q w' s') :
    wpAny (model X.prog X.w) A (getItem (.ref a) u) Q E s := by
  rcases g with ⟨kvs, k, e, ey, l⟩ | ⟨kvs, k, b, e, ey, eb, l⟩
  · subst ey
    obtain ⟨z, hd, vs, rel, dd⟩ := dk_rd I.hok e
    obtain ⟨w', hw, rw'⟩ := RelO.some_of (v := v) (o := valueAt vs k) (by rw [l]; exact rel.val k)
    exact wpAny_getItem_of (kV_is ry) dd.mapOf hw (h w' _ (I.tok _) rw')
  · subst ey
    cases (show u = Value.ref b from ry)
    obtain ⟨z, hd, xs, rel, dd⟩ := dt_rd I.hok e
    obtain ⟨w', hw, rw'⟩ := RelO.some_of (v := v) (o := (atKey xs k).map (·.2)) (by rw [l]; exact rel.val k)
    obtain ⟨p, hp, hp2⟩ := Option.map_eq_some_iff.mp hw
    refine wpAny_getItem_heap (tupleKind_room_in1 hu) (key_of I.hok eb) dd hp ?_
    rw [hp2]
    exact h w' _ (I.tok _) rw'
theorem d_in {Q : Value → Shared → Prop} (hu : A.units + 1 < cLine) (I : Inv X pins σ H s) (g : DGet H a y o) (ry : RelV y u) (h : ∀ s', Inv X pins σ H s' → Q (.bool o.isSome) s') :
    wpAny (model X.prog X.w) A (compareOp .In u (.ref a)) Q E s := by
  rcases g with ⟨kvs, k, e, ey, l⟩ | ⟨kvs, k, b, e, ey, eb, l⟩
  · subst ey
    obtain ⟨z, hd, vs, rel, dd⟩ := dk_rd I.hok e
    refine wpAny_in_of (kV_is ry) hd dd.mapOf ?_
    rw [← (rel.val k).isSome_eq, ← l]
    exact h _ (I.tok _)
  · subst ey
    cases (show u = Value.ref b from ry)
    obtain ⟨z, hd, xs, rel, dd⟩ := dt_rd I.hok e
    refine wpAny_in_heap (tupleKind_room_in1 hu) (key_of I.hok eb) hd dd ?_
    have q := (rel.val k).isSome_eq
    rw [Option.isSome_map] at q
    rw [← q, ← l]
    exact h _ (I.tok _)
theorem d_write {h' : Heap} {t' : Nat} {ob : HO} (I : Inv X pins σ H s) (mu : Mut (H a)) (hs : Heap.SameBut a s.heap h') (he : ∃ q, h'.get? a = some q) (new : ObjOk X.prog X.w (upd H a ob) h' a ob) :
    Inv X pins σ (upd H a ob) { s with heap := h', toks := t' } :=
  I.write (x := a) (e := a) mu (.inl rfl) (fun b q hb z => (hs.2 b hb).trans z) he new
theorem dk_new {P : Program} {w : World} {H' : Hp} {h' : Heap} {kvs : List (Key × V)} {vs : List (Key × Value)} (z : kvs.length ≤ sizeLine) (hd : (a == sysModules) = false) (rel : KV kvs vs) (dd : h'.DictOf (mixKind P w) a vs) :
    ObjOk P w H' h' a (.dK kvs) := ⟨z, hd, vs, rel, dd⟩
theorem d_setItem {H' : Hp} {Q : Unit → Shared → Prop} (hu : A.units + 1 < cLine) (I : Inv X pins σ H s) (g : DPut H a y v H') (ry : RelV y u) (rv : RelV v r) (h : ∀ s', Inv X pins σ H' s' → Q () s') :
    wpAny (model X.prog X.w) A (setItem (.ref a) u r) Q E s := by
  rcases g with ⟨kvs, k, e, ey, l, eH⟩ | ⟨kvs, k, b, e, ey, eb, l, eH⟩
  · subst ey eH
    obtain ⟨z, hd, vs, rel, dd⟩ := dk_of I.hok e
    have hz : vs.length ≤ sizeLine := by rw [← rel.length]; exact z
    have hl : (putK kvs k v).length ≤ sizeLine := by have := length_putK kvs k v; omega
    refine wpAny_setItem_pairs (hsz := hz) (kV_is ry) dd fun h' dd' hs => h _ ?_
    have he : ∃ q, h'.get? a = some q := let ⟨q, _, _, hq, _⟩ := dd'; ⟨q, hq⟩
    exact d_write I (by rw [e]; exact True.intro) hs he (dk_new hl hd (rel.put k rv) dd')
  · subst ey eH
    cases (show u = Value.ref b from ry)
    obtain ⟨z, hd, xs, rel, dd⟩ := dt_of I.hok e
    have hz : xs.length ≤ sizeLine := by rw [← Paired.length rel]; exact z
    have hl : (putK kvs k v).length ≤ sizeLine := by have := length_putK kvs k v; omega
    refine wpAny_setItem_heap (hsz := hz) (tupleKind_room_in1 hu) (key_of I.hok eb) dd fun h' dd' hs => h _ ?_
    obtain ⟨q, es, ep, hq, h2, h3, h4, _, h5⟩ := dd'
    refine d_write I (by rw [e]; exact True.intro) hs ⟨q, hq⟩ ⟨hl, hd, _, (rel.put k eb rv).keeps fun c ys ec => ?_, q, es, ep, hq, h2, h3, h4, h5⟩
    rw [upd_ne (ne_of ec e (fun z => nomatch z))]
    exact ec
end
section
variable {X : Cx} {pins : List (Addr × Obj)} {σ : St} {H : Hp} {s : Shared} {a : Addr} {kvs : List (Key × V)} {k : Key} {u : Value} {A : Around} {E : Value → Shared → Prop}
end
def NoSl (i : Expr) : Prop := ∀ ov iv, subscripted i false ov iv = operate [ov, iv] (getItem ov iv)
theorem subD_of {prog : Program} {w : World} {A : Around} {E : Value → Shared → Prop} {s : Shared} {env : Env} {value slice : Expr} {pos : Pos} {T id : String} {Q : Value → Shared → Prop}
    (hl : typeLookup (.type T) "__getitem__" = pure (some (.builtin id))) (hs : NoSl slice)
    (h : wpAny (model prog w) A (eval value env) (fun o s₁ => wpAny (model prog w) A (eval slice env) (fun i s₂ => s₂.TypeIs o T ∧ wpAny (model prog w) A (getItem o i) Q E s₂) E s₁) E s) :
    wpAny (model prog w) A (eval (.Subscript value slice pos) env) Q E s := by
  refine Subscript_ (wpAny_mono h (fun o s₁ h₁ => wpAny_mono h₁ (fun i s₂ h₂ => ?_) fun _ _ x => x) fun _ _ x => x)
  obtain ⟨hT, h₂⟩ := h₂
  unfold subscriptTail
  refine wpAny_bind ?_
  rw [getitemInPython_of_ne hT.not_modules]
  refine wpAny_bind (wpAny_specialOf hT hl ?_)
  have fin : wpAny (model prog w) A (subscripted slice false o i) (fun r s₃ => wpAny (model prog w) A (letTemporaryGo value o r >>= fun _ => pure r) Q E s₃) E s₂ := by
    rw [hs o i]
    exact wpAny_operating (wpAny_mono h₂ (fun r s₃ h₃ => wpAny_bind (wpAny_letTemporaryGo (wpAny_pure h₃))) fun _ _ x => x)
  first
    | exact wpAny_pure (wpAny_bind fin)
    | exact wpAny_bind (wpAny_pure (wpAny_bind fin))
    | exact wpAny_bind fin
theorem dict_typeIs {X : Cx} {pins : List (Addr × Obj)} {σ : St} {H : Hp} {s : Shared} {a : Addr} {y : V} {o : Option V} (I : Inv X pins σ H s) (g : DGet H a y o) : s.TypeIs (.ref a) "dict" := by
  rcases g with ⟨kvs, k, e, _, _⟩ | ⟨kvs, k, b, e, _, _, _⟩
  · obtain ⟨_, _, vs, _, dd⟩ := dk_rd I.hok e
    exact dd.typeIs
  · obtain ⟨_, _, xs, _, dd⟩ := dt_rd I.hok e
    exact dd.typeIs
def tDGet (td ty : TE) : TE := fun σ H Q => td σ H fun x H1 => ty σ H1 fun y H2 => ∃ a v, x = .ref a ∧ DGet H2 a y (some v) ∧ Q v H2
def tDIn (ty td : TE) : TE := fun σ H Q => ty σ H fun y H1 => td σ H1 fun x H2 => ∃ a o, x = .ref a ∧ DGet H2 a y o ∧ Q (.bl o.isSome) H2
def sDPut (td ty tv : TE) : TS := fun D σ H => tv σ H fun v H1 => td σ H1 fun x H2 => ty σ H2 fun y H3 => ∃ a H4, x = .ref a ∧ DPut H3 a y v H4 ∧ D.nx σ H4
section
variable {X : Cx} {o i e value : Expr} {pos pos' tpos : Pos} {td ty tv : TE}
theorem pe_dget (hu : X.A.units + 1 < cLine) (ho : PE X o td) (hi : PE X i ty) (hs : NoSl i) : PE X (.Subscript o i pos) (tDGet td ty) := by
  intro pins s σ H Q I h
  refine subD_of PySem.F.slot_dict_getitem.lookup hs (thn (ho pins s σ H _ I h) fun u s1 ⟨x, H1, I1, rx, q1⟩ => thn (hi pins s1 σ H1 _ I1 q1) fun iv s2 ⟨y, H2, I2, ry, a, v, ex, g, q2⟩ => ?_)
  subst ex
  obtain rfl : u = Value.ref a := rx
  exact ⟨dict_typeIs I2 g, d_getItem hu I2 g ry fun w' s3 I3 rw' => ⟨v, H2, I3, rw', q2⟩⟩
theorem pc_din (hu : X.A.units + 1 < cLine) (hi : PE X i ty) (ho : PE X o td) : PC X .In i o (tDIn ty td) := by
  intro pins s σ H Q I h
  refine thn (hi pins s σ H _ I h) fun iv s1 ⟨y, H1, I1, ry, q1⟩ => thn (ho pins s1 σ H1 _ I1 q1) fun u s2 ⟨x, H2, I2, rx, a, ov, ex, g, q2⟩ => ?_
  subst ex
  obtain rfl : u = Value.ref a := rx
  exact d_in hu I2 g ry fun s3 I3 => ⟨.bl ov.isSome, H2, I3, rfl, q2⟩
theorem ps_dput (hu : X.A.units + 1 < cLine) (ho : PE X o td) (hi : PE X i ty) (hv : PE X value tv) (hs : swapsWith value (some (.Subscript o i pos')) pos.line X.env = pure false) :
    PS X (.Assign [.Subscript o i pos'] value pos) (sDPut td ty tv) := by
  intro pins s σ H D I h
  refine wpAny_Assign_Subscript (thn (hv pins s σ H _ I h) fun r s1 ⟨v, H1, I1, rv, q1⟩ => thn (ho pins s1 σ H1 _ I1 q1) fun u s2 ⟨x, H2, I2, rx, q2⟩ => thn (hi pins s2 σ H2 _ I2 q2) fun iv s3 ⟨y, H3, I3, ry, a, H4, ex, g, q3⟩ => ?_) hs
  subst ex
  obtain rfl : u = Value.ref a := rx
  exact d_setItem hu I3 g ry rv fun s4 I4 => ⟨σ, H4, I4, q3⟩
end
theorem dk_empty {P : Program} {w : World} {H : Hp} (h : Heap) (hb : sysModules < h.objs.size) : ObjOk P w H (h.push { cls := .type "dict", data := .dict #[] }) h.objs.size (.dK []) :=
  ⟨Nat.zero_le _, beq_eq_false_iff_ne.mpr (Ne.symm (Nat.ne_of_lt hb)), [], .nil, Heap.DictOf.new h⟩
theorem dt_empty {P : Program} {w : World} {H : Hp} (h : Heap) (hb : sysModules < h.objs.size) : ObjOk P w H (h.push { cls := .type "dict", data := .dict #[] }) h.objs.size (.dT []) :=
  ⟨Nat.zero_le _, beq_eq_false_iff_ne.mpr (Ne.symm (Nat.ne_of_lt hb)), [], .nil, _, #[], 0, Heap.get?_push_size _ rfl, ⟨rfl, rfl, rfl⟩, rfl, rfl, List.nodup_nil⟩
def tDNewT : TE := fun _ H Q => ∀ p, H p = none → Q (.ref p) (upd H p (.dT []))
section
variable {X : Cx} {pos : Pos}
theorem pe_dnewT : PE X (.Dict [] [] pos) tDNewT := fun pins s σ H Q I h =>
  wpAny_Dict_empty ⟨.ref s.heap.objs.size, _, I.laid (a := s.heap.objs.size) (o := .dT []) (t' := s.toks) (fun _ _ q => Heap.get?_push_of_some _ q) (Nat.le_refl _) (dt_empty s.heap I.big), rfl, h _ (I.hok.fresh (Nat.le_refl _))⟩
end
def tPairs : List (TE × TE) → St → Hp → (List (V × V) → Hp → Prop) → Prop
  | [], _, H, Q => Q [] H
  | (tk, tv) :: r, σ, H, Q => tk σ H fun x H1 => tv σ H1 fun y H2 => tPairs r σ H2 fun ps H3 => Q ((x, y) :: ps) H3
abbrev VV : List (V × V) → List (Value × Value) → Prop := Paired fun p q => RelV p.1 q.1 ∧ RelV p.2 q.2
def PPs (X : Cx) (pos : Pos) (keys : List (Option Expr)) (values : List Expr) (trs : List (TE × TE)) : Prop :=
  ∀ (pins : List (Addr × Obj)) (s : Shared) (σ : St) (H : Hp) (Q : List (V × V) → Hp → Prop), Inv X pins σ H s → tPairs trs σ H Q →
    wpAny (model X.prog X.w) X.A (evalPairs (pairTrees keys values X.env pos)) (fun vs s' => ∃ ps H', Inv X pins σ H' s' ∧ VV ps vs ∧ Q ps H') X.xe s
theorem pps_nil {X : Cx} {pos : Pos} : PPs X pos [] [] [] := fun pins s σ H Q I h => pairTrees_nil_walk ⟨[], H, I, .nil, h⟩
theorem pps_cons {X : Cx} {pos : Pos} {k v : Expr} {ks : List (Option Expr)} {vs : List Expr} {tk tv : TE} {trs : List (TE × TE)} (hk : PE X k tk) (hv : PE X v tv) (hr : PPs X pos ks vs trs) :
    PPs X pos (some k :: ks) (v :: vs) ((tk, tv) :: trs) := fun pins s σ H Q I h =>
  pairTrees_cons_walk (thn (hk pins s σ H _ I h) fun u s1 ⟨x, H1, I1, rx, q1⟩ => thn (hv pins s1 σ H1 _ I1 q1) fun w2 s2 ⟨y, H2, I2, ry, q2⟩ =>
    thn (hr pins s2 σ H2 _ I2 q2) fun ws s3 ⟨ps, H3, I3, rel, q3⟩ => ⟨(x, y) :: ps, H3, I3, .cons ⟨rx, ry⟩ rel, q3⟩)
def mergeK (kvs more : List (Key × V)) : List (Key × V) := more.foldl (fun acc kv => putK acc kv.1 kv.2) kvs
theorem KV.merge : ∀ {more : List (Key × V)} {rs : List (Key × Value)} {kvs : List (Key × V)} {vs : List (Key × Value)}, KV more rs → KV kvs vs → KV (mergeK kvs more) (merged vs rs) := by
  intro more rs kvs vs r
  unfold KV at r
  induction r generalizing kvs vs with
  | nil => intro q; exact q
  | @cons p q ps qs h t ih =>
    intro r0
    have e : KV (putK kvs p.1 p.2) (stored vs q.1 q.2) := by
      have := r0.put p.1 h.2
      rw [← h.1]; exact this
    exact ih e
theorem length_mergeK : ∀ (more kvs : List (Key × V)), (mergeK kvs more).length ≤ kvs.length + more.length
  | [], kvs => by show kvs.length ≤ kvs.length + 0; omega
  | p :: r, kvs => by
    have h1 := length_mergeK r (putK kvs p.1 p.2)
    have h2 := length_putK kvs p.1 p.2
    show (mergeK (putK kvs p.1 p.2) r).length ≤ _
    rw [List.length_cons]; omega
theorem carries_of {P : Program} {w : World} : ∀ {kvs : List (Key × V)} {ws : List (Value × Value)}, VV (kvs.map fun kv => (kV kv.1, kv.2)) ws → ∃ rs, Carries (mixKind P w) ws rs ∧ KV kvs rs
  | [], _, r => by rw [List.map_nil] at r; cases r; exact ⟨[], True.intro, .nil⟩
  | p :: kvs, _, r => by
    rw [List.map_cons] at r
    cases r with
    | @cons a b as bs h t =>
      obtain ⟨rs, c, q⟩ := carries_of (P := P) (w := w) t
      obtain ⟨b1, b2⟩ := b
      exact ⟨(p.1, b2) :: rs, ⟨kV_is h.1, rfl, c⟩, .cons ⟨rfl, h.2⟩ q⟩
def tDisp (trs : List (TE × TE)) : TE := fun σ H Q => ∀ p, H p = none → tPairs trs σ (upd H p (.dK [])) fun ps H2 => H2 p = some (.dK []) ∧ ∃ kvs : List (Key × V), ps = kvs.map (fun kv => (kV kv.1, kv.2)) ∧ kvs.length ≤ 15 ∧ Q (.ref p) (upd H2 p (.dK (mergeK [] kvs)))
theorem pe_disp {X : Cx} {pos : Pos} {keys : List (Option Expr)} {values : List Expr} {trs : List (TE × TE)} (h : PPs X pos keys values trs) (hall : keys.all (·.isSome) = true) (hl : keys.length = values.length) (h0 : keys ≠ [])
    (h15 : keys.length ≤ 15) : PE X (.Dict keys values pos) (tDisp trs) := by
  intro pins s σ H Q I q
  have hn := I.hok.fresh (Nat.le_refl s.heap.objs.size)
  have I1 := I.laid (a := s.heap.objs.size) (o := .dK []) (h' := s.heap.push { cls := .type "dict", data := .dict #[] }) (t' := s.toks) (fun _ _ q => Heap.get?_push_of_some _ q) (Nat.le_refl _) (dk_empty s.heap I.big)
  refine wpAny_Dict_walk (knd := mixKind X.prog X.w) hall hl h0 h15 (thn (h pins _ σ _ _ I1 (q _ hn)) fun ws s2 ⟨ps, H2, I2, rel, e, kvs, ep, lk, q2⟩ => ?_)
  subst ep
  obtain ⟨rs, c, rk⟩ := carries_of (P := X.prog) (w := X.w) rel
  obtain ⟨z, hd, vs0, r0, dd⟩ := dk_of I2.hok e
  cases r0
  refine ⟨rs, c, dd, fun h' dd' hs => ⟨.ref s.heap.objs.size, _, ?_, rfl, q2⟩⟩
  have hz : (mergeK [] kvs).length ≤ sizeLine := by
    have h1 := length_mergeK kvs []
    rw [List.length_nil] at h1
    rw [sizeLine_eq]; omega
  have he : ∃ q, h'.get? s.heap.objs.size = some q := let ⟨q, _, _, hq, _⟩ := dd'; ⟨q, hq⟩
  exact d_write I2 (by rw [e]; exact True.intro) hs he (dk_new hz hd (rk.merge .nil) dd')
section
variable {X : Cx} {pins : List (Addr × Obj)} {σ : St} {H : Hp} {s : Shared} {a : Addr} {y d : V} {u r : Value} {o : Option V} {A : Around} {E : Value → Shared → Prop}
end
section
variable {X : Cx} {o e f : Expr} {apos cpos : Pos} {td ty tx : TE}
end
section
variable {X : Cx} {pins : List (Addr × Obj)} {σ : St} {H : Hp} {s : Shared} {a : Addr} {kvs : List (Key × V)} {A : Around} {E : Value → Shared → Prop}
end
section
variable {X : Cx} {pins : List (Addr × Obj)} {σ : St} {H : Hp} {s : Shared} {a : Addr} {y : V} {u : Value} {A : Around} {E : Value → Shared → Prop}
end
section
variable {κ : Type} [DecidableEq κ]
end
end L2
set_option Elab.async false
set_option linter.all false
set_option maxRecDepth 100000
namespace L2
open PySem PySem.Spec PyProof.Rows
def ItEL (K : PySem.W.Frag) (a : Addr) : It :=
  ⟨fun i H => ∃ xs x, SqL K H a xs ∧ xs[i]? = some x,
   fun i H v H' => ∃ t x, H t = none ∧ v = .ref t ∧ H' = upd H t (.tup [.int i, x]) ∧ ∀ xs, SqL K H a xs → xs[i]? = some x,
   fun i H => ∃ xs, SqL K H a xs ∧ xs.length ≤ i⟩
def ItES (x : Str) : It :=
  ⟨fun i _ => i < x.cps.size, fun i H v H' => ∃ t c, H t = none ∧ x.cps[i]? = some c ∧ v = .ref t ∧ H' = upd H t (.tup [.int i, .str ⟨#[c]⟩]), fun i _ => i = x.cps.size⟩
theorem turn_enumL {P : Program} {w : World} {K : PySem.W.Frag} {elts : List Expr} {kk : Nat} {tpos : Pos} (e it l : Addr) (hei : e ≠ it) (hle : l ≠ e) (hli : l ≠ it) :
    Turn P w K (.Tuple elts kk tpos) (ItEL K l) [e, it] e (fun i h => (∃ old, IsEnum h e it i old) ∧ h.IsListIter it l i) true where
  mem := by simp
  obj := fun i h st b hb => by
    obtain ⟨⟨old, q1⟩, ⟨o4, q4, _, d4⟩⟩ := st
    simp only [List.mem_cons, List.not_mem_nil, or_false] at hb
    rcases hb with rfl | rfl
    · exact ⟨_, q1, fun v e => by cases e⟩
    · exact ⟨_, q4, fun v e => by rw [d4] at e; cases e⟩
  keep := fun i h h' st k => by
    obtain ⟨⟨old, q1⟩, q4⟩ := st
    exact ⟨⟨old, k e (by simp) _ q1⟩, q4.at fun o x => k it (by simp) o x⟩
  item := by
    intro X hP hw hK hc i pins s σ H E I hf st hg
    subst hP hw hK
    obtain ⟨xs, x, hx, ex⟩ := hg
    obtain ⟨its, r1, p1, _⟩ := I.list hx
    obtain ⟨v1, hv1, rv1⟩ := r1.get ex
    obtain ⟨⟨old, q1⟩, q4⟩ := st
    refine wpAny_pyNext_enum_item q1 q4 p1.isList (x := v1) (by simpa using hv1) hei fun h1 z1 z2 z3 z4 z5 => ?_
    refine ⟨_, rfl, wpAny_letOwnedTupleGo_enum (s := { s with heap := h1, toks := s.toks + 1 }) z1 fun h2 z1' sb => ?_⟩
    have keep : ∀ c o, c ∉ [e, it] → s.heap.get? c = some o → h2.get? c = some o := fun c o hc y => by
      simp only [List.mem_cons, List.not_mem_nil, or_false, not_or] at hc
      exact (sb.2 c hc.1).trans (z5 c o hc.1 hc.2 y)
    have hlt : ∀ {c o}, s.heap.get? c = some o → c ≠ s.heap.objs.size := fun e => Nat.ne_of_lt (Heap.lt_size e)
    obtain ⟨o4, e4, _, _⟩ := id q4
    have I1 : Inv X pins σ H { s with heap := h2, toks := s.toks + 1 } := I.turnedL (t' := s.toks + 1) hf keep
    have hp : H s.heap.objs.size = none := I.fresh
    have tp : h2.get? s.heap.objs.size = some { cls := .type "tuple", data := .seq #[.int i s.toks, v1] } := (sb.2 _ (Ne.symm (hlt q1))).trans z3
    have I2 : Inv X pins σ (upd H s.heap.objs.size (.tup [.int i, x])) { s with heap := h2, toks := s.toks + 1 } := I1.track hp (Heap.get?_none_of_le I.sz) (Nat.ne_of_gt I.lt)
      (fun n c e zz => by obtain ⟨v0, o0, h0, _⟩ := I.cell n c e; exact hlt h0 zz) (fun q hq zz => hlt (I.pin q hq).1 zz) ⟨by show 2 ≤ sizeLine; decide, [.int i s.toks, v1], .cons ⟨_, rfl⟩ (.cons rv1 .nil), _, tp, rfl, _, rfl⟩
    refine ⟨.ref s.heap.objs.size, _, I2, rfl, ⟨_, x, hp, rfl, rfl, fun xs' hx' => ?_⟩, ⟨⟨_, by simpa using z1'⟩, z2.extBut sb.extBut (Ne.symm hei)⟩, fun c hc => ?_⟩
    · rw [I.list_inj hx' hx]; exact ex
    · have hcn := (hf c hc).1
      rw [upd_ne ?_]
      · exact hcn
      · simp only [List.mem_cons, List.not_mem_nil, or_false] at hc
        rcases hc with rfl | rfl
        · exact hlt q1
        · exact hlt e4
  done := by
    intro X hP hw hK hc i pins s σ H E I hf st hg
    subst hP hw hK
    obtain ⟨xs, hx, hend⟩ := hg
    obtain ⟨its, rv, p, _⟩ := I.list hx
    obtain ⟨⟨old, q1⟩, q4⟩ := st
    have hl := rv.length
    refine wpAny_pyNext_enum_end (I.ok.hd (hc rfl)) q1 q4 p.isList (by simp; omega) fun h1 k => ⟨rfl, ?_⟩
    refine I.turnedL (t' := s.toks) (ch := [it]) (fun c hc => hf c ?_) fun c o hc y => ?_
    · simp only [List.mem_cons, List.not_mem_nil, or_false] at hc ⊢
      exact .inr hc
    · simp only [List.mem_cons, List.not_mem_nil, or_false, not_or] at hc
      exact k c o hc y
  self := fun _ _ _ _ _ st h => let ⟨_, q⟩ := st.1; wpAny_pyIter_enum q h
theorem draws_str {P : Program} {w : World} {A : Around} (hh : A.handled = none) (it : Addr) (x : Str) (t : Tok) :
    Draws P w A it [it] x.cps.size (fun i v => ∃ c u, x.cps[i]? = some c ∧ v = .str ⟨#[c]⟩ u) (fun i h => h.IsStrIter it (strIterType x) x t i) := by
  cases ha : x.cps.all (· < 128)
  · rw [show strIterType x = "str_iterator" by simp [strIterType, ha]]; exact Draws.strWide hh it x t
  · rw [show strIterType x = "str_ascii_iterator" by simp [strIterType, ha]]; exact Draws.strAscii hh it x t
theorem turn_enumS {P : Program} {w : World} {K : PySem.W.Frag} {elts : List Expr} {kk : Nat} {tpos : Pos} (e it : Addr) (x : Str) (t : Tok) (hei : e ≠ it) :
    Turn P w K (.Tuple elts kk tpos) (ItES x) [e, it] e (fun i h => (∃ old, IsEnum h e it i old) ∧ h.IsStrIter it (strIterType x) x t i) true where
  mem := by simp
  obj := fun i h st b hb => by
    obtain ⟨⟨old, q1⟩, ⟨o4, q4, _, d4⟩⟩ := st
    simp only [List.mem_cons, List.not_mem_nil, or_false] at hb
    rcases hb with rfl | rfl
    · exact ⟨_, q1, fun v e => by cases e⟩
    · exact ⟨_, q4, fun v e => by rw [d4] at e; cases e⟩
  keep := fun i h h' st k => by
    obtain ⟨⟨old, q1⟩, o4, q4, r⟩ := st
    exact ⟨⟨old, k e (by simp) _ q1⟩, o4, k it (by simp) o4 q4, r⟩
  item := by
    intro X hP hw hK hc i pins s σ H E I hf st hg
    subst hP hw hK
    have hi : i < x.cps.size := hg
    obtain ⟨⟨old, q1⟩, q4⟩ := st
    have D := draws_str (P := X.prog) (w := X.w) (A := X.A.in1) (I.ok.hd (hc rfl)) it x t
    refine wpAny_pyNext_enum_itemD D q1 q4 hi hei (by simpa using hei) fun v1 h1 tk pv z1 z2 z3 z4 z5 => ?_
    obtain ⟨cc, u, hcc, rfl⟩ := pv
    refine ⟨_, rfl, wpAny_letOwnedTupleGo_enum (s := { s with heap := h1, toks := tk + 1 }) z1 fun h2 z1' sb => ?_⟩
    have keep : ∀ c o, c ∉ [e, it] → s.heap.get? c = some o → h2.get? c = some o := fun c o hc y => by
      simp only [List.mem_cons, List.not_mem_nil, or_false, not_or] at hc
      exact (sb.2 c hc.1).trans (z5 c o hc.1 hc.2 y)
    have hlt : ∀ {c o}, s.heap.get? c = some o → c ≠ s.heap.objs.size := fun e => Nat.ne_of_lt (Heap.lt_size e)
    obtain ⟨o4, e4, _, _⟩ := id q4
    have I1 : Inv X pins σ H { s with heap := h2, toks := tk + 1 } := I.turnedL (t' := tk + 1) hf keep
    have hp : H s.heap.objs.size = none := I.fresh
    have tp : h2.get? s.heap.objs.size = some { cls := .type "tuple", data := .seq #[.int i tk, .str ⟨#[cc]⟩ u] } := (sb.2 _ (Ne.symm (hlt q1))).trans z3
    have I2 : Inv X pins σ (upd H s.heap.objs.size (.tup [.int i, .str ⟨#[cc]⟩])) { s with heap := h2, toks := tk + 1 } := I1.track hp (Heap.get?_none_of_le I.sz) (Nat.ne_of_gt I.lt)
      (fun n c e zz => by obtain ⟨v0, o0, h0, _⟩ := I.cell n c e; exact hlt h0 zz) (fun q hq zz => hlt (I.pin q hq).1 zz) ⟨by show 2 ≤ sizeLine; decide, [.int i tk, .str ⟨#[cc]⟩ u], .cons ⟨_, rfl⟩ (.cons ⟨_, rfl⟩ .nil), _, tp, rfl, _, rfl⟩
    refine ⟨.ref s.heap.objs.size, _, I2, rfl, ⟨_, cc, hp, hcc, rfl, rfl⟩, ⟨⟨_, by simpa using z1'⟩, D.frame _ _ _ z2 fun b hb o y => ?_⟩, fun c hc => ?_⟩
    · rw [List.mem_singleton.mp hb] at y ⊢
      exact (sb.2 _ (Ne.symm hei)).trans y
    · have hcn := (hf c hc).1
      rw [upd_ne ?_]
      · exact hcn
      · simp only [List.mem_cons, List.not_mem_nil, or_false] at hc
        rcases hc with rfl | rfl
        · exact hlt q1
        · exact hlt e4
  done := by
    intro X hP hw hK hc i pins s σ H E I hf st hg
    subst hP hw hK
    obtain rfl : i = x.cps.size := hg
    obtain ⟨⟨old, q1⟩, q4⟩ := st
    have D := draws_str (P := X.prog) (w := X.w) (A := X.A.in1) (I.ok.hd (hc rfl)) it x t
    refine wpAny_pyNext_enum_endD D q1 q4 fun h1 k => ⟨rfl, ?_⟩
    refine I.turnedL (t' := s.toks) (ch := [it]) (fun c hc => hf c ?_) fun c o hc y => ?_
    · simp only [List.mem_cons, List.not_mem_nil, or_false] at hc ⊢
      exact .inr hc
    · simp only [List.mem_cons, List.not_mem_nil, or_false, not_or] at hc
      exact k c o hc y
  self := fun _ _ _ _ _ st h => let ⟨_, q⟩ := st.1; wpAny_pyIter_enum q h
section
variable {X : Cx} {elts : List Expr} {kk : Nat} {tpos : Pos}
def iEnumL (K : PySem.W.Frag) (ta : TA) : TI := fun σ H R => ta σ H fun vs H1 => ∃ a, vs = [.ref a] ∧ (∃ xs, SqL K H1 a xs) ∧ R (ItEL K a) H1
def iEnumS (ta : TA) : TI := fun σ H R => ta σ H fun vs H1 => ∃ x, vs = [.str x] ∧ R (ItES x) H1
theorem pi_enumL {a : Expr} {ta : TA} {p pos : Pos} (hcm : X.calm = true) (hg : Gl X "enumerate") (hm : X.mg "enumerate" = none) (ha : PA X [a] ta) (hs : starEach [a] X.env = (false, eval a X.env) :: starEach [] X.env := by rfl) (hpl : (backTo pos (starEach [] X.env)).any (·.1) = false := by rfl) :
    PI X (.Tuple elts kk tpos) (.Call (.Name "enumerate" p) [a] [] pos) (iEnumL X.K ta) := by
  intro pins s σ H R I h
  refine Call_ (ld_blt I hg hm boot_enumerate (PyProof.Rows.callWith_type1 (thn (ha pos pins s σ H _ I h) fun us s1 ⟨vs, H1, I1, r1, q1⟩ => ?_) hs hpl))
  obtain ⟨l1, e, ⟨xs, hx⟩, q⟩ := q1
  subst e
  cases r1 with
  | cons ra rr =>
    cases rr
    cases ra
    obtain ⟨its, _, p1, _⟩ := I1.list hx
    have a1 : l1 < s1.heap.objs.size := by obtain ⟨_, e, _⟩ := p1.isList; exact Heap.lt_size e
    refine call_enumerate_list p1.isList fun h' z1 z2 z3 k => wpAny_pyIter_enum (s := { s1 with heap := h' }) z1 ?_
    have I2 : Inv X pins σ H1 { s1 with heap := h' } := I1.kept (t' := s1.toks) k
    refine ⟨s1.heap.objs.size + 1, [s1.heap.objs.size + 1, s1.heap.objs.size], _, _, H1, rfl, I2, ⟨true, turn_enumL _ _ l1 (Nat.succ_ne_self _) (Nat.ne_of_lt (Nat.lt_succ_of_lt a1)) (Nat.ne_of_lt a1), fun _ => hcm⟩, ⟨⟨_, z1⟩, z2⟩, fun c hc => ?_, q⟩
    have le : s1.heap.objs.size ≤ c := by
      simp only [List.mem_cons, List.not_mem_nil, or_false] at hc
      rcases hc with rfl | rfl <;> omega
    exact I1.fpOk le (I1.hok.fresh le)
theorem pi_enumS {a : Expr} {ta : TA} {p pos : Pos} (hcm : X.calm = true) (hg : Gl X "enumerate") (hm : X.mg "enumerate" = none) (ha : PA X [a] ta) (hs : starEach [a] X.env = (false, eval a X.env) :: starEach [] X.env := by rfl) (hpl : (backTo pos (starEach [] X.env)).any (·.1) = false := by rfl) :
    PI X (.Tuple elts kk tpos) (.Call (.Name "enumerate" p) [a] [] pos) (iEnumS ta) := by
  intro pins s σ H R I h
  refine Call_ (ld_blt I hg hm boot_enumerate (PyProof.Rows.callWith_type1 (thn (ha pos pins s σ H _ I h) fun us s1 ⟨vs, H1, I1, r1, q1⟩ => ?_) hs hpl))
  obtain ⟨x, e, q⟩ := q1
  subst e
  cases r1 with
  | cons ra rr =>
    cases rr
    obtain ⟨t, rfl⟩ := ra
    refine call_enumerate_str fun h' z1 z2 z3 k => wpAny_pyIter_enum (s := { s1 with heap := h' }) z1 ?_
    have I2 : Inv X pins σ H1 { s1 with heap := h' } := I1.kept (t' := s1.toks) k
    refine ⟨s1.heap.objs.size + 1, [s1.heap.objs.size + 1, s1.heap.objs.size], _, _, H1, rfl, I2, ⟨true, turn_enumS _ _ x t (Nat.succ_ne_self _), fun _ => hcm⟩, ⟨⟨_, z1⟩, z2⟩, fun c hc => ?_, q⟩
    have le : s1.heap.objs.size ≤ c := by
      simp only [List.mem_cons, List.not_mem_nil, or_false] at hc
      rcases hc with rfl | rfl <;> omega
    exact I1.fpOk le (I1.hok.fresh le)
theorem for_enumL {K : PySem.W.Frag} {a : Addr} {xs : List V} {g : TG} {tb : TS} {D : Ends} {σ : St} {H : Hp} (Pv : Nat → St → Hp → Prop) (h0 : Pv 0 σ H) (hl : ∀ i σ H, i ≤ xs.length → Pv i σ H → SqL K H a xs)
    (hs : ∀ (i : Nat) x p σ H, xs[i]? = some x → H p = none → Pv i σ H → g (.ref p) σ (upd H p (.tup [.int i, x])) fun σ2 H2 => tb { D with nx := Pv (i + 1), ct := Pv (i + 1), bk := D.nx } σ2 H2) (hd : ∀ σ H, Pv xs.length σ H → D.nx σ H) :
    ∃ W : Nat → Nat → St → Hp → Prop, (∃ m, W 0 m σ H) ∧ ∀ i m σ H, W i m σ H →
      ((ItEL K a).stop i H ∧ D.nx σ H) ∨ ((ItEL K a).go i H ∧ ∃ N : St → Hp → Prop, (∀ σ' H', N σ' H' → ∃ m', m' < m ∧ W (i + 1) m' σ' H') ∧ ∀ x H', (ItEL K a).yld i H x H' → g x σ H' fun σ2 H2 => tb { D with nx := N, ct := N, bk := D.nx } σ2 H2) := by
  refine ⟨fun i m σ H => m = xs.length - i ∧ i ≤ xs.length ∧ Pv i σ H, ⟨xs.length, by simp, Nat.zero_le _, h0⟩, ?_⟩
  rintro i m σ H ⟨rfl, hi, p⟩
  have qa := hl i σ H hi p
  by_cases hlt : i < xs.length
  · refine .inr ⟨⟨xs, xs[i], qa, by simp [hlt]⟩, Pv (i + 1), fun σ' H' p' => ⟨xs.length - (i + 1), by omega, rfl, hlt, p'⟩, fun v H' yy => ?_⟩
    obtain ⟨t, x, ht, rfl, rfl, e⟩ := yy
    exact hs i x t σ H (e xs qa) ht p
  · obtain rfl : i = xs.length := by omega
    exact .inl ⟨⟨xs, qa, Nat.le_refl _⟩, hd σ H p⟩
theorem for_enumS {x : Str} {g : TG} {tb : TS} {D : Ends} {σ : St} {H : Hp} (Pv : Nat → St → Hp → Prop) (h0 : Pv 0 σ H)
    (hs : ∀ (i : Nat) c p σ H, x.cps[i]? = some c → H p = none → Pv i σ H → g (.ref p) σ (upd H p (.tup [.int i, .str ⟨#[c]⟩])) fun σ2 H2 => tb { D with nx := Pv (i + 1), ct := Pv (i + 1), bk := D.nx } σ2 H2) (hd : ∀ σ H, Pv x.cps.size σ H → D.nx σ H) :
    ∃ W : Nat → Nat → St → Hp → Prop, (∃ m, W 0 m σ H) ∧ ∀ i m σ H, W i m σ H →
      ((ItES x).stop i H ∧ D.nx σ H) ∨ ((ItES x).go i H ∧ ∃ N : St → Hp → Prop, (∀ σ' H', N σ' H' → ∃ m', m' < m ∧ W (i + 1) m' σ' H') ∧ ∀ v H', (ItES x).yld i H v H' → g v σ H' fun σ2 H2 => tb { D with nx := N, ct := N, bk := D.nx } σ2 H2) := by
  refine ⟨fun i m σ H => m = x.cps.size - i ∧ i ≤ x.cps.size ∧ Pv i σ H, ⟨x.cps.size, by simp, Nat.zero_le _, h0⟩, ?_⟩
  rintro i m σ H ⟨rfl, hi, p⟩
  by_cases hlt : i < x.cps.size
  · refine .inr ⟨hlt, Pv (i + 1), fun σ' H' p' => ⟨x.cps.size - (i + 1), by omega, rfl, hlt, p'⟩, fun v H' yy => ?_⟩
    obtain ⟨t, c, ht, hc, rfl, rfl⟩ := yy
    exact hs i c t σ H hc ht p
  · obtain rfl : i = x.cps.size := by omega
    exact .inl ⟨rfl, hd σ H p⟩
end
end L2
set_option Elab.async false
set_option linter.all false
set_option maxRecDepth 100000
namespace L2
open PySem PySem.Spec PyProof.Rows
theorem nameGoes_ok {X : Cx} {pins : List (Addr × Obj)} {σ : St} {H : Hp} {s : Shared} {M : Model} {A : Around} {E : Value → Shared → Prop} {i : Nat} {n : Str} {pos : Pos} {Q : Unit → Shared → Prop} (I : Inv X pins σ H s) (hN : X.N.Nodup) (hi : X.N[i]? = some n) (hk : X.env.kindOf n = some .local)
    (h : ∀ s', Inv X pins (σ.set i none) H s' → Q () s') : wpAny M A (do bindName X.env n .none; unbindBehindTheSuite X.env n pos) Q E s := by
  obtain ⟨m, hn, hl⟩ := id I.loc
  have hcls : (X.env.scope.kind == .class || (X.env.scope.kind == .module && X.env.locals != X.env.globals)) = false := by rw [I.ok.kind]; rfl
  refine wpAny_nameGoes_keeps hk hn hcls fun h' v hn' sb => h _ ?_
  have nL : ∀ b o, X.s₀.heap.get? b = some o → b ≠ X.env.locals := fun b o e => Nat.ne_of_lt (Nat.lt_of_lt_of_le (Heap.lt_size e) I.ok.above)
  have hf := I.free
  refine ⟨I.ok, I.os, I.bare, ⟨fun b o e n hb hx => (sb.2 b (nL b o e)).trans (I.base.keep b o e n hb hx), fun b o e n hb hx => ?_, I.base.free, fun b o e hx => ?_, I.base.tups, I.base.frzs, I.base.tbls⟩, ⟨_, hn', fun j y v' e1 e2 e3 => ?_⟩,
    fun x c e => ?_, hf, I.freeC, fun p hp => ?_, fun b o e => ?_, by simpa using I.len, I.hn⟩
  · obtain ⟨sl, q⟩ := I.base.slot b o e n hb hx
    exact ⟨sl, (sb.2 b (nL b o e)).trans q⟩
  · obtain ⟨o', q⟩ := I.base.there b o e hx
    exact ⟨o', (sb.2 b (nL b o e)).trans q⟩
  · by_cases hj : j = i
    · subst hj
      have hiσ : j < σ.length := by rw [I.len]; exact (List.getElem?_eq_some_iff.mp hi).1
      rw [List.getElem?_set_self hiσ] at e2
      cases e2
    · rw [List.getElem?_set_ne (Ne.symm hj)] at e2
      obtain ⟨u', r', q⟩ := hl j y v' e1 e2 e3
      refine ⟨u', r', ?_⟩
      rcases q with ⟨k, e⟩ | ⟨k, c, e, z⟩
      · refine .inl ⟨k, ?_⟩
        have : y ≠ n := fun e => hj (nodup_ix hN e1 (e ▸ hi))
        simp [this, e]
      · exact .inr ⟨k, c, e, z.sameBut sb (I.cne y c e)⟩
  · obtain ⟨v, z⟩ := I.cell x c e
    exact ⟨v, z.sameBut sb (I.cne x c e)⟩
  · obtain ⟨q1, q2, q3, q4⟩ := I.pin p hp
    exact ⟨(sb.2 p.1 q3).trans q1, q2, q3, q4⟩
  · refine (I.hok b o e).stay (fun c u hc q => (sb.2 c fun z => ?_).trans q) (fun _ q => q) fun _ _ q => q
    subst z
    rcases hc with z | z
    · rw [z, e] at hf; cases hf
    · rw [z] at hf; cases hf
def tTryF (K : PySem.W.Frag) (C0 : Addr) (i : Nat) (tb : (St → XK) → TS) (th : TS) : TS := fun D σ H =>
  tb (fun σ1 cls _ H1 => ∃ C, cls = .ref C ∧ PySem.W.exmOne K (.ref C) (.ref C0) = some true ∧ ∀ ea oe, H1 ea = none → th { nx := fun σ2 H2 => D.nx (σ2.set i none) H2, rt := D.rt } (σ1.set i (some (.ref ea))) (upd H1 ea (.frz oe (.exc ea C)))) D σ H
section
variable {X : Cx} {body : List Stmt} {b0 : Stmt} {suite : List Stmt} {cn n : Str} {np hpos pos : Pos} {C0 : Addr} {i : Nat} {tb : (St → XK) → TS} {th : TS}
theorem ps_tryF (hcm : X.calm = true) (hx0 : X.ex = []) (hst : X.stack = X.env :: X.outer) (hf : X.env.frame = some X.env.locals) (hN : X.N.Nodup) (hi : X.N[i]? = some n) (hn : X.env.kindOf n = some .local) (hg : Gl X cn) (hm : X.mg cn = some (.ref C0))
    (hb : ∀ (pins : List (Addr × Obj)) (E : Value → Shared → Prop) (Es : St → XK), PassS (X.tryb pins E) Es → PSs (X.tryb pins E) body (tb Es)) (hh : ∀ e, PSs (X.hand e) (b0 :: suite) th)
    (hd : (cn == ("__debug__" : Str)) = false := by decide) :
    PS X (.Try body [.ExceptHandler (some (.Name cn np)) (some n) (b0 :: suite) hpos] [] [] pos) (tTryF X.K C0 i tb th) := by
  intro pins s σ H D I h
  have pass : PassS (X.tryb pins fun e s1 => wpAny (model X.prog X.w) X.A (noteFrame e X.env) (fun _ s2 => wpAny (model X.prog X.w) X.A (setFlight e none) (fun _ s3 =>
      wpAny (model X.prog X.w) X.A (handleBy e X.env [.ExceptHandler (some (.Name cn np)) (some n) (b0 :: suite) hpos]) (SP X pins D) X.xe s3) X.xe s2) X.xe s1)
      (fun σ1 cls _ H1 => ∃ C, cls = .ref C ∧ PySem.W.exmOne X.K (.ref C) (.ref C0) = some true ∧ ∀ ea oe, H1 ea = none → th { nx := fun σ2 H2 => D.nx (σ2.set i none) H2, rt := D.rt } (σ1.set i (some (.ref ea))) (upd H1 ea (.frz oe (.exc ea C)))) := by
    intro pins1 σ1 H1 s1 e s' I1 hx
    obtain ⟨ea, C, H', rfl, os, bare, un, hok, fl, Cc, ec, hex, q⟩ := hx
    cases ec
    have J : Inv X pins σ1 H1 s1 := I1.untry
    have J1 : Inv X pins σ1 H' s' := J.call' (ch := []) os un hok bare (fun b z => absurd z (by simp))
    obtain ⟨oe, vs, T, oT, ts, a0, e1, e2, e3, e4, e5, e7, e8, e9, e10, e11, e12, c3, cx⟩ := fl.ex
    have hfr : X.A.frames = some (X.env :: X.outer) := by rw [← hst]; exact I.ok.frames
    have hch : ∀ b ∈ [ea, T], s1.heap.get? b = none ∧ H' b = none := fun b hb => by
      rcases List.mem_cons.mp hb with rfl | hb
      · exact ⟨fl.new, fl.free⟩
      · obtain rfl : b = T := by simpa using hb
        exact ⟨e11, e12⟩
    show wpAny _ _ (noteFrame (.ref ea) X.env) _ _ _
    refine note_next (base := PySem.W.hideAll s'.heap ([ea, T] ++ frs X.stack)) (cls := .ref C) (a0 := a0) hfr (frames_hid J1 hst [ea, T]) hf
      ⟨oe, vs, T, oT, ts, e1, ⟨e2, e3, c3⟩, e4, e5, PySem.W.hideAll_none _ (by simp), e7, e8, e9, e10⟩ (fun b o q => PySem.W.of_hideAll _ q) (PySem.W.hideAll_none _ (by simp)) fun h2 S2 => ?_
    refine flight_c (s := { s' with heap := h2 }) S2.st S2.ff S2.tr fun h3 S3 _ => ?_
    obtain ⟨J3, F3⟩ := fly_after (ch := [ea, T]) J hst os bare un hok hch (by simp) cx ⟨S3.st, S3.ff, S3.tr, S2.up.trans S3.up⟩
    have hA : X.A.handled = none := I.ok.hd hcm
    have nL : ea ≠ X.env.locals := fun z => by
      obtain ⟨m, ⟨o, _, _, ho, _⟩, _⟩ := J.loc
      have := fl.new; rw [z, ho] at this; cases this
    have h0' : X.s₀.heap.get? ea = none := by
      cases q0 : X.s₀.heap.get? ea with
      | none => rfl
      | some o =>
        obtain ⟨o', z⟩ := J.base.there ea o q0 (by rw [hx0]; simp)
        have := fl.new; rw [z] at this; cases this
    have track : ∀ g, Inv X pins σ1 H' { s' with heap := g } → Flies s1.heap g H' ea C → ∃ ob us c, g.get? ea = some ob ∧ ob.cls = .ref C ∧ ob.data = .fields us ∧ (us[2]? = some c ∧ CxO H' c) ∧ Inv X pins σ1 (upd H' ea (.frz ob (.exc ea C))) { s' with heap := g } := fun g Jg Fg => by
      obtain ⟨ob, us, _, _, _, b0', f1, f2, _, f4, _, _, _, _, _, _, _, f5, f6⟩ := Fg.ex
      exact ⟨ob, us, b0'.2, f1, f2, f4, ⟨f5, f6⟩, Jg.track Fg.free h0' nL (fun x c ec z => by
        obtain ⟨v, o, ho, _⟩ := J.cell x c ec
        have := fl.new; rw [← z, ho] at this; cases this) (fun p hp z => by
        have := (J.pin p hp).1
        rw [z, fl.new] at this; cases this) ⟨f1, exc_ok ⟨ob, us, f1, f2, f4⟩⟩⟩
    obtain ⟨o3, v3, x3, g1, g2, g3, g4, J3t⟩ := track h3 J3 F3
    have J3h : Inv (X.hand (.ref ea)) pins σ1 (upd H' ea (.frz o3 (.exc ea C))) { s' with heap := h3 } := J3t.hand (.inr ⟨ea, rfl, .cons upd_same g3 g4.1 (g4.2.upd fl.free)⟩)
    have L : PySem.W.Looks (model X.prog X.w) h3 (typeOf (.ref ea)) (.ref C) := g2 ▸ (PySem.W.Looks.ld g1).andThen .now
    refine wpAny_handleBy_cons (codeAny_handlers_test (ld_glob (X := X.hand (.ref ea)) J3h hg hm ?_ hd)) (by intro q; cases q)
    refine (PySem.W.exm_one J3.kIn L hex).here ?_
    refine codeAny_handlers_suite_as ?_
    refine flight_c (s := { s' with heap := h3 }) S3.st S3.ff S3.tr fun h4 S4 _ => ?_
    obtain ⟨J4, F4⟩ := fly_after (ch := [ea, T]) J hst os bare un hok hch (by simp) cx ⟨S4.st, S4.ff, S4.tr, (S2.up.trans S3.up).trans S4.up⟩
    obtain ⟨o4, v4, x4, _, _, d4, c4, J5⟩ := track h4 J4 F4
    refine store_ok (M := model X.prog X.w) (v := .ref ea) J5 hN hi (.inl hn) rfl (fun s6 J6 => ?_) (.inr hn)
    refine wpAny_mono (hh (.ref ea) pins s6 _ _ { nx := fun σ2 H2 => D.nx (σ2.set i none) H2, rt := D.rt } (J6.hand (.inr ⟨ea, rfl, .cons upd_same d4 c4.1 (c4.2.upd fl.free)⟩)) (q ea o4 F4.free)) (fun fl7 s7 q7 => ?_) fun _ _ z => z.elim
    cases fl7 with
    | next =>
      obtain ⟨σ7, H7, J7, d7⟩ := q7
      have J7x : Inv X pins σ7 H7 s7 := J7.unhand I.ok.hd hA
      exact nameGoes_ok J7x hN hi hn fun s8 J8 => ⟨_, H7, J8, d7⟩
    | brk => obtain ⟨_, _, _, z⟩ := q7; exact z.elim
    | cont => obtain ⟨_, _, _, z⟩ := q7; exact z.elim
    | ret u =>
      obtain ⟨v, σ7, H7, J7, r7, d7⟩ := q7
      have J7x : Inv X pins σ7 H7 s7 := J7.unhand I.ok.hd hA
      exact nameGoes_ok J7x hN hi hn fun s8 J8 => ⟨v, _, H7, J8, r7, d7⟩
  refine wpAny_Try_except (wpAny_mono (hb pins _ _ pass [] s σ H D I.tryb h) (fun f s1 q1 => ?_) fun e s1 q1 => q1)
  cases f with
  | next =>
    obtain ⟨σ1, H1, I1, q⟩ := q1
    exact wpAny_execs_nil ⟨σ1, H1, I1.untry, q⟩
  | brk => obtain ⟨σ1, H1, I1, q⟩ := q1; exact ⟨σ1, H1, I1.untry, q⟩
  | cont => obtain ⟨σ1, H1, I1, q⟩ := q1; exact ⟨σ1, H1, I1.untry, q⟩
  | ret u => obtain ⟨v, σ1, H1, I1, r, q⟩ := q1; exact ⟨v, σ1, H1, I1.untry, r, q⟩
end
end L2
set_option Elab.async false
set_option linter.all false
set_option maxRecDepth 100000
namespace L2
open PySem PySem.Spec PyProof.Rows
section
variable {prog : Program} {w : World} {A : Around} {E : Value → Shared → Prop} {env : Env}
variable {nm q : Str} {C N : Addr} {bs bm : List Value} {hdct : Bool} {sn : List Str} {sub : List Value} {ab : Bool} {col : Option Bool} {dd : Option Addr} {k0 k1 k2 k3 k5 : Option Value} {newId : String}
theorem raiseStmt_from {s : Shared} {x c : Sem Value} {Q : Flow → Shared → Prop} (hbase : bm.contains (.type "BaseException") = true)
    (h : wpAny (model prog w) A x (fun v s₁ => ∃ e t D, v = .ref e ∧ s₁.heap.get? C = some (excClassObj nm q C N bs bm hdct sn sub ab col dd k0 k1 k2 k3 k5 newId) ∧ e ≠ C ∧ HdL A s₁.heap D ∧ e ∉ D ∧
      s₁.heap.get? e = some { cls := .ref C, data := .fields #[.ref t, .none, .none, .none, .bool false, .none] } ∧
      wpAny (model prog w) A c (fun cv s₂ => cv = .none ∧ s₂ = s₁) E s₁ ∧
      ∀ h' cx, (cx = .none ∨ A.handled = some cx) → Heap.SameBut e s₁.heap h' → (∃ us, h'.get? e = some { cls := .ref C, data := .fields us } ∧ us[0]? = some (.ref t) ∧ us[1]? = some .none ∧ us[2]? = some cx) → E (.ref e) { s₁ with heap := h' }) E s) :
    wpAny (model prog w) A (raiseStmt env (some x) (some c)) Q E s := by
  have hcB : (Value.ref C :: bm).contains (.type "BaseException") = true := by rw [List.contains_cons, hbase, Bool.or_true]
  unfold raiseStmt
  refine wpAny_bind (wpAny_mono h (fun v s₁ h₁ => ?_) fun _ _ x => x)
  obtain ⟨e, t, D, rfl, hC, hne, hD, new, he, hc, hE⟩ := h₁
  obtain ⟨hp, g, d, tk, os⟩ := s₁
  refine wpAny_bind (wpAny_holding (wpAny_mono hc (fun cv s₂ h₂ => ?_) fun _ _ x => x))
  obtain ⟨rfl, rfl⟩ := h₂
  refine wpAny_bind (wpAny_pure ?_)
  dsimp only
  repeat (first | with_reducible refine wpAny_loadPart_at he ?_ | with_reducible refine wpAny_loadPart_at hC ?_ | (with_reducible refine wpAny_isSubtype_exc hC ?_; rw [hcB]) | wp_step)
  have sb1 : Heap.SameBut e hp (hp.update e (Obj.mapFields fun x => x.setIfInBounds 3 Value.none)) := Heap.SameBut.update ..
  have e1 : (hp.update e (Obj.mapFields fun x => x.setIfInBounds 3 Value.none)).get? e = some { cls := .ref C, data := .fields #[.ref t, .none, .none, .none, .bool false, .none] } := Heap.get?_update_self _ he rfl
  have sb2 := Heap.SameBut.update (hp.update e (Obj.mapFields fun x => x.setIfInBounds 3 Value.none)) e (Obj.mapFields fun x => x.setIfInBounds 4 (Value.bool true))
  have e2 : ((hp.update e (Obj.mapFields fun x => x.setIfInBounds 3 Value.none)).update e (Obj.mapFields fun x => x.setIfInBounds 4 (Value.bool true))).get? e = some { cls := .ref C, data := .fields #[.ref t, .none, .none, .none, .bool true, .none] } := Heap.get?_update_self _ e1 rfl
  revert sb2 e2
  generalize (hp.update e (Obj.mapFields fun x => x.setIfInBounds 3 Value.none)).update e (Obj.mapFields fun x => x.setIfInBounds 4 (Value.bool true)) = h2
  intro sb2 e2
  have sb : Heap.SameBut e hp h2 := ⟨sb2.1.trans sb1.1, fun b hb => (sb2.2 b hb).trans (sb1.2 b hb)⟩
  refine raise_on (s := ⟨h2, g, d, tk, os⟩) (D := D) (hD.keptD fun b hb o z => (sb.2 b fun q => new (q ▸ hb)).trans z) e2 rfl (by show 2 < 6; decide) new fun h' how sb' _ => ?_
  have sbf : Heap.SameBut e hp h' := ⟨sb'.1.trans sb.1, fun b hb => (sb'.2 b hb).trans (sb.2 b hb)⟩
  rcases how with ⟨rfl, z⟩ | ⟨ea, z, rfl⟩
  · exact hE _ .none (.inl rfl) sbf ⟨_, e2, rfl, rfl, rfl⟩
  · exact hE _ (.ref ea) (.inr z) sbf ⟨_, Heap.get?_update_self _ e2 rfl, rfl, rfl, rfl⟩
theorem Raise_from {bmB bmN : List Value} {B Bn nid initId inN : String} (Fn : ExcBaseFacts Bn newId inN bmN) (hBn : bmB.contains (.type Bn) = true) (F : ExcBaseFacts B nid initId bmB) {mN : Str → Option Value} {x : Str} {np cpos pos npos : Pos} {j : Nat} {args : List Expr} {Q : Flow → Shared → Prop} {s : Shared}
    (hbase : bm.contains (.type "BaseException") = true) (hplain : (backTo cpos (starEach args env)).any (·.1) = false) (hni : mN "__init__" = none)
    (h : wpAny (model prog w) A (eval (.Name x np) env) (fun f s₁ => f = .ref C ∧ wpAny (model prog w) A (evalArgs (.ref C) true (backTo cpos (starEach args env)) [])
      (fun a s₂ => a.kw = [] ∧ a.pos.length ≤ sizeLine ∧ s₂.heap.get? C = some (excClassObj nm q C N bs bm hdct sn sub ab col dd k0 k1 k2 k3 k5 newId) ∧ s₂.heap.Ns N mN ∧ OwnTail s₂.heap bmB bm ∧ HdN A s₂.heap ∧
        ∀ h1 e, Heap.MadeExcOf s₂.heap h1 e (.ref C) a.pos → ∀ h' cx t, (cx = .none ∨ A.handled = some cx) → Heap.SameBut e h1 h' → (∃ us, h'.get? e = some { cls := .ref C, data := .fields us } ∧ us[0]? = some (.ref t) ∧ us[1]? = some .none ∧ us[2]? = some cx) → E (.ref e) { s₂ with heap := h' }) E s₁) E s) :
    wpAny (model prog w) A (exec (.Raise (some (.Call (.Name x np) args [] cpos)) (some (.Constant .none j npos)) pos) env) Q E s := by
  rw [arm_exec_Raise]
  refine wpAny_bind (wpAny_standAt (raiseStmt_from (C := C) (nm := nm) (q := q) (N := N) (bs := bs) (bm := bm) (hdct := hdct) (sn := sn) (sub := sub) (ab := ab) (col := col) (dd := dd) (k0 := k0) (k1 := k1) (k2 := k2) (k3 := k3) (k5 := k5) (newId := newId) hbase ?_))
  refine wpAny_bind (wpAny_mono (wpAny_Call_ofName (wpAny_mono h (fun f s₁ h₁ => ?_) fun _ _ x => x)) (fun v s₃ h₃ => wpAny_bind (wpAny_standAt (wpAny_pure h₃))) fun _ _ x => x)
  obtain ⟨rfl, h₁⟩ := h₁
  unfold callWith
  refine wpAny_bind (wpAny_holding (wpAny_mono h₁ (fun a s₂ h₂ => wpAny_bind (wpAny_standAt ?_)) fun _ _ x => x))
  obtain ⟨apos, akw⟩ := a
  obtain ⟨hkw, hlen, hC, hn, T, hN, h₂⟩ := h₂
  obtain rfl : akw = [] := hkw
  obtain ⟨hp, g, d, tk, os⟩ := s₂
  simp only [hplain]
  refine wpAny_bind (wpAny_keeperOf_exc hC ?_)
  refine wpAny_bind (wpAny_call_exc_subU (hrest := hlen) Fn hBn F T hC hn hni fun h' e hm => wpAny_bind (wpAny_holding (wpAny_point (wpAny_pure ?_))))
  obtain ⟨t, ht, _, _⟩ := hm.there
  obtain ⟨D, nD, lD⟩ := hN.small
  have old : ∀ b o, hp.get? b = some o → b ≠ e := fun b o z q => by rw [q, hm.new] at z; cases z
  refine ⟨e, t, D, rfl, hm.keeps _ _ hC, (old _ _ hC).symm, nD.keptD fun b _ o z => hm.keeps b o z, fun z => ?_, ht, ?_, fun h'' cx hcx sb us => h₂ h' e hm h'' cx t hcx sb us⟩
  · obtain ⟨o, _, z, _⟩ := lD e z
    exact old _ _ z rfl
  · refine wpAny_bind (Constant_none (wpAny_bind (wpAny_standAt (wpAny_pure ⟨rfl, rfl⟩))))
end
structure MadeH (h h' : Heap) (e C : Addr) (cx : Value) : Prop where
  keeps : ∀ b o, h.get? b = some o → h'.get? b = some o
  new : h.get? e = none
  ex : ∃ us t, h'.get? e = some { cls := .ref C, data := .fields us } ∧ us[0]? = some (.ref t) ∧ us[1]? = some .none ∧ us[2]? = some cx
def ThrowsH (X : Cx) (E : XK) : Prop := ∀ (pins : List (Addr × Obj)) (σ : St) (H : Hp) (s : Shared) (ea C : Addr) (h' : Heap) (cx : Value), Inv X pins σ H s → MadeH s.heap h' ea C cx → CxO H cx → E (.ref C) none H → X.xe (.ref ea) { s with heap := h' }
section
variable {P : Program} {w : World} {K : PySem.W.Frag} {mg : Str → Option Value} {base : Heap} {N ps : List Str} {qual : Str} {scope : Scope} {f : Addr} {cd : Value} {A : Around} {outer : List Env} {s : Shared} {H : Hp} {E : XK}
theorem throwsH_of {c : Bool} : ThrowsH (cxE P w K mg base N qual scope f cd A outer s H E c) E := by
  intro pins σ H1 s1 ea C h1 cx I hm hcx q
  have I1 : Inv _ pins σ H1 { s1 with heap := h1 } := I.kept (t' := s1.toks) hm.keeps
  obtain ⟨us, t, e1, e2, e3, e4⟩ := hm.ex
  refine leave_first (s := { s1 with heap := h1 }) (base := PySem.W.hideAll h1 ([ea] ++ frs (cxE P w K mg base N qual scope f cd A outer s H E c).stack)) (a0 := (.ref t, cx)) I.ok.frames (frames_hid I1 rfl [ea]) rfl e1 (fun b o q => PySem.W.of_hideAll _ q)
    (PySem.W.hideAll_none _ (by simp)) rfl e3 e2 e4 fun h' L => ?_
  obtain ⟨J, F⟩ := fly_after (ch := [ea]) (s' := { s1 with heap := h1 }) I rfl rfl I.bare (Un.kept hm.keeps) I1.hok (fun b hb => by
    obtain rfl : b = ea := by simpa using hb
    exact ⟨hm.new, I.hok.free_of hm.new⟩) (by simp) hcx L
  exact ⟨ea, C, H1, rfl, J.os, J.bare, J.base, J.hok, fresh_start I F, q⟩
theorem ownsAt_of {c : Bool} {hd : Option Value} : PassesOwnAt (model P w) ((cxE P w K mg base N qual scope f cd A outer s H E c).A.mark hd) (cxE P w K mg base N qual scope f cd A outer s H E c).A (cxE P w K mg base N qual scope f cd A outer s H E c).env (cxE P w K mg base N qual scope f cd A outer s H E c).xe := PassesOwnAt.leaving
end
abbrev Cx.handX (X : Cx) (e : Value) : Cx := { X with A := X.A.mark (some e), calm := false }
section
variable {X : Cx} {pins : List (Addr × Obj)} {σ : St} {H : Hp} {s : Shared}
theorem Inv.handX {e : Value} (I : Inv X pins σ H s) (hn : HdF (X.A.mark (some e)) H) : Inv (X.handX e) pins σ H s := (I.hand hn).wish X.xe
theorem Inv.unhandX {e : Value} (hd : X.calm = true → X.A.handled = none) (hn : X.A.handled = none) (I : Inv (X.handX e) pins σ H s) : Inv X pins σ H s := Inv.unhand (e := e) hd hn (I.wish fun _ _ => False)
theorem ThrowsH.handX {E : XK} {e : Value} (hT : ThrowsH X E) (hd : X.calm = true → X.A.handled = none) (hn : X.A.handled = none) : ThrowsH (X.handX e) E := fun pins σ H s ea C h' cx I hm hcx q => hT pins σ H s ea C h' cx (I.unhandX hd hn) hm hcx q
theorem ps_raiseN {E : XK} {x : Str} {C : Addr} {e : Expr} {es : List Expr} {ta : TA} {np cpos pos npos : Pos} {j : Nat} (hT : ThrowsH X E) (R : Err X.K X.mg x C) (hg : Gl X x) (ha : PA X (e :: es) ta)
    (hd : (x == ("__debug__" : Str)) = false := by decide) (he : starEach (e :: es) X.env = (false, eval e X.env) :: starEach es X.env := by rfl) (hpl : (backTo cpos (starEach es X.env)).any (·.1) = false := by rfl) :
    PS X (.Raise (some (.Call (.Name x np) (e :: es) [] cpos)) (some (.Constant .none j npos)) pos) (tRaise C ta E) := by
  intro pins s σ H D I h
  obtain ⟨nm, qn, N, bs, bm, hdct, sn, sub, ab, col, dd, k0, k1, k2, k3, k5, mN, hC, hN, hni, T⟩ := exc_cls I.ok.mod.kin R.ex
  refine Raise_from (C := C) (nm := nm) (q := qn) (N := N) (bs := bs) (bm := bm) (hdct := hdct) (sn := sn) (sub := sub) (ab := ab) (col := col) (dd := dd) (k0 := k0) (k1 := k1) (k2 := k2) (k3 := k3) (k5 := k5)
    PySem.F.excBase_ValueError (by decide +kernel) PySem.F.excBase_ValueError (mN := mN) (T.hasType (by decide +kernel)) (by rw [he]; show (false || (backTo cpos (starEach es X.env)).any (·.1)) = false; rw [hpl]; rfl) hni
    (ld_glob I hg R.mg ⟨rfl, ?_⟩ hd)
  have ha' := ha cpos pins s σ H _ I h
  rw [he] at ha' ⊢
  refine Calls.evalArgs_plain (thn ha' fun us s1 ⟨vs, H1, I1, r, hl, q⟩ => ?_)
  refine ⟨rfl, by rw [← r.length]; exact hl, I1.bk _ _ hC, hN.keeps I1.bk, T.keeps I1.bk, I1.hn.now I1.hok, fun h1 ea hm h' cx t hcx sb ex => ?_⟩
  obtain ⟨us2, u1, u2, u3, u4⟩ := ex
  refine hT pins σ H1 s1 ea C h' cx I1 ⟨fun b o z => (sb.2 b fun qq => ?_).trans (hm.keeps b o z), hm.new, us2, t, u1, u2, u3, u4⟩ ?_ q
  · rw [qq, hm.new] at z; cases z
  · rcases hcx with rfl | z
    · exact .nil
    · rcases I1.hn with y | ⟨eb, y1, y2⟩
      · rw [y] at z; cases z
      · rw [y1] at z; cases z; exact y2
end
section
variable {X : Cx} {body : List Stmt} {b0 : Stmt} {suite : List Stmt} {cn : Str} {np hpos pos : Pos} {C0 : Addr} {tb : XK → TS} {th : TS}
theorem ps_try0X (hcm : X.calm = true) (hx0 : X.ex = []) (hst : X.stack = X.env :: X.outer) (hf : X.env.frame = some X.env.locals) (hg : Gl X cn) (hm : X.mg cn = some (.ref C0))
    (hb : ∀ (pins : List (Addr × Obj)) (E : Value → Shared → Prop) (Es : XK), Passes (XC X.prog X.w) (X.tryb pins E) Es → PSs (X.tryb pins E) body (tb Es)) (hown : ∀ hd, PassesOwnAt (model X.prog X.w) (X.A.mark hd) X.A X.env X.xe) (hh : ∀ e, PSs (X.handX e) (b0 :: suite) th)
    (hd : (cn == ("__debug__" : Str)) = false := by decide) :
    PS X (.Try body [.ExceptHandler (some (.Name cn np)) none (b0 :: suite) hpos] [] [] pos) (tTry0 X.K C0 tb th) := by
  intro pins s σ H D I h
  have pass : Passes (XC X.prog X.w) (X.tryb pins fun e s1 => wpAny (model X.prog X.w) X.A (noteFrame e X.env) (fun _ s2 => wpAny (model X.prog X.w) X.A (setFlight e none) (fun _ s3 =>
      wpAny (model X.prog X.w) X.A (handleBy e X.env [.ExceptHandler (some (.Name cn np)) none (b0 :: suite) hpos]) (SP X pins D) X.xe s3) X.xe s2) X.xe s1)
      (fun cls _ H1 => ∃ C, cls = .ref C ∧ PySem.W.exmOne X.K (.ref C) (.ref C0) = some true ∧ ∀ ea oe σ1, H1 ea = none → th { nx := fun _ _ => False, rt := D.rt } σ1 (upd H1 ea (.frz oe (.exc ea C)))) := by
    intro pins1 σ1 H1 s1 e s' I1 hx
    obtain ⟨ea, C, H', rfl, os, bare, un, hok, fl, Cc, ec, hex, q⟩ := hx
    cases ec
    have J : Inv X pins σ1 H1 s1 := I1.untry
    have J1 : Inv X pins σ1 H' s' := J.call' (ch := []) os un hok bare (fun b z => absurd z (by simp))
    obtain ⟨oe, vs, T, oT, ts, a0, e1, e2, e3, e4, e5, e7, e8, e9, e10, e11, e12, c3, cx⟩ := fl.ex
    have hfr : X.A.frames = some (X.env :: X.outer) := by rw [← hst]; exact I.ok.frames
    have hch : ∀ b ∈ [ea, T], s1.heap.get? b = none ∧ H' b = none := fun b hb => by
      rcases List.mem_cons.mp hb with rfl | hb
      · exact ⟨fl.new, fl.free⟩
      · obtain rfl : b = T := by simpa using hb
        exact ⟨e11, e12⟩
    show wpAny _ _ (noteFrame (.ref ea) X.env) _ _ _
    refine note_next (base := PySem.W.hideAll s'.heap ([ea, T] ++ frs X.stack)) (cls := .ref C) (a0 := a0) hfr (frames_hid J1 hst [ea, T]) hf
      ⟨oe, vs, T, oT, ts, e1, ⟨e2, e3, c3⟩, e4, e5, PySem.W.hideAll_none _ (by simp), e7, e8, e9, e10⟩ (fun b o q => PySem.W.of_hideAll _ q) (PySem.W.hideAll_none _ (by simp)) fun h2 S2 => ?_
    refine flight_c (s := { s' with heap := h2 }) S2.st S2.ff S2.tr fun h3 S3 _ => ?_
    obtain ⟨J3, F3⟩ := fly_after (ch := [ea, T]) J hst os bare un hok hch (by simp) cx ⟨S3.st, S3.ff, S3.tr, S2.up.trans S3.up⟩
    have hA : X.A.handled = none := I.ok.hd hcm
    have nL : ea ≠ X.env.locals := fun z => by
      obtain ⟨m, ⟨o, _, _, ho, _⟩, _⟩ := J.loc
      have := fl.new; rw [z, ho] at this; cases this
    have h0' : X.s₀.heap.get? ea = none := by
      cases q0 : X.s₀.heap.get? ea with
      | none => rfl
      | some o =>
        obtain ⟨o', z⟩ := J.base.there ea o q0 (by rw [hx0]; simp)
        have := fl.new; rw [z] at this; cases this
    have track : ∀ g, Inv X pins σ1 H' { s' with heap := g } → Flies s1.heap g H' ea C → ∃ ob us c, g.get? ea = some ob ∧ ob.cls = .ref C ∧ ob.data = .fields us ∧ (us[2]? = some c ∧ CxO H' c) ∧ Inv X pins σ1 (upd H' ea (.frz ob (.exc ea C))) { s' with heap := g } := fun g Jg Fg => by
      obtain ⟨ob, us, _, _, _, b0', f1, f2, _, f4, _, _, _, _, _, _, _, f5, f6⟩ := Fg.ex
      exact ⟨ob, us, b0'.2, f1, f2, f4, ⟨f5, f6⟩, Jg.track Fg.free h0' nL (fun x c ec z => by
        obtain ⟨v, o, ho, _⟩ := J.cell x c ec
        have := fl.new; rw [← z, ho] at this; cases this) (fun p hp z => by
        have := (J.pin p hp).1
        rw [z, fl.new] at this; cases this) ⟨f1, exc_ok ⟨ob, us, f1, f2, f4⟩⟩⟩
    obtain ⟨o3, v3, x3, g1, g2, g3, g4, J3t⟩ := track h3 J3 F3
    have J3h : Inv (X.hand (.ref ea)) pins σ1 (upd H' ea (.frz o3 (.exc ea C))) { s' with heap := h3 } := J3t.hand (.inr ⟨ea, rfl, .cons upd_same g3 g4.1 (g4.2.upd fl.free)⟩)
    have L : PySem.W.Looks (model X.prog X.w) h3 (typeOf (.ref ea)) (.ref C) := g2 ▸ (PySem.W.Looks.ld g1).andThen .now
    refine wpAny_handleBy_cons (codeAny_handlers_test (ld_glob (X := X.hand (.ref ea)) J3h hg hm ?_ hd)) (by intro q; cases q)
    refine (PySem.W.exm_one J3.kIn L hex).here ?_
    refine codeAny_handlers_suite ?_
    refine flight_c (s := { s' with heap := h3 }) S3.st S3.ff S3.tr fun h4 S4 _ => ?_
    obtain ⟨J4, F4⟩ := fly_after (ch := [ea, T]) J hst os bare un hok hch (by simp) cx ⟨S4.st, S4.ff, S4.tr, (S2.up.trans S3.up).trans S4.up⟩
    obtain ⟨o4, v4, x4, _, _, d4, c4, J5⟩ := track h4 J4 F4
    refine wpAny_mono (hh (.ref ea) pins _ _ _ { nx := fun _ _ => False, rt := D.rt } (J5.handX (.inr ⟨ea, rfl, .cons upd_same d4 c4.1 (c4.2.upd fl.free)⟩)) (q ea o4 _ F4.free)) (fun fl7 s7 q7 => ?_) fun x7 s7 z => hown _ x7 s7 z
    cases fl7 with
    | next => obtain ⟨_, _, _, z⟩ := q7; exact z.elim
    | brk => obtain ⟨_, _, _, z⟩ := q7; exact z.elim
    | cont => obtain ⟨_, _, _, z⟩ := q7; exact z.elim
    | ret u =>
      obtain ⟨v, σ7, H7, J7, r7, d7⟩ := q7
      exact ⟨v, σ7, H7, J7.unhandX I.ok.hd hA, r7, d7⟩
  refine wpAny_Try_except (wpAny_mono (hb pins _ _ pass [] s σ H D I.tryb h) (fun f s1 q1 => ?_) fun e s1 q1 => q1)
  cases f with
  | next =>
    obtain ⟨σ1, H1, I1, q⟩ := q1
    exact wpAny_execs_nil ⟨σ1, H1, I1.untry, q⟩
  | brk => obtain ⟨σ1, H1, I1, q⟩ := q1; exact ⟨σ1, H1, I1.untry, q⟩
  | cont => obtain ⟨σ1, H1, I1, q⟩ := q1; exact ⟨σ1, H1, I1.untry, q⟩
  | ret u => obtain ⟨v, σ1, H1, I1, r, q⟩ := q1; exact ⟨v, σ1, H1, I1.untry, r, q⟩
end
end L2
set_option Elab.async false
set_option linter.all false
set_option maxRecDepth 100000
namespace L2
open PySem PySem.Spec PyProof.Rows
structure FunD (K : PySem.W.Frag) (x qual : Str) (st : Stmt) (f : Addr) (fd : FuncData) : Prop where
  ex : ∃ (oc : Value) (od : Option Addr) (dV kV doc pm : Value) (an : Option Addr) (cdv ct : Value) (osl : Array (Option Value)),
    fd = PySem.W.fnOf x qual (defArgs st) (defBody st) (defScope st) dV kV doc pm an cdv ct ∧ K.lookup f = some ⟨oc, od, .func fd, osl⟩ ∧ PySem.W.codeIn K cdv qual = true
  kp : PySem.W.keepIn K (.ref f) = true
section
variable {P : Program} {w : World} {K : PySem.W.Frag} {mg : Str → Option Value} {base : Heap}
theorem FunD.okX {x qual : Str} {st : Stmt} {f : Addr} {fd : FuncData} {N ps : List Str} {k : Nat} {sp : Sp} {c : Bool} (F : FunD K x qual st f fd) (S : FnScope N ps (defScope st)) (len : ∀ vs H Q E, sp vs H Q E → vs.length = ps.length)
    (hbody : ∀ (cdv : Value) (A : Around) (outer : List Env) (s : Shared) (H : Hp) (vs : List V) (Q : VK) (E : XK), RoomC c k (A.deeper (envOfC qual (defScope st) s.heap.objs.size f cdv)) → sp vs H Q E →
      ∃ t, PSs (cxE P w K mg base N qual (defScope st) f cdv A outer s H E c) (defBody st) t ∧ t { nx := fun _ H' => Q .non H', rt := Q } (start N vs) H) : FnOk P w K mg base (XC P w) (k + 1) f fd ps sp c := by
  obtain ⟨oc, od, dV, kV, doc, pm, an, cdv, ct, osl, rfl, lk, hcd⟩ := F.ex
  exact fn_of lk hcd S len fun A outer s H vs Q E hr hsp => hbody cdv A outer s H vs Q E hr hsp
theorem bindsD {fd : FuncData} {ps : List Str} {D : Addr} {od : Obj} {items : Array Value} {n : Nat} (hf : fd.defaults = .ref D) (dl : K.lookup D = some od) (hd : od.data = .seq items n)
    (h : ∀ us : List Value, us.length = ps.length → ∃ k : Option (Array Value) → Sem (List (Str × Value)), bindArgs fd ⟨us, []⟩ = seqItems? fd.defaults >>= k ∧ k (some items) = pure (ps.zip us)) : Binds K fd ps [] := by
  intro s us KX hl
  rw [List.append_nil] at hl ⊢
  obtain ⟨k, h1, h2⟩ := h us hl
  exact BindsTo.of_defaults hf (KX D od dl) hd h1 h2
theorem funD_mk {x qual : Str} {st : Stmt} {f : Addr} {oc : Value} {od an : Option Addr} {osl : Array (Option Value)} {dV kV doc pm cdv ct : Value} (l : K.lookup f = some ⟨oc, od, .func (PySem.W.fnOf x qual (defArgs st) (defBody st) (defScope st) dV kV doc pm an cdv ct), osl⟩)
    (c : PySem.W.codeIn K cdv qual = true) (k : PySem.W.keepIn K (.ref f) = true) : FunD K x qual st f (PySem.W.fnOf x qual (defArgs st) (defBody st) (defScope st) dV kV doc pm an cdv ct) := ⟨⟨oc, od, dV, kV, doc, pm, an, cdv, ct, osl, rfl, l, c⟩, k⟩
end
section
variable {X : Cx}
theorem pe_fstr7 {a b c d : Str} {e1 e2 e3 : Expr} {t1 t2 t3 : TE} {p1 p2 p3 p4 p5 p6 p7 p8 : Pos} {k1 k2 k3 k4 : Nat} (ha : a.length ≤ 1000) (hb : b.length ≤ 1000) (hc : c.length ≤ 1000) (hd : d.length ≤ 1000) (he1 : PE X e1 t1) (he2 : PE X e2 t2) (he3 : PE X e3 t3) :
    PE X (.JoinedStr [.Constant (.str a) k1 p1, .FormattedValue e1 (-1) none p2, .Constant (.str b) k2 p3, .FormattedValue e2 (-1) none p4, .Constant (.str c) k3 p5, .FormattedValue e3 (-1) none p6, .Constant (.str d) k4 p7] p8) (fun σ H Q => t1 σ H fun x H1 => Fmt x ∧ t2 σ H1 fun y H2 => Fmt y ∧ t3 σ H2 fun u H3 => Fmt u ∧ ∀ z, Q (.str z) H3) := by
  intro pins s σ H Q I h
  refine JoinedStr_many (joinParts_cons (Calls.Constant_str ?_))
  have hz : (12000 : Nat) ≤ sizeLine := by decide
  have l0 : (Str.empty ++ a).length ≤ 1000 := by rw [strLen_append]; show 0 + a.length ≤ 1000; omega
  refine ⟨Nat.le_trans l0 (by decide), joinParts_cons (FormattedValue_plain (thn (he1 pins _ σ H _ (I.tok _) h) fun v s1 ⟨x, H1, I1, r1, F1, q1⟩ => ?_))⟩
  refine fmt_ok r1 F1 fun y t tk ly => ?_
  have m1 := strLen_append (Str.empty ++ a) y
  refine ⟨by omega, joinParts_cons (Calls.Constant_str ?_)⟩
  have m2 := strLen_append (Str.empty ++ a ++ y) b
  refine ⟨by omega, joinParts_cons (FormattedValue_plain (thn (he2 pins _ σ H1 _ ((I1.tok _).tok _) q1) fun v s2 ⟨x2, H2, I2, r2, F2, q2⟩ => ?_))⟩
  refine fmt_ok r2 F2 fun y2 t2 tk2 ly2 => ?_
  have m3 := strLen_append (Str.empty ++ a ++ y ++ b) y2
  refine ⟨by omega, joinParts_cons (Calls.Constant_str ?_)⟩
  have m4 := strLen_append (Str.empty ++ a ++ y ++ b ++ y2) c
  refine ⟨by omega, joinParts_cons (FormattedValue_plain (thn (he3 pins _ σ H2 _ ((I2.tok _).tok _) q2) fun v s3 ⟨x3, H3, I3, r3, F3, q3⟩ => ?_))⟩
  refine fmt_ok r3 F3 fun y3 t3 tk3 ly3 => ?_
  have m5 := strLen_append (Str.empty ++ a ++ y ++ b ++ y2 ++ c) y3
  refine ⟨by omega, joinParts_cons (Calls.Constant_str ?_)⟩
  have m6 := strLen_append (Str.empty ++ a ++ y ++ b ++ y2 ++ c ++ y3) d
  exact ⟨by omega, joinParts_nil ⟨.str _, H3, ((I3.tok _).tok _), ⟨_, rfl⟩, q3 _⟩ (by omega)⟩
end
theorem cs_three {X : Cx} {scope : Scope} {N : List Str} {n1 n2 n3 : Str} {a1 a2 a3 : Addr} (hN : X.N = N) (hk : scope.kind = .function) (hcl : closureFor scope X.env = pure [(n1, a1), (n2, a2), (n3, a3)]) (s1 : X.env.cells.lookup n1 = some a1) (s2 : X.env.cells.lookup n2 = some a2) (s3 : X.env.cells.lookup n3 = some a3)
    (o1 : X.env.kindOf n1 = some .cell) (o2 : X.env.kindOf n2 = some .cell) (o3 : X.env.kindOf n3 = some .cell)
    (h1 : (scope.names.all fun y => y.2 != .cell && (y.2 != .free || (y.1 == n1 || y.1 == n2 || y.1 == n3))) = true) (h2 : (scope.names.all fun y => y.2 != .local || scope.names.lookup y.1 == some .local) = true)
    (h3 : (N.all fun x => scope.names.lookup x != some .local) = true) : CompScope X scope [(n1, a1), (n2, a2), (n3, a3)] where
  clos := hcl
  kind := hk
  nocell := fun y hy => by
    have := List.all_eq_true.mp h1 y hy
    simp only [Bool.and_eq_true, bne_iff_ne] at this
    exact this.1
  names := fun y hy e => by
    have := List.all_eq_true.mp h2 y hy
    rw [e] at this
    simpa using this
  sub := fun x c e => by
    rw [List.lookup_cons] at e
    split at e
    · rename_i q
      obtain rfl : x = n1 := by simpa using q
      cases e; exact s1
    · rw [List.lookup_cons] at e
      split at e
      · rename_i q
        obtain rfl : x = n2 := by simpa using q
        cases e; exact s2
      · rw [List.lookup_cons] at e
        split at e
        · rename_i q
          obtain rfl : x = n3 := by simpa using q
          cases e; exact s3
        · cases e
  has := fun x e => by
    have := List.all_eq_true.mp h1 _ (lookup_mem e)
    simp only [Bool.and_eq_true, Bool.or_eq_true, bne_iff_ne, ne_eq, beq_iff_eq] at this
    simp only [List.lookup_cons]
    by_cases q1 : x = n1
    · exact ⟨a1, by simp [q1]⟩
    · by_cases q2 : x = n2
      · subst q2; exact ⟨a2, by rw [show (x == n1) = false by simpa using q1]; simp⟩
      · by_cases q3 : x = n3
        · subst q3; exact ⟨a3, by rw [show (x == n1) = false by simpa using q1, show (x == n2) = false by simpa using q2]; simp⟩
        · rcases this.2 with z | (z | z) | z
          · exact absurd trivial z
          · exact absurd z q1
          · exact absurd z q2
          · exact absurd z q3
  apart := fun x hx => by
    have := List.all_eq_true.mp h3 x (hN ▸ hx)
    simpa using this
  outer := fun x e => by
    have := List.all_eq_true.mp h1 _ (lookup_mem e)
    simp only [Bool.and_eq_true, Bool.or_eq_true, bne_iff_ne, ne_eq, beq_iff_eq] at this
    rcases this.2 with z | (z | z) | z
    · exact absurd trivial z
    · exact .inl (z ▸ o1)
    · exact .inl (z ▸ o2)
    · exact .inl (z ▸ o3)
section
variable {X : Cx}
theorem op_ne_list (hu : X.A.units < cLine) : OpR X (compareOp .NotEq) (fun x y H Q => ∃ (a b : Addr) (ns ms : List Int), x = .ref a ∧ y = .ref b ∧ SqL X.K H a (ns.map V.int) ∧ SqL X.K H b (ms.map V.int) ∧ Q (.bl (!decide (ns = ms))) H) := by
  intro pins s σ H x y v u Q I rx ry h
  obtain ⟨a, b, ns, ms, rfl, rfl, ha, hb, q⟩ := h
  cases rx
  cases ry
  obtain ⟨its, r1, p1, _⟩ := I.list ha
  obtain ⟨its2, r2, p2, _⟩ := I.list hb
  have l1 := r1.length
  have l2 := r2.length
  rw [List.length_map] at l1 l2
  by_cases hz : its.toArray.size = its2.toArray.size
  · have e : (!((List.range its.toArray.size).all fun j => decide (ns.getD j 0 = ms.getD j 0))) = !decide (ns = ms) := by
      have := all_same (0 : Int) ns ms
      rw [List.size_toArray] at hz ⊢
      rw [List.size_toArray] at hz
      rw [show min ns.length ms.length = its.length by omega, show (ns.length == ms.length) = true by simp; omega, Bool.and_true] at this
      rw [this]
    rw [← e] at q
    exact EqBoolInt.of_rcne (SeqAt.RcNeAt.lists p1.isList p2.isList hz hu fun j h1 h2 => eqAt_ints r1 r2 j h1 h2) ⟨.bl _, H, I, rfl, q⟩
  · have hne : ns ≠ ms := fun e => by
      rw [List.size_toArray, List.size_toArray] at hz
      rw [e] at l1
      omega
    rw [decide_eq_false hne] at q
    exact EqBoolInt.of_rcne (SeqAt.RcNeAt.lists_lengths p1.isList p2.isList (bne_iff_ne.mpr hz) hu) ⟨.bl true, H, I, rfl, q⟩
end
end L2
set_option Elab.async false
set_option linter.all false
set_option maxRecDepth 100000
set_option maxHeartbeats 4000000
namespace L2
open PySem Builtin Builtin.Str
section
variable {X : Cx}
def rUp : V → List V → Hp → VK → Prop := fun x vs H Q => ∃ z, x = .str z ∧ vs = [] ∧ z.length ≤ 1000 ∧ Q (.str (Txt.upper z)) H
theorem mt_upper : MtR X "str.upper" rUp := by
  intro pins s σ H x vs v us Q I rx rv h
  obtain ⟨z, rfl, rfl, hz, q⟩ := h
  obtain ⟨t, rfl⟩ := rx
  cases rv
  have hf : tooLong (Txt.upper z).length = false := PyProof.Rows.fit_upper (Nat.le_trans hz (by decide))
  exact call_gives F.slot_str_upper (typeIs_str _ _ _) F.entry_str_upper (F.args_str_upper_1 _) (gives_str_upper z t hf) ⟨fit_le hf, (show EP X pins σ Q (.str (Txt.upper z) s.toks) _ from ⟨.str _, H, I.tok _, ⟨_, rfl⟩, q⟩)⟩
end
end L2
set_option Elab.async false
set_option linter.all false
set_option maxRecDepth 100000
set_option maxHeartbeats 4000000
namespace K15
open PySem L2 Wd
def top (i : Nat) : Stmt := PySem.Challenge.pw_copperbook_k15_no_picture.main.body.getD i (.Pass ⟨0, 0, 0, 0⟩)
abbrev s_is_whole : Stmt := top 9
theorem sc_is_whole : FnScope ["value"] ["value"] (defScope s_is_whole) := ⟨rfl, rfl, rfl, by decide +kernel, rfl, by decide +kernel, by decide +kernel⟩
abbrev s_read_number : Stmt := top 10
theorem sc_read_number : FnScope ["word", "figures"] ["word"] (defScope s_read_number) := ⟨rfl, rfl, rfl, by decide +kernel, rfl, by decide +kernel, by decide +kernel⟩
abbrev s_read_row : Stmt := top 11
theorem sc_read_row : FnScope ["text", "words", "numbers"] ["text"] (defScope s_read_row) := ⟨rfl, rfl, rfl, by decide +kernel, rfl, by decide +kernel, by decide +kernel⟩
abbrev s_read_lines : Stmt := top 12
theorem sc_read_lines : FnScope ["text"] ["text"] (defScope s_read_lines) := ⟨rfl, rfl, rfl, by decide +kernel, rfl, by decide +kernel, by decide +kernel⟩
abbrev s_tell_row : Stmt := top 13
theorem sc_tell_row : FnScope ["word", "numbers"] ["word", "numbers"] (defScope s_tell_row) := ⟨rfl, rfl, rfl, by decide +kernel, rfl, by decide +kernel, by decide +kernel⟩
abbrev s_tell_lines : Stmt := top 14
theorem sc_tell_lines : FnScope ["rows"] ["rows"] (defScope s_tell_lines) := ⟨rfl, rfl, rfl, by decide +kernel, rfl, by decide +kernel, by decide +kernel⟩
abbrev s_Board_init : Stmt := inClass (top 19) 0
theorem sc_Board_init : FnScope ["self", "wide", "high", "layers"] ["self", "wide", "high", "layers"] (defScope s_Board_init) := ⟨rfl, rfl, rfl, by decide +kernel, rfl, by decide +kernel, by decide +kernel⟩
abbrev s_Board_put : Stmt := inClass (top 19) 3
theorem sc_Board_put : FnScope ["self", "cells", "cell"] ["self", "cells"] (defScope s_Board_put) := ⟨rfl, rfl, rfl, by decide +kernel, rfl, by decide +kernel, by decide +kernel⟩
abbrev s_Board_drill : Stmt := inClass (top 19) 5
theorem sc_Board_drill : FnScope ["self", "x", "y"] ["self", "x", "y"] (defScope s_Board_drill) := ⟨rfl, rfl, rfl, by decide +kernel, rfl, by decide +kernel, by decide +kernel⟩
abbrev s_Board_is_copper : Stmt := inClass (top 19) 7
theorem sc_Board_is_copper : FnScope ["self", "x", "y", "z"] ["self", "x", "y", "z"] (defScope s_Board_is_copper) := ⟨rfl, rfl, rfl, by decide +kernel, rfl, by decide +kernel, by decide +kernel⟩
abbrev s_Board_has_hole : Stmt := inClass (top 19) 8
theorem sc_Board_has_hole : FnScope ["self", "x", "y"] ["self", "x", "y"] (defScope s_Board_has_hole) := ⟨rfl, rfl, rfl, by decide +kernel, rfl, by decide +kernel, by decide +kernel⟩
abbrev s_Board_has_layer : Stmt := inClass (top 19) 16
theorem sc_Board_has_layer : FnScope ["self", "z"] ["self", "z"] (defScope s_Board_has_layer) := ⟨rfl, rfl, rfl, by decide +kernel, rfl, by decide +kernel, by decide +kernel⟩
abbrev s_Board_has_square : Stmt := inClass (top 19) 17
theorem sc_Board_has_square : FnScope ["self", "x", "y"] ["self", "x", "y"] (defScope s_Board_has_square) := ⟨rfl, rfl, rfl, by decide +kernel, rfl, by decide +kernel, by decide +kernel⟩
abbrev s_Board_has_cell : Stmt := inClass (top 19) 18
theorem sc_Board_has_cell : FnScope ["self", "cell"] ["self", "cell"] (defScope s_Board_has_cell) := ⟨rfl, rfl, rfl, by decide +kernel, rfl, by decide +kernel, by decide +kernel⟩
abbrev s_Board_need_square : Stmt := inClass (top 19) 19
theorem sc_Board_need_square : FnScope ["self", "x", "y"] ["self", "x", "y"] (defScope s_Board_need_square) := ⟨rfl, rfl, rfl, by decide +kernel, rfl, by decide +kernel, by decide +kernel⟩
abbrev s_Board_need_cells : Stmt := inClass (top 19) 20
theorem sc_Board_need_cells : FnScope ["self", "cells", "cell"] ["self", "cells"] (defScope s_Board_need_cells) := ⟨rfl, rfl, rfl, by decide +kernel, rfl, by decide +kernel, by decide +kernel⟩
abbrev s_need_measure : Stmt := top 20
theorem sc_need_measure : FnScope ["measure", "most"] ["measure", "most"] (defScope s_need_measure) := ⟨rfl, rfl, rfl, by decide +kernel, rfl, by decide +kernel, by decide +kernel⟩
abbrev s_picture : Stmt := top 24
theorem sc_picture : FnScope ["board", "rows", "z", "y"] ["board"] (defScope s_picture) := ⟨rfl, rfl, rfl, by decide +kernel, rfl, by decide +kernel, by decide +kernel⟩
abbrev s_sign_at : Stmt := top 25
theorem sc_sign_at : FnScope ["board", "x", "y", "z"] ["board", "x", "y", "z"] (defScope s_sign_at) := ⟨rfl, rfl, rfl, by decide +kernel, rfl, by decide +kernel, by decide +kernel⟩
abbrev s_read_picture : Stmt := top 26
theorem sc_read_picture : FnScope ["text", "rows", "board", "signs", "row", "number"] ["text"] (defScope s_read_picture) := ⟨rfl, rfl, rfl, by decide +kernel, rfl, by decide +kernel, by decide +kernel⟩
abbrev s_read_head : Stmt := top 27
theorem sc_read_head : FnScope ["row", "head", "numbers"] ["row"] (defScope s_read_head) := ⟨rfl, rfl, rfl, by decide +kernel, rfl, by decide +kernel, by decide +kernel⟩
abbrev s_draw_row : Stmt := top 28
theorem sc_draw_row : FnScope ["board", "row", "y", "z", "x", "sign"] ["board", "row", "y", "z"] (defScope s_draw_row) := ⟨rfl, rfl, rfl, by decide +kernel, rfl, by decide +kernel, by decide +kernel⟩
abbrev s_law_cell_at : Stmt := top 30
theorem sc_law_cell_at : FnScope ["_law_script", "_law_k"] ["_law_script", "_law_k"] (defScope s_law_cell_at) := ⟨rfl, rfl, rfl, by decide +kernel, rfl, by decide +kernel, by decide +kernel⟩
abbrev s_law_text : Stmt := top 31
theorem sc_law_text : FnScope ["_law_script", "_law_size", "_law_rows", "_law_cell", "_law_holes", "_law_k", "_law_signs", "_law_x", "_law_hole"] ["_law_script", "_law_size"] (defScope s_law_text) := ⟨rfl, rfl, rfl, by decide +kernel, rfl, by decide +kernel, by decide +kernel⟩
abbrev s_law_put : Stmt := top 32
theorem sc_law_put : FnScope ["_law_rows", "_law_at", "_law_x", "_law_one", "_law_row"] ["_law_rows", "_law_at", "_law_x", "_law_one"] (defScope s_law_put) := ⟨rfl, rfl, rfl, by decide +kernel, rfl, by decide +kernel, by decide +kernel⟩
abbrev s_law_measures : Stmt := top 33
theorem sc_law_measures : FnScope ["_law_rows", "_law_turn", "_law_size", "_law_cell", "_law_words", "_law_at", "_law_number", "_law_some"] ["_law_rows", "_law_turn", "_law_size", "_law_cell"] (defScope s_law_measures) := ⟨rfl, rfl, rfl, by decide +kernel, rfl, by decide +kernel, by decide +kernel⟩
abbrev s_law_by_rows : Stmt := top 34
theorem sc_law_by_rows : FnScope ["_law_rows", "_law_turn", "_law_size", "_law_cell", "_law_at", "_law_x", "_law_other"] ["_law_rows", "_law_turn", "_law_size", "_law_cell"] (defScope s_law_by_rows) := ⟨rfl, rfl, rfl, by decide +kernel, rfl, by decide +kernel, by decide +kernel⟩
abbrev s_law_changed : Stmt := top 35
theorem sc_law_changed : FnScope ["_law_rows", "_law_turn", "_law_size", "_law_cell", "_law_text_here"] ["_law_rows", "_law_turn", "_law_size", "_law_cell"] (defScope s_law_changed) := ⟨rfl, rfl, rfl, by decide +kernel, rfl, by decide +kernel, by decide +kernel⟩
abbrev s_law_refused : Stmt := top 36
theorem sc_law_refused : FnScope ["_law_text_here", "_law_good", "e"] ["_law_text_here"] (defScope s_law_refused) := ⟨rfl, rfl, rfl, by decide +kernel, rfl, by decide +kernel, by decide +kernel⟩
abbrev s_law : Stmt := top 37
theorem sc_law : FnScope ["_law_script", "_law_cell", "_law_size", "_law_rows", "_law_text_here"] ["_law_script"] (defScope s_law) := ⟨rfl, rfl, rfl, by decide +kernel, rfl, by decide +kernel, by decide +kernel⟩
structure Adr where
  c_Board : Addr
  f_is_whole : Addr
  f_read_number : Addr
  f_read_row : Addr
  f_read_lines : Addr
  f_tell_row : Addr
  f_tell_lines : Addr
  f_Board_init : Addr
  f_Board_put : Addr
  f_Board_drill : Addr
  f_Board_is_copper : Addr
  f_Board_has_hole : Addr
  f_Board_has_layer : Addr
  f_Board_has_square : Addr
  f_Board_has_cell : Addr
  f_Board_need_square : Addr
  f_Board_need_cells : Addr
  f_need_measure : Addr
  f_picture : Addr
  f_sign_at : Addr
  f_read_picture : Addr
  f_read_head : Addr
  f_draw_row : Addr
  f_law_cell_at : Addr
  f_law_text : Addr
  f_law_put : Addr
  f_law_measures : Addr
  f_law_by_rows : Addr
  f_law_changed : Addr
  f_law_refused : Addr
  f_law : Addr
  c_CopperError : Addr
  c_NoBoard : Addr
  c_NoPlace : Addr
  c_NoPicture : Addr
  tk_MOST_FIGURES : Tok
  tk_MOST_WIDE : Tok
  tk_MOST_HIGH : Tok
  tk_MOST_LAYERS : Tok
  tk_FIGURES : Tok
  tk_COPPER_SIGNS : Tok
  tk_HOLE_SIGNS : Tok
structure Txt (K : PySem.W.Frag) (mg : Str → Option Value) (t : Adr) : Prop where
  g_Board : mg "Board" = some (.ref t.c_Board)
  cl_Board : Cls K t.c_Board
  na_Board_wide : NoAttr K t.c_Board "wide"
  na_Board_high : NoAttr K t.c_Board "high"
  na_Board_layers : NoAttr K t.c_Board "layers"
  na_Board_copper : NoAttr K t.c_Board "copper"
  na_Board_drilled : NoAttr K t.c_Board "drilled"
  F_is_whole : ∃ fd, Fun K "is_whole" "is_whole" s_is_whole t.f_is_whole fd ∧ Binds K fd ["value"] []
  g_is_whole : mg "is_whole" = some (.ref t.f_is_whole)
  F_read_number : ∃ fd, Fun K "read_number" "read_number" s_read_number t.f_read_number fd ∧ Binds K fd ["word"] []
  g_read_number : mg "read_number" = some (.ref t.f_read_number)
  F_read_row : ∃ fd, Fun K "read_row" "read_row" s_read_row t.f_read_row fd ∧ Binds K fd ["text"] []
  g_read_row : mg "read_row" = some (.ref t.f_read_row)
  F_read_lines : ∃ fd, Fun K "read_lines" "read_lines" s_read_lines t.f_read_lines fd ∧ Binds K fd ["text"] []
  g_read_lines : mg "read_lines" = some (.ref t.f_read_lines)
  F_tell_row : ∃ fd, Fun K "tell_row" "tell_row" s_tell_row t.f_tell_row fd ∧ Binds K fd ["word", "numbers"] []
  g_tell_row : mg "tell_row" = some (.ref t.f_tell_row)
  F_tell_lines : ∃ fd, Fun K "tell_lines" "tell_lines" s_tell_lines t.f_tell_lines fd ∧ Binds K fd ["rows"] []
  g_tell_lines : mg "tell_lines" = some (.ref t.f_tell_lines)
  F_Board_init : ∃ fd, FunD K "__init__" "Board.__init__" s_Board_init t.f_Board_init fd ∧ Binds K fd ["self", "wide", "high", "layers"] []
  K_Board : Mk K t.c_Board t.f_Board_init
  F_Board_put : ∃ fd, Fun K "put" "Board.put" s_Board_put t.f_Board_put fd ∧ Binds K fd ["self", "cells"] []
  M_Board_put : Meth K t.c_Board "put" t.f_Board_put
  F_Board_drill : ∃ fd, Fun K "drill" "Board.drill" s_Board_drill t.f_Board_drill fd ∧ Binds K fd ["self", "x", "y"] []
  M_Board_drill : Meth K t.c_Board "drill" t.f_Board_drill
  F_Board_is_copper : ∃ fd, FunD K "is_copper" "Board.is_copper" s_Board_is_copper t.f_Board_is_copper fd ∧ Binds K fd ["self", "x", "y", "z"] []
  M_Board_is_copper : Meth K t.c_Board "is_copper" t.f_Board_is_copper
  F_Board_has_hole : ∃ fd, Fun K "has_hole" "Board.has_hole" s_Board_has_hole t.f_Board_has_hole fd ∧ Binds K fd ["self", "x", "y"] []
  M_Board_has_hole : Meth K t.c_Board "has_hole" t.f_Board_has_hole
  F_Board_has_layer : ∃ fd, Fun K "has_layer" "Board.has_layer" s_Board_has_layer t.f_Board_has_layer fd ∧ Binds K fd ["self", "z"] []
  M_Board_has_layer : Meth K t.c_Board "has_layer" t.f_Board_has_layer
  F_Board_has_square : ∃ fd, Fun K "has_square" "Board.has_square" s_Board_has_square t.f_Board_has_square fd ∧ Binds K fd ["self", "x", "y"] []
  M_Board_has_square : Meth K t.c_Board "has_square" t.f_Board_has_square
  F_Board_has_cell : ∃ fd, Fun K "has_cell" "Board.has_cell" s_Board_has_cell t.f_Board_has_cell fd ∧ Binds K fd ["self", "cell"] []
  M_Board_has_cell : Meth K t.c_Board "has_cell" t.f_Board_has_cell
  F_Board_need_square : ∃ fd, Fun K "need_square" "Board.need_square" s_Board_need_square t.f_Board_need_square fd ∧ Binds K fd ["self", "x", "y"] []
  M_Board_need_square : Meth K t.c_Board "need_square" t.f_Board_need_square
  F_Board_need_cells : ∃ fd, Fun K "need_cells" "Board.need_cells" s_Board_need_cells t.f_Board_need_cells fd ∧ Binds K fd ["self", "cells"] []
  M_Board_need_cells : Meth K t.c_Board "need_cells" t.f_Board_need_cells
  F_need_measure : ∃ fd, Fun K "need_measure" "need_measure" s_need_measure t.f_need_measure fd ∧ Binds K fd ["measure", "most"] []
  g_need_measure : mg "need_measure" = some (.ref t.f_need_measure)
  F_picture : ∃ fd, Fun K "picture" "picture" s_picture t.f_picture fd ∧ Binds K fd ["board"] []
  g_picture : mg "picture" = some (.ref t.f_picture)
  F_sign_at : ∃ fd, Fun K "sign_at" "sign_at" s_sign_at t.f_sign_at fd ∧ Binds K fd ["board", "x", "y", "z"] []
  g_sign_at : mg "sign_at" = some (.ref t.f_sign_at)
  F_read_picture : ∃ fd, Fun K "read_picture" "read_picture" s_read_picture t.f_read_picture fd ∧ Binds K fd ["text"] []
  g_read_picture : mg "read_picture" = some (.ref t.f_read_picture)
  F_read_head : ∃ fd, Fun K "read_head" "read_head" s_read_head t.f_read_head fd ∧ Binds K fd ["row"] []
  g_read_head : mg "read_head" = some (.ref t.f_read_head)
  F_draw_row : ∃ fd, Fun K "draw_row" "draw_row" s_draw_row t.f_draw_row fd ∧ Binds K fd ["board", "row", "y", "z"] []
  g_draw_row : mg "draw_row" = some (.ref t.f_draw_row)
  F_law_cell_at : ∃ fd, Fun K "_law_cell_at" "_law_cell_at" s_law_cell_at t.f_law_cell_at fd ∧ Binds K fd ["_law_script", "_law_k"] []
  g__law_cell_at : mg "_law_cell_at" = some (.ref t.f_law_cell_at)
  F_law_text : ∃ fd, Fun K "_law_text" "_law_text" s_law_text t.f_law_text fd ∧ Binds K fd ["_law_script", "_law_size"] []
  g__law_text : mg "_law_text" = some (.ref t.f_law_text)
  F_law_put : ∃ fd, Fun K "_law_put" "_law_put" s_law_put t.f_law_put fd ∧ Binds K fd ["_law_rows", "_law_at", "_law_x", "_law_one"] []
  g__law_put : mg "_law_put" = some (.ref t.f_law_put)
  F_law_measures : ∃ fd, Fun K "_law_measures" "_law_measures" s_law_measures t.f_law_measures fd ∧ Binds K fd ["_law_rows", "_law_turn", "_law_size", "_law_cell"] []
  g__law_measures : mg "_law_measures" = some (.ref t.f_law_measures)
  F_law_by_rows : ∃ fd, Fun K "_law_by_rows" "_law_by_rows" s_law_by_rows t.f_law_by_rows fd ∧ Binds K fd ["_law_rows", "_law_turn", "_law_size", "_law_cell"] []
  g__law_by_rows : mg "_law_by_rows" = some (.ref t.f_law_by_rows)
  F_law_changed : ∃ fd, Fun K "_law_changed" "_law_changed" s_law_changed t.f_law_changed fd ∧ Binds K fd ["_law_rows", "_law_turn", "_law_size", "_law_cell"] []
  g__law_changed : mg "_law_changed" = some (.ref t.f_law_changed)
  F_law_refused : ∃ fd, Fun K "_law_refused" "_law_refused" s_law_refused t.f_law_refused fd ∧ Binds K fd ["_law_text_here"] []
  g__law_refused : mg "_law_refused" = some (.ref t.f_law_refused)
  F_law : ∃ fd, Fun K "law" "law" s_law t.f_law fd ∧ ∀ (s : Shared) (u : Value), BindsTo s fd ⟨[u], []⟩ [("_law_script", u)]
  g_law : mg "law" = some (.ref t.f_law)
  g_CopperError : mg "CopperError" = some (.ref t.c_CopperError)
  g_NoBoard : mg "NoBoard" = some (.ref t.c_NoBoard)
  g_NoPlace : mg "NoPlace" = some (.ref t.c_NoPlace)
  g_NoPicture : mg "NoPicture" = some (.ref t.c_NoPicture)
  e_NoBoard : Err K mg "NoBoard" t.c_NoBoard
  ef_NoBoard : ErrF K t.c_NoBoard
  e_NoPlace : Err K mg "NoPlace" t.c_NoPlace
  ef_NoPlace : ErrF K t.c_NoPlace
  e_NoPicture : Err K mg "NoPicture" t.c_NoPicture
  ef_NoPicture : ErrF K t.c_NoPicture
  xm_NoPicture_NoPicture : PySem.W.exmOne K (.ref t.c_NoPicture) (.ref t.c_NoPicture) = some true
  xm_NoBoard_NoBoard : PySem.W.exmOne K (.ref t.c_NoBoard) (.ref t.c_NoBoard) = some true
  ki_NoPicture_CopperError : PySem.W.kitOne K (.ref t.c_NoPicture) (.ref t.c_CopperError) = some true
  ki_NoPicture_ValueError : PySem.W.kitOne K (.ref t.c_NoPicture) (.type "ValueError") = some true
  ki_NoPicture_NoBoard : PySem.W.kitOne K (.ref t.c_NoPicture) (.ref t.c_NoBoard) = some false
  ki_NoPicture_NoPlace : PySem.W.kitOne K (.ref t.c_NoPicture) (.ref t.c_NoPlace) = some false
  n_isinstance : mg "isinstance" = none
  n_int : mg "int" = none
  n_bool : mg "bool" = none
  n_str : mg "str" = none
  n_tuple : mg "tuple" = none
  n_len : mg "len" = none
  n_range : mg "range" = none
  n_all : mg "all" = none
  n_enumerate : mg "enumerate" = none
  n_ValueError : mg "ValueError" = none
  g_MOST_FIGURES : mg "MOST_FIGURES" = some (.int 40 t.tk_MOST_FIGURES)
  g_MOST_WIDE : mg "MOST_WIDE" = some (.int 12 t.tk_MOST_WIDE)
  g_MOST_HIGH : mg "MOST_HIGH" = some (.int 12 t.tk_MOST_HIGH)
  g_MOST_LAYERS : mg "MOST_LAYERS" = some (.int 3 t.tk_MOST_LAYERS)
  g_FIGURES : mg "FIGURES" = some (.str "0123456789" t.tk_FIGURES)
  g_COPPER_SIGNS : mg "COPPER_SIGNS" = some (.str "#O" t.tk_COPPER_SIGNS)
  g_HOLE_SIGNS : mg "HOLE_SIGNS" = some (.str "Oo" t.tk_HOLE_SIGNS)
theorem txt_mk {K : PySem.W.Frag} {h : Heap} {mg : Str → Option Value} {c_Board f_is_whole f_read_number f_read_row f_read_lines f_tell_row f_tell_lines f_Board_init f_Board_put f_Board_drill f_Board_is_copper f_Board_has_hole f_Board_has_layer f_Board_has_square f_Board_has_cell f_Board_need_square f_Board_need_cells f_need_measure f_picture f_sign_at f_read_picture f_read_head f_draw_row f_law_cell_at f_law_text f_law_put f_law_measures f_law_by_rows f_law_changed f_law_refused f_law c_CopperError c_NoBoard c_NoPlace c_NoPicture : Addr} {tk_MOST_FIGURES tk_MOST_WIDE tk_MOST_HIGH tk_MOST_LAYERS tk_FIGURES tk_COPPER_SIGNS tk_HOLE_SIGNS : Tok}
    {od_is_whole an_is_whole od_read_number an_read_number od_read_row an_read_row od_read_lines an_read_lines od_tell_row an_tell_row od_tell_lines an_tell_lines od_Board_init an_Board_init od_Board_put an_Board_put od_Board_drill an_Board_drill od_Board_is_copper an_Board_is_copper od_Board_has_hole an_Board_has_hole od_Board_has_layer an_Board_has_layer od_Board_has_square an_Board_has_square od_Board_has_cell an_Board_has_cell od_Board_need_square an_Board_need_square od_Board_need_cells an_Board_need_cells od_need_measure an_need_measure od_picture an_picture od_sign_at an_sign_at od_read_picture an_read_picture od_read_head an_read_head od_draw_row an_draw_row od_law_cell_at an_law_cell_at od_law_text an_law_text od_law_put an_law_put od_law_measures an_law_measures od_law_by_rows an_law_by_rows od_law_changed an_law_changed od_law_refused an_law_refused od_law an_law : Option Addr} {sl_is_whole sl_read_number sl_read_row sl_read_lines sl_tell_row sl_tell_lines sl_Board_init sl_Board_put sl_Board_drill sl_Board_is_copper sl_Board_has_hole sl_Board_has_layer sl_Board_has_square sl_Board_has_cell sl_Board_need_square sl_Board_need_cells sl_need_measure sl_picture sl_sign_at sl_read_picture sl_read_head sl_draw_row sl_law_cell_at sl_law_text sl_law_put sl_law_measures sl_law_by_rows sl_law_changed sl_law_refused sl_law : Array (Option Value)} {oc_is_whole kV_is_whole dc_is_whole pm_is_whole cd_is_whole ct_is_whole oc_read_number kV_read_number dc_read_number pm_read_number cd_read_number ct_read_number oc_read_row kV_read_row dc_read_row pm_read_row cd_read_row ct_read_row oc_read_lines kV_read_lines dc_read_lines pm_read_lines cd_read_lines ct_read_lines oc_tell_row kV_tell_row dc_tell_row pm_tell_row cd_tell_row ct_tell_row oc_tell_lines kV_tell_lines dc_tell_lines pm_tell_lines cd_tell_lines ct_tell_lines oc_Board_init kV_Board_init dc_Board_init pm_Board_init cd_Board_init ct_Board_init oc_Board_put kV_Board_put dc_Board_put pm_Board_put cd_Board_put ct_Board_put oc_Board_drill kV_Board_drill dc_Board_drill pm_Board_drill cd_Board_drill ct_Board_drill oc_Board_is_copper kV_Board_is_copper dc_Board_is_copper pm_Board_is_copper cd_Board_is_copper ct_Board_is_copper oc_Board_has_hole kV_Board_has_hole dc_Board_has_hole pm_Board_has_hole cd_Board_has_hole ct_Board_has_hole oc_Board_has_layer kV_Board_has_layer dc_Board_has_layer pm_Board_has_layer cd_Board_has_layer ct_Board_has_layer oc_Board_has_square kV_Board_has_square dc_Board_has_square pm_Board_has_square cd_Board_has_square ct_Board_has_square oc_Board_has_cell kV_Board_has_cell dc_Board_has_cell pm_Board_has_cell cd_Board_has_cell ct_Board_has_cell oc_Board_need_square kV_Board_need_square dc_Board_need_square pm_Board_need_square cd_Board_need_square ct_Board_need_square oc_Board_need_cells kV_Board_need_cells dc_Board_need_cells pm_Board_need_cells cd_Board_need_cells ct_Board_need_cells oc_need_measure kV_need_measure dc_need_measure pm_need_measure cd_need_measure ct_need_measure oc_picture kV_picture dc_picture pm_picture cd_picture ct_picture oc_sign_at kV_sign_at dc_sign_at pm_sign_at cd_sign_at ct_sign_at oc_read_picture kV_read_picture dc_read_picture pm_read_picture cd_read_picture ct_read_picture oc_read_head kV_read_head dc_read_head pm_read_head cd_read_head ct_read_head oc_draw_row kV_draw_row dc_draw_row pm_draw_row cd_draw_row ct_draw_row oc_law_cell_at kV_law_cell_at dc_law_cell_at pm_law_cell_at cd_law_cell_at ct_law_cell_at oc_law_text kV_law_text dc_law_text pm_law_text cd_law_text ct_law_text oc_law_put kV_law_put dc_law_put pm_law_put cd_law_put ct_law_put oc_law_measures kV_law_measures dc_law_measures pm_law_measures cd_law_measures ct_law_measures oc_law_by_rows kV_law_by_rows dc_law_by_rows pm_law_by_rows cd_law_by_rows ct_law_by_rows oc_law_changed kV_law_changed dc_law_changed pm_law_changed cd_law_changed ct_law_changed oc_law_refused kV_law_refused dc_law_refused pm_law_refused cd_law_refused ct_law_refused oc_law kV_law dc_law pm_law cd_law ct_law : Value} {dV_Board_init : Addr} {dd_Board_init : Option Addr} {dn_Board_init : Nat} {ds_Board_init : Array (Option Value)} {dV_Board_is_copper : Addr} {dd_Board_is_copper : Option Addr} {dn_Board_is_copper : Nat} {ds_Board_is_copper : Array (Option Value)} {dt0_Board_init dt0_Board_is_copper : Tok} (X : K.In h) (G : h.Ns mainGlobals mg)
    (g_Board : PySem.W.nsIn K mainGlobals "Board" = some (some (.ref c_Board)))
    (pg_Board : PySem.W.plainGet K c_Board Str.empty = true)
    (hd_Board : PySem.W.hasDictIn K c_Board = true)
    (po_Board : PySem.W.plainOver K c_Board = true)
    (sa_Board : PySem.W.findIn K (.ref c_Board) "__setattr__" = some (some (.builtin "object.__setattr__")))
    (mk_Board : PySem.W.makesIn K c_Board = true)
    (kc_Board : PySem.W.keepIn K (.ref c_Board) = true)
    (na_Board_wide : PySem.W.findIn K (.ref c_Board) "wide" = some none)
    (na_Board_high : PySem.W.findIn K (.ref c_Board) "high" = some none)
    (na_Board_layers : PySem.W.findIn K (.ref c_Board) "layers" = some none)
    (na_Board_copper : PySem.W.findIn K (.ref c_Board) "copper" = some none)
    (na_Board_drilled : PySem.W.findIn K (.ref c_Board) "drilled" = some none)
    (a_is_whole : PySem.W.nsIn K mainGlobals "is_whole" = some (some (.ref f_is_whole)))
    (l_is_whole : K.lookup f_is_whole = some ⟨oc_is_whole, od_is_whole, .func (PySem.W.fnOf "is_whole" "is_whole" (defArgs s_is_whole) (defBody s_is_whole) (defScope s_is_whole) .none kV_is_whole dc_is_whole pm_is_whole an_is_whole cd_is_whole ct_is_whole), sl_is_whole⟩)
    (cc_is_whole : PySem.W.codeIn K cd_is_whole "is_whole" = true)
    (k_is_whole : PySem.W.keepIn K (.ref f_is_whole) = true)
    (a_read_number : PySem.W.nsIn K mainGlobals "read_number" = some (some (.ref f_read_number)))
    (l_read_number : K.lookup f_read_number = some ⟨oc_read_number, od_read_number, .func (PySem.W.fnOf "read_number" "read_number" (defArgs s_read_number) (defBody s_read_number) (defScope s_read_number) .none kV_read_number dc_read_number pm_read_number an_read_number cd_read_number ct_read_number), sl_read_number⟩)
    (cc_read_number : PySem.W.codeIn K cd_read_number "read_number" = true)
    (k_read_number : PySem.W.keepIn K (.ref f_read_number) = true)
    (a_read_row : PySem.W.nsIn K mainGlobals "read_row" = some (some (.ref f_read_row)))
    (l_read_row : K.lookup f_read_row = some ⟨oc_read_row, od_read_row, .func (PySem.W.fnOf "read_row" "read_row" (defArgs s_read_row) (defBody s_read_row) (defScope s_read_row) .none kV_read_row dc_read_row pm_read_row an_read_row cd_read_row ct_read_row), sl_read_row⟩)
    (cc_read_row : PySem.W.codeIn K cd_read_row "read_row" = true)
    (k_read_row : PySem.W.keepIn K (.ref f_read_row) = true)
    (a_read_lines : PySem.W.nsIn K mainGlobals "read_lines" = some (some (.ref f_read_lines)))
    (l_read_lines : K.lookup f_read_lines = some ⟨oc_read_lines, od_read_lines, .func (PySem.W.fnOf "read_lines" "read_lines" (defArgs s_read_lines) (defBody s_read_lines) (defScope s_read_lines) .none kV_read_lines dc_read_lines pm_read_lines an_read_lines cd_read_lines ct_read_lines), sl_read_lines⟩)
    (cc_read_lines : PySem.W.codeIn K cd_read_lines "read_lines" = true)
    (k_read_lines : PySem.W.keepIn K (.ref f_read_lines) = true)
    (a_tell_row : PySem.W.nsIn K mainGlobals "tell_row" = some (some (.ref f_tell_row)))
    (l_tell_row : K.lookup f_tell_row = some ⟨oc_tell_row, od_tell_row, .func (PySem.W.fnOf "tell_row" "tell_row" (defArgs s_tell_row) (defBody s_tell_row) (defScope s_tell_row) .none kV_tell_row dc_tell_row pm_tell_row an_tell_row cd_tell_row ct_tell_row), sl_tell_row⟩)
    (cc_tell_row : PySem.W.codeIn K cd_tell_row "tell_row" = true)
    (k_tell_row : PySem.W.keepIn K (.ref f_tell_row) = true)
    (a_tell_lines : PySem.W.nsIn K mainGlobals "tell_lines" = some (some (.ref f_tell_lines)))
    (l_tell_lines : K.lookup f_tell_lines = some ⟨oc_tell_lines, od_tell_lines, .func (PySem.W.fnOf "tell_lines" "tell_lines" (defArgs s_tell_lines) (defBody s_tell_lines) (defScope s_tell_lines) .none kV_tell_lines dc_tell_lines pm_tell_lines an_tell_lines cd_tell_lines ct_tell_lines), sl_tell_lines⟩)
    (cc_tell_lines : PySem.W.codeIn K cd_tell_lines "tell_lines" = true)
    (k_tell_lines : PySem.W.keepIn K (.ref f_tell_lines) = true)
    (a_Board_init : PySem.W.findIn K (.ref c_Board) "__init__" = some (some (.ref f_Board_init)))
    (i_Board_init : PySem.W.isFn K (.ref f_Board_init) = true)
    (l_Board_init : K.lookup f_Board_init = some ⟨oc_Board_init, od_Board_init, .func (PySem.W.fnOf "__init__" "Board.__init__" (defArgs s_Board_init) (defBody s_Board_init) (defScope s_Board_init) (.ref dV_Board_init) kV_Board_init dc_Board_init pm_Board_init an_Board_init cd_Board_init ct_Board_init), sl_Board_init⟩)
    (dl_Board_init : K.lookup dV_Board_init = some ⟨.type "tuple", dd_Board_init, .seq [.int 1 dt0_Board_init].toArray dn_Board_init, ds_Board_init⟩)
    (cc_Board_init : PySem.W.codeIn K cd_Board_init "Board.__init__" = true)
    (k_Board_init : PySem.W.keepIn K (.ref f_Board_init) = true)
    (a_Board_put : PySem.W.findIn K (.ref c_Board) "put" = some (some (.ref f_Board_put)))
    (i_Board_put : PySem.W.isFn K (.ref f_Board_put) = true)
    (l_Board_put : K.lookup f_Board_put = some ⟨oc_Board_put, od_Board_put, .func (PySem.W.fnOf "put" "Board.put" (defArgs s_Board_put) (defBody s_Board_put) (defScope s_Board_put) .none kV_Board_put dc_Board_put pm_Board_put an_Board_put cd_Board_put ct_Board_put), sl_Board_put⟩)
    (cc_Board_put : PySem.W.codeIn K cd_Board_put "Board.put" = true)
    (k_Board_put : PySem.W.keepIn K (.ref f_Board_put) = true)
    (a_Board_drill : PySem.W.findIn K (.ref c_Board) "drill" = some (some (.ref f_Board_drill)))
    (i_Board_drill : PySem.W.isFn K (.ref f_Board_drill) = true)
    (l_Board_drill : K.lookup f_Board_drill = some ⟨oc_Board_drill, od_Board_drill, .func (PySem.W.fnOf "drill" "Board.drill" (defArgs s_Board_drill) (defBody s_Board_drill) (defScope s_Board_drill) .none kV_Board_drill dc_Board_drill pm_Board_drill an_Board_drill cd_Board_drill ct_Board_drill), sl_Board_drill⟩)
    (cc_Board_drill : PySem.W.codeIn K cd_Board_drill "Board.drill" = true)
    (k_Board_drill : PySem.W.keepIn K (.ref f_Board_drill) = true)
    (a_Board_is_copper : PySem.W.findIn K (.ref c_Board) "is_copper" = some (some (.ref f_Board_is_copper)))
    (i_Board_is_copper : PySem.W.isFn K (.ref f_Board_is_copper) = true)
    (l_Board_is_copper : K.lookup f_Board_is_copper = some ⟨oc_Board_is_copper, od_Board_is_copper, .func (PySem.W.fnOf "is_copper" "Board.is_copper" (defArgs s_Board_is_copper) (defBody s_Board_is_copper) (defScope s_Board_is_copper) (.ref dV_Board_is_copper) kV_Board_is_copper dc_Board_is_copper pm_Board_is_copper an_Board_is_copper cd_Board_is_copper ct_Board_is_copper), sl_Board_is_copper⟩)
    (dl_Board_is_copper : K.lookup dV_Board_is_copper = some ⟨.type "tuple", dd_Board_is_copper, .seq [.int 0 dt0_Board_is_copper].toArray dn_Board_is_copper, ds_Board_is_copper⟩)
    (cc_Board_is_copper : PySem.W.codeIn K cd_Board_is_copper "Board.is_copper" = true)
    (k_Board_is_copper : PySem.W.keepIn K (.ref f_Board_is_copper) = true)
    (a_Board_has_hole : PySem.W.findIn K (.ref c_Board) "has_hole" = some (some (.ref f_Board_has_hole)))
    (i_Board_has_hole : PySem.W.isFn K (.ref f_Board_has_hole) = true)
    (l_Board_has_hole : K.lookup f_Board_has_hole = some ⟨oc_Board_has_hole, od_Board_has_hole, .func (PySem.W.fnOf "has_hole" "Board.has_hole" (defArgs s_Board_has_hole) (defBody s_Board_has_hole) (defScope s_Board_has_hole) .none kV_Board_has_hole dc_Board_has_hole pm_Board_has_hole an_Board_has_hole cd_Board_has_hole ct_Board_has_hole), sl_Board_has_hole⟩)
    (cc_Board_has_hole : PySem.W.codeIn K cd_Board_has_hole "Board.has_hole" = true)
    (k_Board_has_hole : PySem.W.keepIn K (.ref f_Board_has_hole) = true)
    (a_Board_has_layer : PySem.W.findIn K (.ref c_Board) "has_layer" = some (some (.ref f_Board_has_layer)))
    (i_Board_has_layer : PySem.W.isFn K (.ref f_Board_has_layer) = true)
    (l_Board_has_layer : K.lookup f_Board_has_layer = some ⟨oc_Board_has_layer, od_Board_has_layer, .func (PySem.W.fnOf "has_layer" "Board.has_layer" (defArgs s_Board_has_layer) (defBody s_Board_has_layer) (defScope s_Board_has_layer) .none kV_Board_has_layer dc_Board_has_layer pm_Board_has_layer an_Board_has_layer cd_Board_has_layer ct_Board_has_layer), sl_Board_has_layer⟩)
    (cc_Board_has_layer : PySem.W.codeIn K cd_Board_has_layer "Board.has_layer" = true)
    (k_Board_has_layer : PySem.W.keepIn K (.ref f_Board_has_layer) = true)
    (a_Board_has_square : PySem.W.findIn K (.ref c_Board) "has_square" = some (some (.ref f_Board_has_square)))
    (i_Board_has_square : PySem.W.isFn K (.ref f_Board_has_square) = true)
    (l_Board_has_square : K.lookup f_Board_has_square = some ⟨oc_Board_has_square, od_Board_has_square, .func (PySem.W.fnOf "has_square" "Board.has_square" (defArgs s_Board_has_square) (defBody s_Board_has_square) (defScope s_Board_has_square) .none kV_Board_has_square dc_Board_has_square pm_Board_has_square an_Board_has_square cd_Board_has_square ct_Board_has_square), sl_Board_has_square⟩)
    (cc_Board_has_square : PySem.W.codeIn K cd_Board_has_square "Board.has_square" = true)
    (k_Board_has_square : PySem.W.keepIn K (.ref f_Board_has_square) = true)
    (a_Board_has_cell : PySem.W.findIn K (.ref c_Board) "has_cell" = some (some (.ref f_Board_has_cell)))
    (i_Board_has_cell : PySem.W.isFn K (.ref f_Board_has_cell) = true)
    (l_Board_has_cell : K.lookup f_Board_has_cell = some ⟨oc_Board_has_cell, od_Board_has_cell, .func (PySem.W.fnOf "has_cell" "Board.has_cell" (defArgs s_Board_has_cell) (defBody s_Board_has_cell) (defScope s_Board_has_cell) .none kV_Board_has_cell dc_Board_has_cell pm_Board_has_cell an_Board_has_cell cd_Board_has_cell ct_Board_has_cell), sl_Board_has_cell⟩)
    (cc_Board_has_cell : PySem.W.codeIn K cd_Board_has_cell "Board.has_cell" = true)
    (k_Board_has_cell : PySem.W.keepIn K (.ref f_Board_has_cell) = true)
    (a_Board_need_square : PySem.W.findIn K (.ref c_Board) "need_square" = some (some (.ref f_Board_need_square)))
    (i_Board_need_square : PySem.W.isFn K (.ref f_Board_need_square) = true)
    (l_Board_need_square : K.lookup f_Board_need_square = some ⟨oc_Board_need_square, od_Board_need_square, .func (PySem.W.fnOf "need_square" "Board.need_square" (defArgs s_Board_need_square) (defBody s_Board_need_square) (defScope s_Board_need_square) .none kV_Board_need_square dc_Board_need_square pm_Board_need_square an_Board_need_square cd_Board_need_square ct_Board_need_square), sl_Board_need_square⟩)
    (cc_Board_need_square : PySem.W.codeIn K cd_Board_need_square "Board.need_square" = true)
    (k_Board_need_square : PySem.W.keepIn K (.ref f_Board_need_square) = true)
    (a_Board_need_cells : PySem.W.findIn K (.ref c_Board) "need_cells" = some (some (.ref f_Board_need_cells)))
    (i_Board_need_cells : PySem.W.isFn K (.ref f_Board_need_cells) = true)
    (l_Board_need_cells : K.lookup f_Board_need_cells = some ⟨oc_Board_need_cells, od_Board_need_cells, .func (PySem.W.fnOf "need_cells" "Board.need_cells" (defArgs s_Board_need_cells) (defBody s_Board_need_cells) (defScope s_Board_need_cells) .none kV_Board_need_cells dc_Board_need_cells pm_Board_need_cells an_Board_need_cells cd_Board_need_cells ct_Board_need_cells), sl_Board_need_cells⟩)
    (cc_Board_need_cells : PySem.W.codeIn K cd_Board_need_cells "Board.need_cells" = true)
    (k_Board_need_cells : PySem.W.keepIn K (.ref f_Board_need_cells) = true)
    (a_need_measure : PySem.W.nsIn K mainGlobals "need_measure" = some (some (.ref f_need_measure)))
    (l_need_measure : K.lookup f_need_measure = some ⟨oc_need_measure, od_need_measure, .func (PySem.W.fnOf "need_measure" "need_measure" (defArgs s_need_measure) (defBody s_need_measure) (defScope s_need_measure) .none kV_need_measure dc_need_measure pm_need_measure an_need_measure cd_need_measure ct_need_measure), sl_need_measure⟩)
    (cc_need_measure : PySem.W.codeIn K cd_need_measure "need_measure" = true)
    (k_need_measure : PySem.W.keepIn K (.ref f_need_measure) = true)
    (a_picture : PySem.W.nsIn K mainGlobals "picture" = some (some (.ref f_picture)))
    (l_picture : K.lookup f_picture = some ⟨oc_picture, od_picture, .func (PySem.W.fnOf "picture" "picture" (defArgs s_picture) (defBody s_picture) (defScope s_picture) .none kV_picture dc_picture pm_picture an_picture cd_picture ct_picture), sl_picture⟩)
    (cc_picture : PySem.W.codeIn K cd_picture "picture" = true)
    (k_picture : PySem.W.keepIn K (.ref f_picture) = true)
    (a_sign_at : PySem.W.nsIn K mainGlobals "sign_at" = some (some (.ref f_sign_at)))
    (l_sign_at : K.lookup f_sign_at = some ⟨oc_sign_at, od_sign_at, .func (PySem.W.fnOf "sign_at" "sign_at" (defArgs s_sign_at) (defBody s_sign_at) (defScope s_sign_at) .none kV_sign_at dc_sign_at pm_sign_at an_sign_at cd_sign_at ct_sign_at), sl_sign_at⟩)
    (cc_sign_at : PySem.W.codeIn K cd_sign_at "sign_at" = true)
    (k_sign_at : PySem.W.keepIn K (.ref f_sign_at) = true)
    (a_read_picture : PySem.W.nsIn K mainGlobals "read_picture" = some (some (.ref f_read_picture)))
    (l_read_picture : K.lookup f_read_picture = some ⟨oc_read_picture, od_read_picture, .func (PySem.W.fnOf "read_picture" "read_picture" (defArgs s_read_picture) (defBody s_read_picture) (defScope s_read_picture) .none kV_read_picture dc_read_picture pm_read_picture an_read_picture cd_read_picture ct_read_picture), sl_read_picture⟩)
    (cc_read_picture : PySem.W.codeIn K cd_read_picture "read_picture" = true)
    (k_read_picture : PySem.W.keepIn K (.ref f_read_picture) = true)
    (a_read_head : PySem.W.nsIn K mainGlobals "read_head" = some (some (.ref f_read_head)))
    (l_read_head : K.lookup f_read_head = some ⟨oc_read_head, od_read_head, .func (PySem.W.fnOf "read_head" "read_head" (defArgs s_read_head) (defBody s_read_head) (defScope s_read_head) .none kV_read_head dc_read_head pm_read_head an_read_head cd_read_head ct_read_head), sl_read_head⟩)
    (cc_read_head : PySem.W.codeIn K cd_read_head "read_head" = true)
    (k_read_head : PySem.W.keepIn K (.ref f_read_head) = true)
    (a_draw_row : PySem.W.nsIn K mainGlobals "draw_row" = some (some (.ref f_draw_row)))
    (l_draw_row : K.lookup f_draw_row = some ⟨oc_draw_row, od_draw_row, .func (PySem.W.fnOf "draw_row" "draw_row" (defArgs s_draw_row) (defBody s_draw_row) (defScope s_draw_row) .none kV_draw_row dc_draw_row pm_draw_row an_draw_row cd_draw_row ct_draw_row), sl_draw_row⟩)
    (cc_draw_row : PySem.W.codeIn K cd_draw_row "draw_row" = true)
    (k_draw_row : PySem.W.keepIn K (.ref f_draw_row) = true)
    (a_law_cell_at : PySem.W.nsIn K mainGlobals "_law_cell_at" = some (some (.ref f_law_cell_at)))
    (l_law_cell_at : K.lookup f_law_cell_at = some ⟨oc_law_cell_at, od_law_cell_at, .func (PySem.W.fnOf "_law_cell_at" "_law_cell_at" (defArgs s_law_cell_at) (defBody s_law_cell_at) (defScope s_law_cell_at) .none kV_law_cell_at dc_law_cell_at pm_law_cell_at an_law_cell_at cd_law_cell_at ct_law_cell_at), sl_law_cell_at⟩)
    (cc_law_cell_at : PySem.W.codeIn K cd_law_cell_at "_law_cell_at" = true)
    (k_law_cell_at : PySem.W.keepIn K (.ref f_law_cell_at) = true)
    (a_law_text : PySem.W.nsIn K mainGlobals "_law_text" = some (some (.ref f_law_text)))
    (l_law_text : K.lookup f_law_text = some ⟨oc_law_text, od_law_text, .func (PySem.W.fnOf "_law_text" "_law_text" (defArgs s_law_text) (defBody s_law_text) (defScope s_law_text) .none kV_law_text dc_law_text pm_law_text an_law_text cd_law_text ct_law_text), sl_law_text⟩)
    (cc_law_text : PySem.W.codeIn K cd_law_text "_law_text" = true)
    (k_law_text : PySem.W.keepIn K (.ref f_law_text) = true)
    (a_law_put : PySem.W.nsIn K mainGlobals "_law_put" = some (some (.ref f_law_put)))
    (l_law_put : K.lookup f_law_put = some ⟨oc_law_put, od_law_put, .func (PySem.W.fnOf "_law_put" "_law_put" (defArgs s_law_put) (defBody s_law_put) (defScope s_law_put) .none kV_law_put dc_law_put pm_law_put an_law_put cd_law_put ct_law_put), sl_law_put⟩)
    (cc_law_put : PySem.W.codeIn K cd_law_put "_law_put" = true)
    (k_law_put : PySem.W.keepIn K (.ref f_law_put) = true)
    (a_law_measures : PySem.W.nsIn K mainGlobals "_law_measures" = some (some (.ref f_law_measures)))
    (l_law_measures : K.lookup f_law_measures = some ⟨oc_law_measures, od_law_measures, .func (PySem.W.fnOf "_law_measures" "_law_measures" (defArgs s_law_measures) (defBody s_law_measures) (defScope s_law_measures) .none kV_law_measures dc_law_measures pm_law_measures an_law_measures cd_law_measures ct_law_measures), sl_law_measures⟩)
    (cc_law_measures : PySem.W.codeIn K cd_law_measures "_law_measures" = true)
    (k_law_measures : PySem.W.keepIn K (.ref f_law_measures) = true)
    (a_law_by_rows : PySem.W.nsIn K mainGlobals "_law_by_rows" = some (some (.ref f_law_by_rows)))
    (l_law_by_rows : K.lookup f_law_by_rows = some ⟨oc_law_by_rows, od_law_by_rows, .func (PySem.W.fnOf "_law_by_rows" "_law_by_rows" (defArgs s_law_by_rows) (defBody s_law_by_rows) (defScope s_law_by_rows) .none kV_law_by_rows dc_law_by_rows pm_law_by_rows an_law_by_rows cd_law_by_rows ct_law_by_rows), sl_law_by_rows⟩)
    (cc_law_by_rows : PySem.W.codeIn K cd_law_by_rows "_law_by_rows" = true)
    (k_law_by_rows : PySem.W.keepIn K (.ref f_law_by_rows) = true)
    (a_law_changed : PySem.W.nsIn K mainGlobals "_law_changed" = some (some (.ref f_law_changed)))
    (l_law_changed : K.lookup f_law_changed = some ⟨oc_law_changed, od_law_changed, .func (PySem.W.fnOf "_law_changed" "_law_changed" (defArgs s_law_changed) (defBody s_law_changed) (defScope s_law_changed) .none kV_law_changed dc_law_changed pm_law_changed an_law_changed cd_law_changed ct_law_changed), sl_law_changed⟩)
    (cc_law_changed : PySem.W.codeIn K cd_law_changed "_law_changed" = true)
    (k_law_changed : PySem.W.keepIn K (.ref f_law_changed) = true)
    (a_law_refused : PySem.W.nsIn K mainGlobals "_law_refused" = some (some (.ref f_law_refused)))
    (l_law_refused : K.lookup f_law_refused = some ⟨oc_law_refused, od_law_refused, .func (PySem.W.fnOf "_law_refused" "_law_refused" (defArgs s_law_refused) (defBody s_law_refused) (defScope s_law_refused) .none kV_law_refused dc_law_refused pm_law_refused an_law_refused cd_law_refused ct_law_refused), sl_law_refused⟩)
    (cc_law_refused : PySem.W.codeIn K cd_law_refused "_law_refused" = true)
    (k_law_refused : PySem.W.keepIn K (.ref f_law_refused) = true)
    (a_law : PySem.W.nsIn K mainGlobals "law" = some (some (.ref f_law)))
    (l_law : K.lookup f_law = some ⟨oc_law, od_law, .func (PySem.W.fnOf "law" "law" (defArgs s_law) (defBody s_law) (defScope s_law) .none kV_law dc_law pm_law an_law cd_law ct_law), sl_law⟩)
    (cc_law : PySem.W.codeIn K cd_law "law" = true)
    (k_law : PySem.W.keepIn K (.ref f_law) = true)
    (g_CopperError : PySem.W.nsIn K mainGlobals "CopperError" = some (some (.ref c_CopperError)))
    (g_NoBoard : PySem.W.nsIn K mainGlobals "NoBoard" = some (some (.ref c_NoBoard)))
    (g_NoPlace : PySem.W.nsIn K mainGlobals "NoPlace" = some (some (.ref c_NoPlace)))
    (g_NoPicture : PySem.W.nsIn K mainGlobals "NoPicture" = some (some (.ref c_NoPicture)))
    (x_NoBoard : PySem.W.excIn K c_NoBoard bmV "ValueError.__new__" = true)
    (ga_NoBoard : PySem.W.findIn K (.ref c_NoBoard) "__getattribute__" = some (some (.builtin "BaseException.__getattribute__")))
    (gt_NoBoard : PySem.W.findIn K (.ref c_NoBoard) "__getattr__" = some none)
    (gc_NoBoard : PySem.W.findIn K (.ref c_NoBoard) "__class__" = some (some (.builtin "object.__class__")))
    (ge_NoBoard : PySem.W.specialIn K (.builtin "object.__class__") "__get__" = some (some (.builtin "getset_descriptor.__get__")))
    (gk_NoBoard : PySem.W.takesIn K (.builtin "object.__class__") = some true)
    (mo_NoBoard : PySem.W.mroIn K c_NoBoard (.type "object") = some true)
    (mb_NoBoard : PySem.W.mroIn K c_NoBoard (.type "BaseException") = some true)
    (x_NoPlace : PySem.W.excIn K c_NoPlace bmV "ValueError.__new__" = true)
    (ga_NoPlace : PySem.W.findIn K (.ref c_NoPlace) "__getattribute__" = some (some (.builtin "BaseException.__getattribute__")))
    (gt_NoPlace : PySem.W.findIn K (.ref c_NoPlace) "__getattr__" = some none)
    (gc_NoPlace : PySem.W.findIn K (.ref c_NoPlace) "__class__" = some (some (.builtin "object.__class__")))
    (ge_NoPlace : PySem.W.specialIn K (.builtin "object.__class__") "__get__" = some (some (.builtin "getset_descriptor.__get__")))
    (gk_NoPlace : PySem.W.takesIn K (.builtin "object.__class__") = some true)
    (mo_NoPlace : PySem.W.mroIn K c_NoPlace (.type "object") = some true)
    (mb_NoPlace : PySem.W.mroIn K c_NoPlace (.type "BaseException") = some true)
    (x_NoPicture : PySem.W.excIn K c_NoPicture bmV "ValueError.__new__" = true)
    (ga_NoPicture : PySem.W.findIn K (.ref c_NoPicture) "__getattribute__" = some (some (.builtin "BaseException.__getattribute__")))
    (gt_NoPicture : PySem.W.findIn K (.ref c_NoPicture) "__getattr__" = some none)
    (gc_NoPicture : PySem.W.findIn K (.ref c_NoPicture) "__class__" = some (some (.builtin "object.__class__")))
    (ge_NoPicture : PySem.W.specialIn K (.builtin "object.__class__") "__get__" = some (some (.builtin "getset_descriptor.__get__")))
    (gk_NoPicture : PySem.W.takesIn K (.builtin "object.__class__") = some true)
    (mo_NoPicture : PySem.W.mroIn K c_NoPicture (.type "object") = some true)
    (mb_NoPicture : PySem.W.mroIn K c_NoPicture (.type "BaseException") = some true)
    (xm_NoPicture_NoPicture : PySem.W.exmOne K (.ref c_NoPicture) (.ref c_NoPicture) = some true)
    (xm_NoBoard_NoBoard : PySem.W.exmOne K (.ref c_NoBoard) (.ref c_NoBoard) = some true)
    (ki_NoPicture_CopperError : PySem.W.kitOne K (.ref c_NoPicture) (.ref c_CopperError) = some true)
    (ki_NoPicture_ValueError : PySem.W.kitOne K (.ref c_NoPicture) (.type "ValueError") = some true)
    (ki_NoPicture_NoBoard : PySem.W.kitOne K (.ref c_NoPicture) (.ref c_NoBoard) = some false)
    (ki_NoPicture_NoPlace : PySem.W.kitOne K (.ref c_NoPicture) (.ref c_NoPlace) = some false)
    (n_isinstance : PySem.W.nsIn K mainGlobals "isinstance" = some none)
    (n_int : PySem.W.nsIn K mainGlobals "int" = some none)
    (n_bool : PySem.W.nsIn K mainGlobals "bool" = some none)
    (n_str : PySem.W.nsIn K mainGlobals "str" = some none)
    (n_tuple : PySem.W.nsIn K mainGlobals "tuple" = some none)
    (n_len : PySem.W.nsIn K mainGlobals "len" = some none)
    (n_range : PySem.W.nsIn K mainGlobals "range" = some none)
    (n_all : PySem.W.nsIn K mainGlobals "all" = some none)
    (n_enumerate : PySem.W.nsIn K mainGlobals "enumerate" = some none)
    (n_ValueError : PySem.W.nsIn K mainGlobals "ValueError" = some none)
    (g_MOST_FIGURES : PySem.W.nsIn K mainGlobals "MOST_FIGURES" = some (some (.int 40 tk_MOST_FIGURES)))
    (g_MOST_WIDE : PySem.W.nsIn K mainGlobals "MOST_WIDE" = some (some (.int 12 tk_MOST_WIDE)))
    (g_MOST_HIGH : PySem.W.nsIn K mainGlobals "MOST_HIGH" = some (some (.int 12 tk_MOST_HIGH)))
    (g_MOST_LAYERS : PySem.W.nsIn K mainGlobals "MOST_LAYERS" = some (some (.int 3 tk_MOST_LAYERS)))
    (g_FIGURES : PySem.W.nsIn K mainGlobals "FIGURES" = some (some (.str "0123456789" tk_FIGURES)))
    (g_COPPER_SIGNS : PySem.W.nsIn K mainGlobals "COPPER_SIGNS" = some (some (.str "#O" tk_COPPER_SIGNS)))
    (g_HOLE_SIGNS : PySem.W.nsIn K mainGlobals "HOLE_SIGNS" = some (some (.str "Oo" tk_HOLE_SIGNS))) :
    ∃ t : Adr, Txt K mg t :=
  ⟨{ c_Board := c_Board, f_is_whole := f_is_whole, f_read_number := f_read_number, f_read_row := f_read_row, f_read_lines := f_read_lines, f_tell_row := f_tell_row, f_tell_lines := f_tell_lines, f_Board_init := f_Board_init, f_Board_put := f_Board_put, f_Board_drill := f_Board_drill, f_Board_is_copper := f_Board_is_copper, f_Board_has_hole := f_Board_has_hole, f_Board_has_layer := f_Board_has_layer, f_Board_has_square := f_Board_has_square, f_Board_has_cell := f_Board_has_cell, f_Board_need_square := f_Board_need_square, f_Board_need_cells := f_Board_need_cells, f_need_measure := f_need_measure, f_picture := f_picture, f_sign_at := f_sign_at, f_read_picture := f_read_picture, f_read_head := f_read_head, f_draw_row := f_draw_row, f_law_cell_at := f_law_cell_at, f_law_text := f_law_text, f_law_put := f_law_put, f_law_measures := f_law_measures, f_law_by_rows := f_law_by_rows, f_law_changed := f_law_changed, f_law_refused := f_law_refused, f_law := f_law, c_CopperError := c_CopperError, c_NoBoard := c_NoBoard, c_NoPlace := c_NoPlace, c_NoPicture := c_NoPicture, tk_MOST_FIGURES := tk_MOST_FIGURES, tk_MOST_WIDE := tk_MOST_WIDE, tk_MOST_HIGH := tk_MOST_HIGH, tk_MOST_LAYERS := tk_MOST_LAYERS, tk_FIGURES := tk_FIGURES, tk_COPPER_SIGNS := tk_COPPER_SIGNS, tk_HOLE_SIGNS := tk_HOLE_SIGNS }, { g_Board := PySem.W.mg_of X G g_Board, cl_Board := ⟨pg_Board, hd_Board, po_Board, sa_Board⟩, na_Board_wide := na_Board_wide, na_Board_high := na_Board_high, na_Board_layers := na_Board_layers, na_Board_copper := na_Board_copper, na_Board_drilled := na_Board_drilled, F_is_whole := ⟨_, fun_mk (st := s_is_whole) l_is_whole cc_is_whole k_is_whole, (fun_mk (st := s_is_whole) l_is_whole cc_is_whole k_is_whole).binds (ps := ["value"]) fun _ _ _ _ _ _ us hl => match us, hl with | [_], _ => rfl⟩, g_is_whole := PySem.W.mg_of X G a_is_whole, F_read_number := ⟨_, fun_mk (st := s_read_number) l_read_number cc_read_number k_read_number, (fun_mk (st := s_read_number) l_read_number cc_read_number k_read_number).binds (ps := ["word"]) fun _ _ _ _ _ _ us hl => match us, hl with | [_], _ => rfl⟩, g_read_number := PySem.W.mg_of X G a_read_number, F_read_row := ⟨_, fun_mk (st := s_read_row) l_read_row cc_read_row k_read_row, (fun_mk (st := s_read_row) l_read_row cc_read_row k_read_row).binds (ps := ["text"]) fun _ _ _ _ _ _ us hl => match us, hl with | [_], _ => rfl⟩, g_read_row := PySem.W.mg_of X G a_read_row, F_read_lines := ⟨_, fun_mk (st := s_read_lines) l_read_lines cc_read_lines k_read_lines, (fun_mk (st := s_read_lines) l_read_lines cc_read_lines k_read_lines).binds (ps := ["text"]) fun _ _ _ _ _ _ us hl => match us, hl with | [_], _ => rfl⟩, g_read_lines := PySem.W.mg_of X G a_read_lines, F_tell_row := ⟨_, fun_mk (st := s_tell_row) l_tell_row cc_tell_row k_tell_row, (fun_mk (st := s_tell_row) l_tell_row cc_tell_row k_tell_row).binds (ps := ["word", "numbers"]) fun _ _ _ _ _ _ us hl => match us, hl with | [_, _], _ => rfl⟩, g_tell_row := PySem.W.mg_of X G a_tell_row, F_tell_lines := ⟨_, fun_mk (st := s_tell_lines) l_tell_lines cc_tell_lines k_tell_lines, (fun_mk (st := s_tell_lines) l_tell_lines cc_tell_lines k_tell_lines).binds (ps := ["rows"]) fun _ _ _ _ _ _ us hl => match us, hl with | [_], _ => rfl⟩, g_tell_lines := PySem.W.mg_of X G a_tell_lines, F_Board_init := ⟨_, funD_mk (st := s_Board_init) l_Board_init cc_Board_init k_Board_init, bindsD (ps := ["self", "wide", "high", "layers"]) rfl dl_Board_init rfl fun us hl => match us, hl with | [_, _, _, _], _ => ⟨_, rfl, rfl⟩⟩, K_Board := ⟨mk_Board, a_Board_init, i_Board_init, kc_Board⟩, F_Board_put := ⟨_, fun_mk (st := s_Board_put) l_Board_put cc_Board_put k_Board_put, (fun_mk (st := s_Board_put) l_Board_put cc_Board_put k_Board_put).binds (ps := ["self", "cells"]) fun _ _ _ _ _ _ us hl => match us, hl with | [_, _], _ => rfl⟩, M_Board_put := ⟨a_Board_put, i_Board_put, k_Board_put⟩, F_Board_drill := ⟨_, fun_mk (st := s_Board_drill) l_Board_drill cc_Board_drill k_Board_drill, (fun_mk (st := s_Board_drill) l_Board_drill cc_Board_drill k_Board_drill).binds (ps := ["self", "x", "y"]) fun _ _ _ _ _ _ us hl => match us, hl with | [_, _, _], _ => rfl⟩, M_Board_drill := ⟨a_Board_drill, i_Board_drill, k_Board_drill⟩, F_Board_is_copper := ⟨_, funD_mk (st := s_Board_is_copper) l_Board_is_copper cc_Board_is_copper k_Board_is_copper, bindsD (ps := ["self", "x", "y", "z"]) rfl dl_Board_is_copper rfl fun us hl => match us, hl with | [_, _, _, _], _ => ⟨_, rfl, rfl⟩⟩, M_Board_is_copper := ⟨a_Board_is_copper, i_Board_is_copper, k_Board_is_copper⟩, F_Board_has_hole := ⟨_, fun_mk (st := s_Board_has_hole) l_Board_has_hole cc_Board_has_hole k_Board_has_hole, (fun_mk (st := s_Board_has_hole) l_Board_has_hole cc_Board_has_hole k_Board_has_hole).binds (ps := ["self", "x", "y"]) fun _ _ _ _ _ _ us hl => match us, hl with | [_, _, _], _ => rfl⟩, M_Board_has_hole := ⟨a_Board_has_hole, i_Board_has_hole, k_Board_has_hole⟩, F_Board_has_layer := ⟨_, fun_mk (st := s_Board_has_layer) l_Board_has_layer cc_Board_has_layer k_Board_has_layer, (fun_mk (st := s_Board_has_layer) l_Board_has_layer cc_Board_has_layer k_Board_has_layer).binds (ps := ["self", "z"]) fun _ _ _ _ _ _ us hl => match us, hl with | [_, _], _ => rfl⟩, M_Board_has_layer := ⟨a_Board_has_layer, i_Board_has_layer, k_Board_has_layer⟩, F_Board_has_square := ⟨_, fun_mk (st := s_Board_has_square) l_Board_has_square cc_Board_has_square k_Board_has_square, (fun_mk (st := s_Board_has_square) l_Board_has_square cc_Board_has_square k_Board_has_square).binds (ps := ["self", "x", "y"]) fun _ _ _ _ _ _ us hl => match us, hl with | [_, _, _], _ => rfl⟩, M_Board_has_square := ⟨a_Board_has_square, i_Board_has_square, k_Board_has_square⟩, F_Board_has_cell := ⟨_, fun_mk (st := s_Board_has_cell) l_Board_has_cell cc_Board_has_cell k_Board_has_cell, (fun_mk (st := s_Board_has_cell) l_Board_has_cell cc_Board_has_cell k_Board_has_cell).binds (ps := ["self", "cell"]) fun _ _ _ _ _ _ us hl => match us, hl with | [_, _], _ => rfl⟩, M_Board_has_cell := ⟨a_Board_has_cell, i_Board_has_cell, k_Board_has_cell⟩, F_Board_need_square := ⟨_, fun_mk (st := s_Board_need_square) l_Board_need_square cc_Board_need_square k_Board_need_square, (fun_mk (st := s_Board_need_square) l_Board_need_square cc_Board_need_square k_Board_need_square).binds (ps := ["self", "x", "y"]) fun _ _ _ _ _ _ us hl => match us, hl with | [_, _, _], _ => rfl⟩, M_Board_need_square := ⟨a_Board_need_square, i_Board_need_square, k_Board_need_square⟩, F_Board_need_cells := ⟨_, fun_mk (st := s_Board_need_cells) l_Board_need_cells cc_Board_need_cells k_Board_need_cells, (fun_mk (st := s_Board_need_cells) l_Board_need_cells cc_Board_need_cells k_Board_need_cells).binds (ps := ["self", "cells"]) fun _ _ _ _ _ _ us hl => match us, hl with | [_, _], _ => rfl⟩, M_Board_need_cells := ⟨a_Board_need_cells, i_Board_need_cells, k_Board_need_cells⟩, F_need_measure := ⟨_, fun_mk (st := s_need_measure) l_need_measure cc_need_measure k_need_measure, (fun_mk (st := s_need_measure) l_need_measure cc_need_measure k_need_measure).binds (ps := ["measure", "most"]) fun _ _ _ _ _ _ us hl => match us, hl with | [_, _], _ => rfl⟩, g_need_measure := PySem.W.mg_of X G a_need_measure, F_picture := ⟨_, fun_mk (st := s_picture) l_picture cc_picture k_picture, (fun_mk (st := s_picture) l_picture cc_picture k_picture).binds (ps := ["board"]) fun _ _ _ _ _ _ us hl => match us, hl with | [_], _ => rfl⟩, g_picture := PySem.W.mg_of X G a_picture, F_sign_at := ⟨_, fun_mk (st := s_sign_at) l_sign_at cc_sign_at k_sign_at, (fun_mk (st := s_sign_at) l_sign_at cc_sign_at k_sign_at).binds (ps := ["board", "x", "y", "z"]) fun _ _ _ _ _ _ us hl => match us, hl with | [_, _, _, _], _ => rfl⟩, g_sign_at := PySem.W.mg_of X G a_sign_at, F_read_picture := ⟨_, fun_mk (st := s_read_picture) l_read_picture cc_read_picture k_read_picture, (fun_mk (st := s_read_picture) l_read_picture cc_read_picture k_read_picture).binds (ps := ["text"]) fun _ _ _ _ _ _ us hl => match us, hl with | [_], _ => rfl⟩, g_read_picture := PySem.W.mg_of X G a_read_picture, F_read_head := ⟨_, fun_mk (st := s_read_head) l_read_head cc_read_head k_read_head, (fun_mk (st := s_read_head) l_read_head cc_read_head k_read_head).binds (ps := ["row"]) fun _ _ _ _ _ _ us hl => match us, hl with | [_], _ => rfl⟩, g_read_head := PySem.W.mg_of X G a_read_head, F_draw_row := ⟨_, fun_mk (st := s_draw_row) l_draw_row cc_draw_row k_draw_row, (fun_mk (st := s_draw_row) l_draw_row cc_draw_row k_draw_row).binds (ps := ["board", "row", "y", "z"]) fun _ _ _ _ _ _ us hl => match us, hl with | [_, _, _, _], _ => rfl⟩, g_draw_row := PySem.W.mg_of X G a_draw_row, F_law_cell_at := ⟨_, fun_mk (st := s_law_cell_at) l_law_cell_at cc_law_cell_at k_law_cell_at, (fun_mk (st := s_law_cell_at) l_law_cell_at cc_law_cell_at k_law_cell_at).binds (ps := ["_law_script", "_law_k"]) fun _ _ _ _ _ _ us hl => match us, hl with | [_, _], _ => rfl⟩, g__law_cell_at := PySem.W.mg_of X G a_law_cell_at, F_law_text := ⟨_, fun_mk (st := s_law_text) l_law_text cc_law_text k_law_text, (fun_mk (st := s_law_text) l_law_text cc_law_text k_law_text).binds (ps := ["_law_script", "_law_size"]) fun _ _ _ _ _ _ us hl => match us, hl with | [_, _], _ => rfl⟩, g__law_text := PySem.W.mg_of X G a_law_text, F_law_put := ⟨_, fun_mk (st := s_law_put) l_law_put cc_law_put k_law_put, (fun_mk (st := s_law_put) l_law_put cc_law_put k_law_put).binds (ps := ["_law_rows", "_law_at", "_law_x", "_law_one"]) fun _ _ _ _ _ _ us hl => match us, hl with | [_, _, _, _], _ => rfl⟩, g__law_put := PySem.W.mg_of X G a_law_put, F_law_measures := ⟨_, fun_mk (st := s_law_measures) l_law_measures cc_law_measures k_law_measures, (fun_mk (st := s_law_measures) l_law_measures cc_law_measures k_law_measures).binds (ps := ["_law_rows", "_law_turn", "_law_size", "_law_cell"]) fun _ _ _ _ _ _ us hl => match us, hl with | [_, _, _, _], _ => rfl⟩, g__law_measures := PySem.W.mg_of X G a_law_measures, F_law_by_rows := ⟨_, fun_mk (st := s_law_by_rows) l_law_by_rows cc_law_by_rows k_law_by_rows, (fun_mk (st := s_law_by_rows) l_law_by_rows cc_law_by_rows k_law_by_rows).binds (ps := ["_law_rows", "_law_turn", "_law_size", "_law_cell"]) fun _ _ _ _ _ _ us hl => match us, hl with | [_, _, _, _], _ => rfl⟩, g__law_by_rows := PySem.W.mg_of X G a_law_by_rows, F_law_changed := ⟨_, fun_mk (st := s_law_changed) l_law_changed cc_law_changed k_law_changed, (fun_mk (st := s_law_changed) l_law_changed cc_law_changed k_law_changed).binds (ps := ["_law_rows", "_law_turn", "_law_size", "_law_cell"]) fun _ _ _ _ _ _ us hl => match us, hl with | [_, _, _, _], _ => rfl⟩, g__law_changed := PySem.W.mg_of X G a_law_changed, F_law_refused := ⟨_, fun_mk (st := s_law_refused) l_law_refused cc_law_refused k_law_refused, (fun_mk (st := s_law_refused) l_law_refused cc_law_refused k_law_refused).binds (ps := ["_law_text_here"]) fun _ _ _ _ _ _ us hl => match us, hl with | [_], _ => rfl⟩, g__law_refused := PySem.W.mg_of X G a_law_refused, F_law := ⟨_, fun_mk (st := s_law) l_law cc_law k_law, fun s u => .of_eq rfl⟩, g_law := PySem.W.mg_of X G a_law, g_CopperError := PySem.W.mg_of X G g_CopperError, g_NoBoard := PySem.W.mg_of X G g_NoBoard, g_NoPlace := PySem.W.mg_of X G g_NoPlace, g_NoPicture := PySem.W.mg_of X G g_NoPicture, e_NoBoard := ⟨PySem.W.mg_of X G g_NoBoard, x_NoBoard⟩, ef_NoBoard := ⟨x_NoBoard, ga_NoBoard, gt_NoBoard, gc_NoBoard, ge_NoBoard, gk_NoBoard, mo_NoBoard, mb_NoBoard⟩, e_NoPlace := ⟨PySem.W.mg_of X G g_NoPlace, x_NoPlace⟩, ef_NoPlace := ⟨x_NoPlace, ga_NoPlace, gt_NoPlace, gc_NoPlace, ge_NoPlace, gk_NoPlace, mo_NoPlace, mb_NoPlace⟩, e_NoPicture := ⟨PySem.W.mg_of X G g_NoPicture, x_NoPicture⟩, ef_NoPicture := ⟨x_NoPicture, ga_NoPicture, gt_NoPicture, gc_NoPicture, ge_NoPicture, gk_NoPicture, mo_NoPicture, mb_NoPicture⟩, xm_NoPicture_NoPicture := xm_NoPicture_NoPicture, xm_NoBoard_NoBoard := xm_NoBoard_NoBoard, ki_NoPicture_CopperError := ki_NoPicture_CopperError, ki_NoPicture_ValueError := ki_NoPicture_ValueError, ki_NoPicture_NoBoard := ki_NoPicture_NoBoard, ki_NoPicture_NoPlace := ki_NoPicture_NoPlace, n_isinstance := PySem.W.mg_none_of X G n_isinstance, n_int := PySem.W.mg_none_of X G n_int, n_bool := PySem.W.mg_none_of X G n_bool, n_str := PySem.W.mg_none_of X G n_str, n_tuple := PySem.W.mg_none_of X G n_tuple, n_len := PySem.W.mg_none_of X G n_len, n_range := PySem.W.mg_none_of X G n_range, n_all := PySem.W.mg_none_of X G n_all, n_enumerate := PySem.W.mg_none_of X G n_enumerate, n_ValueError := PySem.W.mg_none_of X G n_ValueError, g_MOST_FIGURES := PySem.W.mg_of X G g_MOST_FIGURES, g_MOST_WIDE := PySem.W.mg_of X G g_MOST_WIDE, g_MOST_HIGH := PySem.W.mg_of X G g_MOST_HIGH, g_MOST_LAYERS := PySem.W.mg_of X G g_MOST_LAYERS, g_FIGURES := PySem.W.mg_of X G g_FIGURES, g_COPPER_SIGNS := PySem.W.mg_of X G g_COPPER_SIGNS, g_HOLE_SIGNS := PySem.W.mg_of X G g_HOLE_SIGNS }⟩
def isN : V → Bool | .int _ => true | .bl _ => true | _ => false
def isW : V → Bool | .int _ => true | _ => false
theorem iteB {b : Bool} {A B : Prop} (h1 : b = true → A) (h2 : b = false → B) : if b = true then A else B := by
  cases b
  · rw [if_neg Bool.false_ne_true]; exact h2 rfl
  · rw [if_pos rfl]; exact h1 rfl
theorem iteNB {b : Bool} {A B : Prop} (h1 : b = false → A) (h2 : b = true → B) : if (!b) = true then A else B := by
  cases b
  · exact (if_pos (show (!false) = true from rfl)) ▸ h1 rfl
  · rw [if_neg (by decide)]; exact h2 rfl
theorem iteD {c A B : Prop} [Decidable c] (h1 : c → A) (h2 : ¬ c → B) : if decide c = true then A else B := by
  by_cases h : c
  · rw [if_pos (decide_eq_true h)]; exact h1 h
  · rw [if_neg (by simp [h])]; exact h2 h
section
variable {P : Program} {w : World} {K : PySem.W.Frag} {mg : Str → Option Value} {base : Heap} {t : Adr}
def spIsWhole : Sp := fun vs H Q _ => ∃ v, vs = [v] ∧ isN v = true ∧ Q (.bl (isW v)) H
theorem ok_is_whole (T : Txt K mg t) : GoodF P w K mg base 1 "is_whole" ["value"] spIsWhole := by
  obtain ⟨fd, F, b⟩ := T.F_is_whole
  refine ⟨_, fd, F.okX sc_is_whole (fun vs H Q E h => ?_) (fun cdv A outer s H vs Q E hr h => ?_), b, F.kp, T.g_is_whole⟩
  · obtain ⟨v, rfl, _⟩ := h
    rfl
  · obtain ⟨v, rfl, hv, k⟩ := h
    refine ⟨_, (pss_one (ps_ret (pe_and (pe_callB call_isi (by rfl) T.n_isinstance b_isinstance (pa_cons (pv 0) (pa_cons (pe_bltn (v := .ty "int") (by rfl) T.n_int b_int rfl) pa_nil))) (pe_one (pe_not (pe_callB call_isi (by rfl) T.n_isinstance b_isinstance (pa_cons (pv 0) (pa_cons (pe_bltn (v := .ty "bool") (by rfl) T.n_bool b_bool rfl) pa_nil)))))))), ?_⟩
    cases v with
    | int i => exact ⟨_, rfl, .int i, .ty "int", _, _, true, rfl, .int i, .ty _, by kernel_rfl, true, rfl, iteT ⟨_, rfl, .int i, .ty "bool", _, _, false, rfl, .int i, .ty _, by kernel_rfl, false, rfl, k⟩⟩
    | bl x => exact ⟨_, rfl, .bl x, .ty "int", _, _, true, rfl, .bl x, .ty _, by kernel_rfl, true, rfl, iteT ⟨_, rfl, .bl x, .ty "bool", _, _, true, rfl, .bl x, .ty _, by kernel_rfl, true, rfl, k⟩⟩
    | _ => cases hv
def spCell (K : PySem.W.Frag) : Sp := fun vs H Q _ => ∃ (a : Addr) (ns : List Int) (k : Int), vs = [.ref a, .int k] ∧ SqL K H a (ns.map V.int) ∧ 0 ≤ k ∧ k < 1000 ∧ ns.length ≤ 63 ∧ Q (.int (ns.getD k.toNat 0)) H
theorem ok_law_cell_at (T : Txt K mg t) : GoodF P w K mg base 1 "_law_cell_at" ["_law_script", "_law_k"] (spCell K) := by
  obtain ⟨fd, F, b⟩ := T.F_law_cell_at
  refine ⟨_, fd, F.okX sc_law_cell_at (fun vs H Q E h => ?_) (fun cdv A outer s H vs Q E hr h => ?_), b, F.kp, T.g__law_cell_at⟩
  · obtain ⟨a, ns, k, rfl, _⟩ := h
    rfl
  · obtain ⟨a, ns, k, rfl, hq, h0, h1, hl, q⟩ := h
    refine ⟨_, (pss_cons (ps_if (pt_cmpR op_lt (pv 1) (pe_callB call_len_seq (by rfl) T.n_len b_len (pa_cons (pv 0) pa_nil)) (nomark _)) (pss_one (ps_ret (pe_ix ix_list (pv 0) (pv 1) (fun _ _ => rfl)))) pss_nil)
      (pss_one (ps_ret pe_int))), ?_⟩
    refine ⟨_, rfl, _, rfl, a, _, rfl, .inl hq, k, _, rfl, rfl, _, rfl, iteD (fun hlt => ?_) fun hge => ?_⟩
    · rw [List.length_map] at hlt
      have e : ((k.toNat : Nat) : Int) = k := by omega
      refine ⟨_, rfl, _, rfl, a, _, k, .int (ns.getD k.toNat 0), rfl, rfl, hq, ?_, q⟩
      have hlt2 : k.toNat < ns.length := by omega
      have hz : (ns.map V.int)[k.toNat]? = some (V.int (ns.getD k.toNat 0)) := by
        rw [List.getElem?_map, List.getD_eq_getElem?_getD, List.getElem?_eq_getElem hlt2]; rfl
      have hz2 := atI_nat hz
      rwa [e] at hz2
    · rw [List.length_map] at hge
      have e : ns.getD k.toNat 0 = 0 := by rw [List.getD_eq_getElem?_getD, List.getElem?_eq_none (by omega)]; rfl
      rw [e] at q
      exact q
end
end K15
set_option Elab.async false
set_option linter.all false
set_option maxRecDepth 100000
set_option maxHeartbeats 4000000
namespace K15
open PySem L2 Wd
theorem same_new {p : Addr} {H H' : Hp} {o : HO} (x : Same H H') (hp : H' p = none) : Same H (L2.upd H' p o) := fun b u e => by
  have := x b u e
  rw [upd_ne (ne_of_none this hp)]; exact this
def vLn : V → V | .str r => .str (r ++ ("\n" : Str)) | v => v
def vTx : V → V | .int n => .str (tx n) | v => v
section
variable {P : Program} {w : World} {K : PySem.W.Frag} {mg : Str → Option Value} {base : Heap} {t : Adr}
def spTell (K : PySem.W.Frag) : Sp := fun vs H Q _ => ∃ (wd : Str) (a : Addr) (ns : List Int), vs = [.str wd, .ref a] ∧ wd.length ≤ 100 ∧ (SqL K H a (ns.map V.int) ∨ SqT K H a (ns.map V.int)) ∧ ns.length ≤ 2000 ∧ (∀ n ∈ ns, Lg n) ∧ ∀ H', Same H H' → Q (.str (rowT wd ns)) H'
theorem ok_tell_row (T : Txt K mg t) : GoodF P w K mg base 1 "tell_row" ["word", "numbers"] (spTell K) := by
  obtain ⟨fd, F, b⟩ := T.F_tell_row
  refine ⟨_, fd, F.okX sc_tell_row (fun vs H Q E h => ?_) (fun cdv A outer s H vs Q E hr h => ?_), b, F.kp, T.g_tell_row⟩
  · obtain ⟨wd, a, ns, rfl, _⟩ := h
    rfl
  · obtain ⟨wd, a, ns, rfl, hwd, hq, hl, hlog, q⟩ := h
    refine ⟨_, (pss_one (ps_ret (pe_bm PySem.F.plainAttrs_str PySem.F.slot_str_join PySem.F.type_str_join mt_join pe_str (pa_cons (pe_op op_cat (pe_lst (pa_cons (pv 0) pa_nil)) (pe_comp (own := ["number"]) (cs_nil (N := ["word", "numbers"]) rfl (by rfl) (by decide +kernel) (by decide +kernel) (by decide +kernel)) (pi_seq (pv 1)) (fun _ _ _ _ _ => pg_name (i := 2) (by show (["word", "numbers", "number"] : List Str).Nodup; decide +kernel) rfl (Or.inl rfl)) (fun _ _ _ _ _ => pf_nil) (fun _ _ _ _ _ => (pe_callTy call_str_int (by rfl) T.n_str b_str (pa_cons (pv 2) pa_nil))))) pa_nil)))), ?_⟩
    refine ⟨rfl, _, rfl, (by show 1 ≤ sizeLine; decide), fun l hl1 => ?_⟩
    have s1 : Same H (upd H l (.lst [.str wd])) := same_new (Same.refl H) hl1
    have e0 : upd H l (.lst [.str wd]) l = some (.lst [.str wd]) := upd_same
    generalize upd H l (.lst [.str wd]) = H0 at s1 e0
    have hz : (ns.map V.int).length ≤ sizeLine := by rw [List.length_map]; exact Nat.le_trans hl (by decide)
    have fin : ∀ D H1, Same H0 H1 → H1 D = some (.lst (((ns.map V.int).filter fun _ => true).map vTx)) → rCat (V.ref l) (V.ref D) H1 fun x H2 => rJoin K (V.str (" " : Str)) [x] H2 Q := fun D H1 sD eD => by
      have e : ((ns.map V.int).filter fun _ => true).map vTx = (ns.map tx).map V.str := by
        rw [List.filter_eq_self.mpr (fun _ _ => rfl), List.map_map, List.map_map]; rfl
      rw [e] at eD
      refine ⟨l, D, [.str wd], (ns.map tx).map V.str, rfl, rfl, sD _ _ e0, eD, ?_, fun p hp => ?_⟩
      · simp only [List.length_map, List.length_cons, List.length_nil]
        exact Nat.le_trans (by omega) (show 2001 ≤ sizeLine by decide)
      · refine ⟨" ", p, wd :: ns.map tx, rfl, rfl, SqL.of upd_same, ?_, q _ (same_new (Same.trans s1 sD) hp)⟩
        have hs : ((ns.map tx).map (·.length)).sum ≤ 1921 * ns.length := by
          clear hq hl q s1 hp e eD hz
          induction ns with
          | nil => simp
          | cons n r ih =>
            have h1 := PyProof.Rows.int_text_len_1921 (hlog n (List.mem_cons_self ..))
            have h2 := ih fun m hm => hlog m (List.mem_cons_of_mem _ hm)
            simp only [List.map_cons, List.sum_cons, List.length_cons]
            show (tx n).length + _ ≤ _
            unfold tx at h1 ⊢
            unfold tx at h2
            omega
        simp only [List.map_cons, List.sum_cons, List.length_cons, List.length_map]
        have e1 : (" " : Str).length = 1 := by decide +kernel
        rw [e1]
        omega
    have step : ∀ (σ : St) x, x ∈ ns.map V.int → ∃ n, x = .int n ∧ Lg n := fun _ x hx => by
      obtain ⟨n, hn, rfl⟩ := List.mem_map.mp hx
      exact ⟨n, rfl, hlog n hn⟩
    refine ⟨_, rfl, a, rfl, ?_⟩
    rcases hq with hq | hq
    · refine .inl ⟨⟨_, s1.seq hq⟩, comp_grow (xs := ns.map V.int) (fun _ => true) vTx (s1.seq hq) hz (fun x hx H' Qy Qn _ hy _ => ?_) fun D H1 _ sD eD => fin D H1 sD eD⟩
      obtain ⟨n, hn, rfl⟩ := List.mem_map.mp hx
      exact ⟨⟨_, rfl, rfl⟩, iteT ⟨_, rfl, n, rfl, hlog n hn, hy rfl H' (Same.refl H')⟩⟩
    · refine .inr ⟨⟨_, s1.sqT hq⟩, comp_growT (xs := ns.map V.int) (fun _ => true) vTx (s1.sqT hq) hz (fun x hx H' Qy Qn _ hy _ => ?_) fun D H1 _ sD eD => fin D H1 sD eD⟩
      obtain ⟨n, hn, rfl⟩ := List.mem_map.mp hx
      exact ⟨⟨_, rfl, rfl⟩, iteT ⟨_, rfl, n, rfl, hlog n hn, hy rfl H' (Same.refl H')⟩⟩
def spTellLines (K : PySem.W.Frag) : Sp := fun vs H Q _ => ∃ (a : Addr) (rows : List Str), vs = [.ref a] ∧ SqL K H a (rows.map V.str) ∧ rows.length ≤ 100 ∧ (∀ r ∈ rows, r.length ≤ 100000) ∧ ∀ H', Same H H' → Q (.str (linesT rows)) H'
theorem ok_tell_lines (T : Txt K mg t) : GoodF P w K mg base 1 "tell_lines" ["rows"] (spTellLines K) := by
  obtain ⟨fd, F, b⟩ := T.F_tell_lines
  refine ⟨_, fd, F.okX sc_tell_lines (fun vs H Q E h => ?_) (fun cdv A outer s H vs Q E hr h => ?_), b, F.kp, T.g_tell_lines⟩
  · obtain ⟨a, rows, rfl, _⟩ := h
    rfl
  · obtain ⟨a, rows, rfl, hq, hl, hr2, q⟩ := h
    refine ⟨_, (pss_one (ps_ret (pe_bm PySem.F.plainAttrs_str PySem.F.slot_str_join PySem.F.type_str_join mt_join pe_str (pa_cons (pe_comp (own := ["row"]) (cs_nil (N := ["rows"]) rfl (by rfl) (by decide +kernel) (by decide +kernel) (by decide +kernel)) (pi_list (pv 0)) (fun _ _ _ _ _ => pg_name (i := 1) (by show (["rows", "row"] : List Str).Nodup; decide +kernel) rfl (Or.inl rfl)) (fun _ _ _ _ _ => pf_nil) (fun _ _ _ _ _ => (pe_op op_add_str (pv 1) pe_str))) pa_nil)))), ?_⟩
    refine ⟨rfl, _, rfl, a, rfl, ⟨_, hq⟩, comp_grow (xs := rows.map V.str) (fun _ => true) vLn hq (by rw [List.length_map]; exact Nat.le_trans hl (by decide)) (fun x hx H' Qy Qn _ hy _ => ?_) fun D H1 _ sD eD => ?_⟩
    · obtain ⟨r, hm, rfl⟩ := List.mem_map.mp hx
      exact ⟨⟨_, rfl, rfl⟩, iteT ⟨_, rfl, r, ("\n" : Str), rfl, rfl, Nat.le_trans (Nat.add_le_add_right (hr2 r hm) _) (by decide), hy rfl H' (Same.refl H')⟩⟩
    · have e : ((rows.map V.str).filter fun _ => true).map vLn = (rows.map fun r => r ++ ("\n" : Str)).map V.str := by
        rw [List.filter_eq_self.mpr (fun _ _ => rfl), List.map_map, List.map_map]; rfl
      rw [e] at eD
      refine ⟨("" : Str), D, rows.map fun r => r ++ ("\n" : Str), rfl, rfl, SqL.of eD, ?_, q _ sD⟩
      have h1 := StrLaws.sumLen_le (B := 100001) (rows.map fun r => r ++ ("\n" : Str)) fun y hy => by
        obtain ⟨r, hm, rfl⟩ := List.mem_map.mp hy
        have := hr2 r hm
        have e2 := PySem.Str.length_append r ("\n" : Str)
        have e3 : ("\n" : Str).length = 1 := by decide +kernel
        omega
      have e4 : ("" : Str).length = 0 := by decide +kernel
      rw [e4, Nat.mul_zero]
      rw [List.length_map] at h1
      have h2 : rows.length * 100001 ≤ 100 * 100001 := Nat.mul_le_mul_right _ hl
      omega
end
end K15
set_option Elab.async false
set_option linter.all false
set_option maxRecDepth 100000
set_option maxHeartbeats 4000000
namespace K15
open PySem L2 Wd
theorem cutN (xs : List V) (k : Nat) : cutV xs (some (k : Int)) none = xs.drop k := by
  unfold cutV
  rw [HT.sIx_nat, HT.sIx_none]
  by_cases h : k ≤ xs.length
  · rw [Nat.min_eq_left h]
    exact List.take_of_length_le (by rw [List.length_drop]; omega)
  · rw [Nat.min_eq_right (by omega), List.drop_eq_nil_of_le (Nat.le_refl _), List.drop_eq_nil_of_le (by omega)]
    simp
theorem cut1 (xs : List V) : cutV xs (some 1) none = xs.drop 1 := cutN xs 1
theorem cutLast (xs : List V) : cutV xs none (some (-1)) = xs.dropLast := by
  unfold cutV
  rw [HT.sIx_none]
  show List.take ((if (-1 : Int) < 0 then ((-1 : Int) + (xs.length : Int)).toNat else min (-1 : Int).toNat xs.length) - 0) (xs.drop 0) = _
  rw [if_pos (by decide), List.drop_zero, List.dropLast_eq_take]
  congr 1
  omega
theorem num_f1 {l : List Nat} (h : ¬ (1 ≤ (figs l).length ∧ (figs l).length ≤ 40)) : isNumL l = false := by
  refine Bool.eq_false_iff.mpr fun z => h ?_
  have := numOk z
  exact ⟨this.one, this.few⟩
theorem num_f2 {l : List Nat} (h : (figs l).all isDig = false) : isNumL l = false := by
  unfold isNumL; rw [h]; simp
theorem num_f3 {l : List Nat} (h : (figs l).head? = some 48) (h2 : l ≠ [48]) : isNumL l = false := Bool.eq_false_iff.mpr fun z => h2 ((numOk z).lead h)
theorem num_t {l : List Nat} (h1 : 1 ≤ (figs l).length) (h2 : (figs l).length ≤ 40) (h3 : (figs l).all isDig = true) (h4 : (figs l).head? = some 48 → l = [48]) : isNumL l = true := by
  unfold isNumL
  rw [h3, decide_eq_true h1, decide_eq_true h2]
  by_cases z : (figs l).head? = some 48
  · obtain rfl : l = [48] := h4 z
    rfl
  · have : ((figs l).head? == some 48) = false := by rw [beq_eq_false_iff_ne]; exact z
    rw [this]; rfl
def numV (w : Str) : V := if isNumL w.cps.toList = true then .int (numL w.cps.toList) else .non
theorem numV_t {w : Str} (h : isNumL w.cps.toList = true) : numV w = .int (numL w.cps.toList) := if_pos h
theorem numV_f {w : Str} (h : isNumL w.cps.toList = false) : numV w = .non := if_neg (by rw [h]; decide)
theorem minus : ("-" : Str) = ⟨#[45]⟩ := by decide +kernel
theorem nought : ("0" : Str) = ⟨#[48]⟩ := by decide +kernel
theorem is_nought (w : Str) : w = (⟨#[48]⟩ : Str) ↔ w.cps.toList = [48] := by
  constructor
  · rintro rfl; rfl
  · intro h; exact str_ext h
theorem cons_of_head {l : List Nat} {c : Nat} (h : l.head? = some c) : ∃ r, l = c :: r := by
  cases l with
  | nil => cases h
  | cons a r => cases h; exact ⟨r, rfl⟩
section
variable {P : Program} {w : World} {K : PySem.W.Frag} {mg : Str → Option Value} {base : Heap} {t : Adr}
def spReadNum : Sp := fun vs H Q _ => ∃ z : Str, vs = [.str z] ∧ z.length ≤ 300000 ∧ ∀ H', Same H H' → Q (numV z) H'
theorem ok_read_number (T : Txt K mg t) : GoodF P w K mg base 1 "read_number" ["word"] spReadNum := by
  obtain ⟨fd, F, b⟩ := T.F_read_number
  refine ⟨_, fd, F.okX sc_read_number (fun vs H Q E h => ?_) (fun cdv A outer s H vs Q E hr h => ?_), b, F.kp, T.g_read_number⟩
  · obtain ⟨z, rfl, _⟩ := h
    rfl
  · obtain ⟨z, rfl, hz, q⟩ := h
    refine ⟨_, (pss_cons (ps_set (i := 1) sc_read_number.nd rfl (Or.inl rfl) (pe_ifExp (pt_val (pe_bm PySem.F.plainAttrs_str PySem.F.slot_str_startswith PySem.F.type_str_startswith mt_startswith (pv 0) (pa_cons pe_str pa_nil))) (pe_slice sl_str (pv 0) (po_some pe_int) po_none) (pv 0)))
      (pss_cons (ps_if (pt_not (pt_chain op_le op_le pe_int (pe_callB call_len_str (by rfl) T.n_len b_len (pa_cons (pv 1) pa_nil)) (pe_glob (v := .int 40) (by rfl) T.g_MOST_FIGURES ⟨_, rfl⟩))) (pss_one (ps_ret pe_non)) pss_nil)
      (pss_cons (ps_if (pt_not (pt_val (pe_callB (call_all_bools rfl) (by rfl) T.n_all b_all (pa_cons (pe_comp (own := ["sign"]) (cs_nil (N := ["word", "figures"]) rfl (by rfl) (by decide +kernel) (by decide +kernel) (by decide +kernel)) (pi_str (pv 1)) (fun _ _ _ _ _ => pg_name (i := 2) (by show (["word", "figures", "sign"] : List Str).Nodup; decide +kernel) rfl (Or.inl rfl)) (fun _ _ _ _ _ => pf_nil) (fun _ _ _ _ _ => (pe_cmpR op_in_str (pv 2) (pe_glob (v := .str "0123456789") (by rfl) T.g_FIGURES ⟨_, rfl⟩) (by with_unfolding_all rfl)))) pa_nil)))) (pss_one (ps_ret pe_non)) pss_nil)
      (pss_cons (ps_if (pw_and (pt_val (pe_bm PySem.F.plainAttrs_str PySem.F.slot_str_startswith PySem.F.type_str_startswith mt_startswith (pv 1) (pa_cons pe_str pa_nil))) (pw_and1 (pt_cmpR op_ne (pv 0) pe_str (nomark _)))).pt (pss_one (ps_ret pe_non)) pss_nil)
      (pss_one (ps_ret (pe_callTy call_int_text (by rfl) T.n_int b_int (pa_cons (pv 0) pa_nil)))))))), ?_⟩
    have h3 : (300000 : Nat) ≤ sizeLine := by decide
    have qn : ∀ H', isNumL z.cps.toList = false → Same H H' → Q .non H' := fun H' e s => numV_f e ▸ q H' s
    refine ⟨_, rfl, rfl, z, "-", rfl, rfl, _, rfl, ?_⟩
    rw [minus, starts_one]
    refine iteD (fun hd => ?g1) fun hd => ?g2
    case' g1 =>
      obtain ⟨r, hr2⟩ := cons_of_head hd
      refine ⟨_, rfl, 1, rfl, z, rfl, Nat.le_trans hz h3, ?_⟩
      have hf : (Txt.slice z (some 1) none).cps.toList = figs z.cps.toList := by rw [slice1 (by rw [hr2]; simp), hr2]; rfl
      have hs : (Txt.slice z (some 1) none).length ≤ 300000 := Nat.le_trans (Txt.slice_le _ _ _) hz
      generalize Txt.slice z (some 1) none = fs at hf hs
    case' g2 =>
      refine ⟨_, rfl, ?_⟩
      have hf : z.cps.toList = figs z.cps.toList := (figs_pos hd).symm
      have hs := hz
    all_goals
      have hn := (len_list _).trans (congrArg List.length hf)
      refine ⟨_, rfl, _, rfl, Nat.le_trans hs h3, 1, _, rfl, rfl, _, rfl, iteD (fun h1 => ⟨_, 40, rfl, rfl, _, rfl, iteNB (fun h40 => qn H (num_f1 fun g => ?_) (Same.refl H)) fun h40 => ?_⟩) fun h1 => ⟨_, rfl, iteT (qn H (num_f1 fun g => ?_) (Same.refl H))⟩⟩
      · simp at h40; omega
      · have h1 : 1 ≤ (figs z.cps.toList).length := by omega
        have h40 : (figs z.cps.toList).length ≤ 40 := by simp at h40; omega
        refine ⟨_, rfl, _, rfl, comp_str (fun _ => true) (fun c => .bl (isDig c)) (Nat.le_trans hs h3) (fun c hc H' Qy Qn s' kY kN => ⟨⟨[some (.str ⟨#[c]⟩)], rfl, rfl⟩, iteT ⟨_, rfl, _, _, rfl, rfl, ?_⟩⟩) fun D H1 hD s1 eD => ?_⟩
        · rw [fig_in]; exact kY rfl H' (Same.refl H')
        · have eD' : H1 D = some (.lst (((figs z.cps.toList).map isDig).map V.bl)) := by
            rw [eD, List.filter_eq_self.mpr (fun _ _ => rfl), List.map_map]
            exact congrArg (fun l : List Nat => some (HO.lst (l.map fun c => V.bl (isDig c)))) hf
          refine ⟨D, (figs z.cps.toList).map isDig, rfl, SqL.of eD', _, rfl, iteNB (fun ha => qn H1 (num_f2 ?_) s1) fun ha => ?_⟩
          · rw [List.all_map] at ha; exact ha
          · have ha : (figs z.cps.toList).all isDig = true := by rw [List.all_map] at ha; exact ha
            refine ⟨_, rfl, rfl, _, _, rfl, rfl, _, rfl, ?_⟩
            rw [nought, starts_one]
            have fin : ((figs z.cps.toList).head? = some 48 → z.cps.toList = [48]) → ∃ z' n, [V.str z] = [V.str z'] ∧ intText? z' = some n ∧ z'.length ≤ 640 ∧ Q (.int n) H1 := fun h4 => by
              have num := num_t h1 h40 ha h4
              have ok := numOk num
              refine ⟨z, _, rfl, int_of ok, ?_, numV_t num ▸ q H1 s1⟩
              have := ok.len
              rw [len_list]; omega
            refine iteD (fun h0 => ⟨_, rfl, rfl, _, rfl, iteNB (fun hn => qn H1 (num_f3 ?_ fun e => ?_) s1) fun he => ⟨_, rfl, fin fun _ => ?_⟩⟩) fun h0 => iteF ⟨_, rfl, fin fun g => absurd ?_ h0⟩
            · exact (congrArg List.head? hf).symm.trans h0
            · exact absurd (congrArg V.str (is_nought z |>.mpr e)) (of_decide_eq_false hn)
            · exact (is_nought z).mp (V.str.inj (of_decide_eq_true he))
            · exact (congrArg List.head? hf).trans g
      · omega
end
end K15
set_option Elab.async false
set_option linter.all false
set_option maxRecDepth 100000
set_option maxHeartbeats 4000000
namespace K15
open PySem L2 Wd
theorem in_non (ws : List Str) : inV .non (ws.map numV) = !ws.all (fun w => isNumL w.cps.toList) := by
  unfold inV
  induction ws with
  | nil => rfl
  | cons a r ih =>
    rw [List.map_cons, List.any_cons, List.all_cons, ih, Bool.not_and]
    congr 1
    cases h : isNumL a.cps.toList with
    | true => rw [numV_t h]; rfl
    | false => rw [numV_f h]; rfl
theorem flat_num (ws : List Str) : (ws.map numV).all flatV = true := by
  rw [List.all_map, List.all_eq_true]
  intro a _
  show flatV (numV a) = true
  unfold numV
  split <;> rfl
theorem all_num {ws : List Str} (h : ws.all (fun w => isNumL w.cps.toList) = true) : ws.map numV = ws.map fun w => V.int (numL w.cps.toList) :=
  List.map_congr_left fun a ha => numV_t (List.all_eq_true.mp h a ha)
def vNum : V → V | .str w => numV w | v => v
section
variable {P : Program} {w : World} {K : PySem.W.Frag} {mg : Str → Option Value} {base : Heap} {t : Adr}
def spReadRow : Sp := fun vs H Q _ => ∃ z w0 ws, vs = [.str z] ∧ z.length ≤ 300000 ∧ Txt.split z " " = w0 :: ws ∧ (ws.all (fun w => isNumL w.cps.toList) = false → ∀ H', Same H H' → Q .non H') ∧
  (ws.all (fun w => isNumL w.cps.toList) = true → ∀ p l H', Same H H' → H' p = some (.tup [.str w0, .ref l]) → H' l = some (.lst (ws.map fun w => .int (numL w.cps.toList))) → Q (.ref p) H')
theorem ok_read_row (T : Txt K mg t) : GoodF P w K mg base 2 "read_row" ["text"] spReadRow := by
  obtain ⟨fd, F, b⟩ := T.F_read_row
  have G_read_number := ok_read_number (P := P) (w := w) (base := base) T
  refine ⟨_, fd, F.okX sc_read_row (fun vs H Q E h => ?_) (fun cdv A outer s H vs Q E hr h => ?_), b, F.kp, T.g_read_row⟩
  · obtain ⟨z, w0, ws, rfl, _⟩ := h
    rfl
  · obtain ⟨z, w0, ws, rfl, hz, hsp, qn, qy⟩ := h
    refine ⟨_, (pss_cons (ps_if (pt_not (pt_val (pe_callB call_isi (by rfl) T.n_isinstance b_isinstance (pa_cons (pv 0) (pa_cons (pe_bltn (v := .ty "str") (by rfl) T.n_str b_str rfl) pa_nil))))) (pss_one (ps_ret pe_non)) pss_nil)
      (pss_cons (ps_set (i := 1) sc_read_row.nd rfl (Or.inl rfl) (pe_bm PySem.F.plainAttrs_str PySem.F.slot_str_split PySem.F.type_str_split mt_split (pv 0) (pa_cons pe_str pa_nil)))
      (pss_cons (ps_setcomp (i := 2) sc_read_row.nd rfl (Or.inl rfl) (own := ["word"]) (cs_nil (N := ["text", "words", "numbers"]) rfl (by rfl) (by decide +kernel) (by decide +kernel) (by decide +kernel)) (pi_list (pe_slice sl_list (pv 1) (po_some pe_int) po_none)) (fun _ _ _ _ _ => pg_name (i := 3) (by show (["text", "words", "numbers", "word"] : List Str).Nodup; decide +kernel) rfl (Or.inl rfl)) (fun _ _ _ _ _ => pf_nil) (fun _ _ _ _ _ => (pe_callG G_read_number (hr.mono (by decide)) passX0 (by rfl) (pa_cons (pv 3) pa_nil))))
      (pss_cons (ps_if (pt_cmpR op_in_seq pe_non (pv 2) (by with_unfolding_all rfl)) (pss_one (ps_ret pe_non)) pss_nil)
      (pss_one (ps_ret (pe_tup (pa_cons (pe_ix ix_list (pv 1) pe_int (fun _ _ => rfl)) (pa_cons (pv 2) pa_nil))))))))), ?_⟩
    have hw : (w0 :: ws).length ≤ 300002 := by rw [← hsp]; exact Nat.le_trans (PyProof.Rows.split_le z " ") (by omega)
    have hz1 : z.length ≤ sizeLine := Nat.le_trans hz (by decide)
    have hw1 : (w0 :: ws).length ≤ sizeLine := Nat.le_trans hw (by decide)
    have hshort : ∀ a ∈ ws, a.length ≤ 300000 := fun a ha => Nat.le_trans (PyProof.Rows.part_short (y := " ") (hsp ▸ List.mem_cons_of_mem _ ha)) hz
    refine ⟨_, rfl, _, _, _, _, _, rfl, .str z, .ty _, rfl, _, rfl, iteF ?_⟩
    refine ⟨_, rfl, rfl, z, " ", rfl, rfl, by decide, hz1, by rw [hsp]; exact hw1, fun p hp => ?_⟩
    rw [hsp]
    refine ⟨_, rfl, _, rfl, p, _, rfl, SqL.of upd_same, fun q hq => ?_⟩
    rw [cut1]
    have sp0 : Same H (upd H p (.lst ((w0 :: ws).map V.str))) := same_new (Same.refl H) hp
    have sq0 := same_new (o := .lst (((w0 :: ws).map V.str).drop 1)) sp0 hq
    have npq : p ≠ q := fun z => by rw [z, upd_same] at hq; cases hq
    refine ⟨q, rfl, ⟨_, SqL.of upd_same⟩, comp_grow (xs := ws.map V.str) (fun _ => true) vNum (SqL.of upd_same) (by rw [List.length_map]; exact Nat.le_trans (Nat.le_succ _) hw1) (fun x hx H' Qy Qn s' kY kN => ?_) fun D H1 hD s1 eD => ?_⟩
    · obtain ⟨a, ha, rfl⟩ := List.mem_map.mp hx
      exact ⟨⟨[some (.str a)], rfl, rfl⟩, iteT ⟨_, rfl, a, rfl, hshort a ha, fun H'' s'' => kY rfl H'' s''⟩⟩
    · have eN : H1 D = some (.lst (ws.map numV)) := by
        rw [eD, List.filter_eq_self.mpr (fun _ _ => rfl), List.map_map]; rfl
      have s2 : Same H H1 := Same.trans sq0 s1
      refine ⟨_, rfl, D, _, rfl, .inl (SqL.of eN), rfl, flat_num ws, _, rfl, ?_⟩
      show (if inV .non (ws.map numV) = true then _ else _)
      rw [in_non]
      refine iteNB (fun hf => qn hf H1 s2) fun ht => ?_
      have ep : H1 p = some (.lst ((w0 :: ws).map V.str)) := s1 _ _ (by rw [upd_ne npq]; exact upd_same)
      refine ⟨_, rfl, p, _, 0, .str w0, rfl, rfl, SqL.of ep, atI_nat (j := 0) rfl, _, rfl, by show 2 ≤ sizeLine; decide, fun r hr => qy ht r D _ (same_new s2 hr) upd_same ?_⟩
      rw [upd_ne (ne_of_none eN hr), eN, all_num ht]
end
end K15
set_option Elab.async false
set_option linter.all false
set_option maxRecDepth 100000
set_option maxHeartbeats 4000000
namespace K15
open PySem L2 Wd
theorem lg_small {n : Int} (h0 : 0 ≤ n) (h1 : n < 1000) : Lg n := by
  have h : n.natAbs < 1000 := by omega
  exact lg_of (Nat.lt_trans h (by decide))
abbrev Tab := List (List Key × V)
def fB (w h l : Int) (c d : Addr) : List (Str × V) := [("wide", .int w), ("high", .int h), ("layers", .int l), ("copper", .ref c), ("drilled", .ref d)]
theorem fB_put (w h l : Int) (c d : Addr) : putF "drilled" (.ref d) (putF "copper" (.ref c) (putF "layers" (.int l) (putF "high" (.int h) (putF "wide" (.int w) [])))) = fB w h l c d := by kernel_rfl
def okM (m : Int) (most : Int) : Prop := 1 ≤ m ∧ m ≤ most
def inB (x w : Int) : Bool := decide (0 ≤ x) && decide (x < w)
section
variable {P : Program} {w : World} {K : PySem.W.Frag} {mg : Str → Option Value} {base : Heap} {t : Adr}
def spNeedMeasure (C : Addr) : Sp := fun vs H Q E => ∃ m most : Int, vs = [.int m, .int most] ∧ (okM m most → Q .non H) ∧ (¬ okM m most → E (.ref C) none H)
theorem ok_need_measure (T : Txt K mg t) : GoodF P w K mg base 2 "need_measure" ["measure", "most"] (spNeedMeasure t.c_NoBoard) := by
  obtain ⟨fd, F, b⟩ := T.F_need_measure
  have G_is_whole := ok_is_whole (P := P) (w := w) (base := base) T
  refine ⟨_, fd, F.okX sc_need_measure (fun vs H Q E h => ?_) (fun cdv A outer s H vs Q E hr h => ?_), b, F.kp, T.g_need_measure⟩
  · obtain ⟨m, most, rfl, _⟩ := h
    rfl
  · obtain ⟨m, most, rfl, q, e⟩ := h
    refine ⟨_, (pss_one (ps_if (pw_or (pt_not (pt_val (pe_callG G_is_whole (hr.mono (by decide)) passes_of (by rfl) (pa_cons (pv 0) pa_nil)))) (pw_or1 (pt_not (pt_chain op_le op_le pe_int (pv 0) (pv 1))))).pt (pss_one (ps_raise throws_of rfl T.e_NoBoard rfl (pa_cons (pe_fstr7 (by decide) (by decide) (by decide) (by decide) (pe_glob (v := .int 12) (by rfl) T.g_MOST_WIDE ⟨_, rfl⟩) (pe_glob (v := .int 12) (by rfl) T.g_MOST_HIGH ⟨_, rfl⟩) (pe_glob (v := .int 3) (by rfl) T.g_MOST_LAYERS ⟨_, rfl⟩)) pa_nil))) pss_nil)), ?_⟩
    have l12 : Fmt (.int 12) := .inl ⟨12, rfl, lg_small (by decide) (by decide)⟩
    have l3 : Fmt (.int 3) := .inl ⟨3, rfl, lg_small (by decide) (by decide)⟩
    refine ⟨_, rfl, .int m, rfl, rfl, true, rfl, iteF ?_⟩
    refine ⟨_, rfl, 1, m, rfl, rfl, _, rfl, iteD (fun h1 => ⟨_, rfl, m, most, rfl, rfl, _, rfl, iteNB (fun h2 => ⟨l12, l12, l3, fun z => ⟨by show 1 ≤ sizeLine; decide, e fun z => of_decide_eq_false h2 z.2⟩⟩) fun h2 => q ⟨h1, of_decide_eq_true h2⟩⟩) fun h1 => ⟨_, rfl, iteT ⟨l12, l12, l3, fun z => ⟨by show 1 ≤ sizeLine; decide, e fun z => h1 z.1⟩⟩⟩⟩
def spBoard (C NB : Addr) : Sp := fun vs H Q E => ∃ (o dx : Addr) (m1 m2 m3 : Int), vs = [.ref o, .int m1, .int m2, .int m3] ∧ H o = some (.ins C dx []) ∧
  (okM m1 12 → okM m2 12 → okM m3 3 → ∀ c d H', (∀ b u, b ≠ o → H b = some u → H' b = some u) → H' o = some (.ins C dx (fB m1 m2 m3 c d)) → H' c = some (.dT []) → H' d = some (.dT []) → H c = none → H d = none → c ≠ d → c ≠ o → d ≠ o → Q .non H') ∧ (¬ (okM m1 12 ∧ okM m2 12 ∧ okM m3 3) → E (.ref NB) none H)
theorem ok_Board_init (T : Txt K mg t) : GoodC P w K mg base 3 "Board" t.c_Board ["self", "wide", "high", "layers"] (spBoard t.c_Board t.c_NoBoard) := by
  obtain ⟨fd, F, b⟩ := T.F_Board_init
  have G_need_measure := ok_need_measure (P := P) (w := w) (base := base) T
  refine ⟨_, fd, T.K_Board, F.okX sc_Board_init (fun vs H Q E h => ?_) (fun cdv A outer s H vs Q E hr h => ?_), b, T.g_Board⟩
  · obtain ⟨o, dx, m1, m2, m3, rfl, _⟩ := h
    rfl
  · obtain ⟨o, dx, m1, m2, m3, rfl, ho, kQ, kE⟩ := h
    refine ⟨_, (pss_cons (ps_expr (pe_callG G_need_measure (hr.mono (by decide)) passes_of (by rfl) (pa_cons (pv 1) (pa_cons (pe_glob (v := .int 12) (by rfl) T.g_MOST_WIDE ⟨_, rfl⟩) pa_nil))))
      (pss_cons (ps_expr (pe_callG G_need_measure (hr.mono (by decide)) passes_of (by rfl) (pa_cons (pv 2) (pa_cons (pe_glob (v := .int 12) (by rfl) T.g_MOST_HIGH ⟨_, rfl⟩) pa_nil))))
      (pss_cons (ps_expr (pe_callG G_need_measure (hr.mono (by decide)) passes_of (by rfl) (pa_cons (pv 3) (pa_cons (pe_glob (v := .int 3) (by rfl) T.g_MOST_LAYERS ⟨_, rfl⟩) pa_nil))))
      (pss_cons (ps_fld (pv 0) (pv 1) rfl)
      (pss_cons (ps_fld (pv 0) (pv 2) rfl)
      (pss_cons (ps_fld (pv 0) (pv 3) rfl)
      (pss_cons (ps_fld (pv 0) pe_dnewT rfl)
      (pss_one (ps_fld (pv 0) pe_dnewT rfl))))))))), ?_⟩
    refine ⟨_, rfl, m1, 12, rfl, fun g1 => ?_, fun n => kE fun z => n z.1⟩
    refine ⟨_, rfl, m2, 12, rfl, fun g2 => ?_, fun n => kE fun z => n z.2.1⟩
    refine ⟨_, rfl, m3, 3, rfl, fun g3 => ?_, fun n => kE fun z => n z.2.2⟩
    refine ⟨_, rfl, _, rfl, o, _, dx, _, rfl, ho, T.cl_Board, T.na_Board_wide, (by decide), ?_⟩
    refine ⟨_, rfl, _, rfl, o, _, dx, _, rfl, upd_same, T.cl_Board, T.na_Board_high, Nat.le_of_ble_eq_true (by kernel_rfl), ?_⟩
    refine ⟨_, rfl, _, rfl, o, _, dx, _, rfl, upd_same, T.cl_Board, T.na_Board_layers, Nat.le_of_ble_eq_true (by kernel_rfl), ?_⟩
    intro c hc
    have nco : c ≠ o := fun z => by rw [z, upd_same] at hc; cases hc
    have Hc : H c = none := by rw [upd_ne nco, upd_ne nco, upd_ne nco] at hc; exact hc
    refine ⟨_, rfl, o, _, dx, _, rfl, by rw [upd_ne (Ne.symm nco)]; exact upd_same, T.cl_Board, T.na_Board_copper, Nat.le_of_ble_eq_true (by kernel_rfl), ?_⟩
    intro d hd
    have ndo : d ≠ o := fun z => by rw [z, upd_same] at hd; cases hd
    have ndc : d ≠ c := fun z => by rw [z, upd_ne nco, upd_same] at hd; cases hd
    have Hd : H d = none := by rw [upd_ne ndo, upd_ne ndc, upd_ne ndo, upd_ne ndo, upd_ne ndo] at hd; exact hd
    refine ⟨_, rfl, o, _, dx, _, rfl, by rw [upd_ne (Ne.symm ndo)]; exact upd_same, T.cl_Board, T.na_Board_drilled, Nat.le_of_ble_eq_true (by kernel_rfl), ?_⟩
    refine kQ g1 g2 g3 c d _ (fun b u hb e => ?_) ?_ ?_ ?_ Hc Hd (Ne.symm ndc) nco ndo
    · rw [upd_ne hb, upd_ne (ne_of_none e Hd), upd_ne hb, upd_ne (ne_of_none e Hc), upd_ne hb, upd_ne hb, upd_ne hb]; exact e
    · rw [upd_same, fB_put]
    · rw [upd_ne nco, upd_ne (Ne.symm ndc), upd_ne nco]; exact upd_same
    · rw [upd_ne ndo]; exact upd_same
def spHasSquare (C : Addr) : Sp := fun vs H Q _ => ∃ (o dx c d : Addr) (w h l x y : Int), vs = [.ref o, .int x, .int y] ∧ H o = some (.ins C dx (fB w h l c d)) ∧ Q (.bl (inB x w && inB y h)) H
theorem ok_Board_has_square (T : Txt K mg t) : GoodM P w K mg base 2 t.c_Board "has_square" ["self", "x", "y"] (spHasSquare t.c_Board) := by
  obtain ⟨fd, F, b⟩ := T.F_Board_has_square
  have G_is_whole := ok_is_whole (P := P) (w := w) (base := base) T
  refine ⟨T.cl_Board, _, fd, T.M_Board_has_square, F.okX sc_Board_has_square (fun vs H Q E h => ?_) (fun cdv A outer s H vs Q E hr h => ?_), b⟩
  · obtain ⟨o, dx, c, d, w, h, l, x, y, rfl, _⟩ := h
    rfl
  · obtain ⟨o, dx, c, d, w, h, l, x, y, rfl, ho, q⟩ := h
    refine ⟨_, (pss_one (ps_ret (pe_and (pe_callG G_is_whole (hr.mono (by decide)) passes_of (by rfl) (pa_cons (pv 1) pa_nil)) (pe_and (pe_callG G_is_whole (hr.mono (by decide)) passes_of (by rfl) (pa_cons (pv 2) pa_nil)) (pe_and (pe_chain op_le op_lt pe_int (pv 1) (pe_fld (pv 0) rfl)) (pe_one (pe_chain op_le op_lt pe_int (pv 2) (pe_fld (pv 0) rfl)))))))), ?_⟩
    refine ⟨_, rfl, .int x, rfl, rfl, true, rfl, iteT ⟨_, rfl, .int y, rfl, rfl, true, rfl, iteT ?_⟩⟩
    have fin : ∀ b : Bool, (inB x w && inB y h) = b → Q (.bl b) H := fun b e => e ▸ q
    refine ⟨_, rfl, 0, x, rfl, rfl, _, rfl, iteD (fun h1 => ⟨_, rfl, o, _, dx, _, .int w, rfl, ho, T.cl_Board, T.na_Board_wide, rfl, x, w, rfl, rfl, _, rfl, iteD (fun h2 => ?_) fun h2 => fin _ (by simp [inB, h2])⟩) fun h1 => ⟨_, rfl, iteF (fin _ (by simp [inB, h1]))⟩⟩
    refine ⟨_, rfl, 0, y, rfl, rfl, _, rfl, iteD (fun h3 => ⟨_, rfl, o, _, dx, _, .int h, rfl, ho, T.cl_Board, T.na_Board_high, rfl, y, h, rfl, rfl, fin _ (by simp [inB, h1, h2, h3])⟩) fun h3 => fin _ (by simp [inB, h3])⟩
def spHasLayer (C : Addr) : Sp := fun vs H Q _ => ∃ (o dx c d : Addr) (w h l z : Int), vs = [.ref o, .int z] ∧ H o = some (.ins C dx (fB w h l c d)) ∧ Q (.bl (inB z l)) H
theorem ok_Board_has_layer (T : Txt K mg t) : GoodM P w K mg base 2 t.c_Board "has_layer" ["self", "z"] (spHasLayer t.c_Board) := by
  obtain ⟨fd, F, b⟩ := T.F_Board_has_layer
  have G_is_whole := ok_is_whole (P := P) (w := w) (base := base) T
  refine ⟨T.cl_Board, _, fd, T.M_Board_has_layer, F.okX sc_Board_has_layer (fun vs H Q E h => ?_) (fun cdv A outer s H vs Q E hr h => ?_), b⟩
  · obtain ⟨o, dx, c, d, w, h, l, z, rfl, _⟩ := h
    rfl
  · obtain ⟨o, dx, c, d, w, h, l, z, rfl, ho, q⟩ := h
    refine ⟨_, (pss_one (ps_ret (pe_and (pe_callG G_is_whole (hr.mono (by decide)) passes_of (by rfl) (pa_cons (pv 1) pa_nil)) (pe_one (pe_chain op_le op_lt pe_int (pv 1) (pe_fld (pv 0) rfl)))))), ?_⟩
    have fin : ∀ b : Bool, inB z l = b → Q (.bl b) H := fun b e => e ▸ q
    refine ⟨_, rfl, .int z, rfl, rfl, true, rfl, iteT ?_⟩
    refine ⟨_, rfl, 0, z, rfl, rfl, _, rfl, iteD (fun h1 => ⟨_, rfl, o, _, dx, _, .int l, rfl, ho, T.cl_Board, T.na_Board_layers, rfl, z, l, rfl, rfl, fin _ (by simp [inB, h1])⟩) fun h1 => fin _ (by simp [inB, h1])⟩
def spHasCell (C : Addr) : Sp := fun vs H Q _ => ∃ (o dx c d p : Addr) (w h l x y z : Int), vs = [.ref o, .ref p] ∧ H o = some (.ins C dx (fB w h l c d)) ∧ H p = some (.tup [.int x, .int y, .int z]) ∧ Q (.bl (inB x w && inB y h && inB z l)) H
theorem ok_Board_has_cell (T : Txt K mg t) : GoodM P w K mg base 3 t.c_Board "has_cell" ["self", "cell"] (spHasCell t.c_Board) := by
  obtain ⟨fd, F, b⟩ := T.F_Board_has_cell
  have G_Board_has_square := ok_Board_has_square (P := P) (w := w) (base := base) T
  have G_Board_has_layer := ok_Board_has_layer (P := P) (w := w) (base := base) T
  refine ⟨T.cl_Board, _, fd, T.M_Board_has_cell, F.okX sc_Board_has_cell (fun vs H Q E h => ?_) (fun cdv A outer s H vs Q E hr h => ?_), b⟩
  · obtain ⟨o, dx, c, d, p, w, h, l, x, y, z, rfl, _⟩ := h
    rfl
  · obtain ⟨o, dx, c, d, p, w, h, l, x, y, z, rfl, ho, hp, q⟩ := h
    refine ⟨_, (pss_cons (ps_if (pw_or (pt_not (pt_val (pe_callB call_isi (by rfl) T.n_isinstance b_isinstance (pa_cons (pv 1) (pa_cons (pe_bltn (v := .ty "tuple") (by rfl) T.n_tuple b_tuple rfl) pa_nil))))) (pw_or1 (pt_cmpR op_ne (pe_callB call_len_seq (by rfl) T.n_len b_len (pa_cons (pv 1) pa_nil)) pe_int (nomark _)))).pt (pss_one (ps_ret pe_bl)) pss_nil)
      (pss_one (ps_ret (pe_and (pe_methG (pv 0) G_Board_has_square (hr.mono (by decide)) passes_of (pa_cons (pe_ix ix_tup (pv 1) pe_int (fun _ _ => rfl)) (pa_cons (pe_ix ix_tup (pv 1) pe_int (fun _ _ => rfl)) pa_nil))) (pe_one (pe_methG (pv 0) G_Board_has_layer (hr.mono (by decide)) passes_of (pa_cons (pe_ix ix_tup (pv 1) pe_int (fun _ _ => rfl)) pa_nil))))))), ?_⟩
    have S : SqT K H p [.int x, .int y, .int z] := SqT.of hp
    refine ⟨_, rfl, .ref p, .ty "tuple", _, _, true, rfl, .tup hp, .ty _, by kernel_rfl, true, rfl, iteF ?_⟩
    refine ⟨_, rfl, p, _, rfl, .inr S, rfl, _, rfl, iteNB (fun z => absurd (of_decide_eq_false z rfl) (fun z => z)) fun _ => ?_⟩
    have fin : ∀ b : Bool, (inB x w && inB y h && inB z l) = b → Q (.bl b) H := fun b e => e ▸ q
    refine ⟨_, rfl, o, dx, _, rfl, ho, rfl, _, rfl, p, _, 0, .int x, rfl, rfl, S, rfl, _, rfl, p, _, 1, .int y, rfl, rfl, S, rfl, o, dx, c, d, w, h, l, x, y, rfl, ho, _, rfl, ?_⟩
    cases h1 : (inB x w && inB y h) with
    | false => exact iteF (fin _ (by rw [h1]; rfl))
    | true => exact iteT ⟨_, rfl, o, dx, _, rfl, ho, rfl, _, rfl, p, _, 2, .int z, rfl, rfl, S, rfl, o, dx, c, d, w, h, l, z, rfl, ho, fin _ (by rw [h1]; rfl)⟩
def spNeedSquare (C : Addr) : Sp := fun vs H Q _ => ∃ (o dx c d : Addr) (w h l x y : Int), vs = [.ref o, .int x, .int y] ∧ H o = some (.ins C dx (fB w h l c d)) ∧ (inB x w && inB y h) = true ∧ Q .non H
theorem ok_Board_need_square (T : Txt K mg t) : GoodM P w K mg base 3 t.c_Board "need_square" ["self", "x", "y"] (spNeedSquare t.c_Board) := by
  obtain ⟨fd, F, b⟩ := T.F_Board_need_square
  have G_Board_has_square := ok_Board_has_square (P := P) (w := w) (base := base) T
  refine ⟨T.cl_Board, _, fd, T.M_Board_need_square, F.okX sc_Board_need_square (fun vs H Q E h => ?_) (fun cdv A outer s H vs Q E hr h => ?_), b⟩
  · obtain ⟨o, dx, c, d, w, h, l, x, y, rfl, _⟩ := h
    rfl
  · obtain ⟨o, dx, c, d, w, h, l, x, y, rfl, ho, hb, q⟩ := h
    refine ⟨_, (pss_one (ps_if (pt_not (pt_val (pe_methG (pv 0) G_Board_has_square (hr.mono (by decide)) passes_of (pa_cons (pv 1) (pa_cons (pv 2) pa_nil))))) (pss_one (ps_raise throws_of rfl T.e_NoPlace rfl (pa_cons pe_str pa_nil))) pss_nil)), ?_⟩
    refine ⟨_, rfl, o, dx, _, rfl, ho, rfl, _, rfl, _, rfl, o, dx, c, d, w, h, l, x, y, rfl, ho, _, rfl, ?_⟩
    rw [hb]
    exact iteF q
def spNeedCells (C : Addr) : Sp := fun vs H Q _ => ∃ (o dx c d a p : Addr) (w h l x y z : Int), vs = [.ref o, .ref a] ∧ H o = some (.ins C dx (fB w h l c d)) ∧ H a = some (.lst [.ref p]) ∧ H p = some (.tup [.int x, .int y, .int z]) ∧ (inB x w && inB y h && inB z l) = true ∧ Q .non H
theorem ok_Board_need_cells (T : Txt K mg t) : GoodM P w K mg base 4 t.c_Board "need_cells" ["self", "cells"] (spNeedCells t.c_Board) := by
  obtain ⟨fd, F, b⟩ := T.F_Board_need_cells
  have G_Board_has_cell := ok_Board_has_cell (P := P) (w := w) (base := base) T
  refine ⟨T.cl_Board, _, fd, T.M_Board_need_cells, F.okX sc_Board_need_cells (fun vs H Q E h => ?_) (fun cdv A outer s H vs Q E hr h => ?_), b⟩
  · obtain ⟨o, dx, c, d, a, p, w, h, l, x, y, z, rfl, _⟩ := h
    rfl
  · obtain ⟨o, dx, c, d, a, p, w, h, l, x, y, z, rfl, ho, ha, hp, hb, q⟩ := h
    refine ⟨_, (pss_one (ps_for owns_of (pi_list (pv 1)) (pg_name (i := 2) sc_Board_need_cells.nd rfl (Or.inl rfl)) (pss_one (ps_if (pt_not (pt_val (pe_methG (pv 0) G_Board_has_cell (hr.mono (by decide)) passes_of (pa_cons (pv 2) pa_nil)))) (pss_one (ps_raise throws_of rfl T.e_NoPlace rfl (pa_cons pe_str pa_nil))) pss_nil)))), ?_⟩
    refine ⟨_, rfl, a, rfl, ⟨_, SqL.of ha⟩, for_list (xs := [.ref p]) (fun i σ H2 => ∃ v, σ = [some (.ref o), some (.ref a), v] ∧ H = H2) ⟨_, rfl, rfl⟩ (fun i σ H2 _ ⟨_, _, e⟩ => e ▸ SqL.of ha) ?_ ?_⟩
    · rintro i v σ H2 hx ⟨u, rfl, rfl⟩
      obtain rfl : v = .ref p := by
        cases i with
        | zero => exact (Option.some.inj hx).symm
        | succ j => simp at hx
      refine ⟨_, rfl, o, dx, _, rfl, ho, rfl, _, rfl, o, dx, c, d, p, w, h, l, x, y, z, rfl, ho, hp, _, rfl, ?_⟩
      rw [hb]
      exact iteF ⟨_, rfl, rfl⟩
    · rintro σ H2 ⟨u, rfl, rfl⟩
      exact q
def spPut (C : Addr) : Sp := fun vs H Q _ => ∃ (o dx c d a p : Addr) (w h l x y z : Int) (cs : Tab), vs = [.ref o, .ref a] ∧ H o = some (.ins C dx (fB w h l c d)) ∧ H a = some (.lst [.ref p]) ∧ H p = some (.tup [.int x, .int y, .int z]) ∧ (inB x w && inB y h && inB z l) = true ∧ H c = some (.dT cs) ∧ cs.length ≤ 1000 ∧
  Q .non (upd H c (.dT (putK cs [.inl x, .inl y, .inl z] (.bl true))))
theorem ok_Board_put (T : Txt K mg t) : GoodM P w K mg base 5 t.c_Board "put" ["self", "cells"] (spPut t.c_Board) := by
  obtain ⟨fd, F, b⟩ := T.F_Board_put
  have G_Board_need_cells := ok_Board_need_cells (P := P) (w := w) (base := base) T
  refine ⟨T.cl_Board, _, fd, T.M_Board_put, F.okX sc_Board_put (fun vs H Q E h => ?_) (fun cdv A outer s H vs Q E hr h => ?_), b⟩
  · obtain ⟨o, dx, c, d, a, p, w, h, l, x, y, z, cs, rfl, _⟩ := h
    rfl
  · obtain ⟨o, dx, c, d, a, p, w, h, l, x, y, z, cs, rfl, ho, ha, hp, hb, hc, hl, q⟩ := h
    refine ⟨_, (pss_cons (ps_expr (pe_methG (pv 0) G_Board_need_cells (hr.mono (by decide)) passes_of (pa_cons (pv 1) pa_nil)))
      (pss_one (ps_for owns_of (pi_list (pv 1)) (pg_name (i := 2) sc_Board_put.nd rfl (Or.inl rfl)) (pss_one (ps_dput (hu_of hr) (pe_fld (pv 0) rfl) (pv 2) pe_bl rfl))))), ?_⟩
    refine ⟨_, rfl, o, dx, _, rfl, ho, rfl, _, rfl, o, dx, c, d, a, p, w, h, l, x, y, z, rfl, ho, ha, hp, hb, ?_⟩
    have nac : a ≠ c := ne_of ha hc (by intro z; cases z)
    have e1 : ∀ u, upd H c u a = some (.lst [.ref p]) := fun u => by rw [upd_ne nac]; exact ha
    refine ⟨_, rfl, a, rfl, ⟨_, SqL.of ha⟩, for_list (xs := [.ref p]) (fun i σ H2 => ∃ v, σ = [some (.ref o), some (.ref a), v] ∧ ((i = 0 ∧ H2 = H) ∨ (i = 1 ∧ H2 = upd H c (.dT (putK cs [.inl x, .inl y, .inl z] (.bl true)))))) ⟨_, rfl, .inl ⟨rfl, rfl⟩⟩ (fun i σ H2 _ ⟨_, _, e⟩ => ?_) ?_ ?_⟩
    · rcases e with ⟨_, rfl⟩ | ⟨_, rfl⟩
      · exact SqL.of ha
      · exact SqL.of (e1 _)
    · rintro i v σ H2 hx ⟨u, rfl, e⟩
      have hi : i = 0 := by
        cases i with
        | zero => rfl
        | succ j => simp at hx
      subst hi
      obtain rfl : v = .ref p := (Option.some.inj hx).symm
      obtain rfl : H2 = H := by
        rcases e with ⟨_, e⟩ | ⟨z, _⟩
        · exact e
        · cases z
      refine ⟨_, rfl, o, _, dx, _, .ref c, rfl, ho, T.cl_Board, T.na_Board_copper, rfl, _, rfl, c, _, rfl, DPut.t hc (k := [.inl x, .inl y, .inl z]) hp (Nat.lt_of_le_of_lt hl (by decide)), _, rfl, .inr ⟨rfl, rfl⟩⟩
    · rintro σ H2 ⟨u, rfl, e⟩
      rcases e with ⟨z, _⟩ | ⟨_, rfl⟩
      · cases z
      · exact q
def spDrill (C : Addr) : Sp := fun vs H Q _ => ∃ (o dx c d : Addr) (w h l x y : Int) (ds : Tab), vs = [.ref o, .int x, .int y] ∧ H o = some (.ins C dx (fB w h l c d)) ∧ (inB x w && inB y h) = true ∧ H d = some (.dT ds) ∧ ds.length ≤ 1000 ∧
  ∀ p, H p = none → Q .non (upd (upd H p (.tup [.int x, .int y])) d (.dT (putK ds [.inl x, .inl y] (.bl true))))
theorem ok_Board_drill (T : Txt K mg t) : GoodM P w K mg base 4 t.c_Board "drill" ["self", "x", "y"] (spDrill t.c_Board) := by
  obtain ⟨fd, F, b⟩ := T.F_Board_drill
  have G_Board_need_square := ok_Board_need_square (P := P) (w := w) (base := base) T
  refine ⟨T.cl_Board, _, fd, T.M_Board_drill, F.okX sc_Board_drill (fun vs H Q E h => ?_) (fun cdv A outer s H vs Q E hr h => ?_), b⟩
  · obtain ⟨o, dx, c, d, w, h, l, x, y, ds, rfl, _⟩ := h
    rfl
  · obtain ⟨o, dx, c, d, w, h, l, x, y, ds, rfl, ho, hb, hd, hl, q⟩ := h
    refine ⟨_, (pss_cons (ps_expr (pe_methG (pv 0) G_Board_need_square (hr.mono (by decide)) passes_of (pa_cons (pv 1) (pa_cons (pv 2) pa_nil))))
      (pss_one (ps_dput (hu_of hr) (pe_fld (pv 0) rfl) (pe_tup (pa_cons (pv 1) (pa_cons (pv 2) pa_nil))) pe_bl rfl))), ?_⟩
    refine ⟨_, rfl, o, dx, _, rfl, ho, rfl, _, rfl, _, rfl, o, dx, c, d, w, h, l, x, y, rfl, ho, hb, ?_⟩
    refine ⟨_, rfl, o, _, dx, _, .ref d, rfl, ho, T.cl_Board, T.na_Board_drilled, rfl, _, rfl, _, rfl, (by show 2 ≤ sizeLine; decide), fun p hp => ?_⟩
    have ndp : d ≠ p := ne_of_none hd hp
    exact ⟨d, _, rfl, DPut.t (k := [.inl x, .inl y]) (by rw [upd_ne ndp]; exact hd) upd_same (Nat.lt_of_le_of_lt hl (by decide)), q p hp⟩
def spIsCopper (C : Addr) : Sp := fun vs H Q _ => ∃ (o dx c d : Addr) (w h l x y z : Int) (cs : Tab), vs = [.ref o, .int x, .int y, .int z] ∧ H o = some (.ins C dx (fB w h l c d)) ∧ H c = some (.dT cs) ∧
  ∀ H', Same H H' → Q (.bl (inB x w && inB y h && inB z l && (valV cs [.inl x, .inl y, .inl z]).isSome)) H'
theorem ok_Board_is_copper (T : Txt K mg t) : GoodM P w K mg base 4 t.c_Board "is_copper" ["self", "x", "y", "z"] (spIsCopper t.c_Board) := by
  obtain ⟨fd, F, b⟩ := T.F_Board_is_copper
  have G_Board_has_cell := ok_Board_has_cell (P := P) (w := w) (base := base) T
  refine ⟨T.cl_Board, _, fd, T.M_Board_is_copper, F.okX sc_Board_is_copper (fun vs H Q E h => ?_) (fun cdv A outer s H vs Q E hr h => ?_), b⟩
  · obtain ⟨o, dx, c, d, w, h, l, x, y, z, cs, rfl, _⟩ := h
    rfl
  · obtain ⟨o, dx, c, d, w, h, l, x, y, z, cs, rfl, ho, hc, q⟩ := h
    refine ⟨_, (pss_one (ps_ret (pe_and (pe_methG (pv 0) G_Board_has_cell (hr.mono (by decide)) passes_of (pa_cons (pe_tup (pa_cons (pv 1) (pa_cons (pv 2) (pa_cons (pv 3) pa_nil)))) pa_nil)) (pe_one (pe_cmp (pc_din (hu_of hr) (pe_tup (pa_cons (pv 1) (pa_cons (pv 2) (pa_cons (pv 3) pa_nil)))) (pe_fld (pv 0) rfl))))))), ?_⟩
    refine ⟨_, rfl, o, dx, _, rfl, ho, rfl, _, rfl, _, rfl, _, rfl, (by show 3 ≤ sizeLine; decide), fun p hp => ?_⟩
    have s1 : Same H (upd H p (.tup [.int x, .int y, .int z])) := same_new (Same.refl H) hp
    refine ⟨o, dx, c, d, p, w, h, l, x, y, z, rfl, s1 _ _ ho, upd_same, _, rfl, ?_⟩
    cases h1 : (inB x w && inB y h && inB z l) with
    | false => exact iteF (by have := q _ s1; rw [h1] at this; exact this)
    | true =>
      refine iteT ⟨_, rfl, _, rfl, _, rfl, (by show 3 ≤ sizeLine; decide), fun p2 hp2 => ?_⟩
      have s2 := same_new (o := .tup [.int x, .int y, .int z]) s1 hp2
      refine ⟨_, rfl, o, _, dx, _, .ref c, rfl, s2 _ _ ho, T.cl_Board, T.na_Board_copper, rfl, c, _, rfl, DGet.t (k := [.inl x, .inl y, .inl z]) (s2 _ _ hc) upd_same, ?_⟩
      have := q _ s2
      rw [h1, Bool.true_and] at this
      exact this
def spHasHole (C : Addr) : Sp := fun vs H Q _ => ∃ (o dx c d : Addr) (w h l x y : Int) (ds : Tab), vs = [.ref o, .int x, .int y] ∧ H o = some (.ins C dx (fB w h l c d)) ∧ H d = some (.dT ds) ∧
  ∀ H', Same H H' → Q (.bl (inB x w && inB y h && (valV ds [.inl x, .inl y]).isSome)) H'
theorem ok_Board_has_hole (T : Txt K mg t) : GoodM P w K mg base 3 t.c_Board "has_hole" ["self", "x", "y"] (spHasHole t.c_Board) := by
  obtain ⟨fd, F, b⟩ := T.F_Board_has_hole
  have G_Board_has_square := ok_Board_has_square (P := P) (w := w) (base := base) T
  refine ⟨T.cl_Board, _, fd, T.M_Board_has_hole, F.okX sc_Board_has_hole (fun vs H Q E h => ?_) (fun cdv A outer s H vs Q E hr h => ?_), b⟩
  · obtain ⟨o, dx, c, d, w, h, l, x, y, ds, rfl, _⟩ := h
    rfl
  · obtain ⟨o, dx, c, d, w, h, l, x, y, ds, rfl, ho, hd, q⟩ := h
    refine ⟨_, (pss_one (ps_ret (pe_and (pe_methG (pv 0) G_Board_has_square (hr.mono (by decide)) passes_of (pa_cons (pv 1) (pa_cons (pv 2) pa_nil))) (pe_one (pe_cmp (pc_din (hu_of hr) (pe_tup (pa_cons (pv 1) (pa_cons (pv 2) pa_nil))) (pe_fld (pv 0) rfl))))))), ?_⟩
    refine ⟨_, rfl, o, dx, _, rfl, ho, rfl, _, rfl, _, rfl, o, dx, c, d, w, h, l, x, y, rfl, ho, _, rfl, ?_⟩
    cases h1 : (inB x w && inB y h) with
    | false => exact iteF (by have := q _ (Same.refl H); rw [h1] at this; exact this)
    | true =>
      refine iteT ⟨_, rfl, _, rfl, (by show 2 ≤ sizeLine; decide), fun p2 hp2 => ?_⟩
      have s2 := same_new (o := .tup [.int x, .int y]) (Same.refl H) hp2
      refine ⟨_, rfl, o, _, dx, _, .ref d, rfl, s2 _ _ ho, T.cl_Board, T.na_Board_drilled, rfl, d, _, rfl, DGet.t (k := [.inl x, .inl y]) (s2 _ _ hd) upd_same, ?_⟩
      have := q _ s2
      rw [h1, Bool.true_and] at this
      exact this
end
end K15
set_option Elab.async false
set_option linter.all false
set_option maxRecDepth 100000
set_option maxHeartbeats 4000000
namespace K15
open PySem L2 Wd
def sgn (hole copper : Bool) : Nat := if hole then (if copper then 79 else 111) else if copper then 35 else 46
def sgnS (hole copper : Bool) : Str := ⟨#[sgn hole copper]⟩
def cuAt (cs : Tab) (x y z : Int) : Bool := (valV cs [.inl x, .inl y, .inl z]).isSome
def hoAt (ds : Tab) (x y : Int) : Bool := (valV ds [.inl x, .inl y]).isSome
section
variable {P : Program} {w : World} {K : PySem.W.Frag} {mg : Str → Option Value} {base : Heap} {t : Adr}
def spSignAt (C : Addr) : Sp := fun vs H Q _ => ∃ (o dx c d : Addr) (w h l x y z : Int) (cs ds : Tab), vs = [.ref o, .int x, .int y, .int z] ∧ H o = some (.ins C dx (fB w h l c d)) ∧ H c = some (.dT cs) ∧ H d = some (.dT ds) ∧ inB x w = true ∧ inB y h = true ∧ inB z l = true ∧
  ∀ H', Same H H' → Q (.str (sgnS (hoAt ds x y) (cuAt cs x y z))) H'
theorem ok_sign_at (T : Txt K mg t) : GoodF P w K mg base 5 "sign_at" ["board", "x", "y", "z"] (spSignAt t.c_Board) := by
  obtain ⟨fd, F, b⟩ := T.F_sign_at
  have G_Board_is_copper := ok_Board_is_copper (P := P) (w := w) (base := base) T
  have G_Board_has_hole := ok_Board_has_hole (P := P) (w := w) (base := base) T
  refine ⟨_, fd, F.okX sc_sign_at (fun vs H Q E h => ?_) (fun cdv A outer s H vs Q E hr h => ?_), b, F.kp, T.g_sign_at⟩
  · obtain ⟨o, dx, c, d, w, h, l, x, y, z, cs, ds, rfl, _⟩ := h
    rfl
  · obtain ⟨o, dx, c, d, w, h, l, x, y, z, cs, ds, rfl, ho, hc, hd, bx, bY, bz, q⟩ := h
    refine ⟨_, (pss_cons (ps_if (pt_val (pe_methG (pv 0) G_Board_has_hole (hr.mono (by decide)) passes_of (pa_cons (pv 1) (pa_cons (pv 2) pa_nil)))) (pss_one (ps_ret (pe_ifExp (pt_val (pe_methG (pv 0) G_Board_is_copper (hr.mono (by decide)) passes_of (pa_cons (pv 1) (pa_cons (pv 2) (pa_cons (pv 3) pa_nil))))) pe_str pe_str))) pss_nil)
      (pss_one (ps_ret (pe_ifExp (pt_val (pe_methG (pv 0) G_Board_is_copper (hr.mono (by decide)) passes_of (pa_cons (pv 1) (pa_cons (pv 2) (pa_cons (pv 3) pa_nil))))) pe_str pe_str)))), ?_⟩
    refine ⟨_, rfl, o, dx, _, rfl, ho, rfl, _, rfl, _, rfl, o, dx, c, d, w, h, l, x, y, ds, rfl, ho, hd, fun H1 s1 => ⟨_, rfl, ?_⟩⟩
    rw [bx, bY, Bool.true_and, Bool.true_and]
    cases hh : hoAt ds x y with
    | true =>
      rw [show (valV ds [.inl x, .inl y]).isSome = true from hh]
      refine iteT ⟨_, rfl, o, dx, _, rfl, s1 _ _ ho, rfl, _, rfl, _, rfl, _, rfl, o, dx, c, d, w, h, l, x, y, z, cs, rfl, s1 _ _ ho, s1 _ _ hc, fun H2 s2 => ⟨_, rfl, ?_⟩⟩
      rw [bx, bY, bz, Bool.true_and, Bool.true_and, Bool.true_and]
      have qq := q H2 (Same.trans s1 s2)
      rw [hh] at qq
      cases hu : cuAt cs x y z with
      | true => rw [show (valV cs [.inl x, .inl y, .inl z]).isSome = true from hu]; rw [hu] at qq; exact iteT qq
      | false => rw [show (valV cs [.inl x, .inl y, .inl z]).isSome = false from hu]; rw [hu] at qq; exact iteF qq
    | false =>
      rw [show (valV ds [.inl x, .inl y]).isSome = false from hh]
      refine iteF ⟨_, rfl, o, dx, _, rfl, s1 _ _ ho, rfl, _, rfl, _, rfl, _, rfl, o, dx, c, d, w, h, l, x, y, z, cs, rfl, s1 _ _ ho, s1 _ _ hc, fun H2 s2 => ⟨_, rfl, ?_⟩⟩
      rw [bx, bY, bz, Bool.true_and, Bool.true_and, Bool.true_and]
      have qq := q H2 (Same.trans s1 s2)
      rw [hh] at qq
      cases hu : cuAt cs x y z with
      | true => rw [show (valV cs [.inl x, .inl y, .inl z]).isSome = true from hu]; rw [hu] at qq; exact iteT qq
      | false => rw [show (valV cs [.inl x, .inl y, .inl z]).isSome = false from hu]; rw [hu] at qq; exact iteF qq
end
end K15
set_option Elab.async false
set_option linter.all false
set_option maxRecDepth 100000
set_option maxHeartbeats 4000000
namespace K15
open PySem L2 Wd
def rowL (cs ds : Tab) (w : Nat) (y z : Int) : List Nat := (List.range w).map fun (x : Nat) => sgn (hoAt ds (x : Int) y) (cuAt cs (x : Int) y z)
def rowS (cs ds : Tab) (w : Nat) (y z : Int) : Str := ⟨(rowL cs ds w y z).toArray⟩
def rowsP (cs ds : Tab) (w h n : Nat) : List Str := (List.range n).map fun k => rowS cs ds w ((k % h : Nat) : Int) ((k / h : Nat) : Int)
def headP (w h l : Int) : Str := rowT "board" [w, h, l]
def picT (cs ds : Tab) (w h l : Nat) : Str := linesT (headP w h l :: rowsP cs ds w h (h * l))
theorem join_signs (ks : List Nat) : Txt.join "" (ks.map fun k => (⟨#[k]⟩ : Str)) = ⟨ks.toArray⟩ := by
  rw [tjoin, empty_is]
  refine str_ext ?_
  rw [join0, List.flatMap_map]
  show (ks.flatMap fun k => [k]) = ks
  induction ks with
  | nil => rfl
  | cons a r ih => rw [List.flatMap_cons, ih]; rfl
theorem rowsP_succ (cs ds : Tab) (w h : Nat) (y z : Nat) (hy : y < h) : rowsP cs ds w h (z * h + (y + 1)) = rowsP cs ds w h (z * h + y) ++ [rowS cs ds w y z] := by
  unfold rowsP
  rw [← Nat.add_assoc, List.range_succ, List.map_append, List.map_singleton]
  have e1 : (z * h + y) % h = y := by rw [Nat.mul_comm, Nat.mul_add_mod, Nat.mod_eq_of_lt hy]
  have e2 : (z * h + y) / h = z := by rw [Nat.mul_comm, Nat.mul_add_div (by omega), Nat.div_eq_of_lt hy]; omega
  rw [e1, e2]
theorem headP_len {w h l : Nat} (bw : w ≤ 12) (bh : h ≤ 12) (bl : l ≤ 3) : (headP w h l).length ≤ 100000 := by
  have all : ∀ w : Fin 13, ∀ h : Fin 13, ∀ l : Fin 4, (headP ((w : Nat) : Int) ((h : Nat) : Int) ((l : Nat) : Int)).length ≤ 100000 := by decide +kernel
  exact all ⟨w, by omega⟩ ⟨h, by omega⟩ ⟨l, by omega⟩
section
variable {P : Program} {w : World} {K : PySem.W.Frag} {mg : Str → Option Value} {base : Heap} {t : Adr}
def spPicture (C : Addr) : Sp := fun vs H Q _ => ∃ (o dx c d : Addr) (w h l : Nat) (cs ds : Tab), vs = [.ref o] ∧ H o = some (.ins C dx (fB w h l c d)) ∧ H c = some (.dT cs) ∧ H d = some (.dT ds) ∧ w ≤ 12 ∧ 1 ≤ h ∧ h ≤ 12 ∧ l ≤ 3 ∧
  ∀ H', Same H H' → Q (.str (picT cs ds w h l)) H'
theorem ok_picture (T : Txt K mg t) : GoodF P w K mg base 6 "picture" ["board"] (spPicture t.c_Board) := by
  obtain ⟨fd, F, b⟩ := T.F_picture
  have G_sign_at := ok_sign_at (P := P) (w := w) (base := base) T
  have G_tell_row := ok_tell_row (P := P) (w := w) (base := base) T
  have G_tell_lines := ok_tell_lines (P := P) (w := w) (base := base) T
  refine ⟨_, fd, F.okX sc_picture (fun vs H Q E h => ?_) (fun cdv A outer s H vs Q E hr h => ?_), b, F.kp, T.g_picture⟩
  · obtain ⟨o, dx, c, d, w, h, l, cs, ds, rfl, _⟩ := h
    rfl
  · obtain ⟨o, dx, c, d, w, h, l, cs, ds, rfl, ho, hc, hd, bw, bh1, bh, bl, q⟩ := h
    refine ⟨_, (pss_cons (ps_set (i := 1) sc_picture.nd rfl (Or.inl rfl) (pe_lst (pa_cons (pe_callG G_tell_row (hr.mono (by decide)) passes_of (by rfl) (pa_cons pe_str (pa_cons (pe_lst (pa_cons (pe_fld (pv 0) rfl) (pa_cons (pe_fld (pv 0) rfl) (pa_cons (pe_fld (pv 0) rfl) pa_nil)))) pa_nil))) pa_nil)))
      (pss_cons (ps_for owns_of (pi_range1 rfl T.n_range (pa_cons (pe_fld (pv 0) rfl) pa_nil)) (pg_name (i := 2) sc_picture.nd rfl (Or.inr rfl)) (pss_one (ps_for owns_of (pi_range1 rfl T.n_range (pa_cons (pe_fld (pv 0) rfl) pa_nil)) (pg_name (i := 3) sc_picture.nd rfl (Or.inr rfl)) (pss_one (ps_expr (pe_bm PySem.F.plainAttrs_list PySem.F.slot_list_append PySem.F.type_list_append mt_append (pv 1) (pa_cons (pe_bm PySem.F.plainAttrs_str PySem.F.slot_str_join PySem.F.type_str_join mt_join pe_str (pa_cons (pe_comp (own := ["x"]) (cs_three (n1 := "z") (n2 := "y") (n3 := "board") (N := ["board", "rows", "z", "y"]) rfl (by rfl) (by rfl) rfl rfl rfl (by rfl) (by rfl) (by rfl) (by decide +kernel) (by decide +kernel) (by decide +kernel)) (pi_range1 rfl T.n_range (pa_cons (pe_fld (pv 0) rfl) pa_nil)) (fun _ _ _ _ _ => pg_name (i := 4) (by show (["board", "rows", "z", "y", "x"] : List Str).Nodup; decide +kernel) rfl (Or.inl rfl)) (fun _ _ _ _ _ => pf_nil) (fun _ _ _ _ _ => (pe_callG G_sign_at (hr.mono (by decide)) passX0 (by rfl) (pa_cons (pv 0) (pa_cons (pv 4) (pa_cons (pv 3) (pa_cons (pv 2) pa_nil))))))) pa_nil)) pa_nil)))))))
      (pss_one (ps_ret (pe_callG G_tell_lines (hr.mono (by decide)) passes_of (by rfl) (pa_cons (pv 1) pa_nil)))))), ?_⟩
    have lgs : ∀ n : Nat, n ≤ 12 → Lg (n : Int) := fun n hn => lg_small (by omega) (by omega)
    refine ⟨_, rfl, o, _, dx, _, .int w, rfl, ho, T.cl_Board, T.na_Board_wide, rfl, _, rfl, o, _, dx, _, .int h, rfl, ho, T.cl_Board, T.na_Board_high, rfl, _, rfl, o, _, dx, _, .int l, rfl, ho, T.cl_Board, T.na_Board_layers, rfl, (by show 3 ≤ sizeLine; decide), fun l1 hl1 => ?_⟩
    refine ⟨"board", l1, [(w : Int), (h : Int), (l : Int)], rfl, by decide +kernel, .inl (SqL.of upd_same), Nat.le_of_ble_eq_true rfl, fun n hn => ?_, fun H1 s1 => ?_⟩
    · simp only [List.mem_cons, List.not_mem_nil, or_false] at hn
      rcases hn with rfl | rfl | rfl
      · exact lgs w bw
      · exact lgs h bh
      · exact lgs l (by omega)
    have s1 := Same.trans (same_new (Same.refl H) hl1) s1
    refine ⟨(by show 1 ≤ sizeLine; decide), fun r hr1 => ?_⟩
    have nr : H r = none := s1.free hr1
    have s2 : Same H (upd H1 r (.lst [.str (headP w h l)])) := same_new s1 hr1
    have e2 : upd H1 r (.lst [.str (headP w h l)]) r = some (.lst [.str (headP w h l)]) := upd_same
    show tSeq _ _ _ _ (upd H1 r (.lst [.str (headP w h l)]))
    generalize upd H1 r (.lst [.str (headP w h l)]) = H2 at s2 e2
    let RI : Nat → Hp → Prop := fun k H' => Same H H' ∧ H' r = some (.lst ((headP w h l :: rowsP cs ds w h k).map V.str))
    refine ⟨_, rfl, o, _, dx, _, .int l, rfl, s2 _ _ ho, T.cl_Board, T.na_Board_layers, rfl, l, rfl, by omega, by omega, for_range (fun z σ H' => ∃ vz vy, σ = [some (.ref o), some (.ref r), vz, vy] ∧ RI (z * h) H') ⟨_, _, rfl, s2, ?_⟩ ?_ ?_⟩
    · rw [e2]; simp [rowsP]
    · rintro z σ H3 hz ⟨vz, vy, rfl, s3, e3⟩
      have hz2 : z < l := by omega
      refine ⟨_, rfl, o, _, dx, _, .int h, rfl, s3 _ _ ho, T.cl_Board, T.na_Board_high, rfl, h, rfl, by omega, by omega, for_range (fun y σ H' => ∃ vy, σ = [some (.ref o), some (.ref r), some (.int (0 + (z : Int))), vy] ∧ RI (z * h + y) H') ⟨_, rfl, s3, e3⟩ ?_ ?_⟩
      · rintro y σ H4 hy ⟨vy, rfl, s4, e4⟩
        have hy2 : y < h := by omega
        refine ⟨_, rfl, .inl ⟨rfl, _, SqL.of e4⟩, rfl, _, rfl, o, _, dx, _, .int w, rfl, s4 _ _ ho, T.cl_Board, T.na_Board_wide, rfl, w, rfl, by omega, by omega, ?_⟩
        refine comp_range (fun D i ys H' => H4 D = none ∧ Same H4 H' ∧ H' D = some (.lst ys) ∧ ys = ((rowL cs ds i y z).map fun k => (⟨#[k]⟩ : Str)).map V.str) (by rw [Int.toNat_natCast]; exact Nat.le_trans bw (by decide)) (fun D hD => ⟨hD, same_new (Same.refl H4) hD, upd_same, rfl⟩) (fun D i ys H' p => ⟨p.2.2.1, by rw [p.2.2.2]; simp [rowL]⟩) ?_ ?_
        · rintro D i ys H5 Qy Qn hi ⟨hD, s5, e5, rfl⟩ kY
          have hi2 : i < w := by omega
          refine ⟨⟨_, rfl, rfl⟩, iteT ⟨_, rfl, _, rfl, _, rfl, _, rfl, o, dx, c, d, (w : Int), (h : Int), (l : Int), 0 + (i : Int), 0 + (y : Int), 0 + (z : Int), cs, ds, rfl, s5 _ _ (s4 _ _ ho), s5 _ _ (s4 _ _ hc), s5 _ _ (s4 _ _ hd), ?_, ?_, ?_, fun H6 s6 => kY _ H6 (s6 _ _ e5) ⟨hD, ?_, upd_same, ?_⟩⟩⟩
          · unfold inB; rw [decide_eq_true (by omega), decide_eq_true (by omega)]; rfl
          · unfold inB; rw [decide_eq_true (by omega), decide_eq_true (by omega)]; rfl
          · unfold inB; rw [decide_eq_true (by omega), decide_eq_true (by omega)]; rfl
          · exact fun b u e => by rw [upd_ne (ne_of_none e hD)]; exact s6 _ _ (s5 _ _ e)
          · rw [Int.zero_add, Int.zero_add, Int.zero_add]
            unfold rowL
            rw [List.range_succ, List.map_append, List.map_append, List.map_append]
            rfl
        · rintro D ys H5 hD ⟨_, s5, e5, rfl⟩
          rw [Int.toNat_natCast] at e5
          refine ⟨"", D, (rowL cs ds w y z).map fun k => (⟨#[k]⟩ : Str), rfl, rfl, SqL.of e5, ?_, ?_⟩
          · have h1 := StrLaws.sumLen_le (B := 1) ((rowL cs ds w y z).map fun k => (⟨#[k]⟩ : Str)) fun b hb => by
              obtain ⟨k, _, rfl⟩ := List.mem_map.mp hb
              exact Nat.le_refl 1
            have e0 : ("" : Str).length = 0 := by decide +kernel
            have e1 : ((rowL cs ds w y z).map fun k => (⟨#[k]⟩ : Str)).length = w := by simp [rowL]
            rw [e0, Nat.mul_zero]
            rw [e1] at h1
            omega
          · rw [join_signs]
            have hk : z * h + y ≤ 36 := by
              have h1 : (z + 1) * h ≤ 3 * 12 := Nat.mul_le_mul (by omega) bh
              rw [Nat.add_mul, Nat.one_mul] at h1
              omega
            refine ⟨r, _, _, rfl, rfl, s5 _ _ e4, ?_, _, rfl, ?_, ?_⟩
            · simp only [List.length_map, List.length_cons, rowsP, List.length_range]
              exact Nat.lt_of_le_of_lt (Nat.succ_le_succ hk) (by decide)
            · exact fun b u e => by rw [upd_ne (ne_of_none e nr)]; exact s5 _ _ (s4 _ _ e)
            · rw [upd_same, rowsP_succ cs ds w h y z hy2, List.map_cons, List.map_cons, List.map_append]
              rfl
      · rintro σ H4 ⟨vy, rfl, s4, e4⟩
        refine ⟨_, _, rfl, s4, ?_⟩
        rw [e4]
        rw [Int.toNat_natCast, Nat.add_mul, Nat.one_mul]
    · rintro σ H3 ⟨vz, vy, rfl, s3, e3⟩
      have el : (l : Int).toNat * h = h * l := by rw [Int.toNat_natCast, Nat.mul_comm]
      rw [el] at e3
      refine ⟨_, rfl, r, headP w h l :: rowsP cs ds w h (h * l), rfl, SqL.of e3, ?_, fun x hx => ?_, fun H4 s4 => q H4 (Same.trans s3 s4)⟩
      · have : h * l ≤ 12 * 3 := Nat.mul_le_mul bh bl
        simp only [List.length_cons, rowsP, List.length_map, List.length_range]
        omega
      · rcases List.mem_cons.mp hx with rfl | hx
        · exact headP_len bw bh bl
        · obtain ⟨k, _, rfl⟩ := List.mem_map.mp hx
          show (rowS cs ds w _ _).length ≤ 100000
          unfold rowS Str.length
          simp only [List.size_toArray, rowL, List.length_map, List.length_range]
          omega
end
end K15
set_option Elab.async false
set_option linter.all false
set_option maxRecDepth 100000
set_option maxHeartbeats 4000000
namespace K15
open PySem L2 Wd
def isC (c : Nat) : Bool := c == 35 || c == 79
def isH (c : Nat) : Bool := c == 79 || c == 111
def drawC (cs : Tab) (s : List Nat) (y z : Int) : Nat → Tab
  | 0 => cs
  | n + 1 => if isC (s.getD n 0) then putK (drawC cs s y z n) [.inl (n : Int), .inl y, .inl z] (.bl true) else drawC cs s y z n
def drawH (ds : Tab) (s : List Nat) (y : Int) : Nat → Tab
  | 0 => ds
  | n + 1 => if isH (s.getD n 0) then putK (drawH ds s y n) [.inl (n : Int), .inl y] (.bl true) else drawH ds s y n
theorem drawC_put {cs : Tab} {s : List Nat} {y z : Int} {n c : Nat} (hg : s.getD n 0 = c) (h : isC c = true) : drawC cs s y z (n + 1) = putK (drawC cs s y z n) [.inl (n : Int), .inl y, .inl z] (.bl true) := by
  show (if isC (s.getD n 0) then _ else _) = _
  rw [hg, h]; rfl
theorem drawC_no {cs : Tab} {s : List Nat} {y z : Int} {n c : Nat} (hg : s.getD n 0 = c) (h : isC c = false) : drawC cs s y z (n + 1) = drawC cs s y z n := by
  show (if isC (s.getD n 0) then _ else _) = _
  rw [hg, h]; rfl
theorem drawH_put {ds : Tab} {s : List Nat} {y : Int} {n c : Nat} (hg : s.getD n 0 = c) (h : isH c = true) : drawH ds s y (n + 1) = putK (drawH ds s y n) [.inl (n : Int), .inl y] (.bl true) := by
  show (if isH (s.getD n 0) then _ else _) = _
  rw [hg, h]; rfl
theorem drawH_no {ds : Tab} {s : List Nat} {y : Int} {n c : Nat} (hg : s.getD n 0 = c) (h : isH c = false) : drawH ds s y (n + 1) = drawH ds s y n := by
  show (if isH (s.getD n 0) then _ else _) = _
  rw [hg, h]; rfl
theorem drawC_len (cs : Tab) (s : List Nat) (y z : Int) : ∀ n, (drawC cs s y z n).length ≤ cs.length + n
  | 0 => Nat.le_refl _
  | n + 1 => by
    have h := drawC_len cs s y z n
    unfold drawC
    split
    · exact Nat.le_trans (length_putK _ _ _) (by omega)
    · omega
theorem drawH_len (ds : Tab) (s : List Nat) (y : Int) : ∀ n, (drawH ds s y n).length ≤ ds.length + n
  | 0 => Nat.le_refl _
  | n + 1 => by
    have h := drawH_len ds s y n
    unfold drawH
    split
    · exact Nat.le_trans (length_putK _ _ _) (by omega)
    · omega
theorem sign_inC (c : Nat) : (!(Builtin.Str.occurrences ("#O" : Str) ⟨#[c]⟩ 0 ("#O" : Str).length 1).isEmpty) = isC c := by
  rw [StrLaws.found_one]
  have e : ("#O" : Str).cps.toList = [35, 79] := by decide +kernel
  rw [e, Bool.eq_iff_iff, decide_eq_true_iff]
  simp only [List.mem_cons, List.not_mem_nil, or_false, isC, Bool.or_eq_true, beq_iff_eq]
theorem sign_inH (c : Nat) : (!(Builtin.Str.occurrences ("Oo" : Str) ⟨#[c]⟩ 0 ("Oo" : Str).length 1).isEmpty) = isH c := by
  rw [StrLaws.found_one]
  have e : ("Oo" : Str).cps.toList = [79, 111] := by decide +kernel
  rw [e, Bool.eq_iff_iff, decide_eq_true_iff]
  simp only [List.mem_cons, List.not_mem_nil, or_false, isH, Bool.or_eq_true, beq_iff_eq]
theorem seq_split {a b : TS} {D : Ends} {σ : St} {H : Hp} (R : St → Hp → Prop) (h1 : (∀ σ H, R σ H → b D σ H) → tSeq a b D σ H) (h2 : ∀ σ H, R σ H → b D σ H) : tSeq a b D σ H := h1 h2
section
variable {P : Program} {w : World} {K : PySem.W.Frag} {mg : Str → Option Value} {base : Heap} {t : Adr}
def Two (c d : Addr) (H H' : Hp) : Prop := ∀ b u, b ≠ c → b ≠ d → H b = some u → H' b = some u
def spDrawRow (C : Addr) : Sp := fun vs H Q _ => ∃ (o dx c d : Addr) (w h l y z : Int) (row : Str) (cs ds : Tab), vs = [.ref o, .str row, .int y, .int z] ∧ H o = some (.ins C dx (fB w h l c d)) ∧ H c = some (.dT cs) ∧ H d = some (.dT ds) ∧ c ≠ d ∧ (row.cps.size : Int) ≤ w ∧ row.cps.size ≤ 12 ∧ inB y h = true ∧ inB z l = true ∧ cs.length ≤ 900 ∧ ds.length ≤ 900 ∧
  ∀ H', Two c d H H' → H' c = some (.dT (drawC cs row.cps.toList y z row.cps.size)) → H' d = some (.dT (drawH ds row.cps.toList y row.cps.size)) → Q .non H'
theorem ok_draw_row (T : Txt K mg t) : GoodF P w K mg base 6 "draw_row" ["board", "row", "y", "z"] (spDrawRow t.c_Board) := by
  obtain ⟨fd, F, b⟩ := T.F_draw_row
  have G_Board_put := ok_Board_put (P := P) (w := w) (base := base) T
  have G_Board_drill := ok_Board_drill (P := P) (w := w) (base := base) T
  refine ⟨_, fd, F.okX sc_draw_row (fun vs H Q E h => ?_) (fun cdv A outer s H vs Q E hr h => ?_), b, F.kp, T.g_draw_row⟩
  · obtain ⟨o, dx, c, d, w, h, l, y, z, row, cs, ds, rfl, _⟩ := h
    rfl
  · obtain ⟨o, dx, c, d, w, h, l, y, z, row, cs, ds, rfl, ho, hc, hd, ncd, hw, h12, hy, hz, hcs, hds, q⟩ := h
    refine ⟨_, (pss_one (ps_for owns_of (pi_enumS rfl rfl T.n_enumerate (pa_cons (pv 1) pa_nil)) (pg_tup rfl (pgs_cons (pg_name (i := 4) sc_draw_row.nd rfl (Or.inl rfl)) (pgs_cons (pg_name (i := 5) sc_draw_row.nd rfl (Or.inl rfl)) pgs_nil))) (pss_cons (ps_if (pt_cmpR op_in_str (pv 5) (pe_glob (v := .str "#O") (by rfl) T.g_COPPER_SIGNS ⟨_, rfl⟩) (by with_unfolding_all rfl)) (pss_one (ps_expr (pe_methG (pv 0) G_Board_put (hr.mono (by decide)) passes_of (pa_cons (pe_lst (pa_cons (pe_tup (pa_cons (pv 4) (pa_cons (pv 2) (pa_cons (pv 3) pa_nil)))) pa_nil)) pa_nil)))) pss_nil)
      (pss_one (ps_if (pt_cmpR op_in_str (pv 5) (pe_glob (v := .str "Oo") (by rfl) T.g_HOLE_SIGNS ⟨_, rfl⟩) (by with_unfolding_all rfl)) (pss_one (ps_expr (pe_methG (pv 0) G_Board_drill (hr.mono (by decide)) passes_of (pa_cons (pv 4) (pa_cons (pv 2) pa_nil))))) pss_nil))))), ?_⟩
    have noc : o ≠ c := ne_of ho hc (by intro z; cases z)
    have nod : o ≠ d := ne_of ho hd (by intro z; cases z)
    refine ⟨_, rfl, row, rfl, for_enumS (fun i σ H' => ∃ vx vs, σ = [some (.ref o), some (.str row), some (.int y), some (.int z), vx, vs] ∧ Two c d H H' ∧ H' c = some (.dT (drawC cs row.cps.toList y z i)) ∧ H' d = some (.dT (drawH ds row.cps.toList y i))) ⟨_, _, rfl, fun _ _ _ _ e => e, hc, hd⟩ ?_ ?_⟩
    · rintro i ch p σ H2 hch hp ⟨vx, vs, rfl, tw, e1, e2⟩
      have hi : i < row.cps.size := (Array.getElem?_eq_some_iff.mp hch).1
      have hg : row.cps.toList.getD i 0 = ch := by rw [List.getD_eq_getElem?_getD, Array.getElem?_toList, hch]; rfl
      have tw2 : Two c d H (upd H2 p (.tup [.int i, .str ⟨#[ch]⟩])) := fun b u n1 n2 e => by rw [upd_ne (ne_of_none (tw b u n1 n2 e) hp)]; exact tw b u n1 n2 e
      have f1 : upd H2 p (.tup [.int i, .str ⟨#[ch]⟩]) c = some (.dT (drawC cs row.cps.toList y z i)) := by rw [upd_ne (ne_of_none e1 hp)]; exact e1
      have f2 : upd H2 p (.tup [.int i, .str ⟨#[ch]⟩]) d = some (.dT (drawH ds row.cps.toList y i)) := by rw [upd_ne (ne_of_none e2 hp)]; exact e2
      have f3 : SqT K (upd H2 p (.tup [.int i, .str ⟨#[ch]⟩])) p [.int i, .str ⟨#[ch]⟩] := SqT.of upd_same
      generalize upd H2 p (.tup [.int i, .str ⟨#[ch]⟩]) = H3 at tw2 f1 f2 f3
      have bx : inB (i : Int) w = true := by unfold inB; rw [decide_eq_true (by omega), decide_eq_true (by omega)]; rfl
      refine ⟨p, _, rfl, f3, rfl, _, _, rfl, _, _, rfl, rfl, ?_⟩
      have lc := drawC_len cs row.cps.toList y z i
      have lh := drawH_len ds row.cps.toList y i
      refine seq_split (R := fun σ H' => σ = [some (.ref o), some (.str row), some (.int y), some (.int z), some (.int i), some (.str ⟨#[ch]⟩)] ∧ Two c d H H' ∧ H' c = some (.dT (drawC cs row.cps.toList y z (i + 1))) ∧ H' d = some (.dT (drawH ds row.cps.toList y i))) (fun nx => ?_) ?_
      · refine ⟨_, rfl, _, _, rfl, rfl, _, rfl, ?_⟩
        rw [sign_inC]
        refine iteB (fun hC => ?_) fun hC => nx _ _ ⟨rfl, tw2, ?_, f2⟩
        · have ho3 := tw2 _ _ noc nod ho
          refine ⟨_, rfl, o, dx, _, rfl, ho3, rfl, _, rfl, _, rfl, _, rfl, (by show 3 ≤ sizeLine; decide), fun p3 hp3 => ⟨(by show 1 ≤ sizeLine; decide), fun l4 hl4 => ?_⟩⟩
          have npl : p3 ≠ l4 := fun q => by rw [← q, upd_same] at hl4; cases hl4
          have kp : ∀ b u, H3 b = some u → upd (upd H3 p3 (.tup [.int i, .int y, .int z])) l4 (.lst [.ref p3]) b = some u := fun b u e => by
            have e' : upd H3 p3 (.tup [.int i, .int y, .int z]) b = some u := by rw [upd_ne (ne_of_none e hp3)]; exact e
            rw [upd_ne (ne_of_none e' hl4)]; exact e'
          refine ⟨o, dx, c, d, l4, p3, w, h, l, (i : Int), y, z, drawC cs row.cps.toList y z i, rfl, kp _ _ ho3, upd_same, by rw [upd_ne npl]; exact upd_same, by rw [bx, hy, hz]; rfl, kp _ _ f1, by omega, nx _ _ ⟨rfl, fun b u n1 n2 e => ?_, ?_, ?_⟩⟩
          · rw [upd_ne n1]; exact kp _ _ (tw2 b u n1 n2 e)
          · rw [upd_same, drawC_put hg hC]
          · rw [upd_ne (Ne.symm ncd)]; exact kp _ _ f2
        · rw [f1, drawC_no hg hC]
      · rintro σ H4 ⟨rfl, tw4, g1, g2⟩
        refine ⟨_, rfl, _, _, rfl, rfl, _, rfl, ?_⟩
        rw [sign_inH]
        refine iteB (fun hC => ?_) fun hC => ⟨_, _, rfl, tw4, g1, ?_⟩
        · have ho4 := tw4 _ _ noc nod ho
          refine ⟨_, rfl, o, dx, _, rfl, ho4, rfl, _, rfl, _, rfl, o, dx, c, d, w, h, l, (i : Int), y, drawH ds row.cps.toList y i, rfl, ho4, by rw [bx, hy]; rfl, g2, by omega, fun p5 hp5 => ⟨_, _, rfl, fun b u n1 n2 e => ?_, ?_, ?_⟩⟩
          · rw [upd_ne n2, upd_ne (ne_of_none (tw4 b u n1 n2 e) hp5)]; exact tw4 b u n1 n2 e
          · rw [upd_ne ncd, upd_ne (ne_of_none g1 hp5)]; exact g1
          · rw [upd_same, drawH_put hg hC]
        · rw [g2, drawH_no hg hC]
    · rintro σ H2 ⟨vx, vs, rfl, tw, e1, e2⟩
      exact q H2 tw e1 e2
end
end K15
set_option Elab.async false
set_option linter.all false
set_option maxRecDepth 100000
set_option maxHeartbeats 4000000
namespace K15
open PySem L2 Wd
def nsOf (ws : List Str) : List Int := ws.map fun w => numL w.cps.toList
def allN (ws : List Str) : Bool := ws.all fun w => isNumL w.cps.toList
structure HG (z : Str) (m1 m2 m3 : Int) : Prop where
  sp : ∃ ws, PySem.Txt.split z " " = ("board" : Str) :: ws ∧ allN ws = true ∧ nsOf ws = [m1, m2, m3]
  b1 : okM m1 12
  b2 : okM m2 12
  b3 : okM m3 3
section
variable {P : Program} {w : World} {K : PySem.W.Frag} {mg : Str → Option Value} {base : Heap} {t : Adr}
def spReadHead (C NP : Addr) : Sp := fun vs H Q E => ∃ z w0 ws, vs = [.str z] ∧ z.length ≤ 300000 ∧ PySem.Txt.split z " " = w0 :: ws ∧
  (∀ m1 m2 m3, HG z m1 m2 m3 → ∀ o dx c d H', Same H H' → H' o = some (.ins C dx (fB m1 m2 m3 c d)) → H' c = some (.dT []) → H' d = some (.dT []) → c ≠ d → H c = none → H d = none → Q (.ref o) H') ∧ ((¬ ∃ m1 m2 m3, HG z m1 m2 m3) → ∀ H', Same H H' → E (.ref NP) none H')
theorem ok_read_head (T : Txt K mg t) : GoodF P w K mg base 5 "read_head" ["row"] (spReadHead t.c_Board t.c_NoPicture) := by
  obtain ⟨fd, F, b⟩ := T.F_read_head
  have G_read_row := ok_read_row (P := P) (w := w) (base := base) T
  have G_Board := ok_Board_init (P := P) (w := w) (base := base) T
  refine ⟨_, fd, F.okX sc_read_head (fun vs H Q E h => ?_) (fun cdv A outer s H vs Q E hr h => ?_), b, F.kp, T.g_read_head⟩
  · obtain ⟨z, w0, ws, rfl, _⟩ := h
    rfl
  · obtain ⟨z, w0, ws, rfl, hz, hsp, qy, qn⟩ := h
    refine ⟨_, (pss_cons (ps_set (i := 1) sc_read_head.nd rfl (Or.inl rfl) (pe_callG G_read_row (hr.mono (by decide)) passes_of (by rfl) (pa_cons (pv 0) pa_nil)))
      (pss_cons (ps_if (pw_or (pt_cmp (pc_isN (pv 1))) (pw_or (pt_cmpR op_ne (pe_ix ix_tup (pv 1) pe_int (fun _ _ => rfl)) pe_str (nomark _)) (pw_or1 (pt_cmpR op_ne (pe_callB call_len_seq (by rfl) T.n_len b_len (pa_cons (pe_ix ix_tup (pv 1) pe_int (fun _ _ => rfl)) pa_nil)) pe_int (nomark _))))).pt (pss_one (ps_raise throws_of rfl T.e_NoPicture rfl (pa_cons pe_str pa_nil))) pss_nil)
      (pss_cons (ps_set (i := 2) sc_read_head.nd rfl (Or.inl rfl) (pe_ix ix_tup (pv 1) pe_int (fun _ _ => rfl)))
      (pss_one (ps_try0X rfl rfl rfl rfl (by rfl) T.g_NoBoard (fun _ _ _ hx => (pss_one (ps_ret (pe_makeG G_Board (hr.mono (by decide)) hx (by rfl) (pa_cons (pe_ix (ix_listK (K := K) rfl) (pv 2) pe_int (fun _ _ => rfl)) (pa_cons (pe_ix (ix_listK (K := K) rfl) (pv 2) pe_int (fun _ _ => rfl)) (pa_cons (pe_ix (ix_listK (K := K) rfl) (pv 2) pe_int (fun _ _ => rfl)) pa_nil))))))) (fun _ => ownsAt_of) (fun _ => (pss_one (ps_raiseN (throwsH_of.handX (fun _ => hr.hd rfl) (hr.hd rfl)) T.e_NoPicture rfl (pa_cons pe_str pa_nil))))))))), ?_⟩
    have rz : (¬ ∃ m1 m2 m3, HG z m1 m2 m3) → ∀ H', Same H H' → (1 ≤ sizeLine ∧ E (.ref t.c_NoPicture) none H') := fun n H' s => ⟨by decide, qn n H' s⟩
    have same : ∀ {m1 m2 m3}, HG z m1 m2 m3 → w0 = ("board" : Str) ∧ allN ws = true ∧ nsOf ws = [m1, m2, m3] := fun g => by
      obtain ⟨ws', e, a, n⟩ := g.sp
      rw [hsp] at e
      cases e
      exact ⟨rfl, a, n⟩
    refine ⟨_, rfl, z, w0, ws, rfl, hz, hsp, fun hf H1 s1 => ?_, fun ht p l H1 s1 hp hl => ?_⟩
    · refine ⟨_, rfl, _, rfl, iteT (rz (fun ⟨m1, m2, m3, g⟩ => ?_) H1 s1)⟩
      have := (same g).2.1
      rw [show allN ws = false from hf] at this; cases this
    · refine ⟨_, rfl, _, rfl, iteF ?_⟩
      have hN : ws.map (fun w => V.int (numL w.cps.toList)) = (nsOf ws).map V.int := by unfold nsOf; rw [List.map_map]; rfl
      rw [hN] at hl
      refine ⟨_, rfl, p, _, 0, .str w0, rfl, rfl, SqT.of hp, rfl, rfl, _, rfl, iteNB (fun hb => iteT (rz (fun ⟨m1, m2, m3, g⟩ => ?_) H1 s1)) fun hb => ?_⟩
      · have := (same g).1
        rw [this] at hb
        exact of_decide_eq_false hb rfl
      have hb : w0 = ("board" : Str) := V.str.inj (of_decide_eq_true hb)
      refine ⟨_, rfl, p, _, 1, .ref l, rfl, rfl, SqT.of hp, rfl, l, _, rfl, .inl (SqL.of hl), rfl, _, rfl, iteNB (fun h3 => rz (fun ⟨m1, m2, m3, g⟩ => ?_) H1 s1) fun h3 => ?_⟩
      · rw [(same g).2.2] at h3
        exact of_decide_eq_false h3 rfl
      have h3 : (nsOf ws).length = 3 := by
        have := V.int.inj (of_decide_eq_true h3)
        rw [List.length_map] at this
        omega
      obtain ⟨m1, m2, m3, hm⟩ : ∃ m1 m2 m3, nsOf ws = [m1, m2, m3] := by
        match hq : nsOf ws, h3 with
        | [a, b, c], _ => exact ⟨a, b, c, rfl⟩
      rw [hm] at hl
      have mk : okM m1 12 → okM m2 12 → okM m3 3 → HG z m1 m2 m3 := fun a b c => ⟨⟨ws, by rw [hsp, hb], ht, hm⟩, a, b, c⟩
      have S : SqL K H1 l [.int m1, .int m2, .int m3] := SqL.of hl
      refine ⟨_, rfl, p, _, 1, .ref l, rfl, rfl, SqT.of hp, rfl, ?_⟩
      refine ⟨_, rfl, l, _, 0, .int m1, rfl, rfl, S, rfl, _, rfl, l, _, 1, .int m2, rfl, rfl, S, rfl, _, rfl, l, _, 2, .int m3, rfl, rfl, S, rfl, fun o dx ho hdx ndo => ?_⟩
      have s2 : Same H (upd (upd H1 dx (.own o)) o (.ins t.c_Board dx [])) := same_new (same_new s1 hdx) (by rw [upd_ne (Ne.symm ndo)]; exact ho)
      have no : ∀ b u, H b = some u → b ≠ o := fun b u e q => by rw [q] at e; rw [s1 _ _ e] at ho; cases ho
      refine ⟨o, dx, m1, m2, m3, rfl, upd_same, fun g1 g2 g3 c d H2 k2 e0 e1 e2 nc nd ncd _ _ => ⟨rfl, qy m1 m2 m3 (mk g1 g2 g3) o dx c d H2 (fun b u e => k2 b u (no b u e) (s2 b u e)) e0 e1 e2 ncd (s2.free nc) (s2.free nd)⟩, fun ng => ?_⟩
      refine ⟨_, rfl, T.xm_NoBoard_NoBoard, fun ea oe σ1 hea => rz (fun ⟨a, b', c', g⟩ => ng ?_) _ (same_new s2 hea)⟩
      have e := (same g).2.2
      rw [hm] at e
      cases e
      exact ⟨g.b1, g.b2, g.b3⟩
end
end K15
set_option Elab.async false
set_option linter.all false
set_option maxRecDepth 100000
set_option maxHeartbeats 4000000
namespace K15
open PySem L2 Wd
section
variable {P : Program} {w : World} {K : PySem.W.Frag} {mg : Str → Option Value} {base : Heap} {t : Adr}
def noText (K : PySem.W.Frag) (H : Hp) : V → Prop
  | .non => True | .int _ => True | .bl _ => True | .ref a => ∃ xs, H a = some (.lst xs) | _ => False
def spReadLines (K : PySem.W.Frag) : Sp := fun vs H Q _ => (∃ v, vs = [v] ∧ noText K H v ∧ Q .non H) ∨ ∃ z : Str, vs = [.str z] ∧ z.length ≤ 300000 ∧ (PySem.Txt.endswith z "\n" = false → Q .non H) ∧ (PySem.Txt.endswith z "\n" = true → ∀ p H', Same H H' → H' p = some (.lst ((PySem.Txt.split z "\n").dropLast.map V.str)) → Q (.ref p) H')
theorem ok_read_lines (T : Txt K mg t) : GoodF P w K mg base 1 "read_lines" ["text"] (spReadLines K) := by
  obtain ⟨fd, F, b⟩ := T.F_read_lines
  refine ⟨_, fd, F.okX sc_read_lines (fun vs H Q E h => ?_) (fun cdv A outer s H vs Q E hr h => ?_), b, F.kp, T.g_read_lines⟩
  · rcases h with ⟨v, rfl, _⟩ | ⟨z, rfl, _⟩ <;> rfl
  · rcases h with ⟨v, rfl, hv, q⟩ | ⟨z, rfl, hz, qn, qy⟩
    · refine ⟨_, (pss_cons (ps_if (pw_or (pt_not (pt_val (pe_callB call_isi (by rfl) T.n_isinstance b_isinstance (pa_cons (pv 0) (pa_cons (pe_bltn (v := .ty "str") (by rfl) T.n_str b_str rfl) pa_nil))))) (pw_or1 (pt_not (pt_val (pe_bm PySem.F.plainAttrs_str PySem.F.slot_str_endswith PySem.F.type_str_endswith mt_endswith (pv 0) (pa_cons pe_str pa_nil)))))).pt (pss_one (ps_ret pe_non)) pss_nil)
      (pss_one (ps_ret (pe_slice sl_list (pe_bm PySem.F.plainAttrs_str PySem.F.slot_str_split PySem.F.type_str_split mt_split (pv 0) (pa_cons pe_str pa_nil)) po_none (po_some (pe_un un_neg pe_int)))))), ?_⟩
      cases v with
      | non => exact ⟨_, rfl, .non, .ty "str", _, _, false, rfl, .non, .ty _, by kernel_rfl, false, rfl, iteT q⟩
      | int n => exact ⟨_, rfl, .int n, .ty "str", _, _, false, rfl, .int n, .ty _, by kernel_rfl, false, rfl, iteT q⟩
      | bl n => exact ⟨_, rfl, .bl n, .ty "str", _, _, false, rfl, .bl n, .ty _, by kernel_rfl, false, rfl, iteT q⟩
      | ref a =>
        obtain ⟨xs, e⟩ := hv
        exact ⟨_, rfl, .ref a, .ty "str", _, _, false, rfl, .lst e, .ty _, by kernel_rfl, false, rfl, iteT q⟩
      | _ => exact hv.elim
    refine ⟨_, (pss_cons (ps_if (pw_or (pt_not (pt_val (pe_callB call_isi (by rfl) T.n_isinstance b_isinstance (pa_cons (pv 0) (pa_cons (pe_bltn (v := .ty "str") (by rfl) T.n_str b_str rfl) pa_nil))))) (pw_or1 (pt_not (pt_val (pe_bm PySem.F.plainAttrs_str PySem.F.slot_str_endswith PySem.F.type_str_endswith mt_endswith (pv 0) (pa_cons pe_str pa_nil)))))).pt (pss_one (ps_ret pe_non)) pss_nil)
      (pss_one (ps_ret (pe_slice sl_list (pe_bm PySem.F.plainAttrs_str PySem.F.slot_str_split PySem.F.type_str_split mt_split (pv 0) (pa_cons pe_str pa_nil)) po_none (po_some (pe_un un_neg pe_int)))))), ?_⟩
    refine ⟨_, rfl, _, _, _, _, _, rfl, .str z, .ty _, rfl, _, rfl, iteF ?_⟩
    refine ⟨_, rfl, rfl, z, "\n", rfl, rfl, _, rfl, iteNB (fun hf => qn hf) fun ht => ?_⟩
    have hz1 : z.length ≤ sizeLine := Nat.le_trans hz (by decide)
    have hw1 : (PySem.Txt.split z "\n").length ≤ sizeLine := Nat.le_trans (PyProof.Rows.split_le z "\n") (Nat.le_trans (show _ ≤ 300002 by omega) (by decide))
    refine ⟨_, rfl, rfl, z, "\n", rfl, rfl, by decide, hz1, hw1, fun p hp => ?_⟩
    refine ⟨1, rfl, _, rfl, p, _, rfl, SqL.of upd_same, fun q hq => qy ht q _ (same_new (same_new (Same.refl H) hp) hq) ?_⟩
    rw [upd_same, cutLast, List.dropLast_eq_take, List.dropLast_eq_take, List.map_take, List.length_map]
end
theorem empty_ext {x : Str} (h : x.cps.toList = []) : x = ("" : Str) := str_ext (h.trans (by decide +kernel))
theorem jl_last {c : Nat} {q : List Nat} (hq : q ≠ []) : ∀ ps : List (List Nat), (jl c (ps ++ [q])).getLast? = q.getLast?
  | [] => rfl
  | [x] => by
    show (x ++ c :: q).getLast? = _
    rw [List.getLast?_append, List.getLast?_cons]
    cases q with
    | nil => exact absurd rfl hq
    | cons a r => simp [List.getLast?_cons]
  | x :: y :: r => by
    have ih := jl_last (c := c) hq (y :: r)
    show (x ++ c :: jl c ((y :: r) ++ [q])).getLast? = _
    rw [List.getLast?_append, List.getLast?_cons, ih]
    cases q with
    | nil => exact absurd rfl hq
    | cons a r => simp [List.getLast?_cons]
theorem ends_last {z : Str} (h : PySem.Txt.endswith z "\n" = true) : PySem.Txt.split z "\n" = (PySem.Txt.split z "\n").dropLast ++ [("" : Str)] := by
  have hne := split_ne z "\n"
  obtain ⟨ps, q, e⟩ : ∃ ps q, PySem.Txt.split z "\n" = ps ++ [q] := ⟨_, _, (List.dropLast_concat_getLast hne).symm⟩
  have hj := StrLaws.join_split z "\n"
  rw [e] at hj ⊢
  rw [List.dropLast_concat]
  congr 2
  apply empty_ext
  apply Classical.byContradiction
  intro hq
  have hz : z.cps.toList = jl 10 (ps.map (fun p => p.cps.toList) ++ [q.cps.toList]) := by
    rw [← hj, nl_is, join_toList, List.map_append]; rfl
  have hf : 10 ∉ q.cps.toList := StrLaws.split_free z 10 q (by rw [← nl_is, e]; simp)
  rw [ends_nl, decide_eq_true_iff] at h
  have hl : z.cps.toList.getLast? = some 10 := by rw [List.getLast?_eq_getElem?]; exact h
  rw [hz, jl_last hq] at hl
  exact hf (List.mem_of_getLast? hl)
theorem spl (x : Str) : ∃ w0 ws, PySem.Txt.split x " " = w0 :: ws := by
  cases h : PySem.Txt.split x " " with
  | nil => exact absurd h (split_ne x " ")
  | cons a r => exact ⟨a, r, rfl⟩
theorem ends_rows {z : Str} (h : PySem.Txt.endswith z "\n" = true) : ∃ r0 signs, (PySem.Txt.split z "\n").dropLast = r0 :: signs := by
  cases hq : (PySem.Txt.split z "\n").dropLast with
  | cons a r => exact ⟨a, r, rfl⟩
  | nil =>
    have e := ends_last h
    rw [hq, List.nil_append] at e
    have e2 := StrLaws.join_split z ("\n" : Str)
    rw [show PySem.Txt.split z "\n" = [("" : Str)] from e] at e2
    rw [← e2] at h
    exact absurd h (by decide +kernel)
def vLen : V → V | .str r => .int (r.length : Int) | v => v
def allC (h : Nat) (signs : List Str) : Nat → Tab
  | 0 => []
  | k + 1 => drawC (allC h signs k) (signs.getD k "").cps.toList ((k % h : Nat) : Int) ((k / h : Nat) : Int) (signs.getD k "").cps.size
def allH (h : Nat) (signs : List Str) : Nat → Tab
  | 0 => []
  | k + 1 => drawH (allH h signs k) (signs.getD k "").cps.toList ((k % h : Nat) : Int) (signs.getD k "").cps.size
theorem allC_len (h : Nat) (signs : List Str) (b : ∀ r ∈ signs, r.cps.size ≤ 12) : ∀ k, (allC h signs k).length ≤ 12 * k
  | 0 => Nat.le_refl _
  | k + 1 => by
    have h1 := allC_len h signs b k
    have h2 := drawC_len (allC h signs k) (signs.getD k "").cps.toList ((k % h : Nat) : Int) ((k / h : Nat) : Int) (signs.getD k "").cps.size
    have h3 : (signs.getD k "").cps.size ≤ 12 := by
      rw [List.getD_eq_getElem?_getD]
      cases hq : signs[k]? with
      | none => decide
      | some r => exact b r (List.mem_of_getElem? hq)
    show (drawC _ _ _ _ _).length ≤ _
    omega
theorem allH_len (h : Nat) (signs : List Str) (b : ∀ r ∈ signs, r.cps.size ≤ 12) : ∀ k, (allH h signs k).length ≤ 12 * k
  | 0 => Nat.le_refl _
  | k + 1 => by
    have h1 := allH_len h signs b k
    have h2 := drawH_len (allH h signs k) (signs.getD k "").cps.toList ((k % h : Nat) : Int) (signs.getD k "").cps.size
    have h3 : (signs.getD k "").cps.size ≤ 12 := by
      rw [List.getD_eq_getElem?_getD]
      cases hq : signs[k]? with
      | none => decide
      | some r => exact b r (List.mem_of_getElem? hq)
    show (drawH _ _ _ _).length ≤ _
    omega
structure Good (z : Str) (w h l : Nat) : Prop where
  nl : PySem.Txt.endswith z "\n" = true
  hd : ∃ r0 signs, (PySem.Txt.split z "\n").dropLast = r0 :: signs ∧ HG r0 w h l ∧ signs.map (·.length) = List.replicate (h * l) w ∧ picT (allC h signs (h * l)) (allH h signs (h * l)) w h l = z
section
variable {P : Program} {w : World} {K : PySem.W.Frag} {mg : Str → Option Value} {base : Heap} {t : Adr}
def spReadPicture (K : PySem.W.Frag) (C NP : Addr) : Sp := fun vs H Q E => (∃ v, vs = [v] ∧ noText K H v ∧ E (.ref NP) none H) ∨ ∃ z, vs = [.str z] ∧ z.length ≤ 300000 ∧
  (∀ w h l, Good z w h l → ∀ o dx c d cs ds H', Same H H' → H' o = some (.ins C dx (fB w h l c d)) → H' c = some (.dT cs) → H' d = some (.dT ds) → picT cs ds w h l = z → Q (.ref o) H') ∧ ((¬ ∃ w h l, Good z w h l) → ∀ H', Same H H' → E (.ref NP) none H')
theorem ok_read_picture (T : Txt K mg t) : GoodF P w K mg base 7 "read_picture" ["text"] (spReadPicture K t.c_Board t.c_NoPicture) := by
  obtain ⟨fd, F, b⟩ := T.F_read_picture
  have G_read_lines := ok_read_lines (P := P) (w := w) (base := base) T
  have G_read_head := ok_read_head (P := P) (w := w) (base := base) T
  have G_draw_row := ok_draw_row (P := P) (w := w) (base := base) T
  have G_picture := ok_picture (P := P) (w := w) (base := base) T
  refine ⟨_, fd, F.okX sc_read_picture (fun vs H Q E h => ?_) (fun cdv A outer s H vs Q E hr h => ?_), b, F.kp, T.g_read_picture⟩
  · rcases h with ⟨v, rfl, _⟩ | ⟨z, rfl, _⟩ <;> rfl
  · rcases h with ⟨v, rfl, hv, q⟩ | ⟨z, rfl, hz, qy, qn⟩
    · refine ⟨_, (pss_cons (ps_set (i := 1) sc_read_picture.nd rfl (Or.inl rfl) (pe_callG G_read_lines (hr.mono (by decide)) passes_of (by rfl) (pa_cons (pv 0) pa_nil)))
      (pss_cons (ps_if (pt_cmp (pc_isN (pv 1))) (pss_one (ps_raise throws_of rfl T.e_NoPicture rfl (pa_cons pe_str pa_nil))) pss_nil)
      (pss_cons (ps_set (i := 2) sc_read_picture.nd rfl (Or.inl rfl) (pe_callG G_read_head (hr.mono (by decide)) passes_of (by rfl) (pa_cons (pe_ix ix_list (pv 1) pe_int (fun _ _ => rfl)) pa_nil)))
      (pss_cons (ps_set (i := 3) sc_read_picture.nd rfl (Or.inl rfl) (pe_slice sl_list (pv 1) (po_some pe_int) po_none))
      (pss_cons (ps_if (pt_cmpR (op_ne_list hr.units0) (pe_compN (N0 := ["text", "rows", "board", "signs", ".row", "number"]) (own := ["row"]) (cs_nilN (N := ["text", "rows", "board", "signs", "row", "number"]) rfl (by rfl) (by decide +kernel) (by decide +kernel) rfl (by decide +kernel)) (pi_list (pv 3)) (fun _ _ _ _ _ => pg_name (i := 6) (by show (["text", "rows", "board", "signs", ".row", "number", "row"] : List Str).Nodup; decide +kernel) rfl (Or.inl rfl)) (fun _ _ _ _ _ => pf_nil) (fun _ _ _ _ _ => (pe_callB call_len_str (by rfl) T.n_len b_len (pa_cons (pv 6) pa_nil)))) (pe_op op_rep (pe_lst (pa_cons (pe_fld (pv 2) rfl) pa_nil)) (pe_op op_mul (pe_fld (pv 2) rfl) (pe_fld (pv 2) rfl))) (nomark _)) (pss_one (ps_raise throws_of rfl T.e_NoPicture rfl (pa_cons pe_str pa_nil))) pss_nil)
      (pss_cons (ps_for owns_of (pi_enumL rfl rfl T.n_enumerate (pa_cons (pv 3) pa_nil)) (pg_tup rfl (pgs_cons (pg_name (i := 5) sc_read_picture.nd rfl (Or.inl rfl)) (pgs_cons (pg_name (i := 4) sc_read_picture.nd rfl (Or.inl rfl)) pgs_nil))) (pss_one (ps_expr (pe_callG G_draw_row (hr.mono (by decide)) passes_of (by rfl) (pa_cons (pv 2) (pa_cons (pv 4) (pa_cons (pe_op op_mod (pv 5) (pe_fld (pv 2) rfl)) (pa_cons (pe_op op_fdiv (pv 5) (pe_fld (pv 2) rfl)) pa_nil))))))))
      (pss_cons (ps_if (pt_cmpR op_ne (pe_callG G_picture (hr.mono (by decide)) passes_of (by rfl) (pa_cons (pv 2) pa_nil)) (pv 0) (nomark _)) (pss_one (ps_raise throws_of rfl T.e_NoPicture rfl (pa_cons pe_str pa_nil))) pss_nil)
      (pss_one (ps_ret (pv 2)))))))))), ?_⟩
      exact ⟨_, rfl, .inl ⟨v, rfl, hv, ⟨_, rfl, _, rfl, iteT ⟨by show 1 ≤ sizeLine; decide, q⟩⟩⟩⟩
    · refine ⟨_, (pss_cons (ps_set (i := 1) sc_read_picture.nd rfl (Or.inl rfl) (pe_callG G_read_lines (hr.mono (by decide)) passes_of (by rfl) (pa_cons (pv 0) pa_nil)))
      (pss_cons (ps_if (pt_cmp (pc_isN (pv 1))) (pss_one (ps_raise throws_of rfl T.e_NoPicture rfl (pa_cons pe_str pa_nil))) pss_nil)
      (pss_cons (ps_set (i := 2) sc_read_picture.nd rfl (Or.inl rfl) (pe_callG G_read_head (hr.mono (by decide)) passes_of (by rfl) (pa_cons (pe_ix ix_list (pv 1) pe_int (fun _ _ => rfl)) pa_nil)))
      (pss_cons (ps_set (i := 3) sc_read_picture.nd rfl (Or.inl rfl) (pe_slice sl_list (pv 1) (po_some pe_int) po_none))
      (pss_cons (ps_if (pt_cmpR (op_ne_list hr.units0) (pe_compN (N0 := ["text", "rows", "board", "signs", ".row", "number"]) (own := ["row"]) (cs_nilN (N := ["text", "rows", "board", "signs", "row", "number"]) rfl (by rfl) (by decide +kernel) (by decide +kernel) rfl (by decide +kernel)) (pi_list (pv 3)) (fun _ _ _ _ _ => pg_name (i := 6) (by show (["text", "rows", "board", "signs", ".row", "number", "row"] : List Str).Nodup; decide +kernel) rfl (Or.inl rfl)) (fun _ _ _ _ _ => pf_nil) (fun _ _ _ _ _ => (pe_callB call_len_str (by rfl) T.n_len b_len (pa_cons (pv 6) pa_nil)))) (pe_op op_rep (pe_lst (pa_cons (pe_fld (pv 2) rfl) pa_nil)) (pe_op op_mul (pe_fld (pv 2) rfl) (pe_fld (pv 2) rfl))) (nomark _)) (pss_one (ps_raise throws_of rfl T.e_NoPicture rfl (pa_cons pe_str pa_nil))) pss_nil)
      (pss_cons (ps_for owns_of (pi_enumL rfl rfl T.n_enumerate (pa_cons (pv 3) pa_nil)) (pg_tup rfl (pgs_cons (pg_name (i := 5) sc_read_picture.nd rfl (Or.inl rfl)) (pgs_cons (pg_name (i := 4) sc_read_picture.nd rfl (Or.inl rfl)) pgs_nil))) (pss_one (ps_expr (pe_callG G_draw_row (hr.mono (by decide)) passes_of (by rfl) (pa_cons (pv 2) (pa_cons (pv 4) (pa_cons (pe_op op_mod (pv 5) (pe_fld (pv 2) rfl)) (pa_cons (pe_op op_fdiv (pv 5) (pe_fld (pv 2) rfl)) pa_nil))))))))
      (pss_cons (ps_if (pt_cmpR op_ne (pe_callG G_picture (hr.mono (by decide)) passes_of (by rfl) (pa_cons (pv 2) pa_nil)) (pv 0) (nomark _)) (pss_one (ps_raise throws_of rfl T.e_NoPicture rfl (pa_cons pe_str pa_nil))) pss_nil)
      (pss_one (ps_ret (pv 2)))))))))), ?_⟩
      have rz : (¬ ∃ w h l, Good z w h l) → ∀ H', Same H H' → (1 ≤ sizeLine ∧ E (.ref t.c_NoPicture) none H') := fun n H' s => ⟨by decide, qn n H' s⟩
      refine ⟨_, rfl, .inr ⟨z, rfl, hz, fun he => ⟨_, rfl, _, rfl, iteT (rz (fun ⟨w, h, l, g⟩ => ?_) H (Same.refl H))⟩, fun he p H1 s1 hp => ⟨_, rfl, _, rfl, iteF ?_⟩⟩⟩
      · rw [g.nl] at he; cases he
      · obtain ⟨r0, signs, hrows⟩ := ends_rows he
        rw [hrows] at hp
        obtain ⟨w0, ws, hsp⟩ := spl r0
        have mem : ∀ a ∈ r0 :: signs, a.length ≤ 300000 := fun a ha => Nat.le_trans (PyProof.Rows.part_short (y := "\n") (List.dropLast_subset _ (hrows ▸ ha))) hz
        refine ⟨_, rfl, p, _, 0, .str r0, rfl, rfl, SqL.of hp, atI_nat (j := 0) rfl, r0, w0, ws, rfl, mem _ (List.mem_cons_self ..), hsp, fun m1 m2 m3 g o dx c d H2 s2 ho hc hd ncd nc1 nd1 => ?_, fun ng H2 s2 => qn (fun ⟨w, h, l, gg⟩ => ng ?_) H2 (Same.trans s1 s2)⟩
        · obtain ⟨w, rfl⟩ := Int.eq_ofNat_of_zero_le (show 0 ≤ m1 by have := g.b1.1; omega)
          obtain ⟨h, rfl⟩ := Int.eq_ofNat_of_zero_le (show 0 ≤ m2 by have := g.b2.1; omega)
          obtain ⟨l, rfl⟩ := Int.eq_ofNat_of_zero_le (show 0 ≤ m3 by have := g.b3.1; omega)
          have bw : 1 ≤ w ∧ w ≤ 12 := ⟨by have := g.b1.1; omega, by have := g.b1.2; omega⟩
          have bh : 1 ≤ h ∧ h ≤ 12 := ⟨by have := g.b2.1; omega, by have := g.b2.2; omega⟩
          have bl : 1 ≤ l ∧ l ≤ 3 := ⟨by have := g.b3.1; omega, by have := g.b3.2; omega⟩
          have s12 := Same.trans s1 s2
          refine ⟨_, rfl, _, rfl, p, _, rfl, SqL.of (s2 _ _ hp), fun q hq => ?_⟩
          rw [cut1]
          have s3 : Same H (upd H2 q (.lst (signs.map V.str))) := same_new s12 hq
          have e3 : upd H2 q (.lst (signs.map V.str)) q = some (.lst (signs.map V.str)) := upd_same
          have k3 : Same H2 (upd H2 q (.lst (signs.map V.str))) := same_new (Same.refl H2) hq
          have ho3 := k3 _ _ ho
          have hc3 := k3 _ _ hc
          have hd3 := k3 _ _ hd
          show tSeq _ _ _ _ (upd H2 q (.lst (signs.map V.str)))
          generalize upd H2 q (.lst (signs.map V.str)) = H3 at s3 e3 ho3 hc3 hd3
          have hsl : signs.length ≤ 300002 := by
            have h1 := PyProof.Rows.split_le z "\n"
            have h2 : ((PySem.Txt.split z "\n").dropLast).length ≤ (PySem.Txt.split z "\n").length := by rw [List.length_dropLast]; omega
            rw [hrows, List.length_cons] at h2
            omega
          have hsl1 : (signs.map V.str).length ≤ sizeLine := by rw [List.length_map]; exact Nat.le_trans hsl (by decide)
          refine ⟨_, rfl, q, rfl, ⟨_, SqL.of e3⟩, comp_grow (xs := signs.map V.str) (fun _ => true) vLen (SqL.of e3) hsl1 (fun x hx H' Qy Qn _ hy _ => ?_) fun D H4 hD s4 eD => ?_⟩
          · obtain ⟨a, ha, rfl⟩ := List.mem_map.mp hx
            exact ⟨⟨_, rfl, rfl⟩, iteT ⟨_, rfl, a, rfl, Nat.le_trans (mem a (List.mem_cons_of_mem _ ha)) (by decide), hy rfl H' (Same.refl H')⟩⟩
          · have eN : H4 D = some (.lst ((signs.map fun r => (r.length : Int)).map V.int)) := by
              rw [eD, List.filter_eq_self.mpr (fun _ _ => rfl), List.map_map, List.map_map]; rfl
            refine ⟨_, rfl, o, _, dx, _, .int w, rfl, s4 _ _ ho3, T.cl_Board, T.na_Board_wide, rfl, (by show 1 ≤ sizeLine; decide), fun l5 hl5 => ?_⟩
            have nD5 : D ≠ l5 := ne_of_none eN hl5
            have k5 : Same H4 (upd H4 l5 (.lst [.int w])) := same_new (Same.refl H4) hl5
            refine ⟨_, rfl, o, _, dx, _, .int h, rfl, k5 _ _ (s4 _ _ ho3), T.cl_Board, T.na_Board_high, rfl, _, rfl, o, _, dx, _, .int l, rfl, k5 _ _ (s4 _ _ ho3), T.cl_Board, T.na_Board_layers, rfl, (h : Int), (l : Int), rfl, rfl, .inl ⟨by omega, by omega⟩, ?_⟩
            have ehl : (h : Int) * (l : Int) = ((h * l : Nat) : Int) := by simp
            have b36 : h * l ≤ 12 * 3 := Nat.mul_le_mul bh.2 bl.2
            refine ⟨l5, ((h * l : Nat) : Int), [.int w], rfl, congrArg V.int ehl, upd_same, by omega, by omega, by rw [Int.toNat_natCast]; exact Nat.le_trans (show 1 * (h * l) ≤ 36 by omega) (by decide), fun p6 hp6 => ?_⟩
            have k6 := same_new (o := .lst (List.replicate ((h * l : Nat) : Int).toNat [.int w]).flatten) k5 hp6
            have e6 : upd (upd H4 l5 (.lst [.int w])) p6 (.lst (List.replicate ((h * l : Nat) : Int).toNat [V.int w]).flatten) p6 = some (.lst ((List.replicate (h * l) (w : Int)).map V.int)) := by
              rw [upd_same, Int.toNat_natCast]
              congr 2
              clear e3 eN eD b36 ehl
              induction h * l with
              | zero => rfl
              | succ n ih => rw [List.replicate_succ, List.flatten_cons, ih, List.replicate_succ, List.map_cons]; rfl
            generalize upd (upd H4 l5 (.lst [.int w])) p6 (.lst (List.replicate ((h * l : Nat) : Int).toNat [V.int w]).flatten) = H6 at k6 e6
            have s6 : Same H H6 := Same.trans (Same.trans s3 s4) k6
            refine ⟨D, p6, _, _, rfl, rfl, SqL.of (k6 _ _ eN), SqL.of e6, _, rfl, iteNB (fun hf => rz (fun ⟨w', h', l', gg⟩ => ?_) H6 s6) fun ht => ?_⟩
            · obtain ⟨r0', signs', e, hg, hlen, _⟩ := gg.hd
              rw [hrows] at e
              cases e
              obtain ⟨ws', es, _, en⟩ := hg.sp
              obtain ⟨ws2, es2, _, en2⟩ := g.sp
              rw [es] at es2
              cases es2
              rw [en] at en2
              cases en2
              refine of_decide_eq_false hf ?_
              have := congrArg (List.map fun n : Nat => (n : Int)) hlen
              rw [List.map_map, List.map_replicate] at this
              exact this
            · have hlen : signs.map (·.length) = List.replicate (h * l) w := by
                have e := of_decide_eq_true ht
                refine (List.map_inj_right (f := fun n : Nat => (n : Int)) fun x y h => Int.ofNat.inj h).mp ?_
                rw [List.map_map, List.map_replicate]
                exact e
              have hsn : signs.length = h * l := by
                have := congrArg List.length hlen
                rwa [List.length_map, List.length_replicate] at this
              have hrw : ∀ r ∈ signs, r.cps.size = w := fun r hr => by
                have : r.length ∈ List.replicate (h * l) w := hlen ▸ List.mem_map.mpr ⟨r, hr, rfl⟩
                exact (List.mem_replicate.mp this).2
              have b12 : ∀ r ∈ signs, r.cps.size ≤ 12 := fun r hr => by rw [hrw r hr]; exact bw.2
              have ho6 := k6 _ _ (s4 _ _ ho3)
              have hc6 := k6 _ _ (s4 _ _ hc3)
              have hd6 := k6 _ _ (s4 _ _ hd3)
              have hq6 := k6 _ _ (s4 _ _ e3)
              have noc : o ≠ c := ne_of ho6 hc6 (by intro z; cases z)
              have nod : o ≠ d := ne_of ho6 hd6 (by intro z; cases z)
              have nqc : q ≠ c := ne_of hq6 hc6 (by intro z; cases z)
              have nqd : q ≠ d := ne_of hq6 hd6 (by intro z; cases z)
              refine ⟨_, rfl, q, rfl, ⟨_, SqL.of hq6⟩, for_enumL (xs := signs.map V.str) (fun k σ H' => ∃ vr vn, σ = [some (.str z), some (.ref p), some (.ref o), some (.ref q), vr, vn] ∧ Two c d H6 H' ∧ H' c = some (.dT (allC h signs k)) ∧ H' d = some (.dT (allH h signs k))) ⟨_, _, rfl, fun _ _ _ _ e => e, hc6, hd6⟩ (fun k σ H' _ ⟨_, _, _, tw, _, _⟩ => SqL.of (tw _ _ nqc nqd hq6)) ?_ ?_⟩
              · rintro k x p7 σ H7 hx hp7 ⟨vr, vn, rfl, tw, e1, e2⟩
                rw [List.getElem?_map] at hx
                obtain ⟨r, hr, rfl⟩ := Option.map_eq_some_iff.mp hx
                have hk : k < h * l := by rw [← hsn]; exact (List.getElem?_eq_some_iff.mp hr).1
                have hrm : r ∈ signs := List.mem_of_getElem? hr
                have hg : signs.getD k "" = r := by rw [List.getD_eq_getElem?_getD, hr]; rfl
                have kk : Same H7 (upd H7 p7 (.tup [.int k, .str r])) := same_new (Same.refl H7) hp7
                refine ⟨p7, _, rfl, SqT.of upd_same, rfl, _, _, rfl, _, _, rfl, rfl, ?_⟩
                have ho7 := kk _ _ (tw _ _ noc nod ho6)
                have lc := allC_len h signs b12 k
                have lh := allH_len h signs b12 k
                have q1 : k % h < h := Nat.mod_lt _ (by omega)
                have q2 : k / h < l := Nat.div_lt_of_lt_mul hk
                refine ⟨_, rfl, _, rfl, _, rfl, _, rfl, o, _, dx, _, .int h, rfl, ho7, T.cl_Board, T.na_Board_high, rfl, (k : Int), (h : Int), rfl, rfl, (by show (0 : Int) < h; omega), _, rfl, _, rfl, o, _, dx, _, .int h, rfl, ho7, T.cl_Board, T.na_Board_high, rfl, (k : Int), (h : Int), rfl, rfl, ⟨by omega, by omega⟩, ?_⟩
                refine ⟨o, dx, c, d, (w : Int), (h : Int), (l : Int), ((k % h : Nat) : Int), ((k / h : Nat) : Int), r, allC h signs k, allH h signs k, rfl, ho7, kk _ _ e1, kk _ _ e2, ncd, by rw [hrw r hrm]; omega, b12 r hrm, ?_, ?_, by omega, by omega, fun H8 tw8 f1 f2 => ⟨_, _, rfl, fun b u n1 n2 e => tw8 b u n1 n2 (kk _ _ (tw b u n1 n2 e)), ?_, ?_⟩⟩
                · unfold inB; rw [decide_eq_true (Int.natCast_nonneg _), decide_eq_true (Int.ofNat_lt.mpr q1)]; rfl
                · unfold inB; rw [decide_eq_true (Int.natCast_nonneg _), decide_eq_true (Int.ofNat_lt.mpr q2)]; rfl
                · rw [f1]; show _ = some (HO.dT (drawC (allC h signs k) (signs.getD k "").cps.toList _ _ (signs.getD k "").cps.size)); rw [hg]
                · rw [f2]; show _ = some (HO.dT (drawH (allH h signs k) (signs.getD k "").cps.toList _ (signs.getD k "").cps.size)); rw [hg]
              · rintro σ H7 ⟨vr, vn, rfl, tw, e1, e2⟩
                rw [List.length_map, hsn] at e1 e2
                have s7 : Same H H7 := fun b u e => tw b u (fun z => by rw [z, s1.free nc1] at e; cases e) (fun z => by rw [z, s1.free nd1] at e; cases e) (s6 b u e)
                have ho7 := tw _ _ noc nod ho6
                refine ⟨_, rfl, o, dx, c, d, w, h, l, allC h signs (h * l), allH h signs (h * l), rfl, ho7, e1, e2, bw.2, bh.1, bh.2, bl.2, fun H9 s9 => ⟨_, rfl, rfl, _, rfl, iteNB (fun hf => rz (fun ⟨w', h', l', gg⟩ => ?_) H9 (Same.trans s7 s9)) fun ht => ?_⟩⟩
                · obtain ⟨r0', signs', e, hg, hlen', hpic⟩ := gg.hd
                  rw [hrows] at e
                  cases e
                  obtain ⟨ws', es, _, en⟩ := hg.sp
                  obtain ⟨ws2, es2, _, en2⟩ := g.sp
                  rw [es] at es2
                  cases es2
                  rw [en] at en2
                  cases en2
                  exact of_decide_eq_false hf (congrArg V.str hpic)
                · have hpic := V.str.inj (of_decide_eq_true ht)
                  exact ⟨_, rfl, qy w h l ⟨he, r0, signs, hrows, g, hlen, hpic⟩ o dx c d _ _ H9 (Same.trans s7 s9) (s9 _ _ ho7) (s9 _ _ e1) (s9 _ _ e2) hpic⟩
        · obtain ⟨r0', signs', e, hg, _⟩ := gg.hd
          rw [hrows] at e
          cases e
          exact ⟨_, _, _, hg⟩
end
end K15
set_option Elab.async false
set_option linter.all false
set_option maxRecDepth 100000
set_option maxHeartbeats 4000000
namespace K15
open PySem L2 Wd
section
variable {P : Program} {w : World} {K : PySem.W.Frag} {mg : Str → Option Value} {base : Heap} {t : Adr}
def spRefused (K : PySem.W.Frag) : Sp := fun vs H Q _ => ∃ v, vs = [v] ∧ (noText K H v ∨ ∃ z, v = .str z ∧ z.length ≤ 300000 ∧ ¬ ∃ w h l, Good z w h l) ∧ ∀ H', Same H H' → Q (.bl true) H'
theorem ok_law_refused (T : Txt K mg t) : GoodF P w K mg base 8 "_law_refused" ["_law_text_here"] (spRefused K) := by
  obtain ⟨fd, F, b⟩ := T.F_law_refused
  have G_read_picture := ok_read_picture (P := P) (w := w) (base := base) T
  refine ⟨_, fd, F.okX sc_law_refused (fun vs H Q E h => ?_) (fun cdv A outer s H vs Q E hr h => ?_), b, F.kp, T.g__law_refused⟩
  · obtain ⟨v, rfl, _⟩ := h
    rfl
  · obtain ⟨v, rfl, hv, q⟩ := h
    refine ⟨_, (pss_cons (ps_set (i := 1) sc_law_refused.nd rfl (Or.inl rfl) pe_bl)
      (pss_cons (ps_tryF (i := 2) rfl rfl rfl rfl sc_law_refused.nd rfl rfl (by rfl) T.g_NoPicture (fun _ _ _ hx => (pss_one (ps_expr (pe_callGS G_read_picture (hr.mono (by decide)) hx (by rfl) (pa_cons (pv 0) pa_nil))))) (fun _ => (pss_cons (ps_set (i := 1) sc_law_refused.nd rfl (Or.inl rfl) (pe_and (pe_callB (call_isiEK (K := K) rfl) (by rfl) T.n_isinstance b_isinstance (pa_cons (pv 2) (pa_cons (pe_glob (v := .ref t.c_CopperError) (by rfl) T.g_CopperError rfl) pa_nil))) (pe_one (pe_callB (call_isiEK (K := K) rfl) (by rfl) T.n_isinstance b_isinstance (pa_cons (pv 2) (pa_cons (pe_bltn (v := .ty "ValueError") (by rfl) T.n_ValueError b_ValueError rfl) pa_nil))))))
      (pss_one (ps_set (i := 1) sc_law_refused.nd rfl (Or.inl rfl) (pe_and (pv 1) (pe_and (pe_not (pe_callB (call_isiEK (K := K) rfl) (by rfl) T.n_isinstance b_isinstance (pa_cons (pv 2) (pa_cons (pe_glob (v := .ref t.c_NoBoard) (by rfl) T.g_NoBoard rfl) pa_nil)))) (pe_one (pe_not (pe_callB (call_isiEK (K := K) rfl) (by rfl) T.n_isinstance b_isinstance (pa_cons (pv 2) (pa_cons (pe_glob (v := .ref t.c_NoPlace) (by rfl) T.g_NoPlace rfl) pa_nil))))))))))))
      (pss_one (ps_ret (pv 1))))), ?_⟩
    rcases hv with hv | ⟨z, rfl, hz, ng⟩
    · refine ⟨_, rfl, .inl ⟨v, rfl, hv, _, rfl, T.xm_NoPicture_NoPicture, fun ea oe hea => ?_⟩⟩
      · have s1 := Same.refl H
        have e1 : Exc (upd H ea (.frz oe (.exc ea t.c_NoPicture))) ea t.c_NoPicture := ⟨oe, upd_same⟩
        have s2 : Same H (upd H ea (.frz oe (.exc ea t.c_NoPicture))) := same_new s1 hea
        refine ⟨_, rfl, ea, t.c_NoPicture, _, _, true, rfl, e1, T.ef_NoPicture, .ref _, T.ki_NoPicture_CopperError, true, rfl, iteT ⟨_, rfl, ea, t.c_NoPicture, _, _, true, rfl, e1, T.ef_NoPicture, .ty _, T.ki_NoPicture_ValueError, ?_⟩⟩
        refine ⟨_, rfl, true, rfl, iteT ⟨_, rfl, ea, t.c_NoPicture, _, _, false, rfl, e1, T.ef_NoPicture, .ref _, T.ki_NoPicture_NoBoard, false, rfl, true, rfl, iteT ⟨_, rfl, ea, t.c_NoPicture, _, _, false, rfl, e1, T.ef_NoPicture, .ref _, T.ki_NoPicture_NoPlace, false, rfl, ⟨_, rfl, q _ s2⟩⟩⟩⟩
    · refine ⟨_, rfl, .inr ⟨z, rfl, hz, fun w h l g => absurd ⟨w, h, l, g⟩ ng, fun _ H1 s1 => ⟨_, rfl, T.xm_NoPicture_NoPicture, fun ea oe hea => ?_⟩⟩⟩
      · skip
        have e1 : Exc (upd H1 ea (.frz oe (.exc ea t.c_NoPicture))) ea t.c_NoPicture := ⟨oe, upd_same⟩
        have s2 : Same H (upd H1 ea (.frz oe (.exc ea t.c_NoPicture))) := same_new s1 hea
        refine ⟨_, rfl, ea, t.c_NoPicture, _, _, true, rfl, e1, T.ef_NoPicture, .ref _, T.ki_NoPicture_CopperError, true, rfl, iteT ⟨_, rfl, ea, t.c_NoPicture, _, _, true, rfl, e1, T.ef_NoPicture, .ty _, T.ki_NoPicture_ValueError, ?_⟩⟩
        refine ⟨_, rfl, true, rfl, iteT ⟨_, rfl, ea, t.c_NoPicture, _, _, false, rfl, e1, T.ef_NoPicture, .ref _, T.ki_NoPicture_NoBoard, false, rfl, true, rfl, iteT ⟨_, rfl, ea, t.c_NoPicture, _, _, false, rfl, e1, T.ef_NoPicture, .ref _, T.ki_NoPicture_NoPlace, false, rfl, ⟨_, rfl, q _ s2⟩⟩⟩⟩
end
end K15
set_option Elab.async false
set_option linter.all false
set_option maxRecDepth 100000
set_option maxHeartbeats 4000000
namespace K15
open PySem L2 Wd
def sgRow (ho cu : Nat → Bool) (w : Nat) : Str := ⟨((List.range w).map fun x => sgn (ho x) (cu x)).toArray⟩
def sgRows (ho cu : Nat → Nat → Bool) (w h n : Nat) : List Str := (List.range n).map fun k => sgRow (ho (k % h)) (cu k) w
structure Pic (z : Str) (w h l : Nat) : Prop where
  bw : 1 ≤ w ∧ w ≤ 12
  bh : 1 ≤ h ∧ h ≤ 12
  bl : 1 ≤ l ∧ l ≤ 3
  rows : ∃ ho cu, z = linesT (headP w h l :: sgRows ho cu w h (h * l))
theorem good_pic {z : Str} {w h l : Nat} (g : Good z w h l) : Pic z w h l := by
  obtain ⟨r0, signs, e, hg, _, hp⟩ := g.hd
  have b1 := hg.b1
  have b2 := hg.b2
  have b3 := hg.b3
  unfold okM at b1 b2 b3
  refine ⟨by omega, by omega, by omega, fun y x => hoAt (allH h signs (h * l)) (x : Int) (y : Int), fun k x => cuAt (allC h signs (h * l)) (x : Int) ((k % h : Nat) : Int) ((k / h : Nat) : Int), ?_⟩
  exact hp.symm
theorem sgn_ne {c : Nat} (h : c ≠ 79 ∧ c ≠ 111 ∧ c ≠ 35 ∧ c ≠ 46) (a b : Bool) : sgn a b ≠ c := by
  cases a <;> cases b <;> simp [sgn] <;> omega
theorem sgRow_list (ho cu : Nat → Bool) (w : Nat) : (sgRow ho cu w).cps.toList = (List.range w).map fun x => sgn (ho x) (cu x) := rfl
theorem sgRow_size (ho cu : Nat → Bool) (w : Nat) : (sgRow ho cu w).cps.size = w := by simp [sgRow]
theorem sgRow_len (ho cu : Nat → Bool) (w : Nat) : (sgRow ho cu w).length = w := sgRow_size ho cu w
theorem sgRow_free {c : Nat} (h : c ≠ 79 ∧ c ≠ 111 ∧ c ≠ 35 ∧ c ≠ 46) (ho cu : Nat → Bool) (w : Nat) : c ∉ (sgRow ho cu w).cps.toList := fun hm => by
  rw [sgRow_list] at hm
  obtain ⟨x, _, e⟩ := List.mem_map.mp hm
  exact sgn_ne h _ _ e
theorem sgRow_get (ho cu : Nat → Bool) {w x : Nat} (h : x < w) : (sgRow ho cu w).cps.toList.getD x 0 = sgn (ho x) (cu x) := by
  rw [sgRow_list, List.getD_eq_getElem?_getD, List.getElem?_map, List.getElem?_range h]; rfl
theorem isC_sgn (a b : Bool) : isC (sgn a b) = b := by cases a <;> cases b <;> rfl
theorem isH_sgn (a b : Bool) : isH (sgn a b) = a := by cases a <;> cases b <;> rfl
theorem headP_free (w h l : Int) : 10 ∉ (headP w h l).cps.toList := row_free (by decide +kernel)
theorem rows_free (ho cu : Nat → Nat → Bool) (w h n : Nat) : ∀ r ∈ sgRows ho cu w h n, 10 ∉ r.cps.toList := fun r hr => by
  obtain ⟨k, _, rfl⟩ := List.mem_map.mp hr
  exact sgRow_free (by decide) _ _ _
theorem cuAt_put (cs : Tab) (a b c x y z : Int) (v : V) : cuAt (putK cs [.inl a, .inl b, .inl c] v) x y z = (decide (x = a ∧ y = b ∧ z = c) || cuAt cs x y z) := by
  unfold cuAt
  rw [valV_put]
  by_cases h : x = a ∧ y = b ∧ z = c
  · obtain ⟨rfl, rfl, rfl⟩ := h
    simp
  · rw [if_neg (fun e => h (by cases e; exact ⟨rfl, rfl, rfl⟩)), decide_eq_false h, Bool.false_or]
theorem hoAt_put (cs : Tab) (a b x y : Int) (v : V) : hoAt (putK cs [.inl a, .inl b] v) x y = (decide (x = a ∧ y = b) || hoAt cs x y) := by
  unfold hoAt
  rw [valV_put]
  by_cases h : x = a ∧ y = b
  · obtain ⟨rfl, rfl⟩ := h
    simp
  · rw [if_neg (fun e => h (by cases e; exact ⟨rfl, rfl⟩)), decide_eq_false h, Bool.false_or]
theorem cuAt_draw (cs : Tab) (s : List Nat) (b c : Int) (x : Nat) (y z : Int) : ∀ n, cuAt (drawC cs s b c n) (x : Int) y z = (decide (x < n ∧ y = b ∧ z = c) && isC (s.getD x 0) || cuAt cs (x : Int) y z)
  | 0 => by simp [drawC]
  | n + 1 => by
    have ih := cuAt_draw cs s b c x y z n
    cases hc : isC (s.getD n 0) with
    | true =>
      rw [drawC_put rfl hc, cuAt_put, ih]
      by_cases e : x = n
      · subst e
        rw [hc]
        by_cases q : y = b ∧ z = c
        · simp [q]
        · have q' : ¬ (y = b ∧ z = c) := q
          simp [q']
      · have e1 : ¬ ((x : Int) = (n : Int) ∧ y = b ∧ z = c) := fun h => e (Int.ofNat.inj h.1)
        have e2 : (x < n + 1 ∧ y = b ∧ z = c) ↔ (x < n ∧ y = b ∧ z = c) := by constructor <;> (intro h; exact ⟨by omega, h.2⟩)
        rw [decide_eq_false e1, Bool.false_or, decide_eq_decide.mpr e2]
    | false =>
      rw [drawC_no rfl hc, ih]
      by_cases e : x = n
      · subst e
        rw [hc, Bool.and_false, Bool.and_false]
      · have e2 : (x < n + 1 ∧ y = b ∧ z = c) ↔ (x < n ∧ y = b ∧ z = c) := by constructor <;> (intro h; exact ⟨by omega, h.2⟩)
        rw [decide_eq_decide.mpr e2]
theorem hoAt_draw (cs : Tab) (s : List Nat) (b : Int) (x : Nat) (y : Int) : ∀ n, hoAt (drawH cs s b n) (x : Int) y = (decide (x < n ∧ y = b) && isH (s.getD x 0) || hoAt cs (x : Int) y)
  | 0 => by simp [drawH]
  | n + 1 => by
    have ih := hoAt_draw cs s b x y n
    cases hc : isH (s.getD n 0) with
    | true =>
      rw [drawH_put rfl hc, hoAt_put, ih]
      by_cases e : x = n
      · subst e
        rw [hc]
        by_cases q : y = b
        · simp [q]
        · simp [q]
      · have e1 : ¬ ((x : Int) = (n : Int) ∧ y = b) := fun h => e (Int.ofNat.inj h.1)
        have e2 : (x < n + 1 ∧ y = b) ↔ (x < n ∧ y = b) := by constructor <;> (intro h; exact ⟨by omega, h.2⟩)
        rw [decide_eq_false e1, Bool.false_or, decide_eq_decide.mpr e2]
    | false =>
      rw [drawH_no rfl hc, ih]
      by_cases e : x = n
      · subst e
        rw [hc, Bool.and_false, Bool.and_false]
      · have e2 : (x < n + 1 ∧ y = b) ↔ (x < n ∧ y = b) := by constructor <;> (intro h; exact ⟨by omega, h.2⟩)
        rw [decide_eq_decide.mpr e2]
theorem rows_getD (ho cu : Nat → Nat → Bool) (w h : Nat) {n k : Nat} (hk : k < n) : (sgRows ho cu w h n).getD k "" = sgRow (ho (k % h)) (cu k) w := by
  unfold sgRows
  rw [List.getD_eq_getElem?_getD, List.getElem?_map, List.getElem?_range hk]; rfl
theorem cuAt_all (ho cu : Nat → Nat → Bool) {w h N : Nat} (h1 : 1 ≤ h) {x k : Nat} (hx : x < w) (hk : k < N) : ∀ n, n ≤ N → cuAt (allC h (sgRows ho cu w h N) n) (x : Int) ((k % h : Nat) : Int) ((k / h : Nat) : Int) = (decide (k < n) && cu k x)
  | 0, _ => by simp [allC, cuAt, valV_nil]
  | n + 1, hn => by
    have ih := cuAt_all ho cu h1 hx hk n (by omega)
    show cuAt (drawC (allC h (sgRows ho cu w h N) n) ((sgRows ho cu w h N).getD n "").cps.toList ((n % h : Nat) : Int) ((n / h : Nat) : Int) ((sgRows ho cu w h N).getD n "").cps.size) _ _ _ = _
    rw [rows_getD ho cu w h (show n < N by omega), cuAt_draw, ih, sgRow_get _ _ hx, isC_sgn, sgRow_size]
    by_cases e : k = n
    · subst e
      simp [hx]
    · have e1 : ¬ (x < w ∧ ((k % h : Nat) : Int) = ((n % h : Nat) : Int) ∧ ((k / h : Nat) : Int) = ((n / h : Nat) : Int)) := fun q => e (by
        have q1 := Int.ofNat.inj q.2.1
        have q2 := Int.ofNat.inj q.2.2
        rw [← Nat.div_add_mod k h, ← Nat.div_add_mod n h, q1, q2])
      have e2 : (k < n + 1) ↔ (k < n) := by omega
      rw [decide_eq_false e1, Bool.false_and, Bool.false_or, decide_eq_decide.mpr e2]
theorem hoAt_all (ho cu : Nat → Nat → Bool) {w h N : Nat} (h1 : 1 ≤ h) {x y : Nat} (hx : x < w) (hy : y < h) : ∀ n, n ≤ N → hoAt (allH h (sgRows ho cu w h N) n) (x : Int) (y : Int) = (decide (y < n) && ho y x)
  | 0, _ => by simp [allH, hoAt, valV_nil]
  | n + 1, hn => by
    have ih := hoAt_all (N := N) ho cu h1 hx hy n (by omega)
    show hoAt (drawH (allH h (sgRows ho cu w h N) n) ((sgRows ho cu w h N).getD n "").cps.toList ((n % h : Nat) : Int) ((sgRows ho cu w h N).getD n "").cps.size) _ _ = _
    rw [rows_getD ho cu w h (show n < N by omega), hoAt_draw, ih, sgRow_get _ _ hx, isH_sgn, sgRow_size]
    by_cases e : y = n % h
    · have e1 : n % h ≤ n := Nat.mod_le n h
      subst e
      cases hq : ho (n % h) x with
      | true => simp [hx, Nat.lt_succ_of_le e1]
      | false => simp
    · have e1 : ¬ (x < w ∧ ((y : Nat) : Int) = ((n % h : Nat) : Int)) := fun q => e (Int.ofNat.inj q.2)
      have e3 : y ≠ n := fun q => e (by rw [← q, Nat.mod_eq_of_lt hy])
      have e2 : (y < n + 1) ↔ (y < n) := by omega
      rw [decide_eq_false e1, Bool.false_and, Bool.false_or, decide_eq_decide.mpr e2]
theorem pic_good {z : Str} {w h l : Nat} (g : Pic z w h l) : Good z w h l := by
  obtain ⟨bw, bh, bl, ho, cu, rfl⟩ := g
  have hl1 : h ≤ h * l := Nat.le_mul_of_pos_right h (by omega)
  refine ⟨lines_end (by simp), headP w h l, sgRows ho cu w h (h * l), ?_, ⟨⟨[tx w, tx h, tx l], row_split (by decide +kernel), ?_, ?_⟩, ?_, ?_, ?_⟩, ?_, ?_⟩
  · rw [lines_split (fun r hr => ?_), List.dropLast_concat]
    rcases List.mem_cons.mp hr with rfl | hr
    · exact headP_free _ _ _
    · exact rows_free _ _ _ _ _ r hr
  · have n1 := (sg_num (n := w) (Nat.lt_of_le_of_lt bw.2 (by decide))).1
    have n2 := (sg_num (n := h) (Nat.lt_of_le_of_lt bh.2 (by decide))).1
    have n3 := (sg_num (n := l) (Nat.lt_of_le_of_lt bl.2 (by decide))).1
    simp [allN, n1, n2, n3]
  · have n1 := (sg_num (n := w) (Nat.lt_of_le_of_lt bw.2 (by decide))).2
    have n2 := (sg_num (n := h) (Nat.lt_of_le_of_lt bh.2 (by decide))).2
    have n3 := (sg_num (n := l) (Nat.lt_of_le_of_lt bl.2 (by decide))).2
    simp [nsOf, n1, n2, n3]
  · unfold okM; omega
  · unfold okM; omega
  · unfold okM; omega
  · unfold sgRows
    rw [List.map_map, List.eq_replicate_iff]
    refine ⟨by simp, fun b hb => ?_⟩
    obtain ⟨k, _, rfl⟩ := List.mem_map.mp hb
    exact sgRow_len _ _ _
  · unfold picT
    congr 2
    unfold rowsP
    conv => rhs; unfold sgRows
    refine List.map_congr_left fun k hk => ?_
    rw [List.mem_range] at hk
    unfold rowS sgRow
    congr 2
    unfold rowL
    refine List.map_congr_left fun x hx => ?_
    rw [List.mem_range] at hx
    have hy : k % h < h := Nat.mod_lt _ (by omega)
    rw [hoAt_all ho cu bh.1 hx hy _ (Nat.le_refl _), cuAt_all ho cu bh.1 hx hk _ (Nat.le_refl _), decide_eq_true hk, decide_eq_true (show k % h < h * l by omega), Bool.true_and, Bool.true_and]
end K15
set_option Elab.async false
set_option linter.all false
set_option maxRecDepth 100000
set_option maxHeartbeats 4000000
namespace K15
open PySem L2 Wd
theorem pic_rows {rs : List Str} {w h l : Nat} (f : ∀ r ∈ rs, 10 ∉ r.cps.toList) (g : Pic (linesT rs) w h l) : ∃ ho cu, rs = headP w h l :: sgRows ho cu w h (h * l) := by
  obtain ⟨_, _, _, ho, cu, e⟩ := g
  refine ⟨ho, cu, ?_⟩
  have e2 : Txt.split (linesT rs) "\n" = _ := congrArg (fun z => Txt.split z "\n") e
  rw [lines_split f, lines_split (fun r hr => ?_)] at e2
  · exact List.append_cancel_right e2
  · rcases List.mem_cons.mp hr with rfl | hr
    · exact headP_free _ _ _
    · exact rows_free _ _ _ _ _ r hr
theorem tx_inj {m n : Nat} (h : tx (m : Int) = tx (n : Int)) : m = n := by
  have e := congrArg (fun z : Str => PySem.NumText.digitsVal z.cps.toList) h
  simp only [sg, sg_val] at e
  exact e
theorem headP_split (w h l : Int) : Txt.split (headP w h l) " " = [("board" : Str), tx w, tx h, tx l] := row_split (by decide +kernel)
theorem headP_inj {w h l w' h' l' : Nat} (e : headP w h l = headP w' h' l') : w = w' ∧ h = h' ∧ l = l' := by
  have e2 := congrArg (fun z => Txt.split z " ") e
  simp only [headP_split] at e2
  simp only [List.cons.injEq, true_and, and_true] at e2
  exact ⟨tx_inj e2.1, tx_inj e2.2.1, tx_inj e2.2.2⟩
def noPic (z : Str) : Prop := ∀ w h l, ¬ Pic z w h l
structure Bad (rs : List Str) : Prop where
  few : rs.length ≤ 100
  short : ∀ r ∈ rs, r.length ≤ 1000
  no : noPic (linesT rs)
theorem rows_len (ho cu : Nat → Nat → Bool) (w h n : Nat) : (sgRows ho cu w h n).length = n := by simp [sgRows]
theorem rows_short {ho cu : Nat → Nat → Bool} {w h n : Nat} {r : Str} (hr : r ∈ sgRows ho cu w h n) : r.length = w := by
  obtain ⟨k, _, rfl⟩ := List.mem_map.mp hr
  exact sgRow_len _ _ _
theorem rows_noc {c : Nat} (hc : c ≠ 79 ∧ c ≠ 111 ∧ c ≠ 35 ∧ c ≠ 46) {ho cu : Nat → Nat → Bool} {w h n : Nat} {r : Str} (hr : r ∈ sgRows ho cu w h n) : c ∉ r.cps.toList := by
  obtain ⟨k, _, rfl⟩ := List.mem_map.mp hr
  exact sgRow_free hc _ _ _
theorem headP_short {w h l : Nat} (bw : w ≤ 12) (bh : h ≤ 12) (bl : l ≤ 3) : (headP w h l).length ≤ 100 := by
  have all : ∀ w : Fin 13, ∀ h : Fin 13, ∀ l : Fin 4, (headP ((w : Nat) : Int) ((h : Nat) : Int) ((l : Nat) : Int)).length ≤ 100 := by decide +kernel
  exact all ⟨w, by omega⟩ ⟨h, by omega⟩ ⟨l, by omega⟩
structure Sz (w h l : Nat) : Prop where
  w2 : 2 ≤ w
  w12 : w ≤ 12
  h2 : 2 ≤ h
  h12 : h ≤ 12
  l2 : 2 ≤ l
  l3 : l ≤ 3
theorem Sz.hl {w h l : Nat} (s : Sz w h l) : 4 ≤ h * l ∧ h * l ≤ 36 := ⟨Nat.mul_le_mul s.h2 s.l2, Nat.mul_le_mul s.h12 s.l3⟩
section
variable {w h l : Nat} {ho cu : Nat → Nat → Bool}
theorem bad_head (s : Sz w h l) {hd : Str} (f : 10 ∉ hd.cps.toList) (hs : hd.length ≤ 1000)
    (n : ∀ w' h' l' : Nat, 1 ≤ w' ∧ w' ≤ 12 → 1 ≤ h' ∧ h' ≤ 12 → 1 ≤ l' ∧ l' ≤ 3 → hd = headP w' h' l' → ¬ (w' = w ∧ h' * l' = h * l)) : Bad (hd :: sgRows ho cu w h (h * l)) := by
  have b := s.hl
  refine ⟨by rw [List.length_cons, rows_len]; omega, fun r hr => ?_, fun w' h' l' g => ?_⟩
  · rcases List.mem_cons.mp hr with rfl | hr
    · exact hs
    · rw [rows_short hr]; have := s.w12; omega
  · have bw := g.bw
    have bh := g.bh
    have bl := g.bl
    obtain ⟨ho', cu', e⟩ := pic_rows (fun r hr => by
      rcases List.mem_cons.mp hr with rfl | hr
      · exact f
      · exact rows_free _ _ _ _ _ r hr) g
    obtain ⟨e1, e2⟩ := List.cons.inj e
    refine n w' h' l' bw bh bl e1 ⟨?_, ?_⟩
    · have m : (sgRows ho cu w h (h * l)).getD 0 "" ∈ sgRows ho cu w h (h * l) := by
        rw [List.getD_eq_getElem?_getD, List.getElem?_eq_getElem (by rw [rows_len]; omega)]
        exact List.getElem_mem _
      have m2 := m
      rw [e2] at m2
      rw [← rows_short m, ← rows_short m2, e2]
    · have := congrArg List.length e2
      rw [rows_len, rows_len] at this
      exact this.symm
theorem bad_rows (s : Sz w h l) {S : List Str} (f : ∀ r ∈ S, 10 ∉ r.cps.toList) (hs : ∀ r ∈ S, r.length ≤ 1000) (hn : S.length ≤ 99) (n : ∀ ho' cu', S ≠ sgRows ho' cu' w h (h * l)) : Bad (headP w h l :: S) := by
  refine ⟨by rw [List.length_cons]; omega, fun r hr => ?_, fun w' h' l' g => ?_⟩
  · rcases List.mem_cons.mp hr with rfl | hr
    · exact Nat.le_trans (headP_short s.w12 s.h12 s.l3) (by decide)
    · exact hs r hr
  · obtain ⟨ho', cu', e⟩ := pic_rows (fun r hr => by
      rcases List.mem_cons.mp hr with rfl | hr
      · exact headP_free _ _ _
      · exact f r hr) g
    obtain ⟨e1, e2⟩ := List.cons.inj e
    obtain ⟨rfl, rfl, rfl⟩ := headP_inj e1
    exact n ho' cu' e2
theorem set_mem {α : Type} {S : List α} {j : Nat} {r r' : α} (h : r ∈ S.set j r') : r ∈ S ∨ r = r' := List.mem_or_eq_of_mem_set h
theorem bad_set (s : Sz w h l) {j : Nat} (hj : j < h * l) {r' : Str} (f : 10 ∉ r'.cps.toList) (hs : r'.length ≤ 1000) (n : ∀ ho' cu', (sgRows ho cu w h (h * l)).set j r' ≠ sgRows ho' cu' w h (h * l)) : Bad (headP w h l :: (sgRows ho cu w h (h * l)).set j r') := by
  have b := s.hl
  refine bad_rows s (fun r hr => ?_) (fun r hr => ?_) (by rw [List.length_set, rows_len]; omega) n
  · rcases set_mem hr with hr | rfl
    · exact rows_free _ _ _ _ _ r hr
    · exact f
  · rcases set_mem hr with hr | rfl
    · rw [rows_short hr]; have := s.w12; omega
    · exact hs
theorem set_at {j : Nat} (hj : j < h * l) (r' : Str) : r' ∈ (sgRows ho cu w h (h * l)).set j r' := by
  refine List.mem_iff_getElem?.mpr ⟨j, ?_⟩
  rw [List.getElem?_set_self (by rw [rows_len]; exact hj)]
theorem bad_sign (s : Sz w h l) {j : Nat} (hj : j < h * l) {r' : Str} {c : Nat} (hc : c ≠ 79 ∧ c ≠ 111 ∧ c ≠ 35 ∧ c ≠ 46) (m : c ∈ r'.cps.toList) (f : 10 ∉ r'.cps.toList) (hs : r'.length ≤ 1000) : Bad (headP w h l :: (sgRows ho cu w h (h * l)).set j r') :=
  bad_set s hj f hs fun ho' cu' e => by
    have := set_at (ho := ho) (cu := cu) (w := w) hj r'
    rw [e] at this
    exact rows_noc hc this m
theorem bad_long (s : Sz w h l) {j : Nat} (hj : j < h * l) {r' : Str} (f : 10 ∉ r'.cps.toList) (hs : r'.length ≤ 1000) (hne : r'.length ≠ w) : Bad (headP w h l :: (sgRows ho cu w h (h * l)).set j r') :=
  bad_set s hj f hs fun ho' cu' e => by
    have := set_at (ho := ho) (cu := cu) (w := w) hj r'
    rw [e] at this
    exact hne (rows_short this)
theorem bad_more (s : Sz w h l) {j : Nat} (hj : j < h * l) : Bad (headP w h l :: ((sgRows ho cu w h (h * l)).take j ++ [sgRow (ho (j % h)) (cu j) w] ++ (sgRows ho cu w h (h * l)).drop j)) := by
  have b := s.hl
  have sub : ∀ r ∈ (sgRows ho cu w h (h * l)).take j ++ [sgRow (ho (j % h)) (cu j) w] ++ (sgRows ho cu w h (h * l)).drop j, r.length = w ∧ 10 ∉ r.cps.toList := fun r hr => by
    simp only [List.append_assoc, List.mem_append, List.mem_cons, List.not_mem_nil, or_false] at hr
    rcases hr with hr | rfl | hr
    · have := List.mem_of_mem_take hr; exact ⟨rows_short this, rows_free _ _ _ _ _ r this⟩
    · exact ⟨sgRow_len _ _ _, sgRow_free (by decide) _ _ _⟩
    · have := List.mem_of_mem_drop hr; exact ⟨rows_short this, rows_free _ _ _ _ _ r this⟩
  have len : ((sgRows ho cu w h (h * l)).take j ++ [sgRow (ho (j % h)) (cu j) w] ++ (sgRows ho cu w h (h * l)).drop j).length = h * l + 1 := by
    simp only [List.length_append, List.length_take, List.length_drop, rows_len, List.length_cons, List.length_nil]; omega
  refine bad_rows s (fun r hr => (sub r hr).2) (fun r hr => by rw [(sub r hr).1]; have := s.w12; omega) (by rw [len]; omega) fun ho' cu' e => ?_
  have := congrArg List.length e
  rw [len, rows_len] at this
  omega
theorem bad_less (s : Sz w h l) {j : Nat} (hj : j < h * l) : Bad (headP w h l :: ((sgRows ho cu w h (h * l)).take j ++ (sgRows ho cu w h (h * l)).drop (j + 1))) := by
  have b := s.hl
  have sub : ∀ r ∈ (sgRows ho cu w h (h * l)).take j ++ (sgRows ho cu w h (h * l)).drop (j + 1), r.length = w ∧ 10 ∉ r.cps.toList := fun r hr => by
    rcases List.mem_append.mp hr with hr | hr
    · have := List.mem_of_mem_take hr; exact ⟨rows_short this, rows_free _ _ _ _ _ r this⟩
    · have := List.mem_of_mem_drop hr; exact ⟨rows_short this, rows_free _ _ _ _ _ r this⟩
  have len : ((sgRows ho cu w h (h * l)).take j ++ (sgRows ho cu w h (h * l)).drop (j + 1)).length = h * l - 1 := by
    simp only [List.length_append, List.length_take, List.length_drop, rows_len]; omega
  refine bad_rows s (fun r hr => (sub r hr).2) (fun r hr => by rw [(sub r hr).1]; have := s.w12; omega) (by rw [len]; omega) fun ho' cu' e => ?_
  have := congrArg List.length e
  rw [len, rows_len] at this
  omega
theorem bad_hole (s : Sz w h l) {j x : Nat} (hj : j < h * l) (hx : x < w) {r' : Str} (hq : isH (r'.cps.toList.getD x 0) = !ho (j % h) x) (f : 10 ∉ r'.cps.toList) (hs : r'.length ≤ 1000) : Bad (headP w h l :: (sgRows ho cu w h (h * l)).set j r') :=
  bad_set s hj f hs fun ho' cu' e => by
    obtain ⟨k, hk, hkj, hm⟩ : ∃ k, k < h * l ∧ k ≠ j ∧ k % h = j % h := by
      have h2 := s.h2
      by_cases q : j < h
      · refine ⟨j + h, ?_, by omega, by rw [Nat.add_mod_right]⟩
        have : h * 2 ≤ h * l := Nat.mul_le_mul_left h s.l2
        omega
      · refine ⟨j - h, by omega, by omega, ?_⟩
        have e3 : j = (j - h) + h := by omega
        conv => rhs; rw [e3]
        rw [Nat.add_mod_right]
    have e1 : (((sgRows ho cu w h (h * l)).set j r').getD j "").cps.toList.getD x 0 = ((sgRows ho' cu' w h (h * l)).getD j "").cps.toList.getD x 0 := by rw [e]
    have e2 : (((sgRows ho cu w h (h * l)).set j r').getD k "").cps.toList.getD x 0 = ((sgRows ho' cu' w h (h * l)).getD k "").cps.toList.getD x 0 := by rw [e]
    rw [rows_getD ho' cu' w h hj, sgRow_get _ _ hx, List.getD_eq_getElem?_getD (l := List.set _ _ _), List.getElem?_set_self (by rw [rows_len]; exact hj)] at e1
    rw [rows_getD ho' cu' w h hk, sgRow_get _ _ hx, List.getD_eq_getElem?_getD (l := List.set _ _ _), List.getElem?_set_ne (fun z => hkj z.symm), ← List.getD_eq_getElem?_getD, rows_getD ho cu w h hk, sgRow_get _ _ hx] at e2
    have q1 := congrArg isH e1
    have q2 := congrArg isH e2
    rw [isH_sgn] at q1
    rw [isH_sgn, isH_sgn] at q2
    rw [hm] at q2
    have q3 : isH (r'.cps.toList.getD x 0) = ho' (j % h) x := q1
    rw [hq, ← q2] at q3
    cases hh : ho (j % h) x <;> rw [hh] at q3 <;> cases q3
end
end K15
set_option Elab.async false
set_option linter.all false
set_option maxRecDepth 100000
set_option maxHeartbeats 4000000
namespace K15
open PySem L2 Wd
theorem headP_facts {w h l : Nat} (bw : w ≤ 12) (bh : h ≤ 12) (bl : l ≤ 3) : (headP w h l).cps.toList.count 32 = 3 ∧ (headP w h l).cps.toList.head? = some 98 := by
  have all : ∀ w : Fin 13, ∀ h : Fin 13, ∀ l : Fin 4, (headP ((w : Nat) : Int) ((h : Nat) : Int) ((l : Nat) : Int)).cps.toList.count 32 = 3 ∧ (headP ((w : Nat) : Int) ((h : Nat) : Int) ((l : Nat) : Int)).cps.toList.head? = some 98 := by decide +kernel
  exact all ⟨w, by omega⟩ ⟨h, by omega⟩ ⟨l, by omega⟩
theorem pic_first {z : Str} {w h l : Nat} (g : Pic z w h l) : z.cps.toList.head? = some 98 := by
  obtain ⟨bw, bh, bl, ho, cu, rfl⟩ := g
  rw [lines_list, List.flatMap_cons, List.append_assoc, List.head?_append, (headP_facts bw.2 bh.2 bl.2).2]
  rfl
theorem no_first {z : Str} (h : z.cps.toList.head? ≠ some 98) : noPic z := fun w h' l g => h (pic_first g)
theorem upper_first {z : Str} (h : z.cps.toList.head? = some 98) : (Txt.upper z).cps.toList.head? = some 66 := by
  cases hz : z.cps.toList with
  | nil => rw [hz] at h; cases h
  | cons a r =>
    rw [hz] at h
    cases h
    unfold Txt.upper placed
    simp only [Array.toList_flatten, Array.toList_mapIdx, hz, List.mapIdx_cons, List.map_cons, List.flatten_cons, List.head?_append]
    rw [show (Unicode.upperOf 98) = [66] by decide +kernel]
    rfl
section
variable {w h l : Nat} {ho cu : Nat → Nat → Bool}
theorem bad_upper (s : Sz w h l) : Bad (Txt.upper (headP w h l) :: sgRows ho cu w h (h * l)) := by
  have b := s.hl
  refine ⟨by rw [List.length_cons, rows_len]; omega, fun r hr => ?_, no_first ?_⟩
  · rcases List.mem_cons.mp hr with rfl | hr
    · have h1 := PyProof.Rows.len_upper (headP w h l)
      have h2 := headP_short s.w12 s.h12 s.l3
      omega
    · rw [rows_short hr]; have := s.w12; omega
  · rw [lines_list, List.flatMap_cons, List.append_assoc, List.head?_append, upper_first (headP_facts s.w12 s.h12 s.l3).2]
    simp
theorem len_app (x y : Str) : (x ++ y).length = x.length + y.length := by rw [len_list, len_list, len_list, app_list, List.length_append]
theorem bad_after (s : Sz w h l) {y : Str} (hy : 1 ≤ y.cps.toList.count 32) (h10 : 10 ∉ y.cps.toList) (hl : y.length ≤ 10) : Bad ((headP w h l ++ y) :: sgRows ho cu w h (h * l)) := by
  refine bad_head s (fun hm => ?_) ?_ fun w' h' l' bw bh bl e _ => ?_
  · rw [app_list, List.mem_append] at hm
    exact hm.elim (headP_free _ _ _) h10
  · rw [len_app]; have := headP_short s.w12 s.h12 s.l3; omega
  · have e2 := congrArg (fun z : Str => z.cps.toList.count 32) e
    simp only [app_list, List.count_append, (headP_facts s.w12 s.h12 s.l3).1, (headP_facts bw.2 bh.2 bl.2).1] at e2
    omega
theorem bad_ahead (s : Sz w h l) : Bad (((" " : Str) ++ headP w h l) :: sgRows ho cu w h (h * l)) := by
  have e1 : (" " : Str).cps.toList = [32] := by decide +kernel
  refine bad_head s (fun hm => ?_) ?_ fun w' h' l' bw bh bl e _ => ?_
  · rw [app_list, List.mem_append, e1] at hm
    exact hm.elim (by decide) (headP_free _ _ _)
  · rw [len_app]; have := headP_short s.w12 s.h12 s.l3; have : (" " : Str).length = 1 := by decide +kernel
    omega
  · have e2 := congrArg (fun z : Str => z.cps.toList.head?) e
    simp only [app_list, e1, (headP_facts bw.2 bh.2 bl.2).2] at e2
    simp at e2
theorem bad_words (s : Sz w h l) {A B C : Str} (f32 : 32 ∉ A.cps.toList ∧ 32 ∉ B.cps.toList ∧ 32 ∉ C.cps.toList) (f10 : 10 ∉ A.cps.toList ∧ 10 ∉ B.cps.toList ∧ 10 ∉ C.cps.toList) (len : A.length ≤ 100 ∧ B.length ≤ 100 ∧ C.length ≤ 100)
    (n : ∀ w' h' l' : Nat, 1 ≤ w' ∧ w' ≤ 12 → 1 ≤ h' ∧ h' ≤ 12 → 1 ≤ l' ∧ l' ≤ 3 → tx w' = A → tx h' = B → tx l' = C → ¬ (w' = w ∧ h' * l' = h * l)) : Bad (Txt.join " " [("board" : Str), A, B, C] :: sgRows ho cu w h (h * l)) := by
  have eb : ("board" : Str).cps.toList = [98, 111, 97, 114, 100] := by decide +kernel
  have ej : Txt.join " " [("board" : Str), A, B, C] = Str.join ⟨#[32]⟩ [("board" : Str), A, B, C] := by rw [tjoin, blank_is]
  refine bad_head s (fun hm => ?_) ?_ fun w' h' l' bw bh bl e q => ?_
  · rw [ej, join_toList] at hm
    obtain ⟨p, hp, hq⟩ := jl_mem (by decide) hm
    simp only [List.map_cons, List.map_nil, List.mem_cons, List.not_mem_nil, or_false] at hp
    rcases hp with rfl | rfl | rfl | rfl
    · rw [eb] at hq; exact absurd hq (by decide)
    · exact f10.1 hq
    · exact f10.2.1 hq
    · exact f10.2.2 hq
  · obtain ⟨l1, l2, l3⟩ := len
    rw [len_list] at l1 l2 l3 ⊢
    rw [ej, join_toList]
    simp only [List.map_cons, List.map_nil, jl, eb, List.length_append, List.length_cons, List.length_nil]
    omega
  · have e2 := congrArg (fun z : Str => Txt.split z " ") e
    simp only [headP_split] at e2
    rw [ej, blank_is, split_of_join (by simp) (fun p hp => ?_)] at e2
    · simp only [List.cons.injEq, true_and, and_true] at e2
      exact n w' h' l' bw bh bl e2.1.symm e2.2.1.symm e2.2.2.symm q
    · simp only [List.mem_cons, List.not_mem_nil, or_false] at hp
      rcases hp with rfl | rfl | rfl | rfl
      · rw [eb]; decide
      · exact f32.1
      · exact f32.2.1
      · exact f32.2.2
theorem rows_snoc (n : Nat) : sgRows ho cu w h (n + 1) = sgRows ho cu w h n ++ [sgRow (ho (n % h)) (cu n) w] := by
  unfold sgRows
  rw [List.range_succ, List.map_append]; rfl
theorem lines_snoc (rs : List Str) (r : Str) : (linesT (rs ++ [r])).cps.toList = (linesT rs).cps.toList ++ r.cps.toList ++ [10] := by
  rw [lines_list, lines_list, List.flatMap_append]; simp
theorem pic_last {z : Str} {w h l : Nat} (g : Pic z w h l) : z.cps.toList.getLast? = some 10 := by
  obtain ⟨bw, bh, bl, ho, cu, rfl⟩ := g
  obtain ⟨n, hn⟩ : ∃ n, h * l = n + 1 := ⟨h * l - 1, by have := Nat.mul_le_mul bh.1 bl.1; omega⟩
  rw [hn, rows_snoc, ← List.cons_append, lines_snoc, List.getLast?_append]; rfl
theorem no_end (s : Sz w h l) {z : Str} (hz : z.cps.toList = (linesT (headP w h l :: sgRows ho cu w h (h * l))).cps.toList.dropLast) : noPic z := fun w' h' l' g => by
  have b := s.hl
  have g2 := pic_last g
  obtain ⟨n, hn⟩ : ∃ n, h * l = n + 1 := ⟨h * l - 1, by omega⟩
  obtain ⟨m, hm⟩ : ∃ m, w = m + 1 := ⟨w - 1, by have := s.w2; omega⟩
  rw [hz, hn, rows_snoc, ← List.cons_append, lines_snoc, List.dropLast_concat, List.getLast?_append, sgRow_list, hm, List.range_succ, List.map_append, List.getLast?_append] at g2
  simp only [List.map_cons, List.map_nil, List.getLast?_singleton, Option.some_or, Option.some.injEq] at g2
  exact sgn_ne (by decide) _ _ g2
theorem no_more (s : Sz w h l) : noPic (linesT (headP w h l :: sgRows ho cu w h (h * l)) ++ ("\n" : Str)) := fun w' h' l' g => by
  have e : linesT (headP w h l :: sgRows ho cu w h (h * l)) ++ ("\n" : Str) = linesT ((headP w h l :: sgRows ho cu w h (h * l)) ++ [("" : Str)]) := by
    refine str_ext ?_
    rw [lines_snoc, app_list, show ("\n" : Str).cps.toList = [10] by decide +kernel, show ("" : Str).cps.toList = [] by decide +kernel, List.append_nil]
  rw [e] at g
  have bw := g.bw
  obtain ⟨ho', cu', e2⟩ := pic_rows (fun r hr => by
    rcases List.mem_append.mp hr with hr | hr
    · rcases List.mem_cons.mp hr with rfl | hr
      · exact headP_free _ _ _
      · exact rows_free _ _ _ _ _ r hr
    · rw [List.mem_singleton.mp hr]; decide +kernel) g
  have e3 := (List.cons.inj e2).2
  have m : ("" : Str) ∈ sgRows ho cu w h (h * l) ++ [("" : Str)] := List.mem_append_right _ (List.mem_singleton.mpr rfl)
  rw [show sgRows ho cu w h (h * l) ++ [("" : Str)] = _ from e3] at m
  have := rows_short m
  rw [show ("" : Str).length = 0 by decide +kernel] at this
  omega
theorem no_ahead (z : Str) : noPic (("\n" : Str) ++ z) := no_first (by rw [app_list, show ("\n" : Str).cps.toList = [10] by decide +kernel]; simp)
theorem no_empty : noPic ("" : Str) := no_first (by decide +kernel)
theorem no_nl : noPic ("\n" : Str) := no_first (by decide +kernel)
end
theorem cutT (xs : List V) (k : Nat) : cutV xs none (some (k : Int)) = xs.take k := by
  unfold cutV
  rw [HT.sIx_nat, HT.sIx_none]
  show List.take (min k xs.length - 0) (xs.drop 0) = _
  rw [Nat.sub_zero, List.drop_zero]
  by_cases h : k ≤ xs.length
  · rw [Nat.min_eq_left h]
  · rw [Nat.min_eq_right (by omega), List.take_of_length_le (Nat.le_refl _), List.take_of_length_le (by omega)]
theorem slF {z : Str} {k : Nat} (h : k ≤ z.cps.toList.length) : (Txt.slice z (some (k : Int)) none).cps.toList = z.cps.toList.drop k := by
  have := StrLaws.sliceText_from (x := z) (i := (k : Int)) ⟨by omega, by omega⟩
  show (StrLaws.sliceText z (some (k : Int)) none).cps.toList = _
  rw [this]
  show List.take _ (List.drop _ _) = _
  rw [Int.toNat_natCast]
  exact List.take_of_length_le (by rw [List.length_drop]; omega)
theorem slT {z : Str} {k : Nat} (h : k ≤ z.cps.toList.length) : (Txt.slice z none (some (k : Int))).cps.toList = z.cps.toList.take k := by
  have := StrLaws.sliceText_to (x := z) (j := (k : Int)) ⟨by omega, by omega⟩
  show (StrLaws.sliceText z none (some (k : Int))).cps.toList = _
  rw [this]
  show List.take _ (List.drop 0 _) = _
  rw [List.drop_zero, Int.sub_zero, Int.toNat_natCast]
def putS (r : Str) (x : Nat) (one : Str) : Str := Txt.slice r none (some (x : Int)) ++ one ++ Txt.slice r (some ((x : Int) + 1)) none
theorem putS_list {r : Str} {x : Nat} (one : Str) (h : x < r.cps.toList.length) : (putS r x one).cps.toList = r.cps.toList.take x ++ one.cps.toList ++ r.cps.toList.drop (x + 1) := by
  unfold putS
  rw [app_list, app_list, slT (by omega), show ((x : Int) + 1) = ((x + 1 : Nat) : Int) by omega, slF (by omega)]
theorem set_cut {α : Type} {S : List α} {j : Nat} (r : α) (h : j < S.length) : S.take j ++ [r] ++ S.drop (j + 1) = S.set j r := by
  rw [List.set_eq_take_append_cons_drop, if_pos h, List.append_assoc]; rfl
theorem bit_and (i : Int) : Builtin.bitAnd i 1 = 0 ∨ Builtin.bitAnd i 1 = 1 := by
  by_cases h : 0 ≤ i
  · rw [PyProof.Rows.bitAnd_pp h (by decide), show ((1 : Int).toNat) = 1 from rfl, Nat.and_one_is_mod]
    omega
  · rw [PyProof.Rows.bitAnd_np h (by decide), show ((1 : Int).toNat) = 1 from rfl, Nat.and_comm, Nat.and_one_is_mod]
    omega
end K15
set_option Elab.async false
set_option linter.all false
set_option maxRecDepth 100000
set_option maxHeartbeats 4000000
namespace K15
open PySem L2 Wd
theorem str_snoc (l : List Nat) (c : Nat) : (⟨l.toArray⟩ : Str) ++ (⟨#[c]⟩ : Str) = ⟨(l ++ [c]).toArray⟩ := by
  refine str_ext ?_
  rw [app_list]
theorem same_sqL {K : PySem.W.Frag} {H H' : Hp} {a : Addr} {xs : List V} (e : Same H H') (h : SqL K H a xs) : SqL K H' a xs := by
  rcases h with (h | h) | h
  · exact .inl (.inl (e _ _ h))
  · exact .inl (.inr (by obtain ⟨o, q⟩ := h; exact ⟨o, e _ _ q⟩))
  · exact .inr h
def wordsP (w h l : Int) : List Str := [("board" : Str), tx w, tx h, tx l]
def cuB (c : Int) (w : Nat) : Nat → Nat → Bool := fun k x => decide (c / 2 ^ (k * w + x) % 2 = 1)
def hoB (d : Int) (w : Nat) : Nat → Nat → Bool := fun y x => decide (Builtin.bitAnd (d / 2 ^ (y * w + x)) 1 = 1)
section
variable {P : Program} {w : World} {K : PySem.W.Frag} {mg : Str → Option Value} {base : Heap} {t : Adr}
def spText (K : PySem.W.Frag) : Sp := fun vs H Q _ => ∃ (a b : Addr) (ns : List Int) (w h l : Nat), vs = [.ref a, .ref b] ∧ SqL K H a (ns.map V.int) ∧ ns.length ≤ 63 ∧ H b = some (.tup [.int w, .int h, .int l]) ∧ Sz w h l ∧
  ∀ p H' ho cu, Same H H' → H' p = some (.lst ((headP w h l :: sgRows ho cu w h (h * l)).map V.str)) → Q (.ref p) H'
theorem ok_law_text (T : Txt K mg t) : GoodF P w K mg base 2 "_law_text" ["_law_script", "_law_size"] (spText K) := by
  obtain ⟨fd, F, b⟩ := T.F_law_text
  have G_law_cell_at := ok_law_cell_at (P := P) (w := w) (base := base) T
  refine ⟨_, fd, F.okX sc_law_text (fun vs H Q E h => ?_) (fun cdv A outer s H vs Q E hr h => ?_), b, F.kp, T.g__law_text⟩
  · obtain ⟨a, b, ns, w, h, l, rfl, _⟩ := h
    rfl
  · obtain ⟨a, b, ns, w, h, l, rfl, hq, hl63, hb, sz, q⟩ := h
    refine ⟨_, (pss_cons (ps_set (i := 2) sc_law_text.nd rfl (Or.inl rfl) (pe_lst (pa_cons (pe_bm PySem.F.plainAttrs_str PySem.F.slot_str_join PySem.F.type_str_join mt_join pe_str (pa_cons (pe_lst (pa_cons pe_str (pa_cons (pe_callTy call_str_int (by rfl) T.n_str b_str (pa_cons (pe_ix ix_tup (pv 1) pe_int (fun _ _ => rfl)) pa_nil)) (pa_cons (pe_callTy call_str_int (by rfl) T.n_str b_str (pa_cons (pe_ix ix_tup (pv 1) pe_int (fun _ _ => rfl)) pa_nil)) (pa_cons (pe_callTy call_str_int (by rfl) T.n_str b_str (pa_cons (pe_ix ix_tup (pv 1) pe_int (fun _ _ => rfl)) pa_nil)) pa_nil))))) pa_nil)) pa_nil)))
      (pss_cons (ps_set (i := 3) sc_law_text.nd rfl (Or.inl rfl) (pe_callG G_law_cell_at (hr.mono (by decide)) passes_of (by rfl) (pa_cons (pv 0) (pa_cons pe_int pa_nil))))
      (pss_cons (ps_set (i := 4) sc_law_text.nd rfl (Or.inl rfl) (pe_callG G_law_cell_at (hr.mono (by decide)) passes_of (by rfl) (pa_cons (pv 0) (pa_cons pe_int pa_nil))))
      (pss_cons (ps_for owns_of (pi_range1 rfl T.n_range (pa_cons (pe_op op_mul (pe_ix ix_tup (pv 1) pe_int (fun _ _ => rfl)) (pe_ix ix_tup (pv 1) pe_int (fun _ _ => rfl))) pa_nil)) (pg_name (i := 5) sc_law_text.nd rfl (Or.inl rfl)) (pss_cons (ps_set (i := 6) sc_law_text.nd rfl (Or.inl rfl) pe_str)
      (pss_cons (ps_for owns_of (pi_range1 rfl T.n_range (pa_cons (pe_ix ix_tup (pv 1) pe_int (fun _ _ => rfl)) pa_nil)) (pg_name (i := 7) sc_law_text.nd rfl (Or.inl rfl)) (pss_cons (ps_set (i := 8) sc_law_text.nd rfl (Or.inl rfl) (pe_op op_and (pe_op op_shr (pv 4) (pe_op op_add (pe_op op_mul (pe_op op_mod (pv 5) (pe_ix ix_tup (pv 1) pe_int (fun _ _ => rfl))) (pe_ix ix_tup (pv 1) pe_int (fun _ _ => rfl))) (pv 7))) pe_int))
      (pss_cons (ps_set (i := 6) sc_law_text.nd rfl (Or.inl rfl) (pe_op op_add_str (pv 6) (pe_ix ix_str pe_str (pe_op op_add (pe_op op_mod (pv 3) pe_int) (pe_op op_mul pe_int (pv 8))) (fun _ _ => rfl))))
      (pss_one (ps_set (i := 3) sc_law_text.nd rfl (Or.inl rfl) (pe_op op_fdiv (pv 3) pe_int))))))
      (pss_one (ps_expr (pe_bm PySem.F.plainAttrs_list PySem.F.slot_list_append PySem.F.type_list_append mt_append (pv 2) (pa_cons (pv 6) pa_nil)))))))
      (pss_one (ps_ret (pv 2))))))), ?_⟩
    have hhl := sz.hl
    obtain ⟨w2, w12, h2, h12, l2, l3⟩ := sz
    have lgs : ∀ n : Nat, n ≤ 12 → Lg (n : Int) := fun n hn => lg_small (by omega) (by omega)
    have T1 : ∀ {H' : Hp}, Same H H' → SqT K H' b [.int w, .int h, .int l] := fun s => SqT.of (s _ _ hb)
    refine ⟨rfl, _, rfl, b, _, 0, .int w, rfl, rfl, T1 (Same.refl H), rfl, (w : Int), rfl, lgs w w12, _, rfl, b, _, 1, .int h, rfl, rfl, T1 (Same.refl H), rfl, (h : Int), rfl, lgs h h12, _, rfl, b, _, 2, .int l, rfl, rfl, T1 (Same.refl H), rfl, (l : Int), rfl, lgs l (by omega), (by show 4 ≤ sizeLine; decide), fun l1 hl1 => ?_⟩
    have tl : ∀ n : Nat, n ≤ 12 → (tx (n : Int)).length ≤ 100 := fun n hn => by
      have all : ∀ n : Fin 13, (tx ((n : Nat) : Int)).length ≤ 100 := by decide +kernel
      exact all ⟨n, by omega⟩
    refine ⟨" ", l1, wordsP w h l, rfl, rfl, SqL.of upd_same, ?_, (by show 1 ≤ sizeLine; decide), fun r hr1 => ?_⟩
    · have h1 := tl w w12
      have h2 := tl h h12
      have h3 := tl l (by omega)
      have h4 : ("board" : Str).length = 5 := by decide +kernel
      have h5 : (" " : Str).length = 1 := by decide +kernel
      simp only [wordsP, List.map_cons, List.map_nil, List.sum_cons, List.sum_nil, List.length_cons, List.length_nil]
      omega
    have s1 : Same H (upd H l1 (.lst ((wordsP w h l).map V.str))) := same_new (Same.refl H) hl1
    have nr : H r = none := s1.free hr1
    have s2 : Same H (upd (upd H l1 (.lst ((wordsP w h l).map V.str))) r (.lst [.str (headP w h l)])) := same_new s1 hr1
    have e2 : upd (upd H l1 (.lst ((wordsP w h l).map V.str))) r (.lst [.str (headP w h l)]) r = some (.lst [.str (headP w h l)]) := upd_same
    show tSeq _ _ _ _ (upd (upd H l1 (.lst ((wordsP w h l).map V.str))) r (.lst [.str (headP w h l)]))
    generalize upd (upd H l1 (.lst ((wordsP w h l).map V.str))) r (.lst [.str (headP w h l)]) = H2 at s2 e2
    refine ⟨_, rfl, a, ns, 1, rfl, same_sqL s2 hq, by decide, by decide, hl63, ?_⟩
    refine ⟨_, rfl, a, ns, 2, rfl, same_sqL s2 hq, by decide, by decide, hl63, ?_⟩
    generalize ns.getD (1 : Int).toNat 0 = c
    generalize ns.getD (2 : Int).toNat 0 = d
    refine ⟨_, rfl, b, _, 1, .int h, rfl, rfl, T1 s2, rfl, _, rfl, b, _, 2, .int l, rfl, rfl, T1 s2, rfl, (h : Int), (l : Int), rfl, rfl, .inl ⟨by omega, by omega⟩, ((h * l : Nat) : Int), by rw [Int.natCast_mul], by omega, by omega, ?_⟩
    refine for_range (fun k σ H' => ∃ v5 v6 v7 v8, σ = [some (.ref a), some (.ref b), some (.ref r), some (.int (c / 2 ^ (k * w))), some (.int d), v5, v6, v7, v8] ∧ Same H H' ∧ H' r = some (.lst ((headP w h l :: sgRows (hoB d w) (cuB c w) w h k).map V.str))) ⟨_, _, _, _, by rw [Nat.zero_mul, show (2 : Int) ^ 0 = 1 from rfl, Int.ediv_one]; rfl, s2, by rw [e2]; simp [sgRows]⟩ ?_ ?_
    · rintro k σ H3 hk ⟨v5, v6, v7, v8, rfl, s3, e3⟩
      rw [Int.toNat_natCast] at hk
      refine ⟨_, rfl, b, _, 0, .int w, rfl, rfl, T1 s3, rfl, (w : Int), rfl, by omega, by omega, ?_⟩
      refine for_range (fun x σ H' => ∃ v7 v8, σ = [some (.ref a), some (.ref b), some (.ref r), some (.int (c / 2 ^ (k * w + x))), some (.int d), some (.int (0 + (k : Int))), some (.str (sgRow (hoB d w (k % h)) (cuB c w k) x)), v7, v8] ∧ H' = H3) ⟨_, _, by rw [show sgRow (hoB d w (k % h)) (cuB c w k) 0 = ("" : Str) from empty_is.symm]; rfl, rfl⟩ ?_ ?_
      · rintro x σ H4 hx ⟨v7, v8, rfl, rfl⟩
        rw [Int.toNat_natCast] at hx
        have hm : (0 + (k : Int)) % (h : Int) = ((k % h : Nat) : Int) := by rw [Int.zero_add]; rfl
        refine ⟨_, rfl, _, rfl, _, rfl, b, _, 1, .int h, rfl, rfl, T1 s3, rfl, _, (h : Int), rfl, rfl, (by show (0 : Int) < (h : Int); omega), _, rfl, b, _, 0, .int w, rfl, rfl, T1 s3, rfl, _, (w : Int), rfl, rfl, .inr ⟨by omega, by omega⟩, _, rfl, _, _, rfl, rfl, d, ((k % h * w + x : Nat) : Int), rfl, ?_, (by show (0 : Int) ≤ _; omega), _, _, rfl, rfl, ?_⟩
        · rw [hm, Int.zero_add]; simp
        · have hsz : (sgRow (hoB d w (k % h)) (cuB c w k) x).length = x := sgRow_len _ _ _
          rw [Int.toNat_natCast]
          have hc2 : c / 2 ^ (k * w + x) % 2 = 0 ∨ c / 2 ^ (k * w + x) % 2 = 1 := by omega
          have ec : c / 2 ^ (k * w + x) / 2 = c / 2 ^ (k * w + (x + 1)) := by
            rw [Int.ediv_ediv_of_nonneg (Int.pow_nonneg (by decide)), ← Int.pow_succ]; rfl
          refine ⟨_, rfl, _, rfl, _, 2, rfl, rfl, (by show (0 : Int) < 2; decide), _, rfl, 2, _, rfl, rfl, .inl ⟨by decide, by decide⟩, _, _, rfl, rfl, ".#oO", _, sgn (hoB d w (k % h) x) (cuB c w k x), rfl, rfl, by decide, ?_, _, _, rfl, rfl, ?_, _, rfl, _, 2, rfl, rfl, ⟨by decide, by decide⟩, ⟨some (.int (0 + (x : Int))), some (.int (Builtin.bitAnd (d / 2 ^ (k % h * w + x)) 1)), ?_, rfl⟩⟩
          · have es : (".#oO" : Str).cps.toList = [46, 35, 111, 79] := by decide +kernel
            rw [es]
            unfold hoB cuB
            rcases bit_and (d / 2 ^ (k % h * w + x)) with e1 | e1 <;> rcases hc2 with e3 | e3 <;> rw [e1, e3] <;> rfl
          · rw [hsz]; exact Nat.le_trans (show x + 1 ≤ 100 by omega) (by decide)
          · have er : sgRow (hoB d w (k % h)) (cuB c w k) x ++ (⟨#[sgn (hoB d w (k % h) x) (cuB c w k x)]⟩ : Str) = sgRow (hoB d w (k % h)) (cuB c w k) (x + 1) := by
              unfold sgRow
              rw [str_snoc, List.range_succ, List.map_append]; rfl
            rw [← ec, ← er]
            rfl
      · rintro σ H4 ⟨v7, v8, rfl, rfl⟩
        rw [Int.toNat_natCast]
        refine ⟨_, rfl, .inl ⟨rfl, _, SqL.of e3⟩, _, rfl, r, _, _, rfl, rfl, e3, ?_, some (.int (0 + (k : Int))), some (.str (sgRow (hoB d w (k % h)) (cuB c w k) w)), v7, v8, ?_, ?_, ?_⟩
        · simp only [List.length_map, List.length_cons, rows_len]
          exact Nat.lt_of_le_of_lt (show k + 1 ≤ 100 by omega) (by decide)
        · rw [show (k + 1) * w = k * w + w by rw [Nat.add_mul, Nat.one_mul]]
        · exact fun b u e => by rw [upd_ne (ne_of_none e nr)]; exact s3 _ _ e
        · rw [upd_same, rows_snoc, List.map_cons, List.map_cons, List.map_append]; rfl
    · rintro σ H3 ⟨v5, v6, v7, v8, rfl, s3, e3⟩
      rw [Int.toNat_natCast] at e3
      exact ⟨_, rfl, q r H3 _ _ s3 e3⟩
end
end K15
set_option Elab.async false
set_option linter.all false
set_option maxRecDepth 100000
set_option maxHeartbeats 4000000
namespace K15
open PySem L2 Wd
def big {n : Nat} (hn : n ≤ 1000) : n ≤ sizeLine := Nat.le_trans hn (by decide)
theorem cat_rest {K : PySem.W.Frag} {H H2 : Hp} {rs mid : List Str} {k j : Nat} {a p1 p2 : Addr} {σ : St} {Qr : VK} {tj : TO} (ha : H a = some (.lst (rs.map V.str))) (hn : rs.length ≤ 100) (hm : mid.length ≤ 100) (s2 : Same H H2)
    (e1 : H2 p1 = some (.lst ((rs.map V.str).take k))) (e2 : H2 p2 = some (.lst (mid.map V.str))) (hσ : ∀ Hx Qx, Qx (.ref a) Hx → tVar 0 σ Hx Qx) (hj : ∀ Hx Qx, Qx (some (j : Int)) Hx → tj σ Hx Qx)
    (q : ∀ p H', Same H H' → H' p = some (.lst ((rs.take k ++ mid ++ rs.drop j).map V.str)) → Qr (.ref p) H') : rCat (.ref p1) (.ref p2) H2 fun x1 H1 => tSl (rSlL K) (tVar 0) tj tNoPart σ H1 fun y H3 => rCat x1 y H3 Qr := by
  refine ⟨p1, p2, _, _, rfl, rfl, e1, e2, ?_, fun p3 hp3 => ?_⟩
  · simp only [List.length_take, List.length_map]; exact big (by omega)
  have s3 := same_new (o := .lst ((rs.map V.str).take k ++ mid.map V.str)) s2 hp3
  refine hσ _ _ (hj _ _ ⟨a, _, rfl, SqL.of (s3 _ _ ha), fun p4 hp4 => ?_⟩)
  rw [cutN]
  have np34 : p3 ≠ p4 := fun z => by rw [← z, upd_same] at hp4; cases hp4
  refine ⟨p3, p4, _, _, rfl, rfl, by rw [upd_ne np34]; exact upd_same, upd_same, ?_, fun p5 hp5 => q p5 _ (same_new (same_new s3 hp4) hp5) ?_⟩
  · simp only [List.length_append, List.length_take, List.length_drop, List.length_map]; exact big (by omega)
  · rw [upd_same, List.map_append, List.map_append, List.map_take, List.map_drop]
section
variable {P : Program} {w : World} {K : PySem.W.Frag} {mg : Str → Option Value} {base : Heap} {t : Adr}
def spLPut : Sp := fun vs H Q _ => ∃ (a : Addr) (rs : List Str) (k x : Nat) (one r : Str), vs = [.ref a, .int k, .int x, .str one] ∧ H a = some (.lst (rs.map V.str)) ∧ rs[k]? = some r ∧ x < r.length ∧ r.length ≤ 100 ∧ one.length ≤ 10 ∧ rs.length ≤ 100 ∧
  ∀ p H', Same H H' → H' p = some (.lst ((rs.set k (putS r x one)).map V.str)) → Q (.ref p) H'
theorem ok_law_put (T : Txt K mg t) : GoodF P w K mg base 1 "_law_put" ["_law_rows", "_law_at", "_law_x", "_law_one"] spLPut := by
  obtain ⟨fd, F, b⟩ := T.F_law_put
  refine ⟨_, fd, F.okX sc_law_put (fun vs H Q E h => ?_) (fun cdv A outer s H vs Q E hr h => ?_), b, F.kp, T.g__law_put⟩
  · obtain ⟨a, rs, k, x, one, r, rfl, _⟩ := h
    rfl
  · obtain ⟨a, rs, k, x, one, r, rfl, ha, hk, hx, hr100, ho, hn, q⟩ := h
    refine ⟨_, (pss_cons (ps_set (i := 4) sc_law_put.nd rfl (Or.inl rfl) (pe_ix ix_list (pv 0) (pv 1) (fun _ _ => rfl)))
      (pss_one (ps_ret (pe_op op_cat (pe_op op_cat (pe_slice sl_list (pv 0) po_none (po_some (pv 1))) (pe_lst (pa_cons (pe_op op_add_str (pe_op op_add_str (pe_slice sl_str (pv 4) po_none (po_some (pv 2))) (pv 3)) (pe_slice sl_str (pv 4) (po_some (pe_op op_add (pv 2) pe_int)) po_none)) pa_nil))) (pe_slice sl_list (pv 0) (po_some (pe_op op_add (pv 1) pe_int)) po_none))))), ?_⟩
    have hk2 : (rs.map V.str)[k]? = some (.str r) := by rw [List.getElem?_map, hk]; rfl
    have hkl : k < rs.length := (List.getElem?_eq_some_iff.mp hk).1
    have l1 := Txt.slice_le r none (some (x : Int))
    have l2 := Txt.slice_le r (some ((x : Int) + 1)) none
    refine ⟨_, rfl, _, rfl, a, _, _, .str r, rfl, rfl, SqL.of ha, atI_nat hk2, ?_⟩
    refine ⟨_, rfl, _, rfl, _, rfl, a, _, rfl, SqL.of ha, fun p1 hp1 => ?_⟩
    rw [cutT]
    have s1 : Same H (upd H p1 (.lst ((rs.map V.str).take k))) := same_new (Same.refl H) hp1
    refine ⟨_, rfl, _, rfl, _, rfl, r, rfl, big (by omega), _, rfl, _, _, rfl, rfl, by exact big (by omega), _, rfl, _, rfl, _, 1, rfl, rfl, _, rfl, r, rfl, big (by omega), _, _, rfl, rfl, ?_, (by show 1 ≤ sizeLine; decide), fun p2 hp2 => ?_⟩
    · rw [len_app]; exact big (by omega)
    have np12 : p1 ≠ p2 := fun z => by rw [← z, upd_same] at hp2; cases hp2
    have s2 : Same H (upd (upd H p1 (.lst ((rs.map V.str).take k))) p2 (.lst [.str (putS r x one)])) := same_new s1 hp2
    refine cat_rest (K := K) (rs := rs) (mid := [putS r x one]) (k := k) (j := k + 1) ha hn (by show 1 ≤ 100; decide) s2 (by rw [upd_ne np12]; exact upd_same) upd_same (fun Hx Qx h => ⟨_, rfl, h⟩) (fun Hx Qx h => ⟨_, rfl, _, 1, rfl, rfl, _, rfl, h⟩) fun p H' s' e => q p H' s' ?_
    rw [e, set_cut _ hkl]
end
end K15
set_option Elab.async false
set_option linter.all false
set_option maxRecDepth 100000
set_option maxHeartbeats 4000000
namespace K15
open PySem L2 Wd
structure Wrd (n : Nat) (W : Str) : Prop where
  f32 : 32 ∉ W.cps.toList
  f10 : 10 ∉ W.cps.toList
  len : W.length ≤ 60
  no : ∀ m : Nat, 1 ≤ m → m ≤ 12 → tx m = W → m ≠ n
theorem tx_len (n : Nat) (h : n < 10 ^ 40) : (tx (n : Int)).length ≤ 41 := by
  have := (numOk (sg_num h).1).len
  rw [len_list]; exact this
theorem wrd_num {n m : Nat} (h : m ≠ n ∨ 12 < m) (hm : m < 10 ^ 40) : Wrd n (tx m) :=
  ⟨tx_free 32 (by decide) _, tx_free 10 (by decide) _, Nat.le_trans (tx_len m hm) (by decide), fun k k1 k2 e => by
    have := tx_inj e
    omega⟩
theorem wrd_some {n : Nat} (h2 : 2 ≤ n) (h12 : n ≤ 12) : Wrd n ("0" : Str) ∧ Wrd n (("0" : Str) ++ tx n) ∧ Wrd n ("x" : Str) ∧ Wrd n ("" : Str) := by
  have e0 : ("0" : Str) = tx (0 : Nat) := by decide +kernel
  have ne : ∀ {W : Str}, (∀ m : Fin 13, 1 ≤ m.1 → tx ((m.1 : Nat) : Int) ≠ W) → ∀ m : Nat, 1 ≤ m → m ≤ 12 → tx m = W → m ≠ n := fun f m k1 k2 e => absurd e (f ⟨m, by omega⟩ k1)
  refine ⟨?_, ⟨fun hm => ?_, fun hm => ?_, ?_, fun m k1 k2 e => ?_⟩, ⟨by decide +kernel, by decide +kernel, by decide +kernel, ne (by decide +kernel)⟩, ⟨by decide +kernel, by decide +kernel, by decide +kernel, ne (by decide +kernel)⟩⟩
  · rw [e0]; exact wrd_num (.inl (by omega)) (by decide)
  · rw [app_list, List.mem_append] at hm
    exact hm.elim (by decide +kernel) (tx_free 32 (by decide) _)
  · rw [app_list, List.mem_append] at hm
    exact hm.elim (by decide +kernel) (tx_free 10 (by decide) _)
  · rw [len_app]
    have h1 := tx_len n (Nat.lt_of_le_of_lt h12 (by decide))
    have : ("0" : Str).length = 1 := by decide +kernel
    omega
  · have all : ∀ m : Fin 13, ∀ n : Fin 13, 1 ≤ m.1 → tx ((m.1 : Nat) : Int) ≠ ("0" : Str) ++ tx ((n.1 : Nat) : Int) := by decide +kernel
    exact absurd e (all ⟨m, by omega⟩ ⟨n, by omega⟩ k1)
theorem bad_measure {w h l : Nat} {ho cu : Nat → Nat → Bool} (s : Sz w h l) {i : Nat} (hi : i < 3) {W : Str} (hW : Wrd ([w, h, l].getD i 0) W) :
    Bad (Txt.join " " ((wordsP w h l).set (1 + i) W) :: sgRows ho cu w h (h * l)) := by
  have f32 : ∀ n : Nat, 32 ∉ (tx (n : Int)).cps.toList := fun n => tx_free 32 (by decide) _
  have f10 : ∀ n : Nat, 10 ∉ (tx (n : Int)).cps.toList := fun n => tx_free 10 (by decide) _
  have tl : ∀ n : Nat, n ≤ 12 → (tx (n : Int)).length ≤ 100 := fun n hn => Nat.le_trans (tx_len n (Nat.lt_of_le_of_lt hn (by decide))) (by decide)
  have wl : W.length ≤ 100 := Nat.le_trans hW.len (by decide)
  match i, hi, hW with
  | 0, _, hW =>
    refine bad_words s ⟨hW.f32, f32 _, f32 _⟩ ⟨hW.f10, f10 _, f10 _⟩ ⟨wl, tl _ s.h12, tl _ (by have := s.l3; omega)⟩ fun w' h' l' bw bh bl e1 e2 e3 q => ?_
    exact hW.no w' bw.1 bw.2 e1 q.1
  | 1, _, hW =>
    refine bad_words s ⟨f32 _, hW.f32, f32 _⟩ ⟨f10 _, hW.f10, f10 _⟩ ⟨tl _ s.w12, wl, tl _ (by have := s.l3; omega)⟩ fun w' h' l' bw bh bl e1 e2 e3 q => ?_
    have q1 := hW.no h' bh.1 bh.2 e2
    have q2 := tx_inj e3
    subst q2
    exact q1 (Nat.eq_of_mul_eq_mul_right (by omega) q.2)
  | 2, _, hW =>
    refine bad_words s ⟨f32 _, f32 _, hW.f32⟩ ⟨f10 _, f10 _, hW.f10⟩ ⟨tl _ s.w12, tl _ s.h12, wl⟩ fun w' h' l' bw bh bl e1 e2 e3 q => ?_
    have q1 := hW.no l' bl.1 (by omega) e3
    have q2 := tx_inj e2
    subst q2
    exact q1 (Nat.eq_of_mul_eq_mul_left (by omega) q.2)
section
variable {P : Program} {w : World} {K : PySem.W.Frag} {mg : Str → Option Value} {base : Heap} {t : Adr}
def spChange : Sp := fun vs H Q _ => ∃ (a b : Addr) (n : Nat) (c : Int) (w h l : Nat) (ho cu : Nat → Nat → Bool), vs = [.ref a, .int n, .ref b, .int c] ∧ n < 7 ∧ H a = some (.lst ((headP w h l :: sgRows ho cu w h (h * l)).map V.str)) ∧ H b = some (.tup [.int w, .int h, .int l]) ∧ Sz w h l ∧
  ∀ p rs H', Same H H' → Bad rs → H' p = some (.lst (rs.map V.str)) → Q (.ref p) H'
theorem ok_law_measures (T : Txt K mg t) : GoodF P w K mg base 1 "_law_measures" ["_law_rows", "_law_turn", "_law_size", "_law_cell"] spChange := by
  obtain ⟨fd, F, b⟩ := T.F_law_measures
  refine ⟨_, fd, F.okX sc_law_measures (fun vs H Q E h => ?_) (fun cdv A outer s H vs Q E hr h => ?_), b, F.kp, T.g__law_measures⟩
  · obtain ⟨a, b, n, c, w, h, l, ho, cu, rfl, _⟩ := h
    rfl
  · obtain ⟨a, b, n, c, w, h, l, ho, cu, rfl, hn, ha, hb, sz, q⟩ := h
    refine ⟨_, (pss_cons (ps_set (i := 4) sc_law_measures.nd rfl (Or.inl rfl) (pe_bm PySem.F.plainAttrs_str PySem.F.slot_str_split PySem.F.type_str_split mt_split (pe_ix ix_list (pv 0) pe_int (fun _ _ => rfl)) (pa_cons pe_str pa_nil)))
      (pss_cons (ps_set (i := 5) sc_law_measures.nd rfl (Or.inl rfl) (pe_op op_add pe_int (pe_op op_mod (pv 3) pe_int)))
      (pss_cons (ps_set (i := 6) sc_law_measures.nd rfl (Or.inl rfl) (pe_ix ix_tup (pv 2) (pe_op op_sub (pv 5) pe_int) (fun _ _ => rfl)))
      (pss_cons (ps_set (i := 7) sc_law_measures.nd rfl (Or.inl rfl) (pe_lst (pa_cons pe_str (pa_cons (pe_callTy call_str_int (by rfl) T.n_str b_str (pa_cons (pe_op op_add pe_int (pe_op op_mod (pv 3) (pe_op op_pow pe_int pe_int))) pa_nil)) (pa_cons (pe_callTy call_str_int (by rfl) T.n_str b_str (pa_cons (pe_op op_add (pv 6) pe_int) pa_nil)) (pa_cons (pe_callTy call_str_int (by rfl) T.n_str b_str (pa_cons (pe_op op_sub (pv 6) pe_int) pa_nil)) (pa_cons (pe_op op_add_str pe_str (pe_callTy call_str_int (by rfl) T.n_str b_str (pa_cons (pv 6) pa_nil))) (pa_cons pe_str (pa_cons pe_str pa_nil)))))))))
      (pss_cons (ps_asg (pe_ix ix_list (pv 7) (pv 1) (fun _ _ => rfl)) (pg_sub (pv 4) (pv 5) set_list))
      (pss_one (ps_ret (pe_op op_cat (pe_lst (pa_cons (pe_bm PySem.F.plainAttrs_str PySem.F.slot_str_join PySem.F.type_str_join mt_join pe_str (pa_cons (pv 4) pa_nil)) pa_nil)) (pe_slice sl_list (pv 0) (po_some pe_int) po_none))))))))), ?_⟩
    have hhl := sz.hl
    have hh := headP_short sz.w12 sz.h12 sz.l3
    obtain ⟨i, hi, ei⟩ : ∃ i : Nat, i < 3 ∧ c % 3 = (i : Int) := ⟨(c % 3).toNat, by omega, by omega⟩
    obtain ⟨m, hm⟩ : ∃ m, m = [w, h, l].getD i 0 := ⟨_, rfl⟩
    have m2 : 2 ≤ m ∧ m ≤ 12 := by
      have := sz.w2; have := sz.w12; have := sz.h2; have := sz.h12; have := sz.l2; have := sz.l3
      match i, hi, hm with
      | 0, _, hm => exact ⟨by rw [hm]; exact sz.w2, by rw [hm]; exact sz.w12⟩
      | 1, _, hm => exact ⟨by rw [hm]; exact sz.h2, by rw [hm]; exact sz.h12⟩
      | 2, _, hm => exact ⟨by rw [hm]; exact sz.l2, by rw [hm]; show l ≤ 12; omega⟩
    have em : [V.int (w : Int), V.int h, V.int l][i]? = some (.int (m : Int)) := by
      match i, hi, hm with
      | 0, _, hm => rw [hm]; rfl
      | 1, _, hm => rw [hm]; rfl
      | 2, _, hm => rw [hm]; rfl
    obtain ⟨k13, h13⟩ : ∃ k : Nat, 13 + c % 10 ^ 20 = (k : Int) ∧ 12 < k ∧ k < 10 ^ 40 := ⟨(13 + c % 10 ^ 20).toNat, by omega, by omega, by omega⟩
    refine ⟨_, rfl, a, _, 0, .str (headP w h l), rfl, rfl, SqL.of ha, atI_nat (j := 0) rfl, rfl, _, " ", rfl, rfl, by decide, big (by omega), by rw [headP_split]; show 4 ≤ sizeLine; decide, fun p1 hp1 => ?_⟩
    rw [headP_split]
    have s1 : Same H (upd H p1 (.lst ((wordsP w h l).map V.str))) := same_new (Same.refl H) hp1
    have e1 : upd H p1 (.lst ((wordsP w h l).map V.str)) p1 = some (.lst ((wordsP w h l).map V.str)) := upd_same
    show tSeq _ _ _ _ (upd H p1 (.lst ((wordsP w h l).map V.str)))
    have hpn : H p1 = none := hp1
    generalize upd H p1 (.lst ((wordsP w h l).map V.str)) = H1 at s1 e1
    have n1a : p1 ≠ a := fun z => by rw [z, ha] at hpn; cases hpn
    have lgn : ∀ k : Nat, k < 10 ^ 40 → Lg (k : Int) := fun k hk => lg_of (by rw [Int.natAbs_natCast]; exact Nat.lt_trans hk (by decide))
    have m40 : ∀ k : Nat, k ≤ 100 → k < 10 ^ 40 := fun k hk => Nat.lt_of_le_of_lt hk (by decide)
    refine ⟨_, rfl, c, 3, rfl, rfl, (by show (0 : Int) < 3; decide), 1, _, rfl, rfl, ?_⟩
    refine ⟨_, rfl, _, rfl, _, 1, rfl, rfl, b, _, (i : Int), .int (m : Int), rfl, ?_, SqT.of (s1 _ _ hb), atI_nat em, ?_⟩
    · show V.int (1 + c % 3 - 1) = _
      rw [ei]; congr 1; omega
    refine ⟨_, rfl, 10, 20, rfl, rfl, ⟨by decide, by decide, by decide⟩, c, 10 ^ 20, rfl, rfl, (by show (0 : Int) < 10 ^ 20; decide), 13, _, rfl, rfl, (k13 : Int), ?_, lgn _ h13.2.2, ?_⟩
    · show [V.int (13 + c % 10 ^ 20)] = _
      rw [h13.1]
    refine ⟨_, rfl, (m : Int), 1, rfl, rfl, ((m + 1 : Nat) : Int), rfl, lgn _ (m40 _ (by omega)), ?_⟩
    refine ⟨_, rfl, (m : Int), 1, rfl, rfl, ((m - 1 : Nat) : Int), ?_, lgn _ (m40 _ (by omega)), ?_⟩
    · show [V.int ((m : Int) - 1)] = _
      congr 2; omega
    refine ⟨_, rfl, (m : Int), rfl, lgn _ (m40 _ (by omega)), "0", _, rfl, rfl, ?_, (by show 7 ≤ sizeLine; decide), fun p2 hp2 => ?_⟩
    · have h1 := tx_len m (m40 _ (by omega))
      have : ("0" : Str).length = 1 := by decide +kernel
      show ("0" : Str).length + (tx (m : Int)).length ≤ _
      exact big (by omega)
    obtain ⟨W, hW, eW⟩ : ∃ W, Wrd m W ∧ ([("0" : Str), tx (k13 : Int), tx ((m + 1 : Nat) : Int), tx ((m - 1 : Nat) : Int), ("0" : Str) ++ tx (m : Int), ("x" : Str), ("" : Str)].map V.str)[n]? = some (.str W) := by
      obtain ⟨w0, w4, w5, w6⟩ := wrd_some m2.1 m2.2
      match n, hn with
      | 0, _ => exact ⟨_, w0, rfl⟩
      | 1, _ => exact ⟨_, wrd_num (.inr h13.2.1) h13.2.2, rfl⟩
      | 2, _ => exact ⟨_, wrd_num (.inl (by omega)) (m40 _ (by omega)), rfl⟩
      | 3, _ => exact ⟨_, wrd_num (.inl (by omega)) (m40 _ (by omega)), rfl⟩
      | 4, _ => exact ⟨_, w4, rfl⟩
      | 5, _ => exact ⟨_, w5, rfl⟩
      | 6, _ => exact ⟨_, w6, rfl⟩
    have np12 : p1 ≠ p2 := fun z => by rw [← z] at hp2; rw [e1] at hp2; cases hp2
    refine ⟨_, rfl, _, rfl, p2, _, (n : Int), .str W, rfl, rfl, SqL.of upd_same, atI_nat eW, _, rfl, _, rfl, p1, _, ((1 + i : Nat) : Int), 1 + i, rfl, ?_, by rw [upd_ne np12]; exact e1, ?_, ?_⟩
    · show V.int (1 + c % 3) = _
      rw [ei]; rfl
    · unfold ixN
      rw [if_pos (by omega), if_pos (by show ((1 + i : Nat) : Int) < 4; omega), Int.toNat_natCast]
    have hBad := bad_measure (ho := ho) (cu := cu) sz hi (hm ▸ hW)
    rw [show ((wordsP w h l).map V.str).set (1 + i) (.str W) = ((wordsP w h l).set (1 + i) W).map V.str by rw [List.map_set]]
    generalize ew : (wordsP w h l).set (1 + i) W = ws at hBad
    have kk : ∀ b u, b ≠ p1 → H b = some u → upd (upd H1 p2 (.lst ([("0" : Str), tx (k13 : Int), tx ((m + 1 : Nat) : Int), tx ((m - 1 : Nat) : Int), ("0" : Str) ++ tx (m : Int), ("x" : Str), ("" : Str)].map V.str))) p1 (.lst (ws.map V.str)) b = some u := fun b u nb e => by
      rw [upd_ne nb, upd_ne (ne_of_none (s1 _ _ e) hp2)]; exact s1 _ _ e
    have s3 : Same H (upd (upd H1 p2 (.lst ([("0" : Str), tx (k13 : Int), tx ((m + 1 : Nat) : Int), tx ((m - 1 : Nat) : Int), ("0" : Str) ++ tx (m : Int), ("x" : Str), ("" : Str)].map V.str))) p1 (.lst (ws.map V.str))) := fun b u e => kk b u (ne_of_none e hpn) e
    refine ⟨rfl, _, rfl, " ", p1, ws, rfl, rfl, SqL.of upd_same, ?_, (by show 1 ≤ sizeLine; decide), fun p3 hp3 => ?_⟩
    · have l5 : ws.length = 4 := by rw [← ew, List.length_set]; rfl
      have h1 := StrLaws.sumLen_le (B := 60) ws fun y hy => by
        rw [← ew] at hy
        rcases set_mem hy with hy | rfl
        · simp only [wordsP, List.mem_cons, List.not_mem_nil, or_false] at hy
          have tl : ∀ n : Nat, n ≤ 12 → (tx (n : Int)).length ≤ 60 := fun n hn => Nat.le_trans (tx_len n (m40 _ (by omega))) (by decide)
          rcases hy with rfl | rfl | rfl | rfl
          · decide +kernel
          · exact tl _ sz.w12
          · exact tl _ sz.h12
          · exact tl _ (by have := sz.l3; omega)
        · exact hW.len
      have h2 : (" " : Str).length = 1 := by decide +kernel
      rw [l5] at h1
      rw [h2, l5]
      omega
    have s4 := same_new (o := .lst [.str (Txt.join " " ws)]) s3 hp3
    refine ⟨_, rfl, _, rfl, a, _, rfl, SqL.of (s4 _ _ ha), fun p4 hp4 => ?_⟩
    rw [cut1]
    have np34 : p3 ≠ p4 := fun z => by rw [← z, upd_same] at hp4; cases hp4
    refine ⟨p3, p4, _, _, rfl, rfl, by rw [upd_ne np34]; exact upd_same, upd_same, ?_, fun p5 hp5 => q p5 _ _ (same_new (same_new s4 hp4) hp5) hBad ?_⟩
    · simp only [List.length_cons, List.length_nil, List.length_drop, List.length_map, rows_len]; exact big (by omega)
    · rw [upd_same]; rfl
end
end K15
set_option Elab.async false
set_option linter.all false
set_option maxRecDepth 100000
set_option maxHeartbeats 4000000
namespace K15
open PySem L2 Wd
theorem putS_len {r : Str} {x : Nat} {one : Str} (h : x < r.length) (h1 : r.length ≤ 100) (h2 : one.length ≤ 10) : (putS r x one).length ≤ 1000 := by
  rw [len_list] at h h1 h2 ⊢
  rw [putS_list one h, List.length_append, List.length_append, List.length_take, List.length_drop]
  omega
theorem putS_free {c : Nat} {r : Str} {x : Nat} {one : Str} (h : x < r.length) (f1 : c ∉ r.cps.toList) (f2 : c ∉ one.cps.toList) : c ∉ (putS r x one).cps.toList := fun hm => by
  rw [putS_list one (by rw [← len_list]; exact h), List.mem_append, List.mem_append] at hm
  rcases hm with (hm | hm) | hm
  · exact f1 (List.mem_of_mem_take hm)
  · exact f2 hm
  · exact f1 (List.mem_of_mem_drop hm)
theorem putS_mem {c : Nat} {r : Str} {x : Nat} (h : x < r.length) : c ∈ (putS r x ⟨#[c]⟩).cps.toList := by
  rw [putS_list _ (by rw [← len_list]; exact h), List.mem_append, List.mem_append]
  exact .inl (.inr (List.mem_singleton.mpr rfl))
theorem putS_get {c : Nat} {r : Str} {x : Nat} (h : x < r.length) : (putS r x ⟨#[c]⟩).cps.toList.getD x 0 = c := by
  rw [len_list] at h
  rw [putS_list _ h, List.append_assoc, List.getD_eq_getElem?_getD, List.getElem?_append_right (by rw [List.length_take]; omega), List.length_take, Nat.min_eq_left (by omega), Nat.sub_self]
  rfl
def other : List (Key × V) := [(.inr ".", .str "o"), (.inr "#", .str "O"), (.inr "o", .str "."), (.inr "O", .str "#")]
theorem other_at (a b : Bool) : valV (mergeK [] other) (.inr ⟨#[sgn a b]⟩) = some (.str ⟨#[sgn (!a) b]⟩) := by
  cases a <;> cases b <;> rfl
section
variable {P : Program} {w : World} {K : PySem.W.Frag} {mg : Str → Option Value} {base : Heap} {t : Adr}
theorem ok_law_by_rows (T : Txt K mg t) : GoodF P w K mg base 2 "_law_by_rows" ["_law_rows", "_law_turn", "_law_size", "_law_cell"] spChange := by
  obtain ⟨fd, F, b⟩ := T.F_law_by_rows
  have G_law_put := ok_law_put (P := P) (w := w) (base := base) T
  refine ⟨_, fd, F.okX sc_law_by_rows (fun vs H Q E h => ?_) (fun cdv A outer s H vs Q E hr h => ?_), b, F.kp, T.g__law_by_rows⟩
  · obtain ⟨a, b, n, c, w, h, l, ho, cu, rfl, _⟩ := h
    rfl
  · obtain ⟨a, b, n, c, w, h, l, ho, cu, rfl, hn, ha, hb, sz, q⟩ := h
    refine ⟨_, (pss_cons (ps_set (i := 4) sc_law_by_rows.nd rfl (Or.inl rfl) (pe_op op_add pe_int (pe_op op_mod (pv 3) (pe_op op_sub (pe_callB call_len_seq (by rfl) T.n_len b_len (pa_cons (pv 0) pa_nil)) pe_int))))
      (pss_cons (ps_set (i := 5) sc_law_by_rows.nd rfl (Or.inl rfl) (pe_op op_mod (pe_op op_fdiv (pv 3) pe_int) (pe_ix ix_tup (pv 2) pe_int (fun _ _ => rfl))))
      (pss_cons (ps_if (pt_cmpR op_eq (pv 1) pe_int (nomark _)) (pss_one (ps_ret (pe_callG G_law_put (hr.mono (by decide)) passes_of (by rfl) (pa_cons (pv 0) (pa_cons (pv 4) (pa_cons (pv 5) (pa_cons (pe_ix ix_list (pe_lst (pa_cons pe_str (pa_cons pe_str (pa_cons pe_str (pa_cons pe_str (pa_cons pe_str pa_nil)))))) (pe_op op_mod (pe_op op_fdiv (pv 3) pe_int) pe_int) (fun _ _ => rfl)) pa_nil))))))) pss_nil)
      (pss_cons (ps_if (pt_cmpR op_eq (pv 1) pe_int (nomark _)) (pss_one (ps_ret (pe_op op_cat (pe_op op_cat (pe_slice sl_list (pv 0) po_none (po_some (pv 4))) (pe_lst (pa_cons (pe_op op_add_str (pe_ix ix_list (pv 0) (pv 4) (fun _ _ => rfl)) pe_str) pa_nil))) (pe_slice sl_list (pv 0) (po_some (pe_op op_add (pv 4) pe_int)) po_none)))) pss_nil)
      (pss_cons (ps_if (pt_cmpR op_eq (pv 1) pe_int (nomark _)) (pss_one (ps_ret (pe_op op_cat (pe_op op_cat (pe_slice sl_list (pv 0) po_none (po_some (pv 4))) (pe_lst (pa_cons (pe_slice sl_str (pe_ix ix_list (pv 0) (pv 4) (fun _ _ => rfl)) (po_some pe_int) po_none) pa_nil))) (pe_slice sl_list (pv 0) (po_some (pe_op op_add (pv 4) pe_int)) po_none)))) pss_nil)
      (pss_cons (ps_if (pt_cmpR op_eq (pv 1) pe_int (nomark _)) (pss_one (ps_ret (pe_op op_cat (pe_op op_cat (pe_slice sl_list (pv 0) po_none (po_some (pv 4))) (pe_lst (pa_cons (pe_ix ix_list (pv 0) (pv 4) (fun _ _ => rfl)) pa_nil))) (pe_slice sl_list (pv 0) (po_some (pv 4)) po_none)))) pss_nil)
      (pss_cons (ps_if (pt_cmpR op_eq (pv 1) pe_int (nomark _)) (pss_one (ps_ret (pe_op op_cat (pe_slice sl_list (pv 0) po_none (po_some (pv 4))) (pe_slice sl_list (pv 0) (po_some (pe_op op_add (pv 4) pe_int)) po_none)))) pss_nil)
      (pss_cons (ps_if (pt_cmpR op_eq (pv 1) pe_int (nomark _)) (pss_cons (ps_set (i := 6) sc_law_by_rows.nd rfl (Or.inl rfl) (pe_disp (pps_cons pe_str pe_str (pps_cons pe_str pe_str (pps_cons pe_str pe_str (pps_cons pe_str pe_str pps_nil)))) rfl rfl (by decide) (by decide)))
      (pss_one (ps_ret (pe_callG G_law_put (hr.mono (by decide)) passes_of (by rfl) (pa_cons (pv 0) (pa_cons (pv 4) (pa_cons (pv 5) (pa_cons (pe_dget (hu_of hr) (pv 6) (pe_ix ix_str (pe_ix ix_list (pv 0) (pv 4) (fun _ _ => rfl)) (pv 5) (fun _ _ => rfl)) (fun _ _ => rfl)) pa_nil)))))))) pss_nil)
      (pss_one (ps_ret (pe_op op_cat (pe_ix ix_list (pe_lst (pa_cons (pe_lst (pa_cons (pe_op op_add_str (pe_ix ix_list (pv 0) pe_int (fun _ _ => rfl)) pe_str) pa_nil)) (pa_cons (pe_lst (pa_cons (pe_op op_add_str pe_str (pe_ix ix_list (pv 0) pe_int (fun _ _ => rfl))) pa_nil)) (pa_cons (pe_lst (pa_cons (pe_bm0 PySem.F.plainAttrs_str PySem.F.slot_str_upper PySem.F.type_str_upper mt_upper (pe_ix ix_list (pv 0) pe_int (fun _ _ => rfl))) pa_nil)) (pa_cons (pe_lst (pa_cons (pe_op op_add_str (pe_ix ix_list (pv 0) pe_int (fun _ _ => rfl)) pe_str) pa_nil)) pa_nil))))) (pe_op op_mod (pv 3) pe_int) (fun _ _ => rfl)) (pe_slice sl_list (pv 0) (po_some pe_int) po_none)))))))))))), ?_⟩
    have hhl := sz.hl
    have hh := headP_short sz.w12 sz.h12 sz.l3
    have w12 := sz.w12
    have w2 := sz.w2
    obtain ⟨j, hj, ej⟩ : ∃ j : Nat, j < h * l ∧ c % ((h * l : Nat) : Int) = (j : Int) := ⟨(c % ((h * l : Nat) : Int)).toNat, by
      have := Int.emod_lt_of_pos c (show (0 : Int) < ((h * l : Nat) : Int) by omega)
      have := Int.emod_nonneg c (show ((h * l : Nat) : Int) ≠ 0 by omega)
      omega, by
      have := Int.emod_nonneg c (show ((h * l : Nat) : Int) ≠ 0 by omega)
      omega⟩
    obtain ⟨x, hx, ex⟩ : ∃ x : Nat, x < w ∧ c / 40 % (w : Int) = (x : Int) := ⟨(c / 40 % (w : Int)).toNat, by
      have := Int.emod_lt_of_pos (c / 40) (show (0 : Int) < (w : Int) by omega)
      have := Int.emod_nonneg (c / 40) (show (w : Int) ≠ 0 by omega)
      omega, by
      have := Int.emod_nonneg (c / 40) (show (w : Int) ≠ 0 by omega)
      omega⟩
    have hlen : (headP w h l :: sgRows ho cu w h (h * l)).length = h * l + 1 := by rw [List.length_cons, rows_len]
    have hrow : (headP w h l :: sgRows ho cu w h (h * l))[j + 1]? = some (sgRow (ho (j % h)) (cu j) w) := by
      rw [List.getElem?_cons_succ]
      unfold sgRows
      rw [List.getElem?_map, List.getElem?_range hj]; rfl
    have hrow2 : ((headP w h l :: sgRows ho cu w h (h * l)).map V.str)[j + 1]? = some (.str (sgRow (ho (j % h)) (cu j) w)) := by
      rw [List.getElem?_map, hrow]; rfl
    have rl : (sgRow (ho (j % h)) (cu j) w).length = w := sgRow_len _ _ _
    have hset : ∀ r', (headP w h l :: sgRows ho cu w h (h * l)).set (j + 1) r' = headP w h l :: (sgRows ho cu w h (h * l)).set j r' := fun r' => List.set_cons_succ
    have rf : ∀ {c : Nat}, c ≠ 79 ∧ c ≠ 111 ∧ c ≠ 35 ∧ c ≠ 46 → c ∉ (sgRow (ho (j % h)) (cu j) w).cps.toList := fun hc => sgRow_free hc _ _ _
    generalize erow : sgRow (ho (j % h)) (cu j) w = row at hrow hrow2 rl rf
    refine seq_split (R := fun σ H' => σ = [some (.ref a), some (.int n), some (.ref b), some (.int c), some (.int ((j + 1 : Nat) : Int)), none, none] ∧ H' = H) (fun nx => ?_) ?_
    · refine ⟨_, rfl, _, rfl, a, _, rfl, .inl (SqL.of ha), _, 1, rfl, rfl, c, ((h * l : Nat) : Int), rfl, ?_, ?_, 1, _, rfl, rfl, nx _ _ ⟨?_, rfl⟩⟩
      · show V.int ((((headP w h l :: sgRows ho cu w h (h * l)).map V.str).length : Int) - 1) = _
        rw [List.length_map, hlen]; congr 1; omega
      · show (0 : Int) < _; omega
      · rw [ej, show ((j + 1 : Nat) : Int) = 1 + (j : Int) by omega]; rfl
    rintro σ H1 ⟨rfl, rfl⟩
    refine seq_split (R := fun σ H' => σ = [some (.ref a), some (.int n), some (.ref b), some (.int c), some (.int ((j + 1 : Nat) : Int)), some (.int (x : Int)), none] ∧ H' = H1) (fun nx => ?_) ?_
    · refine ⟨_, rfl, c, 40, rfl, rfl, ⟨by decide, by decide⟩, _, rfl, b, _, 0, .int w, rfl, rfl, SqT.of hb, rfl, _, (w : Int), rfl, rfl, (by show (0 : Int) < (w : Int); omega), nx _ _ ⟨?_, rfl⟩⟩
      rw [← ex]; rfl
    rintro σ H ⟨rfl, rfl⟩
    refine ⟨_, rfl, rfl, _, rfl, iteD (fun _ => ?_) fun _ => ⟨_, rfl, rfl, _, rfl, iteD (fun _ => ?_) fun _ => ⟨_, rfl, rfl, _, rfl, iteD (fun _ => ?_) fun _ => ⟨_, rfl, rfl, _, rfl, iteD (fun _ => ?_) fun _ => ⟨_, rfl, rfl, _, rfl, iteD (fun _ => ?_) fun _ => ⟨_, rfl, rfl, _, rfl, iteD (fun _ => ?_) fun _ => ?_⟩⟩⟩⟩⟩⟩
    · obtain ⟨ch, hch, hnl, eo⟩ : ∃ ch : Nat, (ch ≠ 79 ∧ ch ≠ 111 ∧ ch ≠ 35 ∧ ch ≠ 46) ∧ 10 ≠ ch ∧ atI [V.str ("X" : Str), V.str (" " : Str), V.str ("0" : Str), V.str ("*" : Str), V.str ("/" : Str)] (c / 480 % 5) = some (.str ⟨#[ch]⟩) := by
        have h5 : c / 480 % 5 = 0 ∨ c / 480 % 5 = 1 ∨ c / 480 % 5 = 2 ∨ c / 480 % 5 = 3 ∨ c / 480 % 5 = 4 := by omega
        rcases h5 with e | e | e | e | e <;> rw [e]
        · exact ⟨88, by decide, by decide, rfl⟩
        · exact ⟨32, by decide, by decide, rfl⟩
        · exact ⟨48, by decide, by decide, rfl⟩
        · exact ⟨42, by decide, by decide, rfl⟩
        · exact ⟨47, by decide, by decide, rfl⟩
      refine ⟨_, rfl, _, rfl, _, rfl, (by show 5 ≤ sizeLine; decide), fun p1 hp1 => ⟨_, rfl, c, 480, rfl, rfl, ⟨by decide, by decide⟩, _, 5, rfl, rfl, (by show (0 : Int) < 5; decide), p1, _, _, .str ⟨#[ch]⟩, rfl, rfl, SqL.of upd_same, eo, ?_⟩⟩
      have s1 := same_new (o := .lst [V.str ("X" : Str), V.str (" " : Str), V.str ("0" : Str), V.str ("*" : Str), V.str ("/" : Str)]) (Same.refl H) hp1
      have hxr : x < row.length := by omega
      refine ⟨a, _, j + 1, x, ⟨#[ch]⟩, row, rfl, s1 _ _ ha, hrow, hxr, by omega, (by show 1 ≤ 10; decide), by rw [hlen]; omega, fun p H' s' e => q p _ H' (Same.trans s1 s') ?_ e⟩
      rw [hset]
      exact bad_sign sz hj hch (putS_mem hxr) (putS_free hxr (rf (by decide)) (fun z => hnl (List.mem_singleton.mp z))) (putS_len hxr (by omega) (by show 1 ≤ 10; decide))
    · refine ⟨_, rfl, _, rfl, _, rfl, a, _, rfl, SqL.of ha, fun p1 hp1 => ?_⟩
      rw [cutT]
      have s1 := same_new (o := .lst (((headP w h l :: sgRows ho cu w h (h * l)).map V.str).take (j + 1))) (Same.refl H) hp1
      refine ⟨_, rfl, _, rfl, a, _, _, .str row, rfl, rfl, SqL.of (s1 _ _ ha), atI_nat hrow2, row, ".", rfl, rfl, ?_, (by show 1 ≤ sizeLine; decide), fun p2 hp2 => ?_⟩
      · have : ("." : Str).length = 1 := by decide +kernel
        exact big (by omega)
      have np12 : p1 ≠ p2 := fun z => by rw [← z, upd_same] at hp2; cases hp2
      refine cat_rest (K := K) (mid := [row ++ ("." : Str)]) (k := j + 1) (j := j + 2) ha (by rw [hlen]; omega) (by show 1 ≤ 100; decide) (same_new s1 hp2) (by rw [upd_ne np12]; exact upd_same) upd_same (fun Hx Qx h => ⟨_, rfl, h⟩) (fun Hx Qx h => ⟨_, rfl, _, 1, rfl, rfl, _, rfl, h⟩) fun p H' s' e => q p _ H' s' ?_ e
      show Bad (headP w h l :: ((sgRows ho cu w h (h * l)).take j ++ [row ++ ("." : Str)] ++ (sgRows ho cu w h (h * l)).drop (j + 1)))
      rw [set_cut _ (by rw [rows_len]; exact hj)]
      have e1 : ("." : Str).length = 1 := by decide +kernel
      refine bad_long sz hj (fun hm => ?_) (by rw [len_app]; omega) (by rw [len_app]; omega)
      rw [app_list, List.mem_append] at hm
      exact hm.elim (rf (by decide)) (by decide +kernel)
    · refine ⟨_, rfl, _, rfl, _, rfl, a, _, rfl, SqL.of ha, fun p1 hp1 => ?_⟩
      rw [cutT]
      have s1 := same_new (o := .lst (((headP w h l :: sgRows ho cu w h (h * l)).map V.str).take (j + 1))) (Same.refl H) hp1
      refine ⟨_, rfl, _, rfl, a, _, _, .str row, rfl, rfl, SqL.of (s1 _ _ ha), atI_nat hrow2, _, rfl, row, rfl, big (by omega), (by show 1 ≤ sizeLine; decide), fun p2 hp2 => ?_⟩
      have np12 : p1 ≠ p2 := fun z => by rw [← z, upd_same] at hp2; cases hp2
      have hsl : (Txt.slice row (some 1) none).cps.toList = row.cps.toList.drop 1 := slice1 (by rw [← len_list]; omega)
      refine cat_rest (K := K) (mid := [Txt.slice row (some 1) none]) (k := j + 1) (j := j + 2) ha (by rw [hlen]; omega) (by show 1 ≤ 100; decide) (same_new s1 hp2) (by rw [upd_ne np12]; exact upd_same) upd_same (fun Hx Qx h => ⟨_, rfl, h⟩) (fun Hx Qx h => ⟨_, rfl, _, 1, rfl, rfl, _, rfl, h⟩) fun p H' s' e => q p _ H' s' ?_ e
      show Bad (headP w h l :: ((sgRows ho cu w h (h * l)).take j ++ [Txt.slice row (some 1) none] ++ (sgRows ho cu w h (h * l)).drop (j + 1)))
      rw [set_cut _ (by rw [rows_len]; exact hj)]
      have e1 : (Txt.slice row (some 1) none).length = w - 1 := by rw [len_list, hsl, List.length_drop, ← len_list, rl]
      refine bad_long sz hj (fun hm => ?_) (by omega) (by omega)
      rw [hsl] at hm
      exact rf (by decide) (List.mem_of_mem_drop hm)
    · refine ⟨_, rfl, _, rfl, _, rfl, a, _, rfl, SqL.of ha, fun p1 hp1 => ?_⟩
      rw [cutT]
      have s1 := same_new (o := .lst (((headP w h l :: sgRows ho cu w h (h * l)).map V.str).take (j + 1))) (Same.refl H) hp1
      refine ⟨_, rfl, _, rfl, a, _, _, .str row, rfl, rfl, SqL.of (s1 _ _ ha), atI_nat hrow2, (by show 1 ≤ sizeLine; decide), fun p2 hp2 => ?_⟩
      have np12 : p1 ≠ p2 := fun z => by rw [← z, upd_same] at hp2; cases hp2
      refine cat_rest (K := K) (mid := [row]) (k := j + 1) (j := j + 1) ha (by rw [hlen]; omega) (by show 1 ≤ 100; decide) (same_new s1 hp2) (by rw [upd_ne np12]; exact upd_same) upd_same (fun Hx Qx h => ⟨_, rfl, h⟩) (fun Hx Qx h => ⟨_, rfl, _, rfl, h⟩) fun p H' s' e => q p _ H' s' ?_ e
      show Bad (headP w h l :: ((sgRows ho cu w h (h * l)).take j ++ [row] ++ (sgRows ho cu w h (h * l)).drop j))
      rw [← erow]
      exact bad_more sz hj
    · refine ⟨_, rfl, _, rfl, _, rfl, a, _, rfl, SqL.of ha, fun p1 hp1 => ?_⟩
      rw [cutT]
      have s1 := same_new (o := .lst (((headP w h l :: sgRows ho cu w h (h * l)).map V.str).take (j + 1))) (Same.refl H) hp1
      refine ⟨_, rfl, _, rfl, _, 1, rfl, rfl, _, rfl, a, _, rfl, SqL.of (s1 _ _ ha), fun p2 hp2 => ?_⟩
      rw [show ((j + 1 : Nat) : Int) + 1 = ((j + 2 : Nat) : Int) by omega, cutN]
      have np12 : p1 ≠ p2 := fun z => by rw [← z, upd_same] at hp2; cases hp2
      refine ⟨p1, p2, _, _, rfl, rfl, by rw [upd_ne np12]; exact upd_same, upd_same, ?_, fun p3 hp3 => q p3 _ _ (same_new (same_new s1 hp2) hp3) (bad_less (ho := ho) (cu := cu) sz hj) ?_⟩
      · simp only [List.length_take, List.length_drop, List.length_map, hlen]; exact big (by omega)
      · rw [upd_same]
        show some (HO.lst (V.str (headP w h l) :: (((sgRows ho cu w h (h * l)).map V.str).take j ++ ((sgRows ho cu w h (h * l)).map V.str).drop (j + 1)))) = some (HO.lst (V.str (headP w h l) :: ((sgRows ho cu w h (h * l)).take j ++ (sgRows ho cu w h (h * l)).drop (j + 1)).map V.str))
        rw [List.map_append, List.map_take, List.map_drop]
    · intro p1 hp1
      refine ⟨upd_same, other, rfl, by decide, ?_⟩
      have s1 : Same H (upd (upd H p1 (.dK [])) p1 (.dK (mergeK [] other))) := fun b u e => by rw [upd_ne (ne_of_none e hp1), upd_ne (ne_of_none e hp1)]; exact e
      have hxr : x < row.length := by omega
      have hch : row.cps.toList[x]? = some (sgn (ho (j % h) x) (cu j x)) := by
        rw [← erow, sgRow_list, List.getElem?_map, List.getElem?_range hx]; rfl
      refine ⟨_, rfl, _, rfl, _, rfl, _, rfl, _, rfl, _, rfl, a, _, _, .str row, rfl, rfl, SqL.of (s1 _ _ ha), atI_nat hrow2, _, rfl, row, (x : Int), _, rfl, rfl, big (by omega), atI_nat hch, p1, _, rfl, other_at _ _ ▸ DGet.k upd_same, ?_⟩
      refine ⟨a, _, j + 1, x, _, row, rfl, s1 _ _ ha, hrow, hxr, by omega, (by show 1 ≤ 10; decide), by rw [hlen]; omega, fun p H' s' e => q p _ H' (Same.trans s1 s') ?_ e⟩
      rw [hset]
      refine bad_hole sz hj hx ?_ (putS_free hxr (rf (by decide)) (fun z => sgn_ne (by decide) _ _ (List.mem_singleton.mp z).symm)) (putS_len hxr (by omega) (by show 1 ≤ 10; decide))
      rw [putS_get hxr, isH_sgn]
    · have hd0 : ∀ {H' : Hp}, Same H H' → SqL K H' a ((headP w h l :: sgRows ho cu w h (h * l)).map V.str) := fun s' => SqL.of (s' _ _ ha)
      have e1 : (" " : Str).length = 1 := by decide +kernel
      have e2 : (" 1" : Str).length = 2 := by decide +kernel
      have one : (1 : Nat) ≤ sizeLine := by decide
      refine ⟨_, rfl, a, _, 0, .str (headP w h l), rfl, rfl, hd0 (Same.refl H), atI_nat (j := 0) rfl, _, " ", rfl, rfl, big (by omega), one, fun p1 hp1 => ?_⟩
      have s1 := same_new (o := .lst [.str (headP w h l ++ (" " : Str))]) (Same.refl H) hp1
      refine ⟨_, rfl, a, _, 0, .str (headP w h l), rfl, rfl, hd0 s1, atI_nat (j := 0) rfl, " ", _, rfl, rfl, big (by omega), one, fun p2 hp2 => ?_⟩
      have s2 := same_new (o := .lst [.str ((" " : Str) ++ headP w h l)]) s1 hp2
      refine ⟨_, rfl, a, _, 0, .str (headP w h l), rfl, rfl, hd0 s2, atI_nat (j := 0) rfl, rfl, headP w h l, rfl, rfl, by omega, one, fun p3 hp3 => ?_⟩
      have s3 := same_new (o := .lst [.str (Txt.upper (headP w h l))]) s2 hp3
      refine ⟨_, rfl, a, _, 0, .str (headP w h l), rfl, rfl, hd0 s3, atI_nat (j := 0) rfl, _, " 1", rfl, rfl, big (by omega), one, fun p4 hp4 => ?_⟩
      have s4 := same_new (o := .lst [.str (headP w h l ++ (" 1" : Str))]) s3 hp4
      refine ⟨(by show 4 ≤ sizeLine; decide), fun p5 hp5 => ?_⟩
      have s5 := same_new (o := .lst [.ref p1, .ref p2, .ref p3, .ref p4]) s4 hp5
      have n12 : p1 ≠ p2 := fun z => by rw [← z, upd_same] at hp2; cases hp2
      have f1 : upd H p1 (.lst [.str (headP w h l ++ (" " : Str))]) p1 = some (.lst [.str (headP w h l ++ (" " : Str))]) := upd_same
      have k2 := same_new (o := .lst [.str ((" " : Str) ++ headP w h l)]) (Same.refl _) hp2
      have k3 := same_new (o := .lst [.str (Txt.upper (headP w h l))]) (Same.refl _) hp3
      have k4 := same_new (o := .lst [.str (headP w h l ++ (" 1" : Str))]) (Same.refl _) hp4
      have k5 := same_new (o := .lst [.ref p1, .ref p2, .ref p3, .ref p4]) (Same.refl _) hp5
      have g1 := k5 _ _ (k4 _ _ (k3 _ _ (k2 _ _ f1)))
      have g2 := k5 _ _ (k4 _ _ (k3 p2 _ upd_same))
      have g3 := k5 _ _ (k4 p3 _ upd_same)
      have g4 := k5 p4 _ upd_same
      have g5 : upd (upd (upd (upd (upd H p1 (.lst [.str (headP w h l ++ (" " : Str))])) p2 (.lst [.str ((" " : Str) ++ headP w h l)])) p3 (.lst [.str (Txt.upper (headP w h l))])) p4 (.lst [.str (headP w h l ++ (" 1" : Str))])) p5 (.lst [.ref p1, .ref p2, .ref p3, .ref p4]) p5 = some (.lst [.ref p1, .ref p2, .ref p3, .ref p4]) := upd_same
      generalize upd (upd (upd (upd (upd H p1 (.lst [.str (headP w h l ++ (" " : Str))])) p2 (.lst [.str ((" " : Str) ++ headP w h l)])) p3 (.lst [.str (Txt.upper (headP w h l))])) p4 (.lst [.str (headP w h l ++ (" 1" : Str))])) p5 (.lst [.ref p1, .ref p2, .ref p3, .ref p4]) = H5 at s5 g1 g2 g3 g4 g5
      obtain ⟨pi, hdi, hat, epi, hbad⟩ : ∃ pi hdi, atI [V.ref p1, V.ref p2, V.ref p3, V.ref p4] (c % 4) = some (.ref pi) ∧ H5 pi = some (.lst [.str hdi]) ∧ Bad (hdi :: sgRows ho cu w h (h * l)) := by
        have h4 : c % 4 = 0 ∨ c % 4 = 1 ∨ c % 4 = 2 ∨ c % 4 = 3 := by omega
        rcases h4 with e | e | e | e <;> rw [e]
        · exact ⟨p1, _, rfl, g1, bad_after sz (by decide +kernel) (by decide +kernel) (by omega)⟩
        · exact ⟨p2, _, rfl, g2, bad_ahead sz⟩
        · exact ⟨p3, _, rfl, g3, bad_upper sz⟩
        · exact ⟨p4, _, rfl, g4, bad_after sz (by decide +kernel) (by decide +kernel) (by omega)⟩
      refine ⟨_, rfl, c, 4, rfl, rfl, (by show (0 : Int) < 4; decide), p5, _, _, .ref pi, rfl, rfl, SqL.of g5, hat, ?_⟩
      refine ⟨_, rfl, _, rfl, a, _, rfl, SqL.of (s5 _ _ ha), fun p6 hp6 => ?_⟩
      rw [cut1]
      have np : pi ≠ p6 := fun z => by rw [← z, epi] at hp6; cases hp6
      refine ⟨pi, p6, _, _, rfl, rfl, by rw [upd_ne np]; exact epi, upd_same, ?_, fun p7 hp7 => q p7 _ _ (same_new (same_new s5 hp6) hp7) hbad ?_⟩
      · simp only [List.length_cons, List.length_nil, List.length_drop, List.length_map, rows_len]; exact big (by omega)
      · rw [upd_same]; rfl
end
end K15
set_option Elab.async false
set_option linter.all false
set_option maxRecDepth 100000
set_option maxHeartbeats 4000000
namespace K15
open PySem L2 Wd
theorem lines_len {rs : List Str} (h1 : rs.length ≤ 100) (h2 : ∀ r ∈ rs, r.length ≤ 1000) : (linesT rs).length ≤ 200000 := by
  rw [len_list, lines_list]
  have : ∀ rs : List Str, (∀ r ∈ rs, r.length ≤ 1000) → (rs.flatMap fun r => r.cps.toList ++ [10]).length ≤ rs.length * 1001 := fun rs => by
    induction rs with
    | nil => intro _; simp
    | cons a r ih =>
      intro h
      have h1 := ih fun x hx => h x (List.mem_cons_of_mem _ hx)
      have h2 := h a (List.mem_cons_self ..)
      rw [len_list] at h2
      rw [List.flatMap_cons, List.length_append, List.length_append, List.length_cons, List.length_cons, List.length_nil]
      omega
  have := this rs h2
  omega
def vNl : V → V | .str r => .str (r ++ ("\n" : Str)) | v => v
theorem map_nl (rs : List Str) : ((rs.map V.str).filter fun _ => true).map vNl = (rs.map fun r => r ++ ("\n" : Str)).map V.str := by
  rw [List.filter_eq_self.mpr (fun _ _ => rfl), List.map_map, List.map_map]; rfl
theorem join_room {rs : List Str} (h1 : rs.length ≤ 100) (h2 : ∀ r ∈ rs, r.length ≤ 1000) : ((rs.map fun r => r ++ ("\n" : Str)).map (·.length)).sum + (rs.map fun r => r ++ ("\n" : Str)).length * ("" : Str).length ≤ 16777216 := by
  have h3 := StrLaws.sumLen_le (B := 1001) (rs.map fun r => r ++ ("\n" : Str)) fun y hy => by
    obtain ⟨r, hr, rfl⟩ := List.mem_map.mp hy
    rw [len_app]
    have := h2 r hr
    have e : ("\n" : Str).length = 1 := by decide +kernel
    omega
  have e0 : ("" : Str).length = 0 := by decide +kernel
  rw [List.length_map] at h3
  rw [e0, Nat.mul_zero]
  omega
section
variable {P : Program} {w : World} {K : PySem.W.Frag} {mg : Str → Option Value} {base : Heap} {t : Adr}
def spChanged (K : PySem.W.Frag) : Sp := fun vs H Q _ => ∃ (a b : Addr) (n : Nat) (c : Int) (w h l : Nat) (ho cu : Nat → Nat → Bool), vs = [.ref a, .int n, .ref b, .int c] ∧ n < 18 ∧ H a = some (.lst ((headP w h l :: sgRows ho cu w h (h * l)).map V.str)) ∧ H b = some (.tup [.int w, .int h, .int l]) ∧ Sz w h l ∧
  ∀ v H', Same H H' → (noText K H' v ∨ ∃ z, v = .str z ∧ z.length ≤ 300000 ∧ noPic z) → Q v H'
theorem ok_law_changed (T : Txt K mg t) : GoodF P w K mg base 3 "_law_changed" ["_law_rows", "_law_turn", "_law_size", "_law_cell"] (spChanged K) := by
  obtain ⟨fd, F, b⟩ := T.F_law_changed
  have G_law_measures := ok_law_measures (P := P) (w := w) (base := base) T
  have G_law_by_rows := ok_law_by_rows (P := P) (w := w) (base := base) T
  refine ⟨_, fd, F.okX sc_law_changed (fun vs H Q E h => ?_) (fun cdv A outer s H vs Q E hr h => ?_), b, F.kp, T.g__law_changed⟩
  · obtain ⟨a, b, n, c, w, h, l, ho, cu, rfl, _⟩ := h
    rfl
  · obtain ⟨a, b, n, c, w, h, l, ho, cu, rfl, hn, ha, hb, sz, q⟩ := h
    refine ⟨_, (pss_cons (ps_if (pt_cmpR op_lt (pv 1) pe_int (nomark _)) (pss_one (ps_ret (pe_bm PySem.F.plainAttrs_str PySem.F.slot_str_join PySem.F.type_str_join mt_join pe_str (pa_cons (pe_comp (own := ["_law_row"]) (cs_nil (N := ["_law_rows", "_law_turn", "_law_size", "_law_cell", "_law_text_here"]) rfl (by rfl) (by decide +kernel) (by decide +kernel) (by decide +kernel)) (pi_list (pe_callG G_law_measures (hr.mono (by decide)) passes_of (by rfl) (pa_cons (pv 0) (pa_cons (pv 1) (pa_cons (pv 2) (pa_cons (pv 3) pa_nil)))))) (fun _ _ _ _ _ => pg_name (i := 5) (by show (["_law_rows", "_law_turn", "_law_size", "_law_cell", "_law_text_here", "_law_row"] : List Str).Nodup; decide +kernel) rfl (Or.inl rfl)) (fun _ _ _ _ _ => pf_nil) (fun _ _ _ _ _ => (pe_op op_add_str (pv 5) pe_str))) pa_nil)))) pss_nil)
      (pss_cons (ps_if (pt_cmpR op_lt (pv 1) pe_int (nomark _)) (pss_one (ps_ret (pe_bm PySem.F.plainAttrs_str PySem.F.slot_str_join PySem.F.type_str_join mt_join pe_str (pa_cons (pe_comp (own := ["_law_row"]) (cs_nil (N := ["_law_rows", "_law_turn", "_law_size", "_law_cell", "_law_text_here"]) rfl (by rfl) (by decide +kernel) (by decide +kernel) (by decide +kernel)) (pi_list (pe_callG G_law_by_rows (hr.mono (by decide)) passes_of (by rfl) (pa_cons (pv 0) (pa_cons (pe_op op_sub (pv 1) pe_int) (pa_cons (pv 2) (pa_cons (pv 3) pa_nil)))))) (fun _ _ _ _ _ => pg_name (i := 5) (by show (["_law_rows", "_law_turn", "_law_size", "_law_cell", "_law_text_here", "_law_row"] : List Str).Nodup; decide +kernel) rfl (Or.inl rfl)) (fun _ _ _ _ _ => pf_nil) (fun _ _ _ _ _ => (pe_op op_add_str (pv 5) pe_str))) pa_nil)))) pss_nil)
      (pss_cons (ps_set (i := 4) sc_law_changed.nd rfl (Or.inl rfl) (pe_bm PySem.F.plainAttrs_str PySem.F.slot_str_join PySem.F.type_str_join mt_join pe_str (pa_cons (pe_comp (own := ["_law_row"]) (cs_nil (N := ["_law_rows", "_law_turn", "_law_size", "_law_cell", "_law_text_here"]) rfl (by rfl) (by decide +kernel) (by decide +kernel) (by decide +kernel)) (pi_list (pv 0)) (fun _ _ _ _ _ => pg_name (i := 5) (by show (["_law_rows", "_law_turn", "_law_size", "_law_cell", "_law_text_here", "_law_row"] : List Str).Nodup; decide +kernel) rfl (Or.inl rfl)) (fun _ _ _ _ _ => pf_nil) (fun _ _ _ _ _ => (pe_op op_add_str (pv 5) pe_str))) pa_nil)))
      (pss_cons (ps_if (pt_cmpR op_eq (pv 1) pe_int (nomark _)) (pss_one (ps_ret (pe_slice sl_str (pv 4) po_none (po_some (pe_op op_sub (pe_callB call_len_str (by rfl) T.n_len b_len (pa_cons (pv 4) pa_nil)) pe_int))))) pss_nil)
      (pss_cons (ps_if (pt_cmpR op_eq (pv 1) pe_int (nomark _)) (pss_one (ps_ret (pe_op op_add_str (pv 4) pe_str))) pss_nil)
      (pss_cons (ps_if (pt_cmpR op_eq (pv 1) pe_int (nomark _)) (pss_one (ps_ret (pe_op op_add_str pe_str (pv 4)))) pss_nil)
      (pss_one (ps_ret (pe_ix ix_list (pe_lst (pa_cons pe_non (pa_cons pe_int (pa_cons pe_bl (pa_cons (pv 0) (pa_cons pe_str (pa_cons pe_str pa_nil))))))) (pe_op op_mod (pv 3) pe_int) (fun _ _ => rfl)))))))))), ?_⟩
    have hhl := sz.hl
    have hh := headP_short sz.w12 sz.h12 sz.l3
    refine ⟨_, rfl, _, 7, rfl, rfl, _, rfl, iteD (fun h7 => ?_) fun h7 => ⟨_, rfl, _, 14, rfl, rfl, _, rfl, iteD (fun h14 => ?_) fun h14 => ?_⟩⟩
    · refine ⟨rfl, _, rfl, _, rfl, _, rfl, _, rfl, a, b, n, c, w, h, l, ho, cu, rfl, by omega, ha, hb, sz, fun p rs H1 s1 bad ep => ?_⟩
      refine ⟨p, rfl, ⟨_, SqL.of ep⟩, comp_pure (xs := rs.map V.str) (fun _ => true) vNl (SqL.of ep) (by rw [List.length_map]; exact big (by have := bad.few; omega)) (fun x hx H' Qy Qn _ hy _ => ?_) fun D hD => ?_⟩
      · obtain ⟨r, hr, rfl⟩ := List.mem_map.mp hx
        refine ⟨⟨_, rfl, rfl⟩, iteT ⟨_, rfl, r, "\n", rfl, rfl, ?_, hy rfl⟩⟩
        have := bad.short r hr
        have e : ("\n" : Str).length = 1 := by decide +kernel
        exact Nat.le_trans (show r.length + ("\n" : Str).length ≤ 2000 by omega) (by decide)
      · rw [map_nl]
        refine ⟨"", D, _, rfl, rfl, SqL.of upd_same, join_room bad.few bad.short, q _ _ (same_new s1 hD) (.inr ⟨_, rfl, Nat.le_trans (lines_len bad.few bad.short) (by decide), bad.no⟩)⟩
    · refine ⟨rfl, _, rfl, _, rfl, _, 7, rfl, rfl, _, rfl, _, rfl, a, b, n - 7, c, w, h, l, ho, cu, ?_, by omega, ha, hb, sz, fun p rs H1 s1 bad ep => ?_⟩
      · show [V.ref a, V.int ((n : Int) - 7), V.ref b, V.int c] = _
        congr 3; omega
      refine ⟨p, rfl, ⟨_, SqL.of ep⟩, comp_pure (xs := rs.map V.str) (fun _ => true) vNl (SqL.of ep) (by rw [List.length_map]; exact big (by have := bad.few; omega)) (fun x hx H' Qy Qn _ hy _ => ?_) fun D hD => ?_⟩
      · obtain ⟨r, hr, rfl⟩ := List.mem_map.mp hx
        refine ⟨⟨_, rfl, rfl⟩, iteT ⟨_, rfl, r, "\n", rfl, rfl, ?_, hy rfl⟩⟩
        have := bad.short r hr
        have e : ("\n" : Str).length = 1 := by decide +kernel
        exact Nat.le_trans (show r.length + ("\n" : Str).length ≤ 2000 by omega) (by decide)
      · rw [map_nl]
        refine ⟨"", D, _, rfl, rfl, SqL.of upd_same, join_room bad.few bad.short, q _ _ (same_new s1 hD) (.inr ⟨_, rfl, Nat.le_trans (lines_len bad.few bad.short) (by decide), bad.no⟩)⟩
    · have few : (headP w h l :: sgRows ho cu w h (h * l)).length ≤ 100 := by rw [List.length_cons, rows_len]; omega
      have short : ∀ r ∈ headP w h l :: sgRows ho cu w h (h * l), r.length ≤ 1000 := fun r hr => by
        rcases List.mem_cons.mp hr with rfl | hr
        · omega
        · rw [rows_short hr]; have := sz.w12; omega
      have ll := lines_len few short
      refine ⟨rfl, _, rfl, a, rfl, ⟨_, SqL.of ha⟩, comp_pure (xs := (headP w h l :: sgRows ho cu w h (h * l)).map V.str) (fun _ => true) vNl (SqL.of ha) (by rw [List.length_map]; exact big (by omega)) (fun x hx H' Qy Qn _ hy _ => ?_) fun D hD => ?_⟩
      · obtain ⟨r, hr, rfl⟩ := List.mem_map.mp hx
        refine ⟨⟨_, rfl, rfl⟩, iteT ⟨_, rfl, r, "\n", rfl, rfl, ?_, hy rfl⟩⟩
        have := short r hr
        have e : ("\n" : Str).length = 1 := by decide +kernel
        exact Nat.le_trans (show r.length + ("\n" : Str).length ≤ 2000 by omega) (by decide)
      rw [map_nl]
      have s1 := same_new (o := .lst (((headP w h l :: sgRows ho cu w h (h * l)).map fun r => r ++ ("\n" : Str)).map V.str)) (Same.refl H) hD
      refine ⟨"", D, _, rfl, rfl, SqL.of upd_same, join_room few short, ?_⟩
      have bz : ∀ {n : Nat}, n ≤ 300000 → n ≤ sizeLine := fun h => Nat.le_trans h (by decide)
      have enl : ("\n" : Str).length = 1 := by decide +kernel
      refine ⟨_, rfl, rfl, _, rfl, iteD (fun _ => ?_) fun _ => ⟨_, rfl, rfl, _, rfl, iteD (fun _ => ?_) fun _ => ⟨_, rfl, rfl, _, rfl, iteD (fun _ => ?_) fun _ => ?_⟩⟩⟩
      · refine ⟨_, rfl, _, rfl, _, rfl, bz (Nat.le_trans ll (by decide)), _, 1, rfl, rfl, _, rfl, _, rfl, bz (Nat.le_trans ll (by decide)), ?_⟩
        show Q (.str (Txt.slice (linesT (headP w h l :: sgRows ho cu w h (h * l))) none (some (((linesT (headP w h l :: sgRows ho cu w h (h * l))).length : Int) - 1)))) _
        have l1 : 1 ≤ (linesT (headP w h l :: sgRows ho cu w h (h * l))).length := by
          rw [len_list, lines_list, List.flatMap_cons, List.length_append, List.length_append, List.length_cons]; omega
        rw [show (((linesT (headP w h l :: sgRows ho cu w h (h * l))).length : Int) - 1) = (((linesT (headP w h l :: sgRows ho cu w h (h * l))).length - 1 : Nat) : Int) by omega]
        refine q _ _ s1 (.inr ⟨_, rfl, Nat.le_trans (Txt.slice_le _ _ _) (Nat.le_trans ll (by decide)), no_end (ho := ho) (cu := cu) sz ?_⟩)
        rw [slT (by rw [len_list]; omega), List.dropLast_eq_take, len_list]
      · refine ⟨_, rfl, _, "\n", rfl, rfl, bz (by show (linesT _).length + _ ≤ _; omega), q _ _ s1 (.inr ⟨_, rfl, ?_, no_more sz⟩)⟩
        rw [len_app]; show (linesT (headP w h l :: sgRows ho cu w h (h * l))).length + _ ≤ _; omega
      · refine ⟨_, rfl, "\n", _, rfl, rfl, bz (by show _ + (linesT _).length ≤ _; omega), q _ _ s1 (.inr ⟨_, rfl, ?_, no_ahead _⟩)⟩
        rw [len_app]; show _ + (linesT (headP w h l :: sgRows ho cu w h (h * l))).length ≤ _; omega
      · refine ⟨_, rfl, (by show 6 ≤ sizeLine; decide), fun p1 hp1 => ?_⟩
        have s2 := same_new (o := .lst [.non, .int 5, .bl true, .ref a, .str "", .str "\n"]) s1 hp1
        obtain ⟨v, hv, hq⟩ : ∃ v, atI [V.non, .int 5, .bl true, .ref a, .str "", .str "\n"] (c % 6) = some v ∧ ∀ H' : Hp, Same H H' → (noText K H' v ∨ ∃ z, v = .str z ∧ z.length ≤ 300000 ∧ noPic z) := by
          have h6 : c % 6 = 0 ∨ c % 6 = 1 ∨ c % 6 = 2 ∨ c % 6 = 3 ∨ c % 6 = 4 ∨ c % 6 = 5 := by omega
          rcases h6 with e | e | e | e | e | e <;> rw [e]
          · exact ⟨_, rfl, fun _ _ => .inl trivial⟩
          · exact ⟨_, rfl, fun _ _ => .inl trivial⟩
          · exact ⟨_, rfl, fun _ _ => .inl trivial⟩
          · exact ⟨_, rfl, fun H' s' => .inl ⟨_, s' _ _ ha⟩⟩
          · exact ⟨_, rfl, fun _ _ => .inr ⟨_, rfl, by decide +kernel, no_empty⟩⟩
          · exact ⟨_, rfl, fun _ _ => .inr ⟨_, rfl, by decide +kernel, no_nl⟩⟩
        exact ⟨_, rfl, c, 6, rfl, rfl, (by show (0 : Int) < 6; decide), p1, _, _, v, rfl, rfl, SqL.of upd_same, hv, q v _ s2 (hq _ s2)⟩
end
end K15
set_option Elab.async false
set_option linter.all false
set_option maxRecDepth 100000
set_option maxHeartbeats 4000000
namespace K15
open PySem L2 Wd
section
variable {P : Program} {w : World} {K : PySem.W.Frag} {mg : Str → Option Value} {base : Heap} {t : Adr}
def spLaw (K : PySem.W.Frag) : Sp := fun vs H Q _ => ∃ (a : Addr) (ns : List Int), vs = [.ref a] ∧ SqL K H a (ns.map V.int) ∧ ns.length ≤ 63 ∧ ∀ H', Q (.bl true) H'
theorem law_fn (T : Txt K mg t) : ∃ fd : FuncData, (∀ (s : Shared) (u : Value), BindsTo s fd ⟨[u], []⟩ [("_law_script", u)]) ∧ ∀ base : Heap, K.In base → base.Ns mainGlobals mg → FnOk P w K mg base (XC P w) 9 t.f_law fd ["_law_script"] (spLaw K) := by
  obtain ⟨fd, F, b⟩ := T.F_law
  refine ⟨fd, b, fun base _ _ => ?_⟩
  have G_law_cell_at := ok_law_cell_at (P := P) (w := w) (base := base) T
  have G_law_text := ok_law_text (P := P) (w := w) (base := base) T
  have G_read_picture := ok_read_picture (P := P) (w := w) (base := base) T
  have G_picture := ok_picture (P := P) (w := w) (base := base) T
  have G_law_refused := ok_law_refused (P := P) (w := w) (base := base) T
  have G_law_changed := ok_law_changed (P := P) (w := w) (base := base) T
  refine F.okX sc_law (fun vs H Q E h => ?_) (fun cdv A outer s H vs Q E hr h => ?_)
  · obtain ⟨a, ns, rfl, _⟩ := h
    rfl
  · obtain ⟨a, ns, rfl, ha, hl, q⟩ := h
    refine ⟨_, (pss_cons (ps_set (i := 1) sc_law.nd rfl (Or.inl rfl) (pe_callG G_law_cell_at (hr.mono (by decide)) passes_of (by rfl) (pa_cons (pv 0) (pa_cons pe_int pa_nil))))
      (pss_cons (ps_set (i := 2) sc_law.nd rfl (Or.inl rfl) (pe_tup (pa_cons (pe_op op_add pe_int (pe_op op_mod (pv 1) pe_int)) (pa_cons (pe_op op_add pe_int (pe_op op_mod (pe_op op_fdiv (pv 1) pe_int) pe_int)) (pa_cons (pe_op op_add pe_int (pe_op op_mod (pe_op op_fdiv (pv 1) pe_int) pe_int)) pa_nil)))))
      (pss_cons (ps_set (i := 3) sc_law.nd rfl (Or.inl rfl) (pe_callG G_law_text (hr.mono (by decide)) passes_of (by rfl) (pa_cons (pv 0) (pa_cons (pv 2) pa_nil))))
      (pss_cons (ps_set (i := 4) sc_law.nd rfl (Or.inl rfl) (pe_bm PySem.F.plainAttrs_str PySem.F.slot_str_join PySem.F.type_str_join mt_join pe_str (pa_cons (pe_comp (own := ["_law_row"]) (cs_nil (N := ["_law_script", "_law_cell", "_law_size", "_law_rows", "_law_text_here"]) rfl (by rfl) (by decide +kernel) (by decide +kernel) (by decide +kernel)) (pi_list (pv 3)) (fun _ _ _ _ _ => pg_name (i := 5) (by show (["_law_script", "_law_cell", "_law_size", "_law_rows", "_law_text_here", "_law_row"] : List Str).Nodup; decide +kernel) rfl (Or.inl rfl)) (fun _ _ _ _ _ => pf_nil) (fun _ _ _ _ _ => (pe_op op_add_str (pv 5) pe_str))) pa_nil)))
      (pss_cons (ps_if (pt_cmpR op_ne (pe_callG G_picture (hr.mono (by decide)) passes_of (by rfl) (pa_cons (pe_callG G_read_picture (hr.mono (by decide)) passes_of (by rfl) (pa_cons (pv 4) pa_nil)) pa_nil)) (pv 4) (nomark _)) (pss_one (ps_ret pe_bl)) pss_nil)
      (pss_one (ps_ret (pe_callG G_law_refused (hr.mono (by decide)) passes_of (by rfl) (pa_cons (pe_callG G_law_changed (hr.mono (by decide)) passes_of (by rfl) (pa_cons (pv 3) (pa_cons (pe_op op_mod (pe_op op_fdiv (pv 1) pe_int) pe_int) (pa_cons (pv 2) (pa_cons (pe_callG G_law_cell_at (hr.mono (by decide)) passes_of (by rfl) (pa_cons (pv 0) (pa_cons pe_int pa_nil))) pa_nil))))) pa_nil))))))))), ?_⟩
    refine ⟨_, rfl, a, ns, 0, rfl, ha, by decide, by decide, hl, ?_⟩
    generalize ns.getD (0 : Int).toNat 0 = c
    obtain ⟨w', ew, w2, w12⟩ : ∃ w' : Nat, 2 + c % 11 = (w' : Int) ∧ 2 ≤ w' ∧ w' ≤ 12 := ⟨(2 + c % 11).toNat, by omega, by omega, by omega⟩
    obtain ⟨h, eh, h2, h12⟩ : ∃ h : Nat, 2 + c / 11 % 11 = (h : Int) ∧ 2 ≤ h ∧ h ≤ 12 := ⟨(2 + c / 11 % 11).toNat, by omega, by omega, by omega⟩
    obtain ⟨l, el, l2, l3⟩ : ∃ l : Nat, 2 + c / 121 % 2 = (l : Int) ∧ 2 ≤ l ∧ l ≤ 3 := ⟨(2 + c / 121 % 2).toNat, by omega, by omega, by omega⟩
    obtain ⟨n, en, n18⟩ : ∃ n : Nat, c / 242 % 18 = (n : Int) ∧ n < 18 := ⟨(c / 242 % 18).toNat, by omega, by omega⟩
    have sz : Sz w' h l := ⟨w2, w12, h2, h12, l2, l3⟩
    have hhl := sz.hl
    have hh := headP_short w12 h12 l3
    refine ⟨_, rfl, c, 11, rfl, rfl, (by show (0 : Int) < 11; decide), 2, _, rfl, rfl, _, rfl, c, 11, rfl, rfl, ⟨by decide, by decide⟩, _, 11, rfl, rfl, (by show (0 : Int) < 11; decide), 2, _, rfl, rfl, _, rfl, c, 121, rfl, rfl, ⟨by decide, by decide⟩, _, 2, rfl, rfl, (by show (0 : Int) < 2; decide), 2, _, rfl, rfl, (by show 3 ≤ sizeLine; decide), fun p hp => ?_⟩
    have s1 : Same H (upd H p (.tup [.int (2 + c % 11), .int (2 + c / 11 % 11), .int (2 + c / 121 % 2)])) := same_new (Same.refl H) hp
    have e1 : upd H p (.tup [.int (2 + c % 11), .int (2 + c / 11 % 11), .int (2 + c / 121 % 2)]) p = some (.tup [.int w', .int h, .int l]) := by rw [upd_same, ew, eh, el]
    show tSeq _ _ _ _ (upd H p (.tup [.int (2 + c % 11), .int (2 + c / 11 % 11), .int (2 + c / 121 % 2)]))
    generalize upd H p (.tup [.int (2 + c % 11), .int (2 + c / 11 % 11), .int (2 + c / 121 % 2)]) = H1 at s1 e1
    refine ⟨_, rfl, _, rfl, a, p, ns, w', h, l, rfl, same_sqL s1 ha, hl, e1, sz, fun r H2 ho cu s2 er => ?_⟩
    have few : (headP w' h l :: sgRows ho cu w' h (h * l)).length ≤ 100 := by rw [List.length_cons, rows_len]; omega
    have short : ∀ r ∈ headP w' h l :: sgRows ho cu w' h (h * l), r.length ≤ 1000 := fun r hr => by
      rcases List.mem_cons.mp hr with rfl | hr
      · omega
      · rw [rows_short hr]; omega
    have ll := lines_len few short
    refine ⟨rfl, _, rfl, r, rfl, ⟨_, SqL.of er⟩, comp_pure (xs := (headP w' h l :: sgRows ho cu w' h (h * l)).map V.str) (fun _ => true) vNl (SqL.of er) (by rw [List.length_map]; exact big (by omega)) (fun x hx H' Qy Qn _ hy _ => ?_) fun D hD => ?_⟩
    · obtain ⟨r, hr, rfl⟩ := List.mem_map.mp hx
      refine ⟨⟨_, rfl, rfl⟩, iteT ⟨_, rfl, r, "\n", rfl, rfl, ?_, hy rfl⟩⟩
      have := short r hr
      have e : ("\n" : Str).length = 1 := by decide +kernel
      exact Nat.le_trans (show r.length + ("\n" : Str).length ≤ 2000 by omega) (by decide)
    rw [map_nl]
    have s3 := same_new (o := .lst (((headP w' h l :: sgRows ho cu w' h (h * l)).map fun r => r ++ ("\n" : Str)).map V.str)) (Same.refl H2) hD
    refine ⟨"", D, _, rfl, rfl, SqL.of upd_same, join_room few short, ?_⟩
    have good : Good (linesT (headP w' h l :: sgRows ho cu w' h (h * l))) w' h l := pic_good ⟨by omega, by omega, by omega, ho, cu, rfl⟩
    show tSeq _ _ _ _ (upd H2 D _)
    generalize upd H2 D (.lst (((headP w' h l :: sgRows ho cu w' h (h * l)).map fun r => r ++ ("\n" : Str)).map V.str)) = H3 at s3
    refine ⟨_, rfl, .inr ⟨linesT (headP w' h l :: sgRows ho cu w' h (h * l)), rfl, Nat.le_trans ll (by decide), fun w1 h1 l1 g o dx c1 d1 cs ds H4 s4 e4 e5 e6 hpic => ?_, fun ng => absurd ⟨_, _, _, good⟩ ng⟩⟩
    have gp := good_pic g
    refine ⟨o, dx, c1, d1, w1, h1, l1, cs, ds, rfl, e4, e5, e6, gp.bw.2, gp.bh.1, gp.bh.2, gp.bl.2, fun H5 s5 => ⟨_, rfl, rfl, _, rfl, iteNB (fun hf => absurd (congrArg V.str hpic) (of_decide_eq_false hf)) fun _ => ?_⟩⟩
    have s15 : Same H1 H5 := Same.trans s2 (Same.trans s3 (Same.trans s4 s5))
    have s25 : Same H2 H5 := Same.trans s3 (Same.trans s4 s5)
    refine ⟨_, rfl, _, rfl, c, 242, rfl, rfl, ⟨by decide, by decide⟩, _, 18, rfl, rfl, (by show (0 : Int) < 18; decide), _, rfl, _, rfl, a, ns, 3, rfl, same_sqL (Same.trans s1 s15) ha, by decide, by decide, hl, r, p, n, ns.getD (3 : Int).toNat 0, w', h, l, ho, cu, ?_, n18, s25 _ _ er, s15 _ _ e1, sz, fun v H6 s6 hv => ⟨v, rfl, ?_, fun H7 s7 => q H7⟩⟩
    · show [V.ref r, V.int (c / 242 % 18), V.ref p, V.int (ns.getD (3 : Int).toNat 0)] = _
      rw [en]
    · rcases hv with hv | ⟨z, e, hz, np⟩
      · exact .inl hv
      · exact .inr ⟨z, e, hz, fun ⟨w, h, l, g⟩ => np w h l (good_pic g)⟩
end
theorem walk {l : PySem.W.OpenLaw} {q : Program} {loose : List Str} {XP : (Str → Option Value) → Heap → Prop} {YP : World → Heap → Prop} {d : DefRec} {K : Params → PySem.W.Frag} (hn : l.most = some 63) (hdf : d.params.defaults = [])
    (hY : ∀ (w : World) (h : Heap), YP w h → (K w.params).In h)
    (F : ∀ (w : World) (mg : Str → Option Value) (fa : Addr) (h : Heap), (K w.params).In h → h.Ns mainGlobals mg → mg d.name = some (.ref fa) →
      ∃ fd : FuncData, (∀ (s : Shared) (u : Value), BindsTo s fd ⟨[u], []⟩ [("_law_script", u)]) ∧ ∀ base : Heap, (K w.params).In base → base.Ns mainGlobals mg → FnOk l.prog w (K w.params) mg base (XC l.prog w) 9 fa fd ["_law_script"] (spLaw (K w.params))) :
    PySem.W.WalkO q loose XP YP l.row.toRowW d [] (fun f vs => PySem.call f vs) :=
  L2.walk_of (n := 63) (k := 9) (x := "_law_script") (CX := fun w => XC l.prog w) (sp := fun w => spLaw (K w.params)) hn (by decide) hdf ⟨fun _ => rfl, by decide, by decide⟩ hY F (fun _ _ a ns hl _ hS => ⟨a, ns, rfl, hS, hl, fun _ => rfl⟩) fun w H s e s' z => by
    obtain ⟨_, _, _, _, _, _, _, _, _, q⟩ := z
    exact q
end K15
set_option Elab.async false
set_option linter.all false
open PySem PySem.W PyProof.Rows
set_option maxRecDepth 100000 in
set_option maxHeartbeats 0 in
theorem PySem.Challenge.cw_copperbook_k15_no_picture_holds : PySem.Challenge.rw_copperbook_k15_no_picture.Holds := by
  w_on; o_law; k_head; (case hw => w_witness2)
  k_fill
  refine K15.walk (l := PySem.Challenge.rw_copperbook_k15_no_picture) rfl rfl (fun w h Y => PySem.W.kIn_of Y) ?F
  case F =>
    intro w mg fa h KX G hmg
    have TT : ∃ t : K15.Adr, K15.Txt (L2.KOf KX) mg t := by
      dsimp only [L2.KOf]
      refine' K15.txt_mk KX G ?g_Board ?pg_Board ?hd_Board ?po_Board ?sa_Board ?mk_Board ?kc_Board ?na_Board_wide ?na_Board_high ?na_Board_layers ?na_Board_copper ?na_Board_drilled ?a_is_whole ?l_is_whole ?cc_is_whole ?k_is_whole ?a_read_number ?l_read_number ?cc_read_number ?k_read_number ?a_read_row ?l_read_row ?cc_read_row ?k_read_row ?a_read_lines ?l_read_lines ?cc_read_lines ?k_read_lines ?a_tell_row ?l_tell_row ?cc_tell_row ?k_tell_row ?a_tell_lines ?l_tell_lines ?cc_tell_lines ?k_tell_lines ?a_Board_init ?i_Board_init ?l_Board_init ?dl_Board_init ?cc_Board_init ?k_Board_init ?a_Board_put ?i_Board_put ?l_Board_put ?cc_Board_put ?k_Board_put ?a_Board_drill ?i_Board_drill ?l_Board_drill ?cc_Board_drill ?k_Board_drill ?a_Board_is_copper ?i_Board_is_copper ?l_Board_is_copper ?dl_Board_is_copper ?cc_Board_is_copper ?k_Board_is_copper ?a_Board_has_hole ?i_Board_has_hole ?l_Board_has_hole ?cc_Board_has_hole ?k_Board_has_hole ?a_Board_has_layer ?i_Board_has_layer ?l_Board_has_layer ?cc_Board_has_layer ?k_Board_has_layer ?a_Board_has_square ?i_Board_has_square ?l_Board_has_square ?cc_Board_has_square ?k_Board_has_square ?a_Board_has_cell ?i_Board_has_cell ?l_Board_has_cell ?cc_Board_has_cell ?k_Board_has_cell ?a_Board_need_square ?i_Board_need_square ?l_Board_need_square ?cc_Board_need_square ?k_Board_need_square ?a_Board_need_cells ?i_Board_need_cells ?l_Board_need_cells ?cc_Board_need_cells ?k_Board_need_cells ?a_need_measure ?l_need_measure ?cc_need_measure ?k_need_measure ?a_picture ?l_picture ?cc_picture ?k_picture ?a_sign_at ?l_sign_at ?cc_sign_at ?k_sign_at ?a_read_picture ?l_read_picture ?cc_read_picture ?k_read_picture ?a_read_head ?l_read_head ?cc_read_head ?k_read_head ?a_draw_row ?l_draw_row ?cc_draw_row ?k_draw_row ?a_law_cell_at ?l_law_cell_at ?cc_law_cell_at ?k_law_cell_at ?a_law_text ?l_law_text ?cc_law_text ?k_law_text ?a_law_put ?l_law_put ?cc_law_put ?k_law_put ?a_law_measures ?l_law_measures ?cc_law_measures ?k_law_measures ?a_law_by_rows ?l_law_by_rows ?cc_law_by_rows ?k_law_by_rows ?a_law_changed ?l_law_changed ?cc_law_changed ?k_law_changed ?a_law_refused ?l_law_refused ?cc_law_refused ?k_law_refused ?a_law ?l_law ?cc_law ?k_law ?g_CopperError ?g_NoBoard ?g_NoPlace ?g_NoPicture ?x_NoBoard ?ga_NoBoard ?gt_NoBoard ?gc_NoBoard ?ge_NoBoard ?gk_NoBoard ?mo_NoBoard ?mb_NoBoard ?x_NoPlace ?ga_NoPlace ?gt_NoPlace ?gc_NoPlace ?ge_NoPlace ?gk_NoPlace ?mo_NoPlace ?mb_NoPlace ?x_NoPicture ?ga_NoPicture ?gt_NoPicture ?gc_NoPicture ?ge_NoPicture ?gk_NoPicture ?mo_NoPicture ?mb_NoPicture ?xm_NoPicture_NoPicture ?xm_NoBoard_NoBoard ?ki_NoPicture_CopperError ?ki_NoPicture_ValueError ?ki_NoPicture_NoBoard ?ki_NoPicture_NoPlace ?n_isinstance ?n_int ?n_bool ?n_str ?n_tuple ?n_len ?n_range ?n_all ?n_enumerate ?n_ValueError ?g_MOST_FIGURES ?g_MOST_WIDE ?g_MOST_HIGH ?g_MOST_LAYERS ?g_FIGURES ?g_COPPER_SIGNS ?g_HOLE_SIGNS
      (case g_Board => k_is)
      (case pg_Board => k_is)
      (case hd_Board => k_is)
      (case po_Board => k_is)
      (case sa_Board => k_is)
      (case mk_Board => k_is)
      (case kc_Board => k_is)
      (case na_Board_wide => k_is)
      (case na_Board_high => k_is)
      (case na_Board_layers => k_is)
      (case na_Board_copper => k_is)
      (case na_Board_drilled => k_is)
      (case a_is_whole => k_is)
      (case l_is_whole => k_is)
      (case cc_is_whole => k_is)
      (case k_is_whole => k_is)
      (case a_read_number => k_is)
      (case l_read_number => k_is)
      (case cc_read_number => k_is)
      (case k_read_number => k_is)
      (case a_read_row => k_is)
      (case l_read_row => k_is)
      (case cc_read_row => k_is)
      (case k_read_row => k_is)
      (case a_read_lines => k_is)
      (case l_read_lines => k_is)
      (case cc_read_lines => k_is)
      (case k_read_lines => k_is)
      (case a_tell_row => k_is)
      (case l_tell_row => k_is)
      (case cc_tell_row => k_is)
      (case k_tell_row => k_is)
      (case a_tell_lines => k_is)
      (case l_tell_lines => k_is)
      (case cc_tell_lines => k_is)
      (case k_tell_lines => k_is)
      (case a_Board_init => k_is)
      (case i_Board_init => k_is)
      (case l_Board_init => k_is)
      (case dl_Board_init => k_is)
      (case cc_Board_init => k_is)
      (case k_Board_init => k_is)
      (case a_Board_put => k_is)
      (case i_Board_put => k_is)
      (case l_Board_put => k_is)
      (case cc_Board_put => k_is)
      (case k_Board_put => k_is)
      (case a_Board_drill => k_is)
      (case i_Board_drill => k_is)
      (case l_Board_drill => k_is)
      (case cc_Board_drill => k_is)
      (case k_Board_drill => k_is)
      (case a_Board_is_copper => k_is)
      (case i_Board_is_copper => k_is)
      (case l_Board_is_copper => k_is)
      (case dl_Board_is_copper => k_is)
      (case cc_Board_is_copper => k_is)
      (case k_Board_is_copper => k_is)
      (case a_Board_has_hole => k_is)
      (case i_Board_has_hole => k_is)
      (case l_Board_has_hole => k_is)
      (case cc_Board_has_hole => k_is)
      (case k_Board_has_hole => k_is)
      (case a_Board_has_layer => k_is)
      (case i_Board_has_layer => k_is)
      (case l_Board_has_layer => k_is)
      (case cc_Board_has_layer => k_is)
      (case k_Board_has_layer => k_is)
      (case a_Board_has_square => k_is)
      (case i_Board_has_square => k_is)
      (case l_Board_has_square => k_is)
      (case cc_Board_has_square => k_is)
      (case k_Board_has_square => k_is)
      (case a_Board_has_cell => k_is)
      (case i_Board_has_cell => k_is)
      (case l_Board_has_cell => k_is)
      (case cc_Board_has_cell => k_is)
      (case k_Board_has_cell => k_is)
      (case a_Board_need_square => k_is)
      (case i_Board_need_square => k_is)
      (case l_Board_need_square => k_is)
      (case cc_Board_need_square => k_is)
      (case k_Board_need_square => k_is)
      (case a_Board_need_cells => k_is)
      (case i_Board_need_cells => k_is)
      (case l_Board_need_cells => k_is)
      (case cc_Board_need_cells => k_is)
      (case k_Board_need_cells => k_is)
      (case a_need_measure => k_is)
      (case l_need_measure => k_is)
      (case cc_need_measure => k_is)
      (case k_need_measure => k_is)
      (case a_picture => k_is)
      (case l_picture => k_is)
      (case cc_picture => k_is)
      (case k_picture => k_is)
      (case a_sign_at => k_is)
      (case l_sign_at => k_is)
      (case cc_sign_at => k_is)
      (case k_sign_at => k_is)
      (case a_read_picture => k_is)
      (case l_read_picture => k_is)
      (case cc_read_picture => k_is)
      (case k_read_picture => k_is)
      (case a_read_head => k_is)
      (case l_read_head => k_is)
      (case cc_read_head => k_is)
      (case k_read_head => k_is)
      (case a_draw_row => k_is)
      (case l_draw_row => k_is)
      (case cc_draw_row => k_is)
      (case k_draw_row => k_is)
      (case a_law_cell_at => k_is)
      (case l_law_cell_at => k_is)
      (case cc_law_cell_at => k_is)
      (case k_law_cell_at => k_is)
      (case a_law_text => k_is)
      (case l_law_text => k_is)
      (case cc_law_text => k_is)
      (case k_law_text => k_is)
      (case a_law_put => k_is)
      (case l_law_put => k_is)
      (case cc_law_put => k_is)
      (case k_law_put => k_is)
      (case a_law_measures => k_is)
      (case l_law_measures => k_is)
      (case cc_law_measures => k_is)
      (case k_law_measures => k_is)
      (case a_law_by_rows => k_is)
      (case l_law_by_rows => k_is)
      (case cc_law_by_rows => k_is)
      (case k_law_by_rows => k_is)
      (case a_law_changed => k_is)
      (case l_law_changed => k_is)
      (case cc_law_changed => k_is)
      (case k_law_changed => k_is)
      (case a_law_refused => k_is)
      (case l_law_refused => k_is)
      (case cc_law_refused => k_is)
      (case k_law_refused => k_is)
      (case a_law => k_is)
      (case l_law => k_is)
      (case cc_law => k_is)
      (case k_law => k_is)
      (case g_CopperError => k_is)
      (case g_NoBoard => k_is)
      (case g_NoPlace => k_is)
      (case g_NoPicture => k_is)
      (case x_NoBoard => k_exc)
      (case ga_NoBoard => k_is)
      (case gt_NoBoard => k_is)
      (case gc_NoBoard => k_is)
      (case ge_NoBoard => k_is)
      (case gk_NoBoard => k_is)
      (case mo_NoBoard => k_is)
      (case mb_NoBoard => k_is)
      (case x_NoPlace => k_exc)
      (case ga_NoPlace => k_is)
      (case gt_NoPlace => k_is)
      (case gc_NoPlace => k_is)
      (case ge_NoPlace => k_is)
      (case gk_NoPlace => k_is)
      (case mo_NoPlace => k_is)
      (case mb_NoPlace => k_is)
      (case x_NoPicture => k_exc)
      (case ga_NoPicture => k_is)
      (case gt_NoPicture => k_is)
      (case gc_NoPicture => k_is)
      (case ge_NoPicture => k_is)
      (case gk_NoPicture => k_is)
      (case mo_NoPicture => k_is)
      (case mb_NoPicture => k_is)
      (case xm_NoPicture_NoPicture => kts_exm)
      (case xm_NoBoard_NoBoard => kts_exm)
      (case ki_NoPicture_CopperError => kit_is)
      (case ki_NoPicture_ValueError => kit_is)
      (case ki_NoPicture_NoBoard => kit_is)
      (case ki_NoPicture_NoPlace => kit_is)
      (case n_isinstance => k_is)
      (case n_int => k_is)
      (case n_bool => k_is)
      (case n_str => k_is)
      (case n_tuple => k_is)
      (case n_len => k_is)
      (case n_range => k_is)
      (case n_all => k_is)
      (case n_enumerate => k_is)
      (case n_ValueError => k_is)
      (case g_MOST_FIGURES => k_is)
      (case g_MOST_WIDE => k_is)
      (case g_MOST_HIGH => k_is)
      (case g_MOST_LAYERS => k_is)
      (case g_FIGURES => k_is)
      (case g_COPPER_SIGNS => k_is)
      (case g_HOLE_SIGNS => k_is)
    obtain ⟨t, T⟩ := TT
    have e := hmg.symm.trans T.g_law
    cases e
    exact K15.law_fn T
