import PyProof.Rows.All
import Wide.All
import OpenK.AllK
import Wide.FinOn
import PyProof.Seq
import PyProof.RangeIter
import PyProof.TupleIter
import PyProof.StrLoop
import PyProof.WalkInts
import PyProof.StationsW
import PyProof.ZipIter
import PyProof.ListNew
import Lean
import PyProof.EqAt
import PyProof.EqKinds
import PyProof.TupleCall
import PyProof.NeKinds
import KE.IntTextLaws
import KE.KIntText
import PySem.Challenge.RW_copperbook_k31_rules_as_texts
set_option Elab.async false
set_option linter.all false
set_option maxRecDepth 100000
/- These names keep the theorem's opening from writing out equations that only make the build larger: what is built must stay
   below 64 MiB. They say nothing and are used nowhere. -/
theorem PySem.W.Fast.te18228359641205772357 : True := trivial
theorem PySem.W.Fast.tw10933585156316329300 : True := trivial
theorem PySem.W.Fast.tw12592696732524195236 : True := trivial
theorem PySem.W.Fast.tw16769177883323936754 : True := trivial
theorem PySem.W.Fast.tw1830455450028268598 : True := trivial
namespace L2
open PySem
inductive Chn (h : Heap) (D : List Addr) : Value → Prop
  | nil : Chn h D .none
  | cons {b : Addr} {ob : Obj} {us : Array Value} {c : Value} : b ∈ D → h.get? b = some ob → ob.data = .fields us → us[2]? = some c → Chn h D c → Chn h D (.ref b)
theorem Chn.kept {h h' : Heap} {D D' : List Addr} {v : Value} (n : Chn h D v) (k : ∀ b ∈ D, ∀ o, h.get? b = some o → h'.get? b = some o) (d : ∀ b ∈ D, b ∈ D') : Chn h' D' v := by
  induction n with
  | nil => exact .nil
  | cons q1 q2 q3 q4 _ ih => exact .cons (d _ q1) (k _ q1 _ q2) q3 q4 ih
theorem Chn.small {h : Heap} {D : List Addr} {v : Value} (n : Chn h D v) : ∃ D', Chn h D' v ∧ ∀ b ∈ D', ∃ (o : Obj) (us : Array Value), h.get? b = some o ∧ o.data = .fields us ∧ 2 < us.size := by
  induction n with
  | nil => exact ⟨[], .nil, fun b hb => absurd hb (by simp)⟩
  | @cons b ob us c q1 q2 q3 q4 _ ih =>
    obtain ⟨D', m, l⟩ := ih
    refine ⟨b :: D', .cons (by simp) q2 q3 q4 (m.kept (fun _ _ _ e => e) fun d hd => List.mem_cons_of_mem _ hd), fun d hd => ?_⟩
    rcases List.mem_cons.mp hd with rfl | hd
    · exact ⟨ob, us, q2, q3, (Array.getElem?_eq_some_iff.mp q4).1⟩
    · exact l d hd
def HdL (A : Around) (h : Heap) (D : List Addr) : Prop := A.handled = none ∨ ∃ ea : Addr, A.handled = some (.ref ea) ∧ Chn h D (.ref ea)
def HdN (A : Around) (h : Heap) : Prop := ∃ D, HdL A h D
theorem HdL.keptD {A : Around} {h h' : Heap} {D : List Addr} (n : HdL A h D) (k : ∀ b ∈ D, ∀ o, h.get? b = some o → h'.get? b = some o) : HdL A h' D := by
  rcases n with z | ⟨ea, h1, h2⟩
  · exact .inl z
  · exact .inr ⟨ea, h1, h2.kept k fun _ q => q⟩
theorem HdN.kept {A : Around} {h h' : Heap} (n : HdN A h) (k : ∀ b o, h.get? b = some o → h'.get? b = some o) : HdN A h' := let ⟨D, n⟩ := n; ⟨D, n.keptD fun b _ o e => k b o e⟩
theorem HdN.small {A : Around} {h : Heap} (n : HdN A h) : ∃ D, HdL A h D ∧ ∀ b ∈ D, ∃ (o : Obj) (us : Array Value), h.get? b = some o ∧ o.data = .fields us ∧ 2 < us.size := by
  obtain ⟨D, n⟩ := n
  rcases n with z | ⟨ea, h1, h2⟩
  · exact ⟨[], .inl z, fun b hb => absurd hb (by simp)⟩
  · obtain ⟨D', m, l⟩ := h2.small
    exact ⟨D', .inr ⟨ea, h1, m⟩, l⟩
theorem HdN.but {A : Around} {h h' : Heap} {it : Addr} (n : HdN A h) (k : Heap.SameBut it h h') (ne : ∃ (o : Obj) (us : Array Value), h.get? it = some o ∧ o.data = .fields us ∧ us.size ≤ 2) : HdN A h' := by
  obtain ⟨D, n, l⟩ := n.small
  refine ⟨D, n.keptD fun b hb o e => (k.2 b fun q => ?_).trans e⟩
  obtain ⟨o1, us1, e1, e2, e3⟩ := l b hb
  obtain ⟨o2, us2, f1, f2, f3⟩ := ne
  rw [q, f1] at e1; cases e1
  rw [f2] at e2; cases e2
  omega
theorem entry_unchain : entryFor table "proto.unchain" = some Builtin.«proto.unchain» := entryFor_of_tree (by kernel_rfl)
section
variable {prog : Program} {w : World} {A : Around} {E : Value → Shared → Prop} {s : Shared}
inductive Pth (h : Heap) : Addr → Addr → Prop
  | refl (a : Addr) : Pth h a a
  | step {a b o : Addr} {ob : Obj} {us : Array Value} : h.get? a = some ob → ob.data = .fields us → us[2]? = some (.ref b) → Pth h b o → Pth h a o
theorem Pth.snoc {h : Heap} {a o b : Addr} {ob : Obj} {us : Array Value} (p : Pth h a o) (h1 : h.get? o = some ob) (h2 : ob.data = .fields us) (h3 : us[2]? = some (.ref b)) : Pth h a b := by
  induction p with
  | refl a => exact .step h1 h2 h3 (.refl b)
  | step q1 q2 q3 _ ih => exact .step q1 q2 q3 (ih h1)
def Far (h : Heap) (a o : Addr) : Prop := ∃ (b : Addr) (ob : Obj) (us : Array Value), h.get? a = some ob ∧ ob.data = .fields us ∧ us[2]? = some (.ref b) ∧ Pth h b o
theorem Pth.far {h : Heap} {a o b : Addr} {ob : Obj} {us : Array Value} (p : Pth h a o) (h1 : h.get? o = some ob) (h2 : ob.data = .fields us) (h3 : us[2]? = some (.ref b)) : Far h a b := by
  cases p with
  | refl => exact ⟨b, ob, us, h1, h2, h3, .refl b⟩
  | step q1 q2 q3 p => exact ⟨_, _, _, q1, q2, q3, p.snoc h1 h2 h3⟩
theorem unchain_on {e : Addr} {D : List Addr} {R : Result → Shared → Prop} (new : e ∉ D) (h : R (.ok (.ret .none)) s) {v : Value} (n : Chn s.heap D v) : ∀ (o slow : Addr) (tg : Bool), v = .ref o → Pth s.heap slow o → (tg = true → Far s.heap slow o) →
    codeAny (model prog w) A (.builtin "proto.unchain" ⟨[.ref e, .ref o, .ref slow, .bool tg], []⟩) R s := by
  induction n with
  | nil => intro o slow tg q; cases q
  | @cons b ob us c q1 q2 q3 q4 m ih =>
    intro o slow tg q p far
    cases q
    refine codeAny_builtin entry_unchain ?_
    unfold Builtin.«proto.unchain»
    dsimp only
    refine wpAny_bind (wpAny_field q2 q3 (x := c) q4 ?_)
    cases m with
    | nil => exact wpAny_pure h
    | @cons b2 ob2 us2 c2 r1 r2 r3 r4 m2 =>
      have nbe : b2 ≠ e := fun q => new (q ▸ r1)
      rw [if_neg (show ¬ ((Value.ref b2 == Value.none) = true) from Bool.false_ne_true), if_neg (show ¬ ((Value.ref b2 == Value.ref e) = true) by simpa using nbe)]
      by_cases hs : b2 = slow
      · subst hs
        rw [if_pos (by simp)]
        exact wpAny_bind (wpAny_rule (wpAny_pure h))
      · rw [if_neg (show ¬ ((Value.ref b2 == Value.ref slow) = true) by simpa using hs)]
        cases tg with
        | false => exact wpAny_bind (wpAny_pure (wpAny_pure ⟨Code.quiet_builtin _ (by decide +kernel), ih b2 slow true rfl (p.snoc q2 q3 q4) fun _ => p.far q2 q3 q4⟩))
        | true =>
          obtain ⟨b3, ob3, us3, f1, f2, f3, p3⟩ := far rfl
          exact wpAny_bind (wpAny_field f1 f2 (x := .ref b3) f3 (wpAny_pure ⟨Code.quiet_builtin _ (by decide +kernel), ih b2 b3 false rfl (p3.snoc q2 q3 q4) fun z => by cases z⟩))
theorem raise_on {α : Type} {Q : α → Shared → Prop} {e : Addr} {oe : Obj} {vs : Array Value} {D : List Addr} (hn : HdL A s.heap D) (he : s.heap.get? e = some oe) (hd : oe.data = .fields vs) (h2 : 2 < vs.size)
    (new : e ∉ D)
    (h : ∀ h', (h' = s.heap ∧ A.handled = none) ∨ (∃ ea, A.handled = some (.ref ea) ∧ h' = s.heap.update e (Obj.mapFields (·.setIfInBounds 2 (.ref ea)))) → Heap.SameBut e s.heap h' → (∃ o, h'.get? e = some o ∧ o.cls = oe.cls) → E (.ref e) { s with heap := h' }) : wpAny (model prog w) A (raiseNew (.ref e) : Sem α) Q E s := by
  unfold raiseNew
  refine wpAny_bind (wpAny_handled ?_)
  rcases hn with z | ⟨ea, z, n⟩
  · rw [z]
    exact wpAny_bind (wpAny_pure (wpAny_throw (h s.heap (.inl ⟨rfl, z⟩) ⟨rfl, fun _ _ => rfl⟩ ⟨oe, he, rfl⟩)))
  · have ne : ea ≠ e := fun q => by cases n with | cons q1 => exact new (q ▸ q1)
    rw [z]
    dsimp only
    have hne : (Value.ref ea != Value.ref e) = true := by
      rw [bne_iff_ne]; intro q; exact ne (Value.ref.inj q)
    rw [hne]
    have wf : ∀ {P : Unit → Shared → Prop}, P () { s with heap := s.heap.update e (Obj.mapFields (·.setIfInBounds 2 (.ref ea))) } → wpAny (model prog w) A (updateField e 2 (.ref ea)) P E s := fun {P} q => wpAny_setField he hd h2 q
    refine wpAny_bind (wpAny_holding (wpAny_runValue (unchain_on new ?_ n ea ea false rfl (.refl ea) fun z => by cases z)))
    exact wpAny_bind (wf (wpAny_throw (h _ (.inr ⟨ea, z, rfl⟩) (Heap.SameBut.update ..) ⟨_, Heap.get?_update_self _ he (Obj.isFreed_of_fields (Obj.data_mapFields hd _)), Obj.cls_mapFields ..⟩)))
theorem stop_on {α : Type} {Q : α → Shared → Prop} (hn : HdN A s.heap) (h : ∀ h' e, (∀ b o, s.heap.get? b = some o → h'.get? b = some o) → (∃ o, h'.get? e = some o ∧ o.cls = .type "StopIteration") → E (.ref e) { s with heap := h' }) :
    wpAny (model prog w) A (newExc (.type "StopIteration") [] >>= fun x => (raiseNew x : Sem α)) Q E s := by
  refine wpAny_bind ?_
  unfold newExc newTuple
  refine wpAny_bind (wpAny_newObj_type ?_ (by show 0 ≤ sizeLine; decide))
  refine wpAny_bind (m := firstArgMember (.type "StopIteration") []) (wpAny_of_eq (a := Value.none) rfl (wpAny_newObj_type ?_ (by size_fits)))
  generalize hp : s.heap.push _ = h1
  have k1 : ∀ b o, s.heap.get? b = some o → h1.get? b = some o := fun b o e => hp ▸ Heap.get?_push_of_some _ e
  have k2 : ∀ ob b o, h1.get? b = some o → (h1.push ob).get? b = some o := fun ob b o e => Heap.get?_push_of_some _ e
  obtain ⟨D, nD, lD⟩ := hn.small
  refine raise_on (e := h1.objs.size) (vs := _) (D := D) ((nD.keptD fun b _ o e => k1 b o e).keptD fun b _ o e => k2 _ b o e) (Heap.get?_push_size _ rfl) rfl (by show 2 < 6; decide) (fun q => ?_) fun h' _ sb ex => h h' _ (fun b o e => (sb.2 b ?_).trans (k2 _ b o (k1 b o e))) ex
  · obtain ⟨o, _, eo, _⟩ := lD _ q
    exact absurd (Heap.lt_size (k1 _ _ eo)) (Nat.lt_irrefl _)
  · exact Nat.ne_of_lt (Heap.lt_size (k1 b o e))
theorem stopped {Q : Option Value → Shared → Prop} {e : Addr} (ex : ∃ o, s.heap.get? e = some o ∧ o.cls = .type "StopIteration") (h : Q none s) :
    wpAny (model prog w) A (do if (← isInstance (.ref e) (.type "StopIteration")) = true then pure (none : Option Value) else throw (.ref e)) Q E s := by
  obtain ⟨o, h1, h2⟩ := ex
  refine wpAny_bind (wpAny_isInstance (T := "StopIteration") (b := true) ⟨o, h1, h2⟩ isSubtype_stop ?_)
  exact wpAny_pure h
theorem list_on {it l : Addr} {i : Nat} {items : Array Value} {Q : Option Value → Shared → Prop} (hn : HdN A s.heap) (hit : s.heap.IsListIter it l i) (hl : s.heap.IsList l items) (hx : items[i]? = none)
    (hQ : ∀ h', Heap.ExtBut it s.heap h' → Q none { s with heap := h' }) : wpAny (model prog w) A (pyNext (.ref it)) Q E s := by
  obtain ⟨o, ho, hc, hd⟩ := id hit
  obtain ⟨ol, hol, _, nl, hdl⟩ := hl
  unfold pyNext
  refine wpAny_bind (wpAny_attempt (wpAny_callSpecial?_slot (name := Str.ofString "__next__") hit.typeIs slot_listiter_next (wpAny_call_entry slot_listiter_next hit.typeIs entry_listiter_next ?_ (args_listiter_next _))))
  refine (show ∀ {R : Fin → Shared → Prop} {F : Value → Shared → Prop}, wpAny (model prog w) A.in1 (field (.ref it) 0 >>= _) R F s → wpAny (model prog w) A.in1 (Builtin.«list_iterator.__next__» _) R F s from fun z => z) (wpAny_bind (wpAny_field ho hd (x := .ref l) rfl ?_))
  rw [if_neg (show ¬ ((Value.ref l == Value.none) = true) from Bool.false_ne_true)]
  refine wpAny_bind (wpAny_field (i := 1) ho hd (x := .int i 0) rfl (wpAny_bind (wpAny_seqItems hol hdl ?_)))
  simp only [Int.toNat_natCast, hx]
  refine wpAny_bind (wpAny_rule (wpAny_bind (wpAny_setField ho hd (by simp) ?_)))
  have sb : Heap.SameBut it s.heap (s.heap.update it (Obj.mapFields (·.setIfInBounds 0 .none))) := Heap.SameBut.update ..
  refine stop_on (A := A.in1) (s := { s with heap := _ }) (hn.but sb ⟨o, _, ho, hd, by simp⟩) fun h' e k ex => stopped (s := { s with heap := h' }) ex (hQ h' fun b o hb q => k b o ((sb.2 b hb).trans q))
theorem tuple_on {it l : Addr} {i : Nat} {items : Array Value} {Q : Option Value → Shared → Prop} (hn : HdN A s.heap) (hit : s.heap.IsTupleIter it l i) (hl : s.heap.IsTuple l items) (hx : items[i]? = none)
    (hQ : ∀ h', Heap.ExtBut it s.heap h' → Q none { s with heap := h' }) : wpAny (model prog w) A (pyNext (.ref it)) Q E s := by
  obtain ⟨o, ho, hc, hd⟩ := id hit
  obtain ⟨ol, hol, _, nl, hdl⟩ := hl
  unfold pyNext
  refine wpAny_bind (wpAny_attempt (wpAny_callSpecial?_slot (name := Str.ofString "__next__") hit.typeIs F.slot_tuple_iterator_next (wpAny_call_entry F.slot_tuple_iterator_next hit.typeIs F.entry_tuple_iterator_next ?_ (F.args_tuple_iterator_next_1 _))))
  refine (show ∀ {R : Fin → Shared → Prop} {F : Value → Shared → Prop}, wpAny (model prog w) A.in1 (field (.ref it) 0 >>= _) R F s → wpAny (model prog w) A.in1 (Builtin.«tuple_iterator.__next__» _) R F s from fun z => z) (wpAny_bind (wpAny_field ho hd (x := .ref l) rfl ?_))
  rw [if_neg (show ¬ ((Value.ref l == Value.none) = true) from Bool.false_ne_true)]
  refine wpAny_bind (wpAny_field (i := 1) ho hd (x := .int i 0) rfl (wpAny_bind (wpAny_seqItems hol hdl ?_)))
  simp only [Int.toNat_natCast, hx]
  refine wpAny_bind (wpAny_rule (wpAny_bind (wpAny_setField ho hd (by simp) ?_)))
  have sb : Heap.SameBut it s.heap (s.heap.update it (Obj.mapFields (·.setIfInBounds 0 .none))) := Heap.SameBut.update ..
  refine stop_on (A := A.in1) (s := { s with heap := _ }) (hn.but sb ⟨o, _, ho, hd, by simp⟩) fun h' e k ex => stopped (s := { s with heap := h' }) ex (hQ h' fun b o hb q => k b o ((sb.2 b hb).trans q))
theorem range_on {it : Addr} {x left step : Int} {Q : Option Value → Shared → Prop} (hn : HdN A s.heap) (hit : IsRangeIter s.heap it x left step) (hleft : left ≤ 0)
    (hQ : ∀ h', Heap.ExtBut it s.heap h' → Q none { s with heap := h' }) : wpAny (model prog w) A (pyNext (.ref it)) Q E s := by
  have hT : s.TypeIs (.ref it) "range_iterator" := ⟨_, hit, rfl⟩
  unfold pyNext
  refine wpAny_bind (wpAny_attempt (wpAny_callSpecial?_slot (name := Str.ofString "__next__") hT F.slot_range_iterator_next (wpAny_call_entry F.slot_range_iterator_next hT F.entry_range_iterator_next ?_ (F.args_range_iterator_next_1 _))))
  refine (show ∀ {R : Fin → Shared → Prop} {F : Value → Shared → Prop}, wpAny (model prog w) A.in1 (field (.ref it) 0 >>= _) R F s → wpAny (model prog w) A.in1 (Builtin.«range_iterator.__next__» _) R F s from fun z => z) (wpAny_bind (wpAny_field hit rfl (x := rawInt x) rfl ?_))
  refine (show ∀ {k : Value → Sem Fin} {R : Fin → Shared → Prop} {F : Value → Shared → Prop}, wpAny (model prog w) A.in1 (k (rawInt left)) R F s → wpAny (model prog w) A.in1 (field (.ref it) 1 >>= k) R F s from fun z => wpAny_bind (wpAny_field hit rfl (x := rawInt left) rfl z)) ?_
  refine (show ∀ {k : Value → Sem Fin} {R : Fin → Shared → Prop} {F : Value → Shared → Prop}, wpAny (model prog w) A.in1 (k (rawInt step)) R F s → wpAny (model prog w) A.in1 (field (.ref it) 2 >>= k) R F s from fun z => wpAny_bind (wpAny_field hit rfl (x := rawInt step) rfl z)) ?_
  refine (show ∀ {a b : Sem Fin} {R : Fin → Shared → Prop} {F : Value → Shared → Prop}, wpAny (model prog w) A.in1 a R F s → wpAny (model prog w) A.in1 (if left ≤ 0 then a else b) R F s from fun z => by rw [if_pos hleft]; exact z) ?_
  refine wpAny_bind (wpAny_rule (wpAny_bind ?_))
  exact stop_on (A := A.in1) hn fun h' e k ex => stopped (s := { s with heap := h' }) ex (hQ h' fun b o _ q => k b o q)
theorem ascii_on {it : Addr} {x : Str} {t : Tok} {i : Nat} {Q : Option Value → Shared → Prop} (hn : HdN A s.heap) (hit : s.heap.IsStrIter it "str_ascii_iterator" x t i) (hx : x.cps[i]? = none)
    (hQ : ∀ h', Heap.ExtBut it s.heap h' → Q none { s with heap := h' }) : wpAny (model prog w) A (pyNext (.ref it)) Q E s := by
  obtain ⟨o, ho, hc, hd⟩ := id hit
  unfold pyNext
  refine wpAny_bind (wpAny_attempt (wpAny_callSpecial?_slot (name := Str.ofString "__next__") hit.typeIs F.slot_str_ascii_iterator_next (wpAny_call_entry F.slot_str_ascii_iterator_next hit.typeIs F.entry_str_ascii_iterator_next ?_ (F.args_str_ascii_iterator_next_1 _))))
  refine (show ∀ {R : Fin → Shared → Prop} {F : Value → Shared → Prop}, wpAny (model prog w) A.in1 (field (.ref it) 0 >>= _) R F s → wpAny (model prog w) A.in1 (Builtin.«str_ascii_iterator.__next__» _) R F s from fun z => z) (wpAny_bind (wpAny_field ho hd (x := .str x t) rfl ?_))
  refine wpAny_bind (wpAny_of_eq (a := some x) rfl ?_)
  refine wpAny_bind (wpAny_field (i := 1) ho hd (x := .int i 0) rfl ?_)
  simp only [Int.toNat_natCast, hx]
  refine wpAny_bind (wpAny_rule (wpAny_bind (wpAny_setField ho hd (by simp) (wpAny_bind (wpAny_letGo ?_)))))
  have sb : Heap.SameBut it s.heap (s.heap.update it (Obj.mapFields (·.setIfInBounds 0 .none))) := Heap.SameBut.update ..
  refine stop_on (A := A.in1) (s := { s with heap := _ }) (hn.but sb ⟨o, _, ho, hd, by simp⟩) fun h' e k ex => stopped (s := { s with heap := h' }) ex (hQ h' fun b o hb q => k b o ((sb.2 b hb).trans q))
theorem wide_on {it : Addr} {x : Str} {t : Tok} {i : Nat} {Q : Option Value → Shared → Prop} (hn : HdN A s.heap) (hit : s.heap.IsStrIter it "str_iterator" x t i) (hx : x.cps[i]? = none)
    (hQ : ∀ h', Heap.ExtBut it s.heap h' → Q none { s with heap := h' }) : wpAny (model prog w) A (pyNext (.ref it)) Q E s := by
  obtain ⟨o, ho, hc, hd⟩ := id hit
  unfold pyNext
  refine wpAny_bind (wpAny_attempt (wpAny_callSpecial?_slot (name := Str.ofString "__next__") hit.typeIs F.slot_str_iterator_next (wpAny_call_entry F.slot_str_iterator_next hit.typeIs F.entry_str_iterator_next ?_ (F.args_str_iterator_next_1 _))))
  refine (show ∀ {R : Fin → Shared → Prop} {F : Value → Shared → Prop}, wpAny (model prog w) A.in1 (field (.ref it) 0 >>= _) R F s → wpAny (model prog w) A.in1 (Builtin.«str_iterator.__next__» _) R F s from fun z => z) (wpAny_bind (wpAny_field ho hd (x := .str x t) rfl ?_))
  refine wpAny_bind (wpAny_of_eq (a := some x) rfl ?_)
  refine wpAny_bind (wpAny_field (i := 1) ho hd (x := .int i 0) rfl ?_)
  simp only [Int.toNat_natCast, hx]
  refine wpAny_bind (wpAny_rule (wpAny_bind (wpAny_setField ho hd (by simp) (wpAny_bind (wpAny_letGo ?_)))))
  have sb : Heap.SameBut it s.heap (s.heap.update it (Obj.mapFields (·.setIfInBounds 0 .none))) := Heap.SameBut.update ..
  refine stop_on (A := A.in1) (s := { s with heap := _ }) (hn.but sb ⟨o, _, ho, hd, by simp⟩) fun h' e k ex => stopped (s := { s with heap := h' }) ex (hQ h' fun b o hb q => k b o ((sb.2 b hb).trans q))
theorem walks_on (I ax : Addr) (hne : ax ≠ I) (D : List Addr) (hI : I ∉ D) (items : Array Value) :
    Walks prog w A I ([I, ax] ++ D) [I] items.size (fun i v => items[i]? = some v) (fun i h => (h.IsListIter I ax i ∧ h.IsList ax items) ∧ HdL A h D) where
  sub := fun b hb => by simp at hb; simp [hb]
  frame := fun i h h' st k => ⟨⟨st.1.1.at fun o e => k I (by simp) o e, st.1.2.at fun o e => k ax (by simp) o e⟩, st.2.keptD fun b hb o e => k b (by simp [hb]) o e⟩
  item := fun i s Q E hi st hQ => by
    refine wpAny_pyNext_list_item st.1.1 st.1.2 (x := items[i]) (by simp [hi]) fun h' hit' sb => ?_
    refine hQ _ h' s.toks (by simp [hi]) ⟨⟨hit', st.1.2.extBut sb.extBut hne⟩, st.2.keptD fun b hb o e => (sb.2 b fun q => hI (q ▸ hb)).trans e⟩ fun b o hb e => (sb.2 b fun q => hb (by simp [q])).trans e
  done := fun s Q E st hQ => list_on ⟨D, st.2⟩ st.1.1 st.1.2 (by simp) fun h' k => hQ h' s.toks fun b o hb e => k b o (fun q => hb (by simp [q])) e
  self := fun _ _ _ _ st hQ => wpAny_pyIter_listiter st.1.1 hQ
theorem min_on {l : Addr} {xs : Array (Int × Tok)} {Q : Value → Shared → Prop} (hn : HdN A s.heap) (hl : s.heap.IsList l (intItems xs)) (hne : 0 < xs.size)
    (h : ∀ v h' tk, (intItems xs)[argBest (fun i j => decide (numAt xs i < numAt xs j)) (xs.size - 1)]? = some v → (∀ b o, s.heap.get? b = some o → h'.get? b = some o) → Q v { s with heap := h', toks := tk }) :
    wpAny (model prog w) A (call (.builtin "min") [.ref l]) Q E s := by
  obtain ⟨D, nD, lD⟩ := hn.small
  have hlt : ∀ b ∈ D, b < s.heap.objs.size := fun b hb => let ⟨_, _, e, _⟩ := lD b hb; Heap.lt_size e
  refine call_min_walk (iter_intList hl fun s2 e st hfp hlI => ?_)
  subst e
  have nI : s.heap.objs.size ∉ D := fun z => absurd (hlt _ z) (Nat.lt_irrefl _)
  refine ⟨_, _, _, _, _, _, _, rfl, walks_on (A := A.in1) s.heap.objs.size l hlI D nI (intItems xs), ⟨st, HdL.keptD (A := A.in1) nD fun b _ o e => Heap.get?_push_of_some _ e⟩, fun b hb => ?_, by simpa [intItems] using hne, CmpOf.ints_lt (numAt xs) (fun _ _ => intItems_at), fun v h' tk hP hk => ?_⟩
  · rcases List.mem_append.mp hb with z | z
    · exact hfp b z
    · rw [Heap.size_push]; exact Nat.lt_succ_of_lt (hlt b z)
  · exact h v h' tk (by simpa [intItems] using hP) (old_kept hk)
end
end L2
set_option Elab.async false
set_option linter.all false
set_option maxRecDepth 100000
namespace L2
open PySem
def TrC (h base : Heap) (e : Addr) (cls : Value) (a0 : Value × Value) (fl : Value) : Prop :=
  ∃ oe vs T oT ts, h.get? e = some oe ∧ (oe.cls = cls ∧ vs[0]? = some a0.1 ∧ vs[2]? = some a0.2) ∧ oe.data = .fields vs ∧ vs[1]? = some (.ref T) ∧ base.get? T = none ∧ T ≠ e ∧ h.get? T = some oT ∧ oT.data = .fields ts ∧ ts[3]? = some fl
structure StepC (base : Heap) (l : List Env) (e : Addr) (cls : Value) (a0 : Value × Value) (fl : Value) (h h' : Heap) : Prop where
  st : base.StaysIn h'
  ff : h'.FunFrames base l
  tr : TrC h' base e cls a0 fl
  up : h.UpToSlots h'
section
variable {M : Model} {A : Around} {E : Value → Shared → Prop} {s : Shared} {base : Heap} {env : Env} {outer : List Env} {L e : Addr} {cls : Value} {a0 : Value × Value}
theorem entry_c {oe : Obj} {vs : Array Value} {head : Value} {hadNext : Bool} {Q : Unit → Shared → Prop} (hfr : A.frames = some (env :: outer)) (hl : s.heap.FunFrames base (env :: outer)) (hf : env.frame = some L)
    (he : s.heap.get? e = some oe) (hkb : base.StaysIn s.heap) (hen : base.get? e = none) (hd : oe.data = .fields vs) (hsz : 1 < vs.size) (h0 : vs[0]? = some a0.1) (h2 : vs[2]? = some a0.2)
    (h : ∀ h', StepC base (env :: outer) e oe.cls a0 (rawInt L) s.heap h' → Q () { s with heap := h' }) :
    wpAny M A (do let a ← frameOf env; let pl ← entryPlaceOf L hadNext; let b ← EntryCells.newEntry head a .none (rawInt L) .none pl; setField (.ref e) 1 b) Q E s := by
  have rec1 : ∀ b o, s.heap.get? b = some o → (∀ us, o.data ≠ .fields us) → b ≠ e := fun b o hb hn q => by
    subst q
    rw [he] at hb; cases hb
    exact hn vs hd
  have efr : e ∉ (env :: outer).filterMap (·.frame) := fun hm => by
    obtain ⟨_, o, ho, hn⟩ := hl.mem hm
    exact rec1 e o ho hn rfl
  refine wpAny_bind (wpAny_frameOf_fun hfr hl hf fun g hg => wpAny_bind (wpAny_entryPlaceOf fun pl hpl => ?_))
  unfold EntryCells.newEntry newFields
  refine wpAny_bind (wpAny_newObj_type ?_ (hpl.sizeOk5 _ _ _ _ _))
  generalize ho : (Obj.mk (.type "traceback") none (.fields ([head, .ref L, .none, rawInt L, .none] ++ (if pl.isEmpty then List.replicate 6 Value.none else pl)).toArray) #[]) = ot
  have hoc : ot.data = .fields ([head, .ref L, .none, rawInt L, .none] ++ (if pl.isEmpty then List.replicate 6 Value.none else pl)).toArray := by rw [← ho]
  have eg : g.get? e = some oe := (hg.2.1 e efr).trans he
  have bg : base.StaysIn g := fun b o hb => (hg.2.1 b fun hm => by rw [(hl.mem hm).1] at hb; cases hb).trans (hkb b o hb)
  have nT : g.objs.size ≠ e := Nat.ne_of_gt (Heap.lt_size eg)
  have e2 : (g.push ot).get? e = some oe := Heap.get?_push_of_some _ eg
  refine wpAny_setField e2 hd hsz (h _ ?_)
  have d3 := Obj.data_mapFields hd (·.setIfInBounds 1 (Value.ref g.objs.size))
  have e3 := Heap.get?_update_self (Obj.mapFields (·.setIfInBounds 1 (Value.ref g.objs.size))) e2 (Obj.isFreed_of_fields d3)
  have keep : ∀ b o, b ≠ e → g.get? b = some o → ((g.push ot).update e (Obj.mapFields (·.setIfInBounds 1 (Value.ref g.objs.size)))).get? b = some o := fun b o hb q => by
    rw [Heap.get?_update_other _ _ (Ne.symm hb)]
    exact Heap.get?_push_of_some _ q
  have T3 : ((g.push ot).update e (Obj.mapFields (·.setIfInBounds 1 (Value.ref g.objs.size)))).get? g.objs.size = some ot := by
    rw [Heap.get?_update_other _ _ (Ne.symm nT)]
    exact Heap.get?_push_size g (by rw [← ho]; rfl)
  refine ⟨fun b o hb => keep b o (fun q => by rw [q, hen] at hb; cases hb) (bg b o hb), hl.of_keeps fun b o hb hn => ?_, ⟨_, _, g.objs.size, ot, _, e3, ⟨Obj.cls_mapFields _ _, ?_, ?_⟩, d3, by simp [hsz], bg.fresh, nT, T3, hoc, ?_⟩, fun b o hb hn => ?_⟩
  · obtain ⟨sl, q⟩ := hg.2.2 b o hb
    exact ⟨_, keep b _ (rec1 b o hb hn) q, rfl⟩
  · rw [Array.getElem?_setIfInBounds_ne (by decide)]; exact h0
  · rw [Array.getElem?_setIfInBounds_ne (by decide)]; exact h2
  · first | (simp; done) | (rcases hpl with rfl | ⟨_, _, _, _, _, _, _, rfl⟩ <;> simp)
  · obtain ⟨sl, q⟩ := hg.2.2 b o hb
    exact ⟨sl, keep b _ (rec1 b o hb hn) q⟩
theorem flight_c {l : List Env} {fl : Value} {Q : Unit → Shared → Prop} (hkb : base.StaysIn s.heap) (hl : s.heap.FunFrames base l) (ht : TrC s.heap base e cls a0 fl)
    (h : ∀ h', StepC base l e cls a0 .none s.heap h' → (∀ b o, s.heap.get? b = some o → (∀ us, o.data ≠ .fields us) → h'.get? b = some o) → Q () { s with heap := h' }) : wpAny M A (setFlight (.ref e) none) Q E s := by
  obtain ⟨oe, vs, T, oT, ts, he, hc, hd, h1, hnT, hTe, hT, hdT, h3⟩ := ht
  have z3 : 3 < ts.size := (Array.getElem?_eq_some_iff.mp h3).1
  have nrec : ∀ b o, s.heap.get? b = some o → (∀ us, o.data ≠ .fields us) → T ≠ b := fun b o hb hn q => by
    subst q
    rw [hT] at hb; cases hb
    exact hn ts hdT
  unfold setFlight
  refine wpAny_bind (wpAny_field he hd h1 ?_)
  rw [if_pos (show (Value.ref T != Value.none) = true by simp)]
  refine wpAny_setField hT hdT z3 (h _ ⟨fun b o hb => ?_, hl.of_keeps fun b o hb hn => ⟨o, ?_, rfl⟩, ⟨oe, vs, T, _, _, ?_, hc, hd, h1, hnT, hTe, Heap.get?_update_self _ hT (Obj.isFreed_of_fields (Obj.data_mapFields hdT _)), Obj.data_mapFields hdT _, by simp [z3]⟩, fun b o hb hn => ⟨o.slots, ?_⟩⟩ fun b o hb hn => ?_)
  · rw [Heap.get?_update_other _ _ (fun q => by rw [← q, hnT] at hb; cases hb)]; exact hkb b o hb
  · rw [Heap.get?_update_other _ _ (nrec b o hb hn)]; exact hb
  · rw [Heap.get?_update_other _ _ hTe]; exact he
  · rw [Heap.get?_update_other _ _ (nrec b o hb hn)]; exact hb
  · rw [Heap.get?_update_other _ _ (nrec b o hb hn)]; exact hb
theorem note_first {oe : Obj} {vs : Array Value} {Q : Unit → Shared → Prop} (hfr : A.frames = some (env :: outer)) (hl : s.heap.FunFrames base (env :: outer)) (hf : env.frame = some L)
    (he : s.heap.get? e = some oe) (hkb : base.StaysIn s.heap) (hen : base.get? e = none) (hd : oe.data = .fields vs) (h1 : vs[1]? = some .none) (h0 : vs[0]? = some a0.1) (h2 : vs[2]? = some a0.2)
    (h : ∀ h', StepC base (env :: outer) e oe.cls a0 (rawInt L) s.heap h' → Q () { s with heap := h' }) : wpAny M A (noteFrame (.ref e) env) Q E s := by
  unfold noteFrame
  simp only [hf]
  refine wpAny_bind (wpAny_field he hd h1 ?_)
  rw [if_neg (by decide)]
  exact entry_c hfr hl hf he hkb hen hd (Array.getElem?_eq_some_iff.mp h1).1 h0 h2 h
theorem note_next {Q : Unit → Shared → Prop} (hfr : A.frames = some (env :: outer)) (hl : s.heap.FunFrames base (env :: outer)) (hf : env.frame = some L) (ht : TrC s.heap base e cls a0 .none) (hkb : base.StaysIn s.heap) (hen : base.get? e = none)
    (h : ∀ h', StepC base (env :: outer) e cls a0 (rawInt L) s.heap h' → Q () { s with heap := h' }) : wpAny M A (noteFrame (.ref e) env) Q E s := by
  obtain ⟨oe, vs, T, oT, ts, he, ⟨hc, h0, h2⟩, hd, h1, hnT, hTe, hT, hdT, h3⟩ := ht
  subst hc
  have nrec : ∀ b o, s.heap.get? b = some o → (∀ us, o.data ≠ .fields us) → T ≠ b := fun b o hb hn q => by
    subst q
    rw [hT] at hb; cases hb
    exact hn ts hdT
  unfold noteFrame
  simp only [hf]
  refine wpAny_bind (wpAny_field he hd h1 ?_)
  rw [if_pos (show (Value.ref T != Value.none) = true by simp)]
  refine wpAny_bind (wpAny_field hT hdT h3 ?_)
  rw [if_neg (show ¬ ((Value.none == rawInt L) = true) by simp [rawInt])]
  refine wpAny_bind (wpAny_setField hT hdT (Array.getElem?_eq_some_iff.mp h3).1 ?_)
  refine entry_c (s := { s with heap := _ }) hfr (hl.of_keeps fun b o hb hn => ⟨o, by rw [Heap.get?_update_other _ _ (nrec b o hb hn)]; exact hb, rfl⟩) hf (by rw [Heap.get?_update_other _ _ hTe]; exact he) (fun b o hb => by
    rw [Heap.get?_update_other _ _ (fun q => by rw [← q, hnT] at hb; cases hb)]; exact hkb b o hb) hen hd (Array.getElem?_eq_some_iff.mp h1).1 h0 h2 fun h' S => h h' ⟨S.st, S.ff, S.tr, fun b o hb hn => S.up b o (by rw [Heap.get?_update_other _ _ (nrec b o hb hn)]; exact hb) hn⟩
theorem leave_first {oe : Obj} {vs : Array Value} {Q : Unit → Shared → Prop} (hfr : A.frames = some (env :: outer)) (hl : s.heap.FunFrames base (env :: outer)) (hf : env.frame = some L)
    (he : s.heap.get? e = some oe) (hkb : base.StaysIn s.heap) (hen : base.get? e = none) (hd : oe.data = .fields vs) (h1 : vs[1]? = some .none) (h0 : vs[0]? = some a0.1) (h2 : vs[2]? = some a0.2)
    (h : ∀ h', StepC base (env :: outer) e oe.cls a0 .none s.heap h' → Q () { s with heap := h' }) : wpAny M A (leaving env (.ref e)) Q E s := by
  unfold leaving
  refine wpAny_bind (note_first hfr hl hf he hkb hen hd h1 h0 h2 fun h1 S => flight_c (s := { s with heap := h1 }) S.st S.ff S.tr fun h2 S2 _ => h h2 ⟨S2.st, S2.ff, S2.tr, S.up.trans S2.up⟩)
theorem leave_next {Q : Unit → Shared → Prop} (hfr : A.frames = some (env :: outer)) (hl : s.heap.FunFrames base (env :: outer)) (hf : env.frame = some L) (ht : TrC s.heap base e cls a0 .none) (hkb : base.StaysIn s.heap) (hen : base.get? e = none)
    (h : ∀ h', StepC base (env :: outer) e cls a0 .none s.heap h' → Q () { s with heap := h' }) : wpAny M A (leaving env (.ref e)) Q E s := by
  unfold leaving
  refine wpAny_bind (note_next hfr hl hf ht hkb hen fun h1 S => flight_c (s := { s with heap := h1 }) S.st S.ff S.tr fun h2 S2 _ => h h2 ⟨S2.st, S2.ff, S2.tr, S.up.trans S2.up⟩)
end
end L2
set_option Elab.async false
set_option linter.all false
set_option maxRecDepth 100000
namespace L2
open PySem
section
variable {prog : Program} {w : World} {A : Around} {E : Value → Shared → Prop} {s : Shared} {z TI TO i1 i2 l1 l2 : Addr} {xs ys : Array Value}
theorem wpAny_alive {M : Model} {a : Addr} {Q : Option Obj → Shared → Prop} (h : Q (s.heap.get? a) s) : wpAny M A (loadIfAlive a) Q E s := fun _ _ _ => h
structure Busy (h : Heap) (z TI TO i1 i2 l1 l2 : Addr) (xs ys : Array Value) (k : Nat) : Prop where
  zp : ∃ (T : Addr) (f1 : Bool) (o : Obj), h.get? z = some { cls := .type "zip", data := .fields #[rawInt T, .bool f1, .bool false, .ref TI, .ref TO] } ∧ h.get? T = some o
  ti : IsPair h TI (.ref i1) (.ref i2)
  h1 : h.IsListIter i1 l1 k
  h2 : h.IsListIter i2 l2 k
  hl1 : h.IsList l1 xs
  hl2 : h.IsList l2 ys
theorem owned_busy {T : Addr} {f1 : Bool} {o : Obj} {Q : Bool → Shared → Prop} (hz : s.heap.get? z = some { cls := .type "zip", data := .fields #[rawInt T, .bool f1, .bool false, .ref TI, .ref TO] }) (hT : s.heap.get? T = some o)
    (h : ∀ h', h'.get? z = some { cls := .type "zip", data := .fields #[rawInt T, .bool true, .bool false, .ref TI, .ref TO] } → Heap.SameBut z s.heap h' → Q false { s with heap := h' }) : wpAny (model prog w) A (Builtin.SmallTypes.ownedTupleIsFree (.ref z)) Q E s := by
  unfold Builtin.SmallTypes.ownedTupleIsFree
  refine wpAny_bind (wpAny_field (i := 0) hz rfl (x := rawInt T) rfl ?_)
  unfold rawInt
  dsimp only
  refine wpAny_bind (wpAny_alive ?_)
  rw [show ((T : Int)).toNat = T from Int.toNat_natCast T, hT]
  simp only [Option.isNone_some, Bool.false_eq_true, if_false]
  refine wpAny_bind (wpAny_field (i := 1) hz rfl (x := .bool f1) rfl ?_)
  cases f1 with
  | true =>
    rw [if_neg (by decide)]
    exact wpAny_pure (h s.heap hz ⟨rfl, fun _ _ => rfl⟩)
  | false =>
    rw [if_pos (by decide)]
    exact wpAny_bind (wpAny_setField_rec hz (by simp) fun h1 hz1 hs1 => wpAny_pure (h h1 hz1 hs1))
theorem busy_item (D : ZipApart z TI TO i1 i2 l1 l2) {k : Nat} {x y : Value} (B : Busy s.heap z TI TO i1 i2 l1 l2 xs ys k) (hx : xs[k]? = some x) (hy : ys[k]? = some y) {Q : Value → Shared → Prop}
    (hQ : ∀ h', Busy h' z TI TO i1 i2 l1 l2 xs ys (k + 1) → IsPair h' s.heap.objs.size x y → h'.objs.size = s.heap.objs.size + 1 → (∀ c o, c ≠ z → c ≠ i1 → c ≠ i2 → s.heap.get? c = some o → h'.get? c = some o) → Q (.ref s.heap.objs.size) { s with heap := h' }) :
    wpAny (model prog w) A (Builtin.«zip.__next__» ⟨[.ref z], []⟩) (fun fin s' => ∃ v, fin = .done (.ret v) ∧ Q v s') E s := by
  obtain ⟨T, f1, o, hz, hT⟩ := B.zp
  unfold Builtin.«zip.__next__»
  refine wpAny_bind (wpAny_of_eq (a := (.ref z, [])) rfl ?_)
  refine wpAny_bind (wpAny_field (i := 2) hz rfl (x := .bool false) rfl ?_)
  refine wpAny_bind (wpAny_field (i := 3) hz rfl (x := .ref TI) rfl (wpAny_bind (wpAny_seqItems B.ti rfl ?_)))
  refine wpAny_bind (owned_busy hz hT fun g1 z1 k1 => ?_)
  simp only [Bool.false_eq_true, if_false, List.forIn_toArray, List.forIn_cons, List.forIn_nil]
  have b1 : g1.IsListIter i1 l1 k := B.h1.extBut k1.extBut D.i1z
  have b2 : g1.IsListIter i2 l2 k := B.h2.extBut k1.extBut D.i2z
  have c1 : g1.IsList l1 xs := B.hl1.extBut k1.extBut D.l1z
  have c2 : g1.IsList l2 ys := B.hl2.extBut k1.extBut D.l2z
  refine wpAny_bind (wpAny_bind (wpAny_bind (wpAny_holding ?_)))
  show wpAny _ _ (Builtin.SmallTypes.nextOf (.ref i1) >>= _) _ _ _
  refine wpAny_bind (wpAny_nextOf_list_item (s := { s with heap := g1 }) b1 c1 hx fun g2 d1 k2 => wpAny_pure ?_)
  refine wpAny_pure (wpAny_bind (wpAny_bind (wpAny_holding ?_)))
  show wpAny _ _ (Builtin.SmallTypes.nextOf (.ref i2) >>= _) _ _ _
  refine wpAny_bind (wpAny_nextOf_list_item (s := { s with heap := g2 }) (b2.extBut k2.extBut (Ne.symm D.i12)) (c2.extBut k2.extBut D.l2i1) hy fun g3 d2 k3 => wpAny_pure ?_)
  refine wpAny_pure (wpAny_pure ?_)
  dsimp only
  refine wpAny_bind (wpAny_newTuple (s := { s with heap := g3 }) ?_ (by show 2 ≤ sizeLine; decide))
  have hsz : g3.objs.size = s.heap.objs.size := by rw [k3.1, k2.1, k1.1]
  have up : ∀ c u, c ≠ z → c ≠ i1 → c ≠ i2 → s.heap.get? c = some u → g3.get? c = some u := fun c u n1 n2 n3 e => (k3.2 c n3).trans ((k2.2 c n2).trans ((k1.2 c n1).trans e))
  have psh : ∀ ob c u, g3.get? c = some u → (g3.push ob).get? c = some u := fun ob c u e => Heap.get?_push_of_some _ e
  refine wpAny_pure ⟨_, rfl, ?_⟩
  show Q (.ref g3.objs.size) _
  rw [hsz]
  have z3 : g3.get? z = some { cls := .type "zip", data := .fields #[rawInt T, .bool true, .bool false, .ref TI, .ref TO] } := (k3.2 z (Ne.symm D.i2z)).trans ((k2.2 z (Ne.symm D.i1z)).trans z1)
  have alive : ∃ u, g3.get? T = some u := by
    have a1 : ∃ u, g1.get? T = some u := by
      by_cases e : T = z
      · exact ⟨_, by rw [e]; exact z1⟩
      · exact ⟨_, (k1.2 T e).trans hT⟩
    obtain ⟨u1, a1⟩ := a1
    have a2 : ∃ u, g2.get? T = some u := by
      by_cases e : T = i1
      · obtain ⟨ob, q, _⟩ := d1; exact ⟨_, e ▸ q⟩
      · exact ⟨_, (k2.2 T e).trans a1⟩
    obtain ⟨u2, a2⟩ := a2
    by_cases e : T = i2
    · obtain ⟨ob, q, _⟩ := d2; exact ⟨_, e ▸ q⟩
    · exact ⟨_, (k3.2 T e).trans a2⟩
  obtain ⟨u, alive⟩ := alive
  refine hQ _ ⟨⟨T, true, u, psh _ _ _ z3, psh _ _ _ alive⟩, psh _ _ _ (up TI _ D.TIz D.TIi1 D.TIi2 B.ti), ?_, ?_, ?_, ?_⟩ ?_ ?_ fun c u n1 n2 n3 e => psh _ _ _ (up c u n1 n2 n3 e)
  · exact (d1.extBut k3.extBut D.i12).at fun ob e => psh _ _ _ e
  · exact d2.at fun ob e => psh _ _ _ e
  · exact (B.hl1.at fun ob e => up l1 ob D.l1z D.l1i1 D.l1i2 e).push _
  · exact (B.hl2.at fun ob e => up l2 ob D.l2z D.l2i1 D.l2i2 e).push _
  · have := Heap.get?_push_size g3 (o := { cls := .type "tuple", data := .seq #[x, y] }) rfl
    rw [hsz] at this; exact this
  · rw [Heap.size_push, hsz]
theorem busy_end (hh : A.handled = none) (D : ZipApart z TI TO i1 i2 l1 l2) {k : Nat} (B : Busy s.heap z TI TO i1 i2 l1 l2 xs ys k) (hend : xs[k]? = none ∨ ys[k]? = none) {Q : Fin → Shared → Prop}
    (hE : ∀ h' e, (∀ c o, c ≠ z → c ≠ i1 → c ≠ i2 → s.heap.get? c = some o → h'.get? c = some o) → (∃ o, h'.get? e = some o ∧ o.cls = .type "StopIteration") → E (.ref e) { s with heap := h' }) :
    wpAny (model prog w) A (Builtin.«zip.__next__» ⟨[.ref z], []⟩) Q E s := by
  obtain ⟨T, f1, o, hz, hT⟩ := B.zp
  unfold Builtin.«zip.__next__»
  refine wpAny_bind (wpAny_of_eq (a := (.ref z, [])) rfl ?_)
  refine wpAny_bind (wpAny_field (i := 2) hz rfl (x := .bool false) rfl ?_)
  refine wpAny_bind (wpAny_field (i := 3) hz rfl (x := .ref TI) rfl (wpAny_bind (wpAny_seqItems B.ti rfl ?_)))
  refine wpAny_bind (owned_busy hz hT fun g1 z1 k1 => ?_)
  simp only [Bool.false_eq_true, if_false, List.forIn_toArray, List.forIn_cons, List.forIn_nil]
  have b1 : g1.IsListIter i1 l1 k := B.h1.extBut k1.extBut D.i1z
  have b2 : g1.IsListIter i2 l2 k := B.h2.extBut k1.extBut D.i2z
  have c1 : g1.IsList l1 xs := B.hl1.extBut k1.extBut D.l1z
  have c2 : g1.IsList l2 ys := B.hl2.extBut k1.extBut D.l2z
  refine wpAny_bind (wpAny_bind (wpAny_bind (wpAny_holding ?_)))
  show wpAny _ _ (Builtin.SmallTypes.nextOf (.ref i1) >>= _) _ _ _
  cases hx : xs[k]? with
  | none => exact wpAny_bind (wpAny_nextOf_list_end (s := { s with heap := g1 }) hh b1 c1 hx fun g2 e k2 he => hE g2 e (fun c u n1 n2 n3 q => k2 c u n2 ((k1.2 c n1).trans q)) he)
  | some x =>
    have hy : ys[k]? = none := hend.resolve_left (by rw [hx]; simp)
    refine wpAny_bind (wpAny_nextOf_list_item (s := { s with heap := g1 }) b1 c1 hx fun g2 d1 k2 => wpAny_pure ?_)
    refine wpAny_pure (wpAny_bind (wpAny_bind (wpAny_holding ?_)))
    show wpAny _ _ (Builtin.SmallTypes.nextOf (.ref i2) >>= _) _ _ _
    exact wpAny_bind (wpAny_nextOf_list_end (s := { s with heap := g2 }) hh (b2.extBut k2.extBut (Ne.symm D.i12)) (c2.extBut k2.extBut D.l2i1) hy fun g3 e k3 he => hE g3 e (fun c u n1 n2 n3 q => k3 c u n3 ((k2.2 c n2).trans ((k1.2 c n1).trans q))) he)
def ZipAt (z TI TO i1 i2 l1 l2 : Addr) (xs ys : Array Value) (k : Nat) (h : Heap) : Prop :=
  (k = 0 ∧ IsZip h z TI TO .none ∧ IsPair h TI (.ref i1) (.ref i2) ∧ (∃ a b, IsPair h TO a b) ∧ h.IsListIter i1 l1 0 ∧ h.IsListIter i2 l2 0 ∧ h.IsList l1 xs ∧ h.IsList l2 ys) ∨ Busy h z TI TO i1 i2 l1 l2 xs ys k
theorem zat_item (D : ZipApart z TI TO i1 i2 l1 l2) {k : Nat} {x y : Value} (B : ZipAt z TI TO i1 i2 l1 l2 xs ys k s.heap) (hx : xs[k]? = some x) (hy : ys[k]? = some y) {Q : Option Value → Shared → Prop}
    (hQ : ∀ h', ZipAt z TI TO i1 i2 l1 l2 xs ys (k + 1) h' → IsPair h' s.heap.objs.size x y → h'.objs.size = s.heap.objs.size + 1 → (∀ c o, c ≠ z → c ≠ TO → c ≠ i1 → c ≠ i2 → s.heap.get? c = some o → h'.get? c = some o) → Q (some (.ref s.heap.objs.size)) { s with heap := h' }) :
    wpAny (model prog w) A (pyNext (.ref z)) Q E s := by
  rcases B with ⟨rfl, q1, q2, ⟨a, b, q3⟩, q4, q5, q6, q7⟩ | B
  · refine wpAny_pyNext_zip_item D q1 q2 q3 q4 q5 q6 q7 hx hy fun h' z1 z2 z3 z4 z5 z6 z7 => hQ h' (.inr ⟨⟨_, false, _, z1, z5⟩, z7 _ _ D.TIz D.TITO D.TIi1 D.TIi2 q2, z3, z4, q6.at fun o e => z7 _ _ D.l1z D.l1TO D.l1i1 D.l1i2 e, q7.at fun o e => z7 _ _ D.l2z D.l2TO D.l2i1 D.l2i2 e⟩) z5 z6 z7
  · obtain ⟨T, f1, o, hz, hT⟩ := id B.zp
    have ht : s.TypeIs (.ref z) "zip" := ⟨_, hz, rfl⟩
    unfold pyNext
    exact wpAny_bind (wpAny_attempt (wpAny_callSpecial?_slot (name := Str.ofString "__next__") ht F.slot_zip_next (wpAny_call_entry F.slot_zip_next ht F.entry_zip_next
      (busy_item D B hx hy fun h' a1 a2 a3 a4 => wpAny_pure (hQ h' (.inr a1) a2 a3 fun c o n1 _ n3 n4 e => a4 c o n1 n3 n4 e)) (F.args_zip_next_1 _))))
theorem zat_end (hh : A.handled = none) (D : ZipApart z TI TO i1 i2 l1 l2) {k : Nat} (B : ZipAt z TI TO i1 i2 l1 l2 xs ys k s.heap) (hend : xs[k]? = none ∨ ys[k]? = none) {Q : Option Value → Shared → Prop}
    (hQ : ∀ h', (∀ c o, c ≠ z → c ≠ TO → c ≠ i1 → c ≠ i2 → s.heap.get? c = some o → h'.get? c = some o) → Q none { s with heap := h' }) : wpAny (model prog w) A (pyNext (.ref z)) Q E s := by
  rcases B with ⟨rfl, q1, q2, ⟨a, b, q3⟩, q4, q5, q6, q7⟩ | B
  · exact wpAny_pyNext_zip_end hh D q1 q2 q3 q4 q5 q6 q7 hend hQ
  · obtain ⟨T, f1, o, hz, hT⟩ := id B.zp
    have ht : s.TypeIs (.ref z) "zip" := ⟨_, hz, rfl⟩
    unfold pyNext
    refine wpAny_bind (wpAny_attempt (wpAny_callSpecial?_slot (name := Str.ofString "__next__") ht F.slot_zip_next (wpAny_call_entry F.slot_zip_next ht F.entry_zip_next
      (busy_end (A := A.in1) hh D B hend fun h' e k he => ?_) (F.args_zip_next_1 _))))
    obtain ⟨oe, ho, hc⟩ := he
    refine wpAny_bind (wpAny_isInstance (T := "StopIteration") (b := true) ⟨oe, ho, hc⟩ isSubtype_stop ?_)
    exact wpAny_pure (hQ _ fun c o n1 _ n3 n4 q => k c o n1 n3 n4 q)
theorem ZipAt.but {S : Addr} {k : Nat} {h h' : Heap} (B : ZipAt z TI TO i1 i2 l1 l2 xs ys k h) (keep : ∀ c o, c ≠ S → h.get? c = some o → h'.get? c = some o) (hS : ∃ o, h'.get? S = some o) (n : S ∉ [z, TI, TO, i1, i2, l1, l2]) : ZipAt z TI TO i1 i2 l1 l2 xs ys k h' := by
  simp only [List.mem_cons, List.not_mem_nil, or_false, not_or] at n
  obtain ⟨n1, n2, n3, n4, n5, n6, n7⟩ := n
  rcases B with ⟨rfl, q1, q2, ⟨a, b, q3⟩, q4, q5, q6, q7⟩ | ⟨⟨T, f1, o, hz, hT⟩, q2, q4, q5, q6, q7⟩
  · exact .inl ⟨rfl, keep _ _ (Ne.symm n1) q1, keep _ _ (Ne.symm n2) q2, ⟨a, b, keep _ _ (Ne.symm n3) q3⟩, q4.at fun o e => keep _ _ (Ne.symm n4) e, q5.at fun o e => keep _ _ (Ne.symm n5) e, q6.at fun o e => keep _ _ (Ne.symm n6) e, q7.at fun o e => keep _ _ (Ne.symm n7) e⟩
  · refine .inr ⟨?_, keep _ _ (Ne.symm n2) q2, q4.at fun o e => keep _ _ (Ne.symm n4) e, q5.at fun o e => keep _ _ (Ne.symm n5) e, q6.at fun o e => keep _ _ (Ne.symm n6) e, q7.at fun o e => keep _ _ (Ne.symm n7) e⟩
    by_cases e : T = S
    · obtain ⟨oS, hS⟩ := hS
      exact ⟨T, f1, oS, keep _ _ (Ne.symm n1) hz, by rw [e]; exact hS⟩
    · exact ⟨T, f1, o, keep _ _ (Ne.symm n1) hz, keep _ _ e hT⟩
structure Got (g : Heap) (S z TO i1 i2 : Addr) (xs ys : Array Value) (ts : List Addr) (h : Heap) : Prop where
  lst : ∃ c, h.get? S = some { cls := .type "list", data := .seq (ts.map Value.ref).toArray c }
  prs : ∀ (i : Nat) (t : Addr) (x y : Value), ts[i]? = some t → xs[i]? = some x → ys[i]? = some y → IsPair h t x y
  new : ∀ t ∈ ts, g.objs.size ≤ t ∧ t ≠ S
  old : ∀ c o, c ∉ [S, z, TO, i1, i2] → g.get? c = some o → h.get? c = some o
theorem zip_loop (hh : A.handled = none) (D : ZipApart z TI TO i1 i2 l1 l2) {S : Addr} (nS : S ∉ [z, TI, TO, i1, i2, l1, l2]) {g : Heap} (gz : ∀ c ∈ [z, TO, i1, i2], ∃ o, g.get? c = some o) (hn : min xs.size ys.size ≤ sizeLine) {R : Result → Shared → Prop} {res : Value}
    (hR : ∀ (h' : Heap) (ts : List Addr), Got g S z TO i1 i2 xs ys ts h' → ts.length = min xs.size ys.size → R (.ok (.ret res)) { s with heap := h' }) :
    ∀ (m k : Nat) (h : Heap) (ts : List Addr), m = min xs.size ys.size - k → k ≤ min xs.size ys.size → ts.length = k → g.objs.size ≤ h.objs.size → ZipAt z TI TO i1 i2 l1 l2 xs ys k h → Got g S z TO i1 i2 xs ys ts h →
      codeAny (model prog w) A (.builtin "list.extend.loop" ⟨[.ref S, .ref z, res], []⟩) R { s with heap := h } := by
  have nS' := nS
  simp only [List.mem_cons, List.not_mem_nil, or_false, not_or] at nS'
  obtain ⟨n1, n2, n3, n4, n5, n6, n7⟩ := nS'
  have apart : ∀ t, g.get? t = none → t ≠ z ∧ t ≠ TO ∧ t ≠ i1 ∧ t ≠ i2 := fun t ht => by
    refine ⟨?_, ?_, ?_, ?_⟩ <;> (intro e; subst e; obtain ⟨o, q⟩ := gz t (by simp); rw [ht] at q; cases q)
  have keepG : ∀ {ts : List Addr} {h h' : Heap}, Got g S z TO i1 i2 xs ys ts h → (∀ c o, c ≠ z → c ≠ TO → c ≠ i1 → c ≠ i2 → h.get? c = some o → h'.get? c = some o) → Got g S z TO i1 i2 xs ys ts h' := fun {ts h h'} G k => by
    obtain ⟨c, hS⟩ := G.lst
    refine ⟨⟨c, k S _ n1 n3 n4 n5 hS⟩, fun i t x y ht hx hy => ?_, G.new, fun c o hc e => ?_⟩
    · obtain ⟨m1, m2, m3, m4⟩ := apart t (Heap.get?_none_of_le (G.new t (List.mem_of_getElem? ht)).1)
      exact k t _ m1 m2 m3 m4 (G.prs i t x y ht hx hy)
    · have hc' := hc
      simp only [List.mem_cons, List.not_mem_nil, or_false, not_or] at hc'
      exact k c o hc'.2.1 hc'.2.2.1 hc'.2.2.2.1 hc'.2.2.2.2 (G.old c o hc e)
  intro m
  induction m with
  | zero =>
    intro k h ts hm hk hl hg B G
    have hend : xs[k]? = none ∨ ys[k]? = none := by
      have : xs.size ≤ k ∨ ys.size ≤ k := by omega
      exact this.imp (fun h => Array.getElem?_eq_none h) fun h => Array.getElem?_eq_none h
    refine codeAny_builtin F.entry_extend_loop ?_
    rw [Around.under_plainId F.plain_extend_loop _]
    refine wpAny_bind (zat_end (s := { s with heap := h }) (A := A.in1) hh D B hend fun h' kp => ?_)
    exact wpAny_pure (hR h' ts (keepG G kp) (by omega))
  | succ m ih =>
    intro k h ts hm hk hl hg B G
    have hkx : k < xs.size := by omega
    have hky : k < ys.size := by omega
    refine codeAny_builtin F.entry_extend_loop ?_
    rw [Around.under_plainId F.plain_extend_loop _]
    refine wpAny_bind (zat_item (s := { s with heap := h }) (A := A.in1) D B (Array.getElem?_eq_getElem hkx) (Array.getElem?_eq_getElem hky) fun h1 B1 p1 z1 kp => ?_)
    have G1 := keepG G kp
    obtain ⟨c, hS⟩ := G1.lst
    have hnew : g.get? h.objs.size = none := Heap.get?_none_of_le hg
    have hlen : (ts.map Value.ref).toArray.size = k := by rw [List.size_toArray, List.length_map, hl]
    have nT : h.objs.size ≠ S := fun e => by
      obtain ⟨c0, q⟩ := G.lst
      exact absurd (e ▸ Heap.lt_size q) (Nat.lt_irrefl _)
    show wpAny _ A.in1 (updateSeq S (·.push (.ref h.objs.size)) >>= _) _ _ _
    refine wpAny_bind (wpAny_updateSeq (s := { s with heap := h1 }) hS rfl (wpAny_pure ⟨plainId_quiet F.plain_extend_loop _, ih (k + 1) _ (ts ++ [h.objs.size]) (by omega) (by omega) (by simp [hl]) ?_ ?_ ?_⟩) (by rw [hlen]; omega) (by show (Array.push _ _).size ≤ sizeLine + 1; rw [Array.size_push, hlen]; omega))
    · show g.objs.size ≤ (h1.update S _).objs.size
      have z1' : h1.objs.size = h.objs.size + 1 := z1
      rw [(Heap.SameBut.update ..).1, z1']; omega
    · exact B1.but (fun c o hc e => (Heap.get?_update_other _ _ (Ne.symm hc)).trans e) ⟨_, Heap.get?_update_self _ hS rfl⟩ nS
    · have eS : ∃ c2, (h1.update S (Obj.mapSeq (·.push (.ref h.objs.size)))).get? S = some { cls := .type "list", data := .seq ((ts ++ [h.objs.size]).map Value.ref).toArray c2 } := by
        have q := Heap.get?_update_self (Obj.mapSeq (·.push (.ref h.objs.size))) hS rfl
        rw [q, List.map_append, List.map_cons, List.map_nil]
        exact ⟨_, by rw [← List.push_toArray]; rfl⟩
      refine ⟨eS, fun i t x y ht hx hy => ?_, fun t ht => ?_, fun c o hc e => ?_⟩
      · by_cases hi : i < ts.length
        · rw [List.getElem?_append_left hi] at ht
          exact (Heap.get?_update_other _ _ (Ne.symm (G.new t (List.mem_of_getElem? ht)).2)).trans (G1.prs i t x y ht hx hy)
        · have hi2 : i = k := by
            have := (List.getElem?_eq_some_iff.mp ht).1
            rw [List.length_append, List.length_singleton] at this; omega
          subst hi2
          rw [List.getElem?_append_right (by omega), hl, Nat.sub_self] at ht
          cases ht
          rw [Array.getElem?_eq_getElem hkx] at hx; cases hx
          rw [Array.getElem?_eq_getElem hky] at hy; cases hy
          exact (Heap.get?_update_other _ _ (Ne.symm nT)).trans p1
      · rcases List.mem_append.mp ht with q | q
        · exact G.new t q
        · obtain rfl : t = h.objs.size := by simpa using q
          exact ⟨hg, nT⟩
      · have : c ≠ S := fun q => hc (by simp [q])
        exact (Heap.get?_update_other _ _ (Ne.symm this)).trans (G1.old c o hc e)
theorem zip_no_len : typeLookup (.type "zip") "__len__" = pure none := by rw [typeLookup_type, builtinLookup_eq_fast]; kernel_rfl
theorem zip_no_hint : typeLookup (.type "zip") "__length_hint__" = pure none := by rw [typeLookup_type, builtinLookup_eq_fast]; kernel_rfl
theorem list_zip (hh : A.handled = none) (D : ZipApart z TI TO i1 i2 l1 l2) (hn : min xs.size ys.size ≤ sizeLine) {Q : Value → Shared → Prop} (q1 : IsZip s.heap z TI TO .none) (q2 : IsPair s.heap TI (.ref i1) (.ref i2)) {a b : Value} (q3 : IsPair s.heap TO a b)
    (q4 : s.heap.IsListIter i1 l1 0) (q5 : s.heap.IsListIter i2 l2 0) (q6 : s.heap.IsList l1 xs) (q7 : s.heap.IsList l2 ys)
    (hQ : ∀ (h' : Heap) (ts : List Addr), Got s.heap s.heap.objs.size z TO i1 i2 xs ys ts h' → ts.length = min xs.size ys.size → Q (.ref s.heap.objs.size) { s with heap := h' }) :
    wpAny (model prog w) A (call (.type "list") [.ref z]) Q E s := by
  have lt1 := Heap.lt_size q1
  have lt2 := Heap.lt_size q2
  have lt3 := Heap.lt_size q3
  have lt4 : i1 < s.heap.objs.size := let ⟨_, e, _⟩ := q4; Heap.lt_size e
  have lt5 : i2 < s.heap.objs.size := let ⟨_, e, _⟩ := q5; Heap.lt_size e
  have lt6 : l1 < s.heap.objs.size := let ⟨_, e, _⟩ := q6; Heap.lt_size e
  have lt7 : l2 < s.heap.objs.size := let ⟨_, e, _⟩ := q7; Heap.lt_size e
  have nS : s.heap.objs.size ∉ [z, TI, TO, i1, i2, l1, l2] := fun hm => by
    simp only [List.mem_cons, List.not_mem_nil, or_false] at hm
    rcases hm with e | e | e | e | e | e | e
    · exact Nat.lt_irrefl _ (e ▸ lt1)
    · exact Nat.lt_irrefl _ (e ▸ lt2)
    · exact Nat.lt_irrefl _ (e ▸ lt3)
    · exact Nat.lt_irrefl _ (e ▸ lt4)
    · exact Nat.lt_irrefl _ (e ▸ lt5)
    · exact Nat.lt_irrefl _ (e ▸ lt6)
    · exact Nat.lt_irrefl _ (e ▸ lt7)
  refine callType_codes (Q₁ := fun obj s1 => obj = .ref s.heap.objs.size ∧ s1 = { s with heap := s.heap.push { cls := .type "list", data := .seq #[] } }) F.called_list (F.typeCall_list_1 _) F.entry_list_init (code_list_new _ ⟨rfl, rfl⟩) fun obj s1 h1 => ?_
  obtain ⟨rfl, rfl⟩ := h1
  generalize hp : s.heap.push { cls := .type "list", data := .seq #[] } = g1
  have k1 : ∀ c o, s.heap.get? c = some o → g1.get? c = some o := fun c o e => hp ▸ Heap.get?_push_of_some _ e
  have hS : g1.get? s.heap.objs.size = some { cls := .type "list", data := .seq #[] } := hp ▸ Heap.get?_push_size _ rfl
  refine ⟨⟨_, hS, rfl⟩, F.args_list_init_2 _ _, ?_⟩
  show wpAny _ A.in1.in1 (do let old ← Builtin.List.listItems (.ref s.heap.objs.size); Builtin.List.listUpdate (.ref s.heap.objs.size) (fun _ => #[]); letGo old.toList.reverse; Builtin.List.listExtendWith (.ref s.heap.objs.size) (.ref z) .none) _ _ _
  refine wpAny_bind ?_
  unfold Builtin.List.listItems
  refine wpAny_bind (wpAny_seqItems (s := { s with heap := g1 }) hS rfl (wpAny_pure ?_))
  refine wpAny_bind (wpAny_updateSeq (s := { s with heap := g1 }) hS rfl ?_)
  generalize hu : g1.update s.heap.objs.size _ = g2
  have k2 : ∀ c o, c ≠ s.heap.objs.size → g1.get? c = some o → g2.get? c = some o := fun c o n e => hu ▸ (Heap.get?_update_other _ _ (Ne.symm n)).trans e
  have hS2 : ∃ c, g2.get? s.heap.objs.size = some { cls := .type "list", data := .seq #[] c } := ⟨_, hu ▸ Heap.get?_update_self (Obj.mapSeq (fun _ => (#[] : Array Value))) hS rfl⟩
  have k3 : ∀ c o, c < s.heap.objs.size → s.heap.get? c = some o → g2.get? c = some o := fun c o n e => k2 c o (Nat.ne_of_lt n) (k1 c o e)
  refine wpAny_bind (wpAny_letGo ?_)
  unfold Builtin.List.listExtendWith
  have z2 : IsZip g2 z TI TO .none := k3 _ _ lt1 q1
  have ht : Shared.TypeIs { s with heap := g2 } (.ref z) "zip" := ⟨_, z2, rfl⟩
  refine wpAny_bind (wpAny_typeOf ht ?_)
  have e1 : Builtin.List.listSameRef (.ref s.heap.objs.size) (.ref z) = false := by
    simp only [Builtin.List.listSameRef, beq_eq_false_iff_ne, ne_eq]
    exact Nat.ne_of_gt lt1
  simp only [e1, show (Value.type "zip" == Value.type "list") = false by decide, show (Value.type "zip" == Value.type "tuple") = false by decide, Bool.or_false, Bool.false_eq_true, if_false]
  refine wpAny_bind (wpAny_pyIter_zip (s := { s with heap := g2 }) z2 ?_)
  refine wpAny_bind (wpAny_holding ?_)
  unfold Builtin.List.listLengthHint
  refine wpAny_bind (wpAny_specialOf ht zip_no_len ?_)
  show wpAny _ A.in1.in1 (specialOf (Value.ref z) (Str.ofString "__length_hint__") >>= _) _ _ _
  refine wpAny_bind (wpAny_specialOf ht zip_no_hint (wpAny_pure ?_))
  show wpAny _ A.in1.in1 (rule "list.extend.makes-room" >>= fun _ => Builtin.List.listTouch (.ref s.heap.objs.size) >>= fun _ => again (.builtin "list.extend.loop" ⟨[.ref s.heap.objs.size, .ref z, .none], []⟩)) _ _ _
  obtain ⟨c2, hS2⟩ := hS2
  refine wpAny_bind (wpAny_rule (wpAny_bind ?_))
  show wpAny _ A.in1.in1 (updateSeq s.heap.objs.size (·.push .none) >>= fun _ => updateSeq s.heap.objs.size (·.pop)) _ _ _
  refine wpAny_bind (wpAny_updateSeq (s := { s with heap := g2 }) hS2 rfl ?_)
  have hS3 := Heap.get?_update_self (Obj.mapSeq (·.push Value.none)) hS2 rfl
  refine wpAny_updateSeq (s := { s with heap := _ }) hS3 rfl ?_ (by show 1 ≤ sizeLine; decide) (by show 0 ≤ sizeLine + 1; exact Nat.zero_le _)
  have hS4 := Heap.get?_update_self (Obj.mapSeq (·.pop)) hS3 rfl
  generalize hu2 : (g2.update s.heap.objs.size (Obj.mapSeq (·.push Value.none))).update s.heap.objs.size (Obj.mapSeq (·.pop)) = g4 at hS4
  have k4 : ∀ c o, c < s.heap.objs.size → s.heap.get? c = some o → g4.get? c = some o := fun c o n e => by
    rw [← hu2, Heap.get?_update_other _ _ (Nat.ne_of_gt n), Heap.get?_update_other _ _ (Nat.ne_of_gt n)]
    exact k3 c o n e
  have z4 : g4.objs.size = s.heap.objs.size + 1 := by
    rw [← hu2, (Heap.SameBut.update ..).1, (Heap.SameBut.update ..).1, ← hu, (Heap.SameBut.update ..).1, ← hp, Heap.size_push]
  refine wpAny_pure ⟨plainId_quiet F.plain_extend_loop _, ?_⟩
  refine zip_loop (A := A.in1) (g := s.heap) (S := s.heap.objs.size) hh D nS (fun c hc => ?_) hn (fun h' ts G hl => ⟨rfl, hQ h' ts G hl⟩) (min xs.size ys.size) 0 g4 [] (by omega) (Nat.zero_le _) rfl (by omega) (.inl ⟨rfl, k4 _ _ lt1 q1, k4 _ _ lt2 q2, ⟨a, b, k4 _ _ lt3 q3⟩, q4.at fun o e => k4 _ _ lt4 e, q5.at fun o e => k4 _ _ lt5 e, q6.at fun o e => k4 _ _ lt6 e, q7.at fun o e => k4 _ _ lt7 e⟩)
    ⟨⟨_, hS4⟩, (fun i t x y ht => by simp at ht), (fun t ht => by simp at ht), fun c o hc e => k4 c o (Heap.lt_size e) e⟩
  simp only [List.mem_cons, List.not_mem_nil, or_false] at hc
  rcases hc with rfl | rfl | rfl | rfl
  · exact ⟨_, q1⟩
  · exact ⟨_, q3⟩
  · exact let ⟨o, e, _⟩ := q4; ⟨o, e⟩
  · exact let ⟨o, e, _⟩ := q5; ⟨o, e⟩
end
end L2
set_option Elab.async false
set_option linter.all false
set_option maxRecDepth 100000
namespace L2
open PySem PySem.Spec PyProof.Rows
abbrev Key := Sum Int Str
def keyIs : Key → Value → Bool
  | .inl k, v => Value.isInt k v
  | .inr x, v => Value.isStrOf x v
def keyH (w : World) : Key → Int
  | .inl k => hashInt k
  | .inr x => hashStr w x
theorem keyIs_shape : ∀ {k : Key} {v : Value}, keyIs k v = true → (∃ i t, k = Sum.inl i ∧ v = Value.int i t) ∨ (∃ x t, k = Sum.inr x ∧ v = Value.str x t)
  | .inl i, v, h => by
    obtain ⟨t, e⟩ := Value.isInt_shape (k := i) (v := v) h
    exact .inl ⟨i, t, rfl, e⟩
  | .inr x, v, h => by
    obtain ⟨t, e⟩ := Value.isStrOf_shape (x := x) (v := v) h
    exact .inr ⟨x, t, rfl, e⟩
theorem keyIs_int (i : Int) (t : Tok) : keyIs (.inl i) (.int i t) = true := by simp [keyIs, Value.isInt]
theorem keyIs_str (x : Str) (t : Tok) : keyIs (.inr x) (.str x t) = true := by simp [keyIs, Value.isStrOf]
theorem key_ll (a b : Int) : decide ((Sum.inl a : Key) = Sum.inl b) = (a == b) := by
  by_cases e : a = b
  · subst e; simp
  · have h : ¬ (Sum.inl a : Key) = Sum.inl b := fun q => e (Sum.inl.inj q)
    rw [decide_eq_false h]
    exact (beq_eq_false_iff_ne.mpr e).symm
theorem key_rr (a b : Str) : decide ((Sum.inr a : Key) = Sum.inr b) = decide (a = b) := by
  by_cases e : a = b
  · subst e; simp
  · have h : ¬ (Sum.inr a : Key) = Sum.inr b := fun q => e (Sum.inr.inj q)
    rw [decide_eq_false h, decide_eq_false e]
theorem key_lr (a : Int) (b : Str) : decide ((Sum.inl a : Key) = Sum.inr b) = false := decide_eq_false (fun q => nomatch q)
theorem key_rl (a : Str) (b : Int) : decide ((Sum.inr a : Key) = Sum.inl b) = false := decide_eq_false (fun q => nomatch q)
def mixKind (prog : Program) (w : World) : PySem.KeyKind prog w Key where
  is := keyIs
  hash := keyH w
  inj := fun v a b ha hb => by
    rcases keyIs_shape ha with ⟨i, t, rfl, rfl⟩ | ⟨x, t, rfl, rfl⟩
    · rcases keyIs_shape hb with ⟨j, u, rfl, e⟩ | ⟨y, u, rfl, e⟩
      · injection e with e1 _; rw [e1]
      · exact nomatch e
    · rcases keyIs_shape hb with ⟨j, u, rfl, e⟩ | ⟨y, u, rfl, e⟩
      · exact nomatch e
      · injection e with e1 _; rw [e1]
  byValue := fun k v h => by
    rcases keyIs_shape h with ⟨i, t, rfl, rfl⟩ | ⟨x, t, rfl, rfl⟩ <;> rfl
  pyHash := fun hv h => by
    rcases keyIs_shape hv with ⟨i, t, rfl, rfl⟩ | ⟨x, t, rfl, rfl⟩
    · exact wpAny_pyHash_int h
    · exact wpAny_pyHash_str h
  eqBool := fun hu hv h => by
    rcases keyIs_shape hu with ⟨i, t, rfl, rfl⟩ | ⟨x, t, rfl, rfl⟩
    · rcases keyIs_shape hv with ⟨j, u, rfl, rfl⟩ | ⟨y, u, rfl, rfl⟩
      · rw [key_ll] at h; exact wpAny_eqBool_int h
      · rw [key_lr] at h; exact SeqAt.EqAt.int_str i t y u _ _ _ _ h
    · rcases keyIs_shape hv with ⟨j, u, rfl, rfl⟩ | ⟨y, u, rfl, rfl⟩
      · rw [key_rl] at h; exact SeqAt.EqAt.str_int x t j u _ _ _ _ h
      · rw [key_rr] at h; exact wpAny_eqBool_str h
  «strs» := fun k x t v h => by
    rcases keyIs_shape h with ⟨i, u, rfl, e⟩ | ⟨y, u, rfl, e⟩
    · exact nomatch e
    · injection e with e1 _
      subst e1
      cases v <;> rfl
theorem mixKind_is (prog : Program) (w : World) (k : Key) (v : Value) : (mixKind prog w).is k v = keyIs k v := rfl
theorem mixKind_int (prog : Program) (w : World) (i : Int) (t : Tok) : (mixKind prog w).is (.inl i) (.int i t) = true := keyIs_int i t
theorem mixKind_str (prog : Program) (w : World) (x : Str) (t : Tok) : (mixKind prog w).is (.inr x) (.str x t) = true := keyIs_str x t
end L2
namespace L2
open PySem PySem.Spec PyProof.Rows
inductive V where
  | non | bl (b : Bool) | int (i : Int) | str (x : Str) | byt (b : Array UInt8) | flt (b : UInt64) | ref (a : Addr) | ty (n : String)
  deriving DecidableEq
def RelV : V → Value → Prop
  | .non, u => u = Value.none
  | .bl b, u => u = Value.bool b
  | .int i, u => ∃ t, u = Value.int i t
  | .str x, u => ∃ t, u = Value.str x t
  | .byt b, u => ∃ t, u = Value.bytes b t
  | .flt b, u => ∃ t, u = Value.float b t
  | .ref a, u => u = Value.ref a
  | .ty n, u => u = Value.type n
abbrev Vals : List V → List Value → Prop := Paired RelV
theorem Vals.length {xs : List V} {us : List Value} (r : Vals xs us) : xs.length = us.length := Paired.length r
theorem Vals.get : ∀ {xs : List V} {us : List Value} {i : Nat} {x : V}, Vals xs us → xs[i]? = some x → ∃ u, us[i]? = some u ∧ RelV x u
  | _, _, _, _, .nil, e => by simp at e
  | _, _, 0, _, .cons r _, e => by simp at e; subst e; exact ⟨_, rfl, r⟩
  | _, _, i + 1, x, .cons _ t, e => by
    obtain ⟨u, h1, h2⟩ := Vals.get (i := i) (x := x) t (by simpa using e)
    exact ⟨u, by simpa using h1, h2⟩
theorem Vals.set {x : V} {u : Value} (r : RelV x u) : ∀ {xs : List V} {us : List Value} (i : Nat), Vals xs us → Vals (xs.set i x) (us.set i u)
  | _, _, _, .nil => .nil
  | _, _, 0, .cons _ t => .cons r t
  | _, _, i + 1, .cons q t => .cons q (Vals.set r i t)
theorem Vals.append : ∀ {xs ys : List V} {us ws : List Value}, Vals xs us → Vals ys ws → Vals (xs ++ ys) (us ++ ws)
  | _, _, _, _, .nil, s => s
  | _, _, _, _, .cons r t, s => .cons r (Vals.append t s)
theorem Vals.take : ∀ {xs : List V} {us : List Value} (n : Nat), Vals xs us → Vals (xs.take n) (us.take n)
  | _, _, 0, _ => .nil
  | _, _, _ + 1, .nil => .nil
  | _, _, n + 1, .cons r t => .cons r (Vals.take n t)
theorem Vals.drop : ∀ {xs : List V} {us : List Value} (n : Nat), Vals xs us → Vals (xs.drop n) (us.drop n)
  | _, _, 0, r => r
  | _, _, _ + 1, .nil => .nil
  | _, _, n + 1, .cons _ t => Vals.drop n t
theorem Vals.none_of : ∀ {xs : List V} {us : List Value} {i : Nat}, Vals xs us → xs[i]? = none → us[i]? = none := fun {xs us i} r e => by
  have h1 := r.length
  have h2 : xs.length ≤ i := List.getElem?_eq_none_iff.mp e
  exact List.getElem?_eq_none_iff.mpr (by omega)
def RelO : Option V → Option Value → Prop
  | some v, some u => RelV v u
  | none, none => True
  | _, _ => False
def KV {κ : Type} : List (κ × V) → List (κ × Value) → Prop := Paired fun (p : κ × V) (q : κ × Value) => p.1 = q.1 ∧ RelV p.2 q.2
def kV : Key → V
  | .inl i => .int i
  | .inr x => .str x
inductive HO where
  | lst (xs : List V)
  | tup (xs : List V)
  | dK (kvs : List (Key × V)) | dT (kvs : List (List Key × V))
  | set (S : Int → Bool) (n : Nat)
  | ins (C dx : Addr) (fs : List (Str × V))
  | own (x : Addr)
  | xd (fs : List (Str × V))
  | met (f x : Addr)
  | rng (lo hi : Int)
  | frz (o : Obj) (u : HO)
  | tbl (ps : Array Value)
  | ext (φ : Heap → Prop)
abbrev Hp := Addr → Option HO
def upd (H : Hp) (a : Addr) (o : HO) : Hp := fun b => if b = a then some o else H b
theorem upd_same {H : Hp} {a : Addr} {o : HO} : upd H a o a = some o := by unfold upd; rw [if_pos rfl]
theorem upd_ne {H : Hp} {a b : Addr} {o : HO} (h : b ≠ a) : upd H a o b = H b := by unfold upd; rw [if_neg h]
theorem upd_upd {H : Hp} {a : Addr} {o u : HO} : upd (upd H a o) a u = upd H a u := by
  funext b; unfold upd; split <;> rfl
theorem ne_of {H : Hp} {a b : Addr} {o u : HO} (h : H a = some o) (h' : H b = some u) (d : o ≠ u) : a ≠ b := by
  intro e; subst e; rw [h] at h'; exact d (Option.some.inj h')
theorem ne_of_none {H : Hp} {a b : Addr} {o : HO} (h : H a = some o) (h' : H b = none) : a ≠ b := by
  intro e; subst e; rw [h] at h'; cases h'
section
variable (P : Program) (w : World)
def ObjOk (H : Hp) (h : Heap) (a : Addr) : HO → Prop
  | .lst xs => xs.length ≤ sizeLine ∧ ∃ (its : List Value) (n : Nat), Vals xs its ∧ h.get? a = some { cls := .type "list", data := .seq its.toArray n }
  | .tup xs => xs.length ≤ sizeLine ∧ ∃ its : List Value, Vals xs its ∧ IsTup h a its.toArray
  | .dK kvs => kvs.length ≤ sizeLine ∧ (a == sysModules) = false ∧ ∃ vs, KV kvs vs ∧ h.DictOf (mixKind P w) a vs
  | .dT kvs => kvs.length ≤ sizeLine ∧ (a == sysModules) = false ∧ ∃ xs : List (List Key × Addr × Value),
      Paired (fun (p : List Key × V) (q : List Key × Addr × Value) => p.1 = q.1 ∧ H q.2.1 = some (.tup (p.1.map kV)) ∧ RelV p.2 q.2.2) kvs xs ∧
      ∃ o es ep, h.get? a = some o ∧ o.ExactDict ∧ o.data = .dict es ep ∧ es.toList = xs.map (entryOfKey (tupleKind (mixKind P w))) ∧ (xs.map (·.1)).Nodup
  | .set S n => h.SetOf (intKind P w) a S n
  | .ins C dx fs => H dx = some (.own a) ∧ fs.length ≤ 1000 ∧ dx ≠ a ∧ h.get? a = some (PySem.W.instObj C dx) ∧
      ∃ mA, h.Ns1 dx mA ∧ (∀ f, RelO (fs.lookup f) (mA f)) ∧ PySem.Within mA (fs.map (·.1))
  | .own _ => ∃ o, h.get? a = some o
  | .xd fs => ∃ mA, h.Ns1 a mA ∧ ∀ f, RelO (fs.lookup f) (mA f)
  | .rng lo hi => ∃ t u v, h.get? a = some { cls := .type "range", data := .fields #[.int lo t, .int hi u, .int 1 v] }
  | .frz o u => h.get? a = some o ∧ ObjOk H h a u
  | .tbl ps => h.get? a = some { cls := .none, data := .fields ps }
  | .met f x => h.get? a = some (PySem.W.methodObj (.ref f) (.ref x))
  | .ext φ => φ h ∧ (∃ o, h.get? a = some o) ∧ ∀ h1 h2 : Heap, φ h1 → (∀ o, h1.get? a = some o → h2.get? a = some o) → φ h2
def HOk (H : Hp) (h : Heap) : Prop := ∀ a o, H a = some o → ObjOk P w H h a o
end
section
variable {P : Program} {w : World} {H H' : Hp} {h h' : Heap} {a : Addr} {o : HO}
theorem ObjOk.lt (x : ObjOk P w H h a o) : a < h.objs.size := by
  cases o with
  | lst xs => obtain ⟨_, _, _, _, e⟩ := x; exact Heap.lt_size e
  | tup xs => obtain ⟨_, _, _, p⟩ := x; exact p.lt
  | dK kvs => obtain ⟨_, _, _, _, o, _, _, e, _⟩ := x; exact Heap.lt_size e
  | dT kvs => obtain ⟨_, _, _, _, o, _, _, e, _⟩ := x; exact Heap.lt_size e
  | set S n => obtain ⟨o, _, _, _, e, _⟩ := x; exact Heap.lt_size e
  | ins C dx fs => obtain ⟨_, _, _, e, _⟩ := x; exact Heap.lt_size e
  | own y => obtain ⟨_, e⟩ := x; exact Heap.lt_size e
  | xd fs => obtain ⟨_, ⟨_, _, _, e, _⟩, _⟩ := x; exact Heap.lt_size e
  | rng lo hi => obtain ⟨_, _, _, e⟩ := x; exact Heap.lt_size e
  | frz ob u => obtain ⟨e, _⟩ := x; exact Heap.lt_size e
  | tbl ps => exact Heap.lt_size (show h.get? a = some _ from x)
  | met f y => exact Heap.lt_size (show h.get? a = some _ from x)
  | ext φ => obtain ⟨_, ⟨_, e⟩, _⟩ := x; exact Heap.lt_size e
theorem Paired.mapP {α β : Type} {F G : α → β → Prop} : ∀ {l₁ : List α} {l₂ : List β}, Paired F l₁ l₂ → (∀ a b, F a b → G a b) → Paired G l₁ l₂
  | _, _, .nil, _ => .nil
  | _, _, .cons r t, f => .cons (f _ _ r) (Paired.mapP t f)
theorem Paired.imp' {α β : Type} {F G : α → β → Prop} (f : ∀ a b, F a b → G a b) {l₁ : List α} {l₂ : List β} (r : Paired F l₁ l₂) : Paired G l₁ l₂ := Paired.mapP r f
theorem ObjOk.stay (x : ObjOk P w H h a o) (k : ∀ b u, (b = a ∨ H b = some (.own a)) → h.get? b = some u → h'.get? b = some u)
    (ho : ∀ b, H b = some (.own a) → H' b = some (.own a)) (ht : ∀ b xs, H b = some (.tup xs) → H' b = some (.tup xs)) : ObjOk P w H' h' a o := by
  induction o with
  | lst xs => obtain ⟨z, its, n, r, e⟩ := x; exact ⟨z, its, n, r, k _ _ (.inl rfl) e⟩
  | tup xs => obtain ⟨z, its, r, ob, e, c⟩ := x; exact ⟨z, its, r, ob, k _ _ (.inl rfl) e, c⟩
  | dK kvs => obtain ⟨z, y, vs, r, ob, es, ep, e, c⟩ := x; exact ⟨z, y, vs, r, ob, es, ep, k _ _ (.inl rfl) e, c⟩
  | dT kvs =>
    obtain ⟨z, y, xs, r, ob, es, ep, e, c⟩ := x
    exact ⟨z, y, xs, Paired.mapP r fun p q z => ⟨z.1, ht _ _ z.2.1, z.2.2⟩, ob, es, ep, k _ _ (.inl rfl) e, c⟩
  | set S n => obtain ⟨ob, es, ep, t, e, c⟩ := x; exact ⟨ob, es, ep, t, k _ _ (.inl rfl) e, c⟩
  | ins C dx fs =>
    obtain ⟨d, z, ne, e, mA, ⟨od, es, ep, e2, c⟩, r⟩ := x
    exact ⟨ho _ d, z, ne, k _ _ (.inl rfl) e, mA, ⟨od, es, ep, k _ _ (.inr d) e2, c⟩, r⟩
  | own y => obtain ⟨ob, e⟩ := x; exact ⟨ob, k _ _ (.inl rfl) e⟩
  | xd fs => obtain ⟨mA, ⟨od, es, ep, e, c⟩, r⟩ := x; exact ⟨mA, ⟨od, es, ep, k _ _ (.inl rfl) e, c⟩, r⟩
  | rng lo hi => obtain ⟨t, u, v, e⟩ := x; exact ⟨t, u, v, k _ _ (.inl rfl) e⟩
  | frz ob u ih => obtain ⟨e, q⟩ := x; exact ⟨k _ _ (.inl rfl) e, ih q⟩
  | tbl ps =>
    have e : h.get? a = some { cls := .none, data := .fields ps } := x
    show h'.get? a = some { cls := .none, data := .fields ps }
    exact k a _ (.inl rfl) e
  | met f y =>
    have e : h.get? a = some (PySem.W.methodObj (.ref f) (.ref y)) := x
    show h'.get? a = some (PySem.W.methodObj (.ref f) (.ref y))
    exact k a _ (.inl rfl) e
  | ext φ => obtain ⟨p, ⟨o, e⟩, st⟩ := x; exact ⟨st _ _ p fun o q => k _ _ (.inl rfl) q, ⟨o, k _ _ (.inl rfl) e⟩, st⟩
theorem HOk.lt (x : HOk P w H h) (e : H a = some o) : a < h.objs.size := (x a o e).lt
theorem HOk.fresh (x : HOk P w H h) (e : h.objs.size ≤ a) : H a = none := by
  cases q : H a with
  | none => rfl
  | some u => exact absurd (Nat.lt_of_lt_of_le (x.lt q) e) (Nat.lt_irrefl _)
theorem HOk.kept (x : HOk P w H h) (k : ∀ b u, h.get? b = some u → h'.get? b = some u) : HOk P w H h' := fun a o e =>
  (x a o e).stay (fun b u _ q => k b u q) (fun _ q => q) fun _ _ q => q
theorem HOk.laid (x : HOk P w H h) (k : ∀ b u, h.get? b = some u → h'.get? b = some u) (hp : h.objs.size ≤ a) (new : ObjOk P w (upd H a o) h' a o) : HOk P w (upd H a o) h' := fun b u e => by
  have hn := x.fresh hp
  by_cases hb : b = a
  · subst hb; rw [upd_same] at e; cases e; exact new
  · rw [upd_ne hb] at e
    exact (x b u e).stay (fun c v _ q => k c v q) (fun c q => by rw [upd_ne (ne_of_none q hn)]; exact q) fun c xs q => by rw [upd_ne (ne_of_none q hn)]; exact q
end
def Rd (H : Hp) (a : Addr) (u : HO) : Prop := H a = some u ∨ ∃ o, H a = some (.frz o u)
theorem Rd.of {H : Hp} {a : Addr} {u : HO} (h : H a = some u) : Rd H a u := .inl h
theorem Rd.ok {P : Program} {w : World} {H : Hp} {h : Heap} {a : Addr} {u : HO} (r : Rd H a u) (x : HOk P w H h) : ObjOk P w H h a u := by
  rcases r with r | ⟨o, r⟩
  · exact x a u r
  · obtain ⟨_, q⟩ := x a _ r
    exact q
def Mut : Option HO → Prop
  | some (.lst _) => True
  | some (.dK _) => True
  | some (.dT _) => True
  | some (.set _ _) => True
  | some (.ins _ _ _) => True
  | some (.ext _) => True
  | _ => False
section
variable {P : Program} {w : World} {H : Hp} {h h' : Heap} {x e : Addr} {o' : HO}
theorem HOk.write (ok : HOk P w H h) (mu : Mut (H x)) (he : e = x ∨ H e = some (.own x)) (k : ∀ b u, b ≠ e → h.get? b = some u → h'.get? b = some u) (heo : ∃ u, h'.get? e = some u)
    (new : ObjOk P w (upd H x o') h' x o') : HOk P w (upd H x o') h' := fun b u q => by
  have nown : ∀ c y, H c = some (.own y) → c ≠ x := fun c y r z => by subst z; rw [r] at mu; exact mu
  have ntup : ∀ c xs, H c = some (.tup xs) → c ≠ x := fun c xs r z => by subst z; rw [r] at mu; exact mu
  by_cases hb : b = x
  · subst hb; rw [upd_same] at q; cases q; exact new
  · rw [upd_ne hb] at q
    by_cases hbe : b = e
    · have q' : H b = some (.own x) := by
        rcases he with z | z
        · exact absurd (hbe.trans z) hb
        · rw [hbe]; exact z
      rw [q] at q'; cases q'
      obtain ⟨v, hv⟩ := heo
      exact ⟨v, by rw [hbe]; exact hv⟩
    · refine (ok b u q).stay (fun c v hc r => k c v ?_ r) (fun c r => by rw [upd_ne (nown c b r)]; exact r) fun c xs r => by rw [upd_ne (ntup c xs r)]; exact r
      rcases hc with rfl | hc
      · exact hbe
      · rintro rfl
        rcases he with z | z
        · exact nown c b hc z
        · rw [hc] at z; cases z; exact hb rfl
end
structure Un (fs ex : List Addr) (H H' : Hp) (h h' : Heap) : Prop where
  keep : ∀ b o, h.get? b = some o → H b = none → b ∉ fs → b ∉ ex → h'.get? b = some o
  slot : ∀ b o, h.get? b = some o → H b = none → b ∈ fs → b ∉ ex → ∃ sl, h'.get? b = some { o with slots := sl }
  free : ∀ b o, h.get? b = some o → H b = none → b ∉ ex → H' b = none
  there : ∀ b o, h.get? b = some o → b ∉ ex → ∃ o', h'.get? b = some o'
  tups : ∀ b xs, H b = some (.tup xs) → H' b = some (.tup xs)
  frzs : ∀ b o u, H b = some (.frz o u) → H' b = some (.frz o u)
  tbls : ∀ b ps, H b = some (.tbl ps) → ∃ more, H' b = some (.tbl (ps ++ more))
section
variable {fs fs' ex ex' : List Addr} {H H1 H2 : Hp} {h h1 h2 h' : Heap} {a x e : Addr} {o : HO}
theorem Un.any (u : Un fs ex H H1 h h1) {b : Addr} {ob : Obj} (q : h.get? b = some ob) (n : H b = none) (hx : b ∉ ex) : ∃ sl, h1.get? b = some { ob with slots := sl } := by
  by_cases hb : b ∈ fs
  · exact u.slot b ob q n hb hx
  · exact ⟨ob.slots, u.keep b ob q n hb hx⟩
theorem Un.trans (a : Un fs ex H H1 h h1) (b : Un fs ex H1 H2 h1 h2) : Un fs ex H H2 h h2 where
  keep := fun c ob q n hc hx => b.keep c ob (a.keep c ob q n hc hx) (a.free c ob q n hx) hc hx
  slot := fun c ob q n hc hx => by
    obtain ⟨sl, e1⟩ := a.slot c ob q n hc hx
    obtain ⟨sl', e2⟩ := b.slot c _ e1 (a.free c ob q n hx) hc hx
    exact ⟨sl', e2⟩
  free := fun c ob q n hx => by
    obtain ⟨o', e1⟩ := a.there c ob q hx
    exact b.free c o' e1 (a.free c ob q n hx) hx
  there := fun c ob q hx => by
    obtain ⟨o', e1⟩ := a.there c ob q hx
    exact b.there c o' e1 hx
  tups := fun c xs q => b.tups c xs (a.tups c xs q)
  frzs := fun c ob xs q => b.frzs c ob xs (a.frzs c ob xs q)
  tbls := fun c ps q => by
    obtain ⟨m1, e1⟩ := a.tbls c ps q
    obtain ⟨m2, e2⟩ := b.tbls c _ e1
    exact ⟨m1 ++ m2, by rw [e2, Array.append_assoc]⟩
theorem Un.kept (k : ∀ b u, h.get? b = some u → h'.get? b = some u) : Un fs ex H H h h' :=
  ⟨fun b ob q _ _ _ => k b ob q, fun b ob q _ _ _ => ⟨ob.slots, k b ob q⟩, fun _ _ _ n _ => n, fun b ob q _ => ⟨ob, k b ob q⟩, fun _ _ q => q, fun _ _ _ q => q, fun _ ps q => ⟨#[], by rw [q]; simp⟩⟩
theorem Un.refl : Un fs ex H H h h := Un.kept fun _ _ q => q
theorem Un.laid (k : ∀ b u, h.get? b = some u → h'.get? b = some u) (hp : h.objs.size ≤ a) (hn : H a = none) : Un fs ex H (upd H a o) h h' where
  keep := fun b u q _ _ _ => k b u q
  slot := fun b u q _ _ _ => ⟨u.slots, k b u q⟩
  free := fun b u q n _ => by rw [upd_ne (Nat.ne_of_lt (Nat.lt_of_lt_of_le (Heap.lt_size q) hp))]; exact n
  there := fun b u q _ => ⟨u, k b u q⟩
  tups := fun b xs q => by rw [upd_ne (ne_of_none q hn)]; exact q
  frzs := fun b u xs q => by rw [upd_ne (ne_of_none q hn)]; exact q
  tbls := fun b ps q => ⟨#[], by rw [upd_ne (ne_of_none q hn), q]; simp⟩
theorem Un.write (mu : Mut (H x)) (he : e = x ∨ H e = some (.own x)) (k : ∀ b u, b ≠ e → h.get? b = some u → h'.get? b = some u) (heo : ∃ u, h'.get? e = some u) : Un fs ex H (upd H x o) h h' := by
  have hx : ∀ b, H b = none → b ≠ x := fun b n z => by subst z; rw [n] at mu; exact mu
  have hb : ∀ b, H b = none → b ≠ e := fun b n z => by
    subst z
    rcases he with r | r
    · exact hx b n r
    · rw [n] at r; cases r
  have hm : ∀ b u, H b = some u → ¬ Mut (some u) → b ≠ x := fun b u q nm z => by subst z; rw [q] at mu; exact nm mu
  refine ⟨fun b u q n _ _ => k b u (hb b n) q, fun b u q n _ _ => ⟨u.slots, k b u (hb b n) q⟩, fun b u q n _ => by rw [upd_ne (hx b n)]; exact n, fun b u q _ => ?_,
    fun b xs q => by rw [upd_ne (hm b _ q fun z => z)]; exact q, fun b u xs q => by rw [upd_ne (hm b _ q fun z => z)]; exact q, fun b ps q => ⟨#[], by rw [upd_ne (hm b _ q fun z => z), q]; simp⟩⟩
  by_cases hbe : b = e
  · subst hbe; exact heo
  · exact ⟨u, k b u hbe q⟩
theorem Un.mono (u : Un fs ex H H1 h h1) (hs : ∀ b ∈ fs, b ∈ fs') (hx : ∀ b ∈ ex, b ∈ ex') : Un fs' ex' H H1 h h1 :=
  ⟨fun b ob q n hb he => u.keep b ob q n (fun z => hb (hs b z)) fun z => he (hx b z), fun _ _ q n _ he => u.any q n fun z => he (hx _ z), fun b ob q n he => u.free b ob q n fun z => he (hx b z), fun b ob q he => u.there b ob q fun z => he (hx b z), u.tups, u.frzs, u.tbls⟩
end
def trk (h : Heap) (H : Hp) : List Addr := (List.range h.objs.size).filter fun a => (H a).isSome
def hidT (h : Heap) (H : Hp) : Heap := PySem.W.hideAll h (trk h H)
theorem hidT_size (h : Heap) (H : Hp) : (hidT h H).objs.size = h.objs.size := PySem.W.hideAll_size _ _
theorem hidT_get {h : Heap} {H : Hp} {b : Addr} {o : Obj} (e : h.get? b = some o) (n : H b = none) : (hidT h H).get? b = some o :=
  PySem.W.hideAll_get _ e fun hm => by
    have q : (H b).isSome = true := (List.mem_filter.mp hm).2
    rw [n] at q; simp at q
theorem of_hidT {h : Heap} {H : Hp} {b : Addr} {o : Obj} (e : (hidT h H).get? b = some o) : h.get? b = some o ∧ H b = none := by
  have e' : h.get? b = some o := PySem.W.of_hideAll (trk h H) e
  refine ⟨e', ?_⟩
  cases q : H b with
  | none => rfl
  | some x =>
    have hm : b ∈ trk h H := List.mem_filter.mpr ⟨List.mem_range.mpr (Heap.lt_size e'), by simp [q]⟩
    have z : (hidT h H).get? b = none := PySem.W.hideAll_none (trk h H) hm
    rw [z] at e; cases e
def allNews (g h : Heap) (L : Addr) : List (Addr × Obj) := (List.range h.objs.size).filterMap fun a => if a = L ∨ (g.get? a).isSome = true then none else (h.get? a).map fun o => (a, o)
theorem mem_allNews {g h : Heap} {L a : Addr} {o : Obj} (h1 : a ≠ L) (h2 : g.get? a = none) (h3 : h.get? a = some o) : (a, o) ∈ allNews g h L :=
  List.mem_filterMap.mpr ⟨a, List.mem_range.mpr (Heap.lt_size h3), by simp [h1, h2, h3]⟩
theorem of_mem_allNews {g h : Heap} {L : Addr} {p : Addr × Obj} (hp : p ∈ allNews g h L) : p.1 ≠ L ∧ g.get? p.1 = none ∧ h.get? p.1 = some p.2 := by
  obtain ⟨b, _, e⟩ := List.mem_filterMap.mp hp
  split at e
  · cases e
  · rename_i hn
    cases q : h.get? b with
    | none => rw [q] at e; simp at e
    | some u =>
      rw [q] at e
      simp only [Option.map_some, Option.some.injEq] at e
      subst e
      refine ⟨fun z => hn (.inl z), ?_, q⟩
      show g.get? b = none
      cases r : g.get? b with
      | none => rfl
      | some v => exact (hn (.inr (by simp [r]))).elim
def rest (g h : Heap) (L d : Addr) : List (Addr × Obj) := (allNews g h L).filter fun p => decide (p.1 ≠ d)
theorem rest_ne {g h : Heap} {L d : Addr} : ∀ p ∈ rest g h L d, p.1 ≠ d := fun p hp => of_decide_eq_true (List.mem_filter.mp hp).2
theorem mem_rest {g h : Heap} {L d a : Addr} {o : Obj} (h1 : a ≠ L) (h2 : g.get? a = none) (h3 : h.get? a = some o) (h4 : a ≠ d) : (a, o) ∈ rest g h L d :=
  List.mem_filter.mpr ⟨mem_allNews h1 h2 h3, decide_eq_true h4⟩
theorem news_all {g h : Heap} {L : Addr} : News g L h (allNews g h L) := fun p hp => let ⟨a, b, c⟩ := of_mem_allNews hp; ⟨c, a, b⟩
theorem news_at {g h : Heap} {L d : Addr} {o : Obj} (h1 : d ≠ L) (h2 : g.get? d = none) (h3 : h.get? d = some o) : News g L h ((d, o) :: rest g h L d) := fun p hp => by
  rcases List.mem_cons.mp hp with rfl | hp
  · exact ⟨h3, h1, h2⟩
  · exact news_all p (List.mem_filter.mp hp).1
theorem kept_of_news {g h h' : Heap} {L d : Addr} {m : Str → Option Value} (k : ∀ b o, g.get? b = some o → h.get? b = some o) (F : Fr g L h' m) (N : News g L h' (rest g h L d)) :
    ∀ b o, b ≠ L → b ≠ d → h.get? b = some o → h'.get? b = some o := fun b o h1 h2 e => by
  cases q : g.get? b with
  | some u =>
    have := k b u q
    rw [e] at this; cases this
    exact F.keep b _ q
  | none => exact (N (b, o) (mem_rest h1 q e h2)).1
end L2
namespace L2
open PySem PySem.Spec PyProof.Rows
structure Mod (K : PySem.W.Frag) (mg : Str → Option Value) (base : Heap) : Prop where
  kin : K.In base
  glob : base.Ns mainGlobals mg
  blt : ∃ mb, base.Ns builtinsNs mb ∧ ∀ x : Str, x ≠ "__name__" → mb x = bootBuiltins x
  nolimit : base.NoLimit
structure Cx where
  prog : Program
  w : World
  K : PySem.W.Frag
  mg : Str → Option Value
  base : Heap
  A : Around
  N : List Str
  s₀ : Shared
  H₀ : Hp
  env : Env
  outer : List Env
  stack : List Env
  ex : List Addr
  fn : Str → Bool
  calm : Bool
  pn : List (Addr × Obj)
  xe : Value → Shared → Prop
def frs (l : List Env) : List Addr := l.filterMap (·.frame)
abbrev Cx.fs (X : Cx) : List Addr := frs X.outer
def Vis (sc : Scope) (x : Str) : Prop := sc.names.lookup x = some .local ∨ sc.names.lookup x = some .cell ∨ sc.names.lookup x = some .free
def Loc (sc : Scope) (x : Str) : Prop := sc.names.lookup x = some .local ∨ sc.names.lookup x = some .cell
def Look (env : Env) (h : Heap) (m : Str → Option Value) (x : Str) (u : Value) : Prop :=
  (env.kindOf x = some .local ∧ m x = some u) ∨ ((env.kindOf x = some .cell ∨ env.kindOf x = some .free) ∧ ∃ c, env.cells.lookup x = some c ∧ h.IsCell c (some u))
structure Cx.Ok (X : Cx) : Prop where
  mod : Mod X.K X.mg X.base
  kind : X.env.scope.kind = .function
  glob : X.env.globals = mainGlobals
  blt : X.env.builtins = builtinsNs
  above : X.s₀.heap.objs.size ≤ X.env.locals
  inj : ∀ x y c, X.env.cells.lookup x = some c → X.env.cells.lookup y = some c → x = y
  has : ∀ x, (X.env.kindOf x = some .cell ∨ X.env.kindOf x = some .free) → ∃ c, X.env.cells.lookup x = some c
  cab : ∀ x c, X.fn x = true → X.env.cells.lookup x = some c → X.s₀.heap.objs.size ≤ c
  hd : X.calm = true → X.A.handled = none
  frames : X.A.frames = some X.stack
  stk : X.stack = X.outer ∨ (X.stack = X.env :: X.outer ∧ X.env.frame = some X.env.locals)
  exf : ∀ b ∈ X.ex, b ≠ X.env.locals ∧ ∀ x c, X.env.cells.lookup x = some c → c ≠ b
  bs : ∀ b o, X.base.get? b = some o → X.s₀.heap.get? b = some o ∧ X.H₀ b = none
  bsz : X.base.objs.size ≤ X.s₀.heap.objs.size
  noex : ∀ b o, X.base.get? b = some o → b ∉ X.ex
  exfs : ∀ b ∈ X.ex, b ∉ X.fs
  funs : X.s₀.heap.FunFrames X.base X.outer
  frf : ∀ b ∈ X.fs, X.H₀ b = none
inductive CxO (H : Hp) : Value → Prop
  | nil : CxO H .none
  | cons {b : Addr} {ob : Obj} {us : Array Value} {u : HO} {c : Value} : H b = some (.frz ob u) → ob.data = .fields us → us[2]? = some c → CxO H c → CxO H (.ref b)
theorem CxO.mono {H H' : Hp} {c : Value} (h : CxO H c) (k : ∀ b o u, H b = some (.frz o u) → H' b = some (.frz o u)) : CxO H' c := by
  induction h with
  | nil => exact .nil
  | cons q1 q2 q3 _ ih => exact .cons (k _ _ _ q1) q2 q3 ih
theorem CxO.upd {H : Hp} {c : Value} {a : Addr} {o : HO} (h : CxO H c) (n : H a = none) : CxO (upd H a o) c := h.mono fun b _ _ e => by rw [upd_ne (ne_of_none e n)]; exact e
theorem CxO.chn {P : Program} {w : World} {H : Hp} {h : Heap} {c : Value} (n : CxO H c) (ok : HOk P w H h) : ∃ D, Chn h D c ∧ ∀ b ∈ D, ∃ o u, H b = some (.frz o u) := by
  induction n with
  | nil => exact ⟨[], .nil, fun b hb => absurd hb (by simp)⟩
  | @cons b ob us u c q1 q2 q3 _ ih =>
    obtain ⟨D, m, l⟩ := ih
    refine ⟨b :: D, .cons (by simp) (ok b _ q1).1 q2 q3 (m.kept (fun _ _ _ e => e) fun d hd => List.mem_cons_of_mem _ hd), fun d hd => ?_⟩
    rcases List.mem_cons.mp hd with rfl | hd
    · exact ⟨_, _, q1⟩
    · exact l d hd
def HdF (A : Around) (H : Hp) : Prop := A.handled = none ∨ ∃ ea : Addr, A.handled = some (.ref ea) ∧ CxO H (.ref ea)
theorem HdF.mono {A : Around} {H H' : Hp} (h : HdF A H) (k : ∀ b o u, H b = some (.frz o u) → H' b = some (.frz o u)) : HdF A H' := by
  rcases h with z | ⟨ea, h1, h2⟩
  · exact .inl z
  · exact .inr ⟨ea, h1, h2.mono k⟩
theorem HdF.now {P : Program} {w : World} {A : Around} {H : Hp} {h : Heap} (n : HdF A H) (ok : HOk P w H h) : HdN A h := by
  rcases n with z | ⟨ea, h1, h2⟩
  · exact ⟨[], .inl z⟩
  · obtain ⟨D, m, _⟩ := h2.chn ok
    exact ⟨D, .inr ⟨ea, h1, m⟩⟩
structure Inv (X : Cx) (pins : List (Addr × Obj)) (σ : List (Option V)) (H : Hp) (s : Shared) : Prop where
  ok : X.Ok
  os : s.os = X.s₀.os
  bare : AllBare s.gens
  base : Un X.fs X.ex X.H₀ H X.s₀.heap s.heap
  loc : ∃ m, s.heap.Ns X.env.locals m ∧ ∀ (i : Nat) (x : Str) (v : V), X.N[i]? = some x → σ[i]? = some (some v) → Vis X.env.scope x → ∃ u, RelV v u ∧ Look X.env s.heap m x u
  cell : ∀ x c, X.env.cells.lookup x = some c → ∃ v, s.heap.IsCell c v
  free : H X.env.locals = none
  freeC : ∀ x c, X.env.cells.lookup x = some c → H c = none
  pin : ∀ p ∈ X.pn ++ pins, s.heap.get? p.1 = some p.2 ∧ H p.1 = none ∧ p.1 ≠ X.env.locals ∧ p.1 ∉ X.fs ∧ ∀ v, p.2.data ≠ .cell v
  hok : HOk X.prog X.w H s.heap
  len : σ.length = X.N.length
  hn : HdF X.A H
section
variable {X : Cx} {pins : List (Addr × Obj)} {σ : List (Option V)} {H H' : Hp} {s : Shared} {h' : Heap}
theorem Cx.Ok.nofr (ok : X.Ok) {b : Addr} {o : Obj} (e : X.base.get? b = some o) : b ∉ X.fs := fun hb => by
  have := (ok.funs.mem hb).1
  rw [e] at this; cases this
theorem Inv.bs (I : Inv X pins σ H s) : ∀ b o, X.base.get? b = some o → s.heap.get? b = some o ∧ H b = none := fun b o e =>
  ⟨I.base.keep b o (I.ok.bs b o e).1 (I.ok.bs b o e).2 (I.ok.nofr e) (I.ok.noex b o e), I.base.free b o (I.ok.bs b o e).1 (I.ok.bs b o e).2 (I.ok.noex b o e)⟩
theorem Inv.bk (I : Inv X pins σ H s) : ∀ b o, X.base.get? b = some o → s.heap.get? b = some o := fun b o e => (I.bs b o e).1
theorem Inv.mod (I : Inv X pins σ H s) : Mod X.K X.mg X.base := I.ok.mod
theorem Inv.kIn (I : Inv X pins σ H s) : X.K.In s.heap := I.ok.mod.kin.keeps I.bk
theorem Inv.nolimit (I : Inv X pins σ H s) : s.heap.NoLimit := I.ok.mod.nolimit.keeps I.bk
theorem Inv.fr (I : Inv X pins σ H s) : ∃ m, Fr X.base X.env.locals s.heap m :=
  let ⟨m, hn, _⟩ := I.loc
  ⟨m, hn, I.bk, Nat.le_trans I.ok.bsz I.ok.above⟩
theorem Inv.lt (I : Inv X pins σ H s) : X.env.locals < s.heap.objs.size := let ⟨_, hn, _⟩ := I.loc; hn.lt
theorem Inv.sz (I : Inv X pins σ H s) : X.s₀.heap.objs.size ≤ s.heap.objs.size := Nat.le_trans I.ok.above (Nat.le_of_lt I.lt)
theorem Inv.nofs (I : Inv X pins σ H s) {a : Addr} (h : s.heap.objs.size ≤ a) : a ∉ X.fs := fun hb => by
  obtain ⟨_, o, ho, _⟩ := I.ok.funs.mem hb
  exact absurd (Nat.lt_of_lt_of_le (Heap.lt_size ho) (Nat.le_trans I.sz h)) (Nat.lt_irrefl _)
theorem Inv.cne (I : Inv X pins σ H s) : ∀ x c, X.env.cells.lookup x = some c → c ≠ X.env.locals := fun x c e z => by
  obtain ⟨v, o, ho, hd⟩ := I.cell x c e
  obtain ⟨m, ⟨o', es, ep, ho', hd', _⟩, _⟩ := I.loc
  rw [z, ho'] at ho; cases ho; rw [hd'] at hd; cases hd
theorem Inv.funs (I : Inv X pins σ H s) : s.heap.FunFrames X.base X.outer := by
  have all : ∀ (l : List Env), (∀ b ∈ frs l, b ∈ X.fs) → X.s₀.heap.FunFrames X.base l → s.heap.FunFrames X.base l := by
    intro l
    induction l with
    | nil => intro _ _; trivial
    | cons env r ih =>
      intro hs hl
      obtain ⟨hk, ⟨L, o, hf, hn, ho, hd⟩, hr⟩ := hl
      have hL : L ∈ X.fs := hs L (by unfold frs; rw [List.filterMap_cons, hf]; exact List.mem_cons_self)
      obtain ⟨sl, e⟩ := I.base.slot L o ho (I.ok.frf L hL) hL fun z => I.ok.exfs L z hL
      exact ⟨hk, ⟨L, _, hf, hn, e, hd⟩, ih (fun b hb => hs b (by unfold frs; rw [List.filterMap_cons, hf]; exact List.mem_cons_of_mem _ hb)) hr⟩
  exact all X.outer (fun _ hb => hb) I.ok.funs
theorem Inv.stack (I : Inv X pins σ H s) : s.heap.FunFrames X.base X.stack := by
  rcases I.ok.stk with e | ⟨e, hf⟩
  · rw [e]; exact I.funs
  · rw [e]
    obtain ⟨m, hn, _⟩ := I.loc
    refine .cons (by rw [I.ok.kind]; decide) hf hn ?_ I.funs
    exact Heap.get?_none_of_le (Nat.le_trans I.ok.bsz I.ok.above)
theorem Inv.stkSub (I : Inv X pins σ H s) : ∀ b ∈ frs X.stack, b ∈ X.env.locals :: X.fs := fun b hb => by
  rcases I.ok.stk with e | ⟨e, hf⟩
  · rw [e] at hb; exact List.mem_cons_of_mem _ hb
  · rw [e] at hb
    unfold frs at hb
    rw [List.filterMap_cons, hf] at hb
    exact hb
theorem Inv.stkFree (I : Inv X pins σ H s) : ∀ b ∈ frs X.stack, H b = none := fun b hb => by
  rcases List.mem_cons.mp (I.stkSub b hb) with e | hb
  · rw [e]; exact I.free
  · obtain ⟨_, o, ho, _⟩ := I.ok.funs.mem hb
    exact I.base.free b o ho (I.ok.frf b hb) fun z => I.ok.exfs b z hb
theorem Inv.step {g' : Array GenState} {t' : Nat} {d' : Drawn} {ch : List Addr} (I : Inv X pins σ H s)
    (hch : ∀ b ∈ ch, (b ∈ X.ex ∨ X.s₀.heap.objs.size ≤ b) ∧ b ≠ X.env.locals ∧ (∀ x c, X.env.cells.lookup x = some c → c ≠ b) ∧ ∀ p ∈ X.pn ++ pins, p.1 ≠ b)
    (keep : ∀ b o, b ≠ X.env.locals → b ∉ X.fs → b ∉ ch → s.heap.get? b = some o → H b = none → h'.get? b = some o)
    (slot : ∀ b o, b ≠ X.env.locals → b ∈ X.fs → b ∉ ch → s.heap.get? b = some o → H b = none → ∃ sl, h'.get? b = some { o with slots := sl }) (free : ∀ b o, b ∉ ch → s.heap.get? b = some o → H b = none → H' b = none)
    (there : ∀ b o, b ∉ ch → s.heap.get? b = some o → ∃ o', h'.get? b = some o')
    (tups : ∀ b xs, H b = some (.tup xs) → H' b = some (.tup xs)) (frzs : ∀ b o u, H b = some (.frz o u) → H' b = some (.frz o u)) (tbls : ∀ b ps, H b = some (.tbl ps) → ∃ more, H' b = some (.tbl (ps ++ more)))
    (ns : ∀ m, s.heap.Ns X.env.locals m → h'.Ns X.env.locals m) (hok : HOk X.prog X.w H' h') (hg : AllBare g') :
    Inv X pins σ H' { s with heap := h', gens := g', drawn := d', toks := t' } := by
  have neL : ∀ b o, X.s₀.heap.get? b = some o → b ≠ X.env.locals := fun b o e => Nat.ne_of_lt (Nat.lt_of_lt_of_le (Heap.lt_size e) I.ok.above)
  have neC : ∀ b o, X.s₀.heap.get? b = some o → b ∉ X.ex → b ∉ ch := fun b o e hx hb => by
    rcases (hch b hb).1 with z | z
    · exact hx z
    · exact absurd (Nat.lt_of_lt_of_le (Heap.lt_size e) z) (Nat.lt_irrefl _)
  have cellK : ∀ x c, X.env.cells.lookup x = some c → ∀ v, s.heap.IsCell c v → h'.IsCell c v := fun x c e v ⟨o, ho, hd⟩ => by
    have nch : c ∉ ch := fun z => (hch c z).2.2.1 x c e rfl
    by_cases hc : c ∈ X.fs
    · obtain ⟨sl, q⟩ := slot c o (I.cne x c e) hc nch ho (I.freeC x c e)
      exact ⟨_, q, hd⟩
    · exact ⟨o, keep c o (I.cne x c e) hc nch ho (I.freeC x c e), hd⟩
  refine ⟨I.ok, I.os, hg, ⟨fun b o e n hb hx => ?_, fun b o e n hb hx => ?_, fun b o e n hx => ?_, fun b o e hx => ?_, fun b xs e => tups b xs (I.base.tups b xs e), fun b o xs e => frzs b o xs (I.base.frzs b o xs e), fun b ps e => ?_⟩, ?_, fun x c e => ?_, ?_, fun x c e => ?_, fun p hp => ?_, hok, I.len, I.hn.mono frzs⟩
  · exact keep b o (neL b o e) hb (neC b o e hx) (I.base.keep b o e n hb hx) (I.base.free b o e n hx)
  · obtain ⟨sl, e1⟩ := I.base.slot b o e n hb hx
    obtain ⟨sl', e2⟩ := slot b _ (neL b o e) hb (neC b o e hx) e1 (I.base.free b o e n hx)
    exact ⟨sl', e2⟩
  · obtain ⟨o', e1⟩ := I.base.there b o e hx
    exact free b o' (neC b o e hx) e1 (I.base.free b o e n hx)
  · obtain ⟨o', e1⟩ := I.base.there b o e hx
    exact there b o' (neC b o e hx) e1
  · obtain ⟨m1, e1⟩ := I.base.tbls b ps e
    obtain ⟨m2, e2⟩ := tbls b _ e1
    exact ⟨m1 ++ m2, by rw [e2, Array.append_assoc]⟩
  · obtain ⟨m, hn, hl⟩ := I.loc
    refine ⟨m, ns m hn, fun i x v e1 e2 e3 => ?_⟩
    obtain ⟨u, r, l⟩ := hl i x v e1 e2 e3
    refine ⟨u, r, ?_⟩
    rcases l with l | ⟨k, c, e, z⟩
    · exact .inl l
    · exact .inr ⟨k, c, e, cellK x c e _ z⟩
  · obtain ⟨v, z⟩ := I.cell x c e
    exact ⟨v, cellK x c e v z⟩
  · obtain ⟨m, ⟨o, _, _, ho, _⟩, _⟩ := I.loc
    exact free _ o (fun z => (hch _ z).2.1 rfl) ho I.free
  · obtain ⟨v, o, ho, hd⟩ := I.cell x c e
    exact free c o (fun z => (hch c z).2.2.1 x c e rfl) ho (I.freeC x c e)
  · obtain ⟨e, n, ne, nf, d⟩ := I.pin p hp
    have nch : p.1 ∉ ch := fun z => (hch p.1 z).2.2.2 p hp rfl
    exact ⟨keep p.1 p.2 ne nf nch e n, free p.1 p.2 nch e n, ne, nf, d⟩
theorem Inv.un {t' : Nat} (I : Inv X pins σ H s) (u : Un X.fs [] H H' s.heap h') (hok : HOk X.prog X.w H' h') : Inv X pins σ H' { s with heap := h', toks := t' } := by
  obtain ⟨m, ⟨o, es, ep, ho, r⟩, _⟩ := id I.loc
  obtain ⟨sl, hL⟩ := u.any ho I.free (by simp)
  exact I.step (g' := s.gens) (d' := s.drawn) (ch := []) (fun _ z => nomatch z) (fun b o _ hb _ e n => u.keep b o e n hb (by simp)) (fun b o _ hb _ e n => u.slot b o e n hb (by simp)) (fun b o _ e n => u.free b o e n (by simp)) (fun b o _ e => u.there b o e (by simp)) u.tups u.frzs u.tbls (fun m' hm => by
    obtain ⟨o', es', ep', ho', r'⟩ := hm
    rw [ho] at ho'; cases ho'
    exact ⟨_, es', ep', hL, r'⟩) hok I.bare
theorem Inv.call {g' : Array GenState} {t' : Nat} {d' : Drawn} {ch : List Addr} (I : Inv X pins σ H s) (u : Un (frs X.stack) ch H H' s.heap h') (hok : HOk X.prog X.w H' h') (hg : AllBare g')
    (hch : ∀ b ∈ ch, (b ∈ X.ex ∨ X.s₀.heap.objs.size ≤ b) ∧ b ≠ X.env.locals ∧ (∀ x c, X.env.cells.lookup x = some c → c ≠ b) ∧ ∀ p ∈ X.pn ++ pins, p.1 ≠ b) :
    Inv X pins σ H' { s with heap := h', gens := g', drawn := d', toks := t' } := by
  obtain ⟨m, ⟨o, es, ep, ho, r⟩, _⟩ := id I.loc
  obtain ⟨sl, hL⟩ := u.any ho I.free fun z => (hch _ z).2.1 rfl
  exact I.step (ch := ch) hch (fun b o hL hb hc e n => u.keep b o e n (fun z => (List.mem_cons.mp (I.stkSub b z)).elim hL hb) hc) (fun b o _ _ hc e n => u.any e n hc) (fun b o hc e n => u.free b o e n hc) (fun b o hc e => u.there b o e hc) u.tups u.frzs u.tbls (fun m' hm => by
    obtain ⟨o', es', ep', ho', r'⟩ := hm
    rw [ho] at ho'; cases ho'
    exact ⟨_, es', ep', hL, r'⟩) hok hg
theorem Inv.turned {t' : Nat} {it : Addr} (I : Inv X pins σ H s) (k : ∀ b o, b ≠ it → s.heap.get? b = some o → h'.get? b = some o) (hn : H it = none) (hL : it ≠ X.env.locals)
    (h1 : it ∈ X.ex ∨ X.s₀.heap.objs.size ≤ it) (h2 : ∀ x c, X.env.cells.lookup x = some c → c ≠ it) (h3 : ∀ p ∈ X.pn ++ pins, p.1 ≠ it) : Inv X pins σ H { s with heap := h', toks := t' } := by
  have nit : ∀ b u, H b = some u → b ≠ it := fun b u e z => by rw [z, hn] at e; cases e
  refine I.step (g' := s.gens) (d' := s.drawn) (ch := [it]) (fun b hb => ?_) (fun b o _ _ hc e _ => k b o (fun z => hc (by simp [z])) e) (fun b o _ _ hc e _ => ⟨o.slots, k b o (fun z => hc (by simp [z])) e⟩) (fun _ _ _ _ n => n)
    (fun b o hc e => ⟨o, k b o (fun z => hc (by simp [z])) e⟩) (fun _ _ e => e) (fun _ _ _ e => e) (fun b ps e => ⟨#[], by rw [e]; simp⟩) (fun m hm => ?_) (fun b u e => ?_) I.bare
  · have e : b = it := by simpa using hb
    subst e
    exact ⟨h1, hL, h2, h3⟩
  · obtain ⟨o, es, ep, ho, r⟩ := hm
    exact ⟨o, es, ep, k _ o (Ne.symm hL) ho, r⟩
  · refine (I.hok b u e).stay (fun c v hc q => k c v ?_ q) (fun _ q => q) fun _ _ q => q
    rcases hc with z | z
    · rw [z]; exact nit b u e
    · exact nit c _ z
theorem Inv.tok (I : Inv X pins σ H s) (t : Nat) : Inv X pins σ H { s with toks := t } := I.un (h' := s.heap) (t' := t) Un.refl I.hok
theorem Inv.kept {t' : Nat} (I : Inv X pins σ H s) (k : ∀ b u, s.heap.get? b = some u → h'.get? b = some u) : Inv X pins σ H { s with heap := h', toks := t' } := I.un (Un.kept k) (I.hok.kept k)
theorem Inv.laid {a : Addr} {o : HO} {t' : Nat} (I : Inv X pins σ H s) (k : ∀ b u, s.heap.get? b = some u → h'.get? b = some u) (hp : s.heap.objs.size ≤ a) (new : ObjOk X.prog X.w (upd H a o) h' a o) :
    Inv X pins σ (upd H a o) { s with heap := h', toks := t' } := I.un (Un.laid k hp (I.hok.fresh hp)) (I.hok.laid k hp new)
theorem Inv.write {x e : Addr} {o : HO} {t' : Nat} (I : Inv X pins σ H s) (mu : Mut (H x)) (he : e = x ∨ H e = some (.own x)) (k : ∀ b u, b ≠ e → s.heap.get? b = some u → h'.get? b = some u) (heo : ∃ u, h'.get? e = some u)
    (new : ObjOk X.prog X.w (upd H x o) h' x o) : Inv X pins σ (upd H x o) { s with heap := h', toks := t' } := I.un (Un.write mu he k heo) (I.hok.write mu he k heo new)
theorem Inv.weak {σ' : List (Option V)} (I : Inv X pins σ H s) (hl : σ'.length = σ.length) (w : ∀ (i : Nat) v, σ'[i]? = some (some v) → σ[i]? = some (some v)) : Inv X pins σ' H s :=
  ⟨I.ok, I.os, I.bare, I.base, let ⟨m, hn, hl'⟩ := I.loc; ⟨m, hn, fun i x v e1 e2 e3 => hl' i x v e1 (w i v e2) e3⟩, I.cell, I.free, I.freeC, I.pin, I.hok, hl.trans I.len, I.hn⟩
theorem Inv.pins_of {pins' : List (Addr × Obj)} (I : Inv X pins σ H s) (h : ∀ p ∈ pins', s.heap.get? p.1 = some p.2 ∧ H p.1 = none ∧ p.1 ≠ X.env.locals ∧ p.1 ∉ X.fs ∧ ∀ v, p.2.data ≠ .cell v) : Inv X pins' σ H s :=
  ⟨I.ok, I.os, I.bare, I.base, I.loc, I.cell, I.free, I.freeC, fun p hp => (List.mem_append.mp hp).elim (fun z => I.pin p (List.mem_append_left _ z)) (h p), I.hok, I.len, I.hn⟩
theorem nodup_ix {N : List Str} (hN : N.Nodup) {i j : Nat} {x : Str} (a : N[i]? = some x) (b : N[j]? = some x) : i = j := by
  obtain ⟨h1, e1⟩ := List.getElem?_eq_some_iff.mp a
  obtain ⟨h2, e2⟩ := List.getElem?_eq_some_iff.mp b
  exact (List.getElem_inj hN).mp (e1.trans e2.symm)
theorem store_ok2 {M : Model} {A : Around} {E : Value → Shared → Prop} {i : Nat} {x : Str} {v : V} {u : Value} {Q : Unit → Shared → Prop} (I : Inv X pins σ H s) (hN : X.N.Nodup) (hi : X.N[i]? = some x) (hx : Loc X.env.scope x) (r : RelV v u)
    (h : ∀ s', Inv X pins (σ.set i (some v)) H s' → (∃ a, Heap.SameBut a s.heap s'.heap ∧ (a = X.env.locals ∨ X.env.cells.lookup x = some a)) → Q () s') (hf : X.fn x = true ∨ X.env.scope.names.lookup x = some .local := by first | exact .inl rfl | exact .inr rfl | assumption) : wpAny M A (storeName X.env x u) Q E s := by
  obtain ⟨m, hn, hl⟩ := id I.loc
  have hcls : (X.env.scope.kind == .class || (X.env.scope.kind == .module && X.env.locals != X.env.globals)) = false := by rw [I.ok.kind]; rfl
  have hiσ : i < σ.length := by rw [I.len]; exact (List.getElem?_eq_some_iff.mp hi).1
  have cne := I.cne
  have tracked : ∀ {a : Addr} {h' : Heap}, (∃ o, s.heap.get? a = some o ∧ H a = none) → Heap.SameBut a s.heap h' → HOk X.prog X.w H h' := fun {a h'} ha hs b ob e => by
    obtain ⟨_, _, hfree⟩ := ha
    refine (I.hok b ob e).stay (fun c w' hc q => (hs.2 c ?_).trans q) (fun _ q => q) fun _ _ q => q
    rintro rfl
    rcases hc with rfl | hc
    · rw [hfree] at e; cases e
    · rw [hfree] at hc; cases hc
  rcases hx with hk | hk
  · refine wpAny_storeName_local hk hn (fun h' hn' hs => ?_) hcls
    obtain ⟨oL, _, _, hoL, _⟩ := id hn
    refine h _ ⟨I.ok, I.os, I.bare, ⟨fun b o e n hb hx => ?_, fun b o e n hb hx => ?_, I.base.free, fun b o e hx => ?_, I.base.tups, I.base.frzs, I.base.tbls⟩, ⟨_, hn', fun j y v' e1 e2 e3 => ?_⟩, fun y c e => ?_, I.free, I.freeC, fun p hp => ?_, tracked ⟨oL, hoL, I.free⟩ hs, by simpa using I.len, I.hn⟩ ⟨_, hs, .inl rfl⟩
    · exact (hs.2 b (Nat.ne_of_lt (Nat.lt_of_lt_of_le (Heap.lt_size e) I.ok.above))).trans (I.base.keep b o e n hb hx)
    · obtain ⟨sl, e1⟩ := I.base.slot b o e n hb hx
      exact ⟨sl, (hs.2 b (Nat.ne_of_lt (Nat.lt_of_lt_of_le (Heap.lt_size e) I.ok.above))).trans e1⟩
    · obtain ⟨o', e1⟩ := I.base.there b o e hx
      exact ⟨o', (hs.2 b (Nat.ne_of_lt (Nat.lt_of_lt_of_le (Heap.lt_size e) I.ok.above))).trans e1⟩
    · by_cases hj : j = i
      · subst hj
        rw [hi] at e1; cases e1
        rw [List.getElem?_set_self hiσ] at e2
        cases e2
        exact ⟨u, r, .inl ⟨hk, by simp⟩⟩
      · rw [List.getElem?_set_ne (Ne.symm hj)] at e2
        obtain ⟨u', r', q⟩ := hl j y v' e1 e2 e3
        refine ⟨u', r', ?_⟩
        rcases q with ⟨k, e⟩ | ⟨k, c, e, z⟩
        · refine .inl ⟨k, ?_⟩
          have : y ≠ x := fun e => hj (nodup_ix hN e1 (e ▸ hi))
          simp [this, e]
        · exact .inr ⟨k, c, e, z.sameBut hs (cne y c e)⟩
    · obtain ⟨w', z⟩ := I.cell y c e
      exact ⟨w', z.sameBut hs (cne y c e)⟩
    · obtain ⟨e, n, ne, nf, d⟩ := I.pin p hp
      exact ⟨(hs.2 p.1 ne).trans e, n, ne, nf, d⟩
  · have hfn : X.fn x = true := by
      rcases hf with z | z
      · exact z
      · rw [z] at hk; cases hk
    obtain ⟨c, hc⟩ := I.ok.has x (.inl hk)
    obtain ⟨w', z⟩ := I.cell x c hc
    refine wpAny_storeName_cell I.ok.kind hk hc z (fun h' hc' hs => ?_)
    obtain ⟨oc, hoc, hocd⟩ := id z
    refine h { s with heap := h' } ⟨I.ok, I.os, I.bare, ⟨fun b o e n hb hx => ?_, fun b o e n hb hx => ?_, I.base.free, fun b o e hx => ?_, I.base.tups, I.base.frzs, I.base.tbls⟩, ⟨m, hn.sameBut hs (Ne.symm (cne x c hc)), fun j y v' e1 e2 e3 => ?_⟩, fun y c' e => ?_, I.free, I.freeC, fun p hp => ?_, tracked ⟨oc, hoc, I.freeC x c hc⟩ hs, by simpa using I.len, I.hn⟩ ⟨c, hs, .inr hc⟩
    · exact (hs.2 b (Nat.ne_of_lt (Nat.lt_of_lt_of_le (Heap.lt_size e) (I.ok.cab x c hfn hc)))).trans (I.base.keep b o e n hb hx)
    · obtain ⟨sl, e1⟩ := I.base.slot b o e n hb hx
      exact ⟨sl, (hs.2 b (Nat.ne_of_lt (Nat.lt_of_lt_of_le (Heap.lt_size e) (I.ok.cab x c hfn hc)))).trans e1⟩
    · obtain ⟨o', e1⟩ := I.base.there b o e hx
      exact ⟨o', (hs.2 b (Nat.ne_of_lt (Nat.lt_of_lt_of_le (Heap.lt_size e) (I.ok.cab x c hfn hc)))).trans e1⟩
    · by_cases hj : j = i
      · subst hj
        rw [hi] at e1; cases e1
        rw [List.getElem?_set_self hiσ] at e2
        cases e2
        exact ⟨u, r, .inr ⟨.inl hk, c, hc, hc'⟩⟩
      · rw [List.getElem?_set_ne (Ne.symm hj)] at e2
        obtain ⟨u', r', q⟩ := hl j y v' e1 e2 e3
        refine ⟨u', r', ?_⟩
        rcases q with q | ⟨k, c', e, z'⟩
        · exact .inl q
        · refine .inr ⟨k, c', e, z'.sameBut hs ?_⟩
          rintro rfl
          exact hj (nodup_ix hN e1 (I.ok.inj _ _ _ e hc ▸ hi))
    · by_cases hcc : c' = c
      · subst hcc; exact ⟨_, hc'⟩
      · obtain ⟨w2, z2⟩ := I.cell y c' e
        exact ⟨w2, z2.sameBut hs hcc⟩
    · obtain ⟨e, n, ne, nf, d⟩ := I.pin p hp
      refine ⟨(hs.2 p.1 ?_).trans e, n, ne, nf, d⟩
      intro q
      rw [q, hoc] at e
      have q' : oc = p.2 := Option.some.inj e
      exact d w' (by rw [← q']; exact hocd)
theorem store_ok {M : Model} {A : Around} {E : Value → Shared → Prop} {i : Nat} {x : Str} {v : V} {u : Value} {Q : Unit → Shared → Prop} (I : Inv X pins σ H s) (hN : X.N.Nodup) (hi : X.N[i]? = some x) (hx : Loc X.env.scope x) (r : RelV v u)
    (h : ∀ s', Inv X pins (σ.set i (some v)) H s' → Q () s') (hf : X.fn x = true ∨ X.env.scope.names.lookup x = some .local := by first | exact .inl rfl | exact .inr rfl | assumption) : wpAny M A (storeName X.env x u) Q E s :=
  store_ok2 I hN hi hx r (fun s' I' _ => h s' I') hf
theorem Inv.call' {s' : Shared} {ch : List Addr} (I : Inv X pins σ H s) (ho : s'.os = s.os) (u : Un (frs X.stack) ch H H' s.heap s'.heap) (hok : HOk X.prog X.w H' s'.heap) (hg : AllBare s'.gens)
    (hch : ∀ b ∈ ch, (b ∈ X.ex ∨ X.s₀.heap.objs.size ≤ b) ∧ b ≠ X.env.locals ∧ (∀ x c, X.env.cells.lookup x = some c → c ≠ b) ∧ ∀ p ∈ X.pn ++ pins, p.1 ≠ b) : Inv X pins σ H' s' := by
  obtain ⟨h', g', d', t', o'⟩ := s'
  have e : o' = s.os := ho
  subst e
  exact I.call (g' := g') (t' := t') (d' := d') u hok hg hch
end
abbrev XK := Value → Option Addr → Hp → Prop
abbrev St := List (Option V)
abbrev VK := V → Hp → Prop
abbrev TE := St → Hp → VK → Prop
abbrev TT := St → Hp → (Bool → Hp → Prop) → Prop
abbrev TA := St → Hp → (List V → Hp → Prop) → Prop
structure Ends where
  nx : St → Hp → Prop
  rt : VK
  bk : St → Hp → Prop := fun _ _ => False
  ct : St → Hp → Prop := fun _ _ => False
abbrev TS := Ends → St → Hp → Prop
def EP (X : Cx) (pins : List (Addr × Obj)) (σ : St) (Q : VK) (u : Value) (s' : Shared) : Prop := ∃ v H', Inv X pins σ H' s' ∧ RelV v u ∧ Q v H'
def TP (X : Cx) (pins : List (Addr × Obj)) (σ : St) (Q : Bool → Hp → Prop) (b : Bool) (s' : Shared) : Prop := ∃ H', Inv X pins σ H' s' ∧ Q b H'
def AP (X : Cx) (pins : List (Addr × Obj)) (σ : St) (Q : List V → Hp → Prop) (us : List Value) (s' : Shared) : Prop := ∃ vs H', Inv X pins σ H' s' ∧ Vals vs us ∧ Q vs H'
def SP (X : Cx) (pins : List (Addr × Obj)) (D : Ends) (f : Flow) (s' : Shared) : Prop :=
  match f with
  | .next => ∃ σ' H', Inv X pins σ' H' s' ∧ D.nx σ' H'
  | .brk => ∃ σ' H', Inv X pins σ' H' s' ∧ D.bk σ' H'
  | .cont => ∃ σ' H', Inv X pins σ' H' s' ∧ D.ct σ' H'
  | .ret u => ∃ v σ' H', Inv X pins σ' H' s' ∧ RelV v u ∧ D.rt v H'
def PE (X : Cx) (e : Expr) (t : TE) : Prop :=
  ∀ (pins : List (Addr × Obj)) (s : Shared) (σ : St) (H : Hp) (Q : VK), Inv X pins σ H s → t σ H Q → wpAny (model X.prog X.w) X.A (eval e X.env) (EP X pins σ Q) X.xe s
def PT (X : Cx) (e : Expr) (t : TT) : Prop :=
  ∀ (pins : List (Addr × Obj)) (s : Shared) (σ : St) (H : Hp) (Q : Bool → Hp → Prop), Inv X pins σ H s → t σ H Q → wpAny (model X.prog X.w) X.A (isTrue e X.env (eval e X.env)) (TP X pins σ Q) X.xe s
def PW (X : Cx) (e : Expr) (t : TT) : Prop :=
  ∀ (whole : Sem Value) (pins : List (Addr × Obj)) (s : Shared) (σ : St) (H : Hp) (Q : Bool → Hp → Prop), Inv X pins σ H s → t σ H Q → wpAny (model X.prog X.w) X.A (isTrue e X.env whole) (TP X pins σ Q) X.xe s
theorem PW.pt {X : Cx} {e : Expr} {t : TT} (h : PW X e t) : PT X e t := h _
def PA (X : Cx) (es : List Expr) (t : TA) : Prop :=
  ∀ (pos : Pos) (pins : List (Addr × Obj)) (s : Shared) (σ : St) (H : Hp) (Q : List V → Hp → Prop), Inv X pins σ H s → t σ H Q → wpAny (model X.prog X.w) X.A (spliced (backTo pos (starEach es X.env))) (AP X pins σ Q) X.xe s
def PS (X : Cx) (st : Stmt) (t : TS) : Prop :=
  ∀ (pins : List (Addr × Obj)) (s : Shared) (σ : St) (H : Hp) (D : Ends), Inv X pins σ H s → t D σ H → wpAny (model X.prog X.w) X.A (exec st X.env) (SP X pins D) X.xe s
def PSs (X : Cx) (st : List Stmt) (t : TS) : Prop :=
  ∀ (pins : List (Addr × Obj)) (s : Shared) (σ : St) (H : Hp) (D : Ends), Inv X pins σ H s → t D σ H → wpAny (model X.prog X.w) X.A (execs st X.env) (SP X pins D) X.xe s
theorem thn {α : Type} {t : Sem α} {Q Q' : α → Shared → Prop} {M : Model} {A : Around} {E : Value → Shared → Prop} {s : Shared} (h : wpAny M A t Q E s) (hQ : ∀ a s, Q a s → Q' a s) : wpAny M A t Q' E s := wpAny_mono h hQ fun _ _ x => x
end L2
namespace L2
open PySem PySem.Spec PyProof.Rows
section
variable {X : Cx}
theorem bin {a b : Expr} {ta tb : TE} (ha : PE X a ta) (hb : PE X b tb) {pins : List (Addr × Obj)} {s : Shared} {σ : St} {H : Hp} {R : V → V → Hp → Prop} (I : Inv X pins σ H s) (h : ta σ H fun x H1 => tb σ H1 fun y H2 => R x y H2)
    {α : Type} {Q : α → Shared → Prop} {f : Value → Value → Sem α}
    (hf : ∀ v u s2 x y H2, Inv X pins σ H2 s2 → RelV x v → RelV y u → R x y H2 → wpAny (model X.prog X.w) X.A (f v u) Q X.xe s2) :
    wpAny (model X.prog X.w) X.A (eval a X.env) (fun v s₁ => wpAny (model X.prog X.w) X.A (eval b X.env) (fun u s₂ => wpAny (model X.prog X.w) X.A (f v u) Q X.xe s₂) X.xe s₁) X.xe s := by
  refine thn (ha pins s σ H _ I h) fun v s1 ⟨x, H1, I1, r1, q1⟩ => ?_
  refine thn (hb pins s1 σ H1 _ I1 q1) fun u s2 ⟨y, H2, I2, r2, q2⟩ => ?_
  exact hf v u s2 x y H2 I2 r1 r2 q2
def tVar (i : Nat) : TE := fun σ H Q => ∃ v, σ[i]? = some (some v) ∧ Q v H
def tC (v : V) : TE := fun _ H Q => Q v H
theorem pe_var {i : Nat} {x : Str} {pos : Pos} (hN : X.N[i]? = some x) (hv : Vis X.env.scope x) (hd : (x == ("__debug__" : Str)) = false := by decide) (hcd : (x == ("__classdict__" : Str)) = false := by decide) : PE X (.Name x pos) (tVar i) := by
  intro pins s σ H Q I h
  obtain ⟨v, e, h⟩ := h
  obtain ⟨m, hn, hl⟩ := I.loc
  obtain ⟨u, r, l⟩ := hl i x v hN e hv
  have fin : EP X pins σ Q u s := ⟨v, H, I, r, h⟩
  rcases l with ⟨hk, hm⟩ | ⟨hk, c, hc, hcell⟩
  · exact wpAny_Name (wpAny_loadName_local I.ok.kind hk hn hm fin) hd
  · rcases hk with hk | hk
    · exact wpAny_Name (wpAny_loadName_cell I.ok.kind hk hc hcell fin) hd
    · exact wpAny_Name (wpAny_loadName_free I.ok.kind hk hc hcell fin hcd) hd
theorem pe_int {i j pos} : PE X (.Constant (.int i) j pos) (tC (.int i)) := fun _ _ _ H _ I h => wpAny_Constant_int ⟨.int i, H, I.tok _, ⟨_, rfl⟩, h⟩
theorem pe_bl {b j pos} : PE X (.Constant (.bool b) j pos) (tC (.bl b)) := fun _ _ _ H _ I h => Constant_bool ⟨.bl b, H, I, rfl, h⟩
theorem pe_non {j pos} : PE X (.Constant .none j pos) (tC .non) := fun _ _ _ H _ I h => Constant_none ⟨.non, H, I, rfl, h⟩
theorem pe_str {x j pos} : PE X (.Constant (.str x) j pos) (tC (.str x)) := fun _ _ _ H _ I h => Calls.Constant_str ⟨.str x, H, I.tok _, ⟨_, rfl⟩, h⟩
def Gl (X : Cx) (x : Str) : Prop := X.env.kindOf x = some .globalImplicit
theorem ld_glob {E : Value → Shared → Prop} {pins : List (Addr × Obj)} {s : Shared} {σ : St} {H : Hp} {x : Str} {u : Value} {pos : Pos} {Q : Value → Shared → Prop} (I : Inv X pins σ H s) (hg : Gl X x) (hm : X.mg x = some u) (h : Q u s)
    (hd : (x == ("__debug__" : Str)) = false := by decide) : wpAny (model X.prog X.w) X.A (eval (.Name x pos) X.env) Q E s :=
  Calls.Name_function_global I.ok.kind hg (Calls.loadGlobal_global (by rw [I.ok.glob]; exact I.mod.glob.keeps I.bk) hm h) hd
theorem ld_blt {E : Value → Shared → Prop} {pins : List (Addr × Obj)} {s : Shared} {σ : St} {H : Hp} {x : Str} {u : Value} {pos : Pos} {Q : Value → Shared → Prop} (I : Inv X pins σ H s) (hg : Gl X x) (hm : X.mg x = none) (hv : bootBuiltins x = some u) (h : Q u s)
    (hn : x ≠ "__name__" := by decide) (hd : (x == ("__debug__" : Str)) = false := by decide) : wpAny (model X.prog X.w) X.A (eval (.Name x pos) X.env) Q E s := by
  obtain ⟨mb, h1, h2⟩ := I.mod.blt
  exact Calls.Name_function_global I.ok.kind hg (Calls.loadGlobal_builtin (by rw [I.ok.glob]; exact I.mod.glob.keeps I.bk) hm (by rw [I.ok.blt]; exact h1.keeps I.bk) ((h2 x hn).trans hv) h) hd
theorem pe_glob {x : Str} {v : V} {u : Value} {pos : Pos} (hg : Gl X x) (hm : X.mg x = some u) (r : RelV v u) (hd : (x == ("__debug__" : Str)) = false := by decide) : PE X (.Name x pos) (tC v) :=
  fun _ _ _ H _ I h => ld_glob I hg hm ⟨v, H, I, r, h⟩ hd
theorem pe_bltn {x : Str} {v : V} {u : Value} {pos : Pos} (hg : Gl X x) (hm : X.mg x = none) (hv : bootBuiltins x = some u) (r : RelV v u) (hn : x ≠ "__name__" := by decide) (hd : (x == ("__debug__" : Str)) = false := by decide) : PE X (.Name x pos) (tC v) :=
  fun _ _ _ H _ I h => ld_blt I hg hm hv ⟨v, H, I, r, h⟩ hn hd
def t2I (ta tb : TE) (k : Int → Int → Hp → Prop) : St → Hp → Prop := fun σ H => ta σ H fun x H1 => tb σ H1 fun y H2 => ∃ i j, x = .int i ∧ y = .int j ∧ k i j H2
def tAdd (ta tb : TE) : TE := fun σ H Q => t2I ta tb (fun i j H2 => Q (.int (i + j)) H2) σ H
def tSub (ta tb : TE) : TE := fun σ H Q => t2I ta tb (fun i j H2 => Q (.int (i - j)) H2) σ H
def tMul (ta tb : TE) : TE := fun σ H Q => t2I ta tb (fun i j H2 => (-(2 ^ 64) < i ∧ i < 2 ^ 64) ∧ Q (.int (i * j)) H2) σ H
variable {a b : Expr} {ta tb : TE} {pos : Pos}
theorem pe_add (ha : PE X a ta) (hb : PE X b tb) : PE X (.BinOp a .Add b pos) (tAdd ta tb) := by
  intro pins s σ H Q I h
  refine wpAny_BinOp (bin ha hb I h fun v u s2 x y H2 I2 rx ry q => ?_)
  obtain ⟨i, j, rfl, rfl, q⟩ := q
  obtain ⟨t, rfl⟩ := rx
  obtain ⟨t', rfl⟩ := ry
  exact add_int ⟨.int _, H2, I2.tok _, ⟨_, rfl⟩, q⟩
theorem pe_sub (ha : PE X a ta) (hb : PE X b tb) : PE X (.BinOp a .Sub b pos) (tSub ta tb) := by
  intro pins s σ H Q I h
  refine wpAny_BinOp (bin ha hb I h fun v u s2 x y H2 I2 rx ry q => ?_)
  obtain ⟨i, j, rfl, rfl, q⟩ := q
  obtain ⟨t, rfl⟩ := rx
  obtain ⟨t', rfl⟩ := ry
  exact sub_int ⟨.int _, H2, I2.tok _, ⟨_, rfl⟩, q⟩
theorem pe_mul (ha : PE X a ta) (hb : PE X b tb) : PE X (.BinOp a .Mult b pos) (tMul ta tb) := by
  intro pins s σ H Q I h
  refine wpAny_BinOp (bin ha hb I h fun v u s2 x y H2 I2 rx ry q => ?_)
  obtain ⟨i, j, rfl, rfl, ⟨q1, q2⟩, q⟩ := q
  obtain ⟨t, rfl⟩ := rx
  obtain ⟨t', rfl⟩ := ry
  exact mul_int ⟨.int _, H2, I2.tok _, ⟨_, rfl⟩, q⟩ (.of_left (intBits_le_64 q1 q2))
def PC (X : Cx) (op : CmpOp) (a b : Expr) (t : TE) : Prop :=
  ∀ (pins : List (Addr × Obj)) (s : Shared) (σ : St) (H : Hp) (Q : VK), Inv X pins σ H s → t σ H Q →
    wpAny (model X.prog X.w) X.A (eval a X.env) (fun v s₁ => wpAny (model X.prog X.w) X.A (eval b X.env) (fun u s₂ => wpAny (model X.prog X.w) X.A (compareOp op v u) (EP X pins σ Q) X.xe s₂) X.xe s₁) X.xe s
theorem nobehind (b : Expr) {op : CmpOp} (h : op ≠ .In) (h2 : op ≠ .NotIn) : behindInMarks op b = false := by
  have e1 : (op == CmpOp.In) = false := by cases op <;> first | rfl | exact absurd rfl h
  have e2 : (op == CmpOp.NotIn) = false := by cases op <;> first | rfl | exact absurd rfl h2
  cases b <;> simp [behindInMarks, e1, e2]
def tCmp (p : Int → Int → Bool) (ta tb : TE) : TE := fun σ H Q => t2I ta tb (fun i j H2 => Q (.bl (p i j)) H2) σ H
abbrev tLt : TE → TE → TE := tCmp fun i j => decide (i < j)
abbrev tLe : TE → TE → TE := tCmp fun i j => decide (i ≤ j)
abbrev tGt : TE → TE → TE := tCmp fun i j => decide (j < i)
abbrev tGe : TE → TE → TE := tCmp fun i j => decide (j ≤ i)
abbrev tEqI : TE → TE → TE := tCmp fun i j => decide (i = j)
abbrev tNeI : TE → TE → TE := tCmp fun i j => !decide (i = j)
theorem pc_int {op : CmpOp} {p : Int → Int → Bool} (ha : PE X a ta) (hb : PE X b tb)
    (rule : ∀ (i j : Int) (t u : Tok) (Q : Value → Shared → Prop) (s : Shared), Q (.bool (p i j)) s → wpAny (model X.prog X.w) X.A (compareOp op (.int i t) (.int j u)) Q X.xe s) : PC X op a b (tCmp p ta tb) := by
  intro pins s σ H Q I h
  refine bin ha hb I h fun v u s2 x y H2 I2 rx ry q => ?_
  obtain ⟨i, j, rfl, rfl, q⟩ := q
  obtain ⟨t, rfl⟩ := rx
  obtain ⟨t', rfl⟩ := ry
  exact rule i j t t' _ s2 ⟨.bl _, H2, I2, rfl, q⟩
theorem pc_lt (ha : PE X a ta) (hb : PE X b tb) : PC X .Lt a b (tLt ta tb) := pc_int ha hb fun _ _ _ _ _ _ h => lt_int h
theorem pc_le (ha : PE X a ta) (hb : PE X b tb) : PC X .LtE a b (tLe ta tb) := pc_int ha hb fun _ _ _ _ _ _ h => le_int h
theorem pc_gt (ha : PE X a ta) (hb : PE X b tb) : PC X .Gt a b (tGt ta tb) := pc_int ha hb fun _ _ _ _ _ _ h => gt_int h
theorem pc_ge (ha : PE X a ta) (hb : PE X b tb) : PC X .GtE a b (tGe ta tb) := pc_int ha hb fun _ _ _ _ _ _ h => ge_int h
theorem pc_eqI (ha : PE X a ta) (hb : PE X b tb) : PC X .Eq a b (tEqI ta tb) := pc_int ha hb fun _ _ _ _ _ _ h => eq_int (by rw [Bool.beq_eq_decide_eq]; exact h)
theorem pc_neI (ha : PE X a ta) (hb : PE X b tb) : PC X .NotEq a b (tNeI ta tb) := pc_int ha hb fun _ _ _ _ _ _ h => ne_int (by rw [bne, Bool.beq_eq_decide_eq]; exact h)
def tIsN (ta : TE) : TE := fun σ H Q => ta σ H fun x H1 => Q (.bl (decide (x = .non))) H1
def tNotN (ta : TE) : TE := fun σ H Q => ta σ H fun x H1 => Q (.bl (!decide (x = .non))) H1
theorem RelV.none_iff {x : V} {v : Value} (r : RelV x v) : (v == Value.none) = decide (x = .non) := by
  cases x with
  | non => cases r; rfl
  | bl _ => cases r; rfl
  | int _ => obtain ⟨t, rfl⟩ := r; rfl
  | str _ => obtain ⟨t, rfl⟩ := r; rfl
  | byt _ => obtain ⟨t, rfl⟩ := r; rfl
  | flt _ => obtain ⟨t, rfl⟩ := r; rfl
  | ref _ => cases r; rfl
  | ty _ => cases r; rfl
theorem pc_isN {j pos'} (ha : PE X a ta) : PC X .Is a (.Constant .none j pos') (tIsN ta) := by
  intro pins s σ H Q I h
  refine thn (ha pins s σ H _ I h) fun v s1 ⟨x, H1, I1, r1, q1⟩ => ?_
  exact Constant_none (is_none_gen ⟨.bl _, H1, I1, by rw [r1.none_iff]; rfl, q1⟩)
theorem pc_notN {j pos'} (ha : PE X a ta) : PC X .IsNot a (.Constant .none j pos') (tNotN ta) := by
  intro pins s σ H Q I h
  refine thn (ha pins s σ H _ I h) fun v s1 ⟨x, H1, I1, r1, q1⟩ => ?_
  exact Constant_none (isnot_none_gen ⟨.bl _, H1, I1, by rw [r1.none_iff]; rfl, q1⟩)
def tB (t : TE) : TT := fun σ H Q => t σ H fun x H1 => ∃ c, x = .bl c ∧ Q c H1
theorem pe_cmp {op : CmpOp} {t : TE} (h : PC X op a b t) (h1 : behindInMarks op b = false := by first | exact nobehind _ (by decide) (by decide) | rfl) : PE X (.Compare a [op] [b] pos) t := fun pins s σ H Q I hw => wpAny_Compare1 (h pins s σ H Q I hw) h1
theorem pt_cmp {op : CmpOp} {t : TE} (h : PC X op a b t) (h1 : behindInMarks op b = false := by first | exact nobehind _ (by decide) (by decide) | rfl) : PT X (.Compare a [op] [b] pos) (tB t) := by
  intro pins s σ H Q I hw
  refine wpAny_isTrue_Compare1 (thn (h pins s σ H _ I hw) fun v s1 h1 => thn h1 fun u s2 h2 => thn h2 fun c s3 ⟨x, H1, I1, r1, q1⟩ => ?_) h1
  obtain ⟨d, rfl, q⟩ := q1
  cases r1
  exact wpAny_truthy_bool ⟨H1, I1, q⟩
theorem pt_val {e : Expr} {t : TE} (h : PE X e t) (he : ∀ whole, isTrue e X.env whole = (do let v ← whole; standAt e.pos; holding [v] (truthy v)) := by intro _; rfl) : PT X e (tB t) := by
  intro pins s σ H Q I hw
  refine isTrue_plain (thn (h pins s σ H _ I hw) fun v s1 ⟨x, H1, I1, r1, q1⟩ => ?_) (he _)
  obtain ⟨d, rfl, q⟩ := q1
  cases r1
  exact wpAny_truthy_bool ⟨H1, I1, q⟩
variable {tA tB' : TT} {rest : List Expr}
def tAnd (t u : TT) : TT := fun σ H Q => t σ H fun c H1 => if c = true then u σ H1 Q else Q false H1
def tOr (t u : TT) : TT := fun σ H Q => t σ H fun c H1 => if c = true then Q true H1 else u σ H1 Q
def tNot (t : TT) : TT := fun σ H Q => t σ H fun c H1 => Q (!c) H1
theorem pw_and1 (ha : PT X a tA) : PW X (.BoolOp .And [a] pos) tA := by
  intro wh pins s σ H Q I h
  refine isTrue_and (thn (ha pins s σ H Q I h) fun c s1 e => ?_)
  cases c with
  | true => exact isTrue_and_nil e
  | false => exact e
theorem pw_or1 (ha : PT X a tA) : PW X (.BoolOp .Or [a] pos) tA := by
  intro wh pins s σ H Q I h
  refine isTrue_or (thn (ha pins s σ H Q I h) fun c s1 e => ?_)
  cases c with
  | false => exact isTrue_or_nil e
  | true => exact e
theorem pw_and (ha : PT X a tA) (hb : PW X (.BoolOp .And (b :: rest) pos) tB') : PW X (.BoolOp .And (a :: b :: rest) pos) (tAnd tA tB') := by
  intro wh pins s σ H Q I h
  refine isTrue_and (thn (ha pins s σ H _ I h) fun c s1 ⟨H1, I1, q1⟩ => ?_)
  cases c with
  | true => exact hb wh pins s1 σ H1 Q I1 q1
  | false => exact ⟨H1, I1, q1⟩
theorem pw_or (ha : PT X a tA) (hb : PW X (.BoolOp .Or (b :: rest) pos) tB') : PW X (.BoolOp .Or (a :: b :: rest) pos) (tOr tA tB') := by
  intro wh pins s σ H Q I h
  refine isTrue_or (thn (ha pins s σ H _ I h) fun c s1 ⟨H1, I1, q1⟩ => ?_)
  cases c with
  | true => exact ⟨H1, I1, q1⟩
  | false => exact hb wh pins s1 σ H1 Q I1 q1
theorem pt_not (ha : PT X a tA) : PT X (.UnaryOp .Not a pos) (tNot tA) := by
  intro pins s σ H Q I h
  exact isTrue_not (ha pins s σ H (fun c H1 => Q (!c) H1) I h)
def tAndV (ta tb : TE) : TE := fun σ H Q => ta σ H fun x H1 => ∃ c, x = .bl c ∧ if c = true then tb σ H1 Q else Q (.bl false) H1
def tOrV (ta tb : TE) : TE := fun σ H Q => ta σ H fun x H1 => ∃ c, x = .bl c ∧ if c = true then Q (.bl true) H1 else tb σ H1 Q
def tNotV (ta : TE) : TE := fun σ H Q => ta σ H fun x H1 => ∃ c, x = .bl c ∧ Q (.bl (!c)) H1
theorem pe_one {op} {t : TE} (h : PE X a t) : PE X (.BoolOp op [a] pos) t := fun pins s σ H Q I hw => BoolOp_one (h pins s σ H Q I hw)
theorem pe_and (ha : PE X a ta) (hb : PE X (.BoolOp .And (b :: rest) pos) tb) : PE X (.BoolOp .And (a :: b :: rest) pos) (tAndV ta tb) := by
  intro pins s σ H Q I h
  refine BoolOp_and (thn (ha pins s σ H _ I h) fun v s1 ⟨x, H1, I1, r1, q1⟩ => ?_)
  obtain ⟨c, rfl, q1⟩ := q1
  cases r1
  refine wpAny_truthy_bool ?_
  cases c with
  | true => exact hb pins s1 σ H1 Q I1 q1
  | false => exact ⟨.bl false, H1, I1, rfl, q1⟩
theorem pe_or (ha : PE X a ta) (hb : PE X (.BoolOp .Or (b :: rest) pos) tb) : PE X (.BoolOp .Or (a :: b :: rest) pos) (tOrV ta tb) := by
  intro pins s σ H Q I h
  refine BoolOp_or (thn (ha pins s σ H _ I h) fun v s1 ⟨x, H1, I1, r1, q1⟩ => ?_)
  obtain ⟨c, rfl, q1⟩ := q1
  cases r1
  refine wpAny_truthy_bool ?_
  cases c with
  | false => exact hb pins s1 σ H1 Q I1 q1
  | true => exact ⟨.bl true, H1, I1, rfl, q1⟩
theorem pe_not (ha : PE X a ta) : PE X (.UnaryOp .Not a pos) (tNotV ta) := by
  intro pins s σ H Q I h
  refine UnaryOp_ (thn (ha pins s σ H _ I h) fun v s1 ⟨x, H1, I1, r1, q1⟩ => ?_)
  obtain ⟨c, rfl, q1⟩ := q1
  cases r1
  exact not_of (wpAny_truthy_bool ⟨.bl (!c), H1, I1, rfl, q1⟩)
def tIf (t : TT) (ta tb : TE) : TE := fun σ H Q => t σ H fun c H1 => if c = true then ta σ H1 Q else tb σ H1 Q
theorem pe_ifExp {c : Expr} (hc : PT X c tA) (ha : PE X a ta) (hb : PE X b tb) : PE X (.IfExp c a b pos) (tIf tA ta tb) := by
  intro pins s σ H Q I h
  refine wpAny_IfExp (thn (hc pins s σ H _ I h) fun d s1 ⟨H1, I1, q1⟩ => ?_)
  cases d with
  | true => exact ha pins s1 σ H1 Q I1 q1
  | false => exact hb pins s1 σ H1 Q I1 q1
end
end L2
namespace L2
open PySem PySem.Spec PyProof.Rows
def SqL (K : PySem.W.Frag) (H : Hp) (a : Addr) (xs : List V) : Prop :=
  Rd H a (.lst xs) ∨
    ∃ (o : Obj) (its : Array Value) (n : Nat), K.lookup a = some o ∧ o.cls = .type "list" ∧ o.dict = none ∧ o.data = .seq its n ∧ its.size ≤ sizeLine ∧ Vals xs its.toList
def SqT (K : PySem.W.Frag) (H : Hp) (a : Addr) (xs : List V) : Prop :=
  Rd H a (.tup xs) ∨
    ∃ (o : Obj) (its : Array Value) (n : Nat), K.lookup a = some o ∧ o.cls = .type "tuple" ∧ o.data = .seq its n ∧ its.size ≤ sizeLine ∧ Vals xs its.toList
def absV : Value → Option V
  | .none => some .non
  | .bool b => some (.bl b)
  | .int i _ => some (.int i)
  | .str x _ => some (.str x)
  | .bytes b _ => some (.byt b)
  | .float b _ => some (.flt b)
  | .ref a => some (.ref a)
  | .type n => some (.ty n)
  | _ => none
theorem RelV.abs {x : V} {u : Value} (r : RelV x u) : absV u = some x := by
  cases x with
  | non => cases r; rfl
  | bl _ => cases r; rfl
  | int _ => obtain ⟨t, rfl⟩ := r; rfl
  | str _ => obtain ⟨t, rfl⟩ := r; rfl
  | byt _ => obtain ⟨t, rfl⟩ := r; rfl
  | flt _ => obtain ⟨t, rfl⟩ := r; rfl
  | ref _ => cases r; rfl
  | ty _ => cases r; rfl
theorem RelV.inj {x y : V} {u : Value} (r : RelV x u) (q : RelV y u) : x = y := Option.some.inj (r.abs.symm.trans q.abs)
theorem Vals.inj : ∀ {xs ys : List V} {us : List Value}, Vals xs us → Vals ys us → xs = ys
  | _, _, _, .nil, .nil => rfl
  | _, _, _, .cons r t, .cons r' t' => by rw [r.inj r', Vals.inj t t']
section
variable {X : Cx} {pins : List (Addr × Obj)} {σ : St} {H : Hp} {s : Shared} {a : Addr} {xs ys : List V}
theorem SqL.of {K : PySem.W.Frag} (h : H a = some (.lst xs)) : SqL K H a xs := .inl (.inl h)
theorem SqT.of {K : PySem.W.Frag} (h : H a = some (.tup xs)) : SqT K H a xs := .inl (.inl h)
theorem Inv.list (I : Inv X pins σ H s) (h : SqL X.K H a xs) : ∃ its : List Value, Vals xs its ∧ PlainL s.heap a its.toArray ∧ xs.length ≤ sizeLine := by
  rcases h with h | ⟨o, its, n, hk, hc, hd, hs, hz, r⟩
  · obtain ⟨z, its, n, r, e⟩ := h.ok I.hok
    exact ⟨its, r, ⟨_, n, e, rfl, rfl, rfl⟩, z⟩
  · refine ⟨its.toList, r, ⟨o, n, I.kIn a o hk, hc, hd, by simpa using hs⟩, ?_⟩
    have e := r.length
    simp only [Array.length_toList] at e
    omega
theorem Inv.tuple (I : Inv X pins σ H s) (h : SqT X.K H a xs) : ∃ its : List Value, Vals xs its ∧ IsTup s.heap a its.toArray ∧ xs.length ≤ sizeLine := by
  rcases h with h | ⟨o, its, n, hk, hc, hs, hz, r⟩
  · obtain ⟨z, its, r, p⟩ := h.ok I.hok
    exact ⟨its, r, p, z⟩
  · refine ⟨its.toList, r, ⟨o, I.kIn a o hk, hc, n, by simpa using hs⟩, ?_⟩
    have e := r.length
    simp only [Array.length_toList] at e
    omega
theorem Inv.list_inj (I : Inv X pins σ H s) (h : SqL X.K H a xs) (h' : SqL X.K H a ys) : xs = ys := by
  obtain ⟨its, r, ⟨o, n, e, _, _, d⟩, _⟩ := I.list h
  obtain ⟨its', r', ⟨o', n', e', _, _, d'⟩, _⟩ := I.list h'
  rw [e] at e'; cases e'
  rw [d] at d'
  injection d' with d1 _
  have : its = its' := by simpa using congrArg Array.toList d1
  subst this
  exact r.inj r'
theorem Inv.tuple_inj (I : Inv X pins σ H s) (h : SqT X.K H a xs) (h' : SqT X.K H a ys) : xs = ys := by
  obtain ⟨its, r, ⟨o, e, _, n, d⟩, _⟩ := I.tuple h
  obtain ⟨its', r', ⟨o', e', _, n', d'⟩, _⟩ := I.tuple h'
  rw [e] at e'; cases e'
  rw [d] at d'
  injection d' with d1 _
  have : its = its' := by simpa using congrArg Array.toList d1
  subst this
  exact r.inj r'
end
abbrev Cx.wish (X : Cx) (E : Value → Shared → Prop) : Cx := { X with xe := E }
abbrev Cx.nox (X : Cx) : Cx := X.wish fun _ _ => False
theorem Cx.Ok.wish {X : Cx} (ok : X.Ok) (E : Value → Shared → Prop) : (X.wish E).Ok :=
  ⟨ok.mod, ok.kind, ok.glob, ok.blt, ok.above, ok.inj, ok.has, ok.cab, ok.hd, ok.frames, ok.stk, ok.exf, ok.bs, ok.bsz, ok.noex, ok.exfs, ok.funs, ok.frf⟩
theorem Cx.Ok.unwish {X : Cx} {E : Value → Shared → Prop} (ok : (X.wish E).Ok) : X.Ok :=
  ⟨ok.mod, ok.kind, ok.glob, ok.blt, ok.above, ok.inj, ok.has, ok.cab, ok.hd, ok.frames, ok.stk, ok.exf, ok.bs, ok.bsz, ok.noex, ok.exfs, ok.funs, ok.frf⟩
section
variable {X : Cx} {pins : List (Addr × Obj)} {σ : St} {H : Hp} {s : Shared} {E : Value → Shared → Prop}
theorem Inv.wish (I : Inv X pins σ H s) (E : Value → Shared → Prop) : Inv (X.wish E) pins σ H s := ⟨I.ok.wish E, I.os, I.bare, I.base, I.loc, I.cell, I.free, I.freeC, I.pin, I.hok, I.len, I.hn⟩
theorem Inv.unwish (I : Inv (X.wish E) pins σ H s) : Inv X pins σ H s := ⟨I.ok.unwish, I.os, I.bare, I.base, I.loc, I.cell, I.free, I.freeC, I.pin, I.hok, I.len, I.hn⟩
theorem SP.unwish {D : Ends} {f : Flow} {s' : Shared} (h : SP (X.wish E) pins D f s') : SP X pins D f s' := by
  cases f with
  | next => obtain ⟨σ', H', I, q⟩ := h; exact ⟨σ', H', I.unwish, q⟩
  | brk => obtain ⟨σ', H', I, q⟩ := h; exact ⟨σ', H', I.unwish, q⟩
  | cont => obtain ⟨σ', H', I, q⟩ := h; exact ⟨σ', H', I.unwish, q⟩
  | ret u => obtain ⟨v, σ', H', I, r, q⟩ := h; exact ⟨v, σ', H', I.unwish, r, q⟩
theorem PE.nox {e : Expr} {t : TE} (h : PE X.nox e t) : PE X e t := fun pins s σ H Q I hw =>
  wpAny_mono (h pins s σ H Q (I.wish _) hw) (fun _ _ ⟨v, H', I', r, q⟩ => ⟨v, H', I'.unwish, r, q⟩) fun _ _ z => False.elim z
theorem PT.nox {e : Expr} {t : TT} (h : PT X.nox e t) : PT X e t := fun pins s σ H Q I hw =>
  wpAny_mono (h pins s σ H Q (I.wish _) hw) (fun _ _ ⟨H', I', q⟩ => ⟨H', I'.unwish, q⟩) fun _ _ z => False.elim z
theorem PSs.nox {st : List Stmt} {t : TS} (h : PSs X.nox st t) : PSs X st t := fun pins s σ H D I hw =>
  wpAny_mono (h pins s σ H D (I.wish _) hw) (fun _ _ q => q.unwish) fun _ _ z => False.elim z
end
section
variable {X : Cx} {st : Stmt} {rest : List Stmt} {t u : TS} {e : Expr} {te : TE} {pos : Pos}
def tNext : TS := fun D σ H => D.nx σ H
def tSeq (t u : TS) : TS := fun D σ H => t { D with nx := u D } σ H
theorem pss_nil : PSs X [] tNext := fun _ _ σ H _ I h => wpAny_execs_nil ⟨σ, H, I, h⟩
theorem pss_cons (h1 : PS X st t) (h2 : PSs X rest u) : PSs X (st :: rest) (tSeq t u) := by
  intro pins s σ H D I h
  refine wpAny_execs_cons (thn (h1 pins s σ H { D with nx := u D } I h) fun f s1 q => ?_)
  cases f with
  | next =>
    obtain ⟨σ', H', I', q⟩ := q
    exact h2 pins s1 σ' H' D I' q
  | ret v => exact q
  | brk => exact q
  | cont => exact q
theorem pss_one (h1 : PS X st t) : PSs X [st] t := by
  intro pins s σ H D I h
  refine wpAny_execs_cons (thn (h1 pins s σ H D I h) fun f s1 q => ?_)
  cases f with
  | next => exact wpAny_execs_nil q
  | ret v => exact q
  | brk => exact q
  | cont => exact q
def tBreak : TS := fun D σ H => D.bk σ H
def tCont : TS := fun D σ H => D.ct σ H
theorem ps_pass : PS X (.Pass pos) tNext := fun _ _ σ H _ I h => wpAny_Pass ⟨σ, H, I, h⟩
theorem ps_break : PS X (.Break pos) tBreak := fun _ _ σ H _ I h => wpAny_Break ⟨σ, H, I, h⟩
theorem ps_continue : PS X (.Continue pos) tCont := fun _ _ σ H _ I h => wpAny_Continue ⟨σ, H, I, h⟩
theorem Inv.quiet {pins : List (Addr × Obj)} {σ : St} {H : Hp} {s : Shared} (I : Inv X pins σ H s) : interactive X.env = false := by simp [interactive, I.ok.kind]
theorem ps_doc {x j pos pos'} : PS X (.Expr (.Constant (.str x) j pos) pos') tNext := fun _ s σ H _ I h => wpAny_Expr (Calls.Constant_str (show SP X _ _ .next { s with toks := s.toks + 1 } from ⟨σ, H, I.tok _, h⟩)) I.quiet
def tDrop (te : TE) : TS := fun D σ H => te σ H fun _ H1 => D.nx σ H1
theorem ps_expr (he : PE X e te) (hs : swapsWith e none pos.line X.env = pure false := by rfl) : PS X (.Expr e pos) (tDrop te) := by
  intro pins s σ H D I h
  exact wpAny_Expr_any (thn (he pins s σ H _ I h) fun v s1 ⟨x, H1, I1, r1, q1⟩ => ⟨σ, H1, I1, q1⟩) I.quiet hs
def tRet (te : TE) : TS := fun D σ H => te σ H D.rt
theorem ps_ret (he : PE X e te) : PS X (.Return (some e) pos) (tRet te) := by
  intro pins s σ H D I h
  exact wpAny_Return_some (thn (he pins s σ H _ I h) fun v s1 ⟨x, H1, I1, r1, q1⟩ => ⟨x, σ, H1, I1, r1, q1⟩)
def tRetN : TS := fun D _ H => D.rt .non H
theorem ps_retN : PS X (.Return none pos) tRetN := fun _ _ σ H _ I h => wpAny_Return_none ⟨.non, σ, H, I, rfl, h⟩
def tIfS (c : TT) (t u : TS) : TS := fun D σ H => c σ H fun b H1 => if b = true then t D σ H1 else u D σ H1
theorem ps_if {c : Expr} {a b : List Stmt} {tc : TT} (hc : PT X c tc) (ha : PSs X a t) (hb : PSs X b u) : PS X (.If c a b pos) (tIfS tc t u) := by
  intro pins s σ H D I h
  refine wpAny_If (thn (hc pins s σ H _ I h) fun d s1 ⟨H1, I1, q1⟩ => ?_)
  cases d with
  | true => exact ha pins s1 σ H1 D I1 q1
  | false => exact hb pins s1 σ H1 D I1 q1
def tNever : TS := fun _ _ _ => False
theorem ps_never : PS X st tNever := fun _ _ _ _ _ _ h => h.elim
theorem pss_never {sts : List Stmt} : PSs X sts tNever := fun _ _ _ _ _ _ h => h.elim
end
abbrev TG := V → St → Hp → (St → Hp → Prop) → Prop
abbrev TGs := List V → St → Hp → (St → Hp → Prop) → Prop
def PG (X : Cx) (target : Expr) (t : TG) : Prop :=
  ∀ (pins : List (Addr × Obj)) (s : Shared) (σ : St) (H : Hp) (v : V) (u : Value) (Q : St → Hp → Prop), Inv X pins σ H s → RelV v u → t v σ H Q →
    wpAny (model X.prog X.w) X.A (assign target X.env u) (fun _ s' => ∃ σ' H', Inv X pins σ' H' s' ∧ Q σ' H') X.xe s
def PGs (X : Cx) (ts : List Expr) (t : TGs) : Prop :=
  ∀ (pins : List (Addr × Obj)) (s : Shared) (σ : St) (H : Hp) (vs : List V) (us : List Value) (Q : St → Hp → Prop), Inv X pins σ H s → Vals vs us → t vs σ H Q →
    wpAny (model X.prog X.w) X.A (assignInOrder ((assignEach ts X.env).map (·.2)) us) (fun _ s' => ∃ σ' H', Inv X pins σ' H' s' ∧ Q σ' H') X.xe s
abbrev TSet := V → V → V → Hp → (Hp → Prop) → Prop
def PSet (X : Cx) (t : TSet) : Prop :=
  ∀ (pins : List (Addr × Obj)) (s : Shared) (σ : St) (H : Hp) (o i v : V) (ov iv u : Value) (Q : Hp → Prop), Inv X pins σ H s → RelV o ov → RelV i iv → RelV v u → t o i v H Q →
    wpAny (model X.prog X.w) X.A (setItem ov iv u) (fun _ s' => ∃ H', Inv X pins σ H' s' ∧ Q H') X.xe s
abbrev TIp := V → V → Hp → VK → Prop
def PIp (X : Cx) (op : Operator) (t : TIp) : Prop :=
  ∀ (pins : List (Addr × Obj)) (s : Shared) (σ : St) (H : Hp) (x y : V) (v u : Value) (Q : VK), Inv X pins σ H s → RelV x v → RelV y u → t x y H Q →
    wpAny (model X.prog X.w) X.A (inplaceOp op v u) (EP X pins σ Q) X.xe s
section
variable {X : Cx} {pos : Pos}
def gName (i : Nat) : TG := fun v σ H Q => Q (σ.set i (some v)) H
theorem pg_name {i : Nat} {x : Str} (hN : X.N.Nodup) (hi : X.N[i]? = some x) (hx : Loc X.env.scope x) (hf : X.fn x = true ∨ X.env.scope.names.lookup x = some .local := by first | exact .inl rfl | exact .inr rfl | assumption) : PG X (.Name x pos) (gName i) := by
  intro pins s σ H v u Q I r h
  exact wpAny_assign_Name (store_ok I hN hi hx r (fun s' I' => ⟨_, H, I', h⟩) hf)
def gNil : TGs := fun vs σ H Q => vs = [] ∧ Q σ H
def gCons (t : TG) (u : TGs) : TGs := fun vs σ H Q => ∃ v r, vs = v :: r ∧ t v σ H fun σ' H' => u r σ' H' Q
theorem pgs_nil : PGs X [] gNil := by
  intro pins s σ H vs us Q I r h
  obtain ⟨e, h⟩ := h
  subst e
  cases r
  exact assignInOrder_nil ⟨σ, H, I, h⟩
theorem pgs_cons {e : Expr} {es : List Expr} {t : TG} {u : TGs} (h1 : PG X e t) (h2 : PGs X es u)
    (hs : (assignEach (e :: es) X.env).map (·.2) = assign e X.env :: (assignEach es X.env).map (·.2) := by rfl) : PGs X (e :: es) (gCons t u) := by
  intro pins s σ H vs us Q I r h
  obtain ⟨v, vr, e1, h⟩ := h
  subst e1
  cases r with
  | cons r rr =>
    rw [hs]
    refine assignInOrder_cons (thn (h1 pins s σ H _ _ _ I r h) fun _ s1 ⟨σ1, H1, I1, q1⟩ => ?_)
    exact h2 pins s1 σ1 H1 _ _ Q I1 rr q1
def gTup (K : PySem.W.Frag) (n : Nat) (t : TGs) : TG := fun v σ H Q => ∃ a xs, v = .ref a ∧ SqT K H a xs ∧ xs.length = n ∧ t xs σ H Q
theorem pg_tup {es : List Expr} {k : Nat} {t : TGs} {n : Nat} (hc : X.calm = true) (h : PGs X es t)
    (hn : (assignEach es X.env).length = n := by rfl) (hst : (assignEach es X.env).findIdx? (·.1) = none := by rfl) : PG X (.Tuple es k pos) (gTup X.K n t) := by
  intro pins s σ H v u Q I r hw
  obtain ⟨a, xs, e1, hq, hl, hw⟩ := hw
  subst e1
  cases r
  obtain ⟨its, rv, ht, hz⟩ := I.tuple hq
  refine assign_Tuple_tuple (I.ok.hd hc) ht (by simp [hn, ← hl, rv.length]) hst fun h' hx => ?_
  have I1 : Inv X pins σ H { s with heap := h' } := I.kept (t' := s.toks) fun b o e => hx b o (Nat.ne_of_lt (Heap.lt_size e)) e
  exact h pins _ σ H xs _ Q I1 (by simpa using rv) hw
def gSub (to ti : TE) (t : TSet) : TG := fun v σ H Q => to σ H fun o H1 => ti σ H1 fun i H2 => t o i v H2 fun H3 => Q σ H3
theorem pg_sub {o i : Expr} {to ti : TE} {t : TSet} (ho : PE X o to) (hi : PE X i ti) (hs : PSet X t)
    (ha : ∀ v, assign (.Subscript o i pos) X.env v = (do
      let ov ← holding [v] (eval o X.env)
      let iv ← holding [v, ov] (eval i X.env)
      standAt pos
      holding [v, ov, iv] (setItem ov iv v)
      release [v, ov, iv] []) := by intro _; rfl) : PG X (.Subscript o i pos) (gSub to ti t) := by
  intro pins s σ H v u Q I r h
  rw [ha]
  refine wpAny_bind (wpAny_holding (thn (ho pins s σ H _ I h) fun ov s1 ⟨x, H1, I1, r1, q1⟩ => ?_))
  refine wpAny_bind (wpAny_holding (thn (hi pins s1 σ H1 _ I1 q1) fun iv s2 ⟨y, H2, I2, r2, q2⟩ => ?_))
  refine wpAny_bind (wpAny_standAt (wpAny_bind (wpAny_holding (thn (hs pins s2 σ H2 x y v ov iv u _ I2 r1 r2 r q2) fun _ s3 ⟨H3, I3, q3⟩ => ?_))))
  exact wpAny_release ⟨σ, H3, I3, q3⟩
def tAsg (te : TE) (g : TG) : TS := fun D σ H => te σ H fun x H1 => g x σ H1 D.nx
theorem ps_asg {tg e : Expr} {te : TE} {g : TG} (he : PE X e te) (hg : PG X tg g) (hs : swapsWithSole [tg] e pos.line X.env = pure false := by rfl) (hw : swappedStores [tg] e X.env = pure none := by rfl)
    (h1 : (assignEach [tg] X.env).map (·.2) = [assign tg X.env] := by rfl) : PS X (.Assign [tg] e pos) (tAsg te g) := by
  intro pins s σ H D I h
  refine wpAny_Assign_stores (thn (he pins s σ H _ I h) fun v s1 ⟨x, H1, I1, r1, q1⟩ => ?_) hs hw
  rw [h1]
  exact thn (hg pins s1 σ H1 x v _ I1 r1 q1) fun _ s2 q => q
theorem ps_set {i : Nat} {x : Str} {e : Expr} {te : TE} {pos' : Pos} (hN : X.N.Nodup) (hi : X.N[i]? = some x) (hx : Loc X.env.scope x) (he : PE X e te) (hs : swapsWith e (some (.Name x pos')) pos.line X.env = pure false := by rfl) (hf : X.fn x = true ∨ X.env.scope.names.lookup x = some .local := by first | exact .inl rfl | exact .inr rfl | assumption) :
    PS X (.Assign [.Name x pos'] e pos) (tAsg te (gName i)) := by
  intro pins s σ H D I h
  refine wpAny_Assign_Name (thn (he pins s σ H _ I h) fun v s1 ⟨y, H1, I1, r1, q1⟩ => ?_) hs
  exact store_ok I1 hN hi hx r1 (fun s2 I2 => ⟨_, H1, I2, q1⟩) hf
def tPar (i j : Nat) (ta : TA) : TS := fun D σ H => ta σ H fun vs H1 => ∃ v w, vs = [v, w] ∧ D.nx ((σ.set i (some v)).set j (some w)) H1
theorem ps_par {i j : Nat} {x y : Str} {a b : Expr} {ta : TA} {px py pt : Pos} {kt k2 pt2} (hc : X.calm = true) (hN : X.N.Nodup) (hi : X.N[i]? = some x) (hj : X.N[j]? = some y) (hij : i ≠ j)
    (hx : X.env.scope.names.lookup x = some .local) (hy : X.env.scope.names.lookup y = some .local) (ha : PA X [a, b] ta)
    (hw : swappedStores [.Tuple [.Name x px, .Name y py] kt pt] (.Tuple [a, b] k2 pt2) X.env = pure (some [x, y]))
    (hs : swapsWithSole [.Tuple [.Name x px, .Name y py] kt pt] (.Tuple [a, b] k2 pt2) pos.line X.env = pure false := by rfl) :
    PS X (.Assign [.Tuple [.Name x px, .Name y py] kt pt] (.Tuple [a, b] k2 pt2) pos) (tPar i j ta) := by
  intro pins s σ H D I h
  rw [exec_Assign_arm]
  refine wpAny_bind (wpAny_standAt ?_)
  rw [hs]
  refine wpAny_bind (wpAny_pure ?_)
  rw [if_neg (by decide)]
  refine wpAny_bind (Tuple_ (thn (ha _ pins s σ H _ I h) fun us s1 ⟨vs, H1, I1, r1, q1⟩ => ?_))
  obtain ⟨v, w, e1, q1⟩ := q1
  subst e1
  obtain ⟨u1, u2, rfl, rv, rw'⟩ : ∃ u1 u2, us = [u1, u2] ∧ RelV v u1 ∧ RelV w u2 := by
    cases r1 with
    | cons p q =>
      cases q with
      | cons p' q' =>
        cases q'
        exact ⟨_, _, rfl, p, p'⟩
  refine wpAny_newObj_type ?_ (by show 2 ≤ sizeLine; decide)
  have I2 : Inv X pins σ H1 { s1 with heap := s1.heap.push { cls := .type "tuple", data := .seq [u1, u2].toArray } } := I1.kept (t' := s1.toks) fun b o e => Heap.get?_push_of_some _ e
  rw [hw]
  refine wpAny_bind (wpAny_pure ?_)
  show wpAny (model X.prog X.w) X.A (do rule "assign.swapped-stores"; let items ← unpackItems (.ref s1.heap.objs.size) 2 none; assignInOrder [fun v => bindName X.env y v, fun v => bindName X.env x v] items.reverse; pure Flow.next) _ _ _
  refine wpAny_bind (wpAny_rule (wpAny_bind (unpackItems_tuple (items := #[u1, u2]) (I.ok.hd hc) (IsTup.new s1.heap _) fun h' hx' => ?_)))
  have I3 := I2.kept (h' := h') (t' := s1.toks) fun b o e => hx' b o (Nat.ne_of_lt (Heap.lt_size e)) e
  show wpAny _ _ (assignInOrder [fun v => bindName X.env y v, fun v => bindName X.env x v] [u2, u1] >>= fun _ => pure Flow.next) _ _ _
  refine wpAny_bind (assignInOrder_cons (wpAny_bindName (store_ok I3 hN hj (.inl hy) rw' (fun s2 I4 => ?_) (.inr hy))))
  refine assignInOrder_cons (wpAny_bindName (store_ok I4 hN hi (.inl hx) rv (fun s3 I5 => assignInOrder_nil (wpAny_pure ?_)) (.inr hx)))
  rw [List.set_comm _ _ (Ne.symm hij)] at I5
  exact ⟨_, H1, I5, q1⟩
def tAug (i : Nat) (te : TE) (ti : TIp) : TS := fun D σ H => ∃ x, σ[i]? = some (some x) ∧ te σ H fun y H1 => ti x y H1 fun z H2 => D.nx (σ.set i (some z)) H2
theorem ps_aug {i : Nat} {x : Str} {e : Expr} {te : TE} {op : Operator} {ti : TIp} {pos' : Pos} (hN : X.N.Nodup) (hi : X.N[i]? = some x) (hx : Loc X.env.scope x) (he : PE X e te) (ho : PIp X op ti) (hf : X.fn x = true ∨ X.env.scope.names.lookup x = some .local := by first | exact .inl rfl | exact .inr rfl | assumption) :
    PS X (.AugAssign (.Name x pos') op e pos) (tAug i te ti) := by
  intro pins s σ H D I h
  obtain ⟨v, e1, h⟩ := h
  obtain ⟨m, hn, hl⟩ := I.loc
  have vis : Vis X.env.scope x := by rcases hx with k | k; exact .inl k; exact .inr (.inl k)
  obtain ⟨u, r, l⟩ := hl i x v hi e1 vis
  refine wpAny_AugAssign_Name ?_
  have go : wpAny (model X.prog X.w) X.A (eval e X.env) (fun w s₂ => wpAny (model X.prog X.w) X.A (inplaceOp op u w) (fun r s₃ => wpAny (model X.prog X.w) X.A (storeName X.env x r) (fun _ => SP X pins D .next) X.xe s₃) X.xe s₂) X.xe s := by
    refine thn (he pins s σ H _ I h) fun w s1 ⟨y, H1, I1, r1, q1⟩ => ?_
    refine thn (ho pins s1 σ H1 v y u w _ I1 r r1 q1) fun z s2 ⟨zv, H2, I2, r2, q2⟩ => ?_
    exact store_ok I2 hN hi hx r2 (fun s3 I3 => ⟨_, H2, I3, q2⟩) hf
  rcases l with ⟨hk, hm⟩ | ⟨hk, c, hc, hcell⟩
  · exact wpAny_loadName_local I.ok.kind hk hn hm go
  · rcases hk with hk | hk
    · exact wpAny_loadName_cell I.ok.kind hk hc hcell go
    · rcases hx with k | k
      · have : X.env.scope.names.lookup x = some .free := hk
        rw [k] at this; cases this
      · have : X.env.scope.names.lookup x = some .free := hk
        rw [k] at this; cases this
def tAugS (to ti te : TE) (tget : V → V → Hp → VK → Prop) (tip : TIp) (tset : TSet) : TS := fun D σ H => to σ H fun o H1 => ti σ H1 fun i H2 => tget o i H2 fun x H3 => te σ H3 fun y H4 => tip x y H4 fun z H5 => tset o i z H5 fun H6 => D.nx σ H6
def PGet (X : Cx) (t : V → V → Hp → VK → Prop) : Prop :=
  ∀ (pins : List (Addr × Obj)) (s : Shared) (σ : St) (H : Hp) (o i : V) (ov iv : Value) (Q : VK), Inv X pins σ H s → RelV o ov → RelV i iv → t o i H Q →
    wpAny (model X.prog X.w) X.A (getItem ov iv) (EP X pins σ Q) X.xe s
theorem ps_augS {o i e : Expr} {to ti te : TE} {tget : V → V → Hp → VK → Prop} {tip : TIp} {tset : TSet} {op : Operator} {tpos : Pos} (ho : PE X o to) (hi : PE X i ti) (hg : PGet X tget) (he : PE X e te) (hp : PIp X op tip) (hs : PSet X tset)
    (ha : ∀ ov iv new, augStore i ov iv new = (do holding [new, ov, iv] (setItem ov iv new); release [new, ov, iv] []; pure .next) := by intros; rfl) : PS X (.AugAssign (.Subscript o i tpos) op e pos) (tAugS to ti te tget tip tset) := by
  intro pins s σ H D I h
  refine wpAny_AugAssign_SubscriptAny (thn (ho pins s σ H _ I h) fun ov s1 ⟨x1, H1, I1, r1, q1⟩ => ?_) ha
  refine thn (hi pins s1 σ H1 _ I1 q1) fun iv s2 ⟨x2, H2, I2, r2, q2⟩ => ?_
  refine thn (hg pins s2 σ H2 x1 x2 ov iv _ I2 r1 r2 q2) fun old s3 ⟨x3, H3, I3, r3, q3⟩ => ?_
  refine thn (he pins s3 σ H3 _ I3 q3) fun v s4 ⟨x4, H4, I4, r4, q4⟩ => ?_
  refine thn (hp pins s4 σ H4 x3 x4 old v _ I4 r3 r4 q4) fun new s5 ⟨x5, H5, I5, r5, q5⟩ => ?_
  exact thn (hs pins s5 σ H5 x1 x2 x5 ov iv new _ I5 r1 r2 r5 q5) fun _ s6 ⟨H6, I6, q6⟩ => ⟨σ, H6, I6, q6⟩
def ipI (f : Int → Int → Int) : TIp := fun x y H Q => ∃ i j, x = .int i ∧ y = .int j ∧ Q (.int (f i j)) H
theorem ip_add : PIp X .Add (ipI fun i j => i + j) := by
  intro pins s σ H x y v u Q I r1 r2 h
  obtain ⟨i, j, e1, e2, q⟩ := h
  subst e1; subst e2
  obtain ⟨t, rfl⟩ := r1
  obtain ⟨t', rfl⟩ := r2
  exact iadd_int ⟨.int _, H, I.tok _, ⟨_, rfl⟩, q⟩
theorem ip_sub : PIp X .Sub (ipI fun i j => i - j) := by
  intro pins s σ H x y v u Q I r1 r2 h
  obtain ⟨i, j, e1, e2, q⟩ := h
  subst e1; subst e2
  obtain ⟨t, rfl⟩ := r1
  obtain ⟨t', rfl⟩ := r2
  exact isub_int ⟨.int _, H, I.tok _, ⟨_, rfl⟩, q⟩
end
section
variable {X : Cx} {pos : Pos}
def tWhile (c : TT) (tb : TS) : TS := fun D σ H => ∃ W : Nat → St → Hp → Prop, (∃ m, W m σ H) ∧ ∀ m σ H, W m σ H →
  c σ H fun b H1 => if b = true then ∃ N : St → Hp → Prop, (∀ σ' H', N σ' H' → ∃ m', m' < m ∧ W m' σ' H') ∧ tb { D with nx := N, ct := N, bk := D.nx } σ H1 else D.nx σ H1
theorem ps_while {c : Expr} {body : List Stmt} {tc : TT} {tb : TS} (hp : PassesOwn (model X.prog X.w) X.A X.env X.xe) (hc : PT X c tc) (hb : PSs X body tb) : PS X (.While c body [] pos) (tWhile tc tb) := by
  intro pins s σ H D I h
  obtain ⟨W, ⟨m0, w0⟩, turn⟩ := h
  refine wpAny_While (codeAny_whileLoop (fun n s' => ∃ σ' H', Inv X pins σ' H' s' ∧ W n σ' H') ?_ m0 ⟨σ, H, I, w0⟩)
  rintro n s1 ⟨σ1, H1, I1, w1⟩
  refine wpAny_passesOwn hp (thn (hc pins s1 σ1 H1 _ I1 (turn n σ1 H1 w1)) fun b s2 ⟨H2, I2, q2⟩ => ?_)
  cases b with
  | true =>
    obtain ⟨N, hN, q2⟩ := q2
    rw [if_pos rfl]
    refine wpAny_passesOwn hp (thn (hb pins s2 σ1 H2 _ I2 q2) fun f s3 q3 => ?_)
    cases f with
    | next =>
      obtain ⟨σ3, H3, I3, n3⟩ := q3
      obtain ⟨m', hm, w3⟩ := hN σ3 H3 n3
      exact ⟨m', hm, σ3, H3, I3, w3⟩
    | cont =>
      obtain ⟨σ3, H3, I3, n3⟩ := q3
      obtain ⟨m', hm, w3⟩ := hN σ3 H3 n3
      exact ⟨m', hm, σ3, H3, I3, w3⟩
    | brk => exact q3
    | ret v => exact q3
  | false =>
    rw [if_neg Bool.false_ne_true]
    exact wpAny_execs_nil ⟨σ1, H2, I2, q2⟩
end
structure It where
  go : Nat → Hp → Prop
  yld : Nat → Hp → V → Hp → Prop
  stop : Nat → Hp → Prop
def FpOk (X : Cx) (pins : List (Addr × Obj)) (H : Hp) (b : Addr) : Prop :=
  H b = none ∧ b ≠ X.env.locals ∧ b ∉ X.fs ∧ (b ∈ X.ex ∨ X.s₀.heap.objs.size ≤ b) ∧ (∀ x c, X.env.cells.lookup x = some c → c ≠ b) ∧ ∀ p ∈ X.pn ++ pins, p.1 ≠ b
theorem Inv.fpOk {X : Cx} {pins : List (Addr × Obj)} {σ : St} {H H' : Hp} {s : Shared} {b : Addr} (I : Inv X pins σ H s) (hb : s.heap.objs.size ≤ b) (hn : H' b = none) : FpOk X pins H' b := by
  refine ⟨hn, Nat.ne_of_gt (Nat.lt_of_lt_of_le I.lt hb), I.nofs hb, .inr (Nat.le_trans I.sz hb), fun x c e z => ?_, fun p hp z => ?_⟩
  · obtain ⟨v, q⟩ := I.cell x c e
    exact absurd (Nat.lt_of_lt_of_le q.lt (by rw [z]; exact hb)) (Nat.lt_irrefl _)
  · exact absurd (Nat.lt_of_lt_of_le (Heap.lt_size (I.pin p hp).1) (by rw [z]; exact hb)) (Nat.lt_irrefl _)
structure Turn (P : Program) (w : World) (K : PySem.W.Frag) (tg : Expr) (J : It) (fp : List Addr) (it : Addr) (tn : Nat → Heap → Prop) (nm : Bool) : Prop where
  mem : it ∈ fp
  obj : ∀ i h, tn i h → ∀ b ∈ fp, ∃ o, h.get? b = some o ∧ ∀ v, o.data ≠ .cell v
  keep : ∀ i h h', tn i h → (∀ b ∈ fp, ∀ o, h.get? b = some o → h'.get? b = some o) → tn i h'
  item : ∀ (X : Cx), X.prog = P → X.w = w → X.K = K → (nm = true → X.calm = true) → ∀ (i : Nat) (pins : List (Addr × Obj)) (s : Shared) (σ : St) (H : Hp) (E : Value → Shared → Prop), Inv X pins σ H s → (∀ b ∈ fp, FpOk X pins H b) → tn i s.heap → J.go i H →
    wpAny (model P w) X.A (pyNext (.ref it)) (fun r s1 => ∃ u, r = some u ∧
      wpAny (model P w) X.A (letOwnedTupleGo tg (.ref it) u) (fun _ s2 => ∃ x H', Inv X pins σ H' s2 ∧ RelV x u ∧ J.yld i H x H' ∧ tn (i + 1) s2.heap ∧ ∀ b ∈ fp, H' b = none) E s1) E s
  done : ∀ (X : Cx), X.prog = P → X.w = w → X.K = K → (nm = true → X.calm = true) → ∀ (i : Nat) (pins : List (Addr × Obj)) (s : Shared) (σ : St) (H : Hp) (E : Value → Shared → Prop), Inv X pins σ H s → (∀ b ∈ fp, FpOk X pins H b) → tn i s.heap → J.stop i H →
    wpAny (model P w) X.A (pyNext (.ref it)) (fun r s1 => r = none ∧ Inv X pins σ H s1) E s
  self : ∀ (A : Around) (i : Nat) (s : Shared) (Q : Value → Shared → Prop) (E : Value → Shared → Prop), tn i s.heap → Q (.ref it) s → wpAny (model P w) A (pyIter (.ref it)) Q E s
def TurnX (X : Cx) (tg : Expr) (J : It) (fp : List Addr) (it : Addr) (tn : Nat → Heap → Prop) : Prop := ∃ nm, Turn X.prog X.w X.K tg J fp it tn nm ∧ (nm = true → X.calm = true)
theorem TurnX.of {X : Cx} {tg : Expr} {J : It} {fp : List Addr} {it : Addr} {tn : Nat → Heap → Prop} (T : Turn X.prog X.w X.K tg J fp it tn false) : TurnX X tg J fp it tn := ⟨false, T, fun z => by cases z⟩
abbrev TI := St → Hp → (It → Hp → Prop) → Prop
def PIE (X : Cx) (pins : List (Addr × Obj)) (σ : St) (tg : Expr) (R : It → Hp → Prop) (itv : Value) (s2 : Shared) : Prop :=
  ∃ (it : Addr) (fp : List Addr) (tn : Nat → Heap → Prop) (J : It) (H' : Hp), itv = .ref it ∧ Inv X pins σ H' s2 ∧ TurnX X tg J fp it tn ∧ tn 0 s2.heap ∧ (∀ b ∈ fp, FpOk X pins H' b) ∧ R J H'
def PI (X : Cx) (tg iter : Expr) (wi : TI) : Prop :=
  ∀ (pins : List (Addr × Obj)) (s : Shared) (σ : St) (H : Hp) (R : It → Hp → Prop), Inv X pins σ H s → wi σ H R →
    wpAny (model X.prog X.w) X.A (eval iter X.env) (fun v s1 => wpAny (model X.prog X.w) X.A (pyIter v) (PIE X pins σ tg R) X.xe s1) X.xe s
theorem go_of {M : Model} {A : Around} {E : Value → Shared → Prop} {s : Shared} {tg : Expr} {it : Addr} {u : Value} {o : Obj} {n : String} {vs : Array Value} {Q : Unit → Shared → Prop} (ho : s.heap.get? it = some o) (hc : o.cls = .type n) (hd : o.data = .fields vs)
    (hn : ["enumerate", "zip", "dict_itemiterator", "dict_reverseitemiterator", "odict_iterator", "itertools.zip_longest", "itertools.pairwise"].contains n = false) (hQ : Q () s) : wpAny M A (letOwnedTupleGo tg (.ref it) u) Q E s := by
  unfold letOwnedTupleGo
  cases tg <;> first
    | exact wpAny_pure hQ
    | (cases u <;> first
        | exact wpAny_pure hQ
        | (refine wpAny_bind (wpAny_load ho ?_)
           rw [hc, hd]
           show wpAny M A (if (["enumerate", "zip", "dict_itemiterator", "dict_reverseitemiterator", "odict_iterator", "itertools.zip_longest", "itertools.pairwise"].contains n && vs[0]? == some (rawInt _)) = true then _ else _) Q E s
           rw [if_neg (by intro h; rw [hn, Bool.false_and] at h; cases h)]
           exact wpAny_pure hQ))
def Itl (K : PySem.W.Frag) (a : Addr) : It :=
  ⟨fun i H => ∃ xs x, SqL K H a xs ∧ xs[i]? = some x, fun i H x H' => H' = H ∧ ∀ xs, SqL K H a xs → xs[i]? = some x, fun i H => ∃ xs, SqL K H a xs ∧ xs.length ≤ i⟩
def Itt (K : PySem.W.Frag) (a : Addr) : It :=
  ⟨fun i H => ∃ xs x, SqT K H a xs ∧ xs[i]? = some x, fun i H x H' => H' = H ∧ ∀ xs, SqT K H a xs → xs[i]? = some x, fun i H => ∃ xs, SqT K H a xs ∧ xs.length ≤ i⟩
def Itr (lo : Int) (n : Nat) : It := ⟨fun i _ => i < n, fun i H x H' => H' = H ∧ x = .int (lo + i), fun i _ => n ≤ i⟩
theorem turn_list {P : Program} {w : World} {K : PySem.W.Frag} {tg : Expr} (a it : Addr) : Turn P w K tg (Itl K a) [it] it (fun i h => h.IsListIter it a i) false where
  mem := by simp
  obj := fun i h st b hb => by
    have e : b = it := by simpa using hb
    subst e
    obtain ⟨o, e, c, d⟩ := st
    exact ⟨o, e, fun v z => by rw [d] at z; cases z⟩
  keep := fun i h h' st k => st.at fun o e => k it (by simp) o e
  item := by
    intro X hP hw hK hc i pins s σ H E I hf st hg
    subst hP hw hK
    obtain ⟨xs, x, hq, hx⟩ := hg
    obtain ⟨its, rv, p, hz⟩ := I.list hq
    obtain ⟨u, hu, ru⟩ := rv.get hx
    obtain ⟨f0, f1, f2, f3, f4, f5⟩ := hf it (by simp)
    refine wpAny_pyNext_list_item st p.isList (x := u) (by simpa using hu) fun h' st' sb => ?_
    have I1 : Inv X pins σ H { s with heap := h' } := I.turned (t' := s.toks) (fun b o hb e => (sb.2 b hb).trans e) f0 f1 f3 f4 f5
    obtain ⟨o, e, c, d⟩ := id st'
    exact ⟨u, rfl, go_of (s := { s with heap := h' }) e c d (by decide) ⟨x, H, I1, ru, ⟨rfl, fun ys hy => by rw [I.list_inj hy hq]; exact hx⟩, st', fun b hb => (hf b hb).1⟩⟩
  done := by
    intro X hP hw hK hc i pins s σ H E I hf st hg
    subst hP hw hK
    obtain ⟨xs, hq, hx⟩ := hg
    obtain ⟨its, rv, p, hz⟩ := I.list hq
    obtain ⟨f0, f1, f2, f3, f4, f5⟩ := hf it (by simp)
    have hl := rv.length
    exact list_on (I.hn.now I.hok) st p.isList (by simp; omega) fun h' eb => ⟨rfl, I.turned (t' := s.toks) (fun b o hb e => eb b o hb e) f0 f1 f3 f4 f5⟩
  self := fun _ _ _ _ _ st h => wpAny_pyIter_listiter st h
theorem turn_tuple {P : Program} {w : World} {K : PySem.W.Frag} {tg : Expr} (a it : Addr) : Turn P w K tg (Itt K a) [it] it (fun i h => h.IsTupleIter it a i) false where
  mem := by simp
  obj := fun i h st b hb => by
    have e : b = it := by simpa using hb
    subst e
    obtain ⟨o, e, c, d⟩ := st
    exact ⟨o, e, fun v z => by rw [d] at z; cases z⟩
  keep := fun i h h' st k => st.at fun o e => k it (by simp) o e
  item := by
    intro X hP hw hK hc i pins s σ H E I hf st hg
    subst hP hw hK
    obtain ⟨xs, x, hq, hx⟩ := hg
    obtain ⟨its, rv, p, hz⟩ := I.tuple hq
    obtain ⟨u, hu, ru⟩ := rv.get hx
    obtain ⟨f0, f1, f2, f3, f4, f5⟩ := hf it (by simp)
    refine wpAny_pyNext_tuple_item st (show s.heap.IsTuple a its.toArray from p) (x := u) (by simpa using hu) fun h' st' sb => ?_
    have I1 : Inv X pins σ H { s with heap := h' } := I.turned (t' := s.toks) (fun b o hb e => (sb.2 b hb).trans e) f0 f1 f3 f4 f5
    obtain ⟨o, e, c, d⟩ := id st'
    exact ⟨u, rfl, go_of (s := { s with heap := h' }) e c d (by decide) ⟨x, H, I1, ru, ⟨rfl, fun ys hy => by rw [I.tuple_inj hy hq]; exact hx⟩, st', fun b hb => (hf b hb).1⟩⟩
  done := by
    intro X hP hw hK hc i pins s σ H E I hf st hg
    subst hP hw hK
    obtain ⟨xs, hq, hx⟩ := hg
    obtain ⟨its, rv, p, hz⟩ := I.tuple hq
    obtain ⟨f0, f1, f2, f3, f4, f5⟩ := hf it (by simp)
    have hl := rv.length
    exact tuple_on (I.hn.now I.hok) st (show s.heap.IsTuple a its.toArray from p) (by simp; omega) fun h' eb => ⟨rfl, I.turned (t' := s.toks) (fun b o hb e => eb b o hb e) f0 f1 f3 f4 f5⟩
  self := fun _ _ _ _ _ st h => wpAny_pyIter_tupleiter st h
theorem turn_range {P : Program} {w : World} {K : PySem.W.Frag} {tg : Expr} (it : Addr) (lo : Int) (n : Nat) : Turn P w K tg (Itr lo n) [it] it (fun i h => IsRangeIter h it (lo + (i : Nat) * 1) ((n : Int) - (i : Nat)) 1) false where
  mem := by simp
  obj := fun i h st b hb => by
    have e : b = it := by simpa using hb
    subst e
    exact ⟨_, st, fun v z => by
      have z' : Data.fields _ = Data.cell v := z
      cases z'⟩
  keep := fun i h h' st k => k it (by simp) _ st
  item := by
    intro X hP hw hK hc i pins s σ H E I hf st hg
    subst hP hw hK
    obtain ⟨f0, f1, f2, f3, f4, f5⟩ := hf it (by simp)
    refine wpAny_pyNext_range_item st (by have : i < n := hg; omega) fun h' st' sb => ?_
    obtain ⟨tk, htk⟩ : ∃ tk, tk = s.toks + 1 := ⟨_, rfl⟩
    rw [← htk]
    have I1 : Inv X pins σ H { s with heap := h', toks := tk } := I.turned (fun b o hb e => (sb.2 b hb).trans e) f0 f1 f3 f4 f5
    have st2 : IsRangeIter h' it (lo + ((i + 1 : Nat) : Int) * 1) ((n : Int) - ((i + 1 : Nat) : Int)) 1 := by
      rw [show lo + ((i + 1 : Nat) : Int) * 1 = lo + (i : Int) * 1 + 1 by omega, show (n : Int) - ((i + 1 : Nat) : Int) = (n : Int) - (i : Int) - 1 by omega]; exact st'
    refine ⟨_, rfl, go_of (s := { s with heap := h', toks := tk }) (n := "range_iterator") st' rfl rfl (by decide) ⟨.int (lo + i), H, I1, ⟨s.toks, ?_⟩, ⟨rfl, rfl⟩, st2, fun b hb => (hf b hb).1⟩⟩
    rw [Int.mul_one]
  done := by
    intro X hP hw hK hc i pins s σ H E I hf st hg
    subst hP hw hK
    obtain ⟨f0, f1, f2, f3, f4, f5⟩ := hf it (by simp)
    exact range_on (I.hn.now I.hok) st (by have : n ≤ i := hg; omega) fun h' eb => ⟨rfl, I.turned (t' := s.toks) (fun b o hb e => eb b o hb e) f0 f1 f3 f4 f5⟩
  self := fun _ _ _ _ _ st h => wpAny_pyIter_rangeiter st h
end L2
namespace L2
open PySem PySem.Spec PyProof.Rows
section
variable {X : Cx} {tg : Expr}
def iList (K : PySem.W.Frag) (tl : TE) : TI := fun σ H R => tl σ H fun x H1 => ∃ a, x = .ref a ∧ (∃ xs, SqL K H1 a xs) ∧ R (Itl K a) H1
def iTup (K : PySem.W.Frag) (tl : TE) : TI := fun σ H R => tl σ H fun x H1 => ∃ a, x = .ref a ∧ (∃ xs, SqT K H1 a xs) ∧ R (Itt K a) H1
theorem pi_list {l : Expr} {tl : TE} (hl : PE X l tl) : PI X tg l (iList X.K tl) := by
  intro pins s σ H R I h
  refine thn (hl pins s σ H _ I h) fun v s1 ⟨x, H1, I1, r1, q1⟩ => ?_
  obtain ⟨a, e, ⟨xs, hq⟩, q⟩ := q1
  subst e
  cases r1
  obtain ⟨its, rv, p, hz⟩ := I1.list hq
  refine wpAny_pyIter_list p.isList ?_
  refine ⟨s1.heap.objs.size, [s1.heap.objs.size], _, _, H1, rfl, I1.kept (t' := s1.toks) fun b o e => Heap.get?_push_of_some _ e, TurnX.of (turn_list a _), ⟨_, Heap.get?_push_size _ rfl, rfl, rfl⟩, fun b hb => ?_, q⟩
  have e : b = s1.heap.objs.size := by simpa using hb
  subst e
  exact I1.fpOk (Nat.le_refl _) (I1.hok.fresh (Nat.le_refl _))
theorem pi_tup {l : Expr} {tl : TE} (hl : PE X l tl) : PI X tg l (iTup X.K tl) := by
  intro pins s σ H R I h
  refine thn (hl pins s σ H _ I h) fun v s1 ⟨x, H1, I1, r1, q1⟩ => ?_
  obtain ⟨a, e, ⟨xs, hq⟩, q⟩ := q1
  subst e
  cases r1
  obtain ⟨its, rv, p, hz⟩ := I1.tuple hq
  refine wpAny_pyIter_tuple (show s1.heap.IsTuple a its.toArray from p) ?_
  refine ⟨s1.heap.objs.size, [s1.heap.objs.size], _, _, H1, rfl, I1.kept (t' := s1.toks) fun b o e => Heap.get?_push_of_some _ e, TurnX.of (turn_tuple a _), ⟨_, Heap.get?_push_size _ rfl, rfl, rfl⟩, fun b hb => ?_, q⟩
  have e : b = s1.heap.objs.size := by simpa using hb
  subst e
  exact I1.fpOk (Nat.le_refl _) (I1.hok.fresh (Nat.le_refl _))
theorem range_it {pins : List (Addr × Obj)} {σ : St} {H : Hp} {s : Shared} {R : It → Hp → Prop} {E : Value → Shared → Prop} {lo hi : Int} {t u v : Tok} {tk : Nat} (I : Inv X pins σ H s) (h1 : -(2 ^ 62) ≤ lo) (h2 : lo < 2 ^ 62) (h3 : -(2 ^ 62) ≤ hi) (h4 : hi < 2 ^ 62)
    (q : R (Itr lo (hi - lo).toNat) H) : wpAny (model X.prog X.w) X.A (pyIter (.ref s.heap.objs.size)) (PIE X pins σ tg R) E { s with heap := s.heap.push { cls := .type "range", data := .fields #[.int lo t, .int hi u, .int 1 v] }, toks := tk } := by
  refine wpAny_pyIter_range (IsRange.new ..) (small_one h1 h2 h3 h4) ?_
  have I1 : Inv X pins σ H { s with heap := s.heap.push { cls := .type "range", data := .fields #[.int lo t, .int hi u, .int 1 v] }, toks := tk } := I.kept fun b o e => Heap.get?_push_of_some _ e
  refine ⟨(s.heap.push { cls := .type "range", data := .fields #[.int lo t, .int hi u, .int 1 v] }).objs.size, [(s.heap.push { cls := .type "range", data := .fields #[.int lo t, .int hi u, .int 1 v] }).objs.size], _, _, H, rfl,
    I1.kept (t' := tk) fun b o e => Heap.get?_push_of_some _ e, TurnX.of (turn_range _ lo (hi - lo).toNat), ?_, fun b hb => ?_, q⟩
  · have e1 : lo + ((0 : Nat) : Int) * 1 = lo := by simp
    have e2 : (((hi - lo).toNat : Nat) : Int) - ((0 : Nat) : Int) = Builtin.Range.rangeSize lo hi 1 := by rw [rangeSize_one]; split <;> omega
    show IsRangeIter _ _ (lo + ((0 : Nat) : Int) * 1) ((((hi - lo).toNat : Nat) : Int) - ((0 : Nat) : Int)) 1
    rw [e1, e2]
    exact Heap.get?_push_size _ rfl
  · have e : b = (s.heap.push { cls := .type "range", data := .fields #[.int lo t, .int hi u, .int 1 v] }).objs.size := by simpa using hb
    subst e
    exact I1.fpOk (Nat.le_refl _) (I1.hok.fresh (Nat.le_refl _))
def iRng1 (ta : TA) : TI := fun σ H R => ta σ H fun vs H1 => ∃ j : Int, vs = [.int j] ∧ -(2 ^ 62) ≤ j ∧ j < 2 ^ 62 ∧ R (Itr 0 j.toNat) H1
def iRng2 (ta : TA) : TI := fun σ H R => ta σ H fun vs H1 => ∃ i j : Int, vs = [.int i, .int j] ∧ (-(2 ^ 62) ≤ i ∧ i < 2 ^ 62 ∧ -(2 ^ 62) ≤ j ∧ j < 2 ^ 62) ∧ R (Itr i (j - i).toNat) H1
theorem pi_range1 {a : Expr} {ta : TA} {p pos : Pos} (hg : Gl X "range") (hm : X.mg "range" = none) (ha : PA X [a] ta) (hs : starEach [a] X.env = [(false, eval a X.env)] := by rfl) : PI X tg (.Call (.Name "range" p) [a] [] pos) (iRng1 ta) := by
  intro pins s σ H R I h
  refine Call_ (ld_blt I hg hm boot_range (PyProof.Rows.callWith_type1 (thn (ha pos pins s σ H _ I h) fun us s1 ⟨vs, H1, I1, r1, q1⟩ => ?_) hs rfl))
  obtain ⟨j, e, q1, q2, q⟩ := q1
  subst e
  cases r1 with
  | cons r rr =>
    cases rr
    obtain ⟨t, rfl⟩ := r
    exact call_range_1 (range_it I1 (by omega) (by omega) q1 q2 (by simpa using q))
theorem pi_range2 {a b : Expr} {ta : TA} {p pos : Pos} (hg : Gl X "range") (hm : X.mg "range" = none) (ha : PA X [a, b] ta) (hs : starEach [a, b] X.env = [(false, eval a X.env), (false, eval b X.env)] := by rfl) (hs2 : starEach [b] X.env = [(false, eval b X.env)] := by rfl) :
    PI X tg (.Call (.Name "range" p) [a, b] [] pos) (iRng2 ta) := by
  intro pins s σ H R I h
  refine Call_ (ld_blt I hg hm boot_range (PyProof.Rows.callWith_type1 (thn (ha pos pins s σ H _ I h) fun us s1 ⟨vs, H1, I1, r1, q1⟩ => ?_) (by rw [hs, hs2]) (by rw [hs2]; rfl)))
  obtain ⟨i, j, e, ⟨q1, q2, q3, q4⟩, q⟩ := q1
  subst e
  cases r1 with
  | cons r rr =>
    cases rr with
    | cons r' rr =>
      cases rr
      obtain ⟨t, rfl⟩ := r
      obtain ⟨t', rfl⟩ := r'
      exact call_range_2 (range_it I1 q1 q2 q3 q4 q)
def tFor (wi : TI) (g : TG) (tb : TS) : TS := fun D σ H => wi σ H fun J H1 => ∃ W : Nat → Nat → St → Hp → Prop, (∃ m, W 0 m σ H1) ∧ ∀ i m σ H, W i m σ H →
  (J.stop i H ∧ D.nx σ H) ∨ (J.go i H ∧ ∃ N : St → Hp → Prop, (∀ σ' H', N σ' H' → ∃ m', m' < m ∧ W (i + 1) m' σ' H') ∧ ∀ x H', J.yld i H x H' → g x σ H' fun σ2 H2 => tb { D with nx := N, ct := N, bk := D.nx } σ2 H2)
def pinsAt (fp : List Addr) (h : Heap) : List (Addr × Obj) := fp.filterMap fun b => (h.get? b).map fun o => (b, o)
theorem mem_pinsAt {fp : List Addr} {h : Heap} {b : Addr} {o : Obj} (hb : b ∈ fp) (e : h.get? b = some o) : (b, o) ∈ pinsAt fp h := List.mem_filterMap.mpr ⟨b, hb, by rw [e]; rfl⟩
theorem of_pinsAt {fp : List Addr} {h : Heap} {p : Addr × Obj} (hp : p ∈ pinsAt fp h) : p.1 ∈ fp ∧ h.get? p.1 = some p.2 := by
  obtain ⟨b, hb, e⟩ := List.mem_filterMap.mp hp
  cases q : h.get? b with
  | none => rw [q] at e; cases e
  | some o =>
    rw [q] at e
    have e' : (b, o) = p := Option.some.inj e
    subst e'
    exact ⟨hb, q⟩
theorem Inv.pinned {pins : List (Addr × Obj)} {σ : St} {H : Hp} {s : Shared} {fp : List Addr} (I : Inv X pins σ H s) (hf : ∀ b ∈ fp, FpOk X pins H b) (ho : ∀ b ∈ fp, ∃ o, s.heap.get? b = some o ∧ ∀ v, o.data ≠ .cell v) : Inv X (pins ++ pinsAt fp s.heap) σ H s :=
  I.pins_of fun p hp => (List.mem_append.mp hp).elim (fun z => I.pin p (List.mem_append_right _ z)) fun z => by
    obtain ⟨hb, e⟩ := of_pinsAt z
    obtain ⟨f0, f1, f2, _⟩ := hf p.1 hb
    obtain ⟨o, e', d⟩ := ho p.1 hb
    rw [e] at e'; cases e'
    exact ⟨e, f0, f1, f2, d⟩
theorem Inv.unpinned {pins pl : List (Addr × Obj)} {σ : St} {H : Hp} {s : Shared} (I : Inv X (pins ++ pl) σ H s) : Inv X pins σ H s := I.pins_of fun p hp => I.pin p (List.mem_append_right _ (List.mem_append_left _ hp))
theorem ps_for {iter : Expr} {body : List Stmt} {wi : TI} {g : TG} {tb : TS} {pos : Pos} (hp : PassesOwn (model X.prog X.w) X.A X.env X.xe) (hi : PI X tg iter wi) (hg : PG X tg g) (hb : PSs X body tb)
    (hs : ∀ x, foldedSetIterable iter X.env x = pure x := by intro _; rfl) : PS X (.For tg iter body [] pos) (tFor wi g tb) := by
  intro pins s σ H D I h
  refine wpAny_For (thn (hi pins s σ H _ I h) fun v s1 h1 => thn h1 fun itv s2 h2 => ?_) hs
  obtain ⟨it, fp, tn, J, H2, e, I2, T, st2, f2, W, ⟨m0, w0⟩, turn⟩ := h2
  subst e
  obtain ⟨nm, T, hc⟩ := T
  have stat : ∀ {H' : Hp}, (∀ b ∈ fp, H' b = none) → ∀ b ∈ fp, FpOk X pins H' b := fun hn b hb => ⟨hn b hb, (f2 b hb).2⟩
  refine codeAny_forLoop_any (fun n s' => ∃ i σ' H', Inv X pins σ' H' s' ∧ tn i s'.heap ∧ (∀ b ∈ fp, H' b = none) ∧ W i n σ' H') ?_ m0 ⟨0, σ, H2, I2, st2, fun b hb => (f2 b hb).1, w0⟩
  rintro n s3 ⟨i, σ3, H3, I3, st3, fr3, w3⟩
  rcases turn i n σ3 H3 w3 with ⟨stop, qn⟩ | ⟨go, N, hN, step⟩
  · refine wpAny_passesOwn hp (thn (T.done X rfl rfl rfl hc i pins s3 σ3 H3 X.xe I3 (stat fr3) st3 stop) fun r s4 ⟨hr, I4⟩ => ?_)
    subst hr
    exact wpAny_execs_nil ⟨σ3, H3, I4, qn⟩
  · refine wpAny_passesOwn hp (thn (T.item X rfl rfl rfl hc i pins s3 σ3 H3 X.xe I3 (stat fr3) st3 go) fun r s4 ⟨u, hr, h4⟩ => ?_)
    subst hr
    refine wpAny_passesOwn hp (thn h4 fun _ s5 ⟨x, H5, I5, r5, y5, st5, fr5⟩ => ?_)
    have I5' := I5.pinned (stat fr5) (T.obj _ _ st5)
    refine wpAny_passesOwn hp (thn (hg _ s5 σ3 H5 x u _ I5' r5 (step x H5 y5)) fun _ s6 ⟨σ6, H6, I6, q6⟩ => ?_)
    refine wpAny_passesOwn hp (thn (hb _ s6 σ6 H6 _ I6 q6) fun f s7 q7 => ?_)
    have again : ∀ {σ7 : St} {H7 : Hp}, Inv X (pins ++ pinsAt fp s5.heap) σ7 H7 s7 → N σ7 H7 → ∃ m, m < n ∧ ∃ i σ' H', Inv X pins σ' H' s7 ∧ tn i s7.heap ∧ (∀ b ∈ fp, H' b = none) ∧ W i m σ' H' := fun {σ7 H7} I7 n7 => by
      obtain ⟨m', hm, w7⟩ := hN σ7 H7 n7
      refine ⟨m', hm, i + 1, σ7, H7, I7.unpinned, T.keep _ _ _ st5 fun b hb o e => (I7.pin (b, o) (List.mem_append_right _ (List.mem_append_right _ (mem_pinsAt hb e)))).1, fun b hb => ?_, w7⟩
      obtain ⟨o, e, d⟩ := T.obj _ _ st5 b hb
      exact (I7.pin (b, o) (List.mem_append_right _ (List.mem_append_right _ (mem_pinsAt hb e)))).2.1
    cases f with
    | next => obtain ⟨σ7, H7, I7, n7⟩ := q7; exact again I7 n7
    | cont => obtain ⟨σ7, H7, I7, n7⟩ := q7; exact again I7 n7
    | brk => obtain ⟨σ7, H7, I7, q7⟩ := q7; exact ⟨σ7, H7, I7.unpinned, q7⟩
    | ret v => obtain ⟨x7, σ7, H7, I7, r7, q7⟩ := q7; exact ⟨x7, σ7, H7, I7.unpinned, r7, q7⟩
end
theorem for_list {K : PySem.W.Frag} {a : Addr} {xs : List V} {g : TG} {tb : TS} {D : Ends} {σ : St} {H : Hp} (Pv : Nat → St → Hp → Prop) (h0 : Pv 0 σ H) (hl : ∀ i σ H, i ≤ xs.length → Pv i σ H → SqL K H a xs)
    (hs : ∀ i x σ H, xs[i]? = some x → Pv i σ H → g x σ H fun σ2 H2 => tb { D with nx := Pv (i + 1), ct := Pv (i + 1), bk := D.nx } σ2 H2) (hd : ∀ σ H, Pv xs.length σ H → D.nx σ H) :
    ∃ W : Nat → Nat → St → Hp → Prop, (∃ m, W 0 m σ H) ∧ ∀ i m σ H, W i m σ H →
      ((Itl K a).stop i H ∧ D.nx σ H) ∨ ((Itl K a).go i H ∧ ∃ N : St → Hp → Prop, (∀ σ' H', N σ' H' → ∃ m', m' < m ∧ W (i + 1) m' σ' H') ∧ ∀ x H', (Itl K a).yld i H x H' → g x σ H' fun σ2 H2 => tb { D with nx := N, ct := N, bk := D.nx } σ2 H2) := by
  refine ⟨fun i m σ H => m = xs.length - i ∧ i ≤ xs.length ∧ Pv i σ H, ⟨xs.length, by simp, Nat.zero_le _, h0⟩, ?_⟩
  rintro i m σ H ⟨rfl, hi, p⟩
  have q := hl i σ H hi p
  by_cases hlt : i < xs.length
  · refine .inr ⟨⟨xs, xs[i], q, by simp [hlt]⟩, Pv (i + 1), fun σ' H' p' => ⟨xs.length - (i + 1), by omega, rfl, hlt, p'⟩, fun x H' y => ?_⟩
    obtain ⟨e, y⟩ := y
    subst e
    exact hs i x σ _ (y xs q) p
  · have e : i = xs.length := by omega
    subst e
    exact .inl ⟨⟨xs, q, Nat.le_refl _⟩, hd σ H p⟩
theorem for_tup {K : PySem.W.Frag} {a : Addr} {xs : List V} {g : TG} {tb : TS} {D : Ends} {σ : St} {H : Hp} (Pv : Nat → St → Hp → Prop) (h0 : Pv 0 σ H) (hl : ∀ i σ H, i ≤ xs.length → Pv i σ H → SqT K H a xs)
    (hs : ∀ i x σ H, xs[i]? = some x → Pv i σ H → g x σ H fun σ2 H2 => tb { D with nx := Pv (i + 1), ct := Pv (i + 1), bk := D.nx } σ2 H2) (hd : ∀ σ H, Pv xs.length σ H → D.nx σ H) :
    ∃ W : Nat → Nat → St → Hp → Prop, (∃ m, W 0 m σ H) ∧ ∀ i m σ H, W i m σ H →
      ((Itt K a).stop i H ∧ D.nx σ H) ∨ ((Itt K a).go i H ∧ ∃ N : St → Hp → Prop, (∀ σ' H', N σ' H' → ∃ m', m' < m ∧ W (i + 1) m' σ' H') ∧ ∀ x H', (Itt K a).yld i H x H' → g x σ H' fun σ2 H2 => tb { D with nx := N, ct := N, bk := D.nx } σ2 H2) := by
  refine ⟨fun i m σ H => m = xs.length - i ∧ i ≤ xs.length ∧ Pv i σ H, ⟨xs.length, by simp, Nat.zero_le _, h0⟩, ?_⟩
  rintro i m σ H ⟨rfl, hi, p⟩
  have q := hl i σ H hi p
  by_cases hlt : i < xs.length
  · refine .inr ⟨⟨xs, xs[i], q, by simp [hlt]⟩, Pv (i + 1), fun σ' H' p' => ⟨xs.length - (i + 1), by omega, rfl, hlt, p'⟩, fun x H' y => ?_⟩
    obtain ⟨e, y⟩ := y
    subst e
    exact hs i x σ _ (y xs q) p
  · have e : i = xs.length := by omega
    subst e
    exact .inl ⟨⟨xs, q, Nat.le_refl _⟩, hd σ H p⟩
theorem for_range {lo : Int} {n : Nat} {g : TG} {tb : TS} {D : Ends} {σ : St} {H : Hp} (Pv : Nat → St → Hp → Prop) (h0 : Pv 0 σ H)
    (hs : ∀ i σ H, i < n → Pv i σ H → g (.int (lo + i)) σ H fun σ2 H2 => tb { D with nx := Pv (i + 1), ct := Pv (i + 1), bk := D.nx } σ2 H2) (hd : ∀ σ H, Pv n σ H → D.nx σ H) :
    ∃ W : Nat → Nat → St → Hp → Prop, (∃ m, W 0 m σ H) ∧ ∀ i m σ H, W i m σ H →
      ((Itr lo n).stop i H ∧ D.nx σ H) ∨ ((Itr lo n).go i H ∧ ∃ N : St → Hp → Prop, (∀ σ' H', N σ' H' → ∃ m', m' < m ∧ W (i + 1) m' σ' H') ∧ ∀ x H', (Itr lo n).yld i H x H' → g x σ H' fun σ2 H2 => tb { D with nx := N, ct := N, bk := D.nx } σ2 H2) := by
  refine ⟨fun i m σ H => m = n - i ∧ i ≤ n ∧ Pv i σ H, ⟨n, by simp, Nat.zero_le _, h0⟩, ?_⟩
  rintro i m σ H ⟨rfl, hi, p⟩
  by_cases hlt : i < n
  · refine .inr ⟨hlt, Pv (i + 1), fun σ' H' p' => ⟨n - (i + 1), by omega, rfl, hlt, p'⟩, fun x H' y => ?_⟩
    obtain ⟨e, y⟩ := y
    subst e y
    exact hs i σ _ hlt p
  · have e : i = n := by omega
    subst e
    exact .inl ⟨Nat.le_refl _, hd σ H p⟩
theorem while_by {c : TT} {tb : TS} {D : Ends} {σ : St} {H : Hp} (Pv : St → Hp → Prop) (μ : St → Hp → Nat) (h0 : Pv σ H)
    (hs : ∀ σ H, Pv σ H → c σ H fun b H1 => if b = true then tb { D with nx := fun σ' H' => Pv σ' H' ∧ μ σ' H' < μ σ H, ct := fun σ' H' => Pv σ' H' ∧ μ σ' H' < μ σ H, bk := D.nx } σ H1 else D.nx σ H1)
    (mono : ∀ σ H Q Q', (∀ b H1, Q b H1 → Q' b H1) → c σ H Q → c σ H Q') : tWhile c tb D σ H := by
  refine ⟨fun m σ H => m = μ σ H ∧ Pv σ H, ⟨_, rfl, h0⟩, ?_⟩
  rintro m σ H ⟨rfl, p⟩
  refine mono σ H _ _ (fun b H1 q => ?_) (hs σ H p)
  cases b with
  | true => exact ⟨_, fun σ' H' ⟨p', l⟩ => ⟨_, l, rfl, p'⟩, q⟩
  | false => exact q
end L2
namespace L2
open PySem PySem.Spec PyProof.Rows
abbrev R2 := V → V → Hp → VK → Prop
def OpR (X : Cx) (f : Value → Value → Sem Value) (r : R2) : Prop :=
  ∀ (pins : List (Addr × Obj)) (s : Shared) (σ : St) (H : Hp) (x y : V) (v u : Value) (Q : VK), Inv X pins σ H s → RelV x v → RelV y u → r x y H Q →
    wpAny (model X.prog X.w) X.A (f v u) (EP X pins σ Q) X.xe s
def UnR (X : Cx) (f : Value → Sem Value) (r : V → Hp → VK → Prop) : Prop :=
  ∀ (pins : List (Addr × Obj)) (s : Shared) (σ : St) (H : Hp) (x : V) (v : Value) (Q : VK), Inv X pins σ H s → RelV x v → r x H Q →
    wpAny (model X.prog X.w) X.A (f v) (EP X pins σ Q) X.xe s
def CallR (X : Cx) (f : Value) (r : List V → Hp → VK → Prop) : Prop :=
  ∀ (pins : List (Addr × Obj)) (s : Shared) (σ : St) (H : Hp) (xs : List V) (us : List Value) (Q : VK), Inv X pins σ H s → Vals xs us → r xs H Q →
    wpAny (model X.prog X.w) X.A (call f us) (EP X pins σ Q) X.xe s
def TruR (X : Cx) (r : V → Hp → (Bool → Hp → Prop) → Prop) : Prop :=
  ∀ (pins : List (Addr × Obj)) (s : Shared) (σ : St) (H : Hp) (x : V) (v : Value) (Q : Bool → Hp → Prop), Inv X pins σ H s → RelV x v → r x H Q →
    wpAny (model X.prog X.w) X.A (truthy v) (TP X pins σ Q) X.xe s
def tOp (r : R2) (ta tb : TE) : TE := fun σ H Q => ta σ H fun x H1 => tb σ H1 fun y H2 => r x y H2 Q
def tUn (r : V → Hp → VK → Prop) (ta : TE) : TE := fun σ H Q => ta σ H fun x H1 => r x H1 Q
def rI (C : Int → Int → Prop) (g : Int → Int → V) : R2 := fun x y H Q => ∃ i j, x = .int i ∧ y = .int j ∧ C i j ∧ Q (g i j) H
def rI0 (g : Int → Int → V) : R2 := fun x y H Q => ∃ i j, x = .int i ∧ y = .int j ∧ Q (g i j) H
def rU (g : Int → V) : V → Hp → VK → Prop := fun x H Q => ∃ i, x = .int i ∧ Q (g i) H
section
variable {X : Cx} {a b c : Expr} {ta tb tc : TE} {pos : Pos}
theorem binT (ha : PE X a ta) (hb : PE X b tb) {pins : List (Addr × Obj)} {s : Shared} {σ : St} {H : Hp} {R : V → V → Hp → Prop} (I : Inv X pins σ H s)
    (h : ta σ H fun x H1 => tb σ H1 fun y H2 => R x y H2) {Q : Value → Shared → Prop} {f : Value → Value → Sem Value}
    (hf : ∀ v u s2 x y H2, Inv X pins σ H2 s2 → RelV x v → RelV y u → R x y H2 → wpAny (model X.prog X.w) X.A (f v u) Q X.xe s2) :
    wpAny (model X.prog X.w) X.A (eval a X.env) (fun v s₁ => wpAny (model X.prog X.w) X.A (eval b X.env) (fun u s₂ => wpAny (model X.prog X.w) X.A (f v u) Q X.xe s₂) X.xe s₁) X.xe s := by
  refine thn (ha pins s σ H _ I h) fun v s1 ⟨x, H1, I1, r1, q1⟩ => ?_
  refine thn (hb pins s1 σ H1 _ I1 q1) fun u s2 ⟨y, H2, I2, r2, q2⟩ => ?_
  exact hf v u s2 x y H2 I2 r1 r2 q2
theorem pe_op {op : Operator} {r : R2} (ho : OpR X (binaryOp op) r) (ha : PE X a ta) (hb : PE X b tb) : PE X (.BinOp a op b pos) (tOp r ta tb) := by
  intro pins s σ H Q I h
  exact wpAny_BinOp (binT ha hb I h fun v u s2 x y H2 I2 rx ry q => ho pins s2 σ H2 x y v u Q I2 rx ry q)
theorem pe_un {op : UnaryOp} {r : V → Hp → VK → Prop} (ho : UnR X (unaryOp op) r) (ha : PE X a ta) : PE X (.UnaryOp op a pos) (tUn r ta) := by
  intro pins s σ H Q I h
  exact UnaryOp_ (thn (ha pins s σ H _ I h) fun v s1 ⟨x, H1, I1, r1, q1⟩ => ho pins s1 σ H1 x v Q I1 r1 q1)
theorem augR {op : Operator} {r : R2} (ho : OpR X (inplaceOp op) r) {pins : List (Addr × Obj)} {s : Shared} {σ : St} {H : Hp} {x y : V} {v u : Value} {Q : VK} (I : Inv X pins σ H s)
    (rx : RelV x v) (ry : RelV y u) (q : r x y H Q) : wpAny (model X.prog X.w) X.A (inplaceOp op v u) (EP X pins σ Q) X.xe s := ho pins s σ H x y v u Q I rx ry q
theorem opI {f : Value → Value → Sem Value} {C : Int → Int → Prop} {g : Int → Int → Int}
    (rule : ∀ (i j : Int) (t u : Tok) (s : Shared) (Q : Value → Shared → Prop) (E : Value → Shared → Prop), C i j → Q (.int (g i j) s.toks) { s with toks := s.toks + 1 } → wpAny (model X.prog X.w) X.A (f (.int i t) (.int j u)) Q E s) :
    OpR X f (rI C fun i j => .int (g i j)) := by
  intro pins s σ H x y v u Q I rx ry h
  obtain ⟨i, j, rfl, rfl, hc, q⟩ := h
  obtain ⟨t, rfl⟩ := rx
  obtain ⟨t', rfl⟩ := ry
  exact rule i j t t' s _ _ hc ⟨.int (g i j), H, I.tok _, ⟨_, rfl⟩, q⟩
theorem opI0 {f : Value → Value → Sem Value} {g : Int → Int → Int}
    (rule : ∀ (i j : Int) (t u : Tok) (s : Shared) (Q : Value → Shared → Prop) (E : Value → Shared → Prop), Q (.int (g i j) s.toks) { s with toks := s.toks + 1 } → wpAny (model X.prog X.w) X.A (f (.int i t) (.int j u)) Q E s) :
    OpR X f (rI0 fun i j => .int (g i j)) := by
  intro pins s σ H x y v u Q I rx ry h
  obtain ⟨i, j, rfl, rfl, q⟩ := h
  obtain ⟨t, rfl⟩ := rx
  obtain ⟨t', rfl⟩ := ry
  exact rule i j t t' s _ _ ⟨.int (g i j), H, I.tok _, ⟨_, rfl⟩, q⟩
theorem opB0 {f : Value → Value → Sem Value} {g : Int → Int → Bool}
    (rule : ∀ (i j : Int) (t u : Tok) (s : Shared) (Q : Value → Shared → Prop) (E : Value → Shared → Prop), Q (.bool (g i j)) s → wpAny (model X.prog X.w) X.A (f (.int i t) (.int j u)) Q E s) :
    OpR X f (rI0 fun i j => .bl (g i j)) := by
  intro pins s σ H x y v u Q I rx ry h
  obtain ⟨i, j, rfl, rfl, q⟩ := h
  obtain ⟨t, rfl⟩ := rx
  obtain ⟨t', rfl⟩ := ry
  exact rule i j t t' s _ _ ⟨.bl (g i j), H, I, rfl, q⟩
def CDiv (i j : Int) : Prop := 0 < j ∧ j < 1073741824
def CDivN (i j : Int) : Prop := j ≠ 0 ∧ j.natAbs < 1073741824
def CPow (i j : Int) : Prop := 0 ≤ j ∧ j ≤ 1000000 ∧ i.natAbs < 2 ^ 64
def CMul (i j : Int) : Prop := (-(2 ^ 64) < i ∧ i < 2 ^ 64) ∨ (-(2 ^ 64) < j ∧ j < 2 ^ 64)
theorem CMul.ok {i j : Int} (h : CMul i j) : IntMulOk i j := by
  rcases h with ⟨h1, h2⟩ | ⟨h1, h2⟩
  · exact .of_left (intBits_le_64 h1 h2)
  · exact .of_right (intBits_le_64 h1 h2)
theorem two_pow_nn (k : Nat) : (0 : Int) ≤ 2 ^ k := by
  rw [two_pow_cast]
  exact Int.natCast_nonneg _
theorem op_add : OpR X (binaryOp .Add) (rI0 fun i j => .int (i + j)) := opI0 fun _ _ _ _ _ _ _ q => add_int q
theorem op_sub : OpR X (binaryOp .Sub) (rI0 fun i j => .int (i - j)) := opI0 fun _ _ _ _ _ _ _ q => sub_int q
theorem op_mul : OpR X (binaryOp .Mult) (rI CMul fun i j => .int (i * j)) := opI fun _ _ _ _ _ _ _ hc q => mul_int q hc.ok
theorem op_fdiv : OpR X (binaryOp .FloorDiv) (rI CDiv fun i j => .int (i / j)) := opI fun i j _ _ _ _ _ hc q => by
  have h1 : (0 : Int) < j := hc.1
  have h2 : j < 1073741824 := hc.2
  exact floordiv_int (by omega) (by rw [Int.fdiv_eq_ediv_of_nonneg i (by omega)]; exact q) (.inl (PyProof.noPylong_small (by omega)))
theorem op_fdivN : OpR X (binaryOp .FloorDiv) (rI CDivN fun i j => .int (i.fdiv j)) := opI fun _ _ _ _ _ _ _ hc q => floordiv_int hc.1 q (.inl (PyProof.noPylong_small hc.2))
theorem op_mod : OpR X (binaryOp .Mod) (rI (fun _ j => 0 < j) fun i j => .int (i % j)) := opI fun i j _ _ _ _ _ hc q => by
  have h1 : (0 : Int) < j := hc
  exact mod_int' (by omega) (by rw [Int.fmod_eq_emod_of_nonneg i (by omega)]; exact q)
theorem op_modN : OpR X (binaryOp .Mod) (rI (fun _ j => j ≠ 0) fun i j => .int (i.fmod j)) := opI fun _ _ _ _ _ _ _ hc q => mod_int' hc q
theorem op_pow : OpR X (binaryOp .Pow) (rI CPow fun i j => .int (i ^ j.toNat)) := opI fun _ _ _ _ _ _ _ hc q => pow_int_small hc.1 hc.2.1 hc.2.2 q
theorem op_shl : OpR X (binaryOp .LShift) (rI CPow fun i j => .int (i * 2 ^ j.toNat)) := opI fun _ _ _ _ _ _ _ hc q => lshift_int_small hc.1 hc.2.1 hc.2.2 q
theorem op_shr : OpR X (binaryOp .RShift) (rI (fun _ j => 0 ≤ j) fun i j => .int (i / 2 ^ j.toNat)) := opI fun i j _ _ _ _ _ hc q =>
  rshift_int hc (by rw [Int.fdiv_eq_ediv_of_nonneg i (two_pow_nn _)]; exact q)
theorem op_and : OpR X (binaryOp .BitAnd) (rI0 fun i j => .int (Builtin.bitAnd i j)) := opI0 fun _ _ _ _ _ _ _ q => and_int q
theorem op_or : OpR X (binaryOp .BitOr) (rI0 fun i j => .int (Builtin.bitOr i j)) := opI0 fun _ _ _ _ _ _ _ q => or_int q
theorem op_xor : OpR X (binaryOp .BitXor) (rI0 fun i j => .int (Builtin.bitXor i j)) := opI0 fun _ _ _ _ _ _ _ q => xor_int q
theorem iop_add : OpR X (inplaceOp .Add) (rI0 fun i j => .int (i + j)) := opI0 fun _ _ _ _ _ _ _ q => iadd_int q
theorem iop_sub : OpR X (inplaceOp .Sub) (rI0 fun i j => .int (i - j)) := opI0 fun _ _ _ _ _ _ _ q => isub_int q
theorem iop_mul : OpR X (inplaceOp .Mult) (rI CMul fun i j => .int (i * j)) := opI fun _ _ _ _ _ _ _ hc q => imul_int q hc.ok
theorem iop_fdiv : OpR X (inplaceOp .FloorDiv) (rI CDiv fun i j => .int (i / j)) := opI fun i j _ _ _ _ _ hc q => by
  have h1 : (0 : Int) < j := hc.1
  have h2 : j < 1073741824 := hc.2
  exact ifloordiv_int (by omega) (by rw [Int.fdiv_eq_ediv_of_nonneg i (by omega)]; exact q) (.inl (PyProof.noPylong_small (by omega)))
theorem iop_mod : OpR X (inplaceOp .Mod) (rI (fun _ j => 0 < j) fun i j => .int (i % j)) := opI fun i j _ _ _ _ _ hc q => by
  have h1 : (0 : Int) < j := hc
  exact imod_int (by omega) (by rw [Int.fmod_eq_emod_of_nonneg i (by omega)]; exact q)
theorem iop_shl : OpR X (inplaceOp .LShift) (rI CPow fun i j => .int (i * 2 ^ j.toNat)) := opI fun _ _ _ _ _ _ _ hc q => ilshift_int_small hc.1 hc.2.1 hc.2.2 q
theorem iop_shr : OpR X (inplaceOp .RShift) (rI (fun _ j => 0 ≤ j) fun i j => .int (i / 2 ^ j.toNat)) := opI fun i j _ _ _ _ _ hc q =>
  irshift_int hc (by rw [Int.fdiv_eq_ediv_of_nonneg i (two_pow_nn _)]; exact q)
theorem iop_and : OpR X (inplaceOp .BitAnd) (rI0 fun i j => .int (Builtin.bitAnd i j)) := opI0 fun _ _ _ _ _ _ _ q => iand_int q
theorem iop_or : OpR X (inplaceOp .BitOr) (rI0 fun i j => .int (Builtin.bitOr i j)) := opI0 fun _ _ _ _ _ _ _ q => ior_int q
theorem iop_xor : OpR X (inplaceOp .BitXor) (rI0 fun i j => .int (Builtin.bitXor i j)) := opI0 fun _ _ _ _ _ _ _ q => ixor_int q
theorem unI {f : Value → Sem Value} {g : Int → Int}
    (rule : ∀ (i : Int) (t : Tok) (s : Shared) (Q : Value → Shared → Prop) (E : Value → Shared → Prop), Q (.int (g i) s.toks) { s with toks := s.toks + 1 } → wpAny (model X.prog X.w) X.A (f (.int i t)) Q E s) :
    UnR X f (rU fun i => .int (g i)) := by
  intro pins s σ H x v Q I rx h
  obtain ⟨i, rfl, q⟩ := h
  obtain ⟨t, rfl⟩ := rx
  exact rule i t s _ _ ⟨.int (g i), H, I.tok _, ⟨_, rfl⟩, q⟩
theorem un_neg : UnR X (unaryOp .USub) (rU fun i => .int (-i)) := unI fun _ _ _ _ _ q => neg_int q
theorem un_inv : UnR X (unaryOp .Invert) (rU fun i => .int (Builtin.bitNot i)) := unI fun _ _ _ _ _ q => invert_int q
theorem op_add_ib : OpR X (binaryOp .Add) (fun x y H Q => ∃ i k, x = .int i ∧ y = .bl k ∧ Q (.int (i + b2i k)) H) := by
  intro pins s σ H x y v u Q I rx ry h
  obtain ⟨i, k, rfl, rfl, q⟩ := h
  obtain ⟨t, rfl⟩ := rx
  cases ry
  exact add_int_bool ⟨.int (i + b2i k), H, I.tok _, ⟨_, rfl⟩, q⟩
end
def scal : V → V → Bool
  | .non, .non => true | .non, .int _ => true | .int _, .non => true | .non, .bl _ => true | .bl _, .non => true | .non, .str _ => true | .str _, .non => true
  | .int _, .int _ => true | .bl _, .bl _ => true | .str _, .str _ => true | .byt _, .byt _ => true
  | .int _, .str _ => true | .str _, .int _ => true | .bl _, .str _ => true | .str _, .bl _ => true
  | _, _ => false
def rEq : R2 := fun x y H Q => scal x y = true ∧ Q (.bl (decide (x = y))) H
def rNe : R2 := fun x y H Q => scal x y = true ∧ Q (.bl (!decide (x = y))) H
theorem dec_int {i j : Int} : decide (V.int i = V.int j) = (i == j) := by
  rw [Bool.eq_iff_iff]
  simp
theorem dec_bl {i j : Bool} : decide (V.bl i = V.bl j) = (i == j) := by
  rw [Bool.eq_iff_iff]
  simp
theorem dec_str {i j : Str} : decide (V.str i = V.str j) = (i == j) := by
  rw [Bool.eq_iff_iff]
  simp
theorem dec_byt {i j : Array UInt8} : decide (V.byt i = V.byt j) = (i.toList == j.toList) := by
  rw [Bool.eq_iff_iff]
  cases i
  cases j
  simp
section
variable {X : Cx} {a b c : Expr} {ta tb tc : TE} {pos : Pos}
theorem fin_bl {pins : List (Addr × Obj)} {σ : St} {H : Hp} {s : Shared} {Q : VK} {k k' : Bool} (I : Inv X pins σ H s) (q : Q (.bl k) H) (e : k = k') : EP X pins σ Q (.bool k') s := by
  subst e
  exact ⟨.bl k, H, I, rfl, q⟩
theorem op_eq : OpR X (compareOp .Eq) rEq := by
  intro pins s σ H x y v u Q I rx ry h
  obtain ⟨hs, q⟩ := h
  cases x with
  | non =>
    cases rx
    cases y with
    | non => cases ry; exact PySem.EqNone.eq_none_none (fin_bl I q (by simp))
    | bl j => cases ry; exact PySem.EqNone.eq_none_bool (fin_bl I q (by simp))
    | int j => obtain ⟨t', rfl⟩ := ry; exact PySem.EqNone.eq_none_int (fin_bl I q (by simp))
    | str j => obtain ⟨t', rfl⟩ := ry; exact PySem.EqNone.eq_none_str (fin_bl I q (by simp))
    | _ => exact absurd (show false = true from hs) Bool.false_ne_true
  | bl i =>
    cases rx
    cases y with
    | non => cases ry; exact PySem.EqNone.eq_bool_none (fin_bl I q (by simp))
    | bl j => cases ry; exact eq_bool (fin_bl I q dec_bl)
    | str j => obtain ⟨t', rfl⟩ := ry; exact PySem.EqMixed.eq_bool_str (fin_bl I q (by simp))
    | _ => exact absurd (show false = true from hs) Bool.false_ne_true
  | int i =>
    obtain ⟨t, rfl⟩ := rx
    cases y with
    | non => cases ry; exact PySem.EqNone.eq_int_none (fin_bl I q (by simp))
    | int j => obtain ⟨t', rfl⟩ := ry; exact eq_int (fin_bl I q dec_int)
    | str j => obtain ⟨t', rfl⟩ := ry; exact PySem.EqMixed.eq_int_str (fin_bl I q (by simp))
    | _ => exact absurd (show false = true from hs) Bool.false_ne_true
  | str i =>
    obtain ⟨t, rfl⟩ := rx
    cases y with
    | non => cases ry; exact PySem.EqNone.eq_str_none (fin_bl I q (by simp))
    | bl j => cases ry; exact PySem.EqMixed.eq_str_bool (fin_bl I q (by simp))
    | int j => obtain ⟨t', rfl⟩ := ry; exact PySem.EqMixed.eq_str_int (fin_bl I q (by simp))
    | str j => obtain ⟨t', rfl⟩ := ry; exact eq_str (fin_bl I q dec_str)
    | _ => exact absurd (show false = true from hs) Bool.false_ne_true
  | byt i =>
    obtain ⟨t, rfl⟩ := rx
    cases y with
    | byt j => obtain ⟨t', rfl⟩ := ry; exact PySem.W.eq_bytes (fin_bl I q dec_byt)
    | _ => exact absurd (show false = true from hs) Bool.false_ne_true
  | _ => cases y <;> exact absurd (show false = true from hs) Bool.false_ne_true
theorem op_ne : OpR X (compareOp .NotEq) rNe := by
  intro pins s σ H x y v u Q I rx ry h
  obtain ⟨hs, q⟩ := h
  cases x with
  | non =>
    cases rx
    cases y with
    | non => cases ry; exact PySem.EqNone.ne_none_none (fin_bl I q (by simp))
    | bl j => cases ry; exact PySem.EqNone.ne_none_bool (fin_bl I q (by simp))
    | int j => obtain ⟨t', rfl⟩ := ry; exact PySem.EqNone.ne_none_int (fin_bl I q (by simp))
    | str j => obtain ⟨t', rfl⟩ := ry; exact PySem.EqNone.ne_none_str (fin_bl I q (by simp))
    | _ => exact absurd (show false = true from hs) Bool.false_ne_true
  | bl i =>
    cases rx
    cases y with
    | non => cases ry; exact PySem.EqNone.ne_bool_none (fin_bl I q (by simp))
    | bl j => cases ry; exact ne_bool (fin_bl I q (congrArg not dec_bl))
    | str j => obtain ⟨t', rfl⟩ := ry; exact PySem.EqMixed.ne_bool_str (fin_bl I q (by simp))
    | _ => exact absurd (show false = true from hs) Bool.false_ne_true
  | int i =>
    obtain ⟨t, rfl⟩ := rx
    cases y with
    | non => cases ry; exact PySem.EqNone.ne_int_none (fin_bl I q (by simp))
    | int j => obtain ⟨t', rfl⟩ := ry; exact ne_int (fin_bl I q (congrArg not dec_int))
    | str j => obtain ⟨t', rfl⟩ := ry; exact PySem.EqMixed.ne_int_str (fin_bl I q (by simp))
    | _ => exact absurd (show false = true from hs) Bool.false_ne_true
  | str i =>
    obtain ⟨t, rfl⟩ := rx
    cases y with
    | non => cases ry; exact PySem.EqNone.ne_str_none (fin_bl I q (by simp))
    | bl j => cases ry; exact PySem.EqMixed.ne_str_bool (fin_bl I q (by simp))
    | int j => obtain ⟨t', rfl⟩ := ry; exact PySem.EqMixed.ne_str_int (fin_bl I q (by simp))
    | str j => obtain ⟨t', rfl⟩ := ry; exact ne_str (fin_bl I q (congrArg not dec_str))
    | _ => exact absurd (show false = true from hs) Bool.false_ne_true
  | byt i =>
    obtain ⟨t, rfl⟩ := rx
    cases y with
    | byt j => obtain ⟨t', rfl⟩ := ry; exact PySem.W.ne_bytes (fin_bl I q (congrArg not dec_byt))
    | _ => exact absurd (show false = true from hs) Bool.false_ne_true
  | _ => cases y <;> exact absurd (show false = true from hs) Bool.false_ne_true
theorem op_lt : OpR X (compareOp .Lt) (rI0 fun i j => .bl (decide (i < j))) := opB0 fun _ _ _ _ _ _ _ q => lt_int q
theorem op_le : OpR X (compareOp .LtE) (rI0 fun i j => .bl (decide (i ≤ j))) := opB0 fun _ _ _ _ _ _ _ q => le_int q
theorem op_gt : OpR X (compareOp .Gt) (rI0 fun i j => .bl (decide (j < i))) := opB0 fun _ _ _ _ _ _ _ q => gt_int q
theorem op_ge : OpR X (compareOp .GtE) (rI0 fun i j => .bl (decide (j ≤ i))) := opB0 fun _ _ _ _ _ _ _ q => ge_int q
theorem op_lt_str : OpR X (compareOp .Lt) (fun x y H Q => ∃ i j, x = .str i ∧ y = .str j ∧ Q (.bl (decide (i.cps.toList < j.cps.toList))) H) := by
  intro pins s σ H x y v u Q I rx ry h
  obtain ⟨i, j, rfl, rfl, q⟩ := h
  obtain ⟨t, rfl⟩ := rx
  obtain ⟨t', rfl⟩ := ry
  exact lt_str (fin_bl I q rfl)
theorem op_in_str : OpR X (compareOp .In) (fun x y H Q => ∃ i j, x = .str i ∧ y = .str j ∧ Q (.bl (!(Builtin.Str.occurrences j i 0 j.length 1).isEmpty)) H) := by
  intro pins s σ H x y v u Q I rx ry h
  obtain ⟨i, j, rfl, rfl, q⟩ := h
  obtain ⟨t, rfl⟩ := rx
  obtain ⟨t', rfl⟩ := ry
  exact in_str (fin_bl I q rfl)
theorem op_isN : OpR X (compareOp .Is) (fun x y H Q => y = .non ∧ Q (.bl (decide (x = .non))) H) := by
  intro pins s σ H x y v u Q I rx ry h
  obtain ⟨rfl, q⟩ := h
  cases ry
  refine is_none_gen (fin_bl I q ?_)
  cases x <;> first
    | (cases rx; rfl)
    | (obtain ⟨t, rfl⟩ := rx; rfl)
theorem op_notN : OpR X (compareOp .IsNot) (fun x y H Q => y = .non ∧ Q (.bl (!decide (x = .non))) H) := by
  intro pins s σ H x y v u Q I rx ry h
  obtain ⟨rfl, q⟩ := h
  cases ry
  refine isnot_none_gen (fin_bl I q ?_)
  cases x <;> first
    | (cases rx; rfl)
    | (obtain ⟨t, rfl⟩ := rx; rfl)
theorem op_notin_str : OpR X (compareOp .NotIn) (fun x y H Q => ∃ i j, x = .str i ∧ y = .str j ∧ Q (.bl (!(!(Builtin.Str.occurrences j i 0 j.length 1).isEmpty))) H) := by
  intro pins s σ H x y v u Q I rx ry h
  obtain ⟨i, j, rfl, rfl, q⟩ := h
  obtain ⟨t, rfl⟩ := rx
  obtain ⟨t', rfl⟩ := ry
  exact notIn_str (fin_bl I q rfl)
def isObj : HO → Bool
  | .lst _ => true
  | .ins _ _ _ => true
  | _ => false
theorem obj_there {pins : List (Addr × Obj)} {s : Shared} {σ : St} {H : Hp} {a : Addr} {o : HO} (I : Inv X pins σ H s) (h : H a = some o) (p : isObj o = true) : ∃ ob, s.heap.get? a = some ob ∧ ob.cls ≠ .type "tuple" := by
  cases o with
  | lst xs =>
    obtain ⟨_, its, n, _, e⟩ : xs.length ≤ sizeLine ∧ ∃ (its : List Value) (n : Nat), Vals xs its ∧ s.heap.get? a = some { cls := .type "list", data := .seq its.toArray n } := I.hok a _ h
    exact ⟨_, e, (by show Value.type "list" ≠ .type "tuple"; decide +kernel)⟩
  | ins C dx fs =>
    have x := I.hok a _ h
    obtain ⟨_, _, _, e, _⟩ := x
    exact ⟨_, e, (by show Value.ref C ≠ .type "tuple"; exact fun z => by cases z)⟩
  | _ => exact absurd (show false = true from p) Bool.false_ne_true
theorem op_is_ref : OpR X (compareOp .Is) (fun x y H Q => ∃ a b oa ob, x = .ref a ∧ y = .ref b ∧ H a = some oa ∧ isObj oa = true ∧ H b = some ob ∧ isObj ob = true ∧ Q (.bl (decide (a = b))) H) := by
  intro pins s σ H x y v u Q I rx ry h
  obtain ⟨a, b, oa, ob, rfl, rfl, ha, pa, hb, pb, q⟩ := h
  cases rx
  cases ry
  obtain ⟨o1, e1, n1⟩ := obj_there I ha pa
  obtain ⟨o2, e2, _⟩ := obj_there I hb pb
  by_cases z : a = b
  · subst z
    exact wpAny_is_ref_self (fin_bl I q (by simp))
  · exact wpAny_is_ref_other z e1 e2 n1 (fin_bl I q (by simp [z]))
theorem op_isnot_ref : OpR X (compareOp .IsNot) (fun x y H Q => ∃ a b oa ob, x = .ref a ∧ y = .ref b ∧ H a = some oa ∧ isObj oa = true ∧ H b = some ob ∧ isObj ob = true ∧ Q (.bl (!decide (a = b))) H) := by
  intro pins s σ H x y v u Q I rx ry h
  obtain ⟨a, b, oa, ob, rfl, rfl, ha, pa, hb, pb, q⟩ := h
  cases rx
  cases ry
  obtain ⟨o1, e1, n1⟩ := obj_there I ha pa
  obtain ⟨o2, e2, _⟩ := obj_there I hb pb
  by_cases z : a = b
  · subst z
    exact wpAny_isNot_ref_self (fin_bl I q (by simp))
  · exact wpAny_isNot_ref_other z e1 e2 n1 (fin_bl I q (by simp [z]))
theorem OpR.or {f : Value → Value → Sem Value} {r r' : R2} (h : OpR X f r) (h' : OpR X f r') : OpR X f (fun x y H Q => r x y H Q ∨ r' x y H Q) := by
  intro pins s σ H x y v u Q I rx ry q
  rcases q with q | q
  · exact h pins s σ H x y v u Q I rx ry q
  · exact h' pins s σ H x y v u Q I rx ry q
theorem nomark (b : Expr) {op : CmpOp} (h : op ≠ .In := by decide) (h2 : op ≠ .NotIn := by decide) : behindInMarks op b = false := by
  have e1 : (op == CmpOp.In) = false := by cases op <;> first | rfl | exact absurd rfl h
  have e2 : (op == CmpOp.NotIn) = false := by cases op <;> first | rfl | exact absurd rfl h2
  cases b <;> simp [behindInMarks, e1, e2]
theorem pe_cmpR {op : CmpOp} {r : R2} (ho : OpR X (compareOp op) r) (ha : PE X a ta) (hb : PE X b tb) (hm : behindInMarks op b = false) : PE X (.Compare a [op] [b] pos) (tOp r ta tb) := by
  intro pins s σ H Q I h
  exact wpAny_Compare1 (binT ha hb I h fun v u s2 x y H2 I2 rx ry q => ho pins s2 σ H2 x y v u Q I2 rx ry q) hm
def tTest (t : TE) : TT := fun σ H Q => t σ H fun x H' => ∃ k, x = .bl k ∧ Q k H'
theorem pt_cmpR {op : CmpOp} {r : R2} (ho : OpR X (compareOp op) r) (ha : PE X a ta) (hb : PE X b tb) (hm : behindInMarks op b = false) : PT X (.Compare a [op] [b] pos) (tTest (tOp r ta tb)) := by
  intro pins s σ H Q I h
  refine wpAny_isTrue_Compare1 (thn (ha pins s σ H _ I h) fun v s1 ⟨x, H1, I1, r1, q1⟩ => thn (hb pins s1 σ H1 _ I1 q1) fun u s2 ⟨y, H2, I2, r2, q2⟩ =>
    thn (ho pins s2 σ H2 x y v u _ I2 r1 r2 q2) fun c s3 ⟨z, H3, I3, r3, k, e, q3⟩ => ?_) hm
  subst e
  cases r3
  exact wpAny_truthy_bool ⟨H3, I3, q3⟩
def tChain (r r' : R2) (ta tb tc : TE) : TE := fun σ H Q => ta σ H fun x H1 => tb σ H1 fun y H2 => r x y H2 fun z H3 => ∃ k, z = .bl k ∧
  (if k = true then tc σ H3 fun w' H4 => r' y w' H4 Q else Q (.bl false) H3)
theorem pe_chain {op op' : CmpOp} {r r' : R2} (ho : OpR X (compareOp op) r) (ho' : OpR X (compareOp op') r') (ha : PE X a ta) (hb : PE X b tb) (hc : PE X c tc)
    (hm : lastMarks [op, op'] [b, c] = false := by with_unfolding_all rfl) : PE X (.Compare a [op, op'] [b, c] pos) (tChain r r' ta tb tc) := by
  intro pins s σ H Q I h
  refine Compare_chain (thn (ha pins s σ H _ I h) fun v s1 ⟨x, H1, I1, r1, q1⟩ => chain_link (thn (hb pins s1 σ H1 _ I1 q1) fun u s2 ⟨y, H2, I2, r2, q2⟩ =>
    thn (ho pins s2 σ H2 x y v u _ I2 r1 r2 q2) fun d s3 ⟨z, H3, I3, r3, k, e, q3⟩ => ?_)) hm
  subst e
  cases r3
  refine wpAny_truthy_bool ?_
  cases k with
  | false => exact ite_ff ⟨.bl false, H3, I3, rfl, q3⟩
  | true => exact ite_tt (chain_last (thn (hc pins s3 σ H3 _ I3 q3) fun w' s4 ⟨z', H4, I4, r4, q4⟩ => ho' pins s4 σ H4 y z' u w' Q I4 r2 r4 q4))
theorem pt_chain {op op' : CmpOp} {r r' : R2} (ho : OpR X (compareOp op) r) (ho' : OpR X (compareOp op') r') (ha : PE X a ta) (hb : PE X b tb) (hc : PE X c tc)
    (hm : lastMarks [op, op'] [b, c] = false := by with_unfolding_all rfl) : PT X (.Compare a [op, op'] [b, c] pos) (tTest (tChain r r' ta tb tc)) := by
  intro pins s σ H Q I h
  refine isTrue_chain (thn (ha pins s σ H _ I h) fun v s1 ⟨x, H1, I1, r1, q1⟩ => test_link (thn (hb pins s1 σ H1 _ I1 q1) fun u s2 ⟨y, H2, I2, r2, q2⟩ =>
    thn (ho pins s2 σ H2 x y v u _ I2 r1 r2 q2) fun d s3 ⟨z, H3, I3, r3, k, e, q3⟩ => ?_)) hm
  subst e
  cases r3
  refine wpAny_truthy_bool ?_
  cases k with
  | false =>
    obtain ⟨k', e', q'⟩ := q3
    cases e'
    exact ite_ff ⟨H3, I3, q'⟩
  | true =>
    refine ite_tt (test_last (thn (hc pins s3 σ H3 _ I3 q3) fun w' s4 ⟨z', H4, I4, r4, q4⟩ => thn (ho' pins s4 σ H4 y z' u w' _ I4 r2 r4 q4) fun d' s5 ⟨z2, H5, I5, r5, k2, e2, q5⟩ => ?_))
    subst e2
    cases r5
    exact wpAny_truthy_bool ⟨H5, I5, q5⟩
def TruV (K : PySem.W.Frag) (x : V) (H : Hp) (k : Bool) : Prop :=
  match x with
  | .non => k = false
  | .bl b => k = b
  | .int i => k = (i != 0)
  | .str y => y.length ≤ sizeLine ∧ k = ((y.length : Int) != 0)
  | .byt y => y.size ≤ sizeLine ∧ k = ((y.size : Int) != 0)
  | .ref p => (∃ xs, SqL K H p xs ∧ k = !xs.isEmpty) ∨ (∃ xs, SqT K H p xs ∧ k = !xs.isEmpty) ∨ ∃ kvs, H p = some (.dK kvs) ∧ k = !kvs.isEmpty
  | _ => False
theorem isEmpty_kv {κ : Type} {kvs : List (κ × V)} {vs : List (κ × Value)} (r : KV kvs vs) : (!vs.isEmpty) = !kvs.isEmpty := by
  cases r <;> rfl
theorem isEmpty_of {xs : List V} {its : List Value} (r : Vals xs its) : (!its.toArray.isEmpty) = !xs.isEmpty := by
  cases r <;> simp
theorem line63 : (sizeLine : Nat) < 2 ^ 63 := by rw [sizeLine_eq]; decide
theorem tru_ok : TruR X (fun x H Q => ∃ k, TruV X.K x H k ∧ Q k H) := by
  intro pins s σ H x v Q I rx h
  obtain ⟨k, e, q⟩ := h
  have hl := line63
  have hs : sizeLine = 16777216 := sizeLine_eq
  cases x with
  | non =>
    cases rx
    have e' : k = false := e
    subst e'
    exact truthy_none ⟨H, I, q⟩
  | bl b =>
    cases rx
    have e' : k = b := e
    subst e'
    exact wpAny_truthy_bool ⟨H, I, q⟩
  | int i =>
    obtain ⟨t, rfl⟩ := rx
    have e' : k = (i != 0) := e
    subst e'
    exact PySem.P.truthy_int ⟨H, I, q⟩
  | str y =>
    obtain ⟨t, rfl⟩ := rx
    obtain ⟨hy, e'⟩ : y.length ≤ sizeLine ∧ k = ((y.length : Int) != 0) := e
    subst e'
    exact PySem.P.truthy_str (by omega) ⟨H, I.tok _, q⟩
  | byt y =>
    obtain ⟨t, rfl⟩ := rx
    obtain ⟨hy, e'⟩ : y.size ≤ sizeLine ∧ k = ((y.size : Int) != 0) := e
    subst e'
    exact PySem.W.truthy_bytes (by omega) ⟨H, I.tok _, q⟩
  | ref p =>
    cases rx
    have e' : (∃ xs, SqL X.K H p xs ∧ k = !xs.isEmpty) ∨ (∃ xs, SqT X.K H p xs ∧ k = !xs.isEmpty) ∨ ∃ kvs, H p = some (.dK kvs) ∧ k = !kvs.isEmpty := e
    rcases e' with ⟨xs, hx, e'⟩ | ⟨xs, hx, e'⟩ | ⟨kvs, hx, e'⟩
    · subst e'
      obtain ⟨its, r, pl, hz⟩ := I.list hx
      have hlen := r.length
      exact wpAny_truthy_list pl.isList (by simp only [List.size_toArray]; omega) ⟨H, I.tok _, by rw [isEmpty_of r]; exact q⟩
    · subst e'
      obtain ⟨its, r, pl, hz⟩ := I.tuple hx
      have hlen := r.length
      exact truthy_tuple pl (by simp only [List.size_toArray]; omega) ⟨H, I.tok _, by rw [isEmpty_of r]; exact q⟩
    · subst e'
      obtain ⟨hz, hS, vs, r, m⟩ : kvs.length ≤ sizeLine ∧ (p == sysModules) = false ∧ ∃ vs, KV kvs vs ∧ s.heap.DictOf (mixKind X.prog X.w) p vs := I.hok p _ hx
      have hlen : kvs.length = vs.length := Paired.length r
      exact wpAny_truthy_dict hS m (by omega) ⟨H, I.tok _, by rw [isEmpty_kv r]; exact q⟩
  | _ => exact (show False from e).elim
theorem pt_truth (ha : PE X a ta) (he : ∀ whole, isTrue a X.env whole = (do let v ← whole; standAt a.pos; holding [v] (truthy v))) :
    PT X a (fun σ H Q => ta σ H fun x H' => ∃ k, TruV X.K x H' k ∧ Q k H') := by
  intro pins s σ H Q I h
  exact isTrue_plain (thn (ha pins s σ H _ I h) fun v s1 ⟨x, H1, I1, r1, q1⟩ => tru_ok pins s1 σ H1 x v Q I1 r1 q1) (he _)
theorem pe_byt {x : List UInt8} {k : Nat} : PE X (.Constant (.bytes x) k pos) (fun _ H Q => Q (.byt x.toArray) H) := fun _ _ _ H _ I h => PySem.W.Constant_bytes ⟨.byt x.toArray, H, I.tok _, ⟨_, rfl⟩, h⟩
theorem op_add_str : OpR X (binaryOp .Add) (fun x y H Q => ∃ i j, x = .str i ∧ y = .str j ∧ i.length + j.length ≤ sizeLine ∧ Q (.str (i ++ j)) H) := by
  intro pins s σ H x y v u Q I rx ry h
  obtain ⟨i, j, rfl, rfl, hz, q⟩ := h
  obtain ⟨t, rfl⟩ := rx
  obtain ⟨t', rfl⟩ := ry
  exact add_str (fun t' tk => ⟨.str (i ++ j), H, I.tok _, ⟨_, rfl⟩, q⟩) hz
theorem iop_add_str : OpR X (inplaceOp .Add) (fun x y H Q => ∃ i j, x = .str i ∧ y = .str j ∧ i.length + j.length ≤ sizeLine ∧ Q (.str (i ++ j)) H) := by
  intro pins s σ H x y v u Q I rx ry h
  obtain ⟨i, j, rfl, rfl, hz, q⟩ := h
  obtain ⟨t, rfl⟩ := rx
  obtain ⟨t', rfl⟩ := ry
  exact iadd_str (fun t' tk => ⟨.str (i ++ j), H, I.tok _, ⟨_, rfl⟩, q⟩) hz
theorem op_add_byt : OpR X (binaryOp .Add) (fun x y H Q => ∃ i j, x = .byt i ∧ y = .byt j ∧ i.size + j.size ≤ 16777216 ∧ Q (.byt (i ++ j)) H) := by
  intro pins s σ H x y v u Q I rx ry h
  obtain ⟨i, j, rfl, rfl, hz, q⟩ := h
  obtain ⟨t, rfl⟩ := rx
  obtain ⟨t', rfl⟩ := ry
  exact PySem.W.KBy.add_bytes hz (fun t' tk => ⟨.byt (i ++ j), H, I.tok _, ⟨_, rfl⟩, q⟩)
def PlainIxT (b : Expr) : Prop := ∀ o i, subscripted b false o i = operate [o, i] (getItem o i)
theorem pe_item_str (ha : PE X a ta) (hb : PE X b tb) (hs : PlainIxT b) :
    PE X (.Subscript a b pos) (tOp (fun x y H Q => ∃ z i c, x = .str z ∧ y = .int i ∧ 0 ≤ i ∧ i < 2 ^ 63 ∧ i < z.length ∧ z.cps[i.toNat]? = some c ∧ Q (.str ⟨#[c]⟩) H) ta tb) := by
  intro pins s σ H Q I h
  refine Subscript_ (binT ha hb I h fun v u s2 x y H2 I2 rx ry q => ?_)
  obtain ⟨z, i, c, rfl, rfl, h0, h63, h1, hc, q⟩ := q
  obtain ⟨t, rfl⟩ := rx
  obtain ⟨t', rfl⟩ := ry
  have e : seqIndex? i z.length = some i.toNat := PySem.StrLaws.seqIndex_nonneg h0 h1
  exact tail_any (typeIs_str s2 z t) slot_str_getitem.lookup (getItem_str (c := c) (by
    have e1 : decide (i < -(2 ^ 63 : Int)) = false := decide_eq_false (by omega)
    have e2 : decide (i ≥ 2 ^ 63) = false := decide_eq_false (by omega)
    rw [e1, e2] <;> rfl) (by rw [e]; exact hc) ⟨.str ⟨#[c]⟩, H2, I2.tok _, ⟨_, rfl⟩, q⟩) (hs _ _)
theorem pe_item_byt (ha : PE X a ta) (hb : PE X b tb) (hs : PlainIxT b) :
    PE X (.Subscript a b pos) (tOp (fun x y H Q => ∃ (z : List UInt8) (i : Int), x = .byt z.toArray ∧ y = .int i ∧ z.length ≤ sizeLine ∧ 0 ≤ i ∧ i < z.length ∧ Q (.int ((z.getD i.toNat 0).toNat : Nat)) H) ta tb) := by
  intro pins s σ H Q I h
  refine Subscript_ (binT ha hb I h fun v u s2 x y H2 I2 rx ry q => ?_)
  obtain ⟨z, i, rfl, rfl, hz, h0, h1, q⟩ := q
  obtain ⟨t, rfl⟩ := rx
  obtain ⟨t', rfl⟩ := ry
  have hl : sizeLine = 16777216 := sizeLine_eq
  exact tail_any (PySem.W.typeIs_bytes s2 z.toArray t) PySem.W.FB.slot_bytes_getitem.lookup (PySem.W.getItem_bytes (by omega) h0 h1 ⟨.int ((z.getD i.toNat 0).toNat : Nat), H2, I2.tok _, ⟨_, rfl⟩, q⟩) (hs _ _)
theorem vals1 {x : V} {us : List Value} (r : Vals [x] us) : ∃ u, us = [u] ∧ RelV x u := by
  cases r with
  | cons r1 r2 => cases r2; exact ⟨_, rfl, r1⟩
theorem vals2 {x y : V} {us : List Value} (r : Vals [x, y] us) : ∃ u w', us = [u, w'] ∧ RelV x u ∧ RelV y w' := by
  cases r with
  | cons r1 r2 =>
    cases r2 with
    | cons r3 r4 => cases r4; exact ⟨_, _, rfl, r1, r3⟩
theorem call_abs : CallR X (.builtin "abs") (fun xs H Q => ∃ i, xs = [.int i] ∧ Q (.int (if i < 0 then -i else i)) H) := by
  intro pins s σ H xs us Q I r h
  obtain ⟨i, rfl, q⟩ := h
  obtain ⟨u, rfl, t, rfl⟩ := vals1 r
  exact call_abs_int fun u tk => ⟨.int (if i < 0 then -i else i), H, I.tok _, ⟨_, rfl⟩, q⟩
theorem call_max2 (hc : X.calm = true) : CallR X (.builtin "max") (fun xs H Q => ∃ i j, xs = [.int i, .int j] ∧ Q (.int (if j > i then j else i)) H) := by
  intro pins s σ H xs us Q I r h
  obtain ⟨i, j, rfl, q⟩ := h
  obtain ⟨u, w', rfl, ⟨t, rfl⟩, ⟨t', rfl⟩⟩ := vals2 r
  refine max_two_ints (I.ok.hd hc) fun h' tk k => ⟨_, H, I.kept k, ?_, q⟩
  by_cases hj : j > i
  · rw [if_pos hj, if_pos hj]; exact ⟨_, rfl⟩
  · rw [if_neg hj, if_neg hj]; exact ⟨_, rfl⟩
theorem call_min2 (hc : X.calm = true) : CallR X (.builtin "min") (fun xs H Q => ∃ i j, xs = [.int i, .int j] ∧ Q (.int (if j < i then j else i)) H) := by
  intro pins s σ H xs us Q I r h
  obtain ⟨i, j, rfl, q⟩ := h
  obtain ⟨u, w', rfl, ⟨t, rfl⟩, ⟨t', rfl⟩⟩ := vals2 r
  refine min_two_ints (I.ok.hd hc) fun h' tk k => ⟨_, H, I.kept k, ?_, q⟩
  by_cases hj : j < i
  · rw [if_pos hj, if_pos hj]; exact ⟨_, rfl⟩
  · rw [if_neg hj, if_neg hj]; exact ⟨_, rfl⟩
theorem call_int1 : CallR X (.type "int") (fun xs H Q => (∃ i, xs = [.int i] ∧ Q (.int i) H) ∨ ∃ k, xs = [.bl k] ∧ Q (.int (if k then 1 else 0)) H) := by
  intro pins s σ H xs us Q I r h
  rcases h with ⟨i, rfl, q⟩ | ⟨k, rfl, q⟩
  · obtain ⟨u, rfl, t, rfl⟩ := vals1 r
    exact call_int_int ⟨.int i, H, I, ⟨_, rfl⟩, q⟩
  · obtain ⟨u, rfl, r1⟩ := vals1 r
    cases r1
    exact call_int_bool ⟨.int (if k then 1 else 0), H, I.tok _, ⟨_, rfl⟩, q⟩
theorem call_bool1 : CallR X (.type "bool") (fun xs H Q => (∃ i, xs = [.int i] ∧ Q (.bl (i != 0)) H) ∨ ∃ k, xs = [.bl k] ∧ Q (.bl k) H) := by
  intro pins s σ H xs us Q I r h
  rcases h with ⟨i, rfl, q⟩ | ⟨k, rfl, q⟩
  · obtain ⟨u, rfl, t, rfl⟩ := vals1 r
    exact call_bool_int ⟨.bl (i != 0), H, I, rfl, q⟩
  · obtain ⟨u, rfl, r1⟩ := vals1 r
    cases r1
    exact call_bool_bool ⟨.bl k, H, I, rfl, q⟩
theorem call_str_int : CallR X (.type "str") (fun xs H Q => ∃ i, xs = [.int i] ∧ i.natAbs.log2 < 1920 ∧ Q (.str (toString i)) H) := by
  intro pins s σ H xs us Q I r h
  obtain ⟨i, rfl, hz, q⟩ := h
  obtain ⟨u, rfl, t, rfl⟩ := vals1 r
  exact PySem.P.str_of_int hz ⟨.str _, H, I.tok _, ⟨_, rfl⟩, q⟩
theorem call_ord : CallR X (.builtin "ord") (fun xs H Q => ∃ x, xs = [.str x] ∧ x.length = 1 ∧ Q (.int (x.cps.getD 0 0 : Nat)) H) := by
  intro pins s σ H xs us Q I r h
  obtain ⟨x, rfl, hz, q⟩ := h
  obtain ⟨u, rfl, t, rfl⟩ := vals1 r
  exact ord_of_one hz ⟨.int _, H, I.tok _, ⟨_, rfl⟩, q⟩
theorem call_chr : CallR X (.builtin "chr") (fun xs H Q => ∃ i, xs = [.int i] ∧ 0 ≤ i ∧ i ≤ 1114111 ∧ Q (.str ⟨#[i.toNat]⟩) H) := by
  intro pins s σ H xs us Q I r h
  obtain ⟨i, rfl, h0, h1, q⟩ := h
  obtain ⟨u, rfl, t, rfl⟩ := vals1 r
  exact chr_of_range h0 h1 ⟨.str _, H, I.tok _, ⟨_, rfl⟩, q⟩
def LenV (K : PySem.W.Frag) (x : V) (H : Hp) (n : Nat) : Prop :=
  match x with
  | .str y => y.length ≤ sizeLine ∧ n = y.length
  | .byt y => y.size ≤ sizeLine ∧ n = y.size
  | .ref p => (∃ xs, SqL K H p xs ∧ n = xs.length) ∨ ∃ xs, SqT K H p xs ∧ n = xs.length
  | _ => False
theorem call_len : CallR X (.builtin "len") (fun xs H Q => ∃ x n, xs = [x] ∧ LenV X.K x H n ∧ Q (.int n) H) := by
  intro pins s σ H xs us Q I r h
  obtain ⟨x, n, rfl, e, q⟩ := h
  obtain ⟨u, rfl, rx⟩ := vals1 r
  have hl := line63
  have hs : sizeLine = 16777216 := sizeLine_eq
  cases x with
  | str y =>
    obtain ⟨t, rfl⟩ := rx
    obtain ⟨hy, e'⟩ : y.length ≤ sizeLine ∧ n = y.length := e
    subst e'
    exact len_str (by omega) ⟨.int _, H, I.tok _, ⟨_, rfl⟩, q⟩
  | byt y =>
    obtain ⟨t, rfl⟩ := rx
    obtain ⟨hy, e'⟩ : y.size ≤ sizeLine ∧ n = y.size := e
    subst e'
    exact PySem.W.len_bytes (by omega) ⟨.int _, H, I.tok _, ⟨_, rfl⟩, q⟩
  | ref p =>
    cases rx
    have e' : (∃ xs, SqL X.K H p xs ∧ n = xs.length) ∨ ∃ xs, SqT X.K H p xs ∧ n = xs.length := e
    rcases e' with ⟨xs, hx, e'⟩ | ⟨xs, hx, e'⟩
    · subst e'
      obtain ⟨its, r', pl, hz⟩ := I.list hx
      have hlen := r'.length
      exact Calls.call_len_list pl.isList (by simp only [List.size_toArray]; omega) ⟨.int xs.length, H, I.tok _, ⟨_, by simp only [List.size_toArray]; rw [hlen]⟩, q⟩
    · subst e'
      obtain ⟨its, r', pl, hz⟩ := I.tuple hx
      have hlen := r'.length
      exact len_tuple pl (by simp only [List.size_toArray]; omega) ⟨.int xs.length, H, I.tok _, ⟨_, by simp only [List.size_toArray]; rw [hlen]⟩, q⟩
  | _ => exact (show False from e).elim
theorem call_divmod : CallR X (.builtin "divmod") (fun xs H Q => ∃ i j, xs = [.int i, .int j] ∧ CDiv i j ∧ ∀ p, H p = none → Q (.ref p) (upd H p (.tup [.int (i / j), .int (i % j)]))) := by
  intro pins s σ H xs us Q I r h
  obtain ⟨i, j, rfl, ⟨h1, h2⟩, q⟩ := h
  obtain ⟨u, w', rfl, ⟨t, rfl⟩, ⟨t', rfl⟩⟩ := vals2 r
  refine divmod_int (by omega) ?_ (.inl (PyProof.noPylong_small (by omega)))
  rw [Int.fdiv_eq_ediv_of_nonneg i (by omega), Int.fmod_eq_emod_of_nonneg i (by omega)]
  have hn : H s.heap.objs.size = none := I.hok.fresh (Nat.le_refl _)
  refine ⟨.ref s.heap.objs.size, _, ?_, rfl, q _ hn⟩
  refine I.laid (fun b o e => Heap.get?_push_of_some _ e) (Nat.le_refl _) ⟨by simp only [List.length_cons, List.length_nil]; rw [sizeLine_eq]; decide, [.int (i / j) s.toks, .int (i % j) (s.toks + 1)], .cons ⟨_, rfl⟩ (.cons ⟨_, rfl⟩ .nil), ?_⟩
  exact ⟨_, Heap.get?_push_size s.heap rfl, rfl, 0, rfl⟩
end
end L2
namespace L2
open PySem PySem.Spec PyProof.Rows
structure ObjM (h : Heap) (x dx C : Addr) (mA : Str → Option Value) : Prop where
  obj : h.get? x = some (PySem.W.instObj C dx)
  ns : h.Ns1 dx mA
  ne : dx ≠ x
theorem lookIn_ns {h : Heap} {dx : Addr} {mA : Str → Option Value} (n : h.Ns1 dx mA) : ∃ od, h.get? dx = some od ∧ ∀ name, PySem.W.lookIn name od = some (mA name) := by
  obtain ⟨o, es, ep, ho, hd, hk, _, hm⟩ := n
  refine ⟨o, ho, fun name => ?_⟩
  have e := hm name
  unfold nsFind findBy at e
  rw [← Array.find?_toList] at e
  unfold PySem.W.lookIn
  rw [hd]
  dsimp only
  split
  · rename_i y q
    rw [q] at e
    exact congrArg some e
  · rename_i q
    rw [q] at e
    have a : es.toList.any (·.refKey) = false := by
      rw [List.any_eq_false]
      intro y hy
      obtain ⟨z, t, hkey⟩ := hk y (Array.mem_toList_iff.mp hy)
      simp [DictEntry.refKey, hkey]
    have a' : ¬ es.toList.any (·.refKey) = true := by rw [a]; exact Bool.false_ne_true
    rw [if_neg a']
    exact congrArg some e
theorem ObjM.look {h : Heap} {x dx C : Addr} {mA : Str → Option Value} (I : ObjM h x dx C mA) : ∃ od, PySem.W.InstAt h x (PySem.W.instObj C dx) C (some od) ∧ ∀ name, PySem.W.lookIn name od = some (mA name) :=
  let ⟨od, ho, hl⟩ := lookIn_ns I.ns
  ⟨od, ⟨I.obj, rfl, rfl, ho⟩, hl⟩
section
variable {prog : Program} {w : World} {A : Around} {E : Value → Shared → Prop} {s : Shared} {K : PySem.W.Frag} {x dx C f : Addr} {mA : Str → Option Value} {name : Str} {v : Value}
theorem get_map {expr : Bool} {Q : Value → Shared → Prop} (X : K.In s.heap) (I : ObjM s.heap x dx C mA) (hg : PySem.W.plainGet K C name = true) (hh : PySem.W.hasDictIn K C = true)
    (ha : PySem.W.findIn K (.ref C) name = some none) (hv : mA name = some v) (hv' : PySem.W.handedIn v = true) (h : Q v { s with toks := s.toks + 1 }) :
    wpAny (model prog w) A (getAttr (.ref x) name expr) Q E s := by
  obtain ⟨od, J, hl⟩ := I.look
  exact PySem.W.get_value X J (PySem.W.plainGet_of hg).1 (PySem.W.findObj_own hh ha rfl (by rw [hl, hv])) hv' h
theorem get_const {expr : Bool} {a : Value} {Q : Value → Shared → Prop} (X : K.In s.heap) (I : ObjM s.heap x dx C mA) (hg : PySem.W.plainGet K C name = true) (hh : PySem.W.hasDictIn K C = true)
    (ha : PySem.W.findIn K (.ref C) name = some (some a)) (hn : PySem.W.specialIn K a "__get__" = some none) (hc : PySem.W.copiedNames.contains name = false) (hv : mA name = none) (hv' : PySem.W.handedIn a = true)
    (h : Q a { s with toks := s.toks + 1 }) : wpAny (model prog w) A (getAttr (.ref x) name expr) Q E s := by
  obtain ⟨od, J, hl⟩ := I.look
  exact PySem.W.get_value X J (PySem.W.plainGet_of hg).1 (PySem.W.findObj_cls hh ha hn hv' hc (by rw [hl, hv])) hv' h
theorem get_meth {pl : Sem Bool} {Q : Value × List Value → Shared → Prop} (X : K.In s.heap) (I : ObjM s.heap x dx C mA) (hg : PySem.W.plainGet K C name = true)
    (hf : PySem.W.findIn K (.ref C) name = some (some (.ref f))) (ht : PySem.W.isFn K (.ref f) = true) (hv : mA name = none) (h : Q (.ref f, [.ref x]) s) :
    wpAny (model prog w) A (getMethod (.ref x) name pl) Q E s := by
  obtain ⟨od, J, hl⟩ := I.look
  exact PySem.W.method_fn X J (PySem.W.plainGet_of hg).1 (PySem.W.plainGet_of hg).2 hf (beq_iff_eq.mp ht) (by show (PySem.W.lookIn name od).map (·.isSome) = some false; rw [hl, hv]; rfl) h
theorem set_map {ns : List Str} {Q : Unit → Shared → Prop} (X : K.In s.heap) (I : ObjM s.heap x dx C mA)
    (hs : PySem.W.findIn K (.ref C) "__setattr__" = some (some (.builtin "object.__setattr__"))) (hp : PySem.W.plainOver K C = true) (ht : PySem.W.takerIn K C name = some none) (hh : PySem.W.hasDictIn K C = true)
    (hw : PySem.Within mA ns) (hsz : ns.length ≤ sizeLine)
    (h : ∀ h', ObjM h' x dx C (fun y => if y = name then some v else mA y) → Heap.SameBut dx s.heap h' → Q () { s with heap := h', toks := s.toks + 2 }) :
    wpAny (model prog w) A (setAttr (.ref x) name v) Q E s := by
  obtain ⟨od, J, hl⟩ := I.look
  refine PySem.W.set_plain X J hs (PySem.W.osa_open (s := { s with toks := s.toks + 1 }) (r := none) X J hp ht fun b => ?_)
  obtain ⟨cd, hc, hd'⟩ := PySem.W.any_some hh
  have hx : s.heap.get? x = some ⟨.ref C, some dx, .plain, #[]⟩ := I.obj
  refine wpAny_bind (wpAny_pure (wpAny_bind (wpAny_bind (wpAny_loadPart hx (wpAny_bind (PySem.W.Looks.here (s := { s with toks := s.toks + 1 }) (PySem.W.looks_clsIn X hc) ?_))))))
  rw [hd']
  refine wpAny_pure (a := some dx) (wpAny_bind (wpAny_pure (wpAny_bind ?_)))
  refine wpAny_nsSet1 (s := { s with toks := s.toks + 1 }) I.ns fun h' hn2 hs2 => ?_
  obtain ⟨oD, esD, epD, hoD, hdD, hcD⟩ := hn2.count (PySem.Within.cons name v hw)
  refine wpAny_bind (wpAny_lookBehind hoD (by rw [hdD]; exact pastItsLine_dict (Nat.le_trans hcD (by rw [List.length_cons]; omega))) ?_)
  exact wpAny_pure (h _ ⟨(hs2.2 _ (Ne.symm I.ne)).trans I.obj, hn2, I.ne⟩ hs2)
theorem make_map {R : Result → Shared → Prop} {vs : List Value} {kw : List (Str × Value)} (X : K.In s.heap) (hm : PySem.W.makesIn K C = true)
    (hi : PySem.W.findIn K (.ref C) "__init__" = some (some (.ref f))) (hf : PySem.W.typeIn K (.ref f) = some (.type "function"))
    (h : codeAny (model prog w) (A.under (.builtin "type.__call__" ⟨.ref C :: vs, kw⟩)) (.call (.ref f) ⟨.ref (s.heap.objs.size + 1) :: vs, kw⟩) (PySem.W.InitBack (s.heap.objs.size + 1) R)
      { s with heap := (s.heap.push PySem.W.emptyDict).push (PySem.W.instObj C s.heap.objs.size) }) :
    codeAny (model prog w) A (.call (.ref C) ⟨vs, kw⟩) R s := by
  obtain ⟨hh, g, d, t, os⟩ := s
  exact PySem.W.make_core (PySem.W.makes_of X hm) (PySem.W.looks_findIn X hi) (fun self => PySem.W.bind_fn X self hf) (.inl rfl) h
theorem make_map0 {R : Result → Shared → Prop} (X : K.In s.heap) (hm : PySem.W.makesIn K C = true)
    (hi : PySem.W.findIn K (.ref C) "__init__" = some (some (.builtin "object.__init__")))
    (hb : ∀ self, PySem.W.Looks (model prog w) s.heap (bindSpecial (.builtin "object.__init__") self) (.builtin "object.__init__", [self]))
    (h : codeAny (model prog w) (A.under (.builtin "type.__call__" ⟨[.ref C], []⟩)) (.call (.builtin "object.__init__") ⟨[.ref (s.heap.objs.size + 1)], []⟩) (PySem.W.InitBack (s.heap.objs.size + 1) R)
      { s with heap := (s.heap.push PySem.W.emptyDict).push (PySem.W.instObj C s.heap.objs.size) }) :
    codeAny (model prog w) A (.call (.ref C) ⟨[], []⟩) R s := by
  obtain ⟨hh, g, d, t, os⟩ := s
  exact PySem.W.make_core (PySem.W.makes_of X hm) (PySem.W.looks_findIn X hi) hb (.inr ⟨rfl, rfl⟩) h
end
def putF (f : Str) (v : V) : List (Str × V) → List (Str × V)
  | [] => [(f, v)]
  | (g, x) :: r => if g = f then (g, v) :: r else (g, x) :: putF f v r
theorem lookup_putF (f g : Str) (v : V) : ∀ fs : List (Str × V), (putF f v fs).lookup g = if g = f then some v else fs.lookup g
  | [] => by
    show List.lookup g [(f, v)] = _
    by_cases h : g = f
    · have hb : (g == f) = true := beq_iff_eq.mpr h
      simp only [List.lookup, hb, if_pos h]
    · have hb : (g == f) = false := beq_eq_false_iff_ne.mpr h
      simp only [List.lookup, hb, if_neg h]
  | (k, x) :: r => by
    have ih := lookup_putF f g v r
    rw [show putF f v ((k, x) :: r) = (if k = f then (k, v) :: r else (k, x) :: putF f v r) from rfl]
    by_cases hk : k = f
    · rw [if_pos hk]
      by_cases h : g = k
      · have hb : (g == k) = true := beq_iff_eq.mpr h
        simp only [List.lookup, hb, if_pos (h.trans hk)]
      · have hb : (g == k) = false := beq_eq_false_iff_ne.mpr h
        simp only [List.lookup, hb, if_neg (fun e : g = f => h (e.trans hk.symm))]
    · rw [if_neg hk]
      by_cases h : g = k
      · have hb : (g == k) = true := beq_iff_eq.mpr h
        simp only [List.lookup, hb, if_neg (fun e : g = f => hk (h.symm.trans e))]
      · have hb : (g == k) = false := beq_eq_false_iff_ne.mpr h
        simp only [List.lookup, hb]
        exact ih
theorem keys_putF (f : Str) (v : V) : ∀ fs : List (Str × V), f ∈ (putF f v fs).map (·.1) ∧ ∀ g, g ∈ fs.map (·.1) → g ∈ (putF f v fs).map (·.1)
  | [] => ⟨by simp [putF], fun g h => by simp at h⟩
  | (k, x) :: r => by
    obtain ⟨i1, i2⟩ := keys_putF f v r
    rw [show putF f v ((k, x) :: r) = (if k = f then (k, v) :: r else (k, x) :: putF f v r) from rfl]
    by_cases hk : k = f
    · rw [if_pos hk]
      subst hk
      exact ⟨by simp, fun g h => by simpa using h⟩
    · rw [if_neg hk]
      refine ⟨?_, fun g h => ?_⟩
      · rw [List.map_cons]
        exact List.mem_cons_of_mem _ i1
      · rw [List.map_cons] at h ⊢
        rcases List.mem_cons.mp h with e | e
        · exact List.mem_cons.mpr (.inl e)
        · exact List.mem_cons_of_mem _ (i2 g e)
theorem length_putF (f : Str) (v : V) : ∀ fs : List (Str × V), (putF f v fs).length ≤ fs.length + 1
  | [] => by simp [putF]
  | (k, x) :: r => by
    have ih := length_putF f v r
    rw [show putF f v ((k, x) :: r) = (if k = f then (k, v) :: r else (k, x) :: putF f v r) from rfl]
    by_cases hk : k = f
    · rw [if_pos hk, List.length_cons, List.length_cons]; omega
    · rw [if_neg hk, List.length_cons, List.length_cons]; omega
theorem RelO.some_of {v : V} {o : Option Value} (r : RelO (some v) o) : ∃ u, o = some u ∧ RelV v u := by
  cases o with
  | none => exact (show False from r).elim
  | some u => exact ⟨u, rfl, r⟩
theorem RelO.none_of {o : Option Value} (r : RelO none o) : o = none := by
  cases o with
  | none => rfl
  | some u => exact (show False from r).elim
theorem handed_of {v : V} {u : Value} (r : RelV v u) : PySem.W.handedIn u = true := by
  cases v with
  | non => cases (show u = Value.none from r); rfl
  | bl b => cases (show u = Value.bool b from r); rfl
  | int i => obtain ⟨t, e⟩ := (show ∃ t, u = Value.int i t from r); cases e; rfl
  | str x => obtain ⟨t, e⟩ := (show ∃ t, u = Value.str x t from r); cases e; rfl
  | byt b => obtain ⟨t, e⟩ := (show ∃ t, u = Value.bytes b t from r); cases e; rfl
  | flt b => obtain ⟨t, e⟩ := (show ∃ t, u = Value.float b t from r); cases e; rfl
  | ref a => cases (show u = Value.ref a from r); rfl
  | ty n => cases (show u = Value.type n from r); rfl
section
variable {P : Program} {w : World} {H H' : Hp} {h h' : Heap} {a C dx : Addr} {fs fs' : List (Str × V)}
theorem ins_get (hok : HOk P w H h) (e : H a = some (.ins C dx fs)) : ∃ mA, ObjM h a dx C mA ∧ (∀ f, RelO (fs.lookup f) (mA f)) ∧ PySem.Within mA (fs.map (·.1)) ∧ fs.length ≤ 1000 ∧ H dx = some (.own a) := by
  obtain ⟨d, z, ne, ob, mA, n, r, q⟩ := (show ObjOk P w H h a (.ins C dx fs) from hok a _ e)
  exact ⟨mA, ⟨ob, n, ne⟩, r, q, z, d⟩
end
structure Cls (K : PySem.W.Frag) (C : Addr) : Prop where
  pg : PySem.W.plainGet K C Str.empty = true
  hd : PySem.W.hasDictIn K C = true
  po : PySem.W.plainOver K C = true
  sa : PySem.W.findIn K (.ref C) "__setattr__" = some (some (.builtin "object.__setattr__"))
theorem Cls.get {K : PySem.W.Frag} {C : Addr} (c : Cls K C) (f : Str) : PySem.W.plainGet K C f = true := c.pg
def NoAttr (K : PySem.W.Frag) (C : Addr) (f : Str) : Prop := PySem.W.findIn K (.ref C) f = some none
theorem NoAttr.taker {K : PySem.W.Frag} {C : Addr} {f : Str} (n : NoAttr K C f) : PySem.W.takerIn K C f = some none := by
  unfold PySem.W.takerIn
  rw [show PySem.W.findIn K (.ref C) f = some none from n]
  rfl
structure Con (K : PySem.W.Frag) (C : Addr) (f : Str) (v : V) (u : Value) : Prop where
  at_ : PySem.W.findIn K (.ref C) f = some (some u)
  rel : RelV v u
  get : PySem.W.specialIn K u "__get__" = some none
  cp : PySem.W.copiedNames.contains f = false
structure Meth (K : PySem.W.Frag) (C : Addr) (m : Str) (f : Addr) : Prop where
  at_ : PySem.W.findIn K (.ref C) m = some (some (.ref f))
  fn : PySem.W.isFn K (.ref f) = true
  kp : PySem.W.keepIn K (.ref f) = true
section
variable {X : Cx} {pins : List (Addr × Obj)} {σ : St} {H : Hp} {s : Shared} {a C dx : Addr} {fs : List (Str × V)} {f : Str} {v : V} {A : Around} {E : Value → Shared → Prop}
theorem getattr_ok {b : Bool} {Q : Value → Shared → Prop} (I : Inv X pins σ H s) (e : H a = some (.ins C dx fs)) (c : Cls X.K C) (n : NoAttr X.K C f) (l : fs.lookup f = some v)
    (h : ∀ u s', Inv X pins σ H s' → RelV v u → Q u s') : wpAny (model X.prog X.w) A (getAttr (.ref a) f b) Q E s := by
  obtain ⟨mA, O, r, _, _, _⟩ := ins_get I.hok e
  obtain ⟨u, hu, ru⟩ := RelO.some_of (v := v) (o := mA f) (by rw [← l]; exact r f)
  exact get_map I.kIn O (c.get f) c.hd n hu (handed_of ru) (h u _ (I.tok _) ru)
theorem getcon_ok {b : Bool} {u : Value} {Q : Value → Shared → Prop} (I : Inv X pins σ H s) (e : H a = some (.ins C dx fs)) (c : Cls X.K C) (k : Con X.K C f v u) (l : fs.lookup f = none)
    (h : ∀ s', Inv X pins σ H s' → Q u s') : wpAny (model X.prog X.w) A (getAttr (.ref a) f b) Q E s := by
  obtain ⟨mA, O, r, _, _, _⟩ := ins_get I.hok e
  have hn : mA f = none := RelO.none_of (by rw [← l]; exact r f)
  exact get_const I.kIn O (c.get f) c.hd k.at_ k.get k.cp hn (handed_of k.rel) (h _ (I.tok _))
theorem getmeth_ok {m : Str} {g : Addr} {pl : Sem Bool} {Q : Value × List Value → Shared → Prop} (I : Inv X pins σ H s) (e : H a = some (.ins C dx fs)) (c : Cls X.K C) (k : Meth X.K C m g) (l : fs.lookup m = none)
    (h : Q (.ref g, [.ref a]) s) : wpAny (model X.prog X.w) A (getMethod (.ref a) m pl) Q E s := by
  obtain ⟨mA, O, r, _, _, _⟩ := ins_get I.hok e
  have hn : mA m = none := RelO.none_of (by rw [← l]; exact r m)
  exact get_meth I.kIn O (c.get m) k.at_ k.fn hn h
theorem setattr_ok {y : V} {u : Value} {Q : Unit → Shared → Prop} (I : Inv X pins σ H s) (e : H a = some (.ins C dx fs)) (c : Cls X.K C) (n : NoAttr X.K C f) (hl : fs.length < 1000) (ry : RelV y u)
    (h : ∀ s', Inv X pins σ (upd H a (.ins C dx (putF f y fs))) s' → Q () s') : wpAny (model X.prog X.w) A (setAttr (.ref a) f u) Q E s := by
  obtain ⟨mA, O, r, wi, _, ho⟩ := ins_get I.hok e
  have hz : (fs.map (·.1)).length ≤ sizeLine := by rw [List.length_map, sizeLine_eq]; omega
  refine set_map I.kIn O c.sa c.po n.taker c.hd wi hz fun h' O' sb => h _ ?_
  have hd : ∃ o, h'.get? dx = some o := let ⟨o, _, _, e', _⟩ := O'.ns; ⟨o, e'⟩
  refine I.write (x := a) (e := dx) (by rw [e]; exact True.intro) (.inr ho) (fun b q hb z => (sb.2 b hb).trans z) hd ?_
  refine ⟨by rw [upd_ne O.ne]; exact ho, ?_, O.ne, O'.obj, _, O'.ns, fun g => ?_, fun g hg => ?_⟩
  · have := length_putF f y fs; omega
  · show RelO ((putF f y fs).lookup g) (if g = f then some u else mA g)
    rw [lookup_putF]
    by_cases q : g = f
    · rw [if_pos q, if_pos q]; exact ry
    · rw [if_neg q, if_neg q]; exact r g
  · by_cases q : g = f
    · rw [q]; exact (keys_putF f y fs).1
    · refine (keys_putF f y fs).2 g (wi g fun z => hg ?_)
      show (if g = f then some u else mA g) = none
      rw [if_neg q]; exact z
theorem Inv.made (I : Inv X pins σ H s) : Inv X pins σ (upd (upd H s.heap.objs.size (.own (s.heap.objs.size + 1))) (s.heap.objs.size + 1) (.ins C s.heap.objs.size []))
    { s with heap := (s.heap.push PySem.W.emptyDict).push (PySem.W.instObj C s.heap.objs.size) } := by
  have e1 : (s.heap.push PySem.W.emptyDict).get? s.heap.objs.size = some PySem.W.emptyDict := Heap.get?_push_size s.heap rfl
  have e2 : ((s.heap.push PySem.W.emptyDict).push (PySem.W.instObj C s.heap.objs.size)).get? (s.heap.objs.size + 1) = some (PySem.W.instObj C s.heap.objs.size) := by
    have := Heap.get?_push_size (s.heap.push PySem.W.emptyDict) (o := PySem.W.instObj C s.heap.objs.size) rfl
    rwa [Heap.size_push] at this
  have e3 : (s.heap.push PySem.W.emptyDict).Ns s.heap.objs.size (fun _ => none) := ⟨PySem.W.emptyDict, #[], _, e1, rfl, (fun e he => absurd he (by simp)), fun _ => rfl⟩
  have I1 := I.laid (a := s.heap.objs.size) (o := .own (s.heap.objs.size + 1)) (h' := s.heap.push PySem.W.emptyDict) (t' := s.toks) (fun b u q => Heap.get?_push_of_some _ q) (Nat.le_refl _) ⟨_, e1⟩
  refine I1.laid (a := s.heap.objs.size + 1) (o := .ins C s.heap.objs.size []) (t' := s.toks) (fun b u q => Heap.get?_push_of_some _ q) (Nat.le_of_eq (Heap.size_push _ _)) ?_
  have ne : s.heap.objs.size ≠ s.heap.objs.size + 1 := Nat.ne_of_lt (Nat.lt_succ_self _)
  refine ⟨by rw [upd_ne ne, upd_same], Nat.zero_le _, ne, e2, fun _ => none, (Heap.Ns1.of_empty e3).at fun o q => Heap.get?_push_of_some _ q, fun _ => True.intro, fun y hy => absurd rfl hy⟩
theorem attr_of {prog : Program} {w : World} {env : Env} {e : Expr} {f : Str} {pos : Pos} {s : Shared} {Q : Value → Shared → Prop} (hb : attributeBase e f env (eval e env) = eval e env)
    (h : wpAny (model prog w) A (eval e env) (fun o s₁ => wpAny (model prog w) A (getAttr o f true) Q E s₁) E s) : wpAny (model prog w) A (eval (.Attribute e f pos) env) Q E s :=
  Attribute_any_ h (by rw [arm_eval_Attribute, hb])
end
def tFld (K : PySem.W.Frag) (ta : TE) (f : Str) : TE := fun σ H Q => ta σ H fun x H1 => ∃ a C dx fs v, x = .ref a ∧ H1 a = some (.ins C dx fs) ∧ Cls K C ∧ NoAttr K C f ∧ fs.lookup f = some v ∧ Q v H1
def tCon (K : PySem.W.Frag) (ta : TE) (f : Str) : TE := fun σ H Q => ta σ H fun x H1 => ∃ a C dx fs v u, x = .ref a ∧ H1 a = some (.ins C dx fs) ∧ Cls K C ∧ Con K C f v u ∧ fs.lookup f = none ∧ Q v H1
def sFld (K : PySem.W.Frag) (ta tv : TE) (f : Str) : TS := fun D σ H => tv σ H fun y H1 => ta σ H1 fun x H2 => ∃ a C dx fs, x = .ref a ∧ H2 a = some (.ins C dx fs) ∧ Cls K C ∧ NoAttr K C f ∧ fs.length < 1000 ∧
  D.nx σ (upd H2 a (.ins C dx (putF f y fs)))
def InOp (X : Cx) (op : Operator) (rd : V → V → Hp → VK → Prop) : Prop :=
  ∀ (pins : List (Addr × Obj)) (s : Shared) (σ : St) (H : Hp) (x y : V) (u v : Value) (Q : VK), Inv X pins σ H s → RelV x u → RelV y v → rd x y H Q → wpAny (model X.prog X.w) X.A (inplaceOp op u v) (EP X pins σ Q) X.xe s
def sFldAug (K : PySem.W.Frag) (ta tv : TE) (rd : V → V → Hp → VK → Prop) (f : Str) : TS := fun D σ H => ta σ H fun x H1 => ∃ a C dx fs v, x = .ref a ∧ H1 a = some (.ins C dx fs) ∧ Cls K C ∧ NoAttr K C f ∧ fs.lookup f = some v ∧
  tv σ H1 fun y H2 => rd v y H2 fun z H3 => ∃ dx' fs', H3 a = some (.ins C dx' fs') ∧ fs'.length < 1000 ∧ D.nx σ (upd H3 a (.ins C dx' (putF f z fs')))
section
variable {X : Cx} {o e value : Expr} {f : Str} {pos pos' tpos : Pos} {ta tv : TE}
theorem pe_fld (he : PE X e ta) (hb : attributeBase e f X.env (eval e X.env) = eval e X.env) : PE X (.Attribute e f pos) (tFld X.K ta f) := by
  intro pins s σ H Q I h
  refine attr_of hb (thn (he pins s σ H _ I h) fun u s1 ⟨x, H1, I1, rx, a, C, dx, fs, v, ex, ea, c, n, l, q⟩ => ?_)
  subst ex
  obtain rfl : u = Value.ref a := rx
  exact getattr_ok I1 ea c n l fun u' s2 I2 ru => ⟨v, H1, I2, ru, q⟩
theorem pe_con (he : PE X e ta) (hb : attributeBase e f X.env (eval e X.env) = eval e X.env) : PE X (.Attribute e f pos) (tCon X.K ta f) := by
  intro pins s σ H Q I h
  refine attr_of hb (thn (he pins s σ H _ I h) fun u s1 ⟨x, H1, I1, rx, a, C, dx, fs, v, u0, ex, ea, c, k, l, q⟩ => ?_)
  subst ex
  obtain rfl : u = Value.ref a := rx
  exact getcon_ok I1 ea c k l fun s2 I2 => ⟨v, H1, I2, k.rel, q⟩
theorem ps_fld (ha : PE X o ta) (hv : PE X value tv) (hs : swapsWith value (some (.Attribute o f pos')) pos.line X.env = pure false) : PS X (.Assign [.Attribute o f pos'] value pos) (sFld X.K ta tv f) := by
  intro pins s σ H D I h
  refine plainObj_wpAny_Assign_Attribute (thn (hv pins s σ H _ I h) fun u s1 ⟨y, H1, I1, ry, q⟩ => thn (ha pins s1 σ H1 _ I1 q) fun ov s2 ⟨x, H2, I2, rx, a, C, dx, fs, ex, ea, c, n, l, q2⟩ => ?_) hs
  subst ex
  obtain rfl : ov = Value.ref a := rx
  exact setattr_ok I2 ea c n l ry fun s3 I3 => ⟨σ, _, I3, q2⟩
theorem ps_fldaug {op : Operator} {rd : V → V → Hp → VK → Prop} (ha : PE X o ta) (hv : PE X value tv) (hop : InOp X op rd) : PS X (.AugAssign (.Attribute o f tpos) op value pos) (sFldAug X.K ta tv rd f) := by
  intro pins s σ H D I h
  refine wpAny_AugAssign_AttributeAny (thn (ha pins s σ H _ I h) fun ov s1 ⟨x, H1, I1, rx, a, C, dx, fs, v, ex, ea, c, n, l, q⟩ => ?_)
  subst ex
  obtain rfl : ov = Value.ref a := rx
  refine getattr_ok I1 ea c n l fun u s2 I2 ru => thn (hv pins s2 σ H1 _ I2 q) fun w3 s3 ⟨y, H2, I3, ry, q3⟩ => thn (hop pins s3 σ H2 v y u w3 _ I3 ru ry q3) fun w4 s4 ⟨z, H3, I4, rz, dx', fs', ea', l', q4⟩ => ?_
  exact setattr_ok I4 ea' c n l' rz fun s5 I5 => ⟨σ, _, I5, q4⟩
def rAdd : V → V → Hp → VK → Prop := fun x y H Q => ∃ i j, x = .int i ∧ y = .int j ∧ Q (.int (i + j)) H
def rSub : V → V → Hp → VK → Prop := fun x y H Q => ∃ i j, x = .int i ∧ y = .int j ∧ Q (.int (i - j)) H
theorem in_add : InOp X .Add rAdd := by
  rintro pins s σ H x y u v Q I rx ry ⟨i, j, rfl, rfl, q⟩
  obtain ⟨t, rfl⟩ := (show ∃ t, u = Value.int i t from rx)
  obtain ⟨t', rfl⟩ := (show ∃ t', v = Value.int j t' from ry)
  exact PyProof.Rows.iadd_int ⟨.int (i + j), H, I.tok _, ⟨_, rfl⟩, q⟩
theorem in_sub : InOp X .Sub rSub := by
  rintro pins s σ H x y u v Q I rx ry ⟨i, j, rfl, rfl, q⟩
  obtain ⟨t, rfl⟩ := (show ∃ t, u = Value.int i t from rx)
  obtain ⟨t', rfl⟩ := (show ∃ t', v = Value.int j t' from ry)
  exact PyProof.Rows.isub_int ⟨.int (i - j), H, I.tok _, ⟨_, rfl⟩, q⟩
theorem methcall_of {pl : Sem Bool} {m : Str} {apos : Pos} {args : List Expr} {pins : List (Addr × Obj)} {s : Shared} {σ : St} {H : Hp} {Q : Value → Shared → Prop} {te : TE} (he : PE X e te) (I : Inv X pins σ H s)
    (h : te σ H fun x H1 => ∃ a C dx fs g, x = .ref a ∧ H1 a = some (.ins C dx fs) ∧ Cls X.K C ∧ Meth X.K C m g ∧ fs.lookup m = none ∧
      ∀ s1, Inv X pins σ H1 s1 → wpAny (model X.prog X.w) X.A (callWith pos (.ref g) [.ref a] (backTo pos (starEach args X.env)) (backToKw pos (keywordEach [] X.env))) Q X.xe s1)
    (ht : eval (.Call (.Attribute e m apos) args [] pos) X.env = (do
      let ov ← eval e X.env
      standAt apos.atName
      let (f, first) ← holding [ov] (getMethod ov m pl)
      callWith pos f first (backTo pos (starEach args X.env)) (backToKw pos (keywordEach [] X.env)))) :
    wpAny (model X.prog X.w) X.A (eval (.Call (.Attribute e m apos) args [] pos) X.env) Q X.xe s := by
  refine PySem.W.methodCall_KW (pl := pl) (thn (he pins s σ H _ I h) fun u s1 ⟨x, H1, I1, rx, a, C, dx, fs, g, ex, ea, c, k, l, q⟩ => ?_) ht
  subst ex
  obtain rfl : u = Value.ref a := rx
  exact getmeth_ok I1 ea c k l (q s1 I1)
end
section
variable {X : Cx} {pins : List (Addr × Obj)} {σ : St} {H : Hp} {s : Shared} {A : Around} {E : Value → Shared → Prop} {Q : Value → Shared → Prop} {c : Value} {b : Bool}
inductive TyOf (K : PySem.W.Frag) (H : Hp) : V → Value → Prop where
  | non : TyOf K H .non (.type "NoneType")
  | bl (x : Bool) : TyOf K H (.bl x) (.type "bool")
  | int (i : Int) : TyOf K H (.int i) (.type "int")
  | str (x : Str) : TyOf K H (.str x) (.type "str")
  | flt (x : UInt64) : TyOf K H (.flt x) (.type "float")
  | lst {a : Addr} {xs : List V} (e : H a = some (.lst xs)) : TyOf K H (.ref a) (.type "list")
  | frz {a : Addr} {o : Obj} {xs : List V} (e : H a = some (.frz o (.lst xs))) : TyOf K H (.ref a) (.type "list")
  | tup {a : Addr} {xs : List V} (e : H a = some (.tup xs)) : TyOf K H (.ref a) (.type "tuple")
  | dK {a : Addr} {kvs : List (Key × V)} (e : H a = some (.dK kvs)) : TyOf K H (.ref a) (.type "dict")
  | dT {a : Addr} {kvs : List (List Key × V)} (e : H a = some (.dT kvs)) : TyOf K H (.ref a) (.type "dict")
  | ins {a C dx : Addr} {fs : List (Str × V)} (e : H a = some (.ins C dx fs)) (cl : Cls K C) (ha : PySem.W.findIn K (.ref C) "__class__" = some (some (.builtin "object.__class__")))
      (hn : PySem.W.specialIn K (.builtin "object.__class__") "__get__" = some (some (.builtin "getset_descriptor.__get__"))) (htk : PySem.W.takesIn K (.builtin "object.__class__") = some true)
      (hm : PySem.W.mroIn K C (.type "object") = some true) : TyOf K H (.ref a) (.ref C)
theorem isinst_ok {x : V} {u t : Value} (I : Inv X pins σ H s) (rx : RelV x u) (ty : TyOf X.K H x t) (e : PySem.W.kitOne X.K t c = some b) (h : ∀ tk, Q (.bool b) { s with toks := tk }) :
    wpAny (model X.prog X.w) A (call (.builtin "isinstance") [u, c]) Q E s := by
  cases ty with
  | non => cases (show u = Value.none from rx); exact PySem.W.kia_one PySem.W.kitx_none I.kIn True.intro e (fun z => nomatch z) h
  | bl y => cases (show u = Value.bool y from rx); exact PySem.W.kia_one PySem.W.kitx_bool I.kIn True.intro e (fun z => nomatch z) h
  | int i => obtain ⟨t, q⟩ := (show ∃ t, u = Value.int i t from rx); cases q; exact PySem.W.kia_one PySem.W.kitx_int I.kIn True.intro e (fun z => nomatch z) h
  | str y => obtain ⟨t, q⟩ := (show ∃ t, u = Value.str y t from rx); cases q; exact PySem.W.kia_one PySem.W.kitx_str I.kIn True.intro e (fun z => nomatch z) h
  | flt y => obtain ⟨t, q⟩ := (show ∃ t, u = Value.float y t from rx); cases q; exact PySem.W.kia_one PySem.W.kitx_float I.kIn True.intro e (fun z => nomatch z) h
  | @lst a xs ea =>
    cases (show u = Value.ref a from rx)
    obtain ⟨_, _, n, _, h1⟩ := (show ObjOk X.prog X.w H s.heap a (.lst xs) from I.hok a _ ea)
    exact PySem.W.kia_one PySem.W.kitx_list I.kIn ⟨_, h1, rfl⟩ e (fun z => nomatch z) h
  | @frz a ob xs ea =>
    cases (show u = Value.ref a from rx)
    obtain ⟨_, _, _, n, _, h1⟩ := (show ObjOk X.prog X.w H s.heap a (.frz ob (.lst xs)) from I.hok a _ ea)
    exact PySem.W.kia_one PySem.W.kitx_list I.kIn ⟨_, h1, rfl⟩ e (fun z => nomatch z) h
  | @tup a xs ea =>
    cases (show u = Value.ref a from rx)
    obtain ⟨_, _, _, p⟩ := (show ObjOk X.prog X.w H s.heap a (.tup xs) from I.hok a _ ea)
    obtain ⟨o, h1, h2, _⟩ := p
    exact PySem.W.kia_one PySem.W.kitx_tuple I.kIn ⟨o, h1, h2⟩ e (fun z => nomatch z) h
  | @dK a kvs ea =>
    cases (show u = Value.ref a from rx)
    obtain ⟨_, _, vs, _, p⟩ := (show ObjOk X.prog X.w H s.heap a (.dK kvs) from I.hok a _ ea)
    obtain ⟨o, es, ep, h1, h2, _⟩ := p
    exact PySem.W.kia_one PySem.W.kitx_dict I.kIn ⟨o, h1, h2.1⟩ e (fun z => nomatch z) h
  | @dT a kvs ea =>
    cases (show u = Value.ref a from rx)
    obtain ⟨_, _, xs, _, o, es, ep, h1, h2, _⟩ := (show ObjOk X.prog X.w H s.heap a (.dT kvs) from I.hok a _ ea)
    exact PySem.W.kia_one PySem.W.kitx_dict I.kIn ⟨o, h1, h2.1⟩ e (fun z => nomatch z) h
  | @ins a C dx fs ea cl ha hn htk hm =>
    cases (show u = Value.ref a from rx)
    obtain ⟨mA, O, _⟩ := ins_get I.hok ea
    obtain ⟨od, J, _⟩ := O.look
    exact PySem.W.kia_one (PySem.W.kitx_own (cl.get _) cl.hd ha hn htk hm) I.kIn J e (fun z => nomatch z) h
end
end L2
namespace L2
open PySem PySem.Spec PyProof.Rows
structure RoomC (c : Bool) (k : Nat) (A : Around) : Prop where
  hd : c = true → A.handled = none
  dp : A.depth + 3 * k + 5 < recursionLimit
  un : A.units + 16 * k + 200 < cLine
abbrev Room := RoomC true
theorem RoomC.mono {c c' : Bool} {j k : Nat} {A : Around} (r : RoomC c k A) (h : j ≤ k) (hc : c' = true → c = true := by decide) : RoomC c' j A := ⟨fun z => r.hd (hc z), by have := r.dp; omega, by have := r.un; omega⟩
theorem RoomC.deeper {c : Bool} {k : Nat} {A : Around} (r : RoomC c (k + 1) A) (env : Env) : RoomC c k (A.deeper env) :=
  ⟨r.hd, by have := r.dp; show A.depth + 1 + 3 * k + 5 < _; omega, by have := r.un; show A.units + 3 + 16 * k + 200 < _; omega⟩
theorem RoomC.in1 {c : Bool} {k : Nat} {A : Around} (r : RoomC c (k + 1) A) : RoomC c k A.in1 :=
  ⟨r.hd, by have := r.dp; show A.depth + 3 * k + 5 < _; omega, by have := r.un; show A.units + 1 + 16 * k + 200 < _; omega⟩
theorem make_depth {A : Around} {C : Addr} {us : List Value} {kw : List (Str × Value)} : (A.under (.builtin "type.__call__" ⟨.ref C :: us, kw⟩)).depth = A.depth + 1 := by
  first | rfl | simp [Around.under, Code.weight, Code.isCreation, Code.isGuard, Code.isCaller, Code.frames, Code.isFrame, guardIds]
theorem make_units {A : Around} {C : Addr} {us : List Value} {kw : List (Str × Value)} : (A.under (.builtin "type.__call__" ⟨.ref C :: us, kw⟩)).units = A.units + 1 := by
  first | rfl | simp [Around.under, Code.cUnits, Code.frames, Code.isFrame]
theorem RoomC.make {c : Bool} {k : Nat} {A : Around} (r : RoomC c (k + 1) A) (C : Addr) (us : List Value) (kw : List (Str × Value)) : RoomC c k (A.under (.builtin "type.__call__" ⟨.ref C :: us, kw⟩)) :=
  ⟨r.hd, by have := r.dp; rw [make_depth]; omega, by have := r.un; rw [make_units]; omega⟩
theorem RoomC.depth {c : Bool} {k : Nat} {A : Around} (r : RoomC c k A) : A.depth < recursionLimit := by have := r.dp; omega
theorem RoomC.units {c : Bool} {k : Nat} {A : Around} (r : RoomC c k A) : A.units + 64 < cLine := by have := r.un; omega
theorem RoomC.units0 {c : Bool} {k : Nat} {A : Around} (r : RoomC c k A) : A.units < cLine := by have := r.un; omega
def tNil : TA := fun _ H Q => Q [] H
def tCons (ta : TE) (tr : TA) : TA := fun σ H Q => ta σ H fun x H1 => tr σ H1 fun xs H2 => Q (x :: xs) H2
section
variable {X : Cx} {e : Expr} {es : List Expr} {te : TE} {t : TA} {pos : Pos}
theorem pa_nil : PA X [] tNil := fun _ _ _ _ H Q I h => Calls.spliced_nil ⟨[], H, I, .nil, h⟩
theorem pa_cons (ha : PE X e te) (hr : PA X es t) (hs : starEach (e :: es) X.env = (false, eval e X.env) :: starEach es X.env := by rfl) : PA X (e :: es) (tCons te t) := by
  intro pos pins s σ H Q I h
  rw [hs]
  show wpAny _ _ (spliced ((false, eval e X.env) :: backTo pos (starEach es X.env))) _ _ s
  refine Calls.spliced_cons (thn (ha pins s σ H _ I h) fun u s1 ⟨x, H1, I1, r1, q1⟩ => ?_)
  exact thn (hr pos pins s1 σ H1 _ I1 q1) fun us s2 ⟨xs, H2, I2, r2, q2⟩ => ⟨x :: xs, H2, I2, .cons r1 r2, q2⟩
def tTup (t : TA) : TE := fun σ H Q => t σ H fun xs H1 => xs.length ≤ sizeLine ∧ ∀ p, H1 p = none → Q (.ref p) (upd H1 p (.tup xs))
def tLst (t : TA) : TE := fun σ H Q => t σ H fun xs H1 => xs.length ≤ sizeLine ∧ ∀ p, H1 p = none → Q (.ref p) (upd H1 p (.lst xs))
theorem pe_tup {x1} (h : PA X es t) : PE X (.Tuple es x1 pos) (tTup t) := by
  intro pins s σ H Q I hq
  refine wpAny_Tuple_spliced (thn (h pos pins s σ H _ I hq) fun us s1 ⟨xs, H1, I1, r, z, q⟩ => ⟨by rw [← r.length]; exact z, ?_⟩)
  have hf : H1 s1.heap.objs.size = none := I1.hok.fresh (Nat.le_refl _)
  refine ⟨.ref s1.heap.objs.size, upd H1 s1.heap.objs.size (.tup xs), I1.laid (t' := s1.toks) (fun b u e => Heap.get?_push_of_some _ e) (Nat.le_refl _) ?_, rfl, q _ hf⟩
  exact ⟨z, us, r, ⟨_, Heap.get?_push_size _ rfl, rfl, _, rfl⟩⟩
theorem pe_lst (h : PA X es t) : PE X (.List es pos) (tLst t) := by
  intro pins s σ H Q I hq
  refine wpAny_List_spliced (thn (h pos pins s σ H _ I hq) fun us s1 ⟨xs, H1, I1, r, z, q⟩ => ⟨by rw [← r.length]; exact z, ?_⟩)
  have hf : H1 s1.heap.objs.size = none := I1.hok.fresh (Nat.le_refl _)
  refine ⟨.ref s1.heap.objs.size, upd H1 s1.heap.objs.size (.lst xs), I1.laid (t' := s1.toks) (fun b u e => Heap.get?_push_of_some _ e) (Nat.le_refl _) ?_, rfl, q _ hf⟩
  exact ⟨z, us, 0, r, Heap.get?_push_size _ rfl⟩
end
abbrev Sp := List V → Hp → VK → XK → Prop
abbrev CXT := List Env → Hp → Shared → XK → Value → Shared → Prop
structure Env0 (P : Program) (w : World) (K : PySem.W.Frag) (mg : Str → Option Value) (base : Heap) (A : Around) (outer : List Env) (s : Shared) (H : Hp) : Prop where
  frames : A.frames = some outer
  mod : Mod K mg base
  bs : ∀ b o, base.get? b = some o → s.heap.get? b = some o ∧ H b = none
  bsz : base.objs.size ≤ s.heap.objs.size
  funs : s.heap.FunFrames base outer
  frf : ∀ b ∈ frs outer, H b = none
  hok : HOk P w H s.heap
  bare : AllBare s.gens
  hn : HdF A H
def CE (outer : List Env) (P : Program) (w : World) (H : Hp) (s : Shared) (Q : VK) (u : Value) (s' : Shared) : Prop :=
  ∃ v H', s'.os = s.os ∧ AllBare s'.gens ∧ Un (frs outer) [] H H' s.heap s'.heap ∧ HOk P w H' s'.heap ∧ RelV v u ∧ Q v H'
def CR (CX : CXT) (outer : List Env) (P : Program) (w : World) (H : Hp) (s : Shared) (Q : VK) (E : XK) (r : Result) (s' : Shared) : Prop :=
  match r with
  | .ok (.ret u) => CE outer P w H s Q u s'
  | .ok _ => False
  | .error e => CX outer H s E e s'
structure FnOk (P : Program) (w : World) (K : PySem.W.Frag) (mg : Str → Option Value) (base : Heap) (CX : CXT) (k : Nat) (f : Addr) (fd : FuncData) (ps : List Str) (sp : Sp) (c : Bool := true) : Prop where
  len : ∀ vs H Q E, sp vs H Q E → vs.length = ps.length
  run : ∀ (A : Around) (outer : List Env) (s : Shared) (H : Hp) (args : Args) (us : List Value) (vs : List V) (Q : VK) (E : XK), RoomC c k A → Env0 P w K mg base A outer s H → BindsTo s fd args (ps.zip us) → Vals vs us → sp vs H Q E →
    codeAny (model P w) A (.call (.ref f) args) (CR CX outer P w H s Q E) s
theorem FnOk.mono {P : Program} {w : World} {K : PySem.W.Frag} {mg : Str → Option Value} {base : Heap} {CX : CXT} {j k : Nat} {f : Addr} {fd : FuncData} {ps : List Str} {sp : Sp} (F : FnOk P w K mg base CX j f fd ps sp) (h : j ≤ k) :
    FnOk P w K mg base CX k f fd ps sp := ⟨F.len, fun A outer s H args us vs Q E hr => F.run A outer s H args us vs Q E (hr.mono h)⟩
theorem FnOk.imp {P : Program} {w : World} {K : PySem.W.Frag} {mg : Str → Option Value} {base : Heap} {CX : CXT} {k : Nat} {f : Addr} {fd : FuncData} {ps : List Str} {sp sp' : Sp} (F : FnOk P w K mg base CX k f fd ps sp)
    (h : ∀ vs H Q E, sp' vs H Q E → sp vs H Q E) : FnOk P w K mg base CX k f fd ps sp' :=
  ⟨fun vs H Q E q => F.len vs H Q E (h _ _ _ _ q), fun A outer s H args us vs Q E hr he hb hv hs => F.run A outer s H args us vs Q E hr he hb hv (h _ _ _ _ hs)⟩
theorem Env0.make {P : Program} {w : World} {K : PySem.W.Frag} {mg : Str → Option Value} {base : Heap} {A : Around} {outer : List Env} {s : Shared} {H : Hp} (e : Env0 P w K mg base A outer s H) (C : Addr) (us : List Value) (kw : List (Str × Value)) :
    Env0 P w K mg base (A.under (.builtin "type.__call__" ⟨.ref C :: us, kw⟩)) outer s H := ⟨by first | exact e.frames | (simpa [Around.under, Code.envs, Code.isFrame, pushEnvs] using e.frames), e.mod, e.bs, e.bsz, e.funs, e.frf, e.hok, e.bare, e.hn⟩
theorem Env0.in1 {P : Program} {w : World} {K : PySem.W.Frag} {mg : Str → Option Value} {base : Heap} {A : Around} {outer : List Env} {s : Shared} {H : Hp} (e : Env0 P w K mg base A outer s H) :
    Env0 P w K mg base A.in1 outer s H := ⟨e.frames, e.mod, e.bs, e.bsz, e.funs, e.frf, e.hok, e.bare, e.hn⟩
section
variable {X : Cx} {pins : List (Addr × Obj)} {σ : St} {H : Hp} {s s' : Shared}
theorem Inv.env0 (I : Inv X pins σ H s) : Env0 X.prog X.w X.K X.mg X.base X.A X.stack s H :=
  ⟨I.ok.frames, I.ok.mod, I.bs, Nat.le_trans I.ok.bsz I.sz, I.stack, I.stkFree, I.hok, I.bare, I.hn⟩
theorem Inv.after {Q : VK} {u : Value} (I : Inv X pins σ H s) (h : CE X.stack X.prog X.w H s Q u s') : EP X pins σ Q u s' := by
  obtain ⟨v, H', os, bare, un, hok, r, q⟩ := h
  obtain ⟨hh, g, d, t, os'⟩ := s'
  obtain rfl : os' = s.os := os
  exact ⟨v, H', I.call (h' := hh) (g' := g) (d' := d) (t' := t) (ch := []) un hok bare (fun b z => absurd z (by simp)), r, q⟩
end
def tCall (sp : Sp) (dvs : List V) (E : XK) (t : TA) : TE := fun σ H Q => t σ H fun vs H1 => sp (vs ++ dvs) H1 Q E
def tMeth (C : Addr) (m : Str) (sp : Sp) (dvs : List V) (E : XK) (ta : TE) (t : TA) : TE := fun σ H Q => ta σ H fun x H1 => ∃ a dx fs, x = .ref a ∧ H1 a = some (.ins C dx fs) ∧ fs.lookup m = none ∧
  t σ H1 fun vs H2 => sp (x :: (vs ++ dvs)) H2 Q E
def tMake (C : Addr) (sp : Sp) (dvs : List V) (E : XK) (t : TA) : TE := fun σ H Q => t σ H fun vs H1 => ∀ x dx, H1 x = none → H1 dx = none → dx ≠ x →
  sp (.ref x :: (vs ++ dvs)) (upd (upd H1 dx (.own x)) x (.ins C dx [])) (fun v H2 => v = .non ∧ Q (.ref x) H2) E
def Binds (K : PySem.W.Frag) (fd : FuncData) (ps : List Str) (ds : List Value) : Prop :=
  ∀ (s : Shared) (us : List Value), K.In s.heap → (us ++ ds).length = ps.length → BindsTo s fd ⟨us, []⟩ (ps.zip (us ++ ds))
theorem Binds.all {K : PySem.W.Frag} {fd : FuncData} {ps : List Str} (h : ∀ us : List Value, us.length = ps.length → bindArgs fd ⟨us, []⟩ = pure (ps.zip us)) : Binds K fd ps [] := fun s us _ hl => by
  rw [List.append_nil] at hl ⊢
  exact .of_eq (h us hl)
def Passes (CX : CXT) (X : Cx) (E : XK) : Prop := ∀ (pins : List (Addr × Obj)) (σ : St) (H : Hp) (s : Shared) (e : Value) (s' : Shared), Inv X pins σ H s → CX X.stack H s E e s' → X.xe e s'
section
variable {X : Cx} {CX : CXT} {k : Nat} {f C : Addr} {fd : FuncData} {ps : List Str} {sp : Sp} {dvs : List V} {ds : List Value} {E : XK} {x m : Str} {p pos apos : Pos} {e o : Expr} {es : List Expr} {ta : TE} {t : TA}
theorem run_fn {pins : List (Addr × Obj)} {σ : St} {H : Hp} {s : Shared} {Q : VK} {us : List Value} {vs : List V} {cm : Bool} (F : FnOk X.prog X.w X.K X.mg X.base CX k f fd ps sp cm) (hr : RoomC cm k X.A) (hb : Binds X.K fd ps ds) (hd : Vals dvs ds) (hx : Passes CX X E)
    (I : Inv X pins σ H s) (r : Vals vs us) (h : sp (vs ++ dvs) H Q E) : wpAny (model X.prog X.w) X.A (call (.ref f) us) (EP X pins σ Q) X.xe s := by
  have r2 : Vals (vs ++ dvs) (us ++ ds) := r.append hd
  have hl : (us ++ ds).length = ps.length := by rw [← r2.length]; exact F.len _ _ _ _ h
  refine wpAny_call (codeAny_mono (F.run X.A X.stack s H ⟨us, []⟩ (us ++ ds) (vs ++ dvs) Q E hr I.env0 (hb s us I.kIn hl) r2 h) fun r s' hq => ?_)
  cases r with
  | error e => exact hx pins σ H s e s' I hq
  | ok fl =>
    cases fl with
    | ret u => exact I.after hq
    | next => exact False.elim hq
    | brk => exact False.elim hq
    | cont => exact False.elim hq
theorem pe_call {cm : Bool} (F : FnOk X.prog X.w X.K X.mg X.base CX k f fd ps sp cm) (hr : RoomC cm k X.A) (hg : Gl X x) (hm : X.mg x = some (.ref f)) (hk : PySem.W.keepIn X.K (.ref f) = true) (hb : Binds X.K fd ps ds) (hd : Vals dvs ds) (hx : Passes CX X E)
    (ha : PA X (e :: es) t) (hdb : (x == ("__debug__" : Str)) = false := by decide) (he : starEach (e :: es) X.env = (false, eval e X.env) :: starEach es X.env := by rfl) (hpl : (backTo pos (starEach es X.env)).any (·.1) = false := by rfl) :
    PE X (.Call (.Name x p) (e :: es) [] pos) (tCall sp dvs E t) := by
  intro pins s σ H Q I h
  refine wpAny_Call_Name_kw (ld_glob I hg hm ?_ hdb)
  refine PySem.W.callWith_K (h₀ := X.base) I.ok.mod.kin hk (thn (ha pos pins s σ H _ I h) fun us s1 ⟨vs, H1, I1, r, q⟩ => ⟨I1.kIn, ?_⟩) he hpl
  exact run_fn F hr hb hd hx I1 r q
theorem pe_call0 {cm : Bool} (F : FnOk X.prog X.w X.K X.mg X.base CX k f fd ps sp cm) (hr : RoomC cm k X.A) (hg : Gl X x) (hm : X.mg x = some (.ref f)) (hk : PySem.W.keepIn X.K (.ref f) = true) (hb : Binds X.K fd ps ds) (hd : Vals dvs ds) (hx : Passes CX X E)
    (hdb : (x == ("__debug__" : Str)) = false := by decide) : PE X (.Call (.Name x p) [] [] pos) (tCall sp dvs E tNil) := by
  intro pins s σ H Q I h
  refine wpAny_Call_Name_kw (ld_glob I hg hm ?_ hdb)
  exact PySem.W.callWith_K0 I.kIn hk (run_fn (us := []) F hr hb hd hx I .nil h)
theorem pe_meth {pl : Sem Bool} (he : PE X o ta) (c : Cls X.K C) (hm : Meth X.K C m f) {cm : Bool} (F : FnOk X.prog X.w X.K X.mg X.base CX k f fd ps sp cm) (hr : RoomC cm k X.A) (hb : Binds X.K fd ps ds) (hd : Vals dvs ds) (hx : Passes CX X E) (ha : PA X (e :: es) t)
    (hst : starEach (e :: es) X.env = (false, eval e X.env) :: starEach es X.env := by rfl) (hpl : (backTo pos (starEach es X.env)).any (·.1) = false := by rfl)
    (ht : eval (.Call (.Attribute o m apos) (e :: es) [] pos) X.env = (do
      let ov ← eval o X.env
      standAt apos.atName
      let (f, first) ← holding [ov] (getMethod ov m pl)
      callWith pos f first (backTo pos (starEach (e :: es) X.env)) (backToKw pos (keywordEach [] X.env))) := by rfl) :
    PE X (.Call (.Attribute o m apos) (e :: es) [] pos) (tMeth C m sp dvs E ta t) := by
  intro pins s σ H Q I h
  refine PySem.W.methodCall_KW (pl := pl) (thn (he pins s σ H _ I h) fun u s1 ⟨x, H1, I1, rx, a, dx, fs, ex, ea, l, q⟩ => ?_) ht
  subst ex
  obtain rfl : u = Value.ref a := rx
  refine getmeth_ok I1 ea c hm l ?_
  refine PySem.W.callWith_K (first := [.ref a]) (h₀ := X.base) I.ok.mod.kin hm.kp (thn (ha pos pins s1 σ H1 _ I1 q) fun us s2 ⟨vs, H2, I2, r, q2⟩ => ⟨I2.kIn, ?_⟩) hst hpl
  exact run_fn (us := .ref a :: us) (vs := .ref a :: vs) F hr hb hd hx I2 (.cons rfl r) q2
theorem pe_meth0 {pl : Sem Bool} (he : PE X o ta) (c : Cls X.K C) (hm : Meth X.K C m f) {cm : Bool} (F : FnOk X.prog X.w X.K X.mg X.base CX k f fd ps sp cm) (hr : RoomC cm k X.A) (hb : Binds X.K fd ps ds) (hd : Vals dvs ds) (hx : Passes CX X E)
    (ht : eval (.Call (.Attribute o m apos) [] [] pos) X.env = (do
      let ov ← eval o X.env
      standAt apos.atName
      let (f, first) ← holding [ov] (getMethod ov m pl)
      callWith pos f first (backTo pos (starEach [] X.env)) (backToKw pos (keywordEach [] X.env))) := by rfl) :
    PE X (.Call (.Attribute o m apos) [] [] pos) (tMeth C m sp dvs E ta tNil) := by
  intro pins s σ H Q I h
  refine PySem.W.methodCall_KW (pl := pl) (thn (he pins s σ H _ I h) fun u s1 ⟨x, H1, I1, rx, a, dx, fs, ex, ea, l, q⟩ => ?_) ht
  subst ex
  obtain rfl : u = Value.ref a := rx
  refine getmeth_ok I1 ea c hm l ?_
  exact PySem.W.callWith_K0 (first := [.ref a]) I1.kIn hm.kp (run_fn (us := [.ref a]) (vs := [.ref a]) F hr hb hd hx I1 (.cons rfl .nil) q)
structure Mk (K : PySem.W.Frag) (C f : Addr) : Prop where
  makes : PySem.W.makesIn K C = true
  init : PySem.W.findIn K (.ref C) "__init__" = some (some (.ref f))
  fn : PySem.W.isFn K (.ref f) = true
  kp : PySem.W.keepIn K (.ref C) = true
theorem run_make {pins : List (Addr × Obj)} {σ : St} {H : Hp} {s : Shared} {Q : VK} {us : List Value} {vs : List V} (M : Mk X.K C f) (F : FnOk X.prog X.w X.K X.mg X.base CX k f fd ps sp) (hr : Room (k + 1) X.A) (hb : Binds X.K fd ps ds) (hd : Vals dvs ds)
    (hx : Passes CX X E) (I : Inv X pins σ H s) (r : Vals vs us)
    (h : ∀ x dx, H x = none → H dx = none → dx ≠ x → sp (.ref x :: (vs ++ dvs)) (upd (upd H dx (.own x)) x (.ins C dx [])) (fun v H2 => v = .non ∧ Q (.ref x) H2) E) :
    wpAny (model X.prog X.w) X.A (call (.ref C) us) (EP X pins σ Q) X.xe s := by
  have hq := h (s.heap.objs.size + 1) s.heap.objs.size (I.hok.fresh (Nat.le_succ _)) (I.hok.fresh (Nat.le_refl _)) (Nat.ne_of_lt (Nat.lt_succ_self _))
  have I2 := Inv.made (C := C) I
  have r2 : Vals (V.ref (s.heap.objs.size + 1) :: (vs ++ dvs)) (Value.ref (s.heap.objs.size + 1) :: (us ++ ds)) := .cons rfl (r.append hd)
  have hl : (Value.ref (s.heap.objs.size + 1) :: us ++ ds).length = ps.length := by
    have e := r2.length
    rw [F.len _ _ _ _ hq] at e
    exact e.symm
  refine wpAny_call (make_map (f := f) I.kIn M.makes M.init (beq_iff_eq.mp M.fn) (codeAny_mono (F.run _ X.stack _ _ ⟨Value.ref (s.heap.objs.size + 1) :: us, []⟩ (Value.ref (s.heap.objs.size + 1) :: (us ++ ds)) _ _ E (hr.make C us [])
    (I2.env0.make C us []) (hb _ (Value.ref (s.heap.objs.size + 1) :: us) I2.kIn hl) r2 hq) fun r s' hq' => ?_))
  cases r with
  | error e => exact hx pins σ _ _ e s' I2 hq'
  | ok fl =>
    cases fl with
    | ret u =>
      obtain ⟨v, H', I3, rv, ev, q3⟩ := I2.after hq'
      subst ev
      exact ⟨rv, ⟨V.ref (s.heap.objs.size + 1), H', I3, rfl, q3⟩⟩
    | next => exact False.elim hq'
    | brk => exact False.elim hq'
    | cont => exact False.elim hq'
theorem pe_make (M : Mk X.K C f) (F : FnOk X.prog X.w X.K X.mg X.base CX k f fd ps sp) (hr : Room (k + 1) X.A) (hg : Gl X x) (hm : X.mg x = some (.ref C)) (hb : Binds X.K fd ps ds) (hd : Vals dvs ds) (hx : Passes CX X E)
    (ha : PA X (e :: es) t) (hdb : (x == ("__debug__" : Str)) = false := by decide) (he : starEach (e :: es) X.env = (false, eval e X.env) :: starEach es X.env := by rfl) (hpl : (backTo pos (starEach es X.env)).any (·.1) = false := by rfl) :
    PE X (.Call (.Name x p) (e :: es) [] pos) (tMake C sp dvs E t) := by
  intro pins s σ H Q I h
  refine wpAny_Call_Name_kw (ld_glob I hg hm ?_ hdb)
  refine PySem.W.callWith_K (h₀ := X.base) I.ok.mod.kin M.kp (thn (ha pos pins s σ H _ I h) fun us s1 ⟨vs, H1, I1, r, q⟩ => ⟨I1.kIn, ?_⟩) he hpl
  exact run_make M F hr hb hd hx I1 r q
theorem pe_make0 (M : Mk X.K C f) (F : FnOk X.prog X.w X.K X.mg X.base CX k f fd ps sp) (hr : Room (k + 1) X.A) (hg : Gl X x) (hm : X.mg x = some (.ref C)) (hb : Binds X.K fd ps ds) (hd : Vals dvs ds) (hx : Passes CX X E)
    (hdb : (x == ("__debug__" : Str)) = false := by decide) : PE X (.Call (.Name x p) [] [] pos) (tMake C sp dvs E tNil) := by
  intro pins s σ H Q I h
  refine wpAny_Call_Name_kw (ld_glob I hg hm ?_ hdb)
  exact PySem.W.callWith_K0 I.kIn M.kp (run_make (us := []) M F hr hb hd hx I .nil h)
end
def PK (X : Cx) (kws : List Keyword) (t : TA) : Prop :=
  ∀ (pos : Pos) (pins : List (Addr × Obj)) (s : Shared) (σ : St) (H : Hp) (Q : List V → Hp → Prop), Inv X pins σ H s → t σ H Q → wpAny (model X.prog X.w) X.A (evalAll ((backToKw pos (keywordEach kws X.env)).map (·.2))) (AP X pins σ Q) X.xe s
section
variable {X : Cx} {CX : CXT} {k : Nat} {f C : Addr} {fd : FuncData} {ps ks : List Str} {sp : Sp} {E : XK} {x m : Str} {p pos apos kpos : Pos} {e o : Expr} {es : List Expr} {kws : List Keyword} {te ta : TE} {t tk : TA} {nm : Option Str}
theorem pk_nil : PK X [] tNil := fun _ _ _ _ H Q I h => wpAny_evalAll_nil ⟨[], H, I, .nil, h⟩
theorem pk_cons (ha : PE X e te) (hr : PK X kws t) : PK X (⟨nm, e, kpos⟩ :: kws) (tCons te t) := by
  intro pos pins s σ H Q I h
  show wpAny _ _ (evalAll ((do let v ← eval e X.env; standAt pos; pure v) :: (backToKw pos (keywordEach kws X.env)).map (·.2))) _ _ s
  refine wpAny_evalAll_cons (wpAny_bind (thn (ha pins s σ H _ I h) fun u s1 ⟨x, H1, I1, r1, q1⟩ => wpAny_bind (wpAny_standAt (wpAny_pure ?_))))
  exact thn (hr pos pins s1 σ H1 _ I1 q1) fun us s2 ⟨xs, H2, I2, r2, q2⟩ => ⟨x :: xs, H2, I2, .cons r1 r2, q2⟩
structure KBinds (K : PySem.W.Frag) (fd : FuncData) (ps ks : List Str) (g : List Value → List Value → List Value) (gV : List V → List V → List V) : Prop where
  to : ∀ (s : Shared) (us ws : List Value), K.In s.heap → (g us ws).length = ps.length → BindsTo s fd ⟨us, ks.zip ws⟩ (ps.zip (g us ws))
  rel : ∀ {vs : List V} {us : List Value} {zs : List V} {ws : List Value}, Vals vs us → Vals zs ws → Vals (gV vs zs) (g us ws)
def tCallK (sp : Sp) (gV : List V → List V → List V) (E : XK) (t tk : TA) : TE := fun σ H Q => t σ H fun vs H1 => tk σ H1 fun zs H2 => sp (gV vs zs) H2 Q E
variable {g : List Value → List Value → List Value} {gV : List V → List V → List V}
theorem run_fnk {pins : List (Addr × Obj)} {σ : St} {H : Hp} {s : Shared} {Q : VK} {us ws : List Value} {vs zs : List V} {cm : Bool} (F : FnOk X.prog X.w X.K X.mg X.base CX k f fd ps sp cm) (hr : RoomC cm k X.A) (hb : KBinds X.K fd ps ks g gV) (hx : Passes CX X E)
    (I : Inv X pins σ H s) (r : Vals vs us) (rz : Vals zs ws) (h : sp (gV vs zs) H Q E) : wpAny (model X.prog X.w) X.A (call (.ref f) us (ks.zip ws)) (EP X pins σ Q) X.xe s := by
  have r2 := hb.rel r rz
  have hl : (g us ws).length = ps.length := by rw [← r2.length]; exact F.len _ _ _ _ h
  refine wpAny_call (codeAny_mono (F.run X.A X.stack s H ⟨us, ks.zip ws⟩ (g us ws) (gV vs zs) Q E hr I.env0 (hb.to s us ws I.kIn hl) r2 h) fun r s' hq => ?_)
  cases r with
  | error e => exact hx pins σ H s e s' I hq
  | ok fl =>
    cases fl with
    | ret u => exact I.after hq
    | next => exact False.elim hq
    | brk => exact False.elim hq
    | cont => exact False.elim hq
theorem pe_callK {cm : Bool} (F : FnOk X.prog X.w X.K X.mg X.base CX k f fd ps sp cm) (hr : RoomC cm k X.A) (hg : Gl X x) (hm : X.mg x = some (.ref f)) (hk : PySem.W.keepIn X.K (.ref f) = true) (hb : KBinds X.K fd ps ks g gV) (hx : Passes CX X E)
    (ha : PA X (e :: es) t) (hkw : PK X kws tk) (hall : (backToKw pos (keywordEach kws X.env)).all (·.1.isSome) = true := by rfl) (hks : (backToKw pos (keywordEach kws X.env)).filterMap (·.1) = ks := by rfl)
    (hdb : (x == ("__debug__" : Str)) = false := by decide) (he : starEach (e :: es) X.env = (false, eval e X.env) :: starEach es X.env := by rfl)
    (hpl : ((backTo pos (starEach (e :: es) X.env)).any (·.1) || (backToKw pos (keywordEach kws X.env)).any (·.1.isNone)) = false := by rfl) :
    PE X (.Call (.Name x p) (e :: es) kws pos) (tCallK sp gV E t tk) := by
  intro pins s σ H Q I h
  refine wpAny_Call_Name_kw (ld_glob I hg hm ?_ hdb)
  refine PySem.W.callWith_KW (h₀ := X.base) I.ok.mod.kin hk hall (thn (ha pos pins s σ H _ I h) fun us s1 ⟨vs, H1, I1, r, q⟩ => ?_) hpl he
  refine thn (hkw pos pins s1 σ H1 _ I1 q) fun ws s2 ⟨zs, H2, I2, rz, q2⟩ => ⟨I2.kIn, ?_⟩
  rw [hks]
  exact run_fnk F hr hb hx I2 r rz q2
end
structure FnScope (N P : List Str) (sc : Scope) : Prop where
  kind : sc.kind = .function
  co : sc.isCoroutine = false
  gen : sc.isGenerator = false
  nd : N.Nodup
  pre : N.take P.length = P
  par : ∀ x ∈ P, sc.names.lookup x = some .local ∨ sc.names.lookup x = some .cell
  nofree : ∀ y ∈ sc.names, y.2 ≠ .free
theorem bindL_out {kindOf : Str → Option NameKind} {x : Str} : ∀ {binds : List (Str × Value)} {m : Str → Option Value}, (∀ v, (x, v) ∉ binds) → bindL kindOf binds m x = m x
  | [], _, _ => rfl
  | (n, v) :: r, m, h => by
    unfold bindL
    rw [bindL_out fun w hw => h w (List.mem_cons_of_mem _ hw)]
    split
    · have : x ≠ n := by rintro rfl; exact h v List.mem_cons_self
      simp [this]
    · rfl
theorem bindC_out {kindOf : Str → Option NameKind} {x : Str} : ∀ {binds : List (Str × Value)} {m : Str → Option Value}, (∀ v, (x, v) ∉ binds) → bindC kindOf binds m x = m x
  | [], _, _ => rfl
  | (n, v) :: r, m, h => by
    unfold bindC
    rw [bindC_out fun w hw => h w (List.mem_cons_of_mem _ hw)]
    split
    · rfl
    · have : x ≠ n := by rintro rfl; exact h v List.mem_cons_self
      simp [this]
theorem bindL_get {kindOf : Str → Option NameKind} {x : Str} {v : Value} : ∀ {P : List Str} {vs : List Value} {i : Nat} {m : Str → Option Value}, P.Nodup → P[i]? = some x → vs[i]? = some v → kindOf x = some .local →
    bindL kindOf (P.zip vs) m x = some v
  | [], _, _, _, _, h, _, _ => by simp at h
  | _ :: _, [], _, _, _, _, h, _ => by simp at h
  | p :: P, w :: vs, 0, m, nd, h1, h2, hk => by
    simp at h1 h2; subst h1; subst h2
    show bindL kindOf ((p, w) :: P.zip vs) m p = _
    unfold bindL
    rw [bindL_out fun v hv => (List.nodup_cons.mp nd).1 (List.of_mem_zip hv).1, if_pos hk]
    simp
  | p :: P, w :: vs, i + 1, m, nd, h1, h2, hk => by
    show bindL kindOf ((p, w) :: P.zip vs) m x = _
    unfold bindL
    exact bindL_get (i := i) (List.nodup_cons.mp nd).2 (by simpa using h1) (by simpa using h2) hk
theorem bindC_get {kindOf : Str → Option NameKind} {x : Str} {v : Value} : ∀ {P : List Str} {vs : List Value} {i : Nat} {m : Str → Option Value}, P.Nodup → P[i]? = some x → vs[i]? = some v → kindOf x ≠ some .local →
    bindC kindOf (P.zip vs) m x = some v
  | [], _, _, _, _, h, _, _ => by simp at h
  | _ :: _, [], _, _, _, _, h, _ => by simp at h
  | p :: P, w :: vs, 0, m, nd, h1, h2, hk => by
    simp at h1 h2; subst h1; subst h2
    show bindC kindOf ((p, w) :: P.zip vs) m p = _
    unfold bindC
    rw [bindC_out fun v hv => (List.nodup_cons.mp nd).1 (List.of_mem_zip hv).1, if_neg hk]
    simp
  | p :: P, w :: vs, i + 1, m, nd, h1, h2, hk => by
    show bindC kindOf ((p, w) :: P.zip vs) m x = _
    unfold bindC
    exact bindC_get (i := i) (List.nodup_cons.mp nd).2 (by simpa using h1) (by simpa using h2) hk
def start (N : List Str) (vs : List V) : St := vs.map some ++ List.replicate (N.length - vs.length) none
def cxOf (CX : CXT) (P : Program) (w : World) (K : PySem.W.Frag) (mg : Str → Option Value) (base : Heap) (N : List Str) (qual : Str) (scope : Scope) (f : Addr) (cd : Value) (A : Around) (outer : List Env) (s : Shared) (H : Hp) (E : XK) (c : Bool := true) : Cx where
  prog := P
  w := w
  K := K
  mg := mg
  base := base
  A := A.deeper (envOfC qual scope s.heap.objs.size f cd)
  N := N
  s₀ := s
  H₀ := H
  env := envOfC qual scope s.heap.objs.size f cd
  outer := outer
  stack := envOfC qual scope s.heap.objs.size f cd :: outer
  ex := []
  calm := c
  fn := fun _ => true
  pn := []
  xe := fun e s' => wpAny (model P w) (A.deeper (envOfC qual scope s.heap.objs.size f cd)) (leaving (envOfC qual scope s.heap.objs.size f cd) e) (fun _ s'' => CX outer H s E e s'') (fun e' s'' => CX outer H s E e' s'') s'
theorem cell_has {sc : Scope} {n : Nat} {x : Str} (h : sc.names.lookup x = some .cell) : ∃ c, (cellsFrom n sc.names []).lookup x = some c := by
  have q := PySem.W.cellsFrom_some sc.names n [] (.inl h)
  exact Option.isSome_iff_exists.mp q
theorem inv_start {CX : CXT} {P : Program} {w : World} {K : PySem.W.Frag} {mg : Str → Option Value} {base : Heap} {N ps : List Str} {qual : Str} {scope : Scope} {f : Addr} {cd : Value} {A : Around} {outer : List Env} {s s1 : Shared} {H : Hp} {E : XK} {us : List Value} {vs : List V}
    {c : Bool} (S : FnScope N ps scope) (hd : c = true → A.handled = none) (e0 : Env0 P w K mg base A outer s H) (hl : vs.length = ps.length) (r : Vals vs us)
    (x : InCallC s s.heap.objs.size (bindL (envOfC qual scope s.heap.objs.size f cd).kindOf (ps.zip us) fun _ => none) (cellsFrom (s.heap.objs.size + 1) scope.names []) (bindC (envOfC qual scope s.heap.objs.size f cd).kindOf (ps.zip us) fun _ => none) s1) :
    Inv (cxOf CX P w K mg base N qual scope f cd A outer s H E c) [] (start N vs) H s1 := by
  have hpl : ps.length ≤ N.length := by have := congrArg List.length S.pre; rw [List.length_take] at this; omega
  obtain ⟨h1, tk, rfl, hk⟩ := x.done
  have noA : ∀ b : Addr, b ∉ (cxOf CX P w K mg base N qual scope f cd A outer s H E c).ex := fun b z => absurd (show b ∈ ([] : List Addr) from z) (by simp)
  refine ⟨⟨e0.mod, S.kind, rfl, rfl, Nat.le_refl _, fun y z c h1 h2 => ?_, fun y hy => ?_, fun y c' _ h => ?_, hd, Around.frames_deeper e0.frames, .inr ⟨rfl, rfl⟩, fun b z => absurd z (noA b), e0.bs, e0.bsz, fun b _ _ => noA b, fun b z => absurd z (noA b), e0.funs, e0.frf⟩,
    rfl, e0.bare, Un.kept hk, ⟨_, x.toInCall.ns, fun i y v h1 h2 h3 => ?_⟩, fun y c h => ⟨_, x.cell y c h⟩, e0.hok.fresh (Nat.le_refl _), fun y c h => ?_, fun p hp => absurd (show p ∈ ([] : List (Addr × Obj)) from hp) (by simp), e0.hok.kept hk, ?_, e0.hn⟩
  · exact name_of_addr x.apart (PySem.mem_of_lookup h1) (PySem.mem_of_lookup h2)
  · have hy : scope.names.lookup y = some .cell ∨ scope.names.lookup y = some .free := hy
    rcases hy with hy | hy
    · exact cell_has hy
    · exact absurd rfl (S.nofree _ (PySem.mem_of_lookup hy))
  · exact Nat.le_of_lt (x.above y c' (PySem.mem_of_lookup h))
  · have hi : i < vs.length := by
      unfold start at h2
      by_cases hi : i < vs.length
      · exact hi
      · rw [List.getElem?_append_right (by simpa using hi)] at h2
        rw [List.getElem?_replicate] at h2
        split at h2 <;> cases h2
    have ha : vs[i]? = some v := by
      unfold start at h2
      rw [List.getElem?_append_left (by simpa using hi), List.getElem?_map] at h2
      cases e : vs[i]? with
      | none => rw [e] at h2; cases h2
      | some a => rw [e] at h2; cases h2; rfl
    obtain ⟨u, hu, rv⟩ := r.get ha
    have hp : ps[i]? = some y := by
      rw [← S.pre, List.getElem?_take_of_lt (by omega)]; exact h1
    have ndP : ps.Nodup := by rw [← S.pre]; exact S.nd.sublist (List.take_sublist _ _)
    refine ⟨u, rv, ?_⟩
    rcases S.par y (List.mem_of_getElem? hp) with k | k
    · exact .inl ⟨k, bindL_get ndP hp hu k⟩
    · obtain ⟨c, e⟩ := cell_has (n := s.heap.objs.size + 1) k
      refine .inr ⟨.inl k, c, e, ?_⟩
      have q := x.cell y c e
      rw [bindC_get ndP hp hu (by show scope.names.lookup y ≠ _; rw [k]; decide)] at q
      exact q
  · exact e0.hok.fresh (Nat.le_of_lt (x.above y c (PySem.mem_of_lookup h)))
  · unfold start
    show _ = N.length
    rw [List.length_append, List.length_map, List.length_replicate]
    omega
theorem fn_of {CX : CXT} {P : Program} {w : World} {K : PySem.W.Frag} {mg : Str → Option Value} {base : Heap} {k : Nat} {f : Addr} {name qual : Str} {params : Arguments} {body : List Stmt} {scope : Scope} {dV kV doc pm cdv ct oc : Value} {an od : Option Addr}
    {osl : Array (Option Value)} {N ps : List Str} {sp : Sp} {c : Bool} (lk : K.lookup f = some ⟨oc, od, .func (PySem.W.fnOf name qual params body scope dV kV doc pm an cdv ct), osl⟩) (hcd : PySem.W.codeIn K cdv qual = true) (S : FnScope N ps scope)
    (len : ∀ vs H Q E, sp vs H Q E → vs.length = ps.length)
    (hbody : ∀ (A : Around) (outer : List Env) (s : Shared) (H : Hp) (vs : List V) (Q : VK) (E : XK), RoomC c k (A.deeper (envOfC qual scope s.heap.objs.size f cdv)) → sp vs H Q E →
      ∃ t, PSs (cxOf CX P w K mg base N qual scope f cdv A outer s H E c) body t ∧ t { nx := fun _ H' => Q .non H', rt := Q } (start N vs) H) :
    FnOk P w K mg base CX (k + 1) f (PySem.W.fnOf name qual params body scope dV kV doc pm an cdv ct) ps sp c := by
  refine ⟨len, fun A outer s H args us vs Q E hr e0 hb r hsp => ?_⟩
  have hl := len _ _ _ _ hsp
  have KX : K.In s.heap := e0.mod.kin.keeps fun b o e => (e0.bs b o e).1
  have lim : s.heap.NoLimit := e0.mod.nolimit.keeps fun b o e => (e0.bs b o e).1
  have hkind : ∀ y ∈ ps.zip us, scope.names.lookup y.1 = some .local ∨ (scope.names.lookup y.1 = some .cell ∧ ((cellsFrom (s.heap.objs.size + 1) scope.names []).lookup y.1).isSome = true) := fun ⟨n, v⟩ hy => by
    rcases S.par n (List.of_mem_zip hy).1 with q | q
    · exact .inl q
    · exact .inr ⟨q, PySem.W.cellsFrom_some _ _ _ (.inl q)⟩
  refine codeAny_call_function hr.depth (KX _ _ lk) rfl S.co S.gen rfl (PySem.W.codeRec_of KX hcd) (hb _ _ _ _ ?_)
  refine wpAny_newFunctionEnv_cells S.kind hkind fun env he s1 x => ?_
  subst he
  refine ⟨lim.keeps x.toInCall.keep, codeAny_func ?_⟩
  obtain ⟨t, ht, hq⟩ := hbody A outer s H vs Q E (hr.deeper _) hsp
  have I : Inv (cxOf CX P w K mg base N qual scope f cdv A outer s H E c) [] (start N vs) H s1 := inv_start S hr.hd e0 hl r x
  refine wpAny_mono (ht [] s1 (start N vs) H _ I hq) (fun fl s' hs => ?_) fun e s' hs => hs
  have fin : ∀ {σ' : St} {H' : Hp} {v : V} {u : Value}, Inv (cxOf CX P w K mg base N qual scope f cdv A outer s H E c) [] σ' H' s' → RelV v u → Q v H' → CE outer P w H s Q u s' :=
    fun {σ' H' v u} J rv q => ⟨v, H', J.os, J.bare, J.base, J.hok, rv, q⟩
  cases fl with
  | ret u =>
    obtain ⟨v, σ', H', J, rv, q⟩ := hs
    exact fin J rv q
  | next =>
    obtain ⟨σ', H', J, q⟩ := hs
    exact fin (v := V.non) (u := Value.none) J rfl q
  | brk =>
    obtain ⟨_, _, _, q⟩ := hs
    exact False.elim q
  | cont =>
    obtain ⟨_, _, _, q⟩ := hs
    exact False.elim q
end L2
namespace L2
open PySem PySem.Spec PyProof.Rows
section
variable {X : Cx} {x : Str} {p pos : Pos} {e : Expr} {es : List Expr} {t : TA} {id T : String} {r : List V → Hp → VK → Prop}
def tCB (r : List V → Hp → VK → Prop) (t : TA) : TE := fun σ H Q => t σ H fun vs H1 => r vs H1 Q
theorem pe_callB (hc : CallR X (.builtin id) r) (hg : Gl X x) (hm : X.mg x = none) (hv : bootBuiltins x = some (.builtin id)) (ha : PA X (e :: es) t) (hn : x ≠ "__name__" := by decide) (hdb : (x == ("__debug__" : Str)) = false := by decide)
    (he : starEach (e :: es) X.env = (false, eval e X.env) :: starEach es X.env := by rfl) (hpl : (backTo pos (starEach es X.env)).any (·.1) = false := by rfl) : PE X (.Call (.Name x p) (e :: es) [] pos) (tCB r t) := by
  intro pins s σ H Q I h
  refine wpAny_Call_Name_kw (ld_blt I hg hm hv ?_ hn hdb)
  exact PyProof.Rows.callWith_builtin1 (thn (ha pos pins s σ H _ I h) fun us s1 ⟨vs, H1, I1, r1, q1⟩ => hc pins s1 σ H1 vs us Q I1 r1 q1) he hpl
theorem pe_callTy (hc : CallR X (.type T) r) (hg : Gl X x) (hm : X.mg x = none) (hv : bootBuiltins x = some (.type T)) (ha : PA X (e :: es) t) (hn : x ≠ "__name__" := by decide) (hdb : (x == ("__debug__" : Str)) = false := by decide)
    (he : starEach (e :: es) X.env = (false, eval e X.env) :: starEach es X.env := by rfl) (hpl : (backTo pos (starEach es X.env)).any (·.1) = false := by rfl) : PE X (.Call (.Name x p) (e :: es) [] pos) (tCB r t) := by
  intro pins s σ H Q I h
  refine wpAny_Call_Name_kw (ld_blt I hg hm hv ?_ hn hdb)
  exact PyProof.Rows.callWith_type1 (thn (ha pos pins s σ H _ I h) fun us s1 ⟨vs, H1, I1, r1, q1⟩ => hc pins s1 σ H1 vs us Q I1 r1 q1) he hpl
theorem pe_callTy0 (hc : CallR X (.type T) r) (hg : Gl X x) (hm : X.mg x = none) (hv : bootBuiltins x = some (.type T)) (hn : x ≠ "__name__" := by decide) (hdb : (x == ("__debug__" : Str)) = false := by decide) :
    PE X (.Call (.Name x p) [] [] pos) (tCB r tNil) := by
  intro pins s σ H Q I h
  refine wpAny_Call_Name_kw (ld_blt I hg hm hv ?_ hn hdb)
  exact PyProof.Rows.callWith_type0 (hc pins s σ H [] [] Q I .nil h)
end
end L2
namespace HT
open PySem PyProof.Rows
def lexLt : List Int → List Int → Bool
  | [], [] => false
  | [], _ :: _ => true
  | _ :: _, [] => false
  | x :: xs, y :: ys => if x = y then lexLt xs ys else decide (x < y)
theorem lexLt_cons (x y : Int) (xs ys : List Int) : lexLt (x :: xs) (y :: ys) = if x = y then lexLt xs ys else decide (x < y) := rfl
theorem lexLt_nil_nil : lexLt [] [] = false := rfl
theorem lexLt_nil_cons (y : Int) (ys : List Int) : lexLt [] (y :: ys) = true := rfl
theorem lexLt_cons_nil (x : Int) (xs : List Int) : lexLt (x :: xs) [] = false := rfl
theorem eqAt_int (A : Around) (s : Shared) (a : Int) (t : Tok) (c : Int) (u : Tok) : ∃ e, SeqAt.EqAt A s (.int a t) (.int c u) e ∧ (e = true ↔ a = c) :=
  ⟨(a == c), SeqAt.EqAt.int_int a t c u, by simp⟩
theorem rcLt_int (A : Around) (s : Shared) (a : Int) (t : Tok) (c : Int) (u : Tok) (prog : Program) (w : World) (E : Value → Shared → Prop) (Q : Value → Shared → Prop) (h : Q (.bool (decide (a < c))) s) :
    wpAny (model prog w) A (richCompare .Lt (.int a t) (.int c u)) Q E s :=
  (PyProof.Rows.lt_int h : wpAny (model prog w) A (compareOp .Lt (.int a t) (.int c u)) Q E s)
section
open PySem.SeqAt
open PySem.AutoSeq1 (wpAny_loadPart')
open PySem.MeetsSeq PySem.MeetsSeq2 PySem.MeetsSeq3
theorem tuple_lt_ints (l b : Addr) (items items2 : Array Value) (n n2 : Nat) (dd dd2 : Option Addr) (sl sl2 : Array (Option Value)) (ns ms : List Int) (hi : IntsAre items.toList ns) (hj : IntsAre items2.toList ms) :
    Meets (Builtin.«tuple.__lt__» ⟨[.ref l, .ref b], []⟩)
      (fun _ R s => s.heap.get? l = some { cls := .type "tuple", dict := dd, data := .seq items n, slots := sl } ∧ s.heap.get? b = some { cls := .type "tuple", dict := dd2, data := .seq items2 n2, slots := sl2 } ∧
        R (.ok (.ret (.bool (lexLt ns ms)))) s) :=
  .of_wp fun prog w A R s h => by
    obtain ⟨hp, g, d, tk, os⟩ := s; obtain ⟨hl, hb, h⟩ := h
    have f2 := AutoSeq1.sub_tuple_tuple
    have z1 : items.size = ns.length := by rw [← hi.length]; simp
    have z2 : items2.size = ms.length := by rw [← hj.length]; simp
    wp_walk using wpAny_loadPart' hl, wpAny_loadPart' hb, wpAny_forIn_list _ (fun rest b s' => b.1 = none ∧ s' = ⟨hp, g, d, tk, os⟩ ∧ ∃ (vs ws : List Value) (ns' ms' : List Int), rest = vs.zip ws ∧
      IntsAre vs ns' ∧ IntsAre ws ms' ∧ ns'.length + items2.size = ms'.length + items.size ∧ R (.ok (.ret (.bool (lexLt ns' ms')))) ⟨hp, g, d, tk, os⟩) _
    case turn =>
      rintro ⟨y, x⟩ rest b s' ⟨hb', rfl, vs, ws, ns', ms', hz, hvi, hwi, hlen, hR⟩
      cases hvi with
      | nil => rw [List.zip_nil_left] at hz; cases hz
      | cons a t hvi' =>
        cases hwi with
        | nil => rw [List.zip_nil_right] at hz; cases hz
        | cons c u hwi' =>
          rw [List.zip_cons_cons] at hz
          injection hz with hyx hrest
          injection hyx with hy hx
          subst hy hx
          rw [lexLt_cons] at hR
          simp only [List.length_cons] at hlen
          obtain ⟨e, he, hiff⟩ := eqAt_int A.in1 ⟨hp, g, d, tk, os⟩ a t c u
          refine wpAny_bind (he prog w _ _ ?_)
          cases e with
          | true =>
            rw [if_pos (hiff.mp rfl)] at hR
            wp_walk
            exact ⟨rfl, rfl, _, _, _, _, hrest, hvi', hwi', by omega, hR⟩
          | false =>
            rw [if_neg (fun q => absurd (hiff.mpr q) Bool.false_ne_true)] at hR
            have hri := rcLt_int A.in1 ⟨hp, g, d, tk, os⟩ a t c u prog w
            wp_walk using hri
            exact ⟨_, rfl, by simpa using hR⟩
    case fin =>
      rintro ⟨b1, b2⟩ s' ⟨hb', rfl, vs, ws, ns', ms', hz, hvi, hwi, hlen, hR⟩
      simp only at hb'
      subst hb'
      have hv : lexLt ns' ms' = decide (items.size < items2.size) := by
        cases hvi with
        | nil =>
          cases hwi with
          | nil =>
            simp only [List.length_nil] at hlen
            rw [lexLt_nil_nil]
            exact (decide_eq_false (by omega)).symm
          | cons c u hw =>
            simp only [List.length_nil, List.length_cons] at hlen
            rw [lexLt_nil_cons]
            exact (decide_eq_true (by omega)).symm
        | cons a t hv =>
          cases hwi with
          | nil =>
            simp only [List.length_nil, List.length_cons] at hlen
            rw [lexLt_cons_nil]
            exact (decide_eq_false (by omega)).symm
          | cons c u hw =>
            rw [List.zip_cons_cons] at hz
            cases hz
      rw [hv] at hR
      wp_walk
      exact ⟨_, rfl, by simpa [Builtin.Tuple.tupleCompareSizes] using hR⟩
    case h =>
      exact ⟨rfl, rfl, items.toList, items2.toList, ns, ms, rfl, hi, hj, by omega, h⟩
end
section
variable {prog : Program} {w : World} {A : Around} {E : Value → Shared → Prop} {s : Shared}
theorem lt_tupInts {l b : Addr} {items items2 : Array Value} {ns ms : List Int} {Q : Value → Shared → Prop} (hl : IsTup s.heap l items) (hb : IsTup s.heap b items2) (hi : IntsAre items.toList ns) (hj : IntsAre items2.toList ms)
    (hu : A.units < cLine) (h : Q (.bool (lexLt ns ms)) s) : wpAny (model prog w) A (compareOp .Lt (.ref l) (.ref b)) Q E s := by
  obtain ⟨⟨cls, dd, data, sl⟩, ho, hc, n, hd⟩ := id hl
  obtain ⟨⟨cls2, dd2, data2, sl2⟩, ho2, hc2, n2, hd2⟩ := id hb
  simp only at hc hd hc2 hd2
  subst hc hd hc2 hd2
  exact richCompare_meets_room (op := .Lt) ⟨_, ho, rfl⟩ ⟨_, ho2, rfl⟩ PySem.F.slot_tuple_lt PySem.F.entry_tuple_lt (PySem.F.args_tuple_lt_2 _ _) (tuple_lt_ints l b items items2 n n2 dd dd2 sl sl2 ns ms hi hj)
    ⟨ho, ho2, show Value.bool (lexLt ns ms) ≠ Value.notImplemented ∧ Q (.bool (lexLt ns ms)) s from ⟨(fun x => nomatch x), h⟩⟩ hu
theorem cat_tup {t b : Addr} {vs ws : List Value} {Q : Value → Shared → Prop} (ht : IsTup s.heap t vs.toArray) (hb : IsTup s.heap b ws.toArray) (hv : vs ≠ [])
    (h1 : ws = [] → Q (.ref t) s) (h2 : ws ≠ [] → Q (.ref s.heap.objs.size) { s with heap := s.heap.push { cls := .type "tuple", data := .seq (vs ++ ws).toArray } })
    (hsz : vs.length + ws.length ≤ sizeLine) : wpAny (model prog w) A (binaryOp .Add (.ref t) (.ref b)) Q E s := by
  obtain ⟨⟨cls, dd, data, sl⟩, ho, hc, n, hd⟩ := id ht
  obtain ⟨⟨cls2, dd2, data2, sl2⟩, ho2, hc2, n2, hd2⟩ := id hb
  simp only at hc hd hc2 hd2
  subst hc hd hc2 hd2
  have e : vs.toArray ++ ws.toArray = (vs ++ ws).toArray := by simp
  by_cases hw : ws = []
  · exact concat_meets ⟨_, ho, rfl⟩ ⟨_, ho2, rfl⟩ noFill_tuple_add seq_tuple_add PySem.F.slot_tuple_add PySem.F.entry_tuple_add (PySem.F.args_tuple_add_2 _ _)
      (tuple_addW1 t b vs.toArray ws.toArray n n2 dd dd2 sl sl2 (by simpa using hv) (by simp [hw])) ⟨ho, ho2, h1 hw⟩
  · refine concat_meets ⟨_, ho, rfl⟩ ⟨_, ho2, rfl⟩ noFill_tuple_add seq_tuple_add PySem.F.slot_tuple_add PySem.F.entry_tuple_add (PySem.F.args_tuple_add_2 _ _)
      (tuple_addW2 t b vs.toArray ws.toArray n n2 dd dd2 sl sl2 (by simpa using hv) (by simpa using hw) (by rw [List.size_toArray, List.size_toArray]; exact hsz)) ⟨ho, ho2, ?_⟩
    rw [e]
    exact h2 hw
def sIx (n d : Nat) : Option Int → Nat
  | none => d
  | some v => if v < 0 then (v + (n : Int)).toNat else min v.toNat n
theorem sIx_none (n d : Nat) : sIx n d none = d := rfl
theorem sIx_nat (n d k : Nat) : sIx n d (some (k : Int)) = min k n := by
  show (if (k : Int) < 0 then ((k : Int) + (n : Int)).toNat else min (k : Int).toNat n) = min k n
  rw [if_neg (by omega), Int.toNat_natCast]
theorem sIx_le (n d : Nat) (hd : d ≤ n) (o : Option Int) : sIx n d o ≤ n := by
  cases o with
  | none => exact hd
  | some v =>
    show (if v < 0 then (v + (n : Int)).toNat else min v.toNat n) ≤ n
    by_cases hv : v < 0
    · rw [if_pos hv]; omega
    · rw [if_neg hv]; exact Nat.min_le_right _ _
theorem clip_eq (v : Int) (n d : Nat) : (if v < 0 then max (v + (n : Int)) 0 else min v (n : Int)) = ((sIx n d (some v) : Nat) : Int) := by
  show (if v < 0 then max (v + (n : Int)) 0 else min v (n : Int)) = (((if v < 0 then (v + (n : Int)).toNat else min v.toNat n) : Nat) : Int)
  by_cases hv : v < 0
  · simp only [if_pos hv]; omega
  · simp only [if_neg hv]; omega
theorem adjust_gen (lo hi : Option Int) (n : Nat) : Builtin.Slice.sliceAdjust lo hi 1 (n : Int) = (((sIx n 0 lo : Nat) : Int), ((sIx n n hi : Nat) : Int)) := by
  have h1 : ¬ ((1 : Int) < 0) := by omega
  unfold Builtin.Slice.sliceAdjust
  simp only [h1, if_false]
  refine Prod.ext ?_ ?_
  · cases lo with
    | none => rfl
    | some v => exact clip_eq v n 0
  · cases hi with
    | none => rfl
    | some v => exact clip_eq v n n
theorem places_gen (i j : Nat) : Builtin.Slice.slicePlaces (i : Int) (j : Int) 1 = j - i := by
  unfold Builtin.Slice.slicePlaces
  have h1 : (1 : Int) > 0 := by omega
  simp only [h1, if_true, Int.ediv_one]
  split <;> omega
theorem slicePart_ {v : Value} {o : Option Int} {Q : Option Int → Shared → Prop} (p : IsPart v o) (h : Q o s) : wpAny (model prog w) A (Builtin.Slice.slicePartIndex v) Q E s := by
  cases p with
  | none => exact slicePart_none h
  | int i t => exact slicePart_int h
theorem sliceApplied_gen {sl : Addr} {vl vu : Value} {lo hi : Option Int} {n : Nat} {Q : Int × Int × Nat → Shared → Prop} (hs : s.heap.IsSliceOf sl vl vu .none) (pl : IsPart vl lo) (pu : IsPart vu hi)
    (h : Q (((sIx n 0 lo : Nat) : Int), 1, sIx n n hi - sIx n 0 lo) s) : wpAny (model prog w) A (Builtin.Slice.sliceApplied (.ref sl) (pure (n : Int))) Q E s := by
  obtain ⟨os, hos, hcs, hds⟩ := id hs
  unfold Builtin.Slice.sliceApplied Builtin.Slice.sliceFields
  refine wpAny_bind (wpAny_bind (wpAny_field hos hds (x := vl) rfl (wpAny_bind (wpAny_field hos hds (x := vu) rfl (wpAny_bind (wpAny_field hos hds (x := .none) rfl (wpAny_pure ?_)))))))
  refine wpAny_bind (slicePart_none ?_)
  show wpAny _ _ (if ((1 : Int) == 0) = true then _ else _) _ _ s
  rw [if_neg (by decide)]
  refine wpAny_bind (slicePart_ pl (wpAny_bind (slicePart_ pu (wpAny_bind (wpAny_pure ?_)))))
  show wpAny _ _ (match Builtin.Slice.sliceAdjust lo hi 1 (n : Int) with | (lo, hi) => pure (lo, (1 : Int), Builtin.Slice.slicePlaces lo hi 1)) _ _ s
  rw [adjust_gen lo hi n]
  show wpAny _ _ (pure (((sIx n 0 lo : Nat) : Int), (1 : Int), Builtin.Slice.slicePlaces ((sIx n 0 lo : Nat) : Int) ((sIx n n hi : Nat) : Int) 1)) _ _ s
  rw [places_gen]
  exact wpAny_pure h
theorem pick_gen (xs : Array Value) (i k : Nat) : ((List.range k).filterMap fun (m : Nat) => xs[((i : Int) + (m : Int) * 1).toNat]?).toArray = ((xs.toList.drop i).take k).toArray := by
  have e : (fun (m : Nat) => xs[((i : Int) + (m : Int) * 1).toNat]?) = fun m => xs[i + m]? := by
    funext m
    have : ((i : Int) + (m : Int) * 1).toNat = i + m := by omega
    rw [this]
  rw [e]
  have := pick_run xs i k
  rw [List.filterMap_map] at this
  have e2 : ((fun x => xs[x]?) ∘ fun x => i + x) = fun m => xs[i + m]? := rfl
  rw [e2] at this
  rw [this]
theorem getItem_tuple_cut {t sl : Addr} {items : Array Value} {vl vu : Value} {lo hi : Option Int} {Q : Value → Shared → Prop} (ht : IsTup s.heap t items) (hs : s.heap.IsSliceOf sl vl vu .none) (pl : IsPart vl lo) (pu : IsPart vu hi)
    (hw : ¬ (sIx items.size 0 lo = 0 ∧ sIx items.size items.size hi = items.size))
    (h : Q (.ref s.heap.objs.size) { s with heap := s.heap.push { cls := .type "tuple", data := .seq ((items.toList.drop (sIx items.size 0 lo)).take (sIx items.size items.size hi - sIx items.size 0 lo)).toArray } })
    (hsz : items.size ≤ sizeLine) : wpAny (model prog w) A (getItem (.ref t) (.ref sl)) Q E s := by
  have htake : sizeOk (.seq ((items.toList.drop (sIx items.size 0 lo)).take (sIx items.size items.size hi - sIx items.size 0 lo)).toArray) := by
    show ((items.toList.drop (sIx items.size 0 lo)).take (sIx items.size items.size hi - sIx items.size 0 lo)).toArray.size ≤ sizeLine
    rw [List.size_toArray, List.length_take, List.length_drop, Array.length_toList]
    omega
  have hj : sIx items.size items.size hi ≤ items.size := sIx_le _ _ (Nat.le_refl _) hi
  obtain ⟨os, hos, hcs, hds⟩ := id hs
  have hTs : s.TypeIs (.ref sl) "slice" := ⟨os, hos, hcs⟩
  unfold getItem
  try with_reducible refine wpAny_holding ?_
  first | refine wpAny_bind (wpAny_pure ?_) | skip
  refine wpAny_bind (wpAny_sequenceKey ht.typeIs (by decide) ?_)
  refine wpAny_bind (wpAny_callSpecial?_slot (name := Str.ofString "__getitem__") ht.typeIs PyProof.Rows.slot_tuple_getitem
    (wpAny_call_entry PyProof.Rows.slot_tuple_getitem ht.typeIs entry_tuple_getitem ?_ (args_tuple_getitem _ _)))
  show wpAny _ _ (Builtin.Tuple.tupleItemsOf (.ref t) >>= _) _ _ s
  refine wpAny_bind (tupleItemsOf_ ht ?_)
  refine wpAny_bind (wpAny_typeOf hTs ?_)
  rw [if_pos (by decide)]
  refine wpAny_bind (sliceApplied_gen hs pl pu ?_)
  have hno : ¬ ((((sIx items.size 0 lo : Nat) : Int) == 0 && (1 : Int) == 1 && (sIx items.size items.size hi - sIx items.size 0 lo) == items.size) = true) := by
    intro q
    rw [Bool.and_eq_true, Bool.and_eq_true] at q
    have q1 : ((sIx items.size 0 lo : Nat) : Int) = 0 := eq_of_beq q.1.1
    have q2 : sIx items.size items.size hi - sIx items.size 0 lo = items.size := eq_of_beq q.2
    exact hw ⟨by omega, by omega⟩
  show wpAny _ _ (if (((sIx items.size 0 lo : Nat) : Int) == 0 && (1 : Int) == 1 && (sIx items.size items.size hi - sIx items.size 0 lo) == items.size) = true then _ else _) _ _ s
  rw [if_neg hno, pick_gen]
  first
    | exact wpAny_bind (m := Builtin.Tuple.tupleExact _) (wpAny_newObj_type (wpAny_pure ⟨_, rfl, wpAny_pure h⟩) htake)
    | exact wpAny_bind (m := Builtin.Tuple.tupleExact _) (wpAny_newObj_type (wpAny_bind (wpAny_pure (wpAny_pure ⟨_, rfl, wpAny_pure h⟩))) htake)
    | exact wpAny_bind (wpAny_bind (m := Builtin.Tuple.tupleExact _) (wpAny_newObj_type (wpAny_pure (wpAny_pure ⟨_, rfl, wpAny_pure h⟩)) htake))
    | exact wpAny_bind (wpAny_bind (m := Builtin.Tuple.tupleExact _) (wpAny_newObj_type (wpAny_pure ⟨_, rfl, wpAny_pure h⟩) htake))
end
end HT
namespace L2
open PySem PySem.Spec PyProof.Rows
abbrev TO := St → Hp → (Option Int → Hp → Prop) → Prop
def PO (X : Cx) (e : Option Expr) (t : TO) : Prop :=
  ∀ (pins : List (Addr × Obj)) (s : Shared) (σ : St) (H : Hp) (Q : Option Int → Hp → Prop), Inv X pins σ H s → t σ H Q →
    wpAny (model X.prog X.w) X.A (evalPart e X.env) (fun u s' => ∃ o H', Inv X pins σ H' s' ∧ IsPart u o ∧ Q o H') X.xe s
def tNoPart : TO := fun _ H Q => Q none H
def tPart (t : TE) : TO := fun σ H Q => t σ H fun x H1 => ∃ i, x = .int i ∧ Q (some i) H1
theorem intsAre_of {ns : List Int} : ∀ {us : List Value}, Vals (ns.map V.int) us → IntsAre us ns := by
  induction ns with
  | nil => intro us r; rw [List.map_nil] at r; cases r; exact .nil
  | cons n ns ih =>
    intro us r
    rw [List.map_cons] at r
    cases r with
    | cons r1 r2 =>
      obtain ⟨t, e⟩ := r1
      subst e
      exact .cons n t (ih r2)
section
variable {X : Cx} {e : Expr} {te : TE} {lo hi : Option Expr} {tl th : TO} {pos p2 : Pos}
theorem po_none : PO X none tNoPart := by
  intro pins s σ H Q I h
  rw [evalPart_none]
  exact wpAny_pure ⟨none, H, I, .none, h⟩
theorem po_some (h : PE X e te) : PO X (some e) (tPart te) := by
  intro pins s σ H Q I hw
  rw [evalPart_some]
  refine thn (h pins s σ H _ I hw) fun u s1 ⟨x, H1, I1, r1, q1⟩ => ?_
  obtain ⟨i, rfl, q⟩ := q1
  obtain ⟨t, rfl⟩ := r1
  exact ⟨some i, H1, I1, .int i t, q⟩
def SlR (X : Cx) (r : V → Option Int → Option Int → Hp → VK → Prop) : Prop :=
  ∀ (pins : List (Addr × Obj)) (s : Shared) (σ : St) (H : Hp) (x : V) (v vl vu : Value) (lo hi : Option Int) (sl : Addr) (Q : VK), Inv X pins σ H s → RelV x v → s.heap.IsSliceOf sl vl vu .none → IsPart vl lo → IsPart vu hi → r x lo hi H Q →
    ∃ T id, typeLookup (.type T) "__getitem__" = pure (some (.builtin id)) ∧ s.TypeIs v T ∧ wpAny (model X.prog X.w) X.A (getItem v (.ref sl)) (EP X pins σ Q) X.xe s
theorem SlR.or {r r' : V → Option Int → Option Int → Hp → VK → Prop} (h : SlR X r) (h' : SlR X r') : SlR X (fun x lo hi H Q => r x lo hi H Q ∨ r' x lo hi H Q) := by
  intro pins s σ H x v vl vu lo hi sl Q I rx hs pl pu q
  rcases q with q | q
  · exact h pins s σ H x v vl vu lo hi sl Q I rx hs pl pu q
  · exact h' pins s σ H x v vl vu lo hi sl Q I rx hs pl pu q
def tSl (r : V → Option Int → Option Int → Hp → VK → Prop) (te : TE) (tl th : TO) : TE := fun σ H Q => te σ H fun x H1 => tl σ H1 fun l H2 => th σ H2 fun u H3 => r x l u H3 Q
theorem pe_slice {r : V → Option Int → Option Int → Hp → VK → Prop} (hr : SlR X r) (he : PE X e te) (hl : PO X lo tl) (hu : PO X hi th) : PE X (.Subscript e (.Slice lo hi none p2) pos) (tSl r te tl th) := by
  intro pins s σ H Q I h
  refine Subscript_ (thn (he pins s σ H _ I h) fun v s1 ⟨x, H1, I1, r1, q1⟩ => ?_)
  refine wpAny_Slice (thn (hl pins s1 σ H1 _ I1 q1) fun vl s2 ⟨l, H2, I2, pl, q2⟩ => thn (hu pins s2 σ H2 _ I2 q2) fun vu s3 ⟨u, H3, I3, pu, q3⟩ => ?_)
  rw [evalPart_none]
  refine wpAny_pure ?_
  have I4 : Inv X pins σ H3 { s3 with heap := s3.heap.push { cls := .type "slice", data := .fields #[vl, vu, .none] } } := I3.kept (t' := s3.toks) fun b ob q => Heap.get?_push_of_some _ q
  obtain ⟨T, id, hT, ht, hg⟩ := hr pins { s3 with heap := s3.heap.push { cls := .type "slice", data := .fields #[vl, vu, .none] } } σ H3 x v vl vu l u s3.heap.objs.size Q I4 r1 (Heap.IsSliceOf.new ..) pl pu q3
  show wpAny (model X.prog X.w) X.A (subscriptTail e (.Slice lo hi none p2) v (.ref s3.heap.objs.size)) (EP X pins σ Q) X.xe { s3 with heap := s3.heap.push { cls := .type "slice", data := .fields #[vl, vu, .none] } }
  exact tail_any (ops := [.ref s3.heap.objs.size, v]) ht hT hg (by with_unfolding_all rfl)
def cutV (xs : List V) (lo hi : Option Int) : List V := (xs.drop (HT.sIx xs.length 0 lo)).take (HT.sIx xs.length xs.length hi - HT.sIx xs.length 0 lo)
theorem cutV_length (xs : List V) (lo hi : Option Int) : (cutV xs lo hi).length ≤ xs.length := by
  unfold cutV
  rw [List.length_take, List.length_drop]
  omega
def rSlT (K : PySem.W.Frag) : V → Option Int → Option Int → Hp → VK → Prop := fun x lo hi H Q => ∃ a xs, x = .ref a ∧ SqT K H a xs ∧
  ¬ (HT.sIx xs.length 0 lo = 0 ∧ HT.sIx xs.length xs.length hi = xs.length) ∧ ∀ p, H p = none → Q (.ref p) (upd H p (.tup (cutV xs lo hi)))
theorem sl_tup : SlR X (rSlT X.K) := by
  intro pins s σ H x v vl vu lo hi sl Q I rx hs pl pu h
  obtain ⟨a, xs, rfl, hx, hw, q⟩ := h
  cases rx
  obtain ⟨its, r, ht, hz⟩ := I.tuple hx
  have hlen : its.toArray.size = xs.length := by rw [List.size_toArray]; exact r.length.symm
  refine ⟨"tuple", _, PyProof.Rows.slot_tuple_getitem.lookup, ht.typeIs, ?_⟩
  refine HT.getItem_tuple_cut ht hs pl pu (by rw [hlen]; exact hw) ?_ (by rw [hlen]; exact hz)
  rw [hlen]
  refine ⟨.ref s.heap.objs.size, _, I.laid (t' := s.toks) (o := .tup (cutV xs lo hi)) (fun b ob q => Heap.get?_push_of_some _ q) (Nat.le_refl _) ?_, rfl, q _ (I.hok.fresh (Nat.le_refl _))⟩
  exact ⟨Nat.le_trans (cutV_length xs lo hi) hz, _, (r.drop (HT.sIx xs.length 0 lo)).take (HT.sIx xs.length xs.length hi - HT.sIx xs.length 0 lo), IsTup.new _ _⟩
def rLtT (K : PySem.W.Frag) : R2 := fun x y H Q => ∃ a b ns ms, x = .ref a ∧ y = .ref b ∧ SqT K H a (ns.map V.int) ∧ SqT K H b (ms.map V.int) ∧ Q (.bl (HT.lexLt ns ms)) H
theorem op_ltT (hu : X.A.units < cLine) : OpR X (compareOp .Lt) (rLtT X.K) := by
  intro pins s σ H x y v u Q I rx ry h
  obtain ⟨a, b, ns, ms, rfl, rfl, ha, hb, q⟩ := h
  cases rx
  cases ry
  obtain ⟨its, r1, p1, _⟩ := I.tuple ha
  obtain ⟨its2, r2, p2, _⟩ := I.tuple hb
  have i1 : IntsAre its.toArray.toList ns := intsAre_of r1
  have i2 : IntsAre its2.toArray.toList ms := intsAre_of r2
  exact HT.lt_tupInts p1 p2 i1 i2 hu ⟨.bl (HT.lexLt ns ms), H, I, rfl, q⟩
def rCatT (K : PySem.W.Frag) : R2 := fun x y H Q => ∃ a b xs ys, x = .ref a ∧ y = .ref b ∧ SqT K H a xs ∧ SqT K H b ys ∧ xs ≠ [] ∧ xs.length + ys.length ≤ sizeLine ∧
  (ys = [] → Q (.ref a) H) ∧ (ys ≠ [] → ∀ p, H p = none → Q (.ref p) (upd H p (.tup (xs ++ ys))))
theorem Vals.nil_iff {xs : List V} {us : List Value} (r : Vals xs us) : us = [] ↔ xs = [] := by
  cases r with
  | nil => simp
  | cons _ _ => simp
theorem op_catT : OpR X (binaryOp .Add) (rCatT X.K) := by
  intro pins s σ H x y v u Q I rx ry h
  obtain ⟨a, b, xs, ys, rfl, rfl, ha, hb, hx, hz, q1, q2⟩ := h
  cases rx
  cases ry
  obtain ⟨its, r1, p1, _⟩ := I.tuple ha
  obtain ⟨its2, r2, p2, _⟩ := I.tuple hb
  refine HT.cat_tup p1 p2 (fun z => hx (r1.nil_iff.mp z)) (fun z => ⟨.ref a, H, I, rfl, q1 (r2.nil_iff.mp z)⟩) (fun z => ?_) (by rw [← r1.length, ← r2.length]; exact hz)
  refine ⟨.ref s.heap.objs.size, _, I.laid (t' := s.toks) (o := .tup (xs ++ ys)) (fun b ob q => Heap.get?_push_of_some _ q) (Nat.le_refl _) ?_, rfl, q2 (fun w => z (r2.nil_iff.mpr w)) _ (I.hok.fresh (Nat.le_refl _))⟩
  exact ⟨by rw [List.length_append]; exact hz, _, r1.append r2, IsTup.new _ _⟩
theorem call_tupleT : CallR X (.type "tuple") (fun xs H Q => ∃ a ys, xs = [.ref a] ∧ SqT X.K H a ys ∧ Q (.ref a) H) := by
  intro pins s σ H xs us Q I r h
  obtain ⟨a, ys, rfl, ha, q⟩ := h
  obtain ⟨u, rfl, ru⟩ := vals1 r
  cases ru
  obtain ⟨its, _, p1, _⟩ := I.tuple ha
  exact call_tuple_same (items := its.toArray) p1 ⟨.ref a, H, I, rfl, q⟩
end
end L2
namespace L2
open PySem PySem.Spec PyProof.Rows
def ixN (n : Nat) (i : Int) : Option Nat := if 0 ≤ i then (if i < n then some i.toNat else none) else if -(n : Int) ≤ i then some (i + n).toNat else none
def atI {α : Type} (xs : List α) (i : Int) : Option α := (ixN xs.length i).bind fun j => xs[j]?
theorem ixN_seq {n : Nat} {i : Int} {j : Nat} (h : ixN n i = some j) : seqIndex? i n = some j ∧ j < n ∧ -(n : Int) ≤ i ∧ i < n := by
  unfold ixN at h
  by_cases h0 : 0 ≤ i
  · rw [if_pos h0] at h
    by_cases h1 : i < n
    · rw [if_pos h1] at h
      have e : i.toNat = j := Option.some.inj h
      exact ⟨by rw [seqIndex_of h0 h1, e], by omega, by omega, h1⟩
    · rw [if_neg h1] at h; cases h
  · rw [if_neg h0] at h
    by_cases h1 : -(n : Int) ≤ i
    · rw [if_pos h1] at h
      have e : (i + n).toNat = j := Option.some.inj h
      exact ⟨by rw [seqIndex_neg (by omega) h1, e], by omega, h1, by omega⟩
    · rw [if_neg h1] at h; cases h
theorem atI_get {α : Type} {xs : List α} {i : Int} {v : α} (h : atI xs i = some v) : ∃ j, seqIndex? i xs.length = some j ∧ xs[j]? = some v ∧ j < xs.length ∧ -(xs.length : Int) ≤ i ∧ i < xs.length := by
  unfold atI at h
  cases e : ixN xs.length i with
  | none => rw [e] at h; cases h
  | some j =>
    rw [e] at h
    obtain ⟨h1, h2, h3, h4⟩ := ixN_seq e
    exact ⟨j, h1, h, h2, h3, h4⟩
theorem atI_nat {α : Type} {xs : List α} {j : Nat} {v : α} (h : xs[j]? = some v) : atI xs (j : Int) = some v := by
  have hj : j < xs.length := (List.getElem?_eq_some_iff.mp h).1
  have e : ixN xs.length (j : Int) = some j := by
    unfold ixN
    rw [if_pos (by omega), if_pos (by omega)]; simp
  unfold atI; rw [e]; exact h
theorem atI_last {α : Type} (xs : List α) (v : α) : atI (xs ++ [v]) (-1) = some v := by
  have hl : (xs ++ [v]).length = xs.length + 1 := by simp
  have e : ixN (xs ++ [v]).length (-1) = some xs.length := by
    unfold ixN
    rw [hl, if_neg (by decide), if_pos (by omega)]
    congr 1
    omega
  unfold atI
  rw [e]
  show (xs ++ [v])[xs.length]? = some v
  simp
def PlainIx (b : Expr) : Prop := ∀ o i, subscripted b false o i = operate [o, i] (getItem o i)
def IxR (X : Cx) (r : R2) : Prop :=
  ∀ (value slice : Expr) (pins : List (Addr × Obj)) (s : Shared) (σ : St) (H : Hp) (x y : V) (v u : Value) (Q : VK), Inv X pins σ H s → RelV x v → RelV y u → r x y H Q →
    subscripted slice false v u = operate [v, u] (getItem v u) → wpAny (model X.prog X.w) X.A (subscriptTail value slice v u) (EP X pins σ Q) X.xe s
def MtR (X : Cx) (id : String) (r : V → List V → Hp → VK → Prop) : Prop :=
  ∀ (pins : List (Addr × Obj)) (s : Shared) (σ : St) (H : Hp) (x : V) (xs : List V) (v : Value) (us : List Value) (Q : VK), Inv X pins σ H s → RelV x v → Vals xs us → r x xs H Q →
    wpAny (model X.prog X.w) X.A (call (.builtin id) (v :: us)) (EP X pins σ Q) X.xe s
section
variable {X : Cx} {a b : Expr} {ta tb : TE} {pos : Pos}
theorem IxR.or {r r' : R2} (h : IxR X r) (h' : IxR X r') : IxR X (fun x y H Q => r x y H Q ∨ r' x y H Q) := by
  intro value slice pins s σ H x y v u Q I rx ry q hs
  rcases q with q | q
  · exact h value slice pins s σ H x y v u Q I rx ry q hs
  · exact h' value slice pins s σ H x y v u Q I rx ry q hs
theorem MtR.or {id : String} {r r' : V → List V → Hp → VK → Prop} (h : MtR X id r) (h' : MtR X id r') : MtR X id (fun x xs H Q => r x xs H Q ∨ r' x xs H Q) := by
  intro pins s σ H x xs v us Q I rx rs q
  rcases q with q | q
  · exact h pins s σ H x xs v us Q I rx rs q
  · exact h' pins s σ H x xs v us Q I rx rs q
theorem pe_ix {r : R2} (hr : IxR X r) (ha : PE X a ta) (hb : PE X b tb) (hs : PlainIx b) : PE X (.Subscript a b pos) (tOp r ta tb) := by
  intro pins s σ H Q I h
  exact Subscript_ (binT ha hb I h fun v u s2 x y H2 I2 rx ry q => hr a b pins s2 σ H2 x y v u Q I2 rx ry q (hs _ _))
def rIxL (K : PySem.W.Frag) : R2 := fun x y H Q => ∃ p xs i v, x = .ref p ∧ y = .int i ∧ SqL K H p xs ∧ atI xs i = some v ∧ Q v H
def rIxT (K : PySem.W.Frag) : R2 := fun x y H Q => ∃ p xs i v, x = .ref p ∧ y = .int i ∧ SqT K H p xs ∧ atI xs i = some v ∧ Q v H
def rIxS : R2 := fun x y H Q => ∃ z i c, x = .str z ∧ y = .int i ∧ z.length ≤ sizeLine ∧ atI z.cps.toList i = some c ∧ Q (.str ⟨#[c]⟩) H
theorem ix_list : IxR X (rIxL X.K) := by
  intro value slice pins s σ H x y v u Q I rx ry h hs
  obtain ⟨p, xs, i, z, rfl, rfl, hq, he, q⟩ := h
  cases rx
  obtain ⟨t, rfl⟩ := ry
  obtain ⟨its, r, pl, hz⟩ := I.list hq
  obtain ⟨j, h1, h2, h3, h4, h5⟩ := atI_get he
  obtain ⟨w, ew, rw'⟩ := r.get h2
  have hl := r.length
  have hn := line63
  have fin : EP X pins σ Q w s := ⟨z, H, I, rw', q⟩
  by_cases h0 : 0 ≤ i
  · have hj : i.toNat = j := by
      rw [seqIndex_of h0 h5] at h1
      exact Option.some.inj h1
    exact item_listR pl.isList h0 (by omega) (by rw [hj]; simpa using ew) fin hs
  · have hj : (i + (its.toArray.size : Int)).toNat = j := by
      rw [seqIndex_neg (by omega) h4] at h1
      rw [List.size_toArray, ← hl]
      exact Option.some.inj h1
    exact subscriptTail_builtinR (x := w) pl.isList.typeIs slot_list_getitem.lookup
      (wpAny_getItem_list_neg (Q := fun r s' => r = w ∧ EP X pins σ Q r s') pl.isList (by omega) (by rw [List.size_toArray] <;> omega) (by omega) (by rw [hj]; simpa using ew) ⟨rfl, fin⟩) hs
theorem ix_tup : IxR X (rIxT X.K) := by
  intro value slice pins s σ H x y v u Q I rx ry h hs
  obtain ⟨p, xs, i, z, rfl, rfl, hq, he, q⟩ := h
  cases rx
  obtain ⟨t, rfl⟩ := ry
  obtain ⟨its, r, pl, hz⟩ := I.tuple hq
  obtain ⟨j, h1, h2, h3, h4, h5⟩ := atI_get he
  obtain ⟨w, ew, rw'⟩ := r.get h2
  have hl := r.length
  have hn := line63
  have fin : EP X pins σ Q w s := ⟨z, H, I, rw', q⟩
  exact subscriptTail_builtinR (x := w) pl.typeIs slot_tuple_getitem.lookup
    (getItem_tuple (j := j) (Q := fun r s' => r = w ∧ EP X pins σ Q r s') pl (by omega) (by omega) (by rw [List.size_toArray, ← hl]; exact h1) (by simpa using ew) ⟨rfl, fin⟩) hs
theorem ix_str : IxR X rIxS := by
  intro value slice pins s σ H x y v u Q I rx ry h hs
  obtain ⟨z, i, c, rfl, rfl, hz, he, q⟩ := h
  obtain ⟨t, rfl⟩ := rx
  obtain ⟨t', rfl⟩ := ry
  obtain ⟨j, h1, h2, h3, h4, h5⟩ := atI_get he
  have hl : z.cps.toList.length = z.length := by simp [Str.length]
  rw [hl] at h1 h4 h5
  have hn := line63
  exact tail_any (typeIs_str s z t) slot_str_getitem.lookup (getItem_str (c := c) (by
    have e1 : decide (i < -(2 ^ 63 : Int)) = false := decide_eq_false (by omega)
    have e2 : decide (i ≥ 2 ^ 63) = false := decide_eq_false (by omega)
    rw [e1, e2, Bool.or_false]) (by rw [h1]; simpa using h2) ⟨.str ⟨#[c]⟩, H, I.tok _, ⟨_, rfl⟩, q⟩) hs
def rIx (K : PySem.W.Frag) : R2 := fun x y H Q => rIxL K x y H Q ∨ rIxT K x y H Q ∨ rIxS x y H Q
theorem ix_seq : IxR X (rIx X.K) := ix_list.or (ix_tup.or ix_str)
theorem mapSeq_set (its : List Value) (n j : Nat) (u : Value) : Obj.mapSeq (·.setIfInBounds j u) { cls := .type "list", data := .seq its.toArray n } = { cls := .type "list", data := .seq (its.set j u).toArray n } := by
  simp [Obj.mapSeq]
theorem Inv.lst {pins : List (Addr × Obj)} {σ : St} {H : Hp} {s : Shared} {p : Addr} {xs : List V} (I : Inv X pins σ H s) (h : H p = some (.lst xs)) :
    ∃ (its : List Value) (n : Nat), Vals xs its ∧ s.heap.get? p = some { cls := .type "list", data := .seq its.toArray n } ∧ xs.length ≤ sizeLine := by
  obtain ⟨z, its, n, r, e⟩ := I.hok p _ h
  exact ⟨its, n, r, e, z⟩
theorem Inv.lstUpd {pins : List (Addr × Obj)} {σ : St} {H : Hp} {s : Shared} {p : Addr} {xs ys : List V} {its its' : List Value} {n n' : Nat} {f : Obj → Obj} (I : Inv X pins σ H s) (h : H p = some (.lst xs))
    (ho : s.heap.get? p = some { cls := .type "list", data := .seq its.toArray n }) (hf : f { cls := .type "list", data := .seq its.toArray n } = { cls := .type "list", data := .seq its'.toArray n' }) (r : Vals ys its') (hz : ys.length ≤ sizeLine) (t : Nat) :
    Inv X pins σ (upd H p (.lst ys)) { s with heap := s.heap.update p f, toks := t } := by
  have e : (s.heap.update p f).get? p = some { cls := .type "list", data := .seq its'.toArray n' } := by
    rw [Heap.get?_update_self f ho (by rw [hf] <;> rfl), hf]
  refine I.write (x := p) (e := p) (by rw [h]; trivial) (.inl rfl) (fun b u hb q => (Heap.get?_update_other _ _ (Ne.symm hb)).trans q) ⟨_, e⟩ ?_
  exact ⟨hz, its', n', r, e⟩
def rSetL : V → V → V → Hp → (Hp → Prop) → Prop := fun o i v H Q => ∃ p xs k j, o = .ref p ∧ i = .int k ∧ H p = some (.lst xs) ∧ ixN xs.length k = some j ∧ Q (upd H p (.lst (xs.set j v)))
theorem set_list : PSet X rSetL := by
  intro pins s σ H o i v ov iv u Q I ro ri rv h
  obtain ⟨p, xs, k, j, rfl, rfl, hp, hj, q⟩ := h
  cases ro
  obtain ⟨t, rfl⟩ := ri
  obtain ⟨its, n, r, ho, hz⟩ := I.lst hp
  obtain ⟨h1, h2, h3, h4⟩ := ixN_seq hj
  have hl := r.length
  have hn := line63
  have I' : Inv X pins σ (upd H p (.lst (xs.set j v))) { s with heap := s.heap.update p (Obj.mapSeq (·.setIfInBounds j u)) } :=
    I.lstUpd hp ho (mapSeq_set its n j u) (r.set rv j) (by rw [List.length_set]; exact hz) s.toks
  by_cases h0 : 0 ≤ k
  · have hk : k.toNat = j := by
      rw [seqIndex_of h0 h4] at h1
      exact Option.some.inj h1
    exact PySem.W.ki_setAt ho h0 (by omega) (by rw [List.size_toArray, ← hl]; exact h4) (by rw [hk]; exact ⟨_, I', q⟩)
  · have hk : (k + (its.toArray.size : Int)).toNat = j := by
      rw [seqIndex_neg (by omega) h3] at h1
      rw [List.size_toArray, ← hl]
      exact Option.some.inj h1
    exact PySem.W.ki_setBack ho (by omega) (by rw [List.size_toArray, ← hl]; exact h3) (by omega) (by rw [hk]; exact ⟨_, I', q⟩)
theorem slice_bounds (lo hi : Option Int) (n : Nat) : (sliceBounds lo hi none n).1 = ((HT.sIx n 0 lo : Nat) : Int) ∧ (sliceBounds lo hi none n).2.1 = ((HT.sIx n n hi : Nat) : Int) ∧ (sliceBounds lo hi none n).2.2 = 1 := by
  refine ⟨?_, ?_, rfl⟩
  · cases lo with
    | none => simp [sliceBounds, HT.sIx]
    | some i =>
      simp only [sliceBounds, HT.sIx, Option.getD_none, show (1 : Int) > 0 by decide, if_true]
      by_cases h : i < 0
      · simp only [h, if_true] <;> omega
      · simp only [h, if_false] <;> omega
  · cases hi with
    | none => simp [sliceBounds, HT.sIx]
    | some i =>
      simp only [sliceBounds, HT.sIx, Option.getD_none, show (1 : Int) > 0 by decide, if_true]
      by_cases h : i < 0
      · simp only [h, if_true] <;> omega
      · simp only [h, if_false] <;> omega
theorem slicePick_cut (its : List Value) (lo hi : Option Int) : slicePick its.toArray lo hi none = ((its.drop (HT.sIx its.length 0 lo)).take (HT.sIx its.length its.length hi - HT.sIx its.length 0 lo)).toArray := by
  obtain ⟨h1, h2, h3⟩ := slice_bounds lo hi its.toArray.size
  unfold slicePick
  rw [h1, h2, h3]
  simp only [sliceRange_one, pick_run, List.size_toArray] <;> rfl
def rSlL (K : PySem.W.Frag) : V → Option Int → Option Int → Hp → VK → Prop := fun x lo hi H Q => ∃ a xs, x = .ref a ∧ SqL K H a xs ∧ ∀ p, H p = none → Q (.ref p) (upd H p (.lst (cutV xs lo hi)))
theorem sl_list : SlR X (rSlL X.K) := by
  intro pins s σ H x v vl vu lo hi sl Q I rx hs pl pu h
  obtain ⟨a, xs, rfl, hx, q⟩ := h
  cases rx
  obtain ⟨its, r, ht, hz⟩ := I.list hx
  have hlen := r.length
  refine ⟨"list", _, slot_list_getitem.lookup, ht.isList.typeIs, ?_⟩
  refine wpAny_getItem_list_slice ht.isList hs pl pu .none (by simp) ?_ (by rw [List.size_toArray] <;> omega)
  rw [slicePick_cut, ← hlen]
  refine ⟨.ref s.heap.objs.size, _, I.laid (t' := s.toks) (o := .lst (cutV xs lo hi)) (fun b ob q => Heap.get?_push_of_some _ q) (Nat.le_refl _) ?_, rfl, q _ (I.hok.fresh (Nat.le_refl _))⟩
  exact ⟨Nat.le_trans (cutV_length xs lo hi) hz, _, 0, (r.drop (HT.sIx xs.length 0 lo)).take (HT.sIx xs.length xs.length hi - HT.sIx xs.length 0 lo), Heap.get?_push_size _ rfl⟩
def flatV : V → Bool
  | .non => true
  | .bl _ => true
  | .int _ => true
  | .str _ => true
  | _ => false
def eqV : V → V → Bool
  | .non, .non => true
  | .bl a, .bl b => a == b
  | .bl a, .int b => (if a then 1 else 0) == b
  | .int a, .bl b => a == (if b then 1 else 0)
  | .int a, .int b => a == b
  | .str a, .str b => a == b
  | _, _ => false
theorem eqAt_V {A : Around} {s : Shared} {y x : V} {u v : Value} (ry : RelV y u) (rx : RelV x v) (fy : flatV y = true) (fx : flatV x = true) : SeqAt.EqAt A s u v (eqV y x) := by
  cases y with
  | non =>
    cases ry
    cases x with
    | non => cases rx; exact SeqAt.EqAt.same _
    | bl b => cases rx; exact SeqAt.EqAt.none_bool b
    | int b => obtain ⟨t, rfl⟩ := rx; exact SeqAt.EqAt.none_int b t
    | str b => obtain ⟨t, rfl⟩ := rx; exact SeqAt.EqAt.none_str b t
    | _ => exact absurd (show false = true from fx) Bool.false_ne_true
  | bl a =>
    cases ry
    cases x with
    | non => cases rx; exact SeqAt.EqAt.bool_none a
    | bl b => cases rx; exact SeqAt.EqAt.bool_bool a b
    | int b => obtain ⟨t, rfl⟩ := rx; exact SeqAt.EqAt.bool_int a b t
    | str b => obtain ⟨t, rfl⟩ := rx; exact SeqAt.EqAt.bool_str a b t
    | _ => exact absurd (show false = true from fx) Bool.false_ne_true
  | int a =>
    obtain ⟨t', rfl⟩ := ry
    cases x with
    | non => cases rx; exact SeqAt.EqAt.int_none a t'
    | bl b => cases rx; exact SeqAt.EqAt.int_bool a t' b
    | int b => obtain ⟨t, rfl⟩ := rx; exact SeqAt.EqAt.int_int a t' b t
    | str b => obtain ⟨t, rfl⟩ := rx; exact SeqAt.EqAt.int_str a t' b t
    | _ => exact absurd (show false = true from fx) Bool.false_ne_true
  | str a =>
    obtain ⟨t', rfl⟩ := ry
    cases x with
    | non => cases rx; exact SeqAt.EqAt.str_none a t'
    | bl b => cases rx; exact SeqAt.EqAt.str_bool a t' b
    | int b => obtain ⟨t, rfl⟩ := rx; exact SeqAt.EqAt.str_int a t' b t
    | str b => obtain ⟨t, rfl⟩ := rx; exact SeqAt.EqAt.str_str a t' b t
    | _ => exact absurd (show false = true from fx) Bool.false_ne_true
  | _ => exact absurd (show false = true from fy) Bool.false_ne_true
def eqU (x : V) (u : Value) : Bool := match u with
  | .none => eqV .non x
  | .bool b => eqV (.bl b) x
  | .int i _ => eqV (.int i) x
  | .str z _ => eqV (.str z) x
  | _ => false
theorem eqU_of {x y : V} {u : Value} (r : RelV y u) (f : flatV y = true) : eqU x u = eqV y x := by
  cases y with
  | non => cases r; rfl
  | bl b => cases r; rfl
  | int i => obtain ⟨t, rfl⟩ := r; rfl
  | str z => obtain ⟨t, rfl⟩ := r; rfl
  | _ => exact absurd (show false = true from f) Bool.false_ne_true
theorem any_eqU {x : V} : ∀ {xs : List V} {us : List Value}, Vals xs us → xs.all flatV = true → us.any (eqU x) = xs.any fun y => eqV y x
  | _, _, .nil, _ => rfl
  | y :: xs, u :: us, .cons r t, f => by
    rw [List.all_cons, Bool.and_eq_true] at f
    rw [List.any_cons, List.any_cons, eqU_of r f.1, any_eqU t f.2]
theorem mem_eqAt {A : Around} {s : Shared} {x : V} {v : Value} (rx : RelV x v) (fx : flatV x = true) : ∀ {xs : List V} {us : List Value}, Vals xs us → xs.all flatV = true → ∀ u ∈ us, SeqAt.EqAt A s u v (eqU x u)
  | _, _, .nil, _ => fun u hu => by cases hu
  | y :: xs, u :: us, .cons r t, f => fun u' hu => by
    rw [List.all_cons, Bool.and_eq_true] at f
    rcases List.mem_cons.mp hu with rfl | hu
    · rw [eqU_of r f.1]; exact eqAt_V r rx f.1 fx
    · exact mem_eqAt rx fx t f.2 u' hu
def inV (x : V) (xs : List V) : Bool := xs.any fun y => eqV y x
def rIn (K : PySem.W.Frag) (neg : Bool) : R2 := fun x y H Q => ∃ p xs, y = .ref p ∧ (SqL K H p xs ∨ SqT K H p xs) ∧ flatV x = true ∧ xs.all flatV = true ∧ Q (.bl (if neg then !inV x xs else inV x xs)) H
theorem op_in_seq : OpR X (compareOp .In) (rIn X.K false) := by
  intro pins s σ H x y v u Q I rx ry h
  obtain ⟨p, xs, rfl, hq, fx, fs, q⟩ := h
  cases ry
  rcases hq with hq | hq
  · obtain ⟨its, r, pl, hz⟩ := I.list hq
    refine SeqAt.in_listAt (eqU x) pl.isList (fun w hw => mem_eqAt rx fx r fs w (by simpa using hw)) ⟨.bl _, H, I, rfl, ?_⟩
    rw [show its.toArray.any (eqU x) = its.any (eqU x) by simp, any_eqU r fs]
    exact q
  · obtain ⟨its, r, pl, hz⟩ := I.tuple hq
    refine SeqAt.in_tupleAt (eqU x) pl (fun w hw => mem_eqAt rx fx r fs w (by simpa using hw)) ⟨.bl _, H, I, rfl, ?_⟩
    rw [show its.toArray.any (eqU x) = its.any (eqU x) by simp, any_eqU r fs]
    exact q
theorem op_notIn_seq : OpR X (compareOp .NotIn) (rIn X.K true) := by
  intro pins s σ H x y v u Q I rx ry h
  obtain ⟨p, xs, rfl, hq, fx, fs, q⟩ := h
  cases ry
  rcases hq with hq | hq
  · obtain ⟨its, r, pl, hz⟩ := I.list hq
    refine SeqAt.notIn_listAt (eqU x) pl.isList (fun w hw => mem_eqAt rx fx r fs w (by simpa using hw)) ⟨.bl _, H, I, rfl, ?_⟩
    rw [show its.toArray.any (eqU x) = its.any (eqU x) by simp, any_eqU r fs]
    exact q
  · obtain ⟨its, r, pl, hz⟩ := I.tuple hq
    refine SeqAt.notIn_tupleAt (eqU x) pl (fun w hw => mem_eqAt rx fx r fs w (by simpa using hw)) ⟨.bl _, H, I, rfl, ?_⟩
    rw [show its.toArray.any (eqU x) = its.any (eqU x) by simp, any_eqU r fs]
    exact q
theorem op_notIn_str : OpR X (compareOp .NotIn) (fun x y H Q => ∃ i j, x = .str i ∧ y = .str j ∧ Q (.bl (!(!(Builtin.Str.occurrences j i 0 j.length 1).isEmpty))) H) := by
  intro pins s σ H x y v u Q I rx ry h
  obtain ⟨i, j, rfl, rfl, q⟩ := h
  obtain ⟨t, rfl⟩ := rx
  obtain ⟨t', rfl⟩ := ry
  exact notIn_str ⟨.bl _, H, I, rfl, q⟩
theorem call_len_seq : CallR X (.builtin "len") (fun xs H Q => ∃ p ys, xs = [.ref p] ∧ (SqL X.K H p ys ∨ SqT X.K H p ys) ∧ Q (.int ys.length) H) := by
  intro pins s σ H xs us Q I r h
  obtain ⟨p, ys, rfl, hq, q⟩ := h
  obtain ⟨u, rfl, rx⟩ := vals1 r
  cases rx
  have hn := line63
  rcases hq with hq | hq
  · obtain ⟨its, r', pl, hz⟩ := I.list hq
    have hlen := r'.length
    exact Calls.call_len_list pl.isList (by simp only [List.size_toArray] <;> omega) ⟨.int ys.length, H, I.tok _, ⟨s.toks + 1, by rw [List.size_toArray, hlen]⟩, q⟩
  · obtain ⟨its, r', pl, hz⟩ := I.tuple hq
    have hlen := r'.length
    exact len_tuple pl (by simp only [List.size_toArray] <;> omega) ⟨.int ys.length, H, I.tok _, ⟨s.toks + 1, by rw [List.size_toArray, hlen]⟩, q⟩
theorem call_len_str : CallR X (.builtin "len") (fun xs H Q => ∃ z, xs = [.str z] ∧ z.length ≤ sizeLine ∧ Q (.int z.length) H) := by
  intro pins s σ H xs us Q I r h
  obtain ⟨z, rfl, hz, q⟩ := h
  obtain ⟨u, rfl, t, rfl⟩ := vals1 r
  have hn := line63
  exact len_str (by omega) ⟨.int z.length, H, I.tok _, ⟨_, rfl⟩, q⟩
theorem CallR.or {f : Value} {r r' : List V → Hp → VK → Prop} (h : CallR X f r) (h' : CallR X f r') : CallR X f (fun xs H Q => r xs H Q ∨ r' xs H Q) := by
  intro pins s σ H xs us Q I rs q
  rcases q with q | q
  · exact h pins s σ H xs us Q I rs q
  · exact h' pins s σ H xs us Q I rs q
theorem call_list_of : CallR X (.type "list") (fun xs H Q => ∃ p ys, xs = [.ref p] ∧ (SqL X.K H p ys ∨ SqT X.K H p ys) ∧ ∀ l, H l = none → Q (.ref l) (upd H l (.lst ys))) := by
  intro pins s σ H xs us Q I r h
  obtain ⟨p, ys, rfl, hq, q⟩ := h
  obtain ⟨u, rfl, rx⟩ := vals1 r
  cases rx
  have fin : ∀ (its : List Value), Vals ys its → ys.length ≤ sizeLine → ∀ (h' : Heap) (c' : Nat), (∀ b o', s.heap.get? b = some o' → h'.get? b = some o') →
      h'.get? s.heap.objs.size = some { cls := .type "list", dict := none, data := .seq its.toArray c', slots := #[] } → EP X pins σ Q (.ref s.heap.objs.size) { s with heap := h' } := fun its r' hz h' c' kp e =>
    ⟨.ref s.heap.objs.size, _, I.laid (t' := s.toks) kp (Nat.le_refl _) (show ObjOk X.prog X.w _ h' _ (.lst ys) from ⟨hz, its, c', r', e⟩), rfl, q _ (I.hok.fresh (Nat.le_refl _))⟩
  rcases hq with hq | hq
  · obtain ⟨its, r', pl, hz⟩ := I.list hq
    have hlen := r'.length
    obtain ⟨o, ho, hc, n, hd⟩ := pl.isList
    exact call_list_seq p (.inl rfl) ho hc hd (fun h' c' kp e => fin its r' hz h' c' kp e) (by simp only [List.size_toArray] <;> omega)
  · obtain ⟨its, r', pl, hz⟩ := I.tuple hq
    have hlen := r'.length
    obtain ⟨o, ho, hc, n, hd⟩ := pl
    exact call_list_seq p (.inr rfl) ho hc hd (fun h' c' kp e => fin its r' hz h' c' kp e) (by simp only [List.size_toArray] <;> omega)
theorem call_tuple_of : CallR X (.type "tuple") (fun xs H Q => ∃ p ys, xs = [.ref p] ∧ ((SqL X.K H p ys ∧ ∀ l, H l = none → Q (.ref l) (upd H l (.tup ys))) ∨ (SqT X.K H p ys ∧ Q (.ref p) H))) := by
  intro pins s σ H xs us Q I r h
  obtain ⟨p, ys, rfl, h⟩ := h
  obtain ⟨u, rfl, rx⟩ := vals1 r
  cases rx
  rcases h with ⟨hq, q⟩ | ⟨hq, q⟩
  · obtain ⟨its, r', pl, hz⟩ := I.list hq
    have hlen := r'.length
    refine call_tuple_list pl.isList (fun h' kp => ?_) (by simp only [List.size_toArray] <;> omega)
    have I1 : Inv X pins σ H { s with heap := h' } := I.kept (t' := s.toks) kp
    have I2 : Inv X pins σ (upd H h'.objs.size (.tup ys)) { s with heap := h'.push { cls := .type "tuple", data := .seq its.toArray } } :=
      I1.laid (t' := s.toks) (fun b o e => Heap.get?_push_of_some _ e) (Nat.le_refl _) (show ObjOk X.prog X.w _ _ _ (.tup ys) from ⟨hz, its, r', IsTup.new _ _⟩)
    exact ⟨.ref h'.objs.size, _, I2, rfl, q _ (I1.hok.fresh (Nat.le_refl _))⟩
  · obtain ⟨its, r', pl, hz⟩ := I.tuple hq
    exact call_tuple_same pl ⟨.ref p, H, I, rfl, q⟩
def tyV (K : PySem.W.Frag) (T : String) (x : V) (H : Hp) : Prop := match x with
  | .str _ => T = "str"
  | .int _ => T = "int"
  | .ref p => (T = "list" ∧ ∃ xs, SqL K H p xs) ∨ (T = "tuple" ∧ ∃ o, K.lookup p = some o ∧ o.cls = .type "tuple" ∧ o.dict = none) ∨
      (T = "dict" ∧ ((∃ kvs, H p = some (.dK kvs)) ∨ ∃ kvs, H p = some (.dT kvs))) ∨ (T = "set" ∧ ∃ S n, H p = some (.set S n))
  | _ => False
theorem tyV_is {pins : List (Addr × Obj)} {σ : St} {H : Hp} {s : Shared} {T : String} {x : V} {v : Value} (I : Inv X pins σ H s) (r : RelV x v) (ty : tyV X.K T x H) :
    s.TypeIs v T ∧ ∀ a, v = .ref a → ∃ ob, s.heap.get? a = some ob ∧ ob.dict = none := by
  cases x with
  | str z =>
    obtain ⟨t, rfl⟩ := r
    cases (show T = "str" from ty)
    exact ⟨typeIs_str s z t, fun _ e => nomatch e⟩
  | int i =>
    obtain ⟨t, rfl⟩ := r
    cases (show T = "int" from ty)
    exact ⟨typeIs_int s i t, fun _ e => nomatch e⟩
  | ref p =>
    cases r
    rcases ty with ⟨rfl, xs, hq⟩ | ⟨rfl, o, hk, hc, hd⟩ | ⟨rfl, hk⟩ | ⟨rfl, S, n, hk⟩
    · obtain ⟨its, _, pl, _⟩ := I.list hq
      refine ⟨pl.isList.typeIs, fun a e => ?_⟩
      cases e
      obtain ⟨o, n, e, c, hd, _⟩ := pl
      exact ⟨o, e, hd⟩
    · refine ⟨⟨o, I.kIn p o hk, hc⟩, fun a e => ?_⟩
      cases e
      exact ⟨o, I.kIn _ o hk, hd⟩
    · have z : ∃ o, s.heap.get? p = some o ∧ o.ExactDict := by
        rcases hk with ⟨kvs, hk⟩ | ⟨kvs, hk⟩
        · obtain ⟨_, _, _, _, o, _, _, e, ex, _⟩ := I.hok p _ hk
          exact ⟨o, e, ex⟩
        · obtain ⟨_, _, _, _, o, _, _, e, ex, _⟩ := I.hok p _ hk
          exact ⟨o, e, ex⟩
      obtain ⟨o, e, ex⟩ := z
      refine ⟨⟨o, e, ex.1⟩, fun a e2 => ?_⟩
      cases e2
      exact ⟨o, e, ex.2.1⟩
    · obtain ⟨o, _, _, _, e, ex, _⟩ := I.hok p _ hk
      refine ⟨⟨o, e, ex.1⟩, fun a e2 => ?_⟩
      cases e2
      exact ⟨o, e, ex.2.1⟩
  | _ => exact False.elim ty
def tBM0 (K : PySem.W.Frag) (T : String) (r : V → List V → Hp → VK → Prop) (to : TE) : TE := fun σ H Q => to σ H fun x H1 => tyV K T x H1 ∧ r x [] H1 Q
def tBM (K : PySem.W.Frag) (T : String) (r : V → List V → Hp → VK → Prop) (to : TE) (t : TA) : TE := fun σ H Q => to σ H fun x H1 => tyV K T x H1 ∧ t σ H1 fun xs H2 => r x xs H2 Q
variable {o e : Expr} {es : List Expr} {to : TE} {t : TA} {name : Str} {apos cpos : Pos} {T id : String} {r : V → List V → Hp → VK → Prop}
theorem pe_bm0 (pa : PlainAttrs T) (slot : Slot T name id) (hty : typeOf (.builtin id) = pure (.type "method_descriptor")) (hm : MtR X id r) (ho : PE X o to)
    (hbase : attributeBase o name X.env (eval o X.env) = eval o X.env := by rfl) (hline : (apos.endLine == cpos.line) = true := by rfl) : PE X (.Call (.Attribute o name apos) [] [] cpos) (tBM0 X.K T r to) := by
  intro pins s σ H Q I h
  refine wpAny_Call_method0_late hbase hline (thn (ho pins s σ H _ I h) fun v s1 ⟨x, H1, I1, r1, ty, q1⟩ => ?_)
  obtain ⟨h1, h2⟩ := tyV_is I1 r1 ty
  exact ⟨T, id, pa, slot, hty, h1, h2, Calls.callWith_builtin rfl (PySem.evalArgs_none (hm pins s1 σ H1 x [] v [] Q I1 r1 .nil q1))⟩
theorem pe_bm (pa : PlainAttrs T) (slot : Slot T name id) (hty : typeOf (.builtin id) = pure (.type "method_descriptor")) (hm : MtR X id r) (ho : PE X o to) (ha : PA X (e :: es) t)
    (hbase : attributeBase o name X.env (eval o X.env) = eval o X.env := by rfl)
    (hfew : ((backTo cpos (starEach (e :: es) X.env)).all (fun x => !x.1) && (backToKw cpos (keywordEach [] X.env)).all (fun x => x.1.isSome)
      && decide ((e :: es).length + ([] : List Keyword).length + (if ([] : List Keyword).isEmpty then 0 else 1) < 30)) = true := by rfl)
    (hline : (apos.endLine == cpos.line) = true := by rfl) (hs : starEach (e :: es) X.env = (false, eval e X.env) :: starEach es X.env := by rfl) (hplain : (backTo cpos (starEach es X.env)).any (·.1) = false := by rfl) :
    PE X (.Call (.Attribute o name apos) (e :: es) [] cpos) (tBM X.K T r to t) := by
  intro pins s σ H Q I h
  refine wpAny_Call_method_late hbase hfew hline rfl (thn (ho pins s σ H _ I h) fun v s1 ⟨x, H1, I1, r1, ty, q1⟩ => ?_)
  obtain ⟨h1, h2⟩ := tyV_is I1 r1 ty
  refine ⟨T, id, pa, slot, hty, h1, h2, ?_⟩
  have hA := ha cpos pins s1 σ H1 _ I1 q1
  rw [hs] at hA ⊢
  refine Calls.callWith_builtin (by show (false || (backTo cpos (starEach es X.env)).any (·.1)) = false; rw [hplain] <;> rfl) (Calls.evalArgs_plain ?_)
  exact thn hA fun us s2 ⟨vs, H2, I2, r2, q2⟩ => hm pins s2 σ H2 x vs v us Q I2 r1 r2 q2
end
end L2
namespace L2
open PySem PySem.Spec PyProof.Rows
def MtM (X : Cx) (id : String) (r : V → List V → Hp → VK → Prop) : Prop :=
  ∀ (pins : List (Addr × Obj)) (s : Shared) (σ : St) (H : Hp) (x : V) (xs : List V) (v : Value) (us : List Value) (Q : VK), Inv X pins σ H s → RelV x v → Vals xs us → r x xs H Q →
    wpAny (model X.prog X.w) X.A (call (.builtin id) (v :: us)) (EP X pins σ Q) X.xe s
theorem Vals.one : ∀ {x : V} {us : List Value}, Vals [x] us → ∃ u, us = [u] ∧ RelV x u
  | _, _, .cons r .nil => ⟨_, rfl, r⟩
theorem Vals.two : ∀ {x y : V} {us : List Value}, Vals [x, y] us → ∃ u v, us = [u, v] ∧ RelV x u ∧ RelV y v
  | _, _, _, .cons r (.cons q .nil) => ⟨_, _, rfl, r, q⟩
theorem Vals.zero : ∀ {us : List Value}, Vals [] us → us = []
  | _, .nil => rfl
theorem Vals.dropLast {xs : List V} {us : List Value} (h : Vals xs us) : Vals xs.dropLast us.dropLast := by
  induction h with
  | nil => exact .nil
  | cons r t ih =>
    cases t with
    | nil => exact .nil
    | cons q t' => exact .cons r ih
theorem Vals.eraseIdx : ∀ {xs : List V} {us : List Value} (i : Nat), Vals xs us → Vals (xs.eraseIdx i) (us.eraseIdx i)
  | _, _, _, .nil => .nil
  | _, _, 0, .cons _ t => t
  | _, _, i + 1, .cons r t => .cons r (Vals.eraseIdx i t)
theorem Vals.reverse {xs : List V} {us : List Value} (h : Vals xs us) : Vals xs.reverse us.reverse := by
  induction h with
  | nil => exact .nil
  | cons r t ih => rw [List.reverse_cons, List.reverse_cons]; exact Vals.append ih (.cons r .nil)
theorem Vals.rep {xs : List V} {us : List Value} (h : Vals xs us) : ∀ k : Nat, Vals (List.replicate k xs).flatten (List.replicate k us).flatten
  | 0 => .nil
  | k + 1 => by
    rw [List.replicate_succ, List.replicate_succ, List.flatten_cons, List.flatten_cons]
    exact Vals.append h (Vals.rep h k)
theorem erase_last {α : Type} (l : List α) : l.eraseIdx (l.length - 1) = l.dropLast := by
  induction l with
  | nil => rfl
  | cons a r ih =>
    cases r with
    | nil => rfl
    | cons b r =>
      have e : (a :: b :: r).length - 1 = ((b :: r).length - 1) + 1 := by
        have h1 : (a :: b :: r).length = r.length + 2 := rfl
        have h2 : (b :: r).length = r.length + 1 := rfl
        omega
      rw [e, List.eraseIdx_cons_succ, ih]
      all_goals rfl
theorem len_erase {α : Type} : ∀ (l : List α) (i : Nat), (l.eraseIdx i).length ≤ l.length
  | [], _ => Nat.le_refl _
  | _ :: _, 0 => Nat.le_succ _
  | _ :: r, i + 1 => Nat.succ_le_succ (len_erase r i)
theorem foldl_rep (its : List Value) : ∀ (k : Nat) (acc : List Value),
    List.foldl (fun x1 x2 => x1 ++ x2) acc.toArray (List.replicate k its.toArray) = (acc ++ (List.replicate k its).flatten).toArray
  | 0, acc => by simp
  | k + 1, acc => by
    have e : acc.toArray ++ its.toArray = (acc ++ its).toArray := by simp
    have e2 : (acc ++ its) ++ (List.replicate k its).flatten = acc ++ (List.replicate (k + 1) its).flatten := by
      rw [List.replicate_succ, List.flatten_cons, List.append_assoc]
    rw [← e2, ← foldl_rep its k (acc ++ its), ← e, List.replicate_succ, List.foldl_cons]
section
variable {X : Cx} {pins : List (Addr × Obj)} {σ : St} {H : Hp} {s : Shared} {l b : Addr} {xs ys zs : List V}
theorem Inv.lset {its its' : List Value} {n : Nat} {f : Array Value → Array Value} {t' : Nat} (I : Inv X pins σ H s) (hH : H l = some (.lst xs))
    (e : s.heap.get? l = some { cls := .type "list", data := .seq its.toArray n }) (hf : f its.toArray = its'.toArray) (hv : Vals ys its') (hz : ys.length ≤ sizeLine) :
    Inv X pins σ (upd H l (.lst ys)) { s with heap := s.heap.update l (Obj.mapSeq f), toks := t' } := by
  have q := PySem.IsL.update e f
  rw [hf] at q
  refine I.write (x := l) (e := l) (by rw [hH]; exact trivial) (.inl rfl) (fun b' u hb hu => (Heap.get?_update_other s.heap (Obj.mapSeq f) (Ne.symm hb)).trans hu) ⟨_, q⟩ ?_
  exact ⟨hz, its', _, hv, q⟩
theorem Inv.lnew {its : List Value} {t' : Nat} (I : Inv X pins σ H s) (hv : Vals ys its) (hz : ys.length ≤ sizeLine) :
    Inv X pins σ (upd H s.heap.objs.size (.lst ys)) { s with heap := s.heap.push { cls := .type "list", data := .seq its.toArray }, toks := t' } :=
  I.laid (fun _ _ q => Heap.get?_push_of_some _ q) (Nat.le_refl _) ⟨hz, its, 0, hv, Heap.get?_push_size _ rfl⟩
theorem Inv.fresh (I : Inv X pins σ H s) : H s.heap.objs.size = none := I.hok.fresh (Nat.le_refl _)
theorem Inv.lstM (I : Inv X pins σ H s) (hH : H l = some (.lst xs)) : xs.length ≤ sizeLine ∧ ∃ (its : List Value) (n : Nat), Vals xs its ∧ xs.length = its.length ∧ s.heap.get? l = some { cls := .type "list", data := .seq its.toArray n } := by
  obtain ⟨z, its, n, r, e⟩ := I.hok l _ hH
  exact ⟨z, its, n, r, r.length, e⟩
theorem notLongL {n : Nat} (h : n ≤ sizeLine) : Builtin.List.listTooLong n = false := by
  unfold Builtin.List.listTooLong
  exact decide_eq_false (by omega)
end
section
variable {X : Cx}
def rAppend : V → List V → Hp → VK → Prop := fun x vs H Q => ∃ l xs y, x = .ref l ∧ vs = [y] ∧ H l = some (.lst xs) ∧ xs.length < sizeLine ∧ Q .non (upd H l (.lst (xs ++ [y])))
theorem mt_append : MtM X "list.append" rAppend := by
  intro pins s σ H x vs v us Q I rx rv h
  obtain ⟨l, xs, y, rfl, rfl, hH, hz, q⟩ := h
  cases rx
  obtain ⟨u, rfl, ru⟩ := rv.one
  obtain ⟨z, its, n, r, hl, e⟩ := I.lstM hH
  refine call_meets F.slot_list_append ⟨_, e, rfl⟩ F.entry_list_append (F.args_list_append_2 _ _) (PySem.list_append l its.toArray n u (by rw [List.size_toArray]; omega)) ⟨e, ?_⟩
  refine ⟨.non, _, I.lset (its' := its ++ [u]) hH e (by simp) (r.append (.cons ru .nil)) ?_, rfl, q⟩
  rw [List.length_append, List.length_singleton]
  omega
def rExtend : V → List V → Hp → VK → Prop := fun x vs H Q => ∃ l b xs zs, x = .ref l ∧ vs = [.ref b] ∧ H l = some (.lst xs) ∧ H b = some (.lst zs) ∧ xs.length + zs.length ≤ sizeLine ∧ Q .non (upd H l (.lst (xs ++ zs)))
theorem mt_extend : MtM X "list.extend" rExtend := by
  intro pins s σ H x vs v us Q I rx rv h
  obtain ⟨l, b, xs, zs, rfl, rfl, hH, hB, hz, q⟩ := h
  cases rx
  obtain ⟨u, rfl, ru⟩ := rv.one
  cases ru
  obtain ⟨z, its, n, r, hl, e⟩ := I.lstM hH
  obtain ⟨z2, its2, n2, r2, hl2, e2⟩ := I.lstM hB
  have hsz : its.toArray.size + its2.toArray.size ≤ sizeLine := by rw [List.size_toArray, List.size_toArray]; omega
  have hlong : ¬ (!its.toArray.isEmpty && Builtin.List.listTooLong (its.toArray.size + its2.toArray.size)) = true := by
    rw [notLongL hsz, Bool.and_false]
    exact Bool.false_ne_true
  refine call_meets F.slot_list_extend ⟨_, e, rfl⟩ F.entry_list_extend (F.args_list_extend_2 _ _)
    (AutoSeq1.list_extend_list_list_0 l its.toArray n b its2.toArray n2 hlong (by rw [List.size_toArray]; omega) (by omega)) ⟨e, e2, ?_⟩
  refine ⟨.non, _, I.lset (its' := its ++ its2) hH e (by simp) (r.append r2) ?_, rfl, q⟩
  rw [List.length_append]
  omega
def rPop : V → List V → Hp → VK → Prop := fun x vs H Q => ∃ l xs y, x = .ref l ∧ vs = [] ∧ H l = some (.lst xs) ∧ xs[xs.length - 1]? = some y ∧ Q y (upd H l (.lst xs.dropLast))
theorem mt_pop : MtM X "list.pop" rPop := by
  intro pins s σ H x vs v us Q I rx rv h
  obtain ⟨l, xs, y, rfl, rfl, hH, hy, q⟩ := h
  cases rx
  have hus := rv.zero
  subst hus
  obtain ⟨z, its, n, r, hl, e⟩ := I.lstM hH
  obtain ⟨u, hu, ru⟩ := r.get hy
  have hy' : its.toArray[its.toArray.size - 1]? = some u := by
    show its.toArray[its.length - 1]? = some u
    rw [← Array.getElem?_toList, ← hl]
    exact hu
  refine call_meets F.slot_list_pop ⟨_, e, rfl⟩ F.entry_list_pop (F.args_list_pop_1 _) (MeetsSeq.list_pop_last l its.toArray n u hy' (by rw [List.size_toArray]; omega)) ⟨e, ?_⟩
  refine ⟨y, _, I.lset (its' := its.dropLast) hH e ?_ r.dropLast ?_, ru, q⟩
  · show its.toArray.eraseIdxIfInBounds (its.toArray.size - 1) = its.dropLast.toArray
    rw [List.size_toArray, List.eraseIdxIfInBounds_toArray, erase_last]
  · rw [List.length_dropLast]
    omega
def rPopAt : V → List V → Hp → VK → Prop := fun x vs H Q => ∃ l xs i k y, x = .ref l ∧ vs = [.int i] ∧ H l = some (.lst xs) ∧ -(2 ^ 63) ≤ i ∧ i < 2 ^ 63 ∧ seqIndex? i xs.length = some k ∧ xs[k]? = some y ∧ Q y (upd H l (.lst (xs.eraseIdx k)))
theorem mt_popAt : MtM X "list.pop" rPopAt := by
  intro pins s σ H x vs v us Q I rx rv h
  obtain ⟨l, xs, i, k, y, rfl, rfl, hH, h1, h2, hk, hy, q⟩ := h
  cases rx
  obtain ⟨u, rfl, ru⟩ := rv.one
  obtain ⟨t, rfl⟩ := ru
  obtain ⟨z, its, n, r, hl, e⟩ := I.lstM hH
  obtain ⟨w, hw, rw'⟩ := r.get hy
  refine call_meets F.slot_list_pop ⟨_, e, rfl⟩ F.entry_list_pop (F.args_list_pop_2 _ _)
    (MeetsSeq.list_pop_at l its.toArray n i t k w (fitsIndex_both h1 h2) (by rw [List.size_toArray, ← hl]; exact hk) (by rw [← Array.getElem?_toList]; exact hw) (by rw [List.size_toArray]; omega)) ⟨e, ?_⟩
  refine ⟨y, _, I.lset (its' := its.eraseIdx k) hH e ?_ (r.eraseIdx k) ?_, rw', q⟩
  · show its.toArray.eraseIdxIfInBounds k = (its.eraseIdx k).toArray
    rw [List.eraseIdxIfInBounds_toArray]
  · have := len_erase xs k
    omega
def rReverse : V → List V → Hp → VK → Prop := fun x vs H Q => ∃ l xs, x = .ref l ∧ vs = [] ∧ H l = some (.lst xs) ∧ Q .non (upd H l (.lst xs.reverse))
theorem mt_reverse : MtM X "list.reverse" rReverse := by
  intro pins s σ H x vs v us Q I rx rv h
  obtain ⟨l, xs, rfl, rfl, hH, q⟩ := h
  cases rx
  have hus := rv.zero
  subst hus
  obtain ⟨z, its, n, r, hl, e⟩ := I.lstM hH
  refine call_meets F.slot_list_reverse ⟨_, e, rfl⟩ F.entry_list_reverse (F.args_list_reverse_1 _) (AutoSeq1.list_reverse_list_0 l its.toArray n (by rw [List.size_toArray]; omega)) ⟨e, ?_⟩
  refine ⟨.non, _, I.lset (its' := its.reverse) hH e (by simp) r.reverse ?_, rfl, q⟩
  rw [List.length_reverse]
  omega
def rClear : V → List V → Hp → VK → Prop := fun x vs H Q => ∃ l xs, x = .ref l ∧ vs = [] ∧ H l = some (.lst xs) ∧ Q .non (upd H l (.lst []))
theorem mt_clear : MtM X "list.clear" rClear := by
  intro pins s σ H x vs v us Q I rx rv h
  obtain ⟨l, xs, rfl, rfl, hH, q⟩ := h
  cases rx
  have hus := rv.zero
  subst hus
  obtain ⟨z, its, n, r, hl, e⟩ := I.lstM hH
  refine call_meets F.slot_list_clear ⟨_, e, rfl⟩ F.entry_list_clear (F.args_list_clear_1 _) (AutoSeq1.list_clear_list_0 l its.toArray n (by rw [List.size_toArray]; omega)) ⟨e, ?_⟩
  exact ⟨.non, _, I.lset (its' := []) (ys := []) hH e rfl .nil (Nat.zero_le _), rfl, q⟩
def rCat : R2 := fun x y H Q => ∃ l b xs zs, x = .ref l ∧ y = .ref b ∧ H l = some (.lst xs) ∧ H b = some (.lst zs) ∧ xs.length + zs.length ≤ sizeLine ∧ ∀ p, H p = none → Q (.ref p) (upd H p (.lst (xs ++ zs)))
theorem op_cat : OpR X (binaryOp .Add) rCat := by
  intro pins s σ H x y v u Q I rx ry h
  obtain ⟨l, b, xs, zs, rfl, rfl, hH, hB, hz, q⟩ := h
  cases rx
  cases ry
  obtain ⟨z, its, n, r, hl, e⟩ := I.lstM hH
  obtain ⟨z2, its2, n2, r2, hl2, e2⟩ := I.lstM hB
  refine PySem.P.add_list e e2 ?_ (by rw [List.size_toArray, List.size_toArray]; omega)
  have ea : its.toArray ++ its2.toArray = (its ++ its2).toArray := by simp
  rw [ea]
  exact ⟨.ref _, _, I.lnew (t' := s.toks) (r.append r2) (by rw [List.length_append]; omega), rfl, q _ I.fresh⟩
def rRep : R2 := fun x y H Q => ∃ l k xs, x = .ref l ∧ y = .int k ∧ H l = some (.lst xs) ∧ -(2 ^ 63) ≤ k ∧ k < 2 ^ 63 ∧ xs.length * k.toNat ≤ sizeLine ∧
  ∀ p, H p = none → Q (.ref p) (upd H p (.lst (List.replicate k.toNat xs).flatten))
theorem len_rep {α : Type} (xs : List α) (k : Nat) : (List.replicate k xs).flatten.length = k * xs.length := by
  induction k with
  | zero => simp
  | succ k ih => rw [List.replicate_succ, List.flatten_cons, List.length_append, ih, Nat.succ_mul, Nat.add_comm]
theorem op_rep : OpR X (binaryOp .Mult) rRep := by
  intro pins s σ H x y v u Q I rx ry h
  obtain ⟨l, k, xs, rfl, rfl, hH, h1, h2, hz, q⟩ := h
  cases rx
  obtain ⟨t, rfl⟩ := ry
  obtain ⟨z, its, n, r, hl, e⟩ := I.lstM hH
  have hlen : its.toArray.size * k.toNat ≤ sizeLine := by rw [List.size_toArray, ← hl]; exact hz
  have hcap : ¬ its.toArray.size * k.toNat > (2 ^ 63 - 1) / 8 := by
    have : (sizeLine : Nat) ≤ (2 ^ 63 - 1) / 8 := by decide
    omega
  have hfit : ¬ (!Builtin.List.listFitsIndex k) = true := by
    rw [fitsIndex_both h1 h2]
    exact Bool.false_ne_true
  have hlong : ¬ Builtin.List.listTooLong (its.toArray.size * k.toNat) = true := by
    rw [notLongL hlen]
    exact Bool.false_ne_true
  have hnew : List.foldl (fun x1 x2 => x1 ++ x2) #[] (List.replicate (if its.toArray.isEmpty = true then 0 else k.toNat) its.toArray) = (List.replicate k.toNat its).flatten.toArray := by
    have f0 : ∀ m : Nat, List.foldl (fun x1 x2 => x1 ++ x2) #[] (List.replicate m its.toArray) = (List.replicate m its).flatten.toArray := fun m => by
      have := foldl_rep its m []
      rw [List.nil_append] at this
      exact this
    rw [f0]
    cases its with
    | nil => simp
    | cons a r' => rw [if_neg (by simp)]
  refine wpAny_binaryOp_repeat_ref (T := "list") (U := "int") (by decide) ⟨_, e, rfl⟩ (fun s' => typeIs_int s' k t) noFill_list_mul F.fills_int_mul F.slot_int_rmul repeat_list F.slot_int_index.lookup
    (call_meets F.slot_int_rmul (typeIs_int s k t) F.entry_int_rmul (F.args_int_rmul_2 _ _) (int___rmul___int_list k t l its.toArray n)
      ⟨e, rfl, ⟨_, e, rfl⟩, call_meets F.slot_list_mul ⟨_, e, rfl⟩ F.entry_list_mul (F.args_list_mul_2 _ _) (AutoListH.list___mul___list_int_3 l its.toArray n k t hfit hcap hlong) ⟨e, ?_⟩⟩)
  rw [hnew]
  exact ⟨.ref _, _, I.lnew (t' := s.toks) (r.rep k.toNat) (by rw [len_rep, Nat.mul_comm]; exact hz), rfl, q _ I.fresh⟩
theorem del_list {pins : List (Addr × Obj)} {s : Shared} {σ : St} {H : Hp} {l : Addr} {xs : List V} {i : Int} {t : Tok} {k : Nat} {Q : Unit → Shared → Prop} (I : Inv X pins σ H s) (hH : H l = some (.lst xs))
    (h1 : -(2 ^ 63) ≤ i) (h2 : i < 2 ^ 63) (hk : seqIndex? i xs.length = some k) (h : ∀ s', Inv X pins σ (upd H l (.lst (xs.eraseIdx k))) s' → Q () s') :
    wpAny (model X.prog X.w) X.A (delItem (.ref l) (.int i t)) Q X.xe s := by
  obtain ⟨z, its, n, r, hl, e⟩ := I.lstM hH
  refine PySem.P.delItem_list (k := k) e (fitsIndex_both h1 h2) (by rw [List.size_toArray, ← hl]; exact hk) (h _ ?_) (by rw [List.size_toArray]; omega)
  refine I.lset (its' := its.eraseIdx k) (t' := s.toks) hH e ?_ (r.eraseIdx k) ?_
  · show its.toArray.eraseIdxIfInBounds k = (its.eraseIdx k).toArray
    rw [List.eraseIdxIfInBounds_toArray]
  · have := len_erase xs k
    omega
end
section
variable {prog : Program} {w : World} {A : Around} {E : Value → Shared → Prop} {s : Shared}
theorem splice_eq (its its2 : List Value) (a c : Nat) : its.toArray.extract 0 a ++ its2.toArray ++ its.toArray.extract c its.toArray.size = (its.take a ++ its2 ++ its.drop c).toArray := by
  apply Array.toList_inj.mp
  first
    | (simp
       exact List.take_of_length_le (by simp))
    | simp [List.take_of_length_le]
    | simp
theorem bounds_run {a c n : Nat} (hac : a ≤ c) (hc : c ≤ n) : sliceBounds (some (a : Int)) (some (c : Int)) none n = ((a : Int), (c : Int), 1) := by
  simp only [sliceBounds, Option.getD_none]
  have h1 : ¬ ((a : Int) < 0) := by omega
  have h2 : ¬ ((c : Int) < 0) := by omega
  simp only [h1, h2, if_false, show (1 : Int) > 0 by decide, if_true]
  congr 1
  · omega
  · congr 1; omega
set_option maxRecDepth 100000 in
theorem setItem_slice {l b sl : Addr} {items new : Array Value} {n n2 : Nat} {vl vu : Value} {a c : Nat} {Q : Unit → Shared → Prop}
    (e : s.heap.get? l = some { cls := .type "list", data := .seq items n }) (e2 : s.heap.get? b = some { cls := .type "list", data := .seq new n2 }) (hne : l ≠ b)
    (hs : s.heap.IsSliceOf sl vl vu .none) (pl : IsPart vl (some (a : Int))) (pu : IsPart vu (some (c : Int))) (hac : a ≤ c) (hc : c ≤ items.size)
    (hsz : items.size + new.size ≤ sizeLine) (h : Q () { s with heap := s.heap.update l (Obj.mapSeq fun xs => xs.extract 0 a ++ new ++ xs.extract c xs.size) }) :
    wpAny (model prog w) A (setItem (.ref l) (.ref sl) (.ref b)) Q E s := by
  have hl : s.heap.IsList l items := PySem.IsL.isList e
  have hb : s.heap.IsList b new := PySem.IsL.isList e2
  obtain ⟨os, hos, hcs, hds⟩ := id hs
  have hTs : s.TypeIs (.ref sl) "slice" := ⟨os, hos, hcs⟩
  have hstep : ¬ ((rawPart none == rawInt 0) = true) := Bool.false_ne_true
  have hsame : Builtin.List.listSameRef (.ref l) (.ref b) = false := by
    unfold Builtin.List.listSameRef
    exact beq_eq_false_iff_ne.mpr hne
  have hmax : (max (a : Int) (c : Int)).toNat = c := by omega
  have hz' : ((fun xs : Array Value => xs.extract 0 a ++ new ++ xs.extract c xs.size) items).size ≤ sizeLine + 1 := by
    simp only [Array.size_append, Array.size_extract]
    omega
  unfold setItem
  try with_reducible refine wpAny_holding ?_
  first | refine wpAny_bind (wpAny_pure ?_) | skip
  refine wpAny_bind (wpAny_sequenceKey hl.typeIs (by decide) ?_)
  refine wpAny_bind (wpAny_callSpecial?_slot (name := Str.ofString "__setitem__") hl.typeIs slot_list_setitem
    (wpAny_call_entry slot_list_setitem hl.typeIs entry_list_setitem ?_ (args_list_setitem _ _ _)))
  show wpAny _ _ (Builtin.List.listSubscript? (.ref sl) >>= _) _ _ s
  refine wpAny_bind ?_
  unfold Builtin.List.listSubscript?
  refine wpAny_bind (wpAny_specialOf hTs slice_no_index ?_)
  simp only [Option.isNone_none, if_true]
  refine wpAny_pure ?_
  show wpAny _ _ (typeOf (.ref sl) >>= _) _ _ s
  refine wpAny_bind (wpAny_typeOf hTs ?_)
  first
    | rw [if_neg (by decide)]
    | refine PySem.W.KFB.if_not (by decide) ?_
  rw [listSliceParts_eq]
  refine wpAny_bind (wpAny_bind (wpAny_field hos hds (x := .none) rfl (wpAny_bind (wpAny_listPart .none ?_))))
  rw [if_neg hstep]
  refine wpAny_bind (wpAny_field hos hds (x := vl) rfl (wpAny_bind (wpAny_listPart pl ?_)))
  refine wpAny_bind (wpAny_field hos hds (x := vu) rfl (wpAny_bind (wpAny_listPart pu (wpAny_pure ?_))))
  first
    | simp only [hsame, Bool.false_eq_true, if_false]
    | refine PySem.W.KFB.if_not hsame ?_
    | (dsimp only
       rw [if_neg (by rw [hsame]; exact Bool.false_ne_true)])
  refine wpAny_bind (m := Builtin.List.listAllItems (.ref b) "must assign iterable to extended slice") ?_
  unfold Builtin.List.listAllItems
  refine wpAny_bind (wpAny_typeOf hb.typeIs ?_)
  first
    | refine PySem.W.KFB.if_so (by decide) ?_
    | rw [if_pos (by decide)]
    | simp only [beq_self_eq_true, Bool.true_or, if_true]
  unfold Builtin.List.listItems
  refine wpAny_bind (wpAny_seqItems e2 rfl (wpAny_pure ?_))
  refine wpAny_bind (wpAny_bind (wpAny_seqItems e rfl (wpAny_pure ?_)))
  refine wpAny_bind (wpAny_of_eq ((sliceIndices_raw (some (a : Int)) (some (c : Int)) none items.size (by simp)).trans (congrArg (pure : Int × Int × Int → Sem (Int × Int × Int)) (bounds_run hac hc))) ?_)
  show wpAny _ _ (if ((1 : Int) == 1) = true then _ else _) _ _ s
  rw [if_pos (by decide)]
  refine wpAny_bind (wpAny_rule ?_)
  first
    | simp only [notLongL hsz, Bool.false_eq_true, if_false]
    | refine PySem.W.KFB.if_not (notLongL hsz) ?_
  first | refine wpAny_bind (wpAny_pure ?_) | skip
  show wpAny _ _ (updateSeq l (fun xs => xs.extract 0 ((a : Int)).toNat ++ new ++ xs.extract (max (a : Int) (c : Int)).toNat xs.size) >>= _) _ _ s
  rw [hmax, Int.toNat_natCast]
  refine wpAny_bind (wpAny_updateSeq (hz := Nat.le_trans (Nat.le_add_right _ _) hsz) (_hz' := hz') e rfl ?_)
  refine wpAny_bind (wpAny_letGo ?_)
  first
    | exact wpAny_bind (wpAny_pure (wpAny_pure ⟨.none, rfl, wpAny_pure h⟩))
    | exact wpAny_pure ⟨.none, rfl, wpAny_pure h⟩
end
section
variable {X : Cx}
theorem set_slice {pins : List (Addr × Obj)} {s : Shared} {σ : St} {H : Hp} {l b sl : Addr} {xs ys : List V} {a c : Int} {vl vu : Value} {Q : Unit → Shared → Prop} (I : Inv X pins σ H s)
    (hH : H l = some (.lst xs)) (hB : H b = some (.lst ys)) (hne : l ≠ b) (hs : s.heap.IsSliceOf sl vl vu .none) (ra : RelV (.int a) vl) (rc : RelV (.int c) vu) (h0 : 0 ≤ a) (hac : a ≤ c) (hc : c ≤ xs.length)
    (hz : xs.length + ys.length ≤ sizeLine) (h : ∀ s', Inv X pins σ (upd H l (.lst (xs.take a.toNat ++ ys ++ xs.drop c.toNat))) s' → Q () s') :
    wpAny (model X.prog X.w) X.A (setItem (.ref l) (.ref sl) (.ref b)) Q X.xe s := by
  obtain ⟨ta, rfl⟩ := ra
  obtain ⟨tc, rfl⟩ := rc
  obtain ⟨z, its, n, r, hl, e⟩ := I.lstM hH
  obtain ⟨z2, its2, n2, r2, hl2, e2⟩ := I.lstM hB
  obtain ⟨a', rfl⟩ := Int.eq_ofNat_of_zero_le h0
  obtain ⟨c', rfl⟩ := Int.eq_ofNat_of_zero_le (Int.le_trans h0 hac)
  simp only [Int.toNat_natCast] at h
  refine setItem_slice (a := a') (c := c') e e2 hne hs (.int _ _) (.int _ _) (by omega) (by rw [List.size_toArray]; omega) (by rw [List.size_toArray, List.size_toArray]; omega) (h _ ?_)
  refine I.lset (its' := its.take a' ++ its2 ++ its.drop c') (t' := s.toks) hH e ?_ (Vals.append (Vals.append (r.take _) r2) (r.drop _)) ?_
  · exact splice_eq its its2 a' c'
  · rw [List.length_append, List.length_append, List.length_take, List.length_drop]
    omega
end
end L2
namespace Att
open PySem PySem.W PySem.Calls PyProof.Rows
theorem ints_of_wellAll {P : Params} {h : Heap} : ∀ (ns : List Int) (vs : List Value), WellAll P h vs (ns.map WData.int) → IntsAre vs ns := by
  intro ns
  induction ns with
  | nil =>
    intro vs w
    rw [List.map_nil] at w
    cases w
    exact .nil
  | cons n ns ih =>
    intro vs w
    rw [List.map_cons] at w
    cases w with
    | cons a b =>
      cases a
      exact .cons _ _ (ih _ b)
theorem script_of {l : OpenLaw} {n : Nat} (hn : l.most = some n) {P : Params} {h : Heap} {args : List WData} {vals : List Value}
    (hpre : l.row.toRowW.claim.pre args = true) (hwl : WellAll P h vals args) :
    ∃ a vs ns, vals = [Value.ref a] ∧ args = [WData.list (ns.map WData.int)] ∧ h.get? a = some { cls := .type "list", data := .seq vs.toArray } ∧ IntsAre vs ns ∧ ns.length ≤ n := by
  have hsh : WShape.hasAll [] args [.list .int] = true := (pre_splitW hpre).1
  have hc : l.pre.holds [] { args := args } = true := (pre_splitW hpre).2
  obtain ⟨d, r, rfl, h1, h2⟩ := hasAllW_cons hsh
  obtain rfl := hasAllW_nil h2
  obtain ⟨xs, rfl, h3⟩ := hasW_list h1
  obtain ⟨ns, rfl⟩ := items_int h3
  have hlen : ns.length ≤ n := by
    unfold OpenLaw.pre at hc
    have h4 : (WTm.not (.lt (.lit (.int (n : Int))) (.len (.arg 0)))).holds [] { args := [.list (ns.map .int)] } = true := by
      have h4 := (holds_andW hc).1
      rw [hn] at h4
      exact h4
    have h5 := condW_of h4 (w_not (w_lt w_lit (w_len_list (w_arg rfl))))
    rw [List.length_map] at h5
    refine Nat.le_of_not_lt fun q => ?_
    have q' : (n : Int) < ((ns.length : Nat) : Int) := by omega
    first
      | (rw [decide_eq_true q'] at h5; exact absurd h5 (by decide))
      | (simp at h5; omega)
  cases hwl with
  | cons w1 w2 =>
    cases w2
    cases w1 with
    | list ho hall => exact ⟨_, _, ns, rfl, rfl, ho, ints_of_wellAll ns _ hall, hlen⟩
theorem post_true (l : OpenLaw) (args : List WData) : l.row.toRowW.claim.post args (.bool true) args = true :=
  postW_of (r := l.row.toRowW) (X := (true == true))
    (show WShape.has [] (.bool true) .bool = true by first | rfl | decide | simp [WShape.has, WShape.arms, WShape.armsAll])
    (show (WTm.eq .res (.lit (.bool true))).value [] { args := args, res := some (.bool true), after := args } = some (.bool (true == true)) from w_eq_bool (w_res rfl) w_lit) rfl
theorem attach {l : OpenLaw} {n : Nat} {q : Program} {loose : List Str} {XP : (Str → Option Value) → Heap → Prop} {YP : World → Heap → Prop} {d : DefRec} {x : Str}
    (hn : l.most = some n) (hdf : d.params.defaults = [])
    (hbind : ∀ pm cd doc v : Value, bindArgs (docDef d.name d.params d.body d.scope pm cd doc) ⟨[v], []⟩ = pure [(x, v)])
    (hx : d.scope.names.lookup x = some .local ∨ d.scope.names.lookup x = some .cell)
    (hk : d.scope.kind = .function) (hco : d.scope.isCoroutine = false) (hgen : d.scope.isGenerator = false)
    (body : ∀ (w : World) (s₀ s₁ s : Shared) (mg mb : Str → Option Value) (fa : Addr) (o : Obj) (pm cd doc : Value) (a : Addr) (vs : List Value) (ns : List Int),
      Ground q loose [] XP w s₀ mg mb s₁.heap → YP w s₁.heap →
      s₁.heap.get? fa = some o → o.data = .func (docDef d.name d.params d.body d.scope pm cd doc) → s₁.heap.CodeRec cd d.name → mg d.name = some (.ref fa) →
      s₁.heap.get? a = some { cls := .type "list", data := .seq vs.toArray } → IntsAre vs ns → ns.length ≤ n →
      s.gens = #[] → s.os = s₁.os →
      Fr s₁.heap s₁.heap.objs.size s.heap (bindL (envOfC d.name d.scope s₁.heap.objs.size fa cd).kindOf [(x, .ref a)] fun _ => none) →
      Cl s₁.heap.objs.size (cellsFrom (s₁.heap.objs.size + 1) d.scope.names []) s.heap (bindC (envOfC d.name d.scope s₁.heap.objs.size fa cd).kindOf [(x, .ref a)] fun _ => none) →
      wpAny (model l.prog w) (callerA.deeper (envOfC d.name d.scope s₁.heap.objs.size fa cd)) (execs d.body (envOfC d.name d.scope s₁.heap.objs.size fa cd))
        (fun f s' => f = .ret (.bool true) ∧ OldK s₁.heap s'.heap ∧ s'.os = s₁.os ∧ AllBare s'.gens) (fun _ _ => False) s) :
    WalkO q loose XP YP l.row.toRowW d [] (fun f vs => PySem.call f vs) := by
  intro w s₀ s₁ mg mb G Y fa o pm cd doc dV kV ho hd hcd hD hmg hg args vals as hpre hlay hrd hwl hlo
  obtain rfl : dV = .none := Dflts.none hD hdf
  obtain rfl : kV = .none := Dflts.noKw hD
  obtain ⟨a, vs, ns, rfl, rfl, hobj, hints, hlen⟩ := script_of hn hpre hwl
  refine enter_call ?_
  refine call_cells_ret (o := o) (by rw [depth_caller]; decide) ho (fd_plain hd) G.T.nolimit hcd (hbind pm cd doc (.ref a)) (fun y hy => ?_) (fun h₁ tk F X => ?_) hco hgen hk
  · obtain rfl : y = (x, Value.ref a) := List.mem_singleton.mp hy
    rcases hx with e | e
    · exact .inl e
    · exact .inr ⟨e, cellsFrom_some _ _ _ (.inl e)⟩
  · refine wpAny_mono (body w s₀ s₁ { s₁ with heap := h₁, toks := tk } mg mb fa o pm cd doc a vs ns G Y ho (fd_plain hd) hcd hmg hobj hints hlen hg rfl F X) (fun f s' hq => ?_) (fun _ _ hq => hq)
    obtain ⟨rfl, h2, h3, h4⟩ := hq
    exact ⟨.inl ⟨.bool true, .bool true, [], rfl, fun _ => rfl, .bool true, post_true l _, fun _ => ⟨List.Pairwise.nil, fun _ hm => (nomatch hm)⟩⟩, h2, h3, h4⟩
theorem attach_call {l : OpenLaw} {n : Nat} {q : Program} {loose : List Str} {XP : (Str → Option Value) → Heap → Prop} {YP : World → Heap → Prop} {d : DefRec}
    (hn : l.most = some n) (hdf : d.params.defaults = [])
    (call : ∀ (w : World) (s₀ s₁ : Shared) (mg mb : Str → Option Value) (fa : Addr) (o : Obj) (pm cd doc : Value) (a : Addr) (vs : List Value) (ns : List Int),
      Ground q loose [] XP w s₀ mg mb s₁.heap → YP w s₁.heap →
      s₁.heap.get? fa = some o → o.data = .func (docDef d.name d.params d.body d.scope pm cd doc) → s₁.heap.CodeRec cd d.name → mg d.name = some (.ref fa) →
      s₁.heap.get? a = some { cls := .type "list", data := .seq vs.toArray } → IntsAre vs ns → ns.length ≤ n → s₁.gens = #[] →
      codeAny (model l.prog w) callerA (.call (.ref fa) ⟨[.ref a], []⟩) (fun r s' => r = .ok (.ret (.bool true)) ∧ OldK s₁.heap s'.heap ∧ s'.os = s₁.os ∧ AllBare s'.gens) s₁) :
    WalkO q loose XP YP l.row.toRowW d [] (fun f vs => PySem.call f vs) := by
  intro w s₀ s₁ mg mb G Y fa o pm cd doc dV kV ho hd hcd hD hmg hg args vals as hpre hlay hrd hwl hlo
  obtain rfl : dV = .none := Dflts.none hD hdf
  obtain rfl : kV = .none := Dflts.noKw hD
  obtain ⟨a, vs, ns, rfl, rfl, hobj, hints, hlen⟩ := script_of hn hpre hwl
  refine enter_call (codeAny_mono (call w s₀ s₁ mg mb fa o pm cd doc a vs ns G Y ho (fd_plain hd) hcd hmg hobj hints hlen hg) fun r s' hq => ?_)
  obtain ⟨rfl, h2, h3, h4⟩ := hq
  exact ⟨.inl ⟨.bool true, .bool true, [], rfl, fun _ => rfl, .bool true, post_true l _, fun _ => ⟨List.Pairwise.nil, fun _ hm => (nomatch hm)⟩⟩, h2, h3, h4⟩
theorem attachN {l : OpenLaw} {n : Nat} {q : Program} {loose : List Str} {XP : (Str → Option Value) → Heap → Prop} {YP : World → Heap → Prop} {d : DefRec} {x : Str}
    (hn : l.most = some n) (hdf : d.params.defaults = [])
    (hbind : ∀ pm cd doc v : Value, bindArgs (docDef d.name d.params d.body d.scope pm cd doc) ⟨[v], []⟩ = pure [(x, v)])
    (hx : d.scope.names.lookup x = some .local ∨ d.scope.names.lookup x = some .cell)
    (hk : d.scope.kind = .function) (hco : d.scope.isCoroutine = false) (hgen : d.scope.isGenerator = false)
    (body : ∀ (w : World) (s₀ s₁ s : Shared) (mg mb : Str → Option Value) (fa : Addr) (o : Obj) (pm cd doc : Value) (a : Addr) (vs : List Value) (ns : List Int),
      Ground q loose [] XP w s₀ mg mb s₁.heap → YP w s₁.heap →
      s₁.heap.get? fa = some o → o.data = .func (docDef d.name d.params d.body d.scope pm cd doc) → s₁.heap.CodeRec cd d.name → mg d.name = some (.ref fa) →
      s₁.heap.get? a = some { cls := .type "list", data := .seq vs.toArray } → IntsAre vs ns → ns.length ≤ n →
      s.gens = #[] → s.os = s₁.os →
      Fr s₁.heap s₁.heap.objs.size s.heap (bindL (envOfC d.name d.scope s₁.heap.objs.size fa cd).kindOf [(x, .ref a)] fun _ => none) →
      Cl s₁.heap.objs.size (cellsFrom (s₁.heap.objs.size + 1) d.scope.names []) s.heap (bindC (envOfC d.name d.scope s₁.heap.objs.size fa cd).kindOf [(x, .ref a)] fun _ => none) →
      wpAny (model l.prog w) (callerA.deeper (envOfC d.name d.scope s₁.heap.objs.size fa cd)) (execs d.body (envOfC d.name d.scope s₁.heap.objs.size fa cd))
        (fun f s' => f = .ret (.bool true) ∧ (∀ b o, s₁.heap.get? b = some o → s'.heap.get? b = some o) ∧ s'.os = s₁.os ∧ s'.gens = #[]) (fun _ _ => False) s) :
    WalkN q loose XP YP l.row.toRowW d [] (fun f vs => PySem.call f vs) := by
  intro w s₀ s₁ mg mb G Y fa o pm cd doc dV kV ho hd hcd hD hmg hg args vals as hpre hlay hrd hwl hlo
  obtain rfl : dV = .none := Dflts.none hD hdf
  obtain rfl : kV = .none := Dflts.noKw hD
  obtain ⟨a, vs, ns, rfl, rfl, hobj, hints, hlen⟩ := script_of hn hpre hwl
  refine enter_callW ?_
  refine call_cells_ret (o := o) (by rw [depth_caller]; decide) ho (fd_plain hd) G.T.nolimit hcd (hbind pm cd doc (.ref a)) (fun y hy => ?_) (fun h₁ tk F X => ?_) hco hgen hk
  · obtain rfl : y = (x, Value.ref a) := List.mem_singleton.mp hy
    rcases hx with e | e
    · exact .inl e
    · exact .inr ⟨e, cellsFrom_some _ _ _ (.inl e)⟩
  · refine wpAny_mono (body w s₀ s₁ { s₁ with heap := h₁, toks := tk } mg mb fa o pm cd doc a vs ns G Y ho (fd_plain hd) hcd hmg hobj hints hlen hg rfl F X) (fun f s' hq => ?_) (fun _ _ hq => hq)
    obtain ⟨rfl, h2, h3, h4⟩ := hq
    exact ⟨.inl ⟨.bool true, .bool true, [], rfl, fun _ => rfl, .bool true, post_true l _, fun _ => ⟨List.Pairwise.nil, fun _ hm => (nomatch hm)⟩⟩, h2, h3, h4⟩
section
variable {prog : Program} {w : World} {A : Around} {E : Value → Shared → Prop} {s : Shared} {K : Frag}
theorem call_fn {R : Result → Shared → Prop} {name qual : Str} {params : Arguments} {body : List Stmt} {scope : Scope} {dV kV doc pm cdv ct oc : Value} {an od : Option Addr} {osl : Array (Option Value)} {f : Addr} {args : Args} {binds : List (Str × Value)}
    (X : K.In s.heap) (hlim : s.heap.NoLimit) (ho : K.lookup f = some ⟨oc, od, .func (fnOf name qual params body scope dV kV doc pm an cdv ct), osl⟩) (hcd : codeIn K cdv qual = true) (hroom : A.depth < recursionLimit)
    (hbind : BindsTo s (fnOf name qual params body scope dV kV doc pm an cdv ct) args binds)
    (hkind : (binds.all fun y => scope.names.lookup y.1 == some .local || scope.names.lookup y.1 == some .cell) = true)
    (h : ∀ s₁, InCallC s s.heap.objs.size (bindL (envOfC qual scope s.heap.objs.size f cdv).kindOf binds fun _ => none) (cellsFrom (s.heap.objs.size + 1) scope.names [])
        (bindC (envOfC qual scope s.heap.objs.size f cdv).kindOf binds fun _ => none) s₁ →
      wpAny (model prog w) (A.deeper (envOfC qual scope s.heap.objs.size f cdv)) (execs body (envOfC qual scope s.heap.objs.size f cdv))
        (fun fl s' => R (.ok (.ret (match fl with | .ret v => v | _ => .none))) s')
        (fun e s' => wpAny (model prog w) (A.deeper (envOfC qual scope s.heap.objs.size f cdv)) (leaving (envOfC qual scope s.heap.objs.size f cdv) e) (fun _ s'' => R (.error e) s'') (fun e' s'' => R (.error e') s'') s') s₁)
    (hco : scope.isCoroutine = false) (hgen : scope.isGenerator = false) (hk : scope.kind = .function) : codeAny (model prog w) A (.call (.ref f) args) R s := by
  refine codeAny_call_function hroom (X _ _ ho) rfl hco hgen rfl (codeRec_of X hcd) (hbind _ _ _ _ ?_)
  refine wpAny_newFunctionEnv_cells hk (kindsX hkind _) fun env he s₁ x => ?_
  subst he
  exact ⟨hlim.keeps x.toInCall.keep, codeAny_func (h s₁ x)⟩
theorem make_obj {R : Result → Shared → Prop} {C fI : Addr} {rest : List Value} {kw : List (Str × Value)}
    (X : K.In s.heap) (hm : makesIn K C = true) (hi : findIn K (.ref C) "__init__" = some (some (.ref fI))) (hf : isFn K (.ref fI) = true)
    (h : codeAny (model prog w) (A.under (.builtin "type.__call__" ⟨.ref C :: rest, kw⟩)) (.call (.ref fI) ⟨.ref (s.heap.objs.size + 1) :: rest, kw⟩) (InitBack (s.heap.objs.size + 1) R)
      { s with heap := (s.heap.push emptyDict).push (instObj C s.heap.objs.size) }) : codeAny (model prog w) A (.call (.ref C) ⟨rest, kw⟩) R s := by
  obtain ⟨hh, g, d, t, os⟩ := s
  exact make_core (makes_of X hm) (looks_findIn X hi) (fun self => bind_fn X self (beq_iff_eq.mp hf)) (.inl rfl) h
theorem get_field {x C : Addr} {ox : Obj} {es : List DictEntry} {n : Nat} {name : Str} {expr : Bool} {v : Value} {Q : Value → Shared → Prop}
    (X : K.In s.heap) (I : PySem.W.InstAt s.heap x ox C (some (dictOf es n))) (hg : plainGet K C name = true) (hh : hasDictIn K C = true) (ha : findIn K (.ref C) name = some none)
    (hl : getL name es = some (some v)) (hv : handedIn v = true) (h : Q v { s with toks := s.toks + 1 }) : wpAny (model prog w) A (getAttr (.ref x) name expr) Q E s :=
  get_value X I (plainGet_of hg).1 (findObj_own hh ha rfl hl) hv h
theorem get_method {x C f : Addr} {ox : Obj} {es : List DictEntry} {n : Nat} {name : Str} {pl : Sem Bool} {Q : Value × List Value → Shared → Prop}
    (X : K.In s.heap) (I : PySem.W.InstAt s.heap x ox C (some (dictOf es n))) (hg : plainGet K C name = true) (hf : findIn K (.ref C) name = some (some (.ref f))) (ht : isFn K (.ref f) = true)
    (hl : getL name es = some none) (h : Q (.ref f, [.ref x]) s) : wpAny (model prog w) A (getMethod (.ref x) name pl) Q E s :=
  method_fn X I (plainGet_of hg).1 (plainGet_of hg).2 hf (beq_iff_eq.mp ht) (by show (lookIn name (dictOf es n)).map _ = _; rw [lookIn_dict, hl]; rfl) h
def noObjs (h : Heap) : Heap := { h with objs := #[] }
theorem noObjs_get (h : Heap) (b : Addr) : (noObjs h).get? b = none := by
  cases e : (noObjs h).get? b with
  | none => rfl
  | some o => exact absurd (Heap.lt_size e) (Nat.not_lt_zero _)
def ledger (h : Heap) (L d : Addr) : List (Addr × Obj) := (List.range h.objs.size).filterMap fun a => if a = L ∨ a = d then none else (h.get? a).map fun o => (a, o)
theorem mem_ledger {h : Heap} {L d a : Addr} {o : Obj} : (a, o) ∈ ledger h L d ↔ a ≠ L ∧ a ≠ d ∧ h.get? a = some o := by
  unfold ledger
  rw [List.mem_filterMap]
  constructor
  · rintro ⟨b, _, e⟩
    split at e
    · cases e
    · rename_i hb
      obtain ⟨o', ho, e'⟩ := Option.map_eq_some_iff.mp e
      cases e'
      exact ⟨fun q => hb (.inl q), fun q => hb (.inr q), ho⟩
  · rintro ⟨n1, n2, ho⟩
    refine ⟨a, List.mem_range.mpr (Heap.lt_size ho), ?_⟩
    rw [if_neg (show ¬ (a = L ∨ a = d) from fun q => q.elim n1 n2), ho] <;> rfl
theorem news_ledger {h : Heap} {L d : Addr} {od : Obj} (hne : d ≠ L) (ho : h.get? d = some od) : News (noObjs h) L h ([] ++ (d, od) :: ledger h L d) := by
  rintro ⟨a, o⟩ hp
  rcases List.mem_cons.mp hp with e | hp
  · cases e
    exact ⟨ho, hne, noObjs_get _ _⟩
  · obtain ⟨n1, n2, e⟩ := mem_ledger.mp hp
    exact ⟨e, n1, noObjs_get _ _⟩
theorem fr_all {h : Heap} {L : Addr} {m : Str → Option Value} (n : h.Ns L m) : Fr (noObjs h) L h m :=
  ⟨n, fun b o e => (by rw [noObjs_get] at e; cases e), Nat.zero_le _⟩
theorem upd_ledger {h : Heap} {L d : Addr} {o o' : Obj} : Upd d o o' ((d, o) :: ledger h L d) ((d, o') :: ledger h L d) :=
  .head fun ⟨_, _⟩ hp => (mem_ledger.mp hp).2.1
theorem set_field {x C dx L : Addr} {ox : Obj} {m : Str → Option Value} {es es' : List DictEntry} {n n' : Nat} {name : Str} {v : Value} {Q : Unit → Shared → Prop}
    (X : K.In s.heap) (I : PySem.W.InstAt s.heap x ox C (some (dictOf es n))) (hd : ox.dict = some dx) (hL : s.heap.Ns L m) (hne : dx ≠ L)
    (hs : findIn K (.ref C) "__setattr__" = some (some (.builtin "object.__setattr__"))) (hp : plainOver K C = true) (ht : takerIn K C name = some none) (hh : hasDictIn K C = true) (hl : (getL name es).isSome = true)
    (e : (putL name (PyData.keyHash w.params name) (.str name (s.toks + 1)) v es, putN name es n) = (es', n')) (hz : es'.length ≤ 1000)
    (h : ∀ h' : Heap, h'.Ns L m → h'.get? dx = some (dictOf es' n') → (∀ b o, b ≠ dx → b ≠ L → s.heap.get? b = some o → h'.get? b = some o) → Q () { s with heap := h', toks := s.toks + 2 }) :
    wpAny (model prog w) A (setAttr (.ref x) name v) Q E s := by
  obtain ⟨e1, e2⟩ := Prod.mk.inj e
  have hdx : s.heap.get? dx = some (dictOf es n) := by
    have := I.dict
    rw [hd] at this
    exact this
  refine set_plain X I hs (osa_dict (s := { s with toks := s.toks + 1 }) (h₀ := noObjs s.heap) (L := L) (m := m) (od := dictOf es n) (od' := dictOf es' n') (es := es') (n := n') (pre := []) (post := ledger s.heap L dx)
    (fr_all hL) (news_ledger hne hdx) X I hd hp ht hh hl (fun _ q => nomatch q) (fun ⟨_, _⟩ q => (mem_ledger.mp q).2.1) (by rw [putName_dict, e1, e2]) rfl hz fun h' F' N' => ?_)
  exact h h' F'.ns (N'.get (List.Mem.head _)) fun b o n1 n2 ho => N'.get (List.Mem.tail _ (mem_ledger.mpr ⟨n2, n1, ho⟩))
end
end Att
namespace L2
open PySem PySem.Spec PyProof.Rows
theorem vals_ints : ∀ {vs : List Value} {ns : List Int}, IntsAre vs ns → Vals (ns.map V.int) vs
  | _, _, .nil => .nil
  | _, _, .cons n t h => .cons ⟨t, rfl⟩ (vals_ints h)
def Only (H : Hp) : Prop := ∀ b, H b = none ∨ ∃ o xs, H b = some (.frz o (.lst xs))
theorem law_call {P : Program} {w : World} {K : PySem.W.Frag} {mg mb : Str → Option Value} {CX : CXT} {k : Nat} {fa a : Addr} {fd : FuncData} {x : Str} {sp : Sp} {s₁ : Shared} {vs : List Value} {ns : List Int}
    (KX : K.In s₁.heap) (hns : s₁.heap.Ns mainGlobals mg) (hb : s₁.heap.Ns builtinsNs mb) (hbb : ∀ x : Str, x ≠ "__name__" → mb x = bootBuiltins x) (hlim : s₁.heap.NoLimit) (hg : s₁.gens = #[])
    (ha : s₁.heap.get? a = some { cls := .type "list", data := .seq vs.toArray }) (hi : IntsAre vs ns) (hl : ns.length ≤ sizeLine) (hr : Room k callerA)
    (F : ∀ base : Heap, K.In base → base.Ns mainGlobals mg → FnOk P w K mg base CX k fa fd [x] sp) (hbind : ∀ (s : Shared) (u : Value), BindsTo s fd ⟨[u], []⟩ [(x, u)])
    (hsp : ∀ H : Hp, Only H → SqL K H a (ns.map V.int) → sp [.ref a] H (fun v _ => v = .bl true) fun _ _ _ => False)
    (hCX : ∀ H e s', CX [] H s₁ (fun _ _ _ => False) e s' → False) :
    codeAny (model P w) callerA (.call (.ref fa) ⟨[.ref a], []⟩) (fun r s' => r = .ok (.ret (.bool true)) ∧ OldK s₁.heap s'.heap ∧ s'.os = s₁.os ∧ AllBare s'.gens) s₁ := by
  have rv := vals_ints hi
  have lenV := hi.length
  have core : ∀ H : Hp, Only H → SqL K H a (ns.map V.int) → HOk P w H s₁.heap → (∀ b, H b ≠ none → b = a) → (H a ≠ none → K.lookup a = none) →
      codeAny (model P w) callerA (.call (.ref fa) ⟨[.ref a], []⟩) (fun r s' => r = .ok (.ret (.bool true)) ∧ OldK s₁.heap s'.heap ∧ s'.os = s₁.os ∧ AllBare s'.gens) s₁ := by
    intro H hO hS hok hA hK
    have base_of : ∀ {b : Addr} {o : Obj}, s₁.heap.get? b = some o → H b = none → (hidT s₁.heap H).get? b = some o := fun e n => hidT_get e n
    have noA : ∀ {b : Addr} {o : Obj} {es : Array DictEntry} {ep : Nat}, s₁.heap.get? b = some o → o.data = .dict es ep → H b = none := fun {b o es ep} e d => by
      cases q : H b with
      | none => rfl
      | some u =>
        have e' : b = a := hA b (by rw [q]; simp)
        subst e'
        rw [ha] at e; cases e
        have d' : Data.seq vs.toArray _ = Data.dict es ep := d
        cases d'
    have nsK : ∀ {b : Addr} {m : Str → Option Value}, s₁.heap.Ns b m → (hidT s₁.heap H).Ns b m := fun {b m} ⟨o, es, ep, e, d, r⟩ => ⟨o, es, ep, base_of e (noA e d), d, r⟩
    have hKb : K.In (hidT s₁.heap H) := fun b o e => base_of (KX b o e) (by
      cases q : H b with
      | none => rfl
      | some u =>
        have e' : b = a := hA b (by rw [q]; simp)
        subst e'
        rw [hK (by rw [q]; simp)] at e; cases e)
    have hM : Mod K mg (hidT s₁.heap H) := ⟨hKb, nsK hns, ⟨mb, nsK hb, hbb⟩, let ⟨mc, h1, h2⟩ := hlim; ⟨mc, nsK h1, h2⟩⟩
    have e0 : Env0 P w K mg (hidT s₁.heap H) callerA [] s₁ H := ⟨rfl, hM, fun b o e => of_hidT e, Nat.le_of_eq (hidT_size _ _), trivial, fun b hb => absurd (show b ∈ ([] : List Addr) from hb) (by simp), hok, .of_eq hg, .inl rfl⟩
    refine codeAny_mono ((F _ hKb (nsK hns)).run callerA [] s₁ H ⟨[.ref a], []⟩ [.ref a] [.ref a] _ _ hr e0 (hbind s₁ (.ref a)) (.cons rfl .nil) (hsp H hO hS)) fun r s' h => ?_
    cases r with
    | error e => exact (hCX H e s' h).elim
    | ok fl =>
      cases fl with
      | next => exact False.elim h
      | brk => exact False.elim h
      | cont => exact False.elim h
      | ret u =>
        obtain ⟨v, H', os, bare, un, hok', r', q⟩ := h
        have q' : v = .bl true := q
        subst q'
        obtain rfl : u = Value.bool true := r'
        refine ⟨rfl, OldK.of_keep fun b o e => ?_, os, bare⟩
        cases q : H b with
        | none => exact un.keep b o e q (by intro z; exact absurd (show b ∈ ([] : List Addr) from z) (by simp)) (by simp)
        | some u =>
          rcases hO b with z | ⟨ob, xs, z⟩
          · rw [q] at z; cases z
          · have z2 := un.frzs b ob _ z
            obtain ⟨e1, _⟩ := hok b _ z
            obtain ⟨e2, _⟩ := hok' b _ z2
            rw [e] at e1; cases e1
            exact e2
  cases hk : K.lookup a with
  | some o =>
    have e := KX a o hk
    rw [ha] at e
    cases e
    refine core (fun _ => none) (fun _ => .inl rfl) (.inr ⟨_, vs.toArray, _, hk, rfl, rfl, rfl, by rw [List.size_toArray, lenV]; exact hl, by simpa using rv⟩) (fun b u z => by have z' : (none : Option HO) = some u := z; cases z') (fun b z => absurd rfl z) fun z => absurd rfl z
  | none =>
    refine core (fun b => if b = a then some (.frz { cls := .type "list", data := .seq vs.toArray } (.lst (ns.map V.int))) else none) (fun b => ?_) (.inl (.inr ⟨{ cls := .type "list", data := .seq vs.toArray }, if_pos rfl⟩)) (fun b u z => ?_) (fun b z => ?_) fun _ => hk
    · by_cases hb : b = a
      · exact .inr ⟨_, _, if_pos hb⟩
      · exact .inl (if_neg hb)
    · by_cases hb : b = a
      · have z' := (if_pos hb).symm.trans z
        cases z'
        subst hb
        exact ⟨ha, by rw [List.length_map]; exact hl, vs, _, rv, ha⟩
      · have z' := (if_neg hb).symm.trans z
        cases z'
    · by_cases hb : b = a
      · exact hb
      · exact absurd (if_neg hb) z
end L2
namespace L2
open PySem PySem.Spec PyProof.Rows
abbrev KOf {K : PySem.W.Frag} {h : Heap} (_ : K.In h) : PySem.W.Frag := K
theorem walk_of {l : PySem.W.OpenLaw} {n k : Nat} {q : Program} {loose : List Str} {XP : (Str → Option Value) → Heap → Prop} {YP : World → Heap → Prop} {d : DefRec} {K : Params → PySem.W.Frag} {CX : World → CXT} {sp : World → Sp} {x : Str}
    (hn : l.most = some n) (hn2 : n ≤ sizeLine) (hdf : d.params.defaults = []) (hr : Room k callerA)
    (hY : ∀ (w : World) (h : Heap), YP w h → (K w.params).In h)
    (F : ∀ (w : World) (mg : Str → Option Value) (fa : Addr) (h : Heap), (K w.params).In h → h.Ns mainGlobals mg → mg d.name = some (.ref fa) →
      ∃ fd : FuncData, (∀ (s : Shared) (u : Value), BindsTo s fd ⟨[u], []⟩ [(x, u)]) ∧
        ∀ base : Heap, (K w.params).In base → base.Ns mainGlobals mg → FnOk l.prog w (K w.params) mg base (CX w) k fa fd [x] (sp w))
    (hsp : ∀ (w : World) (H : Hp) (a : Addr) (ns : List Int), ns.length ≤ n → Only H → SqL (K w.params) H a (ns.map V.int) → sp w [.ref a] H (fun v _ => v = .bl true) fun _ _ _ => False)
    (hCX : ∀ (w : World) (H : Hp) (s : Shared) (e : Value) (s' : Shared), CX w [] H s (fun _ _ _ => False) e s' → False) :
    PySem.W.WalkO q loose XP YP l.row.toRowW d [] (fun f vs => PySem.call f vs) := by
  refine Att.attach_call hn hdf fun w s₀ s₁ mg mb fa o pm cd doc a vs ns G Y ho hd hcd hmg hobj hints hlen hg => ?_
  have KX := hY w _ Y
  obtain ⟨fd, hb, hF⟩ := F w mg fa _ KX G.T.g hmg
  exact law_call KX G.T.g G.T.b G.T.builtins G.T.nolimit hg hobj hints (Nat.le_trans hlen hn2) hr hF hb (fun H hO hS => hsp w H a ns hlen hO hS) fun H e s' => hCX w H s₁ e s'
theorem walk_ofK {l : PySem.W.OpenLaw} {n k : Nat} {q : Program} {loose : List Str} {XP : (Str → Option Value) → Heap → Prop} {YP : World → Heap → Prop} {d : DefRec} {K : Params → PySem.W.Frag} {CX : CXT} {sp : PySem.W.Frag → Sp} {x : Str}
    (hn : l.most = some n) (hn2 : n ≤ sizeLine) (hdf : d.params.defaults = []) (hr : Room k callerA)
    (hY : ∀ (w : World) (h : Heap), YP w h → (K w.params).In h)
    (F : ∀ (w : World) (mg : Str → Option Value) (fa : Addr) (h : Heap), (K w.params).In h → h.Ns mainGlobals mg → mg d.name = some (.ref fa) →
      ∃ fd : FuncData, (∀ (s : Shared) (u : Value), BindsTo s fd ⟨[u], []⟩ [(x, u)]) ∧
        ∀ base : Heap, (K w.params).In base → base.Ns mainGlobals mg → FnOk l.prog w (K w.params) mg base CX k fa fd [x] (sp (K w.params)))
    (hsp : ∀ (K : PySem.W.Frag) (H : Hp) (a : Addr) (ns : List Int), ns.length ≤ n → Only H → SqL K H a (ns.map V.int) → sp K [.ref a] H (fun v _ => v = .bl true) fun _ _ _ => False)
    (hCX : ∀ (H : Hp) (s : Shared) (e : Value) (s' : Shared), CX [] H s (fun _ _ _ => False) e s' → False) :
    PySem.W.WalkO q loose XP YP l.row.toRowW d [] (fun f vs => PySem.call f vs) :=
  walk_of (K := K) (CX := fun _ => CX) (sp := fun w => sp (K w.params)) hn hn2 hdf hr hY F (fun w H a ns h1 h2 h3 => hsp (K w.params) H a ns h1 h2 h3) fun _ H s e s' => hCX H s e s'
end L2
namespace L2
open PySem PySem.Spec PyProof.Rows
def inClass (s : Stmt) (j : Nat) : Stmt := match s with
  | .ClassDef _ _ _ body _ _ _ _ _ _ _ => body.getD j (.Pass ⟨0, 0, 0, 0⟩)
  | _ => .Pass ⟨0, 0, 0, 0⟩
def defArgs (s : Stmt) : Arguments := match s with
  | .FunctionDef _ a _ _ _ _ _ _ _ _ => a
  | _ => { posonlyargs := [], args := [], vararg := none, kwonlyargs := [], kw_defaults := [], kwarg := none, defaults := [] }
def defBody (s : Stmt) : List Stmt := match s with
  | .FunctionDef _ _ b _ _ _ _ _ _ _ => b
  | _ => []
def defScope (s : Stmt) : Scope := match s with
  | .FunctionDef _ _ _ _ _ _ sc _ _ _ => sc
  | _ => { kind := .function, names := [], isGenerator := false, isCoroutine := false }
abbrev CX0 : CXT := fun _ _ _ _ _ _ => False
abbrev E0 : XK := fun _ _ _ => False
theorem pass0 {X : Cx} : Passes CX0 X E0 := fun _ _ _ _ _ _ _ h => h.elim
structure Fun (K : PySem.W.Frag) (x qual : Str) (st : Stmt) (f : Addr) (fd : FuncData) : Prop where
  ex : ∃ (oc : Value) (od : Option Addr) (kV doc pm : Value) (an : Option Addr) (cdv ct : Value) (osl : Array (Option Value)),
    fd = PySem.W.fnOf x qual (defArgs st) (defBody st) (defScope st) .none kV doc pm an cdv ct ∧ K.lookup f = some ⟨oc, od, .func fd, osl⟩ ∧ PySem.W.codeIn K cdv qual = true
  kp : PySem.W.keepIn K (.ref f) = true
section
variable {P : Program} {w : World} {K : PySem.W.Frag} {mg : Str → Option Value} {base : Heap}
theorem Fun.ok {x qual : Str} {st : Stmt} {f : Addr} {fd : FuncData} {N ps : List Str} {k : Nat} {sp : Sp} (F : Fun K x qual st f fd) (S : FnScope N ps (defScope st)) (len : ∀ vs H Q E, sp vs H Q E → vs.length = ps.length)
    (hbody : ∀ (cdv : Value) (A : Around) (outer : List Env) (s : Shared) (H : Hp) (vs : List V) (Q : VK) (E : XK), Room k (A.deeper (envOfC qual (defScope st) s.heap.objs.size f cdv)) → sp vs H Q E →
      ∃ t, PSs (cxOf CX0 P w K mg base N qual (defScope st) f cdv A outer s H E).nox (defBody st) t ∧ t { nx := fun _ H' => Q .non H', rt := Q } (start N vs) H) : FnOk P w K mg base CX0 (k + 1) f fd ps sp := by
  obtain ⟨oc, od, kV, doc, pm, an, cdv, ct, osl, rfl, lk, hcd⟩ := F.ex
  refine fn_of lk hcd S len fun A outer s H vs Q E hr hsp => ?_
  obtain ⟨t, h, q⟩ := hbody cdv A outer s H vs Q E hr hsp
  exact ⟨t, h.nox, q⟩
theorem Fun.binds {x qual : Str} {st : Stmt} {f : Addr} {fd : FuncData} {ps : List Str} (F : Fun K x qual st f fd)
    (h : ∀ (kV doc pm : Value) (an : Option Addr) (cdv ct : Value) (us : List Value), us.length = ps.length → bindArgs (PySem.W.fnOf x qual (defArgs st) (defBody st) (defScope st) .none kV doc pm an cdv ct) ⟨us, []⟩ = pure (ps.zip us)) : Binds K fd ps [] := by
  obtain ⟨oc, od, kV, doc, pm, an, cdv, ct, osl, rfl, lk, hcd⟩ := F.ex
  exact .all (h kV doc pm an cdv ct)
theorem fun_mk {x qual : Str} {st : Stmt} {f : Addr} {oc : Value} {od an : Option Addr} {osl : Array (Option Value)} {kV doc pm cdv ct : Value} (l : K.lookup f = some ⟨oc, od, .func (PySem.W.fnOf x qual (defArgs st) (defBody st) (defScope st) .none kV doc pm an cdv ct), osl⟩)
    (c : PySem.W.codeIn K cdv qual = true) (k : PySem.W.keepIn K (.ref f) = true) : Fun K x qual st f (PySem.W.fnOf x qual (defArgs st) (defBody st) (defScope st) .none kV doc pm an cdv ct) := ⟨⟨oc, od, kV, doc, pm, an, cdv, ct, osl, rfl, l, c⟩, k⟩
end
theorem hu_of {A : Around} {k : Nat} (hr : Room k A) : A.units + 1 < cLine := Nat.lt_of_le_of_lt (Nat.add_le_add_left (by decide : 1 ≤ 64) _) hr.units
theorem small1000 {n : Nat} (h : n ≤ 1000) : n < sizeLine := Nat.lt_of_le_of_lt h (by decide)
section
variable {X : Cx}
theorem pv (i : Nat) {x : Str} {pos : Pos} (hN : X.N[i]? = some x := by rfl) (hv : Vis X.env.scope x := by first | exact Or.inl rfl | exact Or.inr (Or.inl rfl) | exact Or.inr (Or.inr rfl)) (hd : (x == ("__debug__" : Str)) = false := by decide)
    (hcd : (x == ("__classdict__" : Str)) = false := by decide) : PE X (.Name x pos) (tVar i) := pe_var hN hv hd hcd
end
theorem iteF {A B : Prop} (h : B) : if false = true then A else B := by
  rw [if_neg Bool.false_ne_true]
  exact h
theorem iteT {A B : Prop} (h : A) : if true = true then A else B := by
  rw [if_pos rfl]
  exact h
theorem ite2 {c A B : Prop} [Decidable c] (h1 : c → A) (h2 : ¬ c → B) : if c then A else B := by
  by_cases h : c
  · rw [if_pos h]
    exact h1 h
  · rw [if_neg h]
    exact h2 h
theorem iteNS {c A B : Prop} [Decidable c] (hc : c) (h : B) : if (!decide c) = true then A else B := by
  rw [decide_eq_true hc]
  exact iteF h
def Same (H H' : Hp) : Prop := ∀ b o, H b = some o → H' b = some o
theorem Same.refl (H : Hp) : Same H H := fun _ _ h => h
theorem Same.trans {H H1 H2 : Hp} (a : Same H H1) (b : Same H1 H2) : Same H H2 := fun c o h => b c o (a c o h)
theorem Same.free {H H' : Hp} (e : Same H H') {l : Addr} (h : H' l = Option.none) : H l = Option.none := by
  cases q : H l with
  | none => rfl
  | some o =>
    rw [e l o q] at h
    cases h
theorem Same.seq {K : PySem.W.Frag} {H H' : Hp} {a : Addr} {xs : List V} (e : Same H H') (h : SqL K H a xs) : SqL K H' a xs := by
  rcases h with (h | ⟨o, h⟩) | h
  · exact .inl (.inl (e _ _ h))
  · exact .inl (.inr ⟨o, e _ _ h⟩)
  · exact .inr h
end L2
set_option Elab.async false
set_option linter.all false
set_option maxRecDepth 100000
namespace L2
open PySem PySem.Spec PyProof.Rows
theorem ObjOk.there {P : Program} {w : World} {H : Hp} {h : Heap} {a : Addr} {o : HO} (x : ObjOk P w H h a o) : ∃ u, h.get? a = some u := by
  cases o with
  | lst xs => obtain ⟨_, _, _, _, e⟩ := x; exact ⟨_, e⟩
  | tup xs => obtain ⟨_, _, _, ob, e, _⟩ := x; exact ⟨_, e⟩
  | dK kvs => obtain ⟨_, _, _, _, ob, _, _, e, _⟩ := x; exact ⟨_, e⟩
  | dT kvs => obtain ⟨_, _, _, _, ob, _, _, e, _⟩ := x; exact ⟨_, e⟩
  | set S n => obtain ⟨ob, _, _, _, e, _⟩ := x; exact ⟨_, e⟩
  | ins C dx fs => obtain ⟨_, _, _, e, _⟩ := x; exact ⟨_, e⟩
  | own y => exact x
  | xd fs => obtain ⟨_, ⟨_, _, _, e, _⟩, _⟩ := x; exact ⟨_, e⟩
  | rng lo hi => obtain ⟨_, _, _, e⟩ := x; exact ⟨_, e⟩
  | frz ob u => obtain ⟨e, _⟩ := x; exact ⟨_, e⟩
  | tbl ps => exact ⟨_, (show h.get? a = some _ from x)⟩
  | met f y => exact ⟨_, (show h.get? a = some _ from x)⟩
  | ext φ => obtain ⟨_, e, _⟩ := x; exact e
theorem HOk.free_of {P : Program} {w : World} {H : Hp} {h : Heap} {a : Addr} (x : HOk P w H h) (e : h.get? a = none) : H a = none := by
  cases q : H a with
  | none => rfl
  | some o => obtain ⟨u, z⟩ := (x a o q).there; rw [e] at z; cases z
structure Flies (h0 h : Heap) (H : Hp) (e C : Addr) : Prop where
  ex : ∃ oe vs T oT ts, ∃ a0 : Value × Value, h.get? e = some oe ∧ oe.cls = .ref C ∧ vs[0]? = some a0.1 ∧ oe.data = .fields vs ∧ vs[1]? = some (.ref T) ∧ T ≠ e ∧ h.get? T = some oT ∧ oT.data = .fields ts ∧ ts[3]? = some .none ∧ h0.get? T = none ∧ H T = none ∧ vs[2]? = some a0.2 ∧ CxO H a0.2
  new : h0.get? e = none
  free : H e = none
def XC (P : Program) (w : World) : CXT := fun outer H s E e s' => ∃ (ea C : Addr) (H' : Hp), e = .ref ea ∧ s'.os = s.os ∧ AllBare s'.gens ∧ Un (frs outer) [] H H' s.heap s'.heap ∧ HOk P w H' s'.heap ∧ Flies s.heap s'.heap H' ea C ∧ E (.ref C) none H'
theorem Un.late {fs ex ch : List Addr} {H H' : Hp} {h h1 h2 : Heap} (u : Un fs ex H H' h h1) (fresh : ∀ b ∈ ch, h.get? b = none)
    (k : ∀ b o, b ∉ fs → b ∉ ch → h1.get? b = some o → h2.get? b = some o) (ks : ∀ b o, b ∈ fs → h1.get? b = some o → ∃ sl, h2.get? b = some { o with slots := sl }) : Un fs ex H H' h h2 := by
  have nch : ∀ b o, h.get? b = some o → b ∉ ch := fun b o q z => by have := fresh b z; rw [q] at this; cases this
  refine ⟨fun b o q n hb hx => k b o hb (nch b o q) (u.keep b o q n hb hx), fun b o q n hb hx => ?_, u.free, fun b o q hx => ?_, u.tups, u.frzs, u.tbls⟩
  · obtain ⟨sl, e1⟩ := u.slot b o q n hb hx
    obtain ⟨sl', e2⟩ := ks b _ hb e1
    exact ⟨sl', e2⟩
  · obtain ⟨o', e1⟩ := u.there b o q hx
    by_cases hb : b ∈ fs
    · obtain ⟨sl, e2⟩ := ks b o' hb e1
      exact ⟨_, e2⟩
    · exact ⟨o', k b o' hb (nch b o q) e1⟩
section
variable {X : Cx} {pins : List (Addr × Obj)} {σ : St} {H H' : Hp} {s s' : Shared} {ea C : Addr} {a0 : Value × Value} {h' : Heap} {ch : List Addr}
theorem fly_after (I : Inv X pins σ H s) (hst : X.stack = X.env :: X.outer) (os : s'.os = s.os) (bare : AllBare s'.gens) (un : Un (frs X.stack) [] H H' s.heap s'.heap) (hok : HOk X.prog X.w H' s'.heap)
    (hch : ∀ b ∈ ch, s.heap.get? b = none ∧ H' b = none) (hea : ea ∈ ch) (hcx : CxO H' a0.2) (L : StepC (PySem.W.hideAll s'.heap (ch ++ frs X.stack)) (X.env :: X.outer) ea (.ref C) a0 .none s'.heap h') :
    Inv X pins σ H' { s' with heap := h' } ∧ Flies s.heap h' H' ea C := by
  have I1 : Inv X pins σ H' s' := I.call' (ch := []) os un hok bare (fun b z => absurd z (by simp))
  obtain ⟨st, ff, tr, up⟩ := L
  have FF : s'.heap.FunFrames X.base X.stack := I1.stack
  have keep : ∀ b o, b ∉ frs X.stack → b ∉ ch → s'.heap.get? b = some o → h'.get? b = some o := fun b o hb hc e => st b o (PySem.W.hideAll_get _ e fun z => (List.mem_append.mp z).elim hc hb)
  have slots : ∀ b o, b ∈ frs X.stack → s'.heap.get? b = some o → ∃ sl, h'.get? b = some { o with slots := sl } := fun b o hb e => by
    obtain ⟨_, o', ho', hd⟩ := FF.mem hb
    rw [e] at ho'; cases ho'
    exact up b o e hd
  have un2 : Un (frs X.stack) [] H H' s.heap h' := un.late (ch := ch) (fun b hb => (hch b hb).1) keep slots
  have free : ∀ b, H' b ≠ none → b ∉ frs X.stack ∧ b ∉ ch := fun b n => ⟨fun z => n (I1.stkFree b z), fun z => n (hch b z).2⟩
  have hok2 : HOk X.prog X.w H' h' := fun b o e => (hok b o e).stay (fun c u hc q => by
    have n : H' c ≠ none := by
      rcases hc with z | z
      · rw [z, e]; simp
      · rw [z]; simp
    exact keep c u (free c n).1 (free c n).2 q) (fun _ q => q) fun _ _ q => q
  refine ⟨I.call' (s' := { s' with heap := h' }) (ch := []) os un2 hok2 bare (fun b z => absurd z (by simp)), ⟨?_, (hch ea hea).1, (hch ea hea).2⟩⟩
  obtain ⟨oe, vs, T, oT, ts, e1, ⟨e2, e3, c3⟩, e4, e5, e6, e7, e8, e9, e10⟩ := tr
  have hT : s.heap.get? T = none ∧ H' T = none := by
    cases q : s'.heap.get? T with
    | none =>
      refine ⟨?_, hok.free_of q⟩
      cases q2 : s.heap.get? T with
      | none => rfl
      | some o => obtain ⟨o', z⟩ := un.there T o q2 (by simp); rw [q] at z; cases z
    | some o =>
      by_cases hc : T ∈ ch
      · exact hch T hc
      · by_cases hf : T ∈ frs X.stack
        · have hf2 : T ∈ frs (X.env :: X.outer) := hst ▸ hf
          obtain ⟨_, o', ho', hd⟩ := ff.mem hf2
          rw [e8] at ho'; cases ho'
          exact absurd e9 (hd ts)
        · rw [PySem.W.hideAll_get _ q fun z => (List.mem_append.mp z).elim hc hf] at e6
          cases e6
  exact ⟨oe, vs, T, oT, ts, a0, e1, e2, e3, e4, e5, e7, e8, e9, e10, hT.1, hT.2, c3, hcx⟩
theorem frames_hid (I : Inv X pins σ H' s') (hst : X.stack = X.env :: X.outer) (ch : List Addr) : s'.heap.FunFrames (PySem.W.hideAll s'.heap (ch ++ frs X.stack)) (X.env :: X.outer) := by
  have FF : s'.heap.FunFrames X.base X.stack := I.stack
  rw [← hst]
  exact PySem.W.funFrames_hide FF fun env he a hf => List.mem_append_right _ (List.mem_filterMap.mpr ⟨env, he, hf⟩)
theorem leave_on (I : Inv X pins σ H s) (hst : X.stack = X.env :: X.outer) (hf : X.env.frame = some X.env.locals) (os : s'.os = s.os) (bare : AllBare s'.gens) (un : Un (frs X.stack) [] H H' s.heap s'.heap) (hok : HOk X.prog X.w H' s'.heap)
    (fl : Flies s.heap s'.heap H' ea C) {M : Model} {E : Value → Shared → Prop} {Q : Unit → Shared → Prop} (h : ∀ h', Inv X pins σ H' { s' with heap := h' } → Flies s.heap h' H' ea C → Q () { s' with heap := h' }) :
    wpAny M X.A (leaving X.env (.ref ea)) Q E s' := by
  have I1 : Inv X pins σ H' s' := I.call' (ch := []) os un hok bare (fun b z => absurd z (by simp))
  obtain ⟨oe, vs, T, oT, ts, a0, e1, e2, e3, e4, e5, e7, e8, e9, e10, e11, e12, c3, cx⟩ := fl.ex
  have hfr : X.A.frames = some (X.env :: X.outer) := by rw [← hst]; exact I.ok.frames
  refine leave_next (base := PySem.W.hideAll s'.heap ([ea, T] ++ frs X.stack)) (cls := .ref C) (a0 := a0) hfr (frames_hid I1 hst [ea, T]) hf
    ⟨oe, vs, T, oT, ts, e1, ⟨e2, e3, c3⟩, e4, e5, PySem.W.hideAll_none _ (by simp), e7, e8, e9, e10⟩ (fun b o q => PySem.W.of_hideAll _ q) (PySem.W.hideAll_none _ (by simp)) fun h' L => ?_
  obtain ⟨J, F⟩ := fly_after (ch := [ea, T]) I hst os bare un hok (fun b hb => by
    rcases List.mem_cons.mp hb with rfl | hb
    · exact ⟨fl.new, fl.free⟩
    · obtain rfl : b = T := by simpa using hb
      exact ⟨e11, e12⟩) (by simp) cx L
  exact h h' J F
theorem leave_made (I : Inv X pins σ H s) (hst : X.stack = X.env :: X.outer) (hf : X.env.frame = some X.env.locals) {h1 : Heap} {args : List Value} (hm : Heap.MadeExcOf s.heap h1 ea (.ref C) args)
    {M : Model} {E : Value → Shared → Prop} {Q : Unit → Shared → Prop} (h : ∀ h', Inv X pins σ H { s with heap := h' } → Flies s.heap h' H ea C → Q () { s with heap := h' }) :
    wpAny M X.A (leaving X.env (.ref ea)) Q E { s with heap := h1 } := by
  have I1 : Inv X pins σ H { s with heap := h1 } := I.kept (t' := s.toks) hm.keeps
  obtain ⟨t, e1, e2, e3⟩ := hm.there
  have hfr : X.A.frames = some (X.env :: X.outer) := by rw [← hst]; exact I.ok.frames
  refine leave_first (s := { s with heap := h1 }) (base := PySem.W.hideAll h1 ([ea] ++ frs X.stack)) (a0 := (.ref t, .none)) hfr (frames_hid I1 hst [ea]) hf e1 (fun b o q => PySem.W.of_hideAll _ q)
    (PySem.W.hideAll_none _ (by simp)) rfl rfl rfl rfl fun h' L => ?_
  obtain ⟨J, F⟩ := fly_after (ch := [ea]) (s' := { s with heap := h1 }) I hst rfl I.bare (Un.kept hm.keeps) I1.hok (fun b hb => by
    obtain rfl : b = ea := by simpa using hb
    exact ⟨hm.new, I.hok.free_of hm.new⟩) (by simp) .nil L
  exact h h' J F
end
def Throws (X : Cx) (E : XK) : Prop := ∀ (pins : List (Addr × Obj)) (σ : St) (H : Hp) (s : Shared) (ea C : Addr) (h' : Heap) (args : List Value), Inv X pins σ H s → Heap.MadeExcOf s.heap h' ea (.ref C) args → E (.ref C) none H → X.xe (.ref ea) { s with heap := h' }
section
variable {P : Program} {w : World} {K : PySem.W.Frag} {mg : Str → Option Value} {base : Heap} {N ps : List Str} {qual : Str} {scope : Scope} {f : Addr} {cd : Value} {A : Around} {outer : List Env} {s : Shared} {H : Hp} {E : XK}
abbrev cxE (P : Program) (w : World) (K : PySem.W.Frag) (mg : Str → Option Value) (base : Heap) (N : List Str) (qual : Str) (scope : Scope) (f : Addr) (cd : Value) (A : Around) (outer : List Env) (s : Shared) (H : Hp) (E : XK) (c : Bool := true) : Cx :=
  cxOf (XC P w) P w K mg base N qual scope f cd A outer s H E c
theorem fresh_start {c : Bool} {pins : List (Addr × Obj)} {σ : St} {H1 H' : Hp} {s1 : Shared} {h' : Heap} {ea C : Addr} (I : Inv (cxE P w K mg base N qual scope f cd A outer s H E c) pins σ H1 s1) (F : Flies s1.heap h' H' ea C) : Flies s.heap h' H' ea C := by
  have z : ∀ b, s1.heap.get? b = none → s.heap.get? b = none := fun b q => by
    cases q2 : s.heap.get? b with
    | none => rfl
    | some o => obtain ⟨o', e⟩ := I.base.there b o q2 (by simp [cxOf]); rw [q] at e; cases e
  obtain ⟨oe, vs, T, oT, ts, a0, e1, e2, e3, e4, e5, e7, e8, e9, e10, e11, e12, c3, cx⟩ := F.ex
  exact ⟨⟨oe, vs, T, oT, ts, a0, e1, e2, e3, e4, e5, e7, e8, e9, e10, z _ e11, e12, c3, cx⟩, z _ F.new, F.free⟩
theorem passes_of {c : Bool} : Passes (XC P w) (cxE P w K mg base N qual scope f cd A outer s H E c) E := by
  intro pins σ H1 s1 e s' I h
  obtain ⟨ea, C', H', rfl, os, bare, un, hok, fl, q⟩ := h
  refine leave_on I rfl rfl os bare un hok fl fun h' J F => ?_
  exact ⟨ea, C', H', rfl, J.os, J.bare, J.base, J.hok, fresh_start I F, q⟩
theorem throws_of {c : Bool} : Throws (cxE P w K mg base N qual scope f cd A outer s H E c) E := by
  intro pins σ H1 s1 ea C h1 args I hm q
  refine leave_made I rfl rfl hm fun h' J F => ?_
  exact ⟨ea, C, H1, rfl, J.os, J.bare, J.base, J.hok, fresh_start I F, q⟩
theorem owns_of {c : Bool} : PassesOwn (model P w) (cxE P w K mg base N qual scope f cd A outer s H E c).A (cxE P w K mg base N qual scope f cd A outer s H E c).env (cxE P w K mg base N qual scope f cd A outer s H E c).xe := PassesOwn.leaving
theorem Fun.okX {x : Str} {st : Stmt} {fd : FuncData} {k : Nat} {sp : Sp} {c : Bool} (F : Fun K x qual st f fd) (S : FnScope N ps (defScope st)) (len : ∀ vs H Q E, sp vs H Q E → vs.length = ps.length)
    (hbody : ∀ (cdv : Value) (A : Around) (outer : List Env) (s : Shared) (H : Hp) (vs : List V) (Q : VK) (E : XK), RoomC c k (A.deeper (envOfC qual (defScope st) s.heap.objs.size f cdv)) → sp vs H Q E →
      ∃ t, PSs (cxE P w K mg base N qual (defScope st) f cdv A outer s H E c) (defBody st) t ∧ t { nx := fun _ H' => Q .non H', rt := Q } (start N vs) H) : FnOk P w K mg base (XC P w) (k + 1) f fd ps sp c := by
  obtain ⟨oc, od, kV, doc, pm, an, cdv, ct, osl, rfl, lk, hcd⟩ := F.ex
  exact fn_of lk hcd S len fun A outer s H vs Q E hr hsp => hbody cdv A outer s H vs Q E hr hsp
end
theorem exc_cls {K : PySem.W.Frag} {h : Heap} {C : Addr} {bmB : List Value} {newId : String} (X : K.In h) (q : PySem.W.excIn K C bmB newId = true) :
    ∃ nm qn N bs bm hdct sn sub ab col dd k0 k1 k2 k3 k5 mN, h.get? C = some (excClassObj nm qn C N bs bm hdct sn sub ab col dd k0 k1 k2 k3 k5 newId) ∧ h.Ns N mN ∧ mN "__init__" = none ∧ OwnTail h bmB bm := by
  unfold PySem.W.excIn at q
  split at q
  · rename_i dd cd sl ho
    split at q
    · rename_i C' bm k0 k1 k2 k3 n k5 hm hs
      simp only [Bool.and_eq_true, beq_iff_eq, Bool.not_eq_true'] at q
      obtain ⟨⟨⟨⟨⟨e1, e2⟩, hdel⟩, ht⟩, hok⟩, hni⟩ := q
      subst e1 e2
      obtain ⟨nm, bs, mro, ns, qn, hd, sn, sub, ab, col, del⟩ := cd
      dsimp only at hm hdel hok hni
      subst hm hdel
      obtain ⟨l⟩ := sl
      have hs' : l = [k0, k1, k2, k3, some (.builtin n), k5] := hs
      subst hs'
      exact ⟨nm, qn, ns, bs, bm, hd, sn, sub, ab, col, dd, k0, k1, k2, k3, k5, _, X _ _ ho, .of_isNs (PySem.W.isNs_of_in X hok), PySem.W.nsMap_none_of_in X hok hni, PySem.W.tail_of_in X ht⟩
    · cases q
  · cases q
abbrev bmV : List Value := [.type "ValueError", .type "Exception", .type "BaseException", .type "object"]
structure Err (K : PySem.W.Frag) (mg : Str → Option Value) (x : Str) (C : Addr) : Prop where
  mg : mg x = some (.ref C)
  ex : PySem.W.excIn K C bmV "ValueError.__new__" = true
def tRaise (C : Addr) (ta : TA) (E : XK) : TS := fun _ σ H => ta σ H fun vs H1 => vs.length ≤ sizeLine ∧ E (.ref C) none H1
theorem ps_raise {X : Cx} {E : XK} {x : Str} {C : Addr} {e : Expr} {es : List Expr} {ta : TA} {np cpos pos : Pos} (hT : Throws X E) (hc : X.calm = true) (R : Err X.K X.mg x C) (hg : Gl X x) (ha : PA X (e :: es) ta)
    (hd : (x == ("__debug__" : Str)) = false := by decide) (he : starEach (e :: es) X.env = (false, eval e X.env) :: starEach es X.env := by rfl) (hpl : (backTo cpos (starEach es X.env)).any (·.1) = false := by rfl) :
    PS X (.Raise (some (.Call (.Name x np) (e :: es) [] cpos)) none pos) (tRaise C ta E) := by
  intro pins s σ H D I h
  obtain ⟨nm, qn, N, bs, bm, hdct, sn, sub, ab, col, dd, k0, k1, k2, k3, k5, mN, hC, hN, hni, T⟩ := exc_cls I.ok.mod.kin R.ex
  refine wpAny_Raise_call_subU (C := C) (nm := nm) (q := qn) (N := N) (bs := bs) (bm := bm) (hdct := hdct) (sn := sn) (sub := sub) (ab := ab) (col := col) (dd := dd) (k0 := k0) (k1 := k1) (k2 := k2) (k3 := k3) (k5 := k5)
    PySem.F.excBase_ValueError (by decide +kernel) PySem.F.excBase_ValueError (mN := mN) (T.hasType (by decide +kernel)) (I.ok.hd hc) (by rw [he]; show (false || (backTo cpos (starEach es X.env)).any (·.1)) = false; rw [hpl]; rfl) hni
    (ld_glob I hg R.mg ⟨rfl, ?_⟩ hd)
  have ha' := ha cpos pins s σ H _ I h
  rw [he] at ha' ⊢
  refine Calls.evalArgs_plain (thn ha' fun us s1 ⟨vs, H1, I1, r, hl, q⟩ => ?_)
  refine ⟨rfl, by rw [← r.length]; exact hl, I1.bk _ _ hC, hN.keeps I1.bk, T.keeps I1.bk, fun h' ea hm => ?_⟩
  exact hT pins σ H1 s1 ea C h' us I1 hm q
end L2
set_option Elab.async false
set_option linter.all false
set_option maxRecDepth 100000
namespace L2
open PySem PySem.Spec PyProof.Rows
theorem comp_turns {prog : Program} {w : World} {A : Around} {R : Result → Shared → Prop} {s : Shared} {elt tg iter : Expr} {ifs : List Expr} {scope : Scope} {pos : Pos} {it acc : Value} {env : Env} (J : Nat → Shared → Prop)
    (turn : ∀ n s, J n s → wpAny (model prog w) A (pyNext it) (fun r s1 => match r with
      | none => R (.ok .next) s1
      | some v => wpAny (model prog w) A (letOwnedTupleGo tg it v) (fun _ s2 => wpAny (model prog w) A (assign tg env v) (fun _ s3 =>
          wpAny (model prog w) A (forIn ifs true fun c r => if r = true then do let ok ← isTrue c env (eval c env); pure (ForInStep.yield ok) else pure (ForInStep.yield r)) (fun ok s4 =>
            if ok = true then wpAny (model prog w) A (eval elt env) (fun x s5 => wpAny (model prog w) A (call (.builtin "list.append") [acc, x]) (fun _ s6 => ∃ m, m < n ∧ J m s6) (fun _ _ => False) s5) (fun _ _ => False) s4
            else ∃ m, m < n ∧ J m s4) (fun _ _ => False) s3) (fun _ _ => False) s2) (fun _ _ => False) s1) (fun _ _ => False) s)
    (n : Nat) (h : J n s) : codeAny (model prog w) A (.compLoop (.ListComp elt [⟨tg, iter, ifs, 0⟩] scope pos) 0 it acc env) R s := by
  refine codeAny_loop rfl J (fun n s hJ => ?_) n h
  show wpAny _ A ((compTurn (.ListComp elt [⟨tg, iter, ifs, 0⟩] scope pos) 0 it acc env).onRaise _) _ _ s
  refine wpAny_noted (wpAny_noRaise ?_)
  rw [compTurn_list]
  refine wpAny_bind (wpAny_standAt (wpAny_bind (thn (turn n s hJ) fun r s1 h1 => ?_)))
  cases r with
  | none => exact wpAny_pure h1
  | some v =>
    refine wpAny_bind (thn h1 fun _ s2 h2 => wpAny_bind (thn h2 fun _ s3 h3 => wpAny_bind (thn h3 fun ok s4 h4 => ?_)))
    cases ok with
    | false => exact wpAny_pure ⟨rfl, h4⟩
    | true => exact wpAny_bind (wpAny_bind (thn h4 fun x s5 h5 => wpAny_bind (thn h5 fun _ s6 h6 => wpAny_pure (wpAny_pure ⟨rfl, h6⟩))))
abbrev Cx.blk (X : Cx) (scope : Scope) (cl : List (Str × Addr)) (C : Addr) (own : List Str) (s : Shared) (H : Hp) (fp : List Addr) (pins : List (Addr × Obj)) : Cx :=
  { X with N := X.N ++ own, env := compEnvC scope cl C X.env, s₀ := s, H₀ := H, outer := X.stack, ex := fp, fn := fun _ => false, pn := X.pn ++ pins, xe := fun _ _ => False }
theorem lookup_relab {env : Env} {x : Str} : ∀ {names : List (Str × NameKind)}, (names.map fun (n, k) => if (k == NameKind.free && env.scope.kind == .function && env.kindOf n == some .cell) then (n, NameKind.cell) else (n, k)).lookup x =
    (names.lookup x).map fun k => if (k == NameKind.free && env.scope.kind == .function && env.kindOf x == some .cell) then NameKind.cell else k
  | [] => rfl
  | (n, k) :: r => by
    have ih := @lookup_relab env x r
    rw [List.map_cons]
    show List.lookup x ((if (k == NameKind.free && env.scope.kind == .function && env.kindOf n == some .cell) = true then (n, NameKind.cell) else (n, k)) :: _) = _
    have e : (if (k == NameKind.free && env.scope.kind == .function && env.kindOf n == some .cell) = true then (n, NameKind.cell) else (n, k)) = (n, if (k == NameKind.free && env.scope.kind == .function && env.kindOf n == some .cell) = true then NameKind.cell else k) := by
      split <;> rfl
    rw [e]
    cases q : x == n with
    | true =>
      obtain rfl : x = n := by simpa using q
      simp [List.lookup_cons]
    | false => simp only [List.lookup_cons, q]; exact ih
structure CompScope (X : Cx) (scope : Scope) (cl : List (Str × Addr)) : Prop where
  clos : closureFor scope X.env = pure cl
  kind : scope.kind = .function
  nocell : ∀ y ∈ scope.names, y.2 ≠ .cell
  names : ∀ y ∈ scope.names, y.2 = .local → scope.names.lookup y.1 = some .local
  sub : ∀ x c, cl.lookup x = some c → X.env.cells.lookup x = some c
  has : ∀ x, scope.names.lookup x = some .free → ∃ c, cl.lookup x = some c
  apart : ∀ x ∈ X.N, scope.names.lookup x ≠ some .local
  outer : ∀ x, scope.names.lookup x = some .free → X.env.kindOf x = some .cell ∨ X.env.kindOf x = some .free
theorem lookup_mem {α β : Type} [BEq α] [LawfulBEq α] {l : List (α × β)} {x : α} {b : β} (h : l.lookup x = some b) : (x, b) ∈ l := by
  induction l with
  | nil => simp at h
  | cons p r ih =>
    obtain ⟨a, c⟩ := p
    rw [List.lookup_cons] at h
    split at h
    · rename_i q
      obtain rfl : x = a := by simpa using q
      cases h; exact .head _
    · exact .tail _ (ih h)
section
variable {X : Cx} {scope : Scope} {cl : List (Str × Addr)} {own : List Str} {pins : List (Addr × Obj)} {σ : St} {H2 H3 : Hp} {s2 : Shared} {fp : List Addr} {C : Addr} {h1 : Heap}
theorem stk_no {b : Addr} (I2 : Inv X pins σ H2 s2) (n1 : b ≠ X.env.locals) (n2 : b ∉ X.fs) : b ∉ frs X.stack := fun z => (List.mem_cons.mp (I2.stkSub b z)).elim n1 n2
theorem blk_in (S : CompScope X scope cl) (I2 : Inv X pins σ H2 s2) (f2 : ∀ b ∈ fp, FpOk X pins H2 b) (hlt : ∀ b ∈ fp, b < s2.heap.objs.size) (hC : s2.heap.objs.size ≤ C) {m : Str → Option Value} (hns : h1.Ns C m)
    (keep : ∀ b o, s2.heap.get? b = some o → h1.get? b = some o) (hH : ∀ b o, s2.heap.get? b = some o → H2 b = none → H3 b = none) (un : Un (frs X.stack) fp H2 H3 s2.heap h1) (hok : HOk X.prog X.w H3 h1) (hCf : H3 C = none) {tk : Nat} :
    Inv (X.blk scope cl C own s2 H2 fp pins) [] (σ ++ List.replicate own.length none) H3 { s2 with heap := h1, toks := tk } := by
  have neC : ∀ b o, s2.heap.get? b = some o → b ≠ C := fun b o e => Nat.ne_of_lt (Nat.lt_of_lt_of_le (Heap.lt_size e) hC)
  have kof : ∀ x, (compEnvC scope cl C X.env).kindOf x = (scope.names.lookup x).map fun k => if (k == NameKind.free && X.env.scope.kind == .function && X.env.kindOf x == some .cell) then NameKind.cell else k := fun x => lookup_relab
  have isfree : ∀ x, ((compEnvC scope cl C X.env).kindOf x = some .cell ∨ (compEnvC scope cl C X.env).kindOf x = some .free) → scope.names.lookup x = some .free := fun x hx => by
    rw [kof x] at hx
    cases q : scope.names.lookup x with
    | none => rw [q] at hx; rcases hx with z | z <;> cases z
    | some k =>
      rw [q] at hx
      have nc := S.nocell _ (lookup_mem q)
      cases k <;> simp_all
  refine ⟨⟨I2.ok.mod, S.kind, I2.ok.glob, I2.ok.blt, hC, fun x y c e1 e2 => I2.ok.inj x y c (S.sub x c e1) (S.sub y c e2), fun x hx => S.has x (isfree x hx), fun x c z _ => (by cases z), I2.ok.hd, I2.ok.frames, .inl rfl,
    fun b hb => ⟨Nat.ne_of_lt (Nat.lt_of_lt_of_le (hlt b hb) hC), fun x c e => (f2 b hb).2.2.2.2.1 x c (S.sub x c e)⟩, fun b o e => ⟨(I2.bs b o e).1, (I2.bs b o e).2⟩, Nat.le_trans I2.ok.bsz I2.sz, fun b o e hb => ?_, fun b hb => stk_no I2 (f2 b hb).2.1 (f2 b hb).2.2.1, I2.stack, I2.stkFree⟩,
    rfl, I2.bare, un, ⟨m, hns, fun i x v e1 e2 e3 => ?_⟩, fun x c e => ?_, hCf, fun x c e => ?_, fun p hp => ?_, hok, ?_, I2.hn.mono un.frzs⟩
  · rcases (f2 b hb).2.2.2.1 with z | z
    · exact I2.ok.noex b o e z
    · exact absurd (Nat.lt_of_lt_of_le (Nat.lt_of_lt_of_le (Heap.lt_size e) I2.ok.bsz) z) (Nat.lt_irrefl _)
  ·
    have hi : i < σ.length := by
      apply Classical.byContradiction
      intro hn
      rw [List.getElem?_append_right (by omega), List.getElem?_replicate] at e2
      split at e2 <;> cases e2
    rw [List.getElem?_append_left hi] at e2
    have hi2 : i < X.N.length := by rw [← I2.len]; exact hi
    have e1' : X.N[i]? = some x := by rw [← List.getElem?_append_left (l₂ := own) hi2]; exact e1
    have hx : x ∈ X.N := List.mem_of_getElem? e1'
    have e3' : (compEnvC scope cl C X.env).kindOf x = some .local ∨ (compEnvC scope cl C X.env).kindOf x = some .cell ∨ (compEnvC scope cl C X.env).kindOf x = some .free := e3
    have nl : (compEnvC scope cl C X.env).kindOf x ≠ some .local := fun z => by
      rw [kof x] at z
      cases q : scope.names.lookup x with
      | none => rw [q] at z; cases z
      | some k =>
        rw [q, Option.map_some] at z
        have na := S.apart x hx
        rw [q] at na
        cases k <;> first
          | exact na rfl
          | (have z' := Option.some.inj z; split at z' <;> cases z')
    have hcf : (compEnvC scope cl C X.env).kindOf x = some .cell ∨ (compEnvC scope cl C X.env).kindOf x = some .free := e3'.resolve_left nl
    obtain ⟨c, hc⟩ := S.has x (isfree x hcf)
    obtain ⟨m0, hn0, hl0⟩ := I2.loc
    have hcX := S.sub x c hc
    have ho := S.outer x (isfree x hcf)
    obtain ⟨u, r, l⟩ := hl0 i x v e1' e2 (.inr ho)
    refine ⟨u, r, .inr ⟨hcf, c, hc, ?_⟩⟩
    rcases l with ⟨z, _⟩ | ⟨_, c', hc', oc, hoc, hdc⟩
    · rcases ho with y | y <;> (rw [y] at z; cases z)
    · rw [hcX] at hc'
      cases hc'
      exact ⟨oc, keep _ _ hoc, hdc⟩
  · obtain ⟨v, ⟨oc, hoc, hdc⟩⟩ := I2.cell x c (S.sub x c e)
    exact ⟨v, oc, keep _ _ hoc, hdc⟩
  · obtain ⟨v, ⟨oc, hoc, hdc⟩⟩ := I2.cell x c (S.sub x c e)
    exact hH c oc hoc (I2.freeC x c (S.sub x c e))
  · obtain ⟨q1, q2, q3, q4, q5⟩ := I2.pin p (by simpa using hp)
    exact ⟨keep _ _ q1, hH _ _ q1 q2, neC _ _ q1, stk_no I2 q3 q4, q5⟩
  · show (σ ++ List.replicate own.length none).length = (X.N ++ own).length
    rw [List.length_append, List.length_append, List.length_replicate, I2.len]
theorem blk_out (I2 : Inv X pins σ H2 s2) (f2 : ∀ b ∈ fp, FpOk X pins H2 b) (hC : s2.heap.objs.size ≤ C) {pl : List (Addr × Obj)} {σ' : St} {s4 : Shared} {h' : Heap} (I4 : Inv (X.blk scope cl C own s2 H2 fp pins) pl σ' H3 s4) (sb : Heap.SameBut C s4.heap h') :
    Inv X pins σ H3 { s4 with heap := h' } := by
  have un : Un (frs X.stack) fp H2 H3 s2.heap s4.heap := I4.base
  have nC : s2.heap.get? C = none := Heap.get?_none_of_le hC
  have CF : C ∉ frs X.stack := fun z => by
    obtain ⟨_, o, ho, _⟩ := I2.stack.mem z
    rw [nC] at ho; cases ho
  have un2 : Un (frs X.stack) fp H2 H3 s2.heap h' := un.late (ch := [C]) (fun b hb => by
    obtain rfl : b = C := by simpa using hb
    exact nC) (fun b o _ hb e => (sb.2 b (by simpa using hb)).trans e) fun b o hb e => ⟨o.slots, (sb.2 b fun z => CF (z ▸ hb)).trans e⟩
  have hf : H3 C = none := I4.free
  have hok : HOk X.prog X.w H3 h' := fun b o e => (I4.hok b o e).stay (fun c u hc q => (sb.2 c fun z => by
    subst z
    rcases hc with z | z
    · rw [z, e] at hf; cases hf
    · rw [z] at hf; cases hf).trans q) (fun _ q => q) fun _ _ q => q
  exact I2.call' (s' := { s4 with heap := h' }) (ch := fp) I4.os un2 hok I4.bare fun b hb => ⟨(f2 b hb).2.2.2.1, (f2 b hb).2.1, (f2 b hb).2.2.2.2.1, (f2 b hb).2.2.2.2.2⟩
end
def PF (X : Cx) (ifs : List Expr) (t : TT) : Prop :=
  ∀ (pins : List (Addr × Obj)) (s : Shared) (σ : St) (H : Hp) (Q : Bool → Hp → Prop), Inv X pins σ H s → t σ H Q →
    wpAny (model X.prog X.w) X.A (forIn ifs true fun c r => if r = true then do let ok ← isTrue c X.env (eval c X.env); pure (ForInStep.yield ok) else pure (ForInStep.yield r)) (TP X pins σ Q) X.xe s
theorem pf_nil {X : Cx} : PF X [] (fun _ H Q => Q true H) := fun _ _ _ H _ I h => wpAny_tests_nil ⟨H, I, h⟩
theorem pf_one {X : Cx} {c : Expr} {t : TT} (h : PT X c t) : PF X [c] t := fun pins s σ H Q I q => wpAny_tests_one (h pins s σ H Q I q)
def compT (k : Nat) (g : TG) (tc : TT) (te : TE) (σ : St) (Q : VK) : It → Hp → Prop := fun J H1 => ∀ D, H1 D = none → ∃ W : Nat → Nat → List V → Hp → Prop, (∃ m, W 0 m [] (upd H1 D (.lst []))) ∧ ∀ i m ys H, W i m ys H →
  H D = some (.lst ys) ∧ ((J.stop i H ∧ Q (.ref D) H) ∨ (J.go i H ∧ ys.length < sizeLine ∧ ∀ x H', J.yld i H x H' → g x (σ ++ List.replicate k none) H' fun σ2 H2 => (∃ zs, σ2 = σ ++ zs ∧ zs.length = k) ∧ tc σ2 H2 fun b H3 =>
    if b = true then te σ2 H3 fun y H4 => H4 D = some (.lst ys) ∧ ∃ m', m' < m ∧ W (i + 1) m' (ys ++ [y]) (upd H4 D (.lst (ys ++ [y]))) else ∃ m', m' < m ∧ W (i + 1) m' ys H3))
def tComp (wi : TI) (k : Nat) (g : TG) (tc : TT) (te : TE) : TE := fun σ H Q => wi σ H (compT k g tc te σ Q)
section
variable {X : Cx} {tg elt iter : Expr} {ifs : List Expr} {scope : Scope} {cl : List (Str × Addr)} {own : List Str} {wi : TI} {g : TG} {tc : TT} {te : TE} {pos : Pos}
theorem comp_core {p2 : Pos} {use : Option (Value → Sem Unit)} {QV : Value → Shared → Prop} {pins : List (Addr × Obj)} {s : Shared} {σ : St} {H : Hp} {Q : VK} (S : CompScope X scope cl) (hi : PI X tg iter wi)
    (hg : ∀ C s H fp pins, PG (X.blk scope cl C own s H fp pins) tg g) (ht : ∀ C s H fp pins, PF (X.blk scope cl C own s H fp pins) ifs tc) (he : ∀ C s H fp pins, PE (X.blk scope cl C own s H fp pins) elt te)
    (hs : ∀ x, foldedSetIterable iter X.env x = pure x) (I : Inv X pins σ H s) (h : tComp wi own.length g tc te σ H Q)
    (fin : ∀ D C s2 H2 H3 s4, Inv X pins σ H2 s2 → s2.heap.objs.size ≤ C → H3 C = none → (∃ m, s4.heap.Ns C m) → (∀ h', Heap.SameBut C s4.heap h' → Inv X pins σ H3 { s4 with heap := h' }) → Q (.ref D) H3 → compPost (model X.prog X.w) X.A X.xe use QV (.ref D) C (.ok .next) s4) :
    wpAny (model X.prog X.w) X.A (comprehension (.ListComp elt [⟨tg, iter, ifs, 0⟩] scope pos) scope X.env p2 (newList []) false (eval iter X.env) use) QV X.xe s := by
  refine wpAny_comprehension_free (use := use) rfl hs S.clos S.kind S.names (thn (hi pins s σ H _ I h) fun v s1 h1 => thn h1 fun itv s2 h2 => ?_)
  obtain ⟨it, fp, tn, J, H2, e, I2, T, st2, f2, R⟩ := h2
  subst e
  obtain ⟨nm, T, hc⟩ := T
  refine wpAny_newObj_type (wpAny_newFunctionEnv S.nocell (by intro y hy; simp at hy) (fun h1 hns hsb => ?_) S.kind)
  dsimp only at hns hsb ⊢
  have hlt : ∀ b ∈ fp, b < s2.heap.objs.size := fun b hb => by
    obtain ⟨o, ho, _⟩ := T.obj 0 _ st2 b hb
    exact Heap.lt_size ho
  generalize hp : s2.heap.push { cls := .type "list", dict := none, data := .seq ([] : List Value).toArray } = hl at hns hsb ⊢
  have hC : hl.objs.size = s2.heap.objs.size + 1 := by rw [← hp, Heap.size_push]
  have hCle : s2.heap.objs.size ≤ hl.objs.size := by rw [hC]; exact Nat.le_succ _
  have hDC : s2.heap.objs.size ≠ hl.objs.size := by rw [hC]; exact Nat.ne_of_lt (Nat.lt_succ_self _)
  have old : ∀ b o, hl.get? b = some o → h1.get? b = some o := fun b o e => hsb.extBut b o (Nat.ne_of_lt (Heap.lt_size e)) (Heap.get?_push_of_some _ e)
  have old2 : ∀ b o, s2.heap.get? b = some o → h1.get? b = some o := fun b o e => old b o (hp ▸ Heap.get?_push_of_some _ e)
  have Dn : H2 s2.heap.objs.size = none := I2.fresh
  have Cn : H2 hl.objs.size = none := I2.hok.fresh hCle
  obtain ⟨W, ⟨m0, w0⟩, step⟩ := R s2.heap.objs.size Dn
  have hobj : h1.get? s2.heap.objs.size = some { cls := .type "list", data := .seq ([] : List Value).toArray } := old _ _ (hp ▸ Heap.get?_push_size _ rfl)
  have I3 : Inv (X.blk scope cl hl.objs.size own s2 H2 fp pins) [] (σ ++ List.replicate own.length none) (upd H2 s2.heap.objs.size (.lst [])) { s2 with heap := h1, toks := s2.toks + ([] : List (Str × Value)).length } :=
    blk_in S I2 f2 hlt hCle hns old2 (fun b o e n => by rw [upd_ne (Nat.ne_of_lt (Heap.lt_size e))]; exact n) (Un.laid old2 (Nat.le_refl _) Dn) (I2.hok.laid old2 (Nat.le_refl _) (show ObjOk X.prog X.w (upd H2 s2.heap.objs.size (.lst [])) h1 s2.heap.objs.size (.lst []) from ⟨Nat.zero_le _, [], 0, .nil, hobj⟩)) (by rw [upd_ne (Ne.symm hDC)]; exact Cn)
  have fpn : ∀ b ∈ fp, upd H2 s2.heap.objs.size (.lst []) b = none := fun b hb => by rw [upd_ne (Nat.ne_of_lt (hlt b hb))]; exact (f2 b hb).1
  have stat : ∀ {H' : Hp}, (∀ b ∈ fp, H' b = none) → ∀ b ∈ fp, FpOk (X.blk scope cl hl.objs.size own s2 H2 fp pins) [] H' b := fun hn b hb =>
    ⟨hn b hb, Nat.ne_of_lt (Nat.lt_of_lt_of_le (hlt b hb) hCle), stk_no I2 (f2 b hb).2.1 (f2 b hb).2.2.1, .inl hb, fun x c e => (f2 b hb).2.2.2.2.1 x c (S.sub x c e), fun p hp => (f2 b hb).2.2.2.2.2 p (by simpa using hp)⟩
  have loop : ∀ s3 : Shared, s3 = { s2 with heap := h1, toks := s2.toks + ([] : List (Str × Value)).length } →
      codeAny (model X.prog X.w) X.A (.compLoop (.ListComp elt [⟨tg, iter, ifs, 0⟩] scope pos) 0 (.ref it) (.ref s2.heap.objs.size) (compEnvC scope cl hl.objs.size X.env)) (compPost (model X.prog X.w) X.A X.xe use QV (.ref s2.heap.objs.size) hl.objs.size) s3 := by
    rintro s3 rfl
    refine comp_turns (fun n s' => ∃ i ys H', Inv (X.blk scope cl hl.objs.size own s2 H2 fp pins) [] (σ ++ List.replicate own.length none) H' s' ∧ tn i s'.heap ∧ (∀ b ∈ fp, H' b = none) ∧ W i n ys H') ?_ m0
      ⟨0, [], _, I3, T.keep 0 _ _ st2 (fun b _ o e => old2 b o e), fpn, w0⟩
    rintro n s3 ⟨i, ys, H3, J3, st3, fr3, w3⟩
    obtain ⟨hD, ⟨stop, q⟩ | ⟨go, hlen, turn⟩⟩ := step i n ys H3 w3
    · refine thn (T.done (X.blk scope cl hl.objs.size own s2 H2 fp pins) rfl rfl rfl hc i [] s3 _ H3 _ J3 (stat fr3) st3 stop) fun r s4 ⟨hr, J4⟩ => ?_
      subst hr
      obtain ⟨m4, hn4, _⟩ := J4.loc
      exact fin _ _ s2 H2 H3 s4 I2 hCle J4.free ⟨m4, hn4⟩ (fun h' sb => blk_out I2 f2 hCle J4 sb) q
    · refine thn (T.item (X.blk scope cl hl.objs.size own s2 H2 fp pins) rfl rfl rfl hc i [] s3 _ H3 _ J3 (stat fr3) st3 go) fun r s4 ⟨u, hr, h4⟩ => ?_
      subst hr
      refine thn h4 fun _ s5 ⟨x, H5, J5, r5, y5, st5, fr5⟩ => ?_
      have J5' := J5.pinned (stat fr5) (T.obj _ _ st5)
      refine thn (hg _ _ _ _ _ _ s5 _ H5 x u _ J5' r5 (turn x H5 y5)) fun _ s6 ⟨σ6, H6, J6, ⟨ts, e6, hts⟩, q6⟩ => ?_
      subst e6
      refine thn (ht _ _ _ _ _ _ s6 _ H6 _ J6 q6) fun ok s7 ⟨H7, J7, q7⟩ => ?_
      have again : ∀ {s8 : Shared} {H8 : Hp} {zs : List V}, Inv (X.blk scope cl hl.objs.size own s2 H2 fp pins) ([] ++ pinsAt fp s5.heap) (σ ++ ts) H8 s8 → (∃ m', m' < n ∧ W (i + 1) m' zs H8) →
          ∃ m, m < n ∧ ∃ i ys H', Inv (X.blk scope cl hl.objs.size own s2 H2 fp pins) [] (σ ++ List.replicate own.length none) H' s8 ∧ tn i s8.heap ∧ (∀ b ∈ fp, H' b = none) ∧ W i m ys H' := fun {s8 H8 zs} J8 ⟨m', hm, w8⟩ => by
        refine ⟨m', hm, i + 1, zs, H8, ?_, T.keep _ _ _ st5 fun b hb o e => (J8.pin (b, o) (List.mem_append_right _ (List.mem_append_right _ (mem_pinsAt hb e)))).1, fun b hb => ?_, w8⟩
        · refine J8.unpinned.weak (by rw [List.length_append, List.length_append, List.length_replicate, hts]) fun j v ej => ?_
          by_cases hj : j < σ.length
          · rw [List.getElem?_append_left hj] at ej ⊢
            exact ej
          · rw [List.getElem?_append_right (by omega), List.getElem?_replicate] at ej
            split at ej <;> cases ej
        · obtain ⟨o, e, d⟩ := T.obj _ _ st5 b hb
          exact (J8.pin (b, o) (List.mem_append_right _ (List.mem_append_right _ (mem_pinsAt hb e)))).2.1
      cases ok with
      | false => exact again J7 q7
      | true =>
        refine thn (he _ _ _ _ _ _ s7 _ H7 _ J7 q7) fun z s8 ⟨y, H8, J8, r8, hD8, q8⟩ => ?_
        refine thn (mt_append _ s8 _ H8 (.ref s2.heap.objs.size) [y] _ [z] (fun _ H9 => ∃ m', m' < n ∧ W (i + 1) m' (ys ++ [y]) H9) J8 rfl (.cons r8 .nil) ⟨_, ys, y, rfl, rfl, hD8, hlen, q8⟩) fun _ s9 ⟨_, H9, J9, _, q9⟩ => again J9 q9
  exact codeAny_compStart_list (loop _ rfl) (T.self _ 0 _ _ _ (T.keep 0 _ _ st2 fun b _ o e => old2 b o e) (loop _ rfl))
theorem pe_comp (S : CompScope X scope cl) (hi : PI X tg iter wi)
    (hg : ∀ C s H fp pins, PG (X.blk scope cl C own s H fp pins) tg g) (ht : ∀ C s H fp pins, PF (X.blk scope cl C own s H fp pins) ifs tc) (he : ∀ C s H fp pins, PE (X.blk scope cl C own s H fp pins) elt te)
    (hs : ∀ x, foldedSetIterable iter X.env x = pure x := by intro _; rfl) : PE X (.ListComp elt [⟨tg, iter, ifs, 0⟩] scope pos) (tComp wi own.length g tc te) := by
  intro pins s σ H Q I h
  rw [eval_ListComp]
  exact comp_core (use := none) (QV := EP X pins σ Q) S hi hg ht he hs I h fun D C s2 H2 H3 s4 _ _ _ hn inv q => hn.elim fun m hn => ⟨m, hn, fun h' sb => ⟨.ref D, H3, inv h' sb, rfl, q⟩⟩
theorem Inv.let_go {pins : List (Addr × Obj)} {σ σ2 : St} {H H2 : Hp} {s s2 : Shared} {C : Addr} {h' : Heap} (I : Inv X pins σ H s) (I2 : Inv X pins σ2 H2 s2) (hC : s2.heap.objs.size ≤ C) (hf : H C = none) (sb : Heap.SameBut C s.heap h') : Inv X pins σ H { s with heap := h' } := by
  have nC : s2.heap.get? C = none := Heap.get?_none_of_le hC
  have CF : C ∉ frs X.stack := fun z => by
    obtain ⟨_, o, ho, _⟩ := I2.stack.mem z
    rw [nC] at ho; cases ho
  have off : ∀ b o, s2.heap.get? b = some o → b ≠ C := fun b o e z => by rw [z, nC] at e; cases e
  have un : Un (frs X.stack) [C] H H s.heap h' := ⟨fun b o q _ _ hx => (sb.2 b fun z => hx (by simp [z])).trans q, fun b o q _ hb _ => ⟨o.slots, (sb.2 b fun z => CF (z ▸ hb)).trans q⟩, fun _ _ _ n _ => n, fun b o q hx => ⟨o, (sb.2 b fun z => hx (by simp [z])).trans q⟩, fun _ _ q => q, fun _ _ _ q => q, fun b ps q => ⟨#[], by rw [Array.append_empty]; exact q⟩⟩
  have hok : HOk X.prog X.w H h' := fun b o e => (I.hok b o e).stay (fun c u hc q => (sb.2 c fun z => by
    subst z
    rcases hc with z | z
    · rw [z, e] at hf; cases hf
    · rw [z] at hf; cases hf).trans q) (fun _ q => q) fun _ _ q => q
  refine I.call' (s' := { s with heap := h' }) (ch := [C]) rfl un hok I.bare fun b hb => ?_
  obtain rfl : b = C := by simpa using hb
  obtain ⟨_, hn, _⟩ := I2.loc
  obtain ⟨_, _, _, hL, _⟩ := hn
  refine ⟨.inr (Nat.le_trans I2.sz hC), fun z => off _ _ hL z.symm, fun x c e => ?_, fun p hp => off _ _ (I2.pin p hp).1⟩
  obtain ⟨_, _, hc, _⟩ := I2.cell x c e
  exact off _ _ hc
theorem ps_setcomp {i : Nat} {x : Str} {pos' spos : Pos} (hN : X.N.Nodup) (hix : X.N[i]? = some x) (hx : Loc X.env.scope x) (S : CompScope X scope cl) (hi : PI X tg iter wi)
    (hg : ∀ C s H fp pins, PG (X.blk scope cl C own s H fp pins) tg g) (ht : ∀ C s H fp pins, PF (X.blk scope cl C own s H fp pins) ifs tc) (he : ∀ C s H fp pins, PE (X.blk scope cl C own s H fp pins) elt te)
    (hs : ∀ x, foldedSetIterable iter X.env x = pure x := by intro _; rfl) (hsw : swapsWith (.ListComp elt [⟨tg, iter, ifs, 0⟩] scope pos) (some (.Name x pos')) spos.line X.env = pure true := by rfl)
    (hf : X.fn x = true ∨ X.env.scope.names.lookup x = some .local := by first | exact .inl rfl | exact .inr rfl | assumption) :
    PS X (.Assign [.Name x pos'] (.ListComp elt [⟨tg, iter, ifs, 0⟩] scope pos) spos) (tAsg (tComp wi own.length g tc te) (gName i)) := by
  intro pins s σ H D I h
  rw [exec_Assign_Name_used _ _ _ _ hsw]
  refine wpAny_bind (wpAny_standAt (wpAny_bind ?_))
  show wpAny _ X.A (do let _ ← comprehension (.ListComp elt [⟨tg, iter, ifs, 0⟩] scope pos) scope X.env _ (newList []) false (eval iter X.env) (some (assign (.Name x pos') X.env))) _ _ s
  refine wpAny_bind (wpAny_mono (comp_core (pos := pos) (use := some (assign (.Name x pos') X.env)) (QV := fun _ s' => SP X pins D .next s') S hi hg ht he hs I h fun Da C s2 H2 H3 s4 I2 hC hfree hn inv q => ?_) (fun _ s' hq => wpAny_pure (wpAny_pure hq)) fun _ _ e => e)
  obtain ⟨m, hn⟩ := hn
  have I4 : Inv X pins σ H3 s4 := inv s4.heap (Heap.SameBut.refl _ _)
  have nC : s2.heap.get? C = none := Heap.get?_none_of_le hC
  refine wpAny_assign_Name (store_ok2 I4 hN hix hx (show RelV (.ref Da) (.ref Da) from rfl) (fun s5 I5 ⟨a, sb, ha⟩ => ⟨m, hn.sameBut sb ?_, fun h' sb' => ⟨_, H3, I5.let_go I2 hC hfree sb', q⟩⟩) hf)
  rintro rfl
  rcases ha with z | z
  · obtain ⟨_, hn2, _⟩ := I2.loc
    obtain ⟨_, _, _, hL, _⟩ := hn2
    rw [← z, nC] at hL; cases hL
  · obtain ⟨_, _, hc, _⟩ := I2.cell x _ z
    rw [nC] at hc; cases hc
end
end L2
set_option Elab.async false
set_option linter.all false
set_option maxRecDepth 100000
namespace L2
open PySem PySem.Spec PyProof.Rows
theorem Inv.track {X : Cx} {pins : List (Addr × Obj)} {σ : St} {H : Hp} {s : Shared} {a : Addr} {o : HO} (I : Inv X pins σ H s) (hn : H a = none) (h0 : X.s₀.heap.get? a = none) (hL : a ≠ X.env.locals)
    (hc : ∀ x c, X.env.cells.lookup x = some c → c ≠ a) (hp : ∀ p ∈ X.pn ++ pins, p.1 ≠ a) (new : ObjOk X.prog X.w (upd H a o) s.heap a o) : Inv X pins σ (upd H a o) s := by
  have ne : ∀ b u, H b = some u → b ≠ a := fun b u e z => by rw [z, hn] at e; cases e
  refine ⟨I.ok, I.os, I.bare, ⟨I.base.keep, I.base.slot, fun b u e n hx => ?_, I.base.there, fun b xs e => ?_, fun b u v e => ?_, fun b ps e => ?_⟩, I.loc, I.cell, ?_, fun x c e => ?_, fun p h => ?_, fun b u e => ?_, I.len, I.hn.mono fun b u v e => by rw [upd_ne (ne b _ e)]; exact e⟩
  · rw [upd_ne (fun z => by rw [z, h0] at e; cases e)]; exact I.base.free b u e n hx
  · have q := I.base.tups b xs e
    rw [upd_ne (ne b _ q)]; exact q
  · have q := I.base.frzs b u v e
    rw [upd_ne (ne b _ q)]; exact q
  · obtain ⟨m, q⟩ := I.base.tbls b ps e
    exact ⟨m, by rw [upd_ne (ne b _ q)]; exact q⟩
  · rw [upd_ne (Ne.symm hL)]; exact I.free
  · rw [upd_ne (hc x c e)]; exact I.freeC x c e
  · obtain ⟨q1, q2, q3⟩ := I.pin p h
    exact ⟨q1, by rw [upd_ne (hp p h)]; exact q2, q3⟩
  · by_cases hb : b = a
    · subst hb; rw [upd_same] at e; cases e; exact new
    · rw [upd_ne hb] at e
      exact (I.hok b u e).stay (fun _ _ _ q => q) (fun c q => by rw [upd_ne (ne c _ q)]; exact q) fun c xs q => by rw [upd_ne (ne c _ q)]; exact q
theorem Inv.relocal {X : Cx} {pins : List (Addr × Obj)} {σ : St} {H : Hp} {s : Shared} {h' : Heap} {m' : Str → Option Value} {t' : Nat} (I : Inv X pins σ H s) (sb : Heap.SameBut X.env.locals s.heap h') (hn : h'.Ns X.env.locals m') :
    Inv X pins (List.replicate X.N.length none) H { s with heap := h', toks := t' } := by
  have nL : ∀ b o, X.s₀.heap.get? b = some o → b ≠ X.env.locals := fun b o e => Nat.ne_of_lt (Nat.lt_of_lt_of_le (Heap.lt_size e) I.ok.above)
  have hf := I.free
  refine ⟨I.ok, I.os, I.bare, ⟨fun b o e n hb hx => (sb.2 b (nL b o e)).trans (I.base.keep b o e n hb hx), fun b o e n hb hx => ?_, I.base.free, fun b o e hx => ?_, I.base.tups, I.base.frzs, I.base.tbls⟩, ⟨m', hn, fun i x v _ e2 _ => ?_⟩,
    fun x c e => ?_, hf, I.freeC, fun p hp => ?_, fun b o e => ?_, by simp, I.hn⟩
  · obtain ⟨sl, q⟩ := I.base.slot b o e n hb hx
    exact ⟨sl, (sb.2 b (nL b o e)).trans q⟩
  · obtain ⟨o', q⟩ := I.base.there b o e hx
    exact ⟨o', (sb.2 b (nL b o e)).trans q⟩
  · rw [List.getElem?_replicate] at e2
    split at e2 <;> cases e2
  · obtain ⟨v, z⟩ := I.cell x c e
    exact ⟨v, z.sameBut sb (I.cne x c e)⟩
  · obtain ⟨q1, q2, q3, q4⟩ := I.pin p hp
    exact ⟨(sb.2 p.1 q3).trans q1, q2, q3, q4⟩
  · refine (I.hok b o e).stay (fun c u hc q => (sb.2 c fun z => ?_).trans q) (fun _ q => q) fun _ _ q => q
    subst z
    rcases hc with z | z
    · rw [z, e] at hf; cases hf
    · rw [z] at hf; cases hf
def IsExc (a C : Addr) (h : Heap) : Prop := ∃ o vs, h.get? a = some o ∧ o.cls = .ref C ∧ o.data = .fields vs
abbrev HO.exc (a C : Addr) : HO := .ext (IsExc a C)
def Exc (H : Hp) (a C : Addr) : Prop := ∃ o, H a = some (.frz o (.exc a C))
theorem Exc.same {H H' : Hp} {a C : Addr} (e : Exc H a C) (s : Same H H') : Exc H' a C := let ⟨o, h⟩ := e; ⟨o, s _ _ h⟩
theorem exc_ok {P : Program} {w : World} {H : Hp} {h : Heap} {a C : Addr} (e : IsExc a C h) : ObjOk P w H h a (.exc a C) := by
  obtain ⟨o, vs, h1, h2, h3⟩ := id e
  exact ⟨e, ⟨o, h1⟩, fun g1 g2 ⟨o', vs', q1, q2, q3⟩ k => ⟨o', vs', k _ q1, q2, q3⟩⟩
def PassS (X : Cx) (E : St → XK) : Prop := ∀ (pins : List (Addr × Obj)) (σ : St) (H : Hp) (s : Shared) (e : Value) (s' : Shared), Inv X pins σ H s → XC X.prog X.w X.stack H s (E σ) e s' → X.xe e s'
def tCallS (sp : Sp) (E : St → XK) (t : TA) : TE := fun σ H Q => t σ H fun vs H1 => sp vs H1 Q (E σ)
section
variable {X : Cx} {k : Nat} {f : Addr} {fd : FuncData} {ps : List Str} {sp : Sp} {E : St → XK} {x : Str} {p pos : Pos} {e : Expr} {es : List Expr} {t : TA}
theorem pe_callS {cm : Bool} (F : FnOk X.prog X.w X.K X.mg X.base (XC X.prog X.w) k f fd ps sp cm) (hr : RoomC cm k X.A) (hg : Gl X x) (hm : X.mg x = some (.ref f)) (hk : PySem.W.keepIn X.K (.ref f) = true) (hb : Binds X.K fd ps []) (hx : PassS X E)
    (ha : PA X (e :: es) t) (hdb : (x == ("__debug__" : Str)) = false := by decide) (he : starEach (e :: es) X.env = (false, eval e X.env) :: starEach es X.env := by rfl) (hpl : (backTo pos (starEach es X.env)).any (·.1) = false := by rfl) :
    PE X (.Call (.Name x p) (e :: es) [] pos) (tCallS sp E t) := by
  intro pins s σ H Q I h
  refine wpAny_Call_Name_kw (ld_glob I hg hm ?_ hdb)
  refine PySem.W.callWith_K (h₀ := X.base) I.ok.mod.kin hk (thn (ha pos pins s σ H _ I h) fun us s1 ⟨vs, H1, I1, r, q⟩ => ⟨I1.kIn, ?_⟩) he hpl
  have hl : (us ++ []).length = ps.length := by rw [List.append_nil, ← r.length]; exact F.len _ _ _ _ q
  have hb' := hb s1 us I1.kIn hl
  rw [List.append_nil] at hb'
  refine wpAny_call (codeAny_mono (F.run X.A X.stack s1 H1 ⟨us, []⟩ us vs Q (E σ) hr I1.env0 hb' r q) fun r' s' hq => ?_)
  cases r' with
  | error e' => exact hx pins σ H1 s1 e' s' I1 hq
  | ok fl =>
    cases fl with
    | ret u => exact I1.after hq
    | next => exact False.elim hq
    | brk => exact False.elim hq
    | cont => exact False.elim hq
end
abbrev Cx.tryb (X : Cx) (pins : List (Addr × Obj)) (E : Value → Shared → Prop) : Cx := { X with pn := X.pn ++ pins, xe := E }
abbrev Cx.hand (X : Cx) (e : Value) : Cx := { X with A := X.A.mark (some e), calm := false, xe := fun _ _ => False }
section
variable {X : Cx} {pins pl : List (Addr × Obj)} {σ : St} {H : Hp} {s : Shared} {E : Value → Shared → Prop}
theorem Inv.tryb (I : Inv X pins σ H s) : Inv (X.tryb pins E) [] σ H s :=
  ⟨⟨I.ok.mod, I.ok.kind, I.ok.glob, I.ok.blt, I.ok.above, I.ok.inj, I.ok.has, I.ok.cab, I.ok.hd, I.ok.frames, I.ok.stk, I.ok.exf, I.ok.bs, I.ok.bsz, I.ok.noex, I.ok.exfs, I.ok.funs, I.ok.frf⟩, I.os, I.bare, I.base, I.loc, I.cell, I.free, I.freeC, fun p hp => I.pin p (by simpa using hp), I.hok, I.len, I.hn⟩
theorem Inv.untry (I : Inv (X.tryb pins E) pl σ H s) : Inv X pins σ H s :=
  ⟨⟨I.ok.mod, I.ok.kind, I.ok.glob, I.ok.blt, I.ok.above, I.ok.inj, I.ok.has, I.ok.cab, I.ok.hd, I.ok.frames, I.ok.stk, I.ok.exf, I.ok.bs, I.ok.bsz, I.ok.noex, I.ok.exfs, I.ok.funs, I.ok.frf⟩, I.os, I.bare, I.base, I.loc, I.cell, I.free, I.freeC, fun p hp => I.pin p (List.mem_append_left _ hp), I.hok, I.len, I.hn⟩
theorem Inv.hand {e : Value} (I : Inv X pins σ H s) (hn : HdF (X.A.mark (some e)) H) : Inv (X.hand e) pins σ H s :=
  ⟨⟨I.ok.mod, I.ok.kind, I.ok.glob, I.ok.blt, I.ok.above, I.ok.inj, I.ok.has, I.ok.cab, (fun z => by cases z), I.ok.frames, I.ok.stk, I.ok.exf, I.ok.bs, I.ok.bsz, I.ok.noex, I.ok.exfs, I.ok.funs, I.ok.frf⟩, I.os, I.bare, I.base, I.loc, I.cell, I.free, I.freeC, I.pin, I.hok, I.len, hn⟩
theorem Inv.unhand {e : Value} (hd : X.calm = true → X.A.handled = none) (hn : X.A.handled = none) (I : Inv (X.hand e) pins σ H s) : Inv X pins σ H s :=
  ⟨⟨I.ok.mod, I.ok.kind, I.ok.glob, I.ok.blt, I.ok.above, I.ok.inj, I.ok.has, I.ok.cab, hd, I.ok.frames, I.ok.stk, I.ok.exf, I.ok.bs, I.ok.bsz, I.ok.noex, I.ok.exfs, I.ok.funs, I.ok.frf⟩, I.os, I.bare, I.base, I.loc, I.cell, I.free, I.freeC, I.pin, I.hok, I.len, .inl hn⟩
end
def tTry (K : PySem.W.Frag) (C0 : Addr) (i : Nat) (tb : (St → XK) → TS) (th : TS) : TS := fun D σ H =>
  tb (fun σ1 cls _ H1 => ∃ C, cls = .ref C ∧ PySem.W.exmOne K (.ref C) (.ref C0) = some true ∧ ∀ ea oe, H1 ea = none → th { nx := fun _ _ => False, rt := D.rt } (σ1.set i (some (.ref ea))) (upd H1 ea (.frz oe (.exc ea C)))) D σ H
section
variable {X : Cx} {body : List Stmt} {b0 : Stmt} {suite : List Stmt} {cn n : Str} {np hpos pos : Pos} {C0 : Addr} {i : Nat} {tb : (St → XK) → TS} {th : TS}
theorem ps_try (hcm : X.calm = true) (hx0 : X.ex = []) (hst : X.stack = X.env :: X.outer) (hf : X.env.frame = some X.env.locals) (hN : X.N.Nodup) (hi : X.N[i]? = some n) (hn : X.env.kindOf n = some .local) (hg : Gl X cn) (hm : X.mg cn = some (.ref C0))
    (hb : ∀ (pins : List (Addr × Obj)) (E : Value → Shared → Prop) (Es : St → XK), PassS (X.tryb pins E) Es → PSs (X.tryb pins E) body (tb Es)) (hh : ∀ e, PSs (X.hand e) (b0 :: suite) th)
    (hd : (cn == ("__debug__" : Str)) = false := by decide) :
    PS X (.Try body [.ExceptHandler (some (.Name cn np)) (some n) (b0 :: suite) hpos] [] [] pos) (tTry X.K C0 i tb th) := by
  intro pins s σ H D I h
  have pass : PassS (X.tryb pins fun e s1 => wpAny (model X.prog X.w) X.A (noteFrame e X.env) (fun _ s2 => wpAny (model X.prog X.w) X.A (setFlight e none) (fun _ s3 =>
      wpAny (model X.prog X.w) X.A (handleBy e X.env [.ExceptHandler (some (.Name cn np)) (some n) (b0 :: suite) hpos]) (SP X pins D) X.xe s3) X.xe s2) X.xe s1)
      (fun σ1 cls _ H1 => ∃ C, cls = .ref C ∧ PySem.W.exmOne X.K (.ref C) (.ref C0) = some true ∧ ∀ ea oe, H1 ea = none → th { nx := fun _ _ => False, rt := D.rt } (σ1.set i (some (.ref ea))) (upd H1 ea (.frz oe (.exc ea C)))) := by
    intro pins1 σ1 H1 s1 e s' I1 hx
    obtain ⟨ea, C, H', rfl, os, bare, un, hok, fl, Cc, ec, hex, q⟩ := hx
    cases ec
    have J : Inv X pins σ1 H1 s1 := I1.untry
    have J1 : Inv X pins σ1 H' s' := J.call' (ch := []) os un hok bare (fun b z => absurd z (by simp))
    obtain ⟨oe, vs, T, oT, ts, a0, e1, e2, e3, e4, e5, e7, e8, e9, e10, e11, e12, c3, cx⟩ := fl.ex
    have hfr : X.A.frames = some (X.env :: X.outer) := by rw [← hst]; exact I.ok.frames
    have hch : ∀ b ∈ [ea, T], s1.heap.get? b = none ∧ H' b = none := fun b hb => by
      rcases List.mem_cons.mp hb with rfl | hb
      · exact ⟨fl.new, fl.free⟩
      · obtain rfl : b = T := by simpa using hb
        exact ⟨e11, e12⟩
    show wpAny _ _ (noteFrame (.ref ea) X.env) _ _ _
    refine note_next (base := PySem.W.hideAll s'.heap ([ea, T] ++ frs X.stack)) (cls := .ref C) (a0 := a0) hfr (frames_hid J1 hst [ea, T]) hf
      ⟨oe, vs, T, oT, ts, e1, ⟨e2, e3, c3⟩, e4, e5, PySem.W.hideAll_none _ (by simp), e7, e8, e9, e10⟩ (fun b o q => PySem.W.of_hideAll _ q) (PySem.W.hideAll_none _ (by simp)) fun h2 S2 => ?_
    refine flight_c (s := { s' with heap := h2 }) S2.st S2.ff S2.tr fun h3 S3 _ => ?_
    obtain ⟨J3, F3⟩ := fly_after (ch := [ea, T]) J hst os bare un hok hch (by simp) cx ⟨S3.st, S3.ff, S3.tr, S2.up.trans S3.up⟩
    have hA : X.A.handled = none := I.ok.hd hcm
    have nL : ea ≠ X.env.locals := fun z => by
      obtain ⟨m, ⟨o, _, _, ho, _⟩, _⟩ := J.loc
      have := fl.new; rw [z, ho] at this; cases this
    have h0' : X.s₀.heap.get? ea = none := by
      cases q0 : X.s₀.heap.get? ea with
      | none => rfl
      | some o =>
        obtain ⟨o', z⟩ := J.base.there ea o q0 (by rw [hx0]; simp)
        have := fl.new; rw [z] at this; cases this
    have track : ∀ g, Inv X pins σ1 H' { s' with heap := g } → Flies s1.heap g H' ea C → ∃ ob us c, g.get? ea = some ob ∧ ob.cls = .ref C ∧ ob.data = .fields us ∧ (us[2]? = some c ∧ CxO H' c) ∧ Inv X pins σ1 (upd H' ea (.frz ob (.exc ea C))) { s' with heap := g } := fun g Jg Fg => by
      obtain ⟨ob, us, _, _, _, b0', f1, f2, _, f4, _, _, _, _, _, _, _, f5, f6⟩ := Fg.ex
      exact ⟨ob, us, b0'.2, f1, f2, f4, ⟨f5, f6⟩, Jg.track Fg.free h0' nL (fun x c ec z => by
        obtain ⟨v, o, ho, _⟩ := J.cell x c ec
        have := fl.new; rw [← z, ho] at this; cases this) (fun p hp z => by
        have := (J.pin p hp).1
        rw [z, fl.new] at this; cases this) ⟨f1, exc_ok ⟨ob, us, f1, f2, f4⟩⟩⟩
    obtain ⟨o3, v3, x3, g1, g2, g3, g4, J3t⟩ := track h3 J3 F3
    have J3h : Inv (X.hand (.ref ea)) pins σ1 (upd H' ea (.frz o3 (.exc ea C))) { s' with heap := h3 } := J3t.hand (.inr ⟨ea, rfl, .cons upd_same g3 g4.1 (g4.2.upd fl.free)⟩)
    have L : PySem.W.Looks (model X.prog X.w) h3 (typeOf (.ref ea)) (.ref C) := g2 ▸ (PySem.W.Looks.ld g1).andThen .now
    refine wpAny_handleBy_cons (codeAny_handlers_test (ld_glob (X := X.hand (.ref ea)) J3h hg hm ?_ hd)) (by intro q; cases q)
    refine (PySem.W.exm_one J3.kIn L hex).here ?_
    refine codeAny_handlers_suite_as ?_
    refine flight_c (s := { s' with heap := h3 }) S3.st S3.ff S3.tr fun h4 S4 _ => ?_
    obtain ⟨J4, F4⟩ := fly_after (ch := [ea, T]) J hst os bare un hok hch (by simp) cx ⟨S4.st, S4.ff, S4.tr, (S2.up.trans S3.up).trans S4.up⟩
    obtain ⟨o4, v4, x4, _, _, d4, c4, J5⟩ := track h4 J4 F4
    refine store_ok (M := model X.prog X.w) (v := .ref ea) J5 hN hi (.inl hn) rfl (fun s6 J6 => ?_) (.inr hn)
    refine wpAny_mono (hh (.ref ea) pins s6 _ _ { nx := fun _ _ => False, rt := D.rt } (J6.hand (.inr ⟨ea, rfl, .cons upd_same d4 c4.1 (c4.2.upd fl.free)⟩)) (q ea o4 F4.free)) (fun fl7 s7 q7 => ?_) fun _ _ z => z.elim
    cases fl7 with
    | next => obtain ⟨_, _, _, z⟩ := q7; exact z.elim
    | brk => obtain ⟨_, _, _, z⟩ := q7; exact z.elim
    | cont => obtain ⟨_, _, _, z⟩ := q7; exact z.elim
    | ret u =>
      obtain ⟨v, σ7, H7, J7, r7, d7⟩ := q7
      have J7x : Inv X pins σ7 H7 s7 := J7.unhand I.ok.hd hA
      obtain ⟨m7, hn7, _⟩ := J7x.loc
      have hcls : (X.env.scope.kind == .class || (X.env.scope.kind == .module && X.env.locals != X.env.globals)) = false := by rw [I.ok.kind]; rfl
      refine wpAny_nameGoes hn hn7 hcls fun h8 m8 hn8 sb8 => ?_
      exact ⟨v, List.replicate X.N.length none, H7, J7x.relocal sb8 hn8, r7, d7⟩
  refine wpAny_Try_except (wpAny_mono (hb pins _ _ pass [] s σ H D I.tryb h) (fun f s1 q1 => ?_) fun e s1 q1 => q1)
  cases f with
  | next =>
    obtain ⟨σ1, H1, I1, q⟩ := q1
    exact wpAny_execs_nil ⟨σ1, H1, I1.untry, q⟩
  | brk => obtain ⟨σ1, H1, I1, q⟩ := q1; exact ⟨σ1, H1, I1.untry, q⟩
  | cont => obtain ⟨σ1, H1, I1, q⟩ := q1; exact ⟨σ1, H1, I1.untry, q⟩
  | ret u => obtain ⟨v, σ1, H1, I1, r, q⟩ := q1; exact ⟨v, σ1, H1, I1.untry, r, q⟩
end
end L2
set_option Elab.async false
set_option linter.all false
set_option maxRecDepth 100000
namespace L2
open PySem PySem.Spec PyProof.Rows
section
variable {P : Program} {w : World} {K : PySem.W.Frag} {mg : Str → Option Value} {base : Heap} {k : Nat} {x m : Str} {C : Addr} {ps : List Str} {sp : Sp}
structure GoodF (P : Program) (w : World) (K : PySem.W.Frag) (mg : Str → Option Value) (base : Heap) (k : Nat) (x : Str) (ps : List Str) (sp : Sp) (c : Bool := true) : Prop where
  ex : ∃ f fd, FnOk P w K mg base (XC P w) k f fd ps sp c ∧ Binds K fd ps [] ∧ PySem.W.keepIn K (.ref f) = true ∧ mg x = some (.ref f)
structure GoodC (P : Program) (w : World) (K : PySem.W.Frag) (mg : Str → Option Value) (base : Heap) (k : Nat) (x : Str) (C : Addr) (ps : List Str) (sp : Sp) : Prop where
  ex : ∃ f fd, Mk K C f ∧ FnOk P w K mg base (XC P w) k f fd ps sp ∧ Binds K fd ps [] ∧ mg x = some (.ref C)
structure GoodM (P : Program) (w : World) (K : PySem.W.Frag) (mg : Str → Option Value) (base : Heap) (k : Nat) (C : Addr) (m : Str) (ps : List Str) (sp : Sp) : Prop where
  cl : Cls K C
  ex : ∃ f fd, Meth K C m f ∧ FnOk P w K mg base (XC P w) k f fd ps sp ∧ Binds K fd ps []
end
section
variable {X : Cx} {k : Nat} {x m : Str} {C : Addr} {ps : List Str} {sp : Sp} {E : XK} {p pos apos : Pos} {e o : Expr} {es : List Expr} {ta : TE} {t : TA}
theorem pe_callG {cm : Bool} (G : GoodF X.prog X.w X.K X.mg X.base k x ps sp cm) (hr : RoomC cm k X.A) (hx : Passes (XC X.prog X.w) X E) (hg : Gl X x) (ha : PA X (e :: es) t)
    (hdb : (x == ("__debug__" : Str)) = false := by decide) (he : starEach (e :: es) X.env = (false, eval e X.env) :: starEach es X.env := by rfl) (hpl : (backTo pos (starEach es X.env)).any (·.1) = false := by rfl) :
    PE X (.Call (.Name x p) (e :: es) [] pos) (tCall sp [] E t) := by
  obtain ⟨f, fd, F, b, kp, mgx⟩ := G.ex
  exact pe_call F hr hg mgx kp b .nil hx ha hdb he hpl
theorem pe_callGS {cm : Bool} {Es : St → XK} (G : GoodF X.prog X.w X.K X.mg X.base k x ps sp cm) (hr : RoomC cm k X.A) (hx : PassS X Es) (hg : Gl X x) (ha : PA X (e :: es) t)
    (hdb : (x == ("__debug__" : Str)) = false := by decide) (he : starEach (e :: es) X.env = (false, eval e X.env) :: starEach es X.env := by rfl) (hpl : (backTo pos (starEach es X.env)).any (·.1) = false := by rfl) :
    PE X (.Call (.Name x p) (e :: es) [] pos) (tCallS sp Es t) := by
  obtain ⟨f, fd, F, b, kp, mgx⟩ := G.ex
  exact pe_callS F hr hg mgx kp b hx ha hdb he hpl
theorem pe_makeG (G : GoodC X.prog X.w X.K X.mg X.base k x C ps sp) (hr : Room (k + 1) X.A) (hx : Passes (XC X.prog X.w) X E) (hg : Gl X x) (ha : PA X (e :: es) t)
    (hdb : (x == ("__debug__" : Str)) = false := by decide) (he : starEach (e :: es) X.env = (false, eval e X.env) :: starEach es X.env := by rfl) (hpl : (backTo pos (starEach es X.env)).any (·.1) = false := by rfl) :
    PE X (.Call (.Name x p) (e :: es) [] pos) (tMake C sp [] E t) := by
  obtain ⟨f, fd, M, F, b, mgx⟩ := G.ex
  exact pe_make M F hr hg mgx b .nil hx ha hdb he hpl
theorem pe_methG {pl : Sem Bool} (ho : PE X o ta) (G : GoodM X.prog X.w X.K X.mg X.base k C m ps sp) (hr : Room k X.A) (hx : Passes (XC X.prog X.w) X E) (ha : PA X (e :: es) t)
    (hst : starEach (e :: es) X.env = (false, eval e X.env) :: starEach es X.env := by rfl) (hpl : (backTo pos (starEach es X.env)).any (·.1) = false := by rfl)
    (ht : eval (.Call (.Attribute o m apos) (e :: es) [] pos) X.env = (do
      let ov ← eval o X.env
      standAt apos.atName
      let (f, first) ← holding [ov] (getMethod ov m pl)
      callWith pos f first (backTo pos (starEach (e :: es) X.env)) (backToKw pos (keywordEach [] X.env))) := by rfl) :
    PE X (.Call (.Attribute o m apos) (e :: es) [] pos) (tMeth C m sp [] E ta t) := by
  obtain ⟨f, fd, M, F, b⟩ := G.ex
  exact pe_meth ho G.cl M F hr b .nil hx ha hst hpl ht
def rMeth0 (C : Addr) (m : Str) (sp : Sp) (E : XK) : V → Hp → VK → Prop := fun x H Q => ∃ a dx fs, x = .ref a ∧ H a = some (.ins C dx fs) ∧ fs.lookup m = none ∧ sp [x] H Q E
def M0R (X : Cx) (m : Str) (r : V → Hp → VK → Prop) : Prop := ∀ (pins : List (Addr × Obj)) (s : Shared) (σ : St) (H : Hp) (x : V) (u : Value) (Q : VK) (pl : Sem Bool) (pos : Pos), Inv X pins σ H s → RelV x u → r x H Q →
  wpAny (model X.prog X.w) X.A (holding [u] (getMethod u m pl)) (fun fm s1 => wpAny (model X.prog X.w) X.A (callWith pos fm.1 fm.2 (backTo pos (starEach [] X.env)) (backToKw pos (keywordEach [] X.env))) (EP X pins σ Q) X.xe s1) X.xe s
theorem m0_of (G : GoodM X.prog X.w X.K X.mg X.base k C m ps sp) (hr : Room k X.A) (hx : Passes (XC X.prog X.w) X E) : M0R X m (rMeth0 C m sp E) := by
  intro pins s σ H x u Q pl pos I r h
  obtain ⟨f, fd, M, F, b⟩ := G.ex
  obtain ⟨a, dx, fs, rfl, ea, l, q⟩ := h
  obtain rfl : u = Value.ref a := r
  refine wpAny_holding (getmeth_ok I ea G.cl M l ?_)
  exact PySem.W.callWith_K0 (first := [.ref a]) I.kIn M.kp (run_fn (us := [.ref a]) (vs := [.ref a]) F hr b .nil hx I (.cons rfl .nil) q)
theorem M0R.or {r r' : V → Hp → VK → Prop} (h : M0R X m r) (h' : M0R X m r') : M0R X m (fun x H Q => r x H Q ∨ r' x H Q) := by
  intro pins s σ H x u Q pl pos I rr hw
  rcases hw with z | z
  · exact h pins s σ H x u Q pl pos I rr z
  · exact h' pins s σ H x u Q pl pos I rr z
def tM0 (r : V → Hp → VK → Prop) (ta : TE) : TE := fun σ H Q => ta σ H fun x H1 => r x H1 Q
theorem pe_meth0G {pl : Sem Bool} {r : V → Hp → VK → Prop} (hr : M0R X m r) (ho : PE X o ta)
    (ht : eval (.Call (.Attribute o m apos) [] [] pos) X.env = (do
      let ov ← eval o X.env
      standAt apos.atName
      let (f, first) ← holding [ov] (getMethod ov m pl)
      callWith pos f first (backTo pos (starEach [] X.env)) (backToKw pos (keywordEach [] X.env))) := by rfl) : PE X (.Call (.Attribute o m apos) [] [] pos) (tM0 r ta) := by
  intro pins s σ H Q I h
  rw [ht]
  refine wpAny_bind (thn (ho pins s σ H _ I h) fun u s1 ⟨x, H1, I1, rx, q⟩ => wpAny_bind (wpAny_standAt (wpAny_bind ?_)))
  exact hr pins s1 σ H1 x u Q pl pos I1 rx q
end
inductive ClsV : V → Value → Prop where
  | ty (n : String) : ClsV (.ty n) (.type n)
  | ref (a : Addr) : ClsV (.ref a) (.ref a)
theorem ClsV.val {c : V} {cv u : Value} (h : ClsV c cv) (r : RelV c u) : u = cv := by cases h <;> exact r
section
variable {X : Cx}
theorem call_isi : CallR X (.builtin "isinstance") (fun xs H Q => ∃ x c t cv b, xs = [x, c] ∧ TyOf X.K H x t ∧ ClsV c cv ∧ PySem.W.kitOne X.K t cv = some b ∧ Q (.bl b) H) := by
  intro pins s σ H xs us Q I r h
  obtain ⟨x, c, t, cv, b, rfl, ty, hc, e, q⟩ := h
  obtain ⟨u, w, rfl, ru, rc⟩ := vals2 r
  obtain rfl := hc.val rc
  exact isinst_ok I ru ty e fun tk => ⟨.bl b, H, I.tok tk, rfl, q⟩
end
def Itz (K : PySem.W.Frag) (a b : Addr) : It :=
  ⟨fun i H => ∃ xs ys x y, SqL K H a xs ∧ SqL K H b ys ∧ xs[i]? = some x ∧ ys[i]? = some y,
   fun i H v H' => ∃ p x y, H p = none ∧ v = .ref p ∧ H' = upd H p (.tup [x, y]) ∧ ∀ xs ys, SqL K H a xs → SqL K H b ys → xs[i]? = some x ∧ ys[i]? = some y,
   fun i H => ∃ xs ys, SqL K H a xs ∧ SqL K H b ys ∧ (xs.length ≤ i ∨ ys.length ≤ i)⟩
theorem Inv.turnedL {X : Cx} {pins : List (Addr × Obj)} {σ : St} {H : Hp} {s : Shared} {h' : Heap} {t' : Nat} {ch : List Addr} (I : Inv X pins σ H s) (fp : ∀ c ∈ ch, FpOk X pins H c) (keep : ∀ c o, c ∉ ch → s.heap.get? c = some o → h'.get? c = some o) :
    Inv X pins σ H { s with heap := h', toks := t' } := by
  have nfp : ∀ c o, H c = some o → c ∉ ch := fun c o e hc => by have := (fp c hc).1; rw [e] at this; cases this
  refine I.step (g' := s.gens) (d' := s.drawn) (ch := ch) (fun c hc => ⟨(fp c hc).2.2.2.1, (fp c hc).2.1, (fp c hc).2.2.2.2.1, (fp c hc).2.2.2.2.2⟩)
    (fun c o _ _ hc e _ => keep c o hc e) (fun c o _ _ hc e _ => ⟨o.slots, keep c o hc e⟩) (fun _ _ _ _ n => n) (fun c o hc e => ⟨o, keep c o hc e⟩) (fun _ _ e => e) (fun _ _ _ e => e) (fun c ps e => ⟨#[], by rw [e]; simp⟩) (fun m hm => ?_) (fun c o e => ?_) I.bare
  · obtain ⟨o, es, ep, ho, r⟩ := hm
    exact ⟨o, es, ep, keep _ o (fun hc => (fp _ hc).2.1 rfl) ho, r⟩
  · refine (I.hok c o e).stay (fun d u hd q => keep d u ?_ q) (fun _ q => q) fun _ _ q => q
    rcases hd with z | z
    · rw [z]; exact nfp c o e
    · exact nfp d _ z
theorem turn_zip {P : Program} {w : World} {K : PySem.W.Frag} {elts : List Expr} {kk : Nat} {tpos : Pos} (z TI TO i1 i2 l1 l2 : Addr) (D : ZipApart z TI TO i1 i2 l1 l2) :
    Turn P w K (.Tuple elts kk tpos) (Itz K l1 l2) [z, TI, TO, i1, i2] z (fun i h => IsZip h z TI TO .none ∧ IsPair h TI (.ref i1) (.ref i2) ∧ (∃ a b, IsPair h TO a b) ∧ h.IsListIter i1 l1 i ∧ h.IsListIter i2 l2 i) true where
  mem := by simp
  obj := fun i h st b hb => by
    obtain ⟨q1, q2, ⟨_, _, q3⟩, ⟨o4, q4, _, d4⟩, ⟨o5, q5, _, d5⟩⟩ := st
    simp only [List.mem_cons, List.not_mem_nil, or_false] at hb
    rcases hb with rfl | rfl | rfl | rfl | rfl
    · exact ⟨_, q1, fun v e => by cases e⟩
    · exact ⟨_, q2, fun v e => by cases e⟩
    · exact ⟨_, q3, fun v e => by cases e⟩
    · exact ⟨_, q4, fun v e => by rw [d4] at e; cases e⟩
    · exact ⟨_, q5, fun v e => by rw [d5] at e; cases e⟩
  keep := fun i h h' st k => by
    obtain ⟨q1, q2, ⟨a, b, q3⟩, q4, q5⟩ := st
    exact ⟨k z (by simp) _ q1, k TI (by simp) _ q2, ⟨a, b, k TO (by simp) _ q3⟩, q4.at fun o e => k i1 (by simp) o e, q5.at fun o e => k i2 (by simp) o e⟩
  item := by
    intro X hP hw hK hc i pins s σ H E I hf st hg
    subst hP hw hK
    obtain ⟨xs, ys, x, y, hx, hy, ex, ey⟩ := hg
    obtain ⟨its, rv, p, _⟩ := I.list hx
    obtain ⟨jts, rw', p', _⟩ := I.list hy
    obtain ⟨u, hu, ru⟩ := rv.get ex
    obtain ⟨v, hv, rv'⟩ := rw'.get ey
    obtain ⟨q1, q2, ⟨a, b, q3⟩, q4, q5⟩ := st
    refine wpAny_pyNext_zip_item D q1 q2 q3 q4 q5 p.isList p'.isList (x := u) (y := v) (by simpa using hu) (by simpa using hv) fun h1 z1 z2 z3 z4 z5 z6 z7 => ?_
    refine ⟨_, rfl, wpAny_letOwnedTupleGo_zip (s := { s with heap := h1 }) z1 fun h2 z1' sb => ?_⟩
    have fz := hf z (by simp)
    have fO := hf TO (by simp)
    have f1 := hf i1 (by simp)
    have f2 := hf i2 (by simp)
    have keep : ∀ c o, c ∉ [z, TO, i1, i2] → s.heap.get? c = some o → h2.get? c = some o := fun c o hc e => by
      simp only [List.mem_cons, List.not_mem_nil, or_false, not_or] at hc
      exact (sb.2 c hc.1).trans (z7 c o hc.1 hc.2.1 hc.2.2.1 hc.2.2.2 e)
    have hlt : ∀ {c o}, s.heap.get? c = some o → c ≠ s.heap.objs.size := fun e => Nat.ne_of_lt (Heap.lt_size e)
    have g4 := q4
    have g5 := q5
    obtain ⟨o4, e4, _, _⟩ := g4
    obtain ⟨o5, e5, _, _⟩ := g5
    have fp : ∀ c ∈ [z, TO, i1, i2], FpOk X pins H c := fun c hc => by
      simp only [List.mem_cons, List.not_mem_nil, or_false] at hc
      rcases hc with rfl | rfl | rfl | rfl
      · exact fz
      · exact fO
      · exact f1
      · exact f2
    have I1 : Inv X pins σ H { s with heap := h2 } := I.turnedL (t' := s.toks) fp keep
    have hp : H s.heap.objs.size = none := I.fresh
    have tp : h2.get? s.heap.objs.size = some { cls := .type "tuple", data := .seq #[u, v] } := (sb.2 _ (Ne.symm (hlt q1))).trans z5
    have I2 : Inv X pins σ (upd H s.heap.objs.size (.tup [x, y])) { s with heap := h2 } := I1.track hp (Heap.get?_none_of_le I.sz) (Nat.ne_of_gt I.lt)
      (fun n c e zz => by obtain ⟨v0, o0, h0, _⟩ := I.cell n c e; exact hlt h0 zz) (fun q hq zz => hlt (I.pin q hq).1 zz) ⟨by show 2 ≤ sizeLine; decide, [u, v], .cons ru (.cons rv' .nil), _, tp, rfl, _, rfl⟩
    refine ⟨.ref s.heap.objs.size, _, I2, rfl, ⟨_, x, y, hp, rfl, rfl, fun xs' ys' hx' hy' => ?_⟩, ⟨z1', ?_, ⟨u, v, (sb.2 _ D.TOz).trans z2⟩, z3.extBut sb.extBut D.i1z, z4.extBut sb.extBut D.i2z⟩, fun c hc => ?_⟩
    · rw [I.list_inj hx' hx, I.list_inj hy' hy]; exact ⟨ex, ey⟩
    · exact (sb.2 _ D.TIz).trans (z7 _ _ D.TIz D.TITO D.TIi1 D.TIi2 q2)
    · have hcn := (hf c hc).1
      rw [upd_ne ?_]
      · exact hcn
      · simp only [List.mem_cons, List.not_mem_nil, or_false] at hc
        rcases hc with rfl | rfl | rfl | rfl | rfl
        · exact hlt q1
        · exact hlt q2
        · exact hlt q3
        · exact hlt e4
        · exact hlt e5
  done := by
    intro X hP hw hK hc i pins s σ H E I hf st hg
    subst hP hw hK
    obtain ⟨xs, ys, hx, hy, hend⟩ := hg
    obtain ⟨its, rv, p, _⟩ := I.list hx
    obtain ⟨jts, rw', p', _⟩ := I.list hy
    obtain ⟨q1, q2, ⟨a, b, q3⟩, q4, q5⟩ := st
    have hl := rv.length
    have hl' := rw'.length
    refine wpAny_pyNext_zip_end (I.ok.hd (hc rfl)) D q1 q2 q3 q4 q5 p.isList p'.isList (by simp; omega) fun h1 k => ⟨rfl, ?_⟩
    refine I.turnedL (t' := s.toks) (ch := [z, TO, i1, i2]) (fun c hc => hf c ?_) fun c o hc e => ?_
    · simp only [List.mem_cons, List.not_mem_nil, or_false] at hc ⊢
      rcases hc with h | h | h | h <;> simp [h]
    · simp only [List.mem_cons, List.not_mem_nil, or_false, not_or] at hc
      exact k c o hc.1 hc.2.1 hc.2.2.1 hc.2.2.2 e
  self := fun _ _ _ _ _ st h => wpAny_pyIter_zip st.1 h
section
variable {X : Cx} {elts : List Expr} {kk : Nat} {tpos : Pos}
def iZip (K : PySem.W.Frag) (ta : TA) : TI := fun σ H R => ta σ H fun vs H1 => ∃ a b, vs = [.ref a, .ref b] ∧ (∃ xs, SqL K H1 a xs) ∧ (∃ ys, SqL K H1 b ys) ∧ R (Itz K a b) H1
theorem pi_zip {a b : Expr} {ta : TA} {p pos : Pos} (hcm : X.calm = true) (hg : Gl X "zip") (hm : X.mg "zip" = none) (ha : PA X [a, b] ta) (hs : starEach [a, b] X.env = [(false, eval a X.env), (false, eval b X.env)] := by rfl) (hs2 : starEach [b] X.env = [(false, eval b X.env)] := by rfl) :
    PI X (.Tuple elts kk tpos) (.Call (.Name "zip" p) [a, b] [] pos) (iZip X.K ta) := by
  intro pins s σ H R I h
  refine Call_ (ld_blt I hg hm boot_zip (PyProof.Rows.callWith_type1 (thn (ha pos pins s σ H _ I h) fun us s1 ⟨vs, H1, I1, r1, q1⟩ => ?_) (by rw [hs, hs2]) (by rw [hs2]; rfl)))
  obtain ⟨l1, l2, e, ⟨xs, hx⟩, ⟨ys, hy⟩, q⟩ := q1
  subst e
  obtain ⟨u, v, rfl, ru, rv⟩ := vals2 r1
  cases ru
  cases rv
  obtain ⟨its, _, p1, _⟩ := I1.list hx
  obtain ⟨jts, _, p2, _⟩ := I1.list hy
  have a1 : l1 < s1.heap.objs.size := by obtain ⟨_, e, _⟩ := p1.isList; exact Heap.lt_size e
  have a2 : l2 < s1.heap.objs.size := by obtain ⟨_, e, _⟩ := p2.isList; exact Heap.lt_size e
  refine call_zip_2 p1.isList p2.isList fun h' z1 z2 z3 z4 z5 z6 k => wpAny_pyIter_zip (s := { s1 with heap := h' }) z1 ?_
  have I2 : Inv X pins σ H1 { s1 with heap := h' } := I1.kept (t' := s1.toks) k
  refine ⟨s1.heap.objs.size + 4, [s1.heap.objs.size + 4, s1.heap.objs.size + 2, s1.heap.objs.size + 3, s1.heap.objs.size, s1.heap.objs.size + 1], _, _, H1, rfl, I2, ⟨true, turn_zip _ _ _ _ _ l1 l2 (zipApart_new a1 a2), fun _ => hcm⟩, ⟨z1, z2, ⟨_, _, z3⟩, z4, z5⟩, fun c hc => ?_, q⟩
  have le : s1.heap.objs.size ≤ c := by
    simp only [List.mem_cons, List.not_mem_nil, or_false] at hc
    rcases hc with rfl | rfl | rfl | rfl | rfl <;> omega
  exact I1.fpOk le (I1.hok.fresh le)
end
def Its (lo c : Int) (n : Nat) : It := ⟨fun i _ => i < n, fun i H x H' => H' = H ∧ x = .int (lo + i * c), fun i _ => n ≤ i⟩
theorem turn_step {P : Program} {w : World} {K : PySem.W.Frag} {tg : Expr} (it : Addr) (lo c : Int) (n : Nat) : Turn P w K tg (Its lo c n) [it] it (fun i h => IsRangeIter h it (lo + (i : Nat) * c) ((n : Int) - (i : Nat)) c) false where
  mem := by simp
  obj := fun i h st b hb => by
    obtain rfl : b = it := by simpa using hb
    exact ⟨_, st, fun v z => by cases (show Data.fields _ = Data.cell v from z)⟩
  keep := fun i h h' st k => k it (by simp) _ st
  item := by
    intro X hP hw hK hc i pins s σ H E I hf st hg
    subst hP hw hK
    obtain ⟨f0, f1, f2, f3, f4, f5⟩ := hf it (by simp)
    refine wpAny_pyNext_range_item st (by have : i < n := hg; omega) fun h' st' sb => ?_
    have I1 : Inv X pins σ H { s with heap := h', toks := s.toks + 1 } := I.turned (fun b o hb e => (sb.2 b hb).trans e) f0 f1 f3 f4 f5
    have st2 : IsRangeIter h' it (lo + ((i + 1 : Nat) : Int) * c) ((n : Int) - ((i + 1 : Nat) : Int)) c := by
      have e1 : lo + ((i + 1 : Nat) : Int) * c = lo + (i : Int) * c + c := by rw [Int.natCast_add, Int.add_mul]; simp [Int.add_assoc]
      have e2 : (n : Int) - ((i + 1 : Nat) : Int) = (n : Int) - (i : Int) - 1 := by omega
      rw [e1, e2]; exact st'
    exact ⟨_, rfl, go_of (s := { s with heap := h', toks := s.toks + 1 }) (n := "range_iterator") st' rfl rfl (by decide) ⟨.int (lo + i * c), H, I1, ⟨_, rfl⟩, ⟨rfl, rfl⟩, st2, fun b hb => (hf b hb).1⟩⟩
  done := by
    intro X hP hw hK hc i pins s σ H E I hf st hg
    subst hP hw hK
    obtain ⟨f0, f1, f2, f3, f4, f5⟩ := hf it (by simp)
    have hn : n ≤ i := hg
    exact range_on (I.hn.now I.hok) st (by omega) fun h' eb => ⟨rfl, I.turned (t' := s.toks) (fun b o hb e => eb b o hb e) f0 f1 f3 f4 f5⟩
  self := fun _ _ _ _ _ st h => wpAny_pyIter_rangeiter st h
section
variable {X : Cx} {tg : Expr}
def iRng3 (ta : TA) : TI := fun σ H R => ta σ H fun vs H1 => ∃ i j c : Int, vs = [.int i, .int j, .int c] ∧ (0 < c ∧ c < 1000 ∧ -(2 ^ 61) ≤ i ∧ i < 2 ^ 61 ∧ -(2 ^ 61) ≤ j ∧ j < 2 ^ 61) ∧ R (Its i c (Builtin.Range.rangeSize i j c).toNat) H1
theorem size_nn (i j c : Int) (hc : 0 < c) : 0 ≤ Builtin.Range.rangeSize i j c := by
  unfold Builtin.Range.rangeSize
  rw [if_pos hc]
  split
  · have := Int.ediv_nonneg (a := j - i - 1) (b := c) (by omega) (by omega)
    omega
  · exact Int.le_refl _
theorem small_step {i j c : Int} (hc : 0 < c) (hc2 : c < 1000) (h1 : -(2 ^ 61) ≤ i) (h2 : i < 2 ^ 61) (h3 : -(2 ^ 61) ≤ j) (h4 : j < 2 ^ 61) : Builtin.Range.small i j c = true := by
  have hs : 0 ≤ Builtin.Range.rangeSize i j c ∧ Builtin.Range.rangeSize i j c ≤ 2 ^ 62 := by
    refine ⟨size_nn i j c hc, ?_⟩
    unfold Builtin.Range.rangeSize
    rw [if_pos hc]
    split
    · have := Int.ediv_le_self (a := j - i - 1) c (by omega)
      omega
    · decide
  unfold Builtin.Range.small
  rw [if_pos hc]
  simp only [Builtin.Range.rangeFitsLong, Bool.and_eq_true, Bool.or_eq_true, decide_eq_true_eq, beq_iff_eq]
  generalize Builtin.Range.rangeSize i j c = z at hs
  omega
theorem pi_range3 {a b d : Expr} {ta : TA} {p pos : Pos} (hg : Gl X "range") (hm : X.mg "range" = none) (ha : PA X [a, b, d] ta)
    (hs : starEach [a, b, d] X.env = (false, eval a X.env) :: starEach [b, d] X.env := by rfl) (hpl : (backTo pos (starEach [b, d] X.env)).any (·.1) = false := by rfl) : PI X tg (.Call (.Name "range" p) [a, b, d] [] pos) (iRng3 ta) := by
  intro pins s σ H R I h
  refine Call_ (ld_blt I hg hm boot_range (PyProof.Rows.callWith_type1 (thn (ha pos pins s σ H _ I h) fun us s1 ⟨vs, H1, I1, r1, q1⟩ => ?_) hs hpl))
  obtain ⟨i, j, c, e, ⟨q1, q2, q3, q4, q5, q6⟩, q⟩ := q1
  subst e
  cases r1 with
  | cons ra rr =>
    cases rr with
    | cons rb rr =>
      cases rr with
      | cons rc rr =>
        cases rr
        obtain ⟨t, rfl⟩ := ra
        obtain ⟨u, rfl⟩ := rb
        obtain ⟨v, rfl⟩ := rc
        refine call_range_3 (by omega) ?_ (.inl (PyProof.noPylong_small (by omega)))
        have I2 : Inv X pins σ H1 { s1 with heap := s1.heap.push { cls := .type "range", data := .fields #[.int i t, .int j u, .int c v] }, toks := s1.toks } := I1.kept fun b o e => Heap.get?_push_of_some _ e
        refine wpAny_pyIter_range (IsRange.new ..) (small_step q1 q2 q3 q4 q5 q6) ?_
        refine ⟨_, [(s1.heap.push { cls := .type "range", data := .fields #[.int i t, .int j u, .int c v] }).objs.size], _, _, H1, rfl, I2.kept (t' := s1.toks) fun b o e => Heap.get?_push_of_some _ e, TurnX.of (turn_step _ i c (Builtin.Range.rangeSize i j c).toNat), ?_, fun b hb => ?_, q⟩
        · have e2 : (((Builtin.Range.rangeSize i j c).toNat : Nat) : Int) - ((0 : Nat) : Int) = Builtin.Range.rangeSize i j c := by have := size_nn i j c q1; omega
          show IsRangeIter _ _ (i + ((0 : Nat) : Int) * c) ((((Builtin.Range.rangeSize i j c).toNat : Nat) : Int) - ((0 : Nat) : Int)) c
          rw [e2, show i + ((0 : Nat) : Int) * c = i by simp]
          exact Heap.get?_push_size _ rfl
        · obtain rfl : b = _ := List.mem_singleton.mp hb
          exact I2.fpOk (Nat.le_refl _) (I2.hok.fresh (Nat.le_refl _))
theorem for_step {lo c : Int} {n : Nat} {g : TG} {tb : TS} {D : Ends} {σ : St} {H : Hp} (Pv : Nat → St → Hp → Prop) (h0 : Pv 0 σ H)
    (hs : ∀ i σ H, i < n → Pv i σ H → g (.int (lo + i * c)) σ H fun σ2 H2 => tb { D with nx := Pv (i + 1), ct := Pv (i + 1), bk := D.nx } σ2 H2) (hd : ∀ σ H, Pv n σ H → D.nx σ H) :
    ∃ W : Nat → Nat → St → Hp → Prop, (∃ m, W 0 m σ H) ∧ ∀ i m σ H, W i m σ H →
      ((Its lo c n).stop i H ∧ D.nx σ H) ∨ ((Its lo c n).go i H ∧ ∃ N : St → Hp → Prop, (∀ σ' H', N σ' H' → ∃ m', m' < m ∧ W (i + 1) m' σ' H') ∧ ∀ x H', (Its lo c n).yld i H x H' → g x σ H' fun σ2 H2 => tb { D with nx := N, ct := N, bk := D.nx } σ2 H2) := by
  refine ⟨fun i m σ H => m = n - i ∧ i ≤ n ∧ Pv i σ H, ⟨n, by simp, Nat.zero_le _, h0⟩, ?_⟩
  rintro i m σ H ⟨rfl, hi, p⟩
  by_cases hlt : i < n
  · refine .inr ⟨hlt, Pv (i + 1), fun σ' H' p' => ⟨n - (i + 1), by omega, rfl, hlt, p'⟩, fun x H' y => ?_⟩
    obtain ⟨e, y⟩ := y
    subst e y
    exact hs i σ _ hlt p
  · obtain rfl : i = n := by omega
    exact .inl ⟨Nat.le_refl _, hd σ H p⟩
theorem for_zip {K : PySem.W.Frag} {a b : Addr} {xs ys : List V} {g : TG} {tb : TS} {D : Ends} {σ : St} {H : Hp} (Pv : Nat → St → Hp → Prop) (h0 : Pv 0 σ H) (hl : ∀ i σ H, i ≤ (xs.zip ys).length → Pv i σ H → SqL K H a xs ∧ SqL K H b ys)
    (hs : ∀ i x y p σ H, (xs.zip ys)[i]? = some (x, y) → H p = none → Pv i σ H → g (.ref p) σ (upd H p (.tup [x, y])) fun σ2 H2 => tb { D with nx := Pv (i + 1), ct := Pv (i + 1), bk := D.nx } σ2 H2) (hd : ∀ σ H, Pv (xs.zip ys).length σ H → D.nx σ H) :
    ∃ W : Nat → Nat → St → Hp → Prop, (∃ m, W 0 m σ H) ∧ ∀ i m σ H, W i m σ H →
      ((Itz K a b).stop i H ∧ D.nx σ H) ∨ ((Itz K a b).go i H ∧ ∃ N : St → Hp → Prop, (∀ σ' H', N σ' H' → ∃ m', m' < m ∧ W (i + 1) m' σ' H') ∧ ∀ x H', (Itz K a b).yld i H x H' → g x σ H' fun σ2 H2 => tb { D with nx := N, ct := N, bk := D.nx } σ2 H2) := by
  refine ⟨fun i m σ H => m = (xs.zip ys).length - i ∧ i ≤ (xs.zip ys).length ∧ Pv i σ H, ⟨(xs.zip ys).length, by simp, Nat.zero_le _, h0⟩, ?_⟩
  rintro i m σ H ⟨rfl, hi, p⟩
  obtain ⟨qa, qb⟩ := hl i σ H hi p
  have hz : (xs.zip ys).length = min xs.length ys.length := List.length_zip
  by_cases hlt : i < (xs.zip ys).length
  · have h1 : i < xs.length := by omega
    have h2 : i < ys.length := by omega
    refine .inr ⟨⟨xs, ys, xs[i], ys[i], qa, qb, by simp [h1], by simp [h2]⟩, Pv (i + 1), fun σ' H' p' => ⟨(xs.zip ys).length - (i + 1), by omega, rfl, hlt, p'⟩, fun v H' yy => ?_⟩
    obtain ⟨t, x, y, ht, rfl, rfl, e⟩ := yy
    obtain ⟨ex, ey⟩ := e xs ys qa qb
    exact hs i x y t σ H (by simp [List.getElem?_zip_eq_some, ex, ey]) ht p
  · obtain rfl : i = (xs.zip ys).length := by omega
    exact .inl ⟨⟨xs, ys, qa, qb, by omega⟩, hd σ H p⟩
end
end L2
set_option Elab.async false
set_option linter.all false
set_option maxRecDepth 100000
namespace L2
open PySem PySem.Spec PyProof.Rows
theorem b_int : bootBuiltins "int" = some (.type "int") := by decide +kernel
theorem b_bool : bootBuiltins "bool" = some (.type "bool") := by decide +kernel
theorem b_str : bootBuiltins "str" = some (.type "str") := by decide +kernel
theorem b_list : bootBuiltins "list" = some (.type "list") := by decide +kernel
theorem b_tuple : bootBuiltins "tuple" = some (.type "tuple") := by decide +kernel
theorem b_dict : bootBuiltins "dict" = some (.type "dict") := by decide +kernel
theorem b_ValueError : bootBuiltins "ValueError" = some (.type "ValueError") := by decide +kernel
theorem b_isinstance : bootBuiltins "isinstance" = some (.builtin "isinstance") := by decide +kernel
theorem b_min : bootBuiltins "min" = some (.builtin "min") := by decide +kernel
theorem b_max : bootBuiltins "max" = some (.builtin "max") := by decide +kernel
theorem b_abs : bootBuiltins "abs" = some (.builtin "abs") := by decide +kernel
theorem b_len : bootBuiltins "len" = some (.builtin "len") := by decide +kernel
theorem passX0 {X : Cx} : Passes (XC X.prog X.w) X (fun _ _ _ => False) := by
  intro pins σ H s e s' I h
  obtain ⟨_, _, _, _, _, _, _, _, _, q⟩ := h
  exact q.elim
section
variable {X : Cx} {tg : Expr}
def iSeq (K : PySem.W.Frag) (tl : TE) : TI := fun σ H R => tl σ H fun x H1 => ∃ a, x = .ref a ∧ (((∃ xs, SqL K H1 a xs) ∧ R (Itl K a) H1) ∨ ((∃ xs, SqT K H1 a xs) ∧ R (Itt K a) H1))
theorem pi_seq {l : Expr} {tl : TE} (hl : PE X l tl) : PI X tg l (iSeq X.K tl) := by
  intro pins s σ H R I h
  refine thn (hl pins s σ H _ I h) fun v s1 ⟨x, H1, I1, r1, q1⟩ => ?_
  obtain ⟨a, e, ⟨⟨xs, hq⟩, q⟩ | ⟨⟨xs, hq⟩, q⟩⟩ := q1
  all_goals
    subst e
    cases r1
  · obtain ⟨its, rv, p, hz⟩ := I1.list hq
    refine wpAny_pyIter_list p.isList ?_
    refine ⟨s1.heap.objs.size, [s1.heap.objs.size], _, _, H1, rfl, I1.kept (t' := s1.toks) fun b o e => Heap.get?_push_of_some _ e, TurnX.of (turn_list a _), ⟨_, Heap.get?_push_size _ rfl, rfl, rfl⟩, fun b hb => ?_, q⟩
    obtain rfl : b = s1.heap.objs.size := by simpa using hb
    exact I1.fpOk (Nat.le_refl _) (I1.hok.fresh (Nat.le_refl _))
  · obtain ⟨its, rv, p, hz⟩ := I1.tuple hq
    refine wpAny_pyIter_tuple (show s1.heap.IsTuple a its.toArray from p) ?_
    refine ⟨s1.heap.objs.size, [s1.heap.objs.size], _, _, H1, rfl, I1.kept (t' := s1.toks) fun b o e => Heap.get?_push_of_some _ e, TurnX.of (turn_tuple a _), ⟨_, Heap.get?_push_size _ rfl, rfl, rfl⟩, fun b hb => ?_, q⟩
    obtain rfl : b = s1.heap.objs.size := by simpa using hb
    exact I1.fpOk (Nat.le_refl _) (I1.hok.fresh (Nat.le_refl _))
end
section
variable {X : Cx}
theorem call_min_list : CallR X (.builtin "min") (fun xs H Q => ∃ (p : Addr) (ns : List Int), xs = [.ref p] ∧ SqL X.K H p (ns.map V.int) ∧ 0 < ns.length ∧ ∀ M, M ∈ ns → (∀ a ∈ ns, M ≤ a) → Q (.int M) H) := by
  intro pins s σ H xs us Q I r h
  obtain ⟨p, ns, rfl, hq, hne, q⟩ := h
  obtain ⟨u, rfl, ru⟩ := vals1 r
  cases ru
  obtain ⟨its, rv, pl, _⟩ := I.list hq
  have hi := intsAre_of rv
  obtain ⟨zs, e⟩ := hi.allInts.items
  have hns : ns = zs.toList.map (·.1) := by rw [← hi.numsOf, ← nums_intItems, ← e]
  have hsz : 0 < zs.size := by rw [hns, List.length_map, Array.length_toList] at hne; exact hne
  have hl : s.heap.IsList p (intItems zs) := e ▸ pl.isList
  refine min_on (I.hn.now I.hok) hl hsz fun v h' tk hv hk => ?_
  obtain ⟨t, rfl⟩ := intItems_at hv
  obtain ⟨h1, h2⟩ := argBest_lt (numAt zs) (zs.size - 1)
  refine ⟨.int _, H, I.kept hk, ⟨t, rfl⟩, q _ ?_ fun a ha => ?_⟩
  · rw [hns, numAt_eq]; exact getD_mem (by rw [List.length_map, Array.length_toList]; omega)
  · rw [hns] at ha
    obtain ⟨j, hj, rfl⟩ := mem_getD ha
    rw [List.length_map, Array.length_toList] at hj
    rw [← numAt_eq]; exact h2 j (by omega)
theorem strsAre_of {ns : List Str} : ∀ {us : List Value}, Vals (ns.map V.str) us → StrsAre us ns := by
  induction ns with
  | nil => intro us r; cases r; exact .nil
  | cons n r ih =>
    intro us rr
    cases rr with
    | cons ra rb =>
      obtain ⟨t, rfl⟩ := ra
      exact .cons n t (ih rb)
def rJoin (K : PySem.W.Frag) : V → List V → Hp → VK → Prop := fun x vs H Q => ∃ z p ys, x = .str z ∧ vs = [.ref p] ∧ SqL K H p (ys.map V.str) ∧ (ys.map (·.length)).sum + ys.length * z.length ≤ 16777216 ∧ Q (.str (Txt.join z ys)) H
theorem mt_join : MtR X "str.join" (rJoin X.K) := by
  intro pins s σ H x vs v us Q I rx rv h
  obtain ⟨z, p, ys, rfl, rfl, hq, hs, q⟩ := h
  obtain ⟨t, rfl⟩ := rx
  obtain ⟨u, rfl, ru⟩ := vals1 rv
  cases ru
  obtain ⟨its, r, pl, _⟩ := I.list hq
  exact join_list pl.isList (by simpa using strsAre_of r) hs fun t' k => ⟨.str _, H, I.tok k, ⟨t', rfl⟩, q⟩
theorem pe_fstr3 {a b : Str} {e : Expr} {te : TE} {p1 p2 p3 p4 : Pos} {k1 k2 : Nat} (ha : a.length ≤ 1000) (hb : b.length ≤ 1000) (he : PE X e te) :
    PE X (.JoinedStr [.Constant (.str a) k1 p1, .FormattedValue e (-1) none p2, .Constant (.str b) k2 p3] p4) (fun σ H Q => te σ H fun x H1 => ∃ n, x = .int n ∧ n.natAbs.log2 < 1920 ∧ ∀ z, Q (.str z) H1) := by
  intro pins s σ H Q I h
  refine JoinedStr_many (joinParts_cons (Calls.Constant_str ?_))
  have l0 : (Str.empty ++ a).length ≤ 1000 := by rw [strLen_append]; show 0 + a.length ≤ 1000; omega
  refine ⟨Nat.le_trans l0 (by decide), joinParts_cons (FormattedValue_plain (thn (he pins _ σ H _ (I.tok _) h) fun v s1 ⟨x, H1, I1, r1, n, ex, hd, q⟩ => ?_))⟩
  subst ex
  obtain ⟨t, rfl⟩ := r1
  have l1 : (PySem.Str.ofString (toString n)).length ≤ 1921 := int_text_len_1921 hd
  refine formatField_int_small hd ⟨?_, joinParts_cons (Calls.Constant_str ⟨?_, joinParts_nil ⟨.str _, H1, (I1.tok _), ⟨_, rfl⟩, q _⟩ ?_⟩)⟩
  all_goals
    have hz : (3921 : Nat) ≤ sizeLine := by decide
    refine Nat.le_trans ?_ hz
    have e1 := strLen_append (Str.empty ++ a) (PySem.Str.ofString (toString n))
    have e2 := strLen_append (Str.empty ++ a ++ PySem.Str.ofString (toString n)) b
    omega
theorem ext_tup (l : Addr) (items : Array Value) (n : Nat) (b : Addr) (items2 : Array Value) (n2 : Nat) (dd : Option Addr) (sl : Array (Option Value)) (hs0 : ¬(!items.isEmpty && Builtin.List.listTooLong (items.size + items2.size)) = true) (hs1 : items.size ≤ sizeLine) (hs2 : items.size + items2.size ≤ sizeLine + 1) :
    Meets (Builtin.«list.extend» ⟨[.ref l, .ref b], []⟩) (fun _ R s => s.heap.get? l = some { cls := .type "list", dict := none, data := .seq items n, slots := #[] } ∧ s.heap.get? b = some { cls := .type "tuple", dict := dd, data := .seq items2 n2, slots := sl } ∧ R (.ok (.ret Value.none)) { s with heap := s.heap.update l (Obj.mapSeq fun x => x ++ items2), toks := s.toks }) :=
  .of_wp fun prog w A R s h => by
    obtain ⟨hp, g, d, tk, os⟩ := s
    obtain ⟨hl, hb, h⟩ := h
    have f1 := AutoSeq1.idx_int
    have f2 := AutoSeq1.sub_tuple_tuple
    have f3 := AutoSeq1.sub_list_list
    have f4 := AutoSeq1.sub_tuple_list
    have f5 := AutoSeq1.sub_list_tuple
    have hz' : (items ++ items2).size ≤ sizeLine + 1 := by rw [Array.size_append]; exact hs2
    wp_walk using (wpAny_updateSeq hl rfl (hz := hs1) (_hz' := hz')), wpAny_loadPart' hl, wpAny_loadPart' hb
    exact ⟨_, rfl, h⟩
def rExtT (K : PySem.W.Frag) : V → List V → Hp → VK → Prop := fun x vs H Q => ∃ l b xs zs, x = .ref l ∧ vs = [.ref b] ∧ H l = some (.lst xs) ∧ SqT K H b zs ∧ xs.length + zs.length ≤ sizeLine ∧ Q .non (upd H l (.lst (xs ++ zs)))
theorem mt_extT : MtR X "list.extend" (rExtT X.K) := by
  intro pins s σ H x vs v us Q I rx rv h
  obtain ⟨l, b, xs, zs, rfl, rfl, hH, hB, hz, q⟩ := h
  cases rx
  obtain ⟨u, rfl, ru⟩ := rv.one
  cases ru
  obtain ⟨z, its, n, r, hl, e⟩ := I.lstM hH
  obtain ⟨its2, r2, ⟨⟨c2, dd, d2, sl⟩, e2, hc2, n2, hd2⟩, _⟩ := I.tuple hB
  simp only at hc2 hd2
  subst hc2 hd2
  have hl2 := r2.length
  have hsz : its.toArray.size + its2.toArray.size ≤ sizeLine := by rw [List.size_toArray, List.size_toArray]; omega
  have hlong : ¬ (!its.toArray.isEmpty && Builtin.List.listTooLong (its.toArray.size + its2.toArray.size)) = true := by
    rw [notLongL hsz, Bool.and_false]; exact Bool.false_ne_true
  refine call_meets F.slot_list_extend ⟨_, e, rfl⟩ F.entry_list_extend (F.args_list_extend_2 _ _) (ext_tup l its.toArray n b its2.toArray n2 dd sl hlong (by rw [List.size_toArray]; omega) (by omega)) ⟨e, e2, ?_⟩
  refine ⟨.non, _, I.lset (its' := its ++ its2) hH e (by simp) (r.append r2) ?_, rfl, q⟩
  rw [List.length_append]
  omega
theorem op_ne_nil (hu : X.A.units < cLine) : OpR X (compareOp .NotEq) (fun x y H Q => ∃ a b xs, x = .ref a ∧ y = .ref b ∧ SqL X.K H a xs ∧ SqL X.K H b [] ∧ Q (.bl (!xs.isEmpty)) H) := by
  intro pins s σ H x y v u Q I rx ry h
  obtain ⟨a, b, xs, rfl, rfl, ha, hb, q⟩ := h
  cases rx
  cases ry
  obtain ⟨its, rv, p, _⟩ := I.list ha
  obtain ⟨jts, rw', p', _⟩ := I.list hb
  cases rw'
  cases rv with
  | nil => exact EqBoolInt.of_rcne (SeqAt.RcNeAt.lists (e := fun _ => true) p.isList p'.isList rfl hu (fun j h1 => absurd h1 (by simp))) ⟨.bl false, H, I, rfl, q⟩
  | cons r t => exact EqBoolInt.of_rcne (SeqAt.RcNeAt.lists_lengths p.isList p'.isList (by simp) hu) ⟨.bl true, H, I, rfl, q⟩
end
theorem cs_nil {X : Cx} {scope : Scope} {N : List Str} (hN : X.N = N) (hk : scope.kind = .function) (h1 : (scope.names.all fun y => y.2 != .free && y.2 != .cell) = true) (h2 : (scope.names.all fun y => y.2 != .local || scope.names.lookup y.1 == some .local) = true)
    (h3 : (N.all fun x => scope.names.lookup x != some .local) = true) : CompScope X scope [] where
  clos := closureFor_none fun y hy => by
    have := List.all_eq_true.mp h1 y hy
    simp only [Bool.and_eq_true, bne_iff_ne] at this
    exact this.1
  kind := hk
  nocell := fun y hy => by
    have := List.all_eq_true.mp h1 y hy
    simp only [Bool.and_eq_true, bne_iff_ne] at this
    exact this.2
  names := fun y hy e => by
    have := List.all_eq_true.mp h2 y hy
    rw [e] at this
    simpa using this
  sub := fun x c e => by cases e
  has := fun x e => by
    have := List.all_eq_true.mp h1 _ (lookup_mem e)
    simp at this
  apart := fun x hx => by
    have := List.all_eq_true.mp h3 x (hN ▸ hx)
    simpa using this
  outer := fun x e => by
    have := List.all_eq_true.mp h1 _ (lookup_mem e)
    simp at this
theorem cs_one {X : Cx} {scope : Scope} {N : List Str} {n : Str} {a : Addr} (hN : X.N = N) (hk : scope.kind = .function) (hcl : closureFor scope X.env = pure [(n, a)]) (hsub : X.env.cells.lookup n = some a) (hout : X.env.kindOf n = some .cell)
    (h1 : (scope.names.all fun y => y.2 != .cell && (y.2 != .free || y.1 == n)) = true) (h2 : (scope.names.all fun y => y.2 != .local || scope.names.lookup y.1 == some .local) = true)
    (h3 : (N.all fun x => scope.names.lookup x != some .local) = true) : CompScope X scope [(n, a)] where
  clos := hcl
  kind := hk
  nocell := fun y hy => by
    have := List.all_eq_true.mp h1 y hy
    simp only [Bool.and_eq_true, bne_iff_ne] at this
    exact this.1
  names := fun y hy e => by
    have := List.all_eq_true.mp h2 y hy
    rw [e] at this
    simpa using this
  sub := fun x c e => by
    rw [List.lookup_cons] at e
    split at e
    · rename_i q
      obtain rfl : x = n := by simpa using q
      cases e; exact hsub
    · cases e
  has := fun x e => by
    have := List.all_eq_true.mp h1 _ (lookup_mem e)
    simp at this
    exact ⟨a, by rw [this]; simp [List.lookup_cons]⟩
  apart := fun x hx => by
    have := List.all_eq_true.mp h3 x (hN ▸ hx)
    simpa using this
  outer := fun x e => by
    have := List.all_eq_true.mp h1 _ (lookup_mem e)
    simp at this
    exact .inl (this ▸ hout)
theorem comp_pure {K : PySem.W.Frag} {a : Addr} {xs : List V} {g : TG} {tc : TT} {te : TE} {k : Nat} {σ : St} {H : Hp} {Q : VK} (p : V → Bool) (f : V → V) (hl : SqL K H a xs) (hz : xs.length ≤ sizeLine)
    (step : ∀ x ∈ xs, ∀ (H' : Hp) (Qy : VK) (Qn : Hp → Prop), Same H H' → (p x = true → Qy (f x) H') → (p x = false → Qn H') → g x (σ ++ List.replicate k none) H' fun σ2 H2 => (∃ zs, σ2 = σ ++ zs ∧ zs.length = k) ∧ tc σ2 H2 fun b H3 => if b = true then te σ2 H3 Qy else Qn H3)
    (q : ∀ D, H D = none → Q (.ref D) (upd H D (.lst ((xs.filter p).map f)))) :
    compT k g tc te σ Q (Itl K a) H := by
  intro D hD
  have sm : ∀ ys, Same H (upd H D (.lst ys)) := fun ys b o e => by rw [upd_ne (ne_of_none e hD)]; exact e
  refine ⟨fun i m ys H' => m = xs.length - i ∧ i ≤ xs.length ∧ ys = ((xs.take i).filter p).map f ∧ H' = upd H D (.lst ys), ⟨xs.length, by simp, Nat.zero_le _, by simp, rfl⟩, ?_⟩
  rintro i m ys H' ⟨rfl, hi, rfl, rfl⟩
  refine ⟨upd_same, ?_⟩
  have q1 : SqL K (upd H D (.lst (((xs.take i).filter p).map f))) a xs := (sm _).seq hl
  by_cases hlt : i < xs.length
  · refine .inr ⟨⟨xs, xs[i], q1, by simp [hlt]⟩, ?_, fun x H2 y => ?_⟩
    · have := List.length_filter_le p (xs.take i)
      rw [List.length_map]
      simp only [List.length_take] at this
      omega
    · obtain ⟨rfl, y⟩ := y
      have hx : xs[i]? = some x := y xs q1
      have hm : x ∈ xs := List.mem_of_getElem? hx
      have et : (xs.take (i + 1)).filter p = (xs.take i).filter p ++ (if p x then [x] else []) := take_succ_filter p xs i x hx
      refine step x hm _ _ _ (sm _) (fun hp => ⟨upd_same, xs.length - (i + 1), by omega, rfl, hlt, ?_, ?_⟩) fun hp => ⟨xs.length - (i + 1), by omega, rfl, hlt, ?_, rfl⟩
      · rw [et, hp]; simp
      · rw [upd_upd]
      · rw [et, hp]; simp
  · obtain rfl : i = xs.length := by omega
    refine .inl ⟨⟨xs, q1, Nat.le_refl _⟩, ?_⟩
    rw [List.take_length]
    exact q D hD
end L2
set_option Elab.async false
set_option linter.all false
set_option maxRecDepth 100000
namespace L2
open PySem PySem.Spec PyProof.Rows PySem.W
structure ErrF (K : PySem.W.Frag) (C : Addr) : Prop where
  ex : excIn K C bmV "ValueError.__new__" = true
  ga : findIn K (.ref C) "__getattribute__" = some (some (.builtin "BaseException.__getattribute__"))
  gt : findIn K (.ref C) "__getattr__" = some none
  cl : findIn K (.ref C) "__class__" = some (some (.builtin "object.__class__"))
  ge : specialIn K (.builtin "object.__class__") "__get__" = some (some (.builtin "getset_descriptor.__get__"))
  tk : takesIn K (.builtin "object.__class__") = some true
  mo : mroIn K C (.type "object") = some true
  mb : mroIn K C (.type "BaseException") = some true
section
variable {prog : Program} {w : World} {A : Around} {E : Value → Shared → Prop} {s : Shared} {K : PySem.W.Frag} {x C : Addr}
theorem exc_ty {M : Model} {h : Heap} (p : IsExc x C h) : Looks M h (typeOf (.ref x)) (.ref C) := by
  obtain ⟨o, vs, h1, h2, _⟩ := p
  exact h2 ▸ (Looks.ld h1).andThen .now
theorem exc_find {M : Model} {h : Heap} (F : ErrF K C) (X : K.In h) : Looks M h (Builtin.ObjectAttr.find (.ref x) (.ref C) "__class__") (.bind (.builtin "getset_descriptor.__get__") (.builtin "object.__class__")) := by
  have L1 := looks_findIn (M := M) X F.cl
  have L2 := looks_specialIn (M := M) X F.ge
  have L3 := looks_takesIn (M := M) X F.tk
  exact L1.andThen (L2.andThen ((show Looks M h (Builtin.ObjectAttr.dataDescriptor? (some (.builtin "object.__class__")) (some (.builtin "getset_descriptor.__get__"))) (some (.builtin "getset_descriptor.__get__", .builtin "object.__class__")) from L3.andThen .now).andThen (Looks.tag .now)))
theorem exc_get {R : Result → Shared → Prop} (F : ErrF K C) (X : K.In s.heap) (p : IsExc x C s.heap) (h : R (.ok (.ret (.ref C))) s) :
    codeAny (model prog w) A (.call (.builtin "getset_descriptor.__get__") ⟨[.builtin "object.__class__", .ref x, .ref C], []⟩) R s := by
  obtain ⟨hh, g, dr, t, os⟩ := s
  have L0 := exc_ty (M := model prog w) p
  have L1 := looks_mroIn (M := model prog w) X F.mo
  refine codeAny_call_builtin KF.slot_gs.plain KF.entry_gs
    (KF.slot_gs.check _ _ _ _ _ _ _ _ KF.type_class (KF.args_gs _ _ _) ?_)
  unfold Builtin.«getset_descriptor.__get__» Builtin.Getset_descriptor.descrGet
  rw [dga_obj]
  refine wpAny_bind (wpAny_pure ?_)
  unfold Builtin.Getset_descriptor.descrGetter Builtin.Getset_descriptor.descrCheckInstance Builtin.Getset_descriptor.descrNameAndClass isInstance
  simp only [KF.owner_class]
  repeat lk
  refine ⟨Code.quiet_builtin _ (by decide +kernel), codeAny_builtin KF.entry_class ?_⟩
  unfold Builtin.«object.__class__» shownTypeOf
  repeat lk
  exact h
theorem exc_ent {tk : Tok} {Q : Fin → Shared → Prop} (F : ErrF K C) (X : K.In s.heap) (p : IsExc x C s.heap) (h : Q (.done (.ret (.ref C))) s) :
    wpAny (model prog w) A (Builtin.«object.__getattribute__» ⟨[.ref x, .str "__class__" tk], []⟩) Q E s := by
  obtain ⟨hh, g, dr, t, os⟩ := s
  have L0 := exc_ty (M := model prog w) p
  have L3 := exc_find (M := model prog w) (x := x) F X
  unfold Builtin.«object.__getattribute__» Builtin.ObjectAttr.bindTo
  repeat (any_goals (first | with_reducible assumption | with_reducible refine L0.at ?_ | with_reducible refine L3.at ?_ | wp_step))
  refine exc_get F X p ?_
  repeat (any_goals (first | with_reducible assumption | wp_step))
theorem exc_ga {tk : Tok} {R : Result → Shared → Prop} (F : ErrF K C) (X : K.In s.heap) (p : IsExc x C s.heap) (h : R (.ok (.ret (.ref C))) s) :
    codeAny (model prog w) A (.call (.builtin "BaseException.__getattribute__") ⟨[.ref x, .str "__class__" tk], []⟩) R s := by
  have L4 : Looks (model prog w) s.heap (isInstance (.ref x) (.type "BaseException")) true := by
    unfold isInstance
    exact (exc_ty p).andThen (looks_mroIn X F.mb)
  have hk : builtinKind "BaseException.__getattribute__" = some .slot := by decide +kernel
  have hs : splitId "BaseException.__getattribute__" = some ("BaseException", "__getattribute__") := by decide +kernel
  refine codeAny_call_builtin PySem.F.excAttr_ValueError.ga.plain PySem.F.entry_bexc_ga ?_
  have ha := PySem.F.args_bexc_ga (.ref x) (.str "__class__" tk)
  generalize "BaseException.__getattribute__" = i at hk hs ha ⊢
  refine check_slot (self := .ref x) (rest := [.str "__class__" tk]) (kw := []) hk hs L4 ha ?_
  exact exc_ent F X p h
theorem exc_by {tk : Tok} {fill expr : Bool} {Q : Value → Shared → Prop} (F : ErrF K C) (X : K.In s.heap) (p : IsExc x C s.heap) (h : Q (.ref C) s) :
    wpAny (model prog w) A (getAttrBy (.ref x) (.str "__class__" tk) fill expr) Q E s := by
  obtain ⟨hh, g, dr, t, os⟩ := s
  have L0 := exc_ty (M := model prog w) p
  have L1 := looks_findIn (M := model prog w) X F.ga
  have L2 := looks_findIn (M := model prog w) X F.gt
  have f3 := PySem.F.excAttr_ValueError.ga.bind (.ref x)
  have hx0 : (expr && onTheHeap (Value.builtin "BaseException.__getattribute__")) = false := by cases expr <;> rfl
  have hx2 : (Value.builtin "BaseException.__getattribute__" == Value.builtin "object.__getattribute__") = false := by decide +kernel
  have hx1 : (onTheHeap (Value.ref C) && Value.builtin "BaseException.__getattribute__" == Value.builtin "object.__getattribute__") = false := by rw [hx2]; rfl
  repeat (any_goals (first | with_reducible assumption | with_reducible refine L0.at ?_ | with_reducible refine L1.at ?_ | with_reducible refine L2.at ?_ | wp_step))
  refine exc_ga F X p ?_
  repeat (any_goals (first | with_reducible assumption | wp_step))
theorem exc_class {Q : Option Value → Shared → Prop} (F : ErrF K C) (X : K.In s.heap) (p : IsExc x C s.heap) (h : Q (some (.ref C)) { s with toks := s.toks + 1 }) : wpAny (model prog w) A (getAttr? (.ref x) "__class__") Q E s := by
  obtain ⟨hh, g, dr, t, os⟩ := s
  unfold getAttr? getAttrBy?
  repeat (any_goals (first | with_reducible assumption | with_reducible refine exc_by F X p ?_ | wp_step))
end
section
variable {K : PySem.W.Frag} {x C : Addr}
theorem kitx_exc (F : ErrF K C) : KitX K (.ref x) (.ref C) (IsExc x C) where
  ty := fun M h X p => exc_ty p
  it := fun M h X p => by
    obtain ⟨nm, qn, N, bs, bm, hdct, sn, sub, ab, col, dd, k0, k1, k2, k3, k5, mN, hC, _⟩ := exc_cls X F.ex
    intro A Q E s k q
    unfold isType loadHead
    exact wpAny_bind (wpAny_loadPart (k _ _ hC) (wpAny_pure q))
  ne := fun h tp dd its n sl X htp => by
    obtain ⟨nm, qn, N, bs, bm, hdct, sn, sub, ab, col, dd, k0, k1, k2, k3, k5, mN, hC, _⟩ := exc_cls X F.ex
    refine Bool.eq_false_iff.mpr fun q => ?_
    obtain rfl : C = tp := Value.ref.inj (beq_iff_eq.mp q)
    have z := hC.symm.trans htp
    have z2 := congrArg Obj.cls (Option.some.inj z)
    exact absurd (Value.type.inj z2) (by decide)
  ca := fun X p k => exc_class F X p k
end
section
variable {X : Cx}
theorem exc_in {pins : List (Addr × Obj)} {σ : St} {H : Hp} {s : Shared} {a C : Addr} (I : Inv X pins σ H s) (e : Exc H a C) : IsExc a C s.heap := by
  obtain ⟨o, e⟩ := e
  exact (I.hok a _ e).2.1
theorem call_isiE : CallR X (.builtin "isinstance") (fun xs H Q => ∃ a C c cv b, xs = [.ref a, c] ∧ Exc H a C ∧ ErrF X.K C ∧ ClsV c cv ∧ kitOne X.K (.ref C) cv = some b ∧ Q (.bl b) H) := by
  intro pins s σ H xs us Q I r h
  obtain ⟨a, C, c, cv, b, rfl, ea, F, hc, e, q⟩ := h
  obtain ⟨u, w, rfl, ru, rc⟩ := vals2 r
  obtain rfl := hc.val rc
  cases ru
  exact kia_one (kitx_exc F) I.kIn (exc_in I ea) e (fun z => nomatch z) fun tk => ⟨.bl b, H, I.tok tk, rfl, q⟩
theorem refs_of : ∀ {cs : List Addr} {us : List Value}, Vals (cs.map V.ref) us → us = cs.map Value.ref
  | [], _, .nil => rfl
  | _ :: _, _, .cons r t => by cases r; rw [refs_of t]; rfl
theorem call_isiT : CallR X (.builtin "isinstance") (fun xs H Q => ∃ (a C p : Addr) (cs : List Addr) (b : Bool), xs = [.ref a, .ref p] ∧ Exc H a C ∧ ErrF X.K C ∧ H p = some (.tup (cs.map V.ref)) ∧ kitAny X.K (.ref C) (cs.map Value.ref) = some b ∧ Q (.bl b) H) := by
  intro pins s σ H xs us Q I r h
  obtain ⟨a, C, p, cs, b, rfl, ea, F, hp, e, q⟩ := h
  obtain ⟨u, w, rfl, ru, rc⟩ := vals2 r
  cases ru
  cases rc
  obtain ⟨_, its, rv, ⟨c2, dd, d2, sl⟩, h1, h2, n, h3⟩ := (show ObjOk X.prog X.w H s.heap p (.tup (cs.map V.ref)) from I.hok p _ hp)
  simp only at h2 h3
  subst h2 h3
  obtain rfl := refs_of rv
  exact kia_tup (kitx_exc F) I.kIn (exc_in I ea) h1 e (fun z => nomatch z) fun tk => ⟨.bl b, H, I.tok tk, rfl, q⟩
theorem call_isiK {K : PySem.W.Frag} (h : X.K = K) : CallR X (.builtin "isinstance") (fun xs H Q => ∃ x c t cv b, xs = [x, c] ∧ TyOf K H x t ∧ ClsV c cv ∧ PySem.W.kitOne K t cv = some b ∧ Q (.bl b) H) := by
  subst h; exact call_isi
theorem call_isiEK {K : PySem.W.Frag} (h : X.K = K) : CallR X (.builtin "isinstance") (fun xs H Q => ∃ a C c cv b, xs = [.ref a, c] ∧ Exc H a C ∧ ErrF K C ∧ ClsV c cv ∧ kitOne K (.ref C) cv = some b ∧ Q (.bl b) H) := by
  subst h; exact call_isiE
theorem call_isiTK {K : PySem.W.Frag} (h : X.K = K) : CallR X (.builtin "isinstance") (fun xs H Q => ∃ (a C p : Addr) (cs : List Addr) (b : Bool), xs = [.ref a, .ref p] ∧ Exc H a C ∧ ErrF K C ∧ H p = some (.tup (cs.map V.ref)) ∧ kitAny K (.ref C) (cs.map Value.ref) = some b ∧ Q (.bl b) H) := by
  subst h; exact call_isiT
theorem ix_listK {K : PySem.W.Frag} (h : X.K = K) : IxR X (rIxL K) := by
  subst h; exact ix_list
theorem ix_tupK {K : PySem.W.Frag} (h : X.K = K) : IxR X (rIxT K) := by
  subst h; exact ix_tup
end
end L2
set_option Elab.async false
set_option linter.all false
set_option maxRecDepth 100000
namespace L2
open PySem PySem.Spec PyProof.Rows PySem.W
section
variable {X : Cx}
def rSlS : V → Option Int → Option Int → Hp → VK → Prop := fun x lo hi H Q => ∃ z, x = .str z ∧ z.length ≤ sizeLine ∧ Q (.str (Txt.slice z lo hi)) H
theorem sl_str : SlR X rSlS := by
  intro pins s σ H x v vl vu lo hi sl Q I rx hs pl pu h
  obtain ⟨z, rfl, hz, q⟩ := h
  obtain ⟨t, rfl⟩ := rx
  refine ⟨"str", _, F.slot_str_getitem.lookup, typeIs_str _ _ _, ?_⟩
  have hle := Nat.le_trans (Txt.slice_le z lo hi) hz
  have fin : ∀ t' k, EP X pins σ Q (.str (Txt.slice z lo hi) t') { s with toks := k } := fun t' k => ⟨.str _, H, I.tok k, ⟨t', rfl⟩, q⟩
  cases pl with
  | none =>
    cases pu with
    | none => exact wpAny_getItem_str_slice (l := none) (u := none) (st := none) hs rfl (post_val_or_str ⟨hle, fin⟩)
    | int j u => exact wpAny_getItem_str_slice (l := none) (u := some (j, u)) (st := none) hs rfl (post_val_or_str ⟨hle, fin⟩)
  | int i u0 =>
    cases pu with
    | none => exact wpAny_getItem_str_slice (l := some (i, u0)) (u := none) (st := none) hs rfl (post_val_or_str ⟨hle, fin⟩)
    | int j u => exact wpAny_getItem_str_slice (l := some (i, u0)) (u := some (j, u)) (st := none) hs rfl (post_val_or_str ⟨hle, fin⟩)
theorem vals_strsFrom : ∀ (ys : List Str) (k : Nat), Vals (ys.map V.str) (strsFrom k ys)
  | [], _ => .nil
  | y :: r, k => .cons ⟨k, rfl⟩ (vals_strsFrom r (k + 1))
def rSplit : V → List V → Hp → VK → Prop := fun x vs H Q => ∃ z y, x = .str z ∧ vs = [.str y] ∧ (y.length == 0) = false ∧ z.length ≤ sizeLine ∧ (Txt.split z y).length ≤ sizeLine ∧ ∀ p, H p = none → Q (.ref p) (upd H p (.lst ((Txt.split z y).map V.str)))
theorem mt_split : MtR X "str.split" rSplit := by
  intro pins s σ H x vs v us Q I rx rv h
  obtain ⟨z, y, rfl, rfl, hy, hz, hl, q⟩ := h
  obtain ⟨t, rfl⟩ := rx
  obtain ⟨u, rfl, ru⟩ := vals1 rv
  obtain ⟨t2, rfl⟩ := ru
  have fin : ∀ (ys : List Str) (its : List Value) (tk : Nat), Txt.split z y = ys → Vals (ys.map V.str) its → EP X pins σ Q (.ref s.heap.objs.size) { s with toks := tk, heap := s.heap.push { cls := .type "list", data := .seq its.toArray } } := fun ys its tk e r => by
    subst e
    exact ⟨.ref s.heap.objs.size, _, I.laid (t' := tk) (o := .lst ((Txt.split z y).map V.str)) (fun b ob e => Heap.get?_push_of_some _ e) (Nat.le_refl _) ⟨by rw [List.length_map]; exact hl, its, 0, r, Heap.get?_push_size _ rfl⟩, rfl, q _ I.fresh⟩
  cases h1 : (decide (z.length < y.length) || decide (Builtin.Str.strKind z < Builtin.Str.strKind y)) with
  | true => exact call_meets F.slot_str_split (typeIs_str _ _ _) F.entry_str_split (F.args_str_split_2 _ _) (meets_str_split_cannot_occur z y t t2 h1) (fin [z] _ s.toks (if_pos h1) (.cons ⟨t, rfl⟩ .nil))
  | false =>
    have n1 := ne_true_of_eq_false h1
    cases hf : (Builtin.Str.occurrences z y 0 z.length (z.length + 1)).isEmpty with
    | true => exact call_meets F.slot_str_split (typeIs_str _ _ _) F.entry_str_split (F.args_str_split_2 _ _) (meets_str_split_not_found z y t t2 h1 hy hf) (fin [z] _ s.toks ((if_neg n1).trans (if_pos hf)) (.cons ⟨t, rfl⟩ .nil))
    | false =>
      have e : Txt.split z y = Builtin.Str.partsBetween z (Builtin.Str.occurrences z y 0 z.length (z.length + 1)) y.length := (if_neg n1).trans (if_neg (ne_true_of_eq_false hf))
      exact call_meets F.slot_str_split (typeIs_str _ _ _) F.entry_str_split (F.args_str_split_2 _ _) (meets_str_split_sep z y t t2 h1 hy hf hz (e ▸ hl)) (fin _ _ _ e (vals_strsFrom _ _))
def rStarts : V → List V → Hp → VK → Prop := fun x vs H Q => ∃ z y, x = .str z ∧ vs = [.str y] ∧ Q (.bl (Txt.startswith z y)) H
theorem mt_startswith : MtR X "str.startswith" rStarts := by
  intro pins s σ H x vs v us Q I rx rv h
  obtain ⟨z, y, rfl, rfl, q⟩ := h
  obtain ⟨t, rfl⟩ := rx
  obtain ⟨u, rfl, ru⟩ := vals1 rv
  obtain ⟨t2, rfl⟩ := ru
  exact call_gives F.slot_str_startswith (typeIs_str _ _ _) F.entry_str_startswith (F.args_str_startswith_2 _ _) (gives_str_startswith z y t t2) (show EP X pins σ Q (.bool (Txt.startswith z y)) s from ⟨.bl _, H, I, rfl, q⟩)
theorem call_int_text : CallR X (.type "int") (fun xs H Q => ∃ z n, xs = [.str z] ∧ PySem.intText? z = some n ∧ z.length ≤ 640 ∧ Q (.int n) H) := by
  intro pins s σ H xs us Q I r h
  obtain ⟨z, n, rfl, hn, hl, q⟩ := h
  obtain ⟨u, rfl, ru⟩ := vals1 r
  obtain ⟨t, rfl⟩ := ru
  exact KIN.call_text hn hl ⟨.int n, H, I.tok _, ⟨_, rfl⟩, q⟩
theorem op_mul_str : OpR X (binaryOp .Mult) (fun x y H Q => ∃ z n, x = .str z ∧ y = .int n ∧ MulOk z n ∧ Q (.str (Txt.mul z n)) H) := by
  intro pins s σ H x y v u Q I rx ry h
  obtain ⟨z, n, rfl, rfl, ok, q⟩ := h
  obtain ⟨t, rfl⟩ := rx
  obtain ⟨t2, rfl⟩ := ry
  exact SB.mul ok fun t' k => ⟨.str _, H, I.tok k, ⟨t', rfl⟩, q⟩
end
end L2
set_option Elab.async false
set_option linter.all false
set_option maxRecDepth 100000
namespace L2
open PySem PySem.Spec PyProof.Rows PySem.W
def ItS (x : Str) : It := ⟨fun i _ => i < x.length, fun i H v H' => H' = H ∧ ∃ c, x.cps[i]? = some c ∧ v = .str ⟨#[c]⟩, fun i _ => x.length ≤ i⟩
theorem iterType (x : Str) : strIterType x = "str_ascii_iterator" ∨ strIterType x = "str_iterator" := by
  unfold strIterType; split
  · exact .inl rfl
  · exact .inr rfl
theorem turn_str {P : Program} {w : World} {K : PySem.W.Frag} {tg : Expr} (it : Addr) (x : Str) (t : Tok) : Turn P w K tg (ItS x) [it] it (fun i h => h.IsStrIter it (strIterType x) x t i) false where
  mem := by simp
  obj := fun i h st b hb => by
    obtain rfl : b = it := by simpa using hb
    obtain ⟨o, e, c, d⟩ := st
    exact ⟨o, e, fun v z => by rw [d] at z; cases z⟩
  keep := fun i h h' st k => by
    obtain ⟨o, e, r⟩ := st
    exact ⟨o, k it (by simp) o e, r⟩
  item := by
    intro X hP hw hK hc i pins s σ H E I hf st hg
    subst hP hw hK
    obtain ⟨f0, f1, f2, f3, f4, f5⟩ := hf it (by simp)
    have hi : i < x.cps.size := hg
    have hx : x.cps[i]? = some x.cps[i] := Array.getElem?_eq_getElem hi
    have fin : ∀ h', h'.IsStrIter it (strIterType x) x t (i + 1) → Heap.SameBut it s.heap h' → ∃ u, some (Value.str ⟨#[x.cps[i]]⟩ s.toks) = some u ∧
        wpAny (model X.prog X.w) X.A (letOwnedTupleGo tg (.ref it) u) (fun _ s2 => ∃ v H', Inv X pins σ H' s2 ∧ RelV v u ∧ (ItS x).yld i H v H' ∧ s2.heap.IsStrIter it (strIterType x) x t (i + 1) ∧ ∀ b ∈ [it], H' b = none) E { s with heap := h', toks := s.toks + 1 } := fun h' st' sb => by
      have I1 : Inv X pins σ H { s with heap := h', toks := s.toks + 1 } := I.turned (fun b o hb e => (sb.2 b hb).trans e) f0 f1 f3 f4 f5
      obtain ⟨o, e, c, d⟩ := id st'
      refine ⟨_, rfl, go_of (s := { s with heap := h', toks := s.toks + 1 }) e c d ?_ ⟨.str ⟨#[x.cps[i]]⟩, H, I1, ⟨_, rfl⟩, ⟨rfl, _, hx, rfl⟩, st', fun b hb => (hf b hb).1⟩⟩
      rcases iterType x with z | z <;> (rw [z]; decide)
    rcases iterType x with z | z
    · refine wpAny_pyNext_ascii_item (z ▸ st) hx fun h' st' sb => fin h' (z ▸ st') sb
    · refine wpAny_pyNext_wide_item (z ▸ st) hx fun h' st' sb => fin h' (z ▸ st') sb
  done := by
    intro X hP hw hK hc i pins s σ H E I hf st hg
    subst hP hw hK
    obtain ⟨f0, f1, f2, f3, f4, f5⟩ := hf it (by simp)
    have hx : x.cps[i]? = none := Array.getElem?_eq_none (show x.cps.size ≤ i from hg)
    rcases iterType x with z | z
    · exact ascii_on (I.hn.now I.hok) (z ▸ st) hx fun h' eb => ⟨rfl, I.turned (t' := s.toks) (fun b o hb e => eb b o hb e) f0 f1 f3 f4 f5⟩
    · exact wide_on (I.hn.now I.hok) (z ▸ st) hx fun h' eb => ⟨rfl, I.turned (t' := s.toks) (fun b o hb e => eb b o hb e) f0 f1 f3 f4 f5⟩
  self := fun A i s Q E st h => by
    rcases iterType x with z | z
    · exact wpAny_pyIter_striter_ascii (z ▸ st) h
    · exact wpAny_pyIter_striter_wide (z ▸ st) h
section
variable {X : Cx} {tg : Expr}
def iStr (tl : TE) : TI := fun σ H R => tl σ H fun v H1 => ∃ x, v = .str x ∧ R (ItS x) H1
theorem pi_str {l : Expr} {tl : TE} (hl : PE X l tl) : PI X tg l (iStr tl) := by
  intro pins s σ H R I h
  refine thn (hl pins s σ H _ I h) fun v s1 ⟨y, H1, I1, r1, x, e, q⟩ => ?_
  subst e
  obtain ⟨t, rfl⟩ := r1
  refine wpAny_pyIter_strU ?_
  refine ⟨s1.heap.objs.size, [s1.heap.objs.size], _, _, H1, rfl, I1.kept (t' := s1.toks) fun b o e => Heap.get?_push_of_some _ e, TurnX.of (turn_str _ x t), ⟨_, Heap.get?_push_size _ rfl, rfl, rfl⟩, fun b hb => ?_, q⟩
  obtain rfl : b = s1.heap.objs.size := by simpa using hb
  exact I1.fpOk (Nat.le_refl _) (I1.hok.fresh (Nat.le_refl _))
end
end L2
set_option Elab.async false
set_option linter.all false
set_option maxRecDepth 100000
namespace L2
open PySem PySem.Spec PyProof.Rows PySem.W
def alt {α : Type} : List α → List α
  | [] => []
  | [x] => [x]
  | x :: _ :: r => x :: alt r
theorem alt_le {α : Type} : ∀ l : List α, (alt l).length ≤ l.length
  | [] => Nat.le_refl _
  | [x] => Nat.le_refl _
  | x :: y :: r => by
    have := alt_le r
    simp only [alt, List.length_cons]; omega
theorem alt_pick {α : Type} (its : List α) : ∀ (c a : Nat), c = (its.length - a + 1) / 2 → ((List.range c).map fun (k : Nat) => ((a : Int) + 2 * (k : Int)).toNat).filterMap (its[·]?) = alt (its.drop a)
  | 0, a, h => by
    have : its.length ≤ a := by omega
    rw [List.drop_eq_nil_of_le this]; rfl
  | c + 1, a, h => by
    have ha : a < its.length := by omega
    have ih := alt_pick its c (a + 2) (by omega)
    rw [List.range_succ_eq_map, List.map_cons, List.map_map]
    have e0 : ((a : Int) + 2 * ((0 : Nat) : Int)).toNat = a := by omega
    have e1 : ((fun (k : Nat) => ((a : Int) + 2 * (k : Int)).toNat) ∘ Nat.succ) = fun (k : Nat) => (((a + 2 : Nat) : Int) + 2 * (k : Int)).toNat := by
      funext k; show ((a : Int) + 2 * ((k + 1 : Nat) : Int)).toNat = _; omega
    rw [e0, e1, List.filterMap_cons, List.getElem?_eq_getElem ha]
    dsimp only
    rw [ih, List.drop_eq_getElem_cons ha]
    by_cases h2 : a + 1 < its.length
    · rw [List.drop_eq_getElem_cons h2]; rfl
    · rw [List.drop_eq_nil_of_le (show its.length ≤ a + 1 by omega), List.drop_eq_nil_of_le (show its.length ≤ a + 2 by omega)]; rfl
theorem pick_alt (its : List Value) (a : Nat) : slicePick its.toArray (some (a : Int)) none (some 2) = (alt (its.drop a)).toArray := by
  unfold slicePick
  congr 1
  have hb : sliceBounds (some (a : Int)) none (some 2) its.toArray.size = (((min a its.length : Nat) : Int), (its.length : Int), (2 : Int)) := by
    unfold sliceBounds
    simp only [Option.getD_some, show (2 : Int) > 0 by decide, if_true, List.size_toArray]
    rw [if_neg (show ¬ (a : Int) < 0 by omega)]
    congr 1
    omega
  rw [hb]
  have key := alt_pick its ((its.length - min a its.length + 1) / 2) (min a its.length) rfl
  have e : its.drop (min a its.length) = its.drop a := by
    by_cases h : a ≤ its.length
    · rw [Nat.min_eq_left h]
    · rw [Nat.min_eq_right (by omega), List.drop_eq_nil_of_le (Nat.le_refl _), List.drop_eq_nil_of_le (by omega)]
  rw [e] at key
  rw [← key]
  unfold sliceRange
  simp only [show (2 : Int) > 0 by decide, if_true]
  have hc : (if ((min a its.length : Nat) : Int) < (its.length : Int) then ((its.length : Int) - ((min a its.length : Nat) : Int) + 2 - 1) / 2 else 0).toNat = (its.length - min a its.length + 1) / 2 := by
    split <;> omega
  rw [hc]
  congr 1
  funext x
  simp
theorem Vals.alt : ∀ {xs : List V} {us : List Value}, Vals xs us → Vals (L2.alt xs) (L2.alt us)
  | _, _, .nil => .nil
  | _, _, .cons r .nil => .cons r .nil
  | _, _, .cons r (.cons _ t) => .cons r (Vals.alt t)
section
variable {X : Cx} {e : Expr} {te : TE} {pos p2 q1 q2 : Pos} {j1 j2 : Nat}
def tAlt (K : PySem.W.Frag) (a : Nat) (te : TE) : TE := fun σ H Q => te σ H fun x H1 => ∃ l xs, x = .ref l ∧ SqL K H1 l xs ∧ ∀ p, H1 p = none → Q (.ref p) (upd H1 p (.lst (alt (xs.drop a))))
theorem pe_alt (a : Nat) (he : PE X e te) : PE X (.Subscript e (.Slice (some (.Constant (.int (a : Int)) j1 q1)) none (some (.Constant (.int 2) j2 q2)) p2) pos) (tAlt X.K a te) := by
  intro pins s σ H Q I h
  refine Subscript_ (thn (he pins s σ H _ I h) fun v s1 ⟨x, H1, I1, r1, l, xs, ex, hq, q⟩ => ?_)
  subst ex
  cases r1
  refine wpAny_Slice ?_
  rw [evalPart_some]
  refine wpAny_Constant_int ?_
  rw [evalPart_none]
  refine wpAny_pure ?_
  rw [evalPart_some]
  refine wpAny_Constant_int ?_
  let sl : Obj := { cls := .type "slice", data := .fields #[.int (a : Int) s1.toks, .none, .int 2 (s1.toks + 1)] }
  have I2 : Inv X pins σ H1 { s1 with heap := s1.heap.push sl, toks := s1.toks + 1 + 1 } := I1.kept fun b ob q => Heap.get?_push_of_some _ q
  obtain ⟨its, r, ht, hz⟩ := I2.list hq
  have hlen := r.length
  show wpAny (model X.prog X.w) X.A (subscriptTail e (.Slice (some (.Constant (.int (a : Int)) j1 q1)) none (some (.Constant (.int 2) j2 q2)) p2) (.ref l) (.ref s1.heap.objs.size)) (EP X pins σ Q) X.xe { s1 with heap := s1.heap.push sl, toks := s1.toks + 1 + 1 }
  refine tail_any (ops := [.ref l, .ref s1.heap.objs.size]) ht.isList.typeIs slot_list_getitem.lookup ?_ (by with_unfolding_all rfl)
  refine wpAny_getItem_list_slice (lo := some (a : Int)) (hi := none) (st := some 2) ht.isList (Heap.IsSliceOf.new ..) (.int _ _) .none (.int _ _) (by decide) ?_ (by rw [List.size_toArray] <;> omega)
  rw [pick_alt]
  refine ⟨.ref _, _, I2.laid (t' := s1.toks + 1 + 1) (o := .lst (alt (xs.drop a))) (fun b ob q => Heap.get?_push_of_some _ q) (Nat.le_refl _) ?_, rfl, q _ (I2.hok.fresh (Nat.le_refl _))⟩
  refine ⟨Nat.le_trans (alt_le _) (Nat.le_trans (by rw [List.length_drop]; omega) hz), _, 0, (r.drop a).alt, Heap.get?_push_size _ rfl⟩
theorem all_range {bs : List Bool} : (List.range bs.length).all (fun j => bs.getD j true) = bs.all id := by
  rw [Bool.eq_iff_iff, List.all_eq_true, List.all_eq_true]
  constructor
  · intro h b hb
    obtain ⟨j, hj, rfl⟩ := List.getElem_of_mem hb
    have := h j (List.mem_range.mpr hj)
    rwa [List.getD_eq_getElem?_getD, List.getElem?_eq_getElem hj] at this
  · intro h j hj
    have hj := List.mem_range.mp hj
    rw [List.getD_eq_getElem?_getD, List.getElem?_eq_getElem hj]
    exact h _ (List.getElem_mem hj)
theorem call_all_bools (hc : X.calm = true) : CallR X (.builtin "all") (fun xs H Q => ∃ (p : Addr) (bs : List Bool), xs = [.ref p] ∧ SqL X.K H p (bs.map V.bl) ∧ Q (.bl (bs.all id)) H) := by
  intro pins s σ H xs us Q I r h
  obtain ⟨p, bs, rfl, hq, q⟩ := h
  obtain ⟨u, rfl, ru⟩ := vals1 r
  cases ru
  obtain ⟨its, rv, pl, _⟩ := I.list hq
  have hlen : its.length = bs.length := by rw [← rv.length, List.length_map]
  have hat : ∀ (i : Nat) (v : Value), its.toArray[i]? = some v → v = .bool (bs.getD i true) := fun i v e => by
    have e' : its[i]? = some v := by simpa using e
    have hi : i < bs.length := by rw [← hlen]; exact (List.getElem?_eq_some_iff.mp e').1
    obtain ⟨u, hu, ru⟩ := rv.get (i := i) (x := V.bl bs[i]) (by simp [hi])
    rw [e'] at hu; cases hu
    obtain rfl := ru
    rw [List.getD_eq_getElem?_getD, List.getElem?_eq_getElem hi]; rfl
  have hlt : p < s.heap.objs.size := by obtain ⟨_, e, _⟩ := pl.isList; exact Heap.lt_size e
  refine call_all_walk (wpAny_pyIter_list pl.isList ?_)
  refine ⟨_, _, _, _, _, _, fun j => bs.getD j true, rfl, Walks.list (A := X.A.in1) (I.ok.hd hc) s.heap.objs.size p (Nat.ne_of_lt hlt) its.toArray, ⟨⟨_, Heap.get?_push_size _ rfl, rfl, rfl⟩, pl.isList.push _⟩, ?_, fun h' tk hk => ?_⟩
  · intro i v s' Q' E' hP hq'
    obtain rfl := hat i v hP
    exact wpAny_of_eq rfl hq'
  · rw [List.size_toArray, hlen, all_range]
    exact ⟨.bl _, H, I.kept fun b o e => hk b o (fun hm => by simp at hm; exact absurd (hm ▸ Heap.lt_size e) (Nat.lt_irrefl _)) (Heap.get?_push_of_some _ e), rfl, q⟩
end
end L2
set_option Elab.async false
set_option linter.all false
set_option maxRecDepth 100000
namespace L2
open PySem PySem.Spec PyProof.Rows PySem.W
section
variable {X : Cx}
structure TupAt (h : Heap) (p : Addr × V × V) : Prop where
  ex : ∃ u v, IsPair h p.1 u v ∧ RelV p.2.1 u ∧ RelV p.2.2 v
theorem track_all {pins : List (Addr × Obj)} {σ : St} {s : Shared} : ∀ (ps : List (Addr × V × V)) (H : Hp), Inv X pins σ H s → (∀ p ∈ ps, TupAt s.heap p) → (∀ p ∈ ps, H p.1 = none ∨ H p.1 = some (.tup [p.2.1, p.2.2])) →
    (∀ p ∈ ps, X.s₀.heap.get? p.1 = none ∧ p.1 ≠ X.env.locals ∧ (∀ x c, X.env.cells.lookup x = some c → c ≠ p.1) ∧ ∀ q ∈ X.pn ++ pins, q.1 ≠ p.1) →
    ∃ H', Same H H' ∧ Inv X pins σ H' s ∧ (∀ p ∈ ps, H' p.1 = some (.tup [p.2.1, p.2.2])) ∧ ∀ b, b ∉ ps.map (·.1) → H' b = H b
  | [], H, I, _, _, _ => ⟨H, Same.refl H, I, (fun _ h => nomatch h), fun _ _ => rfl⟩
  | p :: r, H, I, ht, hn, hf => by
    obtain ⟨u, v, e, r1, r2⟩ := (ht p (.head _)).ex
    obtain ⟨H1, s1, I1, t1, o1⟩ : ∃ H1, Same H H1 ∧ Inv X pins σ H1 s ∧ H1 p.1 = some (.tup [p.2.1, p.2.2]) ∧ ∀ b, b ≠ p.1 → H1 b = H b := by
      rcases hn p (.head _) with z | z
      · obtain ⟨f1, f2, f3, f4⟩ := hf p (.head _)
        refine ⟨upd H p.1 (.tup [p.2.1, p.2.2]), fun b o q => by rw [upd_ne (ne_of_none q z)]; exact q, I.track z f1 f2 f3 f4 ⟨by show 2 ≤ sizeLine; decide, [u, v], .cons r1 (.cons r2 .nil), _, e, rfl, _, rfl⟩, upd_same, fun b hb => upd_ne hb⟩
      · exact ⟨H, Same.refl H, I, z, fun _ _ => rfl⟩
    obtain ⟨H2, s2, I2, t2, o2⟩ := track_all r H1 I1 (fun q hq => ht q (.tail _ hq)) (fun q hq => by
      by_cases eq : q.1 = p.1
      · refine .inr ?_
        obtain ⟨u', v', e', q1, q2⟩ := (ht q (.tail _ hq)).ex
        rw [eq] at e'
        replace e' := e.symm.trans e'
        have e2 : (#[u, v] : Array Value) = #[u', v'] := by
          have := congrArg Obj.data (Option.some.inj e')
          injection this
        have e3 : [u, v] = [u', v'] := congrArg Array.toList e2
        injection e3 with e4 e5
        injection e5 with e5 _
        subst e4 e5
        rw [eq, t1, r1.inj q1, r2.inj q2]
      · rw [o1 q.1 eq]; exact hn q (.tail _ hq)) fun q hq => hf q (.tail _ hq)
    refine ⟨H2, s1.trans s2, I2, fun q hq => ?_, fun b hb => ?_⟩
    · rcases List.mem_cons.mp hq with rfl | hq
      · exact s2 _ _ t1
      · exact t2 q hq
    · rw [List.map_cons, List.mem_cons, not_or] at hb
      rw [o2 b hb.2, o1 b hb.1]
end
section
variable {X : Cx}
def tLZ (K : PySem.W.Frag) (ta : TA) : TE := fun σ H Q => ta σ H fun vs H1 => ∃ l1 l2 xs ys, vs = [.ref l1, .ref l2] ∧ SqL K H1 l1 xs ∧ SqL K H1 l2 ys ∧
  ∀ (p : Addr) (ts : List Addr) (H' : Hp), Same H1 H' → H1 p = none → H' p = some (.lst (ts.map V.ref)) → ts.length = (xs.zip ys).length → (∀ (i : Nat) (t : Addr) (x y : V), ts[i]? = some t → (xs.zip ys)[i]? = some (x, y) → H' t = some (.tup [x, y])) → (∀ t ∈ ts, H1 t = none) → Q (.ref p) H'
theorem pe_listzip {a b : Expr} {ta : TA} {p pos pz posz : Pos} (hcm : X.calm = true) (hg : Gl X "list") (hm : X.mg "list" = none) (hgz : Gl X "zip") (hmz : X.mg "zip" = none) (ha : PA X [a, b] ta)
    (hs : starEach [a, b] X.env = [(false, eval a X.env), (false, eval b X.env)] := by rfl) (hs2 : starEach [b] X.env = [(false, eval b X.env)] := by rfl)
    (hs3 : starEach [.Call (.Name "zip" pz) [a, b] [] posz] X.env = [(false, eval (.Call (.Name "zip" pz) [a, b] [] posz) X.env)] := by rfl) :
    PE X (.Call (.Name "list" p) [.Call (.Name "zip" pz) [a, b] [] posz] [] pos) (tLZ X.K ta) := by
  intro pins s σ H Q I h
  refine wpAny_Call_Name_kw (ld_blt I hg hm b_list ?_)
  refine PyProof.Rows.callWith_type1 ?_ hs3 rfl
  rw [hs3]
  refine Calls.spliced_cons ?_
  refine Call_ (ld_blt I hgz hmz boot_zip (PyProof.Rows.callWith_type1 (thn (ha posz pins s σ H _ I h) fun us s1 ⟨vs, H1, I1, r1, q1⟩ => ?_) (by rw [hs, hs2]) (by rw [hs2]; rfl)))
  obtain ⟨l1, l2, xs, ys, e, hx, hy, q⟩ := q1
  subst e
  obtain ⟨u, v, rfl, ru, rv⟩ := vals2 r1
  cases ru
  cases rv
  obtain ⟨its, rx, p1, zx⟩ := I1.list hx
  obtain ⟨jts, ry, p2, zy⟩ := I1.list hy
  have a1 : l1 < s1.heap.objs.size := by obtain ⟨_, e, _⟩ := p1.isList; exact Heap.lt_size e
  have a2 : l2 < s1.heap.objs.size := by obtain ⟨_, e, _⟩ := p2.isList; exact Heap.lt_size e
  have lx := rx.length
  have ly := ry.length
  refine call_zip_2 p1.isList p2.isList fun g z1 z2 z3 z4 z5 z6 k => ?_
  refine Calls.spliced_nil ?_
  refine list_zip (s := { s1 with heap := g }) (xs := its.toArray) (ys := jts.toArray) (I.ok.hd hcm) (zipApart_new a1 a2) (by rw [List.size_toArray, List.size_toArray]; exact Nat.le_trans (Nat.min_le_left _ _) (by omega)) z1 z2 z3 z4 z5 (p1.isList.at fun o e => k _ _ e) (p2.isList.at fun o e => k _ _ e) fun h' ts G hl => ?_
  have hz6 : g.objs.size = s1.heap.objs.size + 5 := z6
  have old : ∀ c o, s1.heap.get? c = some o → h'.get? c = some o := fun c o e => by
    have lt := Heap.lt_size e
    refine G.old c o (fun hc => ?_) (k c o e)
    have hc : c = g.objs.size ∨ c = s1.heap.objs.size + 4 ∨ c = s1.heap.objs.size + 3 ∨ c = s1.heap.objs.size ∨ c = s1.heap.objs.size + 1 := by simpa using hc
    have lt' : (c : Nat) < s1.heap.objs.size := lt
    rcases hc with e | e | e | e | e
    · exact absurd lt' (Nat.not_lt.mpr (by rw [e, hz6]; exact Nat.le_add_right _ 5))
    · exact absurd lt' (Nat.not_lt.mpr (by rw [e]; exact Nat.le_add_right _ 4))
    · exact absurd lt' (Nat.not_lt.mpr (by rw [e]; exact Nat.le_add_right _ 3))
    · exact absurd lt' (Nat.not_lt.mpr (by rw [e]; exact Nat.le_refl _))
    · exact absurd lt' (Nat.not_lt.mpr (by rw [e]; exact Nat.le_add_right _ 1))
  have J : Inv X pins σ H1 { s1 with heap := h' } := I1.kept (t' := s1.toks) old
  have fresh : ∀ t, s1.heap.objs.size ≤ t → H1 t = none ∧ X.s₀.heap.get? t = none ∧ t ≠ X.env.locals ∧ (∀ x c, X.env.cells.lookup x = some c → c ≠ t) ∧ ∀ q ∈ X.pn ++ pins, q.1 ≠ t := fun t le => by
    have ne : ∀ {c o}, s1.heap.get? c = some o → c ≠ t := fun e => Nat.ne_of_lt (Nat.lt_of_lt_of_le (Heap.lt_size e) le)
    refine ⟨I1.hok.fresh le, Heap.get?_none_of_le (Nat.le_trans I1.sz le), fun z => ?_, fun x c ec => ?_, fun q hq => ne (I1.pin q hq).1⟩
    · obtain ⟨m, ⟨o, _, _, ho, _⟩, _⟩ := I1.loc
      exact ne ho z.symm
    · obtain ⟨v, o, ho, _⟩ := I1.cell x c ec
      exact ne ho
  have le5 : ∀ t, g.objs.size ≤ t → s1.heap.objs.size ≤ t := fun t h => Nat.le_trans (by rw [hz6]; exact Nat.le_add_right _ 5) h
  have hzl : (xs.zip ys).length = ts.length := by
    rw [hl, List.length_zip, List.size_toArray, List.size_toArray, lx, ly]
  have pairs : ∀ (i : Nat) (t : Addr) (x y : V), ts[i]? = some t → (xs.zip ys)[i]? = some (x, y) → TupAt h' (t, x, y) := fun i t x y ht hxy => by
    rw [List.getElem?_zip_eq_some] at hxy
    obtain ⟨u, hu, ru⟩ := rx.get hxy.1
    obtain ⟨v, hv, rv⟩ := ry.get hxy.2
    exact ⟨u, v, G.prs i t u v ht (by simpa using hu) (by simpa using hv), ru, rv⟩
  let ps : List (Addr × V × V) := ts.zip (xs.zip ys)
  have hps : ∀ q ∈ ps, ∃ i, ts[i]? = some q.1 ∧ (xs.zip ys)[i]? = some q.2 := fun q hq => by
    obtain ⟨i, hi, e⟩ := List.getElem_of_mem hq
    have e' : ps[i]? = some q := by rw [List.getElem?_eq_getElem hi, e]
    rw [List.getElem?_zip_eq_some] at e'
    exact ⟨i, e'⟩
  obtain ⟨H', sm, J', tt, oo⟩ := track_all (X := X) (s := { s1 with heap := h' }) ps H1 J (fun q hq => let ⟨i, h1, h2⟩ := hps q hq; pairs i q.1 q.2.1 q.2.2 h1 h2)
    (fun q hq => let ⟨i, h1, _⟩ := hps q hq; .inl (fresh q.1 (le5 _ (G.new _ (List.mem_of_getElem? h1)).1)).1) (fun q hq => let ⟨i, h1, _⟩ := hps q hq; (fresh q.1 (le5 _ (G.new _ (List.mem_of_getElem? h1)).1)).2)
  have hSn : H1 g.objs.size = none := (fresh _ (le5 _ (Nat.le_refl _))).1
  have hS' : H' g.objs.size = none := by
    rw [oo _ fun hm => ?_, hSn]
    obtain ⟨q, hq, e⟩ := List.mem_map.mp hm
    obtain ⟨i, h1, _⟩ := hps q hq
    exact (G.new _ (List.mem_of_getElem? h1)).2 e
  obtain ⟨f1, f2, f3, f4⟩ := (fresh _ (le5 _ (Nat.le_refl g.objs.size))).2
  obtain ⟨c, hS⟩ := G.lst
  have tsz : ts.length ≤ sizeLine := by
    rw [hl, List.size_toArray, List.size_toArray]
    exact Nat.le_trans (Nat.min_le_left _ _) (by omega)
  have vr : ∀ l : List Addr, Vals (l.map V.ref) (l.map Value.ref) := fun l => by
    induction l with
    | nil => exact .nil
    | cons a r ih => exact .cons rfl ih
  have K := J'.track (o := .lst (ts.map V.ref)) hS' f1 f2 f3 f4 ⟨by rw [List.length_map]; exact tsz, _, c, vr ts, hS⟩
  have sm2 : Same H1 (upd H' g.objs.size (.lst (ts.map V.ref))) := fun b o e => by
    rw [upd_ne (ne_of_none (sm _ _ e) hS')]; exact sm _ _ e
  refine ⟨.ref g.objs.size, _, K, rfl, q g.objs.size ts _ sm2 hSn upd_same hzl.symm (fun i t x y ht hxy => ?_) fun t ht => (fresh t (le5 _ (G.new t ht).1)).1⟩
  have hm : (t, x, y) ∈ ps := List.mem_of_getElem? (i := i) (by rw [List.getElem?_zip_eq_some]; exact ⟨ht, hxy⟩)
  have e := tt _ hm
  rw [upd_ne (ne_of_none e hS')]; exact e
end
end L2
set_option Elab.async false
set_option linter.all false
set_option maxRecDepth 100000
namespace Wd
open PySem L2 PySem.NumText PySem.W
theorem str_ext {x y : Str} (h : x.cps.toList = y.cps.toList) : x = y := Str.ext' (Array.toList_inj.mp h)
theorem len_list (x : Str) : x.length = x.cps.toList.length := by simp [Str.length]
def figs : List Nat → List Nat
  | 45 :: r => r
  | l => l
theorem figs_neg (r : List Nat) : figs (45 :: r) = r := rfl
theorem figs_pos {l : List Nat} (h : l.head? ≠ some 45) : figs l = l := by
  unfold figs
  split
  · exact absurd rfl h
  · rfl
def isDig (c : Nat) : Bool := decide (48 ≤ c) && decide (c ≤ 57)
def isNumL (l : List Nat) : Bool := decide (1 ≤ (figs l).length) && decide ((figs l).length ≤ 40) && (figs l).all isDig && !((figs l).head? == some 48 && !(l == [48]))
def numL (l : List Nat) : Int := if l.head? = some 45 then -((digitsVal (figs l) : Nat) : Int) else ((digitsVal l : Nat) : Int)
structure NumOk (l : List Nat) : Prop where
  one : 1 ≤ (figs l).length
  few : (figs l).length ≤ 40
  dig : AllDigits (figs l)
  lead : (figs l).head? = some 48 → l = [48]
theorem numOk {l : List Nat} (h : isNumL l = true) : NumOk l := by
  unfold isNumL at h
  simp only [Bool.and_eq_true, decide_eq_true_eq, Bool.not_eq_true', Bool.and_eq_false_iff, beq_eq_false_iff_ne] at h
  obtain ⟨⟨⟨h1, h2⟩, h3⟩, h4⟩ := h
  refine ⟨h1, h2, fun c hc => ?_, fun e => ?_⟩
  · have := List.all_eq_true.mp h3 c hc
    simpa [isDig] using this
  · rcases h4 with z | z
    · exact absurd e z
    · simpa using z
theorem NumOk.ne {l : List Nat} (h : NumOk l) : figs l ≠ [] := fun e => by have := h.one; rw [e] at this; exact absurd this (by decide)
theorem NumOk.len {l : List Nat} (h : NumOk l) : l.length ≤ 41 := by
  have h2 := h.few
  unfold figs at h2
  split at h2
  · simp only [List.length_cons]; omega
  · omega
theorem int_of {w : Str} (h : NumOk w.cps.toList) : PySem.intText? w = some (numL w.cps.toList) := by
  have hl := h.len
  have h4 : w.length ≤ 4300 := by rw [len_list]; omega
  by_cases e : w.cps.toList.head? = some 45
  · obtain ⟨r, hr⟩ : ∃ r, w.cps.toList = 45 :: r := by
      cases q : w.cps.toList with
      | nil => rw [q] at e; cases e
      | cons a r => rw [q] at e; cases e; exact ⟨r, rfl⟩
    have hd := h.dig
    have hn := h.ne
    rw [hr, figs_neg] at hd hn
    unfold numL
    rw [if_pos e, hr, figs_neg]
    exact intText_neg hr hd hn h4
  · have hd := h.dig
    have hn := h.ne
    rw [figs_pos e] at hd hn
    unfold numL
    rw [if_neg e]
    exact intText_digits hd hn h4
theorem dv_snoc (cs : List Nat) (c : Nat) : digitsVal (cs ++ [c]) = digitsVal cs * 10 + (c - 48) := by
  unfold digitsVal; rw [List.foldl_append]; rfl
theorem foldl_ge (cs : List Nat) : ∀ a, a ≤ cs.foldl (fun acc c => acc * 10 + (c - 48)) a := by
  induction cs with
  | nil => intro a; exact Nat.le_refl _
  | cons c r ih => intro a; exact Nat.le_trans (by omega) (ih (a * 10 + (c - 48)))
theorem dv_pos {c : Nat} {cs : List Nat} (h : 49 ≤ c) : 1 ≤ digitsVal (c :: cs) := by
  unfold digitsVal
  rw [List.foldl_cons]
  exact Nat.le_trans (by omega) (foldl_ge cs _)
theorem dchar {d : Nat} (h : d < 10) : (Nat.digitChar d).toNat = 48 + d := by
  match d, h with
  | 0, _ | 1, _ | 2, _ | 3, _ | 4, _ | 5, _ | 6, _ | 7, _ | 8, _ | 9, _ => rfl
theorem figs_again : ∀ (n : Nat) (cs : List Nat), cs.length = n → AllDigits cs → cs ≠ [] → (cs.head? = some 48 → cs = [48]) → (Nat.toDigits 10 (digitsVal cs)).map Char.toNat = cs
  | 0, cs, hl, _, hne, _ => absurd (List.length_eq_zero_iff.mp hl) hne
  | n + 1, cs, hl, hd, hne, h0 => by
    obtain ⟨ds, c, rfl⟩ : ∃ ds c, cs = ds ++ [c] := ⟨cs.dropLast, cs.getLast hne, (List.dropLast_concat_getLast hne).symm⟩
    have hc := hd c (by simp)
    rw [dv_snoc]
    by_cases hn : ds = []
    · subst hn
      have e : digitsVal [] * 10 + (c - 48) = c - 48 := by show 0 * 10 + (c - 48) = _; omega
      rw [e, Nat.toDigits_of_lt_base (by omega)]
      simp only [List.map_cons, List.map_nil, List.nil_append, dchar (show c - 48 < 10 by omega)]
      congr 1; omega
    · have hl' : ds.length = n := by simp at hl; omega
      obtain ⟨a, r, rfl⟩ : ∃ a r, ds = a :: r := by
        cases ds with
        | nil => exact absurd rfl hn
        | cons a r => exact ⟨a, r, rfl⟩
      have ha : 49 ≤ a := by
        have h1 := hd a (by simp)
        by_cases e : a = 48
        · subst e
          have := h0 rfl
          simp at this
        · omega
      have ih := figs_again n (a :: r) hl' (fun x hx => hd x (List.mem_append_left _ hx)) (by simp) (fun e => by simp at e; omega)
      have hp := dv_pos (cs := r) ha
      have e1 : (digitsVal (a :: r) * 10 + (c - 48)) / 10 = digitsVal (a :: r) := by omega
      have e2 : (digitsVal (a :: r) * 10 + (c - 48)) % 10 = c - 48 := by omega
      rw [Nat.toDigits_of_base_le (by decide) (by omega), e1, e2, List.map_append, ih]
      simp only [List.map_cons, List.map_nil, dchar (show c - 48 < 10 by omega)]
      congr 2; omega
theorem dv_lt : ∀ cs : List Nat, AllDigits cs → digitsVal cs < 10 ^ cs.length := by
  intro cs
  induction h : cs.length generalizing cs with
  | zero => intro _; rw [List.length_eq_zero_iff.mp h]; decide
  | succ n ih =>
    intro hd
    have hne : cs ≠ [] := fun e => by rw [e] at h; cases h
    obtain ⟨ds, c, rfl⟩ : ∃ ds c, cs = ds ++ [c] := ⟨cs.dropLast, cs.getLast hne, (List.dropLast_concat_getLast hne).symm⟩
    have hc := hd c (by simp)
    have := ih ds (by simp at h; exact h) fun x hx => hd x (List.mem_append_left _ hx)
    rw [dv_snoc, Nat.pow_succ]
    omega
def Lg (n : Int) : Prop := n.natAbs.log2 < 1920
theorem lg_of {n : Int} (h : n.natAbs < 10 ^ 42) : Lg n := by
  unfold Lg
  by_cases z : n.natAbs = 0
  · rw [z]; decide
  · refine (Nat.log2_lt z).mpr (Nat.lt_of_lt_of_le h ?_)
    exact Nat.le_trans (show (10 : Nat) ^ 42 ≤ 2 ^ 200 by decide) (Nat.pow_le_pow_right (by decide) (by decide))
theorem NumOk.lg {l : List Nat} (h : NumOk l) : Lg (numL l) := by
  refine lg_of ?_
  have hp : (10 : Nat) ^ (figs l).length ≤ 10 ^ 40 := Nat.pow_le_pow_right (by decide) h.few
  have h1 := dv_lt _ h.dig
  have h2 : (10 : Nat) ^ 40 < 10 ^ 42 := by decide
  unfold numL
  by_cases e : l.head? = some 45
  · rw [if_pos e]; omega
  · rw [if_neg e]
    rw [figs_pos e] at h1 hp
    omega
def tx (n : Int) : Str := PySem.Str.ofString (toString n)
theorem ofS (s : String) : (PySem.Str.ofString s).cps.toList = s.toList.map Char.toNat := by rw [PySem.Str.ofString_eq_toList]
theorem tx_num {w : Str} (h : NumOk w.cps.toList) : tx (numL w.cps.toList) = w := by
  apply str_ext
  unfold tx
  by_cases e : w.cps.toList.head? = some 45
  · obtain ⟨r, hr⟩ : ∃ r, w.cps.toList = 45 :: r := by
      cases q : w.cps.toList with
      | nil => rw [q] at e; cases e
      | cons a r => rw [q] at e; cases e; exact ⟨r, rfl⟩
    have hd := h.dig
    have hn := h.ne
    have hlead := h.lead
    rw [hr, figs_neg] at hd hn hlead
    have h48 : r.head? ≠ some 48 := fun z => by have := hlead z; cases this
    have ag := figs_again _ r rfl hd hn fun z => absurd z h48
    unfold numL
    rw [if_pos e, hr, figs_neg]
    obtain ⟨a, t, rfl⟩ : ∃ a t, r = a :: t := by
      cases r with
      | nil => exact absurd rfl hn
      | cons a t => exact ⟨a, t, rfl⟩
    have ha := hd a (.head _)
    have hp : 1 ≤ digitsVal (a :: t) := dv_pos (by have : a ≠ 48 := fun z => h48 (by rw [z]; rfl); omega)
    obtain ⟨k, hk⟩ : ∃ k, digitsVal (a :: t) = k + 1 := ⟨digitsVal (a :: t) - 1, by omega⟩
    rw [hk] at ag ⊢
    have e2 : toString (-((k + 1 : Nat) : Int)) = "-" ++ toString (k + 1) := rfl
    rw [e2, ofS, String.toList_append, List.map_append]
    have e3 : ((toString (k + 1) : String).toList.map Char.toNat) = (Nat.toDigits 10 (k + 1)).map Char.toNat := by
      show (Nat.repr (k + 1)).toList.map Char.toNat = _
      rw [Nat.toList_repr]
    rw [e3, ag]
    rfl
  · have hd := h.dig
    have hn := h.ne
    have hlead := h.lead
    rw [figs_pos e] at hd hn hlead
    unfold numL
    rw [if_neg e, KIN.signs_num]
    exact figs_again _ _ rfl hd hn hlead
theorem starts_one (w : Str) (c : Nat) : Txt.startswith w ⟨#[c]⟩ = decide (w.cps.toList.head? = some c) := by
  rw [Bool.eq_iff_iff, decide_eq_true_iff]
  have := StrLaws.subAt_one w c 0
  rw [← List.head?_eq_getElem?] at this
  rw [← this]
  unfold Txt.startswith
  simp
theorem slice1 {w : Str} (h : 1 ≤ w.cps.toList.length) : (Txt.slice w (some 1) none).cps.toList = w.cps.toList.drop 1 := by
  have := StrLaws.sliceText_from (x := w) (i := 1) ⟨by decide, by omega⟩
  show (StrLaws.sliceText w (some 1) none).cps.toList = _
  rw [this]
  show List.take _ (List.drop 1 _) = _
  exact List.take_of_length_le (by rw [List.length_drop]; omega)
theorem slice01 {w : Str} (h : 1 ≤ w.cps.toList.length) : (Txt.slice w none (some 1)).cps.toList = w.cps.toList.take 1 := by
  have := StrLaws.sliceText_to (x := w) (j := 1) ⟨by decide, by omega⟩
  show (StrLaws.sliceText w none (some 1)).cps.toList = _
  rw [this]
  rfl
theorem fig_in (c : Nat) : (!(Builtin.Str.occurrences ("0123456789" : Str) ⟨#[c]⟩ 0 ("0123456789" : Str).length 1).isEmpty) = isDig c := by
  rw [StrLaws.found_one]
  have e : ("0123456789" : Str).cps.toList = [48, 49, 50, 51, 52, 53, 54, 55, 56, 57] := by decide +kernel
  rw [e, Bool.eq_iff_iff, decide_eq_true_iff]
  simp only [List.mem_cons, List.not_mem_nil, or_false, isDig, Bool.and_eq_true, decide_eq_true_eq]
  omega
theorem split_join (x : Str) : Str.join " " (Txt.split x " ") = x := StrLaws.join_split x " "
theorem split_ne (x y : Str) : Txt.split x y ≠ [] := by
  unfold Txt.split
  split
  · simp
  · split
    · simp
    · intro e
      have := congrArg List.length e
      rw [PyProof.Rows.len_partsBetween] at this
      cases this
end Wd
set_option Elab.async false
set_option linter.all false
set_option maxRecDepth 100000
namespace L2
open PySem PySem.Spec PyProof.Rows
theorem b_all : bootBuiltins "all" = some (.builtin "all") := by decide +kernel
theorem RoomC.hand {c : Bool} {k : Nat} {A : Around} {e : Option Value} (r : RoomC c k A) : RoomC false k (A.mark e) := ⟨(fun z => nomatch z), r.dp, r.un⟩
theorem new_same {H H' : Hp} {D : Addr} {o : HO} (hD : H D = none) (s : Same H H') : Same H (upd H' D o) := fun b u e => by rw [upd_ne (ne_of_none e hD)]; exact s b u e
theorem comp_grow {K : PySem.W.Frag} {a : Addr} {xs : List V} {g : TG} {tc : TT} {te : TE} {k : Nat} {σ : St} {H : Hp} {Q : VK} (p : V → Bool) (f : V → V) (hl : SqL K H a xs) (hz : xs.length ≤ sizeLine)
    (step : ∀ x ∈ xs, ∀ (H' : Hp) (Qy : VK) (Qn : Hp → Prop), Same H H' → (p x = true → ∀ H'', Same H' H'' → Qy (f x) H'') → (p x = false → ∀ H'', Same H' H'' → Qn H'') → g x (σ ++ List.replicate k none) H' fun σ2 H2 => (∃ zs, σ2 = σ ++ zs ∧ zs.length = k) ∧ tc σ2 H2 fun b H3 => if b = true then te σ2 H3 Qy else Qn H3)
    (q : ∀ D H', H D = none → Same H H' → H' D = some (.lst ((xs.filter p).map f)) → Q (.ref D) H') : compT k g tc te σ Q (Itl K a) H := by
  intro D hD
  refine ⟨fun i m ys H' => m = xs.length - i ∧ i ≤ xs.length ∧ ys = ((xs.take i).filter p).map f ∧ Same H H' ∧ H' D = some (.lst ys), ⟨xs.length, by simp, Nat.zero_le _, by simp, new_same hD (Same.refl H), upd_same⟩, ?_⟩
  rintro i m ys H' ⟨rfl, hi, rfl, sm, eD⟩
  refine ⟨eD, ?_⟩
  have q1 : SqL K H' a xs := sm.seq hl
  by_cases hlt : i < xs.length
  · refine .inr ⟨⟨xs, xs[i], q1, by simp [hlt]⟩, ?_, fun x H2 y => ?_⟩
    · have := List.length_filter_le p (xs.take i)
      rw [List.length_map]
      simp only [List.length_take] at this
      omega
    · obtain ⟨rfl, y⟩ := y
      have hx : xs[i]? = some x := y xs q1
      have et : (xs.take (i + 1)).filter p = (xs.take i).filter p ++ (if p x then [x] else []) := take_succ_filter p xs i x hx
      refine step x (List.mem_of_getElem? hx) _ _ _ sm (fun hp H4 s4 => ⟨s4 _ _ eD, xs.length - (i + 1), by omega, rfl, hlt, ?_, new_same hD (Same.trans sm s4), upd_same⟩) fun hp H4 s4 => ⟨xs.length - (i + 1), by omega, rfl, hlt, ?_, Same.trans sm s4, s4 _ _ eD⟩
      · rw [et, hp]; simp
      · rw [et, hp]; simp
  · obtain rfl : i = xs.length := by omega
    refine .inl ⟨⟨xs, q1, Nat.le_refl _⟩, ?_⟩
    rw [List.take_length] at eD
    exact q D H' hD sm eD
theorem comp_str {x : Str} {g : TG} {tc : TT} {te : TE} {k : Nat} {σ : St} {H : Hp} {Q : VK} (p : Nat → Bool) (f : Nat → V) (hz : x.length ≤ sizeLine)
    (step : ∀ c ∈ x.cps.toList, ∀ (H' : Hp) (Qy : VK) (Qn : Hp → Prop), Same H H' → (p c = true → ∀ H'', Same H' H'' → Qy (f c) H'') → (p c = false → ∀ H'', Same H' H'' → Qn H'') → g (.str ⟨#[c]⟩) (σ ++ List.replicate k none) H' fun σ2 H2 => (∃ zs, σ2 = σ ++ zs ∧ zs.length = k) ∧ tc σ2 H2 fun b H3 => if b = true then te σ2 H3 Qy else Qn H3)
    (q : ∀ D H', H D = none → Same H H' → H' D = some (.lst ((x.cps.toList.filter p).map f)) → Q (.ref D) H') : compT k g tc te σ Q (ItS x) H := by
  intro D hD
  have hn : x.length = x.cps.toList.length := Wd.len_list x
  refine ⟨fun i m ys H' => m = x.length - i ∧ i ≤ x.length ∧ ys = ((x.cps.toList.take i).filter p).map f ∧ Same H H' ∧ H' D = some (.lst ys), ⟨x.length, by simp, Nat.zero_le _, by simp, new_same hD (Same.refl H), upd_same⟩, ?_⟩
  rintro i m ys H' ⟨rfl, hi, rfl, sm, eD⟩
  refine ⟨eD, ?_⟩
  by_cases hlt : i < x.length
  · refine .inr ⟨hlt, ?_, fun v H2 y => ?_⟩
    · have := List.length_filter_le p (x.cps.toList.take i)
      rw [List.length_map]
      simp only [List.length_take] at this
      omega
    · obtain ⟨rfl, c, hc, rfl⟩ := y
      have hx : x.cps.toList[i]? = some c := by rw [Array.getElem?_toList]; exact hc
      have et : (x.cps.toList.take (i + 1)).filter p = (x.cps.toList.take i).filter p ++ (if p c then [c] else []) := by
        rw [List.take_add_one, hx, List.filter_append]
        congr 1
        cases hpc : p c <;> simp [List.filter, hpc]
      refine step c (List.mem_of_getElem? hx) _ _ _ sm (fun hp H4 s4 => ⟨s4 _ _ eD, x.length - (i + 1), by omega, rfl, hlt, ?_, new_same hD (Same.trans sm s4), upd_same⟩) fun hp H4 s4 => ⟨x.length - (i + 1), by omega, rfl, hlt, ?_, Same.trans sm s4, s4 _ _ eD⟩
      · rw [et, hp]; simp
      · rw [et, hp]; simp
  · obtain rfl : i = x.length := by omega
    refine .inl ⟨Nat.le_refl _, ?_⟩
    rw [hn, List.take_length] at eD
    exact q D H' hD sm eD
end L2
set_option Elab.async false
set_option linter.all false
set_option maxRecDepth 100000
namespace L2
open PySem PySem.Spec PyProof.Rows PySem.W
theorem all_same {α : Type} [DecidableEq α] (d : α) (xs ys : List α) : ((List.range (min xs.length ys.length)).all (fun j => decide (xs.getD j d = ys.getD j d)) && xs.length == ys.length) = decide (xs = ys) := by
  rw [Bool.eq_iff_iff, Bool.and_eq_true, List.all_eq_true, decide_eq_true_iff, beq_iff_eq]
  constructor
  · rintro ⟨h, hl⟩
    refine List.ext_getElem hl fun j h1 h2 => ?_
    have := of_decide_eq_true (h j (List.mem_range.mpr (by omega)))
    rwa [List.getD_eq_getElem?_getD, List.getD_eq_getElem?_getD, List.getElem?_eq_getElem h1, List.getElem?_eq_getElem h2] at this
  · rintro rfl
    exact ⟨fun j _ => decide_eq_true rfl, rfl⟩
structure Tups (K : PySem.W.Frag) (H : Hp) (ps : List Addr) (nss : List (List Int)) : Prop where
  len : ps.length = nss.length
  at_ : ∀ (i : Nat) (p : Addr) (ns : List Int), ps[i]? = some p → nss[i]? = some ns → SqT K H p (ns.map V.int)
theorem Same.sqT {K : PySem.W.Frag} {H H' : Hp} {a : Addr} {xs : List V} (e : Same H H') (h : SqT K H a xs) : SqT K H' a xs := by
  rcases h with (h | ⟨o, h⟩) | h
  · exact .inl (.inl (e _ _ h))
  · exact .inl (.inr ⟨o, e _ _ h⟩)
  · exact .inr h
theorem Tups.same {K : PySem.W.Frag} {H H' : Hp} {ps : List Addr} {nss : List (List Int)} (T : Tups K H ps nss) (s : Same H H') : Tups K H' ps nss := ⟨T.len, fun i p ns h1 h2 => s.sqT (T.at_ i p ns h1 h2)⟩
section
variable {X : Cx} {pins : List (Addr × Obj)} {σ : St} {H : Hp} {s : Shared}
theorem eqAt_ints {A : Around} {its its2 : List Value} {ns ms : List Int} (r1 : Vals (ns.map V.int) its) (r2 : Vals (ms.map V.int) its2) (j : Nat) (h1 : j < its.toArray.size) (h2 : j < its2.toArray.size) :
    SeqAt.EqAt A s its.toArray[j] its2.toArray[j] (decide (ns.getD j 0 = ms.getD j 0)) := by
  have l1 := r1.length
  have l2 := r2.length
  rw [List.length_map] at l1 l2
  rw [List.size_toArray] at h1 h2
  have g1 : j < ns.length := by omega
  have g2 : j < ms.length := by omega
  obtain ⟨u, hu, ru⟩ := r1.get (i := j) (x := V.int ns[j]) (by simp [g1])
  obtain ⟨v, hv, rv⟩ := r2.get (i := j) (x := V.int ms[j]) (by simp [g2])
  obtain ⟨t, rfl⟩ := ru
  obtain ⟨t2, rfl⟩ := rv
  have e1 : its.toArray[j] = .int ns[j] t := by
    rw [List.getElem_toArray]
    exact Option.some.inj ((List.getElem?_eq_getElem h1).symm.trans hu)
  have e2 : its2.toArray[j] = .int ms[j] t2 := by
    rw [List.getElem_toArray]
    exact Option.some.inj ((List.getElem?_eq_getElem h2).symm.trans hv)
  rw [e1, e2]
  have e3 : (ns[j] == ms[j]) = decide (ns.getD j 0 = ms.getD j 0) := by
    rw [List.getD_eq_getElem?_getD, List.getD_eq_getElem?_getD, List.getElem?_eq_getElem g1, List.getElem?_eq_getElem g2]
    rw [Bool.eq_iff_iff, beq_iff_eq, decide_eq_true_iff]; rfl
  rw [← e3]
  exact SeqAt.EqAt.int_int _ _ _ _
theorem tups_bool {its its2 : List Value} {ns ms : List Int} (r1 : Vals (ns.map V.int) its) (r2 : Vals (ms.map V.int) its2) :
    ((List.range (min its.toArray.size its2.toArray.size)).all (fun j => decide (ns.getD j 0 = ms.getD j 0)) && its.toArray.size == its2.toArray.size) = decide (ns = ms) := by
  have l1 := r1.length
  have l2 := r2.length
  rw [List.length_map] at l1 l2
  rw [List.size_toArray, List.size_toArray, ← l1, ← l2]
  exact all_same 0 ns ms
theorem eqAt_tup (I : Inv X pins σ H s) {A : Around} {a b : Addr} {ns ms : List Int} (hu : A.units < cLine) (ha : SqT X.K H a (ns.map V.int)) (hb : SqT X.K H b (ms.map V.int)) : SeqAt.EqAt A s (.ref a) (.ref b) (decide (ns = ms)) := by
  by_cases hab : a = b
  · subst hab
    have e := I.tuple_inj ha hb
    have e2 : ns = ms := (List.map_inj_right (f := V.int) fun x y h => V.int.inj h).mp e
    rw [decide_eq_true e2]
    exact SeqAt.EqAt.same _
  · obtain ⟨its, r1, p1, _⟩ := I.tuple ha
    obtain ⟨its2, r2, p2, _⟩ := I.tuple hb
    rw [← tups_bool r1 r2]
    exact SeqAt.EqAt.of_refs hab (SeqAt.RcAt.tuples p1 p2 hu fun j h1 h2 => eqAt_ints r1 r2 j h1 h2)
theorem op_neT (hu : X.A.units < cLine) : OpR X (compareOp .NotEq) (fun x y H Q => ∃ (a b : Addr) (ns ms : List Int), x = .ref a ∧ y = .ref b ∧ SqT X.K H a (ns.map V.int) ∧ SqT X.K H b (ms.map V.int) ∧ Q (.bl (!decide (ns = ms))) H) := by
  intro pins s σ H x y v u Q I rx ry h
  obtain ⟨a, b, ns, ms, rfl, rfl, ha, hb, q⟩ := h
  cases rx
  cases ry
  obtain ⟨its, r1, p1, _⟩ := I.tuple ha
  obtain ⟨its2, r2, p2, _⟩ := I.tuple hb
  rw [← tups_bool r1 r2] at q
  exact EqBoolInt.of_rcne (SeqAt.RcNeAt.tuples p1 p2 hu fun j h1 h2 => eqAt_ints r1 r2 j h1 h2) ⟨.bl _, H, I, rfl, q⟩
theorem eqAt_refs (I : Inv X pins σ H s) {A : Around} {its its2 : List Value} {ps qs : List Addr} {nss mss : List (List Int)} (hu : A.units < cLine) (T1 : Tups X.K H ps nss) (T2 : Tups X.K H qs mss) (r1 : Vals (ps.map V.ref) its) (r2 : Vals (qs.map V.ref) its2) (j : Nat) (h1 : j < its.toArray.size) (h2 : j < its2.toArray.size) :
    SeqAt.EqAt A s its.toArray[j] its2.toArray[j] (decide (nss.getD j [] = mss.getD j [])) := by
  have e1 := refs_of r1
  have e2 := refs_of r2
  subst e1 e2
  rw [List.size_toArray, List.length_map] at h1 h2
  have g1 : j < nss.length := by rw [← T1.len]; exact h1
  have g2 : j < mss.length := by rw [← T2.len]; exact h2
  rw [List.getElem_toArray, List.getElem_toArray, List.getElem_map, List.getElem_map, List.getD_eq_getElem?_getD, List.getD_eq_getElem?_getD, List.getElem?_eq_getElem g1, List.getElem?_eq_getElem g2]
  exact eqAt_tup I hu (T1.at_ j _ _ (List.getElem?_eq_getElem h1) (List.getElem?_eq_getElem g1)) (T2.at_ j _ _ (List.getElem?_eq_getElem h2) (List.getElem?_eq_getElem g2))
theorem lists_bool {its its2 : List Value} {ps qs : List Addr} {nss mss : List (List Int)} (l1 : ps.length = nss.length) (l2 : qs.length = mss.length) (r1 : Vals (ps.map V.ref) its) (r2 : Vals (qs.map V.ref) its2) (hz : its.toArray.size = its2.toArray.size) :
    (List.range its.toArray.size).all (fun j => decide (nss.getD j [] = mss.getD j [])) = decide (nss = mss) := by
  have e1 := r1.length
  have e2 := r2.length
  rw [List.length_map] at e1 e2
  rw [List.size_toArray] at hz ⊢
  rw [List.size_toArray] at hz
  rw [← all_same [] nss mss, show min nss.length mss.length = its.length by omega, show (nss.length == mss.length) = true by rw [beq_iff_eq]; omega, Bool.and_true]
theorem op_neLT (hu : X.A.units + 64 < cLine) : OpR X (compareOp .NotEq) (fun x y H Q => ∃ a b ps qs nss mss, x = .ref a ∧ y = .ref b ∧ SqL X.K H a (ps.map V.ref) ∧ SqL X.K H b (qs.map V.ref) ∧ Tups X.K H ps nss ∧ Tups X.K H qs mss ∧ Q (.bl (!decide (nss = mss))) H) := by
  intro pins s σ H x y v u Q I rx ry h
  obtain ⟨a, b, ps, qs, nss, mss, rfl, rfl, ha, hb, T1, T2, q⟩ := h
  cases rx
  cases ry
  obtain ⟨its, r1, p1, _⟩ := I.list ha
  obtain ⟨its2, r2, p2, _⟩ := I.list hb
  have hu1 : X.A.units < cLine := by omega
  have hu2 : X.A.in1.units < cLine := by show X.A.units + 1 < cLine; omega
  by_cases hz : its.toArray.size = its2.toArray.size
  · rw [← lists_bool T1.len T2.len r1 r2 hz] at q
    exact EqBoolInt.of_rcne (SeqAt.RcNeAt.lists p1.isList p2.isList hz hu1 fun j h1 h2 => eqAt_refs I hu2 T1 T2 r1 r2 j h1 h2) ⟨.bl _, H, I, rfl, q⟩
  · have hne : nss ≠ mss := fun e => by
      have e1 := r1.length
      have e2 := r2.length
      rw [List.length_map] at e1 e2
      rw [List.size_toArray, List.size_toArray] at hz
      have := T1.len
      have := T2.len
      rw [e] at *
      omega
    rw [decide_eq_false hne] at q
    exact EqBoolInt.of_rcne (SeqAt.RcNeAt.lists_lengths p1.isList p2.isList (bne_iff_ne.mpr hz) hu1) ⟨.bl true, H, I, rfl, q⟩
theorem op_eqLT (hu : X.A.units + 64 < cLine) : OpR X (compareOp .Eq) (fun x y H Q => ∃ a b ps qs nss mss, x = .ref a ∧ y = .ref b ∧ SqL X.K H a (ps.map V.ref) ∧ SqL X.K H b (qs.map V.ref) ∧ Tups X.K H ps nss ∧ Tups X.K H qs mss ∧ Q (.bl (decide (nss = mss))) H) := by
  intro pins s σ H x y v u Q I rx ry h
  obtain ⟨a, b, ps, qs, nss, mss, rfl, rfl, ha, hb, T1, T2, q⟩ := h
  cases rx
  cases ry
  obtain ⟨its, r1, p1, _⟩ := I.list ha
  obtain ⟨its2, r2, p2, _⟩ := I.list hb
  have hu1 : X.A.units < cLine := by omega
  have hu2 : X.A.in1.units < cLine := by show X.A.units + 1 < cLine; omega
  by_cases hz : its.toArray.size = its2.toArray.size
  · rw [← lists_bool T1.len T2.len r1 r2 hz] at q
    exact EqBoolInt.of_rc (SeqAt.RcAt.lists p1.isList p2.isList hz hu1 fun j h1 h2 => eqAt_refs I hu2 T1 T2 r1 r2 j h1 h2) ⟨.bl _, H, I, rfl, q⟩
  · have hne : nss ≠ mss := fun e => by
      have e1 := r1.length
      have e2 := r2.length
      rw [List.length_map] at e1 e2
      rw [List.size_toArray, List.size_toArray] at hz
      have := T1.len
      have := T2.len
      rw [e] at *
      omega
    rw [decide_eq_false hne] at q
    exact EqBoolInt.of_rc (SeqAt.RcAt.lists_lengths p1.isList p2.isList (bne_iff_ne.mpr hz) hu1) ⟨.bl false, H, I, rfl, q⟩
def rEnds : V → List V → Hp → VK → Prop := fun x vs H Q => ∃ z y, x = .str z ∧ vs = [.str y] ∧ Q (.bl (Txt.endswith z y)) H
theorem mt_endswith : MtR X "str.endswith" rEnds := by
  intro pins s σ H x vs v us Q I rx rv h
  obtain ⟨z, y, rfl, rfl, q⟩ := h
  obtain ⟨t, rfl⟩ := rx
  obtain ⟨u, rfl, ru⟩ := vals1 rv
  obtain ⟨t2, rfl⟩ := ru
  exact call_gives F.slot_str_endswith (typeIs_str _ _ _) F.entry_str_endswith (F.args_str_endswith_2 _ _) (gives_str_endswith z y t t2) (show EP X pins σ Q (.bool (Txt.endswith z y)) s from ⟨.bl _, H, I, rfl, q⟩)
def Fmt (x : V) : Prop := (∃ n, x = .int n ∧ n.natAbs.log2 < 1920) ∨ ∃ z, x = .str z ∧ z.length ≤ 2000
theorem fmt_ok {prog : Program} {w : World} {A : Around} {E : Value → Shared → Prop} {Q : Value → Shared → Prop} {x : V} {v : Value} (r : RelV x v) (F : Fmt x) (k : ∀ (y : Str) (t : Tok) (tk : Nat), y.length ≤ 2000 → Q (.str y t) { s with toks := tk }) : wpAny (model prog w) A (formatField v Str.empty) Q E s := by
  rcases F with ⟨n, rfl, hd⟩ | ⟨z, rfl, hz⟩
  · obtain ⟨t, rfl⟩ := r
    exact formatField_int_small hd (k _ _ _ (Nat.le_trans (int_text_len_1921 hd) (by decide)))
  · obtain ⟨t, rfl⟩ := r
    exact formatField_str (fun t' tk => k _ _ _ hz) (Nat.le_trans hz (by decide))
theorem pe_fstr2 {a : Str} {e1 : Expr} {t1 : TE} {p1 p2 p6 : Pos} {k1 : Nat} (ha : a.length ≤ 1000) (he1 : PE X e1 t1) :
    PE X (.JoinedStr [.Constant (.str a) k1 p1, .FormattedValue e1 (-1) none p2] p6) (fun σ H Q => t1 σ H fun x H1 => Fmt x ∧ ∀ z, Q (.str z) H1) := by
  intro pins s σ H Q I h
  refine JoinedStr_many (joinParts_cons (Calls.Constant_str ?_))
  have hz : (7000 : Nat) ≤ sizeLine := by decide
  have l0 : (Str.empty ++ a).length ≤ 1000 := by rw [strLen_append]; show 0 + a.length ≤ 1000; omega
  refine ⟨Nat.le_trans l0 (by decide), joinParts_cons (FormattedValue_plain (thn (he1 pins _ σ H _ (I.tok _) h) fun v s1 ⟨x, H1, I1, r1, F1, q1⟩ => ?_))⟩
  refine fmt_ok r1 F1 fun y t tk ly => ?_
  have m1 := strLen_append (Str.empty ++ a) y
  exact ⟨by omega, joinParts_nil ⟨.str _, H1, (I1.tok _), ⟨_, rfl⟩, q1 _⟩ (by omega)⟩
theorem pe_fstr5 {a b c : Str} {e1 e2 : Expr} {t1 t2 : TE} {p1 p2 p3 p4 p5 p6 : Pos} {k1 k2 k3 : Nat} (ha : a.length ≤ 1000) (hb : b.length ≤ 1000) (hc : c.length ≤ 1000) (he1 : PE X e1 t1) (he2 : PE X e2 t2) :
    PE X (.JoinedStr [.Constant (.str a) k1 p1, .FormattedValue e1 (-1) none p2, .Constant (.str b) k2 p3, .FormattedValue e2 (-1) none p4, .Constant (.str c) k3 p5] p6) (fun σ H Q => t1 σ H fun x H1 => Fmt x ∧ t2 σ H1 fun y H2 => Fmt y ∧ ∀ z, Q (.str z) H2) := by
  intro pins s σ H Q I h
  refine JoinedStr_many (joinParts_cons (Calls.Constant_str ?_))
  have hz : (7000 : Nat) ≤ sizeLine := by decide
  have l0 : (Str.empty ++ a).length ≤ 1000 := by rw [strLen_append]; show 0 + a.length ≤ 1000; omega
  refine ⟨Nat.le_trans l0 (by decide), joinParts_cons (FormattedValue_plain (thn (he1 pins _ σ H _ (I.tok _) h) fun v s1 ⟨x, H1, I1, r1, F1, q1⟩ => ?_))⟩
  refine fmt_ok r1 F1 fun y t tk ly => ?_
  have m1 := strLen_append (Str.empty ++ a) y
  refine ⟨by omega, joinParts_cons (Calls.Constant_str ?_)⟩
  have m2 := strLen_append (Str.empty ++ a ++ y) b
  refine ⟨by omega, joinParts_cons (FormattedValue_plain (thn (he2 pins _ σ H1 _ ((I1.tok _).tok _) q1) fun v s2 ⟨x2, H2, I2, r2, F2, q2⟩ => ?_))⟩
  refine fmt_ok r2 F2 fun y2 t2 tk2 ly2 => ?_
  have m3 := strLen_append (Str.empty ++ a ++ y ++ b) y2
  refine ⟨by omega, joinParts_cons (Calls.Constant_str ?_)⟩
  have m4 := strLen_append (Str.empty ++ a ++ y ++ b ++ y2) c
  exact ⟨by omega, joinParts_nil ⟨.str _, H2, ((I2.tok _).tok _), ⟨_, rfl⟩, q2 _⟩ (by omega)⟩
end
theorem comp_growT {K : PySem.W.Frag} {a : Addr} {xs : List V} {g : TG} {tc : TT} {te : TE} {k : Nat} {σ : St} {H : Hp} {Q : VK} (p : V → Bool) (f : V → V) (hl : SqT K H a xs) (hz : xs.length ≤ sizeLine)
    (step : ∀ x ∈ xs, ∀ (H' : Hp) (Qy : VK) (Qn : Hp → Prop), Same H H' → (p x = true → ∀ H'', Same H' H'' → Qy (f x) H'') → (p x = false → ∀ H'', Same H' H'' → Qn H'') → g x (σ ++ List.replicate k none) H' fun σ2 H2 => (∃ zs, σ2 = σ ++ zs ∧ zs.length = k) ∧ tc σ2 H2 fun b H3 => if b = true then te σ2 H3 Qy else Qn H3)
    (q : ∀ D H', H D = none → Same H H' → H' D = some (.lst ((xs.filter p).map f)) → Q (.ref D) H') : compT k g tc te σ Q (Itt K a) H := by
  intro D hD
  refine ⟨fun i m ys H' => m = xs.length - i ∧ i ≤ xs.length ∧ ys = ((xs.take i).filter p).map f ∧ Same H H' ∧ H' D = some (.lst ys), ⟨xs.length, by simp, Nat.zero_le _, by simp, new_same hD (Same.refl H), upd_same⟩, ?_⟩
  rintro i m ys H' ⟨rfl, hi, rfl, sm, eD⟩
  refine ⟨eD, ?_⟩
  have q1 : SqT K H' a xs := sm.sqT hl
  by_cases hlt : i < xs.length
  · refine .inr ⟨⟨xs, xs[i], q1, by simp [hlt]⟩, ?_, fun x H2 y => ?_⟩
    · have := List.length_filter_le p (xs.take i)
      rw [List.length_map]
      simp only [List.length_take] at this
      omega
    · obtain ⟨rfl, y⟩ := y
      have hx : xs[i]? = some x := y xs q1
      have et : (xs.take (i + 1)).filter p = (xs.take i).filter p ++ (if p x then [x] else []) := take_succ_filter p xs i x hx
      refine step x (List.mem_of_getElem? hx) _ _ _ sm (fun hp H4 s4 => ⟨s4 _ _ eD, xs.length - (i + 1), by omega, rfl, hlt, ?_, new_same hD (Same.trans sm s4), upd_same⟩) fun hp H4 s4 => ⟨xs.length - (i + 1), by omega, rfl, hlt, ?_, Same.trans sm s4, s4 _ _ eD⟩
      · rw [et, hp]; simp
      · rw [et, hp]; simp
  · obtain rfl : i = xs.length := by omega
    refine .inl ⟨⟨xs, q1, Nat.le_refl _⟩, ?_⟩
    rw [List.take_length] at eD
    exact q D H' hD sm eD
theorem comp_range {lo : Int} {n : Nat} {g : TG} {tc : TT} {te : TE} {k : Nat} {σ : St} {H : Hp} {Q : VK} (Pv : Addr → Nat → List V → Hp → Prop) (hn : n ≤ sizeLine)
    (h0 : ∀ D, H D = none → Pv D 0 [] (upd H D (.lst []))) (hD : ∀ D i ys H', Pv D i ys H' → H' D = some (.lst ys) ∧ ys.length = i)
    (step : ∀ D i ys H' (Qy : VK) (Qn : Hp → Prop), i < n → Pv D i ys H' → (∀ y H4, H4 D = some (.lst ys) → Pv D (i + 1) (ys ++ [y]) (upd H4 D (.lst (ys ++ [y]))) → Qy y H4) →
      g (.int (lo + i)) (σ ++ List.replicate k none) H' fun σ2 H2 => (∃ zs, σ2 = σ ++ zs ∧ zs.length = k) ∧ tc σ2 H2 fun b H3 => if b = true then te σ2 H3 Qy else Qn H3)
    (q : ∀ D ys H', H D = none → Pv D n ys H' → Q (.ref D) H') : compT k g tc te σ Q (Itr lo n) H := by
  intro D hDn
  refine ⟨fun i m ys H' => m = n - i ∧ i ≤ n ∧ Pv D i ys H', ⟨n, by simp, Nat.zero_le _, h0 D hDn⟩, ?_⟩
  rintro i m ys H' ⟨rfl, hi, p⟩
  obtain ⟨e, hl⟩ := hD D i ys H' p
  refine ⟨e, ?_⟩
  by_cases hlt : i < n
  · refine .inr ⟨hlt, by omega, fun x H2 y => ?_⟩
    obtain ⟨rfl, rfl⟩ := y
    exact step D i ys H2 _ _ hlt p fun y H4 e4 p4 => ⟨e4, n - (i + 1), by omega, rfl, hlt, p4⟩
  · obtain rfl : i = n := by omega
    exact .inl ⟨Nat.le_refl _, q D ys H' hDn p⟩
theorem comp_list {K : PySem.W.Frag} {a : Addr} {xs : List V} {g : TG} {tc : TT} {te : TE} {k : Nat} {σ : St} {H : Hp} {Q : VK} (Pv : Addr → Nat → List V → Hp → Prop) (hz : xs.length ≤ sizeLine)
    (h0 : ∀ D, H D = none → Pv D 0 [] (upd H D (.lst []))) (hD : ∀ D i ys H', Pv D i ys H' → H' D = some (.lst ys) ∧ ys.length ≤ i ∧ SqL K H' a xs)
    (step : ∀ D i x ys H' (Qy : VK) (Qn : Hp → Prop), xs[i]? = some x → Pv D i ys H' → (∀ y H4, H4 D = some (.lst ys) → Pv D (i + 1) (ys ++ [y]) (upd H4 D (.lst (ys ++ [y]))) → Qy y H4) → (∀ H4, Pv D (i + 1) ys H4 → Qn H4) →
      g x (σ ++ List.replicate k none) H' fun σ2 H2 => (∃ zs, σ2 = σ ++ zs ∧ zs.length = k) ∧ tc σ2 H2 fun b H3 => if b = true then te σ2 H3 Qy else Qn H3)
    (q : ∀ D ys H', H D = none → Pv D xs.length ys H' → Q (.ref D) H') : compT k g tc te σ Q (Itl K a) H := by
  intro D hDn
  refine ⟨fun i m ys H' => m = xs.length - i ∧ i ≤ xs.length ∧ Pv D i ys H', ⟨xs.length, by simp, Nat.zero_le _, h0 D hDn⟩, ?_⟩
  rintro i m ys H' ⟨rfl, hi, p⟩
  obtain ⟨e, hl, q1⟩ := hD D i ys H' p
  refine ⟨e, ?_⟩
  by_cases hlt : i < xs.length
  · refine .inr ⟨⟨xs, xs[i], q1, by simp [hlt]⟩, by omega, fun x H2 y => ?_⟩
    obtain ⟨rfl, y⟩ := y
    exact step D i x ys H2 _ _ (y xs q1) p (fun y H4 e4 p4 => ⟨e4, xs.length - (i + 1), by omega, rfl, hlt, p4⟩) fun H4 p4 => ⟨xs.length - (i + 1), by omega, rfl, hlt, p4⟩
  · obtain rfl : i = xs.length := by omega
    exact .inl ⟨⟨xs, q1, Nat.le_refl _⟩, q D ys H' hDn p⟩
section
variable {X : Cx} {K : PySem.W.Frag}
theorem call_tuple_ofK (h : X.K = K) : CallR X (.type "tuple") (fun xs H Q => ∃ p ys, xs = [.ref p] ∧ ((SqL K H p ys ∧ ∀ l, H l = none → Q (.ref l) (upd H l (.tup ys))) ∨ (SqT K H p ys ∧ Q (.ref p) H))) := by
  subst h; exact call_tuple_of
theorem call_list_ofK (h : X.K = K) : CallR X (.type "list") (fun xs H Q => ∃ p ys, xs = [.ref p] ∧ (SqL K H p ys ∨ SqT K H p ys) ∧ ∀ l, H l = none → Q (.ref l) (upd H l (.lst ys))) := by
  subst h; exact call_list_of
theorem call_len_seqK (h : X.K = K) : CallR X (.builtin "len") (fun xs H Q => ∃ p ys, xs = [.ref p] ∧ (SqL K H p ys ∨ SqT K H p ys) ∧ Q (.int ys.length) H) := by
  subst h; exact call_len_seq
end
end L2
set_option Elab.async false
set_option linter.all false
set_option maxRecDepth 100000
namespace Wd
open PySem L2 PySem.NumText PySem.W
theorem sg (n : Nat) : (tx (n : Int)).cps.toList = (Nat.toDigits 10 n).map Char.toNat := KIN.signs_num n
theorem dg_char {c : Char} (h : c.isDigit = true) : 48 ≤ c.toNat ∧ c.toNat ≤ 57 := by
  unfold Char.isDigit at h
  simp only [Bool.and_eq_true, decide_eq_true_eq] at h
  exact ⟨UInt32.le_iff_toNat_le.mp h.1, UInt32.le_iff_toNat_le.mp h.2⟩
theorem sg_dig (n : Nat) : AllDigits ((Nat.toDigits 10 n).map Char.toNat) := fun x hx => by
  obtain ⟨c, hc, rfl⟩ := List.mem_map.mp hx
  exact dg_char (Nat.isDigit_of_mem_toDigits (by decide) (by decide) hc)
theorem sg_val (n : Nat) : digitsVal ((Nat.toDigits 10 n).map Char.toNat) = n := by
  induction n using Nat.strongRecOn with
  | _ n ih =>
    rw [Nat.toDigits_eq_if (by decide)]
    split
    · rename_i h
      rw [List.map_singleton, dchar h]
      show 0 * 10 + (48 + n - 48) = n
      omega
    · rename_i h
      rw [List.map_append, List.map_singleton, dv_snoc, ih (n / 10) (by omega), dchar (by omega)]
      omega
theorem sg_lead (n : Nat) : ((Nat.toDigits 10 n).map Char.toNat).head? = some 48 → n = 0 := by
  induction n using Nat.strongRecOn with
  | _ n ih =>
    rw [Nat.toDigits_eq_if (by decide)]
    split
    · rename_i h
      rw [List.map_singleton, dchar h]
      intro e
      have := Option.some.inj e
      omega
    · rename_i h
      intro e
      rw [List.map_append, List.head?_append] at e
      cases q : (List.map Char.toNat (Nat.toDigits 10 (n / 10))).head? with
      | none =>
        rw [List.head?_eq_none_iff, List.map_eq_nil_iff] at q
        exact absurd q Nat.toDigits_ne_nil
      | some c =>
        rw [q] at e
        have e2 : c = 48 := Option.some.inj e
        have := ih (n / 10) (by omega) (by rw [q, e2])
        omega
theorem sg_num {n : Nat} (h : n < 10 ^ 40) : isNumL (tx (n : Int)).cps.toList = true ∧ numL (tx (n : Int)).cps.toList = n := by
  have hd := sg_dig n
  have hne : (Nat.toDigits 10 n).map Char.toNat ≠ [] := fun e => Nat.toDigits_ne_nil (List.map_eq_nil_iff.mp e)
  have hf : ((Nat.toDigits 10 n).map Char.toNat).head? ≠ some 45 := fun e => by
    obtain ⟨r, hr⟩ : ∃ r, (Nat.toDigits 10 n).map Char.toNat = 45 :: r := by
      cases q : (Nat.toDigits 10 n).map Char.toNat with
      | nil => rw [q] at e; cases e
      | cons a r => rw [q] at e; cases e; exact ⟨r, rfl⟩
    have := hd 45 (by rw [hr]; exact .head _)
    omega
  have hl : ((Nat.toDigits 10 n).map Char.toNat).length ≤ 40 := by rw [List.length_map]; exact (Nat.length_toDigits_le_iff (by decide) (by decide)).mpr h
  rw [sg]
  refine ⟨?_, ?_⟩
  · unfold isNumL
    rw [figs_pos hf]
    have h1 : 1 ≤ ((Nat.toDigits 10 n).map Char.toNat).length := List.length_pos_iff.mpr hne
    have h3 : ((Nat.toDigits 10 n).map Char.toNat).all isDig = true := List.all_eq_true.mpr fun c hc => by
      have := hd c hc
      unfold isDig
      rw [decide_eq_true this.1, decide_eq_true this.2]; rfl
    rw [decide_eq_true h1, decide_eq_true hl, h3]
    by_cases z : n = 0
    · subst z; decide
    · have : (((Nat.toDigits 10 n).map Char.toNat).head? == some 48) = false := by
        rw [beq_eq_false_iff_ne]; exact fun e => z (sg_lead n e)
      rw [this]; rfl
  · unfold numL
    rw [if_neg hf, sg_val]
def jl (c : Nat) : List (List Nat) → List Nat
  | [] => []
  | [x] => x
  | x :: y :: r => x ++ c :: jl c (y :: r)
theorem app_list (x y : Str) : (x ++ y).cps.toList = x.cps.toList ++ y.cps.toList := Array.toList_append
theorem join_toList (c : Nat) : ∀ ps : List Str, (Str.join ⟨#[c]⟩ ps).cps.toList = jl c (ps.map fun p => p.cps.toList)
  | [] => rfl
  | [x] => rfl
  | x :: y :: r => by
    rw [PyProof.Rows.join_cons_cons, app_list, app_list, join_toList c (y :: r), List.append_assoc]
    rfl
theorem mid_inj {c : Nat} : ∀ {x x' t t' : List Nat}, c ∉ x → c ∉ x' → x ++ c :: t = x' ++ c :: t' → x = x' ∧ t = t'
  | [], [], _, _, _, _, h => ⟨rfl, (List.cons.inj h).2⟩
  | [], a :: r, _, _, _, h2, h => absurd (List.cons.inj h).1 fun e => h2 (e ▸ .head _)
  | a :: r, [], _, _, h1, _, h => absurd (List.cons.inj h).1 fun e => h1 (e ▸ .head _)
  | a :: r, b :: r', t, t', h1, h2, h => by
    obtain ⟨e1, e2⟩ := List.cons.inj h
    obtain ⟨q1, q2⟩ := mid_inj (x := r) (x' := r') (fun z => h1 (.tail _ z)) (fun z => h2 (.tail _ z)) e2
    exact ⟨by rw [e1, q1], q2⟩
theorem jl_inj {c : Nat} : ∀ {ps qs : List (List Nat)}, ps ≠ [] → qs ≠ [] → (∀ p ∈ ps, c ∉ p) → (∀ p ∈ qs, c ∉ p) → jl c ps = jl c qs → ps = qs
  | [], _, h, _, _, _, _ => absurd rfl h
  | _ :: _, [], _, h, _, _, _ => absurd rfl h
  | [x], [x'], _, _, _, _, e => by rw [show x = x' from e]
  | [x], x' :: y' :: r', _, _, h1, _, e => absurd (show c ∈ x by rw [show x = x' ++ c :: jl c (y' :: r') from e]; simp) (h1 x (.head _))
  | x :: y :: r, [x'], _, _, _, h2, e => absurd (show c ∈ x' by rw [show x' = x ++ c :: jl c (y :: r) from e.symm]; simp) (h2 x' (.head _))
  | x :: y :: r, x' :: y' :: r', _, _, h1, h2, e => by
    obtain ⟨e1, e2⟩ := mid_inj (h1 x (.head _)) (h2 x' (.head _)) (show x ++ c :: jl c (y :: r) = x' ++ c :: jl c (y' :: r') from e)
    have := jl_inj (ps := y :: r) (qs := y' :: r') (by simp) (by simp) (fun p hp => h1 p (.tail _ hp)) (fun p hp => h2 p (.tail _ hp)) e2
    rw [e1, this]
theorem toL_inj : ∀ {ps qs : List Str}, (ps.map fun p => p.cps.toList) = (qs.map fun p => p.cps.toList) → ps = qs
  | [], [], _ => rfl
  | [], _ :: _, h => nomatch h
  | _ :: _, [], h => nomatch h
  | p :: r, q :: t, h => by
    have h := List.cons.inj h
    rw [str_ext h.1, toL_inj h.2]
theorem split_of_join {c : Nat} {ps : List Str} (hne : ps ≠ []) (hf : ∀ p ∈ ps, c ∉ p.cps.toList) : Txt.split (Str.join ⟨#[c]⟩ ps) ⟨#[c]⟩ = ps := by
  have e := StrLaws.join_split (Str.join ⟨#[c]⟩ ps) ⟨#[c]⟩
  have e2 := congrArg (fun s : Str => s.cps.toList) e
  simp only [join_toList] at e2
  refine toL_inj (jl_inj (fun z => split_ne _ _ (List.map_eq_nil_iff.mp z)) (fun z => hne (List.map_eq_nil_iff.mp z)) (fun p hp => ?_) (fun p hp => ?_) e2)
  · obtain ⟨q, hq, rfl⟩ := List.mem_map.mp hp
    exact StrLaws.split_free _ c q hq
  · obtain ⟨q, hq, rfl⟩ := List.mem_map.mp hp
    exact hf q hq
theorem tjoin (y : Str) (ps : List Str) : Txt.join y ps = Str.join y ps := beq_iff_eq.mp (PyProof.Rows.join_closes rfl)
theorem blank_is : (" " : Str) = ⟨#[32]⟩ := by decide +kernel
theorem nl_is : ("\n" : Str) = ⟨#[10]⟩ := by decide +kernel
def rowT (w : Str) (ns : List Int) : Str := Txt.join " " (w :: ns.map tx)
theorem tx_free (c : Nat) (h : c ≠ 45 ∧ (c < 48 ∨ 57 < c)) (n : Int) : c ∉ (tx n).cps.toList := fun hm => by
  by_cases hn : 0 ≤ n
  · obtain ⟨k, rfl⟩ := Int.eq_ofNat_of_zero_le hn
    rw [sg] at hm
    have := sg_dig k c hm
    omega
  · obtain ⟨k, rfl⟩ : ∃ k : Nat, n = -((k + 1 : Nat) : Int) := ⟨(-n).toNat - 1, by omega⟩
    have e2 : toString (-((k + 1 : Nat) : Int)) = "-" ++ toString (k + 1) := rfl
    unfold tx at hm
    rw [e2, ofS, String.toList_append, List.map_append] at hm
    have e3 : ((toString (k + 1) : String).toList.map Char.toNat) = (Nat.toDigits 10 (k + 1)).map Char.toNat := by
      show (Nat.repr (k + 1)).toList.map Char.toNat = _
      rw [Nat.toList_repr]
    rw [e3] at hm
    rcases List.mem_append.mp hm with z | z
    · have : c = 45 := by simpa using z
      omega
    · have := sg_dig (k + 1) c z
      omega
theorem row_split {w : Str} {ns : List Int} (hw : 32 ∉ w.cps.toList) : Txt.split (rowT w ns) " " = w :: ns.map tx := by
  unfold rowT
  rw [tjoin, blank_is]
  refine split_of_join (by simp) fun p hp => ?_
  rcases List.mem_cons.mp hp with rfl | hp
  · exact hw
  · obtain ⟨n, _, rfl⟩ := List.mem_map.mp hp
    exact tx_free 32 (by decide) n
theorem jl_mem {c d : Nat} (h : d ≠ c) : ∀ {ps : List (List Nat)}, d ∈ jl c ps → ∃ p ∈ ps, d ∈ p
  | [x], hm => ⟨x, .head _, hm⟩
  | x :: y :: r, hm => by
    rcases List.mem_append.mp (show d ∈ x ++ c :: jl c (y :: r) from hm) with z | z
    · exact ⟨x, .head _, z⟩
    · rcases List.mem_cons.mp z with z | z
      · exact absurd z h
      · obtain ⟨p, hp, e⟩ := jl_mem h (ps := y :: r) z
        exact ⟨p, .tail _ hp, e⟩
theorem row_free {w : Str} {ns : List Int} (hw : 10 ∉ w.cps.toList) : 10 ∉ (rowT w ns).cps.toList := fun hm => by
  unfold rowT at hm
  rw [tjoin, blank_is, join_toList] at hm
  obtain ⟨p, hp, e⟩ := jl_mem (by decide) hm
  obtain ⟨q, hq, rfl⟩ := List.mem_map.mp hp
  rcases List.mem_cons.mp hq with rfl | hq
  · exact hw e
  · obtain ⟨n, _, rfl⟩ := List.mem_map.mp hq
    exact tx_free 10 (by decide) n e
def linesT (rows : List Str) : Str := Txt.join "" (rows.map fun r => r ++ ("\n" : Str))
theorem empty_is : ("" : Str) = ⟨#[]⟩ := by decide +kernel
theorem join0 : ∀ ps : List Str, (Str.join ⟨#[]⟩ ps).cps.toList = ps.flatMap fun p => p.cps.toList
  | [] => rfl
  | [x] => by simp [Str.join]
  | x :: y :: r => by
    rw [PyProof.Rows.join_cons_cons, app_list, app_list, join0 (y :: r), List.flatMap_cons]
    simp
theorem lines_list (rows : List Str) : (linesT rows).cps.toList = rows.flatMap fun r => r.cps.toList ++ [10] := by
  unfold linesT
  rw [tjoin, empty_is, join0, List.flatMap_map]
  congr 1
  funext r
  rw [app_list, nl_is]
theorem jl_end : ∀ rows : List (List Nat), jl 10 (rows ++ [[]]) = rows.flatMap fun r => r ++ [10]
  | [] => rfl
  | [x] => by simp [jl]
  | x :: y :: r => by
    show x ++ 10 :: jl 10 ((y :: r) ++ [[]]) = _
    rw [jl_end (y :: r), List.flatMap_cons]
    simp
theorem lines_join (rows : List Str) : linesT rows = Str.join ⟨#[10]⟩ (rows ++ [("" : Str)]) := by
  apply str_ext
  rw [lines_list, join_toList, List.map_append]
  show _ = jl 10 (rows.map (fun p => p.cps.toList) ++ [("" : Str).cps.toList])
  rw [show ("" : Str).cps.toList = [] by decide +kernel, jl_end, List.flatMap_map]
theorem lines_split {rows : List Str} (h : ∀ r ∈ rows, 10 ∉ r.cps.toList) : Txt.split (linesT rows) "\n" = rows ++ [("" : Str)] := by
  rw [lines_join, nl_is]
  refine split_of_join (by simp) fun p hp => ?_
  rcases List.mem_append.mp hp with z | z
  · exact h p z
  · rw [List.mem_singleton.mp z]; decide +kernel
theorem ends_nl (z : Str) : Txt.endswith z "\n" = decide (z.cps.toList[z.cps.toList.length - 1]? = some 10) := by
  have h := StrLaws.subAt_one z 10 (z.length - 1)
  rw [nl_is]
  unfold Txt.endswith
  have e1 : (⟨#[10]⟩ : Str).length = 1 := rfl
  rw [e1] at h ⊢
  rw [← len_list, Bool.eq_iff_iff, Bool.and_eq_true, decide_eq_true_iff, decide_eq_true_iff, ← h]
  constructor
  · rintro ⟨a, b⟩; exact ⟨by omega, b⟩
  · rintro ⟨a, b⟩; exact ⟨by omega, b⟩
theorem lines_end {rows : List Str} (h : rows ≠ []) : Txt.endswith (linesT rows) "\n" = true := by
  rw [ends_nl, decide_eq_true_iff, lines_list]
  obtain ⟨rs, r, rfl⟩ : ∃ rs r, rows = rs ++ [r] := ⟨rows.dropLast, rows.getLast h, (List.dropLast_concat_getLast h).symm⟩
  rw [List.flatMap_append, List.flatMap_singleton, ← List.append_assoc]
  simp
end Wd
set_option Elab.async false
set_option linter.all false
set_option maxRecDepth 100000
set_option maxHeartbeats 4000000
namespace K31
open PySem L2 Wd
def top (i : Nat) : Stmt := PySem.Challenge.pw_copperbook_k31_rules_as_texts.main.body.getD i (.Pass ⟨0, 0, 0, 0⟩)
abbrev s_is_whole : Stmt := top 6
theorem sc_is_whole : FnScope ["value"] ["value"] (defScope s_is_whole) := ⟨rfl, rfl, rfl, by decide +kernel, rfl, by decide +kernel, by decide +kernel⟩
abbrev s_is_short : Stmt := top 7
theorem sc_is_short : FnScope ["number"] ["number"] (defScope s_is_short) := ⟨rfl, rfl, rfl, by decide +kernel, rfl, by decide +kernel, by decide +kernel⟩
abbrev s_read_number : Stmt := top 8
theorem sc_read_number : FnScope ["word", "figures"] ["word"] (defScope s_read_number) := ⟨rfl, rfl, rfl, by decide +kernel, rfl, by decide +kernel, by decide +kernel⟩
abbrev s_read_row : Stmt := top 9
theorem sc_read_row : FnScope ["text", "words", "numbers"] ["text"] (defScope s_read_row) := ⟨rfl, rfl, rfl, by decide +kernel, rfl, by decide +kernel, by decide +kernel⟩
abbrev s_read_lines : Stmt := top 10
theorem sc_read_lines : FnScope ["text"] ["text"] (defScope s_read_lines) := ⟨rfl, rfl, rfl, by decide +kernel, rfl, by decide +kernel, by decide +kernel⟩
abbrev s_tell_row : Stmt := top 11
theorem sc_tell_row : FnScope ["word", "numbers"] ["word", "numbers"] (defScope s_tell_row) := ⟨rfl, rfl, rfl, by decide +kernel, rfl, by decide +kernel, by decide +kernel⟩
abbrev s_tell_lines : Stmt := top 12
theorem sc_tell_lines : FnScope ["rows"] ["rows"] (defScope s_tell_lines) := ⟨rfl, rfl, rfl, by decide +kernel, rfl, by decide +kernel, by decide +kernel⟩
abbrev s_Rules_init : Stmt := inClass (top 18) 0
theorem sc_Rules_init : FnScope ["self", "gap", "width", "rim", "keeps"] ["self", "gap", "width", "rim", "keeps"] (defScope s_Rules_init) := ⟨rfl, rfl, rfl, by decide +kernel, rfl, by decide +kernel, by decide +kernel⟩
abbrev s_Rules_told : Stmt := inClass (top 18) 1
theorem sc_Rules_told : FnScope ["self", "rows"] ["self"] (defScope s_Rules_told) := ⟨rfl, rfl, rfl, by decide +kernel, rfl, by decide +kernel, by decide +kernel⟩
abbrev s_need_between : Stmt := top 19
theorem sc_need_between : FnScope ["number", "least", "most"] ["number", "least", "most"] (defScope s_need_between) := ⟨rfl, rfl, rfl, by decide +kernel, rfl, by decide +kernel, by decide +kernel⟩
abbrev s_need_keeps : Stmt := top 20
theorem sc_need_keeps : FnScope ["keeps", "keep"] ["keeps"] (defScope s_need_keeps) := ⟨rfl, rfl, rfl, by decide +kernel, rfl, by decide +kernel, by decide +kernel⟩
abbrev s_need_keep : Stmt := top 21
theorem sc_need_keep : FnScope ["keep", "number"] ["keep"] (defScope s_need_keep) := ⟨rfl, rfl, rfl, by decide +kernel, rfl, by decide +kernel, by decide +kernel⟩
abbrev s_read_rules : Stmt := top 22
theorem sc_read_rules : FnScope ["text", "rows", "gap", "width", "rim", "keeps"] ["text"] (defScope s_read_rules) := ⟨rfl, rfl, rfl, by decide +kernel, rfl, by decide +kernel, by decide +kernel⟩
abbrev s_read_numbers : Stmt := top 23
theorem sc_read_numbers : FnScope ["text", "word", "many", "row"] ["text", "word", "many"] (defScope s_read_numbers) := ⟨rfl, rfl, rfl, by decide +kernel, rfl, by decide +kernel, by decide +kernel⟩
abbrev s_law_cell : Stmt := top 25
theorem sc_law_cell : FnScope ["_law_script", "_law_k"] ["_law_script", "_law_k"] (defScope s_law_cell) := ⟨rfl, rfl, rfl, by decide +kernel, rfl, by decide +kernel, by decide +kernel⟩
abbrev s_law_mixed : Stmt := top 26
theorem sc_law_mixed : FnScope ["_law_cell_here", "_law_k", "_law_number_here"] ["_law_cell_here", "_law_k"] (defScope s_law_mixed) := ⟨rfl, rfl, rfl, by decide +kernel, rfl, by decide +kernel, by decide +kernel⟩
abbrev s_law_twice : Stmt := top 27
theorem sc_law_twice : FnScope ["_law_cell_here", "_law_k", "_law_number_here"] ["_law_cell_here", "_law_k"] (defScope s_law_twice) := ⟨rfl, rfl, rfl, by decide +kernel, rfl, by decide +kernel, by decide +kernel⟩
abbrev s_law_well : Stmt := top 28
theorem sc_law_well : FnScope ["_law_script", "_law_k"] ["_law_script", "_law_k"] (defScope s_law_well) := ⟨rfl, rfl, rfl, by decide +kernel, rfl, by decide +kernel, by decide +kernel⟩
abbrev s_law_draw : Stmt := top 29
theorem sc_law_draw : FnScope ["_law_well_here", "_law_most", "_law_number_here"] ["_law_well_here", "_law_most"] (defScope s_law_draw) := ⟨rfl, rfl, rfl, by decide +kernel, rfl, by decide +kernel, by decide +kernel⟩
abbrev s_law_number : Stmt := top 30
theorem sc_law_number : FnScope ["_law_well_here", "_law_least", "_law_far"] ["_law_well_here", "_law_least"] (defScope s_law_number) := ⟨rfl, rfl, rfl, by decide +kernel, rfl, by decide +kernel, by decide +kernel⟩
abbrev s_law_right : Stmt := top 31
theorem sc_law_right : FnScope ["_law_rules", "_law_gap", "_law_width", "_law_rim", "_law_keeps", "_law_text", "_law_keep"] ["_law_rules", "_law_gap", "_law_width", "_law_rim", "_law_keeps"] (defScope s_law_right) := ⟨rfl, rfl, rfl, by decide +kernel, rfl, by decide +kernel, by decide +kernel⟩
abbrev s_law : Stmt := top 32
theorem sc_law : FnScope ["_law_script", "_law_well_here", "_law_gap", "_law_width", "_law_rim", "_law_keeps", "_law_k", "_law_handed", "_law_rules", "_law_again", "_law_other"] ["_law_script"] (defScope s_law) := ⟨rfl, rfl, rfl, by decide +kernel, rfl, by decide +kernel, by decide +kernel⟩
structure Adr where
  c_Rules : Addr
  f_is_whole : Addr
  f_is_short : Addr
  f_read_number : Addr
  f_read_row : Addr
  f_read_lines : Addr
  f_tell_row : Addr
  f_tell_lines : Addr
  f_Rules_init : Addr
  f_Rules_told : Addr
  f_need_between : Addr
  f_need_keeps : Addr
  f_need_keep : Addr
  f_read_rules : Addr
  f_read_numbers : Addr
  f_law_cell : Addr
  f_law_mixed : Addr
  f_law_twice : Addr
  f_law_well : Addr
  f_law_draw : Addr
  f_law_number : Addr
  f_law_right : Addr
  f_law : Addr
  c_NoRules : Addr
  tk_MOST_FIGURES : Tok
  tk_MOST_GAP : Tok
  tk_MOST_WIDTH : Tok
  tk_MOST_RIM : Tok
  tk_MOST_KEEPS : Tok
  tk_FIGURES : Tok
structure Txt (K : PySem.W.Frag) (mg : Str → Option Value) (t : Adr) : Prop where
  g_Rules : mg "Rules" = some (.ref t.c_Rules)
  cl_Rules : Cls K t.c_Rules
  na_Rules_gap : NoAttr K t.c_Rules "gap"
  na_Rules_width : NoAttr K t.c_Rules "width"
  na_Rules_rim : NoAttr K t.c_Rules "rim"
  na_Rules_keeps : NoAttr K t.c_Rules "keeps"
  na_Rules_kept : NoAttr K t.c_Rules "kept"
  ty_Rules : ∀ H a dx fs, H a = some (.ins t.c_Rules dx fs) → TyOf K H (.ref a) (.ref t.c_Rules)
  F_is_whole : ∃ fd, Fun K "is_whole" "is_whole" s_is_whole t.f_is_whole fd ∧ Binds K fd ["value"] []
  g_is_whole : mg "is_whole" = some (.ref t.f_is_whole)
  F_is_short : ∃ fd, Fun K "is_short" "is_short" s_is_short t.f_is_short fd ∧ Binds K fd ["number"] []
  g_is_short : mg "is_short" = some (.ref t.f_is_short)
  F_read_number : ∃ fd, Fun K "read_number" "read_number" s_read_number t.f_read_number fd ∧ Binds K fd ["word"] []
  g_read_number : mg "read_number" = some (.ref t.f_read_number)
  F_read_row : ∃ fd, Fun K "read_row" "read_row" s_read_row t.f_read_row fd ∧ Binds K fd ["text"] []
  g_read_row : mg "read_row" = some (.ref t.f_read_row)
  F_read_lines : ∃ fd, Fun K "read_lines" "read_lines" s_read_lines t.f_read_lines fd ∧ Binds K fd ["text"] []
  g_read_lines : mg "read_lines" = some (.ref t.f_read_lines)
  F_tell_row : ∃ fd, Fun K "tell_row" "tell_row" s_tell_row t.f_tell_row fd ∧ Binds K fd ["word", "numbers"] []
  g_tell_row : mg "tell_row" = some (.ref t.f_tell_row)
  F_tell_lines : ∃ fd, Fun K "tell_lines" "tell_lines" s_tell_lines t.f_tell_lines fd ∧ Binds K fd ["rows"] []
  g_tell_lines : mg "tell_lines" = some (.ref t.f_tell_lines)
  F_Rules_init : ∃ fd, Fun K "__init__" "Rules.__init__" s_Rules_init t.f_Rules_init fd ∧ Binds K fd ["self", "gap", "width", "rim", "keeps"] []
  K_Rules : Mk K t.c_Rules t.f_Rules_init
  F_Rules_told : ∃ fd, Fun K "told" "Rules.told" s_Rules_told t.f_Rules_told fd ∧ Binds K fd ["self"] []
  M_Rules_told : Meth K t.c_Rules "told" t.f_Rules_told
  F_need_between : ∃ fd, Fun K "need_between" "need_between" s_need_between t.f_need_between fd ∧ Binds K fd ["number", "least", "most"] []
  g_need_between : mg "need_between" = some (.ref t.f_need_between)
  F_need_keeps : ∃ fd, Fun K "need_keeps" "need_keeps" s_need_keeps t.f_need_keeps fd ∧ Binds K fd ["keeps"] []
  g_need_keeps : mg "need_keeps" = some (.ref t.f_need_keeps)
  F_need_keep : ∃ fd, Fun K "need_keep" "need_keep" s_need_keep t.f_need_keep fd ∧ Binds K fd ["keep"] []
  g_need_keep : mg "need_keep" = some (.ref t.f_need_keep)
  F_read_rules : ∃ fd, Fun K "read_rules" "read_rules" s_read_rules t.f_read_rules fd ∧ Binds K fd ["text"] []
  g_read_rules : mg "read_rules" = some (.ref t.f_read_rules)
  F_read_numbers : ∃ fd, Fun K "read_numbers" "read_numbers" s_read_numbers t.f_read_numbers fd ∧ Binds K fd ["text", "word", "many"] []
  g_read_numbers : mg "read_numbers" = some (.ref t.f_read_numbers)
  F_law_cell : ∃ fd, Fun K "_law_cell" "_law_cell" s_law_cell t.f_law_cell fd ∧ Binds K fd ["_law_script", "_law_k"] []
  g__law_cell : mg "_law_cell" = some (.ref t.f_law_cell)
  F_law_mixed : ∃ fd, Fun K "_law_mixed" "_law_mixed" s_law_mixed t.f_law_mixed fd ∧ Binds K fd ["_law_cell_here", "_law_k"] []
  g__law_mixed : mg "_law_mixed" = some (.ref t.f_law_mixed)
  F_law_twice : ∃ fd, Fun K "_law_twice" "_law_twice" s_law_twice t.f_law_twice fd ∧ Binds K fd ["_law_cell_here", "_law_k"] []
  g__law_twice : mg "_law_twice" = some (.ref t.f_law_twice)
  F_law_well : ∃ fd, Fun K "_law_well" "_law_well" s_law_well t.f_law_well fd ∧ Binds K fd ["_law_script", "_law_k"] []
  g__law_well : mg "_law_well" = some (.ref t.f_law_well)
  F_law_draw : ∃ fd, Fun K "_law_draw" "_law_draw" s_law_draw t.f_law_draw fd ∧ Binds K fd ["_law_well_here", "_law_most"] []
  g__law_draw : mg "_law_draw" = some (.ref t.f_law_draw)
  F_law_number : ∃ fd, Fun K "_law_number" "_law_number" s_law_number t.f_law_number fd ∧ Binds K fd ["_law_well_here", "_law_least"] []
  g__law_number : mg "_law_number" = some (.ref t.f_law_number)
  F_law_right : ∃ fd, Fun K "_law_right" "_law_right" s_law_right t.f_law_right fd ∧ Binds K fd ["_law_rules", "_law_gap", "_law_width", "_law_rim", "_law_keeps"] []
  g__law_right : mg "_law_right" = some (.ref t.f_law_right)
  F_law : ∃ fd, Fun K "law" "law" s_law t.f_law fd ∧ ∀ (s : Shared) (u : Value), BindsTo s fd ⟨[u], []⟩ [("_law_script", u)]
  g_law : mg "law" = some (.ref t.f_law)
  g_NoRules : mg "NoRules" = some (.ref t.c_NoRules)
  e_NoRules : Err K mg "NoRules" t.c_NoRules
  ki_Rules_Rules : PySem.W.kitOne K (.ref t.c_Rules) (.ref t.c_Rules) = some true
  n_isinstance : mg "isinstance" = none
  n_int : mg "int" = none
  n_bool : mg "bool" = none
  n_abs : mg "abs" = none
  n_list : mg "list" = none
  n_tuple : mg "tuple" = none
  n_len : mg "len" = none
  n_str : mg "str" = none
  n_range : mg "range" = none
  n_all : mg "all" = none
  g_MOST_FIGURES : mg "MOST_FIGURES" = some (.int 40 t.tk_MOST_FIGURES)
  g_MOST_GAP : mg "MOST_GAP" = some (.int 2 t.tk_MOST_GAP)
  g_MOST_WIDTH : mg "MOST_WIDTH" = some (.int 3 t.tk_MOST_WIDTH)
  g_MOST_RIM : mg "MOST_RIM" = some (.int 1 t.tk_MOST_RIM)
  g_MOST_KEEPS : mg "MOST_KEEPS" = some (.int 12 t.tk_MOST_KEEPS)
  g_FIGURES : mg "FIGURES" = some (.str "0123456789" t.tk_FIGURES)
theorem txt_mk {K : PySem.W.Frag} {h : Heap} {mg : Str → Option Value} {c_Rules f_is_whole f_is_short f_read_number f_read_row f_read_lines f_tell_row f_tell_lines f_Rules_init f_Rules_told f_need_between f_need_keeps f_need_keep f_read_rules f_read_numbers f_law_cell f_law_mixed f_law_twice f_law_well f_law_draw f_law_number f_law_right f_law c_NoRules : Addr} {tk_MOST_FIGURES tk_MOST_GAP tk_MOST_WIDTH tk_MOST_RIM tk_MOST_KEEPS tk_FIGURES : Tok}
    {od_is_whole an_is_whole od_is_short an_is_short od_read_number an_read_number od_read_row an_read_row od_read_lines an_read_lines od_tell_row an_tell_row od_tell_lines an_tell_lines od_Rules_init an_Rules_init od_Rules_told an_Rules_told od_need_between an_need_between od_need_keeps an_need_keeps od_need_keep an_need_keep od_read_rules an_read_rules od_read_numbers an_read_numbers od_law_cell an_law_cell od_law_mixed an_law_mixed od_law_twice an_law_twice od_law_well an_law_well od_law_draw an_law_draw od_law_number an_law_number od_law_right an_law_right od_law an_law : Option Addr} {sl_is_whole sl_is_short sl_read_number sl_read_row sl_read_lines sl_tell_row sl_tell_lines sl_Rules_init sl_Rules_told sl_need_between sl_need_keeps sl_need_keep sl_read_rules sl_read_numbers sl_law_cell sl_law_mixed sl_law_twice sl_law_well sl_law_draw sl_law_number sl_law_right sl_law : Array (Option Value)} {oc_is_whole kV_is_whole dc_is_whole pm_is_whole cd_is_whole ct_is_whole oc_is_short kV_is_short dc_is_short pm_is_short cd_is_short ct_is_short oc_read_number kV_read_number dc_read_number pm_read_number cd_read_number ct_read_number oc_read_row kV_read_row dc_read_row pm_read_row cd_read_row ct_read_row oc_read_lines kV_read_lines dc_read_lines pm_read_lines cd_read_lines ct_read_lines oc_tell_row kV_tell_row dc_tell_row pm_tell_row cd_tell_row ct_tell_row oc_tell_lines kV_tell_lines dc_tell_lines pm_tell_lines cd_tell_lines ct_tell_lines oc_Rules_init kV_Rules_init dc_Rules_init pm_Rules_init cd_Rules_init ct_Rules_init oc_Rules_told kV_Rules_told dc_Rules_told pm_Rules_told cd_Rules_told ct_Rules_told oc_need_between kV_need_between dc_need_between pm_need_between cd_need_between ct_need_between oc_need_keeps kV_need_keeps dc_need_keeps pm_need_keeps cd_need_keeps ct_need_keeps oc_need_keep kV_need_keep dc_need_keep pm_need_keep cd_need_keep ct_need_keep oc_read_rules kV_read_rules dc_read_rules pm_read_rules cd_read_rules ct_read_rules oc_read_numbers kV_read_numbers dc_read_numbers pm_read_numbers cd_read_numbers ct_read_numbers oc_law_cell kV_law_cell dc_law_cell pm_law_cell cd_law_cell ct_law_cell oc_law_mixed kV_law_mixed dc_law_mixed pm_law_mixed cd_law_mixed ct_law_mixed oc_law_twice kV_law_twice dc_law_twice pm_law_twice cd_law_twice ct_law_twice oc_law_well kV_law_well dc_law_well pm_law_well cd_law_well ct_law_well oc_law_draw kV_law_draw dc_law_draw pm_law_draw cd_law_draw ct_law_draw oc_law_number kV_law_number dc_law_number pm_law_number cd_law_number ct_law_number oc_law_right kV_law_right dc_law_right pm_law_right cd_law_right ct_law_right oc_law kV_law dc_law pm_law cd_law ct_law : Value} (X : K.In h) (G : h.Ns mainGlobals mg)
    (g_Rules : PySem.W.nsIn K mainGlobals "Rules" = some (some (.ref c_Rules)))
    (pg_Rules : PySem.W.plainGet K c_Rules Str.empty = true)
    (hd_Rules : PySem.W.hasDictIn K c_Rules = true)
    (po_Rules : PySem.W.plainOver K c_Rules = true)
    (sa_Rules : PySem.W.findIn K (.ref c_Rules) "__setattr__" = some (some (.builtin "object.__setattr__")))
    (mk_Rules : PySem.W.makesIn K c_Rules = true)
    (kc_Rules : PySem.W.keepIn K (.ref c_Rules) = true)
    (na_Rules_gap : PySem.W.findIn K (.ref c_Rules) "gap" = some none)
    (na_Rules_width : PySem.W.findIn K (.ref c_Rules) "width" = some none)
    (na_Rules_rim : PySem.W.findIn K (.ref c_Rules) "rim" = some none)
    (na_Rules_keeps : PySem.W.findIn K (.ref c_Rules) "keeps" = some none)
    (na_Rules_kept : PySem.W.findIn K (.ref c_Rules) "kept" = some none)
    (ha_Rules : PySem.W.findIn K (.ref c_Rules) "__class__" = some (some (.builtin "object.__class__")))
    (hn_Rules : PySem.W.specialIn K (.builtin "object.__class__") "__get__" = some (some (.builtin "getset_descriptor.__get__")))
    (ht_Rules : PySem.W.takesIn K (.builtin "object.__class__") = some true)
    (hm_Rules : PySem.W.mroIn K c_Rules (.type "object") = some true)
    (a_is_whole : PySem.W.nsIn K mainGlobals "is_whole" = some (some (.ref f_is_whole)))
    (l_is_whole : K.lookup f_is_whole = some ⟨oc_is_whole, od_is_whole, .func (PySem.W.fnOf "is_whole" "is_whole" (defArgs s_is_whole) (defBody s_is_whole) (defScope s_is_whole) .none kV_is_whole dc_is_whole pm_is_whole an_is_whole cd_is_whole ct_is_whole), sl_is_whole⟩)
    (cc_is_whole : PySem.W.codeIn K cd_is_whole "is_whole" = true)
    (k_is_whole : PySem.W.keepIn K (.ref f_is_whole) = true)
    (a_is_short : PySem.W.nsIn K mainGlobals "is_short" = some (some (.ref f_is_short)))
    (l_is_short : K.lookup f_is_short = some ⟨oc_is_short, od_is_short, .func (PySem.W.fnOf "is_short" "is_short" (defArgs s_is_short) (defBody s_is_short) (defScope s_is_short) .none kV_is_short dc_is_short pm_is_short an_is_short cd_is_short ct_is_short), sl_is_short⟩)
    (cc_is_short : PySem.W.codeIn K cd_is_short "is_short" = true)
    (k_is_short : PySem.W.keepIn K (.ref f_is_short) = true)
    (a_read_number : PySem.W.nsIn K mainGlobals "read_number" = some (some (.ref f_read_number)))
    (l_read_number : K.lookup f_read_number = some ⟨oc_read_number, od_read_number, .func (PySem.W.fnOf "read_number" "read_number" (defArgs s_read_number) (defBody s_read_number) (defScope s_read_number) .none kV_read_number dc_read_number pm_read_number an_read_number cd_read_number ct_read_number), sl_read_number⟩)
    (cc_read_number : PySem.W.codeIn K cd_read_number "read_number" = true)
    (k_read_number : PySem.W.keepIn K (.ref f_read_number) = true)
    (a_read_row : PySem.W.nsIn K mainGlobals "read_row" = some (some (.ref f_read_row)))
    (l_read_row : K.lookup f_read_row = some ⟨oc_read_row, od_read_row, .func (PySem.W.fnOf "read_row" "read_row" (defArgs s_read_row) (defBody s_read_row) (defScope s_read_row) .none kV_read_row dc_read_row pm_read_row an_read_row cd_read_row ct_read_row), sl_read_row⟩)
    (cc_read_row : PySem.W.codeIn K cd_read_row "read_row" = true)
    (k_read_row : PySem.W.keepIn K (.ref f_read_row) = true)
    (a_read_lines : PySem.W.nsIn K mainGlobals "read_lines" = some (some (.ref f_read_lines)))
    (l_read_lines : K.lookup f_read_lines = some ⟨oc_read_lines, od_read_lines, .func (PySem.W.fnOf "read_lines" "read_lines" (defArgs s_read_lines) (defBody s_read_lines) (defScope s_read_lines) .none kV_read_lines dc_read_lines pm_read_lines an_read_lines cd_read_lines ct_read_lines), sl_read_lines⟩)
    (cc_read_lines : PySem.W.codeIn K cd_read_lines "read_lines" = true)
    (k_read_lines : PySem.W.keepIn K (.ref f_read_lines) = true)
    (a_tell_row : PySem.W.nsIn K mainGlobals "tell_row" = some (some (.ref f_tell_row)))
    (l_tell_row : K.lookup f_tell_row = some ⟨oc_tell_row, od_tell_row, .func (PySem.W.fnOf "tell_row" "tell_row" (defArgs s_tell_row) (defBody s_tell_row) (defScope s_tell_row) .none kV_tell_row dc_tell_row pm_tell_row an_tell_row cd_tell_row ct_tell_row), sl_tell_row⟩)
    (cc_tell_row : PySem.W.codeIn K cd_tell_row "tell_row" = true)
    (k_tell_row : PySem.W.keepIn K (.ref f_tell_row) = true)
    (a_tell_lines : PySem.W.nsIn K mainGlobals "tell_lines" = some (some (.ref f_tell_lines)))
    (l_tell_lines : K.lookup f_tell_lines = some ⟨oc_tell_lines, od_tell_lines, .func (PySem.W.fnOf "tell_lines" "tell_lines" (defArgs s_tell_lines) (defBody s_tell_lines) (defScope s_tell_lines) .none kV_tell_lines dc_tell_lines pm_tell_lines an_tell_lines cd_tell_lines ct_tell_lines), sl_tell_lines⟩)
    (cc_tell_lines : PySem.W.codeIn K cd_tell_lines "tell_lines" = true)
    (k_tell_lines : PySem.W.keepIn K (.ref f_tell_lines) = true)
    (a_Rules_init : PySem.W.findIn K (.ref c_Rules) "__init__" = some (some (.ref f_Rules_init)))
    (i_Rules_init : PySem.W.isFn K (.ref f_Rules_init) = true)
    (l_Rules_init : K.lookup f_Rules_init = some ⟨oc_Rules_init, od_Rules_init, .func (PySem.W.fnOf "__init__" "Rules.__init__" (defArgs s_Rules_init) (defBody s_Rules_init) (defScope s_Rules_init) .none kV_Rules_init dc_Rules_init pm_Rules_init an_Rules_init cd_Rules_init ct_Rules_init), sl_Rules_init⟩)
    (cc_Rules_init : PySem.W.codeIn K cd_Rules_init "Rules.__init__" = true)
    (k_Rules_init : PySem.W.keepIn K (.ref f_Rules_init) = true)
    (a_Rules_told : PySem.W.findIn K (.ref c_Rules) "told" = some (some (.ref f_Rules_told)))
    (i_Rules_told : PySem.W.isFn K (.ref f_Rules_told) = true)
    (l_Rules_told : K.lookup f_Rules_told = some ⟨oc_Rules_told, od_Rules_told, .func (PySem.W.fnOf "told" "Rules.told" (defArgs s_Rules_told) (defBody s_Rules_told) (defScope s_Rules_told) .none kV_Rules_told dc_Rules_told pm_Rules_told an_Rules_told cd_Rules_told ct_Rules_told), sl_Rules_told⟩)
    (cc_Rules_told : PySem.W.codeIn K cd_Rules_told "Rules.told" = true)
    (k_Rules_told : PySem.W.keepIn K (.ref f_Rules_told) = true)
    (a_need_between : PySem.W.nsIn K mainGlobals "need_between" = some (some (.ref f_need_between)))
    (l_need_between : K.lookup f_need_between = some ⟨oc_need_between, od_need_between, .func (PySem.W.fnOf "need_between" "need_between" (defArgs s_need_between) (defBody s_need_between) (defScope s_need_between) .none kV_need_between dc_need_between pm_need_between an_need_between cd_need_between ct_need_between), sl_need_between⟩)
    (cc_need_between : PySem.W.codeIn K cd_need_between "need_between" = true)
    (k_need_between : PySem.W.keepIn K (.ref f_need_between) = true)
    (a_need_keeps : PySem.W.nsIn K mainGlobals "need_keeps" = some (some (.ref f_need_keeps)))
    (l_need_keeps : K.lookup f_need_keeps = some ⟨oc_need_keeps, od_need_keeps, .func (PySem.W.fnOf "need_keeps" "need_keeps" (defArgs s_need_keeps) (defBody s_need_keeps) (defScope s_need_keeps) .none kV_need_keeps dc_need_keeps pm_need_keeps an_need_keeps cd_need_keeps ct_need_keeps), sl_need_keeps⟩)
    (cc_need_keeps : PySem.W.codeIn K cd_need_keeps "need_keeps" = true)
    (k_need_keeps : PySem.W.keepIn K (.ref f_need_keeps) = true)
    (a_need_keep : PySem.W.nsIn K mainGlobals "need_keep" = some (some (.ref f_need_keep)))
    (l_need_keep : K.lookup f_need_keep = some ⟨oc_need_keep, od_need_keep, .func (PySem.W.fnOf "need_keep" "need_keep" (defArgs s_need_keep) (defBody s_need_keep) (defScope s_need_keep) .none kV_need_keep dc_need_keep pm_need_keep an_need_keep cd_need_keep ct_need_keep), sl_need_keep⟩)
    (cc_need_keep : PySem.W.codeIn K cd_need_keep "need_keep" = true)
    (k_need_keep : PySem.W.keepIn K (.ref f_need_keep) = true)
    (a_read_rules : PySem.W.nsIn K mainGlobals "read_rules" = some (some (.ref f_read_rules)))
    (l_read_rules : K.lookup f_read_rules = some ⟨oc_read_rules, od_read_rules, .func (PySem.W.fnOf "read_rules" "read_rules" (defArgs s_read_rules) (defBody s_read_rules) (defScope s_read_rules) .none kV_read_rules dc_read_rules pm_read_rules an_read_rules cd_read_rules ct_read_rules), sl_read_rules⟩)
    (cc_read_rules : PySem.W.codeIn K cd_read_rules "read_rules" = true)
    (k_read_rules : PySem.W.keepIn K (.ref f_read_rules) = true)
    (a_read_numbers : PySem.W.nsIn K mainGlobals "read_numbers" = some (some (.ref f_read_numbers)))
    (l_read_numbers : K.lookup f_read_numbers = some ⟨oc_read_numbers, od_read_numbers, .func (PySem.W.fnOf "read_numbers" "read_numbers" (defArgs s_read_numbers) (defBody s_read_numbers) (defScope s_read_numbers) .none kV_read_numbers dc_read_numbers pm_read_numbers an_read_numbers cd_read_numbers ct_read_numbers), sl_read_numbers⟩)
    (cc_read_numbers : PySem.W.codeIn K cd_read_numbers "read_numbers" = true)
    (k_read_numbers : PySem.W.keepIn K (.ref f_read_numbers) = true)
    (a_law_cell : PySem.W.nsIn K mainGlobals "_law_cell" = some (some (.ref f_law_cell)))
    (l_law_cell : K.lookup f_law_cell = some ⟨oc_law_cell, od_law_cell, .func (PySem.W.fnOf "_law_cell" "_law_cell" (defArgs s_law_cell) (defBody s_law_cell) (defScope s_law_cell) .none kV_law_cell dc_law_cell pm_law_cell an_law_cell cd_law_cell ct_law_cell), sl_law_cell⟩)
    (cc_law_cell : PySem.W.codeIn K cd_law_cell "_law_cell" = true)
    (k_law_cell : PySem.W.keepIn K (.ref f_law_cell) = true)
    (a_law_mixed : PySem.W.nsIn K mainGlobals "_law_mixed" = some (some (.ref f_law_mixed)))
    (l_law_mixed : K.lookup f_law_mixed = some ⟨oc_law_mixed, od_law_mixed, .func (PySem.W.fnOf "_law_mixed" "_law_mixed" (defArgs s_law_mixed) (defBody s_law_mixed) (defScope s_law_mixed) .none kV_law_mixed dc_law_mixed pm_law_mixed an_law_mixed cd_law_mixed ct_law_mixed), sl_law_mixed⟩)
    (cc_law_mixed : PySem.W.codeIn K cd_law_mixed "_law_mixed" = true)
    (k_law_mixed : PySem.W.keepIn K (.ref f_law_mixed) = true)
    (a_law_twice : PySem.W.nsIn K mainGlobals "_law_twice" = some (some (.ref f_law_twice)))
    (l_law_twice : K.lookup f_law_twice = some ⟨oc_law_twice, od_law_twice, .func (PySem.W.fnOf "_law_twice" "_law_twice" (defArgs s_law_twice) (defBody s_law_twice) (defScope s_law_twice) .none kV_law_twice dc_law_twice pm_law_twice an_law_twice cd_law_twice ct_law_twice), sl_law_twice⟩)
    (cc_law_twice : PySem.W.codeIn K cd_law_twice "_law_twice" = true)
    (k_law_twice : PySem.W.keepIn K (.ref f_law_twice) = true)
    (a_law_well : PySem.W.nsIn K mainGlobals "_law_well" = some (some (.ref f_law_well)))
    (l_law_well : K.lookup f_law_well = some ⟨oc_law_well, od_law_well, .func (PySem.W.fnOf "_law_well" "_law_well" (defArgs s_law_well) (defBody s_law_well) (defScope s_law_well) .none kV_law_well dc_law_well pm_law_well an_law_well cd_law_well ct_law_well), sl_law_well⟩)
    (cc_law_well : PySem.W.codeIn K cd_law_well "_law_well" = true)
    (k_law_well : PySem.W.keepIn K (.ref f_law_well) = true)
    (a_law_draw : PySem.W.nsIn K mainGlobals "_law_draw" = some (some (.ref f_law_draw)))
    (l_law_draw : K.lookup f_law_draw = some ⟨oc_law_draw, od_law_draw, .func (PySem.W.fnOf "_law_draw" "_law_draw" (defArgs s_law_draw) (defBody s_law_draw) (defScope s_law_draw) .none kV_law_draw dc_law_draw pm_law_draw an_law_draw cd_law_draw ct_law_draw), sl_law_draw⟩)
    (cc_law_draw : PySem.W.codeIn K cd_law_draw "_law_draw" = true)
    (k_law_draw : PySem.W.keepIn K (.ref f_law_draw) = true)
    (a_law_number : PySem.W.nsIn K mainGlobals "_law_number" = some (some (.ref f_law_number)))
    (l_law_number : K.lookup f_law_number = some ⟨oc_law_number, od_law_number, .func (PySem.W.fnOf "_law_number" "_law_number" (defArgs s_law_number) (defBody s_law_number) (defScope s_law_number) .none kV_law_number dc_law_number pm_law_number an_law_number cd_law_number ct_law_number), sl_law_number⟩)
    (cc_law_number : PySem.W.codeIn K cd_law_number "_law_number" = true)
    (k_law_number : PySem.W.keepIn K (.ref f_law_number) = true)
    (a_law_right : PySem.W.nsIn K mainGlobals "_law_right" = some (some (.ref f_law_right)))
    (l_law_right : K.lookup f_law_right = some ⟨oc_law_right, od_law_right, .func (PySem.W.fnOf "_law_right" "_law_right" (defArgs s_law_right) (defBody s_law_right) (defScope s_law_right) .none kV_law_right dc_law_right pm_law_right an_law_right cd_law_right ct_law_right), sl_law_right⟩)
    (cc_law_right : PySem.W.codeIn K cd_law_right "_law_right" = true)
    (k_law_right : PySem.W.keepIn K (.ref f_law_right) = true)
    (a_law : PySem.W.nsIn K mainGlobals "law" = some (some (.ref f_law)))
    (l_law : K.lookup f_law = some ⟨oc_law, od_law, .func (PySem.W.fnOf "law" "law" (defArgs s_law) (defBody s_law) (defScope s_law) .none kV_law dc_law pm_law an_law cd_law ct_law), sl_law⟩)
    (cc_law : PySem.W.codeIn K cd_law "law" = true)
    (k_law : PySem.W.keepIn K (.ref f_law) = true)
    (g_NoRules : PySem.W.nsIn K mainGlobals "NoRules" = some (some (.ref c_NoRules)))
    (x_NoRules : PySem.W.excIn K c_NoRules bmV "ValueError.__new__" = true)
    (ki_Rules_Rules : PySem.W.kitOne K (.ref c_Rules) (.ref c_Rules) = some true)
    (n_isinstance : PySem.W.nsIn K mainGlobals "isinstance" = some none)
    (n_int : PySem.W.nsIn K mainGlobals "int" = some none)
    (n_bool : PySem.W.nsIn K mainGlobals "bool" = some none)
    (n_abs : PySem.W.nsIn K mainGlobals "abs" = some none)
    (n_list : PySem.W.nsIn K mainGlobals "list" = some none)
    (n_tuple : PySem.W.nsIn K mainGlobals "tuple" = some none)
    (n_len : PySem.W.nsIn K mainGlobals "len" = some none)
    (n_str : PySem.W.nsIn K mainGlobals "str" = some none)
    (n_range : PySem.W.nsIn K mainGlobals "range" = some none)
    (n_all : PySem.W.nsIn K mainGlobals "all" = some none)
    (g_MOST_FIGURES : PySem.W.nsIn K mainGlobals "MOST_FIGURES" = some (some (.int 40 tk_MOST_FIGURES)))
    (g_MOST_GAP : PySem.W.nsIn K mainGlobals "MOST_GAP" = some (some (.int 2 tk_MOST_GAP)))
    (g_MOST_WIDTH : PySem.W.nsIn K mainGlobals "MOST_WIDTH" = some (some (.int 3 tk_MOST_WIDTH)))
    (g_MOST_RIM : PySem.W.nsIn K mainGlobals "MOST_RIM" = some (some (.int 1 tk_MOST_RIM)))
    (g_MOST_KEEPS : PySem.W.nsIn K mainGlobals "MOST_KEEPS" = some (some (.int 12 tk_MOST_KEEPS)))
    (g_FIGURES : PySem.W.nsIn K mainGlobals "FIGURES" = some (some (.str "0123456789" tk_FIGURES))) :
    ∃ t : Adr, Txt K mg t :=
  ⟨{ c_Rules := c_Rules, f_is_whole := f_is_whole, f_is_short := f_is_short, f_read_number := f_read_number, f_read_row := f_read_row, f_read_lines := f_read_lines, f_tell_row := f_tell_row, f_tell_lines := f_tell_lines, f_Rules_init := f_Rules_init, f_Rules_told := f_Rules_told, f_need_between := f_need_between, f_need_keeps := f_need_keeps, f_need_keep := f_need_keep, f_read_rules := f_read_rules, f_read_numbers := f_read_numbers, f_law_cell := f_law_cell, f_law_mixed := f_law_mixed, f_law_twice := f_law_twice, f_law_well := f_law_well, f_law_draw := f_law_draw, f_law_number := f_law_number, f_law_right := f_law_right, f_law := f_law, c_NoRules := c_NoRules, tk_MOST_FIGURES := tk_MOST_FIGURES, tk_MOST_GAP := tk_MOST_GAP, tk_MOST_WIDTH := tk_MOST_WIDTH, tk_MOST_RIM := tk_MOST_RIM, tk_MOST_KEEPS := tk_MOST_KEEPS, tk_FIGURES := tk_FIGURES }, { g_Rules := PySem.W.mg_of X G g_Rules, cl_Rules := ⟨pg_Rules, hd_Rules, po_Rules, sa_Rules⟩, na_Rules_gap := na_Rules_gap, na_Rules_width := na_Rules_width, na_Rules_rim := na_Rules_rim, na_Rules_keeps := na_Rules_keeps, na_Rules_kept := na_Rules_kept, ty_Rules := fun H a dx fs e => .ins e ⟨pg_Rules, hd_Rules, po_Rules, sa_Rules⟩ ha_Rules hn_Rules ht_Rules hm_Rules, F_is_whole := ⟨_, fun_mk (st := s_is_whole) l_is_whole cc_is_whole k_is_whole, (fun_mk (st := s_is_whole) l_is_whole cc_is_whole k_is_whole).binds (ps := ["value"]) fun _ _ _ _ _ _ us hl => match us, hl with | [_], _ => rfl⟩, g_is_whole := PySem.W.mg_of X G a_is_whole, F_is_short := ⟨_, fun_mk (st := s_is_short) l_is_short cc_is_short k_is_short, (fun_mk (st := s_is_short) l_is_short cc_is_short k_is_short).binds (ps := ["number"]) fun _ _ _ _ _ _ us hl => match us, hl with | [_], _ => rfl⟩, g_is_short := PySem.W.mg_of X G a_is_short, F_read_number := ⟨_, fun_mk (st := s_read_number) l_read_number cc_read_number k_read_number, (fun_mk (st := s_read_number) l_read_number cc_read_number k_read_number).binds (ps := ["word"]) fun _ _ _ _ _ _ us hl => match us, hl with | [_], _ => rfl⟩, g_read_number := PySem.W.mg_of X G a_read_number, F_read_row := ⟨_, fun_mk (st := s_read_row) l_read_row cc_read_row k_read_row, (fun_mk (st := s_read_row) l_read_row cc_read_row k_read_row).binds (ps := ["text"]) fun _ _ _ _ _ _ us hl => match us, hl with | [_], _ => rfl⟩, g_read_row := PySem.W.mg_of X G a_read_row, F_read_lines := ⟨_, fun_mk (st := s_read_lines) l_read_lines cc_read_lines k_read_lines, (fun_mk (st := s_read_lines) l_read_lines cc_read_lines k_read_lines).binds (ps := ["text"]) fun _ _ _ _ _ _ us hl => match us, hl with | [_], _ => rfl⟩, g_read_lines := PySem.W.mg_of X G a_read_lines, F_tell_row := ⟨_, fun_mk (st := s_tell_row) l_tell_row cc_tell_row k_tell_row, (fun_mk (st := s_tell_row) l_tell_row cc_tell_row k_tell_row).binds (ps := ["word", "numbers"]) fun _ _ _ _ _ _ us hl => match us, hl with | [_, _], _ => rfl⟩, g_tell_row := PySem.W.mg_of X G a_tell_row, F_tell_lines := ⟨_, fun_mk (st := s_tell_lines) l_tell_lines cc_tell_lines k_tell_lines, (fun_mk (st := s_tell_lines) l_tell_lines cc_tell_lines k_tell_lines).binds (ps := ["rows"]) fun _ _ _ _ _ _ us hl => match us, hl with | [_], _ => rfl⟩, g_tell_lines := PySem.W.mg_of X G a_tell_lines, F_Rules_init := ⟨_, fun_mk (st := s_Rules_init) l_Rules_init cc_Rules_init k_Rules_init, (fun_mk (st := s_Rules_init) l_Rules_init cc_Rules_init k_Rules_init).binds (ps := ["self", "gap", "width", "rim", "keeps"]) fun _ _ _ _ _ _ us hl => match us, hl with | [_, _, _, _, _], _ => rfl⟩, K_Rules := ⟨mk_Rules, a_Rules_init, i_Rules_init, kc_Rules⟩, F_Rules_told := ⟨_, fun_mk (st := s_Rules_told) l_Rules_told cc_Rules_told k_Rules_told, (fun_mk (st := s_Rules_told) l_Rules_told cc_Rules_told k_Rules_told).binds (ps := ["self"]) fun _ _ _ _ _ _ us hl => match us, hl with | [_], _ => rfl⟩, M_Rules_told := ⟨a_Rules_told, i_Rules_told, k_Rules_told⟩, F_need_between := ⟨_, fun_mk (st := s_need_between) l_need_between cc_need_between k_need_between, (fun_mk (st := s_need_between) l_need_between cc_need_between k_need_between).binds (ps := ["number", "least", "most"]) fun _ _ _ _ _ _ us hl => match us, hl with | [_, _, _], _ => rfl⟩, g_need_between := PySem.W.mg_of X G a_need_between, F_need_keeps := ⟨_, fun_mk (st := s_need_keeps) l_need_keeps cc_need_keeps k_need_keeps, (fun_mk (st := s_need_keeps) l_need_keeps cc_need_keeps k_need_keeps).binds (ps := ["keeps"]) fun _ _ _ _ _ _ us hl => match us, hl with | [_], _ => rfl⟩, g_need_keeps := PySem.W.mg_of X G a_need_keeps, F_need_keep := ⟨_, fun_mk (st := s_need_keep) l_need_keep cc_need_keep k_need_keep, (fun_mk (st := s_need_keep) l_need_keep cc_need_keep k_need_keep).binds (ps := ["keep"]) fun _ _ _ _ _ _ us hl => match us, hl with | [_], _ => rfl⟩, g_need_keep := PySem.W.mg_of X G a_need_keep, F_read_rules := ⟨_, fun_mk (st := s_read_rules) l_read_rules cc_read_rules k_read_rules, (fun_mk (st := s_read_rules) l_read_rules cc_read_rules k_read_rules).binds (ps := ["text"]) fun _ _ _ _ _ _ us hl => match us, hl with | [_], _ => rfl⟩, g_read_rules := PySem.W.mg_of X G a_read_rules, F_read_numbers := ⟨_, fun_mk (st := s_read_numbers) l_read_numbers cc_read_numbers k_read_numbers, (fun_mk (st := s_read_numbers) l_read_numbers cc_read_numbers k_read_numbers).binds (ps := ["text", "word", "many"]) fun _ _ _ _ _ _ us hl => match us, hl with | [_, _, _], _ => rfl⟩, g_read_numbers := PySem.W.mg_of X G a_read_numbers, F_law_cell := ⟨_, fun_mk (st := s_law_cell) l_law_cell cc_law_cell k_law_cell, (fun_mk (st := s_law_cell) l_law_cell cc_law_cell k_law_cell).binds (ps := ["_law_script", "_law_k"]) fun _ _ _ _ _ _ us hl => match us, hl with | [_, _], _ => rfl⟩, g__law_cell := PySem.W.mg_of X G a_law_cell, F_law_mixed := ⟨_, fun_mk (st := s_law_mixed) l_law_mixed cc_law_mixed k_law_mixed, (fun_mk (st := s_law_mixed) l_law_mixed cc_law_mixed k_law_mixed).binds (ps := ["_law_cell_here", "_law_k"]) fun _ _ _ _ _ _ us hl => match us, hl with | [_, _], _ => rfl⟩, g__law_mixed := PySem.W.mg_of X G a_law_mixed, F_law_twice := ⟨_, fun_mk (st := s_law_twice) l_law_twice cc_law_twice k_law_twice, (fun_mk (st := s_law_twice) l_law_twice cc_law_twice k_law_twice).binds (ps := ["_law_cell_here", "_law_k"]) fun _ _ _ _ _ _ us hl => match us, hl with | [_, _], _ => rfl⟩, g__law_twice := PySem.W.mg_of X G a_law_twice, F_law_well := ⟨_, fun_mk (st := s_law_well) l_law_well cc_law_well k_law_well, (fun_mk (st := s_law_well) l_law_well cc_law_well k_law_well).binds (ps := ["_law_script", "_law_k"]) fun _ _ _ _ _ _ us hl => match us, hl with | [_, _], _ => rfl⟩, g__law_well := PySem.W.mg_of X G a_law_well, F_law_draw := ⟨_, fun_mk (st := s_law_draw) l_law_draw cc_law_draw k_law_draw, (fun_mk (st := s_law_draw) l_law_draw cc_law_draw k_law_draw).binds (ps := ["_law_well_here", "_law_most"]) fun _ _ _ _ _ _ us hl => match us, hl with | [_, _], _ => rfl⟩, g__law_draw := PySem.W.mg_of X G a_law_draw, F_law_number := ⟨_, fun_mk (st := s_law_number) l_law_number cc_law_number k_law_number, (fun_mk (st := s_law_number) l_law_number cc_law_number k_law_number).binds (ps := ["_law_well_here", "_law_least"]) fun _ _ _ _ _ _ us hl => match us, hl with | [_, _], _ => rfl⟩, g__law_number := PySem.W.mg_of X G a_law_number, F_law_right := ⟨_, fun_mk (st := s_law_right) l_law_right cc_law_right k_law_right, (fun_mk (st := s_law_right) l_law_right cc_law_right k_law_right).binds (ps := ["_law_rules", "_law_gap", "_law_width", "_law_rim", "_law_keeps"]) fun _ _ _ _ _ _ us hl => match us, hl with | [_, _, _, _, _], _ => rfl⟩, g__law_right := PySem.W.mg_of X G a_law_right, F_law := ⟨_, fun_mk (st := s_law) l_law cc_law k_law, fun s u => .of_eq rfl⟩, g_law := PySem.W.mg_of X G a_law, g_NoRules := PySem.W.mg_of X G g_NoRules, e_NoRules := ⟨PySem.W.mg_of X G g_NoRules, x_NoRules⟩, ki_Rules_Rules := ki_Rules_Rules, n_isinstance := PySem.W.mg_none_of X G n_isinstance, n_int := PySem.W.mg_none_of X G n_int, n_bool := PySem.W.mg_none_of X G n_bool, n_abs := PySem.W.mg_none_of X G n_abs, n_list := PySem.W.mg_none_of X G n_list, n_tuple := PySem.W.mg_none_of X G n_tuple, n_len := PySem.W.mg_none_of X G n_len, n_str := PySem.W.mg_none_of X G n_str, n_range := PySem.W.mg_none_of X G n_range, n_all := PySem.W.mg_none_of X G n_all, g_MOST_FIGURES := PySem.W.mg_of X G g_MOST_FIGURES, g_MOST_GAP := PySem.W.mg_of X G g_MOST_GAP, g_MOST_WIDTH := PySem.W.mg_of X G g_MOST_WIDTH, g_MOST_RIM := PySem.W.mg_of X G g_MOST_RIM, g_MOST_KEEPS := PySem.W.mg_of X G g_MOST_KEEPS, g_FIGURES := PySem.W.mg_of X G g_FIGURES }⟩
def isN : V → Bool | .int _ => true | .bl _ => true | _ => false
def isW : V → Bool | .int _ => true | _ => false
def ge1 : V → Bool | .int i => decide (1 ≤ i) | _ => false
theorem ints_of : ∀ {xs : List V}, xs.all isW = true → ∃ ns : List Int, xs = ns.map V.int
  | [], _ => ⟨[], rfl⟩
  | .int i :: r, h => by
    rw [List.all_cons, Bool.and_eq_true] at h
    obtain ⟨ns, e⟩ := ints_of h.2
    exact ⟨i :: ns, by rw [e]; rfl⟩
  | .non :: _, h => by simp [isW] at h
  | .bl _ :: _, h => by simp [isW] at h
  | .str _ :: _, h => by simp [isW] at h
  | .byt _ :: _, h => by simp [isW] at h
  | .flt _ :: _, h => by simp [isW] at h
  | .ref _ :: _, h => by simp [isW] at h
  | .ty _ :: _, h => by simp [isW] at h
theorem ge1_isW {v : V} (h : ge1 v = true) : isW v = true := by cases v <;> simp_all [ge1, isW]
theorem all_imp {p q : V → Bool} (f : ∀ v, p v = true → q v = true) {xs : List V} (h : xs.all p = true) : xs.all q = true := List.all_eq_true.mpr fun v hv => f v (List.all_eq_true.mp h v hv)
theorem iteB {b : Bool} {A B : Prop} (h1 : b = true → A) (h2 : b = false → B) : if b = true then A else B := by
  cases b
  · rw [if_neg Bool.false_ne_true]; exact h2 rfl
  · rw [if_pos rfl]; exact h1 rfl
theorem iteNB {b : Bool} {A B : Prop} (h1 : b = false → A) (h2 : b = true → B) : if (!b) = true then A else B := by
  cases b
  · exact (if_pos (show (!false) = true from rfl)) ▸ h1 rfl
  · rw [if_neg (by decide)]; exact h2 rfl
theorem iteD {c A B : Prop} [Decidable c] (h1 : c → A) (h2 : ¬ c → B) : if decide c = true then A else B := by
  by_cases h : c
  · rw [if_pos (decide_eq_true h)]; exact h1 h
  · rw [if_neg (by simp [h])]; exact h2 h
section
variable {P : Program} {w : World} {K : PySem.W.Frag} {mg : Str → Option Value} {base : Heap} {t : Adr}
def spIsWhole : Sp := fun vs H Q _ => ∃ v, vs = [v] ∧ isN v = true ∧ Q (.bl (isW v)) H
theorem ok_is_whole (T : Txt K mg t) : GoodF P w K mg base 1 "is_whole" ["value"] spIsWhole := by
  obtain ⟨fd, F, b⟩ := T.F_is_whole
  refine ⟨_, fd, F.okX sc_is_whole (fun vs H Q E h => ?_) (fun cdv A outer s H vs Q E hr h => ?_), b, F.kp, T.g_is_whole⟩
  · obtain ⟨v, rfl, _⟩ := h
    rfl
  · obtain ⟨v, rfl, hv, k⟩ := h
    refine ⟨_, (pss_one (ps_ret (pe_and (pe_callB call_isi (by rfl) T.n_isinstance b_isinstance (pa_cons (pv 0) (pa_cons (pe_bltn (v := .ty "int") (by rfl) T.n_int b_int rfl) pa_nil))) (pe_one (pe_not (pe_callB call_isi (by rfl) T.n_isinstance b_isinstance (pa_cons (pv 0) (pa_cons (pe_bltn (v := .ty "bool") (by rfl) T.n_bool b_bool rfl) pa_nil)))))))), ?_⟩
    cases v with
    | int i => exact ⟨_, rfl, .int i, .ty "int", _, _, true, rfl, .int i, .ty _, by kernel_rfl, true, rfl, iteT ⟨_, rfl, .int i, .ty "bool", _, _, false, rfl, .int i, .ty _, by kernel_rfl, false, rfl, k⟩⟩
    | bl x => exact ⟨_, rfl, .bl x, .ty "int", _, _, true, rfl, .bl x, .ty _, by kernel_rfl, true, rfl, iteT ⟨_, rfl, .bl x, .ty "bool", _, _, true, rfl, .bl x, .ty _, by kernel_rfl, true, rfl, k⟩⟩
    | _ => cases hv
theorem pow40 : (10 : Int) ^ (40 : Int).toNat = 10000000000000000000000000000000000000000 := by decide
def spIsShort : Sp := fun vs H Q _ => ∃ n : Int, vs = [.int n] ∧ Q (.bl (decide (n < 10000000000000000000000000000000000000000 ∧ -10000000000000000000000000000000000000000 < n))) H
theorem ok_is_short (T : Txt K mg t) : GoodF P w K mg base 1 "is_short" ["number"] spIsShort := by
  obtain ⟨fd, F, b⟩ := T.F_is_short
  refine ⟨_, fd, F.okX sc_is_short (fun vs H Q E h => ?_) (fun cdv A outer s H vs Q E hr h => ?_), b, F.kp, T.g_is_short⟩
  · obtain ⟨n, rfl, _⟩ := h
    rfl
  · obtain ⟨n, rfl, q⟩ := h
    refine ⟨_, (pss_one (ps_ret (pe_cmpR op_lt (pe_callB call_abs (by rfl) T.n_abs b_abs (pa_cons (pv 0) pa_nil)) (pe_op op_pow pe_int pe_int) (nomark _)))), ?_⟩
    refine ⟨_, rfl, n, rfl, 10, 40, rfl, rfl, ⟨by decide, by decide, by decide⟩, _, _, rfl, rfl, ?_⟩
    have e : decide (n < 10000000000000000000000000000000000000000 ∧ -10000000000000000000000000000000000000000 < n) = decide ((if n < 0 then -n else n) < (10 : Int) ^ (40 : Int).toNat) := by
      rw [pow40]
      refine decide_eq_decide.mpr ?_
      split <;> omega
    rw [e] at q
    exact q
def spCell (K : PySem.W.Frag) : Sp := fun vs H Q _ => ∃ (a : Addr) (ns : List Int) (k : Int), vs = [.ref a, .int k] ∧ SqL K H a (ns.map V.int) ∧ 0 ≤ k ∧ k < 1000 ∧ ns.length ≤ 63 ∧ Q (.int (ns.getD k.toNat 0)) H
theorem ok_law_cell (T : Txt K mg t) : GoodF P w K mg base 1 "_law_cell" ["_law_script", "_law_k"] (spCell K) := by
  obtain ⟨fd, F, b⟩ := T.F_law_cell
  refine ⟨_, fd, F.okX sc_law_cell (fun vs H Q E h => ?_) (fun cdv A outer s H vs Q E hr h => ?_), b, F.kp, T.g__law_cell⟩
  · obtain ⟨a, ns, k, rfl, _⟩ := h
    rfl
  · obtain ⟨a, ns, k, rfl, hq, h0, h1, hl, q⟩ := h
    refine ⟨_, (pss_cons (ps_if (pt_cmpR op_lt (pv 1) (pe_callB call_len_seq (by rfl) T.n_len b_len (pa_cons (pv 0) pa_nil)) (nomark _)) (pss_one (ps_ret (pe_ix ix_list (pv 0) (pv 1) (fun _ _ => rfl)))) pss_nil)
      (pss_one (ps_ret pe_int))), ?_⟩
    refine ⟨_, rfl, _, rfl, a, _, rfl, .inl hq, k, _, rfl, rfl, _, rfl, iteD (fun hlt => ?_) fun hge => ?_⟩
    · rw [List.length_map] at hlt
      have e : ((k.toNat : Nat) : Int) = k := by omega
      refine ⟨_, rfl, _, rfl, a, _, k, .int (ns.getD k.toNat 0), rfl, rfl, hq, ?_, q⟩
      have hlt2 : k.toNat < ns.length := by omega
      have hz : (ns.map V.int)[k.toNat]? = some (V.int (ns.getD k.toNat 0)) := by
        rw [List.getElem?_map, List.getD_eq_getElem?_getD, List.getElem?_eq_getElem hlt2]; rfl
      have hz2 := atI_nat hz
      rwa [e] at hz2
    · rw [List.length_map] at hge
      have e : ns.getD k.toNat 0 = 0 := by rw [List.getD_eq_getElem?_getD, List.getElem?_eq_none (by omega)]; rfl
      rw [e] at q
      exact q
def spMix : Sp := fun vs H Q _ => ∃ c k, vs = [.int c, .int k] ∧ ∀ r, 0 ≤ r → r < 2147483647 → Q (.int r) H
theorem ok_law_mixed (T : Txt K mg t) : GoodF P w K mg base 1 "_law_mixed" ["_law_cell_here", "_law_k"] spMix := by
  obtain ⟨fd, F, b⟩ := T.F_law_mixed
  refine ⟨_, fd, F.okX sc_law_mixed (fun vs H Q E h => ?_) (fun cdv A outer s H vs Q E hr h => ?_), b, F.kp, T.g__law_mixed⟩
  · obtain ⟨c, k, rfl, _⟩ := h
    rfl
  · obtain ⟨c, k, rfl, q⟩ := h
    refine ⟨_, (pss_cons (ps_set (i := 2) sc_law_mixed.nd rfl (Or.inl rfl) (pe_op op_mod (pe_op op_mul (pe_op op_add (pe_op op_add (pv 0) (pe_op op_mul pe_int (pv 1))) pe_int) pe_int) pe_int))
      (pss_one (ps_ret (pe_op op_mod (pe_op op_mul (pv 2) (pe_op op_add (pe_op op_fdiv (pv 2) pe_int) pe_int)) pe_int)))), ?_⟩
    refine ⟨_, rfl, _, rfl, 7919, k, rfl, rfl, .inl ⟨by decide, by decide⟩, _, _, rfl, rfl, _, _, rfl, rfl, _, 48271, rfl, rfl, .inr ⟨by decide, by decide⟩, _, _, rfl, rfl, (by show (0 : Int) < 2147483647; decide), ?_⟩
    have h0 : 0 ≤ (c + 7919 * k + 1) * 48271 % 2147483647 := Int.emod_nonneg _ (by decide)
    have h1 : (c + 7919 * k + 1) * 48271 % 2147483647 < 2147483647 := Int.emod_lt_of_pos _ (by decide)
    obtain ⟨n, hn⟩ : ∃ n, n = (c + 7919 * k + 1) * 48271 % 2147483647 := ⟨_, rfl⟩
    rw [← hn] at h0 h1
    refine ⟨_, rfl, _, rfl, n, 1009, congrArg V.int hn.symm, rfl, ⟨by decide, by decide⟩, _, _, rfl, rfl, n, _, congrArg V.int hn.symm, rfl, .inl ⟨by omega, by omega⟩, _, _, rfl, rfl, (by show (0 : Int) < 2147483647; decide), ?_⟩
    exact q _ (Int.emod_nonneg _ (by decide)) (Int.emod_lt_of_pos _ (by decide))
theorem ok_law_twice (T : Txt K mg t) : GoodF P w K mg base 2 "_law_twice" ["_law_cell_here", "_law_k"] spMix := by
  obtain ⟨fd, F, b⟩ := T.F_law_twice
  have G_law_mixed := ok_law_mixed (P := P) (w := w) (base := base) T
  refine ⟨_, fd, F.okX sc_law_twice (fun vs H Q E h => ?_) (fun cdv A outer s H vs Q E hr h => ?_), b, F.kp, T.g__law_twice⟩
  · obtain ⟨c, k, rfl, _⟩ := h
    rfl
  · obtain ⟨c, k, rfl, q⟩ := h
    refine ⟨_, (pss_cons (ps_set (i := 2) sc_law_twice.nd rfl (Or.inl rfl) (pe_op op_mod (pe_op op_mul (pe_op op_add (pe_op op_add (pe_callG G_law_mixed (hr.mono (by decide)) passes_of (by rfl) (pa_cons (pv 0) (pa_cons (pv 1) pa_nil))) (pe_op op_mul pe_int (pv 1))) pe_int) pe_int) pe_int))
      (pss_one (ps_ret (pe_op op_mod (pe_op op_mul (pv 2) (pe_op op_add (pe_op op_fdiv (pv 2) pe_int) pe_int)) pe_int)))), ?_⟩
    refine ⟨_, rfl, _, rfl, c, k, rfl, fun r hr0 hr1 => ?_⟩
    refine ⟨_, rfl, 104729, k, rfl, rfl, .inl ⟨by decide, by decide⟩, r, _, rfl, rfl, _, _, rfl, rfl, _, 69621, rfl, rfl, .inr ⟨by decide, by decide⟩, _, _, rfl, rfl, (by show (0 : Int) < 2147483647; decide), ?_⟩
    have h0 : 0 ≤ (r + 104729 * k + 11) * 69621 % 2147483647 := Int.emod_nonneg _ (by decide)
    have h1 : (r + 104729 * k + 11) * 69621 % 2147483647 < 2147483647 := Int.emod_lt_of_pos _ (by decide)
    obtain ⟨n, hn⟩ : ∃ n, n = (r + 104729 * k + 11) * 69621 % 2147483647 := ⟨_, rfl⟩
    rw [← hn] at h0 h1
    refine ⟨_, rfl, _, rfl, n, 1013, congrArg V.int hn.symm, rfl, ⟨by decide, by decide⟩, _, _, rfl, rfl, n, _, congrArg V.int hn.symm, rfl, .inl ⟨by omega, by omega⟩, _, _, rfl, rfl, (by show (0 : Int) < 2147483647; decide), ?_⟩
    exact q _ (Int.emod_nonneg _ (by decide)) (Int.emod_lt_of_pos _ (by decide))
end
end K31
set_option Elab.async false
set_option linter.all false
set_option maxRecDepth 100000
set_option maxHeartbeats 4000000
namespace K31
open PySem L2
def Well (H : Hp) (a : Addr) : Prop := ∃ m c j : Int, H a = some (.lst [.int m, .int c, .int j])
def Keep (a : Addr) (H H' : Hp) : Prop := ∀ b o, b ≠ a → H b = some o → H' b = some o
theorem Keep.refl (a : Addr) (H : Hp) : Keep a H H := fun _ _ _ e => e
theorem Keep.trans {a : Addr} {H H1 H2 : Hp} (x : Keep a H H1) (y : Keep a H1 H2) : Keep a H H2 := fun b o n e => y b o n (x b o n e)
theorem Same.kp {a : Addr} {H H' : Hp} (x : Same H H') : Keep a H H' := fun b o _ e => x b o e
theorem Keep.upd {a : Addr} {H : Hp} (o : HO) : Keep a H (upd H a o) := fun b u n e => by rw [upd_ne n]; exact e
theorem Keep.new {a p : Addr} {H H' : Hp} {o : HO} (x : Keep a H H') (hp : H' p = none) : Keep a H (L2.upd H' p o) := fun b u n e => by
  have := x b u n e
  rw [upd_ne (ne_of_none this hp)]; exact this
theorem Well.ne {H : Hp} {a p : Addr} (W : Well H a) (hp : H p = none) : a ≠ p := by
  obtain ⟨m, c, j, e⟩ := W
  exact ne_of_none e hp
theorem Well.new {H : Hp} {a p : Addr} {o : HO} (W : Well H a) (hp : H p = none) : Well (L2.upd H p o) a := by
  obtain ⟨m, c, j, e⟩ := id W
  exact ⟨m, c, j, by rw [upd_ne (W.ne hp)]; exact e⟩
theorem same_new {p : Addr} {H H' : Hp} {o : HO} (x : Same H H') (hp : H' p = none) : Same H (L2.upd H' p o) := fun b u e => by
  have := x b u e
  rw [upd_ne (ne_of_none this hp)]; exact this
theorem SqL.keep {K : PySem.W.Frag} {H H' : Hp} {a b : Addr} {xs : List V} (h : SqL K H b xs) (k : Keep a H H') (n : b ≠ a) : SqL K H' b xs := by
  rcases h with (h | ⟨o, h⟩) | h
  · exact .inl (.inl (k b _ n h))
  · exact .inl (.inr ⟨o, k b _ n h⟩)
  · exact .inr h
section
variable {P : Program} {w : World} {K : PySem.W.Frag} {mg : Str → Option Value} {base : Heap} {t : Adr}
def spWell (K : PySem.W.Frag) : Sp := fun vs H Q _ => ∃ (a : Addr) (ns : List Int) (k : Int), vs = [.ref a, .int k] ∧ SqL K H a (ns.map V.int) ∧ 0 ≤ k ∧ k < 1000 ∧ ns.length ≤ 63 ∧ ∀ p m c, H p = none → Q (.ref p) (upd H p (.lst [.int m, .int c, .int 0]))
theorem ok_law_well (T : Txt K mg t) : GoodF P w K mg base 2 "_law_well" ["_law_script", "_law_k"] (spWell K) := by
  obtain ⟨fd, F, b⟩ := T.F_law_well
  have G_law_cell := ok_law_cell (P := P) (w := w) (base := base) T
  refine ⟨_, fd, F.okX sc_law_well (fun vs H Q E h => ?_) (fun cdv A outer s H vs Q E hr h => ?_), b, F.kp, T.g__law_well⟩
  · obtain ⟨a, ns, k, rfl, _⟩ := h
    rfl
  · obtain ⟨a, ns, k, rfl, hq, h0, h1, hl, q⟩ := h
    refine ⟨_, (pss_one (ps_ret (pe_lst (pa_cons (pe_op op_mod (pe_callG G_law_cell (hr.mono (by decide)) passes_of (by rfl) (pa_cons (pv 0) (pa_cons pe_int pa_nil))) pe_int) (pa_cons (pe_callG G_law_cell (hr.mono (by decide)) passes_of (by rfl) (pa_cons (pv 0) (pa_cons (pv 1) pa_nil))) (pa_cons pe_int pa_nil)))))), ?_⟩
    refine ⟨_, rfl, a, ns, 0, rfl, hq, by decide, by decide, hl, _, 2, rfl, rfl, (by show (0 : Int) < 2; decide), _, rfl, _, rfl, a, ns, k, rfl, hq, h0, h1, hl, (by show 3 ≤ sizeLine; decide), fun p hp => q p _ _ hp⟩
def spDraw : Sp := fun vs H Q _ => ∃ a n, vs = [.ref a, .int n] ∧ Well H a ∧ 0 < n ∧ n < 1073741824 ∧ ∀ r H', 0 ≤ r → r < n → Well H' a → Keep a H H' → Q (.int r) H'
theorem ok_law_draw (T : Txt K mg t) : GoodF P w K mg base 3 "_law_draw" ["_law_well_here", "_law_most"] spDraw := by
  obtain ⟨fd, F, b⟩ := T.F_law_draw
  have G_law_twice := ok_law_twice (P := P) (w := w) (base := base) T
  refine ⟨_, fd, F.okX sc_law_draw (fun vs H Q E h => ?_) (fun cdv A outer s H vs Q E hr h => ?_), b, F.kp, T.g__law_draw⟩
  · obtain ⟨a, n, rfl, _⟩ := h
    rfl
  · obtain ⟨a, n, rfl, ⟨m, c, j, hw⟩, hn, hn2, q⟩ := h
    refine ⟨_, (pss_cons (ps_if (pt_cmpR op_eq (pe_ix ix_list (pv 0) pe_int (fun _ _ => rfl)) pe_int (nomark _)) (pss_cons (ps_set (i := 2) sc_law_draw.nd rfl (Or.inl rfl) (pe_op op_mod (pe_ix ix_list (pv 0) pe_int (fun _ _ => rfl)) (pv 1)))
      (pss_cons (ps_asg (pe_op op_fdiv (pe_ix ix_list (pv 0) pe_int (fun _ _ => rfl)) (pv 1)) (pg_sub (pv 0) pe_int set_list))
      (pss_one (ps_ret (pv 2))))) pss_nil)
      (pss_cons (ps_asg (pe_op op_add (pe_ix ix_list (pv 0) pe_int (fun _ _ => rfl)) pe_int) (pg_sub (pv 0) pe_int set_list))
      (pss_one (ps_ret (pe_op op_mod (pe_callG G_law_twice (hr.mono (by decide)) passes_of (by rfl) (pa_cons (pe_ix ix_list (pv 0) pe_int (fun _ _ => rfl)) (pa_cons (pe_ix ix_list (pv 0) pe_int (fun _ _ => rfl)) pa_nil))) (pv 1)))))), ?_⟩
    have S : SqL K H a [.int m, .int c, .int j] := SqL.of hw
    refine ⟨_, rfl, a, _, 0, .int m, rfl, rfl, S, rfl, rfl, _, rfl, iteD (fun _ => ?_) fun _ => ?_⟩
    · refine ⟨_, rfl, a, _, 1, .int c, rfl, rfl, S, rfl, _, rfl, c, n, rfl, rfl, hn, ?_⟩
      refine ⟨_, rfl, a, _, 1, .int c, rfl, rfl, S, rfl, _, rfl, c, n, rfl, rfl, ⟨hn, hn2⟩, _, rfl, a, _, 1, 1, rfl, rfl, hw, rfl, ?_⟩
      exact ⟨_, rfl, q _ _ (Int.emod_nonneg _ (by omega)) (Int.emod_lt_of_pos _ hn) ⟨m, c / n, j, upd_same⟩ (Keep.upd _)⟩
    · refine ⟨_, rfl, a, _, 2, .int j, rfl, rfl, S, rfl, j, 1, rfl, rfl, _, rfl, a, _, 2, 2, rfl, rfl, hw, rfl, ?_⟩
      have S2 : SqL K (upd H a (.lst [.int m, .int c, .int (j + 1)])) a [.int m, .int c, .int (j + 1)] := SqL.of upd_same
      refine ⟨_, rfl, a, _, 1, .int c, rfl, rfl, S2, rfl, _, rfl, a, _, 2, .int (j + 1), rfl, rfl, S2, rfl, c, j + 1, rfl, fun r h0 h1 => ?_⟩
      exact ⟨_, rfl, r, n, rfl, rfl, hn, q _ _ (Int.emod_nonneg _ (by omega)) (Int.emod_lt_of_pos _ hn) ⟨m, c, j + 1, upd_same⟩ (Keep.upd _)⟩
end
end K31
set_option Elab.async false
set_option linter.all false
set_option maxRecDepth 100000
set_option maxHeartbeats 4000000
namespace K31
open PySem L2 Wd
structure VT (H : Hp) (ps : List Addr) (xss : List (List V)) : Prop where
  len : ps.length = xss.length
  at_ : ∀ (i : Nat) (p : Addr) (xs : List V), ps[i]? = some p → xss[i]? = some xs → H p = some (.tup xs)
theorem VT.same {H H' : Hp} {ps : List Addr} {xss : List (List V)} (C : VT H ps xss) (s : Same H H') : VT H' ps xss := ⟨C.len, fun i p c h1 h2 => s _ _ (C.at_ i p c h1 h2)⟩
abbrev B40 : Int := 10000000000000000000000000000000000000000
def goodN : V → Bool | .int n => decide (0 ≤ n ∧ n < B40) | _ => false
def GoodK (xs : List V) : Prop := ∃ x y w h z : Int, xs = [.int x, .int y, .int w, .int h, .int z] ∧ (0 ≤ x ∧ x < B40) ∧ (0 ≤ y ∧ y < B40) ∧ (1 ≤ w ∧ w < B40) ∧ (1 ≤ h ∧ h < B40) ∧ (0 ≤ z ∧ z < B40)
section
variable {P : Program} {w : World} {K : PySem.W.Frag} {mg : Str → Option Value} {base : Heap} {t : Adr}
def spNeedBetween (C : Addr) : Sp := fun vs H Q E => ∃ (v : V) (lo hi : Int), vs = [v, .int lo, .int hi] ∧ isN v = true ∧ Lg lo ∧ Lg hi ∧ (∀ n, v = .int n → lo ≤ n → n ≤ hi → Q .non H) ∧ ((¬ ∃ n, v = .int n ∧ lo ≤ n ∧ n ≤ hi) → E (.ref C) none H)
theorem ok_need_between (T : Txt K mg t) : GoodF P w K mg base 2 "need_between" ["number", "least", "most"] (spNeedBetween t.c_NoRules) := by
  obtain ⟨fd, F, b⟩ := T.F_need_between
  have G_is_whole := ok_is_whole (P := P) (w := w) (base := base) T
  refine ⟨_, fd, F.okX sc_need_between (fun vs H Q E h => ?_) (fun cdv A outer s H vs Q E hr h => ?_), b, F.kp, T.g_need_between⟩
  · obtain ⟨v, lo, hi, rfl, _⟩ := h
    rfl
  · obtain ⟨v, lo, hi, rfl, hv, l1, l2, q, e⟩ := h
    refine ⟨_, (pss_one (ps_if (pw_or (pt_not (pt_val (pe_callG G_is_whole (hr.mono (by decide)) passes_of (by rfl) (pa_cons (pv 0) pa_nil)))) (pw_or1 (pt_not (pt_chain op_le op_le (pv 1) (pv 0) (pv 2))))).pt (pss_one (ps_raise throws_of rfl T.e_NoRules rfl (pa_cons (pe_fstr5 (by decide) (by decide) (by decide) (pv 1) (pv 2)) pa_nil))) pss_nil)), ?_⟩
    refine ⟨_, rfl, v, rfl, hv, _, rfl, iteNB (fun hf => iteT ⟨_, rfl, ⟨.inl ⟨lo, rfl, l1⟩, _, rfl, .inl ⟨hi, rfl, l2⟩, fun z => ⟨by show 1 ≤ sizeLine; decide, e fun ⟨n, z, _⟩ => ?_⟩⟩⟩) fun ht => ?_⟩
    · subst z; cases hf
    · cases v with
      | int n =>
        refine ⟨_, rfl, _, rfl, lo, n, rfl, rfl, _, rfl, iteD (fun h1 => ⟨_, rfl, n, hi, rfl, rfl, _, rfl, iteNB (fun h2 => ⟨_, rfl, ⟨.inl ⟨lo, rfl, l1⟩, _, rfl, .inl ⟨hi, rfl, l2⟩, fun z => ⟨by show 1 ≤ sizeLine; decide, e fun ⟨m, z, _, z2⟩ => ?_⟩⟩⟩) fun h2 => q n rfl h1 (of_decide_eq_true h2)⟩) fun h1 => ⟨_, rfl, iteT ⟨_, rfl, ⟨.inl ⟨lo, rfl, l1⟩, _, rfl, .inl ⟨hi, rfl, l2⟩, fun z => ⟨by show 1 ≤ sizeLine; decide, e fun ⟨m, z, z1, _⟩ => ?_⟩⟩⟩⟩⟩
        · cases z; exact of_decide_eq_false h2 z2
        · cases z; exact h1 z1
      | _ => cases ht
def spNeedKeep (C : Addr) : Sp := fun vs H Q E => ∃ (p : Addr) (xs : List V), vs = [.ref p] ∧ H p = some (.tup xs) ∧ xs.all isN = true ∧ (GoodK xs → Q .non H) ∧ (¬ GoodK xs → E (.ref C) none H)
theorem ok_need_keep (T : Txt K mg t) : GoodF P w K mg base 2 "need_keep" ["keep"] (spNeedKeep t.c_NoRules) := by
  obtain ⟨fd, F, b⟩ := T.F_need_keep
  have G_is_whole := ok_is_whole (P := P) (w := w) (base := base) T
  have G_is_short := ok_is_short (P := P) (w := w) (base := base) T
  refine ⟨_, fd, F.okX sc_need_keep (fun vs H Q E h => ?_) (fun cdv A outer s H vs Q E hr h => ?_), b, F.kp, T.g_need_keep⟩
  · obtain ⟨p, xs, rfl, _⟩ := h
    rfl
  · obtain ⟨p, xs, rfl, hp, hN, q, e⟩ := h
    refine ⟨_, (pss_cons (ps_if (pw_or (pt_not (pt_val (pe_callB call_isi (by rfl) T.n_isinstance b_isinstance (pa_cons (pv 0) (pa_cons (pe_bltn (v := .ty "tuple") (by rfl) T.n_tuple b_tuple rfl) pa_nil))))) (pw_or1 (pt_cmpR op_ne (pe_callB call_len_seq (by rfl) T.n_len b_len (pa_cons (pv 0) pa_nil)) pe_int (nomark _)))).pt (pss_one (ps_raise throws_of rfl T.e_NoRules rfl (pa_cons pe_str pa_nil))) pss_nil)
      (pss_cons (ps_for owns_of (pi_tup (pv 0)) (pg_name (i := 1) sc_need_keep.nd rfl (Or.inl rfl)) (pss_one (ps_if (pw_or (pt_not (pt_val (pe_callG G_is_whole (hr.mono (by decide)) passes_of (by rfl) (pa_cons (pv 1) pa_nil)))) (pw_or (pt_cmpR op_lt (pv 1) pe_int (nomark _)) (pw_or1 (pt_not (pt_val (pe_callG G_is_short (hr.mono (by decide)) passes_of (by rfl) (pa_cons (pv 1) pa_nil))))))).pt (pss_one (ps_raise throws_of rfl T.e_NoRules rfl (pa_cons pe_str pa_nil))) pss_nil)))
      (pss_one (ps_if (pw_or (pt_cmpR op_lt (pe_ix ix_tup (pv 0) pe_int (fun _ _ => rfl)) pe_int (nomark _)) (pw_or1 (pt_cmpR op_lt (pe_ix ix_tup (pv 0) pe_int (fun _ _ => rfl)) pe_int (nomark _)))).pt (pss_one (ps_raise throws_of rfl T.e_NoRules rfl (pa_cons pe_str pa_nil))) pss_nil)))), ?_⟩
    have rs : ¬ GoodK xs → (1 ≤ sizeLine ∧ E (.ref t.c_NoRules) none H) := fun n => ⟨by decide, e n⟩
    refine ⟨_, rfl, .ref p, .ty "tuple", _, _, true, rfl, .tup hp, .ty _, by kernel_rfl, true, rfl, iteF ?_⟩
    refine ⟨_, rfl, p, _, rfl, .inr (SqT.of hp), rfl, _, rfl, iteNB (fun h5 => rs fun ⟨x, y, w, h, z, ex, _⟩ => ?_) fun h5 => ?_⟩
    · rw [ex] at h5; exact of_decide_eq_false h5 rfl
    · have h5 : xs.length = 5 := by have := V.int.inj (of_decide_eq_true h5); omega
      refine ⟨_, rfl, p, rfl, ⟨_, SqT.of hp⟩, for_tup (xs := xs) (fun i σ H2 => ∃ v, σ = [some (.ref p), v] ∧ H = H2 ∧ (xs.take i).all goodN = true) ⟨_, rfl, rfl, by simp⟩ (fun i σ H2 _ ⟨_, _, e, _⟩ => e ▸ SqT.of hp) ?_ ?_⟩
      · rintro i x σ H2 hx ⟨v, rfl, rfl, hw⟩
        have hm : x ∈ xs := List.mem_of_getElem? hx
        have bad : goodN x = false → ¬ GoodK xs := fun hb g => by
          have : xs.all goodN = true := by
            obtain ⟨x, y, w, h, z, rfl, h1, h2, h3, h4, h5⟩ := g
            have : ∀ n : Int, 0 ≤ n ∧ n < B40 → goodN (.int n) = true := fun n h => decide_eq_true h
            simp only [List.all_cons, List.all_nil, Bool.and_true, Bool.and_eq_true]
            exact ⟨this _ h1, this _ h2, this _ ⟨by omega, h3.2⟩, this _ ⟨by omega, h4.2⟩, this _ h5⟩
          rw [List.all_eq_true.mp this x hm] at hb; cases hb
        refine ⟨_, rfl, x, rfl, List.all_eq_true.mp hN x hm, _, rfl, iteNB (fun hf => iteT (rs (bad ?_))) fun ht => ?_⟩
        · cases x <;> first | rfl | cases hf
        · cases x with
          | int n =>
            refine ⟨_, rfl, n, 0, rfl, rfl, _, rfl, iteD (fun h0 => iteT (rs (bad (decide_eq_false fun z => ?_)))) fun h0 => ?_⟩
            · omega
            · refine ⟨_, rfl, n, rfl, _, rfl, iteNB (fun hs => rs (bad (decide_eq_false fun z => ?_))) fun hs => ⟨_, rfl, rfl, ?_⟩⟩
              · have := of_decide_eq_false hs
                have hB : B40 = 10000000000000000000000000000000000000000 := rfl
                omega
              · have := of_decide_eq_true hs
                have hB : B40 = 10000000000000000000000000000000000000000 := rfl
                have g : goodN (.int n) = true := decide_eq_true ⟨by omega, by omega⟩
                rw [List.take_add_one, hx, List.all_append, hw]; simp [g]
          | _ => cases ht
      · rintro σ H2 ⟨v, rfl, rfl, hw⟩
        rw [List.take_length] at hw
        obtain ⟨x, y, w, h, z, rfl, g1, g2, g3, g4, g5⟩ : ∃ x y w h z : Int, xs = [.int x, .int y, .int w, .int h, .int z] ∧ goodN (.int x) = true ∧ goodN (.int y) = true ∧ goodN (.int w) = true ∧ goodN (.int h) = true ∧ goodN (.int z) = true := by
          have gi : ∀ v, goodN v = true → ∃ n, v = .int n := fun v hv => by cases v <;> first | exact ⟨_, rfl⟩ | cases hv
          match xs, h5, hw with
          | [a, b, c, d, e], _, hw =>
            simp only [List.all_cons, List.all_nil, Bool.and_true, Bool.and_eq_true] at hw
            obtain ⟨k1, k2, k3, k4, k5⟩ := hw
            obtain ⟨x, rfl⟩ := gi a k1
            obtain ⟨y, rfl⟩ := gi b k2
            obtain ⟨w, rfl⟩ := gi c k3
            obtain ⟨h, rfl⟩ := gi d k4
            obtain ⟨z, rfl⟩ := gi e k5
            exact ⟨x, y, w, h, z, rfl, k1, k2, k3, k4, k5⟩
        have u : ∀ n : Int, goodN (.int n) = true → 0 ≤ n ∧ n < B40 := fun n h => of_decide_eq_true h
        have u1 := u _ g1
        have u2 := u _ g2
        have u3 := u _ g3
        have u4 := u _ g4
        have u5 := u _ g5
        refine ⟨_, rfl, p, _, 2, .int w, rfl, rfl, SqT.of hp, atI_nat (j := 2) rfl, w, 1, rfl, rfl, _, rfl, iteD (fun h1 => iteT (rs fun ⟨_, _, w', _, _, ex, _, _, k3, _⟩ => ?_)) fun h1 => ?_⟩
        · injection ex with _ ex; injection ex with _ ex; injection ex with ew _; cases ew; omega
        · refine ⟨_, rfl, p, _, 3, .int h, rfl, rfl, SqT.of hp, atI_nat (j := 3) rfl, h, 1, rfl, rfl, _, rfl, iteD (fun h2 => rs fun ⟨_, _, _, h', _, ex, _, _, _, k4, _⟩ => ?_) fun h2 => q ⟨x, y, w, h, z, rfl, u1, u2, ⟨by omega, u3.2⟩, ⟨by omega, u4.2⟩, u5⟩⟩
          injection ex with _ ex; injection ex with _ ex; injection ex with _ ex; injection ex with ew _; cases ew; omega
end
end K31
set_option Elab.async false
set_option linter.all false
set_option maxRecDepth 100000
set_option maxHeartbeats 4000000
namespace K31
open PySem L2 Wd
def But (o : Addr) (H H' : Hp) : Prop := ∀ b u, b ≠ o → H b = some u → H' b = some u
def fR (g w r k t : V) : List (Str × V) := [("gap", g), ("width", w), ("rim", r), ("keeps", k), ("kept", t)]
theorem fR_put (g w r k t : V) : putF "kept" t (putF "keeps" k (putF "rim" r (putF "width" w (putF "gap" g [])))) = fR g w r k t := by kernel_rfl
def btw (lo hi : Int) (v : V) : Prop := ∃ n, v = .int n ∧ lo ≤ n ∧ n ≤ hi
def GoodKs (xss : List (List V)) : Prop := xss.length ≤ 12 ∧ ∀ xs ∈ xss, GoodK xs
theorem lg_small {n : Int} (h0 : 0 ≤ n) (h1 : n < 1000) : Lg n := by
  have h : n.natAbs < 1000 := by omega
  exact lg_of (Nat.lt_trans h (by decide))
def vTx : V → V | .int n => .str (tx n) | v => v
def vLn : V → V | .str r => .str (r ++ ("\n" : Str)) | v => v
section
variable {P : Program} {w : World} {K : PySem.W.Frag} {mg : Str → Option Value} {base : Heap} {t : Adr}
def spNeedKeeps (C : Addr) : Sp := fun vs H Q E => ∃ (a : Addr) (ps : List Addr) (xss : List (List V)), vs = [.ref a] ∧ H a = some (.lst (ps.map V.ref)) ∧ VT H ps xss ∧ (∀ xs ∈ xss, xs.all isN = true) ∧ (GoodKs xss → Q .non H) ∧ (¬ GoodKs xss → E (.ref C) none H)
theorem ok_need_keeps (T : Txt K mg t) : GoodF P w K mg base 3 "need_keeps" ["keeps"] (spNeedKeeps t.c_NoRules) := by
  obtain ⟨fd, F, b⟩ := T.F_need_keeps
  have G_need_keep := ok_need_keep (P := P) (w := w) (base := base) T
  refine ⟨_, fd, F.okX sc_need_keeps (fun vs H Q E h => ?_) (fun cdv A outer s H vs Q E hr h => ?_), b, F.kp, T.g_need_keeps⟩
  · obtain ⟨a, ps, xss, rfl, _⟩ := h
    rfl
  · obtain ⟨a, ps, xss, rfl, ha, C, hN, q, e⟩ := h
    refine ⟨_, (pss_cons (ps_if (pw_or (pt_not (pt_val (pe_callB call_isi (by rfl) T.n_isinstance b_isinstance (pa_cons (pv 0) (pa_cons (pe_bltn (v := .ty "list") (by rfl) T.n_list b_list rfl) pa_nil))))) (pw_or1 (pt_cmpR op_gt (pe_callB call_len_seq (by rfl) T.n_len b_len (pa_cons (pv 0) pa_nil)) (pe_glob (v := .int 12) (by rfl) T.g_MOST_KEEPS ⟨_, rfl⟩) (nomark _)))).pt (pss_one (ps_raise throws_of rfl T.e_NoRules rfl (pa_cons (pe_fstr2 (by decide) (pe_glob (v := .int 12) (by rfl) T.g_MOST_KEEPS ⟨_, rfl⟩)) pa_nil))) pss_nil)
      (pss_one (ps_for owns_of (pi_list (pv 0)) (pg_name (i := 1) sc_need_keeps.nd rfl (Or.inl rfl)) (pss_one (ps_expr (pe_callG G_need_keep (hr.mono (by decide)) passes_of (by rfl) (pa_cons (pv 1) pa_nil))))))), ?_⟩
    have hl : (ps.map V.ref).length = xss.length := by rw [List.length_map, C.len]
    refine ⟨_, rfl, .ref a, .ty "list", _, _, true, rfl, .lst ha, .ty _, by kernel_rfl, true, rfl, iteF ?_⟩
    refine ⟨_, rfl, a, _, rfl, .inl (SqL.of ha), _, 12, rfl, rfl, _, rfl, iteD (fun h12 => ⟨.inl ⟨12, rfl, lg_small (by decide) (by decide)⟩, fun z => ⟨by show 1 ≤ sizeLine; decide, e fun g => ?_⟩⟩) fun h12 => ?_⟩
    · have := g.1
      rw [hl] at h12
      omega
    · rw [hl] at h12
      refine ⟨_, rfl, a, rfl, ⟨_, SqL.of ha⟩, for_list (xs := ps.map V.ref) (fun i σ H2 => ∃ v, σ = [some (.ref a), v] ∧ H = H2 ∧ ∀ xs ∈ xss.take i, GoodK xs) ⟨_, rfl, rfl, by simp⟩ (fun i σ H2 _ ⟨_, _, e, _⟩ => e ▸ SqL.of ha) ?_ ?_⟩
      · rintro i x σ H2 hx ⟨v, rfl, rfl, hw⟩
        rw [List.getElem?_map] at hx
        obtain ⟨p, hp, rfl⟩ := Option.map_eq_some_iff.mp hx
        have hi : i < xss.length := by rw [← C.len]; exact (List.getElem?_eq_some_iff.mp hp).1
        have hc : xss[i]? = some xss[i] := List.getElem?_eq_getElem hi
        have hm : xss[i] ∈ xss := List.getElem_mem hi
        refine ⟨_, rfl, p, xss[i], rfl, C.at_ i p _ hp hc, hN _ hm, fun g => ⟨_, rfl, rfl, fun xs hxs => ?_⟩, fun g => e fun gs => g (gs.2 _ hm)⟩
        rw [List.take_add_one, hc] at hxs
        rcases List.mem_append.mp hxs with z | z
        · exact hw xs z
        · obtain rfl : xs = xss[i] := by simpa using z
          exact g
      · rintro σ H2 ⟨v, rfl, rfl, hw⟩
        rw [hl, List.take_length] at hw
        exact q ⟨by omega, hw⟩
def spRules (C NR : Addr) : Sp := fun vs H Q E => ∃ (o dx : Addr) (g w r : V) (a : Addr) (ps : List Addr) (xss : List (List V)), vs = [.ref o, g, w, r, .ref a] ∧ H o = some (.ins C dx []) ∧ H a = some (.lst (ps.map V.ref)) ∧ VT H ps xss ∧ (∀ xs ∈ xss, xs.all isN = true) ∧ isN g = true ∧ isN w = true ∧ isN r = true ∧
  (btw 0 2 g → btw 1 3 w → btw 0 1 r → GoodKs xss → ∀ l p H', But o H H' → H l = none → H p = none → l ≠ o → H' l = some (.lst (ps.map V.ref)) → H' p = some (.tup (ps.map V.ref)) → H' o = some (.ins C dx (fR g w r (.ref l) (.ref p))) → Q .non H') ∧ (¬ (btw 0 2 g ∧ btw 1 3 w ∧ btw 0 1 r ∧ GoodKs xss) → E (.ref NR) none H)
theorem ok_Rules_init (T : Txt K mg t) : GoodC P w K mg base 4 "Rules" t.c_Rules ["self", "gap", "width", "rim", "keeps"] (spRules t.c_Rules t.c_NoRules) := by
  obtain ⟨fd, F, b⟩ := T.F_Rules_init
  have G_need_between := ok_need_between (P := P) (w := w) (base := base) T
  have G_need_keeps := ok_need_keeps (P := P) (w := w) (base := base) T
  refine ⟨_, fd, T.K_Rules, F.okX sc_Rules_init (fun vs H Q E h => ?_) (fun cdv A outer s H vs Q E hr h => ?_), b, T.g_Rules⟩
  · obtain ⟨o, dx, g, w, r, a, ps, xss, rfl, _⟩ := h
    rfl
  · obtain ⟨o, dx, g, w, r, a, ps, xss, rfl, ho, ha, C, hN, hg, hw, hr1, kQ, kE⟩ := h
    refine ⟨_, (pss_cons (ps_expr (pe_callG G_need_between (hr.mono (by decide)) passes_of (by rfl) (pa_cons (pv 1) (pa_cons pe_int (pa_cons (pe_glob (v := .int 2) (by rfl) T.g_MOST_GAP ⟨_, rfl⟩) pa_nil)))))
      (pss_cons (ps_expr (pe_callG G_need_between (hr.mono (by decide)) passes_of (by rfl) (pa_cons (pv 2) (pa_cons pe_int (pa_cons (pe_glob (v := .int 3) (by rfl) T.g_MOST_WIDTH ⟨_, rfl⟩) pa_nil)))))
      (pss_cons (ps_expr (pe_callG G_need_between (hr.mono (by decide)) passes_of (by rfl) (pa_cons (pv 3) (pa_cons pe_int (pa_cons (pe_glob (v := .int 1) (by rfl) T.g_MOST_RIM ⟨_, rfl⟩) pa_nil)))))
      (pss_cons (ps_expr (pe_callG G_need_keeps (hr.mono (by decide)) passes_of (by rfl) (pa_cons (pv 4) pa_nil)))
      (pss_cons (ps_fld (pv 0) (pv 1) rfl)
      (pss_cons (ps_fld (pv 0) (pv 2) rfl)
      (pss_cons (ps_fld (pv 0) (pv 3) rfl)
      (pss_cons (ps_fld (pv 0) (pe_callTy call_list_of (by rfl) T.n_list b_list (pa_cons (pv 4) pa_nil)) rfl)
      (pss_one (ps_fld (pv 0) (pe_callTy call_tuple_of (by rfl) T.n_tuple b_tuple (pa_cons (pv 4) pa_nil)) rfl)))))))))), ?_⟩
    refine ⟨_, rfl, g, 0, 2, rfl, hg, lg_small (by decide) (by decide), lg_small (by decide) (by decide), fun gn eg g0 g1 => ?_, fun n => kE fun z => n z.1⟩
    refine ⟨_, rfl, w, 1, 3, rfl, hw, lg_small (by decide) (by decide), lg_small (by decide) (by decide), fun wn ew w0 w1 => ?_, fun n => kE fun z => n z.2.1⟩
    refine ⟨_, rfl, r, 0, 1, rfl, hr1, lg_small (by decide) (by decide), lg_small (by decide) (by decide), fun rn er r0 r1 => ?_, fun n => kE fun z => n z.2.2.1⟩
    refine ⟨_, rfl, a, ps, xss, rfl, ha, C, hN, fun gk => ?_, fun n => kE fun z => n z.2.2.2⟩
    refine ⟨_, rfl, _, rfl, o, _, dx, _, rfl, ho, T.cl_Rules, T.na_Rules_gap, (by decide), ?_⟩
    refine ⟨_, rfl, _, rfl, o, _, dx, _, rfl, upd_same, T.cl_Rules, T.na_Rules_width, Nat.le_of_ble_eq_true (by kernel_rfl), ?_⟩
    refine ⟨_, rfl, _, rfl, o, _, dx, _, rfl, upd_same, T.cl_Rules, T.na_Rules_rim, Nat.le_of_ble_eq_true (by kernel_rfl), ?_⟩
    have nao : a ≠ o := ne_of ha ho (by intro z; cases z)
    refine ⟨_, rfl, a, ps.map V.ref, rfl, .inl (SqL.of (by rw [upd_ne nao, upd_ne nao, upd_ne nao]; exact ha)), fun l hl => ?_⟩
    have nlo : l ≠ o := fun z => by rw [z, upd_same] at hl; cases hl
    have Hl : H l = none := by rw [upd_ne nlo, upd_ne nlo, upd_ne nlo] at hl; exact hl
    have nal : a ≠ l := ne_of_none ha Hl
    refine ⟨_, rfl, o, _, dx, _, rfl, by rw [upd_ne (Ne.symm nlo)]; exact upd_same, T.cl_Rules, T.na_Rules_keeps, Nat.le_of_ble_eq_true (by kernel_rfl), ?_⟩
    refine ⟨_, rfl, a, ps.map V.ref, rfl, .inl ⟨SqL.of (by rw [upd_ne nao, upd_ne nal, upd_ne nao, upd_ne nao, upd_ne nao]; exact ha), fun p hp => ?_⟩⟩
    have npo : p ≠ o := fun z => by rw [z, upd_same] at hp; cases hp
    have npl : p ≠ l := fun z => by rw [z, upd_ne nlo, upd_same] at hp; cases hp
    have Hp : H p = none := by rw [upd_ne npo, upd_ne npl, upd_ne npo, upd_ne npo, upd_ne npo] at hp; exact hp
    refine ⟨_, rfl, o, _, dx, _, rfl, by rw [upd_ne (Ne.symm npo)]; exact upd_same, T.cl_Rules, T.na_Rules_kept, Nat.le_of_ble_eq_true (by kernel_rfl), ?_⟩
    refine kQ ⟨gn, eg, g0, g1⟩ ⟨wn, ew, w0, w1⟩ ⟨rn, er, r0, r1⟩ gk l p _ (fun c u hc e => ?_) Hl Hp nlo ?_ ?_ ?_
    · rw [upd_ne hc, upd_ne (ne_of_none e Hp), upd_ne hc, upd_ne (ne_of_none e Hl), upd_ne hc, upd_ne hc, upd_ne hc]; exact e
    · rw [upd_ne nlo, upd_ne (Ne.symm npl), upd_ne nlo]; exact upd_same
    · rw [upd_ne npo]; exact upd_same
    · rw [upd_same, fR_put]
def spTell (K : PySem.W.Frag) : Sp := fun vs H Q _ => ∃ (wd : Str) (a : Addr) (ns : List Int), vs = [.str wd, .ref a] ∧ wd.length ≤ 100 ∧ (SqL K H a (ns.map V.int) ∨ SqT K H a (ns.map V.int)) ∧ ns.length ≤ 2000 ∧ (∀ n ∈ ns, Lg n) ∧ ∀ H', Same H H' → Q (.str (rowT wd ns)) H'
theorem ok_tell_row (T : Txt K mg t) : GoodF P w K mg base 1 "tell_row" ["word", "numbers"] (spTell K) := by
  obtain ⟨fd, F, b⟩ := T.F_tell_row
  refine ⟨_, fd, F.okX sc_tell_row (fun vs H Q E h => ?_) (fun cdv A outer s H vs Q E hr h => ?_), b, F.kp, T.g_tell_row⟩
  · obtain ⟨wd, a, ns, rfl, _⟩ := h
    rfl
  · obtain ⟨wd, a, ns, rfl, hwd, hq, hl, hlog, q⟩ := h
    refine ⟨_, (pss_one (ps_ret (pe_bm PySem.F.plainAttrs_str PySem.F.slot_str_join PySem.F.type_str_join mt_join pe_str (pa_cons (pe_op op_cat (pe_lst (pa_cons (pv 0) pa_nil)) (pe_comp (own := ["number"]) (cs_nil (N := ["word", "numbers"]) rfl (by rfl) (by decide +kernel) (by decide +kernel) (by decide +kernel)) (pi_seq (pv 1)) (fun _ _ _ _ _ => pg_name (i := 2) (by show (["word", "numbers", "number"] : List Str).Nodup; decide +kernel) rfl (Or.inl rfl)) (fun _ _ _ _ _ => pf_nil) (fun _ _ _ _ _ => (pe_callTy call_str_int (by rfl) T.n_str b_str (pa_cons (pv 2) pa_nil))))) pa_nil)))), ?_⟩
    refine ⟨rfl, _, rfl, (by show 1 ≤ sizeLine; decide), fun l hl1 => ?_⟩
    have s1 : Same H (upd H l (.lst [.str wd])) := same_new (Same.refl H) hl1
    have e0 : upd H l (.lst [.str wd]) l = some (.lst [.str wd]) := upd_same
    generalize upd H l (.lst [.str wd]) = H0 at s1 e0
    have hz : (ns.map V.int).length ≤ sizeLine := by rw [List.length_map]; exact Nat.le_trans hl (by decide)
    have fin : ∀ D H1, Same H0 H1 → H1 D = some (.lst (((ns.map V.int).filter fun _ => true).map vTx)) → rCat (V.ref l) (V.ref D) H1 fun x H2 => rJoin K (V.str (" " : Str)) [x] H2 Q := fun D H1 sD eD => by
      have e : ((ns.map V.int).filter fun _ => true).map vTx = (ns.map tx).map V.str := by
        rw [List.filter_eq_self.mpr (fun _ _ => rfl), List.map_map, List.map_map]; rfl
      rw [e] at eD
      refine ⟨l, D, [.str wd], (ns.map tx).map V.str, rfl, rfl, sD _ _ e0, eD, ?_, fun p hp => ?_⟩
      · simp only [List.length_map, List.length_cons, List.length_nil]
        exact Nat.le_trans (by omega) (show 2001 ≤ sizeLine by decide)
      · refine ⟨" ", p, wd :: ns.map tx, rfl, rfl, SqL.of upd_same, ?_, q _ (same_new (Same.trans s1 sD) hp)⟩
        have hs : ((ns.map tx).map (·.length)).sum ≤ 1921 * ns.length := by
          clear hq hl q s1 hp e eD hz
          induction ns with
          | nil => simp
          | cons n r ih =>
            have h1 := PyProof.Rows.int_text_len_1921 (hlog n (List.mem_cons_self ..))
            have h2 := ih fun m hm => hlog m (List.mem_cons_of_mem _ hm)
            simp only [List.map_cons, List.sum_cons, List.length_cons]
            show (tx n).length + _ ≤ _
            unfold tx at h1 ⊢
            unfold tx at h2
            omega
        simp only [List.map_cons, List.sum_cons, List.length_cons, List.length_map]
        have e1 : (" " : Str).length = 1 := by decide +kernel
        rw [e1]
        omega
    have step : ∀ (σ : St) x, x ∈ ns.map V.int → ∃ n, x = .int n ∧ Lg n := fun _ x hx => by
      obtain ⟨n, hn, rfl⟩ := List.mem_map.mp hx
      exact ⟨n, rfl, hlog n hn⟩
    refine ⟨_, rfl, a, rfl, ?_⟩
    rcases hq with hq | hq
    · refine .inl ⟨⟨_, s1.seq hq⟩, comp_grow (xs := ns.map V.int) (fun _ => true) vTx (s1.seq hq) hz (fun x hx H' Qy Qn _ hy _ => ?_) fun D H1 _ sD eD => fin D H1 sD eD⟩
      obtain ⟨n, hn, rfl⟩ := List.mem_map.mp hx
      exact ⟨⟨_, rfl, rfl⟩, iteT ⟨_, rfl, n, rfl, hlog n hn, hy rfl H' (Same.refl H')⟩⟩
    · refine .inr ⟨⟨_, s1.sqT hq⟩, comp_growT (xs := ns.map V.int) (fun _ => true) vTx (s1.sqT hq) hz (fun x hx H' Qy Qn _ hy _ => ?_) fun D H1 _ sD eD => fin D H1 sD eD⟩
      obtain ⟨n, hn, rfl⟩ := List.mem_map.mp hx
      exact ⟨⟨_, rfl, rfl⟩, iteT ⟨_, rfl, n, rfl, hlog n hn, hy rfl H' (Same.refl H')⟩⟩
def spTellLines (K : PySem.W.Frag) : Sp := fun vs H Q _ => ∃ (a : Addr) (rows : List Str), vs = [.ref a] ∧ SqL K H a (rows.map V.str) ∧ rows.length ≤ 100 ∧ (∀ r ∈ rows, r.length ≤ 100000) ∧ ∀ H', Same H H' → Q (.str (linesT rows)) H'
theorem ok_tell_lines (T : Txt K mg t) : GoodF P w K mg base 1 "tell_lines" ["rows"] (spTellLines K) := by
  obtain ⟨fd, F, b⟩ := T.F_tell_lines
  refine ⟨_, fd, F.okX sc_tell_lines (fun vs H Q E h => ?_) (fun cdv A outer s H vs Q E hr h => ?_), b, F.kp, T.g_tell_lines⟩
  · obtain ⟨a, rows, rfl, _⟩ := h
    rfl
  · obtain ⟨a, rows, rfl, hq, hl, hr2, q⟩ := h
    refine ⟨_, (pss_one (ps_ret (pe_bm PySem.F.plainAttrs_str PySem.F.slot_str_join PySem.F.type_str_join mt_join pe_str (pa_cons (pe_comp (own := ["row"]) (cs_nil (N := ["rows"]) rfl (by rfl) (by decide +kernel) (by decide +kernel) (by decide +kernel)) (pi_list (pv 0)) (fun _ _ _ _ _ => pg_name (i := 1) (by show (["rows", "row"] : List Str).Nodup; decide +kernel) rfl (Or.inl rfl)) (fun _ _ _ _ _ => pf_nil) (fun _ _ _ _ _ => (pe_op op_add_str (pv 1) pe_str))) pa_nil)))), ?_⟩
    refine ⟨rfl, _, rfl, a, rfl, ⟨_, hq⟩, comp_grow (xs := rows.map V.str) (fun _ => true) vLn hq (by rw [List.length_map]; exact Nat.le_trans hl (by decide)) (fun x hx H' Qy Qn _ hy _ => ?_) fun D H1 _ sD eD => ?_⟩
    · obtain ⟨r, hm, rfl⟩ := List.mem_map.mp hx
      exact ⟨⟨_, rfl, rfl⟩, iteT ⟨_, rfl, r, ("\n" : Str), rfl, rfl, Nat.le_trans (Nat.add_le_add_right (hr2 r hm) _) (by decide), hy rfl H' (Same.refl H')⟩⟩
    · have e : ((rows.map V.str).filter fun _ => true).map vLn = (rows.map fun r => r ++ ("\n" : Str)).map V.str := by
        rw [List.filter_eq_self.mpr (fun _ _ => rfl), List.map_map, List.map_map]; rfl
      rw [e] at eD
      refine ⟨("" : Str), D, rows.map fun r => r ++ ("\n" : Str), rfl, rfl, SqL.of eD, ?_, q _ sD⟩
      have h1 := StrLaws.sumLen_le (B := 100001) (rows.map fun r => r ++ ("\n" : Str)) fun y hy => by
        obtain ⟨r, hm, rfl⟩ := List.mem_map.mp hy
        have := hr2 r hm
        have e2 := PySem.Str.length_append r ("\n" : Str)
        have e3 : ("\n" : Str).length = 1 := by decide +kernel
        omega
      have e4 : ("" : Str).length = 0 := by decide +kernel
      rw [e4, Nat.mul_zero]
      rw [List.length_map] at h1
      have h2 : rows.length * 100001 ≤ 100 * 100001 := Nat.mul_le_mul_right _ hl
      omega
end
end K31
set_option Elab.async false
set_option linter.all false
set_option maxRecDepth 100000
set_option maxHeartbeats 4000000
namespace K31
open PySem L2 Wd
theorem row_len {w : Str} {ns : List Int} (hw : w.length ≤ 100) (hn : ns.length ≤ 5) (hl : ∀ n ∈ ns, Lg n) : (rowT w ns).length ≤ 100000 := by
  unfold rowT
  rw [tjoin]
  have h := StrLaws.join_length_le (" " : Str) (w :: ns.map tx)
  have h1 := StrLaws.sumLen_le (B := 2000) (ns.map tx) fun y hy => by
    obtain ⟨n, hm, rfl⟩ := List.mem_map.mp hy
    exact Nat.le_trans (PyProof.Rows.int_text_len_1921 (hl n hm)) (by decide)
  have e1 : (" " : Str).length = 1 := by decide +kernel
  rw [e1] at h
  simp only [List.map_cons, List.sum_cons, List.length_cons, List.length_map] at h h1
  have : ns.length * 2000 ≤ 5 * 2000 := Nat.mul_le_mul_right _ hn
  omega
def rowsR (g w r : Int) (nss : List (List Int)) : List Str := rowT "gap" [g] :: rowT "width" [w] :: rowT "rim" [r] :: nss.map (rowT "keep")
def textR (g w r : Int) (nss : List (List Int)) : Str := linesT (rowsR g w r nss)
def vRow (nss : List (List Int)) : List V := nss.map fun ns => .str (rowT "keep" ns)
def ivs (nss : List (List Int)) : List (List V) := nss.map fun ns => ns.map V.int
def LgK (nss : List (List Int)) : Prop := nss.length ≤ 12 ∧ ∀ ns ∈ nss, ns.length ≤ 5 ∧ ∀ n ∈ ns, Lg n
def toI : V → Option Int | .int n => some n | _ => none
def intsV (xs : List V) : List Int := xs.filterMap toI
theorem intsV_map (ns : List Int) : intsV (ns.map V.int) = ns := by
  unfold intsV
  rw [List.filterMap_map]
  exact List.filterMap_some
def keepF (H : Hp) : V → V
  | .ref p => match H p with | some (.tup xs) => .str (rowT "keep" (intsV xs)) | _ => .non
  | v => v
theorem keepF_at {H : Hp} {p : Addr} {ns : List Int} (h : H p = some (.tup (ns.map V.int))) : keepF H (.ref p) = .str (rowT "keep" ns) := by
  unfold keepF
  simp only [h, intsV_map]
theorem VT.get {H : Hp} {ps : List Addr} {nss : List (List Int)} (C : VT H ps (ivs nss)) {i : Nat} {p : Addr} (h : ps[i]? = some p) : ∃ ns, nss[i]? = some ns ∧ ns ∈ nss ∧ H p = some (.tup (ns.map V.int)) := by
  have hl : nss.length = ps.length := by rw [C.len]; simp [ivs]
  have hi : i < nss.length := by rw [hl]; exact (List.getElem?_eq_some_iff.mp h).1
  refine ⟨nss[i], List.getElem?_eq_getElem hi, List.getElem_mem hi, C.at_ i p _ h ?_⟩
  unfold ivs
  rw [List.getElem?_map, List.getElem?_eq_getElem hi]; rfl
theorem keepF_map {H : Hp} {ps : List Addr} {nss : List (List Int)} (C : VT H ps (ivs nss)) : (ps.map V.ref).map (keepF H) = vRow nss := by
  have hl : nss.length = ps.length := by rw [C.len]; simp [ivs]
  unfold vRow
  refine List.ext_getElem? fun i => ?_
  rw [List.getElem?_map, List.getElem?_map, List.getElem?_map]
  cases h : ps[i]? with
  | none =>
    rw [List.getElem?_eq_none (by rw [hl]; exact List.getElem?_eq_none_iff.mp h)]; rfl
  | some p =>
    obtain ⟨ns, e, _, ht⟩ := C.get h
    rw [e]
    exact congrArg some (keepF_at ht)
section
variable {P : Program} {w : World} {K : PySem.W.Frag} {mg : Str → Option Value} {base : Heap} {t : Adr}
def spTold (C : Addr) : Sp := fun vs H Q _ => ∃ (o dx : Addr) (g w r : Int) (k : V) (p : Addr) (ps : List Addr) (nss : List (List Int)), vs = [.ref o] ∧ H o = some (.ins C dx (fR (.int g) (.int w) (.int r) k (.ref p))) ∧ H p = some (.tup (ps.map V.ref)) ∧ VT H ps (ivs nss) ∧ Lg g ∧ Lg w ∧ Lg r ∧ LgK nss ∧ ∀ H', Same H H' → Q (.str (textR g w r nss)) H'
theorem ok_Rules_told (T : Txt K mg t) : GoodM P w K mg base 2 t.c_Rules "told" ["self"] (spTold t.c_Rules) := by
  obtain ⟨fd, F, b⟩ := T.F_Rules_told
  have G_tell_row := ok_tell_row (P := P) (w := w) (base := base) T
  have G_tell_lines := ok_tell_lines (P := P) (w := w) (base := base) T
  refine ⟨T.cl_Rules, _, fd, T.M_Rules_told, F.okX sc_Rules_told (fun vs H Q E h => ?_) (fun cdv A outer s H vs Q E hr h => ?_), b⟩
  · obtain ⟨o, dx, g, w, r, k, p, ps, nss, rfl, _⟩ := h
    rfl
  · obtain ⟨o, dx, g, w, r, k, p, ps, nss, rfl, ho, hp, C, lg, lw, lr, lk, q⟩ := h
    refine ⟨_, (pss_cons (ps_set (i := 1) sc_Rules_told.nd rfl (Or.inl rfl) (pe_lst (pa_cons (pe_callG G_tell_row (hr.mono (by decide)) passes_of (by rfl) (pa_cons pe_str (pa_cons (pe_lst (pa_cons (pe_fld (pv 0) rfl) pa_nil)) pa_nil))) (pa_cons (pe_callG G_tell_row (hr.mono (by decide)) passes_of (by rfl) (pa_cons pe_str (pa_cons (pe_lst (pa_cons (pe_fld (pv 0) rfl) pa_nil)) pa_nil))) (pa_cons (pe_callG G_tell_row (hr.mono (by decide)) passes_of (by rfl) (pa_cons pe_str (pa_cons (pe_lst (pa_cons (pe_fld (pv 0) rfl) pa_nil)) pa_nil))) pa_nil)))))
      (pss_cons (ps_expr (pe_bm PySem.F.plainAttrs_list PySem.F.slot_list_extend PySem.F.type_list_extend mt_extend (pv 1) (pa_cons (pe_comp (own := ["keep"]) (cs_nil (N := ["self", "rows"]) rfl (by rfl) (by decide +kernel) (by decide +kernel) (by decide +kernel)) (pi_tup (pe_fld (pv 0) rfl)) (fun _ _ _ _ _ => pg_name (i := 2) (by show (["self", "rows", "keep"] : List Str).Nodup; decide +kernel) rfl (Or.inl rfl)) (fun _ _ _ _ _ => pf_nil) (fun _ _ _ _ _ => (pe_callG G_tell_row (hr.mono (by decide)) passX0 (by rfl) (pa_cons pe_str (pa_cons (pv 2) pa_nil))))) pa_nil)))
      (pss_one (ps_ret (pe_callG G_tell_lines (hr.mono (by decide)) passes_of (by rfl) (pa_cons (pv 1) pa_nil)))))), ?_⟩
    refine ⟨_, rfl, o, _, dx, _, .int g, rfl, ho, T.cl_Rules, T.na_Rules_gap, by kernel_rfl, (by show 1 ≤ sizeLine; decide), fun l1 hl1 => ?_⟩
    refine ⟨"gap", l1, [g], rfl, by decide +kernel, .inl (SqL.of upd_same), Nat.le_of_ble_eq_true rfl, fun n hn => by rw [List.mem_singleton.mp hn]; exact lg, fun H1 s1 => ?_⟩
    have s1 := Same.trans (same_new (Same.refl H) hl1) s1
    refine ⟨_, rfl, o, _, dx, _, .int w, rfl, s1 _ _ ho, T.cl_Rules, T.na_Rules_width, by kernel_rfl, (by show 1 ≤ sizeLine; decide), fun l2 hl2 => ?_⟩
    refine ⟨"width", l2, [w], rfl, by decide +kernel, .inl (SqL.of upd_same), Nat.le_of_ble_eq_true rfl, fun n hn => by rw [List.mem_singleton.mp hn]; exact lw, fun H2 s2 => ?_⟩
    have s2 := Same.trans s1 (Same.trans (same_new (Same.refl H1) hl2) s2)
    refine ⟨_, rfl, o, _, dx, _, .int r, rfl, s2 _ _ ho, T.cl_Rules, T.na_Rules_rim, by kernel_rfl, (by show 1 ≤ sizeLine; decide), fun l3 hl3 => ?_⟩
    refine ⟨"rim", l3, [r], rfl, by decide +kernel, .inl (SqL.of upd_same), Nat.le_of_ble_eq_true rfl, fun n hn => by rw [List.mem_singleton.mp hn]; exact lr, fun H3 s3 => ?_⟩
    have s3 := Same.trans s2 (Same.trans (same_new (Same.refl H2) hl3) s3)
    refine ⟨(by show 3 ≤ sizeLine; decide), fun l hl => ?_⟩
    have s4 : Same H (upd H3 l (.lst [.str (rowT "gap" [g]), .str (rowT "width" [w]), .str (rowT "rim" [r])])) := same_new s3 hl
    have e4 : upd H3 l (.lst [.str (rowT "gap" [g]), .str (rowT "width" [w]), .str (rowT "rim" [r])]) l = some (.lst [.str (rowT "gap" [g]), .str (rowT "width" [w]), .str (rowT "rim" [r])]) := upd_same
    have nl : H l = none := s3.free hl
    generalize upd H3 l (.lst [.str (rowT "gap" [g]), .str (rowT "width" [w]), .str (rowT "rim" [r])]) = H4 at s4 e4
    have hl12 : ps.length ≤ 12 := by have := lk.1; rw [C.len]; simpa [ivs] using this
    refine ⟨_, rfl, .inl ⟨rfl, _, SqL.of e4⟩, _, rfl, o, _, dx, _, .ref p, rfl, s4 _ _ ho, T.cl_Rules, T.na_Rules_kept, by kernel_rfl, p, rfl, ⟨_, SqT.of (s4 _ _ hp)⟩, comp_growT (xs := ps.map V.ref) (fun _ => true) (keepF H) (SqT.of (s4 _ _ hp)) (by rw [List.length_map]; exact Nat.le_trans hl12 (by decide)) (fun x hx H' Qy Qn s' hy _ => ?_) fun D H5 hD s5 eD => ?_⟩
    · obtain ⟨pp, hm, rfl⟩ := List.mem_map.mp hx
      obtain ⟨i, hi, rfl⟩ := List.getElem_of_mem hm
      obtain ⟨ns, e, hns, ht⟩ := C.get (List.getElem?_eq_getElem hi)
      refine ⟨⟨_, rfl, rfl⟩, iteT ⟨_, rfl, "keep", _, ns, rfl, by decide +kernel, .inr (SqT.of (s' _ _ (s4 _ _ ht))), Nat.le_trans (lk.2 ns hns).1 (by decide), (lk.2 ns hns).2, fun H6 s6 => ?_⟩⟩
      have := hy rfl H6 s6
      rwa [keepF_at ht] at this
    · rw [List.filter_eq_self.mpr (fun _ _ => rfl), keepF_map C] at eD
      have hv : (vRow nss).length ≤ 12 := by unfold vRow; rw [List.length_map]; exact lk.1
      refine ⟨l, D, _, _, rfl, rfl, s5 _ _ e4, eD, Nat.le_trans (show 3 + (vRow nss).length ≤ 15 by omega) (by decide), ?_⟩
      have s6 : Same H (upd H5 l (.lst ([.str (rowT "gap" [g]), .str (rowT "width" [w]), .str (rowT "rim" [r])] ++ vRow nss))) := fun c u e => by
        rw [upd_ne (ne_of_none e nl)]; exact s5 _ _ (s4 _ _ e)
      refine ⟨_, rfl, l, rowsR g w r nss, rfl, SqL.of ?_, ?_, fun x hx => ?_, fun H7 s7 => q H7 (Same.trans s6 s7)⟩
      · rw [upd_same]
        unfold rowsR vRow
        simp
      · unfold rowsR
        simp only [List.length_cons, List.length_map]
        have := lk.1
        omega
      · unfold rowsR at hx
        simp only [List.mem_cons, List.mem_map] at hx
        rcases hx with rfl | rfl | rfl | ⟨ns, hns, rfl⟩
        · exact row_len (by decide +kernel) (by simp) fun n hn => by rw [List.mem_singleton.mp hn]; exact lg
        · exact row_len (by decide +kernel) (by simp) fun n hn => by rw [List.mem_singleton.mp hn]; exact lw
        · exact row_len (by decide +kernel) (by simp) fun n hn => by rw [List.mem_singleton.mp hn]; exact lr
        · exact row_len (by decide +kernel) (lk.2 ns hns).1 (lk.2 ns hns).2
end
end K31
set_option Elab.async false
set_option linter.all false
set_option maxRecDepth 100000
set_option maxHeartbeats 4000000
namespace K31
open PySem L2 Wd
theorem cutN (xs : List V) (k : Nat) : cutV xs (some (k : Int)) none = xs.drop k := by
  unfold cutV
  rw [HT.sIx_nat, HT.sIx_none]
  by_cases h : k ≤ xs.length
  · rw [Nat.min_eq_left h]
    exact List.take_of_length_le (by rw [List.length_drop]; omega)
  · rw [Nat.min_eq_right (by omega), List.drop_eq_nil_of_le (Nat.le_refl _), List.drop_eq_nil_of_le (by omega)]
    simp
theorem cut1 (xs : List V) : cutV xs (some 1) none = xs.drop 1 := cutN xs 1
theorem cutLast (xs : List V) : cutV xs none (some (-1)) = xs.dropLast := by
  unfold cutV
  rw [HT.sIx_none]
  show List.take ((if (-1 : Int) < 0 then ((-1 : Int) + (xs.length : Int)).toNat else min (-1 : Int).toNat xs.length) - 0) (xs.drop 0) = _
  rw [if_pos (by decide), List.drop_zero, List.dropLast_eq_take]
  congr 1
  omega
theorem num_f1 {l : List Nat} (h : ¬ (1 ≤ (figs l).length ∧ (figs l).length ≤ 40)) : isNumL l = false := by
  refine Bool.eq_false_iff.mpr fun z => h ?_
  have := numOk z
  exact ⟨this.one, this.few⟩
theorem num_f2 {l : List Nat} (h : (figs l).all isDig = false) : isNumL l = false := by
  unfold isNumL; rw [h]; simp
theorem num_f3 {l : List Nat} (h : (figs l).head? = some 48) (h2 : l ≠ [48]) : isNumL l = false := Bool.eq_false_iff.mpr fun z => h2 ((numOk z).lead h)
theorem num_t {l : List Nat} (h1 : 1 ≤ (figs l).length) (h2 : (figs l).length ≤ 40) (h3 : (figs l).all isDig = true) (h4 : (figs l).head? = some 48 → l = [48]) : isNumL l = true := by
  unfold isNumL
  rw [h3, decide_eq_true h1, decide_eq_true h2]
  by_cases z : (figs l).head? = some 48
  · obtain rfl : l = [48] := h4 z
    rfl
  · have : ((figs l).head? == some 48) = false := by rw [beq_eq_false_iff_ne]; exact z
    rw [this]; rfl
def numV (w : Str) : V := if isNumL w.cps.toList = true then .int (numL w.cps.toList) else .non
theorem numV_t {w : Str} (h : isNumL w.cps.toList = true) : numV w = .int (numL w.cps.toList) := if_pos h
theorem numV_f {w : Str} (h : isNumL w.cps.toList = false) : numV w = .non := if_neg (by rw [h]; decide)
theorem minus : ("-" : Str) = ⟨#[45]⟩ := by decide +kernel
theorem nought : ("0" : Str) = ⟨#[48]⟩ := by decide +kernel
theorem is_nought (w : Str) : w = (⟨#[48]⟩ : Str) ↔ w.cps.toList = [48] := by
  constructor
  · rintro rfl; rfl
  · intro h; exact str_ext h
theorem cons_of_head {l : List Nat} {c : Nat} (h : l.head? = some c) : ∃ r, l = c :: r := by
  cases l with
  | nil => cases h
  | cons a r => cases h; exact ⟨r, rfl⟩
section
variable {P : Program} {w : World} {K : PySem.W.Frag} {mg : Str → Option Value} {base : Heap} {t : Adr}
def spReadNum : Sp := fun vs H Q _ => ∃ z : Str, vs = [.str z] ∧ z.length ≤ 300000 ∧ ∀ H', Same H H' → Q (numV z) H'
theorem ok_read_number (T : Txt K mg t) : GoodF P w K mg base 1 "read_number" ["word"] spReadNum := by
  obtain ⟨fd, F, b⟩ := T.F_read_number
  refine ⟨_, fd, F.okX sc_read_number (fun vs H Q E h => ?_) (fun cdv A outer s H vs Q E hr h => ?_), b, F.kp, T.g_read_number⟩
  · obtain ⟨z, rfl, _⟩ := h
    rfl
  · obtain ⟨z, rfl, hz, q⟩ := h
    refine ⟨_, (pss_cons (ps_set (i := 1) sc_read_number.nd rfl (Or.inl rfl) (pe_ifExp (pt_val (pe_bm PySem.F.plainAttrs_str PySem.F.slot_str_startswith PySem.F.type_str_startswith mt_startswith (pv 0) (pa_cons pe_str pa_nil))) (pe_slice sl_str (pv 0) (po_some pe_int) po_none) (pv 0)))
      (pss_cons (ps_if (pt_not (pt_chain op_le op_le pe_int (pe_callB call_len_str (by rfl) T.n_len b_len (pa_cons (pv 1) pa_nil)) (pe_glob (v := .int 40) (by rfl) T.g_MOST_FIGURES ⟨_, rfl⟩))) (pss_one (ps_ret pe_non)) pss_nil)
      (pss_cons (ps_if (pt_not (pt_val (pe_callB (call_all_bools rfl) (by rfl) T.n_all b_all (pa_cons (pe_comp (own := ["sign"]) (cs_nil (N := ["word", "figures"]) rfl (by rfl) (by decide +kernel) (by decide +kernel) (by decide +kernel)) (pi_str (pv 1)) (fun _ _ _ _ _ => pg_name (i := 2) (by show (["word", "figures", "sign"] : List Str).Nodup; decide +kernel) rfl (Or.inl rfl)) (fun _ _ _ _ _ => pf_nil) (fun _ _ _ _ _ => (pe_cmpR op_in_str (pv 2) (pe_glob (v := .str "0123456789") (by rfl) T.g_FIGURES ⟨_, rfl⟩) (by with_unfolding_all rfl)))) pa_nil)))) (pss_one (ps_ret pe_non)) pss_nil)
      (pss_cons (ps_if (pw_and (pt_val (pe_bm PySem.F.plainAttrs_str PySem.F.slot_str_startswith PySem.F.type_str_startswith mt_startswith (pv 1) (pa_cons pe_str pa_nil))) (pw_and1 (pt_cmpR op_ne (pv 0) pe_str (nomark _)))).pt (pss_one (ps_ret pe_non)) pss_nil)
      (pss_one (ps_ret (pe_callTy call_int_text (by rfl) T.n_int b_int (pa_cons (pv 0) pa_nil)))))))), ?_⟩
    have h3 : (300000 : Nat) ≤ sizeLine := by decide
    have qn : ∀ H', isNumL z.cps.toList = false → Same H H' → Q .non H' := fun H' e s => numV_f e ▸ q H' s
    refine ⟨_, rfl, rfl, z, "-", rfl, rfl, _, rfl, ?_⟩
    rw [minus, starts_one]
    refine iteD (fun hd => ?g1) fun hd => ?g2
    case' g1 =>
      obtain ⟨r, hr2⟩ := cons_of_head hd
      refine ⟨_, rfl, 1, rfl, z, rfl, Nat.le_trans hz h3, ?_⟩
      have hf : (Txt.slice z (some 1) none).cps.toList = figs z.cps.toList := by rw [slice1 (by rw [hr2]; simp), hr2]; rfl
      have hs : (Txt.slice z (some 1) none).length ≤ 300000 := Nat.le_trans (Txt.slice_le _ _ _) hz
      generalize Txt.slice z (some 1) none = fs at hf hs
    case' g2 =>
      refine ⟨_, rfl, ?_⟩
      have hf : z.cps.toList = figs z.cps.toList := (figs_pos hd).symm
      have hs := hz
    all_goals
      have hn := (len_list _).trans (congrArg List.length hf)
      refine ⟨_, rfl, _, rfl, Nat.le_trans hs h3, 1, _, rfl, rfl, _, rfl, iteD (fun h1 => ⟨_, 40, rfl, rfl, _, rfl, iteNB (fun h40 => qn H (num_f1 fun g => ?_) (Same.refl H)) fun h40 => ?_⟩) fun h1 => ⟨_, rfl, iteT (qn H (num_f1 fun g => ?_) (Same.refl H))⟩⟩
      · simp at h40; omega
      · have h1 : 1 ≤ (figs z.cps.toList).length := by omega
        have h40 : (figs z.cps.toList).length ≤ 40 := by simp at h40; omega
        refine ⟨_, rfl, _, rfl, comp_str (fun _ => true) (fun c => .bl (isDig c)) (Nat.le_trans hs h3) (fun c hc H' Qy Qn s' kY kN => ⟨⟨[some (.str ⟨#[c]⟩)], rfl, rfl⟩, iteT ⟨_, rfl, _, _, rfl, rfl, ?_⟩⟩) fun D H1 hD s1 eD => ?_⟩
        · rw [fig_in]; exact kY rfl H' (Same.refl H')
        · have eD' : H1 D = some (.lst (((figs z.cps.toList).map isDig).map V.bl)) := by
            rw [eD, List.filter_eq_self.mpr (fun _ _ => rfl), List.map_map]
            exact congrArg (fun l : List Nat => some (HO.lst (l.map fun c => V.bl (isDig c)))) hf
          refine ⟨D, (figs z.cps.toList).map isDig, rfl, SqL.of eD', _, rfl, iteNB (fun ha => qn H1 (num_f2 ?_) s1) fun ha => ?_⟩
          · rw [List.all_map] at ha; exact ha
          · have ha : (figs z.cps.toList).all isDig = true := by rw [List.all_map] at ha; exact ha
            refine ⟨_, rfl, rfl, _, _, rfl, rfl, _, rfl, ?_⟩
            rw [nought, starts_one]
            have fin : ((figs z.cps.toList).head? = some 48 → z.cps.toList = [48]) → ∃ z' n, [V.str z] = [V.str z'] ∧ intText? z' = some n ∧ z'.length ≤ 640 ∧ Q (.int n) H1 := fun h4 => by
              have num := num_t h1 h40 ha h4
              have ok := numOk num
              refine ⟨z, _, rfl, int_of ok, ?_, numV_t num ▸ q H1 s1⟩
              have := ok.len
              rw [len_list]; omega
            refine iteD (fun h0 => ⟨_, rfl, rfl, _, rfl, iteNB (fun hn => qn H1 (num_f3 ?_ fun e => ?_) s1) fun he => ⟨_, rfl, fin fun _ => ?_⟩⟩) fun h0 => iteF ⟨_, rfl, fin fun g => absurd ?_ h0⟩
            · exact (congrArg List.head? hf).symm.trans h0
            · exact absurd (congrArg V.str (is_nought z |>.mpr e)) (of_decide_eq_false hn)
            · exact (is_nought z).mp (V.str.inj (of_decide_eq_true he))
            · exact (congrArg List.head? hf).trans g
      · omega
end
end K31
set_option Elab.async false
set_option linter.all false
set_option maxRecDepth 100000
set_option maxHeartbeats 4000000
namespace K31
open PySem L2 Wd
theorem in_non (ws : List Str) : inV .non (ws.map numV) = !ws.all (fun w => isNumL w.cps.toList) := by
  unfold inV
  induction ws with
  | nil => rfl
  | cons a r ih =>
    rw [List.map_cons, List.any_cons, List.all_cons, ih, Bool.not_and]
    congr 1
    cases h : isNumL a.cps.toList with
    | true => rw [numV_t h]; rfl
    | false => rw [numV_f h]; rfl
theorem flat_num (ws : List Str) : (ws.map numV).all flatV = true := by
  rw [List.all_map, List.all_eq_true]
  intro a _
  show flatV (numV a) = true
  unfold numV
  split <;> rfl
theorem all_num {ws : List Str} (h : ws.all (fun w => isNumL w.cps.toList) = true) : ws.map numV = ws.map fun w => V.int (numL w.cps.toList) :=
  List.map_congr_left fun a ha => numV_t (List.all_eq_true.mp h a ha)
def vNum : V → V | .str w => numV w | v => v
section
variable {P : Program} {w : World} {K : PySem.W.Frag} {mg : Str → Option Value} {base : Heap} {t : Adr}
def spReadRow : Sp := fun vs H Q _ => ∃ z w0 ws, vs = [.str z] ∧ z.length ≤ 300000 ∧ Txt.split z " " = w0 :: ws ∧ (ws.all (fun w => isNumL w.cps.toList) = false → ∀ H', Same H H' → Q .non H') ∧
  (ws.all (fun w => isNumL w.cps.toList) = true → ∀ p l H', Same H H' → H' p = some (.tup [.str w0, .ref l]) → H' l = some (.lst (ws.map fun w => .int (numL w.cps.toList))) → Q (.ref p) H')
theorem ok_read_row (T : Txt K mg t) : GoodF P w K mg base 2 "read_row" ["text"] spReadRow := by
  obtain ⟨fd, F, b⟩ := T.F_read_row
  have G_read_number := ok_read_number (P := P) (w := w) (base := base) T
  refine ⟨_, fd, F.okX sc_read_row (fun vs H Q E h => ?_) (fun cdv A outer s H vs Q E hr h => ?_), b, F.kp, T.g_read_row⟩
  · obtain ⟨z, w0, ws, rfl, _⟩ := h
    rfl
  · obtain ⟨z, w0, ws, rfl, hz, hsp, qn, qy⟩ := h
    refine ⟨_, (pss_cons (ps_if (pt_not (pt_val (pe_callB call_isi (by rfl) T.n_isinstance b_isinstance (pa_cons (pv 0) (pa_cons (pe_bltn (v := .ty "str") (by rfl) T.n_str b_str rfl) pa_nil))))) (pss_one (ps_ret pe_non)) pss_nil)
      (pss_cons (ps_set (i := 1) sc_read_row.nd rfl (Or.inl rfl) (pe_bm PySem.F.plainAttrs_str PySem.F.slot_str_split PySem.F.type_str_split mt_split (pv 0) (pa_cons pe_str pa_nil)))
      (pss_cons (ps_setcomp (i := 2) sc_read_row.nd rfl (Or.inl rfl) (own := ["word"]) (cs_nil (N := ["text", "words", "numbers"]) rfl (by rfl) (by decide +kernel) (by decide +kernel) (by decide +kernel)) (pi_list (pe_slice sl_list (pv 1) (po_some pe_int) po_none)) (fun _ _ _ _ _ => pg_name (i := 3) (by show (["text", "words", "numbers", "word"] : List Str).Nodup; decide +kernel) rfl (Or.inl rfl)) (fun _ _ _ _ _ => pf_nil) (fun _ _ _ _ _ => (pe_callG G_read_number (hr.mono (by decide)) passX0 (by rfl) (pa_cons (pv 3) pa_nil))))
      (pss_cons (ps_if (pt_cmpR op_in_seq pe_non (pv 2) (by with_unfolding_all rfl)) (pss_one (ps_ret pe_non)) pss_nil)
      (pss_one (ps_ret (pe_tup (pa_cons (pe_ix ix_list (pv 1) pe_int (fun _ _ => rfl)) (pa_cons (pv 2) pa_nil))))))))), ?_⟩
    have hw : (w0 :: ws).length ≤ 300002 := by rw [← hsp]; exact Nat.le_trans (PyProof.Rows.split_le z " ") (by omega)
    have hz1 : z.length ≤ sizeLine := Nat.le_trans hz (by decide)
    have hw1 : (w0 :: ws).length ≤ sizeLine := Nat.le_trans hw (by decide)
    have hshort : ∀ a ∈ ws, a.length ≤ 300000 := fun a ha => Nat.le_trans (PyProof.Rows.part_short (y := " ") (hsp ▸ List.mem_cons_of_mem _ ha)) hz
    refine ⟨_, rfl, _, _, _, _, _, rfl, .str z, .ty _, rfl, _, rfl, iteF ?_⟩
    refine ⟨_, rfl, rfl, z, " ", rfl, rfl, by decide, hz1, by rw [hsp]; exact hw1, fun p hp => ?_⟩
    rw [hsp]
    refine ⟨_, rfl, _, rfl, p, _, rfl, SqL.of upd_same, fun q hq => ?_⟩
    rw [cut1]
    have sp0 : Same H (upd H p (.lst ((w0 :: ws).map V.str))) := same_new (Same.refl H) hp
    have sq0 := same_new (o := .lst (((w0 :: ws).map V.str).drop 1)) sp0 hq
    have npq : p ≠ q := fun z => by rw [z, upd_same] at hq; cases hq
    refine ⟨q, rfl, ⟨_, SqL.of upd_same⟩, comp_grow (xs := ws.map V.str) (fun _ => true) vNum (SqL.of upd_same) (by rw [List.length_map]; exact Nat.le_trans (Nat.le_succ _) hw1) (fun x hx H' Qy Qn s' kY kN => ?_) fun D H1 hD s1 eD => ?_⟩
    · obtain ⟨a, ha, rfl⟩ := List.mem_map.mp hx
      exact ⟨⟨[some (.str a)], rfl, rfl⟩, iteT ⟨_, rfl, a, rfl, hshort a ha, fun H'' s'' => kY rfl H'' s''⟩⟩
    · have eN : H1 D = some (.lst (ws.map numV)) := by
        rw [eD, List.filter_eq_self.mpr (fun _ _ => rfl), List.map_map]; rfl
      have s2 : Same H H1 := Same.trans sq0 s1
      refine ⟨_, rfl, D, _, rfl, .inl (SqL.of eN), rfl, flat_num ws, _, rfl, ?_⟩
      show (if inV .non (ws.map numV) = true then _ else _)
      rw [in_non]
      refine iteNB (fun hf => qn hf H1 s2) fun ht => ?_
      have ep : H1 p = some (.lst ((w0 :: ws).map V.str)) := s1 _ _ (by rw [upd_ne npq]; exact upd_same)
      refine ⟨_, rfl, p, _, 0, .str w0, rfl, rfl, SqL.of ep, atI_nat (j := 0) rfl, _, rfl, by show 2 ≤ sizeLine; decide, fun r hr => qy ht r D _ (same_new s2 hr) upd_same ?_⟩
      rw [upd_ne (ne_of_none eN hr), eN, all_num ht]
end
end K31
set_option Elab.async false
set_option linter.all false
set_option maxRecDepth 100000
set_option maxHeartbeats 4000000
namespace K31
open PySem L2 Wd
def nsOf (ws : List Str) : List Int := ws.map fun w => numL w.cps.toList
def allN (ws : List Str) : Bool := ws.all fun w => isNumL w.cps.toList
section
variable {P : Program} {w : World} {K : PySem.W.Frag} {mg : Str → Option Value} {base : Heap} {t : Adr}
def spReadLines : Sp := fun vs H Q _ => ∃ z : Str, vs = [.str z] ∧ z.length ≤ 300000 ∧ (PySem.Txt.endswith z "\n" = false → Q .non H) ∧ (PySem.Txt.endswith z "\n" = true → ∀ p H', Same H H' → H' p = some (.lst ((PySem.Txt.split z "\n").dropLast.map V.str)) → Q (.ref p) H')
theorem ok_read_lines (T : Txt K mg t) : GoodF P w K mg base 1 "read_lines" ["text"] spReadLines := by
  obtain ⟨fd, F, b⟩ := T.F_read_lines
  refine ⟨_, fd, F.okX sc_read_lines (fun vs H Q E h => ?_) (fun cdv A outer s H vs Q E hr h => ?_), b, F.kp, T.g_read_lines⟩
  · obtain ⟨z, rfl, _⟩ := h
    rfl
  · obtain ⟨z, rfl, hz, qn, qy⟩ := h
    refine ⟨_, (pss_cons (ps_if (pw_or (pt_not (pt_val (pe_callB call_isi (by rfl) T.n_isinstance b_isinstance (pa_cons (pv 0) (pa_cons (pe_bltn (v := .ty "str") (by rfl) T.n_str b_str rfl) pa_nil))))) (pw_or1 (pt_not (pt_val (pe_bm PySem.F.plainAttrs_str PySem.F.slot_str_endswith PySem.F.type_str_endswith mt_endswith (pv 0) (pa_cons pe_str pa_nil)))))).pt (pss_one (ps_ret pe_non)) pss_nil)
      (pss_one (ps_ret (pe_slice sl_list (pe_bm PySem.F.plainAttrs_str PySem.F.slot_str_split PySem.F.type_str_split mt_split (pv 0) (pa_cons pe_str pa_nil)) po_none (po_some (pe_un un_neg pe_int)))))), ?_⟩
    refine ⟨_, rfl, _, _, _, _, _, rfl, .str z, .ty _, rfl, _, rfl, iteF ?_⟩
    refine ⟨_, rfl, rfl, z, "\n", rfl, rfl, _, rfl, iteNB (fun hf => qn hf) fun ht => ?_⟩
    have hz1 : z.length ≤ sizeLine := Nat.le_trans hz (by decide)
    have hw1 : (PySem.Txt.split z "\n").length ≤ sizeLine := Nat.le_trans (PyProof.Rows.split_le z "\n") (Nat.le_trans (show _ ≤ 300002 by omega) (by decide))
    refine ⟨_, rfl, rfl, z, "\n", rfl, rfl, by decide, hz1, hw1, fun p hp => ?_⟩
    refine ⟨1, rfl, _, rfl, p, _, rfl, SqL.of upd_same, fun q hq => qy ht q _ (same_new (same_new (Same.refl H) hp) hq) ?_⟩
    rw [upd_same, cutLast, List.dropLast_eq_take, List.dropLast_eq_take, List.map_take, List.length_map]
def spReadNumbers (C : Addr) : Sp := fun vs H Q E => ∃ (z wd : Str) (m : Int) (w0 : Str) (ws : List Str), vs = [.str z, .str wd, .int m] ∧ z.length ≤ 300000 ∧ wd.length ≤ 100 ∧ 0 ≤ m ∧ m < 1000 ∧ PySem.Txt.split z " " = w0 :: ws ∧
  (w0 = wd → allN ws = true → (ws.length : Int) = m → ∀ l H', Same H H' → H' l = some (.lst ((nsOf ws).map V.int)) → Q (.ref l) H') ∧ (¬ (w0 = wd ∧ allN ws = true ∧ (ws.length : Int) = m) → ∀ H', Same H H' → E (.ref C) none H')
theorem ok_read_numbers (T : Txt K mg t) : GoodF P w K mg base 3 "read_numbers" ["text", "word", "many"] (spReadNumbers t.c_NoRules) := by
  obtain ⟨fd, F, b⟩ := T.F_read_numbers
  have G_read_row := ok_read_row (P := P) (w := w) (base := base) T
  refine ⟨_, fd, F.okX sc_read_numbers (fun vs H Q E h => ?_) (fun cdv A outer s H vs Q E hr h => ?_), b, F.kp, T.g_read_numbers⟩
  · obtain ⟨z, wd, m, w0, ws, rfl, _⟩ := h
    rfl
  · obtain ⟨z, wd, m, w0, ws, rfl, hz, hwd, hm0, hm1, hsp, kQ, kE⟩ := h
    refine ⟨_, (pss_cons (ps_set (i := 3) sc_read_numbers.nd rfl (Or.inl rfl) (pe_callG G_read_row (hr.mono (by decide)) passes_of (by rfl) (pa_cons (pv 0) pa_nil)))
      (pss_cons (ps_if (pw_or (pt_cmp (pc_isN (pv 3))) (pw_or (pt_cmpR op_ne (pe_ix ix_tup (pv 3) pe_int (fun _ _ => rfl)) (pv 1) (nomark _)) (pw_or1 (pt_cmpR op_ne (pe_callB call_len_seq (by rfl) T.n_len b_len (pa_cons (pe_ix ix_tup (pv 3) pe_int (fun _ _ => rfl)) pa_nil)) (pv 2) (nomark _))))).pt (pss_one (ps_raise throws_of rfl T.e_NoRules rfl (pa_cons (pe_fstr5 (by decide) (by decide) (by decide) (pv 1) (pv 2)) pa_nil))) pss_nil)
      (pss_one (ps_ret (pe_ix ix_tup (pv 3) pe_int (fun _ _ => rfl)))))), ?_⟩
    refine ⟨_, rfl, z, w0, ws, rfl, hz, hsp, fun ha H1 s1 => ?_, fun ha p l H1 s1 ep el => ?_⟩
    · exact ⟨_, rfl, true, rfl, iteT (iteT ⟨_, rfl, .inr ⟨wd, rfl, Nat.le_trans hwd (by decide)⟩, _, rfl, .inl ⟨m, rfl, lg_small hm0 hm1⟩, fun z => ⟨by show 1 ≤ sizeLine; decide, kE (fun g => by rw [show allN ws = false from ha] at g; cases g.2.1) H1 s1⟩⟩)⟩
    · refine ⟨_, rfl, false, rfl, iteF ?_⟩
      refine ⟨_, rfl, p, _, 0, .str w0, rfl, rfl, SqT.of ep, atI_nat (j := 0) rfl, _, rfl, rfl, _, rfl, iteNB (fun hf => iteT ⟨_, rfl, .inr ⟨wd, rfl, Nat.le_trans hwd (by decide)⟩, _, rfl, .inl ⟨m, rfl, lg_small hm0 hm1⟩, fun z => ⟨by show 1 ≤ sizeLine; decide, kE (fun g => of_decide_eq_false hf (congrArg V.str g.1)) H1 s1⟩⟩) fun ht => ?_⟩
      have e0 : w0 = wd := V.str.inj (of_decide_eq_true ht)
      refine ⟨_, rfl, p, _, 1, .ref l, rfl, rfl, SqT.of ep, atI_nat (j := 1) rfl, l, _, rfl, .inl (SqL.of el), _, rfl, rfl, _, rfl, iteNB (fun hf => ⟨_, rfl, .inr ⟨wd, rfl, Nat.le_trans hwd (by decide)⟩, _, rfl, .inl ⟨m, rfl, lg_small hm0 hm1⟩, fun z => ⟨by show 1 ≤ sizeLine; decide, kE (fun g => of_decide_eq_false hf ?_) H1 s1⟩⟩) fun ht2 => ?_⟩
      · rw [List.length_map]; exact congrArg V.int g.2.2
      · have e2 := V.int.inj (of_decide_eq_true ht2)
        rw [List.length_map] at e2
        refine ⟨_, rfl, p, _, 1, .ref l, rfl, rfl, SqT.of ep, atI_nat (j := 1) rfl, kQ e0 ha e2 l H1 s1 ?_⟩
        rw [el]
        unfold nsOf
        rw [List.map_map]; rfl
end
end K31
set_option Elab.async false
set_option linter.all false
set_option maxRecDepth 100000
set_option maxHeartbeats 4000000
namespace K31
open PySem L2 Wd
theorem w_gap : 32 ∉ ("gap" : Str).cps.toList ∧ 10 ∉ ("gap" : Str).cps.toList := by decide +kernel
theorem w_width : 32 ∉ ("width" : Str).cps.toList ∧ 10 ∉ ("width" : Str).cps.toList := by decide +kernel
theorem w_rim : 32 ∉ ("rim" : Str).cps.toList ∧ 10 ∉ ("rim" : Str).cps.toList := by decide +kernel
theorem w_keep : 32 ∉ ("keep" : Str).cps.toList ∧ 10 ∉ ("keep" : Str).cps.toList := by decide +kernel
def Sm (n : Int) : Prop := 0 ≤ n ∧ n < B40
theorem sm_num {n : Int} (h : Sm n) : isNumL (tx n).cps.toList = true ∧ numL (tx n).cps.toList = n := by
  obtain ⟨k, rfl⟩ := Int.eq_ofNat_of_zero_le h.1
  have hB : B40 = 10000000000000000000000000000000000000000 := rfl
  have h2 := h.2
  have hk : k < 10 ^ 40 := by
    rw [show (10 : Nat) ^ 40 = 10000000000000000000000000000000000000000 by decide]; omega
  exact sg_num hk
theorem all_tx {ns : List Int} (h : ∀ n ∈ ns, Sm n) : allN (ns.map tx) = true := List.all_eq_true.mpr fun x hx => by
  obtain ⟨n, hn, rfl⟩ := List.mem_map.mp hx
  exact (sm_num (h n hn)).1
theorem nsOf_tx {ns : List Int} (h : ∀ n ∈ ns, Sm n) : nsOf (ns.map tx) = ns := by
  unfold nsOf
  rw [List.map_map]
  refine (List.map_congr_left fun n hn => ?_).trans (List.map_id' ns)
  exact (sm_num (h n hn)).2
theorem sm_lg {n : Int} (h : Sm n) : Lg n := lg_of (by
  have hB : B40 = 10000000000000000000000000000000000000000 := rfl
  have h2 := h.2
  have h1 := h.1
  rw [show (10 : Nat) ^ 42 = 1000000000000000000000000000000000000000000 by decide]; omega)
structure GR (g w r : Int) (nss : List (List Int)) : Prop where
  g : 0 ≤ g ∧ g ≤ 2
  w : 1 ≤ w ∧ w ≤ 3
  r : 0 ≤ r ∧ r ≤ 1
  k : GoodKs (ivs nss)
theorem GR.len {g w r : Int} {nss : List (List Int)} (h : GR g w r nss) : nss.length ≤ 12 := by have := h.k.1; simpa [ivs] using this
theorem GR.one {g w r : Int} {nss : List (List Int)} (h : GR g w r nss) {ns : List Int} (hn : ns ∈ nss) : ns.length = 5 ∧ ∀ n ∈ ns, Sm n := by
  obtain ⟨x, y, a, b, z, e, h1, h2, h3, h4, h5⟩ := h.k.2 (ns.map V.int) (List.mem_map.mpr ⟨ns, hn, rfl⟩)
  have e2 : ns = [x, y, a, b, z] := (List.map_inj_right (f := V.int) fun x y h => V.int.inj h).mp (show ns.map V.int = [x, y, a, b, z].map V.int from e)
  subst e2
  refine ⟨rfl, fun n hn => ?_⟩
  simp only [List.mem_cons, List.not_mem_nil, or_false] at hn
  rcases hn with rfl | rfl | rfl | rfl | rfl
  · exact h1
  · exact h2
  · exact ⟨by omega, h3.2⟩
  · exact ⟨by omega, h4.2⟩
  · exact h5
theorem GR.lgk {g w r : Int} {nss : List (List Int)} (h : GR g w r nss) : LgK nss := ⟨h.len, fun ns hn => ⟨Nat.le_of_eq (h.one hn).1, fun n hm => sm_lg ((h.one hn).2 n hm)⟩⟩
theorem GR.sg {g w r : Int} {nss : List (List Int)} (h : GR g w r nss) : Sm g ∧ Sm w ∧ Sm r := by
  have hB : B40 = 10000000000000000000000000000000000000000 := rfl
  have h1 := h.g
  have h2 := h.w
  have h3 := h.r
  unfold Sm
  omega
theorem rows_free (g w r : Int) (nss : List (List Int)) : ∀ x ∈ rowsR g w r nss, 10 ∉ x.cps.toList := fun x hx => by
  unfold rowsR at hx
  simp only [List.mem_cons, List.mem_map] at hx
  rcases hx with rfl | rfl | rfl | ⟨ns, _, rfl⟩
  · exact row_free w_gap.2
  · exact row_free w_width.2
  · exact row_free w_rim.2
  · exact row_free w_keep.2
theorem text_len {g w r : Int} {nss : List (List Int)} (h : GR g w r nss) : (textR g w r nss).length ≤ 300000 := by
  have hl : ∀ {w : Str} {ns : List Int}, w.length ≤ 100 → ns.length ≤ 5 → (∀ n ∈ ns, Lg n) → (rowT w ns).length ≤ 10200 := fun {w ns} hw hn hl => by
    unfold rowT
    rw [tjoin]
    have h := StrLaws.join_length_le (" " : Str) (w :: ns.map tx)
    have h1 := StrLaws.sumLen_le (B := 2000) (ns.map tx) fun y hy => by
      obtain ⟨n, hm, rfl⟩ := List.mem_map.mp hy
      exact Nat.le_trans (PyProof.Rows.int_text_len_1921 (hl n hm)) (by decide)
    have e1 : (" " : Str).length = 1 := by decide +kernel
    rw [e1] at h
    simp only [List.map_cons, List.sum_cons, List.length_cons, List.length_map] at h h1
    have : ns.length * 2000 ≤ 5 * 2000 := Nat.mul_le_mul_right _ hn
    omega
  have hs := h.sg
  have hr : ∀ x ∈ rowsR g w r nss, x.length ≤ 10200 := fun x hx => by
    unfold rowsR at hx
    simp only [List.mem_cons, List.mem_map] at hx
    rcases hx with rfl | rfl | rfl | ⟨ns, hns, rfl⟩
    · exact hl (by decide +kernel) (by simp) fun n hn => by rw [List.mem_singleton.mp hn]; exact sm_lg hs.1
    · exact hl (by decide +kernel) (by simp) fun n hn => by rw [List.mem_singleton.mp hn]; exact sm_lg hs.2.1
    · exact hl (by decide +kernel) (by simp) fun n hn => by rw [List.mem_singleton.mp hn]; exact sm_lg hs.2.2
    · exact hl (by decide +kernel) (h.lgk.2 ns hns).1 (h.lgk.2 ns hns).2
  unfold textR
  rw [lines_join, ← nl_is]
  have h0 := StrLaws.join_length_le ("\n" : Str) (rowsR g w r nss ++ [("" : Str)])
  have h1 := StrLaws.sumLen_le (B := 10200) (rowsR g w r nss ++ [("" : Str)]) fun y hy => by
    rcases List.mem_append.mp hy with z | z
    · exact hr y z
    · rw [List.mem_singleton.mp z]; decide +kernel
  have e1 : ("\n" : Str).length = 1 := by decide +kernel
  have hlen : (rowsR g w r nss ++ [("" : Str)]).length ≤ 16 := by
    unfold rowsR
    simp only [List.length_append, List.length_cons, List.length_map, List.length_nil]
    have := h.len
    omega
  rw [e1] at h0
  have : (rowsR g w r nss ++ [("" : Str)]).length * 10200 ≤ 16 * 10200 := Nat.mul_le_mul_right _ hlen
  omega
theorem ivs_take (nss : List (List Int)) (i : Nat) {ns : List Int} (h : nss[i]? = some ns) : ivs (nss.take (i + 1)) = ivs (nss.take i) ++ [ns.map V.int] := by
  unfold ivs
  rw [List.take_add_one, h, List.map_append]; rfl
theorem VT.snoc {H : Hp} {ps : List Addr} {xss : List (List V)} {p : Addr} {xs : List V} (C : VT H ps xss) (h : H p = some (.tup xs)) : VT H (ps ++ [p]) (xss ++ [xs]) := by
  refine ⟨by rw [List.length_append, List.length_append, C.len]; rfl, fun i q ys h1 h2 => ?_⟩
  by_cases hi : i < ps.length
  · rw [List.getElem?_append_left hi] at h1
    rw [List.getElem?_append_left (by rw [← C.len]; exact hi)] at h2
    exact C.at_ i q ys h1 h2
  · rw [List.getElem?_append_right (by omega)] at h1
    rw [List.getElem?_append_right (by rw [← C.len]; omega), ← C.len] at h2
    cases e : i - ps.length with
    | zero => rw [e] at h1 h2; cases h1; cases h2; exact h
    | succ n => rw [e] at h1; cases h1
theorem VT.updL {H : Hp} {ps : List Addr} {xss : List (List V)} {D : Addr} {ys zs : List V} (C : VT H ps xss) (h : H D = some (.lst ys)) : VT (upd H D (.lst zs)) ps xss :=
  ⟨C.len, fun i p xs h1 h2 => by
    have e := C.at_ i p xs h1 h2
    rw [upd_ne (ne_of e h (by intro z; cases z))]; exact e⟩
theorem make_same {H H1 : Hp} {o dx : Addr} {i : HO} (s : Same H H1) (ho : H1 o = none) (hdx : H1 dx = none) : Same H (L2.upd (L2.upd H1 dx (.own o)) o i) := fun b u e => by
  have e1 := s b u e
  rw [upd_ne (ne_of_none e1 ho), upd_ne (ne_of_none e1 hdx)]; exact e1
theorem make_but {H H1 H' : Hp} {o dx : Addr} {i : HO} (s : Same H H1) (ho : H1 o = none) (hdx : H1 dx = none) (k : But o (L2.upd (L2.upd H1 dx (.own o)) o i) H') : Same H H' := fun b u e =>
  k b u (ne_of_none (s b u e) ho) (make_same s ho hdx b u e)
section
variable {P : Program} {w : World} {K : PySem.W.Frag} {mg : Str → Option Value} {base : Heap} {t : Adr}
structure Made (C : Addr) (H H' : Hp) (o l : Addr) (g w r : Int) (nss : List (List Int)) : Prop where
  same : Same H H'
  fo : H o = none
  fl : H l = none
  nlo : l ≠ o
  ob : ∃ dx p ps, H' o = some (.ins C dx (fR (.int g) (.int w) (.int r) (.ref l) (.ref p))) ∧ H' l = some (.lst (ps.map V.ref)) ∧ H' p = some (.tup (ps.map V.ref)) ∧ VT H' ps (ivs nss)
def spReadRules (C : Addr) : Sp := fun vs H Q _ => ∃ (g w r : Int) (nss : List (List Int)), vs = [.str (textR g w r nss)] ∧ GR g w r nss ∧ ∀ o l H', Made C H H' o l g w r nss → Q (.ref o) H'
theorem ok_read_rules (T : Txt K mg t) : GoodF P w K mg base 6 "read_rules" ["text"] (spReadRules t.c_Rules) := by
  obtain ⟨fd, F, b⟩ := T.F_read_rules
  have G_read_lines := ok_read_lines (P := P) (w := w) (base := base) T
  have G_read_numbers := ok_read_numbers (P := P) (w := w) (base := base) T
  have G_Rules := ok_Rules_init (P := P) (w := w) (base := base) T
  refine ⟨_, fd, F.okX sc_read_rules (fun vs H Q E h => ?_) (fun cdv A outer s H vs Q E hr h => ?_), b, F.kp, T.g_read_rules⟩
  · obtain ⟨g, w, r, nss, rfl, _⟩ := h
    rfl
  · obtain ⟨g, w, r, nss, rfl, R, q⟩ := h
    refine ⟨_, (pss_cons (ps_set (i := 1) sc_read_rules.nd rfl (Or.inl rfl) (pe_callG G_read_lines (hr.mono (by decide)) passes_of (by rfl) (pa_cons (pv 0) pa_nil)))
      (pss_cons (ps_if (pw_or (pt_cmp (pc_isN (pv 1))) (pw_or1 (pt_cmpR op_lt (pe_callB call_len_seq (by rfl) T.n_len b_len (pa_cons (pv 1) pa_nil)) pe_int (nomark _)))).pt (pss_one (ps_raise throws_of rfl T.e_NoRules rfl (pa_cons pe_str pa_nil))) pss_nil)
      (pss_cons (ps_set (i := 2) sc_read_rules.nd rfl (Or.inl rfl) (pe_callG G_read_numbers (hr.mono (by decide)) passes_of (by rfl) (pa_cons (pe_ix ix_list (pv 1) pe_int (fun _ _ => rfl)) (pa_cons pe_str (pa_cons pe_int pa_nil)))))
      (pss_cons (ps_set (i := 3) sc_read_rules.nd rfl (Or.inl rfl) (pe_callG G_read_numbers (hr.mono (by decide)) passes_of (by rfl) (pa_cons (pe_ix ix_list (pv 1) pe_int (fun _ _ => rfl)) (pa_cons pe_str (pa_cons pe_int pa_nil)))))
      (pss_cons (ps_set (i := 4) sc_read_rules.nd rfl (Or.inl rfl) (pe_callG G_read_numbers (hr.mono (by decide)) passes_of (by rfl) (pa_cons (pe_ix ix_list (pv 1) pe_int (fun _ _ => rfl)) (pa_cons pe_str (pa_cons pe_int pa_nil)))))
      (pss_cons (ps_setcomp (i := 5) sc_read_rules.nd rfl (Or.inl rfl) (own := ["row"]) (cs_nil (N := ["text", "rows", "gap", "width", "rim", "keeps"]) rfl (by rfl) (by decide +kernel) (by decide +kernel) (by decide +kernel)) (pi_list (pe_slice sl_list (pv 1) (po_some pe_int) po_none)) (fun _ _ _ _ _ => pg_name (i := 6) (by show (["text", "rows", "gap", "width", "rim", "keeps", "row"] : List Str).Nodup; decide +kernel) rfl (Or.inl rfl)) (fun _ _ _ _ _ => pf_nil) (fun _ _ _ _ _ => (pe_callTy (call_tuple_ofK (K := K) rfl) (by rfl) T.n_tuple b_tuple (pa_cons (pe_callG G_read_numbers (hr.mono (by decide)) passX0 (by rfl) (pa_cons (pv 6) (pa_cons pe_str (pa_cons pe_int pa_nil)))) pa_nil))))
      (pss_one (ps_ret (pe_makeG G_Rules (hr.mono (by decide)) passes_of (by rfl) (pa_cons (pe_ix ix_list (pv 2) pe_int (fun _ _ => rfl)) (pa_cons (pe_ix ix_list (pv 3) pe_int (fun _ _ => rfl)) (pa_cons (pe_ix ix_list (pv 4) pe_int (fun _ _ => rfl)) (pa_cons (pv 5) pa_nil))))))))))))), ?_⟩
    have hs := R.sg
    have hsp : (PySem.Txt.split (textR g w r nss) "\n").dropLast = rowsR g w r nss := by
      unfold textR
      rw [lines_split (rows_free g w r nss), List.dropLast_concat]
    refine ⟨_, rfl, _, rfl, text_len R, fun hf => ?_, fun _ p0 H0 s0 e0 => ?_⟩
    · rw [show PySem.Txt.endswith (textR g w r nss) "\n" = true from lines_end (by simp [rowsR])] at hf; cases hf
    · rw [hsp] at e0
      have hl3 : 3 ≤ ((rowsR g w r nss).map V.str).length := by unfold rowsR; simp
      have e0' : H0 p0 = some (.lst (.str (rowT "gap" [g]) :: .str (rowT "width" [w]) :: .str (rowT "rim" [r]) :: vRow nss)) := by
        rw [e0]
        unfold rowsR vRow
        simp
      have lr : ∀ {w : Str} {ns : List Int}, w.length ≤ 100 → ns.length ≤ 5 → (∀ n ∈ ns, Sm n) → (rowT w ns).length ≤ 300000 := fun h1 h2 h3 => Nat.le_trans (row_len h1 h2 fun n hn => sm_lg (h3 n hn)) (by decide)
      have one : ∀ {n : Int}, Sm n → ∀ m ∈ [n], Sm m := fun h m hm => by rw [List.mem_singleton.mp hm]; exact h
      refine ⟨_, rfl, false, rfl, iteF ⟨_, rfl, p0, _, rfl, .inl (SqL.of e0), _, 3, rfl, rfl, _, rfl, iteD (fun hlt => absurd hlt (by omega)) fun _ => ?_⟩⟩
      refine ⟨_, rfl, p0, _, 0, .str (rowT "gap" [g]), rfl, rfl, SqL.of e0', atI_nat (j := 0) rfl, _, "gap", 1, "gap", [g].map tx, rfl, lr (by decide +kernel) (by simp) (one hs.1), by decide +kernel, by decide, by decide, row_split w_gap.1, fun _ _ _ lg H1 s1 eg => ?_, fun n => absurd ⟨rfl, all_tx (one hs.1), rfl⟩ n⟩
      rw [nsOf_tx (one hs.1)] at eg
      refine ⟨_, rfl, p0, _, 1, .str (rowT "width" [w]), rfl, rfl, SqL.of (s1 _ _ e0'), atI_nat (j := 1) rfl, _, "width", 1, "width", [w].map tx, rfl, lr (by decide +kernel) (by simp) (one hs.2.1), by decide +kernel, by decide, by decide, row_split w_width.1, fun _ _ _ lw H2 s2 ew => ?_, fun n => absurd ⟨rfl, all_tx (one hs.2.1), rfl⟩ n⟩
      rw [nsOf_tx (one hs.2.1)] at ew
      refine ⟨_, rfl, p0, _, 2, .str (rowT "rim" [r]), rfl, rfl, SqL.of (s2 _ _ (s1 _ _ e0')), atI_nat (j := 2) rfl, _, "rim", 1, "rim", [r].map tx, rfl, lr (by decide +kernel) (by simp) (one hs.2.2), by decide +kernel, by decide, by decide, row_split w_rim.1, fun _ _ _ li H3 s3 er => ?_, fun n => absurd ⟨rfl, all_tx (one hs.2.2), rfl⟩ n⟩
      rw [nsOf_tx (one hs.2.2)] at er
      have s03 : Same H H3 := Same.trans s0 (Same.trans s1 (Same.trans s2 s3))
      have eg3 := s3 _ _ (s2 _ _ eg)
      have ew3 := s3 _ _ ew
      refine ⟨_, rfl, 3, rfl, p0, _, rfl, SqL.of (s3 _ _ (s2 _ _ (s1 _ _ e0'))), fun q1 hq1 => ?_⟩
      rw [show (some (3 : Int)) = some ((3 : Nat) : Int) from rfl, cutN]
      have s4 := same_new (o := .lst (vRow nss)) (Same.refl H3) hq1
      have e4 : upd H3 q1 (.lst (vRow nss)) q1 = some (.lst (vRow nss)) := upd_same
      have e40 : upd H3 q1 (.lst (List.drop 3 (V.str (rowT "gap" [g]) :: .str (rowT "width" [w]) :: .str (rowT "rim" [r]) :: vRow nss))) = upd H3 q1 (.lst (vRow nss)) := rfl
      rw [e40]
      generalize upd H3 q1 (.lst (vRow nss)) = H4 at s4 e4
      refine ⟨q1, rfl, ⟨_, SqL.of e4⟩, comp_list (xs := vRow nss) (fun D i ys H' => ∃ ps : List Addr, ys = ps.map V.ref ∧ ps.length = i ∧ Same H4 H' ∧ H' D = some (.lst ys) ∧ VT H' ps (ivs (nss.take i)) ∧ H4 D = none) ?_ ?_ ?_ ?_ ?_⟩
      · unfold vRow
        rw [List.length_map]
        exact Nat.le_trans R.len (by decide)
      · exact fun D hD => ⟨[], rfl, rfl, same_new (Same.refl H4) hD, upd_same, ⟨rfl, fun i p xs h _ => by cases h⟩, hD⟩
      · rintro D i ys H' ⟨ps, rfl, hl, sm, eD, C, nD⟩
        exact ⟨eD, by rw [List.length_map, hl]; exact Nat.le_refl _, SqL.of (sm _ _ e4)⟩
      · rintro D i x ys H' Qy Qn hx ⟨ps, rfl, hl, sm, eD, C, nD⟩ kY kN
        unfold vRow at hx
        rw [List.getElem?_map] at hx
        obtain ⟨ns, hns, rfl⟩ := Option.map_eq_some_iff.mp hx
        have hmem := List.mem_of_getElem? hns
        obtain ⟨h5, hsm⟩ := R.one hmem
        refine ⟨⟨[some (.str (rowT "keep" ns))], rfl, rfl⟩, iteT ⟨_, rfl, _, "keep", 5, "keep", ns.map tx, rfl, lr (by decide +kernel) (Nat.le_of_eq h5) hsm, by decide +kernel, by decide, by decide, row_split w_keep.1, fun _ _ _ l H5 s5 e5 => ⟨l, _, rfl, .inl ⟨SqL.of e5, fun p hp => kY (.ref p) _ ?_ ?_⟩⟩, fun n => absurd ⟨rfl, all_tx hsm, by rw [List.length_map, h5]; rfl⟩ n⟩⟩
        · have := s5 _ _ eD
          rw [upd_ne (ne_of_none this hp)]; exact this
        · rw [nsOf_tx hsm]
          have s6 : Same H' (upd H5 p (.tup (ns.map V.int))) := same_new s5 hp
          have e6 : upd H5 p (.tup (ns.map V.int)) p = some (.tup (ns.map V.int)) := upd_same
          have eD6 := s6 _ _ eD
          generalize upd H5 p (.tup (ns.map V.int)) = H6 at s6 e6 eD6
          refine ⟨ps ++ [p], by rw [List.map_append]; rfl, by rw [List.length_append, hl]; rfl, fun c u e => ?_, upd_same, ?_, nD⟩
          · rw [upd_ne (ne_of_none e nD)]; exact s6 _ _ (sm _ _ e)
          · rw [ivs_take nss i hns]
            exact ((C.same s6).snoc e6).updL eD6
      · rintro D ys H' nD ⟨ps, rfl, hl, sm, eD, C, _⟩
        have hvl : (vRow nss).length = nss.length := by unfold vRow; rw [List.length_map]
        rw [hvl, List.take_length] at C
        have sH : Same H3 H' := Same.trans s4 sm
        refine ⟨_, rfl, lg, _, 0, .int g, rfl, rfl, SqL.of (sH _ _ eg3), atI_nat (j := 0) rfl, _, rfl, lw, _, 0, .int w, rfl, rfl, SqL.of (sH _ _ ew3), atI_nat (j := 0) rfl, _, rfl, li, _, 0, .int r, rfl, rfl, SqL.of (sH _ _ er), atI_nat (j := 0) rfl, _, rfl, ?_⟩
        intro o dx ho hdx hne
        have sm' : Same H' (upd (upd H' dx (.own o)) o (.ins t.c_Rules dx [])) := make_same (Same.refl H') ho hdx
        refine ⟨o, dx, .int g, .int w, .int r, D, ps, ivs nss, rfl, upd_same, sm' _ _ eD, C.same sm', fun xs hxs => ?_, rfl, rfl, rfl, fun _ _ _ _ l p H6 k hl hp nlo el ep eo => ⟨rfl, q o l H6 ⟨?_, ?_, ?_, nlo, dx, p, ps, eo, el, ep, ?_⟩⟩, fun n => absurd ⟨⟨g, rfl, R.g⟩, ⟨w, rfl, R.w⟩, ⟨r, rfl, R.r⟩, R.k⟩ n⟩
        · obtain ⟨ns, _, rfl⟩ := List.mem_map.mp hxs
          rw [List.all_map]
          exact List.all_eq_true.mpr fun _ _ => rfl
        · exact make_but (Same.trans s03 sH) ho hdx k
        · exact (Same.trans s03 sH).free ho
        · rw [upd_ne nlo] at hl
          have ndx : l ≠ dx := fun z => by rw [z, upd_same] at hl; cases hl
          rw [upd_ne ndx] at hl
          exact (Same.trans s03 sH).free hl
        · exact C.same (make_but (Same.refl H') ho hdx k)
end
end K31
set_option Elab.async false
set_option linter.all false
set_option maxRecDepth 100000
set_option maxHeartbeats 4000000
namespace K31
open PySem L2 Wd
theorem row_list (w : Str) (ns : List Int) : (rowT w ns).cps.toList = jl 32 (w.cps.toList :: ns.map fun n => (tx n).cps.toList) := by
  unfold rowT
  rw [tjoin, blank_is, join_toList, List.map_cons, List.map_map]; rfl
theorem row_one (w : Str) (n : Int) : (rowT w [n]).cps.toList = w.cps.toList ++ 32 :: (tx n).cps.toList := row_list w [n]
theorem row_keep {ns : List Int} (h : ns ≠ []) : ("keep " : Str) ++ PySem.Txt.join " " (ns.map tx) = rowT "keep" ns := by
  apply str_ext
  rw [row_list, app_list, tjoin, blank_is, join_toList, List.map_map]
  cases ns with
  | nil => exact absurd rfl h
  | cons a r =>
    have e : ("keep " : Str).cps.toList = ("keep" : Str).cps.toList ++ [32] := by decide +kernel
    rw [e, List.append_assoc]; rfl
theorem lines_snoc (rows : List Str) (x : Str) : linesT (rows ++ [x]) = linesT rows ++ x ++ ("\n" : Str) := by
  apply str_ext
  rw [app_list, app_list, lines_list, lines_list, List.flatMap_append, List.flatMap_singleton, nl_is, List.append_assoc]
theorem text0 (g w r : Int) : ("gap " : Str) ++ tx g ++ ("\nwidth " : Str) ++ tx w ++ ("\nrim " : Str) ++ tx r ++ ("\n" : Str) = textR g w r [] := by
  apply str_ext
  unfold textR rowsR
  rw [lines_list]
  have e1 : ("gap " : Str).cps.toList = ("gap" : Str).cps.toList ++ [32] := by decide +kernel
  have e2 : ("\nwidth " : Str).cps.toList = 10 :: ("width" : Str).cps.toList ++ [32] := by decide +kernel
  have e3 : ("\nrim " : Str).cps.toList = 10 :: ("rim" : Str).cps.toList ++ [32] := by decide +kernel
  simp only [app_list, List.flatMap_cons, List.map_nil, List.flatMap_nil, row_one, e1, e2, e3, nl_is, List.append_assoc, List.cons_append, List.nil_append, List.append_nil]
theorem textS (g w r : Int) {nss : List (List Int)} {i : Nat} {ns : List Int} (h : nss[i]? = some ns) (hne : ns ≠ []) : textR g w r (nss.take i) ++ ("keep " : Str) ++ PySem.Txt.join " " (ns.map tx) ++ ("\n" : Str) = textR g w r (nss.take (i + 1)) := by
  unfold textR
  have e : rowsR g w r (nss.take (i + 1)) = rowsR g w r (nss.take i) ++ [rowT "keep" ns] := by
    unfold rowsR
    rw [List.take_add_one, h, List.map_append]; rfl
  rw [e, lines_snoc, ← row_keep hne]
  apply str_ext
  simp only [app_list, List.append_assoc]
theorem GR.take {g w r : Int} {nss : List (List Int)} (h : GR g w r nss) (i : Nat) : GR g w r (nss.take i) := ⟨h.g, h.w, h.r, by
  refine ⟨?_, fun xs hx => ?_⟩
  · unfold ivs
    rw [List.length_map, List.length_take]
    have := h.len
    omega
  · obtain ⟨ns, hn, rfl⟩ := List.mem_map.mp hx
    exact h.k.2 _ (List.mem_map.mpr ⟨ns, List.mem_of_mem_take hn, rfl⟩)⟩
section
variable {P : Program} {w : World} {K : PySem.W.Frag} {mg : Str → Option Value} {base : Heap} {t : Adr}
def spNumber : Sp := fun vs H Q _ => ∃ (a : Addr) (k : Int), vs = [.ref a, .int k] ∧ Well H a ∧ 0 ≤ k ∧ k ≤ 1 ∧ ∀ z H', k ≤ z → z < B40 → Well H' a → Keep a H H' → Q (.int z) H'
theorem ok_law_number (T : Txt K mg t) : GoodF P w K mg base 4 "_law_number" ["_law_well_here", "_law_least"] spNumber := by
  obtain ⟨fd, F, b⟩ := T.F_law_number
  have G_law_draw := ok_law_draw (P := P) (w := w) (base := base) T
  refine ⟨_, fd, F.okX sc_law_number (fun vs H Q E h => ?_) (fun cdv A outer s H vs Q E hr h => ?_), b, F.kp, T.g__law_number⟩
  · obtain ⟨a, k, rfl, _⟩ := h
    rfl
  · obtain ⟨a, k, rfl, W, k0, k1, q⟩ := h
    refine ⟨_, (pss_cons (ps_set (i := 2) sc_law_number.nd rfl (Or.inl rfl) (pe_op op_sub (pe_op op_sub (pe_op op_pow pe_int pe_int) pe_int) (pe_callG G_law_draw (hr.mono (by decide)) passes_of (by rfl) (pa_cons (pv 0) (pa_cons pe_int pa_nil)))))
      (pss_one (ps_ret (pe_ix ix_list (pe_lst (pa_cons (pe_op op_add (pv 1) (pe_callG G_law_draw (hr.mono (by decide)) passes_of (by rfl) (pa_cons (pv 0) (pa_cons pe_int pa_nil)))) (pa_cons (pv 2) pa_nil))) (pe_op op_fdiv (pe_callG G_law_draw (hr.mono (by decide)) passes_of (by rfl) (pa_cons (pv 0) (pa_cons pe_int pa_nil))) pe_int) (fun _ _ => rfl))))), ?_⟩
    have hB : B40 = 10000000000000000000000000000000000000000 := rfl
    refine ⟨10, 40, rfl, rfl, ⟨by decide, by decide, by decide⟩, _, 1, rfl, rfl, _, rfl, a, 9, rfl, W, by decide, by decide, fun r1 H1 a1 b1 W1 K1 => ⟨_, r1, rfl, rfl, ?_⟩⟩
    refine ⟨_, rfl, _, rfl, a, 15, rfl, W1, by decide, by decide, fun r2 H2 a2 b2 W2 K2 => ⟨k, r2, rfl, rfl, _, rfl, (by show 2 ≤ sizeLine; decide), fun p hp => ?_⟩⟩
    refine ⟨_, rfl, a, 8, rfl, W2.new hp, by decide, by decide, fun r4 H4 a4 b4 W4 K4 => ⟨r4, 7, rfl, rfl, ⟨by decide, by decide⟩, ?_⟩⟩
    have e4 : H4 p = some (.lst [.int (k + r2), .int ((10 : Int) ^ (40 : Int).toNat - 1 - r1)]) := K4 p _ (Ne.symm (W2.ne hp)) upd_same
    have KK : Keep a H H4 := ((K1.trans K2).new hp).trans K4
    rcases (by omega : r4 / 7 = 0 ∨ r4 / 7 = 1) with h | h
    · exact ⟨p, _, 0, .int (k + r2), rfl, congrArg V.int h, SqL.of e4, atI_nat (j := 0) rfl, q _ _ (by omega) (by omega) W4 KK⟩
    · refine ⟨p, _, 1, .int ((10 : Int) ^ (40 : Int).toNat - 1 - r1), rfl, congrArg V.int h, SqL.of e4, atI_nat (j := 1) rfl, q _ _ ?_ ?_ W4 KK⟩
      · rw [pow40]; omega
      · rw [pow40]; omega
theorem VT.tups {H : Hp} {ps : List Addr} {nss : List (List Int)} (C : VT H ps (ivs nss)) : Tups K H ps nss := ⟨by rw [C.len]; simp [ivs], fun i p ns h1 h2 => SqT.of (C.at_ i p _ h1 (by unfold ivs; rw [List.getElem?_map, h2]; rfl))⟩
def spRight (C : Addr) : Sp := fun vs H Q _ => ∃ (o dx l p a : Addr) (ps qs ks : List Addr) (g w r : Int) (nss : List (List Int)), vs = [.ref o, .int g, .int w, .int r, .ref a] ∧ H o = some (.ins C dx (fR (.int g) (.int w) (.int r) (.ref l) (.ref p))) ∧ H l = some (.lst (qs.map V.ref)) ∧ VT H qs (ivs nss) ∧ H p = some (.tup (ps.map V.ref)) ∧ VT H ps (ivs nss) ∧
  H a = some (.lst (ks.map V.ref)) ∧ VT H ks (ivs nss) ∧ GR g w r nss ∧ ∀ H', Same H H' → Q (.bl true) H'
theorem ok_law_right (T : Txt K mg t) : GoodF P w K mg base 4 "_law_right" ["_law_rules", "_law_gap", "_law_width", "_law_rim", "_law_keeps"] (spRight t.c_Rules) := by
  obtain ⟨fd, F, b⟩ := T.F_law_right
  have G_Rules_told := ok_Rules_told (P := P) (w := w) (base := base) T
  refine ⟨_, fd, F.okX sc_law_right (fun vs H Q E h => ?_) (fun cdv A outer s H vs Q E hr h => ?_), b, F.kp, T.g__law_right⟩
  · obtain ⟨o, dx, l, p, a, ps, qs, ks, g, w, r, nss, rfl, _⟩ := h
    rfl
  · obtain ⟨o, dx, l, p, a, ps, qs, ks, g, w, r, nss, rfl, ho, hl, Cq, hp, Cp, ha, Ck, R, q⟩ := h
    refine ⟨_, (pss_cons (ps_if (pw_or (pt_cmpR (op_neT hr.units0) (pe_tup (pa_cons (pe_fld (pv 0) rfl) (pa_cons (pe_fld (pv 0) rfl) (pa_cons (pe_fld (pv 0) rfl) pa_nil)))) (pe_tup (pa_cons (pv 1) (pa_cons (pv 2) (pa_cons (pv 3) pa_nil)))) (nomark _)) (pw_or1 (pt_cmpR (op_neLT hr.units) (pe_fld (pv 0) rfl) (pv 4) (nomark _)))).pt (pss_one (ps_ret pe_bl)) pss_nil)
      (pss_cons (ps_if (pw_or (pt_not (pt_val (pe_callB call_isi (by rfl) T.n_isinstance b_isinstance (pa_cons (pe_fld (pv 0) rfl) (pa_cons (pe_bltn (v := .ty "list") (by rfl) T.n_list b_list rfl) pa_nil))))) (pw_or1 (pt_cmpR (op_ne_nil hr.units0) (pe_comp (own := ["_law_one"]) (cs_nil (N := ["_law_rules", "_law_gap", "_law_width", "_law_rim", "_law_keeps", "_law_text", "_law_keep"]) rfl (by rfl) (by decide +kernel) (by decide +kernel) (by decide +kernel)) (pi_list (pe_fld (pv 0) rfl)) (fun _ _ _ _ _ => pg_name (i := 7) (by show (["_law_rules", "_law_gap", "_law_width", "_law_rim", "_law_keeps", "_law_text", "_law_keep", "_law_one"] : List Str).Nodup; decide +kernel) rfl (Or.inl rfl)) (fun _ _ _ _ _ => pf_one (pt_not (pt_val (pe_callB (call_isiK (K := K) rfl) (by rfl) T.n_isinstance b_isinstance (pa_cons (pv 7) (pa_cons (pe_bltn (v := .ty "tuple") (by rfl) T.n_tuple b_tuple rfl) pa_nil)))))) (fun _ _ _ _ _ => (pv 7))) (pe_lst pa_nil) (nomark _)))).pt (pss_one (ps_ret pe_bl)) pss_nil)
      (pss_cons (ps_set (i := 5) sc_law_right.nd rfl (Or.inl rfl) (pe_op op_add_str (pe_op op_add_str (pe_op op_add_str (pe_op op_add_str (pe_op op_add_str (pe_op op_add_str pe_str (pe_callTy call_str_int (by rfl) T.n_str b_str (pa_cons (pv 1) pa_nil))) pe_str) (pe_callTy call_str_int (by rfl) T.n_str b_str (pa_cons (pv 2) pa_nil))) pe_str) (pe_callTy call_str_int (by rfl) T.n_str b_str (pa_cons (pv 3) pa_nil))) pe_str))
      (pss_cons (ps_for owns_of (pi_list (pv 4)) (pg_name (i := 6) sc_law_right.nd rfl (Or.inl rfl)) (pss_one (ps_set (i := 5) sc_law_right.nd rfl (Or.inl rfl) (pe_op op_add_str (pe_op op_add_str (pe_op op_add_str (pv 5) pe_str) (pe_bm PySem.F.plainAttrs_str PySem.F.slot_str_join PySem.F.type_str_join mt_join pe_str (pa_cons (pe_comp (own := ["_law_number_here"]) (cs_nil (N := ["_law_rules", "_law_gap", "_law_width", "_law_rim", "_law_keeps", "_law_text", "_law_keep"]) rfl (by rfl) (by decide +kernel) (by decide +kernel) (by decide +kernel)) (pi_tup (pv 6)) (fun _ _ _ _ _ => pg_name (i := 7) (by show (["_law_rules", "_law_gap", "_law_width", "_law_rim", "_law_keeps", "_law_text", "_law_keep", "_law_number_here"] : List Str).Nodup; decide +kernel) rfl (Or.inl rfl)) (fun _ _ _ _ _ => pf_nil) (fun _ _ _ _ _ => (pe_callTy call_str_int (by rfl) T.n_str b_str (pa_cons (pv 7) pa_nil)))) pa_nil))) pe_str))))
      (pss_one (ps_ret (pe_cmpR op_eq (pe_meth0G (m0_of G_Rules_told (hr.mono (by decide)) passes_of) (pv 0)) (pv 5) (nomark _)))))))), ?_⟩
    refine ⟨_, rfl, o, _, dx, _, .int g, rfl, ho, T.cl_Rules, T.na_Rules_gap, by kernel_rfl, ?_⟩
    refine ⟨_, rfl, o, _, dx, _, .int w, rfl, ho, T.cl_Rules, T.na_Rules_width, by kernel_rfl, ?_⟩
    refine ⟨_, rfl, o, _, dx, _, .int r, rfl, ho, T.cl_Rules, T.na_Rules_rim, by kernel_rfl, (by show 3 ≤ sizeLine; decide), fun t1 ht1 => ?_⟩
    have s1 := same_new (o := .tup [.int g, .int w, .int r]) (Same.refl H) ht1
    have e1 : upd H t1 (.tup [.int g, .int w, .int r]) t1 = some (.tup [.int g, .int w, .int r]) := upd_same
    generalize upd H t1 (.tup [.int g, .int w, .int r]) = H1 at s1 e1
    refine ⟨_, rfl, _, rfl, _, rfl, (by show 3 ≤ sizeLine; decide), fun t2 ht2 => ?_⟩
    have s2 := same_new (o := .tup [.int g, .int w, .int r]) s1 ht2
    have e2 : upd H1 t2 (.tup [.int g, .int w, .int r]) t2 = some (.tup [.int g, .int w, .int r]) := upd_same
    have e12 : upd H1 t2 (.tup [.int g, .int w, .int r]) t1 = some (.tup [.int g, .int w, .int r]) := (upd_ne (ne_of_none e1 ht2)).trans e1
    generalize upd H1 t2 (.tup [.int g, .int w, .int r]) = H2 at s2 e2 e12
    refine ⟨t1, t2, [g, w, r], [g, w, r], rfl, rfl, SqT.of e12, SqT.of e2, _, rfl, iteNS rfl ?_⟩
    refine ⟨_, rfl, o, _, dx, _, .ref l, rfl, s2 _ _ ho, T.cl_Rules, T.na_Rules_keeps, by kernel_rfl, ?_⟩
    refine ⟨_, rfl, l, a, qs, ks, nss, nss, rfl, rfl, SqL.of (s2 _ _ hl), SqL.of (s2 _ _ ha), (Cq.same s2).tups, (Ck.same s2).tups, _, rfl, ?_⟩
    rw [decide_eq_true rfl]
    refine iteF ?_
    refine ⟨_, rfl, o, _, dx, _, .ref l, rfl, s2 _ _ ho, T.cl_Rules, T.na_Rules_keeps, by kernel_rfl, .ref l, .ty "list", _, _, true, rfl, .lst (s2 _ _ hl), .ty _, by kernel_rfl, true, rfl, iteF ?_⟩
    have hq12 : qs.length ≤ 12 := by have := R.len; rw [Cq.len]; simpa [ivs] using this
    refine ⟨_, rfl, o, _, dx, _, .ref l, rfl, s2 _ _ ho, T.cl_Rules, T.na_Rules_keeps, by kernel_rfl, l, rfl, ⟨_, SqL.of (s2 _ _ hl)⟩, comp_grow (xs := qs.map V.ref) (fun _ => false) (fun v => v) (SqL.of (s2 _ _ hl)) (by rw [List.length_map]; exact Nat.le_trans hq12 (by decide)) (fun x hx H' Qy Qn s' _ hn => ?_) fun D H3 hD s3 eD => ?_⟩
    · obtain ⟨pp, hm, rfl⟩ := List.mem_map.mp hx
      obtain ⟨i, hi, rfl⟩ := List.getElem_of_mem hm
      obtain ⟨ns, e, hns, ht⟩ := Cq.get (List.getElem?_eq_getElem hi)
      exact ⟨⟨[some (.ref qs[i])], rfl, rfl⟩, _, rfl, .ref qs[i], .ty "tuple", _, _, true, rfl, .tup (s' _ _ (s2 _ _ ht)), .ty _, by kernel_rfl, true, rfl, hn rfl H' (Same.refl H')⟩
    · rw [List.filter_eq_nil_iff.mpr (fun a _ => Bool.false_ne_true)] at eD
      refine ⟨Nat.zero_le _, fun n1 hn1 => ⟨D, n1, [], rfl, rfl, SqL.of ((upd_ne (ne_of_none eD hn1)).trans eD), SqL.of upd_same, _, rfl, iteF ?_⟩⟩
      have s4 : Same H (upd H3 n1 (.lst [])) := same_new (Same.trans s2 s3) hn1
      generalize upd H3 n1 (.lst []) = H4 at s4
      have hs := R.sg
      have lt : ∀ {n : Int}, Sm n → (tx n).length ≤ 1921 := fun h => PyProof.Rows.int_text_len_1921 (sm_lg h)
      have l1 := lt hs.1
      have l2 := lt hs.2.1
      have l3 := lt hs.2.2
      have k1 : ("gap " : Str).length = 4 := by decide +kernel
      have k2 : ("\nwidth " : Str).length = 7 := by decide +kernel
      have k3 : ("\nrim " : Str).length = 5 := by decide +kernel
      have k4 : ("\n" : Str).length = 1 := by decide +kernel
      have k5 : ("keep " : Str).length = 5 := by decide +kernel
      have hz : (400000 : Nat) ≤ sizeLine := by decide
      have la : ∀ x y : Str, (x ++ y).length = x.length + y.length := fun x y => PySem.Str.length_append x y
      have b1 : ("gap " : Str).length + (tx g).length ≤ sizeLine := by omega
      have b2 : (("gap " : Str) ++ tx g).length + ("\nwidth " : Str).length ≤ sizeLine := by rw [la]; omega
      have b3 : (("gap " : Str) ++ tx g ++ ("\nwidth " : Str)).length + (tx w).length ≤ sizeLine := by rw [la, la]; omega
      have b4 : (("gap " : Str) ++ tx g ++ ("\nwidth " : Str) ++ tx w).length + ("\nrim " : Str).length ≤ sizeLine := by rw [la, la, la]; omega
      have b5 : (("gap " : Str) ++ tx g ++ ("\nwidth " : Str) ++ tx w ++ ("\nrim " : Str)).length + (tx r).length ≤ sizeLine := by rw [la, la, la, la]; omega
      have b6 : (("gap " : Str) ++ tx g ++ ("\nwidth " : Str) ++ tx w ++ ("\nrim " : Str) ++ tx r).length + ("\n" : Str).length ≤ sizeLine := by rw [la, la, la, la, la]; omega
      refine ⟨_, rfl, g, rfl, sm_lg hs.1, _, _, rfl, rfl, b1, _, _, rfl, rfl, b2, _, rfl, w, rfl, sm_lg hs.2.1, _, _, rfl, rfl, b3, _, _, rfl, rfl, b4, _, rfl, r, rfl, sm_lg hs.2.2, _, _, rfl, rfl, b5, _, _, rfl, rfl, b6, ?_⟩
      have hk12 : ks.length = nss.length := by rw [Ck.len]; simp [ivs]
      refine ⟨_, rfl, a, rfl, ⟨_, SqL.of (s4 _ _ ha)⟩, for_list (xs := ks.map V.ref) (fun i σ H' => ∃ v, σ = [some (.ref o), some (.int g), some (.int w), some (.int r), some (.ref a), some (.str (textR g w r (nss.take i))), v] ∧ Same H H') ⟨none, by rw [List.take_zero, ← text0]; rfl, s4⟩ (fun i σ H' _ ⟨_, _, sm⟩ => SqL.of (sm _ _ ha)) ?_ ?_⟩
      · rintro i x σ H' hx ⟨v, rfl, sm⟩
        rw [List.getElem?_map] at hx
        obtain ⟨pp, hpp, rfl⟩ := Option.map_eq_some_iff.mp hx
        obtain ⟨ns, hns, hmem, ht⟩ := Ck.get hpp
        obtain ⟨h5, hsm⟩ := R.one hmem
        have hne : ns ≠ [] := fun z => by rw [z] at h5; cases h5
        have tl := text_len (R.take i)
        have ht' := sm _ _ ht
        have hz5 : (ns.map V.int).length ≤ sizeLine := by rw [List.length_map, h5]; decide
        have hjs := StrLaws.sumLen_le (B := 1921) (ns.map tx) fun y hy => by
          obtain ⟨n, hm, rfl⟩ := List.mem_map.mp hy
          exact lt (hsm n hm)
        rw [List.length_map, h5] at hjs
        have hj := StrLaws.join_length_le (" " : Str) (ns.map tx)
        have kb : (" " : Str).length = 1 := by decide +kernel
        rw [kb, List.length_map, h5] at hj
        have c1 : (textR g w r (nss.take i)).length + ("keep " : Str).length ≤ sizeLine := by omega
        have c2 : (textR g w r (nss.take i) ++ ("keep " : Str)).length + (PySem.Txt.join " " (ns.map tx)).length ≤ sizeLine := by rw [la, tjoin]; omega
        have c3 : (textR g w r (nss.take i) ++ ("keep " : Str) ++ PySem.Txt.join " " (ns.map tx)).length + ("\n" : Str).length ≤ sizeLine := by rw [la, la, tjoin]; omega
        refine ⟨_, rfl, _, _, rfl, rfl, c1, rfl, _, rfl, pp, rfl, ⟨_, SqT.of ht'⟩, comp_growT (xs := ns.map V.int) (fun _ => true) vTx (SqT.of ht') hz5 (fun x hx H6 Qy Qn _ hy _ => ?_) fun D H5 _ s5 eD => ?_⟩
        · obtain ⟨n, hn, rfl⟩ := List.mem_map.mp hx
          exact ⟨⟨[some (.int n)], rfl, rfl⟩, iteT ⟨_, rfl, n, rfl, sm_lg (hsm n hn), hy rfl H6 (Same.refl H6)⟩⟩
        · have e : ((ns.map V.int).filter fun _ => true).map vTx = (ns.map tx).map V.str := by
            rw [List.filter_eq_self.mpr (fun _ _ => rfl), List.map_map, List.map_map]; rfl
          rw [e] at eD
          refine ⟨" ", D, ns.map tx, rfl, rfl, SqL.of eD, ?_, _, _, rfl, rfl, c2, _, _, rfl, rfl, c3, some (.ref pp), ?_, Same.trans sm s5⟩
          · rw [kb, List.length_map, h5]; omega
          · rw [← textS g w r hns hne]; rfl
      · rintro σ H' ⟨v, rfl, sm⟩
        rw [List.length_map, hk12, List.take_length]
        refine ⟨_, rfl, o, dx, _, rfl, sm _ _ ho, by kernel_rfl, o, dx, g, w, r, .ref l, p, ps, nss, rfl, sm _ _ ho, sm _ _ hp, Cp.same sm, sm_lg hs.1, sm_lg hs.2.1, sm_lg hs.2.2, R.lgk, fun H7 s7 => ⟨_, rfl, rfl, ?_⟩⟩
        rw [decide_eq_true rfl]
        exact q _ (Same.trans sm s7)
end
end K31
set_option Elab.async false
set_option linter.all false
set_option maxRecDepth 100000
set_option maxHeartbeats 4000000
namespace K31
open PySem L2 Wd
theorem same_well {H H1 H2 : Hp} {p : Addr} {o : HO} (s : Same H H1) (hp : H1 p = none) (k : Keep p (upd H1 p o) H2) : Same H H2 := fun c u e => by
  have e1 := s c u e
  have nc := ne_of_none e1 hp
  exact k c u nc (by rw [upd_ne nc]; exact e1)
def lo5 (j : Nat) : Int := if j = 2 ∨ j = 3 then 1 else 0
def Ok5 (ns : List Int) : Prop := ∀ (m : Nat) (z : Int), ns[m]? = some z → lo5 m ≤ z ∧ z < B40
theorem Ok5.good {ns : List Int} (h : Ok5 ns) (hl : ns.length = 5) : GoodK (ns.map V.int) := by
  match ns, hl with
  | [x, y, w, hh, z], _ =>
    have h0 := h 0 x rfl
    have h1 := h 1 y rfl
    have h2 := h 2 w rfl
    have h3 := h 3 hh rfl
    have h4 := h 4 z rfl
    have l0 : lo5 0 = 0 := by decide
    have l1 : lo5 1 = 0 := by decide
    have l2 : lo5 2 = 1 := by decide
    have l3 : lo5 3 = 1 := by decide
    have l4 : lo5 4 = 0 := by decide
    exact ⟨x, y, w, hh, z, rfl, by omega, by omega, by omega, by omega, by omega⟩
theorem Ok5.snoc {ns : List Int} {z : Int} (h : Ok5 ns) (h1 : lo5 ns.length ≤ z) (h2 : z < B40) : Ok5 (ns ++ [z]) := fun m y e => by
  by_cases hm : m < ns.length
  · rw [List.getElem?_append_left hm] at e
    exact h m y e
  · rw [List.getElem?_append_right (by omega)] at e
    cases q : m - ns.length with
    | zero =>
      rw [q] at e; cases e
      obtain rfl : m = ns.length := by omega
      exact ⟨h1, h2⟩
    | succ k => rw [q] at e; cases e
theorem at5 {j : Nat} (h : j < 5) : atI [V.int 0, .int 0, .int 1, .int 1, .int 0] (0 + (j : Int)) = some (.int (lo5 j)) := by
  match j, h with
  | 0, _ => rfl
  | 1, _ => rfl
  | 2, _ => rfl
  | 3, _ => rfl
  | 4, _ => rfl
theorem lo5_b (j : Nat) : 0 ≤ lo5 j ∧ lo5 j ≤ 1 := by
  unfold lo5; split <;> decide
theorem Well.at_ {H : Hp} {a b : Addr} {o : HO} (W : Well H a) (n : a ≠ b) : Well (L2.upd H b o) a := by
  obtain ⟨m, c, j, e⟩ := W
  exact ⟨m, c, j, by rw [upd_ne n]; exact e⟩
structure Kept (C : Addr) (H : Hp) (o dx kl kp l : Addr) (ks qs : List Addr) (g w r : Int) (nss : List (List Int)) : Prop where
  ho : H o = some (.ins C dx (fR (.int g) (.int w) (.int r) (.ref kl) (.ref kp)))
  hkl : H kl = some (.lst (qs.map V.ref))
  hkp : H kp = some (.tup (qs.map V.ref))
  hl : H l = some (.lst (ks.map V.ref))
  Ck : VT H ks (ivs nss)
  Cq : VT H qs (ivs nss)
section
variable {C : Addr} {H H' : Hp} {o dx kl kp l : Addr} {ks qs : List Addr} {g w r : Int} {nss : List (List Int)}
theorem Kept.same (k : Kept C H o dx kl kp l ks qs g w r nss) (s : Same H H') : Kept C H' o dx kl kp l ks qs g w r nss := ⟨s _ _ k.ho, s _ _ k.hkl, s _ _ k.hkp, s _ _ k.hl, k.Ck.same s, k.Cq.same s⟩
theorem Kept.app {b : Addr} {ys zs : List V} (k : Kept C H o dx kl kp l ks qs g w r nss) (e : H b = some (.lst ys)) (n1 : b ≠ kl) (n2 : b ≠ l) : Kept C (L2.upd H b (.lst zs)) o dx kl kp l ks qs g w r nss :=
  ⟨(upd_ne (ne_of k.ho e (by intro z; cases z))).trans k.ho, (upd_ne (Ne.symm n1)).trans k.hkl, (upd_ne (ne_of k.hkp e (by intro z; cases z))).trans k.hkp, (upd_ne (Ne.symm n2)).trans k.hl, k.Ck.updL e, k.Cq.updL e⟩
end
theorem GR.mk' {g w r : Int} {nss : List (List Int)} (h1 : 0 ≤ g ∧ g ≤ 2) (h2 : 1 ≤ w ∧ w ≤ 3) (h3 : 0 ≤ r ∧ r ≤ 1) (h4 : nss.length ≤ 12) (h5 : ∀ ns ∈ nss, ns.length = 5 ∧ Ok5 ns) : GR g w r nss := ⟨h1, h2, h3, by unfold ivs; rw [List.length_map]; exact h4, fun xs hx => by
  obtain ⟨ns, hn, rfl⟩ := List.mem_map.mp hx
  exact (h5 ns hn).2.good (h5 ns hn).1⟩
theorem isN_ivs (nss : List (List Int)) : ∀ xs ∈ ivs nss, xs.all isN = true := fun xs hxs => by
  obtain ⟨ns, _, rfl⟩ := List.mem_map.mp hxs
  rw [List.all_map]
  exact List.all_eq_true.mpr fun _ _ => rfl
theorem ok12345 : Ok5 [1, 2, 3, 4, 5] := fun m z e => by
  have hB : B40 = 10000000000000000000000000000000000000000 := rfl
  match m, e with
  | 0, e => cases e; exact ⟨by decide, by omega⟩
  | 1, e => cases e; exact ⟨by decide, by omega⟩
  | 2, e => cases e; exact ⟨by decide, by omega⟩
  | 3, e => cases e; exact ⟨by decide, by omega⟩
  | 4, e => cases e; exact ⟨by decide, by omega⟩
section
variable {P : Program} {w : World} {K : PySem.W.Frag} {mg : Str → Option Value} {base : Heap} {t : Adr}
def spLaw (K : PySem.W.Frag) : Sp := fun vs H Q _ => ∃ (a : Addr) (ns : List Int), vs = [.ref a] ∧ SqL K H a (ns.map V.int) ∧ ns.length ≤ 63 ∧ ∀ H', Q (.bl true) H'
theorem law_fn (T : Txt K mg t) : ∃ fd : FuncData, (∀ (s : Shared) (u : Value), BindsTo s fd ⟨[u], []⟩ [("_law_script", u)]) ∧ ∀ base : Heap, K.In base → base.Ns mainGlobals mg → FnOk P w K mg base (XC P w) 8 t.f_law fd ["_law_script"] (spLaw K) := by
  obtain ⟨fd, F, b⟩ := T.F_law
  refine ⟨fd, b, fun base _ _ => ?_⟩
  have G_law_well := ok_law_well (P := P) (w := w) (base := base) T
  have G_law_draw := ok_law_draw (P := P) (w := w) (base := base) T
  have G_law_number := ok_law_number (P := P) (w := w) (base := base) T
  have G_law_right := ok_law_right (P := P) (w := w) (base := base) T
  have G_read_rules := ok_read_rules (P := P) (w := w) (base := base) T
  have G_Rules := ok_Rules_init (P := P) (w := w) (base := base) T
  have G_Rules_told := ok_Rules_told (P := P) (w := w) (base := base) T
  refine F.okX sc_law (fun vs H Q E h => ?_) (fun cdv A outer s H vs Q E hr h => ?_)
  · obtain ⟨a, ns, rfl, _⟩ := h
    rfl
  · obtain ⟨a, ns, rfl, hS, hlen, q⟩ := h
    refine ⟨_, (pss_cons (ps_set (i := 1) sc_law.nd rfl (Or.inr rfl) (pe_callG G_law_well (hr.mono (by decide)) passes_of (by rfl) (pa_cons (pv 0) (pa_cons pe_int pa_nil))))
      (pss_cons (ps_set (i := 2) sc_law.nd rfl (Or.inl rfl) (pe_callG G_law_draw (hr.mono (by decide)) passes_of (by rfl) (pa_cons (pv 1) (pa_cons pe_int pa_nil))))
      (pss_cons (ps_set (i := 3) sc_law.nd rfl (Or.inl rfl) (pe_op op_add pe_int (pe_callG G_law_draw (hr.mono (by decide)) passes_of (by rfl) (pa_cons (pv 1) (pa_cons pe_int pa_nil)))))
      (pss_cons (ps_set (i := 4) sc_law.nd rfl (Or.inl rfl) (pe_callG G_law_draw (hr.mono (by decide)) passes_of (by rfl) (pa_cons (pv 1) (pa_cons pe_int pa_nil))))
      (pss_cons (ps_set (i := 5) sc_law.nd rfl (Or.inl rfl) (pe_lst pa_nil))
      (pss_cons (ps_for owns_of (pi_range1 rfl T.n_range (pa_cons (pe_callG G_law_draw (hr.mono (by decide)) passes_of (by rfl) (pa_cons (pv 1) (pa_cons pe_int pa_nil))) pa_nil)) (pg_name (i := 6) sc_law.nd rfl (Or.inl rfl)) (pss_one (ps_expr (pe_bm PySem.F.plainAttrs_list PySem.F.slot_list_append PySem.F.type_list_append mt_append (pv 5) (pa_cons (pe_callTy call_tuple_of (by rfl) T.n_tuple b_tuple (pa_cons (pe_comp (own := ["_law_j"]) (cs_one (n := "_law_well_here") (N := ["_law_script", "_law_well_here", "_law_gap", "_law_width", "_law_rim", "_law_keeps", "_law_k", "_law_handed", "_law_rules", "_law_again", "_law_other"]) rfl (by rfl) (by rfl) rfl (by rfl) (by decide +kernel) (by decide +kernel) (by decide +kernel)) (pi_range1 rfl T.n_range (pa_cons pe_int pa_nil)) (fun _ _ _ _ _ => pg_name (i := 11) (by show (["_law_script", "_law_well_here", "_law_gap", "_law_width", "_law_rim", "_law_keeps", "_law_k", "_law_handed", "_law_rules", "_law_again", "_law_other", "_law_j"] : List Str).Nodup; decide +kernel) rfl (Or.inl rfl)) (fun _ _ _ _ _ => pf_nil) (fun _ _ _ _ _ => (pe_callG G_law_number (hr.mono (by decide)) passX0 (by rfl) (pa_cons (pv 1) (pa_cons (pe_ix (ix_listK (K := K) rfl) (pe_lst (pa_cons pe_int (pa_cons pe_int (pa_cons pe_int (pa_cons pe_int (pa_cons pe_int pa_nil)))))) (pv 11) (fun _ _ => rfl)) pa_nil))))) pa_nil)) pa_nil)))))
      (pss_cons (ps_set (i := 7) sc_law.nd rfl (Or.inl rfl) (pe_callTy call_list_of (by rfl) T.n_list b_list (pa_cons (pv 5) pa_nil)))
      (pss_cons (ps_set (i := 8) sc_law.nd rfl (Or.inl rfl) (pe_makeG G_Rules (hr.mono (by decide)) passes_of (by rfl) (pa_cons (pv 2) (pa_cons (pv 3) (pa_cons (pv 4) (pa_cons (pv 7) pa_nil))))))
      (pss_cons (ps_expr (pe_bm PySem.F.plainAttrs_list PySem.F.slot_list_append PySem.F.type_list_append mt_append (pv 7) (pa_cons (pe_tup (pa_cons pe_int (pa_cons pe_int (pa_cons pe_int (pa_cons pe_int (pa_cons pe_int pa_nil)))))) pa_nil)))
      (pss_cons (ps_if (pt_not (pt_val (pe_callG G_law_right (hr.mono (by decide)) passes_of (by rfl) (pa_cons (pv 8) (pa_cons (pv 2) (pa_cons (pv 3) (pa_cons (pv 4) (pa_cons (pv 5) pa_nil)))))))) (pss_one (ps_ret pe_bl)) pss_nil)
      (pss_cons (ps_set (i := 9) sc_law.nd rfl (Or.inl rfl) (pe_callG G_read_rules (hr.mono (by decide)) passes_of (by rfl) (pa_cons (pe_meth0G (m0_of G_Rules_told (hr.mono (by decide)) passes_of) (pv 8)) pa_nil)))
      (pss_cons (ps_if (pw_or (pt_not (pt_val (pe_callB call_isi (by rfl) T.n_isinstance b_isinstance (pa_cons (pv 9) (pa_cons (pe_glob (v := .ref t.c_Rules) (by rfl) T.g_Rules rfl) pa_nil))))) (pw_or1 (pt_not (pt_val (pe_callG G_law_right (hr.mono (by decide)) passes_of (by rfl) (pa_cons (pv 9) (pa_cons (pv 2) (pa_cons (pv 3) (pa_cons (pv 4) (pa_cons (pv 5) pa_nil)))))))))).pt (pss_one (ps_ret pe_bl)) pss_nil)
      (pss_cons (ps_expr (pe_bm PySem.F.plainAttrs_list PySem.F.slot_list_append PySem.F.type_list_append mt_append (pe_fld (pv 9) rfl) (pa_cons (pe_tup (pa_cons pe_int (pa_cons pe_int (pa_cons pe_int (pa_cons pe_int (pa_cons pe_int pa_nil)))))) pa_nil)))
      (pss_cons (ps_set (i := 10) sc_law.nd rfl (Or.inl rfl) (pe_makeG G_Rules (hr.mono (by decide)) passes_of (by rfl) (pa_cons (pe_op op_sub pe_int (pv 2)) (pa_cons (pe_op op_sub pe_int (pv 3)) (pa_cons (pe_op op_sub pe_int (pv 4)) (pa_cons (pe_lst (pa_cons (pe_tup (pa_cons pe_int (pa_cons pe_int (pa_cons pe_int (pa_cons pe_int (pa_cons pe_int pa_nil)))))) pa_nil)) pa_nil))))))
      (pss_cons (ps_if (pt_not (pt_val (pe_callG G_law_right (hr.mono (by decide)) passes_of (by rfl) (pa_cons (pv 10) (pa_cons (pe_op op_sub pe_int (pv 2)) (pa_cons (pe_op op_sub pe_int (pv 3)) (pa_cons (pe_op op_sub pe_int (pv 4)) (pa_cons (pe_lst (pa_cons (pe_tup (pa_cons pe_int (pa_cons pe_int (pa_cons pe_int (pa_cons pe_int (pa_cons pe_int pa_nil)))))) pa_nil)) pa_nil)))))))) (pss_one (ps_ret pe_bl)) pss_nil)
      (pss_one (ps_ret (pe_and (pe_callG G_law_right (hr.mono (by decide)) passes_of (by rfl) (pa_cons (pv 8) (pa_cons (pv 2) (pa_cons (pv 3) (pa_cons (pv 4) (pa_cons (pv 5) pa_nil)))))) (pe_one (pe_callG G_law_right (hr.mono (by decide)) passes_of (by rfl) (pa_cons (pe_callG G_read_rules (hr.mono (by decide)) passes_of (by rfl) (pa_cons (pe_meth0G (m0_of G_Rules_told (hr.mono (by decide)) passes_of) (pv 8)) pa_nil)) (pa_cons (pv 2) (pa_cons (pv 3) (pa_cons (pv 4) (pa_cons (pv 5) pa_nil))))))))))))))))))))))))), ?_⟩
    refine ⟨_, rfl, a, ns, 1, rfl, hS, by decide, by decide, hlen, fun p m c hp => ?_⟩
    have W0 : Well (upd H p (.lst [.int m, .int c, .int 0])) p := ⟨m, c, 0, upd_same⟩
    have K0 : Keep p H (upd H p (.lst [.int m, .int c, .int 0])) := Keep.upd _
    generalize upd H p (.lst [.int m, .int c, .int 0]) = H0 at W0 K0
    refine ⟨_, rfl, p, 3, rfl, W0, by decide, by decide, fun g H1 g0 g1 W1 K1 => ?_⟩
    refine ⟨_, rfl, p, 3, rfl, W1, by decide, by decide, fun w' H2 w0 w1 W2 K2 => ⟨1, w', rfl, rfl, ?_⟩⟩
    refine ⟨_, rfl, p, 2, rfl, W2, by decide, by decide, fun r H3 r0 r1 W3 K3 => ?_⟩
    refine ⟨Nat.zero_le _, fun l hl => ?_⟩
    have K4 : Keep p H (upd H3 l (.lst [])) := (((K0.trans K1).trans K2).trans K3).new hl
    have W4 := W3.new (o := .lst []) hl
    have el : upd H3 l (.lst []) l = some (.lst []) := upd_same
    have nlp : l ≠ p := Ne.symm (W3.ne hl)
    generalize upd H3 l (.lst []) = H4 at K4 W4 el
    refine ⟨_, rfl, p, 13, rfl, W4, by decide, by decide, fun n H5 n0 n1 W5 K5 => ⟨n, rfl, by omega, by omega, for_range (lo := 0) (n := n.toNat) (fun i σ H' => ∃ (v : Option V) (ks : List Addr) (nss : List (List Int)), σ = [some (.ref a), some (.ref p), some (.int g), some (.int (1 + w')), some (.int r), some (.ref l), v, none, none, none, none] ∧
      H' l = some (.lst (ks.map V.ref)) ∧ VT H' ks (ivs nss) ∧ nss.length = i ∧ (∀ ns ∈ nss, ns.length = 5 ∧ Ok5 ns) ∧ Well H' p) ⟨none, [], [], rfl, K5 l _ nlp el, ⟨rfl, fun i p xs h _ => by cases h⟩, rfl, (fun _ h => nomatch h), W5⟩ ?_ ?_⟩⟩
    · rintro i σ H' hi ⟨v, ks, nss, rfl, el', Ck, hn, ok, W'⟩
      have hkl : ks.length = i := by rw [Ck.len]; simp [ivs, hn]
      refine ⟨_, rfl, .inl ⟨rfl, _, SqL.of el'⟩, 5, rfl, by decide, by decide, comp_range (lo := 0) (n := (5 : Int).toNat) (fun D j ys H'' => ∃ ns : List Int, ys = ns.map V.int ∧ ns.length = j ∧ Ok5 ns ∧ H'' D = some (.lst ys) ∧ Well H'' p ∧ Keep p H' H'' ∧ H' D = none) (by decide) ?_ ?_ ?_ ?_⟩
      · exact fun D hD => ⟨[], rfl, rfl, (fun m z e => by cases e), upd_same, W'.new hD, (Keep.refl p H').new hD, hD⟩
      · rintro D j ys H'' ⟨ns, rfl, hl, _, eD, _⟩
        exact ⟨eD, by rw [List.length_map, hl]⟩
      · rintro D j ys H'' Qy Qn hj ⟨ns, rfl, hl, ok', eD, W2, K2, nD⟩ kY
        have nDp : p ≠ D := W'.ne nD
        refine ⟨⟨[some (.int (0 + j))], rfl, rfl⟩, iteT ⟨_, rfl, (by show 5 ≤ sizeLine; decide), fun q1 hq1 => ⟨_, rfl, q1, _, _, .int (lo5 j), rfl, rfl, SqL.of upd_same, at5 hj, p, lo5 j, rfl, W2.new hq1, (lo5_b j).1, (lo5_b j).2, fun z H3 z0 z1 W3 K3 => ?_⟩⟩⟩
        have eD3 : H3 D = some (.lst (ns.map V.int)) := K3 D _ (Ne.symm nDp) (by rw [upd_ne (ne_of_none eD hq1)]; exact eD)
        refine kY (.int z) H3 eD3 ⟨ns ++ [z], by rw [List.map_append]; rfl, by rw [List.length_append, hl]; rfl, ok'.snoc (hl ▸ z0) z1, upd_same, W3.at_ nDp, fun b u nb e => ?_, nD⟩
        rw [upd_ne (ne_of_none e nD)]
        exact ((K2.new hq1).trans K3) b u nb e
      · rintro D ys H'' _ ⟨ns, rfl, hl, ok', eD, W2, K2, nD⟩
        refine ⟨D, _, rfl, .inl ⟨SqL.of eD, fun q2 hq2 => ?_⟩⟩
        have el2 := K2 l _ nlp el'
        have C2 : VT H'' ks (ivs nss) := ⟨Ck.len, fun i pp xs h1 h2 => by
          have e := Ck.at_ i pp xs h1 h2
          refine K2 pp _ (fun z => ?_) e
          obtain ⟨m, c, j, e2⟩ := W'
          rw [z, e2] at e; cases e⟩
        have s3 : Same H'' (upd H'' q2 (.tup (ns.map V.int))) := same_new (Same.refl _) hq2
        have e3 : upd H'' q2 (.tup (ns.map V.int)) q2 = some (.tup (ns.map V.int)) := upd_same
        have W3' := W2.new (o := .tup (ns.map V.int)) hq2
        generalize upd H'' q2 (.tup (ns.map V.int)) = H3' at s3 e3 W3'
        refine ⟨l, ks.map V.ref, .ref q2, rfl, rfl, s3 _ _ el2, ?_, _, ks ++ [q2], nss ++ [ns], rfl, ?_, ?_, by rw [List.length_append, hn]; rfl, fun x hx => ?_, W3'.at_ (Ne.symm nlp)⟩
        · rw [List.length_map, hkl]
          exact Nat.lt_of_lt_of_le (show i < 13 by omega) (by decide)
        · rw [upd_same, List.map_append]; rfl
        · have e5 : ivs (nss ++ [ns]) = ivs nss ++ [ns.map V.int] := by unfold ivs; rw [List.map_append]; rfl
          rw [e5]
          exact ((C2.same s3).snoc e3).updL (s3 _ _ el2)
        · rcases List.mem_append.mp hx with z | z
          · exact ok x z
          · rw [List.mem_singleton.mp z]; exact ⟨hl, ok'⟩
    · rintro σ H' ⟨v, ks, nss, rfl, el', Ck, hn, ok, W'⟩
      have R : GR g (1 + w') r nss := GR.mk' (by omega) (by omega) (by omega) (by omega) ok
      refine ⟨_, rfl, l, _, rfl, .inl (SqL.of el'), fun h hh => ?_⟩
      have s6 : Same H' (upd H' h (.lst (ks.map V.ref))) := same_new (Same.refl _) hh
      have e6 : upd H' h (.lst (ks.map V.ref)) h = some (.lst (ks.map V.ref)) := upd_same
      have nlh : l ≠ h := ne_of_none el' hh
      generalize upd H' h (.lst (ks.map V.ref)) = H6 at s6 e6
      refine ⟨_, rfl, _, rfl, _, rfl, _, rfl, ?_⟩
      intro o dx ho hdx hne
      have sm' : Same H6 (upd (upd H6 dx (.own o)) o (.ins t.c_Rules dx [])) := make_same (Same.refl H6) ho hdx
      refine ⟨o, dx, .int g, .int (1 + w'), .int r, h, ks, ivs nss, rfl, upd_same, sm' _ _ e6, (Ck.same s6).same sm', isN_ivs nss, rfl, rfl, rfl, fun _ _ _ _ kl kp H7 k hkl _ _ ekl ekp eo => ⟨rfl, ?_⟩, fun n => absurd ⟨⟨g, rfl, R.g⟩, ⟨_, rfl, R.w⟩, ⟨r, rfl, R.r⟩, R.k⟩ n⟩
      have s7 : Same H6 H7 := make_but (Same.refl H6) ho hdx k
      have nhk : h ≠ kl := ne_of_none (sm' _ _ e6) hkl
      have Kp7 : Kept t.c_Rules H7 o dx kl kp l ks ks g (1 + w') r nss := ⟨eo, ekl, ekp, s7 _ _ (s6 _ _ el'), (Ck.same s6).same s7, (Ck.same s6).same s7⟩
      have hk13 : (ks.map V.ref).length < sizeLine := by
        rw [List.length_map, Ck.len]
        have : (ivs nss).length < 13 := by unfold ivs; rw [List.length_map]; omega
        exact Nat.lt_of_lt_of_le this (by decide)
      refine ⟨_, rfl, .inl ⟨rfl, _, SqL.of (s7 _ _ e6)⟩, (by show 5 ≤ sizeLine; decide), fun tp htp => ?_⟩
      have Kp8 := Kp7.same (same_new (o := .tup [.int 0, .int 0, .int 1, .int 1, .int 0]) (Same.refl H7) htp)
      have eh8 := same_new (o := .tup [.int 0, .int 0, .int 1, .int 1, .int 0]) (Same.refl H7) htp _ _ (s7 _ _ e6)
      generalize upd H7 tp (.tup [.int 0, .int 0, .int 1, .int 1, .int 0]) = H8 at Kp8 eh8
      refine ⟨h, _, .ref tp, rfl, rfl, eh8, hk13, ?_⟩
      have Kp9 := Kp8.app (zs := ks.map V.ref ++ [.ref tp]) eh8 nhk (Ne.symm nlh)
      generalize upd H8 h (.lst (ks.map V.ref ++ [.ref tp])) = H9 at Kp9
      refine ⟨_, rfl, _, rfl, _, rfl, _, rfl, _, rfl, o, dx, kl, kp, l, ks, ks, ks, g, 1 + w', r, nss, rfl, Kp9.ho, Kp9.hkl, Kp9.Cq, Kp9.hkp, Kp9.Cq, Kp9.hl, Kp9.Ck, R, fun H10 s10 => ⟨true, rfl, iteF ?_⟩⟩
      have Kp10 := Kp9.same s10
      have hs := R.sg
      refine ⟨_, rfl, o, dx, _, rfl, Kp10.ho, by kernel_rfl, o, dx, g, 1 + w', r, .ref kl, kp, ks, nss, rfl, Kp10.ho, Kp10.hkp, Kp10.Cq, sm_lg hs.1, sm_lg hs.2.1, sm_lg hs.2.2, R.lgk, fun H11 s11 => ?_⟩
      have Kp11 := Kp10.same s11
      refine ⟨g, 1 + w', r, nss, rfl, R, fun o2 l2 H12 M => ?_⟩
      have Kp12 := Kp11.same M.same
      obtain ⟨dx2, p2, ps2, eo2, el2, ep2, C2⟩ := M.ob
      refine ⟨_, rfl, .ref o2, .ref t.c_Rules, _, _, true, rfl, T.ty_Rules _ _ _ _ eo2, .ref _, T.ki_Rules_Rules, true, rfl, iteF ?_⟩
      refine ⟨_, rfl, _, rfl, _, rfl, _, rfl, _, rfl, o2, dx2, l2, p2, l, ps2, ps2, ks, g, 1 + w', r, nss, rfl, eo2, el2, C2, ep2, C2, Kp12.hl, Kp12.Ck, R, fun H13 s13 => ⟨true, rfl, iteF ?_⟩⟩
      have Kp13 := Kp12.same s13
      have el13 := s13 _ _ el2
      refine ⟨_, rfl, o2, _, dx2, _, .ref l2, rfl, s13 _ _ eo2, T.cl_Rules, T.na_Rules_keeps, by kernel_rfl, .inl ⟨rfl, _, SqL.of el13⟩, (by show 5 ≤ sizeLine; decide), fun tq htq => ?_⟩
      have Kp14 := Kp13.same (same_new (o := .tup [.int 0, .int 0, .int 1, .int 1, .int 0]) (Same.refl H13) htq)
      have el14 := same_new (o := .tup [.int 0, .int 0, .int 1, .int 1, .int 0]) (Same.refl H13) htq _ _ el13
      generalize upd H13 tq (.tup [.int 0, .int 0, .int 1, .int 1, .int 0]) = H14 at Kp14 el14
      have hp13 : (ps2.map V.ref).length < sizeLine := by
        rw [List.length_map, C2.len]
        have : (ivs nss).length < 13 := by unfold ivs; rw [List.length_map]; omega
        exact Nat.lt_of_lt_of_le this (by decide)
      refine ⟨l2, _, .ref tq, rfl, rfl, el14, hp13, ?_⟩
      have Kp15 := Kp14.app (zs := ps2.map V.ref ++ [.ref tq]) el14 (Ne.symm (ne_of_none Kp11.hkl M.fl)) (Ne.symm (ne_of_none Kp11.hl M.fl))
      generalize upd H14 l2 (.lst (ps2.map V.ref ++ [.ref tq])) = H15 at Kp15
      refine ⟨_, rfl, _, _, rfl, rfl, _, rfl, _, _, rfl, rfl, _, rfl, _, _, rfl, rfl, (by show 5 ≤ sizeLine; decide), fun tr htr => ⟨(by show 1 ≤ sizeLine; decide), fun lr hlr => ?_⟩⟩
      have s15 := same_new (o := .lst [.ref tr]) (same_new (o := .tup [.int 1, .int 2, .int 3, .int 4, .int 5]) (Same.refl H15) htr) hlr
      have e15 : upd (upd H15 tr (.tup [.int 1, .int 2, .int 3, .int 4, .int 5])) lr (.lst [.ref tr]) lr = some (.lst [.ref tr]) := upd_same
      have t15 : upd (upd H15 tr (.tup [.int 1, .int 2, .int 3, .int 4, .int 5])) lr (.lst [.ref tr]) tr = some (.tup [.int 1, .int 2, .int 3, .int 4, .int 5]) := by
        rw [upd_ne (ne_of_none (upd_same (H := H15) (a := tr)) hlr)]; exact upd_same
      generalize upd (upd H15 tr (.tup [.int 1, .int 2, .int 3, .int 4, .int 5])) lr (.lst [.ref tr]) = H16 at s15 e15 t15
      have Kp16 := Kp15.same s15
      have R3 : GR (2 - g) (4 - (1 + w')) (1 - r) [[1, 2, 3, 4, 5]] := GR.mk' (by omega) (by omega) (by omega) (by decide) fun x hx => by rw [List.mem_singleton.mp hx]; exact ⟨rfl, ok12345⟩
      have one : ∀ {H : Hp} {q : Addr}, H q = some (.tup [.int 1, .int 2, .int 3, .int 4, .int 5]) → VT H [q] (ivs [[1, 2, 3, 4, 5]]) := fun e => ⟨rfl, fun i p xs h1 h2 => by
        cases i with
        | zero => cases h1; cases h2; exact e
        | succ i => cases h1⟩
      intro o3 dx3 ho3 hdx3 hne3
      have sm3 : Same H16 (upd (upd H16 dx3 (.own o3)) o3 (.ins t.c_Rules dx3 [])) := make_same (Same.refl H16) ho3 hdx3
      refine ⟨o3, dx3, .int (2 - g), .int (4 - (1 + w')), .int (1 - r), lr, [tr], ivs [[1, 2, 3, 4, 5]], rfl, upd_same, sm3 _ _ e15, one (sm3 _ _ t15), isN_ivs _, rfl, rfl, rfl, fun _ _ _ _ kl3 kp3 H17 k3 _ _ _ ekl3 ekp3 eo3 => ⟨rfl, ?_⟩, fun n => absurd ⟨⟨_, rfl, R3.g⟩, ⟨_, rfl, R3.w⟩, ⟨_, rfl, R3.r⟩, R3.k⟩ n⟩
      have s17 : Same H16 H17 := make_but (Same.refl H16) ho3 hdx3 k3
      have Kp17 := Kp16.same s17
      have t17 := s17 _ _ t15
      refine ⟨_, rfl, _, rfl, _, _, rfl, rfl, _, rfl, _, _, rfl, rfl, _, rfl, _, _, rfl, rfl, (by show 5 ≤ sizeLine; decide), fun tu htu => ⟨(by show 1 ≤ sizeLine; decide), fun lu hlu => ?_⟩⟩
      have s18 := same_new (o := .lst [.ref tu]) (same_new (o := .tup [.int 1, .int 2, .int 3, .int 4, .int 5]) (Same.refl H17) htu) hlu
      have e18 : upd (upd H17 tu (.tup [.int 1, .int 2, .int 3, .int 4, .int 5])) lu (.lst [.ref tu]) lu = some (.lst [.ref tu]) := upd_same
      have t18 : upd (upd H17 tu (.tup [.int 1, .int 2, .int 3, .int 4, .int 5])) lu (.lst [.ref tu]) tu = some (.tup [.int 1, .int 2, .int 3, .int 4, .int 5]) := by
        rw [upd_ne (ne_of_none (upd_same (H := H17) (a := tu)) hlu)]; exact upd_same
      generalize upd (upd H17 tu (.tup [.int 1, .int 2, .int 3, .int 4, .int 5])) lu (.lst [.ref tu]) = H18 at s18 e18 t18
      have Kp18 := Kp17.same s18
      refine ⟨o3, dx3, kl3, kp3, lu, [tr], [tr], [tu], 2 - g, 4 - (1 + w'), 1 - r, [[1, 2, 3, 4, 5]], rfl, s18 _ _ eo3, s18 _ _ ekl3, one (s18 _ _ t17), s18 _ _ ekp3, one (s18 _ _ t17), e18, one t18, R3, fun H19 s19 => ⟨true, rfl, iteF ?_⟩⟩
      have Kp19 := Kp18.same s19
      refine ⟨_, rfl, _, rfl, _, rfl, _, rfl, _, rfl, o, dx, kl, kp, l, ks, ks, ks, g, 1 + w', r, nss, rfl, Kp19.ho, Kp19.hkl, Kp19.Cq, Kp19.hkp, Kp19.Cq, Kp19.hl, Kp19.Ck, R, fun H20 s20 => ⟨true, rfl, iteT ?_⟩⟩
      have Kp20 := Kp19.same s20
      refine ⟨_, rfl, o, dx, _, rfl, Kp20.ho, by kernel_rfl, o, dx, g, 1 + w', r, .ref kl, kp, ks, nss, rfl, Kp20.ho, Kp20.hkp, Kp20.Cq, sm_lg hs.1, sm_lg hs.2.1, sm_lg hs.2.2, R.lgk, fun H21 s21 => ?_⟩
      have Kp21 := Kp20.same s21
      refine ⟨g, 1 + w', r, nss, rfl, R, fun o4 l4 H22 M4 => ?_⟩
      have Kp22 := Kp21.same M4.same
      obtain ⟨dx4, p4, ps4, eo4, el4, ep4, C4⟩ := M4.ob
      exact ⟨_, rfl, _, rfl, _, rfl, _, rfl, o4, dx4, l4, p4, l, ps4, ps4, ks, g, 1 + w', r, nss, rfl, eo4, el4, C4, ep4, C4, Kp22.hl, Kp22.Ck, R, fun H23 s23 => q H23⟩
end
theorem walk {l : PySem.W.OpenLaw} {q : Program} {loose : List Str} {XP : (Str → Option Value) → Heap → Prop} {YP : World → Heap → Prop} {d : DefRec} {K : Params → PySem.W.Frag} (hn : l.most = some 63) (hdf : d.params.defaults = [])
    (hY : ∀ (w : World) (h : Heap), YP w h → (K w.params).In h)
    (F : ∀ (w : World) (mg : Str → Option Value) (fa : Addr) (h : Heap), (K w.params).In h → h.Ns mainGlobals mg → mg d.name = some (.ref fa) →
      ∃ fd : FuncData, (∀ (s : Shared) (u : Value), BindsTo s fd ⟨[u], []⟩ [("_law_script", u)]) ∧ ∀ base : Heap, (K w.params).In base → base.Ns mainGlobals mg → FnOk l.prog w (K w.params) mg base (XC l.prog w) 8 fa fd ["_law_script"] (spLaw (K w.params))) :
    PySem.W.WalkO q loose XP YP l.row.toRowW d [] (fun f vs => PySem.call f vs) :=
  L2.walk_of (n := 63) (k := 8) (x := "_law_script") (CX := fun w => XC l.prog w) (sp := fun w => spLaw (K w.params)) hn (by decide) hdf ⟨fun _ => rfl, by decide, by decide⟩ hY F (fun _ _ a ns hl _ hS => ⟨a, ns, rfl, hS, hl, fun _ => rfl⟩) fun w H s e s' z => by
    obtain ⟨_, _, _, _, _, _, _, _, _, q⟩ := z
    exact q
end K31
set_option Elab.async false
set_option linter.all false
open PySem PySem.W PyProof.Rows
set_option maxRecDepth 100000 in
set_option maxHeartbeats 0 in
theorem PySem.Challenge.cw_copperbook_k31_rules_as_texts_holds : PySem.Challenge.rw_copperbook_k31_rules_as_texts.Holds := by
  w_on; o_law; k_head; (case hw => w_witness2)
  k_fill
  refine K31.walk (l := PySem.Challenge.rw_copperbook_k31_rules_as_texts) rfl rfl (fun w h Y => PySem.W.kIn_of Y) ?F
  case F =>
    intro w mg fa h KX G hmg
    have TT : ∃ t : K31.Adr, K31.Txt (L2.KOf KX) mg t := by
      dsimp only [L2.KOf]
      refine' K31.txt_mk KX G ?g_Rules ?pg_Rules ?hd_Rules ?po_Rules ?sa_Rules ?mk_Rules ?kc_Rules ?na_Rules_gap ?na_Rules_width ?na_Rules_rim ?na_Rules_keeps ?na_Rules_kept ?ha_Rules ?hn_Rules ?ht_Rules ?hm_Rules ?a_is_whole ?l_is_whole ?cc_is_whole ?k_is_whole ?a_is_short ?l_is_short ?cc_is_short ?k_is_short ?a_read_number ?l_read_number ?cc_read_number ?k_read_number ?a_read_row ?l_read_row ?cc_read_row ?k_read_row ?a_read_lines ?l_read_lines ?cc_read_lines ?k_read_lines ?a_tell_row ?l_tell_row ?cc_tell_row ?k_tell_row ?a_tell_lines ?l_tell_lines ?cc_tell_lines ?k_tell_lines ?a_Rules_init ?i_Rules_init ?l_Rules_init ?cc_Rules_init ?k_Rules_init ?a_Rules_told ?i_Rules_told ?l_Rules_told ?cc_Rules_told ?k_Rules_told ?a_need_between ?l_need_between ?cc_need_between ?k_need_between ?a_need_keeps ?l_need_keeps ?cc_need_keeps ?k_need_keeps ?a_need_keep ?l_need_keep ?cc_need_keep ?k_need_keep ?a_read_rules ?l_read_rules ?cc_read_rules ?k_read_rules ?a_read_numbers ?l_read_numbers ?cc_read_numbers ?k_read_numbers ?a_law_cell ?l_law_cell ?cc_law_cell ?k_law_cell ?a_law_mixed ?l_law_mixed ?cc_law_mixed ?k_law_mixed ?a_law_twice ?l_law_twice ?cc_law_twice ?k_law_twice ?a_law_well ?l_law_well ?cc_law_well ?k_law_well ?a_law_draw ?l_law_draw ?cc_law_draw ?k_law_draw ?a_law_number ?l_law_number ?cc_law_number ?k_law_number ?a_law_right ?l_law_right ?cc_law_right ?k_law_right ?a_law ?l_law ?cc_law ?k_law ?g_NoRules ?x_NoRules ?ki_Rules_Rules ?n_isinstance ?n_int ?n_bool ?n_abs ?n_list ?n_tuple ?n_len ?n_str ?n_range ?n_all ?g_MOST_FIGURES ?g_MOST_GAP ?g_MOST_WIDTH ?g_MOST_RIM ?g_MOST_KEEPS ?g_FIGURES
      (case g_Rules => k_is)
      (case pg_Rules => k_is)
      (case hd_Rules => k_is)
      (case po_Rules => k_is)
      (case sa_Rules => k_is)
      (case mk_Rules => k_is)
      (case kc_Rules => k_is)
      (case na_Rules_gap => k_is)
      (case na_Rules_width => k_is)
      (case na_Rules_rim => k_is)
      (case na_Rules_keeps => k_is)
      (case na_Rules_kept => k_is)
      (case ha_Rules => k_is)
      (case hn_Rules => k_is)
      (case ht_Rules => k_is)
      (case hm_Rules => k_is)
      (case a_is_whole => k_is)
      (case l_is_whole => k_is)
      (case cc_is_whole => k_is)
      (case k_is_whole => k_is)
      (case a_is_short => k_is)
      (case l_is_short => k_is)
      (case cc_is_short => k_is)
      (case k_is_short => k_is)
      (case a_read_number => k_is)
      (case l_read_number => k_is)
      (case cc_read_number => k_is)
      (case k_read_number => k_is)
      (case a_read_row => k_is)
      (case l_read_row => k_is)
      (case cc_read_row => k_is)
      (case k_read_row => k_is)
      (case a_read_lines => k_is)
      (case l_read_lines => k_is)
      (case cc_read_lines => k_is)
      (case k_read_lines => k_is)
      (case a_tell_row => k_is)
      (case l_tell_row => k_is)
      (case cc_tell_row => k_is)
      (case k_tell_row => k_is)
      (case a_tell_lines => k_is)
      (case l_tell_lines => k_is)
      (case cc_tell_lines => k_is)
      (case k_tell_lines => k_is)
      (case a_Rules_init => k_is)
      (case i_Rules_init => k_is)
      (case l_Rules_init => k_is)
      (case cc_Rules_init => k_is)
      (case k_Rules_init => k_is)
      (case a_Rules_told => k_is)
      (case i_Rules_told => k_is)
      (case l_Rules_told => k_is)
      (case cc_Rules_told => k_is)
      (case k_Rules_told => k_is)
      (case a_need_between => k_is)
      (case l_need_between => k_is)
      (case cc_need_between => k_is)
      (case k_need_between => k_is)
      (case a_need_keeps => k_is)
      (case l_need_keeps => k_is)
      (case cc_need_keeps => k_is)
      (case k_need_keeps => k_is)
      (case a_need_keep => k_is)
      (case l_need_keep => k_is)
      (case cc_need_keep => k_is)
      (case k_need_keep => k_is)
      (case a_read_rules => k_is)
      (case l_read_rules => k_is)
      (case cc_read_rules => k_is)
      (case k_read_rules => k_is)
      (case a_read_numbers => k_is)
      (case l_read_numbers => k_is)
      (case cc_read_numbers => k_is)
      (case k_read_numbers => k_is)
      (case a_law_cell => k_is)
      (case l_law_cell => k_is)
      (case cc_law_cell => k_is)
      (case k_law_cell => k_is)
      (case a_law_mixed => k_is)
      (case l_law_mixed => k_is)
      (case cc_law_mixed => k_is)
      (case k_law_mixed => k_is)
      (case a_law_twice => k_is)
      (case l_law_twice => k_is)
      (case cc_law_twice => k_is)
      (case k_law_twice => k_is)
      (case a_law_well => k_is)
      (case l_law_well => k_is)
      (case cc_law_well => k_is)
      (case k_law_well => k_is)
      (case a_law_draw => k_is)
      (case l_law_draw => k_is)
      (case cc_law_draw => k_is)
      (case k_law_draw => k_is)
      (case a_law_number => k_is)
      (case l_law_number => k_is)
      (case cc_law_number => k_is)
      (case k_law_number => k_is)
      (case a_law_right => k_is)
      (case l_law_right => k_is)
      (case cc_law_right => k_is)
      (case k_law_right => k_is)
      (case a_law => k_is)
      (case l_law => k_is)
      (case cc_law => k_is)
      (case k_law => k_is)
      (case g_NoRules => k_is)
      (case x_NoRules => k_exc)
      (case ki_Rules_Rules => kit_is)
      (case n_isinstance => k_is)
      (case n_int => k_is)
      (case n_bool => k_is)
      (case n_abs => k_is)
      (case n_list => k_is)
      (case n_tuple => k_is)
      (case n_len => k_is)
      (case n_str => k_is)
      (case n_range => k_is)
      (case n_all => k_is)
      (case g_MOST_FIGURES => k_is)
      (case g_MOST_GAP => k_is)
      (case g_MOST_WIDTH => k_is)
      (case g_MOST_RIM => k_is)
      (case g_MOST_KEEPS => k_is)
      (case g_FIGURES => k_is)
    obtain ⟨t, T⟩ := TT
    have e := hmg.symm.trans T.g_law
    cases e
    exact K31.law_fn T
