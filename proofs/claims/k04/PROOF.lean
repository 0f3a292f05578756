import PyProof.Rows.All
import Wide.All
import OpenK.AllK
import Wide.FinOn
import PyProof.StrWalks
import HandS.ForMost
import HandS.Strs
import PyProof.MeetsSeq2
import HandS.ForExc
import HandS.IsInst
import HandS.Style
import HandS.TupLe
import PyProof.StrOps2
import HandS.Defaults
import HandS.HeadHook2
import HandS.NoneIn
import HandS.More
import PyProof.TypeEq
import HandS.HeadEnd
import HandS.Head0
import HandS.Head1
import HandS.Head2
import HandS.HeadHook1
import PySem.Challenge.RW_backseen_k04_whole_endings_and_words_ali
set_option Elab.async false
set_option linter.all false
set_option maxRecDepth 100000
section
namespace MX
open PySem PySem.Spec PyProof.Rows

/-- the unlike signs of the first i ones -/
def step1 (l : List Str) (c : Nat) : List Str := if l.any (· == (⟨#[c]⟩ : Str)) then l else l ++ [⟨#[c]⟩]
def met1 (x : Str) (i : Nat) : List Str := ((x.cps.toList.take i)).foldl step1 []
theorem met1_succ (x : Str) (i c : Nat) (h : x.cps[i]? = some c) : met1 x (i + 1) = step1 (met1 x i) c := by
  unfold met1
  have h2 : x.cps.toList[i]? = some c := by rw [Array.getElem?_toList]; exact h
  rw [List.take_succ, h2, List.foldl_append]
  rfl
theorem step1_any (l : List Str) (c : Nat) (k : Str) : (step1 l c).any (· == k) = (l.any (· == k) || decide (k = ⟨#[c]⟩)) := by
  unfold step1
  by_cases hc : l.any (· == (⟨#[c]⟩ : Str)) = true
  · rw [if_pos hc]
    by_cases e : k = ⟨#[c]⟩
    · subst e; simp [hc]
    · simp [e]
  · rw [if_neg hc, List.any_append]
    by_cases e : k = ⟨#[c]⟩
    · subst e; simp
    · have hb : ((⟨#[c]⟩ : Str) == k) = false := by simpa [beq_iff_eq] using (fun h' => e (Eq.symm h'))
      simp [hb, e]
theorem step1_len (l : List Str) (c : Nat) : (step1 l c).length = if l.any (· == (⟨#[c]⟩ : Str)) = true then l.length else l.length + 1 := by
  unfold step1
  split <;> simp
theorem met1_mono (x : Str) : ∀ i j, i ≤ j → (met1 x i).length ≤ (met1 x j).length := by
  intro i j h
  induction h with
  | refl => exact Nat.le_refl _
  | step h ih =>
    rename_i m
    refine Nat.le_trans ih ?_
    cases e : x.cps[m]? with
    | none =>
      unfold met1
      have : x.cps.size ≤ m := by simpa using e
      rw [List.take_of_length_le (by simpa using this), List.take_of_length_le (by simp; omega)]
      exact Nat.le_refl _
    | some c =>
      rw [met1_succ x m c e, step1_len]
      split <;> omega

section
variable {prog : Program} {w : World} {A : Around} {R : Result → Shared → Prop} {I : Addr} {fp wr : List Addr} {G : Array GenState → Array GenState → Prop} {n : Nat} {St : Nat → Shared → Prop}
theorem loopSigns {x : Str} (W : WalksS prog w A.in1 I fp wr G n (SignAt x) St) (S : Addr) (hSf : S ∉ fp) (hb : (met1 x n).length + 1 < scanBound) :
    ∀ (k i : Nat) (s : Shared), n - i = k → i ≤ n → St i s →
      s.heap.SetOf (PySem.strKind prog w) S (fun k' => (met1 x i).any (· == k')) (met1 x i).length →
      (∀ s', Moved (S :: wr) G s s' → s'.heap.SetOf (PySem.strKind prog w) S (fun k' => (met1 x n).any (· == k')) (met1 x n).length → R (.ok (.ret .none)) s') →
      codeAny (model prog w) A (.builtin "set.update.loop" ⟨[.ref S, .ref I], []⟩) R s := by
  have hSw : S ∉ wr := fun h => hSf (W.sub _ h)
  have hsub : ∀ b ∈ wr, b ∈ S :: wr := fun b hb => List.mem_cons_of_mem _ hb
  intro k
  induction k with
  | zero =>
    intro i s hk hi hst hS hR
    have hin : i = n := by omega
    subst hin
    refine codeAny_builtin PyProof.Rows.F.entry_set_update_loop ?_
    rw [Around.under_plainId PyProof.Rows.F.plain_set_update_loop _]
    show wpAny _ A.in1 (pyNext (.ref I) >>= _) _ _ s
    refine wpAny_bind (W.done s _ _ hst fun s' hm => ?_)
    show wpAny _ A.in1 (ret Value.none) _ _ s'
    exact wpAny_pure (hR s' (hm.mono hsub) (by
      obtain ⟨o, es, ep, t, ho, rest⟩ := hS
      exact ⟨o, es, ep, t, hm.heap S _ hSw ho, rest⟩))
  | succ k ih =>
    intro i s hk hi hst hS hR
    have hlt : i < n := by omega
    refine codeAny_builtin PyProof.Rows.F.entry_set_update_loop ?_
    rw [Around.under_plainId PyProof.Rows.F.plain_set_update_loop _]
    show wpAny _ A.in1 (pyNext (.ref I) >>= _) _ _ s
    refine wpAny_bind (W.item i s _ _ hlt hst fun v s' hP hst' hm => ?_)
    obtain ⟨c, t, hc, rfl⟩ := hP
    have hS' : s'.heap.SetOf (PySem.strKind prog w) S (fun k' => (met1 x i).any (· == k')) (met1 x i).length := by
      obtain ⟨o, es, ep, tb, ho, rest⟩ := hS
      exact ⟨o, es, ep, tb, hm.heap S _ hSw ho, rest⟩
    show wpAny _ A.in1 (holding [Value.str ⟨#[c]⟩ t] (setAdd S (.str ⟨#[c]⟩ t)) >>= _) _ _ s'
    refine wpAny_bind (wpAny_holding ?_)
    unfold setAdd
    refine wpAny_holding ?_
    refine wpAny_bind ((PySem.strKind prog w).pyHash (k := ⟨#[c]⟩) (strKind_is _ _ _ _) ?_)
    have hroom : (met1 x i).length + 1 < scanBound := by have := met1_mono x i n hi; omega
    refine wpAny_setAddHashed_of (knd := PySem.strKind prog w) (s := { s' with toks := s'.toks + 1 }) (strKind_is _ _ _ _) rfl hS' hroom fun h' hsb hS2 => ?_
    have hSi : h'.SetOf (PySem.strKind prog w) S (fun k' => (met1 x (i + 1)).any (· == k')) (met1 x (i + 1)).length :=
      SetOf_congr hS2 (fun k' => by rw [met1_succ x i c hc, step1_any]) (by rw [met1_succ x i c hc, step1_len])
    refine wpAny_pure ⟨plainId_quiet PyProof.Rows.F.plain_set_update_loop _, ih (i + 1) _ (by omega) hlt (W.frame _ s' _ _ hst' (Nat.le_succ _) fun b hb o e => ?_) hSi fun s'' hm'' hS'' => ?_⟩
    · rw [hsb.2 b (fun h : b = S => hSf (by rw [← h]; exact hb))]; exact e
    · refine hR s'' (Moved.trans W.gtrans ((hm.mono hsub).then_heap (Nat.le_succ _) fun b o hb e => ?_) hm'') hS''
      rw [hsb.2 b (fun h : b = S => hb (by rw [h]; exact List.mem_cons_self))]; exact e
end

section
variable {prog : Program} {w : World} {A : Around} {E : Value → Shared → Prop} {s : Shared}
set_option maxHeartbeats 3200000 in
theorem call_set_str {x : Str} {t : Tok} {Q : Value → Shared → Prop}
    (hh : A.handled = none) (hb : (met1 x x.cps.size).length + 1 < scanBound)
    (h : ∀ (h' : Heap) (tk : Nat), h'.SetOf (PySem.strKind prog w) s.heap.objs.size (fun k' => (met1 x x.cps.size).any (· == k')) (met1 x x.cps.size).length →
      (∀ b o, b < s.heap.objs.size → s.heap.get? b = some o → h'.get? b = some o) → Q (.ref s.heap.objs.size) { s with heap := h', toks := tk }) :
    wpAny (model prog w) A (call (.type "set") [.str x t]) Q E s := by
  obtain ⟨c, tl, hmro⟩ := PySem.F.called_set.mro
  have hmade := PySem.F.called_set.made
  have hsub := PySem.F.called_set.sub
  refine wpAny_call (codeAny_of_tree ?_)
  show wpAny _ _ (callAny (.type "set") _) _ _ _
  refine wpAny_pure ⟨Code.quiet_builtin _ (by decide +kernel), codeAny_builtin PySem.F.entry_type_call ?_⟩
  rw [Around.under_plain (weight_type_call_type "set" [.str x t] []) rfl]
  have h1 := PySem.F.called_set.notType
  have h2 := PySem.F.called_set.canCreate
  have hct := PySem.F.typeCall_set_1 (.str x t)
  repeat (any_goals (first | assumption | wp_step))

  refine codeAny_mono (code_set_new_1 (.str x t) (E := E) (Q₁ := fun obj s₁ => ∃ led : Bool, obj = .ref s.heap.objs.size ∧ s₁ = { s with heap := s.heap.push { cls := .type "set", dict := none, data := .set #[] 0 (.fresh 0 0 led) } }) fun led => ⟨led, rfl, rfl⟩) fun r s₁ hr => ?_
  cases r with
  | error e => exact hr
  | ok fl =>
    cases fl with
    | ret obj =>
      obtain ⟨led, rfl, rfl⟩ := hr
      have hS : (s.heap.push { cls := .type "set", dict := none, data := .set #[] 0 (.fresh 0 0 led) }).get? s.heap.objs.size = some { cls := .type "set", dict := none, data := .set #[] 0 (.fresh 0 0 led) } := Heap.get?_push_size _ rfl
      have hT : Shared.TypeIs { s with heap := s.heap.push { cls := .type "set", dict := none, data := .set #[] 0 (.fresh 0 0 led) } } (.ref s.heap.objs.size) "set" := ⟨_, hS, rfl⟩
      have hli := PySem.F.called_set.init.lookup
      have hbi := PySem.F.called_set.init.bind (.ref s.heap.objs.size)
      repeat (any_goals (first | assumption | wp_step))

      refine codeAny_mono (codeAny_call_builtin (R := wants (fun r s₂ => r = .none ∧ ∃ h' tk, s₂ = { s with heap := h', toks := tk } ∧
          h'.SetOf (PySem.strKind prog w) s.heap.objs.size (fun k' => (met1 x x.cps.size).any (· == k')) (met1 x x.cps.size).length ∧
          (∀ b o, b < s.heap.objs.size → s.heap.get? b = some o → h'.get? b = some o)) E) PySem.F.called_set.init.plain PySem.F.entry_set_init (check_set_init_1 hT ?_)) fun r₂ s₂ hr₂ => ?_
      · have hsls : isSubtype (.type "str") (.type "set") = pure false := by rw [isSubtype_type]; kernel_rfl
        have hslf : isSubtype (.type "str") (.type "frozenset") = pure false := by rw [isSubtype_type]; kernel_rfl
        have hne : (Value.type "str" == Value.type "dict") = false := by decide
        unfold Builtin.«set.__init__» noKeywords Builtin.Frozenset.updateFrom
        generalize hPI : pyIter = PI
        wp_walk
        subst hPI
        refine wpAny_pyIter_str fun o St hW hSt0 => ?_
        refine wpAny_bind (wpAny_runValue ?_)
        have hh3 : A.in1.in1.in1.handled = none := by simp [hh]
        have hsz1 : (s.heap.push { cls := .type "set", dict := none, data := .set #[] 0 (.fresh 0 0 led) }).objs.size = s.heap.objs.size + 1 := Heap.size_push _ _
        have hSf : s.heap.objs.size ∉ [(s.heap.push { cls := .type "set", dict := none, data := .set #[] 0 (.fresh 0 0 led) }).objs.size] := by
          rw [hsz1]; simp
        refine loopSigns ((hW A.in1.in1.in1 hh3).toS) s.heap.objs.size hSf hb (x.cps.size - 0) 0 _ (by omega) (Nat.zero_le _) hSt0 ?hS0 ?hR
        case hS0 =>
          have hget : ((s.heap.push { cls := .type "set", dict := none, data := .set #[] 0 (.fresh 0 0 led) }).push o).get? s.heap.objs.size
              = some { cls := .type "set", dict := none, data := .set #[] 0 (.fresh 0 0 led) } := Heap.get?_push_of_some _ hS
          exact PyProof.Rows.SetOf_congr ((PyProof.Rows.setObjOf_fresh (knd := PySem.strKind prog w) led).setOf hget (by unfold scanBound; omega)) (fun _ => rfl) rfl
        case hR =>
          intro s' hm hS'
          obtain ⟨h', g', d', tk', os'⟩ := s'
          have eg : g' = s.gens := hm.gens
          have ed : d' = s.drawn := hm.drawn
          have eo : os' = s.os := hm.os
          subst eg; subst ed; subst eo
          show wpAny _ _ _ _ _ _
          refine wpAny_pure ?_
          show wpAny _ _ (ret Value.none) _ _ _
          refine wpAny_pure ⟨rfl, h', tk', rfl, hS', fun b o' hb e => ?_⟩
          have hb1 : b ≠ s.heap.objs.size := Nat.ne_of_lt hb
          have hb2 : b ≠ (s.heap.push { cls := .type "set", dict := none, data := .set #[] 0 (.fresh 0 0 led) }).objs.size := by
            rw [hsz1]; exact Nat.ne_of_lt (Nat.lt_succ_of_lt hb)
          exact hm.heap b o' (by simp only [List.mem_cons, List.mem_singleton, List.not_mem_nil, or_false, not_or]; exact ⟨hb1, hb2⟩) (Heap.get?_push_of_some _ (Heap.get?_push_of_some _ e))
      · cases r₂ with
        | error e => exact hr₂
        | ok fl₂ =>
          cases fl₂ with
          | ret r =>
            obtain ⟨rfl, h', tk, rfl, hS', hk'⟩ := hr₂
            repeat (any_goals (first | assumption | wp_step))
            exact h _ _ hS' hk'
          | _ => exact hr₂.elim
    | _ => exact hr.elim
end
end MX

end
section
namespace MX
open PySem PySem.Spec PyProof.Rows

theorem sub_set_set : isSubtype (.type "set") (.type "set") = pure true := by rw [isSubtype_type]; kernel_rfl
theorem fills_sub : fillsNumberSlot (.type "set") "sub" = pure true :=
  fillsNumberSlot_of (id := "set.__sub__") (r := some (.builtin "set.__rsub__")) (by rw [typeLookup_type, builtinLookup_eq_fast]; kernel_rfl) (by decide +kernel) (by rw [typeLookup_type, builtinLookup_eq_fast]; kernel_rfl)
theorem slot_set_sub : Slot "set" "__sub__" "set.__sub__" :=
  .of (owner := "set") (n := "__sub__") (by rw [typeLookup_type, builtinLookup_eq_fast]; kernel_rfl) (by decide +kernel) (by decide +kernel) (by decide +kernel)
    (by first | exact .inl (by decide +kernel) | exact .inr (by decide +kernel)) (by rw [isSubtype_type]; kernel_rfl)
theorem entry_set_sub : entryFor table "set.__sub__" = some Builtin.«frozenset.__sub__» :=
  entryFor_alias (id' := "frozenset.__sub__") (by kernel_rfl) rfl (by decide +kernel) (by kernel_rfl)
theorem args_set_sub (a b : Value) : argsOk "set.__sub__" ⟨[a, b], []⟩ := by unfold argsOk; kernel_rfl

section
variable {prog : Program} {w : World} {A : Around} {E : Value → Shared → Prop} {s : Shared}
theorem wpn {α : Type} {M : Model} {c : Prop} [Decidable c] {x y : Sem α} {Q : α → Shared → Prop} (hc : ¬ c) (h : wpAny M A y Q E s) : wpAny M A (if c then x else y) Q E s := by
  rw [if_neg hc]; exact h
theorem wpp {α : Type} {M : Model} {c : Prop} [Decidable c] {x y : Sem α} {Q : α → Shared → Prop} (hc : c) (h : wpAny M A x Q E s) : wpAny M A (if c then x else y) Q E s := by
  rw [if_pos hc]; exact h
theorem anySet_set {a : Addr} {Q : Bool → Shared → Prop} (hT : s.TypeIs (.ref a) "set") (h : Q true s) : wpAny (model prog w) A (Builtin.Frozenset.isAnySet (.ref a)) Q E s := by
  unfold Builtin.Frozenset.isAnySet orM
  refine wpAny_bind (wpAny_isInstance hT sub_set_set ?_)
  exact wpAny_pure h
theorem sizeOf_set {a : Addr} {o : Obj} {es : Array (Int × Value)} {ep : Nat} {t : SetTable} {Q : Nat → Shared → Prop} (ho : s.heap.get? a = some o) (hd : o.data = .set es ep t) (hf : t.fits es.size = true) (h : Q es.size s) :
    wpAny (model prog w) A (Builtin.Frozenset.sizeOf a) Q E s := by
  unfold Builtin.Frozenset.sizeOf
  exact wpAny_bind (wpAny_setEntries_of ho hd hf (wpAny_pure h))

/-- no thing with an identity among them -/
def NoRef (es : Array (Int × Value)) : Prop := ∀ e ∈ es.toList, ∀ a, e.2 ≠ .ref a
theorem noRef_of {K : Type} [DecidableEq K] {knd : KeyKind prog w K} {es : Array (Int × Value)} (h : ElemsOf knd es.toList) : NoRef es := fun e he a q => by
  have := (h e he).2
  rw [q] at this
  exact Bool.noConfusion this

theorem byText {Q : Bool → Shared → Prop} (h : Q (w.params.followText "set-order") s) : wpAny (model prog w) A setsByText Q E s := by
  unfold setsByText
  exact wpAny_bind (wpAny_askSetting (wpAny_pure h))
theorem quiet_of (l : List Addr) {Q : Bool → Shared → Prop} (hl : ∀ a ∈ l, ∃ o es ep t, s.heap.get? a = some o ∧ o.data = .set es ep t ∧ t.fits es.size = true ∧ NoRef es) (h : Q true s) : wpAny (model prog w) A (setsQuiet l) Q E s := by
  unfold setsQuiet
  refine wpAny_bind (wpAny_forIn_list _ (fun rest b s' => b.1 = none ∧ s' = s ∧ ∀ a ∈ rest, a ∈ l) _ ?_ ?_ l _ ⟨rfl, rfl, fun _ q => q⟩)
  · rintro a rest b s' ⟨hb, rfl, hm⟩
    obtain ⟨o, es, ep, t, ho, hd, hf, hn⟩ := hl a (hm a List.mem_cons_self)
    refine wpAny_bind (wpAny_setEntries_of ho hd hf ?_)
    refine wpAny_bind (PySem.MeetsSeq2.wpAny_forIn_array _ (fun rest2 b2 s2 => b2.1 = none ∧ s2 = s' ∧ ∀ e ∈ rest2, e ∈ es.toList) _ ?_ ?_ es _ ⟨rfl, rfl, fun _ q => q⟩)
    · rintro ⟨hh, x⟩ rest2 b2 s2 ⟨hb2, rfl, hm2⟩
      have nr := hn _ (hm2 _ List.mem_cons_self)
      dsimp only
      cases x <;> first
        | exact absurd rfl (nr _)
        | exact wpAny_pure ⟨rfl, rfl, fun e he => hm2 e (List.mem_cons_of_mem _ he)⟩
    · rintro b2 s2 ⟨hb2, rfl, _⟩
      obtain ⟨b21, b22⟩ := b2
      dsimp only at hb2
      subst hb2
      exact wpAny_pure ⟨rfl, rfl, fun e he => hm e (List.mem_cons_of_mem _ he)⟩
  · rintro b s' ⟨hb, rfl, _⟩
    obtain ⟨b1, b2⟩ := b
    dsimp only at hb
    subst hb
    exact wpAny_pure h

theorem walk_any {a : Addr} {o : Obj} {es : Array (Int × Value)} {ep : Nat} {t : SetTable} {Q : Array (Int × Value) → Shared → Prop}
    (ho : s.heap.get? a = some o) (hd : o.data = .set es ep t) (hf : t.fits es.size = true)
    (hc : w.params.followText "set-order" = true ∨ ((t.led && t.plain) || decide (es.size ≤ 1)) = true)
    (h : ∀ es' : Array (Int × Value), es'.toList.Perm es.toList → Q es' s) : wpAny (model prog w) A (setWalk a) Q E s := by
  unfold setWalk
  refine wpAny_bind (wpAny_setState_of ho hd hf ?_)
  dsimp only
  refine wpAny_bind (byText ?_)
  by_cases hbt : w.params.followText "set-order" = true
  · refine wpp hbt ?_
    exact wpAny_bind (wpAny_askSetting (wpAny_pure (h _ (L2.pick_perm _ _))))
  · rcases hc with hc | hc
    · exact absurd hc hbt
    · refine wpn hbt ?_
      try refine wpAny_bind (wpAny_pure ?_)
      have e1 : (!t.plain && decide (es.size > 1)) = false := by
        cases hp : t.plain <;> cases hl : t.led <;> simp [hp, hl] at hc ⊢ <;> omega
      refine wpn (by show ¬ ((!t.plain && decide (es.size > 1)) = true); rw [e1]; exact Bool.false_ne_true) ?_
      try refine wpAny_bind (wpAny_pure ?_)
      refine wpAny_bind (wpAny_of_eq (a := ()) ?_ ?_)
      · have e2 : (!t.led && decide (es.size > 1)) = false := by
          cases hp : t.plain <;> cases hl : t.led <;> simp [hp, hl] at hc ⊢ <;> omega
        show (if (!t.led && decide (es.size > 1)) = true then unsupported "set:maker-not-led" else pure ()) = pure ()
        rw [e2] <;> rfl
      · exact wpAny_pure (h es (List.Perm.refl _))

/-- the walk of a set that nobody sees, into the set at r -/
theorem walk_unseen {K : Type} [DecidableEq K] {knd : KeyKind prog w K} {a b r : Addr} {o ob : Obj} {es es2 : Array (Int × Value)} {ep ep2 : Nat} {t t2 : SetTable} {Sr : K → Bool} {nr : Nat} {Q : Array (Int × Value) → Shared → Prop}
    (ho : s.heap.get? a = some o) (hd : o.data = .set es ep t) (hf : t.fits es.size = true) (hn : NoRef es)
    (ho2 : s.heap.get? b = some ob) (hd2 : ob.data = .set es2 ep2 t2) (hf2 : t2.fits es2.size = true) (hn2 : NoRef es2)
    (hr : s.heap.SetOf knd r Sr nr)
    (h : ∀ (es' : Array (Int × Value)) (h' : Heap), es'.toList.Perm es.toList → Heap.SameBut r s.heap h' → h'.SetOf knd r Sr nr → Q es' { s with heap := h' }) :
    wpAny (model prog w) A (setWalkUnseen a [b, r] (some r)) Q E s := by
  obtain ⟨orr, er, epr, tr, hor, hex, hdr, hel, hmem, hbnd, hfr, hsz⟩ := id hr
  unfold setWalkUnseen
  refine wpAny_bind (wpAny_setState_of ho hd hf ?_)
  dsimp only
  refine wpAny_bind (byText ?_)
  have same : Heap.SameBut r s.heap s.heap := ⟨rfl, fun _ _ => rfl⟩
  by_cases hc : (w.params.followText "set-order" || (t.led && t.plain) || decide (es.size ≤ 1)) = true
  · refine wpp hc ?_
    refine walk_any ho hd hf ?_ (fun es' p => h es' s.heap p same hr)
    cases hbt : w.params.followText "set-order" with
    | true => exact .inl rfl
    | false => rw [hbt] at hc; simpa using hc
  · refine wpn hc ?_
    try refine wpAny_bind (wpAny_pure ?_)
    refine wpAny_bind (quiet_of _ ?_ ?_)
    · intro x hx
      simp only [List.mem_cons, List.not_mem_nil, or_false] at hx
      rcases hx with rfl | rfl | rfl
      · exact ⟨o, es, ep, t, ho, hd, hf, hn⟩
      · exact ⟨ob, es2, ep2, t2, ho2, hd2, hf2, hn2⟩
      · exact ⟨orr, er, epr, tr, hor, hdr, hfr, noRef_of hel⟩
    · refine wpn (by simp) ?_
      try refine wpAny_bind (wpAny_pure ?_)
      refine wpAny_bind (wpAny_rule ?_)
      refine wpAny_bind (wpAny_setState_of hor hdr hfr ?_)
      dsimp only
      by_cases hc2 : ((tr.led && !t.led) || (tr.plain && !t.plain)) = true
      · refine wpp hc2 ?_
        have hf' : ({ tr with led := tr.led && t.led, plain := tr.plain && t.plain } : SetTable).fits er.size = true := by
          cases tr; exact hfr
        obtain ⟨hg, hS⟩ := SetOf_store (t' := { tr with led := tr.led && t.led, plain := tr.plain && t.plain }) hor hex hdr hel hmem hbnd hf'
        refine wpAny_bind (wpAny_storeSet_of hor hdr ?_ (fits_of_scanBound hbnd))
        refine wpAny_pure (h es _ (List.Perm.refl _) ⟨Heap.size_after_update _ _ _, fun b hb => Heap.get?_update_ne _ _ _ _ hb⟩ ?_)
        rw [hsz] at hS
        exact hS
      · refine wpn hc2 ?_
        try refine wpAny_bind (wpAny_pure ?_)
        exact wpAny_pure (h es s.heap (List.Perm.refl _) same hr)

/-- a - b, sets of one kind, a not much larger than b -/
theorem diff_set {K : Type} [DecidableEq K] {knd : KeyKind prog w K} {a b : Addr} {S1 S2 : K → Bool} {n1 n2 : Nat} {ident : String} {Q : Value → Shared → Prop}
    (h1 : s.heap.SetOf knd a S1 n1) (h2 : s.heap.SetOf knd b S2 n2) (hsz : n1 / 4 ≤ n2)
    (h : ∀ (h' : Heap) (S : K → Bool) (n : Nat), h'.SetOf knd s.heap.objs.size S n → (∀ k, S k = true ↔ (S1 k = true ∧ S2 k = false)) → n ≤ n1 →
      (∀ c o, s.heap.get? c = some o → h'.get? c = some o) → Q (.ref s.heap.objs.size) { s with heap := h' }) :
    wpAny (model prog w) A (Builtin.Frozenset.difference ident a (.ref b)) Q E s := by
  obtain ⟨o, es, ep, t, ho, hex, hd, hel, hmem, hbnd, hf, hse⟩ := id h1
  obtain ⟨o2, es2, ep2, t2, ho2, hex2, hd2, hel2, hmem2, hbnd2, hf2, hse2⟩ := id h2
  have hT1 : s.TypeIs (.ref a) "set" := ⟨o, ho, hex.1⟩
  have hT2 : s.TypeIs (.ref b) "set" := ⟨o2, ho2, hex2.1⟩
  unfold Builtin.Frozenset.difference
  refine wpAny_bind (anySet_set hT2 ?_)
  refine wpn (by simp) ?_
  try refine wpAny_bind (wpAny_pure ?_)
  unfold Builtin.Frozenset.addrOf
  try refine wpAny_bind (wpAny_pure ?_)
  try refine wpn (by simp) ?_
  try refine wpAny_bind (wpAny_pure ?_)
  refine wpAny_bind (sizeOf_set ho2 hd2 hf2 ?_)
  refine wpAny_bind (sizeOf_set ho hd hf ?_)
  refine wpn (by rw [hse, hse2]; omega) ?_
  try refine wpAny_bind (wpAny_pure ?_)
  unfold Builtin.Frozenset.baseOf
  refine wpAny_bind (wpAny_bind (wpAny_isInstance hT1 sub_set_set ?_))
  refine wpAny_pure ?_
  show wpAny _ _ (newSet (.type "set") >>= _) _ _ _
  refine wpAny_bind (wpAny_newSet_of (knd := knd) fun led hr => ?_)
  refine wpAny_bind (wpAny_pure ?_)
  have la : a < s.heap.objs.size := Heap.lt_size ho
  have lb : b < s.heap.objs.size := Heap.lt_size ho2
  generalize hp1 : s.heap.push { cls := .type "set", dict := none, data := .set #[] 0 (.fresh 0 0 led) } = h1' at hr ⊢
  have hka : h1'.get? a = some o := by rw [← hp1]; exact Heap.get?_push_of_some _ ho
  have hkb : h1'.get? b = some o2 := by rw [← hp1]; exact Heap.get?_push_of_some _ ho2
  have hk0 : ∀ c oc, s.heap.get? c = some oc → h1'.get? c = some oc := fun c oc e => by rw [← hp1]; exact Heap.get?_push_of_some _ e
  unfold setEpoch
  refine wpAny_bind (wpAny_bind (wpAny_setState_of (s := { s with heap := h1' }) hka hd hf (wpAny_pure ?_)))
  refine wpAny_bind (wpAny_holding ?_)
  refine wpAny_bind (wpp rfl (walk_unseen (s := { s with heap := h1' }) hka hd hf (noRef_of hel) hkb hd2 hf2 (noRef_of hel2) hr fun es' h2' p sb hr2 => ?_))
  have ne1 : a ≠ s.heap.objs.size := Nat.ne_of_lt la
  have ne2 : b ≠ s.heap.objs.size := Nat.ne_of_lt lb
  refine wpAny_bind (PySem.MeetsSeq2.wpAny_forIn_array _ (fun rest _ s' => ∃ (h' : Heap) (Sr : K → Bool) (nr : Nat), s' = { s with heap := h' } ∧ h'.SetOf knd s.heap.objs.size Sr nr ∧ nr + rest.length ≤ n1 ∧
      (∀ k, (Sr k = true ∨ ((∃ e ∈ rest, knd.is k e.2 = true) ∧ S2 k = false)) ↔ (S1 k = true ∧ S2 k = false)) ∧ (∀ e ∈ rest, e ∈ es.toList) ∧
      (∀ c oc, c ≠ s.heap.objs.size → h1'.get? c = some oc → h'.get? c = some oc)) _ ?_ ?_ es' _ ⟨h2', _, _, rfl, hr2, ?_, ?_, fun e he => p.mem_iff.mp he, fun c oc hc e => by rw [sb.2 c hc]; exact e⟩)
  · rintro ⟨hh, x⟩ rest u s' ⟨h', Sr, nr, rfl, hS, hlen, hiff, hm, hk⟩
    obtain ⟨⟨k, hk1, hk2⟩, hsc⟩ := hel _ (hm _ List.mem_cons_self)
    dsimp only at hk1 hk2 hsc
    subst hk2
    have ka : h'.get? a = some o := hk a o ne1 hka
    have kb : h'.get? b = some o2 := hk b o2 ne2 hkb
    dsimp only
    refine wpAny_bind (wpAny_holding ?_)
    refine wpAny_bind (wpAny_setFind_of (s := { s with heap := h' }) hk1 hsc ⟨o2, es2, ep2, t2, kb, hex2, hd2, hel2, hmem2, hbnd2, hf2, hse2⟩ fun r hrs => ?_)
    refine wpAny_bind (wpAny_pure ?_)
    rw [hrs]
    have tail : ∀ e ∈ rest, e ∈ es.toList := fun e he => hm e (List.mem_cons_of_mem _ he)
    have hlen' : nr + rest.length + 1 ≤ n1 := by simpa [Nat.add_assoc] using hlen
    cases hb2 : S2 k with
    | true =>
      refine wpn (by simp) ?_
      try refine wpAny_bind (wpAny_pure ?_)
      refine wpAny_pure ?_
      unfold Builtin.Frozenset.unchanged setEpoch
      refine wpAny_bind (wpAny_bind (wpAny_bind (wpAny_setState_of (s := { s with heap := h' }) ka hd hf (wpAny_pure ?_))))
      refine wpn (by simp) ?_
      refine wpAny_pure (wpAny_pure ⟨h', Sr, nr, rfl, hS, by omega, fun k' => ?_, tail, hk⟩)
      rw [← hiff k']
      constructor
      · rintro (q | ⟨⟨e, he, q⟩, q2⟩)
        · exact .inl q
        · exact .inr ⟨⟨e, List.mem_cons_of_mem _ he, q⟩, q2⟩
      · rintro (q | ⟨⟨e, he, q⟩, q2⟩)
        · exact .inl q
        · rcases List.mem_cons.mp he with rfl | he
          · have e1 := knd.inj x k' k q hk1
            subst e1
            rw [hb2] at q2
            exact absurd q2 (by decide)
          · exact .inr ⟨⟨e, he, q⟩, q2⟩
    | false =>
      refine wpp (by simp) ?_
      have hroom : nr + 1 < scanBound := by
        have : n1 < scanBound := by rw [← hse]; exact hbnd
        omega
      refine wpAny_bind (wpAny_setAddHashed_of (s := { s with heap := h' }) hk1 hsc hS hroom fun h'' hsb hS2 => ?_)
      have ka2 : h''.get? a = some o := by rw [hsb.2 a ne1]; exact ka
      refine wpAny_pure ?_
      unfold Builtin.Frozenset.unchanged setEpoch
      refine wpAny_bind (wpAny_bind (wpAny_bind (wpAny_setState_of (s := { s with heap := h'' }) ka2 hd hf (wpAny_pure ?_))))
      refine wpn (by simp) ?_
      refine wpAny_pure (wpAny_pure ⟨h'', _, _, rfl, hS2, by split <;> omega, fun k' => ?_, tail, fun c oc hc e => by rw [hsb.2 c hc]; exact hk c oc hc e⟩)
      rw [← hiff k', Bool.or_eq_true, decide_eq_true_eq]
      constructor
      · rintro ((q | rfl) | ⟨⟨e, he, q⟩, q2⟩)
        · exact .inl q
        · exact .inr ⟨⟨_, List.mem_cons_self, hk1⟩, hb2⟩
        · exact .inr ⟨⟨e, List.mem_cons_of_mem _ he, q⟩, q2⟩
      · rintro (q | ⟨⟨e, he, q⟩, q2⟩)
        · exact .inl (.inl q)
        · rcases List.mem_cons.mp he with rfl | he
          · exact .inl (.inr (knd.inj x k' k q hk1))
          · exact .inr ⟨⟨e, he, q⟩, q2⟩
  · rintro u s' ⟨h', Sr, nr, rfl, hS, hlen, hiff, hm, hk⟩
    refine wpAny_pure (wpAny_pure (h h' Sr nr hS (fun k => ?_) (by simpa using hlen) fun c oc e => hk c oc (Nat.ne_of_lt (Heap.lt_size e)) (hk0 c oc e)))
    rw [← hiff k]
    simp
  · have hz : es'.size = es.size := by have := p.length_eq; simpa using this
    show 0 + es'.toList.length ≤ n1
    rw [Array.length_toList, hz, hse]; omega
  · intro k
    constructor
    · rintro (q | ⟨⟨e, he, q⟩, q2⟩)
      · exact absurd q (by simp)
      · exact ⟨(hmem k).mpr ⟨e, p.mem_iff.mp he, q⟩, q2⟩
    · rintro ⟨q, q2⟩
      obtain ⟨e, he, q⟩ := (hmem k).mp q
      exact .inr ⟨⟨e, p.mem_iff.mpr he, q⟩, q2⟩
end
end MX

end
section
namespace MX
open PySem PySem.Spec PyProof.Rows L2
theorem met1_mem (x : Str) : ∀ (k : Str), (met1 x x.cps.size).any (· == k) = true ↔ ∃ c ∈ x.cps.toList, k = ⟨#[c]⟩ := by
  have gen : ∀ (cs : List Nat) (l : List Str) (k : Str), (cs.foldl step1 l).any (· == k) = true ↔ (l.any (· == k) = true ∨ ∃ c ∈ cs, k = ⟨#[c]⟩) := by
    intro cs
    induction cs with
    | nil => intro l k; simp
    | cons c cs ih =>
      intro l k
      rw [List.foldl_cons, ih, step1_any, Bool.or_eq_true, decide_eq_true_eq]
      constructor
      · rintro ((h | rfl) | ⟨c', h, rfl⟩)
        · exact .inl h
        · exact .inr ⟨c, List.mem_cons_self, rfl⟩
        · exact .inr ⟨c', List.mem_cons_of_mem _ h, rfl⟩
      · rintro (h | ⟨c', h, rfl⟩)
        · exact .inl (.inl h)
        · rcases List.mem_cons.mp h with rfl | h
          · exact .inl (.inr rfl)
          · exact .inr ⟨c', h, rfl⟩
  intro k
  unfold met1
  rw [show x.cps.toList.take x.cps.size = x.cps.toList from List.take_of_length_le (by simp)]
  rw [gen]
  simp
/-- how many unlike nsig -/
def nsig (x : Str) : Nat := (met1 x x.cps.size).length
def within (u v : Str) : Bool := u.cps.toList.all fun c => v.cps.toList.contains c
/-- len(set(a) - set(b)): only whether it is 0 is told -/
def tLenSub (ta tb : TE) : TE := fun σ H Q => ta σ H fun x H1 => ∃ u : Str, x = .str u ∧ nsig u + 1 < 4096 ∧ tb σ H1 fun y H2 => ∃ v : Str, y = .str v ∧ nsig v + 1 < 4096 ∧ nsig u / 4 ≤ nsig v ∧
  ∀ n : Nat, (n = 0 ↔ within u v = true) → Q (.int n) H2
section
variable {X : Cx}
theorem pe_lenSub {a b : Expr} {ta tb : TE} {p p2 p3 q q2 pos pos2 : Pos} (hc : X.calm = true) (hg : Gl X "len") (hm : X.mg "len" = none) (hg2 : Gl X "set") (hm2 : X.mg "set" = none) (ha : PE X a ta) (hb : PE X b tb)
    (na : starEach [a] X.env = (false, eval a X.env) :: starEach [] X.env := by rfl) (nb : starEach [b] X.env = (false, eval b X.env) :: starEach [] X.env := by rfl) :
    PE X (.Call (.Name "len" p) [.BinOp (.Call (.Name "set" p2) [a] [] q) .Sub (.Call (.Name "set" p3) [b] [] q2) pos2] [] pos) (tLenSub ta tb) := by
  refine ⟨fun pins s σ H Q I h => ?_⟩
  refine Call_ (ld_blt I hg hm boot_len ?_)
  refine PyProof.Rows.callWith_builtin1 (PyProof.Rows.args_cons ?_ rfl) rfl rfl
  refine wpAny_BinOp ?_
  -- set(a)
  refine Call_ (ld_blt I hg2 hm2 boot_set ?_)
  refine PyProof.Rows.callWith_type1 (PyProof.Rows.args_cons (thn (ha.run pins s σ H _ I h) fun v s1 hh => PyProof.Rows.args_nil ?_) na) na rfl
  obtain ⟨x, H1, I1, r1, q1⟩ := hh
  obtain ⟨u, rfl, hu, q1⟩ := q1
  obtain ⟨tu, rfl⟩ := r1
  have hh := I1.ok.hd hc
  refine call_set_str hh (by unfold scanBound; exact hu) fun h2 tk2 hS2 hk2 => ?_
  have kk : ∀ b u, s1.heap.get? b = some u → h2.get? b = some u := fun b o e => hk2 b o (Heap.lt_size e) e
  have I2 : Inv X pins σ H1 { s1 with heap := h2, toks := tk2 } := I1.kept kk
  obtain ⟨oa, ea, epa, t_a, hoa, hexa, hda, hela, hmema, hba, hfa, hna⟩ := id hS2
  have hfr : H1 s1.heap.objs.size = none := I1.hok.fresh (Nat.le_refl _)
  have I3 : Inv X (pins ++ [(s1.heap.objs.size, oa)]) σ H1 { s1 with heap := h2, toks := tk2 } := I2.pins_of fun p hp => by
    rcases List.mem_append.mp hp with hp | hp
    · exact I2.pin p (List.mem_append_right _ hp)
    · rw [List.mem_singleton] at hp
      subst hp
      refine ⟨hoa, hfr, fun e => ?_, I1.nofs (Nat.le_refl _), fun v e => ?_⟩
      · exact absurd I1.lt (by rw [← e]; exact Nat.lt_irrefl _)
      · rw [hda] at e; cases e
  -- set(b)
  refine Call_ (ld_blt I3 hg2 hm2 boot_set ?_)
  refine PyProof.Rows.callWith_type1 (PyProof.Rows.args_cons (thn (hb.run _ _ σ H1 _ I3 q1) fun vb s4 hh4 => PyProof.Rows.args_nil ?_) nb) nb rfl
  obtain ⟨y, H2, I4, r4, v, rfl, hv, huv, q4⟩ := hh4
  obtain ⟨tv, rfl⟩ := r4
  have pa : s4.heap.get? s1.heap.objs.size = some oa := (I4.pin (s1.heap.objs.size, oa) (List.mem_append_right _ (List.mem_append_right _ (List.mem_singleton.mpr rfl)))).1
  refine call_set_str (I4.ok.hd hc) (by unfold scanBound; exact hv) fun h5 tk5 hS5 hk5 => ?_
  have kk5 : ∀ b u, s4.heap.get? b = some u → h5.get? b = some u := fun b o e => hk5 b o (Heap.lt_size e) e
  have I5 : Inv X (pins ++ [(s1.heap.objs.size, oa)]) σ H2 { s4 with heap := h5, toks := tk5 } := I4.kept kk5
  have hS1 : h5.SetOf (PySem.strKind X.prog X.w) s1.heap.objs.size (fun k' => (met1 u u.cps.size).any (· == k')) (met1 u u.cps.size).length :=
    ⟨oa, ea, epa, t_a, kk5 _ _ pa, hexa, hda, hela, hmema, hba, hfa, hna⟩
  have hT1 : Shared.TypeIs { s4 with heap := h5, toks := tk5 } (.ref s1.heap.objs.size) "set" := ⟨oa, kk5 _ _ pa, hexa.1⟩
  obtain ⟨ob, eb, epb, t_b, hob, hexb, _⟩ := id hS5
  have hT2 : Shared.TypeIs { s4 with heap := h5, toks := tk5 } (.ref s4.heap.objs.size) "set" := ⟨ob, hob, hexb.1⟩
  -- the difference
  refine wpAny_binaryOp_same (op := .Sub) hT1 hT2 fills_sub slot_set_sub (wpAny_call_entry slot_set_sub hT1 entry_set_sub ?_ (args_set_sub _ _))
  have e0 : Builtin.«frozenset.__sub__» ⟨[.ref s1.heap.objs.size, .ref s4.heap.objs.size], []⟩ = (do
      let (self, other) ← Builtin.Frozenset.slot1 "__sub__" ⟨[.ref s1.heap.objs.size, .ref s4.heap.objs.size], []⟩
      let (l, r) := if false then (other, self) else (self, other)
      if !(← Builtin.Frozenset.isAnySet l <&&> Builtin.Frozenset.isAnySet r) then rule s!"frozenset.{"__sub__"}.declined"; return ← ret .notImplemented
      ret (← Builtin.Frozenset.difference s!"frozenset.{"__sub__"}" (← Builtin.Frozenset.addrOf l) r)) := rfl
  rw [e0]
  unfold Builtin.Frozenset.slot1 slotArgs
  simp only [List.isEmpty_nil, Bool.not_true, Bool.false_eq_true, ↓reduceIte, bind_assoc, List.length_nil, List.length_cons, bne_self_eq_false, pure_bind]
  unfold andM
  refine wpAny_bind (wpAny_bind (anySet_set hT1 ?_))
  show wpAny _ _ (Builtin.Frozenset.isAnySet (Value.ref s4.heap.objs.size)) _ _ _
  refine anySet_set hT2 ?_
  refine wpn (by simp) ?_
  unfold Builtin.Frozenset.addrOf
  try simp only [pure_bind]
  refine wpAny_bind (diff_set hS1 hS5 huv fun h6 S6 n6 hS6 hiff hn6 hk6 => ?_)
  refine wpAny_pure ⟨_, rfl, by simp, ?_⟩
  -- len
  refine PyProof.Rows.args_nil ?_
  obtain ⟨o6, es6, ep6, t6, ho6, hex6, hd6, hel6, hmem6, hb6, hf6, hn⟩ := id hS6
  have I6 : Inv X (pins ++ [(s1.heap.objs.size, oa)]) σ H2 { s4 with heap := h6, toks := tk5 } := I5.kept hk6
  have hsz : es6.size < 4096 := hb6
  refine call_len_set ho6 hex6 hd6 hf6 (by omega) ⟨.int es6.size, H2, (I6.unpinned).tok _, ⟨_, rfl⟩, q4 es6.size ?_⟩
  have hz : es6.size = 0 ↔ ∀ k, S6 k = false := by
    constructor
    · intro z k
      have he : es6.toList = [] := by
        have : es6.toList.length = 0 := by rw [Array.length_toList]; exact z
        exact List.length_eq_zero_iff.mp this
      cases hk : S6 k with
      | false => rfl
      | true =>
        obtain ⟨e, he', _⟩ := (hmem6 k).mp hk
        rw [he] at he'
        exact absurd he' (by simp)
    · intro z
      cases hl : es6.toList with
      | nil =>
        have : es6.toList.length = 0 := by rw [hl]; rfl
        rw [← Array.length_toList]; exact this
      | cons e r =>
        have hm : e ∈ es6.toList := by rw [hl]; exact List.mem_cons_self
        obtain ⟨⟨k, hk, _⟩, _⟩ := hel6 e hm
        have := (hmem6 k).mpr ⟨e, hm, hk⟩
        rw [z k] at this
        exact absurd this (by decide)
  rw [hz]
  unfold within
  rw [List.all_eq_true]
  constructor
  · intro z c hc
    have h1 : (met1 u u.cps.size).any (· == (⟨#[c]⟩ : Str)) = true := (met1_mem u _).mpr ⟨c, hc, rfl⟩
    have h3 := z ⟨#[c]⟩
    cases h2 : (met1 v v.cps.size).any (· == (⟨#[c]⟩ : Str)) with
    | false =>
      have := (hiff ⟨#[c]⟩).mpr ⟨h1, h2⟩
      rw [h3] at this
      exact absurd this (by decide)
    | true =>
      obtain ⟨c', hc', e⟩ := (met1_mem v _).mp h2
      have ec : c = c' := by
        have := congrArg Str.cps e
        simpa using this
      rw [ec]
      simpa using hc'
  · intro z k
    cases hk : S6 k with
    | false => rfl
    | true =>
      obtain ⟨g1, g2⟩ := (hiff k).mp hk
      obtain ⟨c, hc, rfl⟩ := (met1_mem u _).mp g1
      have g3 : (met1 v v.cps.size).any (· == (⟨#[c]⟩ : Str)) = true := (met1_mem v _).mpr ⟨c, by simpa using z c hc, rfl⟩
      rw [g3] at g2
      exact absurd g2 (by decide)
end
end MX

end
section
/-! Data without addresses: what a def does as a function of data and of a list of objects. -/
namespace MX
open PySem PySem.Spec PyProof.Rows L2

inductive D where
  | non | bl (b : Bool) | int (i : Int) | str (x : Str) | tup (l : List D) | loc (n : Nat) | ty (s : String) | rl (l : List D)
instance : Inhabited D := ⟨.non⟩
/-- an object that may change -/
inductive O where
  | lst (l : List D) | dK (kvs : List (Key × D)) | dT (kvs : List (List Key × D)) | ins (C : Addr) (fs : List (Str × D))
/-- a raised error: its class, its fields -/
structure Exn where
  cls : Addr
  fs : List (Str × D)
abbrev Os := List O
abbrev Fr := List (Option D)
inductive Res (α : Type) where
  | ok (a : α) (S : Os) | exn (e : Exn) (S : Os) | bad
inductive SRes where
  | nx (σ : Fr) (S : Os) | rt (d : D) (S : Os) | bk (σ : Fr) (S : Os) | ct (σ : Fr) (S : Os) | exn (e : Exn) (σ : Fr) (S : Os) | bad
def Res.bind {α β : Type} (r : Res α) (f : α → Os → Res β) : Res β := match r with
  | .ok a S => f a S
  | .exn e S => .exn e S
  | .bad => .bad
@[simp] theorem Res.bind_ok {α β : Type} (a : α) (S : Os) (f : α → Os → Res β) : (Res.ok a S).bind f = f a S := rfl
@[simp] theorem Res.bind_exn {α β : Type} (e : Exn) (S : Os) (f : α → Os → Res β) : (Res.exn e S : Res α).bind f = .exn e S := rfl
@[simp] theorem Res.bind_bad {α β : Type} (f : α → Os → Res β) : (Res.bad : Res α).bind f = .bad := rfl
abbrev ME := Fr → Os → Res D
abbrev MA := Fr → Os → Res (List D)
abbrev MT := Fr → Os → Res Bool
abbrev MS := Fr → Os → SRes

/-- a list that never changes -/
def SqR (K : PySem.W.Frag) (H : Hp) (a : Addr) (xs : List V) : Prop :=
  (∃ o, H a = some (.frz o (.lst xs))) ∨ SqL K (fun _ => none) a xs
section
variable (K : PySem.W.Frag)
mutual
def Rep (μ : List Addr) (H : Hp) : D → V → Prop
  | .non, v => v = .non
  | .bl b, v => v = .bl b
  | .int i, v => v = .int i
  | .str x, v => v = .str x
  | .tup l, v => ∃ a vs, v = .ref a ∧ SqT K H a vs ∧ Reps μ H l vs
  | .loc n, v => ∃ a, μ[n]? = some a ∧ v = .ref a
  | .ty s, v => v = .ty s
  | .rl l, v => ∃ a vs, v = .ref a ∧ SqR K H a vs ∧ Reps μ H l vs
def Reps (μ : List Addr) (H : Hp) : List D → List V → Prop
  | [], vs => vs = []
  | d :: l, vs => ∃ v r, vs = v :: r ∧ Rep μ H d v ∧ Reps μ H l r
end
/-- a dict's pairs, an object's fields -/
def RepK {κ : Type} (μ : List Addr) (H : Hp) : List (κ × D) → List (κ × V) → Prop
  | [], vs => vs = []
  | (k, d) :: l, vs => ∃ v r, vs = (k, v) :: r ∧ Rep K μ H d v ∧ RepK μ H l r
def ORep (μ : List Addr) (H : Hp) : O → Addr → Prop
  | .lst l, a => ∃ vs, H a = some (.lst vs) ∧ Reps K μ H l vs
  | .dK kvs, a => ∃ vs, H a = some (.dK vs) ∧ RepK K μ H kvs vs
  | .dT kvs, a => ∃ vs, H a = some (.dT vs) ∧ RepK K μ H kvs vs
  | .ins C fs, a => ∃ dx vs, H a = some (.ins C dx vs) ∧ RepK K μ H fs vs
/-- what goes on being so -/
structure Nx (H : Hp) (μ : List Addr) (H' : Hp) (μ' : List Addr) : Prop where
  mu : ∃ t, μ' = μ ++ t
  tup : ∀ b xs, H b = some (.tup xs) → H' b = some (.tup xs)
  frz : ∀ b o xs, H b = some (.frz o (.tup xs)) → H' b = some (.frz o (.tup xs))
  frl : ∀ b o xs, H b = some (.frz o (.lst xs)) → H' b = some (.frz o (.lst xs))
structure Ok (μ : List Addr) (S : Os) (H : Hp) : Prop where
  len : μ.length = S.length
  nd : μ.Nodup
  obj : ∀ (n : Nat) (o : O) (a : Addr), S[n]? = some o → μ[n]? = some a → ORep K μ H o a
def FrRel (μ : List Addr) (H : Hp) (σd : Fr) (σ : L2.St) : Prop :=
  σd.length = σ.length ∧ ∀ (i : Nat) (d : D), σd[i]? = some (some d) → ∃ v, σ[i]? = some (some v) ∧ Rep K μ H d v
def ExRep (μ : List Addr) (H : Hp) (e : Exn) (cls : Value) (d : Option Addr) : Prop :=
  cls = .ref e.cls ∧ ((d = none ∧ e.fs = []) ∨ ∃ dd vs, d = some dd ∧ dd ∉ μ ∧ H dd = some (.xd vs) ∧ RepK K μ H e.fs vs)
end
theorem Nx.refl (H : Hp) (μ : List Addr) : Nx H μ H μ := ⟨⟨[], (List.append_nil _).symm⟩, fun _ _ h => h, fun _ _ _ h => h, fun _ _ _ h => h⟩
theorem Nx.trans {H H1 H2 : Hp} {μ μ1 μ2 : List Addr} (a : Nx H μ H1 μ1) (b : Nx H1 μ1 H2 μ2) : Nx H μ H2 μ2 := by
  obtain ⟨t, rfl⟩ := a.mu
  obtain ⟨u, rfl⟩ := b.mu
  exact ⟨⟨t ++ u, List.append_assoc _ _ _⟩, fun x xs h => b.tup x xs (a.tup x xs h), fun x o xs h => b.frz x o xs (a.frz x o xs h), fun x o xs h => b.frl x o xs (a.frl x o xs h)⟩
section
variable {K : PySem.W.Frag} {H H' : Hp} {μ μ' : List Addr}
theorem Nx.at {n : Nat} {a : Addr} (x : Nx H μ H' μ') (h : μ[n]? = some a) : μ'[n]? = some a := by
  obtain ⟨t, rfl⟩ := x.mu
  obtain ⟨hl, he⟩ := List.getElem?_eq_some_iff.mp h
  rw [List.getElem?_append_left hl]
  exact h
theorem Nx.sq {a : Addr} {vs : List V} (x : Nx H μ H' μ') (h : SqT K H a vs) : SqT K H' a vs := by
  rcases h with (h | ⟨o, h⟩) | h
  · exact .inl (.inl (x.tup _ _ h))
  · exact .inl (.inr ⟨o, x.frz _ _ _ h⟩)
  · exact .inr h
theorem SqR.sq {a : Addr} {vs : List V} (h : SqR K H a vs) : SqL K H a vs := by
  rcases h with ⟨o, h⟩ | (h | ⟨o, h⟩) | h
  · exact .inl (.inr ⟨o, h⟩)
  · cases h
  · cases h
  · exact .inr h
theorem Nx.sr {a : Addr} {vs : List V} (x : Nx H μ H' μ') (h : SqR K H a vs) : SqR K H' a vs := by
  rcases h with ⟨o, h⟩ | h
  · exact .inl ⟨o, x.frl _ _ _ h⟩
  · exact .inr h
mutual
theorem Rep.mono (x : Nx H μ H' μ') : ∀ (d : D) (v : V), Rep K μ H d v → Rep K μ' H' d v
  | .non, v, h => h
  | .bl b, v, h => h
  | .int i, v, h => h
  | .str s, v, h => h
  | .ty s, v, h => h
  | .loc n, v, ⟨a, h1, h2⟩ => ⟨a, x.at h1, h2⟩
  | .tup l, v, ⟨a, vs, h1, h2, h3⟩ => ⟨a, vs, h1, x.sq h2, Reps.mono x l vs h3⟩
  | .rl l, v, ⟨a, vs, h1, h2, h3⟩ => ⟨a, vs, h1, x.sr h2, Reps.mono x l vs h3⟩
theorem Reps.mono (x : Nx H μ H' μ') : ∀ (l : List D) (vs : List V), Reps K μ H l vs → Reps K μ' H' l vs
  | [], vs, h => h
  | d :: l, vs, ⟨v, r, h1, h2, h3⟩ => ⟨v, r, h1, Rep.mono x d v h2, Reps.mono x l r h3⟩
end
theorem RepK.mono {κ : Type} (x : Nx H μ H' μ') : ∀ (l : List (κ × D)) (vs : List (κ × V)), RepK K μ H l vs → RepK K μ' H' l vs
  | [], vs, h => h
  | (k, d) :: l, vs, ⟨v, r, h1, h2, h3⟩ => ⟨v, r, h1, Rep.mono x d v h2, RepK.mono x l r h3⟩
theorem FrRel.mono {σd : Fr} {σ : L2.St} (x : Nx H μ H' μ') (h : FrRel K μ H σd σ) : FrRel K μ' H' σd σ :=
  ⟨h.1, fun i d e => let ⟨v, h1, h2⟩ := h.2 i d e; ⟨v, h1, Rep.mono x d v h2⟩⟩
theorem Reps.len : ∀ {l : List D} {vs : List V}, Reps K μ H l vs → l.length = vs.length
  | [], _, rfl => rfl
  | _ :: l, _, ⟨v, r, rfl, _, h⟩ => congrArg (· + 1) (Reps.len h)
theorem Reps.get : ∀ {l : List D} {vs : List V} {i : Nat} {d : D}, Reps K μ H l vs → l[i]? = some d → ∃ v, vs[i]? = some v ∧ Rep K μ H d v
  | [], _, _, _, rfl, e => by simp at e
  | d :: l, _, 0, d', ⟨v, r, rfl, h1, _⟩, e => by
    have : d = d' := by simpa using e
    subst this
    exact ⟨v, rfl, h1⟩
  | _ :: l, _, i + 1, d', ⟨v, r, rfl, _, h⟩, e => by
    obtain ⟨u, h1, h2⟩ := Reps.get (i := i) h (by simpa using e)
    exact ⟨u, by simpa using h1, h2⟩
theorem Reps.back : ∀ {l : List D} {vs : List V} {i : Nat} {v : V}, Reps K μ H l vs → vs[i]? = some v → ∃ d, l[i]? = some d ∧ Rep K μ H d v := fun {l vs i v} h e => by
  have hl : i < l.length := by rw [h.len]; exact (List.getElem?_eq_some_iff.mp e).1
  obtain ⟨u, h1, h2⟩ := h.get (i := i) (d := l[i]) (List.getElem?_eq_getElem hl)
  rw [e] at h1
  cases h1
  exact ⟨l[i], List.getElem?_eq_getElem hl, h2⟩
theorem Reps.app : ∀ {l m : List D} {vs us : List V}, Reps K μ H l vs → Reps K μ H m us → Reps K μ H (l ++ m) (vs ++ us)
  | [], _, _, _, rfl, h => h
  | _ :: _, _, _, _, ⟨v, r, rfl, h1, h2⟩, h => ⟨v, r ++ _, rfl, h1, Reps.app h2 h⟩
theorem Reps.one {d : D} {v : V} (h : Rep K μ H d v) : Reps K μ H [d] [v] := ⟨v, [], rfl, h, rfl⟩
theorem Reps.take : ∀ {l : List D} {vs : List V} (n : Nat), Reps K μ H l vs → Reps K μ H (l.take n) (vs.take n)
  | [], _, n, rfl => by simp [Reps]
  | _ :: _, _, 0, ⟨v, r, rfl, h1, h2⟩ => rfl
  | _ :: _, _, n + 1, ⟨v, r, rfl, h1, h2⟩ => ⟨v, r.take n, rfl, h1, Reps.take n h2⟩
theorem Reps.drop : ∀ {l : List D} {vs : List V} (n : Nat), Reps K μ H l vs → Reps K μ H (l.drop n) (vs.drop n)
  | [], _, n, rfl => by simp [Reps]
  | _ :: _, _, 0, h => h
  | _ :: _, _, n + 1, ⟨v, r, rfl, h1, h2⟩ => Reps.drop n h2
theorem Reps.set : ∀ {l : List D} {vs : List V} {d : D} {v : V} (i : Nat), Reps K μ H l vs → Rep K μ H d v → Reps K μ H (l.set i d) (vs.set i v)
  | [], _, _, _, _, rfl, _ => rfl
  | _ :: _, _, d', v', 0, ⟨v, r, rfl, h1, h2⟩, h => ⟨v', r, rfl, h, h2⟩
  | _ :: _, _, d', v', i + 1, ⟨v, r, rfl, h1, h2⟩, h => ⟨v, r.set i v', rfl, h1, Reps.set i h2 h⟩
theorem Reps.ints : ∀ {ns : List Int} {vs : List V}, Reps K μ H (ns.map D.int) vs → vs = ns.map V.int
  | [], _, h => h
  | n :: ns, _, ⟨v, r, rfl, h1, h2⟩ => by
    have : v = V.int n := h1
    rw [this, Reps.ints h2]
    rfl
theorem Reps.strs : ∀ {ns : List Str} {vs : List V}, Reps K μ H (ns.map D.str) vs → vs = ns.map V.str
  | [], _, h => h
  | n :: ns, _, ⟨v, r, rfl, h1, h2⟩ => by
    have : v = V.str n := h1
    rw [this, Reps.strs h2]
    rfl
/-- a heap that has more -/
theorem Nx.of (k : ∀ a u, H a = some u → H' a = some u) (t : List Addr) : Nx H μ H' (μ ++ t) :=
  ⟨⟨t, rfl⟩, fun b xs => k b _, fun b o xs => k b _, fun b o xs => k b _⟩
theorem Nx.of0 (k : ∀ a u, H a = some u → H' a = some u) : Nx H μ H' μ := by
  have := Nx.of (μ := μ) k []
  rwa [List.append_nil] at this
theorem keep_new {p : Addr} {o : HO} (hp : H p = none) : ∀ a u, H a = some u → upd H p o a = some u := fun a u e => by
  rw [upd_ne (ne_of_none e hp)]
  exact e
theorem Nx.new {p : Addr} {o : HO} (hp : H p = none) (t : List Addr) : Nx H μ (upd H p o) (μ ++ t) := Nx.of (keep_new hp) t
theorem Nx.new0 {p : Addr} {o : HO} (hp : H p = none) : Nx H μ (upd H p o) μ := Nx.of0 (keep_new hp)
theorem ORep.mono {o : O} {a : Addr} (x : Nx H μ H' μ') (k : ∀ u, H a = some u → H' a = some u) (h : ORep K μ H o a) : ORep K μ' H' o a := by
  cases o with
  | lst l => obtain ⟨vs, h1, h2⟩ := h; exact ⟨vs, k _ h1, Reps.mono x _ _ h2⟩
  | dK l => obtain ⟨vs, h1, h2⟩ := h; exact ⟨vs, k _ h1, RepK.mono x _ _ h2⟩
  | dT l => obtain ⟨vs, h1, h2⟩ := h; exact ⟨vs, k _ h1, RepK.mono x _ _ h2⟩
  | ins C fs => obtain ⟨dx, vs, h1, h2⟩ := h; exact ⟨dx, vs, k _ h1, RepK.mono x _ _ h2⟩
theorem ORep.there {o : O} {a : Addr} (h : ORep K μ H o a) : ∃ u, H a = some u ∧ Mut (some u) := by
  cases o with
  | lst l => obtain ⟨vs, h1, h2⟩ := h; exact ⟨_, h1, trivial⟩
  | dK l => obtain ⟨vs, h1, h2⟩ := h; exact ⟨_, h1, trivial⟩
  | dT l => obtain ⟨vs, h1, h2⟩ := h; exact ⟨_, h1, trivial⟩
  | ins C fs => obtain ⟨dx, vs, h1, h2⟩ := h; exact ⟨_, h1, trivial⟩
theorem Ok.at {S : Os} {n : Nat} {a : Addr} (h : Ok K μ S H) (e : μ[n]? = some a) : ∃ o, S[n]? = some o ∧ ORep K μ H o a := by
  have hl : n < S.length := by rw [← h.len]; exact (List.getElem?_eq_some_iff.mp e).1
  exact ⟨S[n], List.getElem?_eq_getElem hl, h.obj n _ a (List.getElem?_eq_getElem hl) e⟩
theorem Ok.addr {S : Os} {n : Nat} {o : O} (h : Ok K μ S H) (e : S[n]? = some o) : ∃ a, μ[n]? = some a ∧ ORep K μ H o a := by
  have hl : n < μ.length := by rw [h.len]; exact (List.getElem?_eq_some_iff.mp e).1
  exact ⟨μ[n], List.getElem?_eq_getElem hl, h.obj n _ _ e (List.getElem?_eq_getElem hl)⟩
theorem Ok.mem {S : Os} {a : Addr} (h : Ok K μ S H) (e : a ∈ μ) : ∃ u, H a = some u ∧ Mut (some u) := by
  obtain ⟨n, hn⟩ := List.getElem?_of_mem e
  obtain ⟨o, _, r⟩ := h.at hn
  exact r.there
theorem Ok.notmem {S : Os} {p : Addr} (h : Ok K μ S H) (hp : H p = none) : p ∉ μ := fun e => by
  obtain ⟨u, q, _⟩ := h.mem e
  rw [hp] at q
  cases q
theorem Ok.more {S : Os} (k : ∀ a u, H a = some u → H' a = some u) (h : Ok K μ S H) : Ok K μ S H' :=
  ⟨h.len, h.nd, fun n o a e1 e2 => ORep.mono (Nx.of0 k) (k a) (h.obj n o a e1 e2)⟩
theorem Ok.new0 {S : Os} {p : Addr} {o : HO} (hp : H p = none) (h : Ok K μ S H) : Ok K μ S (upd H p o) := h.more (keep_new hp)
/-- an object is made at p and taken up -/
theorem Ok.alloc {S : Os} {p : Addr} {u : HO} {o : O} (h : Ok K μ S H) (hp : H p = none) (r : ORep K (μ ++ [p]) (upd H p u) o p) : Ok K (μ ++ [p]) (S ++ [o]) (upd H p u) where
  len := by rw [List.length_append, List.length_append, h.len]; rfl
  nd := by
    refine List.nodup_append.mpr ⟨h.nd, by simp, ?_⟩
    intro a ha b hb
    rw [List.mem_singleton] at hb
    rintro rfl
    exact h.notmem hp (hb ▸ ha)
  obj := fun n o' a e1 e2 => by
    by_cases hn : n < S.length
    · rw [List.getElem?_append_left hn] at e1
      rw [List.getElem?_append_left (by rw [h.len]; exact hn)] at e2
      exact ORep.mono (Nx.new hp [p]) (keep_new hp a) (h.obj n o' a e1 e2)
    · have hn' : S.length ≤ n := Nat.le_of_not_lt hn
      rw [List.getElem?_append_right hn'] at e1
      rw [List.getElem?_append_right (by rw [h.len]; exact hn'), h.len] at e2
      have z : n - S.length = 0 := by
        have := (List.getElem?_eq_some_iff.mp e1).1
        simp at this
        omega
      rw [z] at e1 e2
      have q1 : o = o' := by simpa using e1
      have q2 : p = a := by simpa using e2
      subst q1; subst q2
      exact r
theorem Ok.loc_new {S : Os} {p : Addr} (h : Ok K μ S H) (v : Addr) : (μ ++ [p])[S.length]? = some p := by
  rw [← h.len]
  simp
/-- an object is changed -/
theorem Nx.put {S : Os} {a : Addr} {u : HO} (h : Ok K μ S H) (ha : a ∈ μ) : Nx H μ (upd H a u) μ := by
  obtain ⟨w, q, mu⟩ := h.mem ha
  have ne : ∀ b x, H b = some x → ¬ Mut (some x) → b ≠ a := fun b x e m z => by
    subst z
    rw [q] at e
    cases e
    exact m mu
  refine ⟨⟨[], (List.append_nil _).symm⟩, fun b xs e => ?_, fun b o xs e => ?_, fun b o xs e => ?_⟩
  · rw [upd_ne (ne b _ e fun z => z)]; exact e
  · rw [upd_ne (ne b _ e fun z => z)]; exact e
  · rw [upd_ne (ne b _ e fun z => z)]; exact e
theorem Ok.put {S : Os} {n : Nat} {a : Addr} {u : HO} {o : O} (h : Ok K μ S H) (e : μ[n]? = some a) (r : ORep K μ (upd H a u) o a) : Ok K μ (S.set n o) (upd H a u) where
  len := by rw [List.length_set]; exact h.len
  nd := h.nd
  obj := fun m o' b e1 e2 => by
    have ha : a ∈ μ := List.mem_of_getElem? e
    by_cases hm : m = n
    · subst hm
      have hl : m < S.length := by rw [← h.len]; exact (List.getElem?_eq_some_iff.mp e).1
      rw [List.getElem?_set_self hl] at e1
      cases e1
      rw [e] at e2
      cases e2
      exact r
    · rw [List.getElem?_set_ne (Ne.symm hm)] at e1
      have hb : b ≠ a := fun z => by
        subst z
        obtain ⟨l1, q1⟩ := List.getElem?_eq_some_iff.mp e
        obtain ⟨l2, q2⟩ := List.getElem?_eq_some_iff.mp e2
        exact hm ((List.getElem_inj h.nd).mp (q2.trans q1.symm))
      exact ORep.mono (Nx.put h ha) (fun x q => by rw [upd_ne hb]; exact q) (h.obj m o' b e1 e2)
theorem FrRel.set {σd : Fr} {σ : L2.St} {i : Nat} {d : D} {v : V} (h : FrRel K μ H σd σ) (r : Rep K μ H d v) : FrRel K μ H (σd.set i (some d)) (σ.set i (some v)) := by
  refine ⟨by rw [List.length_set, List.length_set]; exact h.1, fun j d' e => ?_⟩
  by_cases hj : j = i
  · subst hj
    have hl : j < σd.length := by
      have := (List.getElem?_eq_some_iff.mp e).1
      rwa [List.length_set] at this
    rw [List.getElem?_set_self hl] at e
    cases e
    exact ⟨v, by rw [List.getElem?_set_self (by rw [← h.1]; exact hl)], r⟩
  · rw [List.getElem?_set_ne (Ne.symm hj)] at e
    obtain ⟨u, h1, h2⟩ := h.2 j d' e
    exact ⟨u, by rw [List.getElem?_set_ne (Ne.symm hj)]; exact h1, h2⟩
end

/-! ### readings that go by data -/
section
variable (K : PySem.W.Frag)
/-- what is wished of a result -/
def Pst (W : WX) (σ : L2.St) (Q : VK) (μ : List Addr) (H : Hp) (r : Res D) : Prop := match r with
  | .ok d S => ∀ μ' H' v, Nx H μ H' μ' → Ok K μ' S H' → Rep K μ' H' d v → Q v H'
  | .exn e S => ∀ μ' H' c dd, Nx H μ H' μ' → Ok K μ' S H' → ExRep K μ' H' e c dd → W c dd σ H'
  | .bad => False
def PstA (W : WX) (σ : L2.St) (Q : List V → Hp → Prop) (μ : List Addr) (H : Hp) (r : Res (List D)) : Prop := match r with
  | .ok d S => ∀ μ' H' v, Nx H μ H' μ' → Ok K μ' S H' → Reps K μ' H' d v → Q v H'
  | .exn e S => ∀ μ' H' c dd, Nx H μ H' μ' → Ok K μ' S H' → ExRep K μ' H' e c dd → W c dd σ H'
  | .bad => False
def PstT (W : WX) (σ : L2.St) (Q : Bool → Hp → Prop) (μ : List Addr) (H : Hp) (r : Res Bool) : Prop := match r with
  | .ok b S => ∀ μ' H', Nx H μ H' μ' → Ok K μ' S H' → Q b H'
  | .exn e S => ∀ μ' H' c dd, Nx H μ H' μ' → Ok K μ' S H' → ExRep K μ' H' e c dd → W c dd σ H'
  | .bad => False
def PstS (W : WX) (D : Ends) (μ : List Addr) (H : Hp) (r : SRes) : Prop := match r with
  | .nx σd S => ∀ μ' H' σ, Nx H μ H' μ' → Ok K μ' S H' → FrRel K μ' H' σd σ → D.nx σ H'
  | .rt d S => ∀ μ' H' v, Nx H μ H' μ' → Ok K μ' S H' → Rep K μ' H' d v → D.rt v H'
  | .bk σd S => ∀ μ' H' σ, Nx H μ H' μ' → Ok K μ' S H' → FrRel K μ' H' σd σ → D.bk σ H'
  | .ct σd S => ∀ μ' H' σ, Nx H μ H' μ' → Ok K μ' S H' → FrRel K μ' H' σd σ → D.ct σ H'
  | .exn e σd S => ∀ μ' H' c dd σ, Nx H μ H' μ' → Ok K μ' S H' → FrRel K μ' H' σd σ → ExRep K μ' H' e c dd → W c dd σ H'
  | .bad => False
def LE (W : WX) (f : ME) : TE := fun σ H Q => ∃ μ S σd, Ok K μ S H ∧ FrRel K μ H σd σ ∧ Pst K W σ Q μ H (f σd S)
def LA (W : WX) (f : MA) : TA := fun σ H Q => ∃ μ S σd, Ok K μ S H ∧ FrRel K μ H σd σ ∧ PstA K W σ Q μ H (f σd S)
def LT (W : WX) (f : MT) : TT := fun σ H Q => ∃ μ S σd, Ok K μ S H ∧ FrRel K μ H σd σ ∧ PstT K W σ Q μ H (f σd S)
def LS (W : WX) (f : MS) : TS := fun D σ H => ∃ μ S σd, Ok K μ S H ∧ FrRel K μ H σd σ ∧ PstS K W D μ H (f σd S)
end
section
variable {K : PySem.W.Frag} {W : WX} {σ : L2.St} {H H' : Hp} {μ μ' : List Addr}
theorem Pst.go {Q : VK} {r : Res D} (x : Nx H μ H' μ') (h : Pst K W σ Q μ H r) : Pst K W σ Q μ' H' r := by
  cases r with
  | ok d S => exact fun μ2 H2 v y => h μ2 H2 v (x.trans y)
  | exn e S => exact fun μ2 H2 c dd y => h μ2 H2 c dd (x.trans y)
  | bad => exact h
theorem PstA.go {Q : List V → Hp → Prop} {r : Res (List D)} (x : Nx H μ H' μ') (h : PstA K W σ Q μ H r) : PstA K W σ Q μ' H' r := by
  cases r with
  | ok d S => exact fun μ2 H2 v y => h μ2 H2 v (x.trans y)
  | exn e S => exact fun μ2 H2 c dd y => h μ2 H2 c dd (x.trans y)
  | bad => exact h
theorem PstT.go {Q : Bool → Hp → Prop} {r : Res Bool} (x : Nx H μ H' μ') (h : PstT K W σ Q μ H r) : PstT K W σ Q μ' H' r := by
  cases r with
  | ok d S => exact fun μ2 H2 y => h μ2 H2 (x.trans y)
  | exn e S => exact fun μ2 H2 c dd y => h μ2 H2 c dd (x.trans y)
  | bad => exact h
theorem PstS.go {D : Ends} {r : SRes} (x : Nx H μ H' μ') (h : PstS K W D μ H r) : PstS K W D μ' H' r := by
  cases r with
  | nx σd S => exact fun μ2 H2 s y => h μ2 H2 s (x.trans y)
  | rt d S => exact fun μ2 H2 v y => h μ2 H2 v (x.trans y)
  | bk σd S => exact fun μ2 H2 s y => h μ2 H2 s (x.trans y)
  | ct σd S => exact fun μ2 H2 s y => h μ2 H2 s (x.trans y)
  | exn e σd S => exact fun μ2 H2 c dd s y => h μ2 H2 c dd s (x.trans y)
  | bad => exact h
/-- a value is what is wished -/
theorem Pst.val {Q : VK} {d : D} {S : Os} {v : V} (h : Pst K W σ Q μ H (.ok d S)) (o : Ok K μ S H) (r : Rep K μ H d v) : Q v H := h μ H v (Nx.refl H μ) o r
end
end MX

end
section
namespace MX
open PySem PySem.Spec PyProof.Rows L2

theorem PE.imp {X : Cx} {e : Expr} {t u : TE} (h : PE X e t) (i : ∀ σ H Q, u σ H Q → t σ H Q) : PE X e u := ⟨fun pins s σ H Q I q => h.run pins s σ H Q I (i _ _ _ q)⟩
theorem PT.imp {X : Cx} {e : Expr} {t u : TT} (h : PT X e t) (i : ∀ σ H Q, u σ H Q → t σ H Q) : PT X e u := ⟨fun pins s σ H Q I q => h.run pins s σ H Q I (i _ _ _ q)⟩
theorem PA.imp {X : Cx} {e : List Expr} {t u : TA} (h : PA X e t) (i : ∀ σ H Q, u σ H Q → t σ H Q) : PA X e u := ⟨fun pos pins s σ H Q I q => h.run pos pins s σ H Q I (i _ _ _ q)⟩
theorem PS.imp {X : Cx} {e : Stmt} {t u : TS} (h : PS X e t) (i : ∀ D σ H, u D σ H → t D σ H) : PS X e u := ⟨fun pins s σ H D I q => h.run pins s σ H D I (i _ _ _ q)⟩
theorem PSs.imp {X : Cx} {e : List Stmt} {t u : TS} (h : PSs X e t) (i : ∀ D σ H, u D σ H → t D σ H) : PSs X e u := ⟨fun pins s σ H D I q => h.run pins s σ H D I (i _ _ _ q)⟩

/-! ### expressions by data -/
@[simp] def mVar (i : Nat) : ME := fun σ S => match σ[i]? with
  | some (some d) => .ok d S
  | _ => .bad
@[simp] def mC (d : D) : ME := fun _ S => .ok d S
@[simp] def mBin (op : D → D → Os → Res D) (a b : ME) : ME := fun σ S => (a σ S).bind fun x S1 => (b σ S1).bind fun y S2 => op x y S2
@[simp] def mUn (op : D → Os → Res D) (a : ME) : ME := fun σ S => (a σ S).bind fun x S1 => op x S1
@[simp] def mNil : MA := fun _ S => .ok [] S
@[simp] def mCons (a : ME) (r : MA) : MA := fun σ S => (a σ S).bind fun x S1 => (r σ S1).bind fun xs S2 => .ok (x :: xs) S2
@[simp] def mCB (op : List D → Os → Res D) (a : MA) : ME := fun σ S => (a σ S).bind fun xs S1 => op xs S1
@[simp] def mTup (a : MA) : ME := fun σ S => (a σ S).bind fun xs S1 => if xs.length ≤ sizeLine then .ok (.tup xs) S1 else .bad
@[simp] def mLst (a : MA) : ME := fun σ S => (a σ S).bind fun xs S1 => if xs.length ≤ sizeLine then .ok (.loc S1.length) (S1 ++ [.lst xs]) else .bad
def truth (S : Os) : D → Option Bool
  | .non => some false
  | .bl b => some b
  | .int i => some (i != 0)
  | _ => none
@[simp] def mTest (a : ME) : MT := fun σ S => (a σ S).bind fun x S1 => match x with
  | .bl b => .ok b S1
  | _ => .bad
@[simp] def mAnd (a b : MT) : MT := fun σ S => (a σ S).bind fun x S1 => if x = true then b σ S1 else .ok false S1
@[simp] def mOr (a b : MT) : MT := fun σ S => (a σ S).bind fun x S1 => if x = true then .ok true S1 else b σ S1
@[simp] def mNot (a : MT) : MT := fun σ S => (a σ S).bind fun x S1 => .ok (!x) S1
@[simp] def mAndV (a b : ME) : ME := fun σ S => (a σ S).bind fun x S1 => match x with
  | .bl true => b σ S1
  | .bl false => .ok (.bl false) S1
  | _ => .bad
@[simp] def mOrV (a b : ME) : ME := fun σ S => (a σ S).bind fun x S1 => match x with
  | .bl true => .ok (.bl true) S1
  | .bl false => b σ S1
  | _ => .bad
@[simp] def mNotV (a : ME) : ME := fun σ S => (a σ S).bind fun x S1 => match x with
  | .bl b => .ok (.bl (!b)) S1
  | _ => .bad
@[simp] def mIfE (t : MT) (a b : ME) : ME := fun σ S => (t σ S).bind fun x S1 => if x = true then a σ S1 else b σ S1
/-- a comparison's chain -/
@[simp] def mChain (op op' : D → D → Os → Res D) (a b c : ME) : ME := fun σ S => (a σ S).bind fun x S1 => (b σ S1).bind fun y S2 => (op x y S2).bind fun z S3 => match z with
  | .bl true => (c σ S3).bind fun u S4 => op' y u S4
  | .bl false => .ok (.bl false) S3
  | _ => .bad
/-- a callee -/
abbrev Fn := List D → Os → Res D

section
variable {K : PySem.W.Frag} {W : WX} {σ : L2.St} {H : Hp} {μ : List Addr}
/-- a result, and what comes behind it -/
theorem Pst.andThen {Q Q' : VK} {r : Res D} {g : D → Os → Res D} (p : Pst K W σ Q μ H (r.bind g))
    (k : ∀ v H1 μ1 S1 d, Nx H μ H1 μ1 → Ok K μ1 S1 H1 → Rep K μ1 H1 d v → Pst K W σ Q μ1 H1 (g d S1) → Q' v H1) : Pst K W σ Q' μ H r := by
  cases r with
  | ok d S => exact fun μ1 H1 v x o r => k v H1 μ1 S d x o r (p.go x)
  | exn e S => exact p
  | bad => exact p
theorem PstT.andThenE {Q : VK} {Q' : Bool → Hp → Prop} {r : Res Bool} {g : Bool → Os → Res D} (p : Pst K W σ Q μ H (r.bind g))
    (k : ∀ b H1 μ1 S1, Nx H μ H1 μ1 → Ok K μ1 S1 H1 → Pst K W σ Q μ1 H1 (g b S1) → Q' b H1) : PstT K W σ Q' μ H r := by
  cases r with
  | ok d S => exact fun μ1 H1 x o => k d H1 μ1 S x o (p.go x)
  | exn e S => exact p
  | bad => exact p
theorem PstA.andThenE {Q : VK} {Q' : List V → Hp → Prop} {r : Res (List D)} {g : List D → Os → Res D} (p : Pst K W σ Q μ H (r.bind g))
    (k : ∀ v H1 μ1 S1 d, Nx H μ H1 μ1 → Ok K μ1 S1 H1 → Reps K μ1 H1 d v → Pst K W σ Q μ1 H1 (g d S1) → Q' v H1) : PstA K W σ Q' μ H r := by
  cases r with
  | ok d S => exact fun μ1 H1 v x o r => k v H1 μ1 S d x o r (p.go x)
  | exn e S => exact p
  | bad => exact p
theorem Pst.andThenA {Q : List V → Hp → Prop} {Q' : VK} {r : Res D} {g : D → Os → Res (List D)} (p : PstA K W σ Q μ H (r.bind g))
    (k : ∀ v H1 μ1 S1 d, Nx H μ H1 μ1 → Ok K μ1 S1 H1 → Rep K μ1 H1 d v → PstA K W σ Q μ1 H1 (g d S1) → Q' v H1) : Pst K W σ Q' μ H r := by
  cases r with
  | ok d S => exact fun μ1 H1 v x o r => k v H1 μ1 S d x o r (p.go x)
  | exn e S => exact p
  | bad => exact p
theorem PstA.andThenA {Q : List V → Hp → Prop} {Q' : List V → Hp → Prop} {r : Res (List D)} {g : List D → Os → Res (List D)} (p : PstA K W σ Q μ H (r.bind g))
    (k : ∀ v H1 μ1 S1 d, Nx H μ H1 μ1 → Ok K μ1 S1 H1 → Reps K μ1 H1 d v → PstA K W σ Q μ1 H1 (g d S1) → Q' v H1) : PstA K W σ Q' μ H r := by
  cases r with
  | ok d S => exact fun μ1 H1 v x o r => k v H1 μ1 S d x o r (p.go x)
  | exn e S => exact p
  | bad => exact p
theorem Pst.andThenT {Q : Bool → Hp → Prop} {Q' : VK} {r : Res D} {g : D → Os → Res Bool} (p : PstT K W σ Q μ H (r.bind g))
    (k : ∀ v H1 μ1 S1 d, Nx H μ H1 μ1 → Ok K μ1 S1 H1 → Rep K μ1 H1 d v → PstT K W σ Q μ1 H1 (g d S1) → Q' v H1) : Pst K W σ Q' μ H r := by
  cases r with
  | ok d S => exact fun μ1 H1 v x o r => k v H1 μ1 S d x o r (p.go x)
  | exn e S => exact p
  | bad => exact p
theorem PstT.andThenT {Q : Bool → Hp → Prop} {Q' : Bool → Hp → Prop} {r : Res Bool} {g : Bool → Os → Res Bool} (p : PstT K W σ Q μ H (r.bind g))
    (k : ∀ b H1 μ1 S1, Nx H μ H1 μ1 → Ok K μ1 S1 H1 → PstT K W σ Q μ1 H1 (g b S1) → Q' b H1) : PstT K W σ Q' μ H r := by
  cases r with
  | ok d S => exact fun μ1 H1 x o => k d H1 μ1 S x o (p.go x)
  | exn e S => exact p
  | bad => exact p
/-- an operator by data -/
def RD2 (K : PySem.W.Frag) (r : R2) (op : D → D → Os → Res D) : Prop := ∀ (W : WX) (σ : L2.St) (Q : VK) (μ : List Addr) (S : Os) (H : Hp) (d e : D) (x y : V), Ok K μ S H → Rep K μ H d x → Rep K μ H e y → Pst K W σ Q μ H (op d e S) → r x y H Q
def RDC (K : PySem.W.Frag) (r : List V → Hp → VK → Prop) (op : List D → Os → Res D) : Prop := ∀ (W : WX) (σ : L2.St) (Q : VK) (μ : List Addr) (S : Os) (H : Hp) (ds : List D) (xs : List V), Ok K μ S H → Reps K μ H ds xs → Pst K W σ Q μ H (op ds S) → r xs H Q
def RD1 (K : PySem.W.Frag) (r : V → Hp → VK → Prop) (op : D → Os → Res D) : Prop := ∀ (W : WX) (σ : L2.St) (Q : VK) (μ : List Addr) (S : Os) (H : Hp) (d : D) (x : V), Ok K μ S H → Rep K μ H d x → Pst K W σ Q μ H (op d S) → r x H Q
end
section
variable {X : Cx} {W : WX} {a b c : Expr} {es : List Expr} {fa fb fc : ME} {pos : Pos}
theorem e_var {e : Expr} (i : Nat) (h : PE X e (tVar i)) : PE X e (LE X.K W (mVar i)) :=
  PE.imp h fun σ H Q ⟨μ, S, σd, o, f, p⟩ => by
    unfold mVar at p
    cases e : σd[i]? with
    | none => rw [e] at p; exact p.elim
    | some od =>
      cases od with
      | none => rw [e] at p; exact p.elim
      | some d =>
        rw [e] at p
        obtain ⟨v, h1, h2⟩ := f.2 i d e
        exact ⟨v, h1, p.val o h2⟩
theorem e_con {d : D} {v : V} {e : Expr} (h : PE X e (tC v)) (r : ∀ μ H, Rep X.K μ H d v) : PE X e (LE X.K W (mC d)) := PE.imp h fun σ H Q ⟨μ, S, σd, o, f, p⟩ => p.val o (r _ _)
theorem e_int {i : Int} {j} : PE X (.Constant (.int i) j pos) (LE X.K W (mC (.int i))) := e_con pe_int fun _ _ => rfl
theorem e_str {i : Str} {j} : PE X (.Constant (.str i) j pos) (LE X.K W (mC (.str i))) := e_con pe_str fun _ _ => rfl
theorem e_bl {i : Bool} {j} : PE X (.Constant (.bool i) j pos) (LE X.K W (mC (.bl i))) := e_con pe_bl fun _ _ => rfl
theorem e_non {j} : PE X (.Constant .none j pos) (LE X.K W (mC .non)) := e_con pe_non fun _ _ => rfl
theorem le_bin {r : R2} {op : D → D → Os → Res D} (hr : RD2 X.K r op) (σ : L2.St) (H : Hp) (Q : VK) (h : LE X.K W (mBin op fa fb) σ H Q) : tOp r (LE X.K W fa) (LE X.K W fb) σ H Q := by
  obtain ⟨μ, S, σd, o, f, p⟩ := h
  exact ⟨μ, S, σd, o, f, p.andThen fun v H1 μ1 S1 d x o1 r1 p1 => ⟨μ1, S1, σd, o1, f.mono x, p1.andThen fun u H2 μ2 S2 e y o2 r2 p2 => hr W σ Q μ2 S2 H2 d e v u o2 (r1.mono y) r2 p2⟩⟩
theorem e_bin {r : R2} {op : D → D → Os → Res D} {bo : Operator} (ho : OpR X (binaryOp bo) r) (hr : RD2 X.K r op) (ha : PE X a (LE X.K W fa)) (hb : PE X b (LE X.K W fb)) : PE X (.BinOp a bo b pos) (LE X.K W (mBin op fa fb)) :=
  PE.imp (pe_op ho ha hb) (le_bin hr)
theorem e_cmp {r : R2} {op : D → D → Os → Res D} {bo : CmpOp} (ho : OpR X (compareOp bo) r) (hr : RD2 X.K r op) (ha : PE X a (LE X.K W fa)) (hb : PE X b (LE X.K W fb)) (hm : behindInMarks bo b = false) : PE X (.Compare a [bo] [b] pos) (LE X.K W (mBin op fa fb)) :=
  PE.imp (pe_cmpR ho ha hb hm) (le_bin hr)
theorem e_ix {r : R2} {op : D → D → Os → Res D} (ho : IxR X r) (hr : RD2 X.K r op) (ha : PE X a (LE X.K W fa)) (hb : PE X b (LE X.K W fb)) (hs : PlainIx b) : PE X (.Subscript a b pos) (LE X.K W (mBin op fa fb)) :=
  PE.imp (pe_ix ho ha hb hs) (le_bin hr)
theorem e_un {r : V → Hp → VK → Prop} {op : D → Os → Res D} {bo : UnaryOp} (ho : UnR X (unaryOp bo) r) (hr : RD1 X.K r op) (ha : PE X a (LE X.K W fa)) : PE X (.UnaryOp bo a pos) (LE X.K W (mUn op fa)) :=
  PE.imp (pe_un ho ha) fun σ H Q ⟨μ, S, σd, o, f, p⟩ => ⟨μ, S, σd, o, f, p.andThen fun v H1 μ1 S1 d x o1 r1 p1 => hr W σ Q μ1 S1 H1 d v o1 r1 p1⟩
theorem a_nil : PA X [] (LA X.K W mNil) := PA.imp pa_nil fun σ H Q ⟨μ, S, σd, o, f, p⟩ => p μ H [] (Nx.refl H μ) o rfl
theorem a_cons {fr : MA} (ha : PE X a (LE X.K W fa)) (hr : PA X es (LA X.K W fr)) (hs : starEach (a :: es) X.env = (false, eval a X.env) :: starEach es X.env := by rfl) : PA X (a :: es) (LA X.K W (mCons fa fr)) :=
  PA.imp (pa_cons ha hr hs) fun σ H Q ⟨μ, S, σd, o, f, p⟩ => ⟨μ, S, σd, o, f, Pst.andThenA p fun v H1 μ1 S1 d x o1 r1 p1 => ⟨μ1, S1, σd, o1, f.mono x, PstA.andThenA p1 fun vs H2 μ2 S2 ds y o2 r2 p2 => p2 μ2 H2 (v :: vs) (Nx.refl H2 μ2) o2 ⟨v, vs, rfl, r1.mono y, r2⟩⟩⟩
end
end MX

end
section
namespace MX
open PySem PySem.Spec PyProof.Rows L2

theorem OpR.or {X : Cx} {f : Value → Value → Sem Value} {r r' : R2} (h : OpR X f r) (h' : OpR X f r') : OpR X f (fun x y H Q => r x y H Q ∨ r' x y H Q) := by
  intro pins s σ H x y v u Q I rx ry q
  rcases q with q | q
  · exact h pins s σ H x y v u Q I rx ry q
  · exact h' pins s σ H x y v u Q I rx ry q
theorem CallR.or {X : Cx} {f : Value} {r r' : List V → Hp → VK → Prop} (h : CallR X f r) (h' : CallR X f r') : CallR X f (fun x H Q => r x H Q ∨ r' x H Q) := by
  intro pins s σ H xs us Q I rx q
  rcases q with q | q
  · exact h pins s σ H xs us Q I rx q
  · exact h' pins s σ H xs us Q I rx q
section
variable {K : PySem.W.Frag} {μ : List Addr} {H : Hp} {S : Os}
/-- the list of an object -/
def lstAt (S : Os) (n : Nat) : Option (List D) := match S[n]? with
  | some (.lst l) => some l
  | _ => none
theorem Ok.lst {n : Nat} {l : List D} {x : V} (o : Ok K μ S H) (e : lstAt S n = some l) (r : Rep K μ H (.loc n) x) : ∃ a vs, μ[n]? = some a ∧ x = .ref a ∧ H a = some (.lst vs) ∧ Reps K μ H l vs := by
  unfold lstAt at e
  obtain ⟨a, h1, h2⟩ := r
  cases q : S[n]? with
  | none => rw [q] at e; cases e
  | some ob =>
    rw [q] at e
    cases ob with
    | lst l' =>
      cases e
      obtain ⟨vs, h3, h4⟩ := o.obj n _ a q h1
      exact ⟨a, vs, h1, h2, h3, h4⟩
    | _ => cases e
/-- a new list -/
theorem new_lst {W : WX} {σ : L2.St} {Q : VK} {l : List D} {vs : List V} (o : Ok K μ S H) (r : Reps K μ H l vs) (p : Pst K W σ Q μ H (.ok (.loc S.length) (S ++ [.lst l]))) (a : Addr) (ha : H a = none) : Q (.ref a) (upd H a (.lst vs)) :=
  p (μ ++ [a]) _ (.ref a) (Nx.new ha [a]) (o.alloc ha ⟨vs, upd_same, Reps.mono (Nx.new ha [a]) _ _ r⟩) ⟨a, o.loc_new a, rfl⟩
/-- a new tuple -/
theorem new_tup {W : WX} {σ : L2.St} {Q : VK} {l : List D} {vs : List V} (o : Ok K μ S H) (r : Reps K μ H l vs) (p : Pst K W σ Q μ H (.ok (.tup l) S)) (a : Addr) (ha : H a = none) : Q (.ref a) (upd H a (.tup vs)) :=
  p μ _ (.ref a) (Nx.new0 ha) (o.new0 ha) ⟨a, vs, rfl, .inl (.inl upd_same), Reps.mono (Nx.new0 ha) _ _ r⟩
/-- a list that changes -/
theorem put_lst {n : Nat} {a : Addr} {l : List D} {vs : List V} (o : Ok K μ S H) (e : μ[n]? = some a) (r : Reps K μ H l vs) : Ok K μ (S.set n (.lst l)) (upd H a (.lst vs)) :=
  o.put e ⟨vs, upd_same, Reps.mono (Nx.put o (List.mem_of_getElem? e)) _ _ r⟩
end

theorem Pst.ite {K : PySem.W.Frag} {W : WX} {σ : L2.St} {Q : VK} {μ : List Addr} {H : Hp} {c : Prop} [Decidable c] {r : Res D} (p : Pst K W σ Q μ H (if c then r else .bad)) : c ∧ Pst K W σ Q μ H r := by
  by_cases h : c
  · rw [if_pos h] at p
    exact ⟨h, p⟩
  · rw [if_neg h] at p
    exact p.elim
/-! ### + -/
@[simp] def addD : D → D → Os → Res D
  | .int i, .int j, S => .ok (.int (i + j)) S
  | .str a, .str b, S => if a.length + b.length ≤ sizeLine then .ok (.str (a ++ b)) S else .bad
  | .loc a, .loc b, S => match lstAt S a, lstAt S b with
    | some l, some m => if l.length + m.length ≤ sizeLine then .ok (.loc S.length) (S ++ [.lst (l ++ m)]) else .bad
    | _, _ => .bad
  | .tup l, .tup m, S => if l.length + m.length ≤ sizeLine ∧ l ≠ [] then .ok (.tup (l ++ m)) S else .bad
  | _, _, _ => .bad
def rStrAdd : R2 := fun x y H Q => ∃ i j, x = .str i ∧ y = .str j ∧ i.length + j.length ≤ sizeLine ∧ Q (.str (i ++ j)) H
def rAddD (K : PySem.W.Frag) : R2 := fun x y H Q => rI0 (fun i j => .int (i + j)) x y H Q ∨ (rStrAdd x y H Q ∨ (rCat x y H Q ∨ rCatT K x y H Q))
theorem o_add {X : Cx} : OpR X (binaryOp .Add) (rAddD X.K) := OpR.or op_add (OpR.or op_add_str (OpR.or op_cat op_catT))
theorem rd_add {K : PySem.W.Frag} : RD2 K (rAddD K) addD := by
  intro W σ Q μ S H d e x y o rx ry p
  cases d <;> cases e <;> try exact p.elim
  · cases rx; cases ry
    exact .inl ⟨_, _, rfl, rfl, p.val o rfl⟩
  · cases rx; cases ry
    refine .inr (.inl ?_)
    dsimp only [addD] at p
    obtain ⟨h, p⟩ := p.ite
    exact ⟨_, _, rfl, rfl, h, p.val o rfl⟩
  · rename_i l m
    obtain ⟨a, vs, rfl, h1, h2⟩ := rx
    obtain ⟨b, us, rfl, h3, h4⟩ := ry
    refine .inr (.inr (.inr ?_))
    dsimp only [addD] at p
    obtain ⟨h, p⟩ := p.ite
    refine ⟨a, b, vs, us, rfl, rfl, h1, h3, ?_, by rw [← h2.len, ← h4.len]; exact h.1, fun z => ?_, fun _ q hq => new_tup o (h2.app h4) p q hq⟩
    · intro z
      have := h2.len
      rw [z] at this
      exact h.2 (List.length_eq_zero_iff.mp this)
    · have : m = [] := by
        have := h4.len
        rw [z] at this
        exact List.length_eq_zero_iff.mp this
      subst this
      rw [List.append_nil] at p
      exact p.val o ⟨a, vs, rfl, h1, h2⟩
  · rename_i n m
    refine .inr (.inr (.inl ?_))
    dsimp only [addD] at p
    cases e1 : lstAt S n with
    | none => rw [e1] at p; exact p.elim
    | some l =>
      cases e2 : lstAt S m with
      | none => rw [e1, e2] at p; exact p.elim
      | some k =>
        rw [e1, e2] at p
        dsimp only at p
        obtain ⟨a, vs, _, rfl, h2, h3⟩ := o.lst e1 rx
        obtain ⟨b, us, _, rfl, h5, h6⟩ := o.lst e2 ry
        obtain ⟨h, p⟩ := p.ite
        exact ⟨a, b, vs, us, rfl, rfl, h2, h5, by rw [← h3.len, ← h6.len]; exact h, fun q hq => new_lst o (h3.app h6) p q hq⟩
/-! ### ints -/
@[simp] def intD (g : Int → Int → D) (C : Int → Int → Prop) [∀ i j, Decidable (C i j)] : D → D → Os → Res D
  | .int i, .int j, S => if C i j then .ok (g i j) S else .bad
  | _, _, _ => .bad
theorem rd_int {K : PySem.W.Frag} {C : Int → Int → Prop} [∀ i j, Decidable (C i j)] {g : Int → Int → Int} : RD2 K (rI C fun i j => .int (g i j)) (intD (fun i j => .int (g i j)) C) := by
  intro W σ Q μ S H d e x y o rx ry p
  cases d <;> cases e <;> try exact p.elim
  cases rx; cases ry
  dsimp only [intD] at p
  obtain ⟨h, p⟩ := p.ite
  exact ⟨_, _, rfl, rfl, h, p.val o rfl⟩
@[simp] def subD : D → D → Os → Res D
  | .int i, .int j, S => .ok (.int (i - j)) S
  | _, _, _ => .bad
theorem rd_sub {K : PySem.W.Frag} : RD2 K (rI0 fun i j => .int (i - j)) subD := by
  intro W σ Q μ S H d e x y o rx ry p
  cases d <;> cases e <;> try exact p.elim
  cases rx; cases ry
  exact ⟨_, _, rfl, rfl, p.val o rfl⟩
instance : ∀ i j, Decidable (CDivN i j) := fun i j => by unfold CDivN; infer_instance
instance : ∀ i j, Decidable (CPow i j) := fun i j => by unfold CPow; infer_instance
instance : ∀ i j, Decidable (CMul i j) := fun i j => by unfold CMul; infer_instance
abbrev fdivD := intD (fun i j => .int (i.fdiv j)) CDivN
abbrev modD := intD (fun i j => .int (i.fmod j)) (fun _ j => j ≠ 0)
abbrev powD := intD (fun i j => .int (i ^ j.toNat)) CPow
/-! ### * -/
def repStr (a : Str) (n : Nat) : Str := ⟨(List.replicate n a.cps.toList).flatten.toArray⟩
@[simp] def mulD : D → D → Os → Res D
  | .int i, .int j, S => if CMul i j then .ok (.int (i * j)) S else .bad
  | .loc n, .int k, S => match lstAt S n with
    | some l => if -(2 ^ 63) ≤ k ∧ k < 2 ^ 63 ∧ l.length * k.toNat ≤ sizeLine then .ok (.loc S.length) (S ++ [.lst (List.replicate k.toNat l).flatten]) else .bad
    | none => .bad
  | _, _, _ => .bad
theorem Reps.rep {K : PySem.W.Frag} {μ : List Addr} {H : Hp} {l : List D} {vs : List V} (h : Reps K μ H l vs) : ∀ n, Reps K μ H (List.replicate n l).flatten (List.replicate n vs).flatten
  | 0 => rfl
  | n + 1 => by
    rw [List.replicate_succ, List.replicate_succ, List.flatten_cons, List.flatten_cons]
    exact h.app (Reps.rep h n)
theorem rd_mul {K : PySem.W.Frag} : RD2 K (fun x y H Q => rI CMul (fun i j => .int (i * j)) x y H Q ∨ rRep x y H Q) mulD := by
  intro W σ Q μ S H d e x y o rx ry p
  cases d <;> cases e <;> try exact p.elim
  · cases rx; cases ry
    dsimp only [mulD] at p
    obtain ⟨h, p⟩ := p.ite
    exact .inl ⟨_, _, rfl, rfl, h, p.val o rfl⟩
  · rename_i n k
    cases ry
    dsimp only [mulD] at p
    cases e1 : lstAt S n with
    | none => rw [e1] at p; exact p.elim
    | some l =>
      rw [e1] at p
      dsimp only at p
      obtain ⟨a, vs, _, rfl, h2, h3⟩ := o.lst e1 rx
      obtain ⟨h, p⟩ := p.ite
      exact .inr ⟨a, k, vs, rfl, rfl, h2, h.1, h.2.1, by rw [← h3.len]; exact h.2.2, fun q hq => new_lst o (h3.rep _) p q hq⟩
theorem o_mul {X : Cx} : OpR X (binaryOp .Mult) (fun x y H Q => rI CMul (fun i j => .int (i * j)) x y H Q ∨ rRep x y H Q) := OpR.or op_mul op_rep
/-! ### < <= > >= -/
@[simp] def ltD : D → D → Os → Res D
  | .int i, .int j, S => .ok (.bl (decide (i < j))) S
  | .str i, .str j, S => .ok (.bl (decide (i.cps.toList < j.cps.toList))) S
  | _, _, _ => .bad
def rLtS : R2 := fun x y H Q => ∃ i j, x = .str i ∧ y = .str j ∧ Q (.bl (decide (i.cps.toList < j.cps.toList))) H
theorem o_lt {X : Cx} : OpR X (compareOp .Lt) (fun x y H Q => rI0 (fun i j => .bl (decide (i < j))) x y H Q ∨ rLtS x y H Q) := OpR.or op_lt op_lt_str
theorem rd_lt {K : PySem.W.Frag} : RD2 K (fun x y H Q => rI0 (fun i j => .bl (decide (i < j))) x y H Q ∨ rLtS x y H Q) ltD := by
  intro W σ Q μ S H d e x y o rx ry p
  cases d <;> cases e <;> try exact p.elim
  · cases rx; cases ry
    exact .inl ⟨_, _, rfl, rfl, p.val o rfl⟩
  · cases rx; cases ry
    exact .inr ⟨_, _, rfl, rfl, p.val o rfl⟩
@[simp] def cmpI (g : Int → Int → Bool) : D → D → Os → Res D
  | .int i, .int j, S => .ok (.bl (g i j)) S
  | _, _, _ => .bad
theorem rd_cmp {K : PySem.W.Frag} {g : Int → Int → Bool} : RD2 K (rI0 fun i j => .bl (g i j)) (cmpI g) := by
  intro W σ Q μ S H d e x y o rx ry p
  cases d <;> cases e <;> try exact p.elim
  cases rx; cases ry
  exact ⟨_, _, rfl, rfl, p.val o rfl⟩
abbrev leD := cmpI fun i j => decide (i ≤ j)
abbrev gtD := cmpI fun i j => decide (j < i)
abbrev geD := cmpI fun i j => decide (j ≤ i)
/-! ### == != on flat things, is -/
@[simp] def eqF : D → D → Option Bool
  | .non, .non => some true
  | .non, .int _ => some false
  | .int _, .non => some false
  | .non, .bl _ => some false
  | .bl _, .non => some false
  | .non, .str _ => some false
  | .str _, .non => some false
  | .int i, .int j => some (decide (i = j))
  | .bl i, .bl j => some (decide (i = j))
  | .str i, .str j => some (decide (i = j))
  | .int _, .str _ => some false
  | .str _, .int _ => some false
  | .bl _, .str _ => some false
  | .str _, .bl _ => some false
  | _, _ => none
theorem eqF_ok {K : PySem.W.Frag} {μ : List Addr} {H : Hp} {d e : D} {x y : V} {b : Bool} (rx : Rep K μ H d x) (ry : Rep K μ H e y) (h : eqF d e = some b) : scal x y = true ∧ decide (x = y) = b := by
  cases d <;> cases e <;> first | (cases rx; cases ry; simp_all [eqF, scal]) | (simp [eqF] at h)
@[simp] def eqD (neg : Bool) : D → D → Os → Res D := fun d e S => match eqF d e with
  | some b => .ok (.bl (if neg then !b else b)) S
  | none => .bad
theorem rd_eq {K : PySem.W.Frag} : RD2 K rEq (eqD false) := by
  intro W σ Q μ S H d e x y o rx ry p
  unfold eqD at p
  cases h : eqF d e with
  | none => rw [h] at p; exact p.elim
  | some b =>
    rw [h] at p
    obtain ⟨h1, h2⟩ := eqF_ok rx ry h
    exact ⟨h1, by rw [h2]; exact p.val o rfl⟩
theorem rd_ne {K : PySem.W.Frag} : RD2 K rNe (eqD true) := by
  intro W σ Q μ S H d e x y o rx ry p
  unfold eqD at p
  cases h : eqF d e with
  | none => rw [h] at p; exact p.elim
  | some b =>
    rw [h] at p
    obtain ⟨h1, h2⟩ := eqF_ok rx ry h
    exact ⟨h1, by rw [h2]; exact p.val o rfl⟩
end MX

end
section
namespace MX
open PySem PySem.Spec PyProof.Rows L2
section
variable {X : Cx} {W : WX} {a b c : Expr} {es : List Expr} {fa fb fc : ME} {fs : MA} {ft fu : MT} {pos : Pos}
/-! ### compositions -/
theorem le_cb {K : PySem.W.Frag} {r : List V → Hp → VK → Prop} {op : List D → Os → Res D} (hr : RDC K r op) (σ : L2.St) (H : Hp) (Q : VK) (h : LE K W (mCB op fs) σ H Q) : tCB r (LA K W fs) σ H Q := by
  obtain ⟨μ, S, σd, o, f, p⟩ := h
  exact ⟨μ, S, σd, o, f, PstA.andThenE p fun v H1 μ1 S1 d x o1 r1 p1 => hr W σ Q μ1 S1 H1 d v o1 r1 p1⟩
theorem e_tup {x1} (h : PA X es (LA X.K W fs)) : PE X (.Tuple es x1 pos) (LE X.K W (mTup fs)) :=
  PE.imp (pe_tup h) fun σ H Q ⟨μ, S, σd, o, f, p⟩ => ⟨μ, S, σd, o, f, PstA.andThenE p fun v H1 μ1 S1 d x o1 r1 p1 => by
    obtain ⟨q, p1⟩ := p1.ite
    exact ⟨by rw [← r1.len]; exact q, fun a ha => new_tup o1 r1 p1 a ha⟩⟩
theorem e_lst (h : PA X es (LA X.K W fs)) : PE X (.List es pos) (LE X.K W (mLst fs)) :=
  PE.imp (pe_lst h) fun σ H Q ⟨μ, S, σd, o, f, p⟩ => ⟨μ, S, σd, o, f, PstA.andThenE p fun v H1 μ1 S1 d x o1 r1 p1 => by
    obtain ⟨q, p1⟩ := p1.ite
    exact ⟨by rw [← r1.len]; exact q, fun a ha => new_lst o1 r1 p1 a ha⟩⟩
theorem le_test (σ : L2.St) (H : Hp) (Q : Bool → Hp → Prop) (h : LT X.K W (mTest fa) σ H Q) : tB (LE X.K W fa) σ H Q := by
  obtain ⟨μ, S, σd, o, f, p⟩ := h
  refine ⟨μ, S, σd, o, f, Pst.andThenT p fun v H1 μ1 S1 d x o1 r1 p1 => ?_⟩
  cases d <;> try exact p1.elim
  rename_i b
  cases r1
  exact ⟨b, rfl, p1 μ1 H1 (Nx.refl _ _) o1⟩
theorem t_val {e : Expr} (h : PE X e (LE X.K W fa)) (he : ∀ whole, isTrue e X.env whole = (do let v ← whole; standAt e.pos; holding [v] (truthy v)) := by intro _; rfl) : PT X e (LT X.K W (mTest fa)) :=
  PT.imp (pt_val h he) le_test
theorem t_and (ha : PT X a (LT X.K W ft)) (hb : PW X (.BoolOp .And (b :: es) pos) (LT X.K W fu)) : PW X (.BoolOp .And (a :: b :: es) pos) (LT X.K W (mAnd ft fu)) :=
  ⟨fun whole pins s σ H Q I q => (pw_and ha hb).run whole pins s σ H Q I (by
    obtain ⟨μ, S, σd, o, f, p⟩ := q
    refine ⟨μ, S, σd, o, f, PstT.andThenT p fun v H1 μ1 S1 x o1 p1 => ?_⟩
    cases v with
    | true => exact ⟨μ1, S1, σd, o1, f.mono x, p1⟩
    | false => exact p1 μ1 H1 (Nx.refl _ _) o1)⟩
theorem t_or (ha : PT X a (LT X.K W ft)) (hb : PW X (.BoolOp .Or (b :: es) pos) (LT X.K W fu)) : PW X (.BoolOp .Or (a :: b :: es) pos) (LT X.K W (mOr ft fu)) :=
  ⟨fun whole pins s σ H Q I q => (pw_or ha hb).run whole pins s σ H Q I (by
    obtain ⟨μ, S, σd, o, f, p⟩ := q
    refine ⟨μ, S, σd, o, f, PstT.andThenT p fun v H1 μ1 S1 x o1 p1 => ?_⟩
    cases v with
    | true => exact p1 μ1 H1 (Nx.refl _ _) o1
    | false => exact ⟨μ1, S1, σd, o1, f.mono x, p1⟩)⟩
theorem t_not (ha : PT X a (LT X.K W ft)) : PT X (.UnaryOp .Not a pos) (LT X.K W (mNot ft)) :=
  PT.imp (pt_not ha) fun σ H Q ⟨μ, S, σd, o, f, p⟩ => ⟨μ, S, σd, o, f, PstT.andThenT p fun v H1 μ1 S1 x o1 p1 => p1 μ1 H1 (Nx.refl _ _) o1⟩
theorem e_and (ha : PE X a (LE X.K W fa)) (hb : PE X (.BoolOp .And (b :: es) pos) (LE X.K W fb)) : PE X (.BoolOp .And (a :: b :: es) pos) (LE X.K W (mAndV fa fb)) :=
  PE.imp (pe_and ha hb) fun σ H Q ⟨μ, S, σd, o, f, p⟩ => ⟨μ, S, σd, o, f, p.andThen fun v H1 μ1 S1 d x o1 r1 p1 => by
    cases d <;> try exact p1.elim
    rename_i b
    cases r1
    refine ⟨b, rfl, ?_⟩
    cases b with
    | true => exact ⟨μ1, S1, σd, o1, f.mono x, p1⟩
    | false => exact p1.val o1 rfl⟩
theorem e_or (ha : PE X a (LE X.K W fa)) (hb : PE X (.BoolOp .Or (b :: es) pos) (LE X.K W fb)) : PE X (.BoolOp .Or (a :: b :: es) pos) (LE X.K W (mOrV fa fb)) :=
  PE.imp (pe_or ha hb) fun σ H Q ⟨μ, S, σd, o, f, p⟩ => ⟨μ, S, σd, o, f, p.andThen fun v H1 μ1 S1 d x o1 r1 p1 => by
    cases d <;> try exact p1.elim
    rename_i b
    cases r1
    refine ⟨b, rfl, ?_⟩
    cases b with
    | true => exact p1.val o1 rfl
    | false => exact ⟨μ1, S1, σd, o1, f.mono x, p1⟩⟩
theorem e_not (ha : PE X a (LE X.K W fa)) : PE X (.UnaryOp .Not a pos) (LE X.K W (mNotV fa)) :=
  PE.imp (pe_not ha) fun σ H Q ⟨μ, S, σd, o, f, p⟩ => ⟨μ, S, σd, o, f, p.andThen fun v H1 μ1 S1 d x o1 r1 p1 => by
    cases d <;> try exact p1.elim
    rename_i b
    cases r1
    exact ⟨b, rfl, p1.val o1 rfl⟩⟩
theorem e_if (hc : PT X c (LT X.K W ft)) (ha : PE X a (LE X.K W fa)) (hb : PE X b (LE X.K W fb)) : PE X (.IfExp c a b pos) (LE X.K W (mIfE ft fa fb)) :=
  PE.imp (pe_ifExp hc ha hb) fun σ H Q ⟨μ, S, σd, o, f, p⟩ => ⟨μ, S, σd, o, f, PstT.andThenE p fun v H1 μ1 S1 x o1 p1 => by
    cases v with
    | true => exact ⟨μ1, S1, σd, o1, f.mono x, p1⟩
    | false => exact ⟨μ1, S1, σd, o1, f.mono x, p1⟩⟩
theorem le_chain {r r' : R2} {op op' : D → D → Os → Res D} (hr : RD2 X.K r op) (hr' : RD2 X.K r' op') (σ : L2.St) (H : Hp) (Q : VK) (h : LE X.K W (mChain op op' fa fb fc) σ H Q) : tChain r r' (LE X.K W fa) (LE X.K W fb) (LE X.K W fc) σ H Q := by
  obtain ⟨μ, S, σd, o, f, p⟩ := h
  refine ⟨μ, S, σd, o, f, p.andThen fun v H1 μ1 S1 d x o1 r1 p1 => ⟨μ1, S1, σd, o1, f.mono x, p1.andThen fun u H2 μ2 S2 e y o2 r2 p2 => ?_⟩⟩
  refine hr W σ _ μ2 S2 H2 d e v u o2 (r1.mono y) r2 (p2.andThen fun w H3 μ3 S3 g z o3 r3 p3 => ?_)
  cases g <;> try exact p3.elim
  rename_i b
  cases r3
  refine ⟨b, rfl, ?_⟩
  cases b with
  | true => exact ⟨μ3, S3, σd, o3, f.mono ((x.trans y).trans z), p3.andThen fun w' H4 μ4 S4 g' z' o4 r4 p4 => hr' W σ Q μ4 S4 H4 e g' u w' o4 (r2.mono (z.trans z')) r4 p4⟩
  | false => exact p3.val o3 rfl
/-! ### a def's call -/
/-- the promise by data: the def does what f does -/
def spD (K : PySem.W.Frag) (n : Nat) (f : Fn) : Sp := fun vs H Q E => vs.length = n ∧ ∃ μ S ds, Reps K μ H ds vs ∧ Ok K μ S H ∧
  match f ds S with
  | .ok d S' => ∀ μ' H' v, Nx H μ H' μ' → Ok K μ' S' H' → Rep K μ' H' d v → Q v H'
  | .exn e S' => ∀ μ' H' c dd, Nx H μ H' μ' → Ok K μ' S' H' → ExRep K μ' H' e c dd → E c dd H'
  | .bad => False
@[simp] def mCall (f : Fn) (a : MA) : ME := fun σ S => (a σ S).bind f
theorem le_callS {K : PySem.W.Frag} {n : Nat} {f : Fn} (hn : ∀ σd S ds S', fs σd S = .ok ds S' → ds.length = n) (σ : L2.St) (H : Hp) (Q : VK) (h : LE K W (mCall f fs) σ H Q) : tCallS (spD K n f) (WE W) (LA K W fs) σ H Q := by
  obtain ⟨μ, S, σd, o, g, p⟩ := h
  refine ⟨μ, S, σd, o, g, ?_⟩
  cases e : fs σd S with
  | ok ds S1 =>
    intro μ1 H1 v x o1 r1
    have p : Pst K W σ Q μ H ((fs σd S).bind f) := p
    rw [e, Res.bind_ok] at p
    refine ⟨by rw [← r1.len]; exact hn _ _ _ _ e, μ1, S1, ds, r1, o1, ?_⟩
    have p := p.go x
    unfold Pst at p
    split at p
    · rename_i e2; first | (rw [e2]; exact p) | exact p
    · rename_i e2; first | (rw [e2]; exact p) | exact p
    · exact p.elim
  | exn ex S1 =>
    have p : Pst K W σ Q μ H ((fs σd S).bind f) := p
    rw [e] at p
    exact p
  | bad =>
    have p : Pst K W σ Q μ H ((fs σd S).bind f) := p
    rw [e] at p
    exact p
theorem len_nil : ∀ σd S ds S', mNil σd S = .ok ds S' → ds.length = 0 := fun _ _ _ _ h => by cases h; rfl
theorem len_cons {n : Nat} (h : ∀ σd S ds S', fs σd S = .ok ds S' → ds.length = n) : ∀ σd S ds S', mCons fa fs σd S = .ok ds S' → ds.length = n + 1 := fun σd S ds S' e => by
  unfold mCons at e
  cases e1 : fa σd S with
  | ok x S1 =>
    rw [e1, Res.bind_ok] at e
    cases e2 : fs σd S1 with
    | ok xs S2 =>
      rw [e2, Res.bind_ok] at e
      cases e
      rw [List.length_cons, h _ _ _ _ e2]
    | exn _ _ => rw [e2] at e; cases e
    | bad => rw [e2] at e; cases e
  | exn _ _ => rw [e1] at e; cases e
  | bad => rw [e1] at e; cases e
end
/-! ### built-ins by data -/
section
variable {K : PySem.W.Frag}
@[simp] def lenD : List D → Os → Res D
  | [.str x], S => if x.length ≤ sizeLine then .ok (.int x.length) S else .bad
  | [.tup l], S => .ok (.int l.length) S
  | [.rl l], S => .ok (.int l.length) S
  | [.loc n], S => match lstAt S n with
    | some l => .ok (.int l.length) S
    | none => .bad
  | _, _ => .bad
theorem rd_len : RDC K (fun xs H Q => ∃ x n, xs = [x] ∧ LenV K x H n ∧ Q (.int (n : Nat)) H) lenD := by
  intro W σ Q μ S H ds xs o r p
  cases ds with
  | nil => exact p.elim
  | cons d ds =>
    cases ds with
    | cons _ _ => cases d <;> exact p.elim
    | nil =>
      obtain ⟨v, _, rfl, r1, rfl⟩ := r
      cases d <;> try exact p.elim
      · rename_i x
        cases r1
        dsimp only [lenD] at p
        obtain ⟨h, p⟩ := p.ite
        exact ⟨_, x.length, rfl, ⟨h, rfl⟩, p.val o rfl⟩
      · rename_i l
        obtain ⟨a, vs, rfl, h1, h2⟩ := r1
        exact ⟨_, l.length, rfl, .inr ⟨vs, h1, h2.len⟩, p.val o rfl⟩
      · rename_i n
        dsimp only [lenD] at p
        cases e : lstAt S n with
        | none => rw [e] at p; exact p.elim
        | some l =>
          rw [e] at p
          obtain ⟨a, vs, _, rfl, h2, h3⟩ := o.lst e r1
          exact ⟨_, l.length, rfl, .inl ⟨vs, .inl (.inl h2), h3.len⟩, p.val o rfl⟩
      · rename_i l
        obtain ⟨a, vs, rfl, h1, h2⟩ := r1
        exact ⟨_, l.length, rfl, .inl ⟨vs, h1.sq, h2.len⟩, p.val o rfl⟩
/-- a built-in on whole numbers -/
@[simp] def absD : List D → Os → Res D
  | [.int i], S => .ok (.int (if i < 0 then -i else i)) S
  | _, _ => .bad
theorem rd_abs : RDC K (fun xs H Q => ∃ i, xs = [.int i] ∧ Q (.int (if i < 0 then -i else i)) H) absD := by
  intro W σ Q μ S H ds xs o r p
  unfold absD at p
  split at p
  · obtain ⟨v, _, rfl, r1, rfl⟩ := r
    cases r1
    exact ⟨_, rfl, p.val o rfl⟩
  · exact p.elim
@[simp] def intCD : List D → Os → Res D
  | [.int i], S => .ok (.int i) S
  | [.bl b], S => .ok (.int (if b then 1 else 0)) S
  | _, _ => .bad
theorem rd_intC : RDC K (fun xs H Q => (∃ i, xs = [.int i] ∧ Q (.int i) H) ∨ ∃ k, xs = [.bl k] ∧ Q (.int (if k then 1 else 0)) H) intCD := by
  intro W σ Q μ S H ds xs o r p
  unfold intCD at p
  split at p
  · obtain ⟨v, _, rfl, r1, rfl⟩ := r
    cases r1
    exact .inl ⟨_, rfl, p.val o rfl⟩
  · obtain ⟨v, _, rfl, r1, rfl⟩ := r
    cases r1
    exact .inr ⟨_, rfl, p.val o rfl⟩
  · exact p.elim
@[simp] def minD : List D → Os → Res D
  | [.int i, .int j], S => .ok (.int (if j < i then j else i)) S
  | _, _ => .bad
@[simp] def maxD : List D → Os → Res D
  | [.int i, .int j], S => .ok (.int (if j > i then j else i)) S
  | _, _ => .bad
theorem rd_min : RDC K (fun xs H Q => ∃ i j, xs = [.int i, .int j] ∧ Q (.int (if j < i then j else i)) H) minD := by
  intro W σ Q μ S H ds xs o r p
  unfold minD at p
  split at p
  · obtain ⟨v, _, rfl, r1, u, _, rfl, r2, rfl⟩ := r
    cases r1; cases r2
    exact ⟨_, _, rfl, p.val o rfl⟩
  · exact p.elim
theorem rd_max : RDC K (fun xs H Q => ∃ i j, xs = [.int i, .int j] ∧ Q (.int (if j > i then j else i)) H) maxD := by
  intro W σ Q μ S H ds xs o r p
  unfold maxD at p
  split at p
  · obtain ⟨v, _, rfl, r1, u, _, rfl, r2, rfl⟩ := r
    cases r1; cases r2
    exact ⟨_, _, rfl, p.val o rfl⟩
  · exact p.elim
/-- what a list or tuple holds -/
@[simp] def itemsD (S : Os) : D → Option (List D)
  | .tup l => some l
  | .rl l => some l
  | .loc n => lstAt S n
  | _ => none
theorem items_ok {μ : List Addr} {H : Hp} {S : Os} {d : D} {x : V} {l : List D} (o : Ok K μ S H) (r : Rep K μ H d x) (e : itemsD S d = some l) : ∃ a vs, x = .ref a ∧ (SqL K H a vs ∨ SqT K H a vs) ∧ Reps K μ H l vs := by
  cases d <;> try (cases e; done)
  · cases e
    obtain ⟨a, vs, rfl, h1, h2⟩ := r
    exact ⟨a, vs, rfl, .inr h1, h2⟩
  · obtain ⟨a, vs, _, rfl, h2, h3⟩ := o.lst e r
    exact ⟨a, vs, rfl, .inl (.inl (.inl h2)), h3⟩
  · cases e
    obtain ⟨a, vs, rfl, h1, h2⟩ := r
    exact ⟨a, vs, rfl, .inl h1.sq, h2⟩
@[simp] def listD : List D → Os → Res D
  | [d], S => match itemsD S d with
    | some l => .ok (.loc S.length) (S ++ [.lst l])
    | none => .bad
  | _, _ => .bad
theorem rd_list : RDC K (fun xs H Q => ∃ p ys, xs = [.ref p] ∧ (SqL K H p ys ∨ SqT K H p ys) ∧ ∀ l, H l = none → Q (.ref l) (upd H l (.lst ys))) listD := by
  intro W σ Q μ S H ds xs o r p
  unfold listD at p
  split at p
  · rename_i d
    obtain ⟨v, _, rfl, r1, rfl⟩ := r
    cases e : itemsD S d with
    | none => rw [e] at p; exact p.elim
    | some l =>
      rw [e] at p
      obtain ⟨a, vs, rfl, h1, h2⟩ := items_ok o r1 e
      exact ⟨a, vs, rfl, h1, fun q hq => new_lst o h2 p q hq⟩
  · exact p.elim
/-! ### subscripts -/
@[simp] def ixD : D → D → Os → Res D
  | .str z, .int i, S => if z.length ≤ sizeLine then (match atI z.cps.toList i with | some c => .ok (.str ⟨#[c]⟩) S | none => .bad) else .bad
  | d, .int i, S => match itemsD S d with
    | some l => (match atI l i with | some e => .ok e S | none => .bad)
    | none => .bad
  | _, _, _ => .bad
theorem Reps.atI {μ : List Addr} {H : Hp} {l : List D} {vs : List V} {i : Int} {d : D} (h : Reps K μ H l vs) (e : atI l i = some d) : ∃ v, atI vs i = some v ∧ Rep K μ H d v := by
  unfold L2.atI at e ⊢
  rw [← h.len]
  cases q : ixN l.length i with
  | none => rw [q] at e; cases e
  | some j =>
    rw [q] at e
    exact h.get (i := j) e
theorem rd_ix : RD2 K (rIx K) ixD := by
  intro W σ Q μ S H d e x y o rx ry p
  have go : ∀ i, e = .int i → (∀ l, itemsD S d = some l → ∀ w, L2.atI l i = some w → Pst K W σ Q μ H (.ok w S) → rIx K x y H Q) := by
    intro i he l hl w hw pp
    subst he
    cases ry
    cases d <;> try (cases hl; done)
    · cases hl
      obtain ⟨a, vs, rfl, h1, h2⟩ := rx
      obtain ⟨v, h3, h4⟩ := h2.atI hw
      exact .inr (.inl ⟨a, vs, i, v, rfl, rfl, h1, h3, pp.val o h4⟩)
    · obtain ⟨a, vs, _, rfl, h2, h3⟩ := o.lst hl rx
      obtain ⟨v, h4, h5⟩ := h3.atI hw
      exact .inl ⟨a, vs, i, v, rfl, rfl, .inl (.inl h2), h4, pp.val o h5⟩
    · cases hl
      obtain ⟨a, vs, rfl, h1, h2⟩ := rx
      obtain ⟨v, h3, h4⟩ := h2.atI hw
      exact .inl ⟨a, vs, i, v, rfl, rfl, h1.sq, h3, pp.val o h4⟩
  cases e <;> try (cases d <;> exact p.elim)
  rename_i i
  by_cases hs : ∃ z, d = .str z
  · obtain ⟨z, rfl⟩ := hs
    cases rx; cases ry
    dsimp only [ixD] at p
    obtain ⟨h, p⟩ := p.ite
    cases q : L2.atI z.cps.toList i with
    | none => rw [q] at p; exact p.elim
    | some c =>
      rw [q] at p
      exact .inr (.inr ⟨z, i, c, rfl, rfl, h, q, p.val o rfl⟩)
  · have p' : Pst K W σ Q μ H (match itemsD S d with
      | some l => (match L2.atI l i with | some e => .ok e S | none => .bad)
      | none => .bad) := by
      cases d <;> first | exact absurd ⟨_, rfl⟩ hs | exact p
    cases q : itemsD S d with
    | none => rw [q] at p'; exact p'.elim
    | some l =>
      rw [q] at p'
      dsimp only at p'
      cases q2 : L2.atI l i with
      | none => rw [q2] at p'; exact p'.elim
      | some w =>
        rw [q2] at p'
        exact go i rfl l q w q2 p'
end
end MX

end
section
namespace MX
open PySem PySem.Spec PyProof.Rows L2
/-! ### statements by data -/
def Res.toS {α : Type} (r : Res α) (σ : Fr) (f : α → Os → SRes) : SRes := match r with
  | .ok a S => f a S
  | .exn e S => .exn e σ S
  | .bad => .bad
@[simp] theorem Res.toS_ok {α : Type} (a : α) (S : Os) (σ : Fr) (f : α → Os → SRes) : (Res.ok a S).toS σ f = f a S := rfl
@[simp] theorem Res.toS_exn {α : Type} (e : Exn) (S : Os) (σ : Fr) (f : α → Os → SRes) : (Res.exn e S : Res α).toS σ f = .exn e σ S := rfl
@[simp] theorem Res.toS_bad {α : Type} (σ : Fr) (f : α → Os → SRes) : (Res.bad : Res α).toS σ f = .bad := rfl
def SRes.seq (r : SRes) (f : Fr → Os → SRes) : SRes := match r with
  | .nx σ S => f σ S
  | r => r
@[simp] theorem SRes.seq_nx (σ : Fr) (S : Os) (f : Fr → Os → SRes) : (SRes.nx σ S).seq f = f σ S := rfl
@[simp] theorem SRes.seq_rt (d : D) (S : Os) (f : Fr → Os → SRes) : (SRes.rt d S).seq f = .rt d S := rfl
@[simp] theorem SRes.seq_bk (σ : Fr) (S : Os) (f : Fr → Os → SRes) : (SRes.bk σ S).seq f = .bk σ S := rfl
@[simp] theorem SRes.seq_ct (σ : Fr) (S : Os) (f : Fr → Os → SRes) : (SRes.ct σ S).seq f = .ct σ S := rfl
@[simp] theorem SRes.seq_exn (e : Exn) (σ : Fr) (S : Os) (f : Fr → Os → SRes) : (SRes.exn e σ S).seq f = .exn e σ S := rfl
@[simp] theorem SRes.seq_bad (f : Fr → Os → SRes) : SRes.bad.seq f = .bad := rfl
@[simp] def mSeq (a b : MS) : MS := fun σ S => (a σ S).seq b
@[simp] def mNext : MS := fun σ S => .nx σ S
@[simp] def mSet (i : Nat) (e : ME) : MS := fun σ S => (e σ S).toS σ fun d S1 => .nx (σ.set i (some d)) S1
@[simp] def mIf (t : MT) (a b : MS) : MS := fun σ S => (t σ S).toS σ fun x S1 => if x = true then a σ S1 else b σ S1
@[simp] def mRet (e : ME) : MS := fun σ S => (e σ S).toS σ fun d S1 => .rt d S1
@[simp] def mRetN : MS := fun _ S => .rt .non S
@[simp] def mExpr (e : ME) : MS := fun σ S => (e σ S).toS σ fun _ S1 => .nx σ S1
@[simp] def mBrk : MS := fun σ S => .bk σ S
@[simp] def mCnt : MS := fun σ S => .ct σ S
@[simp] def mNever : MS := fun _ _ => .bad
/-- x op= e, whole numbers -/
@[simp] def mAug (i : Nat) (op : Int → Int → Int) (e : ME) : MS := fun σ S => match σ[i]? with
  | some (some (.int n)) => (e σ S).toS σ fun d S1 => match d with
    | .int m => .nx (σ.set i (some (.int (op n m)))) S1
    | _ => .bad
  | _ => .bad
def mWhile : Nat → MT → MS → MS
  | 0, _, _ => fun _ _ => .bad
  | F + 1, c, b => fun σ S => (c σ S).toS σ fun x S1 => if x = true then (match b σ S1 with
      | .nx σ2 S2 => mWhile F c b σ2 S2
      | .ct σ2 S2 => mWhile F c b σ2 S2
      | .bk σ2 S2 => .nx σ2 S2
      | r => r) else .nx σ S1
/-- the turns of a for: each item by the target, then the body; ok: what holds of the objects ahead of each turn and at the end -/
noncomputable def mLoop (ok : Os → Prop) (g : D → Fr → Os → Option Fr) (b : MS) : List D → MS
  | [] => fun σ S => open Classical in if ok S then .nx σ S else .bad
  | x :: xs => fun σ S => open Classical in if ok S then (match g x σ S with
      | some σ1 => (match b σ1 S with
        | .nx σ2 S2 => mLoop ok g b xs σ2 S2
        | .ct σ2 S2 => mLoop ok g b xs σ2 S2
        | .bk σ2 S2 => .nx σ2 S2
        | r => r)
      | none => .bad) else .bad
@[simp] def gN (i : Nat) : D → Fr → Os → Option Fr := fun d σ _ => some (σ.set i (some d))
/-- for x in e, e a list or a tuple -/
@[simp] noncomputable def mForL (e : ME) (g : D → Fr → Os → Option Fr) (b : MS) : MS := fun σ S => (e σ S).toS σ fun d S1 => match d with
  | .loc n => (match lstAt S1 n with
    | some l => mLoop (fun S' => lstAt S' n = some l) g b l σ S1
    | none => .bad)
  | .rl l => mLoop (fun _ => True) g b l σ S1
  | _ => .bad
@[simp] noncomputable def mForT (e : ME) (g : D → Fr → Os → Option Fr) (b : MS) : MS := fun σ S => (e σ S).toS σ fun d S1 => match d with
  | .tup l => mLoop (fun _ => True) g b l σ S1
  | _ => .bad
def rngD : Int → Nat → List D
  | _, 0 => []
  | lo, n + 1 => .int lo :: rngD (lo + 1) n
@[simp] noncomputable def mForR1 (a : ME) (g : D → Fr → Os → Option Fr) (b : MS) : MS := fun σ S => (a σ S).toS σ fun d S1 => match d with
  | .int j => if -(2 ^ 62) ≤ j ∧ j < 2 ^ 62 then mLoop (fun _ => True) g b (rngD 0 j.toNat) σ S1 else .bad
  | _ => .bad
@[simp] noncomputable def mForR2 (a c : ME) (g : D → Fr → Os → Option Fr) (b : MS) : MS := fun σ S => (a σ S).toS σ fun d S1 => (c σ S1).toS σ fun e S2 => match d, e with
  | .int i, .int j => if -(2 ^ 62) ≤ i ∧ i < 2 ^ 62 ∧ -(2 ^ 62) ≤ j ∧ j < 2 ^ 62 then mLoop (fun _ => True) g b (rngD i (j - i).toNat) σ S2 else .bad
  | _, _ => .bad
section
variable {K : PySem.W.Frag} {W : WX} {H : Hp} {μ : List Addr} {σ : L2.St}
theorem Pst.thenS {D : Ends} {σd : Fr} {Q' : VK} {r : Res MX.D} {g : MX.D → Os → SRes} (fr : FrRel K μ H σd σ) (p : PstS K W D μ H (r.toS σd g))
    (k : ∀ v H1 μ1 S1 d, Nx H μ H1 μ1 → Ok K μ1 S1 H1 → Rep K μ1 H1 d v → PstS K W D μ1 H1 (g d S1) → Q' v H1) : Pst K W σ Q' μ H r := by
  cases r with
  | ok d S => exact fun μ1 H1 v x o r => k v H1 μ1 S d x o r (p.go x)
  | exn e S => exact fun μ1 H1 c dd x o r => p μ1 H1 c dd σ x o (fr.mono x) r
  | bad => exact p
theorem PstT.thenS {D : Ends} {σd : Fr} {Q' : Bool → Hp → Prop} {r : Res Bool} {g : Bool → Os → SRes} (fr : FrRel K μ H σd σ) (p : PstS K W D μ H (r.toS σd g))
    (k : ∀ v H1 μ1 S1, Nx H μ H1 μ1 → Ok K μ1 S1 H1 → PstS K W D μ1 H1 (g v S1) → Q' v H1) : PstT K W σ Q' μ H r := by
  cases r with
  | ok d S => exact fun μ1 H1 x o => k d H1 μ1 S x o (p.go x)
  | exn e S => exact fun μ1 H1 c dd x o r => p μ1 H1 c dd σ x o (fr.mono x) r
  | bad => exact p
theorem PstA.thenS {D : Ends} {σd : Fr} {Q' : List V → Hp → Prop} {r : Res (List MX.D)} {g : List MX.D → Os → SRes} (fr : FrRel K μ H σd σ) (p : PstS K W D μ H (r.toS σd g))
    (k : ∀ v H1 μ1 S1 d, Nx H μ H1 μ1 → Ok K μ1 S1 H1 → Reps K μ1 H1 d v → PstS K W D μ1 H1 (g d S1) → Q' v H1) : PstA K W σ Q' μ H r := by
  cases r with
  | ok d S => exact fun μ1 H1 v x o r => k v H1 μ1 S d x o r (p.go x)
  | exn e S => exact fun μ1 H1 c dd x o r => p μ1 H1 c dd σ x o (fr.mono x) r
  | bad => exact p
end
section
variable {X : Cx} {W : WX} {a b c e : Expr} {st : Stmt} {sts sus : List Stmt} {fe : ME} {fs : MA} {ft : MT} {f g : MS} {pos : Pos}
theorem s_cons (h1 : PS X st (LS X.K W f)) (h2 : PSs X sts (LS X.K W g)) : PSs X (st :: sts) (LS X.K W (mSeq f g)) :=
  PSs.imp (pss_cons h1 h2) fun D σ H ⟨μ, S, σd, o, fr, p⟩ => ⟨μ, S, σd, o, fr, by
    have p : PstS X.K W D μ H ((f σd S).seq g) := p
    cases q : f σd S with
    | nx σ1 S1 =>
      rw [q] at p
      exact fun μ' H' σ' x o' fr' => ⟨μ', S1, σ1, o', fr', p.go x⟩
    | _ => rw [q] at p; exact p⟩
theorem s_one (h1 : PS X st (LS X.K W f)) : PSs X [st] (LS X.K W f) := pss_one h1
theorem s_nil : PSs X [] (LS X.K W mNext) := PSs.imp pss_nil fun D σ H ⟨μ, S, σd, o, fr, p⟩ => p μ H σ (Nx.refl _ _) o fr
theorem le_set {i : Nat} (D : Ends) (σ : L2.St) (H : Hp) (h : LS X.K W (mSet i fe) D σ H) : tAsg (LE X.K W fe) (gName i) D σ H := by
  obtain ⟨μ, S, σd, o, fr, p⟩ := h
  exact ⟨μ, S, σd, o, fr, Pst.thenS fr p fun v H1 μ1 S1 d x o1 r1 p1 => p1 μ1 H1 _ (Nx.refl _ _) o1 ((fr.mono x).set r1)⟩
theorem s_if (hc : PT X c (LT X.K W ft)) (ha : PSs X sts (LS X.K W f)) (hb : PSs X sus (LS X.K W g)) : PS X (.If c sts sus pos) (LS X.K W (mIf ft f g)) :=
  PS.imp (ps_if hc ha hb) fun D σ H ⟨μ, S, σd, o, fr, p⟩ => ⟨μ, S, σd, o, fr, PstT.thenS fr p fun v H1 μ1 S1 x o1 p1 => by
    cases v with
    | true => exact ⟨μ1, S1, σd, o1, fr.mono x, p1⟩
    | false => exact ⟨μ1, S1, σd, o1, fr.mono x, p1⟩⟩
theorem s_ret (h : PE X e (LE X.K W fe)) : PS X (.Return (some e) pos) (LS X.K W (mRet fe)) :=
  PS.imp (ps_ret h) fun D σ H ⟨μ, S, σd, o, fr, p⟩ => ⟨μ, S, σd, o, fr, Pst.thenS fr p fun v H1 μ1 S1 d x o1 r1 p1 => p1 μ1 H1 v (Nx.refl _ _) o1 r1⟩
theorem s_retN : PS X (.Return none pos) (LS X.K W mRetN) := PS.imp ps_retN fun D σ H ⟨μ, S, σd, o, fr, p⟩ => p μ H .non (Nx.refl _ _) o rfl
theorem le_expr (D : Ends) (σ : L2.St) (H : Hp) (h : LS X.K W (mExpr fe) D σ H) : tDrop (LE X.K W fe) D σ H := by
  obtain ⟨μ, S, σd, o, fr, p⟩ := h
  exact ⟨μ, S, σd, o, fr, Pst.thenS fr p fun v H1 μ1 S1 d x o1 r1 p1 => p1 μ1 H1 _ (Nx.refl _ _) o1 (fr.mono x)⟩
theorem s_brk : PS X (.Break pos) (LS X.K W mBrk) := PS.imp ps_break fun D σ H ⟨μ, S, σd, o, fr, p⟩ => p μ H σ (Nx.refl _ _) o fr
theorem s_cnt : PS X (.Continue pos) (LS X.K W mCnt) := PS.imp ps_continue fun D σ H ⟨μ, S, σd, o, fr, p⟩ => p μ H σ (Nx.refl _ _) o fr
theorem s_pass : PS X (.Pass pos) (LS X.K W mNext) := PS.imp ps_pass fun D σ H ⟨μ, S, σd, o, fr, p⟩ => p μ H σ (Nx.refl _ _) o fr
theorem s_never : PS X st (LS X.K W mNever) := PS.imp ps_never fun D σ H ⟨μ, S, σd, o, fr, p⟩ => p
theorem le_aug {i : Nat} {op : Int → Int → Int} (D : Ends) (σ : L2.St) (H : Hp) (h : LS X.K W (mAug i op fe) D σ H) : tAug i (LE X.K W fe) (ipI op) D σ H := by
  obtain ⟨μ, S, σd, o, fr, p⟩ := h
  unfold mAug at p
  cases q : σd[i]? with
  | none => rw [q] at p; exact p.elim
  | some od =>
    rw [q] at p
    cases od with
    | none => exact p.elim
    | some d =>
      cases d <;> try exact p.elim
      rename_i n
      obtain ⟨v, h1, h2⟩ := fr.2 i _ q
      cases h2
      refine ⟨_, h1, μ, S, σd, o, fr, Pst.thenS fr p fun v H1 μ1 S1 d x o1 r1 p1 => ?_⟩
      cases d <;> try exact p1.elim
      cases r1
      exact ⟨_, _, rfl, rfl, p1 μ1 H1 _ (Nx.refl _ _) o1 ((fr.mono x).set rfl)⟩
theorem le_while (F : Nat) (D : Ends) (σ : L2.St) (H : Hp) (h : LS X.K W (mWhile F ft f) D σ H) : tWhile (LT X.K W ft) (LS X.K W f) D σ H := by
  refine ⟨fun m σ H => LS X.K W (mWhile m ft f) D σ H, ⟨F, h⟩, fun m σ H h => ?_⟩
  obtain ⟨μ, S, σd, o, fr, p⟩ := h
  cases m with
  | zero => exact p.elim
  | succ m =>
    refine ⟨μ, S, σd, o, fr, PstT.thenS fr p fun v H1 μ1 S1 x o1 p1 => ?_⟩
    cases v with
    | false => exact p1 μ1 H1 σ (Nx.refl _ _) o1 (fr.mono x)
    | true =>
      refine ⟨LS X.K W (mWhile m ft f) D, fun σ' H' h => ⟨m, Nat.lt_succ_self m, h⟩, μ1, S1, σd, o1, fr.mono x, ?_⟩
      have p1 : PstS X.K W D μ1 H1 (match f σd S1 with
        | .nx σ2 S2 => mWhile m ft f σ2 S2
        | .ct σ2 S2 => mWhile m ft f σ2 S2
        | .bk σ2 S2 => .nx σ2 S2
        | r => r) := p1
      cases q : f σd S1 with
      | nx σ2 S2 => rw [q] at p1; exact fun μ' H' σ' x' o' fr' => ⟨μ', S2, σ2, o', fr', p1.go x'⟩
      | ct σ2 S2 => rw [q] at p1; exact fun μ' H' σ' x' o' fr' => ⟨μ', S2, σ2, o', fr', p1.go x'⟩
      | bk σ2 S2 => rw [q] at p1; exact p1
      | rt d S2 => rw [q] at p1; exact p1
      | exn e σ2 S2 => rw [q] at p1; exact p1
      | bad => rw [q] at p1; exact p1
/-- a target of a for by data -/
def GD (K : PySem.W.Frag) (t : TG) (g : MX.D → Fr → Os → Option Fr) : Prop := ∀ (μ : List Addr) (S : Os) (H : Hp) (σd σd' : Fr) (σ : L2.St) (d : MX.D) (v : V) (Q : L2.St → Hp → Prop), Ok K μ S H → FrRel K μ H σd σ → Rep K μ H d v → g d σd S = some σd' → (∀ σ', FrRel K μ H σd' σ' → Q σ' H) → t v σ H Q
theorem gd_name {K : PySem.W.Frag} (i : Nat) : GD K (gName i) (gN i) := fun μ S H σd σd' σ d v Q o fr r e k => by
  cases e
  exact k _ (fr.set r)
theorem loop_any {K : PySem.W.Frag} {W : WX} {J : It} {okS : Os → Prop} {t : TG} {g : MX.D → Fr → Os → Option Fr} (hg : GD K t g) {l : List MX.D} {D : Ends}
    (Pc : List Addr → Hp → Prop) (mono : ∀ H μ H' μ', Nx H μ H' μ' → Pc μ H → Pc μ' H')
    (hstop : ∀ μ S H, Ok K μ S H → Pc μ H → okS S → J.stop l.length H)
    (hgo : ∀ i d μ S H, l[i]? = some d → Ok K μ S H → Pc μ H → okS S → J.go i H ∧ ∀ x H', J.yld i H x H' → ∃ μ', Nx H μ H' μ' ∧ Ok K μ' S H' ∧ Rep K μ' H' d x)
    {σ : L2.St} {H : Hp} {μ : List Addr} {S : Os} {σd : Fr} (hp : Pc μ H) (o : Ok K μ S H) (fr : FrRel K μ H σd σ) (p : PstS K W D μ H (mLoop okS g f l σd S)) :
    ∃ Wf : Nat → Nat → L2.St → Hp → Prop, (∃ m, Wf 0 m σ H) ∧ ∀ i m σ H, Wf i m σ H → (J.stop i H ∧ D.nx σ H) ∨ (J.go i H ∧ ∃ N : L2.St → Hp → Prop, (∀ σ' H', N σ' H' → ∃ m', m' < m ∧ Wf (i + 1) m' σ' H') ∧
      ∀ x H', J.yld i H x H' → t x σ H' fun σ2 H2 => LS K W f { D with nx := N, ct := N, bk := D.nx } σ2 H2) := by
  refine ⟨fun i m σ H => i + m = l.length ∧ ∃ μ S σd, Pc μ H ∧ Ok K μ S H ∧ FrRel K μ H σd σ ∧ PstS K W D μ H (mLoop okS g f (l.drop i) σd S), ⟨l.length, Nat.zero_add _, μ, S, σd, hp, o, fr, p⟩, ?_⟩
  rintro i m σ H ⟨hm, μ, S, σd, hp, o, fr, p⟩
  cases m with
  | zero =>
    have hi : i = l.length := by omega
    subst hi
    rw [List.drop_length] at p
    unfold mLoop at p
    by_cases q : okS S
    · rw [if_pos q] at p
      exact .inl ⟨hstop μ S H o hp q, p μ H σ (Nx.refl _ _) o fr⟩
    · rw [if_neg q] at p
      exact p.elim
  | succ m =>
    have hi : i < l.length := by omega
    rw [List.drop_eq_getElem_cons hi] at p
    unfold mLoop at p
    by_cases q : okS S
    · rw [if_pos q] at p
      obtain ⟨h1, h2⟩ := hgo i l[i] μ S H (List.getElem?_eq_getElem hi) o hp q
      refine .inr ⟨h1, fun σ H => i + 1 + m = l.length ∧ ∃ μ S σd, Pc μ H ∧ Ok K μ S H ∧ FrRel K μ H σd σ ∧ PstS K W D μ H (mLoop okS g f (l.drop (i + 1)) σd S), fun σ' H' h => ⟨m, Nat.lt_succ_self m, h⟩, fun x H' hy => ?_⟩
      obtain ⟨μ', x1, o', r'⟩ := h2 x H' hy
      have p := p.go x1
      cases q2 : g l[i] σd S with
      | none => rw [q2] at p; exact p.elim
      | some σd1 =>
        rw [q2] at p
        refine hg μ' S H' σd σd1 σ l[i] x _ o' (fr.mono x1) r' q2 fun σ' fr' => ⟨μ', S, σd1, o', fr', ?_⟩
        have hm' : i + 1 + m = l.length := by omega
        dsimp only at p
        cases q3 : f σd1 S with
        | nx σ2 S2 => rw [q3] at p; exact fun μ2 H2 σ2' x2 o2 f2 => ⟨hm', μ2, S2, σ2, mono _ _ _ _ (x1.trans x2) hp, o2, f2, p.go x2⟩
        | ct σ2 S2 => rw [q3] at p; exact fun μ2 H2 σ2' x2 o2 f2 => ⟨hm', μ2, S2, σ2, mono _ _ _ _ (x1.trans x2) hp, o2, f2, p.go x2⟩
        | bk σ2 S2 => rw [q3] at p; exact p
        | rt d S2 => rw [q3] at p; exact p
        | exn e σ2 S2 => rw [q3] at p; exact p
        | bad => rw [q3] at p; exact p
    · rw [if_neg q] at p
      exact p.elim
theorem le_forL {K : PySem.W.Frag} {W : WX} {t : TG} {g : MX.D → Fr → Os → Option Fr} (hg : GD K t g) (D : Ends) (σ : L2.St) (H : Hp) (h : LS K W (mForL fe g f) D σ H) : tFor (iList K (LE K W fe)) t (LS K W f) D σ H := by
  obtain ⟨μ, S, σd, o, fr, p⟩ := h
  refine ⟨μ, S, σd, o, fr, Pst.thenS fr p fun v H1 μ1 S1 d x o1 r1 p1 => ?_⟩
  cases d <;> try exact p1.elim
  · rename_i n
    dsimp only at p1
    cases e : lstAt S1 n with
    | none => rw [e] at p1; exact p1.elim
    | some l =>
      rw [e] at p1
      obtain ⟨a, vs, ha, rfl, h2, h3⟩ := o1.lst e r1
      refine ⟨a, rfl, ⟨vs, .inl (.inl h2)⟩, loop_any hg (fun μ _ => μ[n]? = some a) (fun _ _ _ _ y e => y.at e) ?_ ?_ ha o1 (fr.mono x) p1⟩
      · intro μ2 S2 H2 o2 ha2 q
        obtain ⟨b, us, hb, eb, h4, h5⟩ := o2.lst q ⟨a, ha2, rfl⟩
        cases eb
        exact ⟨us, .inl (.inl h4), by rw [← h5.len]; exact Nat.le_refl _⟩
      · intro i d μ2 S2 H2 hi o2 ha2 q
        obtain ⟨b, us, hb, eb, h4, h5⟩ := o2.lst q ⟨a, ha2, rfl⟩
        cases eb
        obtain ⟨u, h6, h7⟩ := h5.get hi
        refine ⟨⟨us, u, .inl (.inl h4), h6⟩, fun y H' hy => ?_⟩
        obtain ⟨rfl, hy⟩ := hy
        have := hy us (.inl (.inl h4))
        rw [h6] at this
        cases this
        exact ⟨μ2, Nx.refl _ _, o2, h7⟩
  · rename_i l
    obtain ⟨a, vs, rfl, h2, h3⟩ := r1
    refine ⟨a, rfl, ⟨vs, h2.sq⟩, loop_any hg (fun μ H => SqR K H a vs ∧ Reps K μ H l vs) (fun _ _ _ _ y e => ⟨y.sr e.1, Reps.mono y _ _ e.2⟩) ?_ ?_ ⟨h2, h3⟩ o1 (fr.mono x) p1⟩
    · intro μ2 S2 H2 o2 ha2 q
      exact ⟨vs, ha2.1.sq, by rw [← ha2.2.len]; exact Nat.le_refl _⟩
    · intro i d μ2 S2 H2 hi o2 ha2 q
      obtain ⟨u, h6, h7⟩ := ha2.2.get hi
      refine ⟨⟨vs, u, ha2.1.sq, h6⟩, fun y H' hy => ?_⟩
      obtain ⟨rfl, hy⟩ := hy
      have := hy vs ha2.1.sq
      rw [h6] at this
      cases this
      exact ⟨μ2, Nx.refl _ _, o2, h7⟩
theorem le_forT {K : PySem.W.Frag} {W : WX} {t : TG} {g : MX.D → Fr → Os → Option Fr} (hg : GD K t g) (D : Ends) (σ : L2.St) (H : Hp) (h : LS K W (mForT fe g f) D σ H) : tFor (iTup K (LE K W fe)) t (LS K W f) D σ H := by
  obtain ⟨μ, S, σd, o, fr, p⟩ := h
  refine ⟨μ, S, σd, o, fr, Pst.thenS fr p fun v H1 μ1 S1 d x o1 r1 p1 => ?_⟩
  cases d <;> try exact p1.elim
  rename_i l
  obtain ⟨a, vs, rfl, h2, h3⟩ := r1
  refine ⟨a, rfl, ⟨vs, h2⟩, loop_any hg (fun μ H => SqT K H a vs ∧ Reps K μ H l vs) (fun _ _ _ _ y e => ⟨y.sq e.1, Reps.mono y _ _ e.2⟩) ?_ ?_ ⟨h2, h3⟩ o1 (fr.mono x) p1⟩
  · intro μ2 S2 H2 o2 ha2 q
    exact ⟨vs, ha2.1, by rw [← ha2.2.len]; exact Nat.le_refl _⟩
  · intro i d μ2 S2 H2 hi o2 ha2 q
    obtain ⟨u, h6, h7⟩ := ha2.2.get hi
    refine ⟨⟨vs, u, ha2.1, h6⟩, fun y H' hy => ?_⟩
    obtain ⟨rfl, hy⟩ := hy
    have := hy vs ha2.1
    rw [h6] at this
    cases this
    exact ⟨μ2, Nx.refl _ _, o2, h7⟩
theorem rngD_get : ∀ {n : Nat} {lo : Int} {i : Nat} {d : MX.D}, (rngD lo n)[i]? = some d → i < n ∧ d = .int (lo + (i : Nat))
  | 0, lo, i, d, h => by simp [rngD] at h
  | n + 1, lo, 0, d, h => by
    have h : some (MX.D.int lo) = some d := h
    cases h
    exact ⟨by omega, by simp⟩
  | n + 1, lo, i + 1, d, h => by
    obtain ⟨h1, rfl⟩ := rngD_get (n := n) (lo := lo + 1) (i := i) (d := d) h
    exact ⟨by omega, congrArg MX.D.int (by omega)⟩
theorem rngD_len : ∀ {lo : Int} {n : Nat}, (rngD lo n).length = n
  | _, 0 => rfl
  | lo, n + 1 => congrArg (· + 1) (rngD_len (lo := lo + 1) (n := n))
theorem loop_rng {K : PySem.W.Frag} {W : WX} {t : TG} {g : MX.D → Fr → Os → Option Fr} (hg : GD K t g) {lo : Int} {n : Nat} {D : Ends} {σ : L2.St} {H : Hp} {μ : List Addr} {S : Os} {σd : Fr}
    (o : Ok K μ S H) (fr : FrRel K μ H σd σ) (p : PstS K W D μ H (mLoop (fun _ => True) g f (rngD lo n) σd S)) :
    ∃ Wf : Nat → Nat → L2.St → Hp → Prop, (∃ m, Wf 0 m σ H) ∧ ∀ i m σ H, Wf i m σ H → ((Itr lo n).stop i H ∧ D.nx σ H) ∨ ((Itr lo n).go i H ∧ ∃ N : L2.St → Hp → Prop, (∀ σ' H', N σ' H' → ∃ m', m' < m ∧ Wf (i + 1) m' σ' H') ∧
      ∀ x H', (Itr lo n).yld i H x H' → t x σ H' fun σ2 H2 => LS K W f { D with nx := N, ct := N, bk := D.nx } σ2 H2) := by
  refine loop_any hg (fun _ _ => True) (fun _ _ _ _ _ _ => trivial) ?_ ?_ trivial o fr p
  · intro μ2 S2 H2 o2 _ _
    show n ≤ (rngD lo n).length
    rw [rngD_len]
    exact Nat.le_refl _
  · intro i d μ2 S2 H2 hi o2 _ _
    obtain ⟨h1, rfl⟩ := rngD_get hi
    refine ⟨h1, fun y H' hy => ?_⟩
    obtain ⟨rfl, rfl⟩ := hy
    exact ⟨μ2, Nx.refl _ _, o2, rfl⟩
theorem la_one {K : PySem.W.Frag} {W : WX} {fe : ME} {σ : L2.St} {μ : List Addr} {H : Hp} {σd : Fr} {S : Os} {Q : List V → Hp → Prop} (p : Pst K W σ (fun v H => Q [v] H) μ H (fe σd S)) : PstA K W σ Q μ H (mCons fe mNil σd S) := by
  unfold mCons mNil
  cases q : fe σd S with
  | ok d S1 =>
    rw [q] at p
    intro μ1 H1 v x o1 r1
    obtain ⟨v0, _, rfl, r0, rfl⟩ := r1
    exact p μ1 H1 v0 x o1 r0
  | exn e S1 => rw [q] at p; exact p
  | bad => rw [q] at p; exact p
theorem la_two {K : PySem.W.Frag} {W : WX} {fa fe : ME} {σ : L2.St} {μ : List Addr} {H : Hp} {σd : Fr} {S : Os} {Q : List V → Hp → Prop}
    (p : PstA K W σ Q μ H ((fa σd S).bind fun d S1 => (fe σd S1).bind fun e S2 => .ok [d, e] S2)) : PstA K W σ Q μ H (mCons fa (mCons fe mNil) σd S) := by
  unfold mCons mNil
  cases q : fa σd S with
  | ok d S1 =>
    rw [q] at p
    rw [Res.bind_ok] at p ⊢
    cases q2 : fe σd S1 with
    | ok d S1 => rw [q2] at p; exact p
    | exn e S1 => rw [q2] at p; exact p
    | bad => rw [q2] at p; exact p
  | exn e S1 => rw [q] at p; exact p
  | bad => rw [q] at p; exact p
theorem le_forR1 {K : PySem.W.Frag} {W : WX} {t : TG} {g : MX.D → Fr → Os → Option Fr} {fe : ME} (hg : GD K t g) (D : Ends) (σ : L2.St) (H : Hp) (h : LS K W (mForR1 fe g f) D σ H) : tFor (iRng1 (LA K W (mCons fe mNil))) t (LS K W f) D σ H := by
  obtain ⟨μ, S, σd, o, fr, p⟩ := h
  refine ⟨μ, S, σd, o, fr, la_one (Pst.thenS fr p fun v H1 μ1 S1 d x o1 r1 p1 => ?_)⟩
  cases d <;> try exact p1.elim
  rename_i j
  cases r1
  have p1 : PstS K W D μ1 H1 (if -(2 ^ 62) ≤ j ∧ j < 2 ^ 62 then mLoop (fun _ => True) g f (rngD 0 j.toNat) σd S1 else .bad) := p1
  by_cases c : -(2 ^ 62) ≤ j ∧ j < 2 ^ 62
  · rw [if_pos c] at p1
    exact ⟨j, rfl, c.1, c.2, loop_rng hg o1 (fr.mono x) p1⟩
  · rw [if_neg c] at p1
    exact p1.elim
theorem le_forR2 {K : PySem.W.Frag} {W : WX} {t : TG} {g : MX.D → Fr → Os → Option Fr} {fa fe : ME} (hg : GD K t g) (D : Ends) (σ : L2.St) (H : Hp) (h : LS K W (mForR2 fa fe g f) D σ H) : tFor (iRng2 (LA K W (mCons fa (mCons fe mNil)))) t (LS K W f) D σ H := by
  obtain ⟨μ, S, σd, o, fr, p⟩ := h
  refine ⟨μ, S, σd, o, fr, la_two ?_⟩
  have p : PstS K W D μ H ((fa σd S).toS σd fun d S1 => (fe σd S1).toS σd fun e S2 => match d, e with
    | .int i, .int j => if -(2 ^ 62) ≤ i ∧ i < 2 ^ 62 ∧ -(2 ^ 62) ≤ j ∧ j < 2 ^ 62 then mLoop (fun _ => True) g f (rngD i (j - i).toNat) σd S2 else .bad
    | _, _ => .bad) := p
  cases q : fa σd S with
  | ok d S1 =>
    rw [q] at p
    rw [Res.bind_ok]
    rw [Res.toS_ok] at p
    cases q2 : fe σd S1 with
    | ok e S2 =>
      rw [q2] at p
      rw [Res.bind_ok]
      rw [Res.toS_ok] at p
      intro μ1 H1 v x o1 r1
      replace p := p.go x
      cases d <;> cases e <;> try exact p.elim
      rename_i i j
      obtain ⟨v0, _, rfl, r0, v1, _, rfl, r1, rfl⟩ := r1
      cases r0; cases r1
      dsimp only at p
      by_cases c : -(2 ^ 62) ≤ i ∧ i < 2 ^ 62 ∧ -(2 ^ 62) ≤ j ∧ j < 2 ^ 62
      · rw [if_pos c] at p
        exact ⟨i, j, rfl, c, loop_rng hg o1 (fr.mono x) p⟩
      · rw [if_neg c] at p
        exact p.elim
    | exn e S2 => rw [q2] at p; exact fun μ1 H1 c dd x o r => p μ1 H1 c dd σ x o (fr.mono x) r
    | bad => rw [q2] at p; exact p
  | exn e S1 => rw [q] at p; exact fun μ1 H1 c dd x o r => p μ1 H1 c dd σ x o (fr.mono x) r
  | bad => rw [q] at p; exact p
end
end MX

end
section
namespace MX
open PySem PySem.Spec PyProof.Rows L2
/-! ### a def by data -/
@[simp] def fnD (n : Nat) (b : MS) : Fn := fun ds S => match b (ds.map some ++ List.replicate (n - ds.length) none) S with
  | .rt d S' => .ok d S'
  | .nx _ S' => .ok .non S'
  | .exn e _ S' => .exn e S'
  | _ => .bad
theorem fr_start {K : PySem.W.Frag} {μ : List Addr} {H : Hp} {N : List Str} {ds : List D} {vs : List V} (r : Reps K μ H ds vs) : FrRel K μ H (ds.map some ++ List.replicate (N.length - ds.length) none) (L2.start N vs) := by
  unfold L2.start
  refine ⟨by rw [List.length_append, List.length_append, List.length_map, List.length_map, List.length_replicate, List.length_replicate, r.len], fun i d e => ?_⟩
  have hi : i < ds.length := by
    by_cases h : i < ds.length
    · exact h
    · rw [List.getElem?_append_right (by rw [List.length_map]; omega), List.length_map, List.getElem?_replicate] at e
      split at e <;> cases e
  rw [List.getElem?_append_left (by rw [List.length_map]; exact hi), List.getElem?_map, List.getElem?_eq_getElem hi] at e
  have e2 : ds[i]? = some d := by
    rw [List.getElem?_eq_getElem hi]
    simpa using e
  obtain ⟨v, h1, h2⟩ := r.get e2
  refine ⟨v, ?_, h2⟩
  rw [List.getElem?_append_left (by rw [List.length_map, ← r.len]; exact hi), List.getElem?_map, h1]
  rfl
section
variable {P : Program} {w : World} {K : PySem.W.Frag} {mg : Str → Option Value} {base : Heap} {x qual : Str} {params : Arguments} {body : List Stmt} {scope : Scope} {dvs : List V} {kws : List (Str × V)} {f : Addr} {fd : FuncData}
theorem fn_ok {N ps : List Str} {k : Nat} {b : MS} (F : FunD K x qual params body scope dvs kws f fd) (S : FnScope N ps scope)
    (hbody : ∀ (cdv : Value) (A : Around) (outer : List Env) (s : Shared) (H : Hp) (E : XK), Room k (A.deeper (envOfC qual scope s.heap.objs.size f cdv)) →
      PSs (cxOf (L2.CX P w) P w K mg base N qual scope f cdv A outer s H E) body (LS K (fun cls d _ H' => E cls d H') b)) :
    FnOk P w K mg base (L2.CX P w) (k + 1) f fd ps (spD K ps.length (fnD N.length b)) := by
  refine F.ok S (fun vs H Q E h => h.1) (fun cdv A outer s H vs Q E hr h => ⟨_, hbody cdv A outer s H E hr, ?_⟩)
  obtain ⟨_, μ, S, ds, r, o, p⟩ := h
  refine ⟨μ, S, _, o, fr_start r, ?_⟩
  unfold fnD at p
  split at p
  · rename_i d S' q
    split at q
    · rename_i q2; cases q; rw [q2]; exact p
    · rename_i q2; cases q; rw [q2]; exact fun μ' H' σ' x' o' fr => p μ' H' .non x' o' rfl
    · cases q
    · cases q
  · rename_i e S' q
    split at q
    · cases q
    · cases q
    · rename_i q2; cases q; rw [q2]; exact fun μ' H' c dd σ' x' o' fr er => p μ' H' c dd x' o' er
    · cases q
  · exact p.elim
end
/-! ### slices -/
abbrev MO := Fr → Os → Res (Option Int)
@[simp] def mNoPart : MO := fun _ S => .ok none S
@[simp] def mPart (e : ME) : MO := fun σ S => (e σ S).bind fun d S1 => match d with
  | .int i => .ok (some i) S1
  | _ => .bad
def PstO (K : PySem.W.Frag) (W : WX) (σ : L2.St) (Q : Option Int → Hp → Prop) (μ : List Addr) (H : Hp) (r : Res (Option Int)) : Prop := match r with
  | .ok b S => ∀ μ' H', Nx H μ H' μ' → Ok K μ' S H' → Q b H'
  | .exn e S => ∀ μ' H' c dd, Nx H μ H' μ' → Ok K μ' S H' → ExRep K μ' H' e c dd → W c dd σ H'
  | .bad => False
def LO (K : PySem.W.Frag) (W : WX) (f : MO) : TO := fun σ H Q => ∃ μ S σd, Ok K μ S H ∧ FrRel K μ H σd σ ∧ PstO K W σ Q μ H (f σd S)
@[simp] def sliceD : D → Option Int → Option Int → Os → Res D
  | .str z, lo, hi, S => if z.length ≤ sizeLine then .ok (.str (cutS z lo hi)) S else .bad
  | .tup l, lo, hi, S => if ¬ (HT.sIx l.length 0 lo = 0 ∧ HT.sIx l.length l.length hi = l.length) then .ok (.tup ((l.drop (HT.sIx l.length 0 lo)).take (HT.sIx l.length l.length hi - HT.sIx l.length 0 lo))) S else .bad
  | d, lo, hi, S => match itemsD S d with
    | some l => .ok (.loc S.length) (S ++ [.lst ((l.drop (HT.sIx l.length 0 lo)).take (HT.sIx l.length l.length hi - HT.sIx l.length 0 lo))])
    | none => .bad
@[simp] def mSlice (e : ME) (lo hi : MO) : ME := fun σ S => (e σ S).bind fun d S1 => (lo σ S1).bind fun l S2 => (hi σ S2).bind fun h S3 => sliceD d l h S3
section
variable {K : PySem.W.Frag} {W : WX} {σ : L2.St} {H : Hp} {μ : List Addr}
theorem PO.imp {X : Cx} {e : Option Expr} {t u : TO} (h : PO X e t) (i : ∀ σ H Q, u σ H Q → t σ H Q) : PO X e u := ⟨fun pins s σ H Q I q => h.run pins s σ H Q I (i _ _ _ q)⟩
theorem PstO.andThen {Q : VK} {Q' : Option Int → Hp → Prop} {r : Res (Option Int)} {g : Option Int → Os → Res D} (p : Pst K W σ Q μ H (r.bind g))
    (k : ∀ b H1 μ1 S1, Nx H μ H1 μ1 → Ok K μ1 S1 H1 → Pst K W σ Q μ1 H1 (g b S1) → Q' b H1) : PstO K W σ Q' μ H r := by
  cases r with
  | ok d S => exact fun μ1 H1 x o => k d H1 μ1 S x o (p.go x)
  | exn e S => exact p
  | bad => exact p
theorem Pst.andThenO {Q : Option Int → Hp → Prop} {Q' : VK} {r : Res D} {g : D → Os → Res (Option Int)} (p : PstO K W σ Q μ H (r.bind g))
    (k : ∀ v H1 μ1 S1 d, Nx H μ H1 μ1 → Ok K μ1 S1 H1 → Rep K μ1 H1 d v → PstO K W σ Q μ1 H1 (g d S1) → Q' v H1) : Pst K W σ Q' μ H r := by
  cases r with
  | ok d S =>
    refine fun μ1 H1 v x o r => k v H1 μ1 S d x o r ?_
    have p : PstO K W σ Q μ H (g d S) := p
    cases q : g d S with
    | ok b S1 => rw [q] at p; exact fun μ2 H2 y => p μ2 H2 (x.trans y)
    | exn e S1 => rw [q] at p; exact fun μ2 H2 c dd y => p μ2 H2 c dd (x.trans y)
    | bad => rw [q] at p; exact p
  | exn e S => exact p
  | bad => exact p
end
section
variable {X : Cx} {W : WX} {a e : Expr} {lo hi : Option Expr} {fe : ME} {fl fh : MO} {pos p2 : Pos}
theorem p_none : PO X none (LO X.K W mNoPart) := PO.imp po_none fun σ H Q ⟨μ, S, σd, o, fr, p⟩ => p μ H (Nx.refl _ _) o
theorem p_some (h : PE X e (LE X.K W fe)) : PO X (some e) (LO X.K W (mPart fe)) := PO.imp (po_some h) fun σ H Q ⟨μ, S, σd, o, fr, p⟩ => ⟨μ, S, σd, o, fr, Pst.andThenO p fun v H1 μ1 S1 d x o1 r1 p1 => by
  cases d <;> try exact p1.elim
  rename_i i
  cases r1
  exact ⟨i, rfl, p1 μ1 H1 (Nx.refl _ _) o1⟩⟩
theorem Reps.cut {K : PySem.W.Frag} {μ : List Addr} {H : Hp} {l : List D} {vs : List V} (h : Reps K μ H l vs) (lo hi : Option Int) :
    Reps K μ H ((l.drop (HT.sIx l.length 0 lo)).take (HT.sIx l.length l.length hi - HT.sIx l.length 0 lo)) (cutV vs lo hi) := by
  unfold cutV
  rw [h.len]
  exact (h.drop _).take _
def rSlAll (K : PySem.W.Frag) : V → Option Int → Option Int → Hp → VK → Prop := fun x lo hi H Q => rSlS x lo hi H Q ∨ (rSlT K x lo hi H Q ∨ rSlL K x lo hi H Q)
theorem e_slice (he : PE X e (LE X.K W fe)) (hl : PO X lo (LO X.K W fl)) (hu : PO X hi (LO X.K W fh)) : PE X (.Subscript e (.Slice lo hi none p2) pos) (LE X.K W (mSlice fe fl fh)) :=
  PE.imp (pe_slice (sl_str.or (sl_tup.or sl_list)) he hl hu) fun σ H Q ⟨μ, S, σd, o, f, p⟩ => by
    refine ⟨μ, S, σd, o, f, p.andThen fun v H1 μ1 S1 d x o1 r1 p1 => ⟨μ1, S1, σd, o1, f.mono x, PstO.andThen p1 fun l H2 μ2 S2 y o2 p2 => ⟨μ2, S2, σd, o2, f.mono (x.trans y), PstO.andThen p2 fun u H3 μ3 S3 z o3 p3 => ?_⟩⟩⟩
    have r3 := (r1.mono y).mono z
    cases d <;> try exact p3.elim
    · cases r3
      dsimp only [sliceD] at p3
      obtain ⟨h, p3⟩ := p3.ite
      exact .inl ⟨_, rfl, h, p3.val o3 rfl⟩
    · obtain ⟨b, vs, rfl, h1, h2⟩ := r3
      dsimp only [sliceD] at p3
      obtain ⟨h, p3⟩ := p3.ite
      exact .inr (.inl ⟨b, vs, rfl, h1, by rw [← h2.len]; exact h, fun q hq => new_tup o3 (h2.cut l u) p3 q hq⟩)
    · rename_i n
      dsimp only [sliceD] at p3
      cases q : itemsD S3 (.loc n) with
      | none => rw [q] at p3; exact p3.elim
      | some m =>
        rw [q] at p3
        obtain ⟨b, vs, _, rfl, h2, h3⟩ := o3.lst q r3
        exact .inr (.inr ⟨b, vs, rfl, .inl (.inl h2), fun q hq => new_lst o3 (h3.cut l u) p3 q hq⟩)
    · rename_i m
      obtain ⟨b, vs, rfl, h2, h3⟩ := r3
      exact .inr (.inr ⟨b, vs, rfl, h2.sq, fun q hq => new_lst o3 (h3.cut l u) p3 q hq⟩)
end
end MX

end
section
namespace MX
open PySem PySem.Spec PyProof.Rows L2
/-! ### comprehensions -/
def WF : WX := fun _ _ _ _ => False
@[simp] def wipeD (σ : Fr) : List Nat → Fr
  | [] => σ
  | v :: vs => (wipeD σ vs).set v none
theorem FrRel.wipe {K : PySem.W.Frag} {μ : List Addr} {H : Hp} {σd : Fr} {σ : L2.St} (h : FrRel K μ H σd σ) : ∀ vs, FrRel K μ H (wipeD σd vs) (wipe σ vs)
  | [] => h
  | v :: vs => by
    have ih := FrRel.wipe h vs
    refine ⟨by unfold wipeD L2.wipe; rw [List.length_set, List.length_set]; exact ih.1, fun i d e => ?_⟩
    unfold wipeD at e
    by_cases hi : i = v
    · subst hi
      have hl : i < (wipeD σd vs).length := by
        have := (List.getElem?_eq_some_iff.mp e).1
        rwa [List.length_set] at this
      rw [List.getElem?_set_self hl] at e
      cases e
    · rw [List.getElem?_set_ne (Ne.symm hi)] at e
      obtain ⟨u, h1, h2⟩ := ih.2 i d e
      exact ⟨u, by unfold L2.wipe; rw [List.getElem?_set_ne (Ne.symm hi)]; exact h1, h2⟩
@[simp] def mYes : MT := fun _ S => .ok true S
/-- the turns of a comprehension, the new list at n -/
noncomputable def mComp (ok : Os → Prop) (g : D → Fr → Os → Option Fr) (vs : List Nat) (t : MT) (e : ME) (n : Nat) : List D → Fr → Os → Res D
  | [] => fun _ S => open Classical in if ok S then .ok (.loc n) S else .bad
  | x :: xs => fun σ S => open Classical in if ok S then (match g x (wipeD σ vs) S with
      | some σ2 => (match t σ2 S with
        | .ok true S1 => (match e σ2 S1 with
          | .ok y S2 => (match lstAt S2 n with
            | some acc => if acc.length < sizeLine then mComp ok g vs t e n xs σ (S2.set n (.lst (acc ++ [y]))) else .bad
            | none => .bad)
          | _ => .bad)
        | .ok false S1 => mComp ok g vs t e n xs σ S1
        | _ => .bad)
      | none => .bad) else .bad
@[simp] noncomputable def mLcL (l : ME) (g : D → Fr → Os → Option Fr) (vs : List Nat) (t : MT) (e : ME) : ME := fun σ S => (l σ S).bind fun d S1 => match d with
  | .loc n => (match lstAt S1 n with
    | some l => mComp (fun S' => lstAt S' n = some l) g vs t e S1.length l σ (S1 ++ [.lst []])
    | none => .bad)
  | .rl l => mComp (fun _ => True) g vs t e S1.length l σ (S1 ++ [.lst []])
  | _ => .bad
@[simp] noncomputable def mLcT (l : ME) (g : D → Fr → Os → Option Fr) (vs : List Nat) (t : MT) (e : ME) : ME := fun σ S => (l σ S).bind fun d S1 => match d with
  | .tup l => mComp (fun _ => True) g vs t e S1.length l σ (S1 ++ [.lst []])
  | _ => .bad
@[simp] noncomputable def mLcR1 (a : ME) (g : D → Fr → Os → Option Fr) (vs : List Nat) (t : MT) (e : ME) : ME := fun σ S => (a σ S).bind fun d S1 => match d with
  | .int j => if -(2 ^ 62) ≤ j ∧ j < 2 ^ 62 then mComp (fun _ => True) g vs t e S1.length (rngD 0 j.toNat) σ (S1 ++ [.lst []]) else .bad
  | _ => .bad
def signsD (z : Str) : List D := z.cps.toList.map fun c => .str ⟨#[c]⟩
@[simp] noncomputable def mLcS (a : ME) (g : D → Fr → Os → Option Fr) (vs : List Nat) (t : MT) (e : ME) : ME := fun σ S => (a σ S).bind fun d S1 => match d with
  | .str z => mComp (fun _ => True) g vs t e S1.length (signsD z) σ (S1 ++ [.lst []])
  | _ => .bad
/-- the target is one of the comprehension's own names -/
def GW (t : TG) (vs : List Nat) : Prop := ∀ (v : V) (σ : L2.St) (H : Hp) (Q : L2.St → Hp → Prop), t v (wipe σ vs) H Q → t v (wipe σ vs) H fun σ2 H2 => wipe σ2 vs = wipe σ vs ∧ Q σ2 H2
theorem gw_name (i : Nat) : GW (gName i) [i] := fun v σ H Q h => ⟨by
  show (((σ.set i none).set i (some v)).set i none) = σ.set i none
  rw [List.set_set, List.set_set], h⟩
section
variable {K : PySem.W.Frag} {g : D → Fr → Os → Option Fr} {t : TG} {vs : List Nat} {ft : MT} {fe : ME}
theorem comp_any {J : It} {okS : Os → Prop} (hg : GD K t g) (hw : GW t vs) {l : List D} {σ : L2.St} {W : WX} {Q : VK}
    (Pc : List Addr → Hp → Prop) (mono : ∀ H μ H' μ', Nx H μ H' μ' → Pc μ H → Pc μ' H')
    (hstop : ∀ μ S H, Ok K μ S H → Pc μ H → okS S → J.stop l.length H)
    (hgo : ∀ i d μ S H, l[i]? = some d → Ok K μ S H → Pc μ H → okS S → J.go i H ∧ ∀ x H', J.yld i H x H' → ∃ μ', Nx H μ H' μ' ∧ Ok K μ' S H' ∧ Rep K μ' H' d x)
    {H1 : Hp} {μ1 : List Addr} {S1 : Os} {σd : Fr} (hp : Pc μ1 H1) (o1 : Ok K μ1 S1 H1) (fr : FrRel K μ1 H1 σd σ) {tt : TT} (htt : ∀ σ H Q, LT K WF ft σ H Q → tt σ H Q)
    (p : Pst K W σ Q μ1 H1 (mComp okS g vs ft fe S1.length l σd (S1 ++ [.lst []]))) (Dl : Addr) (hD : H1 Dl = none) :
    ∃ Wf : Nat → Nat → Hp → Prop, (∃ m, Wf 0 m (upd H1 Dl (.lst []))) ∧ ∀ i m H, Wf i m H →
      (J.stop i H ∧ Q (.ref Dl) H) ∨ (J.go i H ∧ ∃ N : Hp → Prop, (∀ H', N H' → ∃ m', m' < m ∧ Wf (i + 1) m' H') ∧ ∀ x H', J.yld i H x H' → t x (wipe σ vs) H' fun σ2 H2 => wipe σ2 vs = wipe σ vs ∧ tt σ2 H2 fun b H3 =>
        if b = true then LE K WF fe σ2 H3 fun y H4 => ∃ acc, H4 Dl = some (.lst acc) ∧ acc.length < sizeLine ∧ N (upd H4 Dl (.lst (acc ++ [y]))) else N H3) := by
  refine ⟨fun i m H => i + m = l.length ∧ ∃ μ S, μ[S1.length]? = some Dl ∧ Pc μ H ∧ Ok K μ S H ∧ FrRel K μ H σd σ ∧ Pst K W σ Q μ H (mComp okS g vs ft fe S1.length (l.drop i) σd S),
    ⟨l.length, Nat.zero_add _, μ1 ++ [Dl], S1 ++ [O.lst []], o1.loc_new Dl, mono _ _ _ _ (Nx.new hD [Dl]) hp, o1.alloc (o := .lst []) hD ⟨[], upd_same, rfl⟩, fr.mono (Nx.new hD [Dl]), p.go (Nx.new hD [Dl])⟩, ?_⟩
  rintro i m H ⟨hm, μ, S, hDl, hp, o, fr, p⟩
  cases m with
  | zero =>
    have hi : i = l.length := by omega
    subst hi
    rw [List.drop_length] at p
    unfold mComp at p
    by_cases q : okS S
    · rw [if_pos q] at p
      exact .inl ⟨hstop μ S H o hp q, p.val o ⟨Dl, hDl, rfl⟩⟩
    · rw [if_neg q] at p
      exact p.elim
  | succ m =>
    have hi : i < l.length := by omega
    rw [List.drop_eq_getElem_cons hi] at p
    unfold mComp at p
    by_cases q : okS S
    · rw [if_pos q] at p
      obtain ⟨h1, h2⟩ := hgo i l[i] μ S H (List.getElem?_eq_getElem hi) o hp q
      refine .inr ⟨h1, fun H => i + 1 + m = l.length ∧ ∃ μ S, μ[S1.length]? = some Dl ∧ Pc μ H ∧ Ok K μ S H ∧ FrRel K μ H σd σ ∧ Pst K W σ Q μ H (mComp okS g vs ft fe S1.length (l.drop (i + 1)) σd S),
        fun H' h => ⟨m, Nat.lt_succ_self m, h⟩, fun x H' hy => ?_⟩
      obtain ⟨μ', x1, o', r'⟩ := h2 x H' hy
      replace p := p.go x1
      have hm' : i + 1 + m = l.length := by omega
      cases q2 : g l[i] (wipeD σd vs) S with
      | none => rw [q2] at p; exact p.elim
      | some σd2 =>
        rw [q2] at p
        refine hw x σ H' _ (hg μ' S H' (wipeD σd vs) σd2 (wipe σ vs) l[i] x _ o' ((fr.mono x1).wipe vs) r' q2 fun σ2 fr2 => htt _ _ _ ⟨μ', S, σd2, o', fr2, ?_⟩)
        dsimp only at p
        cases q3 : ft σd2 S with
        | exn e S2 => rw [q3] at p; exact p.elim
        | bad => rw [q3] at p; exact p.elim
        | ok b S2 =>
          rw [q3] at p
          intro μ2 H2 x2 o2
          replace p := p.go x2
          cases b with
          | false => exact ⟨hm', μ2, S2, (x1.trans x2).at hDl, mono _ _ _ _ (x1.trans x2) hp, o2, (fr.mono x1).mono x2, p⟩
          | true =>
            refine ⟨μ2, S2, σd2, o2, fr2.mono x2, ?_⟩
            dsimp only at p
            cases q4 : fe σd2 S2 with
            | exn e S3 => rw [q4] at p; exact p.elim
            | bad => rw [q4] at p; exact p.elim
            | ok y S3 =>
              rw [q4] at p
              intro μ3 H3 v x3 o3 r3
              replace p := p.go x3
              dsimp only at p
              have hDl3 : μ3[S1.length]? = some Dl := x3.at ((x1.trans x2).at hDl)
              cases q5 : lstAt S3 S1.length with
              | none => rw [q5] at p; exact p.elim
              | some acc =>
                rw [q5] at p
                obtain ⟨hz, p⟩ := p.ite
                obtain ⟨b, us, hb, eb, h4, h5⟩ := o3.lst q5 ⟨Dl, hDl3, rfl⟩
                cases eb
                have hm3 := List.mem_of_getElem? hDl3
                refine ⟨us, h4, by rw [← h5.len]; exact hz, hm', μ3, _, hDl3, mono _ _ _ _ (((x1.trans x2).trans x3).trans (Nx.put o3 hm3)) hp, put_lst o3 hDl3 (h5.app (Reps.one r3)), (((fr.mono x1).mono x2).mono x3).mono (Nx.put o3 hm3), p.go (Nx.put o3 hm3)⟩
    · rw [if_neg q] at p
      exact p.elim
end
end MX

end
section
namespace MX
open PySem PySem.Spec PyProof.Rows L2
section
variable {K : PySem.W.Frag} {g : D → Fr → Os → Option Fr} {t : TG} {vs : List Nat} {ft : MT} {fe fl : ME} {W : WX} {tt : TT}
theorem le_lcL (hg : GD K t g) (hw : GW t vs) (htt : ∀ σ H Q, LT K WF ft σ H Q → tt σ H Q) (σ : L2.St) (H : Hp) (Q : VK) (h : LE K W (mLcL fl g vs ft fe) σ H Q) : tLc (iList K (LE K W fl)) t tt (LE K WF fe) vs σ H Q := by
  obtain ⟨μ, S, σd, o, fr, p⟩ := h
  refine ⟨μ, S, σd, o, fr, p.andThen fun v H1 μ1 S1 d x o1 r1 p1 => ?_⟩
  cases d <;> try exact p1.elim
  · rename_i n
    dsimp only at p1
    cases e : lstAt S1 n with
    | none => rw [e] at p1; exact p1.elim
    | some l =>
      rw [e] at p1
      obtain ⟨a, us, ha, rfl, h2, h3⟩ := o1.lst e r1
      refine ⟨a, rfl, ⟨us, .inl (.inl h2)⟩, fun Dl hD => comp_any (W := W) hg hw (fun μ _ => μ[n]? = some a) (fun _ _ _ _ y e => y.at e) ?_ ?_ ha o1 (fr.mono x) htt p1 Dl hD⟩
      · intro μ2 S2 H2 o2 ha2 q
        obtain ⟨b, us, hb, eb, h4, h5⟩ := o2.lst q ⟨a, ha2, rfl⟩
        cases eb
        exact ⟨us, .inl (.inl h4), by rw [← h5.len]; exact Nat.le_refl _⟩
      · intro i d μ2 S2 H2 hi o2 ha2 q
        obtain ⟨b, us, hb, eb, h4, h5⟩ := o2.lst q ⟨a, ha2, rfl⟩
        cases eb
        obtain ⟨u, h6, h7⟩ := h5.get hi
        refine ⟨⟨us, u, .inl (.inl h4), h6⟩, fun y H' hy => ?_⟩
        obtain ⟨rfl, hy⟩ := hy
        have := hy us (.inl (.inl h4))
        rw [h6] at this
        cases this
        exact ⟨μ2, Nx.refl _ _, o2, h7⟩
  · rename_i l
    obtain ⟨a, us, rfl, h2, h3⟩ := r1
    refine ⟨a, rfl, ⟨us, h2.sq⟩, fun Dl hD => comp_any (W := W) hg hw (fun μ H => SqR K H a us ∧ Reps K μ H l us) (fun _ _ _ _ y e => ⟨y.sr e.1, Reps.mono y _ _ e.2⟩) ?_ ?_ ⟨h2, h3⟩ o1 (fr.mono x) htt p1 Dl hD⟩
    · intro μ2 S2 H2 o2 ha2 q
      exact ⟨us, ha2.1.sq, by rw [← ha2.2.len]; exact Nat.le_refl _⟩
    · intro i d μ2 S2 H2 hi o2 ha2 q
      obtain ⟨u, h6, h7⟩ := ha2.2.get hi
      refine ⟨⟨us, u, ha2.1.sq, h6⟩, fun y H' hy => ?_⟩
      obtain ⟨rfl, hy⟩ := hy
      have := hy us ha2.1.sq
      rw [h6] at this
      cases this
      exact ⟨μ2, Nx.refl _ _, o2, h7⟩
theorem le_lcT (hg : GD K t g) (hw : GW t vs) (htt : ∀ σ H Q, LT K WF ft σ H Q → tt σ H Q) (σ : L2.St) (H : Hp) (Q : VK) (h : LE K W (mLcT fl g vs ft fe) σ H Q) : tLc (iTup K (LE K W fl)) t tt (LE K WF fe) vs σ H Q := by
  obtain ⟨μ, S, σd, o, fr, p⟩ := h
  refine ⟨μ, S, σd, o, fr, p.andThen fun v H1 μ1 S1 d x o1 r1 p1 => ?_⟩
  cases d <;> try exact p1.elim
  rename_i l
  obtain ⟨a, us, rfl, h2, h3⟩ := r1
  refine ⟨a, rfl, ⟨us, h2⟩, fun Dl hD => comp_any (W := W) hg hw (fun μ H => SqT K H a us ∧ Reps K μ H l us) (fun _ _ _ _ y e => ⟨y.sq e.1, Reps.mono y _ _ e.2⟩) ?_ ?_ ⟨h2, h3⟩ o1 (fr.mono x) htt p1 Dl hD⟩
  · intro μ2 S2 H2 o2 ha2 q
    exact ⟨us, ha2.1, by rw [← ha2.2.len]; exact Nat.le_refl _⟩
  · intro i d μ2 S2 H2 hi o2 ha2 q
    obtain ⟨u, h6, h7⟩ := ha2.2.get hi
    refine ⟨⟨us, u, ha2.1, h6⟩, fun y H' hy => ?_⟩
    obtain ⟨rfl, hy⟩ := hy
    have := hy us ha2.1
    rw [h6] at this
    cases this
    exact ⟨μ2, Nx.refl _ _, o2, h7⟩
theorem le_lcR1 (hg : GD K t g) (hw : GW t vs) (htt : ∀ σ H Q, LT K WF ft σ H Q → tt σ H Q) (σ : L2.St) (H : Hp) (Q : VK) (h : LE K W (mLcR1 fl g vs ft fe) σ H Q) : tLc (iRng1 (LA K W (mCons fl mNil))) t tt (LE K WF fe) vs σ H Q := by
  obtain ⟨μ, S, σd, o, fr, p⟩ := h
  refine ⟨μ, S, σd, o, fr, la_one (p.andThen fun v H1 μ1 S1 d x o1 r1 p1 => ?_)⟩
  cases d <;> try exact p1.elim
  rename_i j
  cases r1
  obtain ⟨c, p1⟩ := Pst.ite p1
  refine ⟨j, rfl, c.1, c.2, fun Dl hD => comp_any (W := W) hg hw (fun _ _ => True) (fun _ _ _ _ _ _ => trivial) ?_ ?_ trivial o1 (fr.mono x) htt p1 Dl hD⟩
  · intro μ2 S2 H2 o2 _ _
    show j.toNat ≤ (rngD 0 j.toNat).length
    rw [rngD_len]
    exact Nat.le_refl _
  · intro i d μ2 S2 H2 hi o2 _ _
    obtain ⟨h1, rfl⟩ := rngD_get hi
    refine ⟨h1, fun y H' hy => ?_⟩
    obtain ⟨rfl, rfl⟩ := hy
    exact ⟨μ2, Nx.refl _ _, o2, rfl⟩
theorem signsD_get {z : Str} {i : Nat} {d : D} (h : (signsD z)[i]? = some d) : ∃ c, z.cps[i]? = some c ∧ d = .str ⟨#[c]⟩ := by
  unfold signsD at h
  rw [List.getElem?_map, Array.getElem?_toList] at h
  cases e : z.cps[i]? with
  | none => rw [e] at h; cases h
  | some c => rw [e] at h; cases h; exact ⟨c, rfl, rfl⟩
theorem signsD_len {z : Str} : (signsD z).length = z.cps.size := by unfold signsD; rw [List.length_map, Array.length_toList]
theorem le_lcS (hg : GD K t g) (hw : GW t vs) (htt : ∀ σ H Q, LT K WF ft σ H Q → tt σ H Q) (σ : L2.St) (H : Hp) (Q : VK) (h : LE K W (mLcS fl g vs ft fe) σ H Q) : tLc (iStr (LE K W fl)) t tt (LE K WF fe) vs σ H Q := by
  obtain ⟨μ, S, σd, o, fr, p⟩ := h
  refine ⟨μ, S, σd, o, fr, p.andThen fun v H1 μ1 S1 d x o1 r1 p1 => ?_⟩
  cases d <;> try exact p1.elim
  rename_i z
  cases r1
  refine ⟨z, rfl, fun Dl hD => comp_any (W := W) hg hw (fun _ _ => True) (fun _ _ _ _ _ _ => trivial) ?_ ?_ trivial o1 (fr.mono x) htt p1 Dl hD⟩
  · intro μ2 S2 H2 o2 _ _
    show z.cps.size ≤ (signsD z).length
    rw [signsD_len]
    exact Nat.le_refl _
  · intro i d μ2 S2 H2 hi o2 _ _
    obtain ⟨c, h1, rfl⟩ := signsD_get hi
    have hlt : i < z.cps.size := by
      have := (List.getElem?_eq_some_iff.mp hi).1
      rwa [signsD_len] at this
    refine ⟨hlt, fun y H' hy => ?_⟩
    obtain ⟨rfl, c', h2, rfl⟩ := hy
    rw [h1] at h2
    cases h2
    exact ⟨μ2, Nx.refl _ _, o2, rfl⟩
theorem tt_yes (σ : L2.St) (H : Hp) (Q : Bool → Hp → Prop) (h : LT K W mYes σ H Q) : tYes σ H Q := by
  obtain ⟨μ, S, σd, o, fr, p⟩ := h
  exact p μ H (Nx.refl _ _) o
end
section
variable {X : Cx} {W : WX} {e c : Expr} {fe : ME} {ft : MT}
theorem ts_nil {X : Cx} {W : WX} : PTs X [] (LT X.K W mYes) := ⟨fun pins s σ H Q I q => pts_nil.run pins s σ H Q I (tt_yes σ H Q q)⟩
theorem ts_one (h : PT X c (LT X.K W ft)) : PTs X [c] (LT X.K W ft) := pts_one h
end
/-! ### methods of lists, stores by index -/
@[simp] def mMeth (op : D → List D → Os → Res D) (o : ME) (a : MA) : ME := fun σ S => (o σ S).bind fun d S1 => match d with
  | .loc n => (match lstAt S1 n with
    | some _ => (a σ S1).bind fun ds S2 => op (.loc n) ds S2
    | none => .bad)
  | _ => .bad
@[simp] def appendD : D → List D → Os → Res D
  | .loc n, [d], S => match lstAt S n with
    | some l => if l.length < sizeLine then .ok .non (S.set n (.lst (l ++ [d]))) else .bad
    | none => .bad
  | _, _, _ => .bad
@[simp] def popD : D → List D → Os → Res D
  | .loc n, [], S => match lstAt S n with
    | some l => (match l[l.length - 1]? with
      | some d => .ok d (S.set n (.lst l.dropLast))
      | none => .bad)
    | none => .bad
  | _, _, _ => .bad
@[simp] def extendD : D → List D → Os → Res D
  | .loc n, [.loc m], S => match lstAt S n, lstAt S m with
    | some l, some k => if l.length + k.length ≤ sizeLine then .ok .non (S.set n (.lst (l ++ k))) else .bad
    | _, _ => .bad
  | _, _, _ => .bad
/-- a method by data -/
def RDM (K : PySem.W.Frag) (r : V → List V → Hp → VK → Prop) (op : D → List D → Os → Res D) : Prop := ∀ (W : WX) (σ : L2.St) (Q : VK) (μ : List Addr) (S : Os) (H : Hp) (d : D) (x : V) (ds : List D) (xs : List V), Ok K μ S H → Rep K μ H d x → Reps K μ H ds xs → Pst K W σ Q μ H (op d ds S) → r x xs H Q
section
variable {K : PySem.W.Frag} {W : WX} {fo : ME} {fs : MA} {r : V → List V → Hp → VK → Prop} {op : D → List D → Os → Res D}
theorem le_bm (hr : RDM K r op) (σ : L2.St) (H : Hp) (Q : VK) (h : LE K W (mMeth op fo fs) σ H Q) : tBM K "list" r (LE K W fo) (LA K W fs) σ H Q := by
  obtain ⟨μ, S, σd, o, fr, p⟩ := h
  refine ⟨μ, S, σd, o, fr, p.andThen fun v H1 μ1 S1 d x o1 r1 p1 => ?_⟩
  cases d <;> try exact p1.elim
  rename_i n
  dsimp only at p1
  cases e : lstAt S1 n with
  | none => rw [e] at p1; exact p1.elim
  | some l =>
    rw [e] at p1
    obtain ⟨a, us, ha, rfl, h2, h3⟩ := o1.lst e r1
    exact ⟨.inl ⟨rfl, us, .inl (.inl h2)⟩, μ1, S1, σd, o1, fr.mono x, PstA.andThenE p1 fun vs H2 μ2 S2 ds y o2 r2 p2 => hr W σ Q μ2 S2 H2 _ _ ds vs o2 (r1.mono y) r2 p2⟩
theorem le_bm0 (hr : RDM K r op) (σ : L2.St) (H : Hp) (Q : VK) (h : LE K W (mMeth op fo mNil) σ H Q) : tBM0 K "list" r (LE K W fo) σ H Q := by
  obtain ⟨μ, S, σd, o, fr, p⟩ := h
  refine ⟨μ, S, σd, o, fr, p.andThen fun v H1 μ1 S1 d x o1 r1 p1 => ?_⟩
  cases d <;> try exact p1.elim
  rename_i n
  dsimp only at p1
  cases e : lstAt S1 n with
  | none => rw [e] at p1; exact p1.elim
  | some l =>
    rw [e] at p1
    obtain ⟨a, us, ha, rfl, h2, h3⟩ := o1.lst e r1
    exact ⟨.inl ⟨rfl, us, .inl (.inl h2)⟩, hr W σ Q μ1 S1 H1 _ _ [] [] o1 r1 rfl p1⟩
theorem Pst.put {σ : L2.St} {Q : VK} {μ : List Addr} {S : Os} {H : Hp} {n : Nat} {a : Addr} {l : List D} {vs : List V} {d : D} {v : V} (o : Ok K μ S H) (e : μ[n]? = some a) (r : Reps K μ H l vs) (rd : Rep K μ H d v)
    (p : Pst K W σ Q μ H (.ok d (S.set n (.lst l)))) : Q v (upd H a (.lst vs)) :=
  p μ _ v (Nx.put o (List.mem_of_getElem? e)) (put_lst o e r) (rd.mono (Nx.put o (List.mem_of_getElem? e)))
theorem rd_append : RDM K rAppend appendD := by
  intro W σ Q μ S H d x ds xs o r1 r2 p
  unfold appendD at p
  split at p
  · rename_i n d
    obtain ⟨v, _, rfl, r3, rfl⟩ := r2
    cases e : lstAt S n with
    | none => rw [e] at p; exact p.elim
    | some l =>
      rw [e] at p
      obtain ⟨h, p⟩ := p.ite
      obtain ⟨a, us, ha, rfl, h2, h3⟩ := o.lst e r1
      exact ⟨a, us, v, rfl, rfl, h2, by rw [← h3.len]; exact h, Pst.put (d := .non) o ha (h3.app (Reps.one r3)) rfl p⟩
  · exact p.elim
theorem rd_pop : RDM K rPop popD := by
  intro W σ Q μ S H d x ds xs o r1 r2 p
  unfold popD at p
  split at p
  · rename_i n
    cases r2
    cases e : lstAt S n with
    | none => rw [e] at p; exact p.elim
    | some l =>
      rw [e] at p
      dsimp only at p
      cases q : l[l.length - 1]? with
      | none => rw [q] at p; exact p.elim
      | some y =>
        rw [q] at p
        obtain ⟨a, us, ha, rfl, h2, h3⟩ := o.lst e r1
        obtain ⟨v, h4, h5⟩ := h3.get q
        refine ⟨a, us, v, rfl, rfl, h2, by rw [← h3.len]; exact h4, Pst.put o ha ?_ h5 p⟩
        rw [List.dropLast_eq_take, List.dropLast_eq_take, ← h3.len]
        exact h3.take _
  · exact p.elim
theorem rd_extend : RDM K rExtend extendD := by
  intro W σ Q μ S H d x ds xs o r1 r2 p
  unfold extendD at p
  split at p
  · rename_i n m
    obtain ⟨v, _, rfl, r3, rfl⟩ := r2
    cases e : lstAt S n with
    | none => rw [e] at p; exact p.elim
    | some l =>
      cases e2 : lstAt S m with
      | none => rw [e, e2] at p; exact p.elim
      | some k =>
        rw [e, e2] at p
        obtain ⟨h, p⟩ := p.ite
        obtain ⟨a, us, ha, rfl, h2, h3⟩ := o.lst e r1
        obtain ⟨b, ws, hb, rfl, h4, h5⟩ := o.lst e2 r3
        exact ⟨a, b, us, ws, rfl, rfl, h2, h4, by rw [← h3.len, ← h5.len]; exact h, Pst.put (d := .non) o ha (h3.app h5) rfl p⟩
  · exact p.elim
end
end MX

end
section
namespace MX
open PySem PySem.Spec PyProof.Rows L2
/-! ### kinds -/
@[simp] def kindD (S : Os) : D → Option String
  | .non => some "NoneType"
  | .bl _ => some "bool"
  | .int _ => some "int"
  | .str _ => some "str"
  | .tup _ => some "tuple"
  | .rl _ => some "list"
  | .loc n => match S[n]? with
    | some (.lst _) => some "list"
    | some (.dK _) => some "dict"
    | _ => none
  | .ty _ => none
theorem kind_ok {K : PySem.W.Frag} {μ : List Addr} {H : Hp} {S : Os} {d : D} {x : V} {T : String} (o : Ok K μ S H) (r : Rep K μ H d x) (e : kindD S d = some T) : TyB K H x T := by
  cases d <;> try (cases e; done)
  · cases e; cases r; exact .non
  · cases e; cases r; exact .bl _
  · cases e; cases r; exact .int _
  · cases e; cases r; exact .str _
  · cases e
    obtain ⟨a, vs, rfl, h1, h2⟩ := r
    exact .tup h1
  · rename_i n
    obtain ⟨a, h1, rfl⟩ := r
    dsimp only [kindD] at e
    cases q : S[n]? with
    | none => rw [q] at e; cases e
    | some ob =>
      rw [q] at e
      have ho := o.obj n ob a q h1
      cases ob with
      | lst l =>
        cases e
        obtain ⟨vs, h3, h4⟩ := ho
        exact .lst (.inl (.inl h3))
      | dK l =>
        cases e
        obtain ⟨vs, h3, h4⟩ := ho
        exact .dK h3
      | dT l => cases e
      | ins C fs => cases e
  · cases e
    obtain ⟨a, vs, rfl, h1, h2⟩ := r
    exact .lst h1.sq
@[simp] def typeD : List D → Os → Res D
  | [d], S => match kindD S d with
    | some T => .ok (.ty T) S
    | none => .bad
  | _, _ => .bad
theorem rd_type {K : PySem.W.Frag} : RDC K (rTyp K) typeD := by
  intro W σ Q μ S H ds xs o r p
  unfold typeD at p
  split at p
  · rename_i d
    obtain ⟨v, _, rfl, r1, rfl⟩ := r
    cases e : kindD S d with
    | none => rw [e] at p; exact p.elim
    | some T =>
      rw [e] at p
      exact ⟨v, T, rfl, kind_ok o r1 e, p.val o rfl⟩
  · exact p.elim
/-- type(x) == T -/
def kinds : List String := ["str", "int", "tuple", "bool", "list", "dict", "NoneType"]
def rEqTy : R2 := fun x y H Q => ∃ a b, x = .ty a ∧ y = .ty b ∧ a ∈ kinds ∧ b ∈ kinds ∧ Q (.bl (decide (a = b))) H
theorem kind_meta : ∀ {a : String}, a ∈ kinds → ∀ s : Shared, s.TypeIs (.type a) "type" := by
  intro a h s
  simp only [kinds, List.mem_cons, List.not_mem_nil, or_false] at h
  rcases h with rfl | rfl | rfl | rfl | rfl | rfl | rfl
  · exact TypeEq.meta_str s
  · exact TypeEq.meta_int s
  · exact TypeEq.meta_tuple s
  · exact TypeEq.meta_bool s
  · exact TypeEq.meta_list s
  · exact TypeEq.meta_dict s
  · exact TypeEq.meta_NoneType s
theorem op_eqTy {X : Cx} : OpR X (compareOp .Eq) rEqTy := by
  intro pins s σ H x y v u Q I rx ry h
  obtain ⟨a, b, rfl, rfl, ha, hb, q⟩ := h
  cases rx; cases ry
  by_cases e : a = b
  · subst e
    rw [decide_eq_true rfl] at q
    exact TypeEq.eq_type_same (kind_meta ha) ⟨.bl true, H, I, rfl, q⟩
  · rw [decide_eq_false e] at q
    exact TypeEq.eq_type_other (kind_meta ha) (kind_meta hb) (by
      rw [beq_eq_false_iff_ne]
      intro z
      injection z with z
      exact e z) ⟨.bl false, H, I, rfl, q⟩
def rEqA : R2 := fun x y H Q => rEq x y H Q ∨ rEqTy x y H Q
theorem o_eq {X : Cx} : OpR X (compareOp .Eq) rEqA := OpR.or op_eq op_eqTy
@[simp] def eqA (d e : D) (S : Os) : Res D := match d, e with
  | .ty a, .ty b => if a ∈ kinds ∧ b ∈ kinds then .ok (.bl (decide (a = b))) S else .bad
  | d, e => eqD false d e S
theorem rd_eqA {K : PySem.W.Frag} : RD2 K rEqA eqA := by
  intro W σ Q μ S H d e x y o rx ry p
  unfold eqA at p
  split at p
  · cases rx; cases ry
    obtain ⟨h, p⟩ := p.ite
    exact .inr ⟨_, _, rfl, rfl, h.1, h.2, p.val o rfl⟩
  · exact .inl (rd_eq W σ Q μ S H _ _ x y o rx ry p)
/-! ### is -/
@[simp] def isNon : D → Bool
  | .non => true
  | _ => false
@[simp] def isD (neg : Bool) (d e : D) (S : Os) : Res D := match d, e with
  | d, .non => .ok (.bl (if neg then !isNon d else isNon d)) S
  | .bl a, .bl b => .ok (.bl (if neg then !decide (a = b) else decide (a = b))) S
  | _, _ => .bad
theorem non_iff {K : PySem.W.Frag} {μ : List Addr} {H : Hp} {d : D} {x : V} (r : Rep K μ H d x) : decide (x = .non) = isNon d := by
  cases d <;> first
    | (obtain ⟨a, vs, rfl, _, _⟩ := r; simp [isNon]; done)
    | (obtain ⟨a, _, rfl⟩ := r; simp [isNon]; done)
    | (cases r; simp [isNon])
def rIsA : R2 := fun x y H Q => (y = .non ∧ Q (.bl (decide (x = .non))) H) ∨ rIsB x y H Q
def rNotA : R2 := fun x y H Q => (y = .non ∧ Q (.bl (!decide (x = .non))) H) ∨ rNotB x y H Q
theorem o_is {X : Cx} : OpR X (compareOp .Is) rIsA := OpR.or op_isN op_isBl
theorem o_isnot {X : Cx} : OpR X (compareOp .IsNot) rNotA := OpR.or op_notN op_notBl
theorem rd_is {K : PySem.W.Frag} : RD2 K rIsA (isD false) := by
  intro W σ Q μ S H d e x y o rx ry p
  unfold isD at p
  split at p
  · cases ry
    refine .inl ⟨rfl, ?_⟩
    rw [non_iff rx]
    exact p.val o rfl
  · cases rx; cases ry
    exact .inr ⟨_, _, rfl, rfl, p.val o rfl⟩
  · exact p.elim
theorem rd_isnot {K : PySem.W.Frag} : RD2 K rNotA (isD true) := by
  intro W σ Q μ S H d e x y o rx ry p
  unfold isD at p
  split at p
  · cases ry
    refine .inl ⟨rfl, ?_⟩
    rw [non_iff rx]
    exact p.val o rfl
  · cases rx; cases ry
    exact .inr ⟨_, _, rfl, rfl, p.val o rfl⟩
  · exact p.elim
/-! ### isinstance of built-in kinds -/
@[simp] def isiT (a b : String) : Option Bool := if b ∈ ["str", "int", "bool", "tuple", "list", "dict"] ∧ a ∈ kinds then some (decide (a = b) || (decide (a = "bool") && decide (b = "int"))) else none
theorem isiT_kit {a b : String} {r : Bool} (h : isiT a b = some r) : kitB a b = some r := by
  unfold isiT at h
  split at h
  · rename_i c
    obtain ⟨c1, c2⟩ := c
    simp only [kinds, List.mem_cons, List.not_mem_nil, or_false] at c1 c2
    rcases c1 with rfl | rfl | rfl | rfl | rfl | rfl <;> rcases c2 with rfl | rfl | rfl | rfl | rfl | rfl | rfl <;> (cases h; decide +kernel)
  · cases h
@[simp] def isiD : List D → Os → Res D
  | [d, .ty b], S => match kindD S d with
    | some a => (match isiT a b with
      | some r => .ok (.bl r) S
      | none => .bad)
    | none => .bad
  | _, _ => .bad
theorem tyX_of {K : PySem.W.Frag} {μ : List Addr} {H : Hp} {S : Os} {d : D} {x : V} {T : String} (o : Ok K μ S H) (r : Rep K μ H d x) (e : kindD S d = some T) : TyX K H x (.type T) := by
  have sq : ∀ {a : Addr} {vs : List V}, SqT K H a vs → TyX K H (.ref a) (.type "tuple") := fun {a vs} h => by
    rcases h with (h | ⟨ob, h⟩) | ⟨ob, its, n, h1, h2, _⟩
    · exact .base (.tup h)
    · exact .fTuple h
    · exact .kTuple h1 h2
  cases d <;> try (cases e; done)
  · cases e; cases r; exact .base .non
  · cases e; cases r; exact .base (.bl _)
  · cases e; cases r; exact .base (.int _)
  · cases e; cases r; exact .base (.str _)
  · cases e
    obtain ⟨a, vs, rfl, h1, h2⟩ := r
    exact sq h1
  · rename_i n
    obtain ⟨a, h1, rfl⟩ := r
    dsimp only [kindD] at e
    cases q : S[n]? with
    | none => rw [q] at e; cases e
    | some ob =>
      rw [q] at e
      have ho := o.obj n ob a q h1
      cases ob with
      | lst l =>
        cases e
        obtain ⟨vs, h3, h4⟩ := ho
        exact .base (.lst h3)
      | dK l =>
        cases e
        obtain ⟨vs, h3, h4⟩ := ho
        exact .base (.dK h3)
      | dT l => cases e
      | ins C fs => cases e
  · cases e
    obtain ⟨a, vs, rfl, h1, h2⟩ := r
    rcases h1 with ⟨ob, h1⟩ | (h1 | ⟨ob, h1⟩) | ⟨ob, its, n, h1, h2, _⟩
    · exact .base (.frz h1)
    · cases h1
    · cases h1
    · exact .kList h1 h2
theorem rd_isi {K : PySem.W.Frag} : RDC K (rIsi K) isiD := by
  intro W σ Q μ S H ds xs o r p
  unfold isiD at p
  split at p
  · rename_i d b
    obtain ⟨v, _, rfl, r1, u, _, rfl, r2, rfl⟩ := r
    cases r2
    cases e : kindD S d with
    | none => rw [e] at p; exact p.elim
    | some a =>
      rw [e] at p
      dsimp only at p
      cases q : isiT a b with
      | none => rw [q] at p; exact p.elim
      | some z =>
        rw [q] at p
        exact ⟨v, .ty b, .type a, .type b, z, rfl, .ty b, tyX_of o r1 e, kit_ty (isiT_kit q), p.val o rfl⟩
  · exact p.elim
/-! ### xs[i] = v -/
@[simp] def setItD (o i v : D) (S : Os) : Option Os := match o, i with
  | .loc n, .int k => (match lstAt S n with
    | some l => (match ixN l.length k with
      | some j => some (S.set n (.lst (l.set j v)))
      | none => none)
    | none => none)
  | _, _ => none
@[simp] def mSetIt (e o i : ME) : MS := fun σ S => (e σ S).toS σ fun v S1 => (o σ S1).toS σ fun x S2 => (i σ S2).toS σ fun k S3 => match setItD x k v S3 with
  | some S4 => .nx σ S4
  | none => .bad
section
variable {K : PySem.W.Frag} {W : WX} {fe fo fi : ME}
theorem le_setIt (D : Ends) (σ : L2.St) (H : Hp) (h : LS K W (mSetIt fe fo fi) D σ H) : tAsg (LE K W fe) (gSub (LE K W fo) (LE K W fi) rSetL) D σ H := by
  obtain ⟨μ, S, σd, o, fr, p⟩ := h
  refine ⟨μ, S, σd, o, fr, Pst.thenS fr p fun v H1 μ1 S1 d x1 o1 r1 p1 => ?_⟩
  refine ⟨μ1, S1, σd, o1, fr.mono x1, Pst.thenS (fr.mono x1) p1 fun u H2 μ2 S2 e x2 o2 r2 p2 => ?_⟩
  refine ⟨μ2, S2, σd, o2, (fr.mono x1).mono x2, Pst.thenS ((fr.mono x1).mono x2) p2 fun w H3 μ3 S3 g x3 o3 r3 p3 => ?_⟩
  unfold setItD at p3
  cases e <;> try exact p3.elim
  cases g <;> try exact p3.elim
  rename_i n k
  dsimp only at p3
  cases q : lstAt S3 n with
  | none => rw [q] at p3; exact p3.elim
  | some l =>
    rw [q] at p3
    dsimp only at p3
    cases q2 : ixN l.length k with
    | none => rw [q2] at p3; exact p3.elim
    | some j =>
      rw [q2] at p3
      cases r3
      obtain ⟨a, us, ha, rfl, h2, h3⟩ := o3.lst q (r2.mono x3)
      have hm := List.mem_of_getElem? ha
      exact ⟨a, us, k, j, rfl, rfl, h2, by rw [← h3.len]; exact q2, p3 μ3 _ σ (Nx.put o3 hm) (put_lst o3 ha (h3.set j ((r1.mono x2).mono x3))) ((((fr.mono x1).mono x2).mono x3).mono (Nx.put o3 hm))⟩
end
/-! ### targets of several names -/
@[simp] def gNs : List Nat → List D → Fr → Option Fr
  | [], [], σ => some σ
  | i :: is, d :: ds, σ => gNs is ds (σ.set i (some d))
  | _, _, _ => none
@[simp] def gTs (is : List Nat) : D → Fr → Os → Option Fr := fun d σ _ => match d with
  | .tup l => gNs is l σ
  | _ => none
@[simp] def gUs (is : List Nat) : D → Fr → Os → Option Fr := fun d σ S => match itemsD S d with
  | some l => (match d with | .tup _ => none | _ => gNs is l σ)
  | none => none
def GDs (K : PySem.W.Frag) (t : TGs) (is : List Nat) : Prop := ∀ (μ : List Addr) (H : Hp) (σd σd' : Fr) (σ : L2.St) (l : List D) (vs : List V) (Q : L2.St → Hp → Prop), FrRel K μ H σd σ → Reps K μ H l vs → gNs is l σd = some σd' → (∀ σ', FrRel K μ H σd' σ' → Q σ' H) → t vs σ H Q
theorem gds_nil {K : PySem.W.Frag} : GDs K gNil [] := fun μ H σd σd' σ l vs Q fr r e k => by
  cases l with
  | nil => cases r; cases e; exact ⟨rfl, k _ fr⟩
  | cons _ _ => cases e
theorem gds_cons {K : PySem.W.Frag} {t : TGs} {is : List Nat} (i : Nat) (h : GDs K t is) : GDs K (gCons (gName i) t) (i :: is) := fun μ H σd σd' σ l vs Q fr r e k => by
  cases l with
  | nil => cases e
  | cons d l =>
    obtain ⟨v, us, rfl, r1, r2⟩ := r
    exact ⟨v, us, rfl, h μ H _ σd' _ l us Q (fr.set r1) r2 e k⟩
theorem gNs_len : ∀ {is : List Nat} {l : List D} {σ σ' : Fr}, gNs is l σ = some σ' → l.length = is.length
  | [], [], _, _, _ => rfl
  | [], _ :: _, _, _, h => by cases h
  | _ :: _, [], _, _, h => by cases h
  | i :: is, d :: l, σ, σ', h => by rw [List.length_cons, List.length_cons, gNs_len (is := is) (l := l) h]
theorem gd_tup {K : PySem.W.Frag} {t : TGs} {is : List Nat} (h : GDs K t is) : GD K (gTup K is.length t) (gTs is) := fun μ S H σd σd' σ d v Q o fr r e k => by
  cases d <;> try (cases e; done)
  obtain ⟨a, vs, rfl, h1, h2⟩ := r
  exact ⟨a, vs, rfl, h1, by rw [← h2.len]; exact gNs_len e, h μ H σd σd' σ _ vs Q fr h2 e k⟩
theorem gd_unl {K : PySem.W.Frag} {t : TGs} {is : List Nat} (h : GDs K t is) : GD K (gUnl K is.length t) (gUs is) := fun μ S H σd σd' σ d v Q o fr r e k => by
  unfold gUs at e
  cases q : itemsD S d with
  | none => rw [q] at e; cases e
  | some l =>
    rw [q] at e
    cases d <;> try (cases e; done)
    all_goals try (cases q; done)
    · dsimp only at e
      obtain ⟨a, vs, _, rfl, h1, h2⟩ := o.lst q r
      exact ⟨a, vs, rfl, .inl (.inl h1), by rw [← h2.len]; exact gNs_len e, h μ H σd σd' σ _ vs Q fr h2 e k⟩
    · cases q
      dsimp only at e
      obtain ⟨a, vs, rfl, h1, h2⟩ := r
      exact ⟨a, vs, rfl, h1.sq, by rw [← h2.len]; exact gNs_len e, h μ H σd σd' σ _ vs Q fr h2 e k⟩
@[simp] def mAsgG (g : D → Fr → Os → Option Fr) (e : ME) : MS := fun σ S => (e σ S).toS σ fun d S1 => match g d σ S1 with
  | some σ1 => .nx σ1 S1
  | none => .bad
theorem le_asgG {K : PySem.W.Frag} {W : WX} {t : TG} {g : D → Fr → Os → Option Fr} {fe : ME} (hg : GD K t g) (D : Ends) (σ : L2.St) (H : Hp) (h : LS K W (mAsgG g fe) D σ H) : tAsg (LE K W fe) t D σ H := by
  obtain ⟨μ, S, σd, o, fr, p⟩ := h
  refine ⟨μ, S, σd, o, fr, Pst.thenS fr p fun v H1 μ1 S1 d x o1 r1 p1 => ?_⟩
  cases q : g d σd S1 with
  | none => rw [q] at p1; exact p1.elim
  | some σ1 =>
    rw [q] at p1
    exact hg μ1 S1 H1 σd σ1 σ d v _ o1 (fr.mono x) r1 q fun σ' fr' => p1 μ1 H1 σ' (Nx.refl _ _) o1 fr'
/-! ### len(set(a) - set(b)) -/
def mLenSub (a b : ME) : ME := fun σ S => (a σ S).bind fun x S1 => match x with
  | .str u => if nsig u + 1 < 4096 then ((b σ S1).bind fun y S2 => match y with
    | .str v => if nsig v + 1 < 4096 ∧ nsig u / 4 ≤ nsig v then .ok (.int (if within u v = true then 0 else 1)) S2 else .bad
    | _ => .bad) else .bad
  | _ => .bad
/-- len(set(a) - set(b)) == 0 -/
@[simp] def mSub0 (a b : ME) : ME := fun σ S => (a σ S).bind fun x S1 => match x with
  | .str u => if nsig u + 1 < 4096 then ((b σ S1).bind fun y S2 => match y with
    | .str v => if nsig v + 1 < 4096 ∧ nsig u / 4 ≤ nsig v then .ok (.bl (within u v)) S2 else .bad
    | _ => .bad) else .bad
  | _ => .bad
theorem le_sub0 {K : PySem.W.Frag} {W : WX} {fa fb : ME} (σ : L2.St) (H : Hp) (Q : VK) (h : LE K W (mSub0 fa fb) σ H Q) : tOp rEqA (tLenSub (LE K W fa) (LE K W fb)) (tC (.int 0)) σ H Q := by
  obtain ⟨μ, S, σd, o, fr, p⟩ := h
  refine ⟨μ, S, σd, o, fr, p.andThen fun v H1 μ1 S1 d x o1 r1 p1 => ?_⟩
  cases d <;> try exact p1.elim
  rename_i u
  cases r1
  obtain ⟨hu, p1⟩ := Pst.ite p1
  refine ⟨u, rfl, hu, μ1, S1, σd, o1, fr.mono x, p1.andThen fun w H2 μ2 S2 e y o2 r2 p2 => ?_⟩
  cases e <;> try exact p2.elim
  rename_i z
  cases r2
  obtain ⟨hz, p2⟩ := Pst.ite p2
  refine ⟨z, rfl, hz.1, hz.2, fun n hn => .inl ⟨rfl, ?_⟩⟩
  have e : decide (V.int (n : Int) = V.int 0) = within u z := by
    cases q : within u z with
    | true =>
      have := hn.mpr q
      subst this
      simp
    | false =>
      have : n ≠ 0 := fun h => by rw [hn.mp h] at q; cases q
      simp
      omega
  rw [e]
  exact p2.val o2 rfl
/-! ### calls of defs, globals -/
section
variable {X : Cx} {W : WX} {e : Expr} {es : List Expr} {x : Str} {p pos : Pos} {k : Nat} {f : Addr} {fd : FuncData} {ps : List Str} {fn : Fn} {fs : MA}
theorem e_call (F : FnOk X.prog X.w X.K X.mg X.base (L2.CX X.prog X.w) k f fd ps (spD X.K ps.length fn)) (hr : Room k X.A) (hm : X.mg x = some (.ref f)) (hk : PySem.W.keepIn X.K (.ref f) = true) (hb : Binds X.K fd ps []) (hx : ∀ σ, PassesAt (L2.CX X.prog X.w) X σ (WE W σ))
    (ha : PA X (e :: es) (LA X.K W fs)) (hn : ∀ σd S ds S', fs σd S = .ok ds S' → ds.length = ps.length) (hg : Gl X x := by rfl) (hdb : (x == ("__debug__" : Str)) = false := by decide) (he : starEach (e :: es) X.env = (false, eval e X.env) :: starEach es X.env := by rfl) (hpl : (backTo pos (starEach es X.env)).any (·.1) = false := by rfl) :
    PE X (.Call (.Name x p) (e :: es) [] pos) (LE X.K W (mCall fn fs)) :=
  PE.imp (pe_callS F hr hg hm hk hb hx ha hdb he hpl) (le_callS hn)
/-- nothing is raised -/
theorem passF {X : Cx} (σ : L2.St) : PassesAt (L2.CX X.prog X.w) X σ (WE WF σ) := fun _ _ _ _ _ _ ⟨_, _, _, _, _, _, _, _, _, _, _, _, h⟩ => h.elim
end
end MX

end
section
namespace MX
open PySem PySem.Spec PyProof.Rows L2
theorem rep_fold (c : Array Nat) : ∀ (n : Nat) (a : Array Nat), (List.replicate n c).foldl (· ++ ·) a = a ++ (List.replicate n c.toList).flatten.toArray
  | 0, a => by simp
  | n + 1, a => by
    rw [List.replicate_succ, List.foldl_cons, rep_fold c n, List.replicate_succ, List.flatten_cons]
    apply Array.ext'
    simp
theorem rep_eq (x : Str) (n : Nat) : (⟨(List.replicate n x.cps).foldl (· ++ ·) #[]⟩ : Str) = repStr x n := by
  unfold repStr
  rw [rep_fold]
  simp
def rMulS : R2 := fun x y H Q => ∃ z n, x = .str z ∧ y = .int n ∧ 0 ≤ n ∧ z.length * n.toNat ≤ 1000000 ∧ n ≤ 1000000 ∧ z.length ≤ 1000000 ∧ Q (.str (repStr z n.toNat)) H
theorem op_mulS {X : Cx} : OpR X (binaryOp .Mult) rMulS := by
  intro pins s σ H x y v u Q I rx ry h
  obtain ⟨z, n, rfl, rfl, h0, h1, h2, h3, q⟩ := h
  obtain ⟨t, rfl⟩ := rx
  obtain ⟨t2, rfl⟩ := ry
  refine P.mul_str ?_ ?_ ?_ ?_
  · rw [decide_eq_false (by omega), decide_eq_false (by omega)]; rfl
  · intro hn _
    have : (z.length : Int) * n ≤ 1000000 := by
      have e : ((z.length * n.toNat : Nat) : Int) = (z.length : Int) * n := by
        rw [Int.natCast_mul, Int.toNat_of_nonneg h0]
      omega
    have h4 : 0 < n := by omega
    have : (9223372036854775807 : Int) / n ≥ 9223372036854775807 / 1000000 := by
      rw [ge_iff_le, Int.le_ediv_iff_mul_le h4]
      have : (9223372036854775807 : Int) / 1000000 * n ≤ 9223372036854775807 / 1000000 * 1000000 := Int.mul_le_mul_of_nonneg_left h2 (by decide)
      omega
    show ¬ ((z.length : Int) > 9223372036854775807 / n)
    omega
  · intro _ _
    unfold Builtin.Str.tooLong
    rw [decide_eq_false_iff_not, sizeLine_eq]
    omega
  · by_cases c : n < 1
    · rw [if_pos c]
      have hn : n.toNat = 0 := by omega
      rw [hn] at q
      exact ⟨by decide, .str (repStr z 0), H, I.tok _, ⟨s.toks, rfl⟩, q⟩
    · rw [if_neg c]
      by_cases d : (n == 1 || z.length == 0) = true
      · rw [if_pos d]
        refine ⟨.str (repStr z n.toNat), H, I, ⟨t, ?_⟩, q⟩
        have : repStr z n.toNat = z := by
          rw [Bool.or_eq_true, beq_iff_eq, beq_iff_eq] at d
          unfold repStr
          rcases d with d | d
          · subst d
            simp
          · have : z.cps.toList = [] := by
              have : z.cps.size = 0 := d
              simpa using this
            rw [this]
            obtain ⟨c⟩ := z
            simp at this
            simp [this]
        rw [this]
      · rw [if_neg d]
        rw [rep_eq]
        refine ⟨?_, .str (repStr z n.toNat), H, I.tok _, ⟨_, rfl⟩, q⟩
        rw [sizeLine_eq]
        have e : (repStr z n.toNat).length = z.length * n.toNat := by
          unfold repStr Str.length
          simp [Nat.mul_comm]
        omega
/-! ### * once more -/
@[simp] def mulA : D → D → Os → Res D
  | .str z, .int n, S => if 0 ≤ n ∧ z.length * n.toNat ≤ 1000000 ∧ n ≤ 1000000 ∧ z.length ≤ 1000000 then .ok (.str (repStr z n.toNat)) S else .bad
  | d, e, S => mulD d e S
def rMulA : R2 := fun x y H Q => rMulS x y H Q ∨ (rI CMul (fun i j => .int (i * j)) x y H Q ∨ rRep x y H Q)
theorem o_mulA {X : Cx} : OpR X (binaryOp .Mult) rMulA := OpR.or op_mulS o_mul
theorem rd_mulA {K : PySem.W.Frag} : RD2 K rMulA mulA := by
  intro W σ Q μ S H d e x y o rx ry p
  unfold mulA at p
  split at p
  · cases rx; cases ry
    obtain ⟨h, p⟩ := p.ite
    exact .inl ⟨_, _, rfl, rfl, h.1, h.2.1, h.2.2.1, h.2.2.2, p.val o rfl⟩
  · exact .inr (rd_mul W σ Q μ S H _ _ x y o rx ry p)
section
variable {X : Cx} {W : WX} {a b c : Expr} {fa fb fc : ME} {pos : Pos}
theorem t_cmp {r : R2} {op : D → D → Os → Res D} {bo : CmpOp} (ho : OpR X (compareOp bo) r) (hr : RD2 X.K r op) (ha : PE X a (LE X.K W fa)) (hb : PE X b (LE X.K W fb)) (hm : behindInMarks bo b = false) : PT X (.Compare a [bo] [b] pos) (LT X.K W (mTest (mBin op fa fb))) :=
  PT.imp (pt_cmpR ho ha hb hm) fun σ H Q h => le_bin hr σ H _ (le_test σ H Q h)
theorem le_chainT {r r' : R2} {op op' : D → D → Os → Res D} (hr : RD2 X.K r op) (hr' : RD2 X.K r' op') (σ : L2.St) (H : Hp) (Q : Bool → Hp → Prop) (h : LT X.K W (mTest (mChain op op' fa fb fc)) σ H Q) : tTest (tChain r r' (LE X.K W fa) (LE X.K W fb) (LE X.K W fc)) σ H Q :=
  le_chain hr hr' σ H _ (le_test σ H Q h)
theorem le_sub0T (σ : L2.St) (H : Hp) (Q : Bool → Hp → Prop) (h : LT X.K W (mTest (mSub0 fa fb)) σ H Q) : tTest (tOp rEqA (tLenSub (LE X.K W fa) (LE X.K W fb)) (tC (.int 0))) σ H Q :=
  le_sub0 σ H _ (le_test σ H Q h)
end
@[simp] def negD : D → Os → Res D
  | .int i, S => .ok (.int (-i)) S
  | _, _ => .bad
theorem rd_neg {K : PySem.W.Frag} : RD1 K (rU fun i => .int (-i)) negD := by
  intro W σ Q μ S H d x o r p
  cases d <;> try exact p.elim
  cases r
  exact ⟨_, rfl, p.val o rfl⟩
theorem le_set' {K : PySem.W.Frag} {W : WX} {fe : ME} {i : Nat} (D : Ends) (σ : L2.St) (H : Hp) (h : LS K W (mSet i fe) D σ H) : LE K W fe σ H fun x H1 => gName i x σ H1 D.nx := by
  obtain ⟨μ, S, σd, o, fr, p⟩ := h
  exact ⟨μ, S, σd, o, fr, Pst.thenS fr p fun v H1 μ1 S1 d x o1 r1 p1 => p1 μ1 H1 _ (Nx.refl _ _) o1 ((fr.mono x).set r1)⟩
theorem le_setL {K : PySem.W.Frag} {W : WX} {t : TE} {fe : ME} (h : ∀ σ H Q, LE K W fe σ H Q → t σ H Q) {i : Nat} (D : Ends) (σ : L2.St) (H : Hp) (q : LS K W (mSet i fe) D σ H) : tAsg t (gName i) D σ H := h _ _ _ (le_set' D σ H q)
end MX

end
section
namespace MX
open PySem PySem.Spec PyProof.Rows L2
/-- a def of the text does what its mirror does -/
structure DefOk (P : Program) (w : World) (K : PySem.W.Frag) (mg : Str → Option Value) (base : Heap) (k : Nat) (x : Str) (ps : List Str) (fn : Fn) : Prop where
  ok : ∃ fd, FnOk P w K mg base (L2.CX P w) k (He.ga K x) fd ps (spD K ps.length fn) ∧ Binds K fd ps []
  mg : mg x = some (.ref (He.ga K x))
  kp : PySem.W.keepIn K (.ref (He.ga K x)) = true
theorem reps_ints {K : PySem.W.Frag} {μ : List Addr} {H : Hp} : ∀ ns : List Int, Reps K μ H (ns.map D.int) (ns.map V.int)
  | [] => rfl
  | n :: ns => ⟨_, _, rfl, rfl, reps_ints ns⟩
/-- the law hands back True, by its mirror -/
theorem sp_law {K : PySem.W.Frag} {fn : Fn} {H : Hp} {a : Addr} {ns : List Int} {S' : Os} (hO : Only H) (hS : SqL K H a (ns.map V.int)) (hf : fn [.rl (ns.map D.int)] [] = .ok (.bl true) S') :
    spD K 1 fn [.ref a] H (fun v _ => v = .bl true) fun _ _ _ => False := by
  refine ⟨rfl, [], [], [.rl (ns.map D.int)], ⟨.ref a, [], rfl, ⟨a, _, rfl, ?_, reps_ints ns⟩, rfl⟩, ⟨rfl, List.nodup_nil, fun n o a e => by simp at e⟩, ?_⟩
  · rcases hS with (h | ⟨o, h⟩) | h
    · rcases hO a with z | ⟨o, xs, z⟩
      · rw [z] at h; cases h
      · rw [z] at h; cases h
    · exact .inl ⟨o, h⟩
    · exact .inr (.inr h)
  · rw [hf]
    exact fun μ' H' v _ _ r => r
theorem walk_data {l : PySem.W.OpenLaw} {n k : Nat} {q : Program} {loose : List Str} {XP : (Str → Option Value) → Heap → Prop} {YP : World → Heap → Prop} {d : DefRec} {x : Str}
    (hn : l.most = some n) (hn2 : n ≤ sizeLine) (hdf : d.params.defaults = []) (hr : Room k callerA) {fn : Fn} (hfn : ∀ ns : List Int, ns.length ≤ n → ∃ S', fn [.rl (ns.map D.int)] [] = .ok (.bl true) S')
    (F : ∀ (w : World) (mg : Str → Option Value) (fa : Addr) (h : Heap), YP w h → h.Ns mainGlobals mg → mg d.name = some (.ref fa) →
      ∃ (K : PySem.W.Frag) (fd : FuncData), K.In h ∧ (∀ (s : Shared) (u : Value), BindsTo s fd ⟨[u], []⟩ [(x, u)]) ∧
        ∀ base : Heap, K.In base → base.Ns mainGlobals mg → FnOk l.prog w K mg base (L2.CX l.prog w) k fa fd [x] (spD K 1 fn)) :
    PySem.W.WalkO q loose XP YP l.row.toRowW d [] (fun f vs => PySem.call f vs) := by
  refine Att.attach_call hn hdf fun w s₀ s₁ mg mb fa o pm cd doc a vs ns G Y ho hd hcd hmg hobj hints hlen hg => ?_
  obtain ⟨K, fd, KX, hb, hF⟩ := F w mg fa _ Y G.T.g hmg
  refine law_call KX G.T.g G.T.b G.T.builtins G.T.nolimit hg hobj hints (Nat.le_trans hlen hn2) hr hF hb (fun H hO hS => ?_) fun H e s' c => ?_
  · obtain ⟨S', e⟩ := hfn ns hlen
    exact sp_law hO hS e
  · obtain ⟨_, _, _, _, _, _, _, _, _, _, _, _, z⟩ := c
    exact z.elim
end MX

end
section
/-! Texts as lists of codes; objects by what they hold. -/
namespace MX
open PySem L2
def toS (l : List Nat) : Str := ⟨l.toArray⟩
@[simp] theorem toS_cps (l : List Nat) : (toS l).cps.toList = l := rfl
@[simp] theorem toS_cpsA (l : List Nat) : (toS l).cps = l.toArray := rfl
@[simp] theorem toS_len (l : List Nat) : (toS l).length = l.length := by show l.toArray.size = _; simp
@[simp] theorem toS_app (a b : List Nat) : toS a ++ toS b = toS (a ++ b) := by
  show (⟨a.toArray ++ b.toArray⟩ : Str) = ⟨(a ++ b).toArray⟩
  simp
theorem toS_of (x : Str) : toS x.cps.toList = x := by
  obtain ⟨c⟩ := x
  rfl
@[simp] theorem toS_inj (a b : List Nat) : (toS a = toS b) = (a = b) := by
  refine propext ⟨fun h => ?_, fun h => by rw [h]⟩
  have := congrArg (fun s : Str => s.cps.toList) h
  simpa using this
@[simp] theorem sing_toS (c : Nat) : (⟨#[c]⟩ : Str) = toS [c] := rfl
theorem sizeLine_num : sizeLine = 16777216 := sizeLine_eq
/-! ### items -/
theorem atI_nn {α : Type} (l : List α) (n : Nat) : atI l (n : Int) = l[n]? := by
  unfold atI ixN
  by_cases h : n < l.length
  · rw [if_pos (by omega), if_pos (by omega)]
    simp
  · rw [if_pos (by omega), if_neg (by omega)]
    simp
    omega
theorem atI_some {α : Type} {l : List α} {i : Int} {d : α} (n : Nat) (hi : i = n) (h : l[n]? = some d) : atI l i = some d := by
  subst hi
  rw [atI_nn, h]
@[simp] theorem atI_0 {α : Type} (a : α) (l : List α) : atI (a :: l) 0 = some a := by
  have := atI_nn (a :: l) 0
  simpa using this
@[simp] theorem atI_1 {α : Type} (a b : α) (l : List α) : atI (a :: b :: l) 1 = some b := by
  have := atI_nn (a :: b :: l) 1
  simpa using this
@[simp] theorem atI_2 {α : Type} (a b c : α) (l : List α) : atI (a :: b :: c :: l) 2 = some c := by
  have := atI_nn (a :: b :: c :: l) 2
  simpa using this
@[simp] theorem ixN_nat (n k : Nat) (h : k < n) : ixN n (k : Int) = some k := by
  unfold ixN
  rw [if_pos (by omega), if_pos (by omega)]
  simp
theorem ixN_1 (n : Nat) (h : 1 < n) : ixN n 1 = some 1 := ixN_nat n 1 h
theorem ixN_2 (n : Nat) (h : 2 < n) : ixN n 2 = some 2 := ixN_nat n 2 h
theorem ixN_0 (n : Nat) (h : 0 < n) : ixN n 0 = some 0 := ixN_nat n 0 h
/-! ### slices of texts -/
theorem cut_from (l : List Nat) (i : Int) (n : Nat) (hi : i = n) : cutS (toS l) (some i) none = toS (l.drop n) := by
  subst hi
  unfold cutS
  rw [HT.sIx_nat, HT.sIx_none]
  show toS _ = _
  rw [toS_inj, toS_cps, toS_len]
  by_cases h : n ≤ l.length
  · rw [Nat.min_eq_left h]
    exact List.take_of_length_le (by simp)
  · rw [Nat.min_eq_right (by omega)]
    rw [List.drop_of_length_le (Nat.le_refl _), List.drop_of_length_le (by omega)]
    simp
theorem cut_to (l : List Nat) (i : Int) (n : Nat) (hi : i = n) : cutS (toS l) none (some i) = toS (l.take n) := by
  subst hi
  unfold cutS
  rw [HT.sIx_nat, HT.sIx_none]
  show toS _ = _
  rw [toS_inj, toS_cps, toS_len]
  simp only [List.drop_zero, Nat.sub_zero]
  by_cases h : n ≤ l.length
  · rw [Nat.min_eq_left h]
  · rw [Nat.min_eq_right (by omega), List.take_of_length_le (Nat.le_refl _), List.take_of_length_le (by omega)]
/-! ### objects -/
theorem lstAt_lt {S : Os} {n : Nat} {l : List D} (h : lstAt S n = some l) : n < S.length := by
  unfold lstAt at h
  cases e : S[n]? with
  | none => rw [e] at h; cases h
  | some o => exact (List.getElem?_eq_some_iff.mp e).1
theorem lstAt_set {S : Os} {n : Nat} {l m : List D} (h : lstAt S n = some m) : lstAt (S.set n (.lst l)) n = some l := by
  unfold lstAt
  rw [List.getElem?_set_self (lstAt_lt h)]
theorem lstAt_set_ne {S : Os} {n m : Nat} {o : O} (h : n ≠ m) : lstAt (S.set n o) m = lstAt S m := by
  unfold lstAt
  rw [List.getElem?_set_ne h]
theorem lstAt_app {S : Os} {n : Nat} {T : Os} {l : List D} (h : lstAt S n = some l) : lstAt (S ++ T) n = some l := by
  have := lstAt_lt h
  unfold lstAt at h ⊢
  rw [List.getElem?_append_left this]
  exact h
@[simp] theorem lstAt_new {S : Os} {l : List D} : lstAt (S ++ [.lst l]) S.length = some l := by
  unfold lstAt
  simp
/-- what stands, stands -/
def Ext (S S' : Os) : Prop := ∀ (n : Nat) (o : O), S[n]? = some o → S'[n]? = some o
theorem Ext.refl (S : Os) : Ext S S := fun _ _ h => h
theorem Ext.trans {S S1 S2 : Os} (a : Ext S S1) (b : Ext S1 S2) : Ext S S2 := fun n o h => b n o (a n o h)
theorem Ext.app (S T : Os) : Ext S (S ++ T) := fun n o h => by
  rw [List.getElem?_append_left (List.getElem?_eq_some_iff.mp h).1]
  exact h
theorem Ext.lst {S S' : Os} {n : Nat} {l : List D} (x : Ext S S') (h : lstAt S n = some l) : lstAt S' n = some l := by
  unfold lstAt at h ⊢
  cases e : S[n]? with
  | none => rw [e] at h; cases h
  | some o => rw [e] at h; rw [x n o e]; exact h
theorem Ext.len {S S' : Os} (x : Ext S S') : S.length ≤ S'.length := by
  by_cases h : S.length ≤ S'.length
  · exact h
  · have hl : S'.length < S.length := by omega
    have := x S'.length S[S'.length] (List.getElem?_eq_getElem hl)
    have := (List.getElem?_eq_some_iff.mp this).1
    omega
/-- an object that is new behind S may change -/
theorem Ext.set {S S' : Os} {n : Nat} {o : O} (x : Ext S S') (h : S.length ≤ n) : Ext S (S'.set n o) := fun m u e => by
  have := (List.getElem?_eq_some_iff.mp e).1
  rw [List.getElem?_set_ne (by omega)]
  exact x m u e
end MX
namespace MX
open PySem L2
/-! ### the stream of draws -/
def Strm (S : Os) (st : Nat) : Prop := ∃ (sc : Nat) (ns : List Int) (c k : Int), lstAt S st = some [.loc sc, .int c, .int k] ∧ lstAt S sc = some (ns.map D.int) ∧ st ≠ sc ∧ 0 ≤ c ∧ 0 ≤ k
structure But (st : Nat) (S S' : Os) : Prop where
  len : S'.length = S.length
  same : ∀ n, n ≠ st → S'[n]? = S[n]?
theorem But.refl (st : Nat) (S : Os) : But st S S := ⟨rfl, fun _ _ => rfl⟩
theorem But.trans {st : Nat} {S S1 S2 : Os} (a : But st S S1) (b : But st S1 S2) : But st S S2 := ⟨b.len.trans a.len, fun n h => (b.same n h).trans (a.same n h)⟩
theorem But.set {st : Nat} {S S' : Os} {o : O} (a : But st S S') : But st S (S'.set st o) := ⟨by rw [List.length_set]; exact a.len, fun n h => by rw [List.getElem?_set_ne (Ne.symm h)]; exact a.same n h⟩
theorem But.lst {st n : Nat} {S S' : Os} {l : List D} (a : But st S S') (h : n ≠ st) (e : lstAt S n = some l) : lstAt S' n = some l := by
  unfold lstAt at e ⊢
  rw [a.same n h]
  exact e
/-- new objects, and the stream drawn from -/
structure Drw (st : Nat) (S S' : Os) : Prop where
  len : S.length ≤ S'.length
  same : ∀ n o, n ≠ st → S[n]? = some o → S'[n]? = some o
theorem Drw.refl (st : Nat) (S : Os) : Drw st S S := ⟨Nat.le_refl _, fun _ _ _ h => h⟩
theorem Drw.trans {st : Nat} {S S1 S2 : Os} (a : Drw st S S1) (b : Drw st S1 S2) : Drw st S S2 := ⟨Nat.le_trans a.len b.len, fun n o h e => b.same n o h (a.same n o h e)⟩
theorem But.drw {st : Nat} {S S' : Os} (a : But st S S') : Drw st S S' := ⟨by rw [a.len]; exact Nat.le_refl _, fun n o h e => by rw [a.same n h]; exact e⟩
theorem Ext.drw {st : Nat} {S S' : Os} (a : Ext S S') : Drw st S S' := ⟨a.len, fun n o _ e => a n o e⟩
theorem Drw.lst {st n : Nat} {S S' : Os} {l : List D} (a : Drw st S S') (h : n ≠ st) (e : lstAt S n = some l) : lstAt S' n = some l := by
  unfold lstAt at e ⊢
  cases q : S[n]? with
  | none => rw [q] at e; cases e
  | some o => rw [q] at e; rw [a.same n o h q]; exact e
theorem Drw.app {st : Nat} {S S' : Os} (T : Os) (a : Drw st S S') : Drw st S (S' ++ T) := a.trans (Ext.app S' T).drw
theorem Strm.ext {S S' : Os} {st : Nat} (h : Strm S st) (x : Ext S S') : Strm S' st := by
  obtain ⟨sc, ns, c, k, h1, h2, h3⟩ := h
  exact ⟨sc, ns, c, k, x.lst h1, x.lst h2, h3⟩
theorem Strm.lt {S : Os} {st : Nat} (h : Strm S st) : st < S.length := by
  obtain ⟨sc, ns, c, k, h1, h2, h3⟩ := h
  exact lstAt_lt h1
theorem fmod_bounds {a b : Int} (ha : 0 ≤ a) (hb : 0 < b) : 0 ≤ a.fmod b ∧ a.fmod b < b ∧ 0 ≤ a.fdiv b := by
  rw [Int.fmod_eq_emod_of_nonneg a (by omega), Int.fdiv_eq_ediv_of_nonneg a (by omega)]
  exact ⟨Int.emod_nonneg _ (by omega), Int.emod_lt_of_pos _ hb, Int.ediv_nonneg ha (by omega)⟩
end MX

end
section
/-! Loops and comprehensions of the mirrors; signs of a text; the longest common ending. -/
namespace MX
open PySem L2
/-! ### loops -/
theorem rngD_zero (lo : Int) : rngD lo 0 = [] := rfl
theorem rngD_succ (lo : Int) (n : Nat) : rngD lo (n + 1) = .int lo :: rngD (lo + 1) n := by
  rfl
theorem rngD_eq : ∀ (n : Nat) (lo : Int), rngD lo n = (List.range n).map fun k => .int (lo + (k : Nat))
  | 0, _ => rfl
  | n + 1, lo => by
    rw [rngD_succ, rngD_eq n, List.range_succ_eq_map, List.map_cons, List.map_map]
    refine congr (congrArg _ (by simp)) (List.map_congr_left fun k _ => ?_)
    show D.int (lo + 1 + (k : Int)) = D.int (lo + ((k + 1 : Nat) : Int))
    congr 1
    omega
@[simp] theorem mLoop_nilT (g : D → Fr → Os → Option Fr) (b : MS) (σ : Fr) (S : Os) : mLoop (fun _ => True) g b [] σ S = .nx σ S := by
  unfold mLoop
  rw [if_pos trivial]
theorem mLoop_consT (g : D → Fr → Os → Option Fr) (b : MS) (x : D) (xs : List D) (σ σ1 : Fr) (S : Os) (h : g x σ S = some σ1) : mLoop (fun _ => True) g b (x :: xs) σ S = (match b σ1 S with
        | .nx σ2 S2 => mLoop (fun _ => True) g b xs σ2 S2
        | .ct σ2 S2 => mLoop (fun _ => True) g b xs σ2 S2
        | .bk σ2 S2 => .nx σ2 S2
        | r => r) := by
  rw [mLoop]
  dsimp only
  rw [if_pos trivial, h]
  all_goals rfl
theorem mLoop_nil {ok : Os → Prop} (g : D → Fr → Os → Option Fr) (b : MS) (σ : Fr) (S : Os) (h : ok S) : mLoop ok g b [] σ S = .nx σ S := by
  unfold mLoop
  rw [if_pos h]
theorem mLoop_cons {ok : Os → Prop} (g : D → Fr → Os → Option Fr) (b : MS) (x : D) (xs : List D) (σ σ1 : Fr) (S : Os) (ho : ok S) (h : g x σ S = some σ1) : mLoop ok g b (x :: xs) σ S = (match b σ1 S with
        | .nx σ2 S2 => mLoop ok g b xs σ2 S2
        | .ct σ2 S2 => mLoop ok g b xs σ2 S2
        | .bk σ2 S2 => .nx σ2 S2
        | r => r) := by
  rw [mLoop]
  dsimp only
  rw [if_pos ho, h]
  all_goals rfl
/-- a for by an invariant; R: what is wanted of its end -/
theorem loop_gen {ok : Os → Prop} {g : D → Fr → Os → Option Fr} {b : MS} {R : SRes → Prop} (I : Nat → Fr → Os → Prop) (hok : ∀ i σ S, I i σ S → ok S) :
    ∀ (l : List D) (i : Nat) (σ : Fr) (S : Os), I i σ S → (∀ j x σ S, l[j]? = some x → I (i + j) σ S → ∃ σ1, g x σ S = some σ1 ∧ ((∃ σ2 S2, (b σ1 S = .nx σ2 S2 ∨ b σ1 S = .ct σ2 S2) ∧ I (i + j + 1) σ2 S2) ∨ (∃ σ2 S2, b σ1 S = .bk σ2 S2 ∧ R (.nx σ2 S2)) ∨ (∃ d S2, b σ1 S = .rt d S2 ∧ R (.rt d S2)))) →
      (∀ σ S, I (i + l.length) σ S → R (.nx σ S)) → R (mLoop ok g b l σ S)
  | [], i, σ, S, h, _, hd => by
    rw [mLoop_nil g b σ S (hok _ _ _ h)]
    exact hd σ S h
  | x :: l, i, σ, S, h, hs, hd => by
    obtain ⟨σ1, h1, h2⟩ := hs 0 x σ S rfl h
    rw [mLoop_cons g b x l σ σ1 S (hok _ _ _ h) h1]
    have go : ∀ σ2 S2, I (i + 0 + 1) σ2 S2 → R (mLoop ok g b l σ2 S2) := fun σ2 S2 h4 => by
      refine loop_gen I hok l (i + 1) σ2 S2 h4 (fun j y σ S hj hI => ?_) fun σ S hI => hd σ S ?_
      · have := hs (j + 1) y σ S (by simpa using hj) (by rw [← Nat.add_assoc, Nat.add_right_comm]; exact hI)
        rwa [← Nat.add_assoc, Nat.add_right_comm i j 1] at this
      · rw [List.length_cons, ← Nat.add_assoc, Nat.add_right_comm]
        exact hI
    rcases h2 with ⟨σ2, S2, h3 | h3, h4⟩ | ⟨σ2, S2, h3, h4⟩ | ⟨d, S2, h3, h4⟩
    · rw [h3]; exact go _ _ h4
    · rw [h3]; exact go _ _ h4
    · rw [h3]; exact h4
    · rw [h3]; exact h4
/-- a for over a range that goes to its end -/
theorem loop_rng_nx {g : D → Fr → Os → Option Fr} {b : MS} {lo : Int} {n : Nat} {σ : Fr} {S : Os} (I : Nat → Fr → Os → Prop) (h0 : I 0 σ S)
    (hs : ∀ j σ S, j < n → I j σ S → ∃ σ1 σ2 S2, g (.int (lo + j)) σ S = some σ1 ∧ b σ1 S = .nx σ2 S2 ∧ I (j + 1) σ2 S2) : ∃ σ' S', mLoop (fun _ => True) g b (rngD lo n) σ S = .nx σ' S' ∧ I n σ' S' := by
  refine loop_gen (R := fun r => ∃ σ' S', r = .nx σ' S' ∧ I n σ' S') I (fun _ _ _ _ => trivial) (rngD lo n) 0 σ S h0 (fun j x σ S hj hI => ?_) fun σ S hI => ⟨σ, S, rfl, by rw [Nat.zero_add, rngD_len] at hI; exact hI⟩
  obtain ⟨h1, rfl⟩ := rngD_get hj
  rw [Nat.zero_add] at hI ⊢
  obtain ⟨σ1, σ2, S2, h2, h3, h4⟩ := hs j σ S h1 hI
  exact ⟨σ1, h2, .inl ⟨σ2, S2, .inl h3, h4⟩⟩
/-- a while whose turns are counted and change no object -/
theorem while_count {c : MT} {b : MS} {S : Os} (fr : Nat → Fr) (n : Nat) (hs : ∀ m, m < n → c (fr m) S = .ok true S ∧ b (fr m) S = .nx (fr (m + 1)) S) (he : c (fr n) S = .ok false S) :
    ∀ (k m F : Nat), m + k = n → k < F → mWhile F c b (fr m) S = .nx (fr n) S
  | 0, m, F, h, hF => by
    cases F with
    | zero => omega
    | succ F =>
      have : m = n := by omega
      subst this
      rw [mWhile]
      dsimp only
      rw [he]
      rfl
  | k + 1, m, F, h, hF => by
    cases F with
    | zero => omega
    | succ F =>
      obtain ⟨h1, h2⟩ := hs m (by omega)
      rw [mWhile]
      dsimp only
      rw [h1]
      dsimp only [Res.toS_ok]
      rw [if_pos rfl, h2]
      exact while_count fr n hs he k (m + 1) F (by omega) (by omega)
/-- a comprehension whose items are reckoned and change nothing -/
theorem comp_pure {okS : Os → Prop} {g : D → Fr → Os → Option Fr} {vs : List Nat} {t : MT} {e : ME} {S0 : Os} {σ : Fr} (keep : D → Bool) (v : D → D) (ok : ∀ a, okS (S0 ++ [.lst a])) :
    ∀ (l : List D) (acc : List D), (∀ x ∈ l, ∀ a, ∃ σ2, g x (wipeD σ vs) (S0 ++ [.lst a]) = some σ2 ∧ t σ2 (S0 ++ [.lst a]) = .ok (keep x) (S0 ++ [.lst a]) ∧ (keep x = true → e σ2 (S0 ++ [.lst a]) = .ok (v x) (S0 ++ [.lst a]))) →
      acc.length + l.length ≤ 1000000 → mComp okS g vs t e S0.length l σ (S0 ++ [.lst acc]) = .ok (.loc S0.length) (S0 ++ [.lst (acc ++ (l.filter keep).map v)])
  | [], acc, _, _ => by
    rw [mComp]
    dsimp only
    rw [if_pos (ok acc)]
    simp
  | x :: l, acc, h, hz => by
    obtain ⟨σ2, h1, h2, h3⟩ := h x List.mem_cons_self acc
    rw [List.length_cons] at hz
    rw [mComp]
    dsimp only
    rw [if_pos (ok acc), h1]
    dsimp only
    rw [h2]
    cases hk : keep x with
    | false =>
      dsimp only
      rw [comp_pure keep v ok l acc (fun y hy => h y (List.mem_cons_of_mem _ hy)) (by omega)]
      simp [hk]
    | true =>
      dsimp only
      rw [h3 hk]
      dsimp only
      rw [lstAt_new]
      dsimp only
      rw [if_pos (by rw [sizeLine_num]; omega)]
      have e1 : (S0 ++ [O.lst acc]).set S0.length (O.lst (acc ++ [v x])) = S0 ++ [O.lst (acc ++ [v x])] := by
        rw [List.set_append_right _ _ (Nat.le_refl _)]
        simp
      rw [e1, comp_pure keep v ok l (acc ++ [v x]) (fun y hy => h y (List.mem_cons_of_mem _ hy)) (by rw [List.length_append]; simp; omega)]
      simp [hk]
/-! ### signs -/
theorem nodup_len {α : Type} [DecidableEq α] : ∀ {l m : List α}, l.Nodup → (∀ x ∈ l, x ∈ m) → l.length ≤ m.length
  | [], _, _, _ => Nat.zero_le _
  | a :: l, m, h, hs => by
    have ha : a ∈ m := hs a List.mem_cons_self
    have hn := List.nodup_cons.mp h
    have := nodup_len (l := l) (m := m.erase a) hn.2 fun x hx => (List.mem_erase_of_ne (fun e : x = a => hn.1 (by rw [← e]; exact hx))).mpr (hs x (List.mem_cons_of_mem _ hx))
    rw [List.length_erase_of_mem ha] at this
    have h0 : 0 < m.length := List.length_pos_of_mem ha
    rw [List.length_cons]
    omega
theorem met_fold : ∀ (cs : List Nat) (l : List Str), l.Nodup → (cs.foldl step1 l).Nodup ∧ ∀ k ∈ cs.foldl step1 l, k ∈ l ∨ ∃ c ∈ cs, k = ⟨#[c]⟩
  | [], l, h => ⟨h, fun k hk => .inl hk⟩
  | c :: cs, l, h => by
    have hn : (step1 l c).Nodup := by
      unfold step1
      split
      · exact h
      · rename_i hc
        refine List.nodup_append.mpr ⟨h, by simp, fun a ha b hb => ?_⟩
        rw [List.mem_singleton] at hb
        subst hb
        intro e
        subst e
        exact hc (by rw [List.any_eq_true]; exact ⟨_, ha, by simp⟩)
    obtain ⟨h1, h2⟩ := met_fold cs (step1 l c) hn
    refine ⟨h1, fun k hk => ?_⟩
    rcases h2 k hk with h3 | ⟨c', h3, h4⟩
    · unfold step1 at h3
      split at h3
      · exact .inl h3
      · rcases List.mem_append.mp h3 with h3 | h3
        · exact .inl h3
        · exact .inr ⟨c, List.mem_cons_self, by simpa using h3⟩
    · exact .inr ⟨c', List.mem_cons_of_mem _ h3, h4⟩
theorem nsig_le {u v : List Nat} (h : ∀ c ∈ u, c ∈ v) : nsig (toS u) ≤ v.length := by
  unfold nsig met1
  obtain ⟨h1, h2⟩ := met_fold ((toS u).cps.toList.take (toS u).cps.size) [] List.nodup_nil
  have := nodup_len h1 (m := v.map fun c => (⟨#[c]⟩ : Str)) fun k hk => by
    rcases h2 k hk with h3 | ⟨c, h3, rfl⟩
    · exact absurd h3 (by simp)
    · exact List.mem_map.mpr ⟨c, h c (List.mem_of_mem_take h3), rfl⟩
  simpa using this
theorem within_iff {u v : List Nat} : within (toS u) (toS v) = true ↔ ∀ c ∈ u, c ∈ v := by
  unfold within
  simp
def abc : List Nat := List.range' 97 26
theorem abc_eq : ("abcdefghijklmnopqrstuvwxyz" : Str) = toS abc := by decide +kernel
theorem nsig_abc : nsig (toS abc) = 26 := by decide +kernel
/-! ### the longest common ending -/
def cpl : List Nat → List Nat → Nat
  | a :: as, b :: bs => if a = b then cpl as bs + 1 else 0
  | _, _ => 0
theorem cpl_le : ∀ a b, cpl a b ≤ a.length ∧ cpl a b ≤ b.length
  | [], b => by simp [cpl]
  | a :: as, [] => by simp [cpl]
  | a :: as, b :: bs => by
    unfold cpl
    have := cpl_le as bs
    split
    · simp; omega
    · simp
theorem cpl_eq : ∀ (a b : List Nat) (m : Nat), m < cpl a b → a[m]? = b[m]?
  | [], b, m, h => by simp [cpl] at h
  | a :: as, [], m, h => by simp [cpl] at h
  | a :: as, b :: bs, m, h => by
    unfold cpl at h
    split at h
    · rename_i e
      subst e
      cases m with
      | zero => rfl
      | succ m => simpa using cpl_eq as bs m (by omega)
    · omega
theorem cpl_ne : ∀ (a b : List Nat), cpl a b < a.length → cpl a b < b.length → a[cpl a b]? ≠ b[cpl a b]?
  | [], b, h, _ => by simp at h
  | a :: as, [], _, h => by simp at h
  | a :: as, b :: bs, h1, h2 => by
    unfold cpl at h1 h2 ⊢
    split
    · rename_i e
      rw [if_pos e] at h1 h2
      simpa using cpl_ne as bs (by simpa using h1) (by simpa using h2)
    · rename_i e
      simpa using e
theorem cpl_app : ∀ (c a b : List Nat), cpl (c ++ a) (c ++ b) = c.length + cpl a b
  | [], a, b => by simp
  | x :: c, a, b => by
    rw [List.cons_append, List.cons_append, cpl, if_pos rfl, cpl_app c a b]
    simp
    omega
theorem cpl_self (a : List Nat) : cpl a a = a.length := by
  have := cpl_app a [] []
  simpa [cpl] using this
theorem cpl_take {a b : List Nat} {k : Nat} : k ≤ cpl a b ↔ (k ≤ a.length ∧ k ≤ b.length ∧ a.take k = b.take k) := by
  constructor
  · intro h
    have := cpl_le a b
    refine ⟨by omega, by omega, List.ext_getElem? fun i => ?_⟩
    rw [List.getElem?_take, List.getElem?_take]
    split
    · exact cpl_eq a b i (by omega)
    · rfl
  · rintro ⟨h1, h2, h3⟩
    by_cases h : k ≤ cpl a b
    · exact h
    · exfalso
      refine cpl_ne a b (by omega) (by omega) ?_
      have := congrArg (fun l => l[cpl a b]?) h3
      simpa [List.getElem?_take, show cpl a b < k by omega] using this
/-- how many letters the longest common ending has -/
def cs (a b : List Nat) : Nat := cpl a.reverse b.reverse
theorem cs_le (a b : List Nat) : cs a b ≤ a.length ∧ cs a b ≤ b.length := by
  have := cpl_le a.reverse b.reverse
  simpa [cs] using this
def lastN (a : List Nat) (k : Nat) : List Nat := a.drop (a.length - k)
theorem lastN_rev (a : List Nat) (k : Nat) (h : k ≤ a.length) : lastN a k = (a.reverse.take k).reverse := by
  unfold lastN
  rw [List.take_reverse, List.reverse_reverse]
theorem cs_iff {a b : List Nat} {k : Nat} : k ≤ cs a b ↔ (k ≤ a.length ∧ k ≤ b.length ∧ lastN a k = lastN b k) := by
  unfold cs
  rw [cpl_take]
  simp only [List.length_reverse]
  constructor
  · rintro ⟨h1, h2, h3⟩
    exact ⟨h1, h2, by rw [lastN_rev a k h1, lastN_rev b k h2, h3]⟩
  · rintro ⟨h1, h2, h3⟩
    rw [lastN_rev a k h1, lastN_rev b k h2] at h3
    exact ⟨h1, h2, by simpa using congrArg List.reverse h3⟩
theorem cs_self (a : List Nat) : cs a a = a.length := by
  unfold cs
  rw [cpl_self, List.length_reverse]
theorem cs_comm (a b : List Nat) : cs a b = cs b a := by
  have h : ∀ a b, cs a b ≤ cs b a := fun a b => by
    obtain ⟨h1, h2, h3⟩ := cs_iff.mp (Nat.le_refl (cs a b))
    exact cs_iff.mpr ⟨h2, h1, h3.symm⟩
  exact Nat.le_antisymm (h a b) (h b a)
theorem cs_app (a b c : List Nat) : cs (a ++ c) (b ++ c) = cs a b + c.length := by
  unfold cs
  rw [List.reverse_append, List.reverse_append, cpl_app, List.length_reverse]
  omega
theorem rev_at (a : List Nat) (m : Nat) (h : m < a.length) : a.reverse[m]? = a[a.length - m - 1]? := by
  rw [List.getElem?_reverse h]
  congr 1
  omega
theorem cs_at {a b : List Nat} {m : Nat} (h : m < cs a b) : a[a.length - m - 1]? = b[b.length - m - 1]? := by
  have h1 := cs_le a b
  rw [← rev_at a m (by omega), ← rev_at b m (by omega)]
  exact cpl_eq _ _ _ h
theorem cs_stop {a b : List Nat} (h1 : cs a b < a.length) (h2 : cs a b < b.length) : a[a.length - cs a b - 1]? ≠ b[b.length - cs a b - 1]? := by
  rw [← rev_at a _ h1, ← rev_at b _ h2]
  exact cpl_ne _ _ (by rw [List.length_reverse]; exact h1) (by rw [List.length_reverse]; exact h2)
theorem lastN_len (a : List Nat) (k : Nat) (h : k ≤ a.length) : (lastN a k).length = k := by
  unfold lastN
  rw [List.length_drop]
  omega
theorem lastN_succ (a : List Nat) (k : Nat) (h : k < a.length) : lastN a (k + 1) = a[a.length - k - 1] :: lastN a k := by
  unfold lastN
  rw [List.drop_eq_getElem_cons (by omega)]
  congr 1
  congr 1
  omega
theorem lastN_app (a c : List Nat) (k : Nat) (h : k ≤ a.length) : lastN (a ++ c) (k + c.length) = lastN a k ++ c := by
  unfold lastN
  rw [List.length_append, List.drop_append_of_le_length (by omega)]
  congr 2
  omega
end MX

end
section
/-! Turns counted by a length. -/
namespace MX
open PySem L2
theorem lc1_int {a e : ME} {g : D → Fr → Os → Option Fr} {vs : List Nat} {t : MT} {σ : Fr} {S S1 : Os} {j : Int} (h : a σ S = .ok (.int j) S1) (hc : -(2 ^ 62) ≤ j ∧ j < 2 ^ 62) : mLcR1 a g vs t e σ S = mComp (fun _ => True) g vs t e S1.length (rngD 0 j.toNat) σ (S1 ++ [.lst []]) := by
  simp only [mLcR1, h, Res.bind_ok]
  rw [if_pos hc]
theorem p62 : (2 : Int) ^ 62 = 4611686018427387904 := by decide
theorem b62 (n : Nat) (h : n < 1000000000) : -(2 ^ 62) ≤ (n : Int) ∧ (n : Int) < 2 ^ 62 := by
  rw [p62]
  exact ⟨by omega, by omega⟩
theorem lc1_nat {a e : ME} {g : D → Fr → Os → Option Fr} {vs : List Nat} {t : MT} {σ : Fr} {S S1 : Os} {n : Nat} (h : a σ S = .ok (.int (n : Nat)) S1) (hn : n < 1000000000) : mLcR1 a g vs t e σ S = mComp (fun _ => True) g vs t e S1.length (rngD 0 n) σ (S1 ++ [.lst []]) := by
  have := lc1_int (g := g) (vs := vs) (t := t) (e := e) h (b62 n hn)
  rwa [Int.toNat_natCast] at this
theorem for1_int {a : ME} {g : D → Fr → Os → Option Fr} {b : MS} {σ : Fr} {S S1 : Os} {j : Int} (h : a σ S = .ok (.int j) S1) (hc : -(2 ^ 62) ≤ j ∧ j < 2 ^ 62) : mForR1 a g b σ S = mLoop (fun _ => True) g b (rngD 0 j.toNat) σ S1 := by
  simp only [mForR1, h, Res.toS_ok]
  rw [if_pos hc]
theorem for1_nat {a : ME} {g : D → Fr → Os → Option Fr} {b : MS} {σ : Fr} {S S1 : Os} {n : Nat} (h : a σ S = .ok (.int (n : Nat)) S1) (hn : n < 1000000000) : mForR1 a g b σ S = mLoop (fun _ => True) g b (rngD 0 n) σ S1 := by
  have := for1_int (g := g) (b := b) h (b62 n hn)
  rwa [Int.toNat_natCast] at this
end MX

end
section
namespace B_k04_whole_endings_and_words_ali
open PySem PySem.Spec PyProof.Rows L2 MX
def top (i : Nat) : Stmt := PySem.Challenge.pw_backseen_k04_whole_endings_and_words_ali.main.body.getD i (.Pass ⟨0, 0, 0, 0⟩)
abbrev s_is_over : Stmt := top 7
abbrev N_is_over : List Str := ["alphabet", "value"]
noncomputable def c_b_is_over (F : Nat) : MS :=
    (mRet (mAndV (mBin eqA (mCB typeD (mCons (mVar 1) mNil)) (mC (.ty "str"))) (mSub0 (mVar 1) (mVar 0))))
noncomputable def f_is_over (F : Nat) : Fn := fnD 2 (c_b_is_over F)
abbrev s_is_integer_within : Stmt := top 8
abbrev N_is_integer_within : List Str := ["value", "low", "high"]
noncomputable def c_b_is_integer_within (F : Nat) : MS :=
    (mRet (mAndV (mBin eqA (mCB typeD (mCons (mVar 0) mNil)) (mC (.ty "int"))) (mChain leD leD (mVar 1) (mVar 0) (mVar 2))))
noncomputable def f_is_integer_within (F : Nat) : Fn := fnD 3 (c_b_is_integer_within F)
abbrev s_is_look : Stmt := top 9
abbrev N_is_look : List Str := ["value"]
noncomputable def c_b_is_look (F : Nat) : MS :=
    (mRet (mCall (f_is_integer_within F) (mCons (mVar 0) (mCons (mC (.int 0)) (mCons (mC (.int 12)) mNil)))))
noncomputable def f_is_look (F : Nat) : Fn := fnD 1 (c_b_is_look F)
abbrev s_is_plain : Stmt := top 10
abbrev N_is_plain : List Str := ["value"]
noncomputable def c_b_is_plain (F : Nat) : MS :=
    (mRet (mAndV (mBin eqA (mCB typeD (mCons (mVar 0) mNil)) (mC (.ty "str"))) (mAndV (mBin leD (mCB lenD (mCons (mVar 0) mNil)) (mC (.int 500))) (mCall (f_is_over F) (mCons (mC (.str "abcdefghijklmnopqrstuvwxyz")) (mCons (mVar 0) mNil))))))
noncomputable def f_is_plain (F : Nat) : Fn := fnD 1 (c_b_is_plain F)
abbrev s_need_look : Stmt := top 11
abbrev N_need_look : List Str := ["k"]
noncomputable def c_b_need_look (F : Nat) : MS :=
    (mIf (mNot (mTest (mCall (f_is_look F) (mCons (mVar 0) mNil)))) mNever mNext)
noncomputable def f_need_look (F : Nat) : Fn := fnD 1 (c_b_need_look F)
abbrev s_need_plain_words : Stmt := top 12
abbrev N_need_plain_words : List Str := ["one", "other"]
noncomputable def c_b_need_plain_words (F : Nat) : MS :=
    (mSeq (mIf (mNot (mTest (mCall (f_is_plain F) (mCons (mVar 0) mNil)))) mNever mNext)
      (mIf (mNot (mTest (mCall (f_is_plain F) (mCons (mVar 1) mNil)))) mNever mNext))
noncomputable def f_need_plain_words (F : Nat) : Fn := fnD 2 (c_b_need_plain_words F)
abbrev s_ending : Stmt := top 13
abbrev N_ending : List Str := ["word", "many"]
noncomputable def c_b_ending (F : Nat) : MS :=
    (mRet (mSlice (mVar 0) (mPart (mBin subD (mCB lenD (mCons (mVar 0) mNil)) (mVar 1))) mNoPart))
noncomputable def f_ending (F : Nat) : Fn := fnD 2 (c_b_ending F)
abbrev s_alike : Stmt := top 14
abbrev N_alike : List Str := ["one", "other", "k"]
noncomputable def c_b_alike (F : Nat) : MS :=
    (mRet (mAndV (mBin geD (mCB lenD (mCons (mVar 0) mNil)) (mVar 2)) (mAndV (mBin geD (mCB lenD (mCons (mVar 1) mNil)) (mVar 2)) (mBin eqA (mCall (f_ending F) (mCons (mVar 0) (mCons (mVar 2) mNil))) (mCall (f_ending F) (mCons (mVar 1) (mCons (mVar 2) mNil)))))))
noncomputable def f_alike (F : Nat) : Fn := fnD 3 (c_b_alike F)
abbrev s_common_end : Stmt := top 15
abbrev N_common_end : List Str := ["one", "other", "many"]
noncomputable def W1_common_end (F : Nat) : MT :=
    (mAnd (mTest (mBin ltD (mVar 2) (mCB minD (mCons (mCB lenD (mCons (mVar 0) mNil)) (mCons (mCB lenD (mCons (mVar 1) mNil)) mNil))))) (mTest (mBin eqA (mBin ixD (mVar 0) (mBin subD (mBin subD (mCB lenD (mCons (mVar 0) mNil)) (mVar 2)) (mC (.int 1)))) (mBin ixD (mVar 1) (mBin subD (mBin subD (mCB lenD (mCons (mVar 1) mNil)) (mVar 2)) (mC (.int 1)))))))
noncomputable def B1_common_end (F : Nat) : MS :=
    (mAug 2 (fun a b => a + b) (mC (.int 1)))
noncomputable def c_b_common_end (F : Nat) : MS :=
    (mSeq (mExpr (mCall (f_need_plain_words F) (mCons (mVar 0) (mCons (mVar 1) mNil))))
      (mSeq (mSet 2 (mC (.int 0)))
      (mSeq (mWhile F (W1_common_end F) (B1_common_end F))
      (mRet (mCall (f_ending F) (mCons (mVar 0) (mCons (mVar 2) mNil)))))))
noncomputable def f_common_end (F : Nat) : Fn := fnD 3 (c_b_common_end F)
abbrev s_are_alike : Stmt := top 16
abbrev N_are_alike : List Str := ["one", "other", "k"]
noncomputable def c_b_are_alike (F : Nat) : MS :=
    (mSeq (mExpr (mCall (f_need_plain_words F) (mCons (mVar 0) (mCons (mVar 1) mNil))))
      (mSeq (mExpr (mCall (f_need_look F) (mCons (mVar 2) mNil)))
      (mRet (mCall (f_alike F) (mCons (mVar 0) (mCons (mVar 1) (mCons (mVar 2) mNil)))))))
noncomputable def f_are_alike (F : Nat) : Fn := fnD 3 (c_b_are_alike F)
abbrev s_law_stream : Stmt := top 18
abbrev N_law_stream : List Str := ["script"]
noncomputable def c_b_law_stream (F : Nat) : MS :=
    (mRet (mLst (mCons (mCB listD (mCons (mVar 0) mNil)) (mCons (mC (.int 0)) (mCons (mC (.int 0)) mNil)))))
noncomputable def f_law_stream (F : Nat) : Fn := fnD 1 (c_b_law_stream F)
abbrev s_law_next : Stmt := top 19
abbrev N_law_next : List Str := ["stream", "many", "digit", "k", "cell"]
noncomputable def c_b_law_next (F : Nat) : MS :=
    (mSeq (mIf (mTest (mBin eqA (mBin ixD (mVar 0) (mC (.int 1))) (mC (.int 0)))) (mSeq (mSet 3 (mBin ixD (mVar 0) (mC (.int 2))))
      (mSeq (mSet 4 (mBin addD (mC (.int 7)) (mVar 3)))
      (mSeq (mIf (mTest (mBin ltD (mVar 3) (mCB lenD (mCons (mBin ixD (mVar 0) (mC (.int 0))) mNil)))) (mSet 4 (mCB absD (mCons (mBin ixD (mBin ixD (mVar 0) (mC (.int 0))) (mVar 3)) mNil))) mNext)
      (mSeq (mIf (mTest (mBin ltD (mVar 4) (mBin powD (mC (.int 10)) (mC (.int 18))))) (mSeq (mSet 4 (mBin modD (mCB intCD (mCons (mBin addD (mBin addD (mBin mulA (mVar 4) (mC (.int 48271))) (mBin mulA (mVar 3) (mC (.int 69621)))) (mC (.int 11))) mNil)) (mC (.int 2147483647))))
      (mSet 4 (mBin addD (mBin mulA (mBin modD (mCB intCD (mCons (mBin addD (mBin mulA (mVar 4) (mC (.int 16807))) (mC (.int 13))) mNil)) (mC (.int 2147483647))) (mC (.int 65537))) (mVar 4)))) mNext)
      (mSeq (mSetIt (mVar 4) (mVar 0) (mC (.int 1)))
      (mSetIt (mBin addD (mVar 3) (mC (.int 1))) (mVar 0) (mC (.int 2)))))))) mNext)
      (mSeq (mSet 2 (mBin modD (mCB intCD (mCons (mBin ixD (mVar 0) (mC (.int 1))) mNil)) (mVar 1)))
      (mSeq (mSetIt (mBin fdivD (mBin ixD (mVar 0) (mC (.int 1))) (mVar 1)) (mVar 0) (mC (.int 1)))
      (mRet (mVar 2)))))
noncomputable def f_law_next (F : Nat) : Fn := fnD 5 (c_b_law_next F)
abbrev s_law_pick : Stmt := top 20
abbrev N_law_pick : List Str := ["stream", "rows"]
noncomputable def c_b_law_pick (F : Nat) : MS :=
    (mRet (mBin ixD (mVar 1) (mCall (f_law_next F) (mCons (mVar 0) (mCons (mCB lenD (mCons (mVar 1) mNil)) mNil)))))
noncomputable def f_law_pick (F : Nat) : Fn := fnD 2 (c_b_law_pick F)
abbrev s_law_word : Stmt := top 21
abbrev N_law_word : List Str := ["stream", "letters", "least", "most", "word", "turn"]
noncomputable def B1_law_word (F : Nat) : MS :=
    (mSet 4 (mBin addD (mVar 4) (mBin ixD (mVar 1) (mCall (f_law_next F) (mCons (mVar 0) (mCons (mCB lenD (mCons (mVar 1) mNil)) mNil))))))
noncomputable def c_b_law_word (F : Nat) : MS :=
    (mSeq (mSet 4 (mC (.str "")))
      (mSeq (mForR1 (mBin addD (mVar 2) (mCall (f_law_next F) (mCons (mVar 0) (mCons (mBin addD (mBin subD (mVar 3) (mVar 2)) (mC (.int 1))) mNil)))) (gN 5) (B1_law_word F))
      (mRet (mVar 4))))
noncomputable def f_law_word (F : Nat) : Fn := fnD 6 (c_b_law_word F)
abbrev s_law_says : Stmt := top 22
abbrev N_law_says : List Str := ["actual", "due"]
noncomputable def c_b_law_says (F : Nat) : MS :=
    (mRet (mIfE (mTest (mVar 1)) (mBin (isD false) (mVar 0) (mC (.bl true))) (mBin (isD false) (mVar 0) (mC (.bl false)))))
noncomputable def f_law_says (F : Nat) : Fn := fnD 2 (c_b_law_says F)
abbrev s_law_same : Stmt := top 23
abbrev N_law_same : List Str := ["actual", "due", "left", "turn", "one", "other", "at"]
noncomputable def C1_law_same (F : Nat) : ME :=
    (mLcR1 (mCB lenD (mCons (mVar 5) mNil)) (gN 6) [6] mYes (mTup (mCons (mBin ixD (mVar 4) (mVar 6)) (mCons (mBin ixD (mVar 5) (mVar 6)) mNil))))
noncomputable def B1_law_same (F : Nat) : MS :=
    (mSeq (mIf (mTest (mBin eqA (mCB lenD (mCons (mVar 2) mNil)) (mC (.int 0)))) (mRet (mC (.bl true))) mNext)
      (mSeq (mAsgG (gTs [4, 5]) (mMeth popD (mVar 2) mNil))
      (mIf (mOr (mTest (mCB isiD (mCons (mVar 5) (mCons (mC (.ty "tuple")) mNil)))) (mTest (mCB isiD (mCons (mVar 5) (mCons (mC (.ty "list")) mNil))))) (mSeq (mIf (mOr (mTest (mBin (eqD true) (mCB isiD (mCons (mVar 5) (mCons (mC (.ty "tuple")) mNil))) (mCB isiD (mCons (mVar 4) (mCons (mC (.ty "tuple")) mNil))))) (mTest (mBin (eqD true) (mCB isiD (mCons (mVar 5) (mCons (mC (.ty "list")) mNil))) (mCB isiD (mCons (mVar 4) (mCons (mC (.ty "list")) mNil)))))) (mRet (mC (.bl false))) mNext)
      (mSeq (mIf (mTest (mBin (eqD true) (mCB lenD (mCons (mVar 4) mNil)) (mCB lenD (mCons (mVar 5) mNil)))) (mRet (mC (.bl false))) mNext)
      (mExpr (mMeth extendD (mVar 2) (mCons (C1_law_same F) mNil))))) (mIf (mTest (mCB isiD (mCons (mVar 5) (mCons (mC (.ty "bool")) mNil)))) (mIf (mOr (mNot (mTest (mCB isiD (mCons (mVar 4) (mCons (mC (.ty "bool")) mNil))))) (mTest (mBin (eqD true) (mVar 4) (mVar 5)))) (mRet (mC (.bl false))) mNext) (mIf (mTest (mCB isiD (mCons (mVar 5) (mCons (mC (.ty "int")) mNil)))) (mIf (mOr (mNot (mTest (mCB isiD (mCons (mVar 4) (mCons (mC (.ty "int")) mNil))))) (mOr (mTest (mCB isiD (mCons (mVar 4) (mCons (mC (.ty "bool")) mNil)))) (mTest (mBin (eqD true) (mVar 4) (mVar 5))))) (mRet (mC (.bl false))) mNext) (mIf (mTest (mCB isiD (mCons (mVar 5) (mCons (mC (.ty "str")) mNil)))) (mIf (mOr (mNot (mTest (mCB isiD (mCons (mVar 4) (mCons (mC (.ty "str")) mNil))))) (mTest (mBin (eqD true) (mVar 4) (mVar 5)))) (mRet (mC (.bl false))) mNext) (mIf (mTest (mBin (isD true) (mVar 4) (mC .non))) (mRet (mC (.bl false))) mNext)))))))
noncomputable def c_b_law_same (F : Nat) : MS :=
    (mSeq (mSet 2 (mLst (mCons (mTup (mCons (mVar 0) (mCons (mVar 1) mNil))) mNil)))
      (mSeq (mForR1 (mC (.int 2000000)) (gN 3) (B1_law_same F))
      (mRet (mC (.bl false)))))
noncomputable def f_law_same (F : Nat) : Fn := fnD 7 (c_b_law_same F)
abbrev s_law_some : Stmt := top 24
abbrev N_law_some : List Str := ["stream", "letters", "ending_v"]
noncomputable def c_b_law_some (F : Nat) : MS :=
    (mSeq (mSet 1 (mSlice (mSlice (mC (.str "abcdefghijklmnopqrstuvwxyz")) (mPart (mCall (f_law_next F) (mCons (mVar 0) (mCons (mC (.int 20)) mNil)))) mNoPart) mNoPart (mPart (mBin addD (mC (.int 1)) (mCall (f_law_next F) (mCons (mVar 0) (mCons (mC (.int 6)) mNil)))))))
      (mSeq (mSet 2 (mCall (f_law_word F) (mCons (mVar 0) (mCons (mVar 1) (mCons (mC (.int 0)) (mCons (mC (.int 15)) mNil))))))
      (mSeq (mIf (mTest (mBin eqA (mCall (f_law_next F) (mCons (mVar 0) (mCons (mC (.int 10)) mNil))) (mC (.int 0)))) (mSet 2 (mSlice (mBin mulA (mBin addD (mVar 2) (mBin ixD (mVar 1) (mC (.int 0)))) (mC (.int 500))) mNoPart (mPart (mBin addD (mC (.int 400)) (mCall (f_law_next F) (mCons (mVar 0) (mCons (mC (.int 80)) mNil))))))) mNext)
      (mRet (mLst (mCons (mVar 1) (mCons (mVar 2) mNil)))))))
noncomputable def f_law_some (F : Nat) : Fn := fnD 3 (c_b_law_some F)
abbrev s_law_with : Stmt := top 25
abbrev N_law_with : List Str := ["stream", "letters", "ending_v", "kind"]
noncomputable def c_b_law_with (F : Nat) : MS :=
    (mSeq (mSet 3 (mCall (f_law_next F) (mCons (mVar 0) (mCons (mC (.int 5)) mNil))))
      (mSeq (mIf (mTest (mBin eqA (mVar 3) (mC (.int 0)))) (mRet (mVar 2)) mNext)
      (mSeq (mIf (mTest (mBin eqA (mVar 3) (mC (.int 1)))) (mRet (mSlice (mVar 2) (mPart (mCall (f_law_next F) (mCons (mVar 0) (mCons (mBin addD (mCB lenD (mCons (mVar 2) mNil)) (mC (.int 1))) mNil)))) mNoPart)) mNext)
      (mRet (mBin addD (mCall (f_law_word F) (mCons (mVar 0) (mCons (mVar 1) (mCons (mC (.int 0)) (mCons (mC (.int 6)) mNil))))) (mVar 2))))))
noncomputable def f_law_with (F : Nat) : Fn := fnD 4 (c_b_law_with F)
abbrev s_law_end : Stmt := top 26
abbrev N_law_end : List Str := ["one", "other", "found", "back"]
noncomputable def B1_law_end (F : Nat) : MS :=
    (mSeq (mIf (mOr (mTest (mBin gtD (mVar 3) (mCB lenD (mCons (mVar 0) mNil)))) (mOr (mTest (mBin gtD (mVar 3) (mCB lenD (mCons (mVar 1) mNil)))) (mTest (mBin (eqD true) (mBin ixD (mVar 0) (mBin subD (mCB lenD (mCons (mVar 0) mNil)) (mVar 3))) (mBin ixD (mVar 1) (mBin subD (mCB lenD (mCons (mVar 1) mNil)) (mVar 3))))))) (mRet (mVar 2)) mNext)
      (mSet 2 (mBin addD (mBin ixD (mVar 0) (mBin subD (mCB lenD (mCons (mVar 0) mNil)) (mVar 3))) (mVar 2))))
noncomputable def c_b_law_end (F : Nat) : MS :=
    (mSeq (mSet 2 (mC (.str "")))
      (mSeq (mForR2 (mC (.int 1)) (mC (.int 501)) (gN 3) (B1_law_end F))
      (mRet (mVar 2))))
noncomputable def f_law_end (F : Nat) : Fn := fnD 4 (c_b_law_end F)
abbrev s_law_looks : Stmt := top 27
abbrev N_law_looks : List Str := ["one", "other", "many", "k"]
noncomputable def B1_law_looks (F : Nat) : MS :=
    (mIf (mOr (mNot (mTest (mCall (f_law_says F) (mCons (mCall (f_are_alike F) (mCons (mVar 0) (mCons (mVar 1) (mCons (mVar 3) mNil)))) (mCons (mBin geD (mVar 2) (mVar 3)) mNil))))) (mNot (mTest (mCall (f_law_says F) (mCons (mCall (f_are_alike F) (mCons (mVar 0) (mCons (mVar 0) (mCons (mVar 3) mNil)))) (mCons (mBin geD (mCB lenD (mCons (mVar 0) mNil)) (mVar 3)) mNil)))))) (mRet (mC (.bl false))) mNext)
noncomputable def c_b_law_looks (F : Nat) : MS :=
    (mSeq (mSet 2 (mCB lenD (mCons (mCall (f_law_end F) (mCons (mVar 0) (mCons (mVar 1) mNil))) mNil)))
      (mSeq (mForR1 (mC (.int 13)) (gN 3) (B1_law_looks F))
      (mRet (mC (.bl true)))))
noncomputable def f_law_looks (F : Nat) : Fn := fnD 4 (c_b_law_looks F)
abbrev s_law : Stmt := top 28
abbrev N_law : List Str := ["script", "stream", "turn", "one", "other", "third", "due", "told", "behind", "k", "letters", "ending_v"]
noncomputable def B1_law (F : Nat) : MS :=
    (mSeq (mAsgG (gUs [10, 11]) (mCall (f_law_some F) (mCons (mVar 1) mNil)))
      (mSeq (mSet 3 (mCall (f_law_with F) (mCons (mVar 1) (mCons (mVar 10) (mCons (mVar 11) mNil)))))
      (mSeq (mSet 4 (mCall (f_law_with F) (mCons (mVar 1) (mCons (mVar 10) (mCons (mVar 11) mNil)))))
      (mSeq (mSet 5 (mCall (f_law_with F) (mCons (mVar 1) (mCons (mVar 10) (mCons (mVar 11) mNil)))))
      (mSeq (mSet 6 (mCall (f_law_end F) (mCons (mVar 3) (mCons (mVar 4) mNil))))
      (mSeq (mSet 7 (mLst (mCons (mCall (f_common_end F) (mCons (mVar 3) (mCons (mVar 4) mNil))) (mCons (mCall (f_common_end F) (mCons (mVar 4) (mCons (mVar 3) mNil))) (mCons (mCall (f_common_end F) (mCons (mVar 3) (mCons (mVar 3) mNil))) mNil)))))
      (mSeq (mIf (mNot (mTest (mCall (f_law_same F) (mCons (mVar 7) (mCons (mLst (mCons (mVar 6) (mCons (mVar 6) (mCons (mVar 3) mNil)))) mNil))))) (mRet (mC (.bl false))) mNext)
      (mSeq (mIf (mOr (mNot (mTest (mCall (f_law_looks F) (mCons (mVar 3) (mCons (mVar 4) mNil))))) (mNot (mTest (mCall (f_law_looks F) (mCons (mVar 4) (mCons (mVar 5) mNil)))))) (mRet (mC (.bl false))) mNext)
      (mSeq (mSet 8 (mCall (f_law_word F) (mCons (mVar 1) (mCons (mVar 10) (mCons (mC (.int 0)) (mCons (mC (.int 9)) mNil))))))
      (mSeq (mIf (mNot (mTest (mCall (f_law_same F) (mCons (mCall (f_common_end F) (mCons (mBin addD (mVar 3) (mVar 8)) (mCons (mBin addD (mVar 4) (mVar 8)) mNil))) (mCons (mBin addD (mVar 6) (mVar 8)) mNil))))) (mRet (mC (.bl false))) mNext)
      (mSeq (mSet 9 (mCall (f_law_next F) (mCons (mVar 1) (mCons (mC (.int 13)) mNil))))
      (mSeq (mIf (mAnd (mTest (mBin geD (mCB lenD (mCons (mVar 6) mNil)) (mVar 9))) (mAnd (mTest (mBin geD (mCB lenD (mCons (mCall (f_law_end F) (mCons (mVar 4) (mCons (mVar 5) mNil))) mNil)) (mVar 9))) (mTest (mBin (isD true) (mCall (f_are_alike F) (mCons (mVar 3) (mCons (mVar 5) (mCons (mVar 9) mNil)))) (mC (.bl true)))))) (mRet (mC (.bl false))) mNext)
      (mIf (mAnd (mTest (mBin geD (mCB lenD (mCons (mVar 6) mNil)) (mVar 9))) (mTest (mBin (isD true) (mCall (f_are_alike F) (mCons (mBin addD (mVar 3) (mVar 8)) (mCons (mBin addD (mVar 4) (mVar 8)) (mCons (mCB minD (mCons (mC (.int 12)) (mCons (mBin addD (mVar 9) (mCB lenD (mCons (mVar 8) mNil))) mNil))) mNil)))) (mC (.bl true))))) (mRet (mC (.bl false))) mNext)))))))))))))
noncomputable def c_b_law (F : Nat) : MS :=
    (mSeq (mSet 1 (mCall (f_law_stream F) (mCons (mVar 0) mNil)))
      (mSeq (mForR1 (mC (.int 3)) (gN 2) (B1_law F))
      (mRet (mC (.bl true)))))
noncomputable def f_law (F : Nat) : Fn := fnD 12 (c_b_law F)
/-! ### the head: facts by names -/
def d_is_over : He.DefD := ⟨("is_over", none), "is_over", "is_over", defArgs s_is_over, defBody s_is_over, defScope s_is_over, [], []⟩
def d_is_integer_within : He.DefD := ⟨("is_integer_within", none), "is_integer_within", "is_integer_within", defArgs s_is_integer_within, defBody s_is_integer_within, defScope s_is_integer_within, [], []⟩
def d_is_look : He.DefD := ⟨("is_look", none), "is_look", "is_look", defArgs s_is_look, defBody s_is_look, defScope s_is_look, [], []⟩
def d_is_plain : He.DefD := ⟨("is_plain", none), "is_plain", "is_plain", defArgs s_is_plain, defBody s_is_plain, defScope s_is_plain, [], []⟩
def d_need_look : He.DefD := ⟨("need_look", none), "need_look", "need_look", defArgs s_need_look, defBody s_need_look, defScope s_need_look, [], []⟩
def d_need_plain_words : He.DefD := ⟨("need_plain_words", none), "need_plain_words", "need_plain_words", defArgs s_need_plain_words, defBody s_need_plain_words, defScope s_need_plain_words, [], []⟩
def d_ending : He.DefD := ⟨("ending", none), "ending", "ending", defArgs s_ending, defBody s_ending, defScope s_ending, [], []⟩
def d_alike : He.DefD := ⟨("alike", none), "alike", "alike", defArgs s_alike, defBody s_alike, defScope s_alike, [], []⟩
def d_common_end : He.DefD := ⟨("common_end", none), "common_end", "common_end", defArgs s_common_end, defBody s_common_end, defScope s_common_end, [], []⟩
def d_are_alike : He.DefD := ⟨("are_alike", none), "are_alike", "are_alike", defArgs s_are_alike, defBody s_are_alike, defScope s_are_alike, [], []⟩
def d_law_stream : He.DefD := ⟨("_law_stream", none), "_law_stream", "_law_stream", defArgs s_law_stream, defBody s_law_stream, defScope s_law_stream, [], []⟩
def d_law_next : He.DefD := ⟨("_law_next", none), "_law_next", "_law_next", defArgs s_law_next, defBody s_law_next, defScope s_law_next, [], []⟩
def d_law_pick : He.DefD := ⟨("_law_pick", none), "_law_pick", "_law_pick", defArgs s_law_pick, defBody s_law_pick, defScope s_law_pick, [], []⟩
def d_law_word : He.DefD := ⟨("_law_word", none), "_law_word", "_law_word", defArgs s_law_word, defBody s_law_word, defScope s_law_word, [], []⟩
def d_law_says : He.DefD := ⟨("_law_says", none), "_law_says", "_law_says", defArgs s_law_says, defBody s_law_says, defScope s_law_says, [], []⟩
def d_law_same : He.DefD := ⟨("_law_same", none), "_law_same", "_law_same", defArgs s_law_same, defBody s_law_same, defScope s_law_same, [], []⟩
def d_law_some : He.DefD := ⟨("_law_some", none), "_law_some", "_law_some", defArgs s_law_some, defBody s_law_some, defScope s_law_some, [], []⟩
def d_law_with : He.DefD := ⟨("_law_with", none), "_law_with", "_law_with", defArgs s_law_with, defBody s_law_with, defScope s_law_with, [], []⟩
def d_law_end : He.DefD := ⟨("_law_end", none), "_law_end", "_law_end", defArgs s_law_end, defBody s_law_end, defScope s_law_end, [], []⟩
def d_law_looks : He.DefD := ⟨("_law_looks", none), "_law_looks", "_law_looks", defArgs s_law_looks, defBody s_law_looks, defScope s_law_looks, [], []⟩
def d_law : He.DefD := ⟨("law", none), "law", "law", defArgs s_law, defBody s_law, defScope s_law, [], []⟩
def fn : List He.DefD := [d_is_over, d_is_integer_within, d_is_look, d_is_plain, d_need_look, d_need_plain_words, d_ending, d_alike, d_common_end, d_are_alike, d_law_stream, d_law_next, d_law_pick, d_law_word, d_law_says, d_law_same, d_law_some, d_law_with, d_law_end, d_law_looks, d_law]
def fa : List He.Fa := [.glo "is_over", .glo "is_integer_within", .glo "is_look", .glo "is_plain", .glo "need_look", .glo "need_plain_words", .glo "ending", .glo "alike", .glo "common_end", .glo "are_alike", .glo "_law_stream", .glo "_law_next", .glo "_law_pick", .glo "_law_word", .glo "_law_says", .glo "_law_same", .glo "_law_some", .glo "_law_with", .glo "_law_end", .glo "_law_looks", .glo "law", .free "abs", .free "bool", .free "int", .free "isinstance", .free "len", .free "list", .free "min", .free "range", .free "set", .free "str", .free "tuple", .free "type", .str "ALPHABET" "abcdefghijklmnopqrstuvwxyz", .int "MOST_ASKED_LETTERS" 500, .int "MOST_LOOK" 12]
section
variable {P : Program} {w : World} {K : PySem.W.Frag} {mg : Str → Option Value} {base h : Heap} (F : Nat)
theorem sc_is_over : FnScope N_is_over ["alphabet", "value"] (defScope s_is_over) := ⟨rfl, rfl, rfl, by decide +kernel, rfl, by decide +kernel, by decide +kernel⟩
set_option maxHeartbeats 4000000 in
theorem okf_is_over (KX : K.In h) (GX : h.Ns mainGlobals mg) (C : He.SaysD fa fn K) {fd : FuncData} (FD : FunD K d_is_over.name d_is_over.qual d_is_over.params d_is_over.body d_is_over.scope (d_is_over.dvs K) (d_is_over.kws K) (He.fAd K d_is_over.at_) fd) : FnOk P w K mg base (L2.CX P w) 2 (He.ga K "is_over") fd ["alphabet", "value"] (spD K 2 (f_is_over F)) := by
  have z_len := He.free_ok KX GX (C.fact 25 (f := .free "len") rfl)
  have z_set := He.free_ok KX GX (C.fact 29 (f := .free "set") rfl)
  have z_str := He.free_ok KX GX (C.fact 30 (f := .free "str") rfl)
  have z_type := He.free_ok KX GX (C.fact 32 (f := .free "type") rfl)
  have sc := sc_is_over
  refine fn_ok FD sc fun cdv A outer s H E hr => ?_
  have hx := passAt (X := cxOf (L2.CX P w) P w K mg base N_is_over "is_over" (defScope s_is_over) (He.ga K "is_over") cdv A outer s H E) (takes_of rfl rfl rfl rfl)
  show PSs _ (defBody s_is_over) (LS K _ (c_b_is_over F))
  unfold c_b_is_over 
  exact (s_one (s_ret (e_and (e_cmp o_eq rd_eqA (PE.imp (pe_callTy call_type1 rfl z_type (by decide +kernel) (a_cons (e_var 1 (pv 1)) a_nil)) (le_cb rd_type)) (e_con (d := .ty "str") (pe_bltn (v := .ty "str") rfl z_str (by decide +kernel) rfl) fun _ _ => rfl) (nomark _)) (pe_one (PE.imp (pe_cmpR o_eq (pe_lenSub rfl rfl z_len rfl z_set (e_var 1 (pv 1)) (e_var 0 (pv 0))) pe_int (nomark _)) le_sub0)))))
theorem ok_is_over (KX : K.In h) (GX : h.Ns mainGlobals mg) (C : He.SaysD fa fn K) : DefOk P w K mg base 2 "is_over" ["alphabet", "value"] (f_is_over F) := by
  obtain ⟨fd, FD⟩ := C.def_ 0 (d := d_is_over) rfl
  have bd : Binds K fd ["alphabet", "value"] [] := FunD.bindsN FD fun _ _ _ _ _ _ us hl => match us, hl with | [_, _], _ => rfl
  exact ⟨⟨fd, okf_is_over F KX GX C FD, bd⟩, He.glo_ok KX GX (C.fact 0 (f := .glo "is_over") rfl), FD.kp⟩
theorem sc_is_integer_within : FnScope N_is_integer_within ["value", "low", "high"] (defScope s_is_integer_within) := ⟨rfl, rfl, rfl, by decide +kernel, rfl, by decide +kernel, by decide +kernel⟩
set_option maxHeartbeats 4000000 in
theorem okf_is_integer_within (KX : K.In h) (GX : h.Ns mainGlobals mg) (C : He.SaysD fa fn K) {fd : FuncData} (FD : FunD K d_is_integer_within.name d_is_integer_within.qual d_is_integer_within.params d_is_integer_within.body d_is_integer_within.scope (d_is_integer_within.dvs K) (d_is_integer_within.kws K) (He.fAd K d_is_integer_within.at_) fd) : FnOk P w K mg base (L2.CX P w) 2 (He.ga K "is_integer_within") fd ["value", "low", "high"] (spD K 3 (f_is_integer_within F)) := by
  have z_int := He.free_ok KX GX (C.fact 23 (f := .free "int") rfl)
  have z_type := He.free_ok KX GX (C.fact 32 (f := .free "type") rfl)
  have sc := sc_is_integer_within
  refine fn_ok FD sc fun cdv A outer s H E hr => ?_
  have hx := passAt (X := cxOf (L2.CX P w) P w K mg base N_is_integer_within "is_integer_within" (defScope s_is_integer_within) (He.ga K "is_integer_within") cdv A outer s H E) (takes_of rfl rfl rfl rfl)
  show PSs _ (defBody s_is_integer_within) (LS K _ (c_b_is_integer_within F))
  unfold c_b_is_integer_within 
  exact (s_one (s_ret (e_and (e_cmp o_eq rd_eqA (PE.imp (pe_callTy call_type1 rfl z_type (by decide +kernel) (a_cons (e_var 0 (pv 0)) a_nil)) (le_cb rd_type)) (e_con (d := .ty "int") (pe_bltn (v := .ty "int") rfl z_int (by decide +kernel) rfl) fun _ _ => rfl) (nomark _)) (pe_one (PE.imp (pe_chain op_le op_le (e_var 1 (pv 1)) (e_var 0 (pv 0)) (e_var 2 (pv 2))) (le_chain rd_cmp rd_cmp))))))
theorem ok_is_integer_within (KX : K.In h) (GX : h.Ns mainGlobals mg) (C : He.SaysD fa fn K) : DefOk P w K mg base 2 "is_integer_within" ["value", "low", "high"] (f_is_integer_within F) := by
  obtain ⟨fd, FD⟩ := C.def_ 1 (d := d_is_integer_within) rfl
  have bd : Binds K fd ["value", "low", "high"] [] := FunD.bindsN FD fun _ _ _ _ _ _ us hl => match us, hl with | [_, _, _], _ => rfl
  exact ⟨⟨fd, okf_is_integer_within F KX GX C FD, bd⟩, He.glo_ok KX GX (C.fact 1 (f := .glo "is_integer_within") rfl), FD.kp⟩
theorem sc_is_look : FnScope N_is_look ["value"] (defScope s_is_look) := ⟨rfl, rfl, rfl, by decide +kernel, rfl, by decide +kernel, by decide +kernel⟩
set_option maxHeartbeats 4000000 in
theorem okf_is_look (KX : K.In h) (GX : h.Ns mainGlobals mg) (C : He.SaysD fa fn K) {fd : FuncData} (FD : FunD K d_is_look.name d_is_look.qual d_is_look.params d_is_look.body d_is_look.scope (d_is_look.dvs K) (d_is_look.kws K) (He.fAd K d_is_look.at_) fd) : FnOk P w K mg base (L2.CX P w) 3 (He.ga K "is_look") fd ["value"] (spD K 1 (f_is_look F)) := by
  obtain ⟨⟨fd_is_integer_within, G_is_integer_within, b_is_integer_within⟩, m_is_integer_within, k_is_integer_within⟩ := ok_is_integer_within (P := P) (w := w) (base := base) F KX GX C
  have c_MOST_LOOK := He.int_ok KX GX (C.fact 35 (f := .int "MOST_LOOK" 12) rfl)
  have sc := sc_is_look
  refine fn_ok FD sc fun cdv A outer s H E hr => ?_
  have hx := passAt (X := cxOf (L2.CX P w) P w K mg base N_is_look "is_look" (defScope s_is_look) (He.ga K "is_look") cdv A outer s H E) (takes_of rfl rfl rfl rfl)
  show PSs _ (defBody s_is_look) (LS K _ (c_b_is_look F))
  unfold c_b_is_look 
  exact (s_one (s_ret (e_call G_is_integer_within (hr.mono (by decide)) m_is_integer_within k_is_integer_within b_is_integer_within hx (a_cons (e_var 0 (pv 0)) (a_cons e_int (a_cons (e_con (d := .int 12) (pe_glob (v := .int 12) rfl c_MOST_LOOK.choose_spec ⟨_, rfl⟩) fun _ _ => rfl) a_nil))) (len_cons (len_cons (len_cons len_nil))))))
theorem ok_is_look (KX : K.In h) (GX : h.Ns mainGlobals mg) (C : He.SaysD fa fn K) : DefOk P w K mg base 3 "is_look" ["value"] (f_is_look F) := by
  obtain ⟨fd, FD⟩ := C.def_ 2 (d := d_is_look) rfl
  have bd : Binds K fd ["value"] [] := FunD.bindsN FD fun _ _ _ _ _ _ us hl => match us, hl with | [_], _ => rfl
  exact ⟨⟨fd, okf_is_look F KX GX C FD, bd⟩, He.glo_ok KX GX (C.fact 2 (f := .glo "is_look") rfl), FD.kp⟩
theorem sc_is_plain : FnScope N_is_plain ["value"] (defScope s_is_plain) := ⟨rfl, rfl, rfl, by decide +kernel, rfl, by decide +kernel, by decide +kernel⟩
set_option maxHeartbeats 4000000 in
theorem okf_is_plain (KX : K.In h) (GX : h.Ns mainGlobals mg) (C : He.SaysD fa fn K) {fd : FuncData} (FD : FunD K d_is_plain.name d_is_plain.qual d_is_plain.params d_is_plain.body d_is_plain.scope (d_is_plain.dvs K) (d_is_plain.kws K) (He.fAd K d_is_plain.at_) fd) : FnOk P w K mg base (L2.CX P w) 3 (He.ga K "is_plain") fd ["value"] (spD K 1 (f_is_plain F)) := by
  obtain ⟨⟨fd_is_over, G_is_over, b_is_over⟩, m_is_over, k_is_over⟩ := ok_is_over (P := P) (w := w) (base := base) F KX GX C
  have z_len := He.free_ok KX GX (C.fact 25 (f := .free "len") rfl)
  have z_str := He.free_ok KX GX (C.fact 30 (f := .free "str") rfl)
  have z_type := He.free_ok KX GX (C.fact 32 (f := .free "type") rfl)
  have c_ALPHABET := He.str_ok KX GX (C.fact 33 (f := .str "ALPHABET" "abcdefghijklmnopqrstuvwxyz") rfl)
  have c_MOST_ASKED_LETTERS := He.int_ok KX GX (C.fact 34 (f := .int "MOST_ASKED_LETTERS" 500) rfl)
  have sc := sc_is_plain
  refine fn_ok FD sc fun cdv A outer s H E hr => ?_
  have hx := passAt (X := cxOf (L2.CX P w) P w K mg base N_is_plain "is_plain" (defScope s_is_plain) (He.ga K "is_plain") cdv A outer s H E) (takes_of rfl rfl rfl rfl)
  show PSs _ (defBody s_is_plain) (LS K _ (c_b_is_plain F))
  unfold c_b_is_plain 
  exact (s_one (s_ret (e_and (e_cmp o_eq rd_eqA (PE.imp (pe_callTy call_type1 rfl z_type (by decide +kernel) (a_cons (e_var 0 (pv 0)) a_nil)) (le_cb rd_type)) (e_con (d := .ty "str") (pe_bltn (v := .ty "str") rfl z_str (by decide +kernel) rfl) fun _ _ => rfl) (nomark _)) (e_and (e_cmp op_le rd_cmp (PE.imp (pe_callB call_len rfl z_len boot_len (a_cons (e_var 0 (pv 0)) a_nil)) (le_cb rd_len)) (e_con (d := .int 500) (pe_glob (v := .int 500) rfl c_MOST_ASKED_LETTERS.choose_spec ⟨_, rfl⟩) fun _ _ => rfl) (nomark _)) (pe_one (e_call G_is_over (hr.mono (by decide)) m_is_over k_is_over b_is_over hx (a_cons (e_con (d := .str "abcdefghijklmnopqrstuvwxyz") (pe_glob (v := .str "abcdefghijklmnopqrstuvwxyz") rfl c_ALPHABET.choose_spec ⟨_, rfl⟩) fun _ _ => rfl) (a_cons (e_var 0 (pv 0)) a_nil)) (len_cons (len_cons len_nil))))))))
theorem ok_is_plain (KX : K.In h) (GX : h.Ns mainGlobals mg) (C : He.SaysD fa fn K) : DefOk P w K mg base 3 "is_plain" ["value"] (f_is_plain F) := by
  obtain ⟨fd, FD⟩ := C.def_ 3 (d := d_is_plain) rfl
  have bd : Binds K fd ["value"] [] := FunD.bindsN FD fun _ _ _ _ _ _ us hl => match us, hl with | [_], _ => rfl
  exact ⟨⟨fd, okf_is_plain F KX GX C FD, bd⟩, He.glo_ok KX GX (C.fact 3 (f := .glo "is_plain") rfl), FD.kp⟩
theorem sc_need_look : FnScope N_need_look ["k"] (defScope s_need_look) := ⟨rfl, rfl, rfl, by decide +kernel, rfl, by decide +kernel, by decide +kernel⟩
set_option maxHeartbeats 4000000 in
theorem okf_need_look (KX : K.In h) (GX : h.Ns mainGlobals mg) (C : He.SaysD fa fn K) {fd : FuncData} (FD : FunD K d_need_look.name d_need_look.qual d_need_look.params d_need_look.body d_need_look.scope (d_need_look.dvs K) (d_need_look.kws K) (He.fAd K d_need_look.at_) fd) : FnOk P w K mg base (L2.CX P w) 4 (He.ga K "need_look") fd ["k"] (spD K 1 (f_need_look F)) := by
  obtain ⟨⟨fd_is_look, G_is_look, b_is_look⟩, m_is_look, k_is_look⟩ := ok_is_look (P := P) (w := w) (base := base) F KX GX C
  have sc := sc_need_look
  refine fn_ok FD sc fun cdv A outer s H E hr => ?_
  have hx := passAt (X := cxOf (L2.CX P w) P w K mg base N_need_look "need_look" (defScope s_need_look) (He.ga K "need_look") cdv A outer s H E) (takes_of rfl rfl rfl rfl)
  show PSs _ (defBody s_need_look) (LS K _ (c_b_need_look F))
  unfold c_b_need_look 
  exact (s_one (s_if (t_not (t_val (e_call G_is_look (hr.mono (by decide)) m_is_look k_is_look b_is_look hx (a_cons (e_var 0 (pv 0)) a_nil) (len_cons len_nil)))) (s_one s_never) s_nil))
theorem ok_need_look (KX : K.In h) (GX : h.Ns mainGlobals mg) (C : He.SaysD fa fn K) : DefOk P w K mg base 4 "need_look" ["k"] (f_need_look F) := by
  obtain ⟨fd, FD⟩ := C.def_ 4 (d := d_need_look) rfl
  have bd : Binds K fd ["k"] [] := FunD.bindsN FD fun _ _ _ _ _ _ us hl => match us, hl with | [_], _ => rfl
  exact ⟨⟨fd, okf_need_look F KX GX C FD, bd⟩, He.glo_ok KX GX (C.fact 4 (f := .glo "need_look") rfl), FD.kp⟩
theorem sc_need_plain_words : FnScope N_need_plain_words ["one", "other"] (defScope s_need_plain_words) := ⟨rfl, rfl, rfl, by decide +kernel, rfl, by decide +kernel, by decide +kernel⟩
set_option maxHeartbeats 4000000 in
theorem okf_need_plain_words (KX : K.In h) (GX : h.Ns mainGlobals mg) (C : He.SaysD fa fn K) {fd : FuncData} (FD : FunD K d_need_plain_words.name d_need_plain_words.qual d_need_plain_words.params d_need_plain_words.body d_need_plain_words.scope (d_need_plain_words.dvs K) (d_need_plain_words.kws K) (He.fAd K d_need_plain_words.at_) fd) : FnOk P w K mg base (L2.CX P w) 4 (He.ga K "need_plain_words") fd ["one", "other"] (spD K 2 (f_need_plain_words F)) := by
  obtain ⟨⟨fd_is_plain, G_is_plain, b_is_plain⟩, m_is_plain, k_is_plain⟩ := ok_is_plain (P := P) (w := w) (base := base) F KX GX C
  have sc := sc_need_plain_words
  refine fn_ok FD sc fun cdv A outer s H E hr => ?_
  have hx := passAt (X := cxOf (L2.CX P w) P w K mg base N_need_plain_words "need_plain_words" (defScope s_need_plain_words) (He.ga K "need_plain_words") cdv A outer s H E) (takes_of rfl rfl rfl rfl)
  show PSs _ (defBody s_need_plain_words) (LS K _ (c_b_need_plain_words F))
  unfold c_b_need_plain_words 
  exact (s_cons (s_if (t_not (t_val (e_call G_is_plain (hr.mono (by decide)) m_is_plain k_is_plain b_is_plain hx (a_cons (e_var 0 (pv 0)) a_nil) (len_cons len_nil)))) (s_one s_never) s_nil)
      (s_one (s_if (t_not (t_val (e_call G_is_plain (hr.mono (by decide)) m_is_plain k_is_plain b_is_plain hx (a_cons (e_var 1 (pv 1)) a_nil) (len_cons len_nil)))) (s_one s_never) s_nil)))
theorem ok_need_plain_words (KX : K.In h) (GX : h.Ns mainGlobals mg) (C : He.SaysD fa fn K) : DefOk P w K mg base 4 "need_plain_words" ["one", "other"] (f_need_plain_words F) := by
  obtain ⟨fd, FD⟩ := C.def_ 5 (d := d_need_plain_words) rfl
  have bd : Binds K fd ["one", "other"] [] := FunD.bindsN FD fun _ _ _ _ _ _ us hl => match us, hl with | [_, _], _ => rfl
  exact ⟨⟨fd, okf_need_plain_words F KX GX C FD, bd⟩, He.glo_ok KX GX (C.fact 5 (f := .glo "need_plain_words") rfl), FD.kp⟩
theorem sc_ending : FnScope N_ending ["word", "many"] (defScope s_ending) := ⟨rfl, rfl, rfl, by decide +kernel, rfl, by decide +kernel, by decide +kernel⟩
set_option maxHeartbeats 4000000 in
theorem okf_ending (KX : K.In h) (GX : h.Ns mainGlobals mg) (C : He.SaysD fa fn K) {fd : FuncData} (FD : FunD K d_ending.name d_ending.qual d_ending.params d_ending.body d_ending.scope (d_ending.dvs K) (d_ending.kws K) (He.fAd K d_ending.at_) fd) : FnOk P w K mg base (L2.CX P w) 2 (He.ga K "ending") fd ["word", "many"] (spD K 2 (f_ending F)) := by
  have z_len := He.free_ok KX GX (C.fact 25 (f := .free "len") rfl)
  have sc := sc_ending
  refine fn_ok FD sc fun cdv A outer s H E hr => ?_
  have hx := passAt (X := cxOf (L2.CX P w) P w K mg base N_ending "ending" (defScope s_ending) (He.ga K "ending") cdv A outer s H E) (takes_of rfl rfl rfl rfl)
  show PSs _ (defBody s_ending) (LS K _ (c_b_ending F))
  unfold c_b_ending 
  exact (s_one (s_ret (e_slice (e_var 0 (pv 0)) (p_some (e_bin op_sub rd_sub (PE.imp (pe_callB call_len rfl z_len boot_len (a_cons (e_var 0 (pv 0)) a_nil)) (le_cb rd_len)) (e_var 1 (pv 1)))) p_none)))
theorem ok_ending (KX : K.In h) (GX : h.Ns mainGlobals mg) (C : He.SaysD fa fn K) : DefOk P w K mg base 2 "ending" ["word", "many"] (f_ending F) := by
  obtain ⟨fd, FD⟩ := C.def_ 6 (d := d_ending) rfl
  have bd : Binds K fd ["word", "many"] [] := FunD.bindsN FD fun _ _ _ _ _ _ us hl => match us, hl with | [_, _], _ => rfl
  exact ⟨⟨fd, okf_ending F KX GX C FD, bd⟩, He.glo_ok KX GX (C.fact 6 (f := .glo "ending") rfl), FD.kp⟩
theorem sc_alike : FnScope N_alike ["one", "other", "k"] (defScope s_alike) := ⟨rfl, rfl, rfl, by decide +kernel, rfl, by decide +kernel, by decide +kernel⟩
set_option maxHeartbeats 4000000 in
theorem okf_alike (KX : K.In h) (GX : h.Ns mainGlobals mg) (C : He.SaysD fa fn K) {fd : FuncData} (FD : FunD K d_alike.name d_alike.qual d_alike.params d_alike.body d_alike.scope (d_alike.dvs K) (d_alike.kws K) (He.fAd K d_alike.at_) fd) : FnOk P w K mg base (L2.CX P w) 3 (He.ga K "alike") fd ["one", "other", "k"] (spD K 3 (f_alike F)) := by
  obtain ⟨⟨fd_ending, G_ending, b_ending⟩, m_ending, k_ending⟩ := ok_ending (P := P) (w := w) (base := base) F KX GX C
  have z_len := He.free_ok KX GX (C.fact 25 (f := .free "len") rfl)
  have sc := sc_alike
  refine fn_ok FD sc fun cdv A outer s H E hr => ?_
  have hx := passAt (X := cxOf (L2.CX P w) P w K mg base N_alike "alike" (defScope s_alike) (He.ga K "alike") cdv A outer s H E) (takes_of rfl rfl rfl rfl)
  show PSs _ (defBody s_alike) (LS K _ (c_b_alike F))
  unfold c_b_alike 
  exact (s_one (s_ret (e_and (e_cmp op_ge rd_cmp (PE.imp (pe_callB call_len rfl z_len boot_len (a_cons (e_var 0 (pv 0)) a_nil)) (le_cb rd_len)) (e_var 2 (pv 2)) (nomark _)) (e_and (e_cmp op_ge rd_cmp (PE.imp (pe_callB call_len rfl z_len boot_len (a_cons (e_var 1 (pv 1)) a_nil)) (le_cb rd_len)) (e_var 2 (pv 2)) (nomark _)) (pe_one (e_cmp o_eq rd_eqA (e_call G_ending (hr.mono (by decide)) m_ending k_ending b_ending hx (a_cons (e_var 0 (pv 0)) (a_cons (e_var 2 (pv 2)) a_nil)) (len_cons (len_cons len_nil))) (e_call G_ending (hr.mono (by decide)) m_ending k_ending b_ending hx (a_cons (e_var 1 (pv 1)) (a_cons (e_var 2 (pv 2)) a_nil)) (len_cons (len_cons len_nil))) (nomark _)))))))
theorem ok_alike (KX : K.In h) (GX : h.Ns mainGlobals mg) (C : He.SaysD fa fn K) : DefOk P w K mg base 3 "alike" ["one", "other", "k"] (f_alike F) := by
  obtain ⟨fd, FD⟩ := C.def_ 7 (d := d_alike) rfl
  have bd : Binds K fd ["one", "other", "k"] [] := FunD.bindsN FD fun _ _ _ _ _ _ us hl => match us, hl with | [_, _, _], _ => rfl
  exact ⟨⟨fd, okf_alike F KX GX C FD, bd⟩, He.glo_ok KX GX (C.fact 7 (f := .glo "alike") rfl), FD.kp⟩
theorem sc_common_end : FnScope N_common_end ["one", "other"] (defScope s_common_end) := ⟨rfl, rfl, rfl, by decide +kernel, rfl, by decide +kernel, by decide +kernel⟩
set_option maxHeartbeats 4000000 in
theorem okf_common_end (KX : K.In h) (GX : h.Ns mainGlobals mg) (C : He.SaysD fa fn K) {fd : FuncData} (FD : FunD K d_common_end.name d_common_end.qual d_common_end.params d_common_end.body d_common_end.scope (d_common_end.dvs K) (d_common_end.kws K) (He.fAd K d_common_end.at_) fd) : FnOk P w K mg base (L2.CX P w) 5 (He.ga K "common_end") fd ["one", "other"] (spD K 2 (f_common_end F)) := by
  obtain ⟨⟨fd_need_plain_words, G_need_plain_words, b_need_plain_words⟩, m_need_plain_words, k_need_plain_words⟩ := ok_need_plain_words (P := P) (w := w) (base := base) F KX GX C
  obtain ⟨⟨fd_ending, G_ending, b_ending⟩, m_ending, k_ending⟩ := ok_ending (P := P) (w := w) (base := base) F KX GX C
  have z_len := He.free_ok KX GX (C.fact 25 (f := .free "len") rfl)
  have z_min := He.free_ok KX GX (C.fact 27 (f := .free "min") rfl)
  have sc := sc_common_end
  refine fn_ok FD sc fun cdv A outer s H E hr => ?_
  have hx := passAt (X := cxOf (L2.CX P w) P w K mg base N_common_end "common_end" (defScope s_common_end) (He.ga K "common_end") cdv A outer s H E) (takes_of rfl rfl rfl rfl)
  show PSs _ (defBody s_common_end) (LS K _ (c_b_common_end F))
  unfold c_b_common_end B1_common_end W1_common_end
  exact (s_cons (PS.imp (ps_expr (e_call G_need_plain_words (hr.mono (by decide)) m_need_plain_words k_need_plain_words b_need_plain_words hx (a_cons (e_var 0 (pv 0)) (a_cons (e_var 1 (pv 1)) a_nil)) (len_cons (len_cons len_nil)))) le_expr)
      (s_cons (PS.imp (ps_set (i := 2) sc.nd rfl (by first | exact Or.inl rfl | exact Or.inr rfl) e_int) le_set)
      (s_cons (PS.imp (ps_while (passes_of rfl) (PW.pt (t_and (t_cmp o_lt rd_lt (e_var 2 (pv 2)) (PE.imp (pe_callB (call_min2 rfl) rfl z_min (by decide +kernel) (a_cons (PE.imp (pe_callB call_len rfl z_len boot_len (a_cons (e_var 0 (pv 0)) a_nil)) (le_cb rd_len)) (a_cons (PE.imp (pe_callB call_len rfl z_len boot_len (a_cons (e_var 1 (pv 1)) a_nil)) (le_cb rd_len)) a_nil))) (le_cb rd_min)) (nomark _)) (pw_and1 (t_cmp o_eq rd_eqA (e_ix ix_seq rd_ix (e_var 0 (pv 0)) (e_bin op_sub rd_sub (e_bin op_sub rd_sub (PE.imp (pe_callB call_len rfl z_len boot_len (a_cons (e_var 0 (pv 0)) a_nil)) (le_cb rd_len)) (e_var 2 (pv 2))) e_int) (fun _ _ => rfl)) (e_ix ix_seq rd_ix (e_var 1 (pv 1)) (e_bin op_sub rd_sub (e_bin op_sub rd_sub (PE.imp (pe_callB call_len rfl z_len boot_len (a_cons (e_var 1 (pv 1)) a_nil)) (le_cb rd_len)) (e_var 2 (pv 2))) e_int) (fun _ _ => rfl)) (nomark _))))) (s_one (PS.imp (ps_aug (i := 2) sc.nd rfl (by first | exact Or.inl rfl | exact Or.inr rfl) e_int ip_add) le_aug))) (le_while F))
      (s_one (s_ret (e_call G_ending (hr.mono (by decide)) m_ending k_ending b_ending hx (a_cons (e_var 0 (pv 0)) (a_cons (e_var 2 (pv 2)) a_nil)) (len_cons (len_cons len_nil))))))))
theorem ok_common_end (KX : K.In h) (GX : h.Ns mainGlobals mg) (C : He.SaysD fa fn K) : DefOk P w K mg base 5 "common_end" ["one", "other"] (f_common_end F) := by
  obtain ⟨fd, FD⟩ := C.def_ 8 (d := d_common_end) rfl
  have bd : Binds K fd ["one", "other"] [] := FunD.bindsN FD fun _ _ _ _ _ _ us hl => match us, hl with | [_, _], _ => rfl
  exact ⟨⟨fd, okf_common_end F KX GX C FD, bd⟩, He.glo_ok KX GX (C.fact 8 (f := .glo "common_end") rfl), FD.kp⟩
theorem sc_are_alike : FnScope N_are_alike ["one", "other", "k"] (defScope s_are_alike) := ⟨rfl, rfl, rfl, by decide +kernel, rfl, by decide +kernel, by decide +kernel⟩
set_option maxHeartbeats 4000000 in
theorem okf_are_alike (KX : K.In h) (GX : h.Ns mainGlobals mg) (C : He.SaysD fa fn K) {fd : FuncData} (FD : FunD K d_are_alike.name d_are_alike.qual d_are_alike.params d_are_alike.body d_are_alike.scope (d_are_alike.dvs K) (d_are_alike.kws K) (He.fAd K d_are_alike.at_) fd) : FnOk P w K mg base (L2.CX P w) 5 (He.ga K "are_alike") fd ["one", "other", "k"] (spD K 3 (f_are_alike F)) := by
  obtain ⟨⟨fd_need_plain_words, G_need_plain_words, b_need_plain_words⟩, m_need_plain_words, k_need_plain_words⟩ := ok_need_plain_words (P := P) (w := w) (base := base) F KX GX C
  obtain ⟨⟨fd_need_look, G_need_look, b_need_look⟩, m_need_look, k_need_look⟩ := ok_need_look (P := P) (w := w) (base := base) F KX GX C
  obtain ⟨⟨fd_alike, G_alike, b_alike⟩, m_alike, k_alike⟩ := ok_alike (P := P) (w := w) (base := base) F KX GX C
  have sc := sc_are_alike
  refine fn_ok FD sc fun cdv A outer s H E hr => ?_
  have hx := passAt (X := cxOf (L2.CX P w) P w K mg base N_are_alike "are_alike" (defScope s_are_alike) (He.ga K "are_alike") cdv A outer s H E) (takes_of rfl rfl rfl rfl)
  show PSs _ (defBody s_are_alike) (LS K _ (c_b_are_alike F))
  unfold c_b_are_alike 
  exact (s_cons (PS.imp (ps_expr (e_call G_need_plain_words (hr.mono (by decide)) m_need_plain_words k_need_plain_words b_need_plain_words hx (a_cons (e_var 0 (pv 0)) (a_cons (e_var 1 (pv 1)) a_nil)) (len_cons (len_cons len_nil)))) le_expr)
      (s_cons (PS.imp (ps_expr (e_call G_need_look (hr.mono (by decide)) m_need_look k_need_look b_need_look hx (a_cons (e_var 2 (pv 2)) a_nil) (len_cons len_nil))) le_expr)
      (s_one (s_ret (e_call G_alike (hr.mono (by decide)) m_alike k_alike b_alike hx (a_cons (e_var 0 (pv 0)) (a_cons (e_var 1 (pv 1)) (a_cons (e_var 2 (pv 2)) a_nil))) (len_cons (len_cons (len_cons len_nil))))))))
theorem ok_are_alike (KX : K.In h) (GX : h.Ns mainGlobals mg) (C : He.SaysD fa fn K) : DefOk P w K mg base 5 "are_alike" ["one", "other", "k"] (f_are_alike F) := by
  obtain ⟨fd, FD⟩ := C.def_ 9 (d := d_are_alike) rfl
  have bd : Binds K fd ["one", "other", "k"] [] := FunD.bindsN FD fun _ _ _ _ _ _ us hl => match us, hl with | [_, _, _], _ => rfl
  exact ⟨⟨fd, okf_are_alike F KX GX C FD, bd⟩, He.glo_ok KX GX (C.fact 9 (f := .glo "are_alike") rfl), FD.kp⟩
theorem sc_law_stream : FnScope N_law_stream ["script"] (defScope s_law_stream) := ⟨rfl, rfl, rfl, by decide +kernel, rfl, by decide +kernel, by decide +kernel⟩
set_option maxHeartbeats 4000000 in
theorem okf_law_stream (KX : K.In h) (GX : h.Ns mainGlobals mg) (C : He.SaysD fa fn K) {fd : FuncData} (FD : FunD K d_law_stream.name d_law_stream.qual d_law_stream.params d_law_stream.body d_law_stream.scope (d_law_stream.dvs K) (d_law_stream.kws K) (He.fAd K d_law_stream.at_) fd) : FnOk P w K mg base (L2.CX P w) 2 (He.ga K "_law_stream") fd ["script"] (spD K 1 (f_law_stream F)) := by
  have z_list := He.free_ok KX GX (C.fact 26 (f := .free "list") rfl)
  have sc := sc_law_stream
  refine fn_ok FD sc fun cdv A outer s H E hr => ?_
  have hx := passAt (X := cxOf (L2.CX P w) P w K mg base N_law_stream "_law_stream" (defScope s_law_stream) (He.ga K "_law_stream") cdv A outer s H E) (takes_of rfl rfl rfl rfl)
  show PSs _ (defBody s_law_stream) (LS K _ (c_b_law_stream F))
  unfold c_b_law_stream 
  exact (s_one (s_ret (e_lst (a_cons (PE.imp (pe_callTy call_list_of rfl z_list (by decide +kernel) (a_cons (e_var 0 (pv 0)) a_nil)) (le_cb rd_list)) (a_cons e_int (a_cons e_int a_nil))))))
theorem ok_law_stream (KX : K.In h) (GX : h.Ns mainGlobals mg) (C : He.SaysD fa fn K) : DefOk P w K mg base 2 "_law_stream" ["script"] (f_law_stream F) := by
  obtain ⟨fd, FD⟩ := C.def_ 10 (d := d_law_stream) rfl
  have bd : Binds K fd ["script"] [] := FunD.bindsN FD fun _ _ _ _ _ _ us hl => match us, hl with | [_], _ => rfl
  exact ⟨⟨fd, okf_law_stream F KX GX C FD, bd⟩, He.glo_ok KX GX (C.fact 10 (f := .glo "_law_stream") rfl), FD.kp⟩
theorem sc_law_next : FnScope N_law_next ["stream", "many"] (defScope s_law_next) := ⟨rfl, rfl, rfl, by decide +kernel, rfl, by decide +kernel, by decide +kernel⟩
set_option maxHeartbeats 4000000 in
theorem okf_law_next (KX : K.In h) (GX : h.Ns mainGlobals mg) (C : He.SaysD fa fn K) {fd : FuncData} (FD : FunD K d_law_next.name d_law_next.qual d_law_next.params d_law_next.body d_law_next.scope (d_law_next.dvs K) (d_law_next.kws K) (He.fAd K d_law_next.at_) fd) : FnOk P w K mg base (L2.CX P w) 2 (He.ga K "_law_next") fd ["stream", "many"] (spD K 2 (f_law_next F)) := by
  have z_abs := He.free_ok KX GX (C.fact 21 (f := .free "abs") rfl)
  have z_int := He.free_ok KX GX (C.fact 23 (f := .free "int") rfl)
  have z_len := He.free_ok KX GX (C.fact 25 (f := .free "len") rfl)
  have sc := sc_law_next
  refine fn_ok FD sc fun cdv A outer s H E hr => ?_
  have hx := passAt (X := cxOf (L2.CX P w) P w K mg base N_law_next "_law_next" (defScope s_law_next) (He.ga K "_law_next") cdv A outer s H E) (takes_of rfl rfl rfl rfl)
  show PSs _ (defBody s_law_next) (LS K _ (c_b_law_next F))
  unfold c_b_law_next 
  exact (s_cons (s_if (t_cmp o_eq rd_eqA (e_ix ix_seq rd_ix (e_var 0 (pv 0)) e_int (fun _ _ => rfl)) e_int (nomark _)) (s_cons (PS.imp (ps_set (i := 3) sc.nd rfl (by first | exact Or.inl rfl | exact Or.inr rfl) (e_ix ix_seq rd_ix (e_var 0 (pv 0)) e_int (fun _ _ => rfl))) le_set)
      (s_cons (PS.imp (ps_set (i := 4) sc.nd rfl (by first | exact Or.inl rfl | exact Or.inr rfl) (e_bin o_add rd_add e_int (e_var 3 (pv 3)))) le_set)
      (s_cons (s_if (t_cmp o_lt rd_lt (e_var 3 (pv 3)) (PE.imp (pe_callB call_len rfl z_len boot_len (a_cons (e_ix ix_seq rd_ix (e_var 0 (pv 0)) e_int (fun _ _ => rfl)) a_nil)) (le_cb rd_len)) (nomark _)) (s_one (PS.imp (ps_set (i := 4) sc.nd rfl (by first | exact Or.inl rfl | exact Or.inr rfl) (PE.imp (pe_callB call_abs rfl z_abs (by decide +kernel) (a_cons (e_ix ix_seq rd_ix (e_ix ix_seq rd_ix (e_var 0 (pv 0)) e_int (fun _ _ => rfl)) (e_var 3 (pv 3)) (fun _ _ => rfl)) a_nil)) (le_cb rd_abs))) le_set)) s_nil)
      (s_cons (s_if (t_cmp o_lt rd_lt (e_var 4 (pv 4)) (e_bin op_pow rd_int e_int e_int) (nomark _)) (s_cons (PS.imp (ps_set (i := 4) sc.nd rfl (by first | exact Or.inl rfl | exact Or.inr rfl) (e_bin op_modN rd_int (PE.imp (pe_callTy call_int1 rfl z_int (by decide +kernel) (a_cons (e_bin o_add rd_add (e_bin o_add rd_add (e_bin o_mulA rd_mulA (e_var 4 (pv 4)) e_int) (e_bin o_mulA rd_mulA (e_var 3 (pv 3)) e_int)) e_int) a_nil)) (le_cb rd_intC)) e_int)) le_set)
      (s_one (PS.imp (ps_set (i := 4) sc.nd rfl (by first | exact Or.inl rfl | exact Or.inr rfl) (e_bin o_add rd_add (e_bin o_mulA rd_mulA (e_bin op_modN rd_int (PE.imp (pe_callTy call_int1 rfl z_int (by decide +kernel) (a_cons (e_bin o_add rd_add (e_bin o_mulA rd_mulA (e_var 4 (pv 4)) e_int) e_int) a_nil)) (le_cb rd_intC)) e_int) e_int) (e_var 4 (pv 4)))) le_set))) s_nil)
      (s_cons (PS.imp (ps_asg (e_var 4 (pv 4)) (pg_sub (e_var 0 (pv 0)) e_int set_list)) le_setIt)
      (s_one (PS.imp (ps_asg (e_bin o_add rd_add (e_var 3 (pv 3)) e_int) (pg_sub (e_var 0 (pv 0)) e_int set_list)) le_setIt))))))) s_nil)
      (s_cons (PS.imp (ps_set (i := 2) sc.nd rfl (by first | exact Or.inl rfl | exact Or.inr rfl) (e_bin op_modN rd_int (PE.imp (pe_callTy call_int1 rfl z_int (by decide +kernel) (a_cons (e_ix ix_seq rd_ix (e_var 0 (pv 0)) e_int (fun _ _ => rfl)) a_nil)) (le_cb rd_intC)) (e_var 1 (pv 1)))) le_set)
      (s_cons (PS.imp (ps_asg (e_bin op_fdivN rd_int (e_ix ix_seq rd_ix (e_var 0 (pv 0)) e_int (fun _ _ => rfl)) (e_var 1 (pv 1))) (pg_sub (e_var 0 (pv 0)) e_int set_list)) le_setIt)
      (s_one (s_ret (e_var 2 (pv 2)))))))
theorem ok_law_next (KX : K.In h) (GX : h.Ns mainGlobals mg) (C : He.SaysD fa fn K) : DefOk P w K mg base 2 "_law_next" ["stream", "many"] (f_law_next F) := by
  obtain ⟨fd, FD⟩ := C.def_ 11 (d := d_law_next) rfl
  have bd : Binds K fd ["stream", "many"] [] := FunD.bindsN FD fun _ _ _ _ _ _ us hl => match us, hl with | [_, _], _ => rfl
  exact ⟨⟨fd, okf_law_next F KX GX C FD, bd⟩, He.glo_ok KX GX (C.fact 11 (f := .glo "_law_next") rfl), FD.kp⟩
theorem sc_law_pick : FnScope N_law_pick ["stream", "rows"] (defScope s_law_pick) := ⟨rfl, rfl, rfl, by decide +kernel, rfl, by decide +kernel, by decide +kernel⟩
set_option maxHeartbeats 4000000 in
theorem okf_law_pick (KX : K.In h) (GX : h.Ns mainGlobals mg) (C : He.SaysD fa fn K) {fd : FuncData} (FD : FunD K d_law_pick.name d_law_pick.qual d_law_pick.params d_law_pick.body d_law_pick.scope (d_law_pick.dvs K) (d_law_pick.kws K) (He.fAd K d_law_pick.at_) fd) : FnOk P w K mg base (L2.CX P w) 3 (He.ga K "_law_pick") fd ["stream", "rows"] (spD K 2 (f_law_pick F)) := by
  obtain ⟨⟨fd_law_next, G_law_next, b_law_next⟩, m_law_next, k_law_next⟩ := ok_law_next (P := P) (w := w) (base := base) F KX GX C
  have z_len := He.free_ok KX GX (C.fact 25 (f := .free "len") rfl)
  have sc := sc_law_pick
  refine fn_ok FD sc fun cdv A outer s H E hr => ?_
  have hx := passAt (X := cxOf (L2.CX P w) P w K mg base N_law_pick "_law_pick" (defScope s_law_pick) (He.ga K "_law_pick") cdv A outer s H E) (takes_of rfl rfl rfl rfl)
  show PSs _ (defBody s_law_pick) (LS K _ (c_b_law_pick F))
  unfold c_b_law_pick 
  exact (s_one (s_ret (e_ix ix_seq rd_ix (e_var 1 (pv 1)) (e_call G_law_next (hr.mono (by decide)) m_law_next k_law_next b_law_next hx (a_cons (e_var 0 (pv 0)) (a_cons (PE.imp (pe_callB call_len rfl z_len boot_len (a_cons (e_var 1 (pv 1)) a_nil)) (le_cb rd_len)) a_nil)) (len_cons (len_cons len_nil))) (fun _ _ => rfl))))
theorem ok_law_pick (KX : K.In h) (GX : h.Ns mainGlobals mg) (C : He.SaysD fa fn K) : DefOk P w K mg base 3 "_law_pick" ["stream", "rows"] (f_law_pick F) := by
  obtain ⟨fd, FD⟩ := C.def_ 12 (d := d_law_pick) rfl
  have bd : Binds K fd ["stream", "rows"] [] := FunD.bindsN FD fun _ _ _ _ _ _ us hl => match us, hl with | [_, _], _ => rfl
  exact ⟨⟨fd, okf_law_pick F KX GX C FD, bd⟩, He.glo_ok KX GX (C.fact 12 (f := .glo "_law_pick") rfl), FD.kp⟩
theorem sc_law_word : FnScope N_law_word ["stream", "letters", "least", "most"] (defScope s_law_word) := ⟨rfl, rfl, rfl, by decide +kernel, rfl, by decide +kernel, by decide +kernel⟩
set_option maxHeartbeats 4000000 in
theorem okf_law_word (KX : K.In h) (GX : h.Ns mainGlobals mg) (C : He.SaysD fa fn K) {fd : FuncData} (FD : FunD K d_law_word.name d_law_word.qual d_law_word.params d_law_word.body d_law_word.scope (d_law_word.dvs K) (d_law_word.kws K) (He.fAd K d_law_word.at_) fd) : FnOk P w K mg base (L2.CX P w) 3 (He.ga K "_law_word") fd ["stream", "letters", "least", "most"] (spD K 4 (f_law_word F)) := by
  obtain ⟨⟨fd_law_next, G_law_next, b_law_next⟩, m_law_next, k_law_next⟩ := ok_law_next (P := P) (w := w) (base := base) F KX GX C
  have z_len := He.free_ok KX GX (C.fact 25 (f := .free "len") rfl)
  have z_range := He.free_ok KX GX (C.fact 28 (f := .free "range") rfl)
  have sc := sc_law_word
  refine fn_ok FD sc fun cdv A outer s H E hr => ?_
  have hx := passAt (X := cxOf (L2.CX P w) P w K mg base N_law_word "_law_word" (defScope s_law_word) (He.ga K "_law_word") cdv A outer s H E) (takes_of rfl rfl rfl rfl)
  show PSs _ (defBody s_law_word) (LS K _ (c_b_law_word F))
  unfold c_b_law_word B1_law_word
  exact (s_cons (PS.imp (ps_set (i := 4) sc.nd rfl (by first | exact Or.inl rfl | exact Or.inr rfl) e_str) le_set)
      (s_cons (PS.imp (ps_for (passes_of rfl) rfl (pi_range1 rfl z_range (a_cons (e_bin o_add rd_add (e_var 2 (pv 2)) (e_call G_law_next (hr.mono (by decide)) m_law_next k_law_next b_law_next hx (a_cons (e_var 0 (pv 0)) (a_cons (e_bin o_add rd_add (e_bin op_sub rd_sub (e_var 3 (pv 3)) (e_var 2 (pv 2))) e_int) a_nil)) (len_cons (len_cons len_nil)))) a_nil)) (pg_name (i := 5) sc.nd rfl (by first | exact Or.inl rfl | exact Or.inr rfl)) (s_one (PS.imp (ps_set (i := 4) sc.nd rfl (by first | exact Or.inl rfl | exact Or.inr rfl) (e_bin o_add rd_add (e_var 4 (pv 4)) (e_ix ix_seq rd_ix (e_var 1 (pv 1)) (e_call G_law_next (hr.mono (by decide)) m_law_next k_law_next b_law_next hx (a_cons (e_var 0 (pv 0)) (a_cons (PE.imp (pe_callB call_len rfl z_len boot_len (a_cons (e_var 1 (pv 1)) a_nil)) (le_cb rd_len)) a_nil)) (len_cons (len_cons len_nil))) (fun _ _ => rfl)))) le_set))) (le_forR1 (gd_name 5)))
      (s_one (s_ret (e_var 4 (pv 4))))))
theorem ok_law_word (KX : K.In h) (GX : h.Ns mainGlobals mg) (C : He.SaysD fa fn K) : DefOk P w K mg base 3 "_law_word" ["stream", "letters", "least", "most"] (f_law_word F) := by
  obtain ⟨fd, FD⟩ := C.def_ 13 (d := d_law_word) rfl
  have bd : Binds K fd ["stream", "letters", "least", "most"] [] := FunD.bindsN FD fun _ _ _ _ _ _ us hl => match us, hl with | [_, _, _, _], _ => rfl
  exact ⟨⟨fd, okf_law_word F KX GX C FD, bd⟩, He.glo_ok KX GX (C.fact 13 (f := .glo "_law_word") rfl), FD.kp⟩
theorem sc_law_says : FnScope N_law_says ["actual", "due"] (defScope s_law_says) := ⟨rfl, rfl, rfl, by decide +kernel, rfl, by decide +kernel, by decide +kernel⟩
set_option maxHeartbeats 4000000 in
theorem okf_law_says (KX : K.In h) (GX : h.Ns mainGlobals mg) (C : He.SaysD fa fn K) {fd : FuncData} (FD : FunD K d_law_says.name d_law_says.qual d_law_says.params d_law_says.body d_law_says.scope (d_law_says.dvs K) (d_law_says.kws K) (He.fAd K d_law_says.at_) fd) : FnOk P w K mg base (L2.CX P w) 2 (He.ga K "_law_says") fd ["actual", "due"] (spD K 2 (f_law_says F)) := by
  have sc := sc_law_says
  refine fn_ok FD sc fun cdv A outer s H E hr => ?_
  have hx := passAt (X := cxOf (L2.CX P w) P w K mg base N_law_says "_law_says" (defScope s_law_says) (He.ga K "_law_says") cdv A outer s H E) (takes_of rfl rfl rfl rfl)
  show PSs _ (defBody s_law_says) (LS K _ (c_b_law_says F))
  unfold c_b_law_says 
  exact (s_one (s_ret (e_if (t_val (e_var 1 (pv 1))) (e_cmp o_is rd_is (e_var 0 (pv 0)) e_bl (nomark _)) (e_cmp o_is rd_is (e_var 0 (pv 0)) e_bl (nomark _)))))
theorem ok_law_says (KX : K.In h) (GX : h.Ns mainGlobals mg) (C : He.SaysD fa fn K) : DefOk P w K mg base 2 "_law_says" ["actual", "due"] (f_law_says F) := by
  obtain ⟨fd, FD⟩ := C.def_ 14 (d := d_law_says) rfl
  have bd : Binds K fd ["actual", "due"] [] := FunD.bindsN FD fun _ _ _ _ _ _ us hl => match us, hl with | [_, _], _ => rfl
  exact ⟨⟨fd, okf_law_says F KX GX C FD, bd⟩, He.glo_ok KX GX (C.fact 14 (f := .glo "_law_says") rfl), FD.kp⟩
theorem sc_law_same : FnScope N_law_same ["actual", "due"] (defScope s_law_same) := ⟨rfl, rfl, rfl, by decide +kernel, rfl, by decide +kernel, by decide +kernel⟩
set_option maxHeartbeats 4000000 in
theorem okf_law_same (KX : K.In h) (GX : h.Ns mainGlobals mg) (C : He.SaysD fa fn K) {fd : FuncData} (FD : FunD K d_law_same.name d_law_same.qual d_law_same.params d_law_same.body d_law_same.scope (d_law_same.dvs K) (d_law_same.kws K) (He.fAd K d_law_same.at_) fd) : FnOk P w K mg base (L2.CX P w) 2 (He.ga K "_law_same") fd ["actual", "due"] (spD K 2 (f_law_same F)) := by
  have z_bool := He.free_ok KX GX (C.fact 22 (f := .free "bool") rfl)
  have z_int := He.free_ok KX GX (C.fact 23 (f := .free "int") rfl)
  have z_isinstance := He.free_ok KX GX (C.fact 24 (f := .free "isinstance") rfl)
  have z_len := He.free_ok KX GX (C.fact 25 (f := .free "len") rfl)
  have z_list := He.free_ok KX GX (C.fact 26 (f := .free "list") rfl)
  have z_range := He.free_ok KX GX (C.fact 28 (f := .free "range") rfl)
  have z_str := He.free_ok KX GX (C.fact 30 (f := .free "str") rfl)
  have z_tuple := He.free_ok KX GX (C.fact 31 (f := .free "tuple") rfl)
  have sc := sc_law_same
  refine fn_ok FD sc fun cdv A outer s H E hr => ?_
  have hx := passAt (X := cxOf (L2.CX P w) P w K mg base N_law_same "_law_same" (defScope s_law_same) (He.ga K "_law_same") cdv A outer s H E) (takes_of rfl rfl rfl rfl)
  show PSs _ (defBody s_law_same) (LS K _ (c_b_law_same F))
  unfold c_b_law_same B1_law_same C1_law_same
  exact (s_cons (PS.imp (ps_set (i := 2) sc.nd rfl (by first | exact Or.inl rfl | exact Or.inr rfl) (e_lst (a_cons (e_tup (a_cons (e_var 0 (pv 0)) (a_cons (e_var 1 (pv 1)) a_nil))) a_nil))) le_set)
      (s_cons (PS.imp (ps_for (passes_of rfl) rfl (pi_range1 rfl z_range (a_cons e_int a_nil)) (pg_name (i := 3) sc.nd rfl (by first | exact Or.inl rfl | exact Or.inr rfl)) (s_cons (s_if (t_cmp o_eq rd_eqA (PE.imp (pe_callB call_len rfl z_len boot_len (a_cons (e_var 2 (pv 2)) a_nil)) (le_cb rd_len)) e_int (nomark _)) (s_one (s_ret e_bl)) s_nil)
      (s_cons (PS.imp (ps_asg (PE.imp (pe_bm0 PySem.F.plainAttrs_list PySem.F.slot_list_pop PySem.F.type_list_pop mt_pop (e_var 2 (pv 2))) (le_bm0 rd_pop)) (pg_tup rfl (pgs_cons (pg_name (i := 4) sc.nd rfl (by first | exact Or.inl rfl | exact Or.inr rfl)) (pgs_cons (pg_name (i := 5) sc.nd rfl (by first | exact Or.inl rfl | exact Or.inr rfl)) pgs_nil)))) (le_asgG (gd_tup (gds_cons 4 (gds_cons 5 gds_nil)))))
      (s_one (s_if (PW.pt (t_or (t_val (PE.imp (pe_callB call_isi rfl z_isinstance (by decide +kernel) (a_cons (e_var 5 (pv 5)) (a_cons (e_con (d := .ty "tuple") (pe_bltn (v := .ty "tuple") rfl z_tuple (by decide +kernel) rfl) fun _ _ => rfl) a_nil))) (le_cb rd_isi))) (pw_or1 (t_val (PE.imp (pe_callB call_isi rfl z_isinstance (by decide +kernel) (a_cons (e_var 5 (pv 5)) (a_cons (e_con (d := .ty "list") (pe_bltn (v := .ty "list") rfl z_list (by decide +kernel) rfl) fun _ _ => rfl) a_nil))) (le_cb rd_isi)))))) (s_cons (s_if (PW.pt (t_or (t_cmp op_ne rd_ne (PE.imp (pe_callB call_isi rfl z_isinstance (by decide +kernel) (a_cons (e_var 5 (pv 5)) (a_cons (e_con (d := .ty "tuple") (pe_bltn (v := .ty "tuple") rfl z_tuple (by decide +kernel) rfl) fun _ _ => rfl) a_nil))) (le_cb rd_isi)) (PE.imp (pe_callB call_isi rfl z_isinstance (by decide +kernel) (a_cons (e_var 4 (pv 4)) (a_cons (e_con (d := .ty "tuple") (pe_bltn (v := .ty "tuple") rfl z_tuple (by decide +kernel) rfl) fun _ _ => rfl) a_nil))) (le_cb rd_isi)) (nomark _)) (pw_or1 (t_cmp op_ne rd_ne (PE.imp (pe_callB call_isi rfl z_isinstance (by decide +kernel) (a_cons (e_var 5 (pv 5)) (a_cons (e_con (d := .ty "list") (pe_bltn (v := .ty "list") rfl z_list (by decide +kernel) rfl) fun _ _ => rfl) a_nil))) (le_cb rd_isi)) (PE.imp (pe_callB call_isi rfl z_isinstance (by decide +kernel) (a_cons (e_var 4 (pv 4)) (a_cons (e_con (d := .ty "list") (pe_bltn (v := .ty "list") rfl z_list (by decide +kernel) rfl) fun _ _ => rfl) a_nil))) (le_cb rd_isi)) (nomark _))))) (s_one (s_ret e_bl)) s_nil)
      (s_cons (s_if (t_cmp op_ne rd_ne (PE.imp (pe_callB call_len rfl z_len boot_len (a_cons (e_var 4 (pv 4)) a_nil)) (le_cb rd_len)) (PE.imp (pe_callB call_len rfl z_len boot_len (a_cons (e_var 5 (pv 5)) a_nil)) (le_cb rd_len)) (nomark _)) (s_one (s_ret e_bl)) s_nil)
      (s_one (PS.imp (ps_expr (PE.imp (pe_bm PySem.F.plainAttrs_list PySem.F.slot_list_extend PySem.F.type_list_extend mt_extend (e_var 2 (pv 2)) (a_cons (PE.imp (pe_lc (own := [("at", 6)]) (tt := LT _ WF mYes) (te := LE _ WF (mTup (mCons (mBin ixD (mVar 4) (mVar 6)) (mCons (mBin ixD (mVar 5) (mVar 6)) mNil)))) rfl sc.nd (pi_range1 rfl z_range (a_cons (PE.imp (pe_callB call_len rfl z_len boot_len (a_cons (e_var 5 (pv 5)) a_nil)) (le_cb rd_len)) a_nil)) (blkOk_by (own := [("at", 6)]) (N := N_law_same) (sc := defScope s_law_same) (by decide +kernel)) (fun _ _ _ _ _ => (pg_name (i := 6) sc.nd rfl (by first | exact Or.inl rfl | exact Or.inr rfl))) (fun _ _ _ _ _ => ts_nil (X := _) (W := WF)) (fun _ _ _ _ _ => (e_tup (a_cons (e_ix ix_seq rd_ix (e_var 4 (pv 4)) (e_var 6 (pv 6)) (fun _ _ => rfl)) (a_cons (e_ix ix_seq rd_ix (e_var 5 (pv 5)) (e_var 6 (pv 6)) (fun _ _ => rfl)) a_nil))))) (le_lcR1 (gd_name 6) (gw_name 6) (fun _ _ _ h => h))) a_nil)) (le_bm rd_extend))) le_expr)))) (s_one (s_if (t_val (PE.imp (pe_callB call_isi rfl z_isinstance (by decide +kernel) (a_cons (e_var 5 (pv 5)) (a_cons (e_con (d := .ty "bool") (pe_bltn (v := .ty "bool") rfl z_bool (by decide +kernel) rfl) fun _ _ => rfl) a_nil))) (le_cb rd_isi))) (s_one (s_if (PW.pt (t_or (t_not (t_val (PE.imp (pe_callB call_isi rfl z_isinstance (by decide +kernel) (a_cons (e_var 4 (pv 4)) (a_cons (e_con (d := .ty "bool") (pe_bltn (v := .ty "bool") rfl z_bool (by decide +kernel) rfl) fun _ _ => rfl) a_nil))) (le_cb rd_isi)))) (pw_or1 (t_cmp op_ne rd_ne (e_var 4 (pv 4)) (e_var 5 (pv 5)) (nomark _))))) (s_one (s_ret e_bl)) s_nil)) (s_one (s_if (t_val (PE.imp (pe_callB call_isi rfl z_isinstance (by decide +kernel) (a_cons (e_var 5 (pv 5)) (a_cons (e_con (d := .ty "int") (pe_bltn (v := .ty "int") rfl z_int (by decide +kernel) rfl) fun _ _ => rfl) a_nil))) (le_cb rd_isi))) (s_one (s_if (PW.pt (t_or (t_not (t_val (PE.imp (pe_callB call_isi rfl z_isinstance (by decide +kernel) (a_cons (e_var 4 (pv 4)) (a_cons (e_con (d := .ty "int") (pe_bltn (v := .ty "int") rfl z_int (by decide +kernel) rfl) fun _ _ => rfl) a_nil))) (le_cb rd_isi)))) (t_or (t_val (PE.imp (pe_callB call_isi rfl z_isinstance (by decide +kernel) (a_cons (e_var 4 (pv 4)) (a_cons (e_con (d := .ty "bool") (pe_bltn (v := .ty "bool") rfl z_bool (by decide +kernel) rfl) fun _ _ => rfl) a_nil))) (le_cb rd_isi))) (pw_or1 (t_cmp op_ne rd_ne (e_var 4 (pv 4)) (e_var 5 (pv 5)) (nomark _)))))) (s_one (s_ret e_bl)) s_nil)) (s_one (s_if (t_val (PE.imp (pe_callB call_isi rfl z_isinstance (by decide +kernel) (a_cons (e_var 5 (pv 5)) (a_cons (e_con (d := .ty "str") (pe_bltn (v := .ty "str") rfl z_str (by decide +kernel) rfl) fun _ _ => rfl) a_nil))) (le_cb rd_isi))) (s_one (s_if (PW.pt (t_or (t_not (t_val (PE.imp (pe_callB call_isi rfl z_isinstance (by decide +kernel) (a_cons (e_var 4 (pv 4)) (a_cons (e_con (d := .ty "str") (pe_bltn (v := .ty "str") rfl z_str (by decide +kernel) rfl) fun _ _ => rfl) a_nil))) (le_cb rd_isi)))) (pw_or1 (t_cmp op_ne rd_ne (e_var 4 (pv 4)) (e_var 5 (pv 5)) (nomark _))))) (s_one (s_ret e_bl)) s_nil)) (s_one (s_if (t_cmp o_isnot rd_isnot (e_var 4 (pv 4)) e_non (nomark _)) (s_one (s_ret e_bl)) s_nil))))))))))))) (le_forR1 (gd_name 3)))
      (s_one (s_ret e_bl))))
theorem ok_law_same (KX : K.In h) (GX : h.Ns mainGlobals mg) (C : He.SaysD fa fn K) : DefOk P w K mg base 2 "_law_same" ["actual", "due"] (f_law_same F) := by
  obtain ⟨fd, FD⟩ := C.def_ 15 (d := d_law_same) rfl
  have bd : Binds K fd ["actual", "due"] [] := FunD.bindsN FD fun _ _ _ _ _ _ us hl => match us, hl with | [_, _], _ => rfl
  exact ⟨⟨fd, okf_law_same F KX GX C FD, bd⟩, He.glo_ok KX GX (C.fact 15 (f := .glo "_law_same") rfl), FD.kp⟩
theorem sc_law_some : FnScope N_law_some ["stream"] (defScope s_law_some) := ⟨rfl, rfl, rfl, by decide +kernel, rfl, by decide +kernel, by decide +kernel⟩
set_option maxHeartbeats 4000000 in
theorem okf_law_some (KX : K.In h) (GX : h.Ns mainGlobals mg) (C : He.SaysD fa fn K) {fd : FuncData} (FD : FunD K d_law_some.name d_law_some.qual d_law_some.params d_law_some.body d_law_some.scope (d_law_some.dvs K) (d_law_some.kws K) (He.fAd K d_law_some.at_) fd) : FnOk P w K mg base (L2.CX P w) 4 (He.ga K "_law_some") fd ["stream"] (spD K 1 (f_law_some F)) := by
  obtain ⟨⟨fd_law_next, G_law_next, b_law_next⟩, m_law_next, k_law_next⟩ := ok_law_next (P := P) (w := w) (base := base) F KX GX C
  obtain ⟨⟨fd_law_word, G_law_word, b_law_word⟩, m_law_word, k_law_word⟩ := ok_law_word (P := P) (w := w) (base := base) F KX GX C
  have sc := sc_law_some
  refine fn_ok FD sc fun cdv A outer s H E hr => ?_
  have hx := passAt (X := cxOf (L2.CX P w) P w K mg base N_law_some "_law_some" (defScope s_law_some) (He.ga K "_law_some") cdv A outer s H E) (takes_of rfl rfl rfl rfl)
  show PSs _ (defBody s_law_some) (LS K _ (c_b_law_some F))
  unfold c_b_law_some 
  exact (s_cons (PS.imp (ps_set (i := 1) sc.nd rfl (by first | exact Or.inl rfl | exact Or.inr rfl) (e_slice (e_slice e_str (p_some (e_call G_law_next (hr.mono (by decide)) m_law_next k_law_next b_law_next hx (a_cons (e_var 0 (pv 0)) (a_cons e_int a_nil)) (len_cons (len_cons len_nil)))) p_none) p_none (p_some (e_bin o_add rd_add e_int (e_call G_law_next (hr.mono (by decide)) m_law_next k_law_next b_law_next hx (a_cons (e_var 0 (pv 0)) (a_cons e_int a_nil)) (len_cons (len_cons len_nil))))))) le_set)
      (s_cons (PS.imp (ps_set (i := 2) sc.nd rfl (by first | exact Or.inl rfl | exact Or.inr rfl) (e_call G_law_word (hr.mono (by decide)) m_law_word k_law_word b_law_word hx (a_cons (e_var 0 (pv 0)) (a_cons (e_var 1 (pv 1)) (a_cons e_int (a_cons e_int a_nil)))) (len_cons (len_cons (len_cons (len_cons len_nil)))))) le_set)
      (s_cons (s_if (t_cmp o_eq rd_eqA (e_call G_law_next (hr.mono (by decide)) m_law_next k_law_next b_law_next hx (a_cons (e_var 0 (pv 0)) (a_cons e_int a_nil)) (len_cons (len_cons len_nil))) e_int (nomark _)) (s_one (PS.imp (ps_set (i := 2) sc.nd rfl (by first | exact Or.inl rfl | exact Or.inr rfl) (e_slice (e_bin o_mulA rd_mulA (e_bin o_add rd_add (e_var 2 (pv 2)) (e_ix ix_seq rd_ix (e_var 1 (pv 1)) e_int (fun _ _ => rfl))) e_int) p_none (p_some (e_bin o_add rd_add e_int (e_call G_law_next (hr.mono (by decide)) m_law_next k_law_next b_law_next hx (a_cons (e_var 0 (pv 0)) (a_cons e_int a_nil)) (len_cons (len_cons len_nil))))))) le_set)) s_nil)
      (s_one (s_ret (e_lst (a_cons (e_var 1 (pv 1)) (a_cons (e_var 2 (pv 2)) a_nil))))))))
theorem ok_law_some (KX : K.In h) (GX : h.Ns mainGlobals mg) (C : He.SaysD fa fn K) : DefOk P w K mg base 4 "_law_some" ["stream"] (f_law_some F) := by
  obtain ⟨fd, FD⟩ := C.def_ 16 (d := d_law_some) rfl
  have bd : Binds K fd ["stream"] [] := FunD.bindsN FD fun _ _ _ _ _ _ us hl => match us, hl with | [_], _ => rfl
  exact ⟨⟨fd, okf_law_some F KX GX C FD, bd⟩, He.glo_ok KX GX (C.fact 16 (f := .glo "_law_some") rfl), FD.kp⟩
theorem sc_law_with : FnScope N_law_with ["stream", "letters", "ending_v"] (defScope s_law_with) := ⟨rfl, rfl, rfl, by decide +kernel, rfl, by decide +kernel, by decide +kernel⟩
set_option maxHeartbeats 4000000 in
theorem okf_law_with (KX : K.In h) (GX : h.Ns mainGlobals mg) (C : He.SaysD fa fn K) {fd : FuncData} (FD : FunD K d_law_with.name d_law_with.qual d_law_with.params d_law_with.body d_law_with.scope (d_law_with.dvs K) (d_law_with.kws K) (He.fAd K d_law_with.at_) fd) : FnOk P w K mg base (L2.CX P w) 4 (He.ga K "_law_with") fd ["stream", "letters", "ending_v"] (spD K 3 (f_law_with F)) := by
  obtain ⟨⟨fd_law_next, G_law_next, b_law_next⟩, m_law_next, k_law_next⟩ := ok_law_next (P := P) (w := w) (base := base) F KX GX C
  obtain ⟨⟨fd_law_word, G_law_word, b_law_word⟩, m_law_word, k_law_word⟩ := ok_law_word (P := P) (w := w) (base := base) F KX GX C
  have z_len := He.free_ok KX GX (C.fact 25 (f := .free "len") rfl)
  have sc := sc_law_with
  refine fn_ok FD sc fun cdv A outer s H E hr => ?_
  have hx := passAt (X := cxOf (L2.CX P w) P w K mg base N_law_with "_law_with" (defScope s_law_with) (He.ga K "_law_with") cdv A outer s H E) (takes_of rfl rfl rfl rfl)
  show PSs _ (defBody s_law_with) (LS K _ (c_b_law_with F))
  unfold c_b_law_with 
  exact (s_cons (PS.imp (ps_set (i := 3) sc.nd rfl (by first | exact Or.inl rfl | exact Or.inr rfl) (e_call G_law_next (hr.mono (by decide)) m_law_next k_law_next b_law_next hx (a_cons (e_var 0 (pv 0)) (a_cons e_int a_nil)) (len_cons (len_cons len_nil)))) le_set)
      (s_cons (s_if (t_cmp o_eq rd_eqA (e_var 3 (pv 3)) e_int (nomark _)) (s_one (s_ret (e_var 2 (pv 2)))) s_nil)
      (s_cons (s_if (t_cmp o_eq rd_eqA (e_var 3 (pv 3)) e_int (nomark _)) (s_one (s_ret (e_slice (e_var 2 (pv 2)) (p_some (e_call G_law_next (hr.mono (by decide)) m_law_next k_law_next b_law_next hx (a_cons (e_var 0 (pv 0)) (a_cons (e_bin o_add rd_add (PE.imp (pe_callB call_len rfl z_len boot_len (a_cons (e_var 2 (pv 2)) a_nil)) (le_cb rd_len)) e_int) a_nil)) (len_cons (len_cons len_nil)))) p_none))) s_nil)
      (s_one (s_ret (e_bin o_add rd_add (e_call G_law_word (hr.mono (by decide)) m_law_word k_law_word b_law_word hx (a_cons (e_var 0 (pv 0)) (a_cons (e_var 1 (pv 1)) (a_cons e_int (a_cons e_int a_nil)))) (len_cons (len_cons (len_cons (len_cons len_nil))))) (e_var 2 (pv 2))))))))
theorem ok_law_with (KX : K.In h) (GX : h.Ns mainGlobals mg) (C : He.SaysD fa fn K) : DefOk P w K mg base 4 "_law_with" ["stream", "letters", "ending_v"] (f_law_with F) := by
  obtain ⟨fd, FD⟩ := C.def_ 17 (d := d_law_with) rfl
  have bd : Binds K fd ["stream", "letters", "ending_v"] [] := FunD.bindsN FD fun _ _ _ _ _ _ us hl => match us, hl with | [_, _, _], _ => rfl
  exact ⟨⟨fd, okf_law_with F KX GX C FD, bd⟩, He.glo_ok KX GX (C.fact 17 (f := .glo "_law_with") rfl), FD.kp⟩
theorem sc_law_end : FnScope N_law_end ["one", "other"] (defScope s_law_end) := ⟨rfl, rfl, rfl, by decide +kernel, rfl, by decide +kernel, by decide +kernel⟩
set_option maxHeartbeats 4000000 in
theorem okf_law_end (KX : K.In h) (GX : h.Ns mainGlobals mg) (C : He.SaysD fa fn K) {fd : FuncData} (FD : FunD K d_law_end.name d_law_end.qual d_law_end.params d_law_end.body d_law_end.scope (d_law_end.dvs K) (d_law_end.kws K) (He.fAd K d_law_end.at_) fd) : FnOk P w K mg base (L2.CX P w) 2 (He.ga K "_law_end") fd ["one", "other"] (spD K 2 (f_law_end F)) := by
  have z_len := He.free_ok KX GX (C.fact 25 (f := .free "len") rfl)
  have z_range := He.free_ok KX GX (C.fact 28 (f := .free "range") rfl)
  have sc := sc_law_end
  refine fn_ok FD sc fun cdv A outer s H E hr => ?_
  have hx := passAt (X := cxOf (L2.CX P w) P w K mg base N_law_end "_law_end" (defScope s_law_end) (He.ga K "_law_end") cdv A outer s H E) (takes_of rfl rfl rfl rfl)
  show PSs _ (defBody s_law_end) (LS K _ (c_b_law_end F))
  unfold c_b_law_end B1_law_end
  exact (s_cons (PS.imp (ps_set (i := 2) sc.nd rfl (by first | exact Or.inl rfl | exact Or.inr rfl) e_str) le_set)
      (s_cons (PS.imp (ps_for (passes_of rfl) rfl (pi_range2 rfl z_range (a_cons e_int (a_cons e_int a_nil))) (pg_name (i := 3) sc.nd rfl (by first | exact Or.inl rfl | exact Or.inr rfl)) (s_cons (s_if (PW.pt (t_or (t_cmp op_gt rd_cmp (e_var 3 (pv 3)) (PE.imp (pe_callB call_len rfl z_len boot_len (a_cons (e_var 0 (pv 0)) a_nil)) (le_cb rd_len)) (nomark _)) (t_or (t_cmp op_gt rd_cmp (e_var 3 (pv 3)) (PE.imp (pe_callB call_len rfl z_len boot_len (a_cons (e_var 1 (pv 1)) a_nil)) (le_cb rd_len)) (nomark _)) (pw_or1 (t_cmp op_ne rd_ne (e_ix ix_seq rd_ix (e_var 0 (pv 0)) (e_bin op_sub rd_sub (PE.imp (pe_callB call_len rfl z_len boot_len (a_cons (e_var 0 (pv 0)) a_nil)) (le_cb rd_len)) (e_var 3 (pv 3))) (fun _ _ => rfl)) (e_ix ix_seq rd_ix (e_var 1 (pv 1)) (e_bin op_sub rd_sub (PE.imp (pe_callB call_len rfl z_len boot_len (a_cons (e_var 1 (pv 1)) a_nil)) (le_cb rd_len)) (e_var 3 (pv 3))) (fun _ _ => rfl)) (nomark _)))))) (s_one (s_ret (e_var 2 (pv 2)))) s_nil)
      (s_one (PS.imp (ps_set (i := 2) sc.nd rfl (by first | exact Or.inl rfl | exact Or.inr rfl) (e_bin o_add rd_add (e_ix ix_seq rd_ix (e_var 0 (pv 0)) (e_bin op_sub rd_sub (PE.imp (pe_callB call_len rfl z_len boot_len (a_cons (e_var 0 (pv 0)) a_nil)) (le_cb rd_len)) (e_var 3 (pv 3))) (fun _ _ => rfl)) (e_var 2 (pv 2)))) le_set)))) (le_forR2 (gd_name 3)))
      (s_one (s_ret (e_var 2 (pv 2))))))
theorem ok_law_end (KX : K.In h) (GX : h.Ns mainGlobals mg) (C : He.SaysD fa fn K) : DefOk P w K mg base 2 "_law_end" ["one", "other"] (f_law_end F) := by
  obtain ⟨fd, FD⟩ := C.def_ 18 (d := d_law_end) rfl
  have bd : Binds K fd ["one", "other"] [] := FunD.bindsN FD fun _ _ _ _ _ _ us hl => match us, hl with | [_, _], _ => rfl
  exact ⟨⟨fd, okf_law_end F KX GX C FD, bd⟩, He.glo_ok KX GX (C.fact 18 (f := .glo "_law_end") rfl), FD.kp⟩
theorem sc_law_looks : FnScope N_law_looks ["one", "other"] (defScope s_law_looks) := ⟨rfl, rfl, rfl, by decide +kernel, rfl, by decide +kernel, by decide +kernel⟩
set_option maxHeartbeats 4000000 in
theorem okf_law_looks (KX : K.In h) (GX : h.Ns mainGlobals mg) (C : He.SaysD fa fn K) {fd : FuncData} (FD : FunD K d_law_looks.name d_law_looks.qual d_law_looks.params d_law_looks.body d_law_looks.scope (d_law_looks.dvs K) (d_law_looks.kws K) (He.fAd K d_law_looks.at_) fd) : FnOk P w K mg base (L2.CX P w) 6 (He.ga K "_law_looks") fd ["one", "other"] (spD K 2 (f_law_looks F)) := by
  obtain ⟨⟨fd_law_end, G_law_end, b_law_end⟩, m_law_end, k_law_end⟩ := ok_law_end (P := P) (w := w) (base := base) F KX GX C
  obtain ⟨⟨fd_law_says, G_law_says, b_law_says⟩, m_law_says, k_law_says⟩ := ok_law_says (P := P) (w := w) (base := base) F KX GX C
  obtain ⟨⟨fd_are_alike, G_are_alike, b_are_alike⟩, m_are_alike, k_are_alike⟩ := ok_are_alike (P := P) (w := w) (base := base) F KX GX C
  have z_len := He.free_ok KX GX (C.fact 25 (f := .free "len") rfl)
  have z_range := He.free_ok KX GX (C.fact 28 (f := .free "range") rfl)
  have sc := sc_law_looks
  refine fn_ok FD sc fun cdv A outer s H E hr => ?_
  have hx := passAt (X := cxOf (L2.CX P w) P w K mg base N_law_looks "_law_looks" (defScope s_law_looks) (He.ga K "_law_looks") cdv A outer s H E) (takes_of rfl rfl rfl rfl)
  show PSs _ (defBody s_law_looks) (LS K _ (c_b_law_looks F))
  unfold c_b_law_looks B1_law_looks
  exact (s_cons (PS.imp (ps_set (i := 2) sc.nd rfl (by first | exact Or.inl rfl | exact Or.inr rfl) (PE.imp (pe_callB call_len rfl z_len boot_len (a_cons (e_call G_law_end (hr.mono (by decide)) m_law_end k_law_end b_law_end hx (a_cons (e_var 0 (pv 0)) (a_cons (e_var 1 (pv 1)) a_nil)) (len_cons (len_cons len_nil))) a_nil)) (le_cb rd_len))) le_set)
      (s_cons (PS.imp (ps_for (passes_of rfl) rfl (pi_range1 rfl z_range (a_cons e_int a_nil)) (pg_name (i := 3) sc.nd rfl (by first | exact Or.inl rfl | exact Or.inr rfl)) (s_one (s_if (PW.pt (t_or (t_not (t_val (e_call G_law_says (hr.mono (by decide)) m_law_says k_law_says b_law_says hx (a_cons (e_call G_are_alike (hr.mono (by decide)) m_are_alike k_are_alike b_are_alike hx (a_cons (e_var 0 (pv 0)) (a_cons (e_var 1 (pv 1)) (a_cons (e_var 3 (pv 3)) a_nil))) (len_cons (len_cons (len_cons len_nil)))) (a_cons (e_cmp op_ge rd_cmp (e_var 2 (pv 2)) (e_var 3 (pv 3)) (nomark _)) a_nil)) (len_cons (len_cons len_nil))))) (pw_or1 (t_not (t_val (e_call G_law_says (hr.mono (by decide)) m_law_says k_law_says b_law_says hx (a_cons (e_call G_are_alike (hr.mono (by decide)) m_are_alike k_are_alike b_are_alike hx (a_cons (e_var 0 (pv 0)) (a_cons (e_var 0 (pv 0)) (a_cons (e_var 3 (pv 3)) a_nil))) (len_cons (len_cons (len_cons len_nil)))) (a_cons (e_cmp op_ge rd_cmp (PE.imp (pe_callB call_len rfl z_len boot_len (a_cons (e_var 0 (pv 0)) a_nil)) (le_cb rd_len)) (e_var 3 (pv 3)) (nomark _)) a_nil)) (len_cons (len_cons len_nil)))))))) (s_one (s_ret e_bl)) s_nil))) (le_forR1 (gd_name 3)))
      (s_one (s_ret e_bl))))
theorem ok_law_looks (KX : K.In h) (GX : h.Ns mainGlobals mg) (C : He.SaysD fa fn K) : DefOk P w K mg base 6 "_law_looks" ["one", "other"] (f_law_looks F) := by
  obtain ⟨fd, FD⟩ := C.def_ 19 (d := d_law_looks) rfl
  have bd : Binds K fd ["one", "other"] [] := FunD.bindsN FD fun _ _ _ _ _ _ us hl => match us, hl with | [_, _], _ => rfl
  exact ⟨⟨fd, okf_law_looks F KX GX C FD, bd⟩, He.glo_ok KX GX (C.fact 19 (f := .glo "_law_looks") rfl), FD.kp⟩
theorem sc_law : FnScope N_law ["script"] (defScope s_law) := ⟨rfl, rfl, rfl, by decide +kernel, rfl, by decide +kernel, by decide +kernel⟩
set_option maxHeartbeats 4000000 in
theorem okf_law (KX : K.In h) (GX : h.Ns mainGlobals mg) (C : He.SaysD fa fn K) {fd : FuncData} (FD : FunD K d_law.name d_law.qual d_law.params d_law.body d_law.scope (d_law.dvs K) (d_law.kws K) (He.fAd K d_law.at_) fd) : FnOk P w K mg base (L2.CX P w) 7 (He.ga K "law") fd ["script"] (spD K 1 (f_law F)) := by
  obtain ⟨⟨fd_law_stream, G_law_stream, b_law_stream⟩, m_law_stream, k_law_stream⟩ := ok_law_stream (P := P) (w := w) (base := base) F KX GX C
  obtain ⟨⟨fd_law_some, G_law_some, b_law_some⟩, m_law_some, k_law_some⟩ := ok_law_some (P := P) (w := w) (base := base) F KX GX C
  obtain ⟨⟨fd_law_with, G_law_with, b_law_with⟩, m_law_with, k_law_with⟩ := ok_law_with (P := P) (w := w) (base := base) F KX GX C
  obtain ⟨⟨fd_law_end, G_law_end, b_law_end⟩, m_law_end, k_law_end⟩ := ok_law_end (P := P) (w := w) (base := base) F KX GX C
  obtain ⟨⟨fd_common_end, G_common_end, b_common_end⟩, m_common_end, k_common_end⟩ := ok_common_end (P := P) (w := w) (base := base) F KX GX C
  obtain ⟨⟨fd_law_same, G_law_same, b_law_same⟩, m_law_same, k_law_same⟩ := ok_law_same (P := P) (w := w) (base := base) F KX GX C
  obtain ⟨⟨fd_law_looks, G_law_looks, b_law_looks⟩, m_law_looks, k_law_looks⟩ := ok_law_looks (P := P) (w := w) (base := base) F KX GX C
  obtain ⟨⟨fd_law_word, G_law_word, b_law_word⟩, m_law_word, k_law_word⟩ := ok_law_word (P := P) (w := w) (base := base) F KX GX C
  obtain ⟨⟨fd_law_next, G_law_next, b_law_next⟩, m_law_next, k_law_next⟩ := ok_law_next (P := P) (w := w) (base := base) F KX GX C
  obtain ⟨⟨fd_are_alike, G_are_alike, b_are_alike⟩, m_are_alike, k_are_alike⟩ := ok_are_alike (P := P) (w := w) (base := base) F KX GX C
  have z_len := He.free_ok KX GX (C.fact 25 (f := .free "len") rfl)
  have z_min := He.free_ok KX GX (C.fact 27 (f := .free "min") rfl)
  have z_range := He.free_ok KX GX (C.fact 28 (f := .free "range") rfl)
  have sc := sc_law
  refine fn_ok FD sc fun cdv A outer s H E hr => ?_
  have hx := passAt (X := cxOf (L2.CX P w) P w K mg base N_law "law" (defScope s_law) (He.ga K "law") cdv A outer s H E) (takes_of rfl rfl rfl rfl)
  show PSs _ (defBody s_law) (LS K _ (c_b_law F))
  unfold c_b_law B1_law
  exact (s_cons (PS.imp (ps_set (i := 1) sc.nd rfl (by first | exact Or.inl rfl | exact Or.inr rfl) (e_call G_law_stream (hr.mono (by decide)) m_law_stream k_law_stream b_law_stream hx (a_cons (e_var 0 (pv 0)) a_nil) (len_cons len_nil))) le_set)
      (s_cons (PS.imp (ps_for (passes_of rfl) rfl (pi_range1 rfl z_range (a_cons e_int a_nil)) (pg_name (i := 2) sc.nd rfl (by first | exact Or.inl rfl | exact Or.inr rfl)) (s_cons (PS.imp (ps_asg (e_call G_law_some (hr.mono (by decide)) m_law_some k_law_some b_law_some hx (a_cons (e_var 1 (pv 1)) a_nil) (len_cons len_nil)) (pg_unl rfl (pgs_cons (pg_name (i := 10) sc.nd rfl (by first | exact Or.inl rfl | exact Or.inr rfl)) (pgs_cons (pg_name (i := 11) sc.nd rfl (by first | exact Or.inl rfl | exact Or.inr rfl)) pgs_nil)))) (le_asgG (gd_unl (gds_cons 10 (gds_cons 11 gds_nil)))))
      (s_cons (PS.imp (ps_set (i := 3) sc.nd rfl (by first | exact Or.inl rfl | exact Or.inr rfl) (e_call G_law_with (hr.mono (by decide)) m_law_with k_law_with b_law_with hx (a_cons (e_var 1 (pv 1)) (a_cons (e_var 10 (pv 10)) (a_cons (e_var 11 (pv 11)) a_nil))) (len_cons (len_cons (len_cons len_nil))))) le_set)
      (s_cons (PS.imp (ps_set (i := 4) sc.nd rfl (by first | exact Or.inl rfl | exact Or.inr rfl) (e_call G_law_with (hr.mono (by decide)) m_law_with k_law_with b_law_with hx (a_cons (e_var 1 (pv 1)) (a_cons (e_var 10 (pv 10)) (a_cons (e_var 11 (pv 11)) a_nil))) (len_cons (len_cons (len_cons len_nil))))) le_set)
      (s_cons (PS.imp (ps_set (i := 5) sc.nd rfl (by first | exact Or.inl rfl | exact Or.inr rfl) (e_call G_law_with (hr.mono (by decide)) m_law_with k_law_with b_law_with hx (a_cons (e_var 1 (pv 1)) (a_cons (e_var 10 (pv 10)) (a_cons (e_var 11 (pv 11)) a_nil))) (len_cons (len_cons (len_cons len_nil))))) le_set)
      (s_cons (PS.imp (ps_set (i := 6) sc.nd rfl (by first | exact Or.inl rfl | exact Or.inr rfl) (e_call G_law_end (hr.mono (by decide)) m_law_end k_law_end b_law_end hx (a_cons (e_var 3 (pv 3)) (a_cons (e_var 4 (pv 4)) a_nil)) (len_cons (len_cons len_nil)))) le_set)
      (s_cons (PS.imp (ps_set (i := 7) sc.nd rfl (by first | exact Or.inl rfl | exact Or.inr rfl) (e_lst (a_cons (e_call G_common_end (hr.mono (by decide)) m_common_end k_common_end b_common_end hx (a_cons (e_var 3 (pv 3)) (a_cons (e_var 4 (pv 4)) a_nil)) (len_cons (len_cons len_nil))) (a_cons (e_call G_common_end (hr.mono (by decide)) m_common_end k_common_end b_common_end hx (a_cons (e_var 4 (pv 4)) (a_cons (e_var 3 (pv 3)) a_nil)) (len_cons (len_cons len_nil))) (a_cons (e_call G_common_end (hr.mono (by decide)) m_common_end k_common_end b_common_end hx (a_cons (e_var 3 (pv 3)) (a_cons (e_var 3 (pv 3)) a_nil)) (len_cons (len_cons len_nil))) a_nil))))) le_set)
      (s_cons (s_if (t_not (t_val (e_call G_law_same (hr.mono (by decide)) m_law_same k_law_same b_law_same hx (a_cons (e_var 7 (pv 7)) (a_cons (e_lst (a_cons (e_var 6 (pv 6)) (a_cons (e_var 6 (pv 6)) (a_cons (e_var 3 (pv 3)) a_nil)))) a_nil)) (len_cons (len_cons len_nil))))) (s_one (s_ret e_bl)) s_nil)
      (s_cons (s_if (PW.pt (t_or (t_not (t_val (e_call G_law_looks (hr.mono (by decide)) m_law_looks k_law_looks b_law_looks hx (a_cons (e_var 3 (pv 3)) (a_cons (e_var 4 (pv 4)) a_nil)) (len_cons (len_cons len_nil))))) (pw_or1 (t_not (t_val (e_call G_law_looks (hr.mono (by decide)) m_law_looks k_law_looks b_law_looks hx (a_cons (e_var 4 (pv 4)) (a_cons (e_var 5 (pv 5)) a_nil)) (len_cons (len_cons len_nil)))))))) (s_one (s_ret e_bl)) s_nil)
      (s_cons (PS.imp (ps_set (i := 8) sc.nd rfl (by first | exact Or.inl rfl | exact Or.inr rfl) (e_call G_law_word (hr.mono (by decide)) m_law_word k_law_word b_law_word hx (a_cons (e_var 1 (pv 1)) (a_cons (e_var 10 (pv 10)) (a_cons e_int (a_cons e_int a_nil)))) (len_cons (len_cons (len_cons (len_cons len_nil)))))) le_set)
      (s_cons (s_if (t_not (t_val (e_call G_law_same (hr.mono (by decide)) m_law_same k_law_same b_law_same hx (a_cons (e_call G_common_end (hr.mono (by decide)) m_common_end k_common_end b_common_end hx (a_cons (e_bin o_add rd_add (e_var 3 (pv 3)) (e_var 8 (pv 8))) (a_cons (e_bin o_add rd_add (e_var 4 (pv 4)) (e_var 8 (pv 8))) a_nil)) (len_cons (len_cons len_nil))) (a_cons (e_bin o_add rd_add (e_var 6 (pv 6)) (e_var 8 (pv 8))) a_nil)) (len_cons (len_cons len_nil))))) (s_one (s_ret e_bl)) s_nil)
      (s_cons (PS.imp (ps_set (i := 9) sc.nd rfl (by first | exact Or.inl rfl | exact Or.inr rfl) (e_call G_law_next (hr.mono (by decide)) m_law_next k_law_next b_law_next hx (a_cons (e_var 1 (pv 1)) (a_cons e_int a_nil)) (len_cons (len_cons len_nil)))) le_set)
      (s_cons (s_if (PW.pt (t_and (t_cmp op_ge rd_cmp (PE.imp (pe_callB call_len rfl z_len boot_len (a_cons (e_var 6 (pv 6)) a_nil)) (le_cb rd_len)) (e_var 9 (pv 9)) (nomark _)) (t_and (t_cmp op_ge rd_cmp (PE.imp (pe_callB call_len rfl z_len boot_len (a_cons (e_call G_law_end (hr.mono (by decide)) m_law_end k_law_end b_law_end hx (a_cons (e_var 4 (pv 4)) (a_cons (e_var 5 (pv 5)) a_nil)) (len_cons (len_cons len_nil))) a_nil)) (le_cb rd_len)) (e_var 9 (pv 9)) (nomark _)) (pw_and1 (t_cmp o_isnot rd_isnot (e_call G_are_alike (hr.mono (by decide)) m_are_alike k_are_alike b_are_alike hx (a_cons (e_var 3 (pv 3)) (a_cons (e_var 5 (pv 5)) (a_cons (e_var 9 (pv 9)) a_nil))) (len_cons (len_cons (len_cons len_nil)))) e_bl (nomark _)))))) (s_one (s_ret e_bl)) s_nil)
      (s_one (s_if (PW.pt (t_and (t_cmp op_ge rd_cmp (PE.imp (pe_callB call_len rfl z_len boot_len (a_cons (e_var 6 (pv 6)) a_nil)) (le_cb rd_len)) (e_var 9 (pv 9)) (nomark _)) (pw_and1 (t_cmp o_isnot rd_isnot (e_call G_are_alike (hr.mono (by decide)) m_are_alike k_are_alike b_are_alike hx (a_cons (e_bin o_add rd_add (e_var 3 (pv 3)) (e_var 8 (pv 8))) (a_cons (e_bin o_add rd_add (e_var 4 (pv 4)) (e_var 8 (pv 8))) (a_cons (PE.imp (pe_callB (call_min2 rfl) rfl z_min (by decide +kernel) (a_cons e_int (a_cons (e_bin o_add rd_add (e_var 9 (pv 9)) (PE.imp (pe_callB call_len rfl z_len boot_len (a_cons (e_var 8 (pv 8)) a_nil)) (le_cb rd_len))) a_nil))) (le_cb rd_min)) a_nil))) (len_cons (len_cons (len_cons len_nil)))) e_bl (nomark _))))) (s_one (s_ret e_bl)) s_nil))))))))))))))) (le_forR1 (gd_name 2)))
      (s_one (s_ret e_bl))))
theorem ok_law (KX : K.In h) (GX : h.Ns mainGlobals mg) (C : He.SaysD fa fn K) : DefOk P w K mg base 7 "law" ["script"] (f_law F) := by
  obtain ⟨fd, FD⟩ := C.def_ 20 (d := d_law) rfl
  have bd : Binds K fd ["script"] [] := FunD.bindsN FD fun _ _ _ _ _ _ us hl => match us, hl with | [_], _ => rfl
  exact ⟨⟨fd, okf_law F KX GX C FD, bd⟩, He.glo_ok KX GX (C.fact 20 (f := .glo "law") rfl), FD.kp⟩
end
end B_k04_whole_endings_and_words_ali

end
section
namespace B_k04_whole_endings_and_words_ali
open PySem L2 MX
theorem next_eq (F : Nat) (S : Os) (st : Nat) (many : Int) (h : Strm S st) (hm : 0 < many) (hm2 : many < 1073741824) :
    ∃ d S', f_law_next F [.loc st, .int many] S = .ok (.int d) S' ∧ 0 ≤ d ∧ d < many ∧ Strm S' st ∧ But st S S' := by
  obtain ⟨sc, ns, c, k, hst, hsc, hne, hc, hk⟩ := h
  have e3 : ixN 3 1 = some 1 := ixN_1 3 (by decide)
  have e4 : ixN 3 2 = some 2 := ixN_2 3 (by decide)
  have fin : ∀ c1 k1 : Int, 0 ≤ c1 → 0 ≤ k1 → ∀ S1, lstAt S1 st = some [.loc sc, .int c1, .int k1] → But st S S1 → f_law_next F [.loc st, .int many] S = .ok (.int (c1.fmod many)) (S1.set st (.lst [.loc sc, .int (c1.fdiv many), .int k1])) →
      ∃ d S', f_law_next F [.loc st, .int many] S = .ok (.int d) S' ∧ 0 ≤ d ∧ d < many ∧ Strm S' st ∧ But st S S' := fun c1 k1 h1 h2 S1 h3 h4 h5 => by
    obtain ⟨b1, b2, b3⟩ := fmod_bounds h1 hm
    exact ⟨_, _, h5, b1, b2, ⟨sc, ns, _, k1, lstAt_set h3, by rw [lstAt_set_ne hne]; exact h4.lst (Ne.symm hne) hsc, hne, b3, h2⟩, h4.set⟩
  by_cases h0 : c = 0
  · have cell : ∀ cl : Int, 0 ≤ cl → ∀ S1, S1 = (S.set st (.lst [.loc sc, .int cl, .int k])).set st (.lst [.loc sc, .int cl, .int (k + 1)]) → f_law_next F [.loc st, .int many] S = .ok (.int (cl.fmod many)) (S1.set st (.lst [.loc sc, .int (cl.fdiv many), .int (k + 1)])) →
        ∃ d S', f_law_next F [.loc st, .int many] S = .ok (.int d) S' ∧ 0 ≤ d ∧ d < many ∧ Strm S' st ∧ But st S S' := fun cl h1 S1 hS h5 => by
      refine fin cl (k + 1) h1 (by omega) S1 ?_ ?_ h5
      · rw [hS]; exact lstAt_set (lstAt_set hst)
      · rw [hS]; exact ((But.refl st S).set).set
    have e1 : many ≠ 0 := by omega
    have e2 : ∀ z, CDivN z many := fun z => ⟨e1, by omega⟩
    have ek : atI (ns.map D.int) k = (ns[k.toNat]?).map D.int := by
      have h := atI_nn (ns.map D.int) k.toNat
      rw [List.getElem?_map, show ((k.toNat : Nat) : Int) = k by omega] at h
      exact h
    have ep : CPow 10 18 := ⟨by decide, by decide, by decide⟩
    have em : ∀ z : Int, CMul z 48271 := fun z => .inr ⟨by decide, by decide⟩
    have em2 : ∀ z : Int, CMul z 69621 := fun z => .inr ⟨by decide, by decide⟩
    have em3 : ∀ z : Int, CMul z 16807 := fun z => .inr ⟨by decide, by decide⟩
    have em4 : ∀ z : Int, CMul z 65537 := fun z => .inr ⟨by decide, by decide⟩
    -- the cell from the script, or none
    have key : ∀ raw : Int, 0 ≤ raw → (f_law_next F [.loc st, .int many] S = if raw < 1000000000000000000 then .ok (.int ((((((raw * 48271 + k * 69621 + 11).fmod 2147483647) * 16807 + 13).fmod 2147483647) * 65537 + (raw * 48271 + k * 69621 + 11).fmod 2147483647).fmod many)) (((S.set st (.lst [.loc sc, .int ((((raw * 48271 + k * 69621 + 11).fmod 2147483647) * 16807 + 13).fmod 2147483647 * 65537 + (raw * 48271 + k * 69621 + 11).fmod 2147483647), .int k])).set st (.lst [.loc sc, .int ((((raw * 48271 + k * 69621 + 11).fmod 2147483647) * 16807 + 13).fmod 2147483647 * 65537 + (raw * 48271 + k * 69621 + 11).fmod 2147483647), .int (k + 1)])).set st (.lst [.loc sc, .int (((((raw * 48271 + k * 69621 + 11).fmod 2147483647) * 16807 + 13).fmod 2147483647 * 65537 + (raw * 48271 + k * 69621 + 11).fmod 2147483647).fdiv many), .int (k + 1)])) else .ok (.int (raw.fmod many)) (((S.set st (.lst [.loc sc, .int raw, .int k])).set st (.lst [.loc sc, .int raw, .int (k + 1)])).set st (.lst [.loc sc, .int (raw.fdiv many), .int (k + 1)]))) →
        ∃ d S', f_law_next F [.loc st, .int many] S = .ok (.int d) S' ∧ 0 ≤ d ∧ d < many ∧ Strm S' st ∧ But st S S' := fun raw hr q => by
      by_cases c1 : raw < 1000000000000000000
      · rw [if_pos c1] at q
        refine cell _ ?_ _ rfl q
        have b1 := (fmod_bounds (a := raw * 48271 + k * 69621 + 11) (b := 2147483647) (by omega) (by decide)).1
        have b2 := (fmod_bounds (a := (raw * 48271 + k * 69621 + 11).fmod 2147483647 * 16807 + 13) (b := 2147483647) (by omega) (by decide)).1
        omega
      · rw [if_neg c1] at q
        exact cell raw hr _ rfl q
    by_cases hkl : k < (ns.length : Int)
    · have hn : k.toNat < ns.length := by omega
      have e7 : ns[k.toNat]? = some ns[k.toNat] := List.getElem?_eq_getElem hn
      refine key (if ns[k.toNat] < 0 then -ns[k.toNat] else ns[k.toNat]) (by split <;> omega) ?_
      by_cases c1 : (if ns[k.toNat] < 0 then -ns[k.toNat] else ns[k.toNat]) < 1000000000000000000
      · rw [if_pos c1]
        simp [f_law_next, c_b_law_next, hst, hsc, h0, e1, e2, e3, e4, kinds, hkl, ek, e7, ep, em, em2, em3, em4, c1, lstAt_set hst, lstAt_set (lstAt_set hst)]
      · rw [if_neg c1]
        simp [f_law_next, c_b_law_next, hst, hsc, h0, e1, e2, e3, e4, kinds, hkl, ek, e7, ep, em, em2, em3, em4, c1, lstAt_set hst, lstAt_set (lstAt_set hst)]
    · refine key (7 + k) (by omega) ?_
      by_cases c1 : 7 + k < 1000000000000000000
      · rw [if_pos c1]
        simp [f_law_next, c_b_law_next, hst, hsc, h0, e1, e2, e3, e4, kinds, hkl, ep, em, em2, em3, em4, c1, lstAt_set hst, lstAt_set (lstAt_set hst)]
      · rw [if_neg c1]
        simp [f_law_next, c_b_law_next, hst, hsc, h0, e1, e2, e3, e4, kinds, hkl, ep, em, em2, em3, em4, c1, lstAt_set hst, lstAt_set (lstAt_set hst)]
  · refine fin c k hc hk S hst (But.refl _ _) ?_
    have e1 : many ≠ 0 := by omega
    have e2 : CDivN c many := ⟨e1, by omega⟩
    simp [f_law_next, c_b_law_next, hst, hsc, h0, e1, e2, e3, kinds]
/-! ### the words -/
theorem is_over_eq (F : Nat) (al v : List Nat) (S : Os) (h1 : nsig (toS v) + 1 < 4096) (h2 : nsig (toS al) + 1 < 4096) (h3 : nsig (toS v) / 4 ≤ nsig (toS al)) :
    f_is_over F [.str (toS al), .str (toS v)] S = .ok (.bl (within (toS v) (toS al))) S := by
  simp [f_is_over, c_b_is_over, kinds, h1, h2, h3]
/-- a plain word -/
structure Plain (l : List Nat) : Prop where
  len : l.length ≤ 500
  abc : ∀ c ∈ l, c ∈ abc
theorem Plain.nil : Plain [] := ⟨by decide, fun c h => by simp at h⟩
theorem Plain.app {a b : List Nat} (ha : Plain a) (hb : Plain b) (h : (a ++ b).length ≤ 500) : Plain (a ++ b) := ⟨h, fun c hc => (List.mem_append.mp hc).elim (ha.abc c) (hb.abc c)⟩
theorem is_plain_eq (F : Nat) (l : List Nat) (S : Os) (h : Plain l) : f_is_plain F [.str (toS l)] S = .ok (.bl true) S := by
  have h1 := nsig_le h.abc
  have h2 : nsig (toS l) ≤ 26 := h1
  have h3 := is_over_eq F abc l S (by omega) (by rw [nsig_abc]; decide) (by rw [nsig_abc]; omega)
  rw [within_iff.mpr h.abc] at h3
  have h4 := h.len
  simp [f_is_plain, c_b_is_plain, kinds, abc_eq, h3, sizeLine_num, show l.length ≤ 16777216 by omega, show (l.length : Int) ≤ 500 by omega]
theorem need_plain_eq (F : Nat) (a b : List Nat) (S : Os) (ha : Plain a) (hb : Plain b) : f_need_plain_words F [.str (toS a), .str (toS b)] S = .ok .non S := by
  simp [f_need_plain_words, c_b_need_plain_words, is_plain_eq F a S ha, is_plain_eq F b S hb]
theorem ending_eq (F : Nat) (l : List Nat) (m : Nat) (S : Os) (h : l.length ≤ 1000) (hm : m ≤ l.length) :
    f_ending F [.str (toS l), .int m] S = .ok (.str (toS (lastN l m))) S := by
  have := cut_from l ((l.length : Int) - m) (l.length - m) (by omega)
  simp [f_ending, c_b_ending, sizeLine_num, this, lastN, show l.length ≤ 16777216 by omega]
theorem need_look_eq (F : Nat) (k : Nat) (S : Os) (h : k ≤ 12) : f_need_look F [.int k] S = .ok .non S := by
  simp [f_need_look, c_b_need_look, f_is_look, c_b_is_look, f_is_integer_within, c_b_is_integer_within, kinds, show (k : Int) ≤ 12 by omega]
theorem alike_eq (F : Nat) (a b : List Nat) (k : Nat) (S : Os) (ha : a.length ≤ 1000) (hb : b.length ≤ 1000) : f_alike F [.str (toS a), .str (toS b), .int k] S = .ok (.bl (decide (k ≤ cs a b))) S := by
  by_cases h1 : k ≤ a.length
  · by_cases h2 : k ≤ b.length
    · have e : decide (lastN a k = lastN b k) = decide (k ≤ cs a b) := by
        rw [decide_eq_decide]
        exact ⟨fun h => cs_iff.mpr ⟨h1, h2, h⟩, fun h => (cs_iff.mp h).2.2⟩
      simp [f_alike, c_b_alike, sizeLine_num, show a.length ≤ 16777216 by omega, show b.length ≤ 16777216 by omega, h1, h2, ending_eq F a k S ha h1, ending_eq F b k S hb h2, e]
    · have e : ¬ k ≤ cs a b := fun h => h2 (cs_iff.mp h).2.1
      simp [f_alike, c_b_alike, sizeLine_num, show a.length ≤ 16777216 by omega, show b.length ≤ 16777216 by omega, h1, h2, e]
  · have e : ¬ k ≤ cs a b := fun h => h1 (cs_iff.mp h).1
    simp [f_alike, c_b_alike, sizeLine_num, show a.length ≤ 16777216 by omega, h1, e]
theorem are_alike_eq (F : Nat) (a b : List Nat) (k : Nat) (S : Os) (ha : Plain a) (hb : Plain b) (hk : k ≤ 12) : f_are_alike F [.str (toS a), .str (toS b), .int k] S = .ok (.bl (decide (k ≤ cs a b))) S := by
  have h1 := ha.len
  have h2 := hb.len
  simp [f_are_alike, c_b_are_alike, need_plain_eq F a b S ha hb, need_look_eq F k S hk, alike_eq F a b k S (by omega) (by omega)]
theorem common_end_eq (F : Nat) (a b : List Nat) (S : Os) (ha : Plain a) (hb : Plain b) (hF : 500 < F) : f_common_end F [.str (toS a), .str (toS b)] S = .ok (.str (toS (lastN a (cs a b)))) S := by
  have h1 := ha.len
  have h2 := hb.len
  have hc := cs_le a b
  have e : mWhile F (W1_common_end F) (B1_common_end F) [some (.str (toS a)), some (.str (toS b)), some (.int 0)] S = .nx [some (.str (toS a)), some (.str (toS b)), some (.int (cs a b))] S := by
    refine while_count (fun m => [some (.str (toS a)), some (.str (toS b)), some (.int (m : Nat))]) (cs a b) (fun m hm => ⟨?_, ?_⟩) ?_ (cs a b) 0 F (by omega) (by omega)
    · have q := cs_at hm
      have qa : a.length - m - 1 < a.length := by omega
      have qb : b.length - m - 1 < b.length := by omega
      rw [List.getElem?_eq_getElem qa, List.getElem?_eq_getElem qb] at q
      have ea := atI_some (l := a) (i := (a.length : Int) - m - 1) (a.length - m - 1) (by omega) (List.getElem?_eq_getElem qa)
      have eb := atI_some (l := b) (i := (b.length : Int) - m - 1) (b.length - m - 1) (by omega) (List.getElem?_eq_getElem qb)
      have q2 : a[a.length - m - 1] = b[b.length - m - 1] := by simpa using q
      have lt : (m : Int) < (if b.length < a.length then (b.length : Int) else a.length) := by split <;> omega
      simp [W1_common_end, sizeLine_num, show a.length ≤ 16777216 by omega, show b.length ≤ 16777216 by omega, ea, eb, q2, lt]
    · simp [B1_common_end]
    · by_cases lt : ((cs a b : Nat) : Int) < (if b.length < a.length then (b.length : Int) else a.length)
      · have la : cs a b < a.length := by split at lt <;> omega
        have lb : cs a b < b.length := by split at lt <;> omega
        have q := cs_stop la lb
        have qa : a.length - cs a b - 1 < a.length := by omega
        have qb : b.length - cs a b - 1 < b.length := by omega
        rw [List.getElem?_eq_getElem qa, List.getElem?_eq_getElem qb] at q
        have ea := atI_some (l := a) (i := (a.length : Int) - cs a b - 1) (a.length - cs a b - 1) (by omega) (List.getElem?_eq_getElem qa)
        have eb := atI_some (l := b) (i := (b.length : Int) - cs a b - 1) (b.length - cs a b - 1) (by omega) (List.getElem?_eq_getElem qb)
        have q2 : ¬ a[a.length - cs a b - 1] = b[b.length - cs a b - 1] := by simpa using q
        simp [W1_common_end, sizeLine_num, show a.length ≤ 16777216 by omega, show b.length ≤ 16777216 by omega, ea, eb, q2, lt]
      · simp [W1_common_end, sizeLine_num, show a.length ≤ 16777216 by omega, show b.length ≤ 16777216 by omega, lt]
  have e2 := ending_eq F a (cs a b) S (by omega) hc.1
  simp [f_common_end, c_b_common_end, need_plain_eq F a b S ha hb, e, e2]
theorem emp_eq : ("" : Str) = toS [] := rfl
structure Wd (l : List Nat) (n : Nat) : Prop where
  len : l.length ≤ n
  abc : ∀ c ∈ l, c ∈ abc
theorem Wd.plain {l : List Nat} {n : Nat} (h : Wd l n) (hn : n ≤ 500) : Plain l := ⟨Nat.le_trans h.len hn, h.abc⟩
theorem word_eq (F : Nat) (S : Os) (st m : Nat) (ls : List Nat) (h : Strm S st) (h1 : ls ≠ []) (h2 : ls.length ≤ 26) (h3 : ∀ c ∈ ls, c ∈ abc) (hm : m ≤ 15) :
    ∃ w S', f_law_word F [.loc st, .str (toS ls), .int 0, .int m] S = .ok (.str (toS w)) S' ∧ Wd w m ∧ Strm S' st ∧ But st S S' := by
  have hl : 0 < ls.length := List.length_pos_iff.mpr h1
  obtain ⟨n, S1, e1, n0, n1, s1, b1⟩ := next_eq F S st ((m : Int) - 0 + 1) h (by omega) (by omega)
  have L : ∃ σ' S', mLoop (fun _ => True) (gN 5) (B1_law_word F) (rngD 0 n.toNat) [some (.loc st), some (.str (toS ls)), some (.int 0), some (.int m), some (.str (toS [])), none] S1 = .nx σ' S' ∧ ∃ w t, σ' = [some (.loc st), some (.str (toS ls)), some (.int 0), some (.int m), some (.str (toS w)), t] ∧ w.length = n.toNat ∧ (∀ c ∈ w, c ∈ abc) ∧ Strm S' st ∧ But st S1 S' := by
    refine loop_rng_nx (fun j σ S' => ∃ w t, σ = [some (.loc st), some (.str (toS ls)), some (.int 0), some (.int m), some (.str (toS w)), t] ∧ w.length = j ∧ (∀ c ∈ w, c ∈ abc) ∧ Strm S' st ∧ But st S1 S') ⟨[], none, rfl, rfl, fun c h => by simp at h, s1, But.refl _ _⟩ fun j σ S2 hj ⟨w, t, hσ, hw, ha, hs, hb⟩ => ?_
    subst hσ
    obtain ⟨d, S3, e2, d0, d1, s3, b3⟩ := next_eq F S2 st (ls.length : Int) hs (by omega) (by omega)
    have hd : d.toNat < ls.length := by omega
    have ea := atI_some (l := ls) (i := d) d.toNat (by omega) (List.getElem?_eq_getElem hd)
    refine ⟨[some (.loc st), some (.str (toS ls)), some (.int 0), some (.int m), some (.str (toS w)), some (.int (0 + j))], [some (.loc st), some (.str (toS ls)), some (.int 0), some (.int m), some (.str (toS (w ++ [ls[d.toNat]]))), some (.int (0 + j))], S3, by simp, ?_, w ++ [ls[d.toNat]], _, rfl, by simp [hw], fun c hc => ?_, s3, hb.trans b3⟩
    · simp [B1_law_word, sizeLine_num, show ls.length ≤ 16777216 by omega, e2, ea, hw, show j + 1 ≤ 16777216 by omega]
    · rcases List.mem_append.mp hc with hc | hc
      · exact ha c hc
      · rw [List.mem_singleton.mp hc]
        exact h3 _ (List.getElem_mem hd)
  obtain ⟨σ', S', e3, w, t, rfl, hw, ha, hs, hb⟩ := L
  refine ⟨w, S', ?_, ⟨by omega, ha⟩, hs, b1.trans hb⟩
  have e1' : f_law_next F [.loc st, .int (m + 1)] S = .ok (.int n) S1 := by simpa using e1
  simp [f_law_word, c_b_law_word, e1', e3, emp_eq, show -4611686018427387904 ≤ n by omega, show n < 4611686018427387904 by omega]
theorem end_eq (F : Nat) (a b : List Nat) (S : Os) (ha : Plain a) (hb : Plain b) : f_law_end F [.str (toS a), .str (toS b)] S = .ok (.str (toS (lastN a (cs a b)))) S := by
  have h1 := ha.len
  have h2 := hb.len
  have hc := cs_le a b
  have L : (fun r => r = .rt (.str (toS (lastN a (cs a b)))) S ∨ ∃ t, r = .nx [some (.str (toS a)), some (.str (toS b)), some (.str (toS (lastN a (cs a b)))), t] S) (mLoop (fun _ => True) (gN 3) (B1_law_end F) (rngD 1 500) [some (.str (toS a)), some (.str (toS b)), some (.str (toS [])), none] S) := by
    refine loop_gen (R := fun r => r = .rt (.str (toS (lastN a (cs a b)))) S ∨ ∃ t, r = .nx [some (.str (toS a)), some (.str (toS b)), some (.str (toS (lastN a (cs a b)))), t] S) (fun j σ S' => S' = S ∧ j ≤ cs a b ∧ ∃ t, σ = [some (.str (toS a)), some (.str (toS b)), some (.str (toS (lastN a j))), t]) (fun _ _ _ _ => trivial) (rngD 1 500) 0 [some (.str (toS a)), some (.str (toS b)), some (.str (toS [])), none] S ⟨rfl, Nat.zero_le _, none, by simp [lastN]⟩ (fun j x σ S' hj ⟨hS, hJ, t, hσ⟩ => ?_) (fun σ S' hq => ?_)
    · subst hS hσ
      obtain ⟨hj, rfl⟩ := rngD_get hj
      rw [Nat.zero_add] at hJ ⊢
      refine ⟨[some (.str (toS a)), some (.str (toS b)), some (.str (toS (lastN a j))), some (.int (1 + j))], by simp, ?_⟩
      rcases Nat.lt_or_ge j (cs a b) with q | q
      · refine .inl ⟨[some (.str (toS a)), some (.str (toS b)), some (.str (toS (lastN a (j + 1)))), some (.int (1 + j))], S', .inl ?_, rfl, q, _, rfl⟩
        have e := cs_at q
        have qa : a.length - j - 1 < a.length := by omega
        have qb : b.length - j - 1 < b.length := by omega
        rw [List.getElem?_eq_getElem qa, List.getElem?_eq_getElem qb] at e
        have ea := atI_some (l := a) (i := (a.length : Int) - (1 + j)) (a.length - j - 1) (by omega) (List.getElem?_eq_getElem qa)
        have eb := atI_some (l := b) (i := (b.length : Int) - (1 + j)) (b.length - j - 1) (by omega) (List.getElem?_eq_getElem qb)
        have q2 : a[a.length - j - 1] = b[b.length - j - 1] := by simpa using e
        have e5 := lastN_succ a j (by omega)
        have e6 := lastN_len a j (by omega)
        simp [B1_law_end, sizeLine_num, show a.length ≤ 16777216 by omega, show b.length ≤ 16777216 by omega, ea, eb, q2, e5, e6, show ¬ ((a.length : Int) < 1 + j) by omega, show ¬ ((b.length : Int) < 1 + j) by omega, show 1 + j ≤ 16777216 by omega]
      · have q' : j = cs a b := by omega
        refine .inr (.inr ⟨_, S', ?_, .inl rfl⟩)
        subst q'
        by_cases la : (a.length : Int) < 1 + (cs a b : Nat)
        · simp [B1_law_end, sizeLine_num, show a.length ≤ 16777216 by omega, show b.length ≤ 16777216 by omega, la]
        · by_cases lb : (b.length : Int) < 1 + (cs a b : Nat)
          · simp [B1_law_end, sizeLine_num, show a.length ≤ 16777216 by omega, show b.length ≤ 16777216 by omega, la, lb]
          · have q := cs_stop (a := a) (b := b) (by omega) (by omega)
            have qa : a.length - cs a b - 1 < a.length := by omega
            have qb : b.length - cs a b - 1 < b.length := by omega
            rw [List.getElem?_eq_getElem qa, List.getElem?_eq_getElem qb] at q
            have ea := atI_some (l := a) (i := (a.length : Int) - (1 + (cs a b : Nat))) (a.length - cs a b - 1) (by omega) (List.getElem?_eq_getElem qa)
            have eb := atI_some (l := b) (i := (b.length : Int) - (1 + (cs a b : Nat))) (b.length - cs a b - 1) (by omega) (List.getElem?_eq_getElem qb)
            have q2 : ¬ a[a.length - cs a b - 1] = b[b.length - cs a b - 1] := by simpa using q
            simp [B1_law_end, sizeLine_num, show a.length ≤ 16777216 by omega, show b.length ≤ 16777216 by omega, ea, eb, q2, la, lb]
    · obtain ⟨hS, hJ, t, hσ⟩ := hq
      subst hS hσ
      rw [rngD_len] at hJ
      have : cs a b = 500 := by omega
      rw [this]
      exact .inr ⟨t, by simp [rngD_len]⟩
  rcases L with L | ⟨t, L⟩
  · simp [f_law_end, c_b_law_end, emp_eq, L]
  · simp [f_law_end, c_b_law_end, emp_eq, L]
theorem says_eq (F : Nat) (b : Bool) (S : Os) : f_law_says F [.bl b, .bl b] S = .ok (.bl true) S := by
  cases b <;> simp [f_law_says, c_b_law_says]
theorem looks_eq (F : Nat) (a b : List Nat) (S : Os) (ha : Plain a) (hb : Plain b) : f_law_looks F [.str (toS a), .str (toS b)] S = .ok (.bl true) S := by
  have h1 := ha.len
  have h2 := hb.len
  have hc := cs_le a b
  obtain ⟨σ', S', e, hS⟩ : ∃ σ' S', mLoop (fun _ => True) (gN 3) (B1_law_looks F) (rngD 0 13) [some (.str (toS a)), some (.str (toS b)), some (.int (cs a b : Nat)), none] S = .nx σ' S' ∧ S' = S := by
    obtain ⟨σ', S', e, h, _⟩ := loop_rng_nx (g := gN 3) (b := B1_law_looks F) (lo := 0) (n := 13) (σ := [some (.str (toS a)), some (.str (toS b)), some (.int (cs a b : Nat)), none]) (S := S) (fun j σ S' => S' = S ∧ ∃ t, σ = [some (.str (toS a)), some (.str (toS b)), some (.int (cs a b : Nat)), t]) ⟨rfl, none, rfl⟩ fun j σ S' hj ⟨hS, t, hσ⟩ => by
      subst hS hσ
      refine ⟨[some (.str (toS a)), some (.str (toS b)), some (.int (cs a b : Nat)), some (.int (j : Nat))], [some (.str (toS a)), some (.str (toS b)), some (.int (cs a b : Nat)), some (.int (j : Nat))], S', by simp, ?_, rfl, _, rfl⟩
      have e1 := are_alike_eq F a b j S' ha hb (by omega)
      have e2 := are_alike_eq F a a j S' ha ha (by omega)
      rw [cs_self] at e2
      simp [B1_law_looks, e1, e2, says_eq, sizeLine_num, show a.length ≤ 16777216 by omega]
    exact ⟨σ', S', e, h⟩
  rw [hS] at e
  have e6 := lastN_len a (cs a b) hc.1
  simp [f_law_looks, c_b_law_looks, end_eq F a b S ha hb, sizeLine_num, e6, e, show cs a b ≤ 16777216 by omega]
end B_k04_whole_endings_and_words_ali

end
section
namespace B_k04_whole_endings_and_words_ali
open PySem L2 MX
/-! ### the general comparison -/
def tw (w : List Nat) : D := .tup [.str (toS w), .str (toS w)]
theorem same_tail (F : Nat) (q : Nat) (A B : D) : ∀ (n : Nat) (ws : List (List Nat)) (lo : Int) (S : Os) (t3 t4 t5 t6 : Option D), lstAt S q = some (ws.map tw) → ws.length < n →
    ∃ S', mLoop (fun _ => True) (gN 3) (B1_law_same F) (rngD lo n) [some A, some B, some (.loc q), t3, t4, t5, t6] S = .rt (.bl true) S' ∧ But q S S'
  | 0, ws, lo, S, t3, t4, t5, t6, _, h => by omega
  | n + 1, ws, lo, S, t3, t4, t5, t6, h, hn => by
    rw [rngD_succ, mLoop_consT (σ1 := [some A, some B, some (.loc q), some (.int lo), t4, t5, t6]) (h := by simp)]
    rcases ws.eq_nil_or_concat with rfl | ⟨us, w, rfl⟩
    · refine ⟨S, ?_, But.refl _ _⟩
      have h : lstAt S q = some [] := h
      simp [B1_law_same, h]
    · have h : lstAt S q = some (us.map tw ++ [tw w]) := by rw [h]; simp
      have hl : us.length + 1 ≠ 0 := by omega
      have hw : lstAt (S.set q (.lst (us.map tw))) q = some (us.map tw) := lstAt_set h
      obtain ⟨S', e, b⟩ := same_tail F q A B n us (lo + 1) (S.set q (.lst (us.map tw))) (some (.int lo)) (some (.str (toS w))) (some (.str (toS w))) t6 hw (by simp at hn; omega)
      refine ⟨S', ?_, (But.refl q S).set.trans b⟩
      have e2 : B1_law_same F [some A, some B, some (.loc q), some (.int lo), t4, t5, t6] S = .nx [some A, some B, some (.loc q), some (.int lo), some (.str (toS w)), some (.str (toS w)), t6] (S.set q (.lst (us.map tw))) := by
        simp [B1_law_same, h, tw, kinds, hl, show ¬ ((us.length : Int) + 1 = 0) by omega]
      rw [e2]
      exact e
theorem lstAt_get {S : Os} {n : Nat} {l : List D} (h : lstAt S n = some l) : S[n]? = some (O.lst l) := by
  unfold lstAt at h
  cases e : S[n]? with
  | none => rw [e] at h; cases h
  | some o => rw [e] at h; cases o <;> first | (cases h; rfl) | cases h
theorem rngD_pos (lo : Int) (n : Nat) (h : 0 < n) : rngD lo n = .int lo :: rngD (lo + 1) (n - 1) := by
  cases n with
  | zero => omega
  | succ n => exact rngD_succ lo n
theorem mLoop_stepT (g : D → Fr → Os → Option Fr) (b : MS) (x : D) (xs : List D) (σ σ1 σ2 : Fr) (S S2 : Os) (h : g x σ S = some σ1) (h2 : b σ1 S = .nx σ2 S2) : mLoop (fun _ => True) g b (x :: xs) σ S = mLoop (fun _ => True) g b xs σ2 S2 := by
  rw [mLoop_consT g b x xs σ σ1 S h, h2]
theorem But.ext {q : Nat} {S S1 S2 : Os} (a : Ext S S1) (h : S.length ≤ q) (b : But q S1 S2) : Ext S S2 := fun n o e => by
  have := (List.getElem?_eq_some_iff.mp e).1
  rw [b.same n (by omega)]
  exact a n o e
theorem same_str (F : Nat) (w : List Nat) (S : Os) : ∃ S', f_law_same F [.str (toS w), .str (toS w)] S = .ok (.bl true) S' ∧ Ext S S' := by
  obtain ⟨S', e, b⟩ := same_tail F S.length (.str (toS w)) (.str (toS w)) 2000000 [w] 0 (S ++ [.lst [tw w]]) none none none none lstAt_new (by simp)
  refine ⟨S', ?_, But.ext (Ext.app S _) (Nat.le_refl _) b⟩
  have e2 : tw w = .tup [.str (toS w), .str (toS w)] := rfl
  rw [e2] at e
  simp [f_law_same, c_b_law_same, sizeLine_num, e]
end B_k04_whole_endings_and_words_ali

end
section
namespace B_k04_whole_endings_and_words_ali
open PySem L2 MX
theorem same_C (F : Nat) (u v q : Nat) (ws : List (List Nat)) (T : Os) (hu2 : lstAt T u = some (ws.map fun w => .str (toS w))) (hv2 : lstAt T v = some (ws.map fun w => .str (toS w))) (hl : ws.length ≤ 1000) :
    C1_law_same F [some (.loc u), some (.loc v), some (.loc q), some (.int 0), some (.loc u), some (.loc v), none] T = .ok (.loc T.length) (T ++ [.lst (ws.map tw)]) := by
  have := comp_pure (okS := fun _ => True) (g := gN 6) (vs := [6]) (t := mYes) (e := mTup (mCons (mBin ixD (mVar 4) (mVar 6)) (mCons (mBin ixD (mVar 5) (mVar 6)) mNil))) (S0 := T) (σ := [some (.loc u), some (.loc v), some (.loc q), some (.int 0), some (.loc u), some (.loc v), none]) (fun _ => true) (fun x => match x with | .int j => tw (ws.getD j.toNat []) | d => d) (fun _ => trivial) (rngD 0 ws.length) [] (fun x hx a => by
    obtain ⟨j, hj⟩ := List.mem_iff_getElem?.mp hx
    obtain ⟨hj2, rfl⟩ := rngD_get hj
    have a1 := lstAt_app (T := [O.lst a]) hu2
    have a2 := lstAt_app (T := [O.lst a]) hv2
    have a3 : atI (ws.map fun w => D.str (toS w)) (j : Int) = some (.str (toS ws[j])) := by
      rw [atI_nn, List.getElem?_map, List.getElem?_eq_getElem hj2]
      rfl
    refine ⟨[some (.loc u), some (.loc v), some (.loc q), some (.int 0), some (.loc u), some (.loc v), some (.int (0 + j))], by simp, by simp, fun _ => ?_⟩
    simp [a1, a2, a3, tw, hj2, sizeLine_num]) (by rw [rngD_len]; simp; omega)
  have e3 : ([] ++ ((rngD 0 ws.length).filter fun _ => true).map fun x => match x with | .int j => tw (ws.getD j.toNat []) | d => d) = ws.map tw := by
    rw [List.nil_append, List.filter_eq_self.mpr fun _ _ => rfl]
    refine List.ext_getElem? fun i => ?_
    rw [rngD_eq]
    simp only [List.map_map, List.getElem?_map]
    by_cases hi : i < ws.length
    · simp [hi, List.getElem?_eq_getElem hi]
    · simp [hi]
  rw [e3] at this
  unfold C1_law_same
  rw [lc1_nat (n := ws.length) (S1 := T) (by simp [hv2]) (by omega)]
  exact this
end B_k04_whole_endings_and_words_ali

end
section
namespace B_k04_whole_endings_and_words_ali
open PySem L2 MX
theorem same_step (F : Nat) (u v : Nat) (ws : List (List Nat)) (S T : Os) (hT2 : (S ++ [O.lst []]) = T) (hu2 : lstAt T u = some (ws.map fun w => .str (toS w))) (hv2 : lstAt T v = some (ws.map fun w => .str (toS w))) (hq : lstAt T S.length = some []) (hl : ws.length ≤ 1000) :
    B1_law_same F [some (.loc u), some (.loc v), some (.loc S.length), some (.int 0), none, none, none] (S ++ [O.lst [.tup [.loc u, .loc v]]]) = .nx [some (.loc u), some (.loc v), some (.loc S.length), some (.int 0), some (.loc u), some (.loc v), none] ((T ++ [O.lst (ws.map tw)]).set S.length (O.lst (ws.map tw))) := by
  have C := same_C F u v S.length ws T hu2 hv2 hl
  have ku := lstAt_get hu2
  have kv := lstAt_get hv2
  have l1 := lstAt_app (T := [O.lst (ws.map tw)]) hq
  have l2 : lstAt (T ++ [O.lst (ws.map tw)]) T.length = some (ws.map tw) := lstAt_new
  simp [B1_law_same, kinds, hT2, hq, hu2, hv2, C, sizeLine_num, l1, l2, show ws.length ≤ 16777216 by omega, ku, kv]
end B_k04_whole_endings_and_words_ali

end
section
namespace B_k04_whole_endings_and_words_ali
open PySem L2 MX
theorem same_lst (F : Nat) (u v : Nat) (ws : List (List Nat)) (S : Os) (hu : lstAt S u = some (ws.map fun w => .str (toS w))) (hv : lstAt S v = some (ws.map fun w => .str (toS w))) (hl : ws.length ≤ 1000) :
    ∃ S', f_law_same F [.loc u, .loc v] S = .ok (.bl true) S' ∧ Ext S S' := by
  have x2 : Ext S (S ++ [O.lst []]) := Ext.app S _
  have hq : lstAt (S ++ [O.lst []]) S.length = some [] := lstAt_new
  obtain ⟨N, hN⟩ : ∃ N, N = 2000000 - 1 := ⟨_, rfl⟩
  have e2 := same_step F u v ws S _ rfl (x2.lst hu) (x2.lst hv) hq hl
  obtain ⟨S', e, b⟩ := same_tail F S.length (.loc u) (.loc v) N ws (0 + 1) (((S ++ [O.lst []]) ++ [O.lst (ws.map tw)]).set S.length (O.lst (ws.map tw))) (some (.int 0)) (some (.loc u)) (some (.loc v)) none (lstAt_set (lstAt_app hq)) (by omega)
  refine ⟨S', ?_, But.ext ((x2.trans (Ext.app (S ++ [O.lst []]) _)).set (Nat.le_refl _)) (Nat.le_refl _) b⟩
  have e3 := mLoop_stepT (gN 3) (B1_law_same F) (.int 0) (rngD (0 + 1) N) [some (.loc u), some (.loc v), some (.loc S.length), none, none, none, none] _ _ (S ++ [O.lst [.tup [.loc u, .loc v]]]) _ (by simp) e2
  have L := e3.trans e
  rw [hN, ← rngD_pos 0 2000000 (by omega)] at L
  simp [f_law_same, c_b_law_same, sizeLine_num, L]
end B_k04_whole_endings_and_words_ali

end
section
namespace B_k04_whole_endings_and_words_ali
open PySem L2 MX
theorem repStr_toS (l : List Nat) (n : Nat) : repStr (toS l) n = toS (List.replicate n l).flatten := rfl
theorem some_eq (F : Nat) (S : Os) (st : Nat) (h : Strm S st) :
    ∃ ls e l S', f_law_some F [.loc st] S = .ok (.loc l) S' ∧ lstAt S' l = some [.str (toS ls), .str (toS e)] ∧ ls ≠ [] ∧ ls.length ≤ 26 ∧ (∀ c ∈ ls, c ∈ abc) ∧ Wd e 479 ∧ Strm S' st := by
  obtain ⟨d1, S1, e1, a1, b1, s1, _⟩ := next_eq F S st 20 h (by decide) (by decide)
  obtain ⟨d2, S2, e2, a2, b2, s2, _⟩ := next_eq F S1 st 6 s1 (by decide) (by decide)
  have c1 := cut_from abc d1 d1.toNat (by omega)
  have c2 := cut_to (abc.drop d1.toNat) (1 + d2) (1 + d2).toNat (by omega)
  have l0 : abc.length = 26 := by decide
  have l1 : (abc.drop d1.toNat).length ≤ 26 := by rw [List.length_drop]; omega
  obtain ⟨ls, hls⟩ : ∃ ls, ls = (abc.drop d1.toNat).take (1 + d2).toNat := ⟨_, rfl⟩
  rw [← hls] at c2
  have hpos : 0 < ls.length := by rw [hls, List.length_take, List.length_drop]; omega
  have hmax : ls.length ≤ 26 := by rw [hls, List.length_take, List.length_drop]; omega
  have hne : ls ≠ [] := List.length_pos_iff.mp hpos
  have habc : ∀ c ∈ ls, c ∈ abc := fun c hc => by
    rw [hls] at hc
    exact List.mem_of_mem_drop (List.mem_of_mem_take hc)
  obtain ⟨e, S3, e3, w3, s3, _⟩ := word_eq F S2 st 15 ls s2 hne hmax habc (by decide)
  have e3' : f_law_word F [.loc st, .str (toS ls), .int 0, .int 15] S2 = .ok (.str (toS e)) S3 := e3
  obtain ⟨d3, S4, e4, a4, b4, s4, _⟩ := next_eq F S3 st 10 s3 (by decide) (by decide)
  by_cases h0 : d3 = 0
  · obtain ⟨d5, S5, e5, a5, b5, s5, _⟩ := next_eq F S4 st 80 s4 (by decide) (by decide)
    have ea := atI_some (l := ls) (i := 0) 0 rfl (List.getElem?_eq_getElem hpos)
    have we := w3.len
    obtain ⟨big, hbig⟩ : ∃ big, big = (List.replicate 500 (e ++ [ls[0]])).flatten := ⟨_, rfl⟩
    have rp : repStr (toS (e ++ [ls[0]])) 500 = toS big := by rw [hbig]; rfl
    have c5 := cut_to big (400 + d5) (400 + d5).toNat (by omega)
    have lf : big.length = 500 * (e.length + 1) := by
      rw [hbig, List.length_flatten, List.map_replicate, List.sum_replicate_nat, List.length_append]
      rfl
    refine ⟨ls, big.take (400 + d5).toNat, S5.length, S5 ++ [O.lst [.str (toS ls), .str (toS (big.take (400 + d5).toNat))]], ?_, lstAt_new, hne, hmax, habc, ⟨?_, fun c hc => ?_⟩, s5.ext (Ext.app _ _)⟩
    · simp [f_law_some, c_b_law_some, e1, e2, abc_eq, c1, c2, l0, l1, e3', e4, h0, sizeLine_num, ea, show ls.length ≤ 16777216 by omega, show e.length + 1 ≤ 16777216 by omega, show (e.length + 1) * 500 ≤ 1000000 by omega, show e.length + 1 ≤ 1000000 by omega, show (26 - d1.toNat) ≤ 16777216 by omega, rp, e5, c5, show big.length ≤ 16777216 by omega]
    · rw [List.length_take]
      omega
    · have hc := List.mem_of_mem_take hc
      rw [hbig] at hc
      obtain ⟨l, hl, hc⟩ := List.mem_flatten.mp hc
      have := List.eq_of_mem_replicate hl
      subst this
      rcases List.mem_append.mp hc with hc | hc
      · exact w3.abc c hc
      · rw [List.mem_singleton.mp hc]
        exact habc _ (List.getElem_mem hpos)
  · refine ⟨ls, e, S4.length, S4 ++ [O.lst [.str (toS ls), .str (toS e)]], ?_, lstAt_new, hne, hmax, habc, ⟨Nat.le_trans w3.len (by decide), w3.abc⟩, s4.ext (Ext.app _ _)⟩
    simp [f_law_some, c_b_law_some, e1, e2, abc_eq, c1, c2, l0, l1, e3', e4, h0, sizeLine_num, show (26 - d1.toNat) ≤ 16777216 by omega]
theorem with_eq (F : Nat) (S : Os) (st : Nat) (ls e : List Nat) (h : Strm S st) (h1 : ls ≠ []) (h2 : ls.length ≤ 26) (h3 : ∀ c ∈ ls, c ∈ abc) (he : Wd e 479) :
    ∃ w S', f_law_with F [.loc st, .str (toS ls), .str (toS e)] S = .ok (.str (toS w)) S' ∧ Wd w 485 ∧ Strm S' st := by
  obtain ⟨d1, S1, e1, a1, b1, s1, _⟩ := next_eq F S st 5 h (by decide) (by decide)
  have le := he.len
  by_cases h0 : d1 = 0
  · refine ⟨e, S1, ?_, ⟨by omega, he.abc⟩, s1⟩
    simp [f_law_with, c_b_law_with, e1, h0]
  · by_cases h01 : d1 = 1
    · obtain ⟨d2, S2, e2, a2, b2, s2, _⟩ := next_eq F S1 st ((e.length : Int) + 1) s1 (by omega) (by omega)
      have c2 := cut_from e d2 d2.toNat (by omega)
      refine ⟨e.drop d2.toNat, S2, ?_, ⟨by rw [List.length_drop]; omega, fun c hc => he.abc c (List.mem_of_mem_drop hc)⟩, s2⟩
      simp [f_law_with, c_b_law_with, e1, h0, h01, sizeLine_num, show e.length ≤ 16777216 by omega, e2, c2]
    · obtain ⟨w, S2, e2, w2, s2, _⟩ := word_eq F S1 st 6 ls s1 h1 h2 h3 (by decide)
      have e2' : f_law_word F [.loc st, .str (toS ls), .int 0, .int 6] S1 = .ok (.str (toS w)) S2 := e2
      have lw := w2.len
      refine ⟨w ++ e, S2, ?_, ⟨by rw [List.length_append]; omega, fun c hc => (List.mem_append.mp hc).elim (w2.abc c) (he.abc c)⟩, s2⟩
      simp [f_law_with, c_b_law_with, e1, h0, h01, sizeLine_num, e2', show w.length + e.length ≤ 16777216 by omega]
end B_k04_whole_endings_and_words_ali

end
section
namespace B_k04_whole_endings_and_words_ali
open PySem L2 MX
theorem mSeq_nx {a b : MS} {σ σ1 : Fr} {S S1 : Os} (h : a σ S = .nx σ1 S1) : mSeq a b σ S = b σ1 S1 := by
  simp only [mSeq, h, SRes.seq]
theorem turn_eq (F : Nat) (hF : 500 < F) (S : Os) (st : Nat) (h : Strm S st) (sc t : D) (x3 x4 x5 x6 x7 x8 x9 x10 x11 : Option D) :
    ∃ y3 y4 y5 y6 y7 y8 y9 y10 y11 S', B1_law F [some sc, some (.loc st), some t, x3, x4, x5, x6, x7, x8, x9, x10, x11] S = .nx [some sc, some (.loc st), some t, y3, y4, y5, y6, y7, y8, y9, y10, y11] S' ∧ Strm S' st := by
  obtain ⟨ls, e, l, S1, e1, g1, n1, n2, n3, w1, s1⟩ := some_eq F S st h
  obtain ⟨a, S2, e2, w2, s2⟩ := with_eq F S1 st ls e s1 n1 n2 n3 w1
  obtain ⟨b, S3, e3, w3, s3⟩ := with_eq F S2 st ls e s2 n1 n2 n3 w1
  obtain ⟨c, S4, e4, w4, s4⟩ := with_eq F S3 st ls e s3 n1 n2 n3 w1
  have pa := w2.plain (by decide)
  have pb := w3.plain (by decide)
  have pc := w4.plain (by decide)
  have la := w2.len
  have lb := w3.len
  have cab := cs_le a b
  have cbc := cs_le b c
  have hab : lastN b (cs b a) = lastN a (cs a b) := by
    rw [cs_comm b a]
    exact (cs_iff.mp (Nat.le_refl (cs a b))).2.2.symm
  have haa : lastN a (cs a a) = a := by
    rw [cs_self]
    simp [lastN]
  have e5 := end_eq F a b S4 pa pb
  have e6 := common_end_eq F a b S4 pa pb hF
  have e7 := common_end_eq F b a S4 pb pa hF
  have e8 := common_end_eq F a a S4 pa pa hF
  rw [hab] at e7
  rw [haa] at e8
  obtain ⟨due, hdue⟩ : ∃ due, due = lastN a (cs a b) := ⟨_, rfl⟩
  have ldue : due.length = cs a b := by rw [hdue]; exact lastN_len a _ cab.1
  rw [← hdue] at e5 e6 e7
  obtain ⟨S5, e9, x9'⟩ := same_lst F S4.length (S4.length + 1) [due, due, a] (S4 ++ [O.lst [.str (toS due), .str (toS due), .str (toS a)], O.lst [.str (toS due), .str (toS due), .str (toS a)]]) (by simp [lstAt]) (by simp [lstAt]) (by simp)
  have s5 : Strm S5 st := (s4.ext (Ext.app _ _)).ext x9'
  have e10 := looks_eq F a b S5 pa pb
  have e11 := looks_eq F b c S5 pb pc
  obtain ⟨d, S6, e12, w6, s6, _⟩ := word_eq F S5 st 9 ls s5 n1 n2 n3 (by decide)
  have e12' : f_law_word F [.loc st, .str (toS ls), .int 0, .int 9] S5 = .ok (.str (toS d)) S6 := e12
  have ld := w6.len
  have pad : Plain (a ++ d) := pa.app (w6.plain (by decide)) (by rw [List.length_append]; omega)
  have pbd : Plain (b ++ d) := pb.app (w6.plain (by decide)) (by rw [List.length_append]; omega)
  have hdd : lastN (a ++ d) (cs (a ++ d) (b ++ d)) = due ++ d := by
    rw [cs_app, lastN_app a d _ cab.1, hdue]
  have e13 := common_end_eq F (a ++ d) (b ++ d) S6 pad pbd hF
  rw [hdd] at e13
  obtain ⟨S7, e14, x14⟩ := same_str F (due ++ d) S6
  obtain ⟨k, S8, e15, a15, b15, s8, _⟩ := next_eq F S7 st 13 (s6.ext x14) (by decide) (by decide)
  obtain ⟨kn, rfl⟩ := Int.eq_ofNat_of_zero_le a15
  have e16 := end_eq F b c S8 pb pc
  obtain ⟨due2, hdue2⟩ : ∃ due2, due2 = lastN b (cs b c) := ⟨_, rfl⟩
  have ldue2 : due2.length = cs b c := by rw [hdue2]; exact lastN_len b _ cbc.1
  rw [← hdue2] at e16
  have e17 := are_alike_eq F a c kn S8 pa pc (by omega)
  have e18 : kn ≤ cs a b → f_are_alike F [.str (toS (a ++ d)), .str (toS (b ++ d)), .int (if (kn : Int) + (d.length : Int) < 12 then (kn : Int) + (d.length : Int) else 12)] S8 = .ok (.bl true) S8 := fun hk => by
    by_cases q : (kn : Int) + (d.length : Int) < 12
    · rw [if_pos q]
      have := are_alike_eq F (a ++ d) (b ++ d) (kn + d.length) S8 pad pbd (by omega)
      rw [cs_app, decide_eq_true (show kn + d.length ≤ cs a b + d.length by omega)] at this
      simpa using this
    · rw [if_neg q]
      have := are_alike_eq F (a ++ d) (b ++ d) 12 S8 pad pbd (by omega)
      rw [cs_app, decide_eq_true (show 12 ≤ cs a b + d.length by omega)] at this
      exact this
  have e19 : kn ≤ cs a b → kn ≤ cs b c → kn ≤ cs a c := fun h1 h2 => by
    obtain ⟨q1, q2, q3⟩ := cs_iff.mp h1
    obtain ⟨q4, q5, q6⟩ := cs_iff.mp h2
    exact cs_iff.mpr ⟨q1, q5, q3.trans q6⟩
  refine ⟨some (.str (toS a)), some (.str (toS b)), some (.str (toS c)), some (.str (toS due)), some (.loc S4.length), some (.str (toS d)), some (.int kn), some (.str (toS ls)), some (.str (toS e)), S8, ?_, s8⟩
  unfold B1_law
  clear hF hab haa hdue hdue2 hdd x9' x14
  generalize f_law_same F = gs at *
  generalize f_common_end F = gc at *
  generalize f_law_looks F = gl at *
  generalize f_law_with F = gw at *
  generalize f_law_some F = gso at *
  generalize f_law_word F = gwo at *
  generalize f_law_end F = ge at *
  generalize f_are_alike F = ga at *
  generalize f_law_next F = gn at *
  refine (mSeq_nx (σ1 := [some sc, some (.loc st), some t, x3, x4, x5, x6, x7, x8, x9, some (.str (toS ls)), some (.str (toS e))]) (S1 := S1) (by simp [e1, g1])).trans ?_
  refine (mSeq_nx (σ1 := [some sc, some (.loc st), some t, some (.str (toS a)), x4, x5, x6, x7, x8, x9, some (.str (toS ls)), some (.str (toS e))]) (S1 := S2) (by simp [e2])).trans ?_
  refine (mSeq_nx (σ1 := [some sc, some (.loc st), some t, some (.str (toS a)), some (.str (toS b)), x5, x6, x7, x8, x9, some (.str (toS ls)), some (.str (toS e))]) (S1 := S3) (by simp [e3])).trans ?_
  refine (mSeq_nx (σ1 := [some sc, some (.loc st), some t, some (.str (toS a)), some (.str (toS b)), some (.str (toS c)), x6, x7, x8, x9, some (.str (toS ls)), some (.str (toS e))]) (S1 := S4) (by simp [e4])).trans ?_
  refine (mSeq_nx (σ1 := [some sc, some (.loc st), some t, some (.str (toS a)), some (.str (toS b)), some (.str (toS c)), some (.str (toS due)), x7, x8, x9, some (.str (toS ls)), some (.str (toS e))]) (S1 := S4) (by simp [e5])).trans ?_
  refine (mSeq_nx (σ1 := [some sc, some (.loc st), some t, some (.str (toS a)), some (.str (toS b)), some (.str (toS c)), some (.str (toS due)), some (.loc S4.length), x8, x9, some (.str (toS ls)), some (.str (toS e))]) (S1 := S4 ++ [O.lst [.str (toS due), .str (toS due), .str (toS a)]]) (by simp [e6, e7, e8, sizeLine_num])).trans ?_
  refine (mSeq_nx (σ1 := [some sc, some (.loc st), some t, some (.str (toS a)), some (.str (toS b)), some (.str (toS c)), some (.str (toS due)), some (.loc S4.length), x8, x9, some (.str (toS ls)), some (.str (toS e))]) (S1 := S5) (by simp [e9, sizeLine_num])).trans ?_
  refine (mSeq_nx (σ1 := [some sc, some (.loc st), some t, some (.str (toS a)), some (.str (toS b)), some (.str (toS c)), some (.str (toS due)), some (.loc S4.length), x8, x9, some (.str (toS ls)), some (.str (toS e))]) (S1 := S5) (by simp [e10, e11])).trans ?_
  refine (mSeq_nx (σ1 := [some sc, some (.loc st), some t, some (.str (toS a)), some (.str (toS b)), some (.str (toS c)), some (.str (toS due)), some (.loc S4.length), some (.str (toS d)), x9, some (.str (toS ls)), some (.str (toS e))]) (S1 := S6) (by simp [e12'])).trans ?_
  refine (mSeq_nx (σ1 := [some sc, some (.loc st), some t, some (.str (toS a)), some (.str (toS b)), some (.str (toS c)), some (.str (toS due)), some (.loc S4.length), some (.str (toS d)), x9, some (.str (toS ls)), some (.str (toS e))]) (S1 := S7) (by simp [e13, e14, sizeLine_num, show a.length + d.length ≤ 16777216 by omega, show b.length + d.length ≤ 16777216 by omega, show cs a b + d.length ≤ 16777216 by omega, show cs a b ≤ 16777216 by omega, show cs b c ≤ 16777216 by omega, show d.length ≤ 16777216 by omega, ldue, ldue2])).trans ?_
  refine (mSeq_nx (σ1 := [some sc, some (.loc st), some t, some (.str (toS a)), some (.str (toS b)), some (.str (toS c)), some (.str (toS due)), some (.loc S4.length), some (.str (toS d)), some (.int kn), some (.str (toS ls)), some (.str (toS e))]) (S1 := S8) (by simp [e15])).trans ?_
  by_cases h1 : kn ≤ cs a b
  · have e18' := e18 h1
    by_cases h2 : kn ≤ cs b c
    · have e19' := e19 h1 h2
      rw [decide_eq_true e19'] at e17
      refine (mSeq_nx (σ1 := [some sc, some (.loc st), some t, some (.str (toS a)), some (.str (toS b)), some (.str (toS c)), some (.str (toS due)), some (.loc S4.length), some (.str (toS d)), some (.int kn), some (.str (toS ls)), some (.str (toS e))]) (S1 := S8) (by simp [e16, e17, h1, h2, sizeLine_num, show a.length + d.length ≤ 16777216 by omega, show b.length + d.length ≤ 16777216 by omega, show cs a b + d.length ≤ 16777216 by omega, show cs a b ≤ 16777216 by omega, show cs b c ≤ 16777216 by omega, show d.length ≤ 16777216 by omega, ldue, ldue2])).trans ?_
      simp [e18', h1, sizeLine_num, show a.length + d.length ≤ 16777216 by omega, show b.length + d.length ≤ 16777216 by omega, show cs a b + d.length ≤ 16777216 by omega, show cs a b ≤ 16777216 by omega, show cs b c ≤ 16777216 by omega, show d.length ≤ 16777216 by omega, ldue, ldue2]
    · refine (mSeq_nx (σ1 := [some sc, some (.loc st), some t, some (.str (toS a)), some (.str (toS b)), some (.str (toS c)), some (.str (toS due)), some (.loc S4.length), some (.str (toS d)), some (.int kn), some (.str (toS ls)), some (.str (toS e))]) (S1 := S8) (by simp [e16, h1, h2, sizeLine_num, show a.length + d.length ≤ 16777216 by omega, show b.length + d.length ≤ 16777216 by omega, show cs a b + d.length ≤ 16777216 by omega, show cs a b ≤ 16777216 by omega, show cs b c ≤ 16777216 by omega, show d.length ≤ 16777216 by omega, ldue, ldue2])).trans ?_
      simp [e18', h1, sizeLine_num, show a.length + d.length ≤ 16777216 by omega, show b.length + d.length ≤ 16777216 by omega, show cs a b + d.length ≤ 16777216 by omega, show cs a b ≤ 16777216 by omega, show cs b c ≤ 16777216 by omega, show d.length ≤ 16777216 by omega, ldue, ldue2]
  · refine (mSeq_nx (σ1 := [some sc, some (.loc st), some t, some (.str (toS a)), some (.str (toS b)), some (.str (toS c)), some (.str (toS due)), some (.loc S4.length), some (.str (toS d)), some (.int kn), some (.str (toS ls)), some (.str (toS e))]) (S1 := S8) (by simp [e16, h1, sizeLine_num, show a.length + d.length ≤ 16777216 by omega, show b.length + d.length ≤ 16777216 by omega, show cs a b + d.length ≤ 16777216 by omega, show cs a b ≤ 16777216 by omega, show cs b c ≤ 16777216 by omega, show d.length ≤ 16777216 by omega, ldue, ldue2])).trans ?_
    simp [h1, sizeLine_num, show a.length + d.length ≤ 16777216 by omega, show b.length + d.length ≤ 16777216 by omega, show cs a b + d.length ≤ 16777216 by omega, show cs a b ≤ 16777216 by omega, show cs b c ≤ 16777216 by omega, show d.length ≤ 16777216 by omega, ldue, ldue2]
def FUEL : Nat := 1000000
theorem law_true (ns : List Int) (hns : ns.length ≤ 63) : ∃ S, f_law FUEL [.rl (ns.map D.int)] [] = .ok (.bl true) S := by
  have s0 : Strm [O.lst (ns.map D.int), O.lst [.loc 0, .int 0, .int 0]] 1 := ⟨0, ns, 0, 0, rfl, rfl, by decide, by decide, by decide⟩
  obtain ⟨σ', S', e, ⟨y2, y3, y4, y5, y6, y7, y8, y9, y10, y11, hσ⟩, hS⟩ := loop_rng_nx (g := gN 2) (b := B1_law FUEL) (lo := 0) (n := 3) (σ := [some (.rl (ns.map D.int)), some (.loc 1), none, none, none, none, none, none, none, none, none, none]) (S := [O.lst (ns.map D.int), O.lst [.loc 0, .int 0, .int 0]])
    (fun j σ S' => (∃ y2 y3 y4 y5 y6 y7 y8 y9 y10 y11, σ = [some (.rl (ns.map D.int)), some (.loc 1), y2, y3, y4, y5, y6, y7, y8, y9, y10, y11]) ∧ Strm S' 1) ⟨⟨none, none, none, none, none, none, none, none, none, none, rfl⟩, s0⟩ (fun j σ S' hj ⟨⟨y2, y3, y4, y5, y6, y7, y8, y9, y10, y11, hσ⟩, hs⟩ => by
      subst hσ
      obtain ⟨z3, z4, z5, z6, z7, z8, z9, z10, z11, S2, e, s2⟩ := turn_eq FUEL (by decide) S' 1 hs (.rl (ns.map D.int)) (.int (0 + j)) y3 y4 y5 y6 y7 y8 y9 y10 y11
      exact ⟨_, _, S2, rfl, e, ⟨_, z3, z4, z5, z6, z7, z8, z9, z10, z11, rfl⟩, s2⟩)
  refine ⟨S', ?_⟩
  have e1 : f_law_stream FUEL [.rl (ns.map D.int)] [] = .ok (.loc 1) [O.lst (ns.map D.int), O.lst [.loc 0, .int 0, .int 0]] := by
    simp [f_law_stream, c_b_law_stream, sizeLine_num, show ns.length ≤ 16777216 by omega]
  simp [f_law, c_b_law, e1, e]
end B_k04_whole_endings_and_words_ali

end
set_option maxHeartbeats 0
open PySem PySem.Spec PyProof.Rows L2
namespace B_k04_whole_endings_and_words_ali
abbrev R : PySem.W.OpenRow := PySem.W.OpenLaw.row PySem.Challenge.rw_backseen_k04_whole_endings_and_words_ali
abbrev hk : PySem.W.Hook := He.hookD 4 fa fn
def ob (s : PySem.W.SharedT) : He.AlD := He.obsDG 4 fa fn (HandSHeadRun.getT s)
theorem ob_eq (s : PySem.W.SharedT) : ob s = hk.obs s.abs := He.obsDG_eq (HandSHeadRun.getT_eq s)
def loose : List PySem.Str := ["__name__", "SeenError", "BadValue", "ALPHABET", "MOST_ASKED_LETTERS", "MOST_LOOK", "is_over", "is_integer_within", "is_look", "is_plain", "need_look", "need_plain_words", "ending", "alike", "common_end", "are_alike", "_law_stream", "_law_next", "_law_pick", "_law_word", "_law_says", "_law_same", "_law_some", "_law_with", "_law_end", "_law_looks"]
theorem run (w : World) : HandSHeadRun.RunEq R (PySem.W.view R.prog [28]) hk ob 2000 loose w := by
  intro os
  kernel_rfl
end B_k04_whole_endings_and_words_ali
open PySem PySem.W PySem.Calls PyProof.Rows
theorem PySem.Challenge.cw_backseen_k04_whole_endings_and_words_ali_holds : PySem.Challenge.rw_backseen_k04_whole_endings_and_words_ali.Holds := by
  w_on; o_law
  refine HandSHeadRun.head_any (r := OpenLaw.row PySem.Challenge.rw_backseen_k04_whole_endings_and_words_ali) (q := view (OpenLaw.row PySem.Challenge.rw_backseen_k04_whole_endings_and_words_ali).prog [28]) (H := B_k04_whole_endings_and_words_ali.hk) (ob := B_k04_whole_endings_and_words_ali.ob) (M := 2000) (loose := B_k04_whole_endings_and_words_ali.loose) (d := HandSHeadRun.topDef (OpenLaw.row PySem.Challenge.rw_backseen_k04_whole_endings_and_words_ali).prog 28) (kwd := []) B_k04_whole_endings_and_words_ali.ob_eq
    (by kernel_rfl) (fun s => by kernel_rfl) B_k04_whole_endings_and_words_ali.run (by kernel_rfl) (by kernel_rfl) (by kernel_rfl) (by rfl) (by first | assumption | decide +kernel) (by decide +kernel) ⟨rfl, rfl, rfl, rfl, rfl, by decide +kernel⟩ ?hw ?hc
  case hw => w_witness2
  case hc =>
    refine MX.walk_data (l := PySem.Challenge.rw_backseen_k04_whole_endings_and_words_ali) (n := 63) (k := 7) (x := "script") rfl (by decide) (by kernel_rfl) ⟨rfl, by decide, by decide⟩ B_k04_whole_endings_and_words_ali.law_true ?_
    intro w mg fa h Y G hmg0
    obtain ⟨K, KX, c⟩ := Y
    have hmg : mg ("law" : PySem.Str) = some (.ref fa) := by
      have e : (HandSHeadRun.topDef (OpenLaw.row PySem.Challenge.rw_backseen_k04_whole_endings_and_words_ali).prog 28).name = ("law" : PySem.Str) := by kernel_rfl
      rw [← e]
      exact hmg0
    obtain ⟨fd, FD⟩ := c.def_ 20 (d := B_k04_whole_endings_and_words_ali.d_law) rfl
    have e := hmg.symm.trans (He.glo_ok KX G (c.fact 20 (f := .glo "law") rfl))
    cases e
    have b := L2.FunD.bindsA (ps := ["script"]) FD fun _ _ _ _ _ _ us hl => match us, hl with | [_], _ => rfl
    exact ⟨K, fd, KX, fun s v => b s [v] rfl, fun base _ _ => B_k04_whole_endings_and_words_ali.okf_law B_k04_whole_endings_and_words_ali.FUEL KX G c FD⟩

