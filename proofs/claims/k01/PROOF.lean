import PyProof.Rows.All
import Wide.All
import OpenK.AllK
import Wide.FinOn
import PyProof.StrWalks
import HandS.ForMost
import HandS.Strs
import PyProof.MeetsSeq2
import HandS.ForExc
import HandS.AnyAll
import HandS.HeadHook4
import HandS.Lambda
import HandS.IsInst
import HandS.Style
import HandS.TupLe
import PyProof.StrOps2
import HandS.ExcCtx
import HandS.TupAny
import HandS.Defaults
import HandS.HeadHook2
import HandS.NoneIn
import HandS.More
import PyProof.TypeEq
import HandS.HeadEnd
import HandS.HeadWalk
import HandS.Text
import HandS.Dict
import HandS.Conv
import HandS.Replace
import HandS.SortKw
import HandS.Deep
import KE.SortData
import HandS.GenOver
import PyProof.GenRules
import PyProof.GenQ
import HandS.GenList
import PyProof.CodeObjX
import PyProof.SumWalk
import HandS.ForDict
import KE.SortKeyHeap
import KE.KDictSum
import HandS.DeepEq
import HandS.ExcInit
import HandS.ExcSuper
import HandS.FStr
import KE.KExcSuper
import HandS.TryOnly
import HandS.ExcIs
import HandS.ExcField
import PyProof.SliceStr2
import HandS.Flt
import HandS.Comp
import HandS.Iter
import HandS.HotCalls
import HandS.ListEq
import HandS.Head0
import HandS.Head1
import HandS.Head2
import HandS.HeadHook1
import PySem.Challenge.RW_backseen_k01_letters_words_and_looks
set_option Elab.async false
set_option linter.all false
set_option maxRecDepth 100000
section
namespace MX
open PySem PySem.Spec PyProof.Rows

/-- the unlike signs of the first i ones -/
def step1 (l : List Str) (c : Nat) : List Str := if l.any (· == (⟨#[c]⟩ : Str)) then l else l ++ [⟨#[c]⟩]
def met1 (x : Str) (i : Nat) : List Str := ((x.cps.toList.take i)).foldl step1 []
theorem met1_succ (x : Str) (i c : Nat) (h : x.cps[i]? = some c) : met1 x (i + 1) = step1 (met1 x i) c := by
  unfold met1
  have h2 : x.cps.toList[i]? = some c := by rw [Array.getElem?_toList]; exact h
  rw [List.take_succ, h2, List.foldl_append]
  rfl
theorem step1_any (l : List Str) (c : Nat) (k : Str) : (step1 l c).any (· == k) = (l.any (· == k) || decide (k = ⟨#[c]⟩)) := by
  unfold step1
  by_cases hc : l.any (· == (⟨#[c]⟩ : Str)) = true
  · rw [if_pos hc]
    by_cases e : k = ⟨#[c]⟩
    · subst e; simp [hc]
    · simp [e]
  · rw [if_neg hc, List.any_append]
    by_cases e : k = ⟨#[c]⟩
    · subst e; simp
    · have hb : ((⟨#[c]⟩ : Str) == k) = false := by simpa [beq_iff_eq] using (fun h' => e (Eq.symm h'))
      simp [hb, e]
theorem step1_len (l : List Str) (c : Nat) : (step1 l c).length = if l.any (· == (⟨#[c]⟩ : Str)) = true then l.length else l.length + 1 := by
  unfold step1
  split <;> simp
theorem met1_mono (x : Str) : ∀ i j, i ≤ j → (met1 x i).length ≤ (met1 x j).length := by
  intro i j h
  induction h with
  | refl => exact Nat.le_refl _
  | step h ih =>
    rename_i m
    refine Nat.le_trans ih ?_
    cases e : x.cps[m]? with
    | none =>
      unfold met1
      have : x.cps.size ≤ m := by simpa using e
      rw [List.take_of_length_le (by simpa using this), List.take_of_length_le (by simp; omega)]
      exact Nat.le_refl _
    | some c =>
      rw [met1_succ x m c e, step1_len]
      split <;> omega

section
variable {prog : Program} {w : World} {A : Around} {R : Result → Shared → Prop} {I : Addr} {fp wr : List Addr} {G : Array GenState → Array GenState → Prop} {n : Nat} {St : Nat → Shared → Prop}
theorem loopSigns {x : Str} (W : WalksS prog w A.in1 I fp wr G n (SignAt x) St) (S : Addr) (hSf : S ∉ fp) (hb : (met1 x n).length + 1 < scanBound) :
    ∀ (k i : Nat) (s : Shared), n - i = k → i ≤ n → St i s →
      s.heap.SetOf (PySem.strKind prog w) S (fun k' => (met1 x i).any (· == k')) (met1 x i).length →
      (∀ s', Moved (S :: wr) G s s' → s'.heap.SetOf (PySem.strKind prog w) S (fun k' => (met1 x n).any (· == k')) (met1 x n).length → R (.ok (.ret .none)) s') →
      codeAny (model prog w) A (.builtin "set.update.loop" ⟨[.ref S, .ref I], []⟩) R s := by
  have hSw : S ∉ wr := fun h => hSf (W.sub _ h)
  have hsub : ∀ b ∈ wr, b ∈ S :: wr := fun b hb => List.mem_cons_of_mem _ hb
  intro k
  induction k with
  | zero =>
    intro i s hk hi hst hS hR
    have hin : i = n := by omega
    subst hin
    refine codeAny_builtin PyProof.Rows.F.entry_set_update_loop ?_
    rw [Around.under_plainId PyProof.Rows.F.plain_set_update_loop _]
    show wpAny _ A.in1 (pyNext (.ref I) >>= _) _ _ s
    refine wpAny_bind (W.done s _ _ hst fun s' hm => ?_)
    show wpAny _ A.in1 (ret Value.none) _ _ s'
    exact wpAny_pure (hR s' (hm.mono hsub) (by
      obtain ⟨o, es, ep, t, ho, rest⟩ := hS
      exact ⟨o, es, ep, t, hm.heap S _ hSw ho, rest⟩))
  | succ k ih =>
    intro i s hk hi hst hS hR
    have hlt : i < n := by omega
    refine codeAny_builtin PyProof.Rows.F.entry_set_update_loop ?_
    rw [Around.under_plainId PyProof.Rows.F.plain_set_update_loop _]
    show wpAny _ A.in1 (pyNext (.ref I) >>= _) _ _ s
    refine wpAny_bind (W.item i s _ _ hlt hst fun v s' hP hst' hm => ?_)
    obtain ⟨c, t, hc, rfl⟩ := hP
    have hS' : s'.heap.SetOf (PySem.strKind prog w) S (fun k' => (met1 x i).any (· == k')) (met1 x i).length := by
      obtain ⟨o, es, ep, tb, ho, rest⟩ := hS
      exact ⟨o, es, ep, tb, hm.heap S _ hSw ho, rest⟩
    show wpAny _ A.in1 (holding [Value.str ⟨#[c]⟩ t] (setAdd S (.str ⟨#[c]⟩ t)) >>= _) _ _ s'
    refine wpAny_bind (wpAny_holding ?_)
    unfold setAdd
    refine wpAny_holding ?_
    refine wpAny_bind ((PySem.strKind prog w).pyHash (k := ⟨#[c]⟩) (strKind_is _ _ _ _) ?_)
    have hroom : (met1 x i).length + 1 < scanBound := by have := met1_mono x i n hi; omega
    refine wpAny_setAddHashed_of (knd := PySem.strKind prog w) (s := { s' with toks := s'.toks + 1 }) (strKind_is _ _ _ _) rfl hS' hroom fun h' hsb hS2 => ?_
    have hSi : h'.SetOf (PySem.strKind prog w) S (fun k' => (met1 x (i + 1)).any (· == k')) (met1 x (i + 1)).length :=
      SetOf_congr hS2 (fun k' => by rw [met1_succ x i c hc, step1_any]) (by rw [met1_succ x i c hc, step1_len])
    refine wpAny_pure ⟨plainId_quiet PyProof.Rows.F.plain_set_update_loop _, ih (i + 1) _ (by omega) hlt (W.frame _ s' _ _ hst' (Nat.le_succ _) fun b hb o e => ?_) hSi fun s'' hm'' hS'' => ?_⟩
    · rw [hsb.2 b (fun h : b = S => hSf (by rw [← h]; exact hb))]; exact e
    · refine hR s'' (Moved.trans W.gtrans ((hm.mono hsub).then_heap (Nat.le_succ _) fun b o hb e => ?_) hm'') hS''
      rw [hsb.2 b (fun h : b = S => hb (by rw [h]; exact List.mem_cons_self))]; exact e
end

section
variable {prog : Program} {w : World} {A : Around} {E : Value → Shared → Prop} {s : Shared}
set_option maxHeartbeats 3200000 in
theorem call_set_str {x : Str} {t : Tok} {Q : Value → Shared → Prop}
    (hh : A.handled = none) (hb : (met1 x x.cps.size).length + 1 < scanBound)
    (h : ∀ (h' : Heap) (tk : Nat), h'.SetOf (PySem.strKind prog w) s.heap.objs.size (fun k' => (met1 x x.cps.size).any (· == k')) (met1 x x.cps.size).length →
      (∀ b o, b < s.heap.objs.size → s.heap.get? b = some o → h'.get? b = some o) → Q (.ref s.heap.objs.size) { s with heap := h', toks := tk }) :
    wpAny (model prog w) A (call (.type "set") [.str x t]) Q E s := by
  obtain ⟨c, tl, hmro⟩ := PySem.F.called_set.mro
  have hmade := PySem.F.called_set.made
  have hsub := PySem.F.called_set.sub
  refine wpAny_call (codeAny_of_tree ?_)
  show wpAny _ _ (callAny (.type "set") _) _ _ _
  refine wpAny_pure ⟨Code.quiet_builtin _ (by decide +kernel), codeAny_builtin PySem.F.entry_type_call ?_⟩
  rw [Around.under_plain (weight_type_call_type "set" [.str x t] []) rfl]
  have h1 := PySem.F.called_set.notType
  have h2 := PySem.F.called_set.canCreate
  have hct := PySem.F.typeCall_set_1 (.str x t)
  repeat (any_goals (first | assumption | wp_step))

  refine codeAny_mono (code_set_new_1 (.str x t) (E := E) (Q₁ := fun obj s₁ => ∃ led : Bool, obj = .ref s.heap.objs.size ∧ s₁ = { s with heap := s.heap.push { cls := .type "set", dict := none, data := .set #[] 0 (.fresh 0 0 led) } }) fun led => ⟨led, rfl, rfl⟩) fun r s₁ hr => ?_
  cases r with
  | error e => exact hr
  | ok fl =>
    cases fl with
    | ret obj =>
      obtain ⟨led, rfl, rfl⟩ := hr
      have hS : (s.heap.push { cls := .type "set", dict := none, data := .set #[] 0 (.fresh 0 0 led) }).get? s.heap.objs.size = some { cls := .type "set", dict := none, data := .set #[] 0 (.fresh 0 0 led) } := Heap.get?_push_size _ rfl
      have hT : Shared.TypeIs { s with heap := s.heap.push { cls := .type "set", dict := none, data := .set #[] 0 (.fresh 0 0 led) } } (.ref s.heap.objs.size) "set" := ⟨_, hS, rfl⟩
      have hli := PySem.F.called_set.init.lookup
      have hbi := PySem.F.called_set.init.bind (.ref s.heap.objs.size)
      repeat (any_goals (first | assumption | wp_step))

      refine codeAny_mono (codeAny_call_builtin (R := wants (fun r s₂ => r = .none ∧ ∃ h' tk, s₂ = { s with heap := h', toks := tk } ∧
          h'.SetOf (PySem.strKind prog w) s.heap.objs.size (fun k' => (met1 x x.cps.size).any (· == k')) (met1 x x.cps.size).length ∧
          (∀ b o, b < s.heap.objs.size → s.heap.get? b = some o → h'.get? b = some o)) E) PySem.F.called_set.init.plain PySem.F.entry_set_init (check_set_init_1 hT ?_)) fun r₂ s₂ hr₂ => ?_
      · have hsls : isSubtype (.type "str") (.type "set") = pure false := by rw [isSubtype_type]; kernel_rfl
        have hslf : isSubtype (.type "str") (.type "frozenset") = pure false := by rw [isSubtype_type]; kernel_rfl
        have hne : (Value.type "str" == Value.type "dict") = false := by decide
        unfold Builtin.«set.__init__» noKeywords Builtin.Frozenset.updateFrom
        generalize hPI : pyIter = PI
        wp_walk
        subst hPI
        refine wpAny_pyIter_str fun o St hW hSt0 => ?_
        refine wpAny_bind (wpAny_runValue ?_)
        have hh3 : A.in1.in1.in1.handled = none := by simp [hh]
        have hsz1 : (s.heap.push { cls := .type "set", dict := none, data := .set #[] 0 (.fresh 0 0 led) }).objs.size = s.heap.objs.size + 1 := Heap.size_push _ _
        have hSf : s.heap.objs.size ∉ [(s.heap.push { cls := .type "set", dict := none, data := .set #[] 0 (.fresh 0 0 led) }).objs.size] := by
          rw [hsz1]; simp
        refine loopSigns ((hW A.in1.in1.in1 hh3).toS) s.heap.objs.size hSf hb (x.cps.size - 0) 0 _ (by omega) (Nat.zero_le _) hSt0 ?hS0 ?hR
        case hS0 =>
          have hget : ((s.heap.push { cls := .type "set", dict := none, data := .set #[] 0 (.fresh 0 0 led) }).push o).get? s.heap.objs.size
              = some { cls := .type "set", dict := none, data := .set #[] 0 (.fresh 0 0 led) } := Heap.get?_push_of_some _ hS
          exact PyProof.Rows.SetOf_congr ((PyProof.Rows.setObjOf_fresh (knd := PySem.strKind prog w) led).setOf hget (by unfold scanBound; omega)) (fun _ => rfl) rfl
        case hR =>
          intro s' hm hS'
          obtain ⟨h', g', d', tk', os'⟩ := s'
          have eg : g' = s.gens := hm.gens
          have ed : d' = s.drawn := hm.drawn
          have eo : os' = s.os := hm.os
          subst eg; subst ed; subst eo
          show wpAny _ _ _ _ _ _
          refine wpAny_pure ?_
          show wpAny _ _ (ret Value.none) _ _ _
          refine wpAny_pure ⟨rfl, h', tk', rfl, hS', fun b o' hb e => ?_⟩
          have hb1 : b ≠ s.heap.objs.size := Nat.ne_of_lt hb
          have hb2 : b ≠ (s.heap.push { cls := .type "set", dict := none, data := .set #[] 0 (.fresh 0 0 led) }).objs.size := by
            rw [hsz1]; exact Nat.ne_of_lt (Nat.lt_succ_of_lt hb)
          exact hm.heap b o' (by simp only [List.mem_cons, List.mem_singleton, List.not_mem_nil, or_false, not_or]; exact ⟨hb1, hb2⟩) (Heap.get?_push_of_some _ (Heap.get?_push_of_some _ e))
      · cases r₂ with
        | error e => exact hr₂
        | ok fl₂ =>
          cases fl₂ with
          | ret r =>
            obtain ⟨rfl, h', tk, rfl, hS', hk'⟩ := hr₂
            repeat (any_goals (first | assumption | wp_step))
            exact h _ _ hS' hk'
          | _ => exact hr₂.elim
    | _ => exact hr.elim
end
end MX

end
section
namespace MX
open PySem PySem.Spec PyProof.Rows

theorem sub_set_set : isSubtype (.type "set") (.type "set") = pure true := by rw [isSubtype_type]; kernel_rfl
theorem fills_sub : fillsNumberSlot (.type "set") "sub" = pure true :=
  fillsNumberSlot_of (id := "set.__sub__") (r := some (.builtin "set.__rsub__")) (by rw [typeLookup_type, builtinLookup_eq_fast]; kernel_rfl) (by decide +kernel) (by rw [typeLookup_type, builtinLookup_eq_fast]; kernel_rfl)
theorem slot_set_sub : Slot "set" "__sub__" "set.__sub__" :=
  .of (owner := "set") (n := "__sub__") (by rw [typeLookup_type, builtinLookup_eq_fast]; kernel_rfl) (by decide +kernel) (by decide +kernel) (by decide +kernel)
    (by first | exact .inl (by decide +kernel) | exact .inr (by decide +kernel)) (by rw [isSubtype_type]; kernel_rfl)
theorem entry_set_sub : entryFor table "set.__sub__" = some Builtin.«frozenset.__sub__» :=
  entryFor_alias (id' := "frozenset.__sub__") (by kernel_rfl) rfl (by decide +kernel) (by kernel_rfl)
theorem args_set_sub (a b : Value) : argsOk "set.__sub__" ⟨[a, b], []⟩ := by unfold argsOk; kernel_rfl

section
variable {prog : Program} {w : World} {A : Around} {E : Value → Shared → Prop} {s : Shared}
theorem wpn {α : Type} {M : Model} {c : Prop} [Decidable c] {x y : Sem α} {Q : α → Shared → Prop} (hc : ¬ c) (h : wpAny M A y Q E s) : wpAny M A (if c then x else y) Q E s := by
  rw [if_neg hc]; exact h
theorem wpp {α : Type} {M : Model} {c : Prop} [Decidable c] {x y : Sem α} {Q : α → Shared → Prop} (hc : c) (h : wpAny M A x Q E s) : wpAny M A (if c then x else y) Q E s := by
  rw [if_pos hc]; exact h
theorem anySet_set {a : Addr} {Q : Bool → Shared → Prop} (hT : s.TypeIs (.ref a) "set") (h : Q true s) : wpAny (model prog w) A (Builtin.Frozenset.isAnySet (.ref a)) Q E s := by
  unfold Builtin.Frozenset.isAnySet orM
  refine wpAny_bind (wpAny_isInstance hT sub_set_set ?_)
  exact wpAny_pure h
theorem sizeOf_set {a : Addr} {o : Obj} {es : Array (Int × Value)} {ep : Nat} {t : SetTable} {Q : Nat → Shared → Prop} (ho : s.heap.get? a = some o) (hd : o.data = .set es ep t) (hf : t.fits es.size = true) (h : Q es.size s) :
    wpAny (model prog w) A (Builtin.Frozenset.sizeOf a) Q E s := by
  unfold Builtin.Frozenset.sizeOf
  exact wpAny_bind (wpAny_setEntries_of ho hd hf (wpAny_pure h))

/-- no thing with an identity among them -/
def NoRef (es : Array (Int × Value)) : Prop := ∀ e ∈ es.toList, ∀ a, e.2 ≠ .ref a
theorem noRef_of {K : Type} [DecidableEq K] {knd : KeyKind prog w K} {es : Array (Int × Value)} (h : ElemsOf knd es.toList) : NoRef es := fun e he a q => by
  have := (h e he).2
  rw [q] at this
  exact Bool.noConfusion this

theorem byText {Q : Bool → Shared → Prop} (h : Q (w.params.followText "set-order") s) : wpAny (model prog w) A setsByText Q E s := by
  unfold setsByText
  exact wpAny_bind (wpAny_askSetting (wpAny_pure h))
theorem quiet_of (l : List Addr) {Q : Bool → Shared → Prop} (hl : ∀ a ∈ l, ∃ o es ep t, s.heap.get? a = some o ∧ o.data = .set es ep t ∧ t.fits es.size = true ∧ NoRef es) (h : Q true s) : wpAny (model prog w) A (setsQuiet l) Q E s := by
  unfold setsQuiet
  refine wpAny_bind (wpAny_forIn_list _ (fun rest b s' => b.1 = none ∧ s' = s ∧ ∀ a ∈ rest, a ∈ l) _ ?_ ?_ l _ ⟨rfl, rfl, fun _ q => q⟩)
  · rintro a rest b s' ⟨hb, rfl, hm⟩
    obtain ⟨o, es, ep, t, ho, hd, hf, hn⟩ := hl a (hm a List.mem_cons_self)
    refine wpAny_bind (wpAny_setEntries_of ho hd hf ?_)
    refine wpAny_bind (PySem.MeetsSeq2.wpAny_forIn_array _ (fun rest2 b2 s2 => b2.1 = none ∧ s2 = s' ∧ ∀ e ∈ rest2, e ∈ es.toList) _ ?_ ?_ es _ ⟨rfl, rfl, fun _ q => q⟩)
    · rintro ⟨hh, x⟩ rest2 b2 s2 ⟨hb2, rfl, hm2⟩
      have nr := hn _ (hm2 _ List.mem_cons_self)
      dsimp only
      cases x <;> first
        | exact absurd rfl (nr _)
        | exact wpAny_pure ⟨rfl, rfl, fun e he => hm2 e (List.mem_cons_of_mem _ he)⟩
    · rintro b2 s2 ⟨hb2, rfl, _⟩
      obtain ⟨b21, b22⟩ := b2
      dsimp only at hb2
      subst hb2
      exact wpAny_pure ⟨rfl, rfl, fun e he => hm e (List.mem_cons_of_mem _ he)⟩
  · rintro b s' ⟨hb, rfl, _⟩
    obtain ⟨b1, b2⟩ := b
    dsimp only at hb
    subst hb
    exact wpAny_pure h

theorem walk_any {a : Addr} {o : Obj} {es : Array (Int × Value)} {ep : Nat} {t : SetTable} {Q : Array (Int × Value) → Shared → Prop}
    (ho : s.heap.get? a = some o) (hd : o.data = .set es ep t) (hf : t.fits es.size = true)
    (hc : w.params.followText "set-order" = true ∨ ((t.led && t.plain) || decide (es.size ≤ 1)) = true)
    (h : ∀ es' : Array (Int × Value), es'.toList.Perm es.toList → Q es' s) : wpAny (model prog w) A (setWalk a) Q E s := by
  unfold setWalk
  refine wpAny_bind (wpAny_setState_of ho hd hf ?_)
  dsimp only
  refine wpAny_bind (byText ?_)
  by_cases hbt : w.params.followText "set-order" = true
  · refine wpp hbt ?_
    exact wpAny_bind (wpAny_askSetting (wpAny_pure (h _ (L2.pick_perm _ _))))
  · rcases hc with hc | hc
    · exact absurd hc hbt
    · refine wpn hbt ?_
      try refine wpAny_bind (wpAny_pure ?_)
      have e1 : (!t.plain && decide (es.size > 1)) = false := by
        cases hp : t.plain <;> cases hl : t.led <;> simp [hp, hl] at hc ⊢ <;> omega
      refine wpn (by show ¬ ((!t.plain && decide (es.size > 1)) = true); rw [e1]; exact Bool.false_ne_true) ?_
      try refine wpAny_bind (wpAny_pure ?_)
      refine wpAny_bind (wpAny_of_eq (a := ()) ?_ ?_)
      · have e2 : (!t.led && decide (es.size > 1)) = false := by
          cases hp : t.plain <;> cases hl : t.led <;> simp [hp, hl] at hc ⊢ <;> omega
        show (if (!t.led && decide (es.size > 1)) = true then unsupported "set:maker-not-led" else pure ()) = pure ()
        rw [e2] <;> rfl
      · exact wpAny_pure (h es (List.Perm.refl _))

/-- the walk of a set that nobody sees, into the set at r -/
theorem walk_unseen {K : Type} [DecidableEq K] {knd : KeyKind prog w K} {a b r : Addr} {o ob : Obj} {es es2 : Array (Int × Value)} {ep ep2 : Nat} {t t2 : SetTable} {Sr : K → Bool} {nr : Nat} {Q : Array (Int × Value) → Shared → Prop}
    (ho : s.heap.get? a = some o) (hd : o.data = .set es ep t) (hf : t.fits es.size = true) (hn : NoRef es)
    (ho2 : s.heap.get? b = some ob) (hd2 : ob.data = .set es2 ep2 t2) (hf2 : t2.fits es2.size = true) (hn2 : NoRef es2)
    (hr : s.heap.SetOf knd r Sr nr)
    (h : ∀ (es' : Array (Int × Value)) (h' : Heap), es'.toList.Perm es.toList → Heap.SameBut r s.heap h' → h'.SetOf knd r Sr nr → Q es' { s with heap := h' }) :
    wpAny (model prog w) A (setWalkUnseen a [b, r] (some r)) Q E s := by
  obtain ⟨orr, er, epr, tr, hor, hex, hdr, hel, hmem, hbnd, hfr, hsz⟩ := id hr
  unfold setWalkUnseen
  refine wpAny_bind (wpAny_setState_of ho hd hf ?_)
  dsimp only
  refine wpAny_bind (byText ?_)
  have same : Heap.SameBut r s.heap s.heap := ⟨rfl, fun _ _ => rfl⟩
  by_cases hc : (w.params.followText "set-order" || (t.led && t.plain) || decide (es.size ≤ 1)) = true
  · refine wpp hc ?_
    refine walk_any ho hd hf ?_ (fun es' p => h es' s.heap p same hr)
    cases hbt : w.params.followText "set-order" with
    | true => exact .inl rfl
    | false => rw [hbt] at hc; simpa using hc
  · refine wpn hc ?_
    try refine wpAny_bind (wpAny_pure ?_)
    refine wpAny_bind (quiet_of _ ?_ ?_)
    · intro x hx
      simp only [List.mem_cons, List.not_mem_nil, or_false] at hx
      rcases hx with rfl | rfl | rfl
      · exact ⟨o, es, ep, t, ho, hd, hf, hn⟩
      · exact ⟨ob, es2, ep2, t2, ho2, hd2, hf2, hn2⟩
      · exact ⟨orr, er, epr, tr, hor, hdr, hfr, noRef_of hel⟩
    · refine wpn (by simp) ?_
      try refine wpAny_bind (wpAny_pure ?_)
      refine wpAny_bind (wpAny_rule ?_)
      refine wpAny_bind (wpAny_setState_of hor hdr hfr ?_)
      dsimp only
      by_cases hc2 : ((tr.led && !t.led) || (tr.plain && !t.plain)) = true
      · refine wpp hc2 ?_
        have hf' : ({ tr with led := tr.led && t.led, plain := tr.plain && t.plain } : SetTable).fits er.size = true := by
          cases tr; exact hfr
        obtain ⟨hg, hS⟩ := SetOf_store (t' := { tr with led := tr.led && t.led, plain := tr.plain && t.plain }) hor hex hdr hel hmem hbnd hf'
        refine wpAny_bind (wpAny_storeSet_of hor hdr ?_ (fits_of_scanBound hbnd))
        refine wpAny_pure (h es _ (List.Perm.refl _) ⟨Heap.size_after_update _ _ _, fun b hb => Heap.get?_update_ne _ _ _ _ hb⟩ ?_)
        rw [hsz] at hS
        exact hS
      · refine wpn hc2 ?_
        try refine wpAny_bind (wpAny_pure ?_)
        exact wpAny_pure (h es s.heap (List.Perm.refl _) same hr)

/-- a - b, sets of one kind, a not much larger than b -/
theorem diff_set {K : Type} [DecidableEq K] {knd : KeyKind prog w K} {a b : Addr} {S1 S2 : K → Bool} {n1 n2 : Nat} {ident : String} {Q : Value → Shared → Prop}
    (h1 : s.heap.SetOf knd a S1 n1) (h2 : s.heap.SetOf knd b S2 n2) (hsz : n1 / 4 ≤ n2)
    (h : ∀ (h' : Heap) (S : K → Bool) (n : Nat), h'.SetOf knd s.heap.objs.size S n → (∀ k, S k = true ↔ (S1 k = true ∧ S2 k = false)) → n ≤ n1 →
      (∀ c o, s.heap.get? c = some o → h'.get? c = some o) → Q (.ref s.heap.objs.size) { s with heap := h' }) :
    wpAny (model prog w) A (Builtin.Frozenset.difference ident a (.ref b)) Q E s := by
  obtain ⟨o, es, ep, t, ho, hex, hd, hel, hmem, hbnd, hf, hse⟩ := id h1
  obtain ⟨o2, es2, ep2, t2, ho2, hex2, hd2, hel2, hmem2, hbnd2, hf2, hse2⟩ := id h2
  have hT1 : s.TypeIs (.ref a) "set" := ⟨o, ho, hex.1⟩
  have hT2 : s.TypeIs (.ref b) "set" := ⟨o2, ho2, hex2.1⟩
  unfold Builtin.Frozenset.difference
  refine wpAny_bind (anySet_set hT2 ?_)
  refine wpn (by simp) ?_
  try refine wpAny_bind (wpAny_pure ?_)
  unfold Builtin.Frozenset.addrOf
  try refine wpAny_bind (wpAny_pure ?_)
  try refine wpn (by simp) ?_
  try refine wpAny_bind (wpAny_pure ?_)
  refine wpAny_bind (sizeOf_set ho2 hd2 hf2 ?_)
  refine wpAny_bind (sizeOf_set ho hd hf ?_)
  refine wpn (by rw [hse, hse2]; omega) ?_
  try refine wpAny_bind (wpAny_pure ?_)
  unfold Builtin.Frozenset.baseOf
  refine wpAny_bind (wpAny_bind (wpAny_isInstance hT1 sub_set_set ?_))
  refine wpAny_pure ?_
  show wpAny _ _ (newSet (.type "set") >>= _) _ _ _
  refine wpAny_bind (wpAny_newSet_of (knd := knd) fun led hr => ?_)
  refine wpAny_bind (wpAny_pure ?_)
  have la : a < s.heap.objs.size := Heap.lt_size ho
  have lb : b < s.heap.objs.size := Heap.lt_size ho2
  generalize hp1 : s.heap.push { cls := .type "set", dict := none, data := .set #[] 0 (.fresh 0 0 led) } = h1' at hr ⊢
  have hka : h1'.get? a = some o := by rw [← hp1]; exact Heap.get?_push_of_some _ ho
  have hkb : h1'.get? b = some o2 := by rw [← hp1]; exact Heap.get?_push_of_some _ ho2
  have hk0 : ∀ c oc, s.heap.get? c = some oc → h1'.get? c = some oc := fun c oc e => by rw [← hp1]; exact Heap.get?_push_of_some _ e
  unfold setEpoch
  refine wpAny_bind (wpAny_bind (wpAny_setState_of (s := { s with heap := h1' }) hka hd hf (wpAny_pure ?_)))
  refine wpAny_bind (wpAny_holding ?_)
  refine wpAny_bind (wpp rfl (walk_unseen (s := { s with heap := h1' }) hka hd hf (noRef_of hel) hkb hd2 hf2 (noRef_of hel2) hr fun es' h2' p sb hr2 => ?_))
  have ne1 : a ≠ s.heap.objs.size := Nat.ne_of_lt la
  have ne2 : b ≠ s.heap.objs.size := Nat.ne_of_lt lb
  refine wpAny_bind (PySem.MeetsSeq2.wpAny_forIn_array _ (fun rest _ s' => ∃ (h' : Heap) (Sr : K → Bool) (nr : Nat), s' = { s with heap := h' } ∧ h'.SetOf knd s.heap.objs.size Sr nr ∧ nr + rest.length ≤ n1 ∧
      (∀ k, (Sr k = true ∨ ((∃ e ∈ rest, knd.is k e.2 = true) ∧ S2 k = false)) ↔ (S1 k = true ∧ S2 k = false)) ∧ (∀ e ∈ rest, e ∈ es.toList) ∧
      (∀ c oc, c ≠ s.heap.objs.size → h1'.get? c = some oc → h'.get? c = some oc)) _ ?_ ?_ es' _ ⟨h2', _, _, rfl, hr2, ?_, ?_, fun e he => p.mem_iff.mp he, fun c oc hc e => by rw [sb.2 c hc]; exact e⟩)
  · rintro ⟨hh, x⟩ rest u s' ⟨h', Sr, nr, rfl, hS, hlen, hiff, hm, hk⟩
    obtain ⟨⟨k, hk1, hk2⟩, hsc⟩ := hel _ (hm _ List.mem_cons_self)
    dsimp only at hk1 hk2 hsc
    subst hk2
    have ka : h'.get? a = some o := hk a o ne1 hka
    have kb : h'.get? b = some o2 := hk b o2 ne2 hkb
    dsimp only
    refine wpAny_bind (wpAny_holding ?_)
    refine wpAny_bind (wpAny_setFind_of (s := { s with heap := h' }) hk1 hsc ⟨o2, es2, ep2, t2, kb, hex2, hd2, hel2, hmem2, hbnd2, hf2, hse2⟩ fun r hrs => ?_)
    refine wpAny_bind (wpAny_pure ?_)
    rw [hrs]
    have tail : ∀ e ∈ rest, e ∈ es.toList := fun e he => hm e (List.mem_cons_of_mem _ he)
    have hlen' : nr + rest.length + 1 ≤ n1 := by simpa [Nat.add_assoc] using hlen
    cases hb2 : S2 k with
    | true =>
      refine wpn (by simp) ?_
      try refine wpAny_bind (wpAny_pure ?_)
      refine wpAny_pure ?_
      unfold Builtin.Frozenset.unchanged setEpoch
      refine wpAny_bind (wpAny_bind (wpAny_bind (wpAny_setState_of (s := { s with heap := h' }) ka hd hf (wpAny_pure ?_))))
      refine wpn (by simp) ?_
      refine wpAny_pure (wpAny_pure ⟨h', Sr, nr, rfl, hS, by omega, fun k' => ?_, tail, hk⟩)
      rw [← hiff k']
      constructor
      · rintro (q | ⟨⟨e, he, q⟩, q2⟩)
        · exact .inl q
        · exact .inr ⟨⟨e, List.mem_cons_of_mem _ he, q⟩, q2⟩
      · rintro (q | ⟨⟨e, he, q⟩, q2⟩)
        · exact .inl q
        · rcases List.mem_cons.mp he with rfl | he
          · have e1 := knd.inj x k' k q hk1
            subst e1
            rw [hb2] at q2
            exact absurd q2 (by decide)
          · exact .inr ⟨⟨e, he, q⟩, q2⟩
    | false =>
      refine wpp (by simp) ?_
      have hroom : nr + 1 < scanBound := by
        have : n1 < scanBound := by rw [← hse]; exact hbnd
        omega
      refine wpAny_bind (wpAny_setAddHashed_of (s := { s with heap := h' }) hk1 hsc hS hroom fun h'' hsb hS2 => ?_)
      have ka2 : h''.get? a = some o := by rw [hsb.2 a ne1]; exact ka
      refine wpAny_pure ?_
      unfold Builtin.Frozenset.unchanged setEpoch
      refine wpAny_bind (wpAny_bind (wpAny_bind (wpAny_setState_of (s := { s with heap := h'' }) ka2 hd hf (wpAny_pure ?_))))
      refine wpn (by simp) ?_
      refine wpAny_pure (wpAny_pure ⟨h'', _, _, rfl, hS2, by split <;> omega, fun k' => ?_, tail, fun c oc hc e => by rw [hsb.2 c hc]; exact hk c oc hc e⟩)
      rw [← hiff k', Bool.or_eq_true, decide_eq_true_eq]
      constructor
      · rintro ((q | rfl) | ⟨⟨e, he, q⟩, q2⟩)
        · exact .inl q
        · exact .inr ⟨⟨_, List.mem_cons_self, hk1⟩, hb2⟩
        · exact .inr ⟨⟨e, List.mem_cons_of_mem _ he, q⟩, q2⟩
      · rintro (q | ⟨⟨e, he, q⟩, q2⟩)
        · exact .inl (.inl q)
        · rcases List.mem_cons.mp he with rfl | he
          · exact .inl (.inr (knd.inj x k' k q hk1))
          · exact .inr ⟨⟨e, he, q⟩, q2⟩
  · rintro u s' ⟨h', Sr, nr, rfl, hS, hlen, hiff, hm, hk⟩
    refine wpAny_pure (wpAny_pure (h h' Sr nr hS (fun k => ?_) (by simpa using hlen) fun c oc e => hk c oc (Nat.ne_of_lt (Heap.lt_size e)) (hk0 c oc e)))
    rw [← hiff k]
    simp
  · have hz : es'.size = es.size := by have := p.length_eq; simpa using this
    show 0 + es'.toList.length ≤ n1
    rw [Array.length_toList, hz, hse]; omega
  · intro k
    constructor
    · rintro (q | ⟨⟨e, he, q⟩, q2⟩)
      · exact absurd q (by simp)
      · exact ⟨(hmem k).mpr ⟨e, p.mem_iff.mp he, q⟩, q2⟩
    · rintro ⟨q, q2⟩
      obtain ⟨e, he, q⟩ := (hmem k).mp q
      exact .inr ⟨⟨e, p.mem_iff.mpr he, q⟩, q2⟩
end
end MX

end
section
namespace MX
open PySem PySem.Spec PyProof.Rows L2
theorem met1_mem (x : Str) : ∀ (k : Str), (met1 x x.cps.size).any (· == k) = true ↔ ∃ c ∈ x.cps.toList, k = ⟨#[c]⟩ := by
  have gen : ∀ (cs : List Nat) (l : List Str) (k : Str), (cs.foldl step1 l).any (· == k) = true ↔ (l.any (· == k) = true ∨ ∃ c ∈ cs, k = ⟨#[c]⟩) := by
    intro cs
    induction cs with
    | nil => intro l k; simp
    | cons c cs ih =>
      intro l k
      rw [List.foldl_cons, ih, step1_any, Bool.or_eq_true, decide_eq_true_eq]
      constructor
      · rintro ((h | rfl) | ⟨c', h, rfl⟩)
        · exact .inl h
        · exact .inr ⟨c, List.mem_cons_self, rfl⟩
        · exact .inr ⟨c', List.mem_cons_of_mem _ h, rfl⟩
      · rintro (h | ⟨c', h, rfl⟩)
        · exact .inl (.inl h)
        · rcases List.mem_cons.mp h with rfl | h
          · exact .inl (.inr rfl)
          · exact .inr ⟨c', h, rfl⟩
  intro k
  unfold met1
  rw [show x.cps.toList.take x.cps.size = x.cps.toList from List.take_of_length_le (by simp)]
  rw [gen]
  simp
/-- how many unlike nsig -/
def nsig (x : Str) : Nat := (met1 x x.cps.size).length
def within (u v : Str) : Bool := u.cps.toList.all fun c => v.cps.toList.contains c
/-- len(set(a) - set(b)): only whether it is 0 is told -/
def tLenSub (ta tb : TE) : TE := fun σ H Q => ta σ H fun x H1 => ∃ u : Str, x = .str u ∧ nsig u + 1 < 4096 ∧ tb σ H1 fun y H2 => ∃ v : Str, y = .str v ∧ nsig v + 1 < 4096 ∧ nsig u / 4 ≤ nsig v ∧
  ∀ n : Nat, (n = 0 ↔ within u v = true) → Q (.int n) H2
section
variable {X : Cx}
theorem pe_lenSub {a b : Expr} {ta tb : TE} {p p2 p3 q q2 pos pos2 : Pos} (hc : X.calm = true) (hg : Gl X "len") (hm : X.mg "len" = none) (hg2 : Gl X "set") (hm2 : X.mg "set" = none) (ha : PE X a ta) (hb : PE X b tb)
    (na : starEach [a] X.env = (false, eval a X.env) :: starEach [] X.env := by rfl) (nb : starEach [b] X.env = (false, eval b X.env) :: starEach [] X.env := by rfl) :
    PE X (.Call (.Name "len" p) [.BinOp (.Call (.Name "set" p2) [a] [] q) .Sub (.Call (.Name "set" p3) [b] [] q2) pos2] [] pos) (tLenSub ta tb) := by
  refine ⟨fun pins s σ H Q I h => ?_⟩
  refine Call_ (ld_blt I hg hm boot_len ?_)
  refine PyProof.Rows.callWith_builtin1 (PyProof.Rows.args_cons ?_ rfl) rfl rfl
  refine wpAny_BinOp ?_
  -- set(a)
  refine Call_ (ld_blt I hg2 hm2 boot_set ?_)
  refine PyProof.Rows.callWith_type1 (PyProof.Rows.args_cons (thn (ha.run pins s σ H _ I h) fun v s1 hh => PyProof.Rows.args_nil ?_) na) na rfl
  obtain ⟨x, H1, I1, r1, q1⟩ := hh
  obtain ⟨u, rfl, hu, q1⟩ := q1
  obtain ⟨tu, rfl⟩ := r1
  have hh := I1.ok.hd hc
  refine call_set_str hh (by unfold scanBound; exact hu) fun h2 tk2 hS2 hk2 => ?_
  have kk : ∀ b u, s1.heap.get? b = some u → h2.get? b = some u := fun b o e => hk2 b o (Heap.lt_size e) e
  have I2 : Inv X pins σ H1 { s1 with heap := h2, toks := tk2 } := I1.kept kk
  obtain ⟨oa, ea, epa, t_a, hoa, hexa, hda, hela, hmema, hba, hfa, hna⟩ := id hS2
  have hfr : H1 s1.heap.objs.size = none := I1.hok.fresh (Nat.le_refl _)
  have I3 : Inv X (pins ++ [(s1.heap.objs.size, oa)]) σ H1 { s1 with heap := h2, toks := tk2 } := I2.pins_of fun p hp => by
    rcases List.mem_append.mp hp with hp | hp
    · exact I2.pin p (List.mem_append_right _ hp)
    · rw [List.mem_singleton] at hp
      subst hp
      refine ⟨hoa, hfr, fun e => ?_, I1.nofs (Nat.le_refl _), fun v e => ?_⟩
      · exact absurd I1.lt (by rw [← e]; exact Nat.lt_irrefl _)
      · rw [hda] at e; cases e
  -- set(b)
  refine Call_ (ld_blt I3 hg2 hm2 boot_set ?_)
  refine PyProof.Rows.callWith_type1 (PyProof.Rows.args_cons (thn (hb.run _ _ σ H1 _ I3 q1) fun vb s4 hh4 => PyProof.Rows.args_nil ?_) nb) nb rfl
  obtain ⟨y, H2, I4, r4, v, rfl, hv, huv, q4⟩ := hh4
  obtain ⟨tv, rfl⟩ := r4
  have pa : s4.heap.get? s1.heap.objs.size = some oa := (I4.pin (s1.heap.objs.size, oa) (List.mem_append_right _ (List.mem_append_right _ (List.mem_singleton.mpr rfl)))).1
  refine call_set_str (I4.ok.hd hc) (by unfold scanBound; exact hv) fun h5 tk5 hS5 hk5 => ?_
  have kk5 : ∀ b u, s4.heap.get? b = some u → h5.get? b = some u := fun b o e => hk5 b o (Heap.lt_size e) e
  have I5 : Inv X (pins ++ [(s1.heap.objs.size, oa)]) σ H2 { s4 with heap := h5, toks := tk5 } := I4.kept kk5
  have hS1 : h5.SetOf (PySem.strKind X.prog X.w) s1.heap.objs.size (fun k' => (met1 u u.cps.size).any (· == k')) (met1 u u.cps.size).length :=
    ⟨oa, ea, epa, t_a, kk5 _ _ pa, hexa, hda, hela, hmema, hba, hfa, hna⟩
  have hT1 : Shared.TypeIs { s4 with heap := h5, toks := tk5 } (.ref s1.heap.objs.size) "set" := ⟨oa, kk5 _ _ pa, hexa.1⟩
  obtain ⟨ob, eb, epb, t_b, hob, hexb, _⟩ := id hS5
  have hT2 : Shared.TypeIs { s4 with heap := h5, toks := tk5 } (.ref s4.heap.objs.size) "set" := ⟨ob, hob, hexb.1⟩
  -- the difference
  refine wpAny_binaryOp_same (op := .Sub) hT1 hT2 fills_sub slot_set_sub (wpAny_call_entry slot_set_sub hT1 entry_set_sub ?_ (args_set_sub _ _))
  have e0 : Builtin.«frozenset.__sub__» ⟨[.ref s1.heap.objs.size, .ref s4.heap.objs.size], []⟩ = (do
      let (self, other) ← Builtin.Frozenset.slot1 "__sub__" ⟨[.ref s1.heap.objs.size, .ref s4.heap.objs.size], []⟩
      let (l, r) := if false then (other, self) else (self, other)
      if !(← Builtin.Frozenset.isAnySet l <&&> Builtin.Frozenset.isAnySet r) then rule s!"frozenset.{"__sub__"}.declined"; return ← ret .notImplemented
      ret (← Builtin.Frozenset.difference s!"frozenset.{"__sub__"}" (← Builtin.Frozenset.addrOf l) r)) := rfl
  rw [e0]
  unfold Builtin.Frozenset.slot1 slotArgs
  simp only [List.isEmpty_nil, Bool.not_true, Bool.false_eq_true, ↓reduceIte, bind_assoc, List.length_nil, List.length_cons, bne_self_eq_false, pure_bind]
  unfold andM
  refine wpAny_bind (wpAny_bind (anySet_set hT1 ?_))
  show wpAny _ _ (Builtin.Frozenset.isAnySet (Value.ref s4.heap.objs.size)) _ _ _
  refine anySet_set hT2 ?_
  refine wpn (by simp) ?_
  unfold Builtin.Frozenset.addrOf
  try simp only [pure_bind]
  refine wpAny_bind (diff_set hS1 hS5 huv fun h6 S6 n6 hS6 hiff hn6 hk6 => ?_)
  refine wpAny_pure ⟨_, rfl, by simp, ?_⟩
  -- len
  refine PyProof.Rows.args_nil ?_
  obtain ⟨o6, es6, ep6, t6, ho6, hex6, hd6, hel6, hmem6, hb6, hf6, hn⟩ := id hS6
  have I6 : Inv X (pins ++ [(s1.heap.objs.size, oa)]) σ H2 { s4 with heap := h6, toks := tk5 } := I5.kept hk6
  have hsz : es6.size < 4096 := hb6
  refine call_len_set ho6 hex6 hd6 hf6 (by omega) ⟨.int es6.size, H2, (I6.unpinned).tok _, ⟨_, rfl⟩, q4 es6.size ?_⟩
  have hz : es6.size = 0 ↔ ∀ k, S6 k = false := by
    constructor
    · intro z k
      have he : es6.toList = [] := by
        have : es6.toList.length = 0 := by rw [Array.length_toList]; exact z
        exact List.length_eq_zero_iff.mp this
      cases hk : S6 k with
      | false => rfl
      | true =>
        obtain ⟨e, he', _⟩ := (hmem6 k).mp hk
        rw [he] at he'
        exact absurd he' (by simp)
    · intro z
      cases hl : es6.toList with
      | nil =>
        have : es6.toList.length = 0 := by rw [hl]; rfl
        rw [← Array.length_toList]; exact this
      | cons e r =>
        have hm : e ∈ es6.toList := by rw [hl]; exact List.mem_cons_self
        obtain ⟨⟨k, hk, _⟩, _⟩ := hel6 e hm
        have := (hmem6 k).mpr ⟨e, hm, hk⟩
        rw [z k] at this
        exact absurd this (by decide)
  rw [hz]
  unfold within
  rw [List.all_eq_true]
  constructor
  · intro z c hc
    have h1 : (met1 u u.cps.size).any (· == (⟨#[c]⟩ : Str)) = true := (met1_mem u _).mpr ⟨c, hc, rfl⟩
    have h3 := z ⟨#[c]⟩
    cases h2 : (met1 v v.cps.size).any (· == (⟨#[c]⟩ : Str)) with
    | false =>
      have := (hiff ⟨#[c]⟩).mpr ⟨h1, h2⟩
      rw [h3] at this
      exact absurd this (by decide)
    | true =>
      obtain ⟨c', hc', e⟩ := (met1_mem v _).mp h2
      have ec : c = c' := by
        have := congrArg Str.cps e
        simpa using this
      rw [ec]
      simpa using hc'
  · intro z k
    cases hk : S6 k with
    | false => rfl
    | true =>
      obtain ⟨g1, g2⟩ := (hiff k).mp hk
      obtain ⟨c, hc, rfl⟩ := (met1_mem u _).mp g1
      have g3 : (met1 v v.cps.size).any (· == (⟨#[c]⟩ : Str)) = true := (met1_mem v _).mpr ⟨c, by simpa using z c hc, rfl⟩
      rw [g3] at g2
      exact absurd g2 (by decide)
end
end MX

end
section
/-! Data without addresses: what a def does as a function of data and of a list of objects. -/
namespace MX
open PySem PySem.Spec PyProof.Rows L2

inductive D where
  | non | bl (b : Bool) | int (i : Int) | str (x : Str) | tup (l : List D) | loc (n : Nat) | ty (s : String) | rl (l : List D) | err (a dd : Addr) (fs : List (Str × Str))
instance : Inhabited D := ⟨.non⟩
/-- an object that may change -/
inductive O where
  | lst (l : List D) | dK (kvs : List (Key × D)) | dT (kvs : List (List Key × D)) | ins (C : Addr) (fs : List (Str × D))
/-- a raised error: its class, its fields -/
structure Exn where
  cls : Str
  fs : List (Str × Str)
abbrev Os := List O
abbrev Fr := List (Option D)
inductive Res (α : Type) where
  | ok (a : α) (S : Os) | exn (e : Exn) (S : Os) | bad
inductive SRes where
  | nx (σ : Fr) (S : Os) | rt (d : D) (S : Os) | bk (σ : Fr) (S : Os) | ct (σ : Fr) (S : Os) | exn (e : Exn) (σ : Fr) (S : Os) | bad
def Res.bind {α β : Type} (r : Res α) (f : α → Os → Res β) : Res β := match r with
  | .ok a S => f a S
  | .exn e S => .exn e S
  | .bad => .bad
@[simp] theorem Res.bind_ok {α β : Type} (a : α) (S : Os) (f : α → Os → Res β) : (Res.ok a S).bind f = f a S := rfl
@[simp] theorem Res.bind_exn {α β : Type} (e : Exn) (S : Os) (f : α → Os → Res β) : (Res.exn e S : Res α).bind f = .exn e S := rfl
@[simp] theorem Res.bind_bad {α β : Type} (f : α → Os → Res β) : (Res.bad : Res α).bind f = .bad := rfl
abbrev ME := Fr → Os → Res D
abbrev MA := Fr → Os → Res (List D)
abbrev MT := Fr → Os → Res Bool
abbrev MS := Fr → Os → SRes

/-- the defs whose code objects' tables are tracked -/
class TL where
  tf : List He.Defn
  tl : List (He.Defn × Str)
/-- the tables of all of them are different ones -/
def TL.nd [TL] (K : PySem.W.Frag) : Prop := ((TL.tf ++ TL.tl.map (·.1)).map fun p => (He.cT K p).2).Nodup
/-- a list that never changes -/
def SqR (K : PySem.W.Frag) (H : Hp) (a : Addr) (xs : List V) : Prop :=
  (∃ o, H a = some (.frz o (.lst xs))) ∨ SqL K (fun _ => none) a xs
section
variable (K : PySem.W.Frag)
mutual
def Rep (μ : List Addr) (H : Hp) : D → V → Prop
  | .non, v => v = .non
  | .bl b, v => v = .bl b
  | .int i, v => v = .int i
  | .str x, v => v = .str x
  | .tup l, v => ∃ a vs, v = .ref a ∧ SqT K H a vs ∧ Reps μ H l vs
  | .loc n, v => ∃ a, μ[n]? = some a ∧ v = .ref a
  | .ty s, v => v = .ty s
  | .rl l, v => ∃ a vs, v = .ref a ∧ SqR K H a vs ∧ Reps μ H l vs
  | .err a dd fs, v => v = .ref a ∧ H dd = some (.xd (fs.map fun p => (p.1, V.str p.2)))
def Reps (μ : List Addr) (H : Hp) : List D → List V → Prop
  | [], vs => vs = []
  | d :: l, vs => ∃ v r, vs = v :: r ∧ Rep μ H d v ∧ Reps μ H l r
end
/-- a dict's pairs, an object's fields -/
def RepK {κ : Type} (μ : List Addr) (H : Hp) : List (κ × D) → List (κ × V) → Prop
  | [], vs => vs = []
  | (k, d) :: l, vs => ∃ v r, vs = (k, v) :: r ∧ Rep K μ H d v ∧ RepK μ H l r
def ORep (μ : List Addr) (H : Hp) : O → Addr → Prop
  | .lst l, a => ∃ vs, H a = some (.lst vs) ∧ Reps K μ H l vs
  | .dK kvs, a => ∃ vs, H a = some (.dK vs) ∧ RepK K μ H kvs vs
  | .dT kvs, a => ∃ vs, H a = some (.dT vs) ∧ RepK K μ H kvs vs
  | .ins C fs, a => ∃ dx vs, H a = some (.ins C dx vs) ∧ RepK K μ H fs vs
/-- what goes on being so -/
structure Nx (H : Hp) (μ : List Addr) (H' : Hp) (μ' : List Addr) : Prop where
  mu : ∃ t, μ' = μ ++ t
  tup : ∀ b xs, H b = some (.tup xs) → H' b = some (.tup xs)
  frz : ∀ b o xs, H b = some (.frz o (.tup xs)) → H' b = some (.frz o (.tup xs))
  frl : ∀ b o xs, H b = some (.frz o (.lst xs)) → H' b = some (.frz o (.lst xs))
  xdk : ∀ b vs, H b = some (.xd vs) → H' b = some (.xd vs)
variable [TL]
structure Ok (μ : List Addr) (S : Os) (H : Hp) : Prop where
  len : μ.length = S.length
  nd : μ.Nodup
  tab : ∀ p ∈ TL.tf, GxR.TabG H (He.cT K p).2
  tabl : ∀ p ∈ TL.tl, LamX.TabS H (He.cT K p.1).2 p.2
  tnd : TL.nd K
  obj : ∀ (n : Nat) (o : O) (a : Addr), S[n]? = some o → μ[n]? = some a → ORep K μ H o a
def FrRel (μ : List Addr) (H : Hp) (σd : Fr) (σ : L2.St) : Prop :=
  σd.length = σ.length ∧ ∀ (i : Nat) (d : D), σd[i]? = some (some d) → ∃ v, σ[i]? = some (some v) ∧ Rep K μ H d v
def ExRep (μ : List Addr) (H : Hp) (e : Exn) (cls : Value) (d : Option Addr) : Prop :=
  cls = .ref (He.ga K e.cls) ∧ (∃ dd, d = some dd ∧ H dd = some (.xd (e.fs.map fun p => (p.1, V.str p.2))))
end
variable [TL]
theorem Nx.refl (H : Hp) (μ : List Addr) : Nx H μ H μ := ⟨⟨[], (List.append_nil _).symm⟩, fun _ _ h => h, fun _ _ _ h => h, fun _ _ _ h => h, fun _ _ h => h⟩
theorem Nx.trans {H H1 H2 : Hp} {μ μ1 μ2 : List Addr} (a : Nx H μ H1 μ1) (b : Nx H1 μ1 H2 μ2) : Nx H μ H2 μ2 := by
  obtain ⟨t, rfl⟩ := a.mu
  obtain ⟨u, rfl⟩ := b.mu
  exact ⟨⟨t ++ u, List.append_assoc _ _ _⟩, fun x xs h => b.tup x xs (a.tup x xs h), fun x o xs h => b.frz x o xs (a.frz x o xs h), fun x o xs h => b.frl x o xs (a.frl x o xs h), fun x vs h => b.xdk x vs (a.xdk x vs h)⟩
section
variable {K : PySem.W.Frag} {H H' : Hp} {μ μ' : List Addr}
theorem Nx.at {n : Nat} {a : Addr} (x : Nx H μ H' μ') (h : μ[n]? = some a) : μ'[n]? = some a := by
  obtain ⟨t, rfl⟩ := x.mu
  obtain ⟨hl, he⟩ := List.getElem?_eq_some_iff.mp h
  rw [List.getElem?_append_left hl]
  exact h
theorem Nx.sq {a : Addr} {vs : List V} (x : Nx H μ H' μ') (h : SqT K H a vs) : SqT K H' a vs := by
  rcases h with (h | ⟨o, h⟩) | h
  · exact .inl (.inl (x.tup _ _ h))
  · exact .inl (.inr ⟨o, x.frz _ _ _ h⟩)
  · exact .inr h
theorem SqR.sq {a : Addr} {vs : List V} (h : SqR K H a vs) : SqL K H a vs := by
  rcases h with ⟨o, h⟩ | (h | ⟨o, h⟩) | h
  · exact .inl (.inr ⟨o, h⟩)
  · cases h
  · cases h
  · exact .inr h
theorem Nx.sr {a : Addr} {vs : List V} (x : Nx H μ H' μ') (h : SqR K H a vs) : SqR K H' a vs := by
  rcases h with ⟨o, h⟩ | h
  · exact .inl ⟨o, x.frl _ _ _ h⟩
  · exact .inr h
mutual
theorem Rep.mono (x : Nx H μ H' μ') : ∀ (d : D) (v : V), Rep K μ H d v → Rep K μ' H' d v
  | .non, v, h => h
  | .bl b, v, h => h
  | .int i, v, h => h
  | .str s, v, h => h
  | .ty s, v, h => h
  | .loc n, v, ⟨a, h1, h2⟩ => ⟨a, x.at h1, h2⟩
  | .tup l, v, ⟨a, vs, h1, h2, h3⟩ => ⟨a, vs, h1, x.sq h2, Reps.mono x l vs h3⟩
  | .rl l, v, ⟨a, vs, h1, h2, h3⟩ => ⟨a, vs, h1, x.sr h2, Reps.mono x l vs h3⟩
  | .err a dd fs, v, ⟨h1, h2⟩ => ⟨h1, x.xdk _ _ h2⟩
theorem Reps.mono (x : Nx H μ H' μ') : ∀ (l : List D) (vs : List V), Reps K μ H l vs → Reps K μ' H' l vs
  | [], vs, h => h
  | d :: l, vs, ⟨v, r, h1, h2, h3⟩ => ⟨v, r, h1, Rep.mono x d v h2, Reps.mono x l r h3⟩
end
theorem RepK.mono {κ : Type} (x : Nx H μ H' μ') : ∀ (l : List (κ × D)) (vs : List (κ × V)), RepK K μ H l vs → RepK K μ' H' l vs
  | [], vs, h => h
  | (k, d) :: l, vs, ⟨v, r, h1, h2, h3⟩ => ⟨v, r, h1, Rep.mono x d v h2, RepK.mono x l r h3⟩
theorem FrRel.mono {σd : Fr} {σ : L2.St} (x : Nx H μ H' μ') (h : FrRel K μ H σd σ) : FrRel K μ' H' σd σ :=
  ⟨h.1, fun i d e => let ⟨v, h1, h2⟩ := h.2 i d e; ⟨v, h1, Rep.mono x d v h2⟩⟩
theorem Reps.len : ∀ {l : List D} {vs : List V}, Reps K μ H l vs → l.length = vs.length
  | [], _, rfl => rfl
  | _ :: l, _, ⟨v, r, rfl, _, h⟩ => congrArg (· + 1) (Reps.len h)
theorem Reps.get : ∀ {l : List D} {vs : List V} {i : Nat} {d : D}, Reps K μ H l vs → l[i]? = some d → ∃ v, vs[i]? = some v ∧ Rep K μ H d v
  | [], _, _, _, rfl, e => by simp at e
  | d :: l, _, 0, d', ⟨v, r, rfl, h1, _⟩, e => by
    have : d = d' := by simpa using e
    subst this
    exact ⟨v, rfl, h1⟩
  | _ :: l, _, i + 1, d', ⟨v, r, rfl, _, h⟩, e => by
    obtain ⟨u, h1, h2⟩ := Reps.get (i := i) h (by simpa using e)
    exact ⟨u, by simpa using h1, h2⟩
theorem Reps.back : ∀ {l : List D} {vs : List V} {i : Nat} {v : V}, Reps K μ H l vs → vs[i]? = some v → ∃ d, l[i]? = some d ∧ Rep K μ H d v := fun {l vs i v} h e => by
  have hl : i < l.length := by rw [h.len]; exact (List.getElem?_eq_some_iff.mp e).1
  obtain ⟨u, h1, h2⟩ := h.get (i := i) (d := l[i]) (List.getElem?_eq_getElem hl)
  rw [e] at h1
  cases h1
  exact ⟨l[i], List.getElem?_eq_getElem hl, h2⟩
theorem Reps.app : ∀ {l m : List D} {vs us : List V}, Reps K μ H l vs → Reps K μ H m us → Reps K μ H (l ++ m) (vs ++ us)
  | [], _, _, _, rfl, h => h
  | _ :: _, _, _, _, ⟨v, r, rfl, h1, h2⟩, h => ⟨v, r ++ _, rfl, h1, Reps.app h2 h⟩
theorem Reps.one {d : D} {v : V} (h : Rep K μ H d v) : Reps K μ H [d] [v] := ⟨v, [], rfl, h, rfl⟩
theorem Reps.take : ∀ {l : List D} {vs : List V} (n : Nat), Reps K μ H l vs → Reps K μ H (l.take n) (vs.take n)
  | [], _, n, rfl => by simp [Reps]
  | _ :: _, _, 0, ⟨v, r, rfl, h1, h2⟩ => rfl
  | _ :: _, _, n + 1, ⟨v, r, rfl, h1, h2⟩ => ⟨v, r.take n, rfl, h1, Reps.take n h2⟩
theorem Reps.drop : ∀ {l : List D} {vs : List V} (n : Nat), Reps K μ H l vs → Reps K μ H (l.drop n) (vs.drop n)
  | [], _, n, rfl => by simp [Reps]
  | _ :: _, _, 0, h => h
  | _ :: _, _, n + 1, ⟨v, r, rfl, h1, h2⟩ => Reps.drop n h2
theorem Reps.set : ∀ {l : List D} {vs : List V} {d : D} {v : V} (i : Nat), Reps K μ H l vs → Rep K μ H d v → Reps K μ H (l.set i d) (vs.set i v)
  | [], _, _, _, _, rfl, _ => rfl
  | _ :: _, _, d', v', 0, ⟨v, r, rfl, h1, h2⟩, h => ⟨v', r, rfl, h, h2⟩
  | _ :: _, _, d', v', i + 1, ⟨v, r, rfl, h1, h2⟩, h => ⟨v, r.set i v', rfl, h1, Reps.set i h2 h⟩
theorem Reps.ints : ∀ {ns : List Int} {vs : List V}, Reps K μ H (ns.map D.int) vs → vs = ns.map V.int
  | [], _, h => h
  | n :: ns, _, ⟨v, r, rfl, h1, h2⟩ => by
    have : v = V.int n := h1
    rw [this, Reps.ints h2]
    rfl
theorem Reps.strs : ∀ {ns : List Str} {vs : List V}, Reps K μ H (ns.map D.str) vs → vs = ns.map V.str
  | [], _, h => h
  | n :: ns, _, ⟨v, r, rfl, h1, h2⟩ => by
    have : v = V.str n := h1
    rw [this, Reps.strs h2]
    rfl
/-- a heap that has more -/
theorem Nx.of (k : ∀ a u, H a = some u → H' a = some u) (t : List Addr) : Nx H μ H' (μ ++ t) :=
  ⟨⟨t, rfl⟩, fun b xs => k b _, fun b o xs => k b _, fun b o xs => k b _, fun b vs => k b _⟩
theorem Nx.of0 (k : ∀ a u, H a = some u → H' a = some u) : Nx H μ H' μ := by
  have := Nx.of (μ := μ) k []
  rwa [List.append_nil] at this
theorem keep_new {p : Addr} {o : HO} (hp : H p = none) : ∀ a u, H a = some u → upd H p o a = some u := fun a u e => by
  rw [upd_ne (ne_of_none e hp)]
  exact e
theorem Nx.new {p : Addr} {o : HO} (hp : H p = none) (t : List Addr) : Nx H μ (upd H p o) (μ ++ t) := Nx.of (keep_new hp) t
theorem Nx.new0 {p : Addr} {o : HO} (hp : H p = none) : Nx H μ (upd H p o) μ := Nx.of0 (keep_new hp)
theorem ORep.mono {o : O} {a : Addr} (x : Nx H μ H' μ') (k : ∀ u, H a = some u → H' a = some u) (h : ORep K μ H o a) : ORep K μ' H' o a := by
  cases o with
  | lst l => obtain ⟨vs, h1, h2⟩ := h; exact ⟨vs, k _ h1, Reps.mono x _ _ h2⟩
  | dK l => obtain ⟨vs, h1, h2⟩ := h; exact ⟨vs, k _ h1, RepK.mono x _ _ h2⟩
  | dT l => obtain ⟨vs, h1, h2⟩ := h; exact ⟨vs, k _ h1, RepK.mono x _ _ h2⟩
  | ins C fs => obtain ⟨dx, vs, h1, h2⟩ := h; exact ⟨dx, vs, k _ h1, RepK.mono x _ _ h2⟩
theorem ORep.there {o : O} {a : Addr} (h : ORep K μ H o a) : ∃ u, H a = some u ∧ Mut (some u) := by
  cases o with
  | lst l => obtain ⟨vs, h1, h2⟩ := h; exact ⟨_, h1, trivial⟩
  | dK l => obtain ⟨vs, h1, h2⟩ := h; exact ⟨_, h1, trivial⟩
  | dT l => obtain ⟨vs, h1, h2⟩ := h; exact ⟨_, h1, trivial⟩
  | ins C fs => obtain ⟨dx, vs, h1, h2⟩ := h; exact ⟨_, h1, trivial⟩
theorem Ok.at {S : Os} {n : Nat} {a : Addr} (h : Ok K μ S H) (e : μ[n]? = some a) : ∃ o, S[n]? = some o ∧ ORep K μ H o a := by
  have hl : n < S.length := by rw [← h.len]; exact (List.getElem?_eq_some_iff.mp e).1
  exact ⟨S[n], List.getElem?_eq_getElem hl, h.obj n _ a (List.getElem?_eq_getElem hl) e⟩
theorem Ok.addr {S : Os} {n : Nat} {o : O} (h : Ok K μ S H) (e : S[n]? = some o) : ∃ a, μ[n]? = some a ∧ ORep K μ H o a := by
  have hl : n < μ.length := by rw [h.len]; exact (List.getElem?_eq_some_iff.mp e).1
  exact ⟨μ[n], List.getElem?_eq_getElem hl, h.obj n _ _ e (List.getElem?_eq_getElem hl)⟩
theorem Ok.mem {S : Os} {a : Addr} (h : Ok K μ S H) (e : a ∈ μ) : ∃ u, H a = some u ∧ Mut (some u) := by
  obtain ⟨n, hn⟩ := List.getElem?_of_mem e
  obtain ⟨o, _, r⟩ := h.at hn
  exact r.there
theorem Ok.notmem {S : Os} {p : Addr} (h : Ok K μ S H) (hp : H p = none) : p ∉ μ := fun e => by
  obtain ⟨u, q, _⟩ := h.mem e
  rw [hp] at q
  cases q
theorem tab_keep {P : Addr} (h : GxR.TabG H P) (k : ∀ a u, H a = some u → H' a = some u) : GxR.TabG H' P := let ⟨ps, e, t⟩ := h; ⟨ps, k _ _ e, t⟩
theorem Ok.more {S : Os} (k : ∀ a u, H a = some u → H' a = some u) (h : Ok K μ S H) : Ok K μ S H' :=
  ⟨h.len, h.nd, fun p hp => tab_keep (h.tab p hp) k, fun p hp => (h.tabl p hp).ext k, h.tnd, fun n o a e1 e2 => ORep.mono (Nx.of0 k) (k a) (h.obj n o a e1 e2)⟩
theorem Ok.new0 {S : Os} {p : Addr} {o : HO} (hp : H p = none) (h : Ok K μ S H) : Ok K μ S (upd H p o) := h.more (keep_new hp)
/-- an object is made at p and taken up -/
theorem Ok.alloc {S : Os} {p : Addr} {u : HO} {o : O} (h : Ok K μ S H) (hp : H p = none) (r : ORep K (μ ++ [p]) (upd H p u) o p) : Ok K (μ ++ [p]) (S ++ [o]) (upd H p u) where
  len := by rw [List.length_append, List.length_append, h.len]; rfl
  nd := by
    refine List.nodup_append.mpr ⟨h.nd, by simp, ?_⟩
    intro a ha b hb
    rw [List.mem_singleton] at hb
    rintro rfl
    exact h.notmem hp (hb ▸ ha)
  tab := fun q hq => tab_keep (h.tab q hq) (keep_new hp)
  tabl := fun q hq => (h.tabl q hq).ext (keep_new hp)
  tnd := h.tnd
  obj := fun n o' a e1 e2 => by
    by_cases hn : n < S.length
    · rw [List.getElem?_append_left hn] at e1
      rw [List.getElem?_append_left (by rw [h.len]; exact hn)] at e2
      exact ORep.mono (Nx.new hp [p]) (keep_new hp a) (h.obj n o' a e1 e2)
    · have hn' : S.length ≤ n := Nat.le_of_not_lt hn
      rw [List.getElem?_append_right hn'] at e1
      rw [List.getElem?_append_right (by rw [h.len]; exact hn'), h.len] at e2
      have z : n - S.length = 0 := by
        have := (List.getElem?_eq_some_iff.mp e1).1
        simp at this
        omega
      rw [z] at e1 e2
      have q1 : o = o' := by simpa using e1
      have q2 : p = a := by simpa using e2
      subst q1; subst q2
      exact r
theorem Ok.loc_new {S : Os} {p : Addr} (h : Ok K μ S H) (v : Addr) : (μ ++ [p])[S.length]? = some p := by
  rw [← h.len]
  simp
/-- an object is changed -/
theorem Nx.put {S : Os} {a : Addr} {u : HO} (h : Ok K μ S H) (ha : a ∈ μ) : Nx H μ (upd H a u) μ := by
  obtain ⟨w, q, mu⟩ := h.mem ha
  have ne : ∀ b x, H b = some x → ¬ Mut (some x) → b ≠ a := fun b x e m z => by
    subst z
    rw [q] at e
    cases e
    exact m mu
  refine ⟨⟨[], (List.append_nil _).symm⟩, fun b xs e => ?_, fun b o xs e => ?_, fun b o xs e => ?_, fun b vs e => ?_⟩
  · rw [upd_ne (ne b _ e fun z => z)]; exact e
  · rw [upd_ne (ne b _ e fun z => z)]; exact e
  · rw [upd_ne (ne b _ e fun z => z)]; exact e
  · rw [upd_ne (ne b _ e fun z => z)]; exact e
theorem Ok.put {S : Os} {n : Nat} {a : Addr} {u : HO} {o : O} (h : Ok K μ S H) (e : μ[n]? = some a) (r : ORep K μ (upd H a u) o a) : Ok K μ (S.set n o) (upd H a u) where
  len := by rw [List.length_set]; exact h.len
  nd := h.nd
  tab := fun q hq => by
    obtain ⟨ps, e9, t9⟩ := h.tab q hq
    refine ⟨ps, ?_, t9⟩
    rw [upd_ne]
    · exact e9
    · intro z
      obtain ⟨w, q9, mu⟩ := h.mem (List.mem_of_getElem? e)
      rw [← z, e9] at q9
      cases q9
      exact mu
  tabl := fun q hq => by
    obtain ⟨ps, e9, t9, c9⟩ := h.tabl q hq
    obtain ⟨w, q9, mu⟩ := h.mem (List.mem_of_getElem? e)
    refine ⟨ps, ?_, t9, fun pos cv hcv => ?_⟩
    · rw [upd_ne]
      · exact e9
      · intro z
        rw [← z, e9] at q9
        cases q9
        exact mu
    · obtain ⟨c1, a1, a2⟩ := c9 pos cv hcv
      refine ⟨c1, a1, ?_⟩
      rw [upd_ne]
      · exact a2
      · intro z
        obtain ⟨o7, _, r7⟩ := h.at e
        subst z
        cases o7 with
        | lst l => obtain ⟨vs, h7, _⟩ := r7; rw [a2] at h7; cases h7
        | dK l => obtain ⟨vs, h7, _⟩ := r7; rw [a2] at h7; cases h7
        | dT l => obtain ⟨vs, h7, _⟩ := r7; rw [a2] at h7; cases h7
        | ins C l => obtain ⟨dx, vs, h7, _⟩ := r7; rw [a2] at h7; cases h7
  tnd := h.tnd
  obj := fun m o' b e1 e2 => by
    have ha : a ∈ μ := List.mem_of_getElem? e
    by_cases hm : m = n
    · subst hm
      have hl : m < S.length := by rw [← h.len]; exact (List.getElem?_eq_some_iff.mp e).1
      rw [List.getElem?_set_self hl] at e1
      cases e1
      rw [e] at e2
      cases e2
      exact r
    · rw [List.getElem?_set_ne (Ne.symm hm)] at e1
      have hb : b ≠ a := fun z => by
        subst z
        obtain ⟨l1, q1⟩ := List.getElem?_eq_some_iff.mp e
        obtain ⟨l2, q2⟩ := List.getElem?_eq_some_iff.mp e2
        exact hm ((List.getElem_inj h.nd).mp (q2.trans q1.symm))
      exact ORep.mono (Nx.put h ha) (fun x q => by rw [upd_ne hb]; exact q) (h.obj m o' b e1 e2)
theorem FrRel.set {σd : Fr} {σ : L2.St} {i : Nat} {d : D} {v : V} (h : FrRel K μ H σd σ) (r : Rep K μ H d v) : FrRel K μ H (σd.set i (some d)) (σ.set i (some v)) := by
  refine ⟨by rw [List.length_set, List.length_set]; exact h.1, fun j d' e => ?_⟩
  by_cases hj : j = i
  · subst hj
    have hl : j < σd.length := by
      have := (List.getElem?_eq_some_iff.mp e).1
      rwa [List.length_set] at this
    rw [List.getElem?_set_self hl] at e
    cases e
    exact ⟨v, by rw [List.getElem?_set_self (by rw [← h.1]; exact hl)], r⟩
  · rw [List.getElem?_set_ne (Ne.symm hj)] at e
    obtain ⟨u, h1, h2⟩ := h.2 j d' e
    exact ⟨u, by rw [List.getElem?_set_ne (Ne.symm hj)]; exact h1, h2⟩
end

/-! ### readings that go by data -/
section
variable (K : PySem.W.Frag)
/-- what is wished of a result -/
def Pst (W : WX) (σ : L2.St) (Q : VK) (μ : List Addr) (H : Hp) (r : Res D) : Prop := match r with
  | .ok d S => ∀ μ' H' v, Nx H μ H' μ' → Ok K μ' S H' → Rep K μ' H' d v → Q v H'
  | .exn e S => ∀ μ' H' c dd, Nx H μ H' μ' → Ok K μ' S H' → ExRep K μ' H' e c dd → W c dd σ H'
  | .bad => False
def PstA (W : WX) (σ : L2.St) (Q : List V → Hp → Prop) (μ : List Addr) (H : Hp) (r : Res (List D)) : Prop := match r with
  | .ok d S => ∀ μ' H' v, Nx H μ H' μ' → Ok K μ' S H' → Reps K μ' H' d v → Q v H'
  | .exn e S => ∀ μ' H' c dd, Nx H μ H' μ' → Ok K μ' S H' → ExRep K μ' H' e c dd → W c dd σ H'
  | .bad => False
def PstT (W : WX) (σ : L2.St) (Q : Bool → Hp → Prop) (μ : List Addr) (H : Hp) (r : Res Bool) : Prop := match r with
  | .ok b S => ∀ μ' H', Nx H μ H' μ' → Ok K μ' S H' → Q b H'
  | .exn e S => ∀ μ' H' c dd, Nx H μ H' μ' → Ok K μ' S H' → ExRep K μ' H' e c dd → W c dd σ H'
  | .bad => False
def PstS (W : WX) (D : Ends) (μ : List Addr) (H : Hp) (r : SRes) : Prop := match r with
  | .nx σd S => ∀ μ' H' σ, Nx H μ H' μ' → Ok K μ' S H' → FrRel K μ' H' σd σ → D.nx σ H'
  | .rt d S => ∀ μ' H' v, Nx H μ H' μ' → Ok K μ' S H' → Rep K μ' H' d v → D.rt v H'
  | .bk σd S => ∀ μ' H' σ, Nx H μ H' μ' → Ok K μ' S H' → FrRel K μ' H' σd σ → D.bk σ H'
  | .ct σd S => ∀ μ' H' σ, Nx H μ H' μ' → Ok K μ' S H' → FrRel K μ' H' σd σ → D.ct σ H'
  | .exn e σd S => ∀ μ' H' c dd σ, Nx H μ H' μ' → Ok K μ' S H' → FrRel K μ' H' σd σ → ExRep K μ' H' e c dd → W c dd σ H'
  | .bad => False
def LE (W : WX) (f : ME) : TE := fun σ H Q => ∃ μ S σd, Ok K μ S H ∧ FrRel K μ H σd σ ∧ Pst K W σ Q μ H (f σd S)
def LA (W : WX) (f : MA) : TA := fun σ H Q => ∃ μ S σd, Ok K μ S H ∧ FrRel K μ H σd σ ∧ PstA K W σ Q μ H (f σd S)
def LT (W : WX) (f : MT) : TT := fun σ H Q => ∃ μ S σd, Ok K μ S H ∧ FrRel K μ H σd σ ∧ PstT K W σ Q μ H (f σd S)
def LS (W : WX) (f : MS) : TS := fun D σ H => ∃ μ S σd, Ok K μ S H ∧ FrRel K μ H σd σ ∧ PstS K W D μ H (f σd S)
end
section
variable {K : PySem.W.Frag} {W : WX} {σ : L2.St} {H H' : Hp} {μ μ' : List Addr}
theorem Pst.go {Q : VK} {r : Res D} (x : Nx H μ H' μ') (h : Pst K W σ Q μ H r) : Pst K W σ Q μ' H' r := by
  cases r with
  | ok d S => exact fun μ2 H2 v y => h μ2 H2 v (x.trans y)
  | exn e S => exact fun μ2 H2 c dd y => h μ2 H2 c dd (x.trans y)
  | bad => exact h
theorem PstA.go {Q : List V → Hp → Prop} {r : Res (List D)} (x : Nx H μ H' μ') (h : PstA K W σ Q μ H r) : PstA K W σ Q μ' H' r := by
  cases r with
  | ok d S => exact fun μ2 H2 v y => h μ2 H2 v (x.trans y)
  | exn e S => exact fun μ2 H2 c dd y => h μ2 H2 c dd (x.trans y)
  | bad => exact h
theorem PstT.go {Q : Bool → Hp → Prop} {r : Res Bool} (x : Nx H μ H' μ') (h : PstT K W σ Q μ H r) : PstT K W σ Q μ' H' r := by
  cases r with
  | ok d S => exact fun μ2 H2 y => h μ2 H2 (x.trans y)
  | exn e S => exact fun μ2 H2 c dd y => h μ2 H2 c dd (x.trans y)
  | bad => exact h
theorem PstS.go {D : Ends} {r : SRes} (x : Nx H μ H' μ') (h : PstS K W D μ H r) : PstS K W D μ' H' r := by
  cases r with
  | nx σd S => exact fun μ2 H2 s y => h μ2 H2 s (x.trans y)
  | rt d S => exact fun μ2 H2 v y => h μ2 H2 v (x.trans y)
  | bk σd S => exact fun μ2 H2 s y => h μ2 H2 s (x.trans y)
  | ct σd S => exact fun μ2 H2 s y => h μ2 H2 s (x.trans y)
  | exn e σd S => exact fun μ2 H2 c dd s y => h μ2 H2 c dd s (x.trans y)
  | bad => exact h
/-- a value is what is wished -/
theorem Pst.val {Q : VK} {d : D} {S : Os} {v : V} (h : Pst K W σ Q μ H (.ok d S)) (o : Ok K μ S H) (r : Rep K μ H d v) : Q v H := h μ H v (Nx.refl H μ) o r
end
end MX

end
section
namespace MX
open PySem PySem.Spec PyProof.Rows L2

theorem PE.imp {X : Cx} {e : Expr} {t u : TE} (h : PE X e t) (i : ∀ σ H Q, u σ H Q → t σ H Q) : PE X e u := ⟨fun pins s σ H Q I q => h.run pins s σ H Q I (i _ _ _ q)⟩
theorem PT.imp {X : Cx} {e : Expr} {t u : TT} (h : PT X e t) (i : ∀ σ H Q, u σ H Q → t σ H Q) : PT X e u := ⟨fun pins s σ H Q I q => h.run pins s σ H Q I (i _ _ _ q)⟩
theorem PA.imp {X : Cx} {e : List Expr} {t u : TA} (h : PA X e t) (i : ∀ σ H Q, u σ H Q → t σ H Q) : PA X e u := ⟨fun pos pins s σ H Q I q => h.run pos pins s σ H Q I (i _ _ _ q)⟩
theorem PS.imp {X : Cx} {e : Stmt} {t u : TS} (h : PS X e t) (i : ∀ D σ H, u D σ H → t D σ H) : PS X e u := ⟨fun pins s σ H D I q => h.run pins s σ H D I (i _ _ _ q)⟩
theorem PSs.imp {X : Cx} {e : List Stmt} {t u : TS} (h : PSs X e t) (i : ∀ D σ H, u D σ H → t D σ H) : PSs X e u := ⟨fun pins s σ H D I q => h.run pins s σ H D I (i _ _ _ q)⟩

/-! ### expressions by data -/
@[simp] def mVar (i : Nat) : ME := fun σ S => match σ[i]? with
  | some (some d) => .ok d S
  | _ => .bad
@[simp] def mC (d : D) : ME := fun _ S => .ok d S
@[simp] def mBin (op : D → D → Os → Res D) (a b : ME) : ME := fun σ S => (a σ S).bind fun x S1 => (b σ S1).bind fun y S2 => op x y S2
@[simp] def mUn (op : D → Os → Res D) (a : ME) : ME := fun σ S => (a σ S).bind fun x S1 => op x S1
@[simp] def mNil : MA := fun _ S => .ok [] S
@[simp] def mCons (a : ME) (r : MA) : MA := fun σ S => (a σ S).bind fun x S1 => (r σ S1).bind fun xs S2 => .ok (x :: xs) S2
@[simp] def mCB (op : List D → Os → Res D) (a : MA) : ME := fun σ S => (a σ S).bind fun xs S1 => op xs S1
@[simp] def mTup (a : MA) : ME := fun σ S => (a σ S).bind fun xs S1 => if xs.length ≤ sizeLine then .ok (.tup xs) S1 else .bad
@[simp] def mLst (a : MA) : ME := fun σ S => (a σ S).bind fun xs S1 => if xs.length ≤ sizeLine then .ok (.loc S1.length) (S1 ++ [.lst xs]) else .bad
def truth (S : Os) : D → Option Bool
  | .non => some false
  | .bl b => some b
  | .int i => some (i != 0)
  | _ => none
@[simp] def mTest (a : ME) : MT := fun σ S => (a σ S).bind fun x S1 => match x with
  | .bl b => .ok b S1
  | _ => .bad
@[simp] def mAnd (a b : MT) : MT := fun σ S => (a σ S).bind fun x S1 => if x = true then b σ S1 else .ok false S1
@[simp] def mOr (a b : MT) : MT := fun σ S => (a σ S).bind fun x S1 => if x = true then .ok true S1 else b σ S1
@[simp] def mNot (a : MT) : MT := fun σ S => (a σ S).bind fun x S1 => .ok (!x) S1
@[simp] def mAndV (a b : ME) : ME := fun σ S => (a σ S).bind fun x S1 => match x with
  | .bl true => b σ S1
  | .bl false => .ok (.bl false) S1
  | _ => .bad
@[simp] def mOrV (a b : ME) : ME := fun σ S => (a σ S).bind fun x S1 => match x with
  | .bl true => .ok (.bl true) S1
  | .bl false => b σ S1
  | _ => .bad
@[simp] def mNotV (a : ME) : ME := fun σ S => (a σ S).bind fun x S1 => match x with
  | .bl b => .ok (.bl (!b)) S1
  | _ => .bad
@[simp] def mIfE (t : MT) (a b : ME) : ME := fun σ S => (t σ S).bind fun x S1 => if x = true then a σ S1 else b σ S1
/-- a comparison's chain -/
@[simp] def mChain (op op' : D → D → Os → Res D) (a b c : ME) : ME := fun σ S => (a σ S).bind fun x S1 => (b σ S1).bind fun y S2 => (op x y S2).bind fun z S3 => match z with
  | .bl true => (c σ S3).bind fun u S4 => op' y u S4
  | .bl false => .ok (.bl false) S3
  | _ => .bad
/-- a callee -/
abbrev Fn := List D → Os → Res D

variable [TL]
section
variable {K : PySem.W.Frag} {W : WX} {σ : L2.St} {H : Hp} {μ : List Addr}
/-- a result, and what comes behind it -/
theorem Pst.andThen {Q Q' : VK} {r : Res D} {g : D → Os → Res D} (p : Pst K W σ Q μ H (r.bind g))
    (k : ∀ v H1 μ1 S1 d, Nx H μ H1 μ1 → Ok K μ1 S1 H1 → Rep K μ1 H1 d v → Pst K W σ Q μ1 H1 (g d S1) → Q' v H1) : Pst K W σ Q' μ H r := by
  cases r with
  | ok d S => exact fun μ1 H1 v x o r => k v H1 μ1 S d x o r (p.go x)
  | exn e S => exact p
  | bad => exact p
theorem PstT.andThenE {Q : VK} {Q' : Bool → Hp → Prop} {r : Res Bool} {g : Bool → Os → Res D} (p : Pst K W σ Q μ H (r.bind g))
    (k : ∀ b H1 μ1 S1, Nx H μ H1 μ1 → Ok K μ1 S1 H1 → Pst K W σ Q μ1 H1 (g b S1) → Q' b H1) : PstT K W σ Q' μ H r := by
  cases r with
  | ok d S => exact fun μ1 H1 x o => k d H1 μ1 S x o (p.go x)
  | exn e S => exact p
  | bad => exact p
theorem PstA.andThenE {Q : VK} {Q' : List V → Hp → Prop} {r : Res (List D)} {g : List D → Os → Res D} (p : Pst K W σ Q μ H (r.bind g))
    (k : ∀ v H1 μ1 S1 d, Nx H μ H1 μ1 → Ok K μ1 S1 H1 → Reps K μ1 H1 d v → Pst K W σ Q μ1 H1 (g d S1) → Q' v H1) : PstA K W σ Q' μ H r := by
  cases r with
  | ok d S => exact fun μ1 H1 v x o r => k v H1 μ1 S d x o r (p.go x)
  | exn e S => exact p
  | bad => exact p
theorem Pst.andThenA {Q : List V → Hp → Prop} {Q' : VK} {r : Res D} {g : D → Os → Res (List D)} (p : PstA K W σ Q μ H (r.bind g))
    (k : ∀ v H1 μ1 S1 d, Nx H μ H1 μ1 → Ok K μ1 S1 H1 → Rep K μ1 H1 d v → PstA K W σ Q μ1 H1 (g d S1) → Q' v H1) : Pst K W σ Q' μ H r := by
  cases r with
  | ok d S => exact fun μ1 H1 v x o r => k v H1 μ1 S d x o r (p.go x)
  | exn e S => exact p
  | bad => exact p
theorem PstA.andThenA {Q : List V → Hp → Prop} {Q' : List V → Hp → Prop} {r : Res (List D)} {g : List D → Os → Res (List D)} (p : PstA K W σ Q μ H (r.bind g))
    (k : ∀ v H1 μ1 S1 d, Nx H μ H1 μ1 → Ok K μ1 S1 H1 → Reps K μ1 H1 d v → PstA K W σ Q μ1 H1 (g d S1) → Q' v H1) : PstA K W σ Q' μ H r := by
  cases r with
  | ok d S => exact fun μ1 H1 v x o r => k v H1 μ1 S d x o r (p.go x)
  | exn e S => exact p
  | bad => exact p
theorem Pst.andThenT {Q : Bool → Hp → Prop} {Q' : VK} {r : Res D} {g : D → Os → Res Bool} (p : PstT K W σ Q μ H (r.bind g))
    (k : ∀ v H1 μ1 S1 d, Nx H μ H1 μ1 → Ok K μ1 S1 H1 → Rep K μ1 H1 d v → PstT K W σ Q μ1 H1 (g d S1) → Q' v H1) : Pst K W σ Q' μ H r := by
  cases r with
  | ok d S => exact fun μ1 H1 v x o r => k v H1 μ1 S d x o r (p.go x)
  | exn e S => exact p
  | bad => exact p
theorem PstT.andThenT {Q : Bool → Hp → Prop} {Q' : Bool → Hp → Prop} {r : Res Bool} {g : Bool → Os → Res Bool} (p : PstT K W σ Q μ H (r.bind g))
    (k : ∀ b H1 μ1 S1, Nx H μ H1 μ1 → Ok K μ1 S1 H1 → PstT K W σ Q μ1 H1 (g b S1) → Q' b H1) : PstT K W σ Q' μ H r := by
  cases r with
  | ok d S => exact fun μ1 H1 x o => k d H1 μ1 S x o (p.go x)
  | exn e S => exact p
  | bad => exact p
/-- an operator by data -/
def RD2 (K : PySem.W.Frag) (r : R2) (op : D → D → Os → Res D) : Prop := ∀ (W : WX) (σ : L2.St) (Q : VK) (μ : List Addr) (S : Os) (H : Hp) (d e : D) (x y : V), Ok K μ S H → Rep K μ H d x → Rep K μ H e y → Pst K W σ Q μ H (op d e S) → r x y H Q
def RDC (K : PySem.W.Frag) (r : List V → Hp → VK → Prop) (op : List D → Os → Res D) : Prop := ∀ (W : WX) (σ : L2.St) (Q : VK) (μ : List Addr) (S : Os) (H : Hp) (ds : List D) (xs : List V), Ok K μ S H → Reps K μ H ds xs → Pst K W σ Q μ H (op ds S) → r xs H Q
def RD1 (K : PySem.W.Frag) (r : V → Hp → VK → Prop) (op : D → Os → Res D) : Prop := ∀ (W : WX) (σ : L2.St) (Q : VK) (μ : List Addr) (S : Os) (H : Hp) (d : D) (x : V), Ok K μ S H → Rep K μ H d x → Pst K W σ Q μ H (op d S) → r x H Q
end
section
variable {X : Cx} {W : WX} {a b c : Expr} {es : List Expr} {fa fb fc : ME} {pos : Pos}
theorem e_var {e : Expr} (i : Nat) (h : PE X e (tVar i)) : PE X e (LE X.K W (mVar i)) :=
  PE.imp h fun σ H Q ⟨μ, S, σd, o, f, p⟩ => by
    unfold mVar at p
    cases e : σd[i]? with
    | none => rw [e] at p; exact p.elim
    | some od =>
      cases od with
      | none => rw [e] at p; exact p.elim
      | some d =>
        rw [e] at p
        obtain ⟨v, h1, h2⟩ := f.2 i d e
        exact ⟨v, h1, p.val o h2⟩
theorem e_con {d : D} {v : V} {e : Expr} (h : PE X e (tC v)) (r : ∀ μ H, Rep X.K μ H d v) : PE X e (LE X.K W (mC d)) := PE.imp h fun σ H Q ⟨μ, S, σd, o, f, p⟩ => p.val o (r _ _)
theorem e_int {i : Int} {j} : PE X (.Constant (.int i) j pos) (LE X.K W (mC (.int i))) := e_con pe_int fun _ _ => rfl
theorem e_str {i : Str} {j} : PE X (.Constant (.str i) j pos) (LE X.K W (mC (.str i))) := e_con pe_str fun _ _ => rfl
theorem e_bl {i : Bool} {j} : PE X (.Constant (.bool i) j pos) (LE X.K W (mC (.bl i))) := e_con pe_bl fun _ _ => rfl
theorem e_non {j} : PE X (.Constant .none j pos) (LE X.K W (mC .non)) := e_con pe_non fun _ _ => rfl
theorem le_bin {r : R2} {op : D → D → Os → Res D} (hr : RD2 X.K r op) (σ : L2.St) (H : Hp) (Q : VK) (h : LE X.K W (mBin op fa fb) σ H Q) : tOp r (LE X.K W fa) (LE X.K W fb) σ H Q := by
  obtain ⟨μ, S, σd, o, f, p⟩ := h
  exact ⟨μ, S, σd, o, f, p.andThen fun v H1 μ1 S1 d x o1 r1 p1 => ⟨μ1, S1, σd, o1, f.mono x, p1.andThen fun u H2 μ2 S2 e y o2 r2 p2 => hr W σ Q μ2 S2 H2 d e v u o2 (r1.mono y) r2 p2⟩⟩
theorem e_bin {r : R2} {op : D → D → Os → Res D} {bo : Operator} (ho : OpR X (binaryOp bo) r) (hr : RD2 X.K r op) (ha : PE X a (LE X.K W fa)) (hb : PE X b (LE X.K W fb)) : PE X (.BinOp a bo b pos) (LE X.K W (mBin op fa fb)) :=
  PE.imp (pe_op ho ha hb) (le_bin hr)
theorem e_cmp {r : R2} {op : D → D → Os → Res D} {bo : CmpOp} (ho : OpR X (compareOp bo) r) (hr : RD2 X.K r op) (ha : PE X a (LE X.K W fa)) (hb : PE X b (LE X.K W fb)) (hm : behindInMarks bo b = false) : PE X (.Compare a [bo] [b] pos) (LE X.K W (mBin op fa fb)) :=
  PE.imp (pe_cmpR ho ha hb hm) (le_bin hr)
theorem e_ix {r : R2} {op : D → D → Os → Res D} (ho : IxR X r) (hr : RD2 X.K r op) (ha : PE X a (LE X.K W fa)) (hb : PE X b (LE X.K W fb)) (hs : PlainIx b) : PE X (.Subscript a b pos) (LE X.K W (mBin op fa fb)) :=
  PE.imp (pe_ix ho ha hb hs) (le_bin hr)
theorem e_un {r : V → Hp → VK → Prop} {op : D → Os → Res D} {bo : UnaryOp} (ho : UnR X (unaryOp bo) r) (hr : RD1 X.K r op) (ha : PE X a (LE X.K W fa)) : PE X (.UnaryOp bo a pos) (LE X.K W (mUn op fa)) :=
  PE.imp (pe_un ho ha) fun σ H Q ⟨μ, S, σd, o, f, p⟩ => ⟨μ, S, σd, o, f, p.andThen fun v H1 μ1 S1 d x o1 r1 p1 => hr W σ Q μ1 S1 H1 d v o1 r1 p1⟩
theorem a_nil : PA X [] (LA X.K W mNil) := PA.imp pa_nil fun σ H Q ⟨μ, S, σd, o, f, p⟩ => p μ H [] (Nx.refl H μ) o rfl
theorem a_cons {fr : MA} (ha : PE X a (LE X.K W fa)) (hr : PA X es (LA X.K W fr)) (hs : starEach (a :: es) X.env = (false, eval a X.env) :: starEach es X.env := by rfl) : PA X (a :: es) (LA X.K W (mCons fa fr)) :=
  PA.imp (pa_cons ha hr hs) fun σ H Q ⟨μ, S, σd, o, f, p⟩ => ⟨μ, S, σd, o, f, Pst.andThenA p fun v H1 μ1 S1 d x o1 r1 p1 => ⟨μ1, S1, σd, o1, f.mono x, PstA.andThenA p1 fun vs H2 μ2 S2 ds y o2 r2 p2 => p2 μ2 H2 (v :: vs) (Nx.refl H2 μ2) o2 ⟨v, vs, rfl, r1.mono y, r2⟩⟩⟩
end
end MX

end
section
namespace MX
noncomputable section
open PySem PySem.Spec PyProof.Rows L2
variable [TL]

theorem OpR.or {X : Cx} {f : Value → Value → Sem Value} {r r' : R2} (h : OpR X f r) (h' : OpR X f r') : OpR X f (fun x y H Q => r x y H Q ∨ r' x y H Q) := by
  intro pins s σ H x y v u Q I rx ry q
  rcases q with q | q
  · exact h pins s σ H x y v u Q I rx ry q
  · exact h' pins s σ H x y v u Q I rx ry q
theorem CallR.or {X : Cx} {f : Value} {r r' : List V → Hp → VK → Prop} (h : CallR X f r) (h' : CallR X f r') : CallR X f (fun x H Q => r x H Q ∨ r' x H Q) := by
  intro pins s σ H xs us Q I rx q
  rcases q with q | q
  · exact h pins s σ H xs us Q I rx q
  · exact h' pins s σ H xs us Q I rx q
section
variable {K : PySem.W.Frag} {μ : List Addr} {H : Hp} {S : Os}
/-- the list of an object -/
def lstAt (S : Os) (n : Nat) : Option (List D) := match S[n]? with
  | some (.lst l) => some l
  | _ => none
theorem Ok.lst {n : Nat} {l : List D} {x : V} (o : Ok K μ S H) (e : lstAt S n = some l) (r : Rep K μ H (.loc n) x) : ∃ a vs, μ[n]? = some a ∧ x = .ref a ∧ H a = some (.lst vs) ∧ Reps K μ H l vs := by
  unfold lstAt at e
  obtain ⟨a, h1, h2⟩ := r
  cases q : S[n]? with
  | none => rw [q] at e; cases e
  | some ob =>
    rw [q] at e
    cases ob with
    | lst l' =>
      cases e
      obtain ⟨vs, h3, h4⟩ := o.obj n _ a q h1
      exact ⟨a, vs, h1, h2, h3, h4⟩
    | _ => cases e
/-- a new list -/
theorem new_lst {W : WX} {σ : L2.St} {Q : VK} {l : List D} {vs : List V} (o : Ok K μ S H) (r : Reps K μ H l vs) (p : Pst K W σ Q μ H (.ok (.loc S.length) (S ++ [.lst l]))) (a : Addr) (ha : H a = none) : Q (.ref a) (upd H a (.lst vs)) :=
  p (μ ++ [a]) _ (.ref a) (Nx.new ha [a]) (o.alloc ha ⟨vs, upd_same, Reps.mono (Nx.new ha [a]) _ _ r⟩) ⟨a, o.loc_new a, rfl⟩
/-- a new tuple -/
theorem new_tup {W : WX} {σ : L2.St} {Q : VK} {l : List D} {vs : List V} (o : Ok K μ S H) (r : Reps K μ H l vs) (p : Pst K W σ Q μ H (.ok (.tup l) S)) (a : Addr) (ha : H a = none) : Q (.ref a) (upd H a (.tup vs)) :=
  p μ _ (.ref a) (Nx.new0 ha) (o.new0 ha) ⟨a, vs, rfl, .inl (.inl upd_same), Reps.mono (Nx.new0 ha) _ _ r⟩
/-- a list that changes -/
theorem put_lst {n : Nat} {a : Addr} {l : List D} {vs : List V} (o : Ok K μ S H) (e : μ[n]? = some a) (r : Reps K μ H l vs) : Ok K μ (S.set n (.lst l)) (upd H a (.lst vs)) :=
  o.put e ⟨vs, upd_same, Reps.mono (Nx.put o (List.mem_of_getElem? e)) _ _ r⟩
end

theorem Pst.ite {K : PySem.W.Frag} {W : WX} {σ : L2.St} {Q : VK} {μ : List Addr} {H : Hp} {c : Prop} {_ : Decidable c} {r : Res D} (p : Pst K W σ Q μ H (if c then r else .bad)) : c ∧ Pst K W σ Q μ H r := by
  by_cases h : c
  · rw [if_pos h] at p
    exact ⟨h, p⟩
  · rw [if_neg h] at p
    exact p.elim
/-! ### + -/
@[simp] def addD : D → D → Os → Res D
  | .int i, .int j, S => .ok (.int (i + j)) S
  | .str a, .str b, S => if a.length + b.length ≤ sizeLine then .ok (.str (a ++ b)) S else .bad
  | .loc a, .loc b, S => match lstAt S a, lstAt S b with
    | some l, some m => if l.length + m.length ≤ sizeLine then .ok (.loc S.length) (S ++ [.lst (l ++ m)]) else .bad
    | _, _ => .bad
  | .tup l, .tup m, S => if l.length + m.length ≤ sizeLine ∧ l ≠ [] then .ok (.tup (l ++ m)) S else .bad
  | _, _, _ => .bad
def rStrAdd : R2 := fun x y H Q => ∃ i j, x = .str i ∧ y = .str j ∧ i.length + j.length ≤ sizeLine ∧ Q (.str (i ++ j)) H
def rAddD (K : PySem.W.Frag) : R2 := fun x y H Q => rI0 (fun i j => .int (i + j)) x y H Q ∨ (rStrAdd x y H Q ∨ (rCat x y H Q ∨ rCatT K x y H Q))
theorem o_add {X : Cx} : OpR X (binaryOp .Add) (rAddD X.K) := OpR.or op_add (OpR.or op_add_str (OpR.or op_cat op_catT))
theorem rd_add {K : PySem.W.Frag} : RD2 K (rAddD K) addD := by
  intro W σ Q μ S H d e x y o rx ry p
  cases d <;> cases e <;> try exact p.elim
  · cases rx; cases ry
    exact .inl ⟨_, _, rfl, rfl, p.val o rfl⟩
  · cases rx; cases ry
    refine .inr (.inl ?_)
    dsimp only [addD] at p
    obtain ⟨h, p⟩ := p.ite
    exact ⟨_, _, rfl, rfl, h, p.val o rfl⟩
  · rename_i l m
    obtain ⟨a, vs, rfl, h1, h2⟩ := rx
    obtain ⟨b, us, rfl, h3, h4⟩ := ry
    refine .inr (.inr (.inr ?_))
    dsimp only [addD] at p
    obtain ⟨h, p⟩ := p.ite
    refine ⟨a, b, vs, us, rfl, rfl, h1, h3, ?_, by rw [← h2.len, ← h4.len]; exact h.1, fun z => ?_, fun _ q hq => new_tup o (h2.app h4) p q hq⟩
    · intro z
      have := h2.len
      rw [z] at this
      exact h.2 (List.length_eq_zero_iff.mp this)
    · have : m = [] := by
        have := h4.len
        rw [z] at this
        exact List.length_eq_zero_iff.mp this
      subst this
      rw [List.append_nil] at p
      exact p.val o ⟨a, vs, rfl, h1, h2⟩
  · rename_i n m
    refine .inr (.inr (.inl ?_))
    dsimp only [addD] at p
    cases e1 : lstAt S n with
    | none => rw [e1] at p; exact p.elim
    | some l =>
      cases e2 : lstAt S m with
      | none => rw [e1, e2] at p; exact p.elim
      | some k =>
        rw [e1, e2] at p
        dsimp only at p
        obtain ⟨a, vs, _, rfl, h2, h3⟩ := o.lst e1 rx
        obtain ⟨b, us, _, rfl, h5, h6⟩ := o.lst e2 ry
        obtain ⟨h, p⟩ := p.ite
        exact ⟨a, b, vs, us, rfl, rfl, h2, h5, by rw [← h3.len, ← h6.len]; exact h, fun q hq => new_lst o (h3.app h6) p q hq⟩
/-! ### ints -/
@[simp] def intD (g : Int → Int → D) (C : Int → Int → Prop) [∀ i j, Decidable (C i j)] : D → D → Os → Res D
  | .int i, .int j, S => if C i j then .ok (g i j) S else .bad
  | _, _, _ => .bad
theorem rd_int {K : PySem.W.Frag} {C : Int → Int → Prop} [∀ i j, Decidable (C i j)] {g : Int → Int → Int} : RD2 K (rI C fun i j => .int (g i j)) (intD (fun i j => .int (g i j)) C) := by
  intro W σ Q μ S H d e x y o rx ry p
  cases d <;> cases e <;> try exact p.elim
  cases rx; cases ry
  dsimp only [intD] at p
  obtain ⟨h, p⟩ := p.ite
  exact ⟨_, _, rfl, rfl, h, p.val o rfl⟩
@[simp] def subD : D → D → Os → Res D
  | .int i, .int j, S => .ok (.int (i - j)) S
  | _, _, _ => .bad
theorem rd_sub {K : PySem.W.Frag} : RD2 K (rI0 fun i j => .int (i - j)) subD := by
  intro W σ Q μ S H d e x y o rx ry p
  cases d <;> cases e <;> try exact p.elim
  cases rx; cases ry
  exact ⟨_, _, rfl, rfl, p.val o rfl⟩
noncomputable instance : ∀ i j, Decidable (CDivN i j) := fun i j => Classical.propDecidable _
noncomputable instance : ∀ i j, Decidable (CPow i j) := fun i j => Classical.propDecidable _
noncomputable instance : ∀ i j, Decidable (CMul i j) := fun i j => Classical.propDecidable _
abbrev fdivD := intD (fun i j => .int (i.fdiv j)) CDivN
abbrev modD := intD (fun i j => .int (i.fmod j)) (fun _ j => j ≠ 0)
abbrev powD := intD (fun i j => .int (i ^ j.toNat)) CPow
/-! ### * -/
def repStr (a : Str) (n : Nat) : Str := ⟨(List.replicate n a.cps.toList).flatten.toArray⟩
@[simp] def mulD : D → D → Os → Res D
  | .int i, .int j, S => if CMul i j then .ok (.int (i * j)) S else .bad
  | .loc n, .int k, S => match lstAt S n with
    | some l => if -(2 ^ 63) ≤ k ∧ k < 2 ^ 63 ∧ l.length * k.toNat ≤ sizeLine then .ok (.loc S.length) (S ++ [.lst (List.replicate k.toNat l).flatten]) else .bad
    | none => .bad
  | _, _, _ => .bad
theorem Reps.rep {K : PySem.W.Frag} {μ : List Addr} {H : Hp} {l : List D} {vs : List V} (h : Reps K μ H l vs) : ∀ n, Reps K μ H (List.replicate n l).flatten (List.replicate n vs).flatten
  | 0 => rfl
  | n + 1 => by
    rw [List.replicate_succ, List.replicate_succ, List.flatten_cons, List.flatten_cons]
    exact h.app (Reps.rep h n)
theorem rd_mul {K : PySem.W.Frag} : RD2 K (fun x y H Q => rI CMul (fun i j => .int (i * j)) x y H Q ∨ rRep x y H Q) mulD := by
  intro W σ Q μ S H d e x y o rx ry p
  cases d <;> cases e <;> try exact p.elim
  · cases rx; cases ry
    dsimp only [mulD] at p
    obtain ⟨h, p⟩ := p.ite
    exact .inl ⟨_, _, rfl, rfl, h, p.val o rfl⟩
  · rename_i n k
    cases ry
    dsimp only [mulD] at p
    cases e1 : lstAt S n with
    | none => rw [e1] at p; exact p.elim
    | some l =>
      rw [e1] at p
      dsimp only at p
      obtain ⟨a, vs, _, rfl, h2, h3⟩ := o.lst e1 rx
      obtain ⟨h, p⟩ := p.ite
      exact .inr ⟨a, k, vs, rfl, rfl, h2, h.1, h.2.1, by rw [← h3.len]; exact h.2.2, fun q hq => new_lst o (h3.rep _) p q hq⟩
theorem o_mul {X : Cx} : OpR X (binaryOp .Mult) (fun x y H Q => rI CMul (fun i j => .int (i * j)) x y H Q ∨ rRep x y H Q) := OpR.or op_mul op_rep
/-! ### < <= > >= -/
@[simp] def ltD : D → D → Os → Res D
  | .int i, .int j, S => .ok (.bl (decide (i < j))) S
  | .str i, .str j, S => .ok (.bl (decide (i.cps.toList < j.cps.toList))) S
  | _, _, _ => .bad
def rLtS : R2 := fun x y H Q => ∃ i j, x = .str i ∧ y = .str j ∧ Q (.bl (decide (i.cps.toList < j.cps.toList))) H
theorem o_lt {X : Cx} : OpR X (compareOp .Lt) (fun x y H Q => rI0 (fun i j => .bl (decide (i < j))) x y H Q ∨ rLtS x y H Q) := OpR.or op_lt op_lt_str
theorem rd_lt {K : PySem.W.Frag} : RD2 K (fun x y H Q => rI0 (fun i j => .bl (decide (i < j))) x y H Q ∨ rLtS x y H Q) ltD := by
  intro W σ Q μ S H d e x y o rx ry p
  cases d <;> cases e <;> try exact p.elim
  · cases rx; cases ry
    exact .inl ⟨_, _, rfl, rfl, p.val o rfl⟩
  · cases rx; cases ry
    exact .inr ⟨_, _, rfl, rfl, p.val o rfl⟩
@[simp] def cmpI (g : Int → Int → Bool) : D → D → Os → Res D
  | .int i, .int j, S => .ok (.bl (g i j)) S
  | _, _, _ => .bad
theorem rd_cmp {K : PySem.W.Frag} {g : Int → Int → Bool} : RD2 K (rI0 fun i j => .bl (g i j)) (cmpI g) := by
  intro W σ Q μ S H d e x y o rx ry p
  cases d <;> cases e <;> try exact p.elim
  cases rx; cases ry
  exact ⟨_, _, rfl, rfl, p.val o rfl⟩
abbrev leD := cmpI fun i j => decide (i ≤ j)
abbrev gtD := cmpI fun i j => decide (j < i)
abbrev geD := cmpI fun i j => decide (j ≤ i)
/-! ### == != on flat things, is -/
@[simp] def eqF : D → D → Option Bool
  | .non, .non => some true
  | .non, .int _ => some false
  | .int _, .non => some false
  | .non, .bl _ => some false
  | .bl _, .non => some false
  | .non, .str _ => some false
  | .str _, .non => some false
  | .int i, .int j => some (decide (i = j))
  | .bl i, .bl j => some (decide (i = j))
  | .str i, .str j => some (decide (i = j))
  | .int _, .str _ => some false
  | .str _, .int _ => some false
  | .bl _, .str _ => some false
  | .str _, .bl _ => some false
  | _, _ => none
theorem eqF_ok {K : PySem.W.Frag} {μ : List Addr} {H : Hp} {d e : D} {x y : V} {b : Bool} (rx : Rep K μ H d x) (ry : Rep K μ H e y) (h : eqF d e = some b) : scal x y = true ∧ decide (x = y) = b := by
  cases d <;> cases e <;> first | (cases rx; cases ry; simp_all [eqF, scal]) | (simp [eqF] at h)
@[simp] def eqD (neg : Bool) : D → D → Os → Res D := fun d e S => match eqF d e with
  | some b => .ok (.bl (if neg then !b else b)) S
  | none => .bad
theorem rd_eq {K : PySem.W.Frag} : RD2 K rEq (eqD false) := by
  intro W σ Q μ S H d e x y o rx ry p
  unfold eqD at p
  cases h : eqF d e with
  | none => rw [h] at p; exact p.elim
  | some b =>
    rw [h] at p
    obtain ⟨h1, h2⟩ := eqF_ok rx ry h
    exact ⟨h1, by rw [h2]; exact p.val o rfl⟩
theorem rd_ne {K : PySem.W.Frag} : RD2 K rNe (eqD true) := by
  intro W σ Q μ S H d e x y o rx ry p
  unfold eqD at p
  cases h : eqF d e with
  | none => rw [h] at p; exact p.elim
  | some b =>
    rw [h] at p
    obtain ⟨h1, h2⟩ := eqF_ok rx ry h
    exact ⟨h1, by rw [h2]; exact p.val o rfl⟩
end
end MX

end
section
namespace MX
open PySem PySem.Spec PyProof.Rows L2
variable [TL]
section
variable {X : Cx} {W : WX} {a b c : Expr} {es : List Expr} {fa fb fc : ME} {fs : MA} {ft fu : MT} {pos : Pos}
/-! ### compositions -/
theorem le_cb {K : PySem.W.Frag} {r : List V → Hp → VK → Prop} {op : List D → Os → Res D} (hr : RDC K r op) (σ : L2.St) (H : Hp) (Q : VK) (h : LE K W (mCB op fs) σ H Q) : tCB r (LA K W fs) σ H Q := by
  obtain ⟨μ, S, σd, o, f, p⟩ := h
  exact ⟨μ, S, σd, o, f, PstA.andThenE p fun v H1 μ1 S1 d x o1 r1 p1 => hr W σ Q μ1 S1 H1 d v o1 r1 p1⟩
theorem e_tup {x1} (h : PA X es (LA X.K W fs)) : PE X (.Tuple es x1 pos) (LE X.K W (mTup fs)) :=
  PE.imp (pe_tup h) fun σ H Q ⟨μ, S, σd, o, f, p⟩ => ⟨μ, S, σd, o, f, PstA.andThenE p fun v H1 μ1 S1 d x o1 r1 p1 => by
    obtain ⟨q, p1⟩ := p1.ite
    exact ⟨by rw [← r1.len]; exact q, fun a ha => new_tup o1 r1 p1 a ha⟩⟩
theorem e_lst (h : PA X es (LA X.K W fs)) : PE X (.List es pos) (LE X.K W (mLst fs)) :=
  PE.imp (pe_lst h) fun σ H Q ⟨μ, S, σd, o, f, p⟩ => ⟨μ, S, σd, o, f, PstA.andThenE p fun v H1 μ1 S1 d x o1 r1 p1 => by
    obtain ⟨q, p1⟩ := p1.ite
    exact ⟨by rw [← r1.len]; exact q, fun a ha => new_lst o1 r1 p1 a ha⟩⟩
theorem le_test (σ : L2.St) (H : Hp) (Q : Bool → Hp → Prop) (h : LT X.K W (mTest fa) σ H Q) : tB (LE X.K W fa) σ H Q := by
  obtain ⟨μ, S, σd, o, f, p⟩ := h
  refine ⟨μ, S, σd, o, f, Pst.andThenT p fun v H1 μ1 S1 d x o1 r1 p1 => ?_⟩
  cases d <;> try exact p1.elim
  rename_i b
  cases r1
  exact ⟨b, rfl, p1 μ1 H1 (Nx.refl _ _) o1⟩
theorem t_val {e : Expr} (h : PE X e (LE X.K W fa)) (he : ∀ whole, isTrue e X.env whole = (do let v ← whole; standAt e.pos; holding [v] (truthy v)) := by intro _; rfl) : PT X e (LT X.K W (mTest fa)) :=
  PT.imp (pt_val h he) le_test
theorem t_and (ha : PT X a (LT X.K W ft)) (hb : PW X (.BoolOp .And (b :: es) pos) (LT X.K W fu)) : PW X (.BoolOp .And (a :: b :: es) pos) (LT X.K W (mAnd ft fu)) :=
  ⟨fun whole pins s σ H Q I q => (pw_and ha hb).run whole pins s σ H Q I (by
    obtain ⟨μ, S, σd, o, f, p⟩ := q
    refine ⟨μ, S, σd, o, f, PstT.andThenT p fun v H1 μ1 S1 x o1 p1 => ?_⟩
    cases v with
    | true => exact ⟨μ1, S1, σd, o1, f.mono x, p1⟩
    | false => exact p1 μ1 H1 (Nx.refl _ _) o1)⟩
theorem t_or (ha : PT X a (LT X.K W ft)) (hb : PW X (.BoolOp .Or (b :: es) pos) (LT X.K W fu)) : PW X (.BoolOp .Or (a :: b :: es) pos) (LT X.K W (mOr ft fu)) :=
  ⟨fun whole pins s σ H Q I q => (pw_or ha hb).run whole pins s σ H Q I (by
    obtain ⟨μ, S, σd, o, f, p⟩ := q
    refine ⟨μ, S, σd, o, f, PstT.andThenT p fun v H1 μ1 S1 x o1 p1 => ?_⟩
    cases v with
    | true => exact p1 μ1 H1 (Nx.refl _ _) o1
    | false => exact ⟨μ1, S1, σd, o1, f.mono x, p1⟩)⟩
theorem t_not (ha : PT X a (LT X.K W ft)) : PT X (.UnaryOp .Not a pos) (LT X.K W (mNot ft)) :=
  PT.imp (pt_not ha) fun σ H Q ⟨μ, S, σd, o, f, p⟩ => ⟨μ, S, σd, o, f, PstT.andThenT p fun v H1 μ1 S1 x o1 p1 => p1 μ1 H1 (Nx.refl _ _) o1⟩
theorem e_and (ha : PE X a (LE X.K W fa)) (hb : PE X (.BoolOp .And (b :: es) pos) (LE X.K W fb)) : PE X (.BoolOp .And (a :: b :: es) pos) (LE X.K W (mAndV fa fb)) :=
  PE.imp (pe_and ha hb) fun σ H Q ⟨μ, S, σd, o, f, p⟩ => ⟨μ, S, σd, o, f, p.andThen fun v H1 μ1 S1 d x o1 r1 p1 => by
    cases d <;> try exact p1.elim
    rename_i b
    cases r1
    refine ⟨b, rfl, ?_⟩
    cases b with
    | true => exact ⟨μ1, S1, σd, o1, f.mono x, p1⟩
    | false => exact p1.val o1 rfl⟩
theorem e_or (ha : PE X a (LE X.K W fa)) (hb : PE X (.BoolOp .Or (b :: es) pos) (LE X.K W fb)) : PE X (.BoolOp .Or (a :: b :: es) pos) (LE X.K W (mOrV fa fb)) :=
  PE.imp (pe_or ha hb) fun σ H Q ⟨μ, S, σd, o, f, p⟩ => ⟨μ, S, σd, o, f, p.andThen fun v H1 μ1 S1 d x o1 r1 p1 => by
    cases d <;> try exact p1.elim
    rename_i b
    cases r1
    refine ⟨b, rfl, ?_⟩
    cases b with
    | true => exact p1.val o1 rfl
    | false => exact ⟨μ1, S1, σd, o1, f.mono x, p1⟩⟩
theorem e_not (ha : PE X a (LE X.K W fa)) : PE X (.UnaryOp .Not a pos) (LE X.K W (mNotV fa)) :=
  PE.imp (pe_not ha) fun σ H Q ⟨μ, S, σd, o, f, p⟩ => ⟨μ, S, σd, o, f, p.andThen fun v H1 μ1 S1 d x o1 r1 p1 => by
    cases d <;> try exact p1.elim
    rename_i b
    cases r1
    exact ⟨b, rfl, p1.val o1 rfl⟩⟩
theorem e_if (hc : PT X c (LT X.K W ft)) (ha : PE X a (LE X.K W fa)) (hb : PE X b (LE X.K W fb)) : PE X (.IfExp c a b pos) (LE X.K W (mIfE ft fa fb)) :=
  PE.imp (pe_ifExp hc ha hb) fun σ H Q ⟨μ, S, σd, o, f, p⟩ => ⟨μ, S, σd, o, f, PstT.andThenE p fun v H1 μ1 S1 x o1 p1 => by
    cases v with
    | true => exact ⟨μ1, S1, σd, o1, f.mono x, p1⟩
    | false => exact ⟨μ1, S1, σd, o1, f.mono x, p1⟩⟩
theorem le_chain {r r' : R2} {op op' : D → D → Os → Res D} (hr : RD2 X.K r op) (hr' : RD2 X.K r' op') (σ : L2.St) (H : Hp) (Q : VK) (h : LE X.K W (mChain op op' fa fb fc) σ H Q) : tChain r r' (LE X.K W fa) (LE X.K W fb) (LE X.K W fc) σ H Q := by
  obtain ⟨μ, S, σd, o, f, p⟩ := h
  refine ⟨μ, S, σd, o, f, p.andThen fun v H1 μ1 S1 d x o1 r1 p1 => ⟨μ1, S1, σd, o1, f.mono x, p1.andThen fun u H2 μ2 S2 e y o2 r2 p2 => ?_⟩⟩
  refine hr W σ _ μ2 S2 H2 d e v u o2 (r1.mono y) r2 (p2.andThen fun w H3 μ3 S3 g z o3 r3 p3 => ?_)
  cases g <;> try exact p3.elim
  rename_i b
  cases r3
  refine ⟨b, rfl, ?_⟩
  cases b with
  | true => exact ⟨μ3, S3, σd, o3, f.mono ((x.trans y).trans z), p3.andThen fun w' H4 μ4 S4 g' z' o4 r4 p4 => hr' W σ Q μ4 S4 H4 e g' u w' o4 (r2.mono (z.trans z')) r4 p4⟩
  | false => exact p3.val o3 rfl
/-! ### a def's call -/
/-- the promise by data: the def does what f does -/
def spD (K : PySem.W.Frag) (n : Nat) (f : Fn) : Sp := fun vs H Q E => vs.length = n ∧ ∃ μ S ds, Reps K μ H ds vs ∧ Ok K μ S H ∧
  match f ds S with
  | .ok d S' => ∀ μ' H' v, Nx H μ H' μ' → Ok K μ' S' H' → Rep K μ' H' d v → Q v H'
  | .exn e S' => ∀ μ' H' c dd, Nx H μ H' μ' → Ok K μ' S' H' → ExRep K μ' H' e c dd → E c dd H'
  | .bad => False
@[simp] def mCall (f : Fn) (a : MA) : ME := fun σ S => (a σ S).bind f
theorem le_callS {K : PySem.W.Frag} {n : Nat} {f : Fn} (hn : ∀ σd S ds S', fs σd S = .ok ds S' → ds.length = n) (σ : L2.St) (H : Hp) (Q : VK) (h : LE K W (mCall f fs) σ H Q) : tCallS (spD K n f) (WE W) (LA K W fs) σ H Q := by
  obtain ⟨μ, S, σd, o, g, p⟩ := h
  refine ⟨μ, S, σd, o, g, ?_⟩
  cases e : fs σd S with
  | ok ds S1 =>
    intro μ1 H1 v x o1 r1
    have p : Pst K W σ Q μ H ((fs σd S).bind f) := p
    rw [e, Res.bind_ok] at p
    refine ⟨by rw [← r1.len]; exact hn _ _ _ _ e, μ1, S1, ds, r1, o1, ?_⟩
    have p := p.go x
    unfold Pst at p
    split at p
    · rename_i e2; first | (rw [e2]; exact p) | exact p
    · rename_i e2; first | (rw [e2]; exact p) | exact p
    · exact p.elim
  | exn ex S1 =>
    have p : Pst K W σ Q μ H ((fs σd S).bind f) := p
    rw [e] at p
    exact p
  | bad =>
    have p : Pst K W σ Q μ H ((fs σd S).bind f) := p
    rw [e] at p
    exact p
theorem len_nil : ∀ σd S ds S', mNil σd S = .ok ds S' → ds.length = 0 := fun _ _ _ _ h => by cases h; rfl
theorem len_cons {n : Nat} (h : ∀ σd S ds S', fs σd S = .ok ds S' → ds.length = n) : ∀ σd S ds S', mCons fa fs σd S = .ok ds S' → ds.length = n + 1 := fun σd S ds S' e => by
  unfold mCons at e
  cases e1 : fa σd S with
  | ok x S1 =>
    rw [e1, Res.bind_ok] at e
    cases e2 : fs σd S1 with
    | ok xs S2 =>
      rw [e2, Res.bind_ok] at e
      cases e
      rw [List.length_cons, h _ _ _ _ e2]
    | exn _ _ => rw [e2] at e; cases e
    | bad => rw [e2] at e; cases e
  | exn _ _ => rw [e1] at e; cases e
  | bad => rw [e1] at e; cases e
end
/-! ### built-ins by data -/
section
variable {K : PySem.W.Frag}
@[simp] def lenD : List D → Os → Res D
  | [.str x], S => if x.length ≤ sizeLine then .ok (.int x.length) S else .bad
  | [.tup l], S => .ok (.int l.length) S
  | [.rl l], S => .ok (.int l.length) S
  | [.loc n], S => match lstAt S n with
    | some l => .ok (.int l.length) S
    | none => .bad
  | _, _ => .bad
theorem rd_len : RDC K (fun xs H Q => ∃ x n, xs = [x] ∧ LenV K x H n ∧ Q (.int (n : Nat)) H) lenD := by
  intro W σ Q μ S H ds xs o r p
  cases ds with
  | nil => exact p.elim
  | cons d ds =>
    cases ds with
    | cons _ _ => cases d <;> exact p.elim
    | nil =>
      obtain ⟨v, _, rfl, r1, rfl⟩ := r
      cases d <;> try exact p.elim
      · rename_i x
        cases r1
        dsimp only [lenD] at p
        obtain ⟨h, p⟩ := p.ite
        exact ⟨_, x.length, rfl, ⟨h, rfl⟩, p.val o rfl⟩
      · rename_i l
        obtain ⟨a, vs, rfl, h1, h2⟩ := r1
        exact ⟨_, l.length, rfl, .inr ⟨vs, h1, h2.len⟩, p.val o rfl⟩
      · rename_i n
        dsimp only [lenD] at p
        cases e : lstAt S n with
        | none => rw [e] at p; exact p.elim
        | some l =>
          rw [e] at p
          obtain ⟨a, vs, _, rfl, h2, h3⟩ := o.lst e r1
          exact ⟨_, l.length, rfl, .inl ⟨vs, .inl (.inl h2), h3.len⟩, p.val o rfl⟩
      · rename_i l
        obtain ⟨a, vs, rfl, h1, h2⟩ := r1
        exact ⟨_, l.length, rfl, .inl ⟨vs, h1.sq, h2.len⟩, p.val o rfl⟩
/-- a built-in on whole numbers -/
@[simp] def absD : List D → Os → Res D
  | [.int i], S => .ok (.int (if i < 0 then -i else i)) S
  | _, _ => .bad
theorem rd_abs : RDC K (fun xs H Q => ∃ i, xs = [.int i] ∧ Q (.int (if i < 0 then -i else i)) H) absD := by
  intro W σ Q μ S H ds xs o r p
  unfold absD at p
  split at p
  · obtain ⟨v, _, rfl, r1, rfl⟩ := r
    cases r1
    exact ⟨_, rfl, p.val o rfl⟩
  · exact p.elim
@[simp] def intCD : List D → Os → Res D
  | [.int i], S => .ok (.int i) S
  | [.bl b], S => .ok (.int (if b then 1 else 0)) S
  | _, _ => .bad
theorem rd_intC : RDC K (fun xs H Q => (∃ i, xs = [.int i] ∧ Q (.int i) H) ∨ ∃ k, xs = [.bl k] ∧ Q (.int (if k then 1 else 0)) H) intCD := by
  intro W σ Q μ S H ds xs o r p
  unfold intCD at p
  split at p
  · obtain ⟨v, _, rfl, r1, rfl⟩ := r
    cases r1
    exact .inl ⟨_, rfl, p.val o rfl⟩
  · obtain ⟨v, _, rfl, r1, rfl⟩ := r
    cases r1
    exact .inr ⟨_, rfl, p.val o rfl⟩
  · exact p.elim
@[simp] def minD : List D → Os → Res D
  | [.int i, .int j], S => .ok (.int (if j < i then j else i)) S
  | _, _ => .bad
@[simp] def maxD : List D → Os → Res D
  | [.int i, .int j], S => .ok (.int (if j > i then j else i)) S
  | _, _ => .bad
theorem rd_min : RDC K (fun xs H Q => ∃ i j, xs = [.int i, .int j] ∧ Q (.int (if j < i then j else i)) H) minD := by
  intro W σ Q μ S H ds xs o r p
  unfold minD at p
  split at p
  · obtain ⟨v, _, rfl, r1, u, _, rfl, r2, rfl⟩ := r
    cases r1; cases r2
    exact ⟨_, _, rfl, p.val o rfl⟩
  · exact p.elim
theorem rd_max : RDC K (fun xs H Q => ∃ i j, xs = [.int i, .int j] ∧ Q (.int (if j > i then j else i)) H) maxD := by
  intro W σ Q μ S H ds xs o r p
  unfold maxD at p
  split at p
  · obtain ⟨v, _, rfl, r1, u, _, rfl, r2, rfl⟩ := r
    cases r1; cases r2
    exact ⟨_, _, rfl, p.val o rfl⟩
  · exact p.elim
/-- what a list or tuple holds -/
@[simp] def itemsD (S : Os) : D → Option (List D)
  | .tup l => some l
  | .rl l => some l
  | .loc n => lstAt S n
  | _ => none
theorem items_ok {μ : List Addr} {H : Hp} {S : Os} {d : D} {x : V} {l : List D} (o : Ok K μ S H) (r : Rep K μ H d x) (e : itemsD S d = some l) : ∃ a vs, x = .ref a ∧ (SqL K H a vs ∨ SqT K H a vs) ∧ Reps K μ H l vs := by
  cases d <;> try (cases e; done)
  · cases e
    obtain ⟨a, vs, rfl, h1, h2⟩ := r
    exact ⟨a, vs, rfl, .inr h1, h2⟩
  · obtain ⟨a, vs, _, rfl, h2, h3⟩ := o.lst e r
    exact ⟨a, vs, rfl, .inl (.inl (.inl h2)), h3⟩
  · cases e
    obtain ⟨a, vs, rfl, h1, h2⟩ := r
    exact ⟨a, vs, rfl, .inl h1.sq, h2⟩
@[simp] def listD : List D → Os → Res D
  | [d], S => match itemsD S d with
    | some l => .ok (.loc S.length) (S ++ [.lst l])
    | none => .bad
  | _, _ => .bad
theorem rd_list : RDC K (fun xs H Q => ∃ p ys, xs = [.ref p] ∧ (SqL K H p ys ∨ SqT K H p ys) ∧ ∀ l, H l = none → Q (.ref l) (upd H l (.lst ys))) listD := by
  intro W σ Q μ S H ds xs o r p
  unfold listD at p
  split at p
  · rename_i d
    obtain ⟨v, _, rfl, r1, rfl⟩ := r
    cases e : itemsD S d with
    | none => rw [e] at p; exact p.elim
    | some l =>
      rw [e] at p
      obtain ⟨a, vs, rfl, h1, h2⟩ := items_ok o r1 e
      exact ⟨a, vs, rfl, h1, fun q hq => new_lst o h2 p q hq⟩
  · exact p.elim
/-! ### subscripts -/
@[simp] def ixD : D → D → Os → Res D
  | .str z, .int i, S => if z.length ≤ sizeLine then (match atI z.cps.toList i with | some c => .ok (.str ⟨#[c]⟩) S | none => .bad) else .bad
  | d, .int i, S => match itemsD S d with
    | some l => (match atI l i with | some e => .ok e S | none => .bad)
    | none => .bad
  | _, _, _ => .bad
theorem Reps.atI {μ : List Addr} {H : Hp} {l : List D} {vs : List V} {i : Int} {d : D} (h : Reps K μ H l vs) (e : atI l i = some d) : ∃ v, atI vs i = some v ∧ Rep K μ H d v := by
  unfold L2.atI at e ⊢
  rw [← h.len]
  cases q : ixN l.length i with
  | none => rw [q] at e; cases e
  | some j =>
    rw [q] at e
    exact h.get (i := j) e
theorem rd_ix : RD2 K (rIx K) ixD := by
  intro W σ Q μ S H d e x y o rx ry p
  have go : ∀ i, e = .int i → (∀ l, itemsD S d = some l → ∀ w, L2.atI l i = some w → Pst K W σ Q μ H (.ok w S) → rIx K x y H Q) := by
    intro i he l hl w hw pp
    subst he
    cases ry
    cases d <;> try (cases hl; done)
    · cases hl
      obtain ⟨a, vs, rfl, h1, h2⟩ := rx
      obtain ⟨v, h3, h4⟩ := h2.atI hw
      exact .inr (.inl ⟨a, vs, i, v, rfl, rfl, h1, h3, pp.val o h4⟩)
    · obtain ⟨a, vs, _, rfl, h2, h3⟩ := o.lst hl rx
      obtain ⟨v, h4, h5⟩ := h3.atI hw
      exact .inl ⟨a, vs, i, v, rfl, rfl, .inl (.inl h2), h4, pp.val o h5⟩
    · cases hl
      obtain ⟨a, vs, rfl, h1, h2⟩ := rx
      obtain ⟨v, h3, h4⟩ := h2.atI hw
      exact .inl ⟨a, vs, i, v, rfl, rfl, h1.sq, h3, pp.val o h4⟩
  cases e <;> try (cases d <;> exact p.elim)
  rename_i i
  by_cases hs : ∃ z, d = .str z
  · obtain ⟨z, rfl⟩ := hs
    cases rx; cases ry
    dsimp only [ixD] at p
    obtain ⟨h, p⟩ := p.ite
    cases q : L2.atI z.cps.toList i with
    | none => rw [q] at p; exact p.elim
    | some c =>
      rw [q] at p
      exact .inr (.inr ⟨z, i, c, rfl, rfl, h, q, p.val o rfl⟩)
  · have p' : Pst K W σ Q μ H (match itemsD S d with
      | some l => (match L2.atI l i with | some e => .ok e S | none => .bad)
      | none => .bad) := by
      cases d <;> first | exact absurd ⟨_, rfl⟩ hs | exact p
    cases q : itemsD S d with
    | none => rw [q] at p'; exact p'.elim
    | some l =>
      rw [q] at p'
      dsimp only at p'
      cases q2 : L2.atI l i with
      | none => rw [q2] at p'; exact p'.elim
      | some w =>
        rw [q2] at p'
        exact go i rfl l q w q2 p'
end
end MX

end
section
namespace MX
open PySem PySem.Spec PyProof.Rows L2
/-! ### statements by data -/
def Res.toS {α : Type} (r : Res α) (σ : Fr) (f : α → Os → SRes) : SRes := match r with
  | .ok a S => f a S
  | .exn e S => .exn e σ S
  | .bad => .bad
@[simp] theorem Res.toS_ok {α : Type} (a : α) (S : Os) (σ : Fr) (f : α → Os → SRes) : (Res.ok a S).toS σ f = f a S := rfl
@[simp] theorem Res.toS_exn {α : Type} (e : Exn) (S : Os) (σ : Fr) (f : α → Os → SRes) : (Res.exn e S : Res α).toS σ f = .exn e σ S := rfl
@[simp] theorem Res.toS_bad {α : Type} (σ : Fr) (f : α → Os → SRes) : (Res.bad : Res α).toS σ f = .bad := rfl
def SRes.seq (r : SRes) (f : Fr → Os → SRes) : SRes := match r with
  | .nx σ S => f σ S
  | r => r
@[simp] theorem SRes.seq_nx (σ : Fr) (S : Os) (f : Fr → Os → SRes) : (SRes.nx σ S).seq f = f σ S := rfl
@[simp] theorem SRes.seq_rt (d : D) (S : Os) (f : Fr → Os → SRes) : (SRes.rt d S).seq f = .rt d S := rfl
@[simp] theorem SRes.seq_bk (σ : Fr) (S : Os) (f : Fr → Os → SRes) : (SRes.bk σ S).seq f = .bk σ S := rfl
@[simp] theorem SRes.seq_ct (σ : Fr) (S : Os) (f : Fr → Os → SRes) : (SRes.ct σ S).seq f = .ct σ S := rfl
@[simp] theorem SRes.seq_exn (e : Exn) (σ : Fr) (S : Os) (f : Fr → Os → SRes) : (SRes.exn e σ S).seq f = .exn e σ S := rfl
@[simp] theorem SRes.seq_bad (f : Fr → Os → SRes) : SRes.bad.seq f = .bad := rfl
variable [TL]
@[simp] def mSeq (a b : MS) : MS := fun σ S => (a σ S).seq b
@[simp] def mNext : MS := fun σ S => .nx σ S
@[simp] def mSet (i : Nat) (e : ME) : MS := fun σ S => (e σ S).toS σ fun d S1 => .nx (σ.set i (some d)) S1
@[simp] def mIf (t : MT) (a b : MS) : MS := fun σ S => (t σ S).toS σ fun x S1 => if x = true then a σ S1 else b σ S1
@[simp] def mRet (e : ME) : MS := fun σ S => (e σ S).toS σ fun d S1 => .rt d S1
@[simp] def mRetN : MS := fun _ S => .rt .non S
@[simp] def mExpr (e : ME) : MS := fun σ S => (e σ S).toS σ fun _ S1 => .nx σ S1
@[simp] def mBrk : MS := fun σ S => .bk σ S
@[simp] def mCnt : MS := fun σ S => .ct σ S
@[simp] def mNever : MS := fun _ _ => .bad
/-- x op= e, whole numbers -/
@[simp] def mAug (i : Nat) (op : Int → Int → Int) (e : ME) : MS := fun σ S => match σ[i]? with
  | some (some (.int n)) => (e σ S).toS σ fun d S1 => match d with
    | .int m => .nx (σ.set i (some (.int (op n m)))) S1
    | _ => .bad
  | _ => .bad
def mWhile : Nat → MT → MS → MS
  | 0, _, _ => fun _ _ => .bad
  | F + 1, c, b => fun σ S => (c σ S).toS σ fun x S1 => if x = true then (match b σ S1 with
      | .nx σ2 S2 => mWhile F c b σ2 S2
      | .ct σ2 S2 => mWhile F c b σ2 S2
      | .bk σ2 S2 => .nx σ2 S2
      | r => r) else .nx σ S1
/-- the turns of a for: each item by the target, then the body; ok: what holds of the objects ahead of each turn and at the end -/
noncomputable def mLoop (ok : Os → Prop) (g : D → Fr → Os → Option Fr) (b : MS) : List D → MS
  | [] => fun σ S => open Classical in if ok S then .nx σ S else .bad
  | x :: xs => fun σ S => open Classical in if ok S then (match g x σ S with
      | some σ1 => (match b σ1 S with
        | .nx σ2 S2 => mLoop ok g b xs σ2 S2
        | .ct σ2 S2 => mLoop ok g b xs σ2 S2
        | .bk σ2 S2 => .nx σ2 S2
        | r => r)
      | none => .bad) else .bad
@[simp] def gN (i : Nat) : D → Fr → Os → Option Fr := fun d σ _ => some (σ.set i (some d))
/-- for x in e, e a list or a tuple -/
@[simp] noncomputable def mForL (e : ME) (g : D → Fr → Os → Option Fr) (b : MS) : MS := fun σ S => (e σ S).toS σ fun d S1 => match d with
  | .loc n => (match lstAt S1 n with
    | some l => mLoop (fun S' => lstAt S' n = some l) g b l σ S1
    | none => .bad)
  | .rl l => mLoop (fun _ => True) g b l σ S1
  | _ => .bad
@[simp] noncomputable def mForT (e : ME) (g : D → Fr → Os → Option Fr) (b : MS) : MS := fun σ S => (e σ S).toS σ fun d S1 => match d with
  | .tup l => mLoop (fun _ => True) g b l σ S1
  | _ => .bad
def rngD : Int → Nat → List D
  | _, 0 => []
  | lo, n + 1 => .int lo :: rngD (lo + 1) n
@[simp] noncomputable def mForR1 (a : ME) (g : D → Fr → Os → Option Fr) (b : MS) : MS := fun σ S => (a σ S).toS σ fun d S1 => match d with
  | .int j => @ite _ (-(2 ^ 62) ≤ j ∧ j < 2 ^ 62) (Classical.propDecidable _) (mLoop (fun _ => True) g b (rngD 0 j.toNat) σ S1) .bad
  | _ => .bad
@[simp] noncomputable def mForR2 (a c : ME) (g : D → Fr → Os → Option Fr) (b : MS) : MS := fun σ S => (a σ S).toS σ fun d S1 => (c σ S1).toS σ fun e S2 => match d, e with
  | .int i, .int j => @ite _ (-(2 ^ 62) ≤ i ∧ i < 2 ^ 62 ∧ -(2 ^ 62) ≤ j ∧ j < 2 ^ 62) (Classical.propDecidable _) (mLoop (fun _ => True) g b (rngD i (j - i).toNat) σ S2) .bad
  | _, _ => .bad
section
variable {K : PySem.W.Frag} {W : WX} {H : Hp} {μ : List Addr} {σ : L2.St}
theorem Pst.thenS {D : Ends} {σd : Fr} {Q' : VK} {r : Res MX.D} {g : MX.D → Os → SRes} (fr : FrRel K μ H σd σ) (p : PstS K W D μ H (r.toS σd g))
    (k : ∀ v H1 μ1 S1 d, Nx H μ H1 μ1 → Ok K μ1 S1 H1 → Rep K μ1 H1 d v → PstS K W D μ1 H1 (g d S1) → Q' v H1) : Pst K W σ Q' μ H r := by
  cases r with
  | ok d S => exact fun μ1 H1 v x o r => k v H1 μ1 S d x o r (p.go x)
  | exn e S => exact fun μ1 H1 c dd x o r => p μ1 H1 c dd σ x o (fr.mono x) r
  | bad => exact p
theorem PstT.thenS {D : Ends} {σd : Fr} {Q' : Bool → Hp → Prop} {r : Res Bool} {g : Bool → Os → SRes} (fr : FrRel K μ H σd σ) (p : PstS K W D μ H (r.toS σd g))
    (k : ∀ v H1 μ1 S1, Nx H μ H1 μ1 → Ok K μ1 S1 H1 → PstS K W D μ1 H1 (g v S1) → Q' v H1) : PstT K W σ Q' μ H r := by
  cases r with
  | ok d S => exact fun μ1 H1 x o => k d H1 μ1 S x o (p.go x)
  | exn e S => exact fun μ1 H1 c dd x o r => p μ1 H1 c dd σ x o (fr.mono x) r
  | bad => exact p
theorem PstA.thenS {D : Ends} {σd : Fr} {Q' : List V → Hp → Prop} {r : Res (List MX.D)} {g : List MX.D → Os → SRes} (fr : FrRel K μ H σd σ) (p : PstS K W D μ H (r.toS σd g))
    (k : ∀ v H1 μ1 S1 d, Nx H μ H1 μ1 → Ok K μ1 S1 H1 → Reps K μ1 H1 d v → PstS K W D μ1 H1 (g d S1) → Q' v H1) : PstA K W σ Q' μ H r := by
  cases r with
  | ok d S => exact fun μ1 H1 v x o r => k v H1 μ1 S d x o r (p.go x)
  | exn e S => exact fun μ1 H1 c dd x o r => p μ1 H1 c dd σ x o (fr.mono x) r
  | bad => exact p
end
section
variable {X : Cx} {W : WX} {a b c e : Expr} {st : Stmt} {sts sus : List Stmt} {fe : ME} {fs : MA} {ft : MT} {f g : MS} {pos : Pos}
theorem s_cons (h1 : PS X st (LS X.K W f)) (h2 : PSs X sts (LS X.K W g)) : PSs X (st :: sts) (LS X.K W (mSeq f g)) :=
  PSs.imp (pss_cons h1 h2) fun D σ H ⟨μ, S, σd, o, fr, p⟩ => ⟨μ, S, σd, o, fr, by
    have p : PstS X.K W D μ H ((f σd S).seq g) := p
    cases q : f σd S with
    | nx σ1 S1 =>
      rw [q] at p
      exact fun μ' H' σ' x o' fr' => ⟨μ', S1, σ1, o', fr', p.go x⟩
    | _ => rw [q] at p; exact p⟩
theorem s_one (h1 : PS X st (LS X.K W f)) : PSs X [st] (LS X.K W f) := pss_one h1
theorem s_nil : PSs X [] (LS X.K W mNext) := PSs.imp pss_nil fun D σ H ⟨μ, S, σd, o, fr, p⟩ => p μ H σ (Nx.refl _ _) o fr
theorem le_set {i : Nat} (D : Ends) (σ : L2.St) (H : Hp) (h : LS X.K W (mSet i fe) D σ H) : tAsg (LE X.K W fe) (gName i) D σ H := by
  obtain ⟨μ, S, σd, o, fr, p⟩ := h
  exact ⟨μ, S, σd, o, fr, Pst.thenS fr p fun v H1 μ1 S1 d x o1 r1 p1 => p1 μ1 H1 _ (Nx.refl _ _) o1 ((fr.mono x).set r1)⟩
theorem s_if (hc : PT X c (LT X.K W ft)) (ha : PSs X sts (LS X.K W f)) (hb : PSs X sus (LS X.K W g)) : PS X (.If c sts sus pos) (LS X.K W (mIf ft f g)) :=
  PS.imp (ps_if hc ha hb) fun D σ H ⟨μ, S, σd, o, fr, p⟩ => ⟨μ, S, σd, o, fr, PstT.thenS fr p fun v H1 μ1 S1 x o1 p1 => by
    cases v with
    | true => exact ⟨μ1, S1, σd, o1, fr.mono x, p1⟩
    | false => exact ⟨μ1, S1, σd, o1, fr.mono x, p1⟩⟩
theorem s_ret (h : PE X e (LE X.K W fe)) : PS X (.Return (some e) pos) (LS X.K W (mRet fe)) :=
  PS.imp (ps_ret h) fun D σ H ⟨μ, S, σd, o, fr, p⟩ => ⟨μ, S, σd, o, fr, Pst.thenS fr p fun v H1 μ1 S1 d x o1 r1 p1 => p1 μ1 H1 v (Nx.refl _ _) o1 r1⟩
theorem s_retN : PS X (.Return none pos) (LS X.K W mRetN) := PS.imp ps_retN fun D σ H ⟨μ, S, σd, o, fr, p⟩ => p μ H .non (Nx.refl _ _) o rfl
theorem le_expr (D : Ends) (σ : L2.St) (H : Hp) (h : LS X.K W (mExpr fe) D σ H) : tDrop (LE X.K W fe) D σ H := by
  obtain ⟨μ, S, σd, o, fr, p⟩ := h
  exact ⟨μ, S, σd, o, fr, Pst.thenS fr p fun v H1 μ1 S1 d x o1 r1 p1 => p1 μ1 H1 _ (Nx.refl _ _) o1 (fr.mono x)⟩
theorem s_brk : PS X (.Break pos) (LS X.K W mBrk) := PS.imp ps_break fun D σ H ⟨μ, S, σd, o, fr, p⟩ => p μ H σ (Nx.refl _ _) o fr
theorem s_cnt : PS X (.Continue pos) (LS X.K W mCnt) := PS.imp ps_continue fun D σ H ⟨μ, S, σd, o, fr, p⟩ => p μ H σ (Nx.refl _ _) o fr
theorem s_pass : PS X (.Pass pos) (LS X.K W mNext) := PS.imp ps_pass fun D σ H ⟨μ, S, σd, o, fr, p⟩ => p μ H σ (Nx.refl _ _) o fr
theorem s_never : PS X st (LS X.K W mNever) := PS.imp ps_never fun D σ H ⟨μ, S, σd, o, fr, p⟩ => p
theorem le_aug {i : Nat} {op : Int → Int → Int} (D : Ends) (σ : L2.St) (H : Hp) (h : LS X.K W (mAug i op fe) D σ H) : tAug i (LE X.K W fe) (ipI op) D σ H := by
  obtain ⟨μ, S, σd, o, fr, p⟩ := h
  unfold mAug at p
  cases q : σd[i]? with
  | none => rw [q] at p; exact p.elim
  | some od =>
    rw [q] at p
    cases od with
    | none => exact p.elim
    | some d =>
      cases d <;> try exact p.elim
      rename_i n
      obtain ⟨v, h1, h2⟩ := fr.2 i _ q
      cases h2
      refine ⟨_, h1, μ, S, σd, o, fr, Pst.thenS fr p fun v H1 μ1 S1 d x o1 r1 p1 => ?_⟩
      cases d <;> try exact p1.elim
      cases r1
      exact ⟨_, _, rfl, rfl, p1 μ1 H1 _ (Nx.refl _ _) o1 ((fr.mono x).set rfl)⟩
theorem le_while (F : Nat) (D : Ends) (σ : L2.St) (H : Hp) (h : LS X.K W (mWhile F ft f) D σ H) : tWhile (LT X.K W ft) (LS X.K W f) D σ H := by
  refine ⟨fun m σ H => LS X.K W (mWhile m ft f) D σ H, ⟨F, h⟩, fun m σ H h => ?_⟩
  obtain ⟨μ, S, σd, o, fr, p⟩ := h
  cases m with
  | zero => exact p.elim
  | succ m =>
    refine ⟨μ, S, σd, o, fr, PstT.thenS fr p fun v H1 μ1 S1 x o1 p1 => ?_⟩
    cases v with
    | false => exact p1 μ1 H1 σ (Nx.refl _ _) o1 (fr.mono x)
    | true =>
      refine ⟨LS X.K W (mWhile m ft f) D, fun σ' H' h => ⟨m, Nat.lt_succ_self m, h⟩, μ1, S1, σd, o1, fr.mono x, ?_⟩
      have p1 : PstS X.K W D μ1 H1 (match f σd S1 with
        | .nx σ2 S2 => mWhile m ft f σ2 S2
        | .ct σ2 S2 => mWhile m ft f σ2 S2
        | .bk σ2 S2 => .nx σ2 S2
        | r => r) := p1
      cases q : f σd S1 with
      | nx σ2 S2 => rw [q] at p1; exact fun μ' H' σ' x' o' fr' => ⟨μ', S2, σ2, o', fr', p1.go x'⟩
      | ct σ2 S2 => rw [q] at p1; exact fun μ' H' σ' x' o' fr' => ⟨μ', S2, σ2, o', fr', p1.go x'⟩
      | bk σ2 S2 => rw [q] at p1; exact p1
      | rt d S2 => rw [q] at p1; exact p1
      | exn e σ2 S2 => rw [q] at p1; exact p1
      | bad => rw [q] at p1; exact p1
/-- a target of a for by data -/
def GD (K : PySem.W.Frag) (t : TG) (g : MX.D → Fr → Os → Option Fr) : Prop := ∀ (μ : List Addr) (S : Os) (H : Hp) (σd σd' : Fr) (σ : L2.St) (d : MX.D) (v : V) (Q : L2.St → Hp → Prop), Ok K μ S H → FrRel K μ H σd σ → Rep K μ H d v → g d σd S = some σd' → (∀ σ', FrRel K μ H σd' σ' → Q σ' H) → t v σ H Q
theorem gd_name {K : PySem.W.Frag} (i : Nat) : GD K (gName i) (gN i) := fun μ S H σd σd' σ d v Q o fr r e k => by
  cases e
  exact k _ (fr.set r)
theorem loop_any {K : PySem.W.Frag} {W : WX} {J : It} {okS : Os → Prop} {t : TG} {g : MX.D → Fr → Os → Option Fr} (hg : GD K t g) {l : List MX.D} {D : Ends}
    (Pc : List Addr → Hp → Prop) (mono : ∀ H μ H' μ', Nx H μ H' μ' → Pc μ H → Pc μ' H')
    (hstop : ∀ μ S H, Ok K μ S H → Pc μ H → okS S → J.stop l.length H)
    (hgo : ∀ i d μ S H, l[i]? = some d → Ok K μ S H → Pc μ H → okS S → J.go i H ∧ ∀ x H', J.yld i H x H' → ∃ μ', Nx H μ H' μ' ∧ Ok K μ' S H' ∧ Rep K μ' H' d x)
    {σ : L2.St} {H : Hp} {μ : List Addr} {S : Os} {σd : Fr} (hp : Pc μ H) (o : Ok K μ S H) (fr : FrRel K μ H σd σ) (p : PstS K W D μ H (mLoop okS g f l σd S)) :
    ∃ Wf : Nat → Nat → L2.St → Hp → Prop, (∃ m, Wf 0 m σ H) ∧ ∀ i m σ H, Wf i m σ H → (J.stop i H ∧ D.nx σ H) ∨ (J.go i H ∧ ∃ N : L2.St → Hp → Prop, (∀ σ' H', N σ' H' → ∃ m', m' < m ∧ Wf (i + 1) m' σ' H') ∧
      ∀ x H', J.yld i H x H' → t x σ H' fun σ2 H2 => LS K W f { D with nx := N, ct := N, bk := D.nx } σ2 H2) := by
  refine ⟨fun i m σ H => i + m = l.length ∧ ∃ μ S σd, Pc μ H ∧ Ok K μ S H ∧ FrRel K μ H σd σ ∧ PstS K W D μ H (mLoop okS g f (l.drop i) σd S), ⟨l.length, Nat.zero_add _, μ, S, σd, hp, o, fr, p⟩, ?_⟩
  rintro i m σ H ⟨hm, μ, S, σd, hp, o, fr, p⟩
  cases m with
  | zero =>
    have hi : i = l.length := by omega
    subst hi
    rw [List.drop_length] at p
    unfold mLoop at p
    by_cases q : okS S
    · rw [if_pos q] at p
      exact .inl ⟨hstop μ S H o hp q, p μ H σ (Nx.refl _ _) o fr⟩
    · rw [if_neg q] at p
      exact p.elim
  | succ m =>
    have hi : i < l.length := by omega
    rw [List.drop_eq_getElem_cons hi] at p
    unfold mLoop at p
    by_cases q : okS S
    · rw [if_pos q] at p
      obtain ⟨h1, h2⟩ := hgo i l[i] μ S H (List.getElem?_eq_getElem hi) o hp q
      refine .inr ⟨h1, fun σ H => i + 1 + m = l.length ∧ ∃ μ S σd, Pc μ H ∧ Ok K μ S H ∧ FrRel K μ H σd σ ∧ PstS K W D μ H (mLoop okS g f (l.drop (i + 1)) σd S), fun σ' H' h => ⟨m, Nat.lt_succ_self m, h⟩, fun x H' hy => ?_⟩
      obtain ⟨μ', x1, o', r'⟩ := h2 x H' hy
      have p := p.go x1
      cases q2 : g l[i] σd S with
      | none => rw [q2] at p; exact p.elim
      | some σd1 =>
        rw [q2] at p
        refine hg μ' S H' σd σd1 σ l[i] x _ o' (fr.mono x1) r' q2 fun σ' fr' => ⟨μ', S, σd1, o', fr', ?_⟩
        have hm' : i + 1 + m = l.length := by omega
        dsimp only at p
        cases q3 : f σd1 S with
        | nx σ2 S2 => rw [q3] at p; exact fun μ2 H2 σ2' x2 o2 f2 => ⟨hm', μ2, S2, σ2, mono _ _ _ _ (x1.trans x2) hp, o2, f2, p.go x2⟩
        | ct σ2 S2 => rw [q3] at p; exact fun μ2 H2 σ2' x2 o2 f2 => ⟨hm', μ2, S2, σ2, mono _ _ _ _ (x1.trans x2) hp, o2, f2, p.go x2⟩
        | bk σ2 S2 => rw [q3] at p; exact p
        | rt d S2 => rw [q3] at p; exact p
        | exn e σ2 S2 => rw [q3] at p; exact p
        | bad => rw [q3] at p; exact p
    · rw [if_neg q] at p
      exact p.elim
theorem le_forL {K : PySem.W.Frag} {W : WX} {t : TG} {g : MX.D → Fr → Os → Option Fr} (hg : GD K t g) (D : Ends) (σ : L2.St) (H : Hp) (h : LS K W (mForL fe g f) D σ H) : tFor (iList K (LE K W fe)) t (LS K W f) D σ H := by
  obtain ⟨μ, S, σd, o, fr, p⟩ := h
  refine ⟨μ, S, σd, o, fr, Pst.thenS fr p fun v H1 μ1 S1 d x o1 r1 p1 => ?_⟩
  cases d <;> try exact p1.elim
  · rename_i n
    dsimp only at p1
    cases e : lstAt S1 n with
    | none => rw [e] at p1; exact p1.elim
    | some l =>
      rw [e] at p1
      obtain ⟨a, vs, ha, rfl, h2, h3⟩ := o1.lst e r1
      refine ⟨a, rfl, ⟨vs, .inl (.inl h2)⟩, loop_any hg (fun μ _ => μ[n]? = some a) (fun _ _ _ _ y e => y.at e) ?_ ?_ ha o1 (fr.mono x) p1⟩
      · intro μ2 S2 H2 o2 ha2 q
        obtain ⟨b, us, hb, eb, h4, h5⟩ := o2.lst q ⟨a, ha2, rfl⟩
        cases eb
        exact ⟨us, .inl (.inl h4), by rw [← h5.len]; exact Nat.le_refl _⟩
      · intro i d μ2 S2 H2 hi o2 ha2 q
        obtain ⟨b, us, hb, eb, h4, h5⟩ := o2.lst q ⟨a, ha2, rfl⟩
        cases eb
        obtain ⟨u, h6, h7⟩ := h5.get hi
        refine ⟨⟨us, u, .inl (.inl h4), h6⟩, fun y H' hy => ?_⟩
        obtain ⟨rfl, hy⟩ := hy
        have := hy us (.inl (.inl h4))
        rw [h6] at this
        cases this
        exact ⟨μ2, Nx.refl _ _, o2, h7⟩
  · rename_i l
    obtain ⟨a, vs, rfl, h2, h3⟩ := r1
    refine ⟨a, rfl, ⟨vs, h2.sq⟩, loop_any hg (fun μ H => SqR K H a vs ∧ Reps K μ H l vs) (fun _ _ _ _ y e => ⟨y.sr e.1, Reps.mono y _ _ e.2⟩) ?_ ?_ ⟨h2, h3⟩ o1 (fr.mono x) p1⟩
    · intro μ2 S2 H2 o2 ha2 q
      exact ⟨vs, ha2.1.sq, by rw [← ha2.2.len]; exact Nat.le_refl _⟩
    · intro i d μ2 S2 H2 hi o2 ha2 q
      obtain ⟨u, h6, h7⟩ := ha2.2.get hi
      refine ⟨⟨vs, u, ha2.1.sq, h6⟩, fun y H' hy => ?_⟩
      obtain ⟨rfl, hy⟩ := hy
      have := hy vs ha2.1.sq
      rw [h6] at this
      cases this
      exact ⟨μ2, Nx.refl _ _, o2, h7⟩
theorem le_forT {K : PySem.W.Frag} {W : WX} {t : TG} {g : MX.D → Fr → Os → Option Fr} (hg : GD K t g) (D : Ends) (σ : L2.St) (H : Hp) (h : LS K W (mForT fe g f) D σ H) : tFor (iTup K (LE K W fe)) t (LS K W f) D σ H := by
  obtain ⟨μ, S, σd, o, fr, p⟩ := h
  refine ⟨μ, S, σd, o, fr, Pst.thenS fr p fun v H1 μ1 S1 d x o1 r1 p1 => ?_⟩
  cases d <;> try exact p1.elim
  rename_i l
  obtain ⟨a, vs, rfl, h2, h3⟩ := r1
  refine ⟨a, rfl, ⟨vs, h2⟩, loop_any hg (fun μ H => SqT K H a vs ∧ Reps K μ H l vs) (fun _ _ _ _ y e => ⟨y.sq e.1, Reps.mono y _ _ e.2⟩) ?_ ?_ ⟨h2, h3⟩ o1 (fr.mono x) p1⟩
  · intro μ2 S2 H2 o2 ha2 q
    exact ⟨vs, ha2.1, by rw [← ha2.2.len]; exact Nat.le_refl _⟩
  · intro i d μ2 S2 H2 hi o2 ha2 q
    obtain ⟨u, h6, h7⟩ := ha2.2.get hi
    refine ⟨⟨vs, u, ha2.1, h6⟩, fun y H' hy => ?_⟩
    obtain ⟨rfl, hy⟩ := hy
    have := hy vs ha2.1
    rw [h6] at this
    cases this
    exact ⟨μ2, Nx.refl _ _, o2, h7⟩
omit [TL] in
theorem rngD_get : ∀ {n : Nat} {lo : Int} {i : Nat} {d : MX.D}, (rngD lo n)[i]? = some d → i < n ∧ d = .int (lo + (i : Nat))
  | 0, lo, i, d, h => by simp [rngD] at h
  | n + 1, lo, 0, d, h => by
    have h : some (MX.D.int lo) = some d := h
    cases h
    exact ⟨by omega, by simp⟩
  | n + 1, lo, i + 1, d, h => by
    obtain ⟨h1, rfl⟩ := rngD_get (n := n) (lo := lo + 1) (i := i) (d := d) h
    exact ⟨by omega, congrArg MX.D.int (by omega)⟩
omit [TL] in
theorem rngD_len : ∀ {lo : Int} {n : Nat}, (rngD lo n).length = n
  | _, 0 => rfl
  | lo, n + 1 => congrArg (· + 1) (rngD_len (lo := lo + 1) (n := n))
theorem loop_rng {K : PySem.W.Frag} {W : WX} {t : TG} {g : MX.D → Fr → Os → Option Fr} (hg : GD K t g) {lo : Int} {n : Nat} {D : Ends} {σ : L2.St} {H : Hp} {μ : List Addr} {S : Os} {σd : Fr}
    (o : Ok K μ S H) (fr : FrRel K μ H σd σ) (p : PstS K W D μ H (mLoop (fun _ => True) g f (rngD lo n) σd S)) :
    ∃ Wf : Nat → Nat → L2.St → Hp → Prop, (∃ m, Wf 0 m σ H) ∧ ∀ i m σ H, Wf i m σ H → ((Itr lo n).stop i H ∧ D.nx σ H) ∨ ((Itr lo n).go i H ∧ ∃ N : L2.St → Hp → Prop, (∀ σ' H', N σ' H' → ∃ m', m' < m ∧ Wf (i + 1) m' σ' H') ∧
      ∀ x H', (Itr lo n).yld i H x H' → t x σ H' fun σ2 H2 => LS K W f { D with nx := N, ct := N, bk := D.nx } σ2 H2) := by
  refine loop_any hg (fun _ _ => True) (fun _ _ _ _ _ _ => trivial) ?_ ?_ trivial o fr p
  · intro μ2 S2 H2 o2 _ _
    show n ≤ (rngD lo n).length
    rw [rngD_len]
    exact Nat.le_refl _
  · intro i d μ2 S2 H2 hi o2 _ _
    obtain ⟨h1, rfl⟩ := rngD_get hi
    refine ⟨h1, fun y H' hy => ?_⟩
    obtain ⟨rfl, rfl⟩ := hy
    exact ⟨μ2, Nx.refl _ _, o2, rfl⟩
theorem la_one {K : PySem.W.Frag} {W : WX} {fe : ME} {σ : L2.St} {μ : List Addr} {H : Hp} {σd : Fr} {S : Os} {Q : List V → Hp → Prop} (p : Pst K W σ (fun v H => Q [v] H) μ H (fe σd S)) : PstA K W σ Q μ H (mCons fe mNil σd S) := by
  unfold mCons mNil
  cases q : fe σd S with
  | ok d S1 =>
    rw [q] at p
    intro μ1 H1 v x o1 r1
    obtain ⟨v0, _, rfl, r0, rfl⟩ := r1
    exact p μ1 H1 v0 x o1 r0
  | exn e S1 => rw [q] at p; exact p
  | bad => rw [q] at p; exact p
theorem la_two {K : PySem.W.Frag} {W : WX} {fa fe : ME} {σ : L2.St} {μ : List Addr} {H : Hp} {σd : Fr} {S : Os} {Q : List V → Hp → Prop}
    (p : PstA K W σ Q μ H ((fa σd S).bind fun d S1 => (fe σd S1).bind fun e S2 => .ok [d, e] S2)) : PstA K W σ Q μ H (mCons fa (mCons fe mNil) σd S) := by
  unfold mCons mNil
  cases q : fa σd S with
  | ok d S1 =>
    rw [q] at p
    rw [Res.bind_ok] at p ⊢
    cases q2 : fe σd S1 with
    | ok d S1 => rw [q2] at p; exact p
    | exn e S1 => rw [q2] at p; exact p
    | bad => rw [q2] at p; exact p
  | exn e S1 => rw [q] at p; exact p
  | bad => rw [q] at p; exact p
theorem le_forR1 {K : PySem.W.Frag} {W : WX} {t : TG} {g : MX.D → Fr → Os → Option Fr} {fe : ME} (hg : GD K t g) (D : Ends) (σ : L2.St) (H : Hp) (h : LS K W (mForR1 fe g f) D σ H) : tFor (iRng1 (LA K W (mCons fe mNil))) t (LS K W f) D σ H := by
  obtain ⟨μ, S, σd, o, fr, p⟩ := h
  refine ⟨μ, S, σd, o, fr, la_one (Pst.thenS fr p fun v H1 μ1 S1 d x o1 r1 p1 => ?_)⟩
  cases d <;> try exact p1.elim
  rename_i j
  cases r1
  have p1 : PstS K W D μ1 H1 (@ite _ (-(2 ^ 62) ≤ j ∧ j < 2 ^ 62) (Classical.propDecidable _) (mLoop (fun _ => True) g f (rngD 0 j.toNat) σd S1) .bad) := p1
  by_cases c : -(2 ^ 62) ≤ j ∧ j < 2 ^ 62
  · rw [if_pos c] at p1
    exact ⟨j, rfl, c.1, c.2, loop_rng hg o1 (fr.mono x) p1⟩
  · rw [if_neg c] at p1
    exact p1.elim
theorem le_forR2 {K : PySem.W.Frag} {W : WX} {t : TG} {g : MX.D → Fr → Os → Option Fr} {fa fe : ME} (hg : GD K t g) (D : Ends) (σ : L2.St) (H : Hp) (h : LS K W (mForR2 fa fe g f) D σ H) : tFor (iRng2 (LA K W (mCons fa (mCons fe mNil)))) t (LS K W f) D σ H := by
  obtain ⟨μ, S, σd, o, fr, p⟩ := h
  refine ⟨μ, S, σd, o, fr, la_two ?_⟩
  have p : PstS K W D μ H ((fa σd S).toS σd fun d S1 => (fe σd S1).toS σd fun e S2 => match d, e with
    | .int i, .int j => @ite _ (-(2 ^ 62) ≤ i ∧ i < 2 ^ 62 ∧ -(2 ^ 62) ≤ j ∧ j < 2 ^ 62) (Classical.propDecidable _) (mLoop (fun _ => True) g f (rngD i (j - i).toNat) σd S2) .bad
    | _, _ => .bad) := p
  cases q : fa σd S with
  | ok d S1 =>
    rw [q] at p
    rw [Res.bind_ok]
    rw [Res.toS_ok] at p
    cases q2 : fe σd S1 with
    | ok e S2 =>
      rw [q2] at p
      rw [Res.bind_ok]
      rw [Res.toS_ok] at p
      intro μ1 H1 v x o1 r1
      replace p := p.go x
      cases d <;> cases e <;> try exact p.elim
      rename_i i j
      obtain ⟨v0, _, rfl, r0, v1, _, rfl, r1, rfl⟩ := r1
      cases r0; cases r1
      dsimp only at p
      by_cases c : -(2 ^ 62) ≤ i ∧ i < 2 ^ 62 ∧ -(2 ^ 62) ≤ j ∧ j < 2 ^ 62
      · rw [if_pos c] at p
        exact ⟨i, j, rfl, c, loop_rng hg o1 (fr.mono x) p⟩
      · rw [if_neg c] at p
        exact p.elim
    | exn e S2 => rw [q2] at p; exact fun μ1 H1 c dd x o r => p μ1 H1 c dd σ x o (fr.mono x) r
    | bad => rw [q2] at p; exact p
  | exn e S1 => rw [q] at p; exact fun μ1 H1 c dd x o r => p μ1 H1 c dd σ x o (fr.mono x) r
  | bad => rw [q] at p; exact p
end
end MX

end
section
namespace MX
open PySem PySem.Spec PyProof.Rows L2
variable [TL]
/-! ### a def by data -/
@[simp] def fnD (n : Nat) (b : MS) : Fn := fun ds S => match b (ds.map some ++ List.replicate (n - ds.length) none) S with
  | .rt d S' => .ok d S'
  | .nx _ S' => .ok .non S'
  | .exn e _ S' => .exn e S'
  | _ => .bad
theorem fr_start {K : PySem.W.Frag} {μ : List Addr} {H : Hp} {N : List Str} {ds : List D} {vs : List V} (r : Reps K μ H ds vs) : FrRel K μ H (ds.map some ++ List.replicate (N.length - ds.length) none) (L2.start N vs) := by
  unfold L2.start
  refine ⟨by rw [List.length_append, List.length_append, List.length_map, List.length_map, List.length_replicate, List.length_replicate, r.len], fun i d e => ?_⟩
  have hi : i < ds.length := by
    by_cases h : i < ds.length
    · exact h
    · rw [List.getElem?_append_right (by rw [List.length_map]; omega), List.length_map, List.getElem?_replicate] at e
      split at e <;> cases e
  rw [List.getElem?_append_left (by rw [List.length_map]; exact hi), List.getElem?_map, List.getElem?_eq_getElem hi] at e
  have e2 : ds[i]? = some d := by
    rw [List.getElem?_eq_getElem hi]
    simpa using e
  obtain ⟨v, h1, h2⟩ := r.get e2
  refine ⟨v, ?_, h2⟩
  rw [List.getElem?_append_left (by rw [List.length_map, ← r.len]; exact hi), List.getElem?_map, h1]
  rfl
section
variable {P : Program} {w : World} {K : PySem.W.Frag} {mg : Str → Option Value} {base : Heap} {x qual : Str} {params : Arguments} {body : List Stmt} {scope : Scope} {dvs : List V} {kws : List (Str × V)} {f : Addr} {fd : FuncData}
theorem fn_ok {N ps : List Str} {k : Nat} {b : MS} (F : FunD K x qual params body scope dvs kws f fd) (S : FnScope N ps scope)
    (hbody : ∀ (cdv : Value) (A : Around) (outer : List Env) (s : Shared) (H : Hp) (E : XK), Room k (A.deeper (envOfC qual scope s.heap.objs.size f cdv)) →
      PSs (cxOf (L2N.CX P w) P w K mg base N qual scope f cdv A outer s H E) body (LS K (fun cls d _ H' => E cls d H') b)) :
    FnOk P w K mg base (L2N.CX P w) (k + 1) f fd ps (spD K ps.length (fnD N.length b)) := by
  refine F.ok S (fun vs H Q E h => h.1) (fun cdv A outer s H vs Q E hr h => ⟨_, hbody cdv A outer s H E hr, ?_⟩)
  obtain ⟨_, μ, S, ds, r, o, p⟩ := h
  refine ⟨μ, S, _, o, fr_start r, ?_⟩
  unfold fnD at p
  split at p
  · rename_i d S' q
    split at q
    · rename_i q2; cases q; rw [q2]; exact p
    · rename_i q2; cases q; rw [q2]; exact fun μ' H' σ' x' o' fr => p μ' H' .non x' o' rfl
    · cases q
    · cases q
  · rename_i e S' q
    split at q
    · cases q
    · cases q
    · rename_i q2; cases q; rw [q2]; exact fun μ' H' c dd σ' x' o' fr er => p μ' H' c dd x' o' er
    · cases q
  · exact p.elim
end
/-! ### slices -/
abbrev MO := Fr → Os → Res (Option Int)
@[simp] def mNoPart : MO := fun _ S => .ok none S
@[simp] def mPart (e : ME) : MO := fun σ S => (e σ S).bind fun d S1 => match d with
  | .int i => .ok (some i) S1
  | _ => .bad
def PstO (K : PySem.W.Frag) (W : WX) (σ : L2.St) (Q : Option Int → Hp → Prop) (μ : List Addr) (H : Hp) (r : Res (Option Int)) : Prop := match r with
  | .ok b S => ∀ μ' H', Nx H μ H' μ' → Ok K μ' S H' → Q b H'
  | .exn e S => ∀ μ' H' c dd, Nx H μ H' μ' → Ok K μ' S H' → ExRep K μ' H' e c dd → W c dd σ H'
  | .bad => False
def LO (K : PySem.W.Frag) (W : WX) (f : MO) : TO := fun σ H Q => ∃ μ S σd, Ok K μ S H ∧ FrRel K μ H σd σ ∧ PstO K W σ Q μ H (f σd S)
@[simp] def sliceD : D → Option Int → Option Int → Os → Res D
  | .str z, lo, hi, S => if z.length ≤ sizeLine then .ok (.str (cutS z lo hi)) S else .bad
  | .tup l, lo, hi, S => .ok (.tup ((l.drop (HT.sIx l.length 0 lo)).take (HT.sIx l.length l.length hi - HT.sIx l.length 0 lo))) S
  | d, lo, hi, S => match itemsD S d with
    | some l => .ok (.loc S.length) (S ++ [.lst ((l.drop (HT.sIx l.length 0 lo)).take (HT.sIx l.length l.length hi - HT.sIx l.length 0 lo))])
    | none => .bad
@[simp] def mSlice (e : ME) (lo hi : MO) : ME := fun σ S => (e σ S).bind fun d S1 => (lo σ S1).bind fun l S2 => (hi σ S2).bind fun h S3 => sliceD d l h S3
section
variable {K : PySem.W.Frag} {W : WX} {σ : L2.St} {H : Hp} {μ : List Addr}
theorem PO.imp {X : Cx} {e : Option Expr} {t u : TO} (h : PO X e t) (i : ∀ σ H Q, u σ H Q → t σ H Q) : PO X e u := ⟨fun pins s σ H Q I q => h.run pins s σ H Q I (i _ _ _ q)⟩
theorem PstO.andThen {Q : VK} {Q' : Option Int → Hp → Prop} {r : Res (Option Int)} {g : Option Int → Os → Res D} (p : Pst K W σ Q μ H (r.bind g))
    (k : ∀ b H1 μ1 S1, Nx H μ H1 μ1 → Ok K μ1 S1 H1 → Pst K W σ Q μ1 H1 (g b S1) → Q' b H1) : PstO K W σ Q' μ H r := by
  cases r with
  | ok d S => exact fun μ1 H1 x o => k d H1 μ1 S x o (p.go x)
  | exn e S => exact p
  | bad => exact p
theorem Pst.andThenO {Q : Option Int → Hp → Prop} {Q' : VK} {r : Res D} {g : D → Os → Res (Option Int)} (p : PstO K W σ Q μ H (r.bind g))
    (k : ∀ v H1 μ1 S1 d, Nx H μ H1 μ1 → Ok K μ1 S1 H1 → Rep K μ1 H1 d v → PstO K W σ Q μ1 H1 (g d S1) → Q' v H1) : Pst K W σ Q' μ H r := by
  cases r with
  | ok d S =>
    refine fun μ1 H1 v x o r => k v H1 μ1 S d x o r ?_
    have p : PstO K W σ Q μ H (g d S) := p
    cases q : g d S with
    | ok b S1 => rw [q] at p; exact fun μ2 H2 y => p μ2 H2 (x.trans y)
    | exn e S1 => rw [q] at p; exact fun μ2 H2 c dd y => p μ2 H2 c dd (x.trans y)
    | bad => rw [q] at p; exact p
  | exn e S => exact p
  | bad => exact p
end
section
variable {X : Cx} {W : WX} {a e : Expr} {lo hi : Option Expr} {fe : ME} {fl fh : MO} {pos p2 : Pos}
theorem p_none : PO X none (LO X.K W mNoPart) := PO.imp po_none fun σ H Q ⟨μ, S, σd, o, fr, p⟩ => p μ H (Nx.refl _ _) o
theorem p_some (h : PE X e (LE X.K W fe)) : PO X (some e) (LO X.K W (mPart fe)) := PO.imp (po_some h) fun σ H Q ⟨μ, S, σd, o, fr, p⟩ => ⟨μ, S, σd, o, fr, Pst.andThenO p fun v H1 μ1 S1 d x o1 r1 p1 => by
  cases d <;> try exact p1.elim
  rename_i i
  cases r1
  exact ⟨i, rfl, p1 μ1 H1 (Nx.refl _ _) o1⟩⟩
theorem Reps.cut {K : PySem.W.Frag} {μ : List Addr} {H : Hp} {l : List D} {vs : List V} (h : Reps K μ H l vs) (lo hi : Option Int) :
    Reps K μ H ((l.drop (HT.sIx l.length 0 lo)).take (HT.sIx l.length l.length hi - HT.sIx l.length 0 lo)) (cutV vs lo hi) := by
  unfold cutV
  rw [h.len]
  exact (h.drop _).take _
def rSlAll (K : PySem.W.Frag) : V → Option Int → Option Int → Hp → VK → Prop := fun x lo hi H Q => rSlS x lo hi H Q ∨ (rSlA K x lo hi H Q ∨ rSlL K x lo hi H Q)
theorem e_slice (he : PE X e (LE X.K W fe)) (hl : PO X lo (LO X.K W fl)) (hu : PO X hi (LO X.K W fh)) : PE X (.Subscript e (.Slice lo hi none p2) pos) (LE X.K W (mSlice fe fl fh)) :=
  PE.imp (pe_slice (sl_str.or (sl_tupA.or sl_list)) he hl hu) fun σ H Q ⟨μ, S, σd, o, f, p⟩ => by
    refine ⟨μ, S, σd, o, f, p.andThen fun v H1 μ1 S1 d x o1 r1 p1 => ⟨μ1, S1, σd, o1, f.mono x, PstO.andThen p1 fun l H2 μ2 S2 y o2 p2 => ⟨μ2, S2, σd, o2, f.mono (x.trans y), PstO.andThen p2 fun u H3 μ3 S3 z o3 p3 => ?_⟩⟩⟩
    have r3 := (r1.mono y).mono z
    cases d <;> try exact p3.elim
    · cases r3
      dsimp only [sliceD] at p3
      obtain ⟨h, p3⟩ := p3.ite
      exact .inl ⟨_, rfl, h, p3.val o3 rfl⟩
    · obtain ⟨b, vs, rfl, h1, h2⟩ := r3
      dsimp only [sliceD] at p3
      refine .inr (.inl ⟨b, vs, rfl, h1, fun hw => ?_, fun _ q hq => new_tup o3 (h2.cut l u) p3 q hq⟩)
      rw [← h2.len] at hw
      rw [hw.1, hw.2, List.drop_zero, Nat.sub_zero, List.take_length] at p3
      exact p3.val o3 ⟨b, vs, rfl, h1, h2⟩
    · rename_i n
      dsimp only [sliceD] at p3
      cases q : itemsD S3 (.loc n) with
      | none => rw [q] at p3; exact p3.elim
      | some m =>
        rw [q] at p3
        obtain ⟨b, vs, _, rfl, h2, h3⟩ := o3.lst q r3
        exact .inr (.inr ⟨b, vs, rfl, .inl (.inl h2), fun q hq => new_lst o3 (h3.cut l u) p3 q hq⟩)
    · rename_i m
      obtain ⟨b, vs, rfl, h2, h3⟩ := r3
      exact .inr (.inr ⟨b, vs, rfl, h2.sq, fun q hq => new_lst o3 (h3.cut l u) p3 q hq⟩)
end
end MX

end
section
namespace MX
open PySem PySem.Spec PyProof.Rows L2
variable [TL]
/-! ### comprehensions -/
def WF : WX := fun _ _ _ _ => False
@[simp] def wipeD (σ : Fr) : List Nat → Fr
  | [] => σ
  | v :: vs => (wipeD σ vs).set v none
theorem FrRel.wipe {K : PySem.W.Frag} {μ : List Addr} {H : Hp} {σd : Fr} {σ : L2.St} (h : FrRel K μ H σd σ) : ∀ vs, FrRel K μ H (wipeD σd vs) (wipe σ vs)
  | [] => h
  | v :: vs => by
    have ih := FrRel.wipe h vs
    refine ⟨by unfold wipeD L2.wipe; rw [List.length_set, List.length_set]; exact ih.1, fun i d e => ?_⟩
    unfold wipeD at e
    by_cases hi : i = v
    · subst hi
      have hl : i < (wipeD σd vs).length := by
        have := (List.getElem?_eq_some_iff.mp e).1
        rwa [List.length_set] at this
      rw [List.getElem?_set_self hl] at e
      cases e
    · rw [List.getElem?_set_ne (Ne.symm hi)] at e
      obtain ⟨u, h1, h2⟩ := ih.2 i d e
      exact ⟨u, by unfold L2.wipe; rw [List.getElem?_set_ne (Ne.symm hi)]; exact h1, h2⟩
@[simp] def mYes : MT := fun _ S => .ok true S
/-- the turns of a comprehension, the new list at n -/
noncomputable def mComp (ok : Os → Prop) (g : D → Fr → Os → Option Fr) (vs : List Nat) (t : MT) (e : ME) (n : Nat) : List D → Fr → Os → Res D
  | [] => fun _ S => open Classical in if ok S then .ok (.loc n) S else .bad
  | x :: xs => fun σ S => open Classical in if ok S then (match g x (wipeD σ vs) S with
      | some σ2 => (match t σ2 S with
        | .ok true S1 => (match e σ2 S1 with
          | .ok y S2 => (match lstAt S2 n with
            | some acc => if acc.length < sizeLine then mComp ok g vs t e n xs σ (S2.set n (.lst (acc ++ [y]))) else .bad
            | none => .bad)
          | _ => .bad)
        | .ok false S1 => mComp ok g vs t e n xs σ S1
        | _ => .bad)
      | none => .bad) else .bad
@[simp] noncomputable def mLcL (l : ME) (g : D → Fr → Os → Option Fr) (vs : List Nat) (t : MT) (e : ME) : ME := fun σ S => (l σ S).bind fun d S1 => match d with
  | .loc n => (match lstAt S1 n with
    | some l => mComp (fun S' => lstAt S' n = some l) g vs t e S1.length l σ (S1 ++ [.lst []])
    | none => .bad)
  | .rl l => mComp (fun _ => True) g vs t e S1.length l σ (S1 ++ [.lst []])
  | _ => .bad
@[simp] noncomputable def mLcT (l : ME) (g : D → Fr → Os → Option Fr) (vs : List Nat) (t : MT) (e : ME) : ME := fun σ S => (l σ S).bind fun d S1 => match d with
  | .tup l => mComp (fun _ => True) g vs t e S1.length l σ (S1 ++ [.lst []])
  | _ => .bad
@[simp] noncomputable def mLcR1 (a : ME) (g : D → Fr → Os → Option Fr) (vs : List Nat) (t : MT) (e : ME) : ME := fun σ S => (a σ S).bind fun d S1 => match d with
  | .int j => @ite _ (-(2 ^ 62) ≤ j ∧ j < 2 ^ 62) (Classical.propDecidable _) (mComp (fun _ => True) g vs t e S1.length (rngD 0 j.toNat) σ (S1 ++ [.lst []])) .bad
  | _ => .bad
def signsD (z : Str) : List D := z.cps.toList.map fun c => .str ⟨#[c]⟩
@[simp] noncomputable def mLcS (a : ME) (g : D → Fr → Os → Option Fr) (vs : List Nat) (t : MT) (e : ME) : ME := fun σ S => (a σ S).bind fun d S1 => match d with
  | .str z => mComp (fun _ => True) g vs t e S1.length (signsD z) σ (S1 ++ [.lst []])
  | _ => .bad
/-- the target is one of the comprehension's own names -/
def GW (t : TG) (vs : List Nat) : Prop := ∀ (v : V) (σ : L2.St) (H : Hp) (Q : L2.St → Hp → Prop), t v (wipe σ vs) H Q → t v (wipe σ vs) H fun σ2 H2 => wipe σ2 vs = wipe σ vs ∧ Q σ2 H2
theorem gw_name (i : Nat) : GW (gName i) [i] := fun v σ H Q h => ⟨by
  show (((σ.set i none).set i (some v)).set i none) = σ.set i none
  rw [List.set_set, List.set_set], h⟩
section
variable {K : PySem.W.Frag} {g : D → Fr → Os → Option Fr} {t : TG} {vs : List Nat} {ft : MT} {fe : ME}
theorem comp_any {J : It} {okS : Os → Prop} (hg : GD K t g) (hw : GW t vs) {l : List D} {σ : L2.St} {W : WX} {Q : VK}
    (Pc : List Addr → Hp → Prop) (mono : ∀ H μ H' μ', Nx H μ H' μ' → Pc μ H → Pc μ' H')
    (hstop : ∀ μ S H, Ok K μ S H → Pc μ H → okS S → J.stop l.length H)
    (hgo : ∀ i d μ S H, l[i]? = some d → Ok K μ S H → Pc μ H → okS S → J.go i H ∧ ∀ x H', J.yld i H x H' → ∃ μ', Nx H μ H' μ' ∧ Ok K μ' S H' ∧ Rep K μ' H' d x)
    {H1 : Hp} {μ1 : List Addr} {S1 : Os} {σd : Fr} (hp : Pc μ1 H1) (o1 : Ok K μ1 S1 H1) (fr : FrRel K μ1 H1 σd σ) {tt : TT} (htt : ∀ σ H Q, LT K WF ft σ H Q → tt σ H Q)
    (p : Pst K W σ Q μ1 H1 (mComp okS g vs ft fe S1.length l σd (S1 ++ [.lst []]))) (Dl : Addr) (hD : H1 Dl = none) :
    ∃ Wf : Nat → Nat → Hp → Prop, (∃ m, Wf 0 m (upd H1 Dl (.lst []))) ∧ ∀ i m H, Wf i m H →
      (J.stop i H ∧ Q (.ref Dl) H) ∨ (J.go i H ∧ ∃ N : Hp → Prop, (∀ H', N H' → ∃ m', m' < m ∧ Wf (i + 1) m' H') ∧ ∀ x H', J.yld i H x H' → t x (wipe σ vs) H' fun σ2 H2 => wipe σ2 vs = wipe σ vs ∧ tt σ2 H2 fun b H3 =>
        if b = true then LE K WF fe σ2 H3 fun y H4 => ∃ acc, H4 Dl = some (.lst acc) ∧ acc.length < sizeLine ∧ N (upd H4 Dl (.lst (acc ++ [y]))) else N H3) := by
  refine ⟨fun i m H => i + m = l.length ∧ ∃ μ S, μ[S1.length]? = some Dl ∧ Pc μ H ∧ Ok K μ S H ∧ FrRel K μ H σd σ ∧ Pst K W σ Q μ H (mComp okS g vs ft fe S1.length (l.drop i) σd S),
    ⟨l.length, Nat.zero_add _, μ1 ++ [Dl], S1 ++ [O.lst []], o1.loc_new Dl, mono _ _ _ _ (Nx.new hD [Dl]) hp, o1.alloc (o := .lst []) hD ⟨[], upd_same, rfl⟩, fr.mono (Nx.new hD [Dl]), p.go (Nx.new hD [Dl])⟩, ?_⟩
  rintro i m H ⟨hm, μ, S, hDl, hp, o, fr, p⟩
  cases m with
  | zero =>
    have hi : i = l.length := by omega
    subst hi
    rw [List.drop_length] at p
    unfold mComp at p
    by_cases q : okS S
    · rw [if_pos q] at p
      exact .inl ⟨hstop μ S H o hp q, p.val o ⟨Dl, hDl, rfl⟩⟩
    · rw [if_neg q] at p
      exact p.elim
  | succ m =>
    have hi : i < l.length := by omega
    rw [List.drop_eq_getElem_cons hi] at p
    unfold mComp at p
    by_cases q : okS S
    · rw [if_pos q] at p
      obtain ⟨h1, h2⟩ := hgo i l[i] μ S H (List.getElem?_eq_getElem hi) o hp q
      refine .inr ⟨h1, fun H => i + 1 + m = l.length ∧ ∃ μ S, μ[S1.length]? = some Dl ∧ Pc μ H ∧ Ok K μ S H ∧ FrRel K μ H σd σ ∧ Pst K W σ Q μ H (mComp okS g vs ft fe S1.length (l.drop (i + 1)) σd S),
        fun H' h => ⟨m, Nat.lt_succ_self m, h⟩, fun x H' hy => ?_⟩
      obtain ⟨μ', x1, o', r'⟩ := h2 x H' hy
      replace p := p.go x1
      have hm' : i + 1 + m = l.length := by omega
      cases q2 : g l[i] (wipeD σd vs) S with
      | none => rw [q2] at p; exact p.elim
      | some σd2 =>
        rw [q2] at p
        refine hw x σ H' _ (hg μ' S H' (wipeD σd vs) σd2 (wipe σ vs) l[i] x _ o' ((fr.mono x1).wipe vs) r' q2 fun σ2 fr2 => htt _ _ _ ⟨μ', S, σd2, o', fr2, ?_⟩)
        dsimp only at p
        cases q3 : ft σd2 S with
        | exn e S2 => rw [q3] at p; exact p.elim
        | bad => rw [q3] at p; exact p.elim
        | ok b S2 =>
          rw [q3] at p
          intro μ2 H2 x2 o2
          replace p := p.go x2
          cases b with
          | false => exact ⟨hm', μ2, S2, (x1.trans x2).at hDl, mono _ _ _ _ (x1.trans x2) hp, o2, (fr.mono x1).mono x2, p⟩
          | true =>
            refine ⟨μ2, S2, σd2, o2, fr2.mono x2, ?_⟩
            dsimp only at p
            cases q4 : fe σd2 S2 with
            | exn e S3 => rw [q4] at p; exact p.elim
            | bad => rw [q4] at p; exact p.elim
            | ok y S3 =>
              rw [q4] at p
              intro μ3 H3 v x3 o3 r3
              replace p := p.go x3
              dsimp only at p
              have hDl3 : μ3[S1.length]? = some Dl := x3.at ((x1.trans x2).at hDl)
              cases q5 : lstAt S3 S1.length with
              | none => rw [q5] at p; exact p.elim
              | some acc =>
                rw [q5] at p
                obtain ⟨hz, p⟩ := p.ite
                obtain ⟨b, us, hb, eb, h4, h5⟩ := o3.lst q5 ⟨Dl, hDl3, rfl⟩
                cases eb
                have hm3 := List.mem_of_getElem? hDl3
                refine ⟨us, h4, by rw [← h5.len]; exact hz, hm', μ3, _, hDl3, mono _ _ _ _ (((x1.trans x2).trans x3).trans (Nx.put o3 hm3)) hp, put_lst o3 hDl3 (h5.app (Reps.one r3)), (((fr.mono x1).mono x2).mono x3).mono (Nx.put o3 hm3), p.go (Nx.put o3 hm3)⟩
    · rw [if_neg q] at p
      exact p.elim
end
end MX

end
section
namespace MX
open PySem PySem.Spec PyProof.Rows L2
variable [TL]
section
variable {K : PySem.W.Frag} {g : D → Fr → Os → Option Fr} {t : TG} {vs : List Nat} {ft : MT} {fe fl : ME} {W : WX} {tt : TT}
theorem le_lcL (hg : GD K t g) (hw : GW t vs) (htt : ∀ σ H Q, LT K WF ft σ H Q → tt σ H Q) (σ : L2.St) (H : Hp) (Q : VK) (h : LE K W (mLcL fl g vs ft fe) σ H Q) : tLc (iList K (LE K W fl)) t tt (LE K WF fe) vs σ H Q := by
  obtain ⟨μ, S, σd, o, fr, p⟩ := h
  refine ⟨μ, S, σd, o, fr, p.andThen fun v H1 μ1 S1 d x o1 r1 p1 => ?_⟩
  cases d <;> try exact p1.elim
  · rename_i n
    dsimp only at p1
    cases e : lstAt S1 n with
    | none => rw [e] at p1; exact p1.elim
    | some l =>
      rw [e] at p1
      obtain ⟨a, us, ha, rfl, h2, h3⟩ := o1.lst e r1
      refine ⟨a, rfl, ⟨us, .inl (.inl h2)⟩, fun Dl hD => comp_any (W := W) hg hw (fun μ _ => μ[n]? = some a) (fun _ _ _ _ y e => y.at e) ?_ ?_ ha o1 (fr.mono x) htt p1 Dl hD⟩
      · intro μ2 S2 H2 o2 ha2 q
        obtain ⟨b, us, hb, eb, h4, h5⟩ := o2.lst q ⟨a, ha2, rfl⟩
        cases eb
        exact ⟨us, .inl (.inl h4), by rw [← h5.len]; exact Nat.le_refl _⟩
      · intro i d μ2 S2 H2 hi o2 ha2 q
        obtain ⟨b, us, hb, eb, h4, h5⟩ := o2.lst q ⟨a, ha2, rfl⟩
        cases eb
        obtain ⟨u, h6, h7⟩ := h5.get hi
        refine ⟨⟨us, u, .inl (.inl h4), h6⟩, fun y H' hy => ?_⟩
        obtain ⟨rfl, hy⟩ := hy
        have := hy us (.inl (.inl h4))
        rw [h6] at this
        cases this
        exact ⟨μ2, Nx.refl _ _, o2, h7⟩
  · rename_i l
    obtain ⟨a, us, rfl, h2, h3⟩ := r1
    refine ⟨a, rfl, ⟨us, h2.sq⟩, fun Dl hD => comp_any (W := W) hg hw (fun μ H => SqR K H a us ∧ Reps K μ H l us) (fun _ _ _ _ y e => ⟨y.sr e.1, Reps.mono y _ _ e.2⟩) ?_ ?_ ⟨h2, h3⟩ o1 (fr.mono x) htt p1 Dl hD⟩
    · intro μ2 S2 H2 o2 ha2 q
      exact ⟨us, ha2.1.sq, by rw [← ha2.2.len]; exact Nat.le_refl _⟩
    · intro i d μ2 S2 H2 hi o2 ha2 q
      obtain ⟨u, h6, h7⟩ := ha2.2.get hi
      refine ⟨⟨us, u, ha2.1.sq, h6⟩, fun y H' hy => ?_⟩
      obtain ⟨rfl, hy⟩ := hy
      have := hy us ha2.1.sq
      rw [h6] at this
      cases this
      exact ⟨μ2, Nx.refl _ _, o2, h7⟩
theorem le_lcT (hg : GD K t g) (hw : GW t vs) (htt : ∀ σ H Q, LT K WF ft σ H Q → tt σ H Q) (σ : L2.St) (H : Hp) (Q : VK) (h : LE K W (mLcT fl g vs ft fe) σ H Q) : tLc (iTup K (LE K W fl)) t tt (LE K WF fe) vs σ H Q := by
  obtain ⟨μ, S, σd, o, fr, p⟩ := h
  refine ⟨μ, S, σd, o, fr, p.andThen fun v H1 μ1 S1 d x o1 r1 p1 => ?_⟩
  cases d <;> try exact p1.elim
  rename_i l
  obtain ⟨a, us, rfl, h2, h3⟩ := r1
  refine ⟨a, rfl, ⟨us, h2⟩, fun Dl hD => comp_any (W := W) hg hw (fun μ H => SqT K H a us ∧ Reps K μ H l us) (fun _ _ _ _ y e => ⟨y.sq e.1, Reps.mono y _ _ e.2⟩) ?_ ?_ ⟨h2, h3⟩ o1 (fr.mono x) htt p1 Dl hD⟩
  · intro μ2 S2 H2 o2 ha2 q
    exact ⟨us, ha2.1, by rw [← ha2.2.len]; exact Nat.le_refl _⟩
  · intro i d μ2 S2 H2 hi o2 ha2 q
    obtain ⟨u, h6, h7⟩ := ha2.2.get hi
    refine ⟨⟨us, u, ha2.1, h6⟩, fun y H' hy => ?_⟩
    obtain ⟨rfl, hy⟩ := hy
    have := hy us ha2.1
    rw [h6] at this
    cases this
    exact ⟨μ2, Nx.refl _ _, o2, h7⟩
theorem le_lcR1 (hg : GD K t g) (hw : GW t vs) (htt : ∀ σ H Q, LT K WF ft σ H Q → tt σ H Q) (σ : L2.St) (H : Hp) (Q : VK) (h : LE K W (mLcR1 fl g vs ft fe) σ H Q) : tLc (iRng1 (LA K W (mCons fl mNil))) t tt (LE K WF fe) vs σ H Q := by
  obtain ⟨μ, S, σd, o, fr, p⟩ := h
  refine ⟨μ, S, σd, o, fr, la_one (p.andThen fun v H1 μ1 S1 d x o1 r1 p1 => ?_)⟩
  cases d <;> try exact p1.elim
  rename_i j
  cases r1
  obtain ⟨c, p1⟩ := Pst.ite p1
  refine ⟨j, rfl, c.1, c.2, fun Dl hD => comp_any (W := W) hg hw (fun _ _ => True) (fun _ _ _ _ _ _ => trivial) ?_ ?_ trivial o1 (fr.mono x) htt p1 Dl hD⟩
  · intro μ2 S2 H2 o2 _ _
    show j.toNat ≤ (rngD 0 j.toNat).length
    rw [rngD_len]
    exact Nat.le_refl _
  · intro i d μ2 S2 H2 hi o2 _ _
    obtain ⟨h1, rfl⟩ := rngD_get hi
    refine ⟨h1, fun y H' hy => ?_⟩
    obtain ⟨rfl, rfl⟩ := hy
    exact ⟨μ2, Nx.refl _ _, o2, rfl⟩
theorem signsD_get {z : Str} {i : Nat} {d : D} (h : (signsD z)[i]? = some d) : ∃ c, z.cps[i]? = some c ∧ d = .str ⟨#[c]⟩ := by
  unfold signsD at h
  rw [List.getElem?_map, Array.getElem?_toList] at h
  cases e : z.cps[i]? with
  | none => rw [e] at h; cases h
  | some c => rw [e] at h; cases h; exact ⟨c, rfl, rfl⟩
theorem signsD_len {z : Str} : (signsD z).length = z.cps.size := by unfold signsD; rw [List.length_map, Array.length_toList]
theorem le_lcS (hg : GD K t g) (hw : GW t vs) (htt : ∀ σ H Q, LT K WF ft σ H Q → tt σ H Q) (σ : L2.St) (H : Hp) (Q : VK) (h : LE K W (mLcS fl g vs ft fe) σ H Q) : tLc (iStr (LE K W fl)) t tt (LE K WF fe) vs σ H Q := by
  obtain ⟨μ, S, σd, o, fr, p⟩ := h
  refine ⟨μ, S, σd, o, fr, p.andThen fun v H1 μ1 S1 d x o1 r1 p1 => ?_⟩
  cases d <;> try exact p1.elim
  rename_i z
  cases r1
  refine ⟨z, rfl, fun Dl hD => comp_any (W := W) hg hw (fun _ _ => True) (fun _ _ _ _ _ _ => trivial) ?_ ?_ trivial o1 (fr.mono x) htt p1 Dl hD⟩
  · intro μ2 S2 H2 o2 _ _
    show z.cps.size ≤ (signsD z).length
    rw [signsD_len]
    exact Nat.le_refl _
  · intro i d μ2 S2 H2 hi o2 _ _
    obtain ⟨c, h1, rfl⟩ := signsD_get hi
    have hlt : i < z.cps.size := by
      have := (List.getElem?_eq_some_iff.mp hi).1
      rwa [signsD_len] at this
    refine ⟨hlt, fun y H' hy => ?_⟩
    obtain ⟨rfl, c', h2, rfl⟩ := hy
    rw [h1] at h2
    cases h2
    exact ⟨μ2, Nx.refl _ _, o2, rfl⟩
theorem tt_yes (σ : L2.St) (H : Hp) (Q : Bool → Hp → Prop) (h : LT K W mYes σ H Q) : tYes σ H Q := by
  obtain ⟨μ, S, σd, o, fr, p⟩ := h
  exact p μ H (Nx.refl _ _) o
end
section
variable {X : Cx} {W : WX} {e c : Expr} {fe : ME} {ft : MT}
theorem ts_nil {X : Cx} {W : WX} : PTs X [] (LT X.K W mYes) := ⟨fun pins s σ H Q I q => pts_nil.run pins s σ H Q I (tt_yes σ H Q q)⟩
theorem ts_one (h : PT X c (LT X.K W ft)) : PTs X [c] (LT X.K W ft) := pts_one h
end
/-! ### methods of lists, stores by index -/
@[simp] def mMeth (op : D → List D → Os → Res D) (o : ME) (a : MA) : ME := fun σ S => (o σ S).bind fun d S1 => match d with
  | .loc n => (match lstAt S1 n with
    | some _ => (a σ S1).bind fun ds S2 => op (.loc n) ds S2
    | none => .bad)
  | _ => .bad
@[simp] def appendD : D → List D → Os → Res D
  | .loc n, [d], S => match lstAt S n with
    | some l => if l.length < sizeLine then .ok .non (S.set n (.lst (l ++ [d]))) else .bad
    | none => .bad
  | _, _, _ => .bad
@[simp] def popD : D → List D → Os → Res D
  | .loc n, [], S => match lstAt S n with
    | some l => (match l[l.length - 1]? with
      | some d => .ok d (S.set n (.lst l.dropLast))
      | none => .bad)
    | none => .bad
  | _, _, _ => .bad
@[simp] def extendD : D → List D → Os → Res D
  | .loc n, [.loc m], S => match lstAt S n, lstAt S m with
    | some l, some k => if l.length + k.length ≤ sizeLine then .ok .non (S.set n (.lst (l ++ k))) else .bad
    | _, _ => .bad
  | _, _, _ => .bad
/-- a method by data -/
def RDM (K : PySem.W.Frag) (r : V → List V → Hp → VK → Prop) (op : D → List D → Os → Res D) : Prop := ∀ (W : WX) (σ : L2.St) (Q : VK) (μ : List Addr) (S : Os) (H : Hp) (d : D) (x : V) (ds : List D) (xs : List V), Ok K μ S H → Rep K μ H d x → Reps K μ H ds xs → Pst K W σ Q μ H (op d ds S) → r x xs H Q
section
variable {K : PySem.W.Frag} {W : WX} {fo : ME} {fs : MA} {r : V → List V → Hp → VK → Prop} {op : D → List D → Os → Res D}
theorem le_bm (hr : RDM K r op) (σ : L2.St) (H : Hp) (Q : VK) (h : LE K W (mMeth op fo fs) σ H Q) : tBM K "list" r (LE K W fo) (LA K W fs) σ H Q := by
  obtain ⟨μ, S, σd, o, fr, p⟩ := h
  refine ⟨μ, S, σd, o, fr, p.andThen fun v H1 μ1 S1 d x o1 r1 p1 => ?_⟩
  cases d <;> try exact p1.elim
  rename_i n
  dsimp only at p1
  cases e : lstAt S1 n with
  | none => rw [e] at p1; exact p1.elim
  | some l =>
    rw [e] at p1
    obtain ⟨a, us, ha, rfl, h2, h3⟩ := o1.lst e r1
    exact ⟨.inl ⟨rfl, us, .inl (.inl h2)⟩, μ1, S1, σd, o1, fr.mono x, PstA.andThenE p1 fun vs H2 μ2 S2 ds y o2 r2 p2 => hr W σ Q μ2 S2 H2 _ _ ds vs o2 (r1.mono y) r2 p2⟩
theorem le_bm0 (hr : RDM K r op) (σ : L2.St) (H : Hp) (Q : VK) (h : LE K W (mMeth op fo mNil) σ H Q) : tBM0 K "list" r (LE K W fo) σ H Q := by
  obtain ⟨μ, S, σd, o, fr, p⟩ := h
  refine ⟨μ, S, σd, o, fr, p.andThen fun v H1 μ1 S1 d x o1 r1 p1 => ?_⟩
  cases d <;> try exact p1.elim
  rename_i n
  dsimp only at p1
  cases e : lstAt S1 n with
  | none => rw [e] at p1; exact p1.elim
  | some l =>
    rw [e] at p1
    obtain ⟨a, us, ha, rfl, h2, h3⟩ := o1.lst e r1
    exact ⟨.inl ⟨rfl, us, .inl (.inl h2)⟩, hr W σ Q μ1 S1 H1 _ _ [] [] o1 r1 rfl p1⟩
theorem Pst.put {σ : L2.St} {Q : VK} {μ : List Addr} {S : Os} {H : Hp} {n : Nat} {a : Addr} {l : List D} {vs : List V} {d : D} {v : V} (o : Ok K μ S H) (e : μ[n]? = some a) (r : Reps K μ H l vs) (rd : Rep K μ H d v)
    (p : Pst K W σ Q μ H (.ok d (S.set n (.lst l)))) : Q v (upd H a (.lst vs)) :=
  p μ _ v (Nx.put o (List.mem_of_getElem? e)) (put_lst o e r) (rd.mono (Nx.put o (List.mem_of_getElem? e)))
theorem rd_append : RDM K rAppend appendD := by
  intro W σ Q μ S H d x ds xs o r1 r2 p
  unfold appendD at p
  split at p
  · rename_i n d
    obtain ⟨v, _, rfl, r3, rfl⟩ := r2
    cases e : lstAt S n with
    | none => rw [e] at p; exact p.elim
    | some l =>
      rw [e] at p
      obtain ⟨h, p⟩ := p.ite
      obtain ⟨a, us, ha, rfl, h2, h3⟩ := o.lst e r1
      exact ⟨a, us, v, rfl, rfl, h2, by rw [← h3.len]; exact h, Pst.put (d := .non) o ha (h3.app (Reps.one r3)) rfl p⟩
  · exact p.elim
theorem rd_pop : RDM K rPop popD := by
  intro W σ Q μ S H d x ds xs o r1 r2 p
  unfold popD at p
  split at p
  · rename_i n
    cases r2
    cases e : lstAt S n with
    | none => rw [e] at p; exact p.elim
    | some l =>
      rw [e] at p
      dsimp only at p
      cases q : l[l.length - 1]? with
      | none => rw [q] at p; exact p.elim
      | some y =>
        rw [q] at p
        obtain ⟨a, us, ha, rfl, h2, h3⟩ := o.lst e r1
        obtain ⟨v, h4, h5⟩ := h3.get q
        refine ⟨a, us, v, rfl, rfl, h2, by rw [← h3.len]; exact h4, Pst.put o ha ?_ h5 p⟩
        rw [List.dropLast_eq_take, List.dropLast_eq_take, ← h3.len]
        exact h3.take _
  · exact p.elim
theorem rd_extend : RDM K rExtend extendD := by
  intro W σ Q μ S H d x ds xs o r1 r2 p
  unfold extendD at p
  split at p
  · rename_i n m
    obtain ⟨v, _, rfl, r3, rfl⟩ := r2
    cases e : lstAt S n with
    | none => rw [e] at p; exact p.elim
    | some l =>
      cases e2 : lstAt S m with
      | none => rw [e, e2] at p; exact p.elim
      | some k =>
        rw [e, e2] at p
        obtain ⟨h, p⟩ := p.ite
        obtain ⟨a, us, ha, rfl, h2, h3⟩ := o.lst e r1
        obtain ⟨b, ws, hb, rfl, h4, h5⟩ := o.lst e2 r3
        exact ⟨a, b, us, ws, rfl, rfl, h2, h4, by rw [← h3.len, ← h5.len]; exact h, Pst.put (d := .non) o ha (h3.app h5) rfl p⟩
  · exact p.elim
end
end MX

end
section
namespace MX
open PySem PySem.Spec PyProof.Rows L2
variable [TL]
/-! ### kinds -/
@[simp] def kindD (S : Os) : D → Option String
  | .non => some "NoneType"
  | .bl _ => some "bool"
  | .int _ => some "int"
  | .str _ => some "str"
  | .tup _ => some "tuple"
  | .rl _ => some "list"
  | .loc n => match S[n]? with
    | some (.lst _) => some "list"
    | some (.dK _) => some "dict"
    | _ => none
  | .ty _ => none
  | .err _ _ _ => none
theorem kind_ok {K : PySem.W.Frag} {μ : List Addr} {H : Hp} {S : Os} {d : D} {x : V} {T : String} (o : Ok K μ S H) (r : Rep K μ H d x) (e : kindD S d = some T) : TyB K H x T := by
  cases d <;> try (cases e; done)
  · cases e; cases r; exact .non
  · cases e; cases r; exact .bl _
  · cases e; cases r; exact .int _
  · cases e; cases r; exact .str _
  · cases e
    obtain ⟨a, vs, rfl, h1, h2⟩ := r
    exact .tup h1
  · rename_i n
    obtain ⟨a, h1, rfl⟩ := r
    dsimp only [kindD] at e
    cases q : S[n]? with
    | none => rw [q] at e; cases e
    | some ob =>
      rw [q] at e
      have ho := o.obj n ob a q h1
      cases ob with
      | lst l =>
        cases e
        obtain ⟨vs, h3, h4⟩ := ho
        exact .lst (.inl (.inl h3))
      | dK l =>
        cases e
        obtain ⟨vs, h3, h4⟩ := ho
        exact .dK h3
      | dT l => cases e
      | ins C fs => cases e
  · cases e
    obtain ⟨a, vs, rfl, h1, h2⟩ := r
    exact .lst h1.sq
@[simp] def typeD : List D → Os → Res D
  | [d], S => match kindD S d with
    | some T => .ok (.ty T) S
    | none => .bad
  | _, _ => .bad
theorem rd_type {K : PySem.W.Frag} : RDC K (rTyp K) typeD := by
  intro W σ Q μ S H ds xs o r p
  unfold typeD at p
  split at p
  · rename_i d
    obtain ⟨v, _, rfl, r1, rfl⟩ := r
    cases e : kindD S d with
    | none => rw [e] at p; exact p.elim
    | some T =>
      rw [e] at p
      exact ⟨v, T, rfl, kind_ok o r1 e, p.val o rfl⟩
  · exact p.elim
/-- type(x) == T -/
def kinds : List String := ["str", "int", "tuple", "bool", "list", "dict", "NoneType"]
def rEqTy : R2 := fun x y H Q => ∃ a b, x = .ty a ∧ y = .ty b ∧ a ∈ kinds ∧ b ∈ kinds ∧ Q (.bl (decide (a = b))) H
theorem kind_meta : ∀ {a : String}, a ∈ kinds → ∀ s : Shared, s.TypeIs (.type a) "type" := by
  intro a h s
  simp only [kinds, List.mem_cons, List.not_mem_nil, or_false] at h
  rcases h with rfl | rfl | rfl | rfl | rfl | rfl | rfl
  · exact TypeEq.meta_str s
  · exact TypeEq.meta_int s
  · exact TypeEq.meta_tuple s
  · exact TypeEq.meta_bool s
  · exact TypeEq.meta_list s
  · exact TypeEq.meta_dict s
  · exact TypeEq.meta_NoneType s
theorem op_eqTy {X : Cx} : OpR X (compareOp .Eq) rEqTy := by
  intro pins s σ H x y v u Q I rx ry h
  obtain ⟨a, b, rfl, rfl, ha, hb, q⟩ := h
  cases rx; cases ry
  by_cases e : a = b
  · subst e
    rw [decide_eq_true rfl] at q
    exact TypeEq.eq_type_same (kind_meta ha) ⟨.bl true, H, I, rfl, q⟩
  · rw [decide_eq_false e] at q
    exact TypeEq.eq_type_other (kind_meta ha) (kind_meta hb) (by
      rw [beq_eq_false_iff_ne]
      intro z
      injection z with z
      exact e z) ⟨.bl false, H, I, rfl, q⟩
def rEqA : R2 := fun x y H Q => rEq x y H Q ∨ rEqTy x y H Q
theorem o_eq {X : Cx} : OpR X (compareOp .Eq) rEqA := OpR.or op_eq op_eqTy
@[simp] def eqA (d e : D) (S : Os) : Res D := match d, e with
  | .ty a, .ty b => if a ∈ kinds ∧ b ∈ kinds then .ok (.bl (decide (a = b))) S else .bad
  | d, e => eqD false d e S
theorem rd_eqA {K : PySem.W.Frag} : RD2 K rEqA eqA := by
  intro W σ Q μ S H d e x y o rx ry p
  unfold eqA at p
  split at p
  · cases rx; cases ry
    obtain ⟨h, p⟩ := p.ite
    exact .inr ⟨_, _, rfl, rfl, h.1, h.2, p.val o rfl⟩
  · exact .inl (rd_eq W σ Q μ S H _ _ x y o rx ry p)
/-! ### is -/
@[simp] def isNon : D → Bool
  | .non => true
  | _ => false
@[simp] def isD (neg : Bool) (d e : D) (S : Os) : Res D := match d, e with
  | d, .non => .ok (.bl (if neg then !isNon d else isNon d)) S
  | .bl a, .bl b => .ok (.bl (if neg then !decide (a = b) else decide (a = b))) S
  | _, _ => .bad
theorem non_iff {K : PySem.W.Frag} {μ : List Addr} {H : Hp} {d : D} {x : V} (r : Rep K μ H d x) : decide (x = .non) = isNon d := by
  cases d <;> first
    | (obtain ⟨a, vs, rfl, _, _⟩ := r; simp [isNon]; done)
    | (obtain ⟨a, _, rfl⟩ := r; simp [isNon]; done)
    | (obtain ⟨rfl, _⟩ := r; simp [isNon]; done)
    | (cases r; simp [isNon])
def rIsA : R2 := fun x y H Q => (y = .non ∧ Q (.bl (decide (x = .non))) H) ∨ rIsB x y H Q
def rNotA : R2 := fun x y H Q => (y = .non ∧ Q (.bl (!decide (x = .non))) H) ∨ rNotB x y H Q
theorem o_is {X : Cx} : OpR X (compareOp .Is) rIsA := OpR.or op_isN op_isBl
theorem o_isnot {X : Cx} : OpR X (compareOp .IsNot) rNotA := OpR.or op_notN op_notBl
theorem rd_is {K : PySem.W.Frag} : RD2 K rIsA (isD false) := by
  intro W σ Q μ S H d e x y o rx ry p
  unfold isD at p
  split at p
  · cases ry
    refine .inl ⟨rfl, ?_⟩
    rw [non_iff rx]
    exact p.val o rfl
  · cases rx; cases ry
    exact .inr ⟨_, _, rfl, rfl, p.val o rfl⟩
  · exact p.elim
theorem rd_isnot {K : PySem.W.Frag} : RD2 K rNotA (isD true) := by
  intro W σ Q μ S H d e x y o rx ry p
  unfold isD at p
  split at p
  · cases ry
    refine .inl ⟨rfl, ?_⟩
    rw [non_iff rx]
    exact p.val o rfl
  · cases rx; cases ry
    exact .inr ⟨_, _, rfl, rfl, p.val o rfl⟩
  · exact p.elim
/-! ### isinstance of built-in kinds -/
@[simp] def isiT (a b : String) : Option Bool := if b ∈ ["str", "int", "bool", "tuple", "list", "dict"] ∧ a ∈ kinds then some (decide (a = b) || (decide (a = "bool") && decide (b = "int"))) else none
theorem isiT_kit {a b : String} {r : Bool} (h : isiT a b = some r) : kitB a b = some r := by
  unfold isiT at h
  split at h
  · rename_i c
    obtain ⟨c1, c2⟩ := c
    simp only [kinds, List.mem_cons, List.not_mem_nil, or_false] at c1 c2
    rcases c1 with rfl | rfl | rfl | rfl | rfl | rfl <;> rcases c2 with rfl | rfl | rfl | rfl | rfl | rfl | rfl <;> (cases h; decide +kernel)
  · cases h
@[simp] def isiD : List D → Os → Res D
  | [d, .ty b], S => match kindD S d with
    | some a => (match isiT a b with
      | some r => .ok (.bl r) S
      | none => .bad)
    | none => .bad
  | _, _ => .bad
theorem tyX_of {K : PySem.W.Frag} {μ : List Addr} {H : Hp} {S : Os} {d : D} {x : V} {T : String} (o : Ok K μ S H) (r : Rep K μ H d x) (e : kindD S d = some T) : TyX K H x (.type T) := by
  have sq : ∀ {a : Addr} {vs : List V}, SqT K H a vs → TyX K H (.ref a) (.type "tuple") := fun {a vs} h => by
    rcases h with (h | ⟨ob, h⟩) | ⟨ob, its, n, h1, h2, _⟩
    · exact .base (.tup h)
    · exact .fTuple h
    · exact .kTuple h1 h2
  cases d <;> try (cases e; done)
  · cases e; cases r; exact .base .non
  · cases e; cases r; exact .base (.bl _)
  · cases e; cases r; exact .base (.int _)
  · cases e; cases r; exact .base (.str _)
  · cases e
    obtain ⟨a, vs, rfl, h1, h2⟩ := r
    exact sq h1
  · rename_i n
    obtain ⟨a, h1, rfl⟩ := r
    dsimp only [kindD] at e
    cases q : S[n]? with
    | none => rw [q] at e; cases e
    | some ob =>
      rw [q] at e
      have ho := o.obj n ob a q h1
      cases ob with
      | lst l =>
        cases e
        obtain ⟨vs, h3, h4⟩ := ho
        exact .base (.lst h3)
      | dK l =>
        cases e
        obtain ⟨vs, h3, h4⟩ := ho
        exact .base (.dK h3)
      | dT l => cases e
      | ins C fs => cases e
  · cases e
    obtain ⟨a, vs, rfl, h1, h2⟩ := r
    rcases h1 with ⟨ob, h1⟩ | (h1 | ⟨ob, h1⟩) | ⟨ob, its, n, h1, h2, _⟩
    · exact .base (.frz h1)
    · cases h1
    · cases h1
    · exact .kList h1 h2
theorem rd_isi {K : PySem.W.Frag} : RDC K (rIsi K) isiD := by
  intro W σ Q μ S H ds xs o r p
  unfold isiD at p
  split at p
  · rename_i d b
    obtain ⟨v, _, rfl, r1, u, _, rfl, r2, rfl⟩ := r
    cases r2
    cases e : kindD S d with
    | none => rw [e] at p; exact p.elim
    | some a =>
      rw [e] at p
      dsimp only at p
      cases q : isiT a b with
      | none => rw [q] at p; exact p.elim
      | some z =>
        rw [q] at p
        exact ⟨v, .ty b, .type a, .type b, z, rfl, .ty b, tyX_of o r1 e, kit_ty (isiT_kit q), p.val o rfl⟩
  · exact p.elim
/-! ### xs[i] = v -/
@[simp] def setItD (o i v : D) (S : Os) : Option Os := match o, i with
  | .loc n, .int k => (match lstAt S n with
    | some l => (match ixN l.length k with
      | some j => some (S.set n (.lst (l.set j v)))
      | none => none)
    | none => none)
  | _, _ => none
@[simp] def mSetIt (e o i : ME) : MS := fun σ S => (e σ S).toS σ fun v S1 => (o σ S1).toS σ fun x S2 => (i σ S2).toS σ fun k S3 => match setItD x k v S3 with
  | some S4 => .nx σ S4
  | none => .bad
section
variable {K : PySem.W.Frag} {W : WX} {fe fo fi : ME}
theorem le_setIt (D : Ends) (σ : L2.St) (H : Hp) (h : LS K W (mSetIt fe fo fi) D σ H) : tAsg (LE K W fe) (gSub (LE K W fo) (LE K W fi) rSetL) D σ H := by
  obtain ⟨μ, S, σd, o, fr, p⟩ := h
  refine ⟨μ, S, σd, o, fr, Pst.thenS fr p fun v H1 μ1 S1 d x1 o1 r1 p1 => ?_⟩
  refine ⟨μ1, S1, σd, o1, fr.mono x1, Pst.thenS (fr.mono x1) p1 fun u H2 μ2 S2 e x2 o2 r2 p2 => ?_⟩
  refine ⟨μ2, S2, σd, o2, (fr.mono x1).mono x2, Pst.thenS ((fr.mono x1).mono x2) p2 fun w H3 μ3 S3 g x3 o3 r3 p3 => ?_⟩
  unfold setItD at p3
  cases e <;> try exact p3.elim
  cases g <;> try exact p3.elim
  rename_i n k
  dsimp only at p3
  cases q : lstAt S3 n with
  | none => rw [q] at p3; exact p3.elim
  | some l =>
    rw [q] at p3
    dsimp only at p3
    cases q2 : ixN l.length k with
    | none => rw [q2] at p3; exact p3.elim
    | some j =>
      rw [q2] at p3
      cases r3
      obtain ⟨a, us, ha, rfl, h2, h3⟩ := o3.lst q (r2.mono x3)
      have hm := List.mem_of_getElem? ha
      exact ⟨a, us, k, j, rfl, rfl, h2, by rw [← h3.len]; exact q2, p3 μ3 _ σ (Nx.put o3 hm) (put_lst o3 ha (h3.set j ((r1.mono x2).mono x3))) ((((fr.mono x1).mono x2).mono x3).mono (Nx.put o3 hm))⟩
end
/-! ### targets of several names -/
@[simp] def gNs : List Nat → List D → Fr → Option Fr
  | [], [], σ => some σ
  | i :: is, d :: ds, σ => gNs is ds (σ.set i (some d))
  | _, _, _ => none
@[simp] def gTs (is : List Nat) : D → Fr → Os → Option Fr := fun d σ _ => match d with
  | .tup l => gNs is l σ
  | _ => none
@[simp] def gUs (is : List Nat) : D → Fr → Os → Option Fr := fun d σ S => match itemsD S d with
  | some l => (match d with | .tup _ => none | _ => gNs is l σ)
  | none => none
def GDs (K : PySem.W.Frag) (t : TGs) (is : List Nat) : Prop := ∀ (μ : List Addr) (H : Hp) (σd σd' : Fr) (σ : L2.St) (l : List D) (vs : List V) (Q : L2.St → Hp → Prop), FrRel K μ H σd σ → Reps K μ H l vs → gNs is l σd = some σd' → (∀ σ', FrRel K μ H σd' σ' → Q σ' H) → t vs σ H Q
theorem gds_nil {K : PySem.W.Frag} : GDs K gNil [] := fun μ H σd σd' σ l vs Q fr r e k => by
  cases l with
  | nil => cases r; cases e; exact ⟨rfl, k _ fr⟩
  | cons _ _ => cases e
theorem gds_cons {K : PySem.W.Frag} {t : TGs} {is : List Nat} (i : Nat) (h : GDs K t is) : GDs K (gCons (gName i) t) (i :: is) := fun μ H σd σd' σ l vs Q fr r e k => by
  cases l with
  | nil => cases e
  | cons d l =>
    obtain ⟨v, us, rfl, r1, r2⟩ := r
    exact ⟨v, us, rfl, h μ H _ σd' _ l us Q (fr.set r1) r2 e k⟩
theorem gNs_len : ∀ {is : List Nat} {l : List D} {σ σ' : Fr}, gNs is l σ = some σ' → l.length = is.length
  | [], [], _, _, _ => rfl
  | [], _ :: _, _, _, h => by cases h
  | _ :: _, [], _, _, h => by cases h
  | i :: is, d :: l, σ, σ', h => by rw [List.length_cons, List.length_cons, gNs_len (is := is) (l := l) h]
theorem gd_tup {K : PySem.W.Frag} {t : TGs} {is : List Nat} (h : GDs K t is) : GD K (gTup K is.length t) (gTs is) := fun μ S H σd σd' σ d v Q o fr r e k => by
  cases d <;> try (cases e; done)
  obtain ⟨a, vs, rfl, h1, h2⟩ := r
  exact ⟨a, vs, rfl, h1, by rw [← h2.len]; exact gNs_len e, h μ H σd σd' σ _ vs Q fr h2 e k⟩
theorem gd_unl {K : PySem.W.Frag} {t : TGs} {is : List Nat} (h : GDs K t is) : GD K (gUnl K is.length t) (gUs is) := fun μ S H σd σd' σ d v Q o fr r e k => by
  unfold gUs at e
  cases q : itemsD S d with
  | none => rw [q] at e; cases e
  | some l =>
    rw [q] at e
    cases d <;> try (cases e; done)
    all_goals try (cases q; done)
    · dsimp only at e
      obtain ⟨a, vs, _, rfl, h1, h2⟩ := o.lst q r
      exact ⟨a, vs, rfl, .inl (.inl h1), by rw [← h2.len]; exact gNs_len e, h μ H σd σd' σ _ vs Q fr h2 e k⟩
    · cases q
      dsimp only at e
      obtain ⟨a, vs, rfl, h1, h2⟩ := r
      exact ⟨a, vs, rfl, h1.sq, by rw [← h2.len]; exact gNs_len e, h μ H σd σd' σ _ vs Q fr h2 e k⟩
@[simp] def mAsgG (g : D → Fr → Os → Option Fr) (e : ME) : MS := fun σ S => (e σ S).toS σ fun d S1 => match g d σ S1 with
  | some σ1 => .nx σ1 S1
  | none => .bad
theorem le_asgG {K : PySem.W.Frag} {W : WX} {t : TG} {g : D → Fr → Os → Option Fr} {fe : ME} (hg : GD K t g) (D : Ends) (σ : L2.St) (H : Hp) (h : LS K W (mAsgG g fe) D σ H) : tAsg (LE K W fe) t D σ H := by
  obtain ⟨μ, S, σd, o, fr, p⟩ := h
  refine ⟨μ, S, σd, o, fr, Pst.thenS fr p fun v H1 μ1 S1 d x o1 r1 p1 => ?_⟩
  cases q : g d σd S1 with
  | none => rw [q] at p1; exact p1.elim
  | some σ1 =>
    rw [q] at p1
    exact hg μ1 S1 H1 σd σ1 σ d v _ o1 (fr.mono x) r1 q fun σ' fr' => p1 μ1 H1 σ' (Nx.refl _ _) o1 fr'
/-! ### len(set(a) - set(b)) -/
def mLenSub (a b : ME) : ME := fun σ S => (a σ S).bind fun x S1 => match x with
  | .str u => if nsig u + 1 < 4096 then ((b σ S1).bind fun y S2 => match y with
    | .str v => if nsig v + 1 < 4096 ∧ nsig u / 4 ≤ nsig v then .ok (.int (if within u v = true then 0 else 1)) S2 else .bad
    | _ => .bad) else .bad
  | _ => .bad
/-- len(set(a) - set(b)) == 0 -/
@[simp] def mSub0 (a b : ME) : ME := fun σ S => (a σ S).bind fun x S1 => match x with
  | .str u => if nsig u + 1 < 4096 then ((b σ S1).bind fun y S2 => match y with
    | .str v => if nsig v + 1 < 4096 ∧ nsig u / 4 ≤ nsig v then .ok (.bl (within u v)) S2 else .bad
    | _ => .bad) else .bad
  | _ => .bad
theorem le_sub0 {K : PySem.W.Frag} {W : WX} {fa fb : ME} (σ : L2.St) (H : Hp) (Q : VK) (h : LE K W (mSub0 fa fb) σ H Q) : tOp rEqA (tLenSub (LE K W fa) (LE K W fb)) (tC (.int 0)) σ H Q := by
  obtain ⟨μ, S, σd, o, fr, p⟩ := h
  refine ⟨μ, S, σd, o, fr, p.andThen fun v H1 μ1 S1 d x o1 r1 p1 => ?_⟩
  cases d <;> try exact p1.elim
  rename_i u
  cases r1
  obtain ⟨hu, p1⟩ := Pst.ite p1
  refine ⟨u, rfl, hu, μ1, S1, σd, o1, fr.mono x, p1.andThen fun w H2 μ2 S2 e y o2 r2 p2 => ?_⟩
  cases e <;> try exact p2.elim
  rename_i z
  cases r2
  obtain ⟨hz, p2⟩ := Pst.ite p2
  refine ⟨z, rfl, hz.1, hz.2, fun n hn => .inl ⟨rfl, ?_⟩⟩
  have e : decide (V.int (n : Int) = V.int 0) = within u z := by
    cases q : within u z with
    | true =>
      have := hn.mpr q
      subst this
      simp
    | false =>
      have : n ≠ 0 := fun h => by rw [hn.mp h] at q; cases q
      simp
      omega
  rw [e]
  exact p2.val o2 rfl
/-! ### calls of defs, globals -/
section
variable {X : Cx} {W : WX} {e : Expr} {es : List Expr} {x : Str} {p pos : Pos} {k : Nat} {f : Addr} {fd : FuncData} {ps : List Str} {fn : Fn} {fs : MA}
theorem e_call (F : FnOk X.prog X.w X.K X.mg X.base (L2N.CX X.prog X.w) k f fd ps (spD X.K ps.length fn)) (hr : Room k X.A) (hm : X.mg x = some (.ref f)) (hk : PySem.W.keepIn X.K (.ref f) = true) (hb : Binds X.K fd ps []) (hx : ∀ σ, PassesAt (L2N.CX X.prog X.w) X σ (WE W σ))
    (ha : PA X (e :: es) (LA X.K W fs)) (hn : ∀ σd S ds S', fs σd S = .ok ds S' → ds.length = ps.length) (hg : Gl X x := by rfl) (hdb : (x == ("__debug__" : Str)) = false := by decide) (he : starEach (e :: es) X.env = (false, eval e X.env) :: starEach es X.env := by rfl) (hpl : (backTo pos (starEach es X.env)).any (·.1) = false := by rfl) :
    PE X (.Call (.Name x p) (e :: es) [] pos) (LE X.K W (mCall fn fs)) :=
  PE.imp (pe_callS F hr hg hm hk hb hx ha hdb he hpl) (le_callS hn)
/-- nothing is raised -/
theorem passF {X : Cx} (σ : L2.St) : PassesAt (L2N.CX X.prog X.w) X σ (WE WF σ) := fun _ _ _ _ _ _ ⟨_, _, _, _, _, _, _, _, _, _, _, _, h⟩ => h.elim
end
end MX

end
section
namespace MX
open PySem PySem.Spec PyProof.Rows L2
variable [TL]
theorem rep_fold (c : Array Nat) : ∀ (n : Nat) (a : Array Nat), (List.replicate n c).foldl (· ++ ·) a = a ++ (List.replicate n c.toList).flatten.toArray
  | 0, a => by simp
  | n + 1, a => by
    rw [List.replicate_succ, List.foldl_cons, rep_fold c n, List.replicate_succ, List.flatten_cons]
    apply Array.ext'
    simp
theorem rep_eq (x : Str) (n : Nat) : (⟨(List.replicate n x.cps).foldl (· ++ ·) #[]⟩ : Str) = repStr x n := by
  unfold repStr
  rw [rep_fold]
  simp
def rMulS : R2 := fun x y H Q => ∃ z n, x = .str z ∧ y = .int n ∧ 0 ≤ n ∧ z.length * n.toNat ≤ 1000000 ∧ n ≤ 1000000 ∧ z.length ≤ 1000000 ∧ Q (.str (repStr z n.toNat)) H
theorem op_mulS {X : Cx} : OpR X (binaryOp .Mult) rMulS := by
  intro pins s σ H x y v u Q I rx ry h
  obtain ⟨z, n, rfl, rfl, h0, h1, h2, h3, q⟩ := h
  obtain ⟨t, rfl⟩ := rx
  obtain ⟨t2, rfl⟩ := ry
  refine P.mul_str ?_ ?_ ?_ ?_
  · rw [decide_eq_false (by omega), decide_eq_false (by omega)]; rfl
  · intro hn _
    have : (z.length : Int) * n ≤ 1000000 := by
      have e : ((z.length * n.toNat : Nat) : Int) = (z.length : Int) * n := by
        rw [Int.natCast_mul, Int.toNat_of_nonneg h0]
      omega
    have h4 : 0 < n := by omega
    have : (9223372036854775807 : Int) / n ≥ 9223372036854775807 / 1000000 := by
      rw [ge_iff_le, Int.le_ediv_iff_mul_le h4]
      have : (9223372036854775807 : Int) / 1000000 * n ≤ 9223372036854775807 / 1000000 * 1000000 := Int.mul_le_mul_of_nonneg_left h2 (by decide)
      omega
    show ¬ ((z.length : Int) > 9223372036854775807 / n)
    omega
  · intro _ _
    unfold Builtin.Str.tooLong
    rw [decide_eq_false_iff_not, sizeLine_eq]
    omega
  · by_cases c : n < 1
    · rw [if_pos c]
      have hn : n.toNat = 0 := by omega
      rw [hn] at q
      exact ⟨by decide, .str (repStr z 0), H, I.tok _, ⟨s.toks, rfl⟩, q⟩
    · rw [if_neg c]
      by_cases d : (n == 1 || z.length == 0) = true
      · rw [if_pos d]
        refine ⟨.str (repStr z n.toNat), H, I, ⟨t, ?_⟩, q⟩
        have : repStr z n.toNat = z := by
          rw [Bool.or_eq_true, beq_iff_eq, beq_iff_eq] at d
          unfold repStr
          rcases d with d | d
          · subst d
            simp
          · have : z.cps.toList = [] := by
              have : z.cps.size = 0 := d
              simpa using this
            rw [this]
            obtain ⟨c⟩ := z
            simp at this
            simp [this]
        rw [this]
      · rw [if_neg d]
        rw [rep_eq]
        refine ⟨?_, .str (repStr z n.toNat), H, I.tok _, ⟨_, rfl⟩, q⟩
        rw [sizeLine_eq]
        have e : (repStr z n.toNat).length = z.length * n.toNat := by
          unfold repStr Str.length
          simp [Nat.mul_comm]
        omega
/-! ### * once more -/
@[simp] noncomputable def mulA : D → D → Os → Res D
  | .str z, .int n, S => if 0 ≤ n ∧ z.length * n.toNat ≤ 1000000 ∧ n ≤ 1000000 ∧ z.length ≤ 1000000 then .ok (.str (repStr z n.toNat)) S else .bad
  | d, e, S => mulD d e S
def rMulA : R2 := fun x y H Q => rMulS x y H Q ∨ (rI CMul (fun i j => .int (i * j)) x y H Q ∨ rRep x y H Q)
theorem o_mulA {X : Cx} : OpR X (binaryOp .Mult) rMulA := OpR.or op_mulS o_mul
theorem rd_mulA {K : PySem.W.Frag} : RD2 K rMulA mulA := by
  intro W σ Q μ S H d e x y o rx ry p
  unfold mulA at p
  split at p
  · cases rx; cases ry
    obtain ⟨h, p⟩ := p.ite
    exact .inl ⟨_, _, rfl, rfl, h.1, h.2.1, h.2.2.1, h.2.2.2, p.val o rfl⟩
  · exact .inr (rd_mul W σ Q μ S H _ _ x y o rx ry p)
section
variable {X : Cx} {W : WX} {a b c : Expr} {fa fb fc : ME} {pos : Pos}
theorem t_cmp {r : R2} {op : D → D → Os → Res D} {bo : CmpOp} (ho : OpR X (compareOp bo) r) (hr : RD2 X.K r op) (ha : PE X a (LE X.K W fa)) (hb : PE X b (LE X.K W fb)) (hm : behindInMarks bo b = false) : PT X (.Compare a [bo] [b] pos) (LT X.K W (mTest (mBin op fa fb))) :=
  PT.imp (pt_cmpR ho ha hb hm) fun σ H Q h => le_bin hr σ H _ (le_test σ H Q h)
theorem le_chainT {r r' : R2} {op op' : D → D → Os → Res D} (hr : RD2 X.K r op) (hr' : RD2 X.K r' op') (σ : L2.St) (H : Hp) (Q : Bool → Hp → Prop) (h : LT X.K W (mTest (mChain op op' fa fb fc)) σ H Q) : tTest (tChain r r' (LE X.K W fa) (LE X.K W fb) (LE X.K W fc)) σ H Q :=
  le_chain hr hr' σ H _ (le_test σ H Q h)
theorem le_sub0T (σ : L2.St) (H : Hp) (Q : Bool → Hp → Prop) (h : LT X.K W (mTest (mSub0 fa fb)) σ H Q) : tTest (tOp rEqA (tLenSub (LE X.K W fa) (LE X.K W fb)) (tC (.int 0))) σ H Q :=
  le_sub0 σ H _ (le_test σ H Q h)
end
@[simp] def negD : D → Os → Res D
  | .int i, S => .ok (.int (-i)) S
  | _, _ => .bad
theorem rd_neg {K : PySem.W.Frag} : RD1 K (rU fun i => .int (-i)) negD := by
  intro W σ Q μ S H d x o r p
  cases d <;> try exact p.elim
  cases r
  exact ⟨_, rfl, p.val o rfl⟩
theorem le_set' {K : PySem.W.Frag} {W : WX} {fe : ME} {i : Nat} (D : Ends) (σ : L2.St) (H : Hp) (h : LS K W (mSet i fe) D σ H) : LE K W fe σ H fun x H1 => gName i x σ H1 D.nx := by
  obtain ⟨μ, S, σd, o, fr, p⟩ := h
  exact ⟨μ, S, σd, o, fr, Pst.thenS fr p fun v H1 μ1 S1 d x o1 r1 p1 => p1 μ1 H1 _ (Nx.refl _ _) o1 ((fr.mono x).set r1)⟩
theorem le_setL {K : PySem.W.Frag} {W : WX} {t : TE} {fe : ME} (h : ∀ σ H Q, LE K W fe σ H Q → t σ H Q) {i : Nat} (D : Ends) (σ : L2.St) (H : Hp) (q : LS K W (mSet i fe) D σ H) : tAsg t (gName i) D σ H := h _ _ _ (le_set' D σ H q)
end MX

end
section
namespace MX
open PySem PySem.Spec PyProof.Rows L2
variable [TL]
/-- a def of the text does what its mirror does -/
structure DefOk (P : Program) (w : World) (K : PySem.W.Frag) (mg : Str → Option Value) (base : Heap) (k : Nat) (x : Str) (ps : List Str) (fn : Fn) : Prop where
  ok : ∃ fd, FnOk P w K mg base (L2N.CX P w) k (He.ga K x) fd ps (spD K ps.length fn) ∧ Binds K fd ps []
  mg : mg x = some (.ref (He.ga K x))
  kp : PySem.W.keepIn K (.ref (He.ga K x)) = true
theorem reps_ints {K : PySem.W.Frag} {μ : List Addr} {H : Hp} : ∀ ns : List Int, Reps K μ H (ns.map D.int) (ns.map V.int)
  | [] => rfl
  | n :: ns => ⟨_, _, rfl, rfl, reps_ints ns⟩
theorem triples_nil : TriplesOk (#[] : Array Value).toList := True.intro
/-- the law hands back True, by its mirror -/
theorem sp_lawT {K : PySem.W.Frag} {fn : Fn} {H : Hp} {a : Addr} {ns : List Int} (hT : ∀ p ∈ TL.tf ++ TL.tl.map (·.1), H (He.cT K p).2 = some (.tbl #[])) (hN : TL.nd K) (hS : SqL K H a (ns.map V.int))
    (hf : ∀ (d : D) (S : Os), itemsD S d = some (ns.map D.int) → ∃ S', fn [d] S = .ok (.bl true) S') :
    spD K 1 fn [.ref a] H (fun v _ => v = .bl true) fun _ _ _ => False := by
  have tabs : ∀ p ∈ TL.tf, GxR.TabG H (He.cT K p).2 := fun p hp => ⟨#[], hT p (List.mem_append_left _ hp), triples_nil⟩
  have tabl : ∀ p ∈ TL.tl, LamX.TabS H (He.cT K p.1).2 p.2 := fun p hp => .nil (hT p.1 (List.mem_append_right _ (List.mem_map.mpr ⟨p, hp, rfl⟩)))
  have frozen : SqR K H a (ns.map V.int) → spD K 1 fn [.ref a] H (fun v _ => v = .bl true) fun _ _ _ => False := fun hR => by
    obtain ⟨S', e⟩ := hf (.rl (ns.map D.int)) [] rfl
    refine ⟨rfl, [], [], [.rl (ns.map D.int)], ⟨.ref a, [], rfl, ⟨a, _, rfl, hR, reps_ints ns⟩, rfl⟩, ⟨rfl, List.nodup_nil, tabs, tabl, hN, fun n o a e => by simp at e⟩, ?_⟩
    rw [e]
    exact fun μ' H' v _ _ r => r
  rcases hS with (h | ⟨o, h⟩) | h
  · obtain ⟨S', e⟩ := hf (.loc 0) [.lst (ns.map D.int)] rfl
    refine ⟨rfl, [a], [.lst (ns.map D.int)], [.loc 0], ⟨.ref a, [], rfl, ⟨a, rfl, rfl⟩, rfl⟩, ⟨rfl, by simp, tabs, tabl, hN, fun n o b e1 e2 => ?_⟩, ?_⟩
    · cases n with
      | zero =>
        cases e1
        cases e2
        exact ⟨_, h, reps_ints ns⟩
      | succ n => simp at e1
    · rw [e]
      exact fun μ' H' v _ _ r => r
  · exact frozen (.inl ⟨o, h⟩)
  · exact frozen (.inr (.inr h))
theorem walk_dataT {l : PySem.W.OpenLaw} {n k : Nat} {q : Program} {loose : List Str} {XP : (Str → Option Value) → Heap → Prop} {YP : World → Heap → Prop} {d : DefRec} {x : Str}
    (hn : l.most = some n) (hn2 : n ≤ sizeLine) (hdf : d.params.defaults = []) (hr : Room k callerA) {fn : Fn} (hfn : ∀ ns : List Int, ns.length ≤ n → ∀ (d : D) (S : Os), itemsD S d = some (ns.map D.int) → ∃ S', fn [d] S = .ok (.bl true) S')
    (F : ∀ (w : World) (mg : Str → Option Value) (fa : Addr) (h : Heap), YP w h → h.Ns mainGlobals mg → mg d.name = some (.ref fa) →
      ∃ (K : PySem.W.Frag) (fd : FuncData), K.In h ∧ TL.nd K ∧ (∀ p ∈ TL.tf ++ TL.tl.map (·.1), h.get? (He.cT K p).2 = some { cls := .none, data := .fields #[] }) ∧ (∀ p ∈ TL.tf ++ TL.tl.map (·.1), K.lookup (He.cT K p).2 = none) ∧ (∀ p ∈ TL.tf ++ TL.tl.map (·.1), PySem.W.CodeHd h (He.cT K p).1 (He.cT K p).2) ∧
        (∀ (s : Shared) (u : Value), BindsTo s fd ⟨[u], []⟩ [(x, u)]) ∧
        ∀ base : Heap, K.In base → base.Ns mainGlobals mg → (∀ p ∈ TL.tf ++ TL.tl.map (·.1), GxR.TabB base mg (He.cT K p).1 (He.cT K p).2) → FnOk l.prog w K mg base (L2N.CX l.prog w) k fa fd [x] (spD K 1 fn)) :
    PySem.W.WalkO q loose XP YP l.row.toRowW d [] (fun f vs => PySem.call f vs) := by
  refine LamX.walk_ofTsE (CX := fun w => L2N.CX l.prog w) (x := x) hn hn2 hdf hr (fun w mg fa h Y hns hmg => ?_) fun w H s e s' c => ?_
  · obtain ⟨K, fd, KX, hN, h1, h2, h3, hb, hF⟩ := F w mg fa h Y hns hmg
    have mem : ∀ p ∈ (TL.tf ++ TL.tl.map (·.1)).map (He.cT K), ∃ q ∈ TL.tf ++ TL.tl.map (·.1), p = He.cT K q := fun p hp => by
      obtain ⟨q, hq, e⟩ := List.mem_map.mp hp
      exact ⟨q, hq, e.symm⟩
    refine ⟨K, KX, fd, (TL.tf ++ TL.tl.map (·.1)).map (He.cT K), spD K 1 fn, fun p hp => ?_, fun p hp => ?_, fun p hp => ?_, hb, fun H a ns hl _ hH hS => ?_, fun base b1 b2 b3 => hF base b1 b2 fun p hp => ?_⟩
    · obtain ⟨q, hq, rfl⟩ := mem p hp; exact h1 q hq
    · obtain ⟨q, hq, rfl⟩ := mem p hp; exact h2 q hq
    · obtain ⟨q, hq, rfl⟩ := mem p hp; exact h3 q hq
    · exact sp_lawT (fun p hp => hH _ (List.mem_map.mpr ⟨p, hp, rfl⟩)) hN hS fun d S e => hfn ns hl d S e
    · obtain ⟨t1, t2, t3⟩ := b3 _ (List.mem_map.mpr ⟨p, hp, rfl⟩)
      exact ⟨t1, t2, t3⟩
  · obtain ⟨_, _, _, _, _, _, _, _, _, _, _, _, z⟩ := c
    exact z.elim
/-- a def whose code object is known -/
theorem fn_okT {P : Program} {w : World} {K : PySem.W.Frag} {mg : Str → Option Value} {base : Heap} {x qual : Str} {params : Arguments} {body : List Stmt} {scope : Scope} {dvs : List V} {kws : List (Str × V)} {p : He.Defn} {fd : FuncData}
    {N ps : List Str} {k : Nat} {b : MS} (F : FunD K x qual params body scope dvs kws (He.fAd K p) fd) (S : FnScope N ps scope)
    (hbody : ∀ (cdv : Value) (A : Around) (outer : List Env) (s : Shared) (H : Hp) (E : XK), cdv = .ref (He.cT K p).1 → Room k (A.deeper (envOfC qual scope s.heap.objs.size (He.fAd K p) cdv)) →
      PSs (cxOf (L2N.CX P w) P w K mg base N qual scope (He.fAd K p) cdv A outer s H E) body (LS K (fun cls d _ H' => E cls d H') b)) :
    FnOk P w K mg base (L2N.CX P w) (k + 1) (He.fAd K p) fd ps (spD K ps.length (fnD N.length b)) := by
  obtain ⟨oc, od, dV, kV, doc, pm, an, cdv, ct, osl, rfl, lk, hcd, _, _⟩ := F.ex
  obtain ⟨c, hc⟩ := He.codeIn_ref hcd
  have e1 : cdv = .ref (He.cT K p).1 := by
    rw [hc]
    exact congrArg Value.ref (He.codeOf_eq lk hc).symm
  refine fn_of lk hcd S (fun vs H Q E h => h.1) (fun A outer s H vs Q E hr h => ⟨_, hbody cdv A outer s H E e1 hr, ?_⟩)
  obtain ⟨_, μ, S, ds, r, o, q⟩ := h
  refine ⟨μ, S, _, o, fr_start r, ?_⟩
  unfold fnD at q
  split at q
  · rename_i d S' z
    split at z
    · rename_i q2; cases z; rw [q2]; exact q
    · rename_i q2; cases z; rw [q2]; exact fun μ' H' σ' x' o' fr => q μ' H' .non x' o' rfl
    · cases z
    · cases z
  · rename_i e S' z
    split at z
    · cases z
    · cases z
    · rename_i q2; cases z; rw [q2]; exact fun μ' H' c dd σ' x' o' fr er => q μ' H' c dd x' o' er
    · cases z
  · exact q.elim
end MX

end
section
/-! Texts as lists of codes; objects by what they hold. -/
namespace MX
open PySem L2
def toS (l : List Nat) : Str := ⟨l.toArray⟩
@[simp] theorem toS_cps (l : List Nat) : (toS l).cps.toList = l := rfl
@[simp] theorem toS_cpsA (l : List Nat) : (toS l).cps = l.toArray := rfl
@[simp] theorem toS_len (l : List Nat) : (toS l).length = l.length := by show l.toArray.size = _; simp
@[simp] theorem toS_app (a b : List Nat) : toS a ++ toS b = toS (a ++ b) := by
  show (⟨a.toArray ++ b.toArray⟩ : Str) = ⟨(a ++ b).toArray⟩
  simp
theorem toS_of (x : Str) : toS x.cps.toList = x := by
  obtain ⟨c⟩ := x
  rfl
@[simp] theorem toS_inj (a b : List Nat) : (toS a = toS b) = (a = b) := by
  refine propext ⟨fun h => ?_, fun h => by rw [h]⟩
  have := congrArg (fun s : Str => s.cps.toList) h
  simpa using this
@[simp] theorem sing_toS (c : Nat) : (⟨#[c]⟩ : Str) = toS [c] := rfl
theorem sizeLine_num : sizeLine = 16777216 := sizeLine_eq
/-! ### items -/
theorem atI_nn {α : Type} (l : List α) (n : Nat) : atI l (n : Int) = l[n]? := by
  unfold atI ixN
  by_cases h : n < l.length
  · rw [if_pos (by omega), if_pos (by omega)]
    simp
  · rw [if_pos (by omega), if_neg (by omega)]
    simp
    omega
theorem atI_some {α : Type} {l : List α} {i : Int} {d : α} (n : Nat) (hi : i = n) (h : l[n]? = some d) : atI l i = some d := by
  subst hi
  rw [atI_nn, h]
@[simp] theorem atI_0 {α : Type} (a : α) (l : List α) : atI (a :: l) 0 = some a := by
  have := atI_nn (a :: l) 0
  simpa using this
@[simp] theorem atI_1 {α : Type} (a b : α) (l : List α) : atI (a :: b :: l) 1 = some b := by
  have := atI_nn (a :: b :: l) 1
  simpa using this
@[simp] theorem atI_2 {α : Type} (a b c : α) (l : List α) : atI (a :: b :: c :: l) 2 = some c := by
  have := atI_nn (a :: b :: c :: l) 2
  simpa using this
@[simp] theorem ixN_nat (n k : Nat) (h : k < n) : ixN n (k : Int) = some k := by
  unfold ixN
  rw [if_pos (by omega), if_pos (by omega)]
  simp
theorem ixN_1 (n : Nat) (h : 1 < n) : ixN n 1 = some 1 := ixN_nat n 1 h
theorem ixN_2 (n : Nat) (h : 2 < n) : ixN n 2 = some 2 := ixN_nat n 2 h
theorem ixN_0 (n : Nat) (h : 0 < n) : ixN n 0 = some 0 := ixN_nat n 0 h
/-! ### slices of texts -/
theorem cut_from (l : List Nat) (i : Int) (n : Nat) (hi : i = n) : cutS (toS l) (some i) none = toS (l.drop n) := by
  subst hi
  unfold cutS
  rw [HT.sIx_nat, HT.sIx_none]
  show toS _ = _
  rw [toS_inj, toS_cps, toS_len]
  by_cases h : n ≤ l.length
  · rw [Nat.min_eq_left h]
    exact List.take_of_length_le (by simp)
  · rw [Nat.min_eq_right (by omega)]
    rw [List.drop_of_length_le (Nat.le_refl _), List.drop_of_length_le (by omega)]
    simp
theorem cut_to (l : List Nat) (i : Int) (n : Nat) (hi : i = n) : cutS (toS l) none (some i) = toS (l.take n) := by
  subst hi
  unfold cutS
  rw [HT.sIx_nat, HT.sIx_none]
  show toS _ = _
  rw [toS_inj, toS_cps, toS_len]
  simp only [List.drop_zero, Nat.sub_zero]
  by_cases h : n ≤ l.length
  · rw [Nat.min_eq_left h]
  · rw [Nat.min_eq_right (by omega), List.take_of_length_le (Nat.le_refl _), List.take_of_length_le (by omega)]
/-! ### objects -/
theorem lstAt_lt {S : Os} {n : Nat} {l : List D} (h : lstAt S n = some l) : n < S.length := by
  unfold lstAt at h
  cases e : S[n]? with
  | none => rw [e] at h; cases h
  | some o => exact (List.getElem?_eq_some_iff.mp e).1
theorem lstAt_set {S : Os} {n : Nat} {l m : List D} (h : lstAt S n = some m) : lstAt (S.set n (.lst l)) n = some l := by
  unfold lstAt
  rw [List.getElem?_set_self (lstAt_lt h)]
theorem lstAt_set_ne {S : Os} {n m : Nat} {o : O} (h : n ≠ m) : lstAt (S.set n o) m = lstAt S m := by
  unfold lstAt
  rw [List.getElem?_set_ne h]
theorem lstAt_app {S : Os} {n : Nat} {T : Os} {l : List D} (h : lstAt S n = some l) : lstAt (S ++ T) n = some l := by
  have := lstAt_lt h
  unfold lstAt at h ⊢
  rw [List.getElem?_append_left this]
  exact h
@[simp] theorem lstAt_new {S : Os} {l : List D} : lstAt (S ++ [.lst l]) S.length = some l := by
  unfold lstAt
  simp
/-- what stands, stands -/
def Ext (S S' : Os) : Prop := ∀ (n : Nat) (o : O), S[n]? = some o → S'[n]? = some o
theorem Ext.refl (S : Os) : Ext S S := fun _ _ h => h
theorem Ext.trans {S S1 S2 : Os} (a : Ext S S1) (b : Ext S1 S2) : Ext S S2 := fun n o h => b n o (a n o h)
theorem Ext.app (S T : Os) : Ext S (S ++ T) := fun n o h => by
  rw [List.getElem?_append_left (List.getElem?_eq_some_iff.mp h).1]
  exact h
theorem Ext.lst {S S' : Os} {n : Nat} {l : List D} (x : Ext S S') (h : lstAt S n = some l) : lstAt S' n = some l := by
  unfold lstAt at h ⊢
  cases e : S[n]? with
  | none => rw [e] at h; cases h
  | some o => rw [e] at h; rw [x n o e]; exact h
theorem Ext.len {S S' : Os} (x : Ext S S') : S.length ≤ S'.length := by
  by_cases h : S.length ≤ S'.length
  · exact h
  · have hl : S'.length < S.length := by omega
    have := x S'.length S[S'.length] (List.getElem?_eq_getElem hl)
    have := (List.getElem?_eq_some_iff.mp this).1
    omega
/-- an object that is new behind S may change -/
theorem Ext.set {S S' : Os} {n : Nat} {o : O} (x : Ext S S') (h : S.length ≤ n) : Ext S (S'.set n o) := fun m u e => by
  have := (List.getElem?_eq_some_iff.mp e).1
  rw [List.getElem?_set_ne (by omega)]
  exact x m u e
end MX
namespace MX
open PySem L2
/-! ### the stream of draws -/
def Strm (S : Os) (st : Nat) : Prop := ∃ (sc : Nat) (ns : List Int) (c k : Int), lstAt S st = some [.loc sc, .int c, .int k] ∧ lstAt S sc = some (ns.map D.int) ∧ st ≠ sc ∧ 0 ≤ c ∧ 0 ≤ k
structure But (st : Nat) (S S' : Os) : Prop where
  len : S'.length = S.length
  same : ∀ n, n ≠ st → S'[n]? = S[n]?
theorem But.refl (st : Nat) (S : Os) : But st S S := ⟨rfl, fun _ _ => rfl⟩
theorem But.trans {st : Nat} {S S1 S2 : Os} (a : But st S S1) (b : But st S1 S2) : But st S S2 := ⟨b.len.trans a.len, fun n h => (b.same n h).trans (a.same n h)⟩
theorem But.set {st : Nat} {S S' : Os} {o : O} (a : But st S S') : But st S (S'.set st o) := ⟨by rw [List.length_set]; exact a.len, fun n h => by rw [List.getElem?_set_ne (Ne.symm h)]; exact a.same n h⟩
theorem But.lst {st n : Nat} {S S' : Os} {l : List D} (a : But st S S') (h : n ≠ st) (e : lstAt S n = some l) : lstAt S' n = some l := by
  unfold lstAt at e ⊢
  rw [a.same n h]
  exact e
/-- new objects, and the stream drawn from -/
structure Drw (st : Nat) (S S' : Os) : Prop where
  len : S.length ≤ S'.length
  same : ∀ n o, n ≠ st → S[n]? = some o → S'[n]? = some o
theorem Drw.refl (st : Nat) (S : Os) : Drw st S S := ⟨Nat.le_refl _, fun _ _ _ h => h⟩
theorem Drw.trans {st : Nat} {S S1 S2 : Os} (a : Drw st S S1) (b : Drw st S1 S2) : Drw st S S2 := ⟨Nat.le_trans a.len b.len, fun n o h e => b.same n o h (a.same n o h e)⟩
theorem But.drw {st : Nat} {S S' : Os} (a : But st S S') : Drw st S S' := ⟨by rw [a.len]; exact Nat.le_refl _, fun n o h e => by rw [a.same n h]; exact e⟩
theorem Ext.drw {st : Nat} {S S' : Os} (a : Ext S S') : Drw st S S' := ⟨a.len, fun n o _ e => a n o e⟩
theorem Drw.lst {st n : Nat} {S S' : Os} {l : List D} (a : Drw st S S') (h : n ≠ st) (e : lstAt S n = some l) : lstAt S' n = some l := by
  unfold lstAt at e ⊢
  cases q : S[n]? with
  | none => rw [q] at e; cases e
  | some o => rw [q] at e; rw [a.same n o h q]; exact e
theorem Drw.app {st : Nat} {S S' : Os} (T : Os) (a : Drw st S S') : Drw st S (S' ++ T) := a.trans (Ext.app S' T).drw
theorem Strm.ext {S S' : Os} {st : Nat} (h : Strm S st) (x : Ext S S') : Strm S' st := by
  obtain ⟨sc, ns, c, k, h1, h2, h3⟩ := h
  exact ⟨sc, ns, c, k, x.lst h1, x.lst h2, h3⟩
theorem Strm.lt {S : Os} {st : Nat} (h : Strm S st) : st < S.length := by
  obtain ⟨sc, ns, c, k, h1, h2, h3⟩ := h
  exact lstAt_lt h1
theorem fmod_bounds {a b : Int} (ha : 0 ≤ a) (hb : 0 < b) : 0 ≤ a.fmod b ∧ a.fmod b < b ∧ 0 ≤ a.fdiv b := by
  rw [Int.fmod_eq_emod_of_nonneg a (by omega), Int.fdiv_eq_ediv_of_nonneg a (by omega)]
  exact ⟨Int.emod_nonneg _ (by omega), Int.emod_lt_of_pos _ hb, Int.ediv_nonneg ha (by omega)⟩
end MX

end
section
/-! Loops and comprehensions of the mirrors; signs of a text; the longest common ending. -/
namespace MX
open PySem L2
/-! ### loops -/
theorem rngD_zero (lo : Int) : rngD lo 0 = [] := rfl
theorem rngD_succ (lo : Int) (n : Nat) : rngD lo (n + 1) = .int lo :: rngD (lo + 1) n := by
  rfl
theorem rngD_eq : ∀ (n : Nat) (lo : Int), rngD lo n = (List.range n).map fun k => .int (lo + (k : Nat))
  | 0, _ => rfl
  | n + 1, lo => by
    rw [rngD_succ, rngD_eq n, List.range_succ_eq_map, List.map_cons, List.map_map]
    refine congr (congrArg _ (by simp)) (List.map_congr_left fun k _ => ?_)
    show D.int (lo + 1 + (k : Int)) = D.int (lo + ((k + 1 : Nat) : Int))
    congr 1
    omega
@[simp] theorem mLoop_nilT (g : D → Fr → Os → Option Fr) (b : MS) (σ : Fr) (S : Os) : mLoop (fun _ => True) g b [] σ S = .nx σ S := by
  unfold mLoop
  rw [if_pos trivial]
theorem mLoop_consT (g : D → Fr → Os → Option Fr) (b : MS) (x : D) (xs : List D) (σ σ1 : Fr) (S : Os) (h : g x σ S = some σ1) : mLoop (fun _ => True) g b (x :: xs) σ S = (match b σ1 S with
        | .nx σ2 S2 => mLoop (fun _ => True) g b xs σ2 S2
        | .ct σ2 S2 => mLoop (fun _ => True) g b xs σ2 S2
        | .bk σ2 S2 => .nx σ2 S2
        | r => r) := by
  rw [mLoop]
  dsimp only
  rw [if_pos trivial, h]
  all_goals rfl
theorem mLoop_nil {ok : Os → Prop} (g : D → Fr → Os → Option Fr) (b : MS) (σ : Fr) (S : Os) (h : ok S) : mLoop ok g b [] σ S = .nx σ S := by
  unfold mLoop
  rw [if_pos h]
theorem mLoop_cons {ok : Os → Prop} (g : D → Fr → Os → Option Fr) (b : MS) (x : D) (xs : List D) (σ σ1 : Fr) (S : Os) (ho : ok S) (h : g x σ S = some σ1) : mLoop ok g b (x :: xs) σ S = (match b σ1 S with
        | .nx σ2 S2 => mLoop ok g b xs σ2 S2
        | .ct σ2 S2 => mLoop ok g b xs σ2 S2
        | .bk σ2 S2 => .nx σ2 S2
        | r => r) := by
  rw [mLoop]
  dsimp only
  rw [if_pos ho, h]
  all_goals rfl
/-- a for by an invariant; R: what is wanted of its end -/
theorem loop_gen {ok : Os → Prop} {g : D → Fr → Os → Option Fr} {b : MS} {R : SRes → Prop} (I : Nat → Fr → Os → Prop) (hok : ∀ i σ S, I i σ S → ok S) :
    ∀ (l : List D) (i : Nat) (σ : Fr) (S : Os), I i σ S → (∀ j x σ S, l[j]? = some x → I (i + j) σ S → ∃ σ1, g x σ S = some σ1 ∧ ((∃ σ2 S2, (b σ1 S = .nx σ2 S2 ∨ b σ1 S = .ct σ2 S2) ∧ I (i + j + 1) σ2 S2) ∨ (∃ σ2 S2, b σ1 S = .bk σ2 S2 ∧ R (.nx σ2 S2)) ∨ (∃ d S2, b σ1 S = .rt d S2 ∧ R (.rt d S2)))) →
      (∀ σ S, I (i + l.length) σ S → R (.nx σ S)) → R (mLoop ok g b l σ S)
  | [], i, σ, S, h, _, hd => by
    rw [mLoop_nil g b σ S (hok _ _ _ h)]
    exact hd σ S h
  | x :: l, i, σ, S, h, hs, hd => by
    obtain ⟨σ1, h1, h2⟩ := hs 0 x σ S rfl h
    rw [mLoop_cons g b x l σ σ1 S (hok _ _ _ h) h1]
    have go : ∀ σ2 S2, I (i + 0 + 1) σ2 S2 → R (mLoop ok g b l σ2 S2) := fun σ2 S2 h4 => by
      refine loop_gen I hok l (i + 1) σ2 S2 h4 (fun j y σ S hj hI => ?_) fun σ S hI => hd σ S ?_
      · have := hs (j + 1) y σ S (by simpa using hj) (by rw [← Nat.add_assoc, Nat.add_right_comm]; exact hI)
        rwa [← Nat.add_assoc, Nat.add_right_comm i j 1] at this
      · rw [List.length_cons, ← Nat.add_assoc, Nat.add_right_comm]
        exact hI
    rcases h2 with ⟨σ2, S2, h3 | h3, h4⟩ | ⟨σ2, S2, h3, h4⟩ | ⟨d, S2, h3, h4⟩
    · rw [h3]; exact go _ _ h4
    · rw [h3]; exact go _ _ h4
    · rw [h3]; exact h4
    · rw [h3]; exact h4
/-- a for over a range that goes to its end -/
theorem loop_rng_nx {g : D → Fr → Os → Option Fr} {b : MS} {lo : Int} {n : Nat} {σ : Fr} {S : Os} (I : Nat → Fr → Os → Prop) (h0 : I 0 σ S)
    (hs : ∀ j σ S, j < n → I j σ S → ∃ σ1 σ2 S2, g (.int (lo + j)) σ S = some σ1 ∧ b σ1 S = .nx σ2 S2 ∧ I (j + 1) σ2 S2) : ∃ σ' S', mLoop (fun _ => True) g b (rngD lo n) σ S = .nx σ' S' ∧ I n σ' S' := by
  refine loop_gen (R := fun r => ∃ σ' S', r = .nx σ' S' ∧ I n σ' S') I (fun _ _ _ _ => trivial) (rngD lo n) 0 σ S h0 (fun j x σ S hj hI => ?_) fun σ S hI => ⟨σ, S, rfl, by rw [Nat.zero_add, rngD_len] at hI; exact hI⟩
  obtain ⟨h1, rfl⟩ := rngD_get hj
  rw [Nat.zero_add] at hI ⊢
  obtain ⟨σ1, σ2, S2, h2, h3, h4⟩ := hs j σ S h1 hI
  exact ⟨σ1, h2, .inl ⟨σ2, S2, .inl h3, h4⟩⟩
/-- a while whose turns are counted and change no object -/
theorem while_count {c : MT} {b : MS} {S : Os} (fr : Nat → Fr) (n : Nat) (hs : ∀ m, m < n → c (fr m) S = .ok true S ∧ b (fr m) S = .nx (fr (m + 1)) S) (he : c (fr n) S = .ok false S) :
    ∀ (k m F : Nat), m + k = n → k < F → mWhile F c b (fr m) S = .nx (fr n) S
  | 0, m, F, h, hF => by
    cases F with
    | zero => omega
    | succ F =>
      have : m = n := by omega
      subst this
      rw [mWhile]
      dsimp only
      rw [he]
      rfl
  | k + 1, m, F, h, hF => by
    cases F with
    | zero => omega
    | succ F =>
      obtain ⟨h1, h2⟩ := hs m (by omega)
      rw [mWhile]
      dsimp only
      rw [h1]
      dsimp only [Res.toS_ok]
      rw [if_pos rfl, h2]
      exact while_count fr n hs he k (m + 1) F (by omega) (by omega)
/-- a comprehension whose items are reckoned and change nothing -/
theorem comp_pure {okS : Os → Prop} {g : D → Fr → Os → Option Fr} {vs : List Nat} {t : MT} {e : ME} {S0 : Os} {σ : Fr} (keep : D → Bool) (v : D → D) (ok : ∀ a, okS (S0 ++ [.lst a])) :
    ∀ (l : List D) (acc : List D), (∀ x ∈ l, ∀ a, ∃ σ2, g x (wipeD σ vs) (S0 ++ [.lst a]) = some σ2 ∧ t σ2 (S0 ++ [.lst a]) = .ok (keep x) (S0 ++ [.lst a]) ∧ (keep x = true → e σ2 (S0 ++ [.lst a]) = .ok (v x) (S0 ++ [.lst a]))) →
      acc.length + l.length ≤ 1000000 → mComp okS g vs t e S0.length l σ (S0 ++ [.lst acc]) = .ok (.loc S0.length) (S0 ++ [.lst (acc ++ (l.filter keep).map v)])
  | [], acc, _, _ => by
    rw [mComp]
    dsimp only
    rw [if_pos (ok acc)]
    simp
  | x :: l, acc, h, hz => by
    obtain ⟨σ2, h1, h2, h3⟩ := h x List.mem_cons_self acc
    rw [List.length_cons] at hz
    rw [mComp]
    dsimp only
    rw [if_pos (ok acc), h1]
    dsimp only
    rw [h2]
    cases hk : keep x with
    | false =>
      dsimp only
      rw [comp_pure keep v ok l acc (fun y hy => h y (List.mem_cons_of_mem _ hy)) (by omega)]
      simp [hk]
    | true =>
      dsimp only
      rw [h3 hk]
      dsimp only
      rw [lstAt_new]
      dsimp only
      rw [if_pos (by rw [sizeLine_num]; omega)]
      have e1 : (S0 ++ [O.lst acc]).set S0.length (O.lst (acc ++ [v x])) = S0 ++ [O.lst (acc ++ [v x])] := by
        rw [List.set_append_right _ _ (Nat.le_refl _)]
        simp
      rw [e1, comp_pure keep v ok l (acc ++ [v x]) (fun y hy => h y (List.mem_cons_of_mem _ hy)) (by rw [List.length_append]; simp; omega)]
      simp [hk]
/-! ### signs -/
theorem nodup_len {α : Type} [DecidableEq α] : ∀ {l m : List α}, l.Nodup → (∀ x ∈ l, x ∈ m) → l.length ≤ m.length
  | [], _, _, _ => Nat.zero_le _
  | a :: l, m, h, hs => by
    have ha : a ∈ m := hs a List.mem_cons_self
    have hn := List.nodup_cons.mp h
    have := nodup_len (l := l) (m := m.erase a) hn.2 fun x hx => (List.mem_erase_of_ne (fun e : x = a => hn.1 (by rw [← e]; exact hx))).mpr (hs x (List.mem_cons_of_mem _ hx))
    rw [List.length_erase_of_mem ha] at this
    have h0 : 0 < m.length := List.length_pos_of_mem ha
    rw [List.length_cons]
    omega
theorem met_fold : ∀ (cs : List Nat) (l : List Str), l.Nodup → (cs.foldl step1 l).Nodup ∧ ∀ k ∈ cs.foldl step1 l, k ∈ l ∨ ∃ c ∈ cs, k = ⟨#[c]⟩
  | [], l, h => ⟨h, fun k hk => .inl hk⟩
  | c :: cs, l, h => by
    have hn : (step1 l c).Nodup := by
      unfold step1
      split
      · exact h
      · rename_i hc
        refine List.nodup_append.mpr ⟨h, by simp, fun a ha b hb => ?_⟩
        rw [List.mem_singleton] at hb
        subst hb
        intro e
        subst e
        exact hc (by rw [List.any_eq_true]; exact ⟨_, ha, by simp⟩)
    obtain ⟨h1, h2⟩ := met_fold cs (step1 l c) hn
    refine ⟨h1, fun k hk => ?_⟩
    rcases h2 k hk with h3 | ⟨c', h3, h4⟩
    · unfold step1 at h3
      split at h3
      · exact .inl h3
      · rcases List.mem_append.mp h3 with h3 | h3
        · exact .inl h3
        · exact .inr ⟨c, List.mem_cons_self, by simpa using h3⟩
    · exact .inr ⟨c', List.mem_cons_of_mem _ h3, h4⟩
theorem nsig_le {u v : List Nat} (h : ∀ c ∈ u, c ∈ v) : nsig (toS u) ≤ v.length := by
  unfold nsig met1
  obtain ⟨h1, h2⟩ := met_fold ((toS u).cps.toList.take (toS u).cps.size) [] List.nodup_nil
  have := nodup_len h1 (m := v.map fun c => (⟨#[c]⟩ : Str)) fun k hk => by
    rcases h2 k hk with h3 | ⟨c, h3, rfl⟩
    · exact absurd h3 (by simp)
    · exact List.mem_map.mpr ⟨c, h c (List.mem_of_mem_take h3), rfl⟩
  simpa using this
theorem within_iff {u v : List Nat} : within (toS u) (toS v) = true ↔ ∀ c ∈ u, c ∈ v := by
  unfold within
  simp
def abc : List Nat := List.range' 97 26
theorem abc_eq : ("abcdefghijklmnopqrstuvwxyz" : Str) = toS abc := by decide +kernel
theorem nsig_abc : nsig (toS abc) = 26 := by decide +kernel
/-! ### the longest common ending -/
def cpl : List Nat → List Nat → Nat
  | a :: as, b :: bs => if a = b then cpl as bs + 1 else 0
  | _, _ => 0
theorem cpl_le : ∀ a b, cpl a b ≤ a.length ∧ cpl a b ≤ b.length
  | [], b => by simp [cpl]
  | a :: as, [] => by simp [cpl]
  | a :: as, b :: bs => by
    unfold cpl
    have := cpl_le as bs
    split
    · simp; omega
    · simp
theorem cpl_eq : ∀ (a b : List Nat) (m : Nat), m < cpl a b → a[m]? = b[m]?
  | [], b, m, h => by simp [cpl] at h
  | a :: as, [], m, h => by simp [cpl] at h
  | a :: as, b :: bs, m, h => by
    unfold cpl at h
    split at h
    · rename_i e
      subst e
      cases m with
      | zero => rfl
      | succ m => simpa using cpl_eq as bs m (by omega)
    · omega
theorem cpl_ne : ∀ (a b : List Nat), cpl a b < a.length → cpl a b < b.length → a[cpl a b]? ≠ b[cpl a b]?
  | [], b, h, _ => by simp at h
  | a :: as, [], _, h => by simp at h
  | a :: as, b :: bs, h1, h2 => by
    unfold cpl at h1 h2 ⊢
    split
    · rename_i e
      rw [if_pos e] at h1 h2
      simpa using cpl_ne as bs (by simpa using h1) (by simpa using h2)
    · rename_i e
      simpa using e
theorem cpl_app : ∀ (c a b : List Nat), cpl (c ++ a) (c ++ b) = c.length + cpl a b
  | [], a, b => by simp
  | x :: c, a, b => by
    rw [List.cons_append, List.cons_append, cpl, if_pos rfl, cpl_app c a b]
    simp
    omega
theorem cpl_self (a : List Nat) : cpl a a = a.length := by
  have := cpl_app a [] []
  simpa [cpl] using this
theorem cpl_take {a b : List Nat} {k : Nat} : k ≤ cpl a b ↔ (k ≤ a.length ∧ k ≤ b.length ∧ a.take k = b.take k) := by
  constructor
  · intro h
    have := cpl_le a b
    refine ⟨by omega, by omega, List.ext_getElem? fun i => ?_⟩
    rw [List.getElem?_take, List.getElem?_take]
    split
    · exact cpl_eq a b i (by omega)
    · rfl
  · rintro ⟨h1, h2, h3⟩
    by_cases h : k ≤ cpl a b
    · exact h
    · exfalso
      refine cpl_ne a b (by omega) (by omega) ?_
      have := congrArg (fun l => l[cpl a b]?) h3
      simpa [List.getElem?_take, show cpl a b < k by omega] using this
/-- how many letters the longest common ending has -/
def cs (a b : List Nat) : Nat := cpl a.reverse b.reverse
theorem cs_le (a b : List Nat) : cs a b ≤ a.length ∧ cs a b ≤ b.length := by
  have := cpl_le a.reverse b.reverse
  simpa [cs] using this
def lastN (a : List Nat) (k : Nat) : List Nat := a.drop (a.length - k)
theorem lastN_rev (a : List Nat) (k : Nat) (h : k ≤ a.length) : lastN a k = (a.reverse.take k).reverse := by
  unfold lastN
  rw [List.take_reverse, List.reverse_reverse]
theorem cs_iff {a b : List Nat} {k : Nat} : k ≤ cs a b ↔ (k ≤ a.length ∧ k ≤ b.length ∧ lastN a k = lastN b k) := by
  unfold cs
  rw [cpl_take]
  simp only [List.length_reverse]
  constructor
  · rintro ⟨h1, h2, h3⟩
    exact ⟨h1, h2, by rw [lastN_rev a k h1, lastN_rev b k h2, h3]⟩
  · rintro ⟨h1, h2, h3⟩
    rw [lastN_rev a k h1, lastN_rev b k h2] at h3
    exact ⟨h1, h2, by simpa using congrArg List.reverse h3⟩
theorem cs_self (a : List Nat) : cs a a = a.length := by
  unfold cs
  rw [cpl_self, List.length_reverse]
theorem cs_comm (a b : List Nat) : cs a b = cs b a := by
  have h : ∀ a b, cs a b ≤ cs b a := fun a b => by
    obtain ⟨h1, h2, h3⟩ := cs_iff.mp (Nat.le_refl (cs a b))
    exact cs_iff.mpr ⟨h2, h1, h3.symm⟩
  exact Nat.le_antisymm (h a b) (h b a)
theorem cs_app (a b c : List Nat) : cs (a ++ c) (b ++ c) = cs a b + c.length := by
  unfold cs
  rw [List.reverse_append, List.reverse_append, cpl_app, List.length_reverse]
  omega
theorem rev_at (a : List Nat) (m : Nat) (h : m < a.length) : a.reverse[m]? = a[a.length - m - 1]? := by
  rw [List.getElem?_reverse h]
  congr 1
  omega
theorem cs_at {a b : List Nat} {m : Nat} (h : m < cs a b) : a[a.length - m - 1]? = b[b.length - m - 1]? := by
  have h1 := cs_le a b
  rw [← rev_at a m (by omega), ← rev_at b m (by omega)]
  exact cpl_eq _ _ _ h
theorem cs_stop {a b : List Nat} (h1 : cs a b < a.length) (h2 : cs a b < b.length) : a[a.length - cs a b - 1]? ≠ b[b.length - cs a b - 1]? := by
  rw [← rev_at a _ h1, ← rev_at b _ h2]
  exact cpl_ne _ _ (by rw [List.length_reverse]; exact h1) (by rw [List.length_reverse]; exact h2)
theorem lastN_len (a : List Nat) (k : Nat) (h : k ≤ a.length) : (lastN a k).length = k := by
  unfold lastN
  rw [List.length_drop]
  omega
theorem lastN_succ (a : List Nat) (k : Nat) (h : k < a.length) : lastN a (k + 1) = a[a.length - k - 1] :: lastN a k := by
  unfold lastN
  rw [List.drop_eq_getElem_cons (by omega)]
  congr 1
  congr 1
  omega
theorem lastN_app (a c : List Nat) (k : Nat) (h : k ≤ a.length) : lastN (a ++ c) (k + c.length) = lastN a k ++ c := by
  unfold lastN
  rw [List.length_append, List.drop_append_of_le_length (by omega)]
  congr 2
  omega
end MX

end
section
/-! Turns counted by a length. -/
namespace MX
open PySem L2
theorem lc1_int {a e : ME} {g : D → Fr → Os → Option Fr} {vs : List Nat} {t : MT} {σ : Fr} {S S1 : Os} {j : Int} (h : a σ S = .ok (.int j) S1) (hc : -(2 ^ 62) ≤ j ∧ j < 2 ^ 62) : mLcR1 a g vs t e σ S = mComp (fun _ => True) g vs t e S1.length (rngD 0 j.toNat) σ (S1 ++ [.lst []]) := by
  simp only [mLcR1, h, Res.bind_ok]
  rw [if_pos hc]
theorem p62 : (2 : Int) ^ 62 = 4611686018427387904 := by decide
theorem b62 (n : Nat) (h : n < 1000000000) : -(2 ^ 62) ≤ (n : Int) ∧ (n : Int) < 2 ^ 62 := by
  rw [p62]
  exact ⟨by omega, by omega⟩
theorem lc1_nat {a e : ME} {g : D → Fr → Os → Option Fr} {vs : List Nat} {t : MT} {σ : Fr} {S S1 : Os} {n : Nat} (h : a σ S = .ok (.int (n : Nat)) S1) (hn : n < 1000000000) : mLcR1 a g vs t e σ S = mComp (fun _ => True) g vs t e S1.length (rngD 0 n) σ (S1 ++ [.lst []]) := by
  have := lc1_int (g := g) (vs := vs) (t := t) (e := e) h (b62 n hn)
  rwa [Int.toNat_natCast] at this
theorem for1_int {a : ME} {g : D → Fr → Os → Option Fr} {b : MS} {σ : Fr} {S S1 : Os} {j : Int} (h : a σ S = .ok (.int j) S1) (hc : -(2 ^ 62) ≤ j ∧ j < 2 ^ 62) : mForR1 a g b σ S = mLoop (fun _ => True) g b (rngD 0 j.toNat) σ S1 := by
  simp only [mForR1, h, Res.toS_ok]
  rw [if_pos hc]
theorem for1_nat {a : ME} {g : D → Fr → Os → Option Fr} {b : MS} {σ : Fr} {S S1 : Os} {n : Nat} (h : a σ S = .ok (.int (n : Nat)) S1) (hn : n < 1000000000) : mForR1 a g b σ S = mLoop (fun _ => True) g b (rngD 0 n) σ S1 := by
  have := for1_int (g := g) (b := b) h (b62 n hn)
  rwa [Int.toNat_natCast] at this
end MX

end
section
/-! in and not in: of lists and tuples of flat items, of a sign in a text. -/
namespace MX
open PySem PySem.Spec PyProof.Rows L2
variable [TL]
@[simp] def flatD : D → Bool
  | .non => true
  | .bl _ => true
  | .int _ => true
  | .str _ => true
  | _ => false
@[simp] def eqfD : D → D → Bool
  | .non, .non => true
  | .bl a, .bl b => a == b
  | .bl a, .int b => (if a then 1 else 0) == b
  | .int a, .bl b => a == (if b then 1 else 0)
  | .int a, .int b => a == b
  | .str a, .str b => a == b
  | _, _ => false
theorem flat_ok {K : PySem.W.Frag} {μ : List Addr} {H : Hp} {d : D} {x : V} (r : Rep K μ H d x) (h : flatD d = true) : flatV x = true := by
  cases d <;> first | (cases r; rfl) | cases h
theorem eqf_ok {K : PySem.W.Frag} {μ : List Addr} {H : Hp} {d e : D} {x y : V} (r : Rep K μ H d x) (r' : Rep K μ H e y) (h : flatD d = true) (h' : flatD e = true) : eqV x y = eqfD d e := by
  cases d <;> (try cases h) <;> (cases e <;> (try cases h')) <;> (cases r; cases r'; rfl)
theorem flats_ok {K : PySem.W.Frag} {μ : List Addr} {H : Hp} : ∀ {l : List D} {vs : List V}, Reps K μ H l vs → l.all flatD = true → vs.all flatV = true
  | [], _, rfl, _ => rfl
  | d :: l, _, ⟨v, r, rfl, h1, h2⟩, h => by
    rw [List.all_cons, Bool.and_eq_true] at h ⊢
    exact ⟨flat_ok h1 h.1, flats_ok h2 h.2⟩
theorem ins_ok {K : PySem.W.Frag} {μ : List Addr} {H : Hp} {d : D} {x : V} (rx : Rep K μ H d x) (fx : flatD d = true) : ∀ {l : List D} {vs : List V}, Reps K μ H l vs → l.all flatD = true → inV x vs = l.any fun y => eqfD y d
  | [], _, rfl, _ => rfl
  | e :: l, _, ⟨v, r, rfl, h1, h2⟩, h => by
    rw [List.all_cons, Bool.and_eq_true] at h
    unfold inV
    rw [List.any_cons, List.any_cons, eqf_ok h1 rx h.1 fx, ← ins_ok rx fx h2 h.2]
    rfl
def sgn (z : Str) : Option Nat := match z.cps.toList with
  | [c] => some c
  | _ => none
theorem sgn_eq {z : Str} {c : Nat} (h : sgn z = some c) : z = ⟨#[c]⟩ := by
  unfold sgn at h
  split at h
  · rename_i c' e
    cases h
    obtain ⟨⟨l⟩⟩ := z
    have e : l = [c] := e
    rw [e]
  · cases h
@[simp] def inA (neg : Bool) (d e : D) (S : Os) : Res D := match itemsD S e with
  | some l => if flatD d = true ∧ l.all flatD = true then .ok (.bl (if neg then !(l.any fun y => eqfD y d) else l.any fun y => eqfD y d)) S else .bad
  | none => match d, e with
    | .str u, .str z => (match sgn u with
      | some c => .ok (.bl (if neg then !decide (c ∈ z.cps.toList) else decide (c ∈ z.cps.toList))) S
      | none => .bad)
    | _, _ => .bad
def rSgn (neg : Bool) : R2 := fun x y H Q => ∃ (c : Nat) (z : Str), x = .str ⟨#[c]⟩ ∧ y = .str z ∧ Q (.bl (if neg then !decide (c ∈ z.cps.toList) else decide (c ∈ z.cps.toList))) H
def rInA (K : PySem.W.Frag) (neg : Bool) : R2 := fun x y H Q => rIn K neg x y H Q ∨ rSgn neg x y H Q
theorem o_in {X : Cx} : OpR X (compareOp .In) (rInA X.K false) := OpR.or op_in_seq op_in_sign
theorem o_notIn {X : Cx} : OpR X (compareOp .NotIn) (rInA X.K true) := OpR.or op_notIn_seq op_notIn_sign
theorem rd_in {K : PySem.W.Frag} {neg : Bool} : RD2 K (rInA K neg) (inA neg) := by
  intro W σ Q μ S H d e x y o rx ry p
  unfold inA at p
  cases q : itemsD S e with
  | some l =>
    rw [q] at p
    obtain ⟨⟨h1, h2⟩, p⟩ := p.ite
    obtain ⟨a, vs, rfl, hs, r⟩ := items_ok o ry q
    refine .inl ⟨a, vs, rfl, hs, flat_ok rx h1, flats_ok r h2, ?_⟩
    rw [ins_ok rx h1 r h2]
    exact p.val o rfl
  | none =>
    rw [q] at p
    dsimp only at p
    split at p
    · rename_i u z
      cases hs : sgn u with
      | none => rw [hs] at p; exact p.elim
      | some c =>
        rw [hs] at p
        cases rx; cases ry
        exact .inr ⟨c, z, by rw [sgn_eq hs], rfl, p.val o rfl⟩
    · exact p.elim
end MX

end
section
/-! Dicts whose keys are numbers or texts. -/
namespace MX
open PySem PySem.Spec PyProof.Rows L2
variable [TL]
@[simp] def keyD : D → Option Key
  | .int i => some (.inl i)
  | .str z => some (.inr z)
  | _ => none
def dkAt (S : Os) (n : Nat) : Option (List (Key × D)) := match S[n]? with
  | some (.dK l) => some l
  | _ => none
def valD {κ : Type} [DecidableEq κ] (l : List (κ × D)) (k : κ) : Option D := (l.find? fun kv => decide (kv.1 = k)).map (·.2)
def putD {κ : Type} [DecidableEq κ] (l : List (κ × D)) (k : κ) (d : D) : List (κ × D) :=
  if (l.any fun kv => decide (kv.1 = k)) = true then l.map (fun kv => if kv.1 = k then (kv.1, d) else kv) else l ++ [(k, d)]
section
variable {K : PySem.W.Frag} {μ : List Addr} {H : Hp}
theorem key_ok {d : D} {x : V} {k : Key} (r : Rep K μ H d x) (h : keyD d = some k) : x = kV k := by
  cases d <;> first | (cases h; cases r; rfl) | cases h
theorem RepK.len {κ : Type} : ∀ {l : List (κ × D)} {vs : List (κ × V)}, RepK K μ H l vs → l.length = vs.length
  | [], _, rfl => rfl
  | _ :: l, _, ⟨v, r, rfl, _, h⟩ => congrArg (· + 1) (RepK.len h)
theorem RepK.some {κ : Type} [DecidableEq κ] {k : κ} {d : D} : ∀ {l : List (κ × D)} {vs : List (κ × V)}, RepK K μ H l vs → valD l k = .some d → ∃ v, valV vs k = .some v ∧ Rep K μ H d v
  | [], _, _, e => by cases e
  | (q, e) :: l, _, ⟨v, r, rfl, h1, h2⟩, h => by
    unfold valD at h
    by_cases c : q = k
    · rw [List.find?_cons_of_pos (by simpa using c)] at h
      cases h
      exact ⟨v, by rw [valV_pos (by exact c)], h1⟩
    · rw [List.find?_cons_of_neg (by simpa using c)] at h
      obtain ⟨u, h3, h4⟩ := RepK.some h2 h
      exact ⟨u, by rw [valV_neg (by exact c)]; exact h3, h4⟩
theorem RepK.none {κ : Type} [DecidableEq κ] {k : κ} : ∀ {l : List (κ × D)} {vs : List (κ × V)}, RepK K μ H l vs → valD l k = .none → valV vs k = .none
  | [], _, rfl, _ => rfl
  | (q, e) :: l, _, ⟨v, r, rfl, h1, h2⟩, h => by
    unfold valD at h
    by_cases c : q = k
    · rw [List.find?_cons_of_pos (by simpa using c)] at h
      cases h
    · rw [List.find?_cons_of_neg (by simpa using c)] at h
      rw [valV_neg (by exact c)]
      exact RepK.none h2 h
theorem RepK.any {κ : Type} [DecidableEq κ] {k : κ} : ∀ {l : List (κ × D)} {vs : List (κ × V)}, RepK K μ H l vs → (l.any fun kv => decide (kv.1 = k)) = (vs.any fun kv => decide (kv.1 = k))
  | [], _, rfl => rfl
  | (q, e) :: l, _, ⟨v, r, rfl, h1, h2⟩ => by rw [List.any_cons, List.any_cons, RepK.any h2]
theorem RepK.app {κ : Type} : ∀ {l m : List (κ × D)} {vs us : List (κ × V)}, RepK K μ H l vs → RepK K μ H m us → RepK K μ H (l ++ m) (vs ++ us)
  | [], _, _, _, rfl, h => h
  | (_, _) :: _, _, _, _, ⟨v, r, rfl, h1, h2⟩, h => ⟨v, r ++ _, rfl, h1, RepK.app h2 h⟩
theorem RepK.map {κ : Type} [DecidableEq κ] {k : κ} {d : D} {v : V} (hv : Rep K μ H d v) : ∀ {l : List (κ × D)} {vs : List (κ × V)}, RepK K μ H l vs → RepK K μ H (l.map fun kv => if kv.1 = k then (kv.1, d) else kv) (vs.map fun kv => if kv.1 = k then (kv.1, v) else kv)
  | [], _, rfl => rfl
  | (q, e) :: l, _, ⟨u, r, rfl, h1, h2⟩ => by
    rw [List.map_cons, List.map_cons]
    by_cases c : q = k
    · rw [if_pos c, if_pos c]
      exact ⟨v, _, rfl, hv, RepK.map hv h2⟩
    · rw [if_neg c, if_neg c]
      exact ⟨u, _, rfl, h1, RepK.map hv h2⟩
theorem RepK.put {κ : Type} [DecidableEq κ] {k : κ} {d : D} {v : V} {l : List (κ × D)} {vs : List (κ × V)} (h : RepK K μ H l vs) (hv : Rep K μ H d v) : RepK K μ H (putD l k d) (putK vs k v) := by
  unfold putD putK
  rw [h.any]
  split
  · exact RepK.map hv h
  · exact h.app ⟨v, [], rfl, hv, rfl⟩
theorem Ok.dk {S : Os} {n : Nat} {l : List (Key × D)} {x : V} (o : Ok K μ S H) (e : dkAt S n = some l) (r : Rep K μ H (.loc n) x) : ∃ a vs, μ[n]? = some a ∧ x = .ref a ∧ H a = some (.dK vs) ∧ RepK K μ H l vs := by
  unfold dkAt at e
  obtain ⟨a, h1, h2⟩ := r
  cases q : S[n]? with
  | none => rw [q] at e; cases e
  | some ob =>
    rw [q] at e
    cases ob with
    | dK m =>
      cases e
      obtain ⟨vs, h3, h4⟩ := o.obj n _ a q h1
      exact ⟨a, vs, h1, h2, h3, h4⟩
    | lst _ => cases e
    | dT _ => cases e
    | ins _ _ => cases e
theorem put_dk {S : Os} {n : Nat} {a : Addr} {l : List (Key × D)} {vs : List (Key × V)} (o : Ok K μ S H) (e : μ[n]? = some a) (r : RepK K μ H l vs) : Ok K μ (S.set n (.dK l)) (upd H a (.dK vs)) :=
  o.put e ⟨vs, upd_same, RepK.mono (Nx.put o (List.mem_of_getElem? e)) _ _ r⟩
theorem new_dk {W : WX} {σ : L2.St} {Q : VK} {S : Os} (o : Ok K μ S H) (p : Pst K W σ Q μ H (.ok (.loc S.length) (S ++ [.dK []]))) (a : Addr) (ha : H a = none) : Q (.ref a) (upd H a (.dK [])) :=
  p (μ ++ [a]) _ (.ref a) (Nx.new ha [a]) (o.alloc ha ⟨[], upd_same, rfl⟩) ⟨a, o.loc_new a, rfl⟩
end
/-! ### {}, d[k], k in d, d[k] = v -/
@[simp] def mDNew : ME := fun _ S => .ok (.loc S.length) (S ++ [.dK []])
theorem e_dnew {X : Cx} {W : WX} {pos : Pos} : PE X (.Dict [] [] pos) (LE X.K W mDNew) := PE.imp pe_dnewK fun σ H Q ⟨μ, S, σd, o, f, p⟩ => fun a ha => new_dk o p a ha
@[simp] def dgetD (d e : D) (S : Os) : Res D := match d with
  | .loc n => (match dkAt S n with
    | some l => (match keyD e with
      | some k => (match valD l k with
        | some x => .ok x S
        | none => .bad)
      | none => .bad)
    | none => .bad)
  | _ => .bad
def rDGet : R2 := fun x y H Q => ∃ a v, x = .ref a ∧ DGet H a y (some v) ∧ Q v H
theorem rd_dget {K : PySem.W.Frag} : RD2 K rDGet dgetD := by
  intro W σ Q μ S H d e x y o rx ry p
  cases d <;> try exact p.elim
  rename_i n
  dsimp only [dgetD] at p
  cases q : dkAt S n with
  | none => rw [q] at p; exact p.elim
  | some l =>
    rw [q] at p
    dsimp only at p
    cases q2 : keyD e with
    | none => rw [q2] at p; exact p.elim
    | some k =>
      rw [q2] at p
      dsimp only at p
      cases q3 : valD l k with
      | none => rw [q3] at p; exact p.elim
      | some z =>
        rw [q3] at p
        obtain ⟨a, vs, h1, rfl, h2, h3⟩ := o.dk q rx
        obtain ⟨v, h4, h5⟩ := h3.some q3
        obtain rfl := key_ok ry q2
        exact ⟨a, v, rfl, by rw [← h4]; exact DGet.k h2, p.val o h5⟩
theorem e_dget {X : Cx} {W : WX} {o i : Expr} {fo fi : ME} {pos : Pos} {k : Nat} (hr : Room k X.A) (ho : PE X o (LE X.K W fo)) (hi : PE X i (LE X.K W fi)) (hs : NoSl i) : PE X (.Subscript o i pos) (LE X.K W (mBin dgetD fo fi)) :=
  PE.imp (pe_dget (by have := hr.units; omega) ho hi hs) (le_bin rd_dget)
@[simp] def dinD (neg : Bool) (e d : D) (S : Os) : Res D := match d with
  | .loc n => (match dkAt S n with
    | some l => (match keyD e with
      | some k => .ok (.bl (if neg then !(valD l k).isSome else (valD l k).isSome)) S
      | none => .bad)
    | none => .bad)
  | _ => .bad
def rDIn (neg : Bool) : R2 := fun y x H Q => ∃ a o, x = .ref a ∧ DGet H a y o ∧ Q (.bl (if neg then !o.isSome else o.isSome)) H
theorem rd_din {K : PySem.W.Frag} {neg : Bool} : RD2 K (rDIn neg) (dinD neg) := by
  intro W σ Q μ S H e d y x o ry rx p
  cases d <;> try exact p.elim
  rename_i n
  dsimp only [dinD] at p
  cases q : dkAt S n with
  | none => rw [q] at p; exact p.elim
  | some l =>
    rw [q] at p
    dsimp only at p
    cases q2 : keyD e with
    | none => rw [q2] at p; exact p.elim
    | some k =>
      rw [q2] at p
      dsimp only at p
      obtain ⟨a, vs, h1, rfl, h2, h3⟩ := o.dk q rx
      obtain rfl := key_ok ry q2
      refine ⟨a, valV vs k, rfl, DGet.k h2, ?_⟩
      cases q3 : valD l k with
      | none => rw [h3.none q3]; rw [q3] at p; exact p.val o rfl
      | some z =>
        obtain ⟨v, h4, h5⟩ := h3.some q3
        rw [h4]; rw [q3] at p; exact p.val o rfl
theorem e_din {X : Cx} {W : WX} {o i : Expr} {fo fi : ME} {pos : Pos} {k : Nat} (hr : Room k X.A) (hi : PE X i (LE X.K W fi)) (ho : PE X o (LE X.K W fo)) (hm : behindInMarks .In o = false := by rfl) : PE X (.Compare i [.In] [o] pos) (LE X.K W (mBin (dinD false) fi fo)) :=
  PE.imp (pe_cmp (pc_din (by have := hr.units; omega) hi ho) hm) (fun σ H Q h => le_bin (rd_din (neg := false)) σ H Q h)
theorem e_dnotin {X : Cx} {W : WX} {o i : Expr} {fo fi : ME} {pos : Pos} {k : Nat} (hr : Room k X.A) (hi : PE X i (LE X.K W fi)) (ho : PE X o (LE X.K W fo)) (hm : behindInMarks .NotIn o = false := by rfl) : PE X (.Compare i [.NotIn] [o] pos) (LE X.K W (mBin (dinD true) fi fo)) :=
  PE.imp (pe_cmp (pc_dnotin (by have := hr.units; omega) hi ho) hm) (fun σ H Q h => le_bin (rd_din (neg := true)) σ H Q h)
theorem t_din {X : Cx} {W : WX} {o i : Expr} {fo fi : ME} {pos : Pos} {k : Nat} (hr : Room k X.A) (hi : PE X i (LE X.K W fi)) (ho : PE X o (LE X.K W fo)) (hm : behindInMarks .In o = false := by rfl) : PT X (.Compare i [.In] [o] pos) (LT X.K W (mTest (mBin (dinD false) fi fo))) :=
  PT.imp (pt_cmp (pc_din (by have := hr.units; omega) hi ho) hm) fun σ H Q h => le_bin (rd_din (neg := false)) σ H _ (le_test σ H Q h)
theorem t_dnotin {X : Cx} {W : WX} {o i : Expr} {fo fi : ME} {pos : Pos} {k : Nat} (hr : Room k X.A) (hi : PE X i (LE X.K W fi)) (ho : PE X o (LE X.K W fo)) (hm : behindInMarks .NotIn o = false := by rfl) : PT X (.Compare i [.NotIn] [o] pos) (LT X.K W (mTest (mBin (dinD true) fi fo))) :=
  PT.imp (pt_cmp (pc_dnotin (by have := hr.units; omega) hi ho) hm) fun σ H Q h => le_bin (rd_din (neg := true)) σ H _ (le_test σ H Q h)
@[simp] def dputD (d e v : D) (S : Os) : Option Os := match d with
  | .loc n => (match dkAt S n with
    | some l => (match keyD e with
      | some k => if l.length < sizeLine then some (S.set n (.dK (putD l k v))) else none
      | none => none)
    | none => none)
  | _ => none
@[simp] def mDPut (v o i : ME) : MS := fun σ S => (v σ S).toS σ fun v S1 => (o σ S1).toS σ fun x S2 => (i σ S2).toS σ fun k S3 => match dputD x k v S3 with
  | some S4 => .nx σ S4
  | none => .bad
theorem le_dput {K : PySem.W.Frag} {W : WX} {fv fo fi : ME} (D : Ends) (σ : L2.St) (H : Hp) (h : LS K W (mDPut fv fo fi) D σ H) : sDPut (LE K W fo) (LE K W fi) (LE K W fv) D σ H := by
  obtain ⟨μ, S, σd, o, fr, p⟩ := h
  refine ⟨μ, S, σd, o, fr, Pst.thenS fr p fun v H1 μ1 S1 d x1 o1 r1 p1 => ?_⟩
  refine ⟨μ1, S1, σd, o1, fr.mono x1, Pst.thenS (fr.mono x1) p1 fun u H2 μ2 S2 e x2 o2 r2 p2 => ?_⟩
  refine ⟨μ2, S2, σd, o2, (fr.mono x1).mono x2, Pst.thenS ((fr.mono x1).mono x2) p2 fun w H3 μ3 S3 g x3 o3 r3 p3 => ?_⟩
  cases e <;> try exact p3.elim
  rename_i n
  dsimp only [dputD] at p3
  cases q : dkAt S3 n with
  | none => rw [q] at p3; exact p3.elim
  | some l =>
    rw [q] at p3
    dsimp only at p3
    cases q2 : keyD g with
    | none => rw [q2] at p3; exact p3.elim
    | some k =>
      rw [q2] at p3
      dsimp only at p3
      by_cases hz : l.length < sizeLine
      · rw [if_pos hz] at p3
        obtain ⟨a, vs, h1, rfl, h2, h3⟩ := o3.dk q (r2.mono x3)
        obtain rfl := key_ok r3 q2
        have hm := List.mem_of_getElem? h1
        exact ⟨a, _, rfl, DPut.k h2 (by rw [← h3.len]; exact hz), p3 μ3 _ σ (Nx.put o3 hm) (put_dk o3 h1 (h3.put ((r1.mono x2).mono x3))) ((((fr.mono x1).mono x2).mono x3).mono (Nx.put o3 hm))⟩
      · rw [if_neg hz] at p3
        exact p3.elim
theorem s_dput {X : Cx} {W : WX} {o i value : Expr} {fv fo fi : ME} {pos pos' : Pos} {k : Nat} (hr : Room k X.A) (ho : PE X o (LE X.K W fo)) (hi : PE X i (LE X.K W fi)) (hv : PE X value (LE X.K W fv)) (hs : swapsWith value (some (.Subscript o i pos')) pos.line X.env = pure false := by rfl) :
    PS X (.Assign [.Subscript o i pos'] value pos) (LS X.K W (mDPut fv fo fi)) :=
  PS.imp (ps_dput (by have := hr.units; omega) ho hi hv hs) le_dput
end MX

end
section
/-! all, any, sum of a list; tuple(x); sorted of a short list of numbers or of texts. -/
namespace MX
open PySem PySem.Spec PyProof.Rows L2
variable [TL]
def blsD : List D → Option (List Bool)
  | [] => some []
  | .bl b :: l => (blsD l).map (b :: ·)
  | _ :: _ => none
def intsD : List D → Option (List Int)
  | [] => some []
  | .int b :: l => (intsD l).map (b :: ·)
  | _ :: _ => none
def strsD : List D → Option (List Str)
  | [] => some []
  | .str b :: l => (strsD l).map (b :: ·)
  | _ :: _ => none
@[simp] theorem blsD_map (bs : List Bool) : blsD (bs.map D.bl) = some bs := by
  induction bs with
  | nil => rfl
  | cons b bs ih => rw [List.map_cons, blsD, ih]; rfl
@[simp] theorem intsD_map (bs : List Int) : intsD (bs.map D.int) = some bs := by
  induction bs with
  | nil => rfl
  | cons b bs ih => rw [List.map_cons, intsD, ih]; rfl
@[simp] theorem strsD_map (bs : List Str) : strsD (bs.map D.str) = some bs := by
  induction bs with
  | nil => rfl
  | cons b bs ih => rw [List.map_cons, strsD, ih]; rfl
section
variable {K : PySem.W.Frag} {μ : List Addr} {H : Hp}
theorem bls_ok : ∀ {l : List D} {vs : List V} {bs : List Bool}, Reps K μ H l vs → blsD l = some bs → vs = bs.map V.bl
  | [], _, _, rfl, e => by cases e; rfl
  | d :: l, _, bs, ⟨v, r, rfl, h1, h2⟩, e => by
    cases d <;> try cases e
    rename_i b
    unfold blsD at e
    cases q : blsD l with
    | none => rw [q] at e; cases e
    | some cs =>
      rw [q] at e
      cases e
      cases h1
      rw [bls_ok h2 q]
      rfl
theorem ints_ok : ∀ {l : List D} {vs : List V} {bs : List Int}, Reps K μ H l vs → intsD l = some bs → vs = bs.map V.int
  | [], _, _, rfl, e => by cases e; rfl
  | d :: l, _, bs, ⟨v, r, rfl, h1, h2⟩, e => by
    cases d <;> try cases e
    rename_i b
    unfold intsD at e
    cases q : intsD l with
    | none => rw [q] at e; cases e
    | some cs =>
      rw [q] at e
      cases e
      cases h1
      rw [ints_ok h2 q]
      rfl
theorem strs_ok : ∀ {l : List D} {vs : List V} {bs : List Str}, Reps K μ H l vs → strsD l = some bs → vs = bs.map V.str
  | [], _, _, rfl, e => by cases e; rfl
  | d :: l, _, bs, ⟨v, r, rfl, h1, h2⟩, e => by
    cases d <;> try cases e
    rename_i b
    unfold strsD at e
    cases q : strsD l with
    | none => rw [q] at e; cases e
    | some cs =>
      rw [q] at e
      cases e
      cases h1
      rw [strs_ok h2 q]
      rfl
theorem reps_strs : ∀ (bs : List Str), Reps K μ H (bs.map D.str) (bs.map V.str)
  | [] => rfl
  | b :: bs => ⟨_, _, rfl, rfl, reps_strs bs⟩
end
section
variable {K : PySem.W.Frag}
/-- a list that a builtin reads: its address and its items -/
def lisD (S : Os) : D → Option (List D)
  | .loc n => lstAt S n
  | .rl l => some l
  | _ => none
theorem lis_ok {μ : List Addr} {H : Hp} {S : Os} {d : D} {x : V} {l : List D} (o : Ok K μ S H) (r : Rep K μ H d x) (e : lisD S d = some l) : ∃ a vs, x = .ref a ∧ SqL K H a vs ∧ Reps K μ H l vs := by
  cases d <;> try (cases e; done)
  · obtain ⟨a, vs, _, rfl, h2, h3⟩ := o.lst e r
    exact ⟨a, vs, rfl, .inl (.inl h2), h3⟩
  · cases e
    obtain ⟨a, vs, rfl, h1, h2⟩ := r
    exact ⟨a, vs, rfl, h1.sq, h2⟩
@[simp] theorem lisD_loc (S : Os) (n : Nat) : lisD S (.loc n) = lstAt S n := rfl
@[simp] theorem lisD_rl (S : Os) (l : List D) : lisD S (.rl l) = some l := rfl
@[simp] def allD : List D → Os → Res D
  | [d], S => (match lisD S d with
    | some l => (match blsD l with
      | some bs => .ok (.bl (bs.all id)) S
      | none => .bad)
    | none => .bad)
  | _, _ => .bad
@[simp] def anyD : List D → Os → Res D
  | [d], S => (match lisD S d with
    | some l => (match blsD l with
      | some bs => .ok (.bl (bs.any id)) S
      | none => .bad)
    | none => .bad)
  | _, _ => .bad
@[simp] def sumD : List D → Os → Res D
  | [d], S => (match lisD S d with
    | some l => (match intsD l with
      | some bs => .ok (.int bs.sum) S
      | none => .bad)
    | none => .bad)
  | _, _ => .bad
theorem rd_all : RDC K (rAll K) allD := by
  intro W σ Q μ S H ds xs o r p
  unfold allD at p
  split at p
  · rename_i d
    obtain ⟨v, _, rfl, r1, rfl⟩ := r
    cases e : lisD S d with
    | none => rw [e] at p; exact p.elim
    | some l =>
      rw [e] at p
      dsimp only at p
      obtain ⟨a, vs, rfl, h1, h2⟩ := lis_ok o r1 e
      cases q : blsD l with
      | none => rw [q] at p; exact p.elim
      | some bs =>
        rw [q] at p
        obtain rfl := bls_ok h2 q
        exact ⟨a, bs, rfl, h1, p.val o rfl⟩
  · exact p.elim
theorem rd_any : RDC K (rAny K) anyD := by
  intro W σ Q μ S H ds xs o r p
  unfold anyD at p
  split at p
  · rename_i d
    obtain ⟨v, _, rfl, r1, rfl⟩ := r
    cases e : lisD S d with
    | none => rw [e] at p; exact p.elim
    | some l =>
      rw [e] at p
      dsimp only at p
      obtain ⟨a, vs, rfl, h1, h2⟩ := lis_ok o r1 e
      cases q : blsD l with
      | none => rw [q] at p; exact p.elim
      | some bs =>
        rw [q] at p
        obtain rfl := bls_ok h2 q
        exact ⟨a, bs, rfl, h1, p.val o rfl⟩
  · exact p.elim
theorem rd_sum : RDC K (rSum K) sumD := by
  intro W σ Q μ S H ds xs o r p
  unfold sumD at p
  split at p
  · rename_i d
    obtain ⟨v, _, rfl, r1, rfl⟩ := r
    cases e : lisD S d with
    | none => rw [e] at p; exact p.elim
    | some l =>
      rw [e] at p
      dsimp only at p
      obtain ⟨a, vs, rfl, h1, h2⟩ := lis_ok o r1 e
      cases q : intsD l with
      | none => rw [q] at p; exact p.elim
      | some bs =>
        rw [q] at p
        obtain rfl := ints_ok h2 q
        exact ⟨a, bs, rfl, h1, p.val o rfl⟩
  · exact p.elim
end
/-! ### tuple(x) -/
@[simp] def mTupOf (e : ME) : ME := fun σ S => (e σ S).bind fun d S1 => match d with
  | .tup l => .ok (.tup l) S1
  | d => match lisD S1 d with
    | some l => .ok (.tup l) S1
    | none => .bad
theorem e_tupOf {X : Cx} {W : WX} {a : Expr} {fa : ME} {p pos : Pos} (hg : Gl X "tuple") (hm : X.mg "tuple" = none) (ha : PE X a (LE X.K W fa)) (na : starEach [a] X.env = (false, eval a X.env) :: starEach [] X.env := by rfl) :
    PE X (.Call (.Name "tuple" p) [a] [] pos) (LE X.K W (mTupOf fa)) :=
  PE.imp (pe_tupleOf hg hm ha na) fun σ H Q ⟨μ, S, σd, o, fr, p⟩ => ⟨μ, S, σd, o, fr, p.andThen fun v H1 μ1 S1 d x o1 r1 p1 => by
    split at p1
    · obtain ⟨b, vs, rfl, h1, h2⟩ := r1
      exact .inr ⟨b, vs, rfl, h1, p1.val o1 ⟨b, vs, rfl, h1, h2⟩⟩
    · cases e : lisD S1 d with
      | none => rw [e] at p1; exact p1.elim
      | some l =>
        rw [e] at p1
        obtain ⟨b, vs, rfl, h1, h2⟩ := lis_ok o1 r1 e
        exact .inl ⟨b, vs, rfl, h1, fun q hq => new_tup o1 h2 p1 q hq⟩⟩
end MX

end
section
/-! Methods of texts: join, index of a sign. -/
namespace MX
open PySem PySem.Spec PyProof.Rows L2
variable [TL]
@[simp] def mMethS (op : D → List D → Os → Res D) (o : ME) (a : MA) : ME := fun σ S => (o σ S).bind fun d S1 => match d with
  | .str z => (a σ S1).bind fun ds S2 => op (.str z) ds S2
  | _ => .bad
section
variable {K : PySem.W.Frag} {W : WX} {fo : ME} {fs : MA} {r : V → List V → Hp → VK → Prop} {op : D → List D → Os → Res D}
theorem le_bmS (hr : RDM K r op) (σ : L2.St) (H : Hp) (Q : VK) (h : LE K W (mMethS op fo fs) σ H Q) : tBM K "str" r (LE K W fo) (LA K W fs) σ H Q := by
  obtain ⟨μ, S, σd, o, fr, p⟩ := h
  refine ⟨μ, S, σd, o, fr, p.andThen fun v H1 μ1 S1 d x o1 r1 p1 => ?_⟩
  cases d <;> try exact p1.elim
  rename_i z
  cases r1
  exact ⟨rfl, μ1, S1, σd, o1, fr.mono x, PstA.andThenE p1 fun vs H2 μ2 S2 ds y o2 r2 p2 => hr W σ Q μ2 S2 H2 (.str z) (.str z) ds vs o2 rfl r2 p2⟩
def joinN (a : Str) (ys : List Str) : Str := Txt.join a ys
@[simp] def joinD : D → List D → Os → Res D
  | .str a, [d], S => (match itemsD S d with
    | some l => (match strsD l with
      | some ys => if (ys.map (·.length)).sum + ys.length * a.length ≤ 16777216 then .ok (.str (joinN a ys)) S else .bad
      | none => .bad)
    | none => .bad)
  | _, _, _ => .bad
theorem rd_join : RDM K (fun x xs H Q => ∃ a p, ∃ ys : List Str, x = .str a ∧ xs = [.ref p] ∧ (SqL K H p (ys.map V.str) ∨ SqT K H p (ys.map V.str)) ∧
    (ys.map (·.length)).sum + ys.length * a.length ≤ 16777216 ∧ Q (.str (Txt.join a ys)) H) joinD := by
  intro W σ Q μ S H d x ds xs o r1 r2 p
  unfold joinD at p
  split at p
  · rename_i a d
    obtain ⟨v, _, rfl, r3, rfl⟩ := r2
    cases e : itemsD S d with
    | none => rw [e] at p; exact p.elim
    | some l =>
      rw [e] at p
      dsimp only at p
      obtain ⟨q, vs, rfl, h1, h2⟩ := items_ok o r3 e
      cases e2 : strsD l with
      | none => rw [e2] at p; exact p.elim
      | some ys =>
        rw [e2] at p
        dsimp only at p
        obtain ⟨hz, p⟩ := p.ite
        obtain rfl := strs_ok h2 e2
        cases r1
        exact ⟨a, q, ys, rfl, rfl, h1, hz, p.val o rfl⟩
  · exact p.elim
end
end MX

end
section
/-! sorted of a list of data. -/
namespace MX
open PySem PySem.Spec PyProof.Rows L2
variable [TL]
theorem each_of {bs : List (V × PyData)} : ∀ {its : List Value}, Vals (bs.map (·.1)) its → PySem.W.EachIs (fun v (b : V × PyData) => RelV b.1 v) its bs := by
  induction bs with
  | nil => intro its h; cases h; exact .nil
  | cons b bs ih => intro its h; cases h with | cons h1 h2 => exact .cons h1 (ih h2)
theorem of_each {bs : List (V × PyData)} : ∀ {its : List Value}, PySem.W.EachIs (fun v (b : V × PyData) => RelV b.1 v) its bs → Vals (bs.map (·.1)) its := by
  induction bs with
  | nil => intro its h; cases h; exact .nil
  | cons b bs ih => intro its h; cases h with | cons h1 h2 => exact .cons h1 (ih h2)
theorem each_reads {X : Cx} {pins : List (Addr × Obj)} {s : Shared} {σ : L2.St} {H : Hp} (I : Inv X pins σ H s) {bs : List (V × PyData)} : ∀ {its : List Value}, Vals (bs.map (·.1)) its → (∀ b ∈ bs, Dp X.K H b.1 b.2) → PySem.W.EachIs (fun v (b : V × PyData) => ∃ as, Reads s.heap v b.2 as) its bs := by
  induction bs with
  | nil => intro its h _; cases h; exact .nil
  | cons b bs ih =>
    intro its h hd
    cases h with
    | cons h1 h2 => exact .cons (Dp.reads I b.2 b.1 _ (hd b List.mem_cons_self) h1) (ih h2 fun c hc => hd c (List.mem_cons_of_mem _ hc))
def rSortD (K : PySem.W.Frag) : List V → Hp → VK → Prop := fun vs H Q => ∃ (a : Addr) (bs : List (V × PyData)), vs = [.ref a] ∧ SqL K H a (bs.map (·.1)) ∧ (∀ b ∈ bs, Dp K H b.1 b.2) ∧ PySem.W.AllAlike (bs.map (·.2)) ∧ PySem.W.Sortable (bs.map (·.2)) ∧ (∀ b ∈ bs, b.2.depth ≤ 40) ∧
  ∀ p, H p = none → Q (.ref p) (upd H p (.lst ((bs.mergeSort (PySem.W.dataLe false (·.2))).map (·.1))))
theorem cr_sortD {X : Cx} {k : Nat} (hr : Room k X.A) : CallR X (.builtin "sorted") (rSortD X.K) := by
  intro pins s σ H vs us Q I r h
  obtain ⟨a, bs, rfl, hs, hd, hal, hk, hdp, q⟩ := h
  obtain rfl := Vals.ref1 r
  obtain ⟨its, rv, hl, hz⟩ := I.list hs
  have hu := hr.units
  have hz' : bs.length ≤ sizeLine := by rwa [List.length_map] at hz
  refine PySem.W.sorted_data hl.isList (each_of rv) (each_reads I rv hd) hal hk hz' (fun b hb => by have := hdp b hb; omega) fun out ho he => ?_
  obtain ⟨ep, he'⟩ := PyProof.Rows.sortedAll_at s.heap its (List.toArray out)
  have hlen : ((bs.mergeSort (PySem.W.dataLe false (·.2))).map (·.1)).length ≤ sizeLine := by
    rw [List.length_map, List.length_mergeSort]
    exact hz'
  exact ⟨.ref _, upd H (s.heap.objs.size + 1) (.lst ((bs.mergeSort (PySem.W.dataLe false (·.2))).map (·.1))), I.laid (t' := s.toks) (fun _ _ => PyProof.Rows.sortedAll_old) (Nat.le_succ _) ⟨hlen, _, ep, of_each he, he'⟩, rfl, q _ (I.hok.fresh (Nat.le_succ _))⟩
/-! ### by data -/
mutual
def pdD : D → Option PyData
  | .non => some .none
  | .bl b => some (.bool b)
  | .int i => some (.int i)
  | .str z => some (.str z)
  | .tup l => (pdDs l).map .tuple
  | .loc _ => none
  | .ty _ => none
  | .rl _ => none
  | .err _ _ _ => none
def pdDs : List D → Option (List PyData)
  | [] => some []
  | d :: l => match pdD d, pdDs l with
    | some p, some ps => some (p :: ps)
    | _, _ => none
end
section
variable {K : PySem.W.Frag} {μ : List Addr} {H : Hp}
mutual
theorem pd_ok : ∀ (d : D) (v : V) (p : PyData), Rep K μ H d v → pdD d = some p → Dp K H v p
  | .non, v, p, r, e => by cases r; cases e; exact .non
  | .bl b, v, p, r, e => by cases r; cases e; exact .bl b
  | .int i, v, p, r, e => by cases r; cases e; exact .int i
  | .str z, v, p, r, e => by cases r; cases e; exact .str z
  | .tup l, v, p, r, e => by
    obtain ⟨a, vs, rfl, h1, h2⟩ := r
    unfold pdD at e
    cases q : pdDs l with
    | none => rw [q] at e; cases e
    | some ps => rw [q] at e; cases e; exact .tup h1 (pds_ok l vs ps h2 q)
  | .loc _, _, _, _, e => by cases e
  | .ty _, _, _, _, e => by cases e
  | .rl _, _, _, _, e => by cases e
  | .err _ _ _, _, _, _, e => by cases e
theorem pds_ok : ∀ (l : List D) (vs : List V) (ps : List PyData), Reps K μ H l vs → pdDs l = some ps → DpAll K H vs ps
  | [], _, _, r, e => by cases r; cases e; exact .nil
  | d :: l, _, ps, r, e => by
    obtain ⟨v, us, rfl, h1, h2⟩ := r
    unfold pdDs at e
    cases q1 : pdD d with
    | none => rw [q1] at e; cases e
    | some p =>
      cases q2 : pdDs l with
      | none => rw [q1, q2] at e; cases e
      | some qs =>
        rw [q1, q2] at e
        cases e
        exact .cons (pd_ok d v p h1 q1) (pds_ok l us qs h2 q2)
end
/-- the three together -/
theorem triples : ∀ {l : List D} {vs : List V} {ps : List PyData}, Reps K μ H l vs → pdDs l = some ps → ∃ ts : List (D × V × PyData), ts.map (·.1) = l ∧ ts.map (·.2.1) = vs ∧ ts.map (·.2.2) = ps ∧ ∀ t ∈ ts, Rep K μ H t.1 t.2.1 ∧ Dp K H t.2.1 t.2.2
  | [], _, _, r, e => by cases r; cases e; exact ⟨[], rfl, rfl, rfl, fun t h => by cases h⟩
  | d :: l, _, ps, r, e => by
    obtain ⟨v, us, rfl, h1, h2⟩ := r
    unfold pdDs at e
    cases q1 : pdD d with
    | none => rw [q1] at e; cases e
    | some p =>
      cases q2 : pdDs l with
      | none => rw [q1, q2] at e; cases e
      | some qs =>
        rw [q1, q2] at e
        cases e
        obtain ⟨ts, a1, a2, a3, a4⟩ := triples h2 q2
        refine ⟨(d, v, p) :: ts, by rw [List.map_cons, a1], by rw [List.map_cons, a2], by rw [List.map_cons, a3], fun t h => ?_⟩
        rcases List.mem_cons.mp h with rfl | h
        · exact ⟨h1, pd_ok d v p h1 q1⟩
        · exact a4 t h
theorem reps_of : ∀ (ts : List (D × V × PyData)), (∀ t ∈ ts, Rep K μ H t.1 t.2.1) → Reps K μ H (ts.map (·.1)) (ts.map (·.2.1))
  | [], _ => rfl
  | t :: ts, h => ⟨_, _, rfl, h t List.mem_cons_self, reps_of ts fun u hu => h u (List.mem_cons_of_mem _ hu)⟩
/-- what may be sorted -/
def SortOk (ps : List PyData) : Prop := PySem.W.AllAlike ps ∧ PySem.W.Sortable ps ∧ ∀ p ∈ ps, p.depth ≤ 40
/-- sorted by the data -/
def srtD (l : List D) (ps : List PyData) : List D := ((l.zip ps).mergeSort (PySem.W.dataLe false (·.2))).map (·.1)
noncomputable def sortedD : List D → Os → Res D
  | [d], S => (match lisD S d with
    | some l => (match pdDs l with
      | some ps => open Classical in if SortOk ps then .ok (.loc S.length) (S ++ [.lst (srtD l ps)]) else .bad
      | none => .bad)
    | none => .bad)
  | _, _ => .bad
open Classical in
theorem rd_sortD : RDC K (rSortD K) sortedD := by
  intro W σ Q μ S H ds xs o r p
  unfold sortedD at p
  split at p
  · rename_i d
    obtain ⟨v, _, rfl, r1, rfl⟩ := r
    cases e : lisD S d with
    | none => rw [e] at p; exact p.elim
    | some l =>
      rw [e] at p
      dsimp only at p
      obtain ⟨a, vs, rfl, h1, h2⟩ := lis_ok o r1 e
      cases q : pdDs l with
      | none => rw [q] at p; exact p.elim
      | some ps =>
        rw [q] at p
        dsimp only at p
        obtain ⟨⟨c1, c2, c3⟩, p⟩ := p.ite
        obtain ⟨ts, a1, a2, a3, a4⟩ := triples h2 q
        have z1 : (ts.map fun t => (t.2.1, t.2.2)).map (·.1) = vs := by rw [List.map_map]; exact a2
        have z2 : (ts.map fun t => (t.2.1, t.2.2)).map (·.2) = ps := by rw [List.map_map]; exact a3
        have z3 : l.zip ps = ts.map fun t => (t.1, t.2.2) := by
          rw [← a1, ← a3, List.zip_map']
        refine ⟨a, ts.map fun t => (t.2.1, t.2.2), rfl, by rw [z1]; exact h1, fun b hb => ?_, by rw [z2]; exact c1, by rw [z2]; exact c2, fun b hb => ?_, fun z hz => ?_⟩
        · obtain ⟨t, ht, rfl⟩ := List.mem_map.mp hb
          exact (a4 t ht).2
        · obtain ⟨t, ht, rfl⟩ := List.mem_map.mp hb
          exact c3 _ (by rw [← a3]; exact List.mem_map.mpr ⟨t, ht, rfl⟩)
        · have m1 : (ts.map fun t => (t.2.1, t.2.2)).mergeSort (PySem.W.dataLe false (·.2)) = (ts.mergeSort (PySem.W.dataLe false (·.2.2))).map fun t => (t.2.1, t.2.2) := (List.map_mergeSort (r := PySem.W.dataLe false (·.2.2)) (s := PySem.W.dataLe false (·.2)) (f := fun t : D × V × PyData => (t.2.1, t.2.2)) (l := ts) fun _ _ _ _ => rfl).symm
          have m2 : (ts.map fun t => (t.1, t.2.2)).mergeSort (PySem.W.dataLe false (·.2)) = (ts.mergeSort (PySem.W.dataLe false (·.2.2))).map fun t => (t.1, t.2.2) := (List.map_mergeSort (r := PySem.W.dataLe false (·.2.2)) (s := PySem.W.dataLe false (·.2)) (f := fun t : D × V × PyData => (t.1, t.2.2)) (l := ts) fun _ _ _ _ => rfl).symm
          have m3 : srtD l ps = (ts.mergeSort (PySem.W.dataLe false (·.2.2))).map (·.1) := by
            unfold srtD
            rw [z3, m2, List.map_map]
            rfl
          rw [m1, List.map_map]
          rw [m3] at p
          exact new_lst o (reps_of _ fun t ht => (a4 t ((List.mergeSort_perm _ _).mem_iff.mp ht)).1) p z hz
  · exact p.elim
end
end MX

end
section
/-! A generator expression whose element may call defs: its frame is a context of its own. -/
namespace GX
open PySem PySem.Spec PyProof.Rows L2
abbrev gLoop (elt tg iter : Expr) (scope : Scope) (pos : Pos) (it : Addr) (env : Env) : Code := .compLoop (.GeneratorExp elt [⟨tg, iter, [], 0⟩] scope pos) 0 (.ref it) .none env
abbrev gStart (elt tg iter : Expr) (scope : Scope) (pos : Pos) (it : Addr) (env : Env) : Code := .compStart (.GeneratorExp elt [⟨tg, iter, [], 0⟩] scope pos) 0 (.ref it) .none env
theorem over_gen {A : Around} {elt tg iter : Expr} {scope : Scope} {pos : Pos} {it : Addr} {env : Env} : A.over (gLoop elt tg iter scope pos it env) [] = A.deeper env := by
  first
    | rfl
    | (obtain ⟨hd, d, fr, gs, u⟩ := A; simp [gLoop, Around.over, Around.deeper, marksOver, frameCount, unitsOf, envsOf, guardsOf, pushEnvs, pushGuards, Code.envs, Code.env?, Code.isFrame, Code.guards, Code.isGuard, Code.weight, Code.frames, Code.isCreation, Code.isCaller, Code.cUnits])
/-- the context of the generator's frame: made at s, H; fp: what its iterator turns; pn: the generator's own object -/
abbrev Cxg (X : Cx) (s : Shared) (H : Hp) (cenv : Env) (fp : List Addr) (B : Around) (pn : List (Addr × Obj)) : Cx :=
  { X with s_0 := s, H_0 := H, env := cenv, outer := X.stack, stack := cenv :: X.stack, ex := fp, fn := fun _ => false, calm := true, pn := pn, A := B.deeper cenv, xe := fun _ _ => False }
/-- ahead of the item i: ps, what the consumer changes -/
structure Z (X' : Cx) (σ0 : L2.St) (fp ps : List Addr) (tn : Nat → Heap → Prop) (i : Nat) (H : Hp) (s : Shared) : Prop where
  inv : Inv X' (pinsAt ps s.heap) σ0 H s
  tn : tn i s.heap
  fp : ∀ b ∈ fp, FpOk X' (pinsAt ps s.heap) H b
  ps : ∀ b ∈ ps, ∃ o, s.heap.get? b = some o
theorem pins_same {X' : Cx} {σ : L2.St} {H : Hp} {ps : List Addr} {h : Heap} {s : Shared} (I : Inv X' (pinsAt ps h) σ H s) (ho : ∀ b ∈ ps, ∃ o, h.get? b = some o) : ∀ b ∈ ps, s.heap.get? b = h.get? b := fun b hb => by
  obtain ⟨o, e⟩ := ho b hb
  have q := (I.pin (b, o) (List.mem_append_right _ (mem_pinsAt hb e))).1
  rw [e]
  exact q
theorem pinsAt_congr {ps : List Addr} {h h' : Heap} (e : ∀ b ∈ ps, h'.get? b = h.get? b) : pinsAt ps h' = pinsAt ps h := by
  unfold pinsAt
  induction ps with
  | nil => rfl
  | cons b r ih =>
    rw [List.filterMap_cons, List.filterMap_cons, e b List.mem_cons_self, ih fun c hc => e c (List.mem_cons_of_mem _ hc)]
/-- the end of the run -/
def Rg (X' : Cx) (σ0 : L2.St) (ps : List Addr) (Fin : Hp → Prop) : GenEnd := fun n s₀ r s =>
  r = .ok .next ∧ n = 1 ∧ (∃ H, Inv X' (pinsAt ps s.heap) σ0 H s ∧ Fin H) ∧ ∀ b ∈ ps, s.heap.get? b = s₀.heap.get? b
/-- an item is handed out -/
def Yg (X' : Cx) (σ0 : L2.St) (fp ps : List Addr) (tn : Nat → Heap → Prop) (L : Nat) (W : Nat → Hp → Prop) (Out : Nat → V → Hp → Prop) : Protocol := fun n s₀ v s kap =>
  1 ≤ n ∧ n ≤ L ∧ (∃ y H, RelV y v ∧ Z X' σ0 fp ps tn (L - n + 1) H s ∧ Out (L - n) y H) ∧ (∀ b ∈ ps, s.heap.get? b = s₀.heap.get? b) ∧
    ∀ H s'', Z X' σ0 fp ps tn (L - n + 1) H s'' → W (L - n + 1) H → kap (.send .none) s''
section
variable {X' : Cx} {σ0 : L2.St} {fp ps : List Addr} {tn : Nat → Heap → Prop} {L : Nat} {W : Nat → Hp → Prop} {Out : Nat → V → Hp → Prop} {Fin : Hp → Prop}
variable {elt tg iter : Expr} {scope : Scope} {pos : Pos} {it : Addr} {cenv : Env} {B : Around} {J : It} {g : TG} {te : TE}
theorem seg_loop (hA : X'.A = B.deeper cenv) (hE : X'.env = cenv) (hxe : ∀ e s, ¬ X'.xe e s) (hcalm : X'.calm = true) (hco : cenv.scope.isCoroutine = false)
    (T : Turn X'.prog X'.w X'.K tg J fp it tn) (hg : PG X' tg g) (he : PE X' elt te) {vs : List Nat} (hσ : L2.wipe σ0 vs = σ0)
    (hstop : ∀ H, W L H → J.stop L H ∧ Fin H)
    (hgo : ∀ i H, i < L → W i H → J.go i H ∧ ∀ x H', J.yld i H x H' → g x σ0 H' fun σ2 H2 => L2.wipe σ2 vs = σ0 ∧ te σ2 H2 fun y H3 => Out i y H3) :
    ∀ (k i : Nat) (s₀ s : Shared) (H : Hp), i + k = L → Z X' σ0 fp ps tn i H s → W i H → (∀ b ∈ ps, s.heap.get? b = s₀.heap.get? b) →
      Seg (model X'.prog X'.w) B (Rg X' σ0 ps Fin) (Yg X' σ0 fp ps tn L W Out) (k + 1) s₀ (gLoop elt tg iter scope pos it cenv) ((model X'.prog X'.w).den (gLoop elt tg iter scope pos it cenv)) [] s := by
  intro k
  induction k with
  | zero =>
    intro i s₀ s H hi z hW hp
    have hi : i = L := by omega
    subst hi
    obtain ⟨h1, h2⟩ := hstop H hW
    show Seg _ B _ _ _ s₀ _ ((compTurn (.GeneratorExp elt [⟨tg, iter, [], 0⟩] scope pos) 0 (.ref it) .none cenv).onRaise (leaving cenv)) [] s
    rw [compTurn_gen, Sem.onRaise_eq_wrap]
    refine seg_bind_wrap (wpAny_standAt ?_)
    refine seg_bind_wrap ?_
    rw [over_gen, ← hA]
    refine wpAny_mono (T.done X' rfl rfl rfl hcalm i _ s σ0 H (fun _ _ => False) z.inv z.fp z.tn h1) (fun r s1 hr => ?_) fun _ _ e => e.elim
    obtain ⟨rfl, I1⟩ := hr
    have sm := pins_same I1 z.ps
    exact seg_end (.ok .next) ⟨rfl, rfl, ⟨H, by rw [pinsAt_congr sm]; exact I1, h2⟩, fun b hb => (sm b hb).trans (hp b hb)⟩
  | succ k ih =>
    intro i s₀ s H hi z hW hp
    have hlt : i < L := by omega
    obtain ⟨h1, h2⟩ := hgo i H hlt hW
    show Seg _ B _ _ _ s₀ _ ((compTurn (.GeneratorExp elt [⟨tg, iter, [], 0⟩] scope pos) 0 (.ref it) .none cenv).onRaise (leaving cenv)) [] s
    rw [compTurn_gen, Sem.onRaise_eq_wrap]
    refine seg_bind_wrap (wpAny_standAt ?_)
    refine seg_bind_wrap ?_
    rw [over_gen, ← hA]
    refine wpAny_mono (T.item X' rfl rfl rfl hcalm i _ s σ0 H (fun _ _ => False) z.inv z.fp z.tn h1) (fun r s1 h3 => ?_) fun _ _ e => e.elim
    obtain ⟨u, rfl, h3⟩ := h3
    refine seg_bind_wrap ?_
    rw [over_gen, ← hA]
    refine wpAny_mono h3 (fun _ s2 h4 => ?_) fun _ _ e => e.elim
    obtain ⟨x, H5, I5, r5, y5, st5, fr5⟩ := h4
    have stat : ∀ {H' : Hp}, (∀ b ∈ fp, H' b = none) → ∀ b ∈ fp, FpOk X' (pinsAt ps s.heap) H' b := fun hn b hb => ⟨hn b hb, (z.fp b hb).2⟩
    have I5' := I5.pinned (stat fr5) (T.obj _ _ st5)
    refine seg_bind_wrap ?_
    rw [over_gen, ← hA, ← hE]
    refine wpAny_mono (hg.run _ s2 σ0 H5 x u _ I5' r5 (h2 x H5 y5)) (fun _ s6 h6 => ?_) fun e s e' => (hxe e s e').elim
    obtain ⟨σ6, H6, I6, hw, q6⟩ := h6
    refine seg_bind_wrap ?_
    simp only [List.forIn_nil]
    refine wpAny_pure ?_
    simp only [if_true]
    have hy : ∀ v, yieldOut X'.env v = yieldValue v := fun v => by rw [hE]; simp only [yieldOut, hco, Bool.false_eq_true, if_false]
    simp only [hy]
    rw [Sem.bind_eq_wrap', Sem.bind_eq_wrap', Sem.wrap_wrap, Sem.wrap_wrap]
    refine seg_wrap ?_
    rw [over_gen]
    have hA2 : B.deeper X'.env = X'.A := by rw [hA, hE]
    rw [hA2]
    refine wpAny_mono (he.run _ s6 σ6 H6 _ I6 q6) (fun v7 s7 h7 => ?_) fun e s e' => (hxe e s e').elim
    obtain ⟨y7, H7, I7, r7, o7⟩ := h7
    have J7 : Inv X' (pinsAt ps s.heap) σ0 H7 s7 := (I7.unpinned).weak (by rw [← hw, L2.wipe_length]) fun j v e => (L2.wipe_some (vs := vs) (by rw [hw]; exact e)).1
    have sm := pins_same J7 z.ps
    have hk : L - (k + 1) + 1 = i + 1 := by omega
    have hk2 : L - (k + 1) = i := by omega
    have st7 : tn (i + 1) s7.heap := T.keep _ _ _ st5 fun b hb o e => (I7.pin (b, o) (List.mem_append_right _ (List.mem_append_right _ (mem_pinsAt hb e)))).1
    have fr7 : ∀ b ∈ fp, H7 b = none := fun b hb => by
      obtain ⟨o, e, d⟩ := T.obj _ _ st5 b hb
      exact (I7.pin (b, o) (List.mem_append_right _ (List.mem_append_right _ (mem_pinsAt hb e)))).2.1
    have z7 : Z X' σ0 fp ps tn (i + 1) H7 s7 := ⟨by rw [pinsAt_congr sm]; exact J7, st7, by rw [pinsAt_congr sm]; exact stat fr7, fun b hb => by rw [sm b hb]; exact z.ps b hb⟩
    refine seg_at (seg_yield rfl rfl rfl ⟨by omega, by omega, ⟨y7, H7, r7, by rw [hk]; exact z7, by rw [hk2]; exact o7⟩, fun b hb => (sm b hb).trans (hp b hb), fun H8 s8 z8 w8 => ?_⟩)
    rw [hk] at z8 w8
    refine seg_again rfl ?_
    rw [hE]
    exact ih (i + 1) s8 s8 H8 (by omega) z8 w8 fun _ _ => rfl
theorem seg_start (hA : X'.A = B.deeper cenv) (hE : X'.env = cenv) (hxe : ∀ e s, ¬ X'.xe e s) (hcalm : X'.calm = true) (hco : cenv.scope.isCoroutine = false)
    (T : Turn X'.prog X'.w X'.K tg J fp it tn) (hg : PG X' tg g) (he : PE X' elt te) {vs : List Nat} (hσ : L2.wipe σ0 vs = σ0)
    (hstop : ∀ H, W L H → J.stop L H ∧ Fin H)
    (hgo : ∀ i H, i < L → W i H → J.go i H ∧ ∀ x H', J.yld i H x H' → g x σ0 H' fun σ2 H2 => L2.wipe σ2 vs = σ0 ∧ te σ2 H2 fun y H3 => Out i y H3)
    (s : Shared) (H : Hp) (z : Z X' σ0 fp ps tn 0 H s) (hW : W 0 H) :
    Seg (model X'.prog X'.w) B (Rg X' σ0 ps Fin) (Yg X' σ0 fp ps tn L W Out) (L + 1) s (gStart elt tg iter scope pos it cenv) ((model X'.prog X'.w).den (gStart elt tg iter scope pos it cenv)) [] s := by
  have loop := seg_loop (iter := iter) (scope := scope) (pos := pos) hA hE hxe hcalm hco T hg he hσ hstop hgo L 0 s s H (Nat.zero_add _) z hW fun _ _ => rfl
  show Seg _ B _ _ _ s _ ((compStart (.GeneratorExp elt [⟨tg, iter, [], 0⟩] scope pos) 0 (.ref it) .none cenv).onRaise (leaving cenv)) [] s
  unfold compStart
  rw [Sem.onRaise_eq_wrap]
  show Seg _ B _ _ _ s _ ((ask >>= _).wrap _ _ _ _) [] s
  refine seg_bind_wrap (wpAny_askSetting ?_)
  split
  · exact seg_again rfl loop
  · first
      | exact seg_bind_wrap (wpAny_rule (seg_bind_wrap (wpAny_standAt (seg_bind_wrap (T.self _ 0 s _ _ z.tn (seg_again rfl loop))))))
      | (refine seg_bind_wrap (wpAny_rule ?_); show Seg _ B _ _ _ s _ ((standAt iter.pos >>= _).wrap _ _ _ _) [] s; exact seg_bind_wrap (wpAny_standAt (seg_bind_wrap (T.self _ 0 s _ _ z.tn (seg_again rfl loop)))))
end
end GX

end
section
/-! The consumer's side: next of such a generator; all, any, sum. -/
namespace GX
open PySem PySem.Spec PyProof.Rows L2 GenW
theorem inv_gens {X : Cx} {pins : List (Addr × Obj)} {σ : L2.St} {H : Hp} {s : Shared} (I : Inv X pins σ H s) (g : Nat) (x : GenState) (hx : x.bare = true) : Inv X pins σ H (s.setGen g x) :=
  I.call' (ch := []) rfl Un.refl I.hok (allBare_setGen I.bare hx) (by simp)
section
variable {X' : Cx} {σ0 : L2.St} {fp ps : List Addr} {tn : Nat → Heap → Prop} {L : Nat} {W : Nat → Hp → Prop} {Out : Nat → V → Hp → Prop} {Fin : Hp → Prop} {A : Around} {a : Addr} {g : Nat}
/-- ready for item i -/
def Rdy (X' : Cx) (σ0 : L2.St) (fp ps : List Addr) (tn : Nat → Heap → Prop) (L : Nat) (W : Nat → Hp → Prop) (Out : Nat → V → Hp → Prop) (Fin : Hp → Prop) (A : Around) (a : Addr) (g : Nat) (i : Nat) (s : Shared) : Prop :=
  s.heap.IsGen a g ∧ s.heap.NoLimit ∧ ∃ gs, s.gens[g]? = some gs ∧ gs.Goes (model X'.prog X'.w) A.in1 (Rg X' σ0 ps Fin) (Yg X' σ0 fp ps tn L W Out) (L + 1 - i) (.send .none) (s.setGen g .running)
/-- behind an item: held, and ready again as soon as W holds -/
def Aft (X' : Cx) (σ0 : L2.St) (fp ps : List Addr) (tn : Nat → Heap → Prop) (L : Nat) (W : Nat → Hp → Prop) (Out : Nat → V → Hp → Prop) (Fin : Hp → Prop) (A : Around) (a : Addr) (g : Nat) (i : Nat) (H : Hp) (s : Shared) : Prop :=
  Inv X' (pinsAt ps s.heap) σ0 H s ∧ ∀ s'', s''.gens = s.gens → Inv X' (pinsAt ps s''.heap) σ0 H s'' → (∀ b ∈ ps, ∃ o, s''.heap.get? b = some o) → (∀ b o, b ∉ ps → s.heap.get? b = some o → s''.heap.get? b = some o) → W i H → Rdy X' σ0 fp ps tn L W Out Fin A a g i s''
theorem next_any (hh : A.handled = none) (hroom : A.depth < recursionLimit) (hpn : ∀ {pins σ H s}, Inv X' pins σ H s → s.heap.IsGen a g) {E : Value → Shared → Prop}
    {tg : Expr} {J : It} {it : Addr} (T : Turn X'.prog X'.w X'.K tg J fp it tn) {i : Nat} (hi : i ≤ L) {s : Shared} (hpo : ∀ b ∈ ps, ∃ o, s.heap.get? b = some o) (h : Rdy X' σ0 fp ps tn L W Out Fin A a g i s) :
    wpAny (model X'.prog X'.w) A (pyNext (.ref a)) (fun r s' => (∀ b ∈ ps, s'.heap.get? b = s.heap.get? b) ∧
      ((i < L ∧ ∃ v y H, r = some v ∧ RelV y v ∧ Out i y H ∧ Aft X' σ0 fp ps tn L W Out Fin A a g (i + 1) H s') ∨
       (i = L ∧ r = none ∧ ∃ H, Inv X' (pinsAt ps s'.heap) σ0 H s' ∧ Fin H))) E s := by
  obtain ⟨hg, hl, gs, hgs, hgo⟩ := h
  have hgl : g < s.gens.size := (Array.getElem?_eq_some_iff.mp hgs).1
  refine wpAny_gsz (n := g + 1) hgl (wpAny_pyNext_genexpQ (P := fun n s₀ s₁ => n = 1 ∧ (∃ H, Inv X' (pinsAt ps s₁.heap) σ0 H s₁ ∧ Fin H) ∧ ∀ b ∈ ps, s₁.heap.get? b = s₀.heap.get? b) hh hl hroom hg hgs hgo (fun v s₁ gs' hb hv => ?_) (fun s₁ hp h' hk => ?_))
  · intro hsz
    obtain ⟨hn1, hn2, ⟨y, H, ry, z, o⟩, hps, hkap⟩ := hv
    have hps : ∀ b ∈ ps, s₁.heap.get? b = s.heap.get? b := hps
    have hlt : i < L := by omega
    obtain ⟨m, hm⟩ : ∃ m, L + 1 - i = m + 1 := ⟨L + 1 - i - 1, by omega⟩
    rw [hm] at hn1 hn2 z o hkap
    have e1 : L - (m + 1 - 1) + 1 = i + 1 := by omega
    have e2 : L - (m + 1 - 1) = i := by omega
    rw [e1] at z hkap
    rw [e2] at o
    refine ⟨hps, .inl ⟨hlt, v, y, H, rfl, ry, o, inv_gens z.inv g gs' hb, fun s'' hg2 I2 hp2 hk2 hW => ?_⟩⟩
    have hgen : s''.gens[g]? = some gs' := by
      rw [hg2]
      exact setGen_at (by have : g + 1 ≤ (s₁.setGen g gs').gens.size := hsz; rw [setGen_size] at this; omega)
    have nps : ∀ b ∈ fp, b ∉ ps := fun b hb hp => by
      obtain ⟨o, e⟩ := z.ps b hp
      exact (z.fp b hb).2.2.2.2.2 (b, o) (List.mem_append_right _ (mem_pinsAt hp e)) rfl
    refine ⟨hpn I2, I2.nolimit, gs', hgen, ?_⟩
    have e3 : L + 1 - (i + 1) = m := by omega
    rw [e3]
    refine hkap H (s''.setGen g .running) ⟨inv_gens I2 g _ rfl, T.keep _ _ _ z.tn fun b hb o e => hk2 b o (nps b hb) e, fun b hb => ?_, hp2⟩ hW
    obtain ⟨f0, f1, f2, f3, f4, f5⟩ := z.fp b hb
    refine ⟨f0, f1, f2, f3, f4, fun p hp => ?_⟩
    rcases List.mem_append.mp hp with q | q
    · exact f5 p (List.mem_append_left _ q)
    · obtain ⟨q1, _⟩ := of_pinsAt q
      intro z9
      exact nps b hb (z9 ▸ q1)
  · intro hsz
    obtain ⟨hn, ⟨H, I1, hF⟩, hps⟩ := hp
    have hps : ∀ b ∈ ps, s₁.heap.get? b = s.heap.get? b := hps
    have iL : i = L := by omega
    have hps2 : ∀ b ∈ ps, h'.get? b = s₁.heap.get? b := fun b hb => by
      obtain ⟨o, e⟩ := hpo b hb
      rw [hk b o ((hps b hb).trans e), hps b hb, e]
    have J : Inv X' (pinsAt ps h') σ0 H { s₁.setGen g .finished with heap := h' } := by
      rw [pinsAt_congr hps2]
      exact (inv_gens I1 g .finished rfl).kept (t' := s₁.toks) hk
    exact ⟨fun b hb => (hps2 b hb).trans (hps b hb), .inr ⟨iL, rfl, H, J, hF⟩⟩
/-- all(..) -/
theorem all_loop (hh : A.handled = none) (hroom : A.depth < recursionLimit) (hpn : ∀ {pins σ H s}, Inv X' pins σ H s → s.heap.IsGen a g) {tg : Expr} {J : It} {it : Addr} (T : Turn X'.prog X'.w X'.K tg J fp it tn) {R : Result → Shared → Prop}
    (hO : ∀ i y H, Out i y H → (y = .bl true ∧ W (i + 1) H) ∨ (y = .bl false ∧ ∀ s', Inv X' [] σ0 H s' → R (.ok (.ret (.bool false))) s'))
    (hF : ∀ H s', Inv X' [] σ0 H s' → Fin H → R (.ok (.ret (.bool true))) s') :
    ∀ (k i : Nat) (s : Shared), i + k = L → Rdy X' σ0 fp [] tn L W Out Fin A.in1 a g i s → codeAny (model X'.prog X'.w) A (.builtin "all.loop" ⟨[.ref a], []⟩) R s := by
  intro k
  induction k with
  | zero =>
    intro i s hi h
    refine (codeAny_builtin F.entry_all_loop ?_)
    rw [(Around.under_plainId F.plain_all_loop _)]
    show wpAny (model X'.prog X'.w) A.in1 (pyNext (.ref a) >>= _) _ _ s
    refine wpAny_bind (wpAny_mono (next_any (A := A.in1) hh hroom hpn T (by omega) (by simp) h) (fun r s' q => ?_) fun _ _ e => e)
    obtain ⟨_, ⟨hlt, _⟩ | ⟨_, rfl, H, I1, f⟩⟩ := q
    · omega
    · exact wpAny_bind (wpAny_rule (wpAny_pure (hF H s' I1 f)))
  | succ k ih =>
    intro i s hi h
    refine (codeAny_builtin F.entry_all_loop ?_)
    rw [(Around.under_plainId F.plain_all_loop _)]
    show wpAny (model X'.prog X'.w) A.in1 (pyNext (.ref a) >>= _) _ _ s
    refine wpAny_bind (wpAny_mono (next_any (A := A.in1) hh hroom hpn T (by omega) (by simp) h) (fun r s' q => ?_) fun _ _ e => e)
    obtain ⟨_, ⟨hlt, v, y, H, rfl, ry, o, I1, af⟩ | ⟨hL, _⟩⟩ := q
    · rcases hO i y H o with ⟨rfl, w⟩ | ⟨rfl, w⟩
      · cases ry
        refine wpAny_bind (wpAny_holding (wpAny_truthy_bool ?_))
        refine wpAny_bind (wpAny_letGo ?_)
        simp only [if_true, Bool.false_eq_true, if_false]
        exact wpAny_pure ⟨plainId_quiet F.plain_all_loop _, ih (i + 1) s' (by omega) (af s' rfl I1 (by simp) (fun b o _ e => e) w)⟩
      · cases ry
        refine wpAny_bind (wpAny_holding (wpAny_truthy_bool ?_))
        refine wpAny_bind (wpAny_letGo ?_)
        simp only [if_true, Bool.false_eq_true, if_false]
        exact wpAny_bind (wpAny_rule (wpAny_pure (w s' I1)))
    · omega
/-- any(..) -/
theorem any_loop (hh : A.handled = none) (hroom : A.depth < recursionLimit) (hpn : ∀ {pins σ H s}, Inv X' pins σ H s → s.heap.IsGen a g) {tg : Expr} {J : It} {it : Addr} (T : Turn X'.prog X'.w X'.K tg J fp it tn) {R : Result → Shared → Prop}
    (hO : ∀ i y H, Out i y H → (y = .bl false ∧ W (i + 1) H) ∨ (y = .bl true ∧ ∀ s', Inv X' [] σ0 H s' → R (.ok (.ret (.bool true))) s'))
    (hF : ∀ H s', Inv X' [] σ0 H s' → Fin H → R (.ok (.ret (.bool false))) s') :
    ∀ (k i : Nat) (s : Shared), i + k = L → Rdy X' σ0 fp [] tn L W Out Fin A.in1 a g i s → codeAny (model X'.prog X'.w) A (.builtin "any.loop" ⟨[.ref a], []⟩) R s := by
  intro k
  induction k with
  | zero =>
    intro i s hi h
    refine (codeAny_builtin F.entry_any_loop ?_)
    rw [(Around.under_plainId F.plain_any_loop _)]
    show wpAny (model X'.prog X'.w) A.in1 (pyNext (.ref a) >>= _) _ _ s
    refine wpAny_bind (wpAny_mono (next_any (A := A.in1) hh hroom hpn T (by omega) (by simp) h) (fun r s' q => ?_) fun _ _ e => e)
    obtain ⟨_, ⟨hlt, _⟩ | ⟨_, rfl, H, I1, f⟩⟩ := q
    · omega
    · exact wpAny_bind (wpAny_rule (wpAny_pure (hF H s' I1 f)))
  | succ k ih =>
    intro i s hi h
    refine (codeAny_builtin F.entry_any_loop ?_)
    rw [(Around.under_plainId F.plain_any_loop _)]
    show wpAny (model X'.prog X'.w) A.in1 (pyNext (.ref a) >>= _) _ _ s
    refine wpAny_bind (wpAny_mono (next_any (A := A.in1) hh hroom hpn T (by omega) (by simp) h) (fun r s' q => ?_) fun _ _ e => e)
    obtain ⟨_, ⟨hlt, v, y, H, rfl, ry, o, I1, af⟩ | ⟨hL, _⟩⟩ := q
    · rcases hO i y H o with ⟨rfl, w⟩ | ⟨rfl, w⟩
      · cases ry
        refine wpAny_bind (wpAny_holding (wpAny_truthy_bool ?_))
        refine wpAny_bind (wpAny_letGo ?_)
        simp only [if_true, Bool.false_eq_true, if_false]
        exact wpAny_pure ⟨plainId_quiet F.plain_any_loop _, ih (i + 1) s' (by omega) (af s' rfl I1 (by simp) (fun b o _ e => e) w)⟩
      · cases ry
        refine wpAny_bind (wpAny_holding (wpAny_truthy_bool ?_))
        refine wpAny_bind (wpAny_letGo ?_)
        simp only [if_true, Bool.false_eq_true, if_false]
        exact wpAny_bind (wpAny_rule (wpAny_pure (w s' I1)))
    · omega
/-- the consumer's own object at S has another value -/
theorem inv_own {S : Addr} {H : Hp} {s : Shared} {h' : Heap} {o o' : Obj} {tk : Nat} (hS0 : X'.s_0.heap.objs.size ≤ S) (hSp : ∀ p ∈ X'.pn, p.1 ≠ S) (I : Inv X' (pinsAt [S] s.heap) σ0 H s) (e : s.heap.get? S = some o) (e' : h'.get? S = some o') (hd : ∀ v, o'.data ≠ .cell v)
    (k : ∀ b u, b ≠ S → s.heap.get? b = some u → h'.get? b = some u) : Inv X' (pinsAt [S] h') σ0 H { s with heap := h', toks := tk } := by
  obtain ⟨p1, p2, p3, p4, p5⟩ := I.pin (S, o) (List.mem_append_right _ (mem_pinsAt List.mem_cons_self e))
  have I0 : Inv X' [] σ0 H s := I.pins_of (by simp)
  have cne : ∀ x c, X'.env.cells.lookup x = some c → c ≠ S := fun x c ec z => by
    obtain ⟨v, ob, ho, hv⟩ := I.cell x c ec
    rw [z, e] at ho
    cases ho
    exact p5 v hv
  have I1 : Inv X' [] σ0 H { s with heap := h', toks := tk } := I0.turned k p2 p3 (.inr hS0) cne (fun p hp => hSp p (by simpa using hp))
  refine I1.pins_of fun p hp => ?_
  obtain ⟨q1, q2⟩ := of_pinsAt hp
  have q3 : p.1 = S := by simpa using q1
  rw [q3] at q2 ⊢
  rw [e'] at q2
  cases q2
  exact ⟨e', p2, p3, p4, hd⟩
/-- sum(..) -/
theorem sum_loop (hh : A.handled = none) (hroom : A.depth < recursionLimit) (hpn : ∀ {pins σ H s}, Inv X' pins σ H s → s.heap.IsGen a g) {tg : Expr} {J : It} {it : Addr} (T : Turn X'.prog X'.w X'.K tg J fp it tn) {R : Result → Shared → Prop} {S : Addr}
    (hS0 : X'.s_0.heap.objs.size ≤ S) (hSp : ∀ p ∈ X'.pn, p.1 ≠ S) (val : Nat → Int)
    (hO : ∀ i y H, Out i y H → y = .int (val i) ∧ InLong (val i) ∧ InLong (preSum val (i + 1)) ∧ W (i + 1) H)
    (hF : ∀ H s' tk, Inv X' [] σ0 H s' → Fin H → R (.ok (.ret (.int (preSum val L) tk))) s') :
    ∀ (k i : Nat) (s : Shared) (tA : Tok) (c : Nat), i + k = L → s.heap.get? S = some { cls := .type "list", dict := none, data := .seq #[.int (preSum val i) tA] c, slots := #[] } → Rdy X' σ0 fp [S] tn L W Out Fin A.in1 a g i s →
      codeAny (model X'.prog X'.w) A (.builtin "sum.loop" ⟨[.ref a, .ref S, rawInt 0, rawInt 0], []⟩) R s := by
  intro k
  induction k with
  | zero =>
    intro i s tA c hi hS h
    have iL : i = L := by omega
    refine (codeAny_builtin F.entry_sum_loop ?_)
    rw [(Around.under_plainId F.plain_sum_loop _)]
    show wpAny (model X'.prog X'.w) A.in1 (seqItems? (.ref S) >>= _) _ _ s
    refine wpAny_bind (wpAny_seqItems hS rfl ?_)
    show wpAny (model X'.prog X'.w) A.in1 (tryCatch (pyNext (.ref a)) _ >>= _) _ _ s
    refine wpAny_bind (wpAny_tryCatch (wpAny_mono (next_any (A := A.in1) hh hroom hpn T (by omega) (fun b hb => by rw [List.mem_singleton.mp hb]; exact ⟨_, hS⟩) h) (fun r s' q => ?_) fun _ _ e => e))
    obtain ⟨_, ⟨hlt, _⟩ | ⟨_, rfl, H, I1, f⟩⟩ := q
    · omega
    · rw [iL]
      exact wpAny_pure (hF H s' tA (I1.pins_of (by simp)) f)
  | succ k ih =>
    intro i s tA c hi hS h
    refine (codeAny_builtin F.entry_sum_loop ?_)
    rw [(Around.under_plainId F.plain_sum_loop _)]
    show wpAny (model X'.prog X'.w) A.in1 (seqItems? (.ref S) >>= _) _ _ s
    refine wpAny_bind (wpAny_seqItems hS rfl ?_)
    show wpAny (model X'.prog X'.w) A.in1 (tryCatch (pyNext (.ref a)) _ >>= _) _ _ s
    refine wpAny_bind (wpAny_tryCatch (wpAny_mono (next_any (A := A.in1) hh hroom hpn T (by omega) (fun b hb => by rw [List.mem_singleton.mp hb]; exact ⟨_, hS⟩) h) (fun r s' q => ?_) fun _ _ e => e))
    obtain ⟨hps, ⟨hlt, v, y, H, rfl, ry, o, I1, af⟩ | ⟨hL, _⟩⟩ := q
    · obtain ⟨rfl, ⟨f1, f2⟩, ⟨f3, f4⟩, w⟩ := hO i y H o
      obtain ⟨t, rfl⟩ := ry
      have hS' := (hps S List.mem_cons_self).trans hS
      have hc : ((decide (-(2 ^ 63) ≤ val i) && decide (val i < 2 ^ 63)) && (decide (-(2 ^ 63) ≤ preSum val i + val i) && decide (preSum val i + val i < 2 ^ 63))) = true := by
        simp only [preSum] at f3 f4
        simp only [Bool.and_eq_true, decide_eq_true_eq]
        exact ⟨⟨f1, f2⟩, f3, f4⟩
      show wpAny (model X'.prog X'.w) A.in1 (if (_ : Bool) = true then (mkInt (preSum val i + val i) >>= _) else _) _ _ _
      split
      · refine wpAny_bind (wpAny_mkInt ?_)
        show wpAny (model X'.prog X'.w) A.in1 (updateSeq S (fun _ => #[.int (preSum val i + val i) s'.toks]) >>= _) _ _ _
        refine wpAny_bind ?_
        refine wpAny_updateSeq hS' rfl (wpAny_pure ⟨plainId_quiet F.plain_sum_loop _, ih (i + 1) _ s'.toks _ (by omega) (Heap.get?_update_self _ hS' rfl) (af _ rfl ?_ (fun b hb => ?_) (fun b u hb e => ?_) w)⟩)
        · exact inv_own hS0 hSp (s := { s' with toks := _ }) (I1.tok _) hS' (Heap.get?_update_self _ hS' rfl) (fun v q => by cases q) fun b u hb e => (Heap.get?_update_other _ _ (Ne.symm hb)).trans e
        · rw [List.mem_singleton.mp hb]
          exact ⟨_, Heap.get?_update_self _ hS' rfl⟩
        · exact (Heap.get?_update_other _ _ (fun z => hb (by rw [← z]; exact List.mem_cons_self))).trans e
      · rename_i hneg
        exact absurd hc hneg
    · omega
end
end GX

end
section
set_option maxHeartbeats 1000000
/-! The frame of a generator expression is made. -/
namespace GX
open PySem PySem.Spec PyProof.Rows L2
/-- the scope of a generator expression -/
structure GSc (N : List Str) (sc scope : Scope) (own : List (Str × Nat)) : Prop where
  blk : BlkOk N sc scope own
  co : scope.isCoroutine = false
  nocell : ∀ y ∈ scope.names, y.2 ≠ .cell
  dot : scope.names.lookup (".0" : Str) = some NameKind.local
section
variable {X : Cx} {pins : List (Addr × Obj)} {σ : L2.St} {H : Hp} {s : Shared} {scope : Scope} {own : List (Str × Nat)} {fp : List Addr} {B : Around}
abbrev cenvG (X : Cx) (s : Shared) (scope : Scope) (code : Value) : Env := genEnv scope (cloFrom X.env.cells scope.names []) s.heap.objs.size code builtinsNs X.env
theorem gen_block (I : Inv X pins σ H s) (ok : GSc X.N X.env.scope scope own) (hN : X.N.Nodup) (hfp : ∀ b ∈ fp, FpOk X pins H b ∧ b < s.heap.objs.size) (hBh : B.handled = none) (hBf : B.frames = some X.stack) {code : Value} {a : Addr} {go : Obj}
    {s' : Shared} {it : Value} (hn : s'.heap.Ns s.heap.objs.size (fun y => if y = ".0" then some it else none)) (kp : ∀ b o, s.heap.get? b = some o → s'.heap.get? b = some o) (hos : s'.os = s.os) (hbare : AllBare s'.gens)
    (ha : s.heap.objs.size < a) (hgo : s'.heap.get? a = some go) (hgd : ∀ v, go.data ≠ .cell v) :
    Inv (Cxg X s H (cenvG X s scope code) fp B [(a, go)]) [] (L2.wipe σ (own.map (·.2))) H s' := by
  have hfree : ∀ y ∈ scope.names, y.2 = .free → ∃ c, X.env.cells.lookup y.1 = some c := fun y hy e => by
    rcases ok.blk.free y hy e with k | k
    · exact I.ok.has _ (.inl k)
    · exact I.ok.has _ (.inr k)
  have cm : ∀ {y c}, (cenvG X s scope code).cells.lookup y = some c → X.env.cells.lookup y = some c ∧ c < s.heap.objs.size := fun {y c} e => by
    rcases cloFrom_mem (PySem.mem_of_lookup e) with hm | ⟨h1, rfl⟩
    · cases hm
    · obtain ⟨c, hc⟩ := hfree _ h1 rfl
      rw [hc]
      obtain ⟨w, z⟩ := I.cell _ _ hc
      exact ⟨rfl, z.lt⟩
  have look : ∀ {y}, scope.names.lookup y = some .free → ∃ c, (cenvG X s scope code).cells.lookup y = some c ∧ X.env.cells.lookup y = some c := fun {y} hl => by
    have hy : (y, NameKind.free) ∈ scope.names := PySem.mem_of_lookup hl
    obtain ⟨c', e'⟩ := mem_lookup (cloFrom_has (cells := X.env.cells) (acc := []) hy)
    exact ⟨c', e', (cm e').1⟩
  have nC : ∀ {y}, scope.names.lookup y ≠ some .cell := fun {y} e => ok.nocell _ (PySem.mem_of_lookup e) rfl
  have okB : (Cxg X s H (cenvG X s scope code) fp B [(a, go)]).Ok := by
    refine ⟨I.ok.mod, ok.blk.kind, I.ok.glob, rfl, Nat.le_refl _, fun y z c e1 e2 => I.ok.inj y z c (cm e1).1 (cm e2).1, fun y hy => ?_, fun y c z e => ?_, fun _ => hBh, Around.frames_deeper hBf, .inr ⟨rfl, rfl⟩, fun b hb => ⟨?_, fun y c e z => ?_⟩, I.bs, Nat.le_trans I.ok.bsz I.sz, fun b o e hb => ?_, fun b hb z => ?_, I.stack, I.stkFree⟩
    · rcases hy with hy | hy
      · exact absurd hy nC
      · obtain ⟨c, h1, _⟩ := look hy
        exact ⟨c, h1⟩
    · exact absurd (show false = true from z) (by decide)
    · exact Nat.ne_of_lt (hfp b hb).2
    · exact (hfp b hb).1.2.2.2.2.1 y c (cm e).1 z
    · rcases (hfp b hb).1.2.2.2.1 with z | z
      · exact I.ok.noex b o e z
      · exact absurd (Nat.lt_of_lt_of_le (Heap.lt_size e) (Nat.le_trans I.ok.bsz z)) (Nat.lt_irrefl _)
    · rcases List.mem_cons.mp (I.stkSub b z) with z | z
      · exact (hfp b hb).1.2.1 z
      · exact (hfp b hb).1.2.2.1 z
  refine ⟨okB, hos, hbare, Un.kept kp, ⟨_, hn, fun i y av e1 e2 e3 => ?_⟩, fun y c e => ?_, I.hok.fresh (Nat.le_refl _), fun y c e => I.freeC y c (cm e).1, fun p hp => ?_, I.hok.kept kp, by rw [wipe_length]; exact I.len⟩
  · obtain ⟨e2, hne⟩ := wipe_some e2
    have no : ∀ k', scope.names.lookup y = some k' → ¬ (k' = .local ∨ k' = .cell) := fun k' e hh => by
      rcases ok.blk.own _ (PySem.mem_of_lookup e) hh with e' | e'
      · obtain ⟨p, hp, hpy⟩ := List.mem_map.mp e'
        have e3 := ok.blk.ix p hp
        have : p.1 = y := hpy
        rw [this] at e3
        exact hne (List.mem_map.mpr ⟨p, hp, nodup_ix hN e3 e1⟩)
      · exact e' (List.mem_of_getElem? e1)
    have hfr : scope.names.lookup y = some .free := by
      have e3 : Vis scope y := e3
      rcases e3 with e3 | e3 | e3
      · exact absurd (.inl rfl) (no _ e3)
      · exact absurd e3 nC
      · exact e3
    obtain ⟨m, hn, hl⟩ := I.loc
    have hvis : Vis X.env.scope y := (ok.blk.free _ (PySem.mem_of_lookup hfr) rfl).elim (fun k => .inr (.inl k)) (fun k => .inr (.inr k))
    obtain ⟨w, r, q⟩ := hl i y av e1 e2 hvis
    refine ⟨w, r, .inr ⟨.inr hfr, ?_⟩⟩
    obtain ⟨c, h1, h2⟩ := look hfr
    rcases q with ⟨k, _⟩ | ⟨_, c', e', z⟩
    · have k : X.env.scope.names.lookup y = some .local := k
      rcases ok.blk.free _ (PySem.mem_of_lookup hfr) rfl with k' | k' <;> rw [show X.env.scope.names.lookup y = _ from k'] at k <;> cases k
    · rw [h2] at e'; cases e'
      exact ⟨c, h1, z.keeps kp⟩
  · obtain ⟨w, z⟩ := I.cell y c (cm e).1
    exact ⟨w, z.keeps kp⟩
  · have hp : p = (a, go) := by simpa using hp
    subst hp
    refine ⟨hgo, I.hok.fresh (Nat.le_of_lt ha), Nat.ne_of_gt ha, fun hm => ?_, hgd⟩
    obtain ⟨_, o, ho, _⟩ := I.stack.mem hm
    exact absurd (Nat.lt_trans (Heap.lt_size ho) ha) (Nat.lt_irrefl _)
/-- what the making of the generator leaves -/
structure Made (X : Cx) (pins : List (Addr × Obj)) (σ : L2.St) (elt tg iter : Expr) (scope : Scope) (gpos : Pos) (P : Addr) (J : It) (H1 H4 : Hp) (fp : List Addr) (it : Addr) (tn : Nat → Heap → Prop) (s4 : Shared) (cd : Value) (a : Addr) (go : Obj) (g : Nat) (s5 : Shared) : Prop where
  tab : GxR.Tabbed P H1 H4
  turn : Turn X.prog X.w X.K tg J fp it tn
  tn : tn 0 s5.heap
  inv : Inv X pins σ H4 s4
  fp : ∀ b ∈ fp, FpOk X pins H4 b ∧ b < s4.heap.objs.size
  ns : s5.heap.Ns s4.heap.objs.size (fun y => if y = ".0" then some (.ref it) else none)
  kp : ∀ b o, s4.heap.get? b = some o → s5.heap.get? b = some o
  os : s5.os = s4.os
  bare : AllBare s5.gens
  lt : s4.heap.objs.size < a
  lt5 : a < s5.heap.objs.size
  got : s5.heap.get? a = some go
  nc : ∀ v, go.data ≠ .cell v
  isg : ∀ h : Heap, h.get? a = some go → h.IsGen a g
  gen : s5.gens[g]? = some (.fresh (gStart elt tg iter scope gpos it (cenvG X s4 scope cd)))
theorem gen_make {c P : Addr} {elt tg iter : Expr} {gpos : Pos} {wi : TI} {k : Nat} {Q' : Value → Shared → Prop} {R : It → Hp → Prop}
    (hr : Room k X.A) (TB : GxR.TabB X.base X.mg c P) (hcode : X.env.code = .ref c) (ok : GSc X.N X.env.scope scope own) (hi : PI X tg iter wi) (hs : ∀ v, genFold iter X.env v = pure v) (I : Inv X pins σ H s)
    (h : wi σ H fun J H1 => GxR.TabG H1 P ∧ R J H1)
    (hQ : ∀ J H1 H4 fp it tn s4 cd a go g s5, R J H1 → Made X pins σ elt tg iter scope gpos P J H1 H4 fp it tn s4 cd a go g s5 → Q' (.ref a) s5) :
    wpAny (model X.prog X.w) X.A (eval (.GeneratorExp elt [⟨tg, iter, [], 0⟩] scope gpos) X.env) Q' X.xe s := by
  have hfree : ∀ y ∈ scope.names, y.2 = .free → ∃ c, X.env.cells.lookup y.1 = some c := fun y hy e => by
    rcases ok.blk.free y hy e with k | k
    · exact I.ok.has _ (.inl k)
    · exact I.ok.has _ (.inr k)
  refine wpAny_GeneratorExp_make ok.co (closure_ok hfree) ok.nocell ok.dot ok.blk.kind (by have := hr.dp; omega) ?_ hs
  refine thn (hi.run pins s σ H _ I h) fun v s1 h1 => thn h1 fun itv s2 h2 => ?_
  obtain ⟨it, fp, tn, J, H2, rfl, I2, T, st2, f2, ⟨ps, hP, ht⟩, hR⟩ := h2
  have hPs : s2.heap.get? P = some { cls := .none, data := .fields ps } := I2.hok P _ hP
  have cd0 : PySem.W.CodeHd s2.heap c P := TB.code.keeps I2.bk
  have nP : ∀ b ∈ fp, b ≠ P := fun b hb z => by
    have := (f2 b hb).1
    rw [z, hP] at this
    cases this
  have flt : ∀ b ∈ fp, b < s2.heap.objs.size := fun b hb => by
    obtain ⟨o, e, _⟩ := T.obj _ _ st2 b hb
    exact Heap.lt_size e
  have cont : ∀ (code : Value) (h3 : Heap) (tk : Nat) (ps' : Array Value), Heap.ExtBut P s2.heap h3 → s2.heap.objs.size ≤ h3.objs.size → h3.get? P = some { cls := .none, data := .fields ps' } → (∃ more, ps' = ps ++ more) → TriplesOk ps'.toList →
      wpAny (model X.prog X.w) X.A (builtinsFor X.env.globals X.env.builtins) (fun bi s₄ =>
        ∀ h', h'.Ns s₄.heap.objs.size (fun y => if y = ".0" then some (.ref it) else none) → Heap.SameBut s₄.heap.objs.size (s₄.heap.push { cls := .type "frame", data := .dict #[] }) h' →
          Q' (.ref h'.objs.size) { s₄ with
            gens := s₄.gens.push (.fresh (.compStart (.GeneratorExp elt [⟨tg, iter, [], 0⟩] scope gpos) 0 (.ref it) .none (genEnv scope (cloFrom X.env.cells scope.names []) s₄.heap.objs.size code bi X.env))),
            toks := s₄.toks + 1 + 1 + 1,
            heap := h'.push { cls := .type "generator", data := .fields #[.int s₄.gens.size 0, .str "<genexpr>" (s₄.toks + 1), .str (X.env.qual ++ "<genexpr>") (s₄.toks + 1 + 1)] } }) X.xe { s2 with heap := h3, toks := tk } := by
    intro code h3 tk ps' hx hsz hP3 hmore ht3
    obtain ⟨bm, ob, e1, e2, e3, e4, e5, e6, e7, e8⟩ := TB.bm
    have keep3 : ∀ b u, b ≠ P → s2.heap.get? b = some u → h3.get? b = some u := fun b u hb e => hx b u hb e
    refine wpAny_builtinsFor (m := X.mg) (by rw [I2.ok.glob]; exact (I2.mod.glob.keeps I2.bk).extBut hx TB.gP) e1 e2 (keep3 _ _ e4 (I2.bk _ _ e5)) e6 e7 e8 ?_
    intro h' hn' hs'
    obtain ⟨more, em⟩ := hmore
    have I4 := GxR.inv_tab (more := more) (h' := h3) (g' := s2.gens) (d' := s2.drawn) (t' := tk) I2 hP keep3 (by rw [← em]; exact hP3) I2.bare
    have hTb : GxR.Tabbed P H2 (upd H2 P (.tbl (ps ++ more))) := ⟨⟨ps ++ more, upd_same, by rw [← em]; exact ht3⟩, fun b hb => upd_ne hb⟩
    have sz' : h'.objs.size = h3.objs.size + 1 := by rw [hs'.1, Heap.size_push]
    have k' : ∀ b o, h3.get? b = some o → h'.get? b = some o := fun b o e => hs'.extBut b o (Nat.ne_of_lt (Heap.lt_size e)) (Heap.get?_push_of_some _ e)
    refine hQ J H2 _ fp it tn { s2 with heap := h3, toks := tk } code h'.objs.size { cls := .type "generator", data := .fields #[.int s2.gens.size 0, .str "<genexpr>" (tk + 1), .str (X.env.qual ++ "<genexpr>") (tk + 1 + 1)] } s2.gens.size _ hR
      ⟨hTb, T, T.keep _ _ _ st2 fun b hb o e => Heap.get?_push_of_some _ (k' b o (keep3 b o (nP b hb) e)), I4, fun b hb => ⟨⟨by rw [upd_ne (nP b hb)]; exact (f2 b hb).1, (f2 b hb).2⟩, Nat.lt_of_lt_of_le (flt b hb) hsz⟩, hn'.push _,
        fun b o e => Heap.get?_push_of_some _ (k' b o e), rfl, I2.bare.push rfl, ?_, ?_, Heap.get?_push_size _ rfl, (fun v q => by cases q), fun h e => ⟨_, _, _, e, rfl, rfl, rfl⟩, Array.getElem?_push_size ..⟩
    · show h3.objs.size < h'.objs.size
      omega
    · show h'.objs.size < (h'.push _).objs.size
      rw [Heap.size_push]
      exact Nat.lt_succ_self _
  refine ⟨I2.nolimit, ?_⟩
  cases hf : codeAmong gpos ps.toList with
  | none =>
    refine wpAny_genexprCodeX hcode (cd0.code hPs ht) (cd0.tab hPs) hf fun c' h' tk hx hge hlt hco' _ htab' _ => ?_
    obtain ⟨o1, vs, f1, tf, fl, tg', inF, tx, tt, op, _, _, _, _, _, _, _, _, _, htr, _⟩ := hco'
    exact cont _ h' tk _ hx (Nat.le_trans hge (Nat.le_of_lt hlt)) htab'.2 ⟨_, rfl⟩ htr
  | some cv =>
    refine wpAny_genexprCode_hit hcode (cd0.code hPs ht) hf ?_
    exact cont cv s2.heap s2.toks ps (Heap.ExtBut.refl _ _) (Nat.le_refl _) hPs ⟨#[], by simp⟩ ht
end
end GX

end
section
set_option maxHeartbeats 1000000
/-! all, any, sum of a generator expression: rules. -/
namespace GX
open PySem PySem.Spec PyProof.Rows L2
/-- the turns of the generator: L items, W ahead of each -/
def Turns (J : It) (g : TG) (te : TE) (σ0 : L2.St) (vs : List Nat) (Out : Nat → V → Hp → Prop) (Fin : Hp → Prop) (L : Nat) (W : Nat → Hp → Prop) : Prop :=
  (∀ H, W L H → J.stop L H ∧ Fin H) ∧ ∀ i H, i < L → W i H → J.go i H ∧ ∀ x H', J.yld i H x H' → g x σ0 H' fun σ2 H2 => L2.wipe σ2 vs = σ0 ∧ te σ2 H2 fun y H3 => Out i y H3
def tAllG (P : Addr) (neg : Bool) (wi : TI) (g : TG) (te : TE) (vs : List Nat) : TE := fun σ H Q => wi σ H fun J H1 => GxR.TabG H1 P ∧ ∀ H4, GxR.Tabbed P H1 H4 → ∃ (L : Nat) (W : Nat → Hp → Prop), W 0 H4 ∧
  Turns J g te (L2.wipe σ vs) vs (fun i y H3 => (y = .bl neg ∧ W (i + 1) H3) ∨ (y = .bl (!neg) ∧ Q (.bl (!neg)) H3)) (fun H => Q (.bl neg) H) L W
def tSumG (P : Addr) (wi : TI) (g : TG) (te : TE) (vs : List Nat) : TE := fun σ H Q => wi σ H fun J H1 => GxR.TabG H1 P ∧ ∀ H4, GxR.Tabbed P H1 H4 → ∃ (L : Nat) (W : Nat → Hp → Prop) (val : Nat → Int), W 0 H4 ∧
  Turns J g te (L2.wipe σ vs) vs (fun i y H3 => y = .int (val i) ∧ InLong (val i) ∧ InLong (preSum val (i + 1)) ∧ W (i + 1) H3) (fun H => Q (.int (preSum val L)) H) L W
section
variable {P' : Program} {w : World} {A : Around} {a : Addr} {g : Nat} {s : Shared} {Q : Value → Shared → Prop} {E : Value → Shared → Prop}
theorem call_all_gen (h : s.heap.IsGen a g) (hl : codeAny (model P' w) A (.builtin "all.loop" ⟨[.ref a], []⟩) (fun r s' => match r with | .ok (.ret v) => Q v s' | .ok _ => False | .error e => E e s') s) : wpAny (model P' w) A (call (.builtin "all") [.ref a]) Q E s := by
  refine (call_function_tree F.kind_all F.plain_all F.entry_all (F.args_all1 _) ?_)
  unfold Builtin.«all»
  refine wpAny_bind (m := oneArg "all" _) (wpAny_pure ?_)
  refine wpAny_bind (wpAny_pyIter_gen h ?_)
  exact wpAny_pure ⟨plainId_quiet F.plain_all_loop _, hl⟩
theorem call_any_gen (h : s.heap.IsGen a g) (hl : codeAny (model P' w) A (.builtin "any.loop" ⟨[.ref a], []⟩) (fun r s' => match r with | .ok (.ret v) => Q v s' | .ok _ => False | .error e => E e s') s) : wpAny (model P' w) A (call (.builtin "any") [.ref a]) Q E s := by
  refine (call_function_tree F.kind_any F.plain_any F.entry_any (F.args_any1 _) ?_)
  unfold Builtin.«any»
  refine wpAny_bind (m := oneArg "any" _) (wpAny_pure ?_)
  refine wpAny_bind (wpAny_pyIter_gen h ?_)
  exact wpAny_pure ⟨plainId_quiet F.plain_any_loop _, hl⟩
theorem call_sum_gen (h : s.heap.IsGen a g) (hl : ∀ (o : Obj) (tk : Tok) (t2 : Nat), (∃ c, o = { cls := .type "list", dict := none, data := .seq #[.int 0 tk] c, slots := #[] }) →
      codeAny (model P' w) A (.builtin "sum.loop" ⟨[.ref a, .ref s.heap.objs.size, rawInt 0, rawInt 0], []⟩) (fun r s' => match r with | .ok (.ret v) => Q v s' | .ok _ => False | .error e => E e s') { s with heap := s.heap.push o, toks := t2 }) : wpAny (model P' w) A (call (.builtin "sum") [.ref a]) Q E s := by
  refine (call_function_tree F.kind_sum F.plain_sum F.entry_sum (F.args_sum1 _) ?_)
  unfold Builtin.«sum»
  simp only [List.length_cons, List.length_nil]
  rw [if_neg (by decide)]
  refine wpAny_bind (wpAny_of_eq (show Builtin.Builtins.bindParams "sum" ["start"] 0 { } = pure [none] from rfl) ?_)
  refine wpAny_bind (wpAny_pyIter_gen h ?_)
  refine wpAny_bind (wpAny_mkInt ?_)
  refine wpAny_bind (wpAny_pure ?_)
  simp only [List.forIn_cons, List.forIn_nil]
  refine wpAny_bind (wpAny_bind (wpAny_bind (wpAny_isInstance (T := "int") (b := false) (typeIs_int _ _ _) PySem.sub_int_str ?_)))
  simp only [Bool.false_eq_true, if_false]
  refine wpAny_pure (wpAny_bind (wpAny_bind (wpAny_isInstance (T := "int") (b := false) (typeIs_int _ _ _) PySem.sub_int_bytes ?_)))
  simp only [Bool.false_eq_true, if_false]
  refine wpAny_pure (wpAny_bind (wpAny_bind (wpAny_isInstance (T := "int") (b := false) (typeIs_int _ _ _) PySem.sub_int_bytearray ?_)))
  simp only [Bool.false_eq_true, if_false]
  refine wpAny_pure (wpAny_pure ?_)
  refine wpAny_bind (wpAny_newObj_type ?_)
  refine wpAny_pure ⟨plainId_quiet F.plain_sum_loop _, ?_⟩
  exact hl _ _ _ ⟨_, rfl⟩
end
section
variable {X : Cx} {pins : List (Addr × Obj)} {σ : L2.St} {scope : Scope} {own : List (Str × Nat)} {c P : Addr} {elt tg iter : Expr} {gpos pos p : Pos} {wi : TI} {g : TG} {te : TE} {k : Nat}
theorem wipe_twice (σ : L2.St) : ∀ vs : List Nat, L2.wipe (L2.wipe σ vs) vs = L2.wipe σ vs := fun vs => by
  refine List.ext_getElem? fun i => ?_
  have key : ∀ (τ : L2.St) (ws : List Nat) (i : Nat), (L2.wipe τ ws)[i]? = if i ∈ ws then (τ[i]?).map (fun _ => none) else τ[i]? := by
    intro τ ws
    induction ws with
    | nil => intro i; simp [L2.wipe]
    | cons v r ih =>
      intro i
      unfold L2.wipe
      by_cases hv : v = i
      · subst hv
        rw [List.getElem?_set, if_pos rfl, if_pos List.mem_cons_self, L2.wipe_length]
        by_cases hl : v < τ.length
        · rw [if_pos hl, List.getElem?_eq_getElem hl]; rfl
        · rw [if_neg hl, List.getElem?_eq_none (by omega)]; rfl
      · rw [List.getElem?_set_ne hv, ih i]
        have : (i ∈ v :: r) ↔ i ∈ r := by
          rw [List.mem_cons]
          exact ⟨fun q => q.elim (fun z => absurd z.symm hv) id, .inr⟩
        simp only [this]
  rw [key, key]
  split
  · rw [Option.map_map]; rfl
  · rfl
theorem gen_ready {fp : List Addr} {J : It} {H1 H4 : Hp} {it : Addr} {tn : Nat → Heap → Prop} {s4 s5 : Shared} {cd : Value} {a : Addr} {go : Obj} {gn : Nat} (hr : Room (k + 4) X.A) (ok : GSc X.N X.env.scope scope own) (hN : X.N.Nodup) (m : Made X pins σ elt tg iter scope gpos P J H1 H4 fp it tn s4 cd a go gn s5) :
    Inv (Cxg X s4 H4 (cenvG X s4 scope cd) fp X.A.in1.in1 [(a, go)]) [] (L2.wipe σ (own.map (·.2))) H4 s5 ∧
    (∀ x : GenState, x.bare = true → Z (Cxg X s4 H4 (cenvG X s4 scope cd) fp X.A.in1.in1 [(a, go)]) (L2.wipe σ (own.map (·.2))) fp [] tn 0 H4 (s5.setGen gn x)) ∧
    (∀ {H' : Hp} {s' : Shared}, Inv (Cxg X s4 H4 (cenvG X s4 scope cd) fp X.A.in1.in1 [(a, go)]) [] (L2.wipe σ (own.map (·.2))) H' s' → Inv X pins σ H' s') ∧
    (∀ {pins' σ' H' s'}, Inv (Cxg X s4 H4 (cenvG X s4 scope cd) fp X.A.in1.in1 [(a, go)]) pins' σ' H' s' → s'.heap.IsGen a gn) ∧ X.A.in1.handled = none ∧ X.A.in1.depth < recursionLimit ∧ Room k (X.A.in1.in1.deeper (cenvG X s4 scope cd)) := by
  have hr1 : Room (k + 3) X.A.in1 := hr.in1
  have hr2 : Room (k + 2) X.A.in1.in1 := hr1.in1
  have I' := gen_block (B := X.A.in1.in1) (code := cd) m.inv ok hN m.fp hr2.hd m.inv.ok.frames m.ns m.kp m.os m.bare m.lt m.got m.nc
  refine ⟨I', fun x hx => ⟨inv_gens I' gn x hx, m.tn, fun b hb => ?_, by simp⟩, fun {H' s'} J' => ?_, fun {pins' σ' H' s'} J' => m.isg _ (J'.pin (a, go) (List.mem_append_left _ List.mem_cons_self)).1, hr1.hd, by have := hr1.dp; omega, (hr2.deeper _).mono (by omega)⟩
  · obtain ⟨e1, e2⟩ := I'.ok.exf b hb
    refine ⟨(m.fp b hb).1.1, e1, I'.ok.exfs b hb, .inl hb, e2, fun p hp => ?_⟩
    have hp' : p = (a, go) := by simpa [pinsAt] using hp
    rw [hp']
    exact Nat.ne_of_gt (Nat.lt_trans (m.fp b hb).2 m.lt)
  · exact m.inv.call' (ch := fp) J'.os J'.base J'.hok J'.bare fun b hb => ⟨(m.fp b hb).1.2.2.2.1, (m.fp b hb).1.2.1, (m.fp b hb).1.2.2.2.2.1, (m.fp b hb).1.2.2.2.2.2⟩
theorem pe_allG (hr : Room (k + 4) X.A) (hgl : Gl X "all") (hm : X.mg "all" = none) (hb : bootBuiltins "all" = some (.builtin "all")) (TB : GxR.TabB X.base X.mg c P) (hcode : X.env.code = .ref c) (ok : GSc X.N X.env.scope scope own) (hN : X.N.Nodup) (hi : PI X tg iter wi)
    (hg : ∀ s H cd fp B pn, PG (Cxg X s H (cenvG X s scope cd) fp B pn) tg g) (he : ∀ s H cd fp B pn, Room k (B.deeper (cenvG X s scope cd)) → PE (Cxg X s H (cenvG X s scope cd) fp B pn) elt te) (hs : ∀ v, genFold iter X.env v = pure v)
    (hse : starEach [.GeneratorExp elt [⟨tg, iter, [], 0⟩] scope gpos] X.env = (false, eval (.GeneratorExp elt [⟨tg, iter, [], 0⟩] scope gpos) X.env) :: starEach [] X.env := by rfl) :
    PE X (.Call (.Name "all" p) [.GeneratorExp elt [⟨tg, iter, [], 0⟩] scope gpos] [] pos) (tAllG P true wi g te (own.map (·.2))) := by
  refine ⟨fun pins s σ H Q I h => ?_⟩
  refine wpAny_Call_Name_kw (ld_blt I hgl hm hb ?_)
  refine PyProof.Rows.callWith_builtin1 ?_ hse (by rfl)
  rw [hse]
  show wpAny _ _ (spliced ((false, eval (.GeneratorExp elt [⟨tg, iter, [], 0⟩] scope gpos) X.env) :: backTo pos (starEach [] X.env))) _ _ s
  refine Calls.spliced_cons (gen_make (R := fun J H1 => ∀ H4, GxR.Tabbed P H1 H4 → ∃ (L : Nat) (W : Nat → Hp → Prop), W 0 H4 ∧ Turns J g te (L2.wipe σ (own.map (·.2))) (own.map (·.2)) (fun i y H3 => (y = .bl true ∧ W (i + 1) H3) ∨ (y = .bl (!true) ∧ Q (.bl (!true)) H3)) (fun H => Q (.bl true) H) L W)
    hr TB hcode ok hi hs I h fun J H1 H4 fp it tn s4 cd a go gn s5 hR m => ?_)
  refine (Calls.spliced_nil ?_)
  obtain ⟨L, W, w0, hstop, hgo⟩ := hR H4 m.tab
  obtain ⟨I', z', ret, hpn, hbh, hroom, hdeep⟩ := gen_ready hr ok hN m
  have seg := seg_start (X' := Cxg X s4 H4 (cenvG X s4 scope cd) fp X.A.in1.in1 [(a, go)]) (iter := iter) (scope := scope) (pos := gpos) (B := X.A.in1.in1) rfl rfl (fun _ _ z => z) rfl ok.co m.turn (hg _ _ _ _ _ _) (he _ _ _ _ _ _ hdeep) (wipe_twice σ _) hstop hgo
    (s5.setGen gn .running) H4 (z' _ rfl) w0
  refine call_all_gen (m.isg _ m.got) (all_loop (X' := Cxg X s4 H4 (cenvG X s4 scope cd) fp X.A.in1.in1 [(a, go)]) (A := X.A) hbh hroom hpn m.turn (fun i y H o => ?_) (fun H s' J' f => ⟨.bl true, H, ret J', rfl, f⟩) L 0 s5 (Nat.zero_add _) ⟨m.isg _ m.got, I'.nolimit, _, m.gen, rfl, seg⟩)
  rcases o with o | ⟨e, o⟩
  · exact .inl o
  · exact .inr ⟨e, fun s' J' => ⟨.bl false, H, ret J', rfl, o⟩⟩
theorem pe_anyG (hr : Room (k + 4) X.A) (hgl : Gl X "any") (hm : X.mg "any" = none) (hb : bootBuiltins "any" = some (.builtin "any")) (TB : GxR.TabB X.base X.mg c P) (hcode : X.env.code = .ref c) (ok : GSc X.N X.env.scope scope own) (hN : X.N.Nodup) (hi : PI X tg iter wi)
    (hg : ∀ s H cd fp B pn, PG (Cxg X s H (cenvG X s scope cd) fp B pn) tg g) (he : ∀ s H cd fp B pn, Room k (B.deeper (cenvG X s scope cd)) → PE (Cxg X s H (cenvG X s scope cd) fp B pn) elt te) (hs : ∀ v, genFold iter X.env v = pure v)
    (hse : starEach [.GeneratorExp elt [⟨tg, iter, [], 0⟩] scope gpos] X.env = (false, eval (.GeneratorExp elt [⟨tg, iter, [], 0⟩] scope gpos) X.env) :: starEach [] X.env := by rfl) :
    PE X (.Call (.Name "any" p) [.GeneratorExp elt [⟨tg, iter, [], 0⟩] scope gpos] [] pos) (tAllG P false wi g te (own.map (·.2))) := by
  refine ⟨fun pins s σ H Q I h => ?_⟩
  refine wpAny_Call_Name_kw (ld_blt I hgl hm hb ?_)
  refine PyProof.Rows.callWith_builtin1 ?_ hse (by rfl)
  rw [hse]
  show wpAny _ _ (spliced ((false, eval (.GeneratorExp elt [⟨tg, iter, [], 0⟩] scope gpos) X.env) :: backTo pos (starEach [] X.env))) _ _ s
  refine Calls.spliced_cons (gen_make (R := fun J H1 => ∀ H4, GxR.Tabbed P H1 H4 → ∃ (L : Nat) (W : Nat → Hp → Prop), W 0 H4 ∧ Turns J g te (L2.wipe σ (own.map (·.2))) (own.map (·.2)) (fun i y H3 => (y = .bl false ∧ W (i + 1) H3) ∨ (y = .bl (!false) ∧ Q (.bl (!false)) H3)) (fun H => Q (.bl false) H) L W)
    hr TB hcode ok hi hs I h fun J H1 H4 fp it tn s4 cd a go gn s5 hR m => ?_)
  refine (Calls.spliced_nil ?_)
  obtain ⟨L, W, w0, hstop, hgo⟩ := hR H4 m.tab
  obtain ⟨I', z', ret, hpn, hbh, hroom, hdeep⟩ := gen_ready hr ok hN m
  have seg := seg_start (X' := Cxg X s4 H4 (cenvG X s4 scope cd) fp X.A.in1.in1 [(a, go)]) (iter := iter) (scope := scope) (pos := gpos) (B := X.A.in1.in1) rfl rfl (fun _ _ z => z) rfl ok.co m.turn (hg _ _ _ _ _ _) (he _ _ _ _ _ _ hdeep) (wipe_twice σ _) hstop hgo
    (s5.setGen gn .running) H4 (z' _ rfl) w0
  refine call_any_gen (m.isg _ m.got) (any_loop (X' := Cxg X s4 H4 (cenvG X s4 scope cd) fp X.A.in1.in1 [(a, go)]) (A := X.A) hbh hroom hpn m.turn (fun i y H o => ?_) (fun H s' J' f => ⟨.bl false, H, ret J', rfl, f⟩) L 0 s5 (Nat.zero_add _) ⟨m.isg _ m.got, I'.nolimit, _, m.gen, rfl, seg⟩)
  rcases o with o | ⟨e, o⟩
  · exact .inl o
  · exact .inr ⟨e, fun s' J' => ⟨.bl true, H, ret J', rfl, o⟩⟩
theorem pe_sumG (hr : Room (k + 4) X.A) (hgl : Gl X "sum") (hm : X.mg "sum" = none) (hb : bootBuiltins "sum" = some (.builtin "sum")) (TB : GxR.TabB X.base X.mg c P) (hcode : X.env.code = .ref c) (ok : GSc X.N X.env.scope scope own) (hN : X.N.Nodup) (hi : PI X tg iter wi)
    (hg : ∀ s H cd fp B pn, PG (Cxg X s H (cenvG X s scope cd) fp B pn) tg g) (he : ∀ s H cd fp B pn, Room k (B.deeper (cenvG X s scope cd)) → PE (Cxg X s H (cenvG X s scope cd) fp B pn) elt te) (hs : ∀ v, genFold iter X.env v = pure v)
    (hse : starEach [.GeneratorExp elt [⟨tg, iter, [], 0⟩] scope gpos] X.env = (false, eval (.GeneratorExp elt [⟨tg, iter, [], 0⟩] scope gpos) X.env) :: starEach [] X.env := by rfl) :
    PE X (.Call (.Name "sum" p) [.GeneratorExp elt [⟨tg, iter, [], 0⟩] scope gpos] [] pos) (tSumG P wi g te (own.map (·.2))) := by
  refine ⟨fun pins s σ H Q I h => ?_⟩
  refine wpAny_Call_Name_kw (ld_blt I hgl hm hb ?_)
  refine PyProof.Rows.callWith_builtin1 ?_ hse (by rfl)
  rw [hse]
  show wpAny _ _ (spliced ((false, eval (.GeneratorExp elt [⟨tg, iter, [], 0⟩] scope gpos) X.env) :: backTo pos (starEach [] X.env))) _ _ s
  refine Calls.spliced_cons (gen_make (R := fun J H1 => ∀ H4, GxR.Tabbed P H1 H4 → ∃ (L : Nat) (W : Nat → Hp → Prop) (val : Nat → Int), W 0 H4 ∧ Turns J g te (L2.wipe σ (own.map (·.2))) (own.map (·.2)) (fun i y H3 => y = .int (val i) ∧ InLong (val i) ∧ InLong (preSum val (i + 1)) ∧ W (i + 1) H3) (fun H => Q (.int (preSum val L)) H) L W)
    hr TB hcode ok hi hs I h fun J H1 H4 fp it tn s4 cd a go gn s5 hR m => ?_)
  refine (Calls.spliced_nil ?_)
  obtain ⟨L, W, val, w0, hstop, hgo⟩ := hR H4 m.tab
  obtain ⟨I', z', ret, hpn, hbh, hroom, hdeep⟩ := gen_ready hr ok hN m
  have hlt : s4.heap.objs.size ≤ s5.heap.objs.size := Nat.le_of_lt (Nat.lt_trans m.lt m.lt5)
  refine call_sum_gen (m.isg _ m.got) fun o tk t2 ⟨cc, ho⟩ => ?_
  have hfr : o.isFreed = false := by rw [ho]; rfl
  have hcl : ∀ v, o.data ≠ .cell v := fun v q => by rw [ho] at q; cases q
  have hS : (s5.heap.push o).get? s5.heap.objs.size = some o := Heap.get?_push_size _ hfr
  have kS : ∀ b u, s5.heap.get? b = some u → (s5.heap.push o).get? b = some u := fun b u e => Heap.get?_push_of_some _ e
  have I6 : Inv (Cxg X s4 H4 (cenvG X s4 scope cd) fp X.A.in1.in1 [(a, go)]) [] (L2.wipe σ (own.map (·.2))) H4 { s5 with heap := s5.heap.push o, toks := t2 } := I'.kept kS
  have pinS : ∀ p ∈ pinsAt [s5.heap.objs.size] (s5.heap.push o), p = (s5.heap.objs.size, o) := fun p hp => by
    obtain ⟨q1, q2⟩ := of_pinsAt hp
    have q3 : p.1 = s5.heap.objs.size := by simpa using q1
    rw [q3, hS] at q2
    exact Prod.ext q3 (Option.some.inj q2).symm
  have I7 : Inv (Cxg X s4 H4 (cenvG X s4 scope cd) fp X.A.in1.in1 [(a, go)]) (pinsAt [s5.heap.objs.size] (s5.heap.push o)) (L2.wipe σ (own.map (·.2))) H4 { s5 with heap := s5.heap.push o, toks := t2 } := I6.pins_of fun p hp => by
    rw [pinS p hp]
    exact ⟨hS, I'.hok.fresh (Nat.le_refl _), Nat.ne_of_gt I'.lt, I'.nofs (Nat.le_refl _), hcl⟩
  have z7 : Z (Cxg X s4 H4 (cenvG X s4 scope cd) fp X.A.in1.in1 [(a, go)]) (L2.wipe σ (own.map (·.2))) fp [s5.heap.objs.size] tn 0 H4 (({ s5 with heap := s5.heap.push o, toks := t2 } : Shared).setGen gn .running) :=
    ⟨inv_gens I7 gn .running rfl, m.turn.keep _ _ _ m.tn fun b _ u e => kS b u e, fun b hb => by
      obtain ⟨f0, f1, f2, f3, f4, f5⟩ := (z' .running rfl).fp b hb
      refine ⟨f0, f1, f2, f3, f4, fun p hp => ?_⟩
      rcases List.mem_append.mp hp with q | q
      · exact f5 p (List.mem_append_left _ q)
      · rw [pinS p q]
        exact Nat.ne_of_gt (Nat.lt_of_lt_of_le (m.fp b hb).2 hlt), fun b hb => by rw [List.mem_singleton.mp hb]; exact ⟨_, hS⟩⟩
  have seg := seg_start (X' := Cxg X s4 H4 (cenvG X s4 scope cd) fp X.A.in1.in1 [(a, go)]) (iter := iter) (scope := scope) (pos := gpos) (B := X.A.in1.in1) rfl rfl (fun _ _ z => z) rfl ok.co m.turn (hg _ _ _ _ _ _) (he _ _ _ _ _ _ hdeep) (wipe_twice σ _) hstop hgo _ H4 z7 w0
  exact sum_loop (X' := Cxg X s4 H4 (cenvG X s4 scope cd) fp X.A.in1.in1 [(a, go)]) (A := X.A) hbh hroom hpn m.turn (S := s5.heap.objs.size) hlt (fun p hp => by
      have hp' : p = (a, go) := by simpa using hp
      rw [hp']
      exact Nat.ne_of_lt m.lt5) val (fun i y H o => o) (fun H s' tk J' f => ⟨.int (preSum val L), H, ret J', ⟨_, rfl⟩, f⟩) L 0 _ tk cc (Nat.zero_add _) (hS.trans (congrArg some ho)) ⟨m.isg _ (kS _ _ m.got), I6.nolimit, _, m.gen, rfl, seg⟩
end
end GX

end
section
/-! all, any, sum of a generator expression by data. -/
namespace MX
open PySem PySem.Spec PyProof.Rows L2
/-- neg: true for all, false for any -/
noncomputable def mGen (ok : Os → Prop) (g : D → Fr → Os → Option Fr) (vs : List Nat) (e : ME) (neg : Bool) : List D → Fr → Os → Res D
  | [] => fun _ S => open Classical in if ok S then .ok (.bl neg) S else .bad
  | x :: xs => fun σ S => open Classical in if ok S then (match g x (wipeD σ vs) S with
      | some σ2 => (match e σ2 S with
        | .ok (.bl b) S1 => if b = neg then mGen ok g vs e neg xs σ S1 else .ok (.bl (!neg)) S1
        | _ => .bad)
      | none => .bad) else .bad
@[simp] noncomputable def mGenT (neg : Bool) (l : ME) (g : D → Fr → Os → Option Fr) (vs : List Nat) (e : ME) : ME := fun σ S => (l σ S).bind fun d S1 => match d with
  | .tup l => mGen (fun _ => True) g vs e neg l σ S1
  | _ => .bad
@[simp] noncomputable def mGenL (neg : Bool) (l : ME) (g : D → Fr → Os → Option Fr) (vs : List Nat) (e : ME) : ME := fun σ S => (l σ S).bind fun d S1 => match d with
  | .loc n => (match lstAt S1 n with
    | some l => mGen (fun S' => lstAt S' n = some l) g vs e neg l σ S1
    | none => .bad)
  | .rl l => mGen (fun _ => True) g vs e neg l σ S1
  | _ => .bad
noncomputable def mSumG (ok : Os → Prop) (g : D → Fr → Os → Option Fr) (vs : List Nat) (e : ME) : List D → Int → Fr → Os → Res D
  | [], acc => fun _ S => open Classical in if ok S then .ok (.int acc) S else .bad
  | x :: xs, acc => fun σ S => open Classical in if ok S then (match g x (wipeD σ vs) S with
      | some σ2 => (match e σ2 S with
        | .ok (.int z) S1 => if InLong z ∧ InLong (acc + z) then mSumG ok g vs e xs (acc + z) σ S1 else .bad
        | _ => .bad)
      | none => .bad) else .bad
def mVals (g : D → Fr → Os → Option Fr) (vs : List Nat) (e : ME) : List D → Fr → Os → List Int
  | [] => fun _ _ => []
  | x :: xs => fun σ S => match g x (wipeD σ vs) S with
      | some σ2 => (match e σ2 S with
        | .ok (.int z) S1 => z :: mVals g vs e xs σ S1
        | _ => [])
      | none => []
@[simp] noncomputable def mSumT (l : ME) (g : D → Fr → Os → Option Fr) (vs : List Nat) (e : ME) : ME := fun σ S => (l σ S).bind fun d S1 => match d with
  | .tup l => mSumG (fun _ => True) g vs e l 0 σ S1
  | _ => .bad
variable [TL]
section
variable {K : PySem.W.Frag} {g : D → Fr → Os → Option Fr} {t : TG} {vs : List Nat} {fe fl : ME} {W : WX}
theorem nd_ne (hn : TL.nd K) {p : He.Defn} {q : He.Defn × Str} (hp : p ∈ TL.tf) (hq : q ∈ TL.tl) : (He.cT K q.1).2 ≠ (He.cT K p).2 := fun z => by
  unfold TL.nd at hn
  rw [List.map_append] at hn
  exact (List.nodup_append.mp hn).2.2 _ (List.mem_map.mpr ⟨p, hp, rfl⟩) _ (List.mem_map.mpr ⟨q.1, List.mem_map.mpr ⟨q, hq, rfl⟩, rfl⟩) z.symm
theorem Ok.tabbed {μ : List Addr} {S : Os} {H H' : Hp} {p0 : He.Defn} (o : Ok K μ S H) (h0 : p0 ∈ TL.tf) (h : GxR.Tabbed (He.cT K p0).2 H H') : Nx H μ H' μ ∧ Ok K μ S H' := by
  generalize eP : (He.cT K p0).2 = P at h
  have hP := o.tab p0 h0
  rw [eP] at hP
  obtain ⟨ps, hp, _⟩ := hP
  have ne : ∀ b u, H b = some u → (∀ q, u ≠ .tbl q) → b ≠ P := fun b u e q z => by
    rw [z, hp] at e
    exact q ps (Option.some.inj e).symm
  have nx : Nx H μ H' μ := ⟨⟨[], (List.append_nil _).symm⟩, fun b xs e => by rw [h.2 b (ne b _ e fun q z => by cases z)]; exact e, fun b ob xs e => by rw [h.2 b (ne b _ e fun q z => by cases z)]; exact e, fun b ob xs e => by rw [h.2 b (ne b _ e fun q z => by cases z)]; exact e, fun b vs e => by rw [h.2 b (ne b _ e fun q z => by cases z)]; exact e⟩
  refine ⟨nx, o.len, o.nd, fun p hq => ?_, fun q hq => ?_, o.tnd, fun n ob a e1 e2 => ?_⟩
  · by_cases hb : (He.cT K p).2 = P
    · rw [hb]; exact h.1
    · obtain ⟨qs, e, t⟩ := o.tab p hq
      exact ⟨qs, by rw [h.2 _ hb]; exact e, t⟩
  · obtain ⟨qs, e, t, c⟩ := o.tabl q hq
    refine ⟨qs, by rw [h.2 _ (eP ▸ nd_ne o.tnd h0 hq)]; exact e, t, fun pos cv hcv => ?_⟩
    obtain ⟨c1, a1, a2⟩ := c pos cv hcv
    exact ⟨c1, a1, by rw [h.2 _ (ne _ _ a2 fun q z => by cases z)]; exact a2⟩
  · have r := o.obj n ob a e1 e2
    refine ORep.mono nx (fun u e => ?_) r
    obtain ⟨u', e', mu⟩ := r.there
    rw [h.2 a]
    · exact e
    · intro z
      rw [z, hp] at e'
      cases e'
      exact mu
theorem gen_any {J : It} {okS : Os → Prop} {neg : Bool} (hg : GD K t g) (hw : GW t vs) {l : List D} {σ : L2.St} {Q : VK}
    (Pc : List Addr → Hp → Prop) (mono : ∀ H μ H' μ', Nx H μ H' μ' → Pc μ H → Pc μ' H')
    (hstop : ∀ μ S H, Ok K μ S H → Pc μ H → okS S → J.stop l.length H)
    (hgo : ∀ i d μ S H, l[i]? = some d → Ok K μ S H → Pc μ H → okS S → J.go i H ∧ ∀ x H', J.yld i H x H' → ∃ μ', Nx H μ H' μ' ∧ Ok K μ' S H' ∧ Rep K μ' H' d x)
    {H1 : Hp} {μ1 : List Addr} {S1 : Os} {σd : Fr} (hp : Pc μ1 H1) (o1 : Ok K μ1 S1 H1) (fr : FrRel K μ1 H1 σd σ)
    (p : Pst K W σ Q μ1 H1 (mGen okS g vs fe neg l σd S1)) :
    ∃ (L : Nat) (Wf : Nat → Hp → Prop), Wf 0 H1 ∧ GX.Turns J t (LE K WF fe) (L2.wipe σ vs) vs (fun i y H3 => (y = .bl neg ∧ Wf (i + 1) H3) ∨ (y = .bl (!neg) ∧ Q (.bl (!neg)) H3)) (fun H => Q (.bl neg) H) L Wf := by
  refine ⟨l.length, fun i H => ∃ μ S, Pc μ H ∧ Ok K μ S H ∧ FrRel K μ H σd σ ∧ Pst K W σ Q μ H (mGen okS g vs fe neg (l.drop i) σd S), ⟨μ1, S1, hp, o1, fr, p⟩, ?_, ?_⟩
  · rintro H ⟨μ, S, hp, o, fr, p⟩
    rw [List.drop_length] at p
    unfold mGen at p
    by_cases q : okS S
    · rw [if_pos q] at p
      exact ⟨hstop μ S H o hp q, p.val o rfl⟩
    · rw [if_neg q] at p
      exact p.elim
  · rintro i H hi ⟨μ, S, hp, o, fr, p⟩
    rw [List.drop_eq_getElem_cons hi] at p
    unfold mGen at p
    by_cases q : okS S
    · rw [if_pos q] at p
      obtain ⟨h1, h2⟩ := hgo i l[i] μ S H (List.getElem?_eq_getElem hi) o hp q
      refine ⟨h1, fun x H' hy => ?_⟩
      obtain ⟨μ', x1, o', r'⟩ := h2 x H' hy
      replace p := p.go x1
      cases q2 : g l[i] (wipeD σd vs) S with
      | none => rw [q2] at p; exact p.elim
      | some σd2 =>
        rw [q2] at p
        refine hw x σ H' _ (hg μ' S H' (wipeD σd vs) σd2 (L2.wipe σ vs) l[i] x _ o' ((fr.mono x1).wipe vs) r' q2 fun σ2 fr2 => ⟨μ', S, σd2, o', fr2, ?_⟩)
        dsimp only at p
        cases q3 : fe σd2 S with
        | exn e S2 => rw [q3] at p; exact p.elim
        | bad => rw [q3] at p; exact p.elim
        | ok y S2 =>
          rw [q3] at p
          cases y <;> try exact p.elim
          rename_i b
          intro μ2 H2 v x2 o2 r2
          replace p := p.go x2
          cases r2
          dsimp only at p
          by_cases hb : b = neg
          · rw [if_pos hb] at p
            exact .inl ⟨by rw [hb], μ2, S2, mono _ _ _ _ (x1.trans x2) hp, o2, (fr.mono x1).mono x2, p⟩
          · rw [if_neg hb] at p
            have hb' : b = !neg := by cases b <;> cases neg <;> simp_all
            exact .inr ⟨by rw [hb'], p.val o2 rfl⟩
    · rw [if_neg q] at p
      exact p.elim
theorem le_genT {neg : Bool} (hg : GD K t g) (hw : GW t vs) {q : He.Defn} (hq : q ∈ TL.tf) (σ : L2.St) (H : Hp) (Q : VK) (h : LE K W (mGenT neg fl g vs fe) σ H Q) : GX.tAllG (He.cT K q).2 neg (iTup K (LE K W fl)) t (LE K WF fe) vs σ H Q := by
  obtain ⟨μ, S, σd, o, fr, p⟩ := h
  refine ⟨μ, S, σd, o, fr, p.andThen fun v H1 μ1 S1 d x o1 r1 p1 => ?_⟩
  cases d <;> try exact p1.elim
  rename_i l
  obtain ⟨a, us, rfl, h2, h3⟩ := r1
  refine ⟨a, rfl, ⟨us, h2⟩, o1.tab q hq, fun H4 ht => ?_⟩
  obtain ⟨nx, o4⟩ := o1.tabbed hq ht
  refine gen_any hg hw (fun μ H => SqT K H a us ∧ Reps K μ H l us) (fun _ _ _ _ y e => ⟨y.sq e.1, Reps.mono y _ _ e.2⟩) ?_ ?_ ⟨nx.sq h2, Reps.mono nx _ _ h3⟩ o4 ((fr.mono x).mono nx) (p1.go nx)
  · intro μ2 S2 H2 o2 ha2 q
    exact ⟨us, ha2.1, by rw [← ha2.2.len]; exact Nat.le_refl _⟩
  · intro i d μ2 S2 H2 hi o2 ha2 q
    obtain ⟨u, h6, h7⟩ := ha2.2.get hi
    refine ⟨⟨us, u, ha2.1, h6⟩, fun y H' hy => ?_⟩
    obtain ⟨rfl, hy⟩ := hy
    have := hy us ha2.1
    rw [h6] at this
    cases this
    exact ⟨μ2, Nx.refl _ _, o2, h7⟩
theorem le_genL {neg : Bool} (hg : GD K t g) (hw : GW t vs) {q : He.Defn} (hq : q ∈ TL.tf) (σ : L2.St) (H : Hp) (Q : VK) (h : LE K W (mGenL neg fl g vs fe) σ H Q) : GX.tAllG (He.cT K q).2 neg (iList K (LE K W fl)) t (LE K WF fe) vs σ H Q := by
  obtain ⟨μ, S, σd, o, fr, p⟩ := h
  refine ⟨μ, S, σd, o, fr, p.andThen fun v H1 μ1 S1 d x o1 r1 p1 => ?_⟩
  cases d <;> try exact p1.elim
  · rename_i n
    dsimp only at p1
    cases e : lstAt S1 n with
    | none => rw [e] at p1; exact p1.elim
    | some l =>
      rw [e] at p1
      obtain ⟨a, us, ha, rfl, h2, h3⟩ := o1.lst e r1
      refine ⟨a, rfl, ⟨us, .inl (.inl h2)⟩, o1.tab q hq, fun H4 ht => ?_⟩
      obtain ⟨nx, o4⟩ := o1.tabbed hq ht
      refine gen_any hg hw (fun μ _ => μ[n]? = some a) (fun _ _ _ _ y e => y.at e) ?_ ?_ (nx.at ha) o4 ((fr.mono x).mono nx) (p1.go nx)
      · intro μ2 S2 H2 o2 ha2 q
        obtain ⟨b, us, hb, eb, h4, h5⟩ := o2.lst q ⟨a, ha2, rfl⟩
        cases eb
        exact ⟨us, .inl (.inl h4), by rw [← h5.len]; exact Nat.le_refl _⟩
      · intro i d μ2 S2 H2 hi o2 ha2 q
        obtain ⟨b, us, hb, eb, h4, h5⟩ := o2.lst q ⟨a, ha2, rfl⟩
        cases eb
        obtain ⟨u, h6, h7⟩ := h5.get hi
        refine ⟨⟨us, u, .inl (.inl h4), h6⟩, fun y H' hy => ?_⟩
        obtain ⟨rfl, hy⟩ := hy
        have := hy us (.inl (.inl h4))
        rw [h6] at this
        cases this
        exact ⟨μ2, Nx.refl _ _, o2, h7⟩
  · rename_i l
    obtain ⟨a, us, rfl, h2, h3⟩ := r1
    refine ⟨a, rfl, ⟨us, h2.sq⟩, o1.tab q hq, fun H4 ht => ?_⟩
    obtain ⟨nx, o4⟩ := o1.tabbed hq ht
    refine gen_any hg hw (fun μ H => SqR K H a us ∧ Reps K μ H l us) (fun _ _ _ _ y e => ⟨y.sr e.1, Reps.mono y _ _ e.2⟩) ?_ ?_ ⟨nx.sr h2, Reps.mono nx _ _ h3⟩ o4 ((fr.mono x).mono nx) (p1.go nx)
    · intro μ2 S2 H2 o2 ha2 q
      exact ⟨us, ha2.1.sq, by rw [← ha2.2.len]; exact Nat.le_refl _⟩
    · intro i d μ2 S2 H2 hi o2 ha2 q
      obtain ⟨u, h6, h7⟩ := ha2.2.get hi
      refine ⟨⟨us, u, ha2.1.sq, h6⟩, fun y H' hy => ?_⟩
      obtain ⟨rfl, hy⟩ := hy
      have := hy us ha2.1.sq
      rw [h6] at this
      cases this
      exact ⟨μ2, Nx.refl _ _, o2, h7⟩
theorem sum_any {J : It} {okS : Os → Prop} (hg : GD K t g) (hw : GW t vs) {l : List D} {σ : L2.St} {Q : VK}
    (Pc : List Addr → Hp → Prop) (mono : ∀ H μ H' μ', Nx H μ H' μ' → Pc μ H → Pc μ' H')
    (hstop : ∀ μ S H, Ok K μ S H → Pc μ H → okS S → J.stop l.length H)
    (hgo : ∀ i d μ S H, l[i]? = some d → Ok K μ S H → Pc μ H → okS S → J.go i H ∧ ∀ x H', J.yld i H x H' → ∃ μ', Nx H μ H' μ' ∧ Ok K μ' S H' ∧ Rep K μ' H' d x)
    {H1 : Hp} {μ1 : List Addr} {S1 : Os} {σd : Fr} (hp : Pc μ1 H1) (o1 : Ok K μ1 S1 H1) (fr : FrRel K μ1 H1 σd σ)
    (p : Pst K W σ Q μ1 H1 (mSumG okS g vs fe l 0 σd S1)) :
    ∃ (L : Nat) (Wf : Nat → Hp → Prop) (val : Nat → Int), Wf 0 H1 ∧ GX.Turns J t (LE K WF fe) (L2.wipe σ vs) vs (fun i y H3 => y = .int (val i) ∧ InLong (val i) ∧ InLong (preSum val (i + 1)) ∧ Wf (i + 1) H3) (fun H => Q (.int (preSum val L)) H) L Wf := by
  let zs := mVals g vs fe l σd S1
  let val : Nat → Int := fun i => zs.getD i 0
  refine ⟨l.length, fun i H => ∃ μ S, Pc μ H ∧ Ok K μ S H ∧ FrRel K μ H σd σ ∧ mVals g vs fe (l.drop i) σd S = zs.drop i ∧ Pst K W σ Q μ H (mSumG okS g vs fe (l.drop i) (preSum val i) σd S), val, ⟨μ1, S1, hp, o1, fr, rfl, p⟩, ?_, ?_⟩
  · rintro H ⟨μ, S, hp, o, fr, hz, p⟩
    rw [List.drop_length] at p
    unfold mSumG at p
    by_cases q : okS S
    · rw [if_pos q] at p
      exact ⟨hstop μ S H o hp q, p.val o rfl⟩
    · rw [if_neg q] at p
      exact p.elim
  · rintro i H hi ⟨μ, S, hp, o, fr, hz, p⟩
    rw [List.drop_eq_getElem_cons hi] at p hz
    unfold mSumG at p
    unfold mVals at hz
    by_cases q : okS S
    · rw [if_pos q] at p
      obtain ⟨h1, h2⟩ := hgo i l[i] μ S H (List.getElem?_eq_getElem hi) o hp q
      refine ⟨h1, fun x H' hy => ?_⟩
      obtain ⟨μ', x1, o', r'⟩ := h2 x H' hy
      replace p := p.go x1
      cases q2 : g l[i] (wipeD σd vs) S with
      | none => rw [q2] at p; exact p.elim
      | some σd2 =>
        rw [q2] at p hz
        refine hw x σ H' _ (hg μ' S H' (wipeD σd vs) σd2 (L2.wipe σ vs) l[i] x _ o' ((fr.mono x1).wipe vs) r' q2 fun σ2 fr2 => ⟨μ', S, σd2, o', fr2, ?_⟩)
        dsimp only at p hz
        cases q3 : fe σd2 S with
        | exn e S2 => rw [q3] at p; exact p.elim
        | bad => rw [q3] at p; exact p.elim
        | ok y S2 =>
          rw [q3] at p hz
          cases y <;> try exact p.elim
          rename_i z
          intro μ2 H2 v x2 o2 r2
          replace p := p.go x2
          cases r2
          dsimp only at p hz
          have hzi : zs[i]? = some z := by
            have := congrArg (fun l : List Int => l[0]?) hz
            simpa using this.symm
          have hv : val i = z := by show zs.getD i 0 = z; rw [List.getD_eq_getElem?_getD, hzi]; rfl
          have hz2 : mVals g vs fe (l.drop (i + 1)) σd S2 = zs.drop (i + 1) := by
            have := congrArg List.tail hz
            simpa using this
          have hsum : preSum val (i + 1) = preSum val i + z := by rw [preSum, hv]
          by_cases c : InLong z ∧ InLong (preSum val i + z)
          · rw [if_pos c] at p
            exact ⟨by rw [hv], by rw [hv]; exact c.1, by rw [hsum]; exact c.2, μ2, S2, mono _ _ _ _ (x1.trans x2) hp, o2, (fr.mono x1).mono x2, hz2, by rw [hsum]; exact p⟩
          · rw [if_neg c] at p
            exact p.elim
    · rw [if_neg q] at p
      exact p.elim
theorem le_sumT (hg : GD K t g) (hw : GW t vs) {q : He.Defn} (hq : q ∈ TL.tf) (σ : L2.St) (H : Hp) (Q : VK) (h : LE K W (mSumT fl g vs fe) σ H Q) : GX.tSumG (He.cT K q).2 (iTup K (LE K W fl)) t (LE K WF fe) vs σ H Q := by
  obtain ⟨μ, S, σd, o, fr, p⟩ := h
  refine ⟨μ, S, σd, o, fr, p.andThen fun v H1 μ1 S1 d x o1 r1 p1 => ?_⟩
  cases d <;> try exact p1.elim
  rename_i l
  obtain ⟨a, us, rfl, h2, h3⟩ := r1
  refine ⟨a, rfl, ⟨us, h2⟩, o1.tab q hq, fun H4 ht => ?_⟩
  obtain ⟨nx, o4⟩ := o1.tabbed hq ht
  refine sum_any hg hw (fun μ H => SqT K H a us ∧ Reps K μ H l us) (fun _ _ _ _ y e => ⟨y.sq e.1, Reps.mono y _ _ e.2⟩) ?_ ?_ ⟨nx.sq h2, Reps.mono nx _ _ h3⟩ o4 ((fr.mono x).mono nx) (p1.go nx)
  · intro μ2 S2 H2 o2 ha2 q
    exact ⟨us, ha2.1, by rw [← ha2.2.len]; exact Nat.le_refl _⟩
  · intro i d μ2 S2 H2 hi o2 ha2 q
    obtain ⟨u, h6, h7⟩ := ha2.2.get hi
    refine ⟨⟨us, u, ha2.1, h6⟩, fun y H' hy => ?_⟩
    obtain ⟨rfl, hy⟩ := hy
    have := hy us ha2.1
    rw [h6] at this
    cases this
    exact ⟨μ2, Nx.refl _ _, o2, h7⟩
end
end MX
namespace MX
open PySem PySem.Spec PyProof.Rows L2
theorem gsc_by {N : List Str} {sc scope : Scope} {own : List (Str × Nat)} (h : blkC N sc scope own = true) (h2 : (!scope.isCoroutine && (scope.names.all fun y => y.2 != .cell) && (scope.names.lookup (".0" : Str) == some NameKind.local)) = true) : GX.GSc N sc scope own := by
  rw [Bool.and_eq_true, Bool.and_eq_true] at h2
  obtain ⟨⟨a, b⟩, c⟩ := h2
  refine ⟨blkOk_by h, by simpa using a, fun y hy e => ?_, by simpa using c⟩
  have := List.all_eq_true.mp b y hy
  rw [e] at this
  simp at this
end MX

end
section
/-! Sorting by a key: what a key function of texts has to do; sorted of what can be collected. -/
namespace SK
open PySem PySem.Spec PyProof.Rows L2
abbrev wkey (z : Str) : PyData := .tuple [.int z.length, .str z]
section
variable {prog : Program} {w : World}
theorem ksk_is (x : Addr) (f : Addr) : Builtin.«list.sort» { pos := [Value.ref x], kw := [("key", .ref f)] } = ksk_tree x (.ref f) false := by rfl
theorem key_eval {cenv : Env} {s : Shared} {m mg mb : Str → Option Value} {A : Around} {E : Value → Shared → Prop} {z : Str} {t : Tok} {x : Str} {p1 p2 p3 p4 p5 : Pos} {k : Nat}
    (hk : cenv.scope.kind = .function) (hx : cenv.kindOf x = some .local) (hl : cenv.kindOf "len" = some .globalImplicit) (hn : s.heap.Ns cenv.locals m) (e : m x = some (.str z t))
    (hg : s.heap.Ns cenv.globals mg) (hm : mg "len" = none) (hb : s.heap.Ns cenv.builtins mb) (hv : mb "len" = some (.builtin "len")) (hz : z.length ≤ sizeLine) (hxd : (x == "__debug__") = false) :
    wpAny (model prog w) A (eval (.Tuple [.Call (.Name "len" p1) [.Name x p2] [] p3, .Name x p4] k p5) cenv) (PySem.W.KeyPure (wkey z) s) E s := by
  refine wpAny_Tuple ?_
  show wpAny _ _ (spliced ((false, eval (.Call (.Name "len" p1) [.Name x p2] [] p3) cenv) :: (false, eval (.Name x p4) cenv) :: [])) _ _ s
  refine Calls.spliced_cons ?_
  have look : ∀ {s' : Shared} {p : Pos} {Q : Value → Shared → Prop}, s'.heap = s.heap → Q (.str z t) s' → wpAny (model prog w) A (eval (.Name x p) cenv) Q E s' := fun he q => wpAny_Name (wpAny_loadName_local hk hx (he ▸ hn) e q) hxd
  refine wpAny_Call_NameR (Calls.Name_function_global hk hl (Calls.loadGlobal_builtin hg hm hb hv ?_) (by decide))
  refine PyProof.Rows.callWith_builtin1 ?_
  show wpAny _ _ (spliced ((false, eval (.Name x p2) cenv) :: [])) _ _ s
  refine Calls.spliced_cons (look rfl (Calls.spliced_nil ?_))
  refine PyProof.Rows.len_str (by rw [sizeLine_eq] at hz; omega) ?_
  refine Calls.spliced_cons (look rfl (Calls.spliced_nil ?_))
  refine ⟨by rw [sizeLine_eq]; exact (by decide : 2 ≤ 16777216), _, _, rfl, fun b o h => Heap.get?_push_of_some _ h, ?_⟩
  exact .tuple (Heap.get?_push_size _ rfl) rfl rfl (.cons (as := []) (bs := []) (.int _ _) (.cons (as := []) (bs := []) (.str _ _) .nil))
/-- what is known where a key function runs -/
structure Gnd (mg : Str → Option Value) (s : Shared) : Prop where
  glob : s.heap.Ns mainGlobals mg
  blt : ∃ mb, s.heap.Ns builtinsNs mb ∧ mb "len" = some (.builtin "len")
  nl : s.heap.NoLimit
theorem Gnd.keeps {mg : Str → Option Value} {s s' : Shared} (g : Gnd mg s) (k : ∀ b o, s.heap.get? b = some o → s'.heap.get? b = some o) : Gnd mg s' :=
  ⟨g.glob.keeps k, let ⟨mb, h1, h2⟩ := g.blt; ⟨mb, h1.keeps k, h2⟩, g.nl.keeps k⟩
theorem gnd_of {X : Cx} {pins : List (Addr × Obj)} {σ : L2.St} {H : Hp} {s : Shared} (I : Inv X pins σ H s) : Gnd X.mg s := by
  obtain ⟨mb, h1, h2⟩ := I.mod.blt
  exact ⟨I.mod.glob.keeps I.bk, ⟨mb, h1.keeps I.bk, (h2 "len" (by decide)).trans rfl⟩, I.nolimit⟩
/-- f gives for a text its length and itself, and leaves all as it was -/
def KCall (prog : Program) (w : World) (A : Around) (s : Shared) (f : Addr) : Prop := ∀ (z : Str) (t : Tok) (h : Heap) (tk : Nat), z.length ≤ sizeLine → (∀ b o, s.heap.get? b = some o → h.get? b = some o) →
  wpAny (model prog w) A (call (.ref f) [.str z t]) (PySem.W.KeyPure (wkey z) { s with heap := h, toks := tk }) (fun _ _ => False) { s with heap := h, toks := tk }
theorem pure_more {k : PyData} {s : Shared} {h : Heap} {tk : Nat} {v : Value} {s' : Shared} (hk : ∀ b o, s.heap.get? b = some o → h.get? b = some o) (p : PySem.W.KeyPure k { s with heap := h, toks := tk } v s') : PySem.W.KeyPure k s v s' := by
  obtain ⟨h', tk', rfl, k', r⟩ := p
  exact ⟨h', tk', rfl, fun b o e => k' b o (hk b o e), r⟩
/-- a def of one text -/
theorem kcall_def {K : PySem.W.Frag} {A : Around} {s : Shared} {mg : Str → Option Value} {f : Addr} {oc : Value} {od : Option Addr} {osl : Array (Option Value)} {name qual : Str} {params : Arguments} {scope : Scope} {dV kV doc pm cdv ct : Value} {an : Option Addr} {x : Str} {p1 p2 p3 p4 p5 p6 : Pos} {k : Nat}
    (hA : A.depth < recursionLimit) (G : Gnd mg s)
    (ho : s.heap.get? f = some { cls := oc, dict := od, data := .func (PySem.W.fnOf name qual params [.Return (some (.Tuple [.Call (.Name "len" p1) [.Name x p2] [] p3, .Name x p4] k p5)) p6] scope dV kV doc pm an cdv ct), slots := osl })
    (hc : s.heap.CodeRec cdv qual) (hb : ∀ (s : Shared) (v : Value), K.In s.heap → BindsTo s (PySem.W.fnOf name qual params [.Return (some (.Tuple [.Call (.Name "len" p1) [.Name x p2] [] p3, .Name x p4] k p5)) p6] scope dV kV doc pm an cdv ct) { pos := [v] } [(x, v)]) (kin : K.In s.heap)
    (hm : mg "len" = none) (hcell : ∀ y ∈ scope.names, y.2 ≠ .cell) (hloc : scope.names.lookup x = some .local) (hlen : List.lookup (Str.ofString "len") scope.names = some NameKind.globalImplicit)
    (hco : scope.isCoroutine = false) (hgen : scope.isGenerator = false) (hkind : scope.kind = .function) (hxd : (x == "__debug__") = false) : KCall prog w A s f := by
  intro z t h tk hz hk
  refine wpAny_runValue (codeAny_call_def (binds := [(x, .str z t)]) hA (hk _ _ ho) rfl (G.nl.keeps hk) (hc.keeps hk) rfl (hb _ _ fun a o e => hk _ _ (kin a o e)) hcell (fun y hy => by simp at hy; subst hy; exact hloc) (fun h₀ hn k0 => ?_) hco hgen hkind)
  obtain ⟨mb, b1, b2⟩ := G.blt
  refine wpAny_execs_cons (wpAny_Return_some ?_)
  refine wpAny_mono (key_eval (E := fun _ _ => False) (z := z) (t := t) (cenv := callEnv (PySem.W.fnOf name qual params [.Return (some (.Tuple [.Call (.Name "len" p1) [.Name x p2] [] p3, .Name x p4] k p5)) p6] scope dV kV doc pm an cdv ct) h.objs.size f) (mg := mg) (mb := mb) hkind hloc hlen hn (by simp) ((G.glob.keeps hk).keeps k0) hm ((b1.keeps hk).keeps k0) b2 hz hxd) (fun v s' p => ?_) fun _ _ e => e.elim
  exact pure_more (s := { s with heap := h, toks := tk }) k0 p
/-- a lambda of one text -/
theorem kcall_lam {A : Around} {s : Shared} {mg : Str → Option Value} {f c' : Addr} {name qual : Str} {params : Arguments} {scope : Scope} {pm ctv : Value} {cl : List (Str × Addr)} {x : Str} {p1 p2 p3 p4 p5 : Pos} {k : Nat}
    (hA : A.depth < recursionLimit) (G : Gnd mg s)
    (ho : s.heap.get? f = some (PySem.W.kla_obj name qual params (.Tuple [.Call (.Name "len" p1) [.Name x p2] [] p3, .Name x p4] k p5) scope cl pm c' ctv))
    (hc : s.heap.CodeRec (.ref c') qual) (hb : ∀ v : Value, bindArgs (PySem.W.kla_fn name qual params (.Tuple [.Call (.Name "len" p1) [.Name x p2] [] p3, .Name x p4] k p5) scope cl pm (.ref c') ctv) { pos := [v] } = pure [(x, v)])
    (hm : mg "len" = none) (hcell : ∀ y ∈ scope.names, y.2 ≠ .cell) (hloc : scope.names.lookup x = some .local) (hlen : List.lookup (Str.ofString "len") scope.names = some NameKind.globalImplicit)
    (hco : scope.isCoroutine = false) (hgen : scope.isGenerator = false) (hkind : scope.kind = .function) (hxd : (x == "__debug__") = false) : KCall prog w A s f := by
  intro z t h tk hz hk
  refine wpAny_runValue (PySem.W.kla_callFunE hA (hk _ _ ho) rfl hco hgen rfl (hc.keeps hk) ?_)
  rw [hb]
  refine wpAny_pure (wpAny_newFunctionEnv hcell (fun y hy => by simp at hy; subst hy; exact hloc) (fun h' hn sb => ?_) hkind)
  have k0 : ∀ b o, h.get? b = some o → h'.get? b = some o := fun b o e => sb.extBut b o (Nat.ne_of_lt (Heap.lt_size e)) (Heap.get?_push_of_some _ e)
  obtain ⟨mb, b1, b2⟩ := G.blt
  refine ⟨(G.nl.keeps hk).keeps k0, PySem.W.kla_codeExpr ?_⟩
  refine wpAny_mono (key_eval (E := fun _ _ => False) (z := z) (t := t) (mg := mg) (mb := mb) hkind hloc hlen hn (by simp) ((G.glob.keeps hk).keeps k0) hm ((b1.keeps hk).keeps k0) b2 hz hxd) (fun v s' p => ?_) fun _ _ e => e.elim
  exact pure_more (s := { s with heap := h, toks := tk }) k0 p
/-! ### sorted of what can be collected -/
theorem sorted_via {A : Around} {E : Value → Shared → Prop} {s : Shared} {x : Value} {PV : List Value → Prop} {kw : List (Str × Value)} {Q : Value → Shared → Prop}
    (ha1 : argsOk "sorted" { pos := [x], kw := kw }) (hL : ∀ vs, PV vs → vs.length ≤ sizeLine)
    (col : ∀ Qc : List Value → Shared → Prop, (∀ (h1 : Heap) (tk : Nat) vs, PV vs → (∀ b o, s.heap.get? b = some o → h1.get? b = some o) → Qc vs { s with heap := h1, toks := tk }) → wpAny (model prog w) A.in1 (collect x) Qc E s)
    (body : ∀ (h1 : Heap) (tk : Nat) vs, PV vs → (∀ b o, s.heap.get? b = some o → h1.get? b = some o) → wpAny (model prog w) A.in1 (call (.builtin "list.sort") [.ref h1.objs.size] kw) (fun _ s' => Q (.ref h1.objs.size) s') E { s with heap := h1.push (seqObj "list" vs.toArray 0), toks := tk }) :
    wpAny (model prog w) A (call (.builtin "sorted") [x] kw) Q E s := by
  refine call_function_entry_kw kind_sorted plain_sorted entry_sorted ha1 ?_
  show wpAny _ _ (Builtin.sorted { pos := [x], kw := kw }) _ _ s
  unfold Builtin.sorted
  refine wpAny_bind (wpAny_pure (wpAny_bind (col _ fun h1 tk vs hv k1 => wpAny_bind (wpAny_newList ?_ (hL vs hv)))))
  refine wpAny_bind (wpAny_holding ?_)
  refine wpAny_mono (body h1 tk vs hv k1) (fun v s' q => wpAny_pure ⟨_, rfl, q⟩) fun _ _ e => e
end
section
variable {X : Cx} {pins : List (Addr × Obj)} {σ : L2.St} {H : Hp} {s : Shared}
/-- what is collected into xs -/
def Coll (K : PySem.W.Frag) (H : Hp) (a : Addr) (xs : List V) : Prop := SqL K H a xs ∨ SqT K H a xs ∨ ∃ kvs : List (Key × V), Rd H a (.dK kvs) ∧ xs = kvs.map fun e => kV e.1
theorem vals_at {xs : List V} : ∀ {us : List Value}, us.length = xs.length → (∀ (j : Nat) (v : Value), us[j]? = some v → ∃ x, xs[j]? = some x ∧ RelV x v) → Vals xs us := by
  induction xs with
  | nil => intro us hl _; cases us with | nil => exact .nil | cons _ _ => simp at hl
  | cons x xs ih =>
    intro us hl h
    cases us with
    | nil => simp at hl
    | cons u us =>
      obtain ⟨y, e, r⟩ := h 0 u rfl
      cases e
      exact .cons r (ih (by simpa using hl) fun j v e => h (j + 1) v e)
theorem key_rel {k : Key} {v : Value} (h : keyIs k v = true) : RelV (kV k) v := by
  cases k with
  | inl i => cases v <;> simp [keyIs, Value.isInt] at h; subst h; exact ⟨_, rfl⟩
  | inr z => cases v <;> simp [keyIs, Value.isStrOf] at h; subst h; exact ⟨_, rfl⟩
theorem coll {a : Addr} {xs : List V} {E : Value → Shared → Prop} {Qc : List Value → Shared → Prop} (I : Inv X pins σ H s) (hd : X.A.handled = none) (c : Coll X.K H a xs)
    (h : ∀ (h1 : Heap) (tk : Nat) vs, (Vals xs vs ∧ vs.length ≤ sizeLine) → (∀ b o, s.heap.get? b = some o → h1.get? b = some o) → Qc vs { s with heap := h1, toks := tk }) : wpAny (model X.prog X.w) X.A.in1 (collect (.ref a)) Qc E s := by
  rcases c with c | c | ⟨kvs, c, rfl⟩
  · obtain ⟨its, rv, ⟨o, n, ho, hc, hdd, hdat⟩, hz⟩ := I.list c
    have hz' : its.length ≤ sizeLine := by rw [← rv.length]; exact hz
    refine wpAny_collect_seq a (.inl rfl) ho hc hdat (fun h' k => h h' s.toks its ⟨rv, hz'⟩ k) (by simpa using hz')
  · obtain ⟨its, rv, ⟨o, ho, hc, n, hdat⟩, hz⟩ := I.tuple c
    have hz' : its.length ≤ sizeLine := by rw [← rv.length]; exact hz
    refine wpAny_collect_seq a (.inr rfl) ho hc hdat (fun h' k => h h' s.toks its ⟨rv, hz'⟩ k) (by simpa using hz')
  · obtain ⟨hz, lo, vs, rel, dd⟩ := dk_rd I.hok c
    obtain ⟨ep, hat⟩ := dd.dictAt
    have hl : vs.length = kvs.length := by
      have := congrArg List.length rel.keys
      simpa using this.symm
    refine PySem.W.kdu_collect (PySem.W.kdl_dict lo) hd hat (by rw [hl]; exact hz) fun h' tk acc k it => ?_
    have hs : acc.toList.length = vs.length := it.1
    refine h h' tk acc.toList ⟨vals_at (by rw [List.length_map]; omega) fun j v e => ?_, by omega⟩ k
    obtain ⟨kk, x, e1, e2⟩ := it.2 j v (by simpa using e)
    rw [mixKind_is] at e2
    refine ⟨kV kk, ?_, key_rel e2⟩
    have e3 := congrArg (fun l => l[j]?) rel.keys
    simp only [List.getElem?_map, e1, Option.map_some] at e3
    rw [List.getElem?_map]
    cases e4 : kvs[j]? with
    | none => rw [e4] at e3; cases e3
    | some y => rw [e4] at e3; simp only [Option.map_some] at e3 ⊢; injection e3 with e3; rw [e3]
end
end SK

end
section
/-! sorted of texts, by a key or without one. -/
namespace SK
open PySem PySem.Spec PyProof.Rows L2
variable {X : Cx} {pins : List (Addr × Obj)} {σ : L2.St} {H : Hp} {s : Shared}
def wLe : Str → Str → Bool := PySem.W.dataLe false wkey
def sLe : Str → Str → Bool := PySem.W.dataLe false PyData.str
theorem each_str {zs : List Str} : ∀ {vs : List Value}, Vals (zs.map V.str) vs → PySem.W.EachIs (fun v (z : Str) => RelV (.str z) v) vs zs := by
  induction zs with
  | nil => intro vs h; cases h; exact .nil
  | cons b bs ih => intro its h; cases h with | cons h1 h2 => exact .cons h1 (ih h2)
theorem str_each {zs : List Str} : ∀ {vs : List Value}, PySem.W.EachIs (fun v (z : Str) => RelV (.str z) v) vs zs → Vals (zs.map V.str) vs := by
  induction zs with
  | nil => intro vs h; cases h; exact .nil
  | cons b bs ih => intro its h; cases h with | cons h1 h2 => exact .cons h1 (ih h2)
theorem each_mono {α β : Type} {R S : α → β → Prop} (h : ∀ a b, R a b → S a b) : ∀ {as : List α} {bs : List β}, PySem.W.EachIs R as bs → PySem.W.EachIs S as bs
  | _, _, .nil => .nil
  | _, _, .cons a b => .cons (h _ _ a) (each_mono h b)
theorem alike_w (zs : List Str) : PySem.W.AllAlike (zs.map wkey) := fun d hd d' hd' => by
  obtain ⟨a, _, rfl⟩ := List.mem_map.mp hd
  obtain ⟨b, _, rfl⟩ := List.mem_map.mp hd'
  rfl
theorem sortable_w (zs : List Str) : PySem.W.Sortable (zs.map wkey) := .inl fun d hd => by
  obtain ⟨a, _, rfl⟩ := List.mem_map.mp hd
  exact ⟨_, _, rfl⟩
theorem alike_s (zs : List Str) : PySem.W.AllAlike (zs.map PyData.str) := fun d hd d' hd' => by
  obtain ⟨a, _, rfl⟩ := List.mem_map.mp hd
  obtain ⟨b, _, rfl⟩ := List.mem_map.mp hd'
  rfl
theorem sortable_s (zs : List Str) : PySem.W.Sortable (zs.map PyData.str) := .inr fun d hd => by
  obtain ⟨a, _, rfl⟩ := List.mem_map.mp hd
  refine ⟨fun h => ?_, fun _ h => ?_⟩ <;> cases h
theorem lay {h1 h' : Heap} {tk tk' : Nat} {vs out : List Value} {zs' : List Str} {c : Nat} {Q : VK} (I : Inv X pins σ H s) (k1 : ∀ b o, s.heap.get? b = some o → h1.get? b = some o)
    (kb : PySem.W.KeepsBut h1.objs.size (h1.push (seqObj "list" vs.toArray 0)) h') (e : h'.get? h1.objs.size = some (seqObj "list" out.toArray c)) (hz : zs'.length ≤ sizeLine) (r : Vals (zs'.map V.str) out)
    (q : ∀ p, H p = none → Q (.ref p) (upd H p (.lst (zs'.map V.str)))) : EP X pins σ Q (.ref h1.objs.size) { s with heap := h', toks := tk' } := by
  have I1 := I.kept (t' := tk) k1
  refine ⟨.ref _, upd H h1.objs.size (.lst (zs'.map V.str)), I1.laid (t' := tk') (fun b u hb => kb b u (Nat.ne_of_lt (Heap.lt_size hb)) (Heap.get?_push_of_some _ hb)) (Nat.le_refl _) ⟨by rw [List.length_map]; exact hz, _, c, r, e⟩, rfl, q _ I1.fresh⟩
theorem sort_key {k : Nat} {a f : Addr} {zs : List Str} {Q : VK} (hr : Room k X.A) (I : Inv X pins σ H s) (c : Coll X.K H a (zs.map V.str)) (hz : ∀ z ∈ zs, z.length ≤ sizeLine) (hf : KCall X.prog X.w X.A.in1.in1 s f)
    (q : ∀ p, H p = none → Q (.ref p) (upd H p (.lst ((zs.mergeSort wLe).map V.str)))) :
    wpAny (model X.prog X.w) X.A (call (.builtin "sorted") [.ref a] [("key", .ref f)]) (EP X pins σ Q) X.xe s := by
  have hu := hr.units
  refine sorted_via (PV := fun vs => Vals (zs.map V.str) vs ∧ vs.length ≤ sizeLine) rfl (fun vs h => h.2) (fun Qc h => coll I hr.hd c h) fun h1 tk vs hv k1 => ?_
  have hl : zs.length = vs.length := by
    have := hv.1.length
    simpa using this
  refine PySem.W.list_sort_key_data wkey (f := .ref f) (b := false) (bs := zs) (vs := vs) (n := 0) (Heap.get?_push_size _ rfl) (each_str hv.1) (alike_w zs) (sortable_w zs) (by rw [hl]; exact hv.2) (fun z _ => ?_) rfl (ksk_is _ f) (fun v z hR hm h tk' kp => ?_) fun out c' h' tk' kb e ho he => ?_
  · show X.A.units + 1 + 1 + (wkey z).depth < cLine
    have : (wkey z).depth = 1 := rfl
    omega
  · obtain ⟨t, rfl⟩ := hR
    refine hf z t h tk' (hz z hm) fun b o hb => ?_
    have hb1 := k1 b o hb
    exact kp b o (Nat.ne_of_lt (Heap.lt_size hb1)) (Heap.get?_push_of_some _ hb1)
  · exact lay (s := s) (tk := tk) I k1 kb e (by rw [List.length_mergeSort]; omega) (str_each he) q
theorem sort_plain {k : Nat} {a : Addr} {zs : List Str} {Q : VK} (hr : Room k X.A) (I : Inv X pins σ H s) (c : Coll X.K H a (zs.map V.str))
    (q : ∀ p, H p = none → Q (.ref p) (upd H p (.lst ((zs.mergeSort sLe).map V.str)))) :
    wpAny (model X.prog X.w) X.A (call (.builtin "sorted") [.ref a]) (EP X pins σ Q) X.xe s := by
  have hu := hr.units
  refine sorted_via (PV := fun vs => Vals (zs.map V.str) vs ∧ vs.length ≤ sizeLine) rfl (fun vs h => h.2) (fun Qc h => coll I hr.hd c h) fun h1 tk vs hv k1 => ?_
  have hl : zs.length = vs.length := by
    have := hv.1.length
    simpa using this
  refine PySem.W.list_sort_data (enc := PyData.str) (R := fun v (z : Str) => RelV (.str z) v) (bs := zs) (vs := vs) (n := 0) (Heap.get?_push_size _ rfl) (each_str hv.1) (each_mono (fun v z r => ?_) (each_str hv.1)) (alike_s zs) (sortable_s zs) (by rw [hl]; exact hv.2) (fun z _ => ?_) fun out ho he => ?_
  · obtain ⟨t, rfl⟩ := r
    exact ⟨[], .str _ _, by simp⟩
  · show X.A.units + 1 + 1 + (PyData.str z).depth < cLine
    have : (PyData.str z).depth = 0 := rfl
    omega
  · obtain ⟨c', hc'⟩ := PyProof.Rows.sortedHeap_at (out := out.toArray) (Heap.get?_push_size h1 (o := seqObj "list" vs.toArray 0) rfl)
    refine lay (s := s) (tk := tk) (vs := vs) I k1 (fun b o hb hn => (PyProof.Rows.sortedHeap_old hb (Heap.lt_size hn)).trans hn) hc' (by rw [List.length_mergeSort]; omega) (str_each he) q
end SK

end
section
/-! The making of a lambda, told exactly; a key's expression; sorted(x, key=..). -/
namespace SK
open PySem PySem.Spec PyProof.Rows L2
/-- a lambda of the table at P was made -/
structure Lamd (P : Addr) (q : Str) (H H1 : Hp) : Prop where
  tab : LamX.TabS H1 P q
  kp : ∀ b o, b ≠ P → H b = some o → H1 b = some o
section
variable {X : Cx} {pins : List (Addr × Obj)} {σ : L2.St} {H : Hp} {s : Shared}
theorem lam_made {c P : Addr} {params : Arguments} {body : Expr} {scope : Scope} {pos : Pos} {E Q : Value → Shared → Prop} {q : Str} (hq : q = X.env.qual ++ "<lambda>")
    (I : Inv X pins σ H s) (TB : LamX.TabB X.base X.mg c P) (hcode : X.env.code = .ref c) (hT : LamX.TabS H P q) (hdef : defaultsOf params X.env = ([], []))
    (hfree : ∀ y ∈ scope.names, y.2 = .free → ∃ c, X.env.cells.lookup y.1 = some c)
    (h : ∀ (f c' : Addr) (pm ctv : Value) (H1 : Hp) (s' : Shared), Inv X pins σ H1 s' → Lamd P q H H1 →
      s'.heap.get? f = some (PySem.W.kla_obj "<lambda>" q params body scope (cloFrom X.env.cells scope.names []) pm c' ctv) → s'.heap.CodeRec (.ref c') q → Q (.ref f) s') :
    wpAny (model X.prog X.w) X.A (eval (.Lambda params body scope pos) X.env) Q E s := by
  subst hq
  obtain ⟨ps, hP, ht, ha⟩ := hT
  refine PySem.W.kla_eval hdef ?_
  have bP := TB.bm.keeps I.bk
  have hP' : s.heap.get? P = some (PySem.W.tabObj ps) := I.hok P _ hP
  cases hc : codeAmong pos ps.toList with
  | none =>
    refine PySem.W.kla_makeFunction (closure_ok hfree) I.ok.glob (I.mod.glob.keeps I.bk) hcode (TB.code.keeps I.bk) hP' ht hc TB.gP bP fun c' ctv h' tk hx hge hlt hrec htb => ?_
    have hpu : ∀ {b o}, h'.get? b = some o → (h'.push (PySem.W.kla_obj "<lambda>" (X.env.qual ++ "<lambda>") params body scope (cloFrom X.env.cells scope.names []) ((X.mg "__name__").getD .none) c' ctv)).get? b = some o := fun e => Heap.get?_push_of_some _ e
    obtain ⟨c2, oc, vs, t, e2, hoc, hd, hv⟩ := hrec
    cases e2
    have I1 := LamX.inv_table (t' := tk) I hP (fun b o hb e => hpu (hx b o hb e)) (hpu htb) hge ⟨oc, vs, t, hpu hoc, hd, hv⟩
    have nC : H c' = none := I.hok.fresh hge
    have nP : P ≠ c' := fun z => by rw [z, nC] at hP; cases hP
    refine h h'.objs.size c' _ ctv _ _ I1 ⟨⟨_, by rw [upd_ne nP]; exact upd_same, ?_, fun p' cv hcv => ?_⟩, fun b o hb e => ?_⟩ (Heap.get?_push_size _ rfl) ⟨c', oc, vs, t, rfl, hpu hoc, hd, hv⟩
    · rw [Array.toList_append]
      exact TriplesOk_snoc _ _ _ _ ht
    · rw [Array.toList_append] at hcv
      rcases LamX.among_app _ ht hcv with e | rfl
      · obtain ⟨c1, e1, e2⟩ := ha p' cv e
        have n1 : c1 ≠ P := fun z => by rw [z, hP] at e2; cases e2
        have n2 : c1 ≠ c' := fun z => by rw [z, nC] at e2; cases e2
        exact ⟨c1, e1, by rw [upd_ne n2, upd_ne n1]; exact e2⟩
      · exact ⟨c', rfl, upd_same⟩
    · have n2 : b ≠ c' := fun z => by rw [z, nC] at e; cases e
      rw [upd_ne n2, upd_ne hb]
      exact e
  | some cv =>
    obtain ⟨c', rfl, hco⟩ := ha pos cv hc
    refine PySem.W.kla_makeFunctionHit (closure_ok hfree) I.ok.glob (I.mod.glob.keeps I.bk) hcode (TB.code.keeps I.bk) hP' ht hc bP fun ctv h' tk hx hsz => ?_
    have kp : ∀ b o, s.heap.get? b = some o → (h'.push (PySem.W.kla_obj "<lambda>" (X.env.qual ++ "<lambda>") params body scope (cloFrom X.env.cells scope.names []) ((X.mg "__name__").getD .none) c' ctv)).get? b = some o := fun b o e => Heap.get?_push_of_some _ (hx b o e)
    have I1 := I.kept (t' := tk) kp
    refine h h'.objs.size c' _ ctv H _ I1 ⟨⟨ps, hP, ht, ha⟩, fun _ _ _ e => e⟩ (Heap.get?_push_size _ rfl) ?_
    obtain ⟨⟨oc, vs, t, a1, a2, a3⟩, _⟩ := I1.hok c' _ hco
    exact ⟨c', oc, vs, t, rfl, a1, a2, a3⟩
/-- the key's expression makes a key function of texts -/
structure PKey (X : Cx) (ke : Expr) (pre : Hp → Prop) (rel : Hp → Hp → Prop) : Prop where
  run : ∀ (pins : List (Addr × Obj)) (s : Shared) (σ : L2.St) (H : Hp) (Q : Value → Shared → Prop), Inv X pins σ H s → pre H →
    (∀ (f : Addr) (H1 : Hp) (s' : Shared), Inv X pins σ H1 s' → rel H H1 → KCall X.prog X.w X.A.in1.in1 s' f → Q (.ref f) s') → wpAny (model X.prog X.w) X.A (eval ke X.env) Q X.xe s
def tSortKey (K : PySem.W.Frag) (pre : Hp → Prop) (rel : Hp → Hp → Prop) (t : TE) : TE := fun σ H Q => t σ H fun v H1 => pre H1 ∧ ∃ a, v = .ref a ∧ ∀ H2, rel H1 H2 →
  ∃ zs : List Str, Coll K H2 a (zs.map V.str) ∧ (∀ z ∈ zs, z.length ≤ sizeLine) ∧ ∀ p, H2 p = none → Q (.ref p) (upd H2 p (.lst ((zs.mergeSort wLe).map V.str)))
theorem pe_sortKey {k : Nat} {e ke : Expr} {t : TE} {pre : Hp → Prop} {rel : Hp → Hp → Prop} {p kp pos : Pos} (hr : Room k X.A) (hg : Gl X "sorted") (hm : X.mg "sorted" = none) (he : PE X e t) (hk : PKey X ke pre rel)
    (ne : starEach [e] X.env = (false, eval e X.env) :: starEach [] X.env := by rfl) : PE X (.Call (.Name "sorted" p) [e] [⟨some "key", ke, kp⟩] pos) (tSortKey X.K pre rel t) where
  run := fun pins s σ H Q I h => by
    refine wpAny_Call_Name_kw (ld_blt I hg hm rfl ?_)
    refine callWith_kw (rest := []) ?_ (by rw [ne]; rfl) (by rw [ne]; rfl) rfl rfl
    rw [ne]
    refine Calls.spliced_cons (thn (he.run pins s σ H _ I h) fun v s1 h1 => Calls.spliced_nil ?_)
    obtain ⟨x, H1, I1, r1, hp, a, rfl, h2⟩ := h1
    cases r1
    refine wpAny_evalAll_cons (wpAny_bind (hk.run pins s1 σ H1 _ I1 hp fun f H2 s2 I2 hrel kc => ?_))
    refine wpAny_bind (wpAny_standAt (wpAny_pure (wpAny_evalAll_nil ?_)))
    obtain ⟨zs, c, hz, q⟩ := h2 H2 hrel
    exact sort_key hr I2 c hz kc q
/-- a key that is a def -/
theorem pkey_def {k : Nat} {y : Str} {fa : Addr} {p : Pos} {oc : Value} {od : Option Addr} {osl : Array (Option Value)} {name qual : Str} {params : Arguments} {scope : Scope} {dV kV doc pm cdv ct : Value} {an : Option Addr} {x : Str} {p1 p2 p3 p4 p5 p6 : Pos} {kk : Nat}
    (hr : Room k X.A) (hg : Gl X y) (hmy : X.mg y = some (.ref fa)) (hm : X.mg "len" = none)
    (lk : X.K.lookup fa = some { cls := oc, dict := od, data := .func (PySem.W.fnOf name qual params [.Return (some (.Tuple [.Call (.Name "len" p1) [.Name x p2] [] p3, .Name x p4] kk p5)) p6] scope dV kV doc pm an cdv ct), slots := osl })
    (hcd : PySem.W.codeIn X.K cdv qual = true) (hb : Binds X.K (PySem.W.fnOf name qual params [.Return (some (.Tuple [.Call (.Name "len" p1) [.Name x p2] [] p3, .Name x p4] kk p5)) p6] scope dV kV doc pm an cdv ct) [x] [])
    (hcell : ∀ y ∈ scope.names, y.2 ≠ .cell) (hloc : scope.names.lookup x = some .local) (hlen : List.lookup (Str.ofString "len") scope.names = some NameKind.globalImplicit)
    (hco : scope.isCoroutine = false) (hgen : scope.isGenerator = false) (hkind : scope.kind = .function) (hxd : (x == "__debug__") = false) (hyd : (y == "__debug__") = false := by decide) : PKey X (.Name y p) (fun _ => True) (fun H H1 => H1 = H) where
  run := fun pins s σ H Q I _ h => by
    refine Calls.Name_function_global I.ok.kind hg (Calls.loadGlobal_global (I.ok.glob ▸ I.mod.glob.keeps I.bk) hmy ?_) hyd
    have kin : X.K.In s.heap := fun a o e => I.bk _ _ (I.mod.kin a o e)
    obtain ⟨c, hc⟩ := He.codeIn_ref hcd
    refine h fa H s I rfl (kcall_def (by have := hr.dp; show X.A.depth < _; omega) (gnd_of I) (kin _ _ lk) (PySem.W.codeRec_of kin hcd) (fun s v hs => hb s [v] hs rfl) kin hm hcell hloc hlen hco hgen hkind hxd)
/-- a key that is a lambda -/
theorem pkey_lam {k : Nat} {c P : Addr} {q : Str} {params : Arguments} {scope : Scope} {x : Str} {p1 p2 p3 p4 p5 pos : Pos} {kk : Nat} (hq : q = X.env.qual ++ "<lambda>")
    (hr : Room k X.A) (TB : LamX.TabB X.base X.mg c P) (hcode : X.env.code = .ref c) (hdef : defaultsOf params X.env = ([], [])) (hm : X.mg "len" = none)
    (hb : ∀ (v : Value) (q : Str) (cl : List (Str × Addr)) (pm c' ctv : Value), bindArgs (PySem.W.kla_fn "<lambda>" q params (.Tuple [.Call (.Name "len" p1) [.Name x p2] [] p3, .Name x p4] kk p5) scope cl pm c' ctv) { pos := [v] } = pure [(x, v)])
    (hfree : ∀ y ∈ scope.names, y.2 ≠ .free) (hcell : ∀ y ∈ scope.names, y.2 ≠ .cell) (hloc : scope.names.lookup x = some .local) (hlen : List.lookup (Str.ofString "len") scope.names = some NameKind.globalImplicit)
    (hco : scope.isCoroutine = false) (hgen : scope.isGenerator = false) (hkind : scope.kind = .function) (hxd : (x == "__debug__") = false) :
    PKey X (.Lambda params (.Tuple [.Call (.Name "len" p1) [.Name x p2] [] p3, .Name x p4] kk p5) scope pos) (fun H => LamX.TabS H P q) (fun H H1 => Lamd P q H H1) where
  run := fun pins s σ H Q I hp h => lam_made hq I TB hcode hp hdef (fun y hy e => (hfree y hy e).elim) fun f c' pm ctv H1 s' I1 r ho hrec =>
    h f H1 s' I1 r (kcall_lam (by have := hr.dp; show X.A.depth < _; omega) (gnd_of I1) ho hrec (fun v => hb v _ _ _ _ _) hm hcell hloc hlen hco hgen hkind hxd)
end
end SK

end
section
/-! sorted of texts by data: by a key or without one, from a list, a tuple or a dict. -/
namespace MX
open PySem PySem.Spec PyProof.Rows L2
variable [TL]
def kD : Key → D
  | .inl i => .int i
  | .inr z => .str z
/-- what an object is collected into -/
def collD (S : Os) : D → Option (List D)
  | .loc n => match S[n]? with
    | some (.lst l) => some l
    | some (.dK kvs) => some (kvs.map fun e => kD e.1)
    | _ => none
  | .rl l => some l
  | .tup l => some l
  | _ => none
def collT (S : Os) (d : D) : Option (List Str) := (collD S d).bind strsD
section
variable {K : PySem.W.Frag} {μ : List Addr} {H : Hp} {S : Os}
theorem repk_keys : ∀ {l : List (Key × D)} {vs : List (Key × V)}, RepK K μ H l vs → Reps K μ H (l.map fun e => kD e.1) (vs.map fun e => kV e.1)
  | [], _, rfl => rfl
  | (k, d) :: l, _, ⟨v, r, rfl, h1, h2⟩ => ⟨kV k, _, rfl, by cases k <;> rfl, repk_keys h2⟩
theorem coll_ok {d : D} {x : V} {l : List D} (o : Ok K μ S H) (r : Rep K μ H d x) (e : collD S d = some l) : ∃ a vs, x = .ref a ∧ SK.Coll K H a vs ∧ Reps K μ H l vs := by
  cases d with
  | loc n =>
    obtain ⟨a, h1, rfl⟩ := r
    unfold collD at e
    dsimp only at e
    cases q : S[n]? with
    | none => rw [q] at e; cases e
    | some ob =>
      rw [q] at e
      have ro := o.obj n ob a q h1
      cases ob with
      | lst l' => cases e; obtain ⟨vs, h2, h3⟩ := ro; exact ⟨a, vs, rfl, .inl (.inl (.inl h2)), h3⟩
      | dK m => cases e; obtain ⟨vs, h2, h3⟩ := ro; exact ⟨a, _, rfl, .inr (.inr ⟨vs, .inl h2, rfl⟩), repk_keys h3⟩
      | dT _ => cases e
      | ins _ _ => cases e
  | rl l' => cases e; obtain ⟨a, vs, rfl, h1, h2⟩ := r; exact ⟨a, vs, rfl, .inl h1.sq, h2⟩
  | tup l' => cases e; obtain ⟨a, vs, rfl, h1, h2⟩ := r; exact ⟨a, vs, rfl, .inr (.inl h1), h2⟩
  | non => cases e
  | bl _ => cases e
  | int _ => cases e
  | str _ => cases e
  | ty _ => cases e
  | err _ _ _ => cases e
theorem collT_ok {d : D} {x : V} {zs : List Str} (o : Ok K μ S H) (r : Rep K μ H d x) (e : collT S d = some zs) : ∃ a, x = .ref a ∧ SK.Coll K H a (zs.map V.str) := by
  unfold collT at e
  cases q : collD S d with
  | none => rw [q] at e; cases e
  | some l =>
    rw [q] at e
    obtain ⟨a, vs, rfl, h1, h2⟩ := coll_ok o r q
    exact ⟨a, rfl, strs_ok h2 e ▸ h1⟩
theorem Ok.lamd {H1 : Hp} {q : He.Defn × Str} (o : Ok K μ S H) (hq : q ∈ TL.tl) (h : SK.Lamd (He.cT K q.1).2 q.2 H H1) : Nx H μ H1 μ ∧ Ok K μ S H1 := by
  obtain ⟨ps, hp, _⟩ := o.tabl q hq
  have ne : ∀ b u, H b = some u → (∀ q, u ≠ .tbl q) → b ≠ (He.cT K q.1).2 := fun b u e q z => by
    rw [z, hp] at e
    exact q ps (Option.some.inj e).symm
  have kp : ∀ b u, H b = some u → (∀ q, u ≠ .tbl q) → H1 b = some u := fun b u e n => h.kp b u (ne b u e n) e
  have nx : Nx H μ H1 μ := ⟨⟨[], (List.append_nil _).symm⟩, fun b xs e => kp b _ e fun q z => (by cases z), fun b ob xs e => kp b _ e fun q z => (by cases z), fun b ob xs e => kp b _ e fun q z => (by cases z), fun b vs e => kp b _ e fun q z => (by cases z)⟩
  refine ⟨nx, o.len, o.nd, fun p hp' => ?_, fun p hp' => ?_, o.tnd, fun n ob a e1 e2 => ?_⟩
  · obtain ⟨qs, e, t⟩ := o.tab p hp'
    exact ⟨qs, h.kp _ _ (fun z => nd_ne o.tnd hp' hq z.symm) e, t⟩
  · by_cases hb : (He.cT K p.1).2 = (He.cT K q.1).2
    · have hn := o.tnd
      unfold TL.nd at hn
      rw [List.map_append] at hn
      have hn2 := (List.nodup_append.mp hn).2.1
      rw [List.map_map] at hn2
      have e : p = q := by
        obtain ⟨i, hi, rfl⟩ := List.mem_iff_getElem.mp hp'
        obtain ⟨j, hj, rfl⟩ := List.mem_iff_getElem.mp hq
        have hi' : i < (TL.tl.map ((fun p => (He.cT K p).2) ∘ fun x : He.Defn × Str => x.1)).length := by simpa using hi
        have hj' : j < (TL.tl.map ((fun p => (He.cT K p).2) ∘ fun x : He.Defn × Str => x.1)).length := by simpa using hj
        have : i = j := (List.getElem_inj (h₀ := hi') (h₁ := hj') hn2).mp (by simpa using hb)
        subst this
        rfl
      rw [e]
      exact h.tab
    · obtain ⟨qs, e, t, c⟩ := o.tabl p hp'
      refine ⟨qs, h.kp _ _ hb e, t, fun pos cv hcv => ?_⟩
      obtain ⟨c1, a1, a2⟩ := c pos cv hcv
      exact ⟨c1, a1, kp _ _ a2 fun q z => by cases z⟩
  · have r := o.obj n ob a e1 e2
    refine ORep.mono nx (fun u e => ?_) r
    obtain ⟨u', e', mu⟩ := r.there
    rw [e'] at e
    cases e
    refine kp a u e' fun q z => ?_
    subst z
    exact mu
end
/-! ### the mirrors -/
@[simp] noncomputable def mSortK (e : ME) : ME := fun σ S => (e σ S).bind fun d S1 => match collT S1 d with
  | some zs => if ∀ z ∈ zs, z.length ≤ sizeLine then .ok (.loc S1.length) (S1 ++ [.lst ((zs.mergeSort SK.wLe).map D.str)]) else .bad
  | none => .bad
@[simp] noncomputable def sortedT : List D → Os → Res D
  | [d], S => (match collT S d with
    | some zs => .ok (.loc S.length) (S ++ [.lst ((zs.mergeSort SK.sLe).map D.str)])
    | none => .bad)
  | _, _ => .bad
def rSortT (K : PySem.W.Frag) : List V → Hp → VK → Prop := fun vs H Q => ∃ (a : Addr) (zs : List Str), vs = [.ref a] ∧ SK.Coll K H a (zs.map V.str) ∧ ∀ p, H p = none → Q (.ref p) (upd H p (.lst ((zs.mergeSort SK.sLe).map V.str)))
theorem cr_sortT {X : Cx} {k : Nat} (hr : Room k X.A) : CallR X (.builtin "sorted") (rSortT X.K) := by
  intro pins s σ H vs us Q I r h
  obtain ⟨a, zs, rfl, c, q⟩ := h
  obtain rfl := Vals.ref1 r
  exact SK.sort_plain hr I c q
section
variable {K : PySem.W.Frag} {W : WX} {fe : ME}
theorem rd_sortT : RDC K (rSortT K) sortedT := by
  intro W σ Q μ S H ds xs o r p
  unfold sortedT at p
  split at p
  · rename_i d
    obtain ⟨v, _, rfl, r1, rfl⟩ := r
    cases e : collT S d with
    | none => rw [e] at p; exact p.elim
    | some zs =>
      rw [e] at p
      obtain ⟨a, rfl, c⟩ := collT_ok o r1 e
      exact ⟨a, zs, rfl, c, fun z hz => new_lst o (reps_strs _) p z hz⟩
  · exact p.elim
theorem le_sortKL {q : He.Defn × Str} (hq : q ∈ TL.tl) (σ : L2.St) (H : Hp) (Q : VK) (h : LE K W (mSortK fe) σ H Q) : SK.tSortKey K (fun H => LamX.TabS H (He.cT K q.1).2 q.2) (fun H H1 => SK.Lamd (He.cT K q.1).2 q.2 H H1) (LE K W fe) σ H Q := by
  obtain ⟨μ, S, σd, o, fr, p⟩ := h
  refine ⟨μ, S, σd, o, fr, p.andThen fun v H1 μ1 S1 d x o1 r1 p1 => ?_⟩
  cases e : collT S1 d with
  | none => rw [e] at p1; exact p1.elim
  | some zs =>
    rw [e] at p1
    dsimp only at p1
    obtain ⟨hz, p1⟩ := p1.ite
    obtain ⟨a, rfl, _⟩ := collT_ok o1 r1 e
    refine ⟨o1.tabl q hq, a, rfl, fun H2 hl => ?_⟩
    obtain ⟨nx, o2⟩ := o1.lamd hq hl
    obtain ⟨a', e', c⟩ := collT_ok o2 (Rep.mono nx _ _ r1) e
    cases e'
    exact ⟨zs, c, hz, fun p' hp' => new_lst o2 (reps_strs _) (p1.go nx) p' hp'⟩
theorem le_sortKD (σ : L2.St) (H : Hp) (Q : VK) (h : LE K W (mSortK fe) σ H Q) : SK.tSortKey K (fun _ => True) (fun H H1 => H1 = H) (LE K W fe) σ H Q := by
  obtain ⟨μ, S, σd, o, fr, p⟩ := h
  refine ⟨μ, S, σd, o, fr, p.andThen fun v H1 μ1 S1 d x o1 r1 p1 => ?_⟩
  cases e : collT S1 d with
  | none => rw [e] at p1; exact p1.elim
  | some zs =>
    rw [e] at p1
    dsimp only at p1
    obtain ⟨hz, p1⟩ := p1.ite
    obtain ⟨a, rfl, c⟩ := collT_ok o1 r1 e
    refine ⟨True.intro, a, rfl, fun H2 hl => ?_⟩
    subst hl
    exact ⟨zs, c, hz, fun p' hp' => new_lst o1 (reps_strs _) p1 p' hp'⟩
end
end MX

end
section
/-! < of pairs of a number and a text; == of lists of texts. -/
namespace MX
open PySem PySem.Spec PyProof.Rows L2
theorem vals2 {x y : V} {us : List Value} (h : Vals [x, y] us) : ∃ u v, us = [u, v] ∧ RelV x u ∧ RelV y v := by
  cases h with | cons h1 h2 => cases h2 with | cons h3 h4 => cases h4; exact ⟨_, _, rfl, h1, h3⟩
def rLtW (K : PySem.W.Frag) : R2 := fun x y H Q => ∃ (a b : Addr) (i j : Int) (z w : Str), x = .ref a ∧ y = .ref b ∧ SqT K H a [.int i, .str z] ∧ SqT K H b [.int j, .str w] ∧ Q (.bl (decide (i < j ∨ (i = j ∧ z.cps.toList < w.cps.toList)))) H
theorem op_ltW {X : Cx} {k : Nat} (hr : Room k X.A) : OpR X (compareOp .Lt) (rLtW X.K) := by
  intro pins s σ H x y v u Q I rx ry h
  obtain ⟨a, b, i, j, z, w, rfl, rfl, ha, hb, q⟩ := h
  cases rx
  cases ry
  obtain ⟨its, r1, p1, _⟩ := I.tuple ha
  obtain ⟨its2, r2, p2, _⟩ := I.tuple hb
  obtain ⟨u1, u2, rfl, ⟨t1, rfl⟩, ⟨t2, rfl⟩⟩ := vals2 r1
  obtain ⟨w1, w2, rfl, ⟨t3, rfl⟩, ⟨t4, rfl⟩⟩ := vals2 r2
  have hu := hr.units
  have R := Ob.RcOp.tuples_lt (A := X.A) (s := s) (l := a) (b := b) (items := [Value.int i t1, Value.str z t2].toArray) (items2 := [Value.int j t3, Value.str w t4].toArray)
    (e := fun n => if n = 0 then i == j else z == w) (r := fun n => if n = 0 then decide (i < j) else decide (z.cps.toList < w.cps.toList)) p1 p2 (by omega)
    (fun n h1 h2 => by
      match n, h1, h2 with
      | 0, _, _ => exact SeqAt.EqAt.int_int i t1 j t3
      | 1, _, _ => exact SeqAt.EqAt.str_str z t2 w t4
      | n + 2, h, _ => simp at h; omega)
    (fun n h1 h2 _ => by
      match n, h1, h2 with
      | 0, _, _ => exact Ob.RcOp.lt_int i j t1 t3
      | 1, _, _ => exact fun prog w' E Q q => lt_str q
      | n + 2, h, _ => simp at h; omega)
  refine R X.prog X.w X.xe _ (fin_bl I q ?_)
  show _ = Ob.lexAt _ _ (decide (2 < 2)) 0 2
  rw [Ob.lexAt_succ, Ob.lexAt_succ, Ob.lexAt_zero]
  by_cases e : i = j
  · subst e
    by_cases e2 : z = w
    · subst e2
      simp [List.lt_irrefl]
    · simp [e2]
  · simp [e]
def rEqL (K : PySem.W.Frag) : R2 := fun x y H Q => ∃ (a b : Addr) (zs ws : List Str), x = .ref a ∧ y = .ref b ∧ SqL K H a (zs.map V.str) ∧ SqL K H b (ws.map V.str) ∧ Q (.bl (decide (zs = ws))) H
theorem vals_str {zs : List Str} : ∀ {us : List Value}, Vals (zs.map V.str) us → us.length = zs.length ∧ ∀ (j : Nat) (h : j < us.length) (h2 : j < zs.length), ∃ t, us[j] = .str zs[j] t := by
  induction zs with
  | nil => intro us h; cases h; exact ⟨rfl, fun j h => by simp at h⟩
  | cons z zs ih =>
    intro us h
    cases h with
    | cons h1 h2 =>
      obtain ⟨e, q⟩ := ih h2
      refine ⟨by simp [e], fun j h h3 => ?_⟩
      cases j with
      | zero => exact h1
      | succ j => exact q j (by simpa using h) (by simpa using h3)
theorem op_eqL {X : Cx} {k : Nat} (hr : Room k X.A) : OpR X (compareOp .Eq) (rEqL X.K) := by
  intro pins s σ H x y v u Q I rx ry h
  obtain ⟨a, b, zs, ws, rfl, rfl, ha, hb, q⟩ := h
  cases rx
  cases ry
  obtain ⟨its, r1, p1, _⟩ := I.list ha
  obtain ⟨its2, r2, p2, _⟩ := I.list hb
  obtain ⟨l1, v1⟩ := vals_str r1
  obtain ⟨l2, v2⟩ := vals_str r2
  have hu := hr.units
  by_cases hl : zs.length = ws.length
  · have R := SeqAt.RcAt.lists (A := X.A) (s := s) (e := fun n => decide (zs[n]? = ws[n]?)) p1.isList p2.isList (by simp; omega) (by omega) fun j h1 h2 => by
      have h1' : j < its.length := by simpa using h1
      have h2' : j < its2.length := by simpa using h2
      obtain ⟨t1, e1⟩ := v1 j h1' (by omega)
      obtain ⟨t2, e2⟩ := v2 j h2' (by omega)
      have f1 : its.toArray[j] = its[j] := by simp
      have f2 : its2.toArray[j] = its2[j] := by simp
      rw [f1, f2, e1, e2]
      have : decide (zs[j]? = ws[j]?) = (zs[j]'(by omega) == ws[j]'(by omega)) := by
        rw [List.getElem?_eq_getElem (by omega), List.getElem?_eq_getElem (by omega)]
        rw [Bool.eq_iff_iff]
        simp
      rw [this]
      exact SeqAt.EqAt.str_str _ _ _ _
    refine R X.prog X.w X.xe _ (fin_bl I q ?_)
    rw [Bool.eq_iff_iff]
    simp only [decide_eq_true_eq, List.all_eq_true, List.mem_range, List.size_toArray]
    constructor
    · rintro rfl _ _; rfl
    · intro h
      refine List.ext_getElem? fun n => ?_
      by_cases hn : n < its.length
      · exact h n hn
      · rw [List.getElem?_eq_none (by omega), List.getElem?_eq_none (by omega)]
  · have R := SeqAt.RcAt.lists_lengths (A := X.A) (s := s) p1.isList p2.isList (by simp; omega) (by omega)
    refine R X.prog X.w X.xe _ (fin_bl I q ?_)
    have : zs ≠ ws := fun e => hl (by rw [e])
    simp [this]
variable [TL]
/-- < also of pairs -/
@[simp] def ltW : D → D → Os → Res D
  | .tup [.int i, .str z], .tup [.int j, .str w], S => .ok (.bl (decide (i < j ∨ (i = j ∧ z.cps.toList < w.cps.toList)))) S
  | _, _, _ => .bad
theorem rd_ltW {K : PySem.W.Frag} : RD2 K (rLtW K) ltW := by
  intro W σ Q μ S H d e x y o rx ry p
  unfold ltW at p
  split at p
  · obtain ⟨a, vs, rfl, h1, v1, r1, rfl, h2, v2, r2, rfl, h3, h4⟩ := rx
    obtain ⟨b, ws, rfl, g1, w1, s1, rfl, g2, w2, s2, rfl, g3, g4⟩ := ry
    cases h2; cases h3; cases h4; cases g2; cases g3; cases g4
    exact ⟨a, b, _, _, _, _, rfl, rfl, h1, g1, p.val o rfl⟩
  · exact p.elim
@[simp] def eqL (d e : D) (S : Os) : Res D := match (lisD S d).bind strsD, (lisD S e).bind strsD with
  | some zs, some ws => .ok (.bl (decide (zs = ws))) S
  | _, _ => .bad
theorem rd_eqL {K : PySem.W.Frag} : RD2 K (rEqL K) eqL := by
  intro W σ Q μ S H d e x y o rx ry p
  unfold eqL at p
  have one : ∀ {d : D} {x : V} {zs : List Str}, Rep K μ H d x → (lisD S d).bind strsD = some zs → ∃ a, x = .ref a ∧ SqL K H a (zs.map V.str) := fun {d x zs} r e => by
    cases q : lisD S d with
    | none => rw [q] at e; cases e
    | some l =>
      rw [q] at e
      obtain ⟨a, vs, rfl, h1, h2⟩ := lis_ok o r q
      exact ⟨a, rfl, strs_ok h2 e ▸ h1⟩
  split at p
  · rename_i zs ws e1 e2
    obtain ⟨a, rfl, h1⟩ := one rx e1
    obtain ⟨b, rfl, h2⟩ := one ry e2
    exact ⟨a, b, zs, ws, rfl, rfl, h1, h2, p.val o rfl⟩
  · exact p.elim
end MX

end
section
/-! != of types. -/
namespace TN
open PySem PySem.Spec PyProof.Rows
theorem ne_same_decline {M : Model} {A : Around} {E : Value → Shared → Prop} {s : Shared} {a b : Value} {T id : String} {k : Bool} {Q : Value → Shared → Prop}
    (ha : ∀ s' : Shared, s'.TypeIs a T) (hb : ∀ s' : Shared, s'.TypeIs b T) (h1 : Slot T (cmpInfo CmpOp.NotEq).2.1 id) (h2 : Slot T (cmpInfo CmpOp.NotEq).2.2 id)
    (hv : [a, b].any Value.onHeap = false) (hk : isSame a b = pure k)
    (hc : wpAny M A (call (.builtin id) [a, b]) (fun v s₁ => v = .notImplemented ∧ wpAny M A (call (.builtin id) [b, a]) (fun v s₂ => v = .notImplemented ∧ Q (.bool (!k)) s₂) E s₁) E s) :
    wpAny M A (richCompare .NotEq a b) Q E s := by
  obtain ⟨sym, f, r, hi⟩ : ∃ sym f r, cmpInfo CmpOp.NotEq = (sym, f, r) := ⟨_, _, _, rfl⟩
  rw [hi] at h1 h2
  unfold richCompare
  refine wpAny_holding ?_
  rw [cRoomFor_of_value hv, (ha s).oneThing_none]
  refine wpAny_bind (wpAny_pure ?_)
  simp only [hi]
  refine wpAny_bind (wpAny_typeOf (ha s) ?_)
  refine wpAny_bind (wpAny_typeOf (hb s) ?_)
  simp only [bne_self_eq_false, Bool.false_eq_true, if_false]
  refine wpAny_bind (wpAny_pure ?_)
  simp only [Bool.false_eq_true, if_false, Bool.not_false, if_true]
  refine wpAny_bind ?_
  unfold tryCompare
  refine wpAny_bind (wpAny_callSpecialIfBound?_slot (ha s) h1 ?_)
  refine wpAny_mono hc (fun v s1 hv1 => ?_) fun _ _ e => e
  obtain ⟨rfl, h3⟩ := hv1
  refine wpAny_pure ?_
  simp only
  refine wpAny_bind ?_
  refine wpAny_bind (wpAny_callSpecialIfBound?_slot (hb s1) h2 ?_)
  refine wpAny_mono h3 (fun v s2 hv2 => ?_) fun _ _ e => e
  obtain ⟨rfl, h4⟩ := hv2
  refine wpAny_pure ?_
  simp only
  refine wpAny_bind (wpAny_rule ?_)
  rw [hk]
  exact wpAny_bind (wpAny_pure (wpAny_pure h4))
theorem slot_ne : Slot "type" (cmpInfo CmpOp.NotEq).2.1 "object.__ne__" := by
  refine Slot.of (owner := "object") (n := "__ne__") ?_ ?_ ?_ ?_ ?_ ?_ ?_
  · rw [typeLookup_type, builtinLookup_eq_fast]; rfl
  all_goals first | rfl | decide +kernel | exact .inl (by decide +kernel) | (rw [isSubtype_type]; rfl)
theorem slot_ne_refl : Slot "type" (cmpInfo CmpOp.NotEq).2.2 "object.__ne__" := slot_ne
section
variable {prog : Program} {w : World} {A : Around} {E : Value → Shared → Prop} {s : Shared} {Q : Value → Shared → Prop} {X Y : String}
theorem call_ne (hX : ∀ s' : Shared, s'.TypeIs (.type X) "type") (hY : ∀ s' : Shared, s'.TypeIs (.type Y) "type") (h : Q (if X = Y then .bool false else .notImplemented) s) :
    wpAny (model prog w) A (call (.builtin "object.__ne__") [.type X, .type Y]) Q E s := by
  refine wpAny_call_entry slot_ne (hX s) F.entry_object_ne ?_ (F.args_object_ne_2 _ _)
  unfold Builtin.«object.__ne__»
  have e : slotArgs "__ne__" 1 { pos := [Value.type X, Value.type Y] } = pure (.type X, [.type Y]) := by
    simp [slotArgs]
  rw [e]
  refine wpAny_bind (wpAny_pure ?_)
  simp only
  rw [cRoomFor_of_value rfl]
  refine wpAny_bind (wpAny_pure (wpAny_bind (wpAny_callSpecialIfBound?_slot (hX s) TypeEq.slot_type_eq ?_)))
  by_cases q : X = Y
  · subst q
    rw [if_pos rfl] at h
    refine call_gives TypeEq.slot_type_eq (hX s) F.entry_object_eq (F.args_object_eq_2 _ _) (TypeEq.object_eq_same rfl (by simp)) ?_
    show wpAny _ _ (truthy (.bool true) >>= _) _ _ _
    refine wpAny_bind (wpAny_truthy_bool ?_)
    exact wpAny_pure ⟨_, rfl, h⟩
  · rw [if_neg q] at h
    refine call_gives TypeEq.slot_type_eq (hX s) F.entry_object_eq (F.args_object_eq_2 _ _) (TypeEq.object_eq_other rfl (by
      rw [beq_eq_false_iff_ne]
      intro z
      injection z with z
      exact q z)) ?_
    exact wpAny_pure ⟨_, rfl, h⟩
theorem ne_types (hX : ∀ s' : Shared, s'.TypeIs (.type X) "type") (hY : ∀ s' : Shared, s'.TypeIs (.type Y) "type") (h : Q (.bool (!decide (X = Y))) s) :
    wpAny (model prog w) A (compareOp .NotEq (.type X) (.type Y)) Q E s := by
  show wpAny _ _ (richCompare .NotEq _ _) _ _ s
  by_cases q : X = Y
  · subst q
    refine wpAny_richCompare_same (hX s) (hX s) slot_ne (call_ne hX hX ?_) rfl
    rw [if_pos rfl]
    simp at h
    refine ⟨fun z => ?_, h⟩
    cases z
  · refine ne_same_decline (k := false) hX hY slot_ne slot_ne_refl rfl ?_ (call_ne hX hY ?_)
    · rw [isSame_plain rfl]
      congr 1
      rw [beq_eq_false_iff_ne]
      intro z
      injection z with z
      exact q z
    · rw [if_neg q]
      refine ⟨rfl, call_ne hY hX ?_⟩
      rw [if_neg (Ne.symm q)]
      simp [q] at h
      exact ⟨rfl, h⟩
end
end TN

end
section
/-! type(x) != T by data. -/
namespace MX
open PySem PySem.Spec PyProof.Rows L2
variable [TL]
def rNeTy : R2 := fun x y H Q => ∃ a b, x = .ty a ∧ y = .ty b ∧ a ∈ kinds ∧ b ∈ kinds ∧ Q (.bl (!decide (a = b))) H
theorem op_neTy {X : Cx} : OpR X (compareOp .NotEq) rNeTy := by
  intro pins s σ H x y v u Q I rx ry h
  obtain ⟨a, b, rfl, rfl, ha, hb, q⟩ := h
  cases rx; cases ry
  exact TN.ne_types (kind_meta ha) (kind_meta hb) ⟨.bl _, H, I, rfl, q⟩
@[simp] def neT (d e : D) (S : Os) : Res D := match d, e with
  | .ty a, .ty b => if a ∈ kinds ∧ b ∈ kinds then .ok (.bl (!decide (a = b))) S else .bad
  | _, _ => .bad
theorem rd_neTy {K : PySem.W.Frag} : RD2 K rNeTy neT := by
  intro W σ Q μ S H d e x y o rx ry p
  unfold neT at p
  split at p
  · cases rx; cases ry
    obtain ⟨h, p⟩ := p.ite
    exact ⟨_, _, rfl, rfl, h.1, h.2, p.val o rfl⟩
  · exact p.elim
end MX

end
section
/-! () + t of tuples. -/
namespace MX
open PySem PySem.Spec PyProof.Rows L2
def rCatE (K : PySem.W.Frag) : R2 := fun x y H Q => ∃ a b ys, x = .ref a ∧ y = .ref b ∧ SqT K H a [] ∧ SqT K H b ys ∧ Q (.ref b) H
theorem op_catE {X : Cx} : OpR X (binaryOp .Add) (rCatE X.K) := by
  intro pins s σ H x y v u Q I rx ry h
  obtain ⟨a, b, ys, rfl, rfl, ha, hb, q⟩ := h
  cases rx; cases ry
  obtain ⟨its, r1, ⟨⟨cls, dd, data, sl⟩, ho, hc, n, hd⟩, _⟩ := I.tuple ha
  obtain ⟨its2, r2, ⟨⟨cls2, dd2, data2, sl2⟩, ho2, hc2, n2, hd2⟩, _⟩ := I.tuple hb
  cases r1
  simp only at hc hd hc2 hd2
  subst hc hd hc2 hd2
  exact concat_meets ⟨_, ho, rfl⟩ ⟨_, ho2, rfl⟩ noFill_tuple_add seq_tuple_add PySem.F.slot_tuple_add PySem.F.entry_tuple_add (PySem.F.args_tuple_add_2 (.ref a) (.ref b)) (tuple_addW0 a b [].toArray its2.toArray n n2 dd dd2 sl sl2 rfl) ⟨ho, ho2, .ref b, H, I, rfl, q⟩
variable [TL]
/-- + of two tuples, the first may be empty -/
@[simp] def addT : D → D → Os → Res D
  | .tup [], .tup m, S => .ok (.tup m) S
  | d, e, S => addD d e S
theorem rd_addT {K : PySem.W.Frag} : RD2 K (fun x y H Q => rCatE K x y H Q ∨ rAddD K x y H Q) addT := by
  intro W σ Q μ S H d e x y o rx ry p
  unfold addT at p
  split at p
  · obtain ⟨a, vs, rfl, h1, h2⟩ := rx
    cases h2
    have ry' := ry
    obtain ⟨b, ws, rfl, h3, h4⟩ := ry
    exact .inl ⟨a, b, ws, rfl, rfl, h1, h3, p.val o ry'⟩
  · exact .inr (rd_add W σ Q μ S H _ _ x y o rx ry p)
theorem o_addT {X : Cx} : OpR X (binaryOp .Add) (fun x y H Q => rCatE X.K x y H Q ∨ rAddD X.K x y H Q) := OpR.or op_catE o_add
end MX

end
section
set_option maxHeartbeats 1000000
/-! An own error whose __init__ says super().__init__(f"..") and keeps one field. -/
namespace EX
open PySem PySem.Spec PyProof.Rows L2
/-- the __init__'s data -/
abbrev iFd (name qual : Str) (params : Arguments) (body : List Stmt) (scope : Scope) (cc : Addr) (kV doc pm : Value) (an : Option Addr) (cda : Addr) (ct : Value) : FuncData :=
  { name := name, qualname := qual, params := params, body := .stmts body, scope := scope, globals := mainGlobals, closure := [("__class__", cc)], defaults := .none, kwdefaults := kV, doc := doc, pyModule := pm, annotations := an, code := .ref cda, closureTuple := ct, builtins := builtinsNs }
structure InitC (K : PySem.W.Frag) (file0 f : Str) (C fI cc cda : Addr) (fd : FuncData) : Prop where
  ox : OexC K C
  ini : PySem.W.findIn K (.ref C) "__init__" = some (some (.ref fI))
  tyI : PySem.W.typeIn K (.ref fI) = some (.type "function")
  lk : ∃ oc od osl, K.lookup fI = some ⟨oc, od, .func fd, osl⟩
  cod : ∃ ccl cdd vs ccs file tf, K.lookup cda = some ⟨ccl, cdd, .fields vs, ccs⟩ ∧ vs[2]? = some (.str file tf) ∧ (file0 == file) = true
  cin : PySem.W.codeIn K (.ref cda) fd.qualname = true
  clo : ∃ cl cld csl, K.lookup cc = some ⟨cl, cld, .cell (some (.ref C)), csl⟩
  cls : ∃ cd, PySem.W.clsIn K C = some cd ∧ PySem.W.alongIn K "__init__" ((cd.mro.dropWhile (· != .ref C)).drop 1) = some (some (.builtin "ValueError.__init__"))
  sub : PySem.W.mroIn K C (.ref C) = some true
  subV : PySem.W.mroIn K C (.type "ValueError") = some true
  noat : PySem.W.findIn K (.ref C) f = some none
  opq : PySem.W.nsIn K cStatics "thirdparty.any" = some none
def spInit (C : Addr) (f : Str) : Sp := fun vs H Q E => ∃ (a : Addr) (z : Str), vs = [.ref a, .str z] ∧ z.length ≤ 1000 ∧ H a = some (exo a C none) ∧ ∀ dx, H dx = none → dx ≠ a → Q .non (upd (upd H dx (exd dx [(f, .str z)])) a (exo a C (some dx)))
section
open PySem.W
variable {prog : Program} {w : World} {A : Around} {E : Value → Shared → Prop} {h : Heap} {g : Array GenState} {d : Drawn} {t : Nat} {os : OsState}
variable {nm q : Str} {C N : Addr} {bs bm : List Value} {hdct : Bool} {sn : List Str} {sub : List Value} {ab : Bool} {col : Option Bool} {dd : Option Addr} {k0 k1 k2 k3 k5 : Option Value}
theorem call_bwV {u e t0 : Addr} {rest : List Value} {Q : Value → Shared → Prop}
    (hC : h.get? C = some (excClassObj nm q C N bs bm hdct sn sub ab col dd k0 k1 k2 k3 k5 "ValueError.__new__")) (he : h.get? e = some (HandSPX.excO C t0)) (hu : h.get? u = some (kxs_mw "ValueError.__init__" e)) (hrest : rest.length ≤ sizeLine)
    (hbm : HandSPX.refsVE bm = true)
    (hq : ∀ h' t1, (∀ b o, b ≠ e → h.get? b = some o → h'.get? b = some o) → h'.get? e = some (HandSPX.excO C t1) → Q .none ⟨h', g, d, t, os⟩) :
    wpAny (model prog w) A (call (.ref u) rest) Q E ⟨h, g, d, t, os⟩ := by
  refine wpAny_call (codeAny_of_tree ?_)
  show wpAny _ A.in1 (callAny (.ref u) ⟨rest, []⟩) _ _ _
  simp only [callAny]
  refine wpAny_bind (wpAny_load hu ?_)
  simp only [kxs_mw, show (Value.type "method-wrapper" == Value.type "method" || Value.type "method-wrapper" == Value.type "builtin_function_or_method" || Value.type "method-wrapper" == Value.type "method-wrapper") = true by decide, if_true]
  refine W.KFB.if_so (by decide) ?_
  refine wpAny_bind (ESX.check_bound F.excBase_ValueError hC he rfl ?_)
  refine wpAny_bind (wpAny_pure (wpAny_pure ?_))
  refine ⟨Code.quiet_builtin _ (by decide +kernel), codeAny_builtin F.excBase_ValueError.initEntry ?_⟩
  rw [Around.under_plainId F.excBase_ValueError.init.plain _]
  wp_walk
  refine hq _ h.objs.size (fun b o hb ho => ?_) ?_
  · rw [Heap.get?_update_other _ _ (Ne.symm hb)]
    exact Heap.get?_push_of_some _ ho
  · rw [Heap.get?_update_self _ (Heap.get?_push_of_some _ he) rfl]
    rfl
end
section
variable {P : Program} {w : World} {K : PySem.W.Frag} {mg : Str → Option Value} {base : Heap} {CX : CXT} {A : Around} {outer : List Env} {s s1 : Shared} {H : Hp} {E : XK}
abbrev xI (CX : CXT) (P : Program) (w : World) (K : PySem.W.Frag) (mg : Str → Option Value) (base : Heap) (N : List Str) (fI : Addr) (fd : FuncData) (A : Around) (outer : List Env) (s : Shared) (H : Hp) (E : XK) : Cx :=
  { cxOf CX P w K mg base N fd.qualname fd.scope fI fd.code A outer s H E with env := callEnv fd s.heap.objs.size fI, stack := callEnv fd s.heap.objs.size fI :: outer, A := A.deeper (callEnv fd s.heap.objs.size fI), fn := fun _ => false, xe := fun _ _ => False }
theorem init_inv {name qual : Str} {params : Arguments} {body : List Stmt} {scope : Scope} {cc cda fI : Addr} {kV doc pm ct : Value} {an : Option Addr} {prm : Str} {u0 u1 : Value} {v0 v1 : V} {cl : Value} {cld : Option Addr} {csl : Array (Option Value)} {C : Addr}
    (hd : A.handled = none) (e0 : Env0 P w K mg base A outer s H) (hcc : K.lookup cc = some ⟨cl, cld, .cell (some (.ref C)), csl⟩) (hk : scope.kind = .function) (hfree : ∀ y, (scope.names.lookup y = some .cell ∨ scope.names.lookup y = some .free) → y = "__class__") (hp : prm ≠ "self")
    (hs0 : scope.names.lookup ("self" : Str) = some .local) (hs1 : scope.names.lookup prm = some .local)
    (hns : s1.heap.Ns s.heap.objs.size (fun x => ([("self", u0), (prm, u1)] : List (Str × Value)).reverse.lookup x)) (kp : ∀ b o, s.heap.get? b = some o → s1.heap.get? b = some o) (hos : s1.os = s.os) (hg : s1.gens = s.gens) (r0 : RelV v0 u0) (r1 : RelV v1 u1) :
    Inv (xI CX P w K mg base ["self", prm] fI (iFd name qual params body scope cc kV doc pm an cda ct) A outer s H E) [] [some v0, some v1] H s1 := by
  have KX : K.In s.heap := e0.mod.kin.keeps fun b o e => (e0.bs b o e).1
  have ccs : s.heap.get? cc = some ⟨cl, cld, .cell (some (.ref C)), csl⟩ := KX _ _ hcc
  have ccH : H cc = none := (e0.bs _ _ (e0.mod.kin _ _ hcc)).2
  have cl1 : ∀ {x c}, ([("__class__", cc)] : List (Str × Addr)).lookup x = some c → c = cc ∧ x = "__class__" := fun {x c} e => by
    rw [List.lookup_cons] at e
    split at e
    · rename_i q
      cases e
      exact ⟨rfl, by simpa using q⟩
    · simp at e
  refine ⟨⟨e0.mod, hk, rfl, rfl, Nat.le_refl _, fun y z c h1 h2 => (cl1 h1).2.trans (cl1 h2).2.symm, fun y hy => ?_, fun y c z => ?_, fun _ => hd, Around.frames_deeper e0.frames, .inr ⟨rfl, rfl⟩, fun b z => ?_, e0.bs, e0.bsz, fun b _ _ z => ?_, fun b z => ?_, e0.funs, e0.frf⟩,
    hos, by rw [hg]; exact e0.bare, Un.kept kp, ⟨_, hns, fun i y v h1 h2 h3 => ?_⟩, fun y c h => ?_, e0.hok.fresh (Nat.le_refl _), fun y c h => ?_, fun p hp => ?_, e0.hok.kept kp, rfl⟩
  · exact ⟨cc, by rw [hfree y hy]; rfl⟩
  · exact absurd (show false = true from z) (by decide)
  · exact absurd (show b ∈ ([] : List Addr) from z) (by simp)
  · exact absurd (show b ∈ ([] : List Addr) from z) (by simp)
  · exact absurd (show b ∈ ([] : List Addr) from z) (by simp)
  · match i, h1, h2 with
    | 0, h1, h2 =>
      cases h1; cases h2
      refine ⟨u0, r0, .inl ⟨hs0, ?_⟩⟩
      have : (("self" : Str) == prm) = false := by simpa using Ne.symm hp
      simp [List.lookup, this]
    | 1, h1, h2 =>
      cases h1; cases h2
      refine ⟨u1, r1, .inl ⟨hs1, ?_⟩⟩
      simp [List.lookup]
    | n + 2, h1, h2 => cases h1
  · obtain ⟨rfl, _⟩ := cl1 h
    exact ⟨_, _, kp _ _ ccs, rfl⟩
  · obtain ⟨rfl, _⟩ := cl1 h
    exact ccH
  · exact absurd (show p ∈ ([] : List (Addr × Obj)) ++ [] from hp) (by simp)
theorem str_len (a b : Str) : (a ++ b).length = a.length + b.length := by
  show (a.cps ++ b.cps).size = a.cps.size + b.cps.size
  simp
theorem init_ok {k : Nat} {name qual : Str} {params : Arguments} {body : List Stmt} {scope : Scope} {cc cda fI C : Addr} {kV doc pm ct : Value} {an : Option Addr} {f prm z0 : Str} {j0 : Nat} {ar0 ar1 : Arg} {p0 p1 p2 p3 p4 p5 p6 p7 p8 p9 p10 p11 p12 : Pos}
    (T : InitC K P.main.file f C fI cc cda (iFd name qual params body scope cc kV doc pm an cda ct))
    (hbody : body = [.Expr (.Call (.Attribute (.Call (.Name "super" p0) [] [] p1) "__init__" p2) [.JoinedStr [.Constant (.str z0) j0 p5, .FormattedValue (.Name prm p6) (-1) none p7] p8] [] p3) p4, .Assign [.Attribute (.Name "self" p9) f p10] (.Name prm p11) p12])
    (hpar : params.posonlyargs ++ params.args = [ar0, ar1]) (ha0 : ar0.arg = "self") (hk : scope.kind = .function) (hfree : ∀ y, (scope.names.lookup y = some .cell ∨ scope.names.lookup y = some .free) → y = "__class__") (hp : prm ≠ "self") (hpd : (prm == ("__debug__" : Str)) = false) (hpc : (prm == ("__classdict__" : Str)) = false)
    (hs0 : scope.names.lookup ("self" : Str) = some .local) (hs1 : scope.names.lookup prm = some .local) (hs2 : scope.names.lookup ("__class__" : Str) = some .free) (hs3 : scope.names.lookup ("super" : Str) = some .globalImplicit)
    (hnc : ∀ x ∈ scope.names, x.2 ≠ .cell) (hco : scope.isCoroutine = false) (hgen : scope.isGenerator = false) (hz0 : z0.length ≤ 1000) (hm : mg "super" = none) (htop : (P.main.scope.names.lookup ("super" : Str)).isSome = false) (hsw : ∀ env pos, swapsWith (.Name prm p11) (some (.Attribute (.Name "self" p9) f p10)) pos env = pure false)
    (hmc : ∀ env : Env, ∃ pl : Sem Bool, eval (.Call (.Attribute (.Call (.Name "super" p0) [] [] p1) "__init__" p2) [.JoinedStr [.Constant (.str z0) j0 p5, .FormattedValue (.Name prm p6) (-1) none p7] p8] [] p3) env = (do
      let ov ← attributeBase (.Call (.Name "super" p0) [] [] p1) "__init__" env (eval (.Call (.Name "super" p0) [] [] p1) env)
      standAt p2.atName
      let (f, first) ← holding [ov] (getMethod ov "__init__" pl)
      callWith p3 f first (backTo p3 (starEach [.JoinedStr [.Constant (.str z0) j0 p5, .FormattedValue (.Name prm p6) (-1) none p7] p8] env)) [])) :
    FnOk P w K mg base CX k fI (iFd name qual params body scope cc kV doc pm an cda ct) ["self", prm] (spInit C f) := by
  refine ⟨fun vs H Q E ⟨a, z, e, _⟩ => by rw [e]; rfl, fun A outer s H args us vs Q E hr e0 hb r hsp => ?_⟩
  obtain ⟨a, z, rfl, hz, ea, hq⟩ := hsp
  obtain ⟨oc, od, osl, lk⟩ := T.lk
  have KX : K.In s.heap := e0.mod.kin.keeps fun b o e => (e0.bs b o e).1
  have lim : s.heap.NoLimit := e0.mod.nolimit.keeps fun b o e => (e0.bs b o e).1
  cases r with
  | @cons _ u0 _ ur r0 r =>
  cases r with
  | @cons _ u1 _ ur r1 r =>
  cases r
  obtain ⟨cl, cld, csl, hcc⟩ := T.clo
  obtain ⟨ccl, cdd, cvs, ccs, file, tf, hcda, hvs2, hfile⟩ := T.cod
  refine ks_codeAny_call_defAt (fd := iFd name qual params body scope cc kV doc pm an cda ct) (body := body) hr.depth (KX _ _ lk) rfl lim (PySem.W.codeRec_of KX T.cin) rfl hb hnc (fun y hy => ?_) (fun h₁ hns hk₁ => ?_) hco hgen hk
  · obtain ⟨n, v⟩ := y
    have := (List.of_mem_zip hy).1
    simp only [List.mem_cons, List.not_mem_nil, or_false] at this
    rcases this with e | e
    · rw [e]; exact hs0
    · rw [e]; exact hs1
  have I0 := init_inv (P := P) (w := w) (CX := CX) (E := E) (fI := fI) (s1 := { s with heap := h₁, toks := s.toks + 2 }) (name := name) (qual := qual) (params := params) (body := body) (kV := kV) (doc := doc) (pm := pm) (an := an) (cda := cda) (ct := ct) hr.hd e0 hcc hk hfree hp hs0 hs1 hns hk₁ rfl rfl r0 r1
  have X1 : K.In h₁ := KX.keeps hk₁
  obtain ⟨cd, hcls, hal⟩ := T.cls
  obtain ⟨oD, hD1, hD2⟩ : ∃ oD, h₁.get? C = some oD ∧ oD.data = .cls cd := by
    unfold PySem.W.clsIn at hcls
    split at hcls
    · rename_i c d cd' sl ho
      cases hcls
      exact ⟨_, X1 _ _ ho, rfl⟩
    · cases hcls
  obtain ⟨t1, hoe⟩ := exo_at I0.hok ea
  cases r0
  obtain ⟨tz, rfl⟩ := r1
  have hne : a ≠ C := fun z => by
    rw [z, hD1] at hoe
    have := Option.some.inj hoe
    rw [this] at hD2
    cases hD2
  generalize henv : callEnv (iFd name qual params body scope cc kV doc pm an cda ct) s.heap.objs.size fI = env at *
  have eks : env.kindOf "super" = some .globalImplicit := by rw [← henv]; exact hs3
  have ekc : env.kindOf "__class__" = some .free := by rw [← henv]; exact hs2
  have ek0 : env.kindOf "self" = some .local := by rw [← henv]; exact hs0
  have eloc : env.locals = s.heap.objs.size := by rw [← henv]; rfl
  have ecell : env.cells.lookup ("__class__" : Str) = some cc := by rw [← henv]; rfl
  have eglo : env.globals = mainGlobals := by rw [← henv]; rfl
  have eblt : env.builtins = builtinsNs := by rw [← henv]; rfl
  have efun : env.func = some fI := by rw [← henv]; rfl
  have ecod : env.code = .ref cda := by rw [← henv]; rfl
  have ekind : env.scope.kind = .function := by rw [← henv]; exact hk
  have ebody : execs body env = execs [.Expr (.Call (.Attribute (.Call (.Name "super" p0) [] [] p1) "__init__" p2) [.JoinedStr [.Constant (.str z0) j0 p5, .FormattedValue (.Name prm p6) (-1) none p7] p8] [] p3) p4, .Assign [.Attribute (.Name "self" p9) f p10] (.Name prm p11) p12] env := by rw [hbody]
  rw [ebody]
  have hself : h₁.Ns env.locals (fun x => ([("self", Value.ref a), (prm, .str z tz)] : List (Str × Value)).reverse.lookup x) := by rw [eloc]; exact hns
  have hself2 : (([("self", Value.ref a), (prm, .str z tz)] : List (Str × Value)).reverse.lookup ar0.arg) = some (Value.ref a) := by
    have : (("self" : Str) == prm) = false := by simpa using Ne.symm hp
    rw [ha0]
    simp [List.lookup, this]
  obtain ⟨mb, hmb1, hmb2⟩ := e0.mod.blt
  refine PySem.ks_wpAt_execs_cons (PySem.ks_wpAt_Expr_any (PySem.ks_wpAt_MethodCall (PySem.ks_wpAt_super_base (fd := iFd name qual params body scope cc kV doc pm an cda ct) (f := fI) (cc := cda) (ar := ar0) (vs := cvs) (file := file) (tf := tf) eks ekc (by decide) efun (hk₁ _ _ (KX _ _ lk)) rfl (by show (params.posonlyargs ++ params.args).head? = _; rw [hpar]; rfl) ecod (X1 _ _ hcda) rfl hvs2 hfile htop ?_) (hmc env).choose_spec) (by simp [interactive, ekind]) rfl)
  refine PySem.W.ks_loadName_global ekind eks (Calls.loadGlobal_builtin (env := env) (by rw [eglo]; exact (e0.mod.glob.keeps fun b o e => (e0.bs b o e).1).keeps hk₁) hm (by rw [eblt]; exact (hmb1.keeps fun b o e => (e0.bs b o e).1).keeps hk₁) ((hmb2 _ (by decide)).trans (by decide +kernel)) ⟨rfl, ?_⟩)
  refine wpAny_loadName_free ekind ekc ecell ⟨_, X1 _ _ hcc, rfl⟩ ?_
  refine wpAny_loadName_local ekind (by rw [ha0]; exact ek0) hself hself2 ?_
  refine PySem.ks_wpAny_isType_cls hD1 hD2 ⟨rfl, ?_⟩
  refine PySem.ks_wpAny_call_super (C := C) hD1 hD2 hoe rfl (fun c e => by cases e) (PySem.W.looks_mroIn X1 T.sub) (fun h' e k => ?_)
  have X2 : K.In h' := X1.keeps k
  have hoe2 := k _ _ hoe
  refine PySem.W.kxs_getMethod PySem.W.kxs_ValueError e (PySem.W.looks_opaque X2 T.opq) (l₀ := cd.mro) ((PySem.W.looks_clsIn X2 hcls).andThen .now) rfl X2 hal ?_ hne (by decide) ?_
  · exact (PySem.W.InstAt.type (show PySem.W.InstAt h' a _ C none from ⟨hoe2, rfl, rfl, trivial⟩)).andThen (PySem.W.looks_mroIn X2 T.subV)
  have k2 : ∀ b o, h₁.get? b = some o → (h'.push (PySem.W.kxs_mw "ValueError.__init__" a)).get? b = some o := fun b o e => Heap.get?_push_of_some _ (k b o e)
  have hu : (h'.push (PySem.W.kxs_mw "ValueError.__init__" a)).get? h'.objs.size = some (PySem.W.kxs_mw "ValueError.__init__" a) := Heap.get?_push_size _ rfl
  have hlt : h₁.objs.size ≤ h'.objs.size := Nat.le_of_lt (Heap.lt_size e)
  subst henv
  let X0 : Cx := xI CX P w K mg base ["self", prm] fI (iFd name qual params body scope cc kV doc pm an cda ct) A outer s H E
  have I0' : Inv X0 [] [some (.ref a), some (.str z)] H { s with heap := h₁, toks := s.toks + 2 } := I0
  have I1 : Inv X0 [] [some (.ref a), some (.str z)] H { s with heap := h'.push (PySem.W.kxs_mw "ValueError.__init__" a), toks := s.toks + 2 + 1 } := I0'.kept (t' := s.toks + 2 + 1) k2
  have I2 : Inv X0 [(h'.objs.size, PySem.W.kxs_mw "ValueError.__init__" a)] [some (.ref a), some (.str z)] H { s with heap := h'.push (PySem.W.kxs_mw "ValueError.__init__" a), toks := s.toks + 2 + 1 } := I1.pins_of fun p hp => by
    rw [List.mem_singleton.mp hp]
    exact ⟨hu, I0'.hok.fresh hlt, Nat.ne_of_gt (Nat.lt_of_lt_of_le I0'.lt hlt), I0'.nofs hlt, fun v q => by cases q⟩
  have pf : PE X0 (.JoinedStr [.Constant (.str z0) j0 p5, .FormattedValue (.Name prm p6) (-1) none p7] p8) _ := pe_joined (.cons pe_str (.cons (pe_fmt (pe_var (i := 1) rfl (.inl hs1) hpd hpc)) .nil))
  have hz1 : z.length ≤ sizeLine := by rw [sizeLine_eq]; omega
  refine PySem.W.kxs_callWith (i := "ValueError.__init__") (x := a) rfl ?_
  show wpAny _ _ (evalArgs (Value.ref h'.objs.size) true ((false, eval (.JoinedStr [.Constant (.str z0) j0 p5, .FormattedValue (.Name prm p6) (-1) none p7] p8) X0.env) :: backTo p3 (starEach [] X0.env)) []) _ _ _
  refine Calls.evalArgs_plain (Calls.spliced_cons (wpAny_mono (pf.run _ _ _ _ (fun v H' => H' = H ∧ ∃ y, v = .str y) I2 ?_) (fun tv s3 h3 => Calls.spliced_nil ?_) fun _ _ e => e.elim))
  · have l1 : (Str.empty ++ z0).length ≤ sizeLine := by rw [str_len, sizeLine_eq, show Str.empty.length = 0 from rfl]; omega
    have l2 : ((Str.empty ++ z0) ++ z).length ≤ sizeLine := by rw [str_len, str_len, sizeLine_eq, show Str.empty.length = 0 from rfl]; omega
    exact ⟨z0, rfl, l1, _, rfl, .inl ⟨z, rfl, hz1, z, rfl, l2, rfl, _, rfl⟩⟩
  obtain ⟨tv', H3, I3, r3, eH, y, rfl⟩ := h3
  rw [eH] at I3
  obtain ⟨ty, rfl⟩ := r3
  obtain ⟨nm9, q9, N9, bs9, bm9, sn9, sub9, ab9, col9, dd9, k09, k19, k29, k39, k59, hC, hbm⟩ := T.ox.cls
  obtain ⟨t2, hoe3⟩ := exo_at I3.hok ea
  have hu3 := (I3.pin (h'.objs.size, PySem.W.kxs_mw "ValueError.__init__" a) (List.mem_append_right _ List.mem_cons_self)).1
  refine ⟨hu3, ?_⟩
  obtain ⟨hp3, g3, d3, t3, os3⟩ := s3
  refine call_bwV (rest := [Value.str y ty]) (I3.kIn _ _ hC) hoe3 hu3 (by rw [sizeLine_eq]; exact (by decide : 1 ≤ 16777216)) hbm fun h4 t4 k4 hx => ?_
  have I3' : L2.Inv X0 [] [some (.ref a), some (.str z)] H ⟨hp3, g3, d3, t3, os3⟩ := I3.pins_of (by simp)
  have J := I3'.write (t' := t3) (x := a) (e := a) (o := exo a C none) (by rw [ea]; exact True.intro) (.inl rfl) k4 ⟨_, hx⟩ (exo_ok hx)
  have eu : upd H a (exo a C none) = H := by
    funext b
    by_cases hb : b = a
    · rw [hb, upd_same, ea]
    · rw [upd_ne hb]
  rw [eu] at J
  show PySem.wpAt _ _ _ (execs [.Assign [.Attribute (.Name "self" p9) f p10] (.Name prm p11) p12] _) _ _ _
  refine PySem.wpAt_of_wpAny ?_
  have ps : PSs X0 [.Assign [.Attribute (.Name "self" p9) f p10] (.Name prm p11) p12] (tOst K f (tVar 0) (tVar 1)) := pss_one (ps_ost (pe_var (i := 0) rfl (.inl hs0) (by decide) (by decide)) (pe_var (i := 1) rfl (.inl hs1) hpd hpc) (hsw _ _))
  refine wpAny_mono (ps.run [] _ _ H { nx := fun _ H' => Q .non H', rt := Q } J ⟨.str z, rfl, .ref a, rfl, a, C, rfl, T.ox, T.noat, .inl ⟨ea, hq⟩⟩) (fun fl s' hs => ?_) fun _ _ e => e.elim
  cases fl with
  | next =>
    obtain ⟨σ', H', J', q'⟩ := hs
    exact ⟨.non, H', J'.os, J'.bare, J'.base, J'.hok, rfl, q'⟩
  | ret u =>
    obtain ⟨v', σ', H', J', rv, q'⟩ := hs
    exact ⟨v', H', J'.os, J'.bare, J'.base, J'.hok, rv, q'⟩
  | brk =>
    obtain ⟨_, _, _, q'⟩ := hs
    exact False.elim q'
  | cont =>
    obtain ⟨_, _, _, q'⟩ := hs
    exact False.elim q'
end
end EX

end
section
/-! raise of an own error with one text. -/
namespace MX
open PySem PySem.Spec PyProof.Rows L2
/-- an own error class with an __init__ of one text -/
structure ErrOk (P : Program) (w : World) (K : PySem.W.Frag) (mg : Str → Option Value) (base : Heap) (c f : Str) : Prop where
  ini : ∃ (fI : Addr) (fd : FuncData) (ps : List Str), PySem.W.findIn K (.ref (He.ga K c)) "__init__" = some (some (.ref fI)) ∧ PySem.W.typeIn K (.ref fI) = some (.type "function") ∧
    FnOk P w K mg base (L2N.CX P w) 1 fI fd ps (EX.spInit (He.ga K c) f) ∧ Binds K fd ps []
  ox : OexC K (He.ga K c)
  glo : mg c = some (.ref (He.ga K c))
variable [TL]
def mRaise (c f : Str) (e : ME) : MS := fun σ S => (e σ S).toS σ fun d S1 => match d with
  | .str z => if z.length ≤ 1000 then .exn ⟨c, [(f, z)]⟩ σ S1 else .bad
  | _ => .bad
theorem del_upd {H : Hp} {a dx : Addr} {u v w : HO} {x : HO} (ha : H a = none) (hd : H dx = none) (hne : dx ≠ a) : upd (del (upd (upd (upd H a u) dx v) a w) a) dx x = upd H dx x := by
  funext b
  by_cases h1 : b = dx
  · rw [h1, upd_same, upd_same]
  · rw [upd_ne h1, upd_ne h1]
    by_cases h2 : b = a
    · rw [h2]; simp [del, ha]
    · show del _ a b = _
      unfold del
      rw [if_neg h2, upd_ne h2, upd_ne h1, upd_ne h2]
/-- C(e), the object made and its __init__ run; the error's context is None -/
theorem pmk_own1 {X : Cx} {CX : CXT} {x : Str} {e : Expr} {ta : TA} {p pos : Pos} {C fI : Addr} {k : Nat} {fd : FuncData} {ps : List Str} {sp : Sp} (T : OexC X.K C) (ini : PySem.W.findIn X.K (.ref C) "__init__" = some (some (.ref fI))) (isF : PySem.W.typeIn X.K (.ref fI) = some (.type "function"))
    (F1 : FnOk X.prog X.w X.K X.mg X.base CX k fI fd ps sp) (room : Room (k + 1) X.A) (bd : Binds X.K fd ps []) (quiet : Passes CX X (fun _ _ _ => False)) (gl : Gl X x) (mg : X.mg x = some (.ref C)) (pa : PA X [e] ta)
    (ndb : (x == ("__debug__" : Str)) = false) (st1 : starEach [e] X.env = (false, eval e X.env) :: starEach [] X.env) : L2N.PMk X (.Call (.Name x p) [e] [] pos) (tMkO C sp [] ta) := by
  intro pins s σ H Q I want
  obtain ⟨nm, q, N, bs, bm, sn, sub, ab, col, dd, k0, k1, k2, k3, k5, cls, plain⟩ := T.cls
  refine wpAny_Call_Name_kw (ld_glob I gl mg (PySem.W.callWith_K (h₀ := X.base) I.ok.mod.kin T.kC (thn (pa.run pos pins s σ H _ I want) fun us sA came => ?_) st1 rfl) ndb)
  obtain ⟨vs, HA, IA, rv, few, then_⟩ := came
  refine ⟨IA.kIn, ?_⟩
  obtain ⟨hp, g, dr, tk, os⟩ := sA
  generalize at_ : hp.objs.size + 1 = a
  have above : hp.objs.size ≤ a := by omega
  have free : HA a = none := IA.hok.fresh above
  have init := then_ a free
  generalize made : (hp.push (PySem.W.kdv_tup us)).push (PySem.HandSPX.excO C hp.objs.size) = hB
  have keeps : ∀ (b : Addr) (o : Obj), hp.get? b = some o → hB.get? b = some o := fun b o z => by subst made; exact Heap.get?_push_of_some _ (Heap.get?_push_of_some _ z)
  have stands : hB.get? a = some (PySem.HandSPX.excO C hp.objs.size) := by subst made at_; heap_get
  have IB : L2.Inv X pins σ (upd HA a (exo a C none)) ⟨hB, g, dr, tk, os⟩ := IA.laid (t' := tk) (a := a) (o := exo a C none) (h' := hB) keeps above (exo_ok stands)
  rw [List.append_nil] at init
  have rv2 : Vals (V.ref a :: vs) (Value.ref a :: us) := .cons rfl rv
  have many : (Value.ref a :: us).length = ps.length := by rw [← rv2.length]; exact F1.len _ _ _ _ init
  have given := bd ⟨hB, g, dr, tk, os⟩ (Value.ref a :: us) IB.kIn (by rw [List.append_nil]; exact many)
  rw [List.append_nil] at given
  have fits : us.length ≤ sizeLine := by rw [← Paired.length rv, sizeLine_eq]; omega
  subst at_ made
  refine wpAny_call (PySem.HandSPX.call_own F.excBase_ValueError (fun Y => PySem.HandSPX.refsVE_contains Y bm plain) (IA.kIn _ _ cls) (PySem.W.looks_findIn IA.kIn ini) (fun self => PySem.W.bind_fn IA.kIn self isF) fits (codeAny_mono (F1.run _ X.stack _ _ ⟨_, []⟩ _ _ _ (fun _ _ _ => False) (room.make C us []) (IB.env0.make C us []) given rv2 init) fun r s' done => ?_))
  cases r with
  | error er => exact quiet pins σ _ _ er s' IB done
  | ok fl =>
    cases fl with
    | next => exact False.elim done
    | brk => exact False.elim done
    | cont => exact False.elim done
    | ret u =>
      obtain ⟨v, H2, os2, bare2, un2, hok2, ru, ev, d, fs, ea, ed, hd1, q2⟩ := done
      subst ev
      obtain ⟨h2, g2, d2, t2, os'⟩ := s'
      obtain ⟨t0, G, J, grown, gone, there, na⟩ := mk_end0 (d2 := d2) (t2 := t2) IA above keeps un2 hok2 os2 bare2 ea ed hd1
      exact ⟨ru, _, _, _, ⟨G, g2, d2, t2, os'⟩, _, .ref C, some d, rfl, J, grown, gone, there, ⟨rfl, rfl, fun vs hv => by cases hv; rfl⟩, rfl, rfl, na, rfl, bare2, raises_own T.exC T.tyC, q2⟩
theorem s_raise {X : Cx} {W : WX} {c f : Str} {e : Expr} {fe : ME} {p pos pos2 : Pos} (hcalm : X.calm = true) (hT : L2N.Takes X W) (T : ErrOk X.prog X.w X.K X.mg X.base c f) (hr : Room 2 X.A) (hg : Gl X c) (he : PE X e (LE X.K W fe))
    (hdb : (c == "__debug__") = false := by decide) (h1 : starEach [e] X.env = (false, eval e X.env) :: starEach [] X.env := by rfl) :
    PS X (.Raise (some (.Call (.Name c p) [e] [] pos)) none pos2) (LS X.K W (mRaise c f fe)) := by
  obtain ⟨fI, fd, ps, i1, i2, i3, i4⟩ := T.ini
  refine PS.imp (L2N.ps_raise hcalm hT (pmk_own1 (ta := tCons (LE X.K W fe) tNil) T.ox i1 i2 i3 hr i4 (fun pins σ H s e s' I h => ?_) hg T.glo (pa_cons he pa_nil h1) hdb h1)) fun D σ H ⟨μ, S, σd, o, fr, q⟩ => ?_
  · obtain ⟨_, _, _, _, _, _, _, _, _, _, _, _, z⟩ := h
    exact z.elim
  · show tMkO _ _ _ (tCons (LE X.K W fe) tNil) σ H _
    unfold tMkO tCons tNil
    refine ⟨μ, S, σd, o, fr, Pst.thenS fr q fun v H1 μ1 S1 d x o1 r1 q1 => ?_⟩
    cases d <;> try exact q1.elim
    rename_i z
    cases r1
    obtain ⟨hz, q1⟩ : z.length ≤ 1000 ∧ PstS X.K W D μ1 H1 (.exn ⟨c, [(f, z)]⟩ σd S1) := by
      by_cases hz : z.length ≤ 1000
      · simp only [hz, if_true] at q1; exact ⟨hz, q1⟩
      · simp only [hz, if_false] at q1; exact q1.elim
    refine ⟨by simp, fun a ha => ?_⟩
    refine ⟨a, z, rfl, hz, upd_same, fun dx hdx hne => ?_⟩
    have hd1 : H1 dx = none := by rw [upd_ne hne] at hdx; exact hdx
    refine ⟨rfl, dx, [(f, .str z)], upd_same, by rw [upd_ne hne]; exact upd_same, hd1, ?_⟩
    rw [del_upd ha hd1 hne]
    exact q1 μ1 _ _ _ σ (Nx.new0 hd1) (o1.new0 hd1) ((fr.mono x).mono (Nx.new0 hd1)) ⟨rfl, dx, rfl, upd_same⟩
end MX

end
section
/-! try with one handler that names the error. -/
namespace MX
open PySem PySem.Spec PyProof.Rows L2
variable [TL]
/-- a slot is unset once more -/
def unset (i : Nat) : SRes → SRes
  | .nx σ S => .nx (σ.set i none) S
  | .bk σ S => .bk (σ.set i none) S
  | .ct σ S => .ct (σ.set i none) S
  | .rt d S => .rt d S
  | .exn _ _ _ => .bad
  | .bad => .bad
open Classical in
noncomputable def mTry (body : MS) (i : Nat) (sub : Str → Option Bool) (suite : Addr → Addr → Str → MS) : MS := fun σ S => match body σ S with
  | .exn e σ' S' => (match sub e.cls with
    | some true => if h : ∃ r : SRes, ∀ a dd : Addr, unset i (suite a dd e.cls (σ'.set i (some (.err a dd e.fs))) S') = r then h.choose else .bad
    | some false => .exn e σ' S'
    | none => .bad)
  | r => r
theorem mTry_ok {body : MS} {i : Nat} {sub : Str → Option Bool} {suite : Addr → Addr → Str → MS} {σ : Fr} {S : Os} (h : ∀ e σ' S', body σ S ≠ .exn e σ' S') : mTry body i sub suite σ S = body σ S := by
  unfold mTry
  split
  · rename_i e σ' S' q; exact (h e σ' S' q).elim
  · rfl
theorem mTry_exn {body : MS} {i : Nat} {sub : Str → Option Bool} {suite : Addr → Addr → Str → MS} {σ σ' : Fr} {S S' : Os} {e : Exn} {r : SRes} (h : body σ S = .exn e σ' S') (hs : sub e.cls = some true)
    (hr : ∀ a dd : Addr, unset i (suite a dd e.cls (σ'.set i (some (.err a dd e.fs))) S') = r) : mTry body i sub suite σ S = r := by
  unfold mTry
  rw [h]
  simp only [hs]
  have ex : ∃ r : SRes, ∀ a dd : Addr, unset i (suite a dd e.cls (σ'.set i (some (.err a dd e.fs))) S') = r := ⟨r, hr⟩
  rw [dif_pos ex]
  exact (ex.choose_spec 0 0).symm.trans (hr 0 0)
def tsE (K : PySem.W.Frag) (suite : Addr → Addr → Str → MS) (a : Addr) (cls : Value) (d : Option Addr) : TS := fun D σ H => ∃ (c0 : Str) (dd : Addr), cls = .ref (He.ga K c0) ∧ d = some dd ∧ LS K WF (suite a dd c0) D σ H
theorem fr_err {K : PySem.W.Frag} {μ : List Addr} {H : Hp} {σd : Fr} {σ : L2.St} {i : Nat} {a dd : Addr} {fs : List (Str × Str)} (fr : FrRel K μ H σd σ) (hd : H dd = some (.xd (fs.map fun p => (p.1, V.str p.2)))) :
    FrRel K μ H (σd.set i (some (.err a dd fs))) (σ.set i (some (.ref a))) := fr.set ⟨rfl, hd⟩
theorem fr_unset {K : PySem.W.Frag} {μ : List Addr} {H : Hp} {σd : Fr} {σ : L2.St} {i : Nat} (fr : FrRel K μ H σd σ) : FrRel K μ H (σd.set i none) (σ.set i none) := by
  refine ⟨by rw [List.length_set, List.length_set]; exact fr.1, fun j d e => ?_⟩
  by_cases h : j = i
  · subst h
    by_cases hl : j < σd.length
    · rw [List.getElem?_set_self hl] at e; cases e
    · rw [List.getElem?_eq_none (by rw [List.length_set]; omega)] at e; cases e
  · rw [List.getElem?_set_ne (Ne.symm h)] at e
    rw [List.getElem?_set_ne (Ne.symm h)]
    exact fr.2 j d e
theorem s_try_as {X : Cx} {x n : Str} {C : Str} {i : Nat} {body suite : List Stmt} {b₀ : Stmt} {np pos pos' : Pos} {fb : MS} {fs : Addr → Addr → Str → MS} {sub : Str → Option Bool} {Wout : WX}
    (h1 : X.stack = X.env :: X.outer) (h2 : X.env.frame = some X.env.locals) (h3 : X.N.Nodup) (h4 : X.N[i]? = some n) (h5 : X.env.kindOf n = some .local) (h6 : Names X x (.ref (He.ga X.K C))) (h7 : L2N.Takes X Wout)
    (hsub : ∀ c0 b, sub c0 = some b → PySem.W.exmOne X.K (.ref (He.ga X.K c0)) (.ref (He.ga X.K C)) = some b)
    (hb : ∀ (W : WX) (pn : List (Addr × Obj)) (xe : Value → Shared → Prop), L2N.Takes (X.tr pn xe) W → PassesOwn (model X.prog X.w) X.A X.env xe → PSs (X.tr pn xe) body (LS X.K W fb))
    (hs : ∀ (a : Addr) (oe : Obj) (c0 : Str) (dd : Addr) (pn : List (Addr × Obj)), L2N.Zn (.ref (He.ga X.K c0)) (some dd) oe → (∃ vs, oe.data = .fields vs) → PSs (X.suite a ((a, oe) :: pn)) (b₀ :: suite) (LS X.K WF (fs a dd c0))) :
    PS X (.Try body [.ExceptHandler (some (.Name x np)) (some n) (b₀ :: suite) pos'] [] [] pos) (LS X.K Wout (mTry fb i sub fs)) := by
  refine PS.imp (L2N.ps_try_as (i := i) (tb := fun W => LS X.K W fb) (ts := tsE X.K fs) h1 h2 h3 h4 h5 h6 h7 hb fun a oe cls d pn hz hf => ⟨fun pins s σ H D I t => ?_⟩) fun D σ H ⟨μ, S, σd, o, fr, q⟩ => ?_
  · obtain ⟨c0, dd, rfl, rfl, t⟩ := t
    exact (hs a oe c0 dd pn hz hf).run pins s σ H D I t
  · refine ⟨μ, S, σd, o, fr, ?_⟩
    unfold mTry at q
    cases e1 : fb σd S with
    | nx σ2 S2 => rw [e1] at q; exact q
    | rt d S2 => rw [e1] at q; exact q
    | bk σ2 S2 => rw [e1] at q; exact q
    | ct σ2 S2 => rw [e1] at q; exact q
    | bad => rw [e1] at q; exact q.elim
    | exn e σ2 S2 =>
      rw [e1] at q
      simp only at q
      intro μ' H' c dd0 σ3 nx o' fr' er
      obtain ⟨rfl, er⟩ := er
      cases e2 : sub e.cls with
      | none => rw [e2] at q; exact q.elim
      | some b =>
        rw [e2] at q
        refine ⟨b, hsub _ _ e2, fun hb' => ?_, fun hb' => ?_⟩
        · subst hb'
          simp only at q
          split at q
          · rename_i hex
            intro a ha
            obtain ⟨dd, rfl, hx⟩ := er
            refine ⟨e.cls, dd, rfl, rfl, μ', S2, _, o', fr_err (i := i) (a := a) fr' hx, ?_⟩
            have hr := hex.choose_spec a dd
            rw [← hr] at q
            cases e3 : fs a dd e.cls (σ2.set i (some (.err a dd e.fs))) S2 with
            | nx σ4 S4 =>
              rw [e3] at q
              exact fun μ2 H2 σ5 x2 o2 f2 => q μ2 H2 _ (nx.trans x2) o2 (fr_unset f2)
            | rt d S4 =>
              rw [e3] at q
              exact fun μ2 H2 v x2 o2 r2 => q μ2 H2 v (nx.trans x2) o2 r2
            | bk σ4 S4 =>
              rw [e3] at q
              exact fun μ2 H2 σ5 x2 o2 f2 => q μ2 H2 _ (nx.trans x2) o2 (fr_unset f2)
            | ct σ4 S4 =>
              rw [e3] at q
              exact fun μ2 H2 σ5 x2 o2 f2 => q μ2 H2 _ (nx.trans x2) o2 (fr_unset f2)
            | exn e4 σ4 S4 => rw [e3] at q; exact q.elim
            | bad => rw [e3] at q; exact q.elim
          · exact q.elim
        · subst hb'
          exact q μ' H' _ dd0 σ3 nx o' fr' ⟨rfl, er⟩
end MX

end
section
/-! try with one handler that has no name. -/
namespace MX
open PySem PySem.Spec PyProof.Rows L2
variable [TL]
def mTryN (body : MS) (sub : Str → Option Bool) (suite : MS) : MS := fun σ S => match body σ S with
  | .exn e σ' S' => (match sub e.cls with
    | some true => (match suite σ' S' with
      | .exn _ _ _ => .bad
      | r => r)
    | some false => .exn e σ' S'
    | none => .bad)
  | r => r
theorem s_try_only {X : Cx} {x : Str} {C : Str} {body suite : List Stmt} {b₀ : Stmt} {np pos pos' : Pos} {fb fs : MS} {sub : Str → Option Bool} {Wout : WX}
    (h1 : X.stack = X.env :: X.outer) (h2 : X.env.frame = some X.env.locals) (h6 : Names X x (.ref (He.ga X.K C))) (h7 : L2N.Takes X Wout)
    (hsub : ∀ c0 b, sub c0 = some b → PySem.W.exmOne X.K (.ref (He.ga X.K c0)) (.ref (He.ga X.K C)) = some b)
    (hb : ∀ (W : WX) (pn : List (Addr × Obj)) (xe : Value → Shared → Prop), L2N.Takes (X.tr pn xe) W → PassesOwn (model X.prog X.w) X.A X.env xe → PSs (X.tr pn xe) body (LS X.K W fb))
    (hs : ∀ (a : Addr) (oe : Obj) (pn : List (Addr × Obj)), (∃ vs, oe.data = .fields vs) → PSs (X.suite a ((a, oe) :: pn)) (b₀ :: suite) (LS X.K WF fs)) :
    PS X (.Try body [.ExceptHandler (some (.Name x np)) none (b₀ :: suite) pos'] [] [] pos) (LS X.K Wout (mTryN fb sub fs)) := by
  refine PS.imp (L2N.ps_try_many (tb := fun W => LS X.K W fb) h1 h2 h7 hb (.cons (ts := fun _ _ _ => LS X.K WF fs) h6 (fun a oe cls d pn hz hf => hs a oe pn hf) .nil)) fun D σ H ⟨μ, S, σd, o, fr, q⟩ => ?_
  refine ⟨μ, S, σd, o, fr, ?_⟩
  unfold mTryN at q
  cases e1 : fb σd S with
  | nx σ2 S2 => rw [e1] at q; exact q
  | rt d S2 => rw [e1] at q; exact q
  | bk σ2 S2 => rw [e1] at q; exact q
  | ct σ2 S2 => rw [e1] at q; exact q
  | bad => rw [e1] at q; exact q.elim
  | exn e σ2 S2 =>
    rw [e1] at q
    simp only at q
    intro μ' H' c dd0 σ3 nx o' fr' er
    obtain ⟨rfl, er⟩ := er
    cases e2 : sub e.cls with
    | none => rw [e2] at q; exact q.elim
    | some b =>
      rw [e2] at q
      refine ⟨b, hsub _ _ e2, fun hb' => ?_, fun hb' => ?_⟩
      · subst hb'
        simp only at q
        have : ∀ a : Addr, LS X.K WF fs D σ3 H' := fun a => by
          refine ⟨μ', S2, _, o', fr', ?_⟩
          cases e3 : fs σ2 S2 with
          | nx σ4 S4 =>
            rw [e3] at q
            exact fun μ2 H2 σ5 x2 o2 f2 => q μ2 H2 _ (nx.trans x2) o2 f2
          | rt d S4 =>
            rw [e3] at q
            exact fun μ2 H2 v x2 o2 r2 => q μ2 H2 v (nx.trans x2) o2 r2
          | bk σ4 S4 =>
            rw [e3] at q
            exact fun μ2 H2 σ5 x2 o2 f2 => q μ2 H2 _ (nx.trans x2) o2 f2
          | ct σ4 S4 =>
            rw [e3] at q
            exact fun μ2 H2 σ5 x2 o2 f2 => q μ2 H2 _ (nx.trans x2) o2 f2
          | exn e4 σ4 S4 => rw [e3] at q; exact q.elim
          | bad => rw [e3] at q; exact q.elim
        exact fun a _ => this a
      · subst hb'
        exact q μ' H' _ dd0 σ3 nx o' fr' ⟨rfl, er⟩
end MX

end
section
namespace EX
open PySem PySem.Spec PyProof.Rows
theorem find_data {K : W.Frag} {C : Addr} {od : Option Obj} {name : Str} {a g : Value} (hc : (W.clsIn K C).isSome = true) (h1 : W.findIn K (.ref C) name = some (some a)) (h2 : W.specialIn K a "__get__" = some (some g)) (h3 : W.takesIn K a = some true) :
    W.findObj K C od name = some (Builtin.ObjectAttr.Found.bind g a) := by
  unfold W.findObj
  obtain ⟨cd, hcd⟩ := Option.isSome_iff_exists.mp hc
  rw [hcd, h1]
  simp [h2, h3]
set_option maxHeartbeats 400000 in
theorem kin_class {prog : Program} {w : World} {A : Around} {E : Value → Shared → Prop} {hp : Heap} {g : Array GenState} {d : Drawn} {t : Nat} {os : OsState} {K : W.Frag} {x D : Addr} {ox : Obj} {od : Option Obj} {Q : Option Value → Shared → Prop}
    (hga : W.findIn K (.ref D) "__getattribute__" = some (some (.builtin "BaseException.__getattribute__"))) (hgt : W.findIn K (.ref D) "__getattr__" = some none) (hsub : W.subIn K (.ref D) (.type "BaseException") = some true) (hdct : W.hasDictIn K D = true)
    (ha : W.findIn K (.ref D) "__class__" = some (some (.builtin "object.__class__"))) (hn : W.specialIn K (.builtin "object.__class__") "__get__" = some (some (.builtin "getset_descriptor.__get__"))) (htk : W.takesIn K (.builtin "object.__class__") = some true) (hm : W.mroIn K D (.type "object") = some true)
    (X : K.In hp) (I : W.InstAt hp x ox D od) (h : Q (some (.ref D)) ⟨hp, g, d, t + 1, os⟩) : wpAny (model prog w) A (getAttr? (.ref x) "__class__") Q E ⟨hp, g, d, t, os⟩ := by
  have hcs : (W.clsIn K D).isSome = true := by
    obtain ⟨cd, h, _⟩ := W.any_some hdct
    rw [h]; rfl
  have L0 := I.type (M := model prog w)
  have L1 := W.looks_findIn (M := model prog w) X hga
  have L2 := W.looks_findIn (M := model prog w) X hgt
  have L3 := W.looks_find (M := model prog w) X I (find_data (od := od) hcs ha hn htk)
  have sub : W.Looks (model prog w) hp (isInstance (.ref x) (.type "BaseException")) true := L0.andThen (f := fun t => isSubtype t (.type "BaseException")) (W.looks_subIn X hsub)
  unfold getAttr?
  refine wpAny_bind (wpAny_mkText (wpAny_bind (wpAny_attempt ?_)))
  unfold getAttrBy
  refine wpAny_holding (wpAny_bind (L0.at (wpAny_bind (L1.at ?_))))
  have hx2 : (Value.builtin "BaseException.__getattribute__" == Value.builtin "object.__getattribute__") = false := by decide
  simp only []
  rw [if_neg (show ¬ (onTheHeap (Value.ref D) && (Value.builtin "BaseException.__getattribute__" == Value.builtin "object.__getattribute__")) = true by rw [hx2, Bool.and_false]; exact Bool.false_ne_true)]
  unfold getAttrByItsOwn hookBefore
  rw [if_pos (by rfl)]
  refine wpAny_bind (L2.at ?_)
  refine wpAny_bind (wpAny_attempt (wpAny_holding ?_))
  unfold callGetattribute
  rw [if_neg (show ¬ (false && onTheHeap (Value.builtin "BaseException.__getattribute__")) = true from Bool.false_ne_true)]
  unfold boundAndCalled
  rw [F.excAttr_ValueError.ga.bind (.ref x)]
  refine wpAny_bind (wpAny_pure ?_)
  show wpAny (model prog w) A (call (.builtin "BaseException.__getattribute__") [.ref x, .str "__class__" t]) _ _ _
  refine wpAny_call ?_
  refine codeAny_call_builtin F.excAttr_ValueError.ga.plain F.entry_bexc_ga ?_
  refine W.check_slot (M := model prog w) (s := ⟨hp, g, d, t + 1, os⟩) (i := "BaseException.__getattribute__") (owner := "BaseException") (n := "__getattribute__") (self := .ref x) (rest := [.str "__class__" t]) (kw := []) W.kin_classE._proof_2 W.kin_classE._proof_3 sub (F.args_bexc_ga (.ref x) (.str "__class__" t)) ?_
  unfold Builtin.«object.__getattribute__»
  have e : slotArgs "__getattribute__" 1 { pos := [Value.ref x, Value.str "__class__" t] } = pure (.ref x, [.str "__class__" t]) := rfl
  refine wpAny_bind (wpAny_of_eq e ?_)
  show wpAny _ _ (Builtin.ObjectAttr.attrName (.str "__class__" t) >>= _) _ _ _
  refine wpAny_bind (wpAny_of_eq (show Builtin.ObjectAttr.attrName (.str "__class__" t) = pure ("__class__" : Str) from rfl) ?_)
  refine wpAny_bind (L0.at ?_)
  refine wpAny_bind (L3.at ?_)
  show wpAny _ _ (Builtin.ObjectAttr.bindTo (.builtin "getset_descriptor.__get__") (.builtin "object.__class__") (.ref x) (.ref D)) _ _ _
  unfold Builtin.ObjectAttr.bindTo
  show wpAny _ _ (holding [Value.builtin "object.__class__"] (call (Value.builtin "getset_descriptor.__get__") [Value.builtin "object.__class__", Value.ref x, Value.ref D]) >>= _) _ _ _
  refine wpAny_bind (wpAny_holding (wpAny_call (W.class_get X I hm ?_)))
  show wpAny (model prog w) A.in1 (pure (PySem.Fin.done (Flow.ret (Value.ref D)))) _ _ _
  refine wpAny_pure ?_
  show wpAny (model prog w) A (handedOut (.ref D)) _ _ _
  exact W.handed_on rfl (wpAny_pure h)
theorem cls_at {K : W.Frag} {D : Addr} (h : W.hasDictIn K D = true) : ∃ cls dict cd slots, K.lookup D = some ⟨cls, dict, .cls cd, slots⟩ := by
  obtain ⟨cd, h1, _⟩ := W.any_some h
  unfold W.clsIn at h1
  split at h1
  · rename_i cls dict cd' slots e
    exact ⟨cls, dict, cd', slots, e⟩
  · cases h1
theorem kitx_exc {K : W.Frag} {x D : Addr} {ox : Obj} {od : Option Obj}
    (hga : W.findIn K (.ref D) "__getattribute__" = some (some (.builtin "BaseException.__getattribute__"))) (hgt : W.findIn K (.ref D) "__getattr__" = some none) (hsub : W.subIn K (.ref D) (.type "BaseException") = some true) (hdct : W.hasDictIn K D = true)
    (ha : W.findIn K (.ref D) "__class__" = some (some (.builtin "object.__class__"))) (hn : W.specialIn K (.builtin "object.__class__") "__get__" = some (some (.builtin "getset_descriptor.__get__"))) (htk : W.takesIn K (.builtin "object.__class__") = some true) (hm : W.mroIn K D (.type "object") = some true) :
    W.KitX K (.ref x) (.ref D) fun h => W.InstAt h x ox D od := by
  obtain ⟨cls, dict, cd, slots, hD⟩ := cls_at hdct
  refine ⟨fun _ _ _ I => I.type, fun M h X I => ?_, fun h tp dd its n sl X e => ?_, ?_⟩
  · intro A' Q' E' s' k q
    exact wpAny_bind (wpAny_loadPart (k D _ (X D _ hD)) (wpAny_pure q))
  · rw [beq_eq_false_iff_ne]
    intro z
    injection z with z
    have := X D _ hD
    rw [z, e] at this
    cases this
  · intro prog w A E Q s X I q
    exact kin_class hga hgt hsub hdct ha hn htk hm X I q
end EX

end
section
/-! In a suite: isinstance(error, C), error.field. -/
namespace MX
open PySem PySem.Spec PyProof.Rows L2
variable [TL]
/-- the error's class answers isinstance -/
theorem call_isX {X : Cx} {a D : Addr} {oe : Obj} {dd : Addr} (T : ExcC X.K D) (hz : Zc (.ref D) (some dd) oe) (hf : ∃ vs, oe.data = .fields vs) (hp : (a, oe) ∈ X.pn) :
    CallR X (.builtin "isinstance") fun xs H Q => (∃ fs, H dd = some (.xd fs)) ∧ rIsE X.K D a xs H Q := by
  intro pins s σ H xs us Q I r h
  obtain ⟨⟨fs, hx⟩, c, cv, b, rfl, hcv, hk, q⟩ := h
  obtain ⟨u1, u2, rfl, r1, r2⟩ := vals2 r
  cases r1
  obtain rfl := hcv u2 r2
  obtain ⟨hget, _⟩ := I.pin (a, oe) (List.mem_append_left _ hp)
  obtain ⟨vs, hv⟩ := hf
  obtain ⟨mA, hns, _⟩ := I.hok dd (.xd fs) hx
  obtain ⟨od, ho, _⟩ := lookIn_ns hns
  have KX : X.K.In s.heap := fun x o e => I.bk _ _ (I.mod.kin x o e)
  have J : PySem.W.InstAt s.heap a oe D (some od) := ⟨hget, hz.1, by unfold PySem.W.notCls; rw [hv], by rw [hz.2]; exact ho⟩
  have A := PySem.W.kit_ans (EX.kitx_exc (x := a) (ox := oe) (od := some od) T.hg T.hk T.hs T.hd T.ha T.hn T.ht T.hm) hk
  refine call_isinstance_of (wpAny_mono (A 0 0 X.prog X.w X.A (fun r s' => match r with | .ok (.ret v) => EP X pins σ Q v s' | .ok _ => False | .error e => X.xe e s') s ⟨⟨KX, J⟩, fun tk' => ?_⟩) (fun fin s' h => h) fun _ _ e => e)
  exact ⟨.bl b, H, I.kept (t' := tk') fun _ _ e => e, rfl, q⟩
/-- isinstance(error, C): the error's class is D, its fields lie at dd -/
def isErr (a dd : Addr) (b : Bool) : ME → ME := fun e => fun σ S => (e σ S).bind fun x S1 => match x with
  | .err a' dd' _ => if a' = a ∧ dd' = dd then .ok (.bl b) S1 else .bad
  | _ => .bad
/-- error.f -/
def mXf (a dd : Addr) (f : Str) : ME → ME := fun e => fun σ S => (e σ S).bind fun x S1 => match x with
  | .err a' dd' fs => if a' = a ∧ dd' = dd then (match fs.lookup f with | some z => .ok (.str z) S1 | none => .bad) else .bad
  | _ => .bad
theorem lookup_map (fs : List (Str × Str)) (f z : Str) (h : fs.lookup f = some z) : (fs.map fun p => (p.1, V.str p.2)).lookup f = some (V.str z) := by
  induction fs with
  | nil => cases h
  | cons p fs ih =>
    obtain ⟨k, v⟩ := p
    rw [List.map_cons]
    simp only [List.lookup_cons] at h ⊢
    by_cases q : (f == k) = true
    · rw [q] at h ⊢; cases h; rfl
    · have q' : (f == k) = false := by simpa using q
      rw [q'] at h ⊢
      exact ih h
theorem e_xf {X : Cx} {a dd : Addr} {c0 : Str} {oe : Obj} {pn : List (Addr × Obj)} {e : Expr} {fe : ME} {W : WX} {pos : Pos} {n : Str} (T : XfC X.K (He.ga X.K c0)) (h1 : PySem.W.findIn X.K (.ref (He.ga X.K c0)) n = some none)
    (hz : Zc (.ref (He.ga X.K c0)) (some dd) oe) (hf : ∃ vs, oe.data = .fields vs) (he : PE (X.suite a ((a, oe) :: pn)) e (LE X.K W fe)) (hb : attributeBase e n X.env (eval e X.env) = eval e X.env := by rfl) :
    PE (X.suite a ((a, oe) :: pn)) (.Attribute e n pos) (LE X.K W (mXf a dd n fe)) := by
  refine PE.imp (pe_xf T h1 hz hf he hb) fun σ H Q ⟨μ, S, σd, o, fr, p⟩ => ⟨μ, S, σd, o, fr, p.andThen fun v H1 μ1 S1 d x o1 r1 p1 => ?_⟩
  cases d <;> try exact p1.elim
  rename_i a' dd' fs
  obtain ⟨rfl, hx⟩ := r1
  obtain ⟨hc, p2⟩ := p1.ite
  obtain ⟨rfl, rfl⟩ := hc
  cases e1 : fs.lookup n with
  | none => rw [e1] at p2; exact p2.elim
  | some z =>
    rw [e1] at p2
    exact ⟨rfl, rfl, _, _, .str z, rfl, hx, lookup_map fs n z e1, Pst.val (d := .str z) p2 o1 rfl⟩
theorem e_isErr {X : Cx} {a dd : Addr} {c0 C : Str} {oe : Obj} {pn : List (Addr × Obj)} {e : Expr} {fe : ME} {W : WX} {p1 p2 pos : Pos} {b : Bool} (T : ExcC X.K (He.ga X.K c0)) (hg : Gl X "isinstance") (hm : X.mg "isinstance" = none)
    (hz : Zc (.ref (He.ga X.K c0)) (some dd) oe) (hf : ∃ vs, oe.data = .fields vs) (hgC : Gl X C) (hC : X.mg C = some (.ref (He.ga X.K C))) (hk : PySem.W.kitOne X.K (.ref (He.ga X.K c0)) (.ref (He.ga X.K C)) = some b) (he : PE (X.suite a ((a, oe) :: pn)) e (LE X.K W fe))
    (hCd : (C == "__debug__") = false := by decide) (ne : starEach [e, .Name C p2] X.env = (false, eval e X.env) :: starEach [.Name C p2] X.env := by rfl) :
    PE (X.suite a ((a, oe) :: pn)) (.Call (.Name "isinstance" p1) [e, .Name C p2] [] pos) (LE X.K W (isErr a dd b fe)) := by
  have hC' : PE (X.suite a ((a, oe) :: pn)) (.Name C p2) (tC (.ref (He.ga X.K C))) := pe_glob (X := X.suite a ((a, oe) :: pn)) (v := .ref (He.ga X.K C)) hgC hC rfl hCd
  refine PE.imp (pe_callB (X := X.suite a ((a, oe) :: pn)) (t := tCons (LE X.K W fe) (tCons (tC (.ref (He.ga X.K C))) tNil)) (call_isX T hz hf List.mem_cons_self) hg hm (by decide +kernel) (pa_cons he (pa_cons hC' pa_nil rfl) ne) (by decide) (by decide) ne rfl) fun σ H Q ⟨μ, S, σd, o, fr, p⟩ => ?_
  refine ⟨μ, S, σd, o, fr, p.andThen fun v H1 μ1 S1 d x o1 r1 p1' => ?_⟩
  cases d <;> try exact p1'.elim
  rename_i a' dd' fs
  obtain ⟨rfl, hx⟩ := r1
  obtain ⟨hc, p2'⟩ := p1'.ite
  obtain ⟨rfl, rfl⟩ := hc
  exact ⟨⟨_, hx⟩, _, _, b, rfl, fun u h => h, hk, Pst.val (d := .bl b) p2' o1 rfl⟩
end MX

end
section
/-! A hook that tells each error class's __init__ as well. -/
namespace HK
open PySem PySem.Spec PyProof.Rows L2
/-- what is seen of an __init__ -/
abbrev IObs := Str × Str × Arguments × FuncBody × Scope × Addr × Addr × Value × List Str
def initObs (K : PySem.W.Frag) (c : Str) : Option IObs := match K.lookup (He.ma K (He.ga K c) "__init__") with
  | some ⟨_, _, .func fd, _⟩ => some (fd.name, fd.qualname, fd.params, fd.body, fd.scope, fd.globals, fd.builtins, fd.defaults, fd.closure.map (·.1))
  | _ => none
theorem saysX_keep {fa : List He.Fa} {fn : List He.DefD} {ts : List He.Tab} {tf : List He.Defn} {ex : PySem.W.Frag → Bool} {w : World} {h h' : Heap} {K : PySem.W.Frag} (s : He.SaysX fa fn ts tf ex w h K) (k : ∀ b o, h.get? b = some o → h'.get? b = some o) : He.SaysX fa fn ts tf ex w h' K :=
  ⟨s.t, s.more, s.hd, s.out, fun p hp => k _ _ (s.empty p hp)⟩
/-- the addresses that are looked at: from the globals, and the place of what is set once for all -/
def seenAt (g : Addr → Option Obj) (n : Nat) : List Addr := He.asD g n ++ [cStatics]
abbrev frS (g : Addr → Option Obj) (n : Nat) : PySem.W.Frag := He.frT g (seenAt g n)
def obsS (n : Nat) (fa : List He.Fa) (fn : List He.DefD) (ts : List He.Tab) (tf : List He.Defn) (ex : PySem.W.Frag → Bool) (g : Addr → Option Obj) : He.AlX := (He.obsT fa fn ts (frS g n), ex (frS g n) && He.tabsB g tf (frS g n))
theorem saysS_of {n : Nat} {fa : List He.Fa} {fn : List He.DefD} {ts : List He.Tab} {tf : List He.Defn} {ex : PySem.W.Frag → Bool} {w : World} {h : Heap} (e : obsS n fa fn ts tf ex h.get? = He.valX fn ts w) : He.SaysX fa fn ts tf ex w h (frS h.get? n) := by
  have fst := congrArg Prod.fst e
  have snd : (ex (frS h.get? n) && He.tabsB h.get? tf (frS h.get? n)) = true := congrArg Prod.snd e
  rw [Bool.and_eq_true] at snd
  have each : ∀ p ∈ tf, PySem.W.codeHdIn (frS h.get? n) (He.cT (frS h.get? n) p).1 (He.cT (frS h.get? n) p).2 = true ∧ ∃ o, h.get? (He.cT (frS h.get? n) p).2 = some o ∧ He.emptyTab o = true := fun p mp => by
    have both := List.all_eq_true.mp snd.2 p mp
    rw [Bool.and_eq_true] at both
    refine ⟨both.1, ?_⟩
    have two := both.2
    split at two
    · rename_i o at_
      exact ⟨o, at_, two⟩
    · cases two
  refine ⟨fst, snd.1, fun p mp => (each p mp).1, fun p mp => ?_, fun p mp => ?_⟩
  · obtain ⟨_, o, at_, em⟩ := each p mp
    exact He.frT_none at_ em
  · obtain ⟨_, o, at_, em⟩ := each p mp
    rw [at_, He.emptyTab_eq em]
def obsE (n : Nat) (fa : List He.Fa) (fn : List He.DefD) (ts : List He.Tab) (tf : List He.Defn) (ex : PySem.W.Frag → Bool) (es : List (Str × IObs)) (g : Addr → Option Obj) : He.AlX × List (Option IObs) :=
  (obsS n fa fn ts tf ex g, es.map fun e => initObs (frS g n) e.1)
def hookE (n : Nat) (fa : List He.Fa) (fn : List He.DefD) (ts : List He.Tab) (tf : List He.Defn) (ex : PySem.W.Frag → Bool) (es : List (Str × IObs)) : PySem.W.Hook where
  α := He.AlX × List (Option IObs)
  obs := fun s => obsE n fa fn ts tf ex es s.heap.get?
  val := fun w => (He.valX fn ts w, es.map fun e => some e.2)
  says := fun w h => ∃ K : PySem.W.Frag, K.In h ∧ He.SaysX fa fn ts tf ex w h K ∧ ∀ e ∈ es, initObs K e.1 = some e.2
  of := fun w s e => by
    have e1 := congrArg Prod.fst e
    have e2 := congrArg Prod.snd e
    exact ⟨_, He.frT_in, saysS_of e1, fun x hx => (List.map_inj_left.mp e2) x hx⟩
  keeps := fun w h h' ⟨K, k1, k2, k3⟩ k => ⟨K, fun a o e => k _ _ (k1 a o e), saysX_keep k2 k, k3⟩
theorem obsE_eq {n : Nat} {fa : List He.Fa} {fn : List He.DefD} {ts : List He.Tab} {tf : List He.Defn} {ex : PySem.W.Frag → Bool} {es : List (Str × IObs)} {g : Addr → Option Obj} {s : Shared} (h : ∀ a, g a = s.heap.get? a) : obsE n fa fn ts tf ex es g = (hookE n fa fn ts tf ex es).obs s := by
  have : g = s.heap.get? := funext h
  subst this
  rfl
end HK

end
section
/-! The error classes' facts, tested. -/
namespace HK
open PySem PySem.Spec PyProof.Rows L2
def clsShape (C : Addr) (o : Obj) : Bool := match o with
  | ⟨.type t, _, .cls ⟨_, _, .ref c :: bm, _, _, hdct, _, _, _, _, hdel⟩, slots⟩ => t == "type" && c == C && hdct && !hdel && HandSPX.refsVE bm && (match slots.toList with
    | [_, _, _, _, some (.builtin id), _] => id == "ValueError.__new__"
    | _ => false)
  | _ => false
theorem clsShape_ok {C : Addr} {o : Obj} (h : clsShape C o = true) : ∃ nm q N bs bm sn sub ab col dd k0 k1 k2 k3 k5, o = excClassObj nm q C N bs bm true sn sub ab col dd k0 k1 k2 k3 k5 "ValueError.__new__" ∧ HandSPX.refsVE bm = true := by
  unfold clsShape at h
  split at h
  · rename_i t dd nm bs c bm N q hdct sn sub ab col hdel slots
    simp only [Bool.and_eq_true, beq_iff_eq, Bool.not_eq_true'] at h
    obtain ⟨⟨⟨⟨⟨rfl, rfl⟩, rfl⟩, rfl⟩, h5⟩, h6⟩ := h
    split at h6
    · rename_i k0 k1 k2 k3 id k5 e
      have hid : id = "ValueError.__new__" := by simpa using h6
      subst hid
      refine ⟨nm, q, N, bs, bm, sn, sub, ab, col, dd, k0, k1, k2, k3, k5, ?_, h5⟩
      have : slots = #[k0, k1, k2, k3, some (.builtin "ValueError.__new__"), k5] := by
        rw [← Array.toArray_toList (xs := slots), e]
      rw [this]
    · cases h6
  · cases h
def oexB (K : PySem.W.Frag) (C : Addr) : Bool :=
  (match K.lookup C with | some o => clsShape C o | none => false) && (PySem.W.findIn K (.ref C) "__setattr__" == some (some (.builtin "object.__setattr__"))) && (PySem.W.subIn K (.ref C) (.type "BaseException") == some true) && (PySem.W.typeIn K (.ref C) == some (.type "type")) && PySem.W.keepIn K (.ref C)
theorem oexB_ok {K : PySem.W.Frag} {C : Addr} (h : oexB K C = true) : OexC K C := by
  unfold oexB at h
  simp only [Bool.and_eq_true, beq_iff_eq] at h
  obtain ⟨⟨⟨⟨h1, h2⟩, h3⟩, h4⟩, h5⟩ := h
  cases e : K.lookup C with
  | none => rw [e] at h1; cases h1
  | some o =>
    rw [e] at h1
    obtain ⟨nm, q, N, bs, bm, sn, sub, ab, col, dd, k0, k1, k2, k3, k5, rfl, hr⟩ := clsShape_ok h1
    exact ⟨⟨nm, q, N, bs, bm, sn, sub, ab, col, dd, k0, k1, k2, k3, k5, e, hr⟩, h2, h3, h4, h5⟩
def excB (K : PySem.W.Frag) (D : Addr) : Bool :=
  (PySem.W.findIn K (.ref D) "__getattribute__" == some (some (.builtin "BaseException.__getattribute__"))) && (PySem.W.findIn K (.ref D) "__getattr__" == some none) && (PySem.W.subIn K (.ref D) (.type "BaseException") == some true) && PySem.W.hasDictIn K D &&
  (PySem.W.findIn K (.ref D) "__class__" == some (some (.builtin "object.__class__"))) && (PySem.W.specialIn K (.builtin "object.__class__") "__get__" == some (some (.builtin "getset_descriptor.__get__"))) && (PySem.W.takesIn K (.builtin "object.__class__") == some true) && (PySem.W.mroIn K D (.type "object") == some true)
theorem excB_ok {K : PySem.W.Frag} {D : Addr} (h : excB K D = true) : ExcC K D := by
  unfold excB at h
  simp only [Bool.and_eq_true, beq_iff_eq] at h
  obtain ⟨⟨⟨⟨⟨⟨⟨h1, h2⟩, h3⟩, h4⟩, h5⟩, h6⟩, h7⟩, h8⟩ := h
  exact ⟨h1, h2, h3, h4, h5, h6, h7, h8⟩
theorem excB_xf {K : PySem.W.Frag} {D : Addr} (h : excB K D = true) : XfC K D := by
  have T := excB_ok h
  exact ⟨T.hg, T.hk, T.hs, T.hd⟩
end HK

end
section
/-! An __init__ as it is seen: what init_ok asks for. -/
namespace HK
open PySem PySem.Spec PyProof.Rows L2
def fdB (K : PySem.W.Frag) (file0 : Str) (C : Addr) (fd : FuncData) : Bool := match fd.closure, fd.code with
  | [(_, cc)], .ref cda => (match K.lookup cda with
      | some ⟨_, _, .fields vs, _⟩ => (match (vs[2]? : Option Value) with
        | some (Value.str file _) => file0 == file
        | _ => false)
      | _ => false) && PySem.W.codeIn K (.ref cda) fd.qualname && (match K.lookup cc with
      | some ⟨_, _, .cell (some (.ref C')), _⟩ => C' == C
      | _ => false)
  | _, _ => false
def initB (K : PySem.W.Frag) (file0 f c : Str) : Bool :=
  oexB K (He.ga K c) && (PySem.W.findIn K (.ref (He.ga K c)) "__init__" == some (some (.ref (He.ma K (He.ga K c) "__init__")))) && (PySem.W.typeIn K (.ref (He.ma K (He.ga K c) "__init__")) == some (.type "function")) &&
  (match K.lookup (He.ma K (He.ga K c) "__init__") with
    | some ⟨_, _, .func fd, _⟩ => fdB K file0 (He.ga K c) fd
    | _ => false) &&
  (match PySem.W.clsIn K (He.ga K c) with
    | some cd => PySem.W.alongIn K "__init__" ((cd.mro.dropWhile (· != .ref (He.ga K c))).drop 1) == some (some (.builtin "ValueError.__init__"))
    | none => false) &&
  (PySem.W.mroIn K (He.ga K c) (.ref (He.ga K c)) == some true) && (PySem.W.mroIn K (He.ga K c) (.type "ValueError") == some true) && (PySem.W.findIn K (.ref (He.ga K c)) f == some none) && (PySem.W.nsIn K cStatics "thirdparty.any" == some none)
theorem initB_ok {K : PySem.W.Frag} {file0 f c name qual : Str} {params : Arguments} {body : List Stmt} {scope : Scope} (h : initB K file0 f c = true) (ho : initObs K c = some (name, qual, params, FuncBody.stmts body, scope, mainGlobals, builtinsNs, Value.none, [("__class__" : Str)])) :
    ∃ fI cc cda kV doc pm an ct, EX.InitC K file0 f (He.ga K c) fI cc cda (EX.iFd name qual params body scope cc kV doc pm an cda ct) := by
  unfold initB at h
  simp only [Bool.and_eq_true, beq_iff_eq] at h
  obtain ⟨⟨⟨⟨⟨⟨⟨⟨h1, h2⟩, h3⟩, h4⟩, h5⟩, h6⟩, h7⟩, h8⟩, h9⟩ := h
  unfold initObs at ho
  cases e : K.lookup (He.ma K (He.ga K c) "__init__") with
  | none => rw [e] at h4; cases h4
  | some o =>
    rw [e] at h4 ho
    obtain ⟨oc, od, data, osl⟩ := o
    cases data with
    | func fd =>
      simp only at h4 ho
      obtain ⟨fn, fq, fp, fb, fsc, fg, fcl, fdf, fkw, fdoc, fpm, fan, fco, fct, fbl⟩ := fd
      simp only [Option.some.injEq, Prod.mk.injEq] at ho
      obtain ⟨rfl, rfl, rfl, rfl, rfl, rfl, rfl, rfl, hcl⟩ := ho
      unfold fdB at h4
      simp only at h4
      split at h4
      · rename_i x cc cda
        simp only [List.map_cons, List.map_nil, List.cons.injEq, and_true] at hcl
        subst hcl
        simp only [Bool.and_eq_true] at h4
        obtain ⟨⟨g1, g2⟩, g3⟩ := h4
        refine ⟨_, cc, cda, fkw, fdoc, fpm, fan, fct, oexB_ok h1, h2, h3, ⟨oc, od, osl, e⟩, ?_, g2, ?_, ?_, h6, h7, h8, h9⟩
        · split at g1
          · rename_i ccl cdd vs ccs e3
            split at g1
            · rename_i file tf e4
              exact ⟨ccl, cdd, vs, ccs, file, tf, e3, e4, g1⟩
            · cases g1
          · cases g1
        · split at g3
          · rename_i cl cld C' csl e3
            have : C' = He.ga K c := by simpa using g3
            subst this
            exact ⟨cl, cld, csl, e3⟩
          · cases g3
        · cases e5 : PySem.W.clsIn K (He.ga K c) with
          | none => rw [e5] at h5; cases h5
          | some cd =>
            rw [e5] at h5
            exact ⟨cd, rfl, by simpa using h5⟩
      · cases h4
    | _ => cases h4
end HK

end
section
/-! ErrOk of an error class that the hook tells. -/
namespace MX
open PySem PySem.Spec PyProof.Rows L2
theorem errOk {P : Program} {w : World} {K : PySem.W.Frag} {mg : Str → Option Value} {base : Heap} {c f name qual : Str} {params : Arguments} {body : List Stmt} {scope : Scope} {prm z0 : Str} {j0 : Nat} {ar0 ar1 : Arg} {p0 p1 p2 p3 p4 p5 p6 p7 p8 p9 p10 p11 p12 : Pos}
    (hB : HK.initB K P.main.file f c = true) (hO : HK.initObs K c = some (name, qual, params, FuncBody.stmts body, scope, mainGlobals, builtinsNs, Value.none, [("__class__" : Str)])) (hglo : mg c = some (.ref (He.ga K c)))
    (hbody : body = [.Expr (.Call (.Attribute (.Call (.Name "super" p0) [] [] p1) "__init__" p2) [.JoinedStr [.Constant (.str z0) j0 p5, .FormattedValue (.Name prm p6) (-1) none p7] p8] [] p3) p4, .Assign [.Attribute (.Name "self" p9) f p10] (.Name prm p11) p12])
    (hpar : params.posonlyargs ++ params.args = [ar0, ar1]) (ha0 : ar0.arg = "self") (hk : scope.kind = .function) (hfree : ∀ y, (scope.names.lookup y = some .cell ∨ scope.names.lookup y = some .free) → y = "__class__") (hp : prm ≠ "self") (hpd : (prm == ("__debug__" : Str)) = false) (hpc : (prm == ("__classdict__" : Str)) = false)
    (hs0 : scope.names.lookup ("self" : Str) = some .local) (hs1 : scope.names.lookup prm = some .local) (hs2 : scope.names.lookup ("__class__" : Str) = some .free) (hs3 : scope.names.lookup ("super" : Str) = some .globalImplicit)
    (hnc : ∀ x ∈ scope.names, x.2 ≠ .cell) (hco : scope.isCoroutine = false) (hgen : scope.isGenerator = false) (hz0 : z0.length ≤ 1000) (hm : mg "super" = none) (htop : (P.main.scope.names.lookup ("super" : Str)).isSome = false) (hsw : ∀ env pos, swapsWith (.Name prm p11) (some (.Attribute (.Name "self" p9) f p10)) pos env = pure false)
    (hmc : ∀ env : Env, ∃ pl : Sem Bool, eval (.Call (.Attribute (.Call (.Name "super" p0) [] [] p1) "__init__" p2) [.JoinedStr [.Constant (.str z0) j0 p5, .FormattedValue (.Name prm p6) (-1) none p7] p8] [] p3) env = (do
      let ov ← attributeBase (.Call (.Name "super" p0) [] [] p1) "__init__" env (eval (.Call (.Name "super" p0) [] [] p1) env)
      standAt p2.atName
      let (f, first) ← holding [ov] (getMethod ov "__init__" pl)
      callWith p3 f first (backTo p3 (starEach [.JoinedStr [.Constant (.str z0) j0 p5, .FormattedValue (.Name prm p6) (-1) none p7] p8] env)) []))
    (hbind : ∀ (cc cda : Addr) (kV doc pm : Value) (an : Option Addr) (ct u v : Value), bindArgs (EX.iFd name qual params body scope cc kV doc pm an cda ct) { pos := [u, v] } = pure [(("self" : Str), u), (prm, v)]) :
    ErrOk P w K mg base c f := by
  obtain ⟨fI, cc, cda, kV, doc, pm, an, ct, T⟩ := HK.initB_ok hB hO
  have ok := EX.init_ok (P := P) (w := w) (K := K) (mg := mg) (base := base) (CX := L2N.CX P w) (k := 1) T hbody hpar ha0 hk hfree hp hpd hpc hs0 hs1 hs2 hs3 hnc hco hgen hz0 hm htop hsw hmc
  refine ⟨⟨fI, _, ["self", prm], T.ini, T.tyI, ok, fun s us _ hl M A E Q q => ?_⟩, T.ox, hglo⟩
  match us, hl with
  | [u, v], _ =>
    rw [hbind]
    exact wpAny_pure q
end MX

end
section
/-! Texts: index of a text where it is found, upper(), text[::-1]. -/
namespace MX
open PySem PySem.Spec PyProof.Rows L2
variable [TL]
section
variable {K : PySem.W.Frag} {W : WX} {fo : ME} {fs : MA} {r : V → List V → Hp → VK → Prop} {op : D → List D → Os → Res D}
theorem le_bmS0 (hr : RDM K r op) (σ : L2.St) (H : Hp) (Q : VK) (h : LE K W (mMethS op fo mNil) σ H Q) : tBM0 K "str" r (LE K W fo) σ H Q := by
  obtain ⟨μ, S, σd, o, fr, p⟩ := h
  refine ⟨μ, S, σd, o, fr, p.andThen fun v H1 μ1 S1 d x o1 r1 p1 => ?_⟩
  cases d <;> try exact p1.elim
  rename_i z
  cases r1
  exact ⟨rfl, hr W σ Q μ1 S1 H1 (.str z) (.str z) [] [] o1 rfl rfl p1⟩
def sindexD : D → List D → Os → Res D
  | .str a, [.str b], S => (match Builtin.Str.occurrences a b 0 a.length 1 with
    | i :: _ => .ok (.int (i : Nat)) S
    | [] => .bad)
  | _, _, _ => .bad
theorem rd_sindex : RDM K (fun x xs H Q => ∃ a b i rest, x = .str a ∧ xs = [.str b] ∧ Builtin.Str.occurrences a b 0 a.length 1 = i :: rest ∧ Q (.int (i : Nat)) H) sindexD := by
  intro W σ Q μ S H d x ds xs o r1 r2 p
  unfold sindexD at p
  split at p
  · rename_i a b
    obtain ⟨v, _, rfl, r3, rfl⟩ := r2
    cases r1; cases r3
    split at p
    · rename_i i rest e
      exact ⟨a, b, i, rest, rfl, rfl, e, p.val o rfl⟩
    · exact p.elim
  · exact p.elim
def supperD : D → List D → Os → Res D
  | .str a, [], S => if a.length ≤ 5592405 then .ok (.str (Txt.upper a)) S else .bad
  | _, _, _ => .bad
theorem rd_supper : RDM K (fun x xs H Q => ∃ a, x = .str a ∧ xs = [] ∧ a.length ≤ 5592405 ∧ Q (.str (Txt.upper a)) H) supperD := by
  intro W σ Q μ S H d x ds xs o r1 r2 p
  unfold supperD at p
  split at p
  · rename_i a
    cases r1; cases r2
    obtain ⟨h, p⟩ := p.ite
    exact ⟨a, rfl, rfl, h, p.val o rfl⟩
  · exact p.elim
end
/-- z[::-1] -/
def revS (z : Str) : Str := ⟨((Builtin.Str.strSliceIndices none none (-1) z.length).filterMap (z.cps[·]?)).toArray⟩
def mRevS (e : ME) : ME := fun σ S => (e σ S).bind fun d S1 => match d with
  | .str z => if z.length ≤ sizeLine then .ok (.str (revS z)) S1 else .bad
  | _ => .bad
theorem fm_len (z : Str) : ∀ l : List Nat, (l.filterMap (z.cps[·]?)).length ≤ l.length := fun l => List.length_filterMap_le _ l
theorem e_revS {X : Cx} {W : WX} {e : Expr} {fe : ME} {k : Nat} {p1 p2 p3 pos : Pos} (he : PE X e (LE X.K W fe)) : PE X (.Subscript e (.Slice none none (some (.UnaryOp .USub (.Constant (.int 1) k p1) p2)) p3) pos) (LE X.K W (mRevS fe)) := by
  refine ⟨fun pins s σ H Q I h => ?_⟩
  have h2 : LE X.K W fe σ H fun x H1 => ∃ z, x = .str z ∧ z.length ≤ sizeLine ∧ Q (.str (revS z)) H1 := by
    obtain ⟨μ, S, σd, o, fr, p⟩ := h
    refine ⟨μ, S, σd, o, fr, p.andThen fun v H1 μ1 S1 d x o1 r1 p1 => ?_⟩
    cases d <;> try exact p1.elim
    rename_i z
    cases r1
    obtain ⟨q, p1⟩ := p1.ite
    exact ⟨z, rfl, q, p1.val o1 rfl⟩
  refine Subscript_ (thn (he.run pins s σ H _ I h2) fun v s1 ⟨x, H1, I1, r1, z, ex, hz, q⟩ => ?_)
  subst ex
  obtain ⟨t, rfl⟩ := r1
  have hst : PO X (some (.UnaryOp .USub (.Constant (.int 1) k p1) p2)) (tPart (tUn (rU fun i => .int (-i)) (tC (.int 1)))) := po_some (pe_un un_neg pe_int)
  refine wpAny_Slice (thn (po_none.run pins s1 σ H1 (fun o H2 => o = none ∧ H2 = H1) I1 ⟨rfl, rfl⟩) fun vl s2 ⟨l, H2, I2, pl, el, e2⟩ => ?_)
  subst el e2
  refine thn (po_none.run pins s2 σ H2 (fun o H3 => o = none ∧ H3 = H2) I2 ⟨rfl, rfl⟩) fun vu s3 ⟨u, H3, I3, pu, eu, e3⟩ => ?_
  subst eu e3
  refine thn (hst.run pins s3 σ H3 (fun o H4 => o = some (-1) ∧ H4 = H3) I3 ⟨1, rfl, -1, rfl, rfl, rfl⟩) fun vs s4 ⟨o, H4, I4, ps, eo, e4⟩ => ?_
  subst eo e4
  obtain ⟨l, rfl, hl⟩ := IsPart.raw pl
  obtain ⟨u, rfl, hu⟩ := IsPart.raw pu
  obtain ⟨st, rfl, hs⟩ := IsPart.raw ps
  have I5 : Inv X pins σ H4 { s4 with heap := s4.heap.push { cls := .type "slice", data := .fields #[partValue l, partValue u, partValue st] } } := I4.kept (t' := s4.toks) fun b ob q => Heap.get?_push_of_some _ q
  refine tail_any (ops := [.str z t, .ref s4.heap.objs.size]) (typeIs_str _ _ _) F.slot_str_getitem.lookup ?_ (by with_unfolding_all rfl)
  refine wpAny_getItem_str_slice (l := l) (u := u) (st := st) (Heap.IsSliceOf.new _ _ _ _) (by rw [hs]; decide) ?_
  unfold sliceMade slicePicked
  rw [hl, hu, hs]
  show Made.post (if (((-1 : Int) == 1) && (Builtin.Str.strSliceIndices none none (-1) z.length).length == z.length) = true then Made.val (.str z t)
    else Made.str (revS z)) (EP X pins σ Q) _
  rw [if_neg (by simp)]
  refine ⟨?_, .str _, H4, I5.tok _, ⟨_, rfl⟩, q⟩
  have : (revS z).length ≤ z.length := by
    show (((Builtin.Str.strSliceIndices none none (-1) z.length).filterMap (z.cps[·]?)).toArray).size ≤ _
    rw [List.size_toArray]
    refine Nat.le_trans (fm_len _ _) ?_
    simp [Builtin.Str.strSliceIndices, sliceRange]
    split
    · simp
    · simp
  exact Nat.le_trans this hz
/-- min, max of three whole numbers -/
@[simp] def min3D : List D → Os → Res D
  | [.int a, .int b, .int c], S => .ok (.int (if c < (if b < a then b else a) then c else if b < a then b else a)) S
  | _, _ => .bad
@[simp] def max3D : List D → Os → Res D
  | [.int a, .int b, .int c], S => .ok (.int (if (if a < b then b else a) < c then c else if a < b then b else a)) S
  | _, _ => .bad
section
variable {K : PySem.W.Frag}
theorem rd_min3 : RDC K (rNuC3 nuMin3) min3D := by
  intro W σ Q μ S H ds xs o r p
  unfold min3D at p
  split at p
  · rename_i a b c
    obtain ⟨v, _, rfl, r1, u, _, rfl, r2, w, _, rfl, r3, rfl⟩ := r
    cases r1; cases r2; cases r3
    refine ⟨_, _, _, _, rfl, ?_, p.val o rfl⟩
    by_cases h : b < a <;> by_cases h2 : c < b <;> by_cases h3 : c < a <;> simp [nuMin3, nuMin2, nuLt, nuCB, h, h2, h3]
  · exact p.elim
theorem rd_max3 : RDC K (rNuC3 nuMax3) max3D := by
  intro W σ Q μ S H ds xs o r p
  unfold max3D at p
  split at p
  · rename_i a b c
    obtain ⟨v, _, rfl, r1, u, _, rfl, r2, w, _, rfl, r3, rfl⟩ := r
    cases r1; cases r2; cases r3
    refine ⟨_, _, _, _, rfl, ?_, p.val o rfl⟩
    by_cases h : a < b <;> by_cases h2 : b < c <;> by_cases h3 : a < c <;> simp [nuMax3, nuMax2, nuLt, nuCB, h, h2, h3]
  · exact p.elim
end
end MX

end
section
/-! What a loop goes over, in general; comprehensions with two loops. -/
namespace MX
open PySem PySem.Spec PyProof.Rows L2
variable [TL]
/-- the items, and what holds of the objects ahead of each turn and at the end -/
abbrev MI := Fr → Os → Res (List D × (Os → Prop))
structure Good (K : PySem.W.Frag) (J : It) (l : List D) (okS : Os → Prop) (Pc : List Addr → Hp → Prop) : Prop where
  mono : ∀ H μ H' μ', Nx H μ H' μ' → Pc μ H → Pc μ' H'
  stop : ∀ μ S H, Ok K μ S H → Pc μ H → okS S → J.stop l.length H
  go : ∀ i d μ S H, l[i]? = some d → Ok K μ S H → Pc μ H → okS S → J.go i H ∧ ∀ x H', J.yld i H x H' → ∃ μ', Nx H μ H' μ' ∧ Ok K μ' S H' ∧ Rep K μ' H' d x
def PstI (K : PySem.W.Frag) (W : WX) (σ : L2.St) (R : It → Hp → Prop) (μ : List Addr) (H : Hp) (r : Res (List D × (Os → Prop))) : Prop := match r with
  | .ok p S => ∀ μ' H' J Pc, Nx H μ H' μ' → Ok K μ' S H' → Good K J p.1 p.2 Pc → Pc μ' H' → R J H'
  | .exn e S => ∀ μ' H' c dd, Nx H μ H' μ' → Ok K μ' S H' → ExRep K μ' H' e c dd → W c dd σ H'
  | .bad => False
def LI (K : PySem.W.Frag) (W : WX) (f : MI) : TI := fun σ H R => ∃ μ S σd, Ok K μ S H ∧ FrRel K μ H σd σ ∧ PstI K W σ R μ H (f σd S)
theorem PI.imp {X : Cx} {tg e : Expr} {t u : TI} (h : PI X tg e t) (i : ∀ σ H R, u σ H R → t σ H R) : PI X tg e u := ⟨fun pins s σ H R I q => h.run pins s σ H R I (i _ _ _ q)⟩
section
variable {K : PySem.W.Frag} {W : WX} {σ : L2.St} {H : Hp} {μ : List Addr}
theorem PstI.go {R : It → Hp → Prop} {r : Res (List D × (Os → Prop))} {H' : Hp} {μ' : List Addr} (x : Nx H μ H' μ') (h : PstI K W σ R μ H r) : PstI K W σ R μ' H' r := by
  cases r with
  | ok p S => exact fun μ2 H2 J Pc y => h μ2 H2 J Pc (x.trans y)
  | exn e S => exact fun μ2 H2 c dd y => h μ2 H2 c dd (x.trans y)
  | bad => exact h
theorem PstI.andThen {R : It → Hp → Prop} {Q' : VK} {r : Res D} {g : D → Os → Res (List D × (Os → Prop))} (p : PstI K W σ R μ H (r.bind g))
    (k : ∀ v H1 μ1 S1 d, Nx H μ H1 μ1 → Ok K μ1 S1 H1 → Rep K μ1 H1 d v → PstI K W σ R μ1 H1 (g d S1) → Q' v H1) : Pst K W σ Q' μ H r := by
  cases r with
  | ok d S => exact fun μ1 H1 v x o r => k v H1 μ1 S d x o r (PstI.go x p)
  | exn e S => exact p
  | bad => exact p
theorem PstI.andThenA {R : It → Hp → Prop} {Q' : List V → Hp → Prop} {r : Res (List D)} {g : List D → Os → Res (List D × (Os → Prop))} (p : PstI K W σ R μ H (r.bind g))
    (k : ∀ v H1 μ1 S1 d, Nx H μ H1 μ1 → Ok K μ1 S1 H1 → Reps K μ1 H1 d v → PstI K W σ R μ1 H1 (g d S1) → Q' v H1) : PstA K W σ Q' μ H r := by
  cases r with
  | ok d S => exact fun μ1 H1 v x o r => k v H1 μ1 S d x o r (PstI.go x p)
  | exn e S => exact p
  | bad => exact p
theorem good_loc {n : Nat} {a : Addr} {l : List D} : Good K (Itl K a) l (fun S' => lstAt S' n = some l) (fun μ _ => μ[n]? = some a) where
  mono := fun _ _ _ _ y e => y.at e
  stop := fun μ2 S2 H2 o2 ha2 q => by
    obtain ⟨b, us, hb, eb, h4, h5⟩ := o2.lst q ⟨a, ha2, rfl⟩
    cases eb
    exact ⟨us, .inl (.inl h4), by rw [← h5.len]; exact Nat.le_refl _⟩
  go := fun i d μ2 S2 H2 hi o2 ha2 q => by
    obtain ⟨b, us, hb, eb, h4, h5⟩ := o2.lst q ⟨a, ha2, rfl⟩
    cases eb
    obtain ⟨u, h6, h7⟩ := h5.get hi
    refine ⟨⟨us, u, .inl (.inl h4), h6⟩, fun y H' hy => ?_⟩
    obtain ⟨rfl, hy⟩ := hy
    have := hy us (.inl (.inl h4))
    rw [h6] at this
    cases this
    exact ⟨μ2, Nx.refl _ _, o2, h7⟩
theorem good_rl {a : Addr} {vs : List V} {l : List D} : Good K (Itl K a) l (fun _ => True) (fun μ H => SqR K H a vs ∧ Reps K μ H l vs) where
  mono := fun _ _ _ _ y e => ⟨y.sr e.1, Reps.mono y _ _ e.2⟩
  stop := fun μ2 S2 H2 o2 ha2 q => ⟨vs, ha2.1.sq, by rw [← ha2.2.len]; exact Nat.le_refl _⟩
  go := fun i d μ2 S2 H2 hi o2 ha2 q => by
    obtain ⟨u, h6, h7⟩ := ha2.2.get hi
    refine ⟨⟨vs, u, ha2.1.sq, h6⟩, fun y H' hy => ?_⟩
    obtain ⟨rfl, hy⟩ := hy
    have := hy vs ha2.1.sq
    rw [h6] at this
    cases this
    exact ⟨μ2, Nx.refl _ _, o2, h7⟩
theorem good_tup {a : Addr} {vs : List V} {l : List D} : Good K (Itt K a) l (fun _ => True) (fun μ H => SqT K H a vs ∧ Reps K μ H l vs) where
  mono := fun _ _ _ _ y e => ⟨y.sq e.1, Reps.mono y _ _ e.2⟩
  stop := fun μ2 S2 H2 o2 ha2 q => ⟨vs, ha2.1, by rw [← ha2.2.len]; exact Nat.le_refl _⟩
  go := fun i d μ2 S2 H2 hi o2 ha2 q => by
    obtain ⟨u, h6, h7⟩ := ha2.2.get hi
    refine ⟨⟨vs, u, ha2.1, h6⟩, fun y H' hy => ?_⟩
    obtain ⟨rfl, hy⟩ := hy
    have := hy vs ha2.1
    rw [h6] at this
    cases this
    exact ⟨μ2, Nx.refl _ _, o2, h7⟩
theorem good_rng {lo : Int} {n : Nat} : Good K (Itr lo n) (rngD lo n) (fun _ => True) (fun _ _ => True) where
  mono := fun _ _ _ _ _ _ => trivial
  stop := fun μ2 S2 H2 o2 _ _ => by
    show n ≤ (rngD lo n).length
    rw [rngD_len]
    exact Nat.le_refl _
  go := fun i d μ2 S2 H2 hi o2 _ _ => by
    obtain ⟨h1, rfl⟩ := rngD_get hi
    refine ⟨h1, fun y H' hy => ?_⟩
    obtain ⟨rfl, rfl⟩ := hy
    exact ⟨μ2, Nx.refl _ _, o2, rfl⟩
theorem good_str {z : Str} : Good K (Its z) (signsD z) (fun _ => True) (fun _ _ => True) where
  mono := fun _ _ _ _ _ _ => trivial
  stop := fun μ2 S2 H2 o2 _ _ => by
    show z.cps.size ≤ (signsD z).length
    rw [signsD_len]
    exact Nat.le_refl _
  go := fun i d μ2 S2 H2 hi o2 _ _ => by
    obtain ⟨c, h1, rfl⟩ := signsD_get hi
    have hlt : i < z.cps.size := by
      have := (List.getElem?_eq_some_iff.mp hi).1
      rwa [signsD_len] at this
    refine ⟨hlt, fun y H' hy => ?_⟩
    obtain ⟨rfl, c', h2, rfl⟩ := hy
    rw [h1] at h2
    cases h2
    exact ⟨μ2, Nx.refl _ _, o2, rfl⟩
end
/-! ### the iterables -/
def okT : Os → Prop := fun _ => True
@[simp] def miL (e : ME) : MI := fun σ S => (e σ S).bind fun d S1 => match d with
  | .loc n => (match lstAt S1 n with
    | some l => .ok (l, fun S' => lstAt S' n = some l) S1
    | none => .bad)
  | .rl l => .ok (l, fun _ => True) S1
  | _ => .bad
@[simp] def miT (e : ME) : MI := fun σ S => (e σ S).bind fun d S1 => match d with
  | .tup l => .ok (l, fun _ => True) S1
  | _ => .bad
@[simp] def miS (e : ME) : MI := fun σ S => (e σ S).bind fun d S1 => match d with
  | .str z => .ok (signsD z, fun _ => True) S1
  | _ => .bad
@[simp] noncomputable def miR1 (a : ME) : MI := fun σ S => (a σ S).bind fun d S1 => match d with
  | .int j => @ite _ (-(2 ^ 62) ≤ j ∧ j < 2 ^ 62) (Classical.propDecidable _) (.ok (rngD 0 j.toNat, fun _ => True) S1) .bad
  | _ => .bad
@[simp] noncomputable def miR2 (a b : ME) : MI := fun σ S => (a σ S).bind fun d S1 => (b σ S1).bind fun e S2 => match d, e with
  | .int i, .int j => @ite _ (-(2 ^ 62) ≤ i ∧ i < 2 ^ 62 ∧ -(2 ^ 62) ≤ j ∧ j < 2 ^ 62) (Classical.propDecidable _) (.ok (rngD i (j - i).toNat, fun _ => True) S2) .bad
  | _, _ => .bad
section
variable {X : Cx} {W : WX} {tg e a b : Expr} {fe fa fb : ME} {p pos : Pos}
theorem PstI.ite {K : PySem.W.Frag} {σ : L2.St} {R : It → Hp → Prop} {μ : List Addr} {H : Hp} {c : Prop} {_ : Decidable c} {r : Res (List D × (Os → Prop))} (h : PstI K W σ R μ H (if c then r else .bad)) : c ∧ PstI K W σ R μ H r := by
  by_cases q : c
  · rw [if_pos q] at h; exact ⟨q, h⟩
  · rw [if_neg q] at h; exact h.elim
theorem i_list (h : PE X e (LE X.K W fe)) : PI X tg e (LI X.K W (miL fe)) := PI.imp (pi_list h) fun σ H R ⟨μ, S, σd, o, fr, p⟩ => ⟨μ, S, σd, o, fr, PstI.andThen p fun v H1 μ1 S1 d x o1 r1 p1 => by
  cases d <;> try exact p1.elim
  · rename_i n
    dsimp only at p1
    cases e : lstAt S1 n with
    | none => rw [e] at p1; exact p1.elim
    | some l =>
      rw [e] at p1
      obtain ⟨a, vs, ha, rfl, h2, h3⟩ := o1.lst e r1
      exact ⟨a, rfl, ⟨vs, .inl (.inl h2)⟩, p1 μ1 H1 _ _ (Nx.refl _ _) o1 good_loc ha⟩
  · rename_i l
    obtain ⟨a, vs, rfl, h2, h3⟩ := r1
    exact ⟨a, rfl, ⟨vs, h2.sq⟩, p1 μ1 H1 _ _ (Nx.refl _ _) o1 good_rl ⟨h2, h3⟩⟩⟩
theorem i_tup (h : PE X e (LE X.K W fe)) : PI X tg e (LI X.K W (miT fe)) := PI.imp (pi_tup h) fun σ H R ⟨μ, S, σd, o, fr, p⟩ => ⟨μ, S, σd, o, fr, PstI.andThen p fun v H1 μ1 S1 d x o1 r1 p1 => by
  cases d <;> try exact p1.elim
  rename_i l
  obtain ⟨a, vs, rfl, h2, h3⟩ := r1
  exact ⟨a, rfl, ⟨vs, h2⟩, p1 μ1 H1 _ _ (Nx.refl _ _) o1 good_tup ⟨h2, h3⟩⟩⟩
theorem i_str (h : PE X e (LE X.K W fe)) : PI X tg e (LI X.K W (miS fe)) := PI.imp (pi_str h) fun σ H R ⟨μ, S, σd, o, fr, p⟩ => ⟨μ, S, σd, o, fr, PstI.andThen p fun v H1 μ1 S1 d x o1 r1 p1 => by
  cases d <;> try exact p1.elim
  rename_i z
  cases r1
  exact ⟨z, rfl, p1 μ1 H1 _ _ (Nx.refl _ _) o1 good_str trivial⟩⟩
theorem i_rng1 (hg : Gl X "range") (hm : X.mg "range" = none) (h : PE X a (LE X.K W fa)) (hs : starEach [a] X.env = (false, eval a X.env) :: starEach [] X.env := by rfl) (hs2 : starEach [a] X.env = [(false, eval a X.env)] := by rfl) : PI X tg (.Call (.Name "range" p) [a] [] pos) (LI X.K W (miR1 fa)) :=
  PI.imp (pi_range1 hg hm (a_cons h a_nil hs) hs2) fun σ H R ⟨μ, S, σd, o, fr, p⟩ => ⟨μ, S, σd, o, fr, la_one (PstI.andThen p fun v H1 μ1 S1 d x o1 r1 p1 => by
    cases d <;> try exact p1.elim
    rename_i j
    cases r1
    obtain ⟨c, p1⟩ := PstI.ite p1
    exact ⟨j, rfl, c.1, c.2, p1 μ1 H1 _ _ (Nx.refl _ _) o1 good_rng trivial⟩)⟩
end
/-! ### for, comprehensions -/
@[simp] noncomputable def mForI (fi : MI) (g : D → Fr → Os → Option Fr) (b : MS) : MS := fun σ S => (fi σ S).toS σ fun p S1 => mLoop p.2 g b p.1 σ S1
theorem le_forI {K : PySem.W.Frag} {W : WX} {fi : MI} {f : MS} {t : TG} {g : D → Fr → Os → Option Fr} (hg : GD K t g) (D : Ends) (σ : L2.St) (H : Hp) (h : LS K W (mForI fi g f) D σ H) : tFor (LI K W fi) t (LS K W f) D σ H := by
  obtain ⟨μ, S, σd, o, fr, p⟩ := h
  refine ⟨μ, S, σd, o, fr, ?_⟩
  unfold mForI at p
  cases e : fi σd S with
  | ok q S1 =>
    rw [e] at p
    intro μ1 H1 J Pc x o1 G hp
    exact loop_any hg Pc G.mono G.stop G.go hp o1 (fr.mono x) (PstS.go x p)
  | exn ex S1 =>
    rw [e] at p
    exact fun μ1 H1 c dd x o r => p μ1 H1 c dd σ x o (fr.mono x) r
  | bad => rw [e] at p; exact p
section
variable {K : PySem.W.Frag} {g : D → Fr → Os → Option Fr} {t : TG} {vs : List Nat} {ft : MT} {fe : ME}
theorem comp_at {J : It} {okS : Os → Prop} (hg : GD K t g) (hw : GW t vs) {l : List D} {σ : L2.St} {W : WX} {Q : VK} {Pc : List Addr → Hp → Prop} (G : Good K J l okS Pc)
    {H1 : Hp} {μ1 : List Addr} {S1 : Os} {σd : Fr} (hp : Pc μ1 H1) (o1 : Ok K μ1 S1 H1) (fr : FrRel K μ1 H1 σd σ) {tt : TT} (htt : ∀ σ H Q, LT K WF ft σ H Q → tt σ H Q) {n : Nat} {Dl : Addr} (hDl1 : μ1[n]? = some Dl)
    (p : Pst K W σ Q μ1 H1 (mComp okS g vs ft fe n l σd S1)) :
    ∃ Wf : Nat → Nat → Hp → Prop, (∃ m, Wf 0 m H1) ∧ ∀ i m H, Wf i m H →
      (J.stop i H ∧ Q (.ref Dl) H) ∨ (J.go i H ∧ ∃ N : Hp → Prop, (∀ H', N H' → ∃ m', m' < m ∧ Wf (i + 1) m' H') ∧ ∀ x H', J.yld i H x H' → t x (wipe σ vs) H' fun σ2 H2 => wipe σ2 vs = wipe σ vs ∧ tt σ2 H2 fun b H3 =>
        if b = true then LE K WF fe σ2 H3 fun y H4 => ∃ acc, H4 Dl = some (.lst acc) ∧ acc.length < sizeLine ∧ N (upd H4 Dl (.lst (acc ++ [y]))) else N H3) := by
  refine ⟨fun i m H => i + m = l.length ∧ ∃ μ S, μ[n]? = some Dl ∧ Pc μ H ∧ Ok K μ S H ∧ FrRel K μ H σd σ ∧ Pst K W σ Q μ H (mComp okS g vs ft fe n (l.drop i) σd S),
    ⟨l.length, Nat.zero_add _, μ1, S1, hDl1, hp, o1, fr, p⟩, ?_⟩
  rintro i m H ⟨hm, μ, S, hDl, hp, o, fr, p⟩
  cases m with
  | zero =>
    have hi : i = l.length := by omega
    subst hi
    rw [List.drop_length] at p
    unfold mComp at p
    by_cases q : okS S
    · rw [if_pos q] at p
      exact .inl ⟨G.stop μ S H o hp q, p.val o ⟨Dl, hDl, rfl⟩⟩
    · rw [if_neg q] at p
      exact p.elim
  | succ m =>
    have hi : i < l.length := by omega
    rw [List.drop_eq_getElem_cons hi] at p
    unfold mComp at p
    by_cases q : okS S
    · rw [if_pos q] at p
      obtain ⟨h1, h2⟩ := G.go i l[i] μ S H (List.getElem?_eq_getElem hi) o hp q
      refine .inr ⟨h1, fun H => i + 1 + m = l.length ∧ ∃ μ S, μ[n]? = some Dl ∧ Pc μ H ∧ Ok K μ S H ∧ FrRel K μ H σd σ ∧ Pst K W σ Q μ H (mComp okS g vs ft fe n (l.drop (i + 1)) σd S),
        fun H' h => ⟨m, Nat.lt_succ_self m, h⟩, fun x H' hy => ?_⟩
      obtain ⟨μ', x1, o', r'⟩ := h2 x H' hy
      replace p := p.go x1
      have hm' : i + 1 + m = l.length := by omega
      cases q2 : g l[i] (wipeD σd vs) S with
      | none => rw [q2] at p; exact p.elim
      | some σd2 =>
        rw [q2] at p
        refine hw x σ H' _ (hg μ' S H' (wipeD σd vs) σd2 (wipe σ vs) l[i] x _ o' ((fr.mono x1).wipe vs) r' q2 fun σ2 fr2 => htt _ _ _ ⟨μ', S, σd2, o', fr2, ?_⟩)
        dsimp only at p
        cases q3 : ft σd2 S with
        | exn e S2 => rw [q3] at p; exact p.elim
        | bad => rw [q3] at p; exact p.elim
        | ok b S2 =>
          rw [q3] at p
          intro μ2 H2 x2 o2
          replace p := p.go x2
          cases b with
          | false => exact ⟨hm', μ2, S2, (x1.trans x2).at hDl, G.mono _ _ _ _ (x1.trans x2) hp, o2, (fr.mono x1).mono x2, p⟩
          | true =>
            refine ⟨μ2, S2, σd2, o2, fr2.mono x2, ?_⟩
            dsimp only at p
            cases q4 : fe σd2 S2 with
            | exn e S3 => rw [q4] at p; exact p.elim
            | bad => rw [q4] at p; exact p.elim
            | ok y S3 =>
              rw [q4] at p
              intro μ3 H3 v x3 o3 r3
              replace p := p.go x3
              dsimp only at p
              have hDl3 : μ3[n]? = some Dl := x3.at ((x1.trans x2).at hDl)
              cases q5 : lstAt S3 n with
              | none => rw [q5] at p; exact p.elim
              | some acc =>
                rw [q5] at p
                obtain ⟨hz, p⟩ := p.ite
                obtain ⟨b, us, hb, eb, h4, h5⟩ := o3.lst q5 ⟨Dl, hDl3, rfl⟩
                cases eb
                have hm3 := List.mem_of_getElem? hDl3
                refine ⟨us, h4, by rw [← h5.len]; exact hz, hm', μ3, _, hDl3, G.mono _ _ _ _ (((x1.trans x2).trans x3).trans (Nx.put o3 hm3)) hp, put_lst o3 hDl3 (h5.app (Reps.one r3)), (((fr.mono x1).mono x2).mono x3).mono (Nx.put o3 hm3), p.go (Nx.put o3 hm3)⟩
    · rw [if_neg q] at p
      exact p.elim
@[simp] noncomputable def mLcI (fi : MI) (g : D → Fr → Os → Option Fr) (vs : List Nat) (t : MT) (e : ME) : ME := fun σ S => (fi σ S).bind fun p S1 => mComp p.2 g vs t e S1.length p.1 σ (S1 ++ [.lst []])
theorem le_lcI {fi : MI} {W : WX} {tt : TT} (hg : GD K t g) (hw : GW t vs) (htt : ∀ σ H Q, LT K WF ft σ H Q → tt σ H Q) (σ : L2.St) (H : Hp) (Q : VK) (h : LE K W (mLcI fi g vs ft fe) σ H Q) : tLc (LI K W fi) t tt (LE K WF fe) vs σ H Q := by
  obtain ⟨μ, S, σd, o, fr, p⟩ := h
  refine ⟨μ, S, σd, o, fr, ?_⟩
  unfold mLcI at p
  cases e : fi σd S with
  | ok q S1 =>
    rw [e] at p
    intro μ1 H1 J Pc x o1 G hp Dl hD
    have p1 := Pst.go (x.trans (Nx.new (o := .lst []) hD [Dl])) p
    exact comp_at hg hw G (G.mono _ _ _ _ (Nx.new hD [Dl]) hp) (o1.alloc (o := .lst []) hD ⟨[], upd_same, rfl⟩) ((fr.mono x).mono (Nx.new hD [Dl])) htt (o1.loc_new Dl) p1
  | exn ex S1 => rw [e] at p; exact p
  | bad => rw [e] at p; exact p
/-- the turns of the first loop of a comprehension with two -/
noncomputable def mComp2 (ok : Os → Prop) (g : D → Fr → Os → Option Fr) (vs : List Nat) (t : MT) (fi1 : MI) (g1 : D → Fr → Os → Option Fr) (vs1 : List Nat) (t1 : MT) (e : ME) (n : Nat) : List D → Fr → Os → Res D
  | [] => fun _ S => open Classical in if ok S then .ok (.loc n) S else .bad
  | x :: xs => fun σ S => open Classical in if ok S then (match g x (wipeD σ vs) S with
      | some σ2 => (match t σ2 S with
        | .ok true S1 => (match fi1 σ2 S1 with
          | .ok p S2 => (match mComp p.2 g1 vs1 t1 e n p.1 σ2 S2 with
            | .ok _ S3 => mComp2 ok g vs t fi1 g1 vs1 t1 e n xs σ S3
            | _ => .bad)
          | _ => .bad)
        | .ok false S1 => mComp2 ok g vs t fi1 g1 vs1 t1 e n xs σ S1
        | _ => .bad)
      | none => .bad) else .bad
@[simp] noncomputable def mLc2 (fi : MI) (g : D → Fr → Os → Option Fr) (vs : List Nat) (t : MT) (fi1 : MI) (g1 : D → Fr → Os → Option Fr) (vs1 : List Nat) (t1 : MT) (e : ME) : ME :=
  fun σ S => (fi σ S).bind fun p S1 => mComp2 p.2 g vs t fi1 g1 vs1 t1 e S1.length p.1 σ (S1 ++ [.lst []])
theorem mComp_at {okS : Os → Prop} {g : D → Fr → Os → Option Fr} {vs : List Nat} {ft : MT} {fe : ME} {n : Nat} : ∀ {l : List D} {σd : Fr} {S S' : Os} {d : D}, mComp okS g vs ft fe n l σd S = .ok d S' → d = .loc n
  | [], σd, S, S', d, h => by
    unfold mComp at h
    split at h
    · cases h; rfl
    · cases h
  | x :: xs, σd, S, S', d, h => by
    unfold mComp at h
    split at h
    · split at h
      · split at h
        · split at h
          · split at h
            · split at h
              · exact mComp_at h
              · cases h
            · cases h
          · cases h
        · exact mComp_at h
        · cases h
      · cases h
    · cases h
theorem mComp_noexn {okS : Os → Prop} {g : D → Fr → Os → Option Fr} {vs : List Nat} {ft : MT} {fe : ME} {n : Nat} : ∀ {l : List D} {σd : Fr} {S S' : Os} {e : Exn}, mComp okS g vs ft fe n l σd S ≠ .exn e S'
  | [], σd, S, S', d, h => by
    unfold mComp at h
    split at h <;> cases h
  | x :: xs, σd, S, S', d, h => by
    unfold mComp at h
    split at h
    · split at h
      · split at h
        · split at h
          · split at h
            · split at h
              · exact mComp_noexn h
              · cases h
            · cases h
          · cases h
        · exact mComp_noexn h
        · cases h
      · cases h
    · cases h
theorem le_lc2 {g1 : D → Fr → Os → Option Fr} {t1 : TG} {vs1 : List Nat} {ft1 : MT} {fi fi1 : MI} {W : WX} {tt tt1 : TT} (hg : GD K t g) (hw : GW t vs) (hg1 : GD K t1 g1) (hw1 : GW t1 vs1) (htt : ∀ σ H Q, LT K WF ft σ H Q → tt σ H Q) (htt1 : ∀ σ H Q, LT K WF ft1 σ H Q → tt1 σ H Q)
    (σ : L2.St) (H : Hp) (Q : VK) (h : LE K W (mLc2 fi g vs ft fi1 g1 vs1 ft1 fe) σ H Q) : tLc2 (LI K W fi) t tt (LI K WF fi1) t1 tt1 (LE K WF fe) vs vs1 σ H Q := by
  obtain ⟨μ, S, σd, o, fr, p⟩ := h
  refine ⟨μ, S, σd, o, fr, ?_⟩
  unfold mLc2 at p
  cases e : fi σd S with
  | exn ex S1 => rw [e] at p; exact p
  | bad => rw [e] at p; exact p
  | ok q S1 =>
    rw [e] at p
    obtain ⟨l, okS⟩ := q
    intro μ1 H1 J Pc x o1 G hp Dl hD
    have p1 := Pst.go (x.trans (Nx.new (o := .lst []) hD [Dl])) p
    dsimp only [Res.bind_ok] at p1
    refine ⟨fun i m H => i + m = l.length ∧ ∃ μ S, μ[S1.length]? = some Dl ∧ Pc μ H ∧ Ok K μ S H ∧ FrRel K μ H σd σ ∧ Pst K W σ Q μ H (mComp2 okS g vs ft fi1 g1 vs1 ft1 fe S1.length (l.drop i) σd S),
      ⟨l.length, Nat.zero_add _, μ1 ++ [Dl], S1 ++ [O.lst []], o1.loc_new Dl, G.mono _ _ _ _ (Nx.new hD [Dl]) hp, o1.alloc (o := .lst []) hD ⟨[], upd_same, rfl⟩, (fr.mono x).mono (Nx.new hD [Dl]), p1⟩, ?_⟩
    clear p1 p hp o1 x hD fr o
    rintro i m H ⟨hm, μ, S, hDl, hp, o, fr, p⟩
    cases m with
    | zero =>
      have hi : i = l.length := by omega
      subst hi
      rw [List.drop_length] at p
      unfold mComp2 at p
      by_cases q : okS S
      · rw [if_pos q] at p
        exact .inl ⟨G.stop μ S H o hp q, p.val o ⟨Dl, hDl, rfl⟩⟩
      · rw [if_neg q] at p
        exact p.elim
    | succ m =>
      have hi : i < l.length := by omega
      rw [List.drop_eq_getElem_cons hi] at p
      unfold mComp2 at p
      by_cases q : okS S
      · rw [if_pos q] at p
        obtain ⟨h1, h2⟩ := G.go i l[i] μ S H (List.getElem?_eq_getElem hi) o hp q
        refine .inr ⟨h1, fun H => i + 1 + m = l.length ∧ ∃ μ S, μ[S1.length]? = some Dl ∧ Pc μ H ∧ Ok K μ S H ∧ FrRel K μ H σd σ ∧ Pst K W σ Q μ H (mComp2 okS g vs ft fi1 g1 vs1 ft1 fe S1.length (l.drop (i + 1)) σd S),
          fun H' h => ⟨m, Nat.lt_succ_self m, h⟩, fun x H' hy => ?_⟩
        obtain ⟨μ', x1, o', r'⟩ := h2 x H' hy
        replace p := p.go x1
        have hm' : i + 1 + m = l.length := by omega
        cases q2 : g l[i] (wipeD σd vs) S with
        | none => rw [q2] at p; exact p.elim
        | some σd2 =>
          rw [q2] at p
          refine hw x σ H' _ (hg μ' S H' (wipeD σd vs) σd2 (wipe σ vs) l[i] x _ o' ((fr.mono x1).wipe vs) r' q2 fun σ2 fr2 => htt _ _ _ ⟨μ', S, σd2, o', fr2, ?_⟩)
          dsimp only at p
          cases q3 : ft σd2 S with
          | exn e S2 => rw [q3] at p; exact p.elim
          | bad => rw [q3] at p; exact p.elim
          | ok b S2 =>
            rw [q3] at p
            intro μ2 H2 x2 o2
            replace p := p.go x2
            cases b with
            | false => exact ⟨hm', μ2, S2, (x1.trans x2).at hDl, G.mono _ _ _ _ (x1.trans x2) hp, o2, (fr.mono x1).mono x2, p⟩
            | true =>
              refine ⟨μ2, S2, σd2, o2, fr2.mono x2, ?_⟩
              dsimp only at p
              cases q4 : fi1 σd2 S2 with
              | exn e S3 => rw [q4] at p; exact p.elim
              | bad => rw [q4] at p; exact p.elim
              | ok pr S3 =>
                rw [q4] at p
                obtain ⟨l1, okS1⟩ := pr
                intro μ3 H3 J1 Pc1 x3 o3 G1 hp1
                replace p := p.go x3
                dsimp only at p
                have hDl3 : μ3[S1.length]? = some Dl := x3.at ((x1.trans x2).at hDl)
                refine comp_at (W := WF) (Q := fun _ H => i + 1 + m = l.length ∧ ∃ μ S, μ[S1.length]? = some Dl ∧ Pc μ H ∧ Ok K μ S H ∧ FrRel K μ H σd σ ∧ Pst K W σ Q μ H (mComp2 okS g vs ft fi1 g1 vs1 ft1 fe S1.length (l.drop (i + 1)) σd S)) hg1 hw1 G1 hp1 o3 ((fr2.mono x2).mono x3) htt1 hDl3 ?_
                cases q5 : mComp okS1 g1 vs1 ft1 fe S1.length l1 σd2 S3 with
                | exn e S4 => rw [q5] at p; exact p.elim
                | bad => rw [q5] at p; exact p.elim
                | ok y S4 =>
                  rw [q5] at p
                  intro μ4 H4 v x4 o4 r4
                  exact ⟨hm', μ4, S4, x4.at hDl3, G.mono _ _ _ _ (((x1.trans x2).trans x3).trans x4) hp, o4, (((fr.mono x1).mono x2).mono x3).mono x4, p.go x4⟩
      · rw [if_neg q] at p
        exact p.elim
end
end MX

end
section
set_option maxHeartbeats 1000000
/-! Within an except suite: a list comprehension over what may be walked there. -/
namespace MX
open PySem PySem.Spec PyProof.Rows L2 L2H HotX
section
variable {X : Cx}
/-- a context with one pin -/
abbrev pinned (B : Cx) (p : Addr × Obj) : Cx := { B with pn := [p] }
theorem ok_pn {B : Cx} {p : Addr × Obj} (o : B.Ok) : (pinned B p).Ok := ⟨o.mod, o.kind, o.glob, o.blt, o.above, o.inj, o.has, o.cab, o.hd, o.frames, o.stk, o.exf, o.bs, o.bsz, o.noex, o.exfs, o.funs, o.frf⟩
theorem ok_un {B : Cx} {p : Addr × Obj} (o : (pinned B p).Ok) : ({ B with pn := [] } : Cx).Ok := ⟨o.mod, o.kind, o.glob, o.blt, o.above, o.inj, o.has, o.cab, o.hd, o.frames, o.stk, o.exf, o.bs, o.bsz, o.noex, o.exfs, o.funs, o.frf⟩
theorem inv_pn {B : Cx} {p : Addr × Obj} {σ : L2.St} {H : Hp} {s : Shared} (i : L2.Inv B [] σ H s) (h : s.heap.get? p.1 = some p.2 ∧ H p.1 = none ∧ p.1 ≠ B.env.locals ∧ p.1 ∉ B.fs ∧ ∀ v, p.2.data ≠ .cell v) : L2.Inv (pinned B p) [] σ H s := by
  refine ⟨ok_pn i.ok, i.os, i.bare, i.base, i.loc, i.cell, i.free, i.freeC, fun q hq => ?_, i.hok, i.len⟩
  have e : q = p := by simpa using hq
  rw [e]; exact h
theorem inv_un {B : Cx} {p : Addr × Obj} {σ : L2.St} {H : Hp} {s : Shared} (i : L2.Inv (pinned B p) [] σ H s) : L2.Inv { B with pn := [] } [] σ H s :=
  ⟨ok_un i.ok, i.os, i.bare, i.base, i.loc, i.cell, i.free, i.freeC, fun q hq => absurd hq (by simp), i.hok, i.len⟩
theorem pe_lcH {elt tg e : Expr} {scope : Scope} {own : List (Str × Nat)} {pos : Pos} {ti : TI} {g : TG} {te : TE} (hot : HotC X) (nd : X.N.Nodup) (it : PIH X tg e ti) (blk : BlkOk X.N X.env.scope scope own)
    (pg : ∀ (s : Shared) (H : Hp) (C : Addr) (cl : List (Str × Addr)) (fp : List Addr), PG (X.blk s H scope (compEnvC scope cl C X.env) fp) tg g)
    (pe : ∀ (s : Shared) (H : Hp) (C : Addr) (cl : List (Str × Addr)) (fp : List Addr), PE (X.blk s H scope (compEnvC scope cl C X.env) fp) elt te)
    (fo : ∀ x, foldedSetIterable e X.env x = pure x := by intro _; rfl) : PE X (.ListComp elt [⟨tg, e, [], 0⟩] scope pos) (tLc ti g tYes te (own.map (·.2))) := by
  refine ⟨fun pins s σ H Q I want => ?_⟩
  rw [eval_ListComp]
  have closed : ∀ y ∈ scope.names, y.2 = .free → ∃ c, X.env.cells.lookup y.1 = some c := fun y my fy => (blk.free y my fy).elim (fun k => I.ok.has _ (.inl k)) (fun k => I.ok.has _ (.inr k))
  refine wpAny_comprehension_free (use := none) rfl fo (closure_ok closed) blk.kind (fun y my ly => by rw [blk.uniq y my, ly]) (thn (it.run pins s σ H _ I want) fun xv sA seen => thn seen fun iv sB came => ?_)
  obtain ⟨at_, fp, tn, J, HB, eiv, IB, turns, tn0, fpB, want2⟩ := came
  subst eiv
  refine wpAny_newObj_type (newEnv_comp ?_) (Nat.zero_le _)
  generalize nw : sB.heap.objs.size = L
  have fresh : HB L = none := IB.hok.fresh (Nat.le_of_eq nw)
  obtain ⟨W, ⟨m0, start⟩, along⟩ := want2 L fresh
  generalize nC : ({ sB with heap := sB.heap.push { cls := .type "list", data := .seq ([] : List Value).toArray } } : Shared) = sC
  have hpC : sC.heap = sB.heap.push { cls := .type "list", data := .seq ([] : List Value).toArray } := by subst nC; rfl
  have keepC : ∀ (b : Addr) (o : Obj), sB.heap.get? b = some o → sC.heap.get? b = some o := fun b o q => by rw [hpC]; exact Heap.get?_push_of_some _ q
  generalize nH : upd HB L (.lst []) = HC at start
  have IC : L2.Inv X pins σ HC sC := by
    subst nC nH
    refine IB.laid (t' := sB.toks) (fun b o q => Heap.get?_push_of_some _ q) (Nat.le_of_eq nw) ⟨Nat.zero_le _, [], 0, .nil, ?_⟩
    subst nw
    exact Heap.get?_push_size _ rfl
  have small : ∀ b ∈ fp, b < sB.heap.objs.size := fun b mb => let ⟨o, q, _⟩ := turns.obj _ _ tn0 b mb; Heap.lt_size q
  have noL : ∀ b ∈ fp, HC b = none := fun b mb => by
    subst nH
    rw [upd_ne (by rw [← nw]; exact Nat.ne_of_lt (small b mb))]
    exact (fpB b mb).1
  have fpC : ∀ b ∈ fp, FpOk X pins HC b ∧ b < sC.heap.objs.size := fun b mb => ⟨⟨noL b mb, (fpB b mb).2⟩, by rw [hpC, Heap.size_push]; exact Nat.lt_succ_of_lt (small b mb)⟩
  have tnC : tn 0 sC.heap := turns.keep _ _ _ tn0 fun b _ o q => keepC b o q
  have ID := block_start IC blk nd fpC
  show codeAny _ _ (.compStart (.ListComp elt [⟨tg, e, [], 0⟩] scope pos) 0 (.ref at_) (.ref L) (compEnvC scope (cellsFrom (sC.heap.objs.size + 1) scope.names (cloFrom X.env.cells scope.names [])) sC.heap.objs.size X.env)) (compPost (model X.prog X.w) X.A X.xe none (EP X pins σ Q) (.ref L) sC.heap.objs.size) { sC with heap := pushCells (sC.heap.push { cls := .type "dict", data := .dict #[] }) scope.names }
  generalize nD : ({ sC with heap := pushCells (sC.heap.push { cls := .type "dict", data := .dict #[] }) scope.names } : Shared) = sD at ID ⊢
  have tnD : tn 0 sD.heap := turns.keep _ _ _ tnC fun b _ o q => by subst nD; exact pushCells_keeps _ _ _ _ (Heap.get?_push_of_some _ q)
  have pgB := pg sC HC sC.heap.objs.size (cellsFrom (sC.heap.objs.size + 1) scope.names (cloFrom X.env.cells scope.names [])) fp
  have peB := pe sC HC sC.heap.objs.size (cellsFrom (sC.heap.objs.size + 1) scope.names (cloFrom X.env.cells scope.names [])) fp
  generalize nce : compEnvC scope (cellsFrom (sC.heap.objs.size + 1) scope.names (cloFrom X.env.cells scope.names [])) sC.heap.objs.size X.env = ce at ID pgB peB ⊢
  have ceL : ce.locals = sC.heap.objs.size := by subst nce; rfl
  generalize nB : X.blk sC HC scope ce fp = B at ID pgB peB
  have fpD : ∀ {σ' : L2.St} {H' : Hp} {s' : Shared}, L2.Inv B [] σ' H' s' → (∀ b ∈ fp, H' b = none) → ∀ b ∈ fp, FpOk B [] H' b := fun {σ' H' s'} i' no b mb => by
    subst nB
    exact ⟨no b mb, (i'.ok.exf b mb).1, i'.ok.exfs b mb, .inl mb, fun x c q => (i'.ok.exf b mb).2 x c q, fun q hq => absurd hq (by simp)⟩
  -- the handled exception stays
  obtain ⟨p, hp1, hpm⟩ := hot
  have pC := IC.pin p (List.mem_append_left _ hpm)
  have pSt : p.1 ∉ frs X.stack := fun z => (List.mem_cons.mp (IC.stkSub p.1 z)).elim pC.2.2.1 pC.2.2.2.1
  have pFp : p.1 ∉ fp := fun z => (fpC p.1 z).1.2.2.2.2.2 p (List.mem_append_left _ hpm) rfl
  have pLt : p.1 < sC.heap.objs.size := Heap.lt_size pC.1
  have stays : ∀ {σ' : L2.St} {H' : Hp} {s' : Shared}, L2.Inv B [] σ' H' s' → L2.Inv (pinned B p) [] σ' H' s' := fun {σ' H' s'} i' => by
    refine inv_pn i' ?_
    subst nB
    exact ⟨i'.base.keep p.1 p.2 pC.1 pC.2.1 pSt pFp, i'.base.free p.1 p.2 pC.1 pC.2.1 pFp, by show p.1 ≠ ce.locals; rw [ceL]; exact Nat.ne_of_lt pLt, pSt, pC.2.2.2.2⟩
  have fpH : ∀ {H' : Hp}, (∀ b ∈ fp, FpOk B [] H' b) → ∀ b ∈ fp, FpOk (pinned B p) [] H' b := fun f b mb => ⟨(f b mb).1, (f b mb).2.1, (f b mb).2.2.1, (f b mb).2.2.2.1, (f b mb).2.2.2.2.1, fun q hq => by
    have eq : q = p := by simpa using hq
    rw [eq]; exact fun z => pFp (by rw [z]; exact mb)⟩
  have hotB : HotC (pinned B p) := by subst nB; exact ⟨p, hp1, List.mem_singleton.mpr rfl⟩
  have backB : ∀ {σ' : L2.St} {H' : Hp} {s' : Shared}, L2.Inv (pinned B p) [] σ' H' s' → L2.Inv B [] σ' H' s' := fun i' => by subst nB; exact inv_un i'
  have bA : B.A = X.A ∧ B.prog = X.prog ∧ B.w = X.w ∧ B.K = X.K := by subst nB; exact ⟨rfl, rfl, rfl, rfl⟩
  have whole : codeAny (model X.prog X.w) X.A (.compLoop (.ListComp elt [⟨tg, e, [], 0⟩] scope pos) 0 (.ref at_) (.ref L) ce) (compPost (model X.prog X.w) X.A X.xe none (EP X pins σ Q) (.ref L) sC.heap.objs.size) sD := by
    refine compLoop_any (fun k s' => ∃ i H', L2.Inv B [] (wipe σ (own.map (·.2))) H' s' ∧ tn i s'.heap ∧ (∀ b ∈ fp, H' b = none) ∧ W i k H') ?_ m0 ⟨0, HC, ID, tnD, noL, start⟩
    rintro k sE ⟨i, HE, IE, tnE, noE, wE⟩
    rcases along i k HE wE with ⟨over, fine⟩ | ⟨more, N, less, step⟩
    · have fin := turns.done (pinned B p) bA.2.1 bA.2.2.1 bA.2.2.2 hotB i [] sE _ HE (fun _ _ => False) (stays IE) (fpH (fpD IE noE)) tnE over
      rw [show (pinned B p).A = X.A from bA.1] at fin
      refine thnF fin fun r sF ⟨er, IF⟩ => ?_
      subst er
      have IF' := backB IF
      subst nB
      have out : L2.Inv X pins σ HE sF := IC.call' (ch := fp) IF'.os IF'.base IF'.hok IF'.bare fun b mb => ⟨(fpC b mb).1.2.2.2.1, (fpC b mb).1.2.1, (fpC b mb).1.2.2.2.2.1, (fpC b mb).1.2.2.2.2.2⟩
      have frL : HE sC.heap.objs.size = none := by rw [← ceL]; exact IF'.free
      obtain ⟨mm, nsm, _⟩ := IF'.loc
      have nsm : sF.heap.Ns ce.locals mm := nsm
      rw [ceL] at nsm
      refine ⟨mm, nsm, fun h2 sb => ?_⟩
      obtain ⟨g0, g1, g2, g3, g4, g5⟩ := IC.fpOk (Nat.le_refl _) frL
      exact ⟨.ref L, HE, out.turned (t' := sF.toks) (fun b o nb q => (sb.2 b nb).trans q) g0 g1 g3 g4 g5, rfl, fine⟩
    · have nxt := turns.item (pinned B p) bA.2.1 bA.2.2.1 bA.2.2.2 hotB i [] sE _ HE (fun _ _ => False) (stays IE) (fpH (fpD IE noE)) tnE more
      rw [show (pinned B p).A = X.A from bA.1] at nxt
      refine thnF nxt fun r sF ⟨u, er, gone⟩ => ?_
      subst er
      refine thnF gone fun _ sG ⟨x, HG, IG, rx, yx, tnG, noG⟩ => ?_
      have IG' := (backB IG).pinned (fpD (backB IG) noG) (turns.obj _ _ tnG)
      subst nB
      refine thnF (pgB.run _ sG _ HG x u _ IG' rx (step x HG yx)) fun _ sJ ⟨σJ, HJ, IJ, wiped, qJ⟩ => ?_
      have bothJ : (tYes : TT) σJ HJ fun b H3 => if b = true then te σJ H3 fun y H4 => ∃ acc, H4 L = some (.lst acc) ∧ acc.length < sizeLine ∧ N (upd H4 L (.lst (acc ++ [y]))) else N H3 := qJ
      refine thnF ((pts_nil (X := X.blk sC HC scope ce fp)).run _ sJ σJ HJ _ IJ bothJ) fun b sK ⟨HK, IK, qK⟩ => ?_
      have closeTurn : ∀ {s' : Shared} {H' : Hp}, L2.Inv (X.blk sC HC scope ce fp) ([] ++ pinsAt fp sG.heap) σJ H' s' → N H' → ∃ m, m < k ∧ ∃ i H', L2.Inv (X.blk sC HC scope ce fp) [] (wipe σ (own.map (·.2))) H' s' ∧ tn i s'.heap ∧ (∀ b ∈ fp, H' b = none) ∧ W i m H' := fun {s' H'} i' nn => by
        obtain ⟨m', lt, w'⟩ := less H' nn
        have same : ∀ b ∈ fp, ∀ o, sG.heap.get? b = some o → s'.heap.get? b = some o ∧ H' b = none := fun b mb o q => by
          have z := i'.pin (b, o) (List.mem_append_right _ (List.mem_append_right _ (mem_pinsAt mb q)))
          exact ⟨z.1, z.2.1⟩
        refine ⟨m', lt, i + 1, H', (i'.unpinned (pins := [])).weak (by rw [← wiped, wipe_length]) (fun j v q => ?_), turns.keep _ _ _ tnG fun b mb o q => (same b mb o q).1, fun b mb => ?_, w'⟩
        · rw [← wiped] at q; exact (wipe_some q).1
        · obtain ⟨o, q, _⟩ := turns.obj _ _ tnG b mb; exact (same b mb o q).2
      cases b with
      | false => simp only [Bool.false_eq_true, if_false] at qK ⊢; exact closeTurn IK qK
      | true =>
        simp only [if_true] at qK ⊢
        refine thnF (peB.run _ sK σJ HK _ IK qK) fun z sL ⟨yv, HL, IL, ry, acc, inL, short, nn⟩ => ?_
        exact app_ok (X := X.blk sC HC scope ce fp) IL inL short ry fun sM IM => closeTurn IM nn
  exact codeAny_compStart_list whole (turns.self X.A 0 _ _ _ tnD whole)
end
end MX

end
section
/-! == of any data. -/
namespace MX
open PySem PySem.Spec PyProof.Rows L2
inductive Sc where
  | non | bl (b : Bool) | int (i : Int) | str (z : Str)
def scal : D → Option Sc
  | .non => some .non
  | .bl b => some (.bl b)
  | .int i => some (.int i)
  | .str z => some (.str z)
  | _ => none
def scEq : Sc → Sc → Bool
  | .non, .non => true
  | .bl a, .bl b => a == b
  | .int a, .int b => a == b
  | .str a, .str b => a == b
  | .bl a, .int b => (if a then 1 else 0) == b
  | .int a, .bl b => a == (if b then 1 else 0)
  | _, _ => false
/-- a tuple (true) or a list, its items -/
def seqK (S : Os) : D → Option (Bool × List D)
  | .tup l => some (true, l)
  | .rl l => some (false, l)
  | .loc n => (lstAt S n).map fun l => (false, l)
  | _ => none
def allSome : List (Option Bool) → Option Bool
  | [] => some true
  | o :: r => match o, allSome r with
    | some a, some b => some (a && b)
    | _, _ => none
/-- d == e, nested at most n deep -/
def eqQ : Nat → Os → D → D → Option Bool
  | n, S, d, e => match scal d, scal e with
    | some x, some y => some (scEq x y)
    | some _, none => (seqK S e).map fun _ => false
    | none, some _ => (seqK S d).map fun _ => false
    | none, none => match n with
      | 0 => none
      | n + 1 => match seqK S d, seqK S e with
        | some (t, l), some (u, m) => if t ≠ u then some false else if t = false ∧ l.length ≠ m.length then some false else (allSome (List.zipWith (eqQ n S) l m)).map fun b => b && l.length == m.length
        | _, _ => none
theorem allSome_ok : ∀ {l : List (Option Bool)} {b : Bool}, allSome l = some b → (∀ o ∈ l, ∃ c, o = some c) ∧ b = l.all fun o => o == some true
  | [], b, h => by cases h; simp
  | o :: r, b, h => by
    unfold allSome at h
    split at h
    · rename_i a c e
      cases h
      obtain ⟨h1, h2⟩ := allSome_ok e
      refine ⟨fun o' m => ?_, ?_⟩
      · rcases List.mem_cons.mp m with rfl | m
        · exact ⟨a, rfl⟩
        · exact h1 o' m
      · rw [List.all_cons, ← h2]
        cases a <;> rfl
    · cases h

section
variable [TL]
variable {K : PySem.W.Frag} {μ : List Addr} {S : Os} {H : Hp}
/-- a list's or a tuple's items in the memory -/
def SeqIn (K : PySem.W.Frag) (H : Hp) (t : Bool) (a : Addr) (vs : List V) : Prop := if t then SqT K H a vs else SqL K H a vs
theorem seqK_ok {d : D} {x : V} {t : Bool} {l : List D} (o : Ok K μ S H) (r : Rep K μ H d x) (h : seqK S d = some (t, l)) : ∃ a vs, x = .ref a ∧ SeqIn K H t a vs ∧ Reps K μ H l vs := by
  cases d <;> try (cases h; done)
  · cases h
    obtain ⟨a, vs, rfl, h1, h2⟩ := r
    exact ⟨a, vs, rfl, h1, h2⟩
  · rename_i n
    have h : (lstAt S n).map (fun l => (false, l)) = some (t, l) := h
    cases e : lstAt S n with
    | none => rw [e] at h; cases h
    | some m =>
      rw [e] at h
      cases h
      obtain ⟨a, vs, _, rfl, h2, h3⟩ := o.lst e r
      exact ⟨a, vs, rfl, .inl (.inl h2), h3⟩
  · cases h
    obtain ⟨a, vs, rfl, h1, h2⟩ := r
    exact ⟨a, vs, rfl, h1.sq, h2⟩
theorem scal_ref {d : D} {x : V} {c : Sc} (r : Rep K μ H d x) (h : scal d = some c) : (∀ a, x ≠ .ref a) ∧ ((c = .non ∧ x = .non) ∨ (∃ b, c = .bl b ∧ x = .bl b) ∨ (∃ i, c = .int i ∧ x = .int i) ∨ ∃ z, c = .str z ∧ x = .str z) := by
  cases d <;> cases h <;> cases r <;> simp
variable {X : Cx} {pins : List (Addr × Obj)} {σ : L2.St} {s : Shared}
theorem seq_is (I : L2.Inv X pins σ H s) {t : Bool} {a : Addr} {vs : List V} (h : SeqIn X.K H t a vs) : ∃ its : List Value, Vals vs its ∧ (if t then s.heap.IsTuple a its.toArray else s.heap.IsList a its.toArray) := by
  cases t with
  | true => obtain ⟨its, r, p, _⟩ := I.tuple h; exact ⟨its, r, p⟩
  | false => obtain ⟨its, r, p, _⟩ := I.list h; exact ⟨its, r, p.isList⟩
theorem seq_inj (I : L2.Inv X pins σ H s) {t u : Bool} {a : Addr} {vs us : List V} (h : SeqIn X.K H t a vs) (g : SeqIn X.K H u a us) : t = u ∧ vs = us := by
  obtain ⟨i1, r1, p1⟩ := seq_is I h
  obtain ⟨i2, r2, p2⟩ := seq_is I g
  cases t <;> cases u
  · exact ⟨rfl, I.list_inj h g⟩
  · exact absurd rfl (SeqAt.ne_of_list_tuple p1 p2)
  · exact absurd rfl (SeqAt.ne_of_list_tuple p2 p1)
  · exact ⟨rfl, I.tuple_inj h g⟩
/-- what is one value is equal -/
theorem eqQ_self (I : L2.Inv X pins σ H s) (o : Ok X.K μ S H) : ∀ (n : Nat) (d e : D) (x : V) (b : Bool), Rep X.K μ H d x → Rep X.K μ H e x → eqQ n S d e = some b → b = true := by
  intro n
  induction n with
  | zero =>
    intro d e x b rd re h
    unfold eqQ at h
    cases e1 : scal d with
    | none =>
      rw [e1] at h
      cases e2 : scal e with
      | none => rw [e2] at h; cases h
      | some c =>
        rw [e2] at h
        cases e3 : seqK S d with
        | none => rw [e3] at h; cases h
        | some p =>
          obtain ⟨t, l⟩ := p
          obtain ⟨a, vs, rfl, _⟩ := seqK_ok o rd e3
          exact absurd rfl ((scal_ref re e2).1 a)
    | some c =>
      rw [e1] at h
      cases e2 : scal e with
      | none =>
        rw [e2] at h
        cases e3 : seqK S e with
        | none => rw [e3] at h; cases h
        | some p =>
          obtain ⟨t, l⟩ := p
          obtain ⟨a, vs, rfl, _⟩ := seqK_ok o re e3
          exact absurd rfl ((scal_ref rd e1).1 a)
      | some c' =>
        rw [e2] at h
        cases h
        obtain ⟨_, q1⟩ := scal_ref rd e1
        obtain ⟨_, q2⟩ := scal_ref re e2
        rcases q1 with ⟨rfl, rfl⟩ | ⟨_, rfl, rfl⟩ | ⟨_, rfl, rfl⟩ | ⟨_, rfl, rfl⟩ <;> rcases q2 with ⟨rfl, q⟩ | ⟨_, rfl, q⟩ | ⟨_, rfl, q⟩ | ⟨_, rfl, q⟩ <;> cases q <;> simp [scEq]
  | succ n ih =>
    intro d e x b rd re h
    by_cases both : scal d = none ∧ scal e = none
    · unfold eqQ at h
      rw [both.1, both.2] at h
      simp only at h
      cases e3 : seqK S d with
      | none => rw [e3] at h; cases h
      | some p =>
        obtain ⟨t, l⟩ := p
        cases e4 : seqK S e with
        | none => rw [e3, e4] at h; cases h
        | some q =>
          obtain ⟨u, m⟩ := q
          rw [e3, e4] at h
          obtain ⟨a, vs, rfl, h1, h2⟩ := seqK_ok o rd e3
          obtain ⟨a', us, ea, h3, h4⟩ := seqK_ok o re e4
          cases ea
          obtain ⟨rfl, rfl⟩ := seq_inj I h1 h3
          have hl : l.length = m.length := h2.len.trans h4.len.symm
          simp only [ne_eq, not_true_eq_false, if_false, hl, and_false] at h
          cases e5 : allSome (List.zipWith (eqQ n S) l m) with
          | none => rw [e5] at h; cases h
          | some c =>
            rw [e5] at h
            obtain ⟨g1, g2⟩ := allSome_ok e5
            have : c = true := by
              rw [g2, List.all_eq_true]
              intro oo mo
              obtain ⟨j, hj, ej⟩ := List.getElem_of_mem mo
              rw [List.getElem_zipWith] at ej
              obtain ⟨cc, ec⟩ := g1 oo mo
              rw [List.length_zipWith] at hj
              obtain ⟨v1, w1, r1⟩ := h2.get (List.getElem?_eq_getElem (l := l) (i := j) (by omega))
              obtain ⟨v2, w2, r2⟩ := h4.get (List.getElem?_eq_getElem (l := m) (i := j) (by omega))
              rw [w1] at w2
              cases w2
              have := ih _ _ _ _ r1 r2 (ej.trans ec)
              rw [ec, this]
              rfl
            rw [this] at h
            simp at h
            exact h
    · have h0 : eqQ 0 S d e = some b := by
        unfold eqQ at h ⊢
        cases e1 : scal d <;> cases e2 : scal e
        · exact absurd ⟨e1, e2⟩ both
        all_goals (rw [e1, e2] at h; exact h)
      clear ih h
      -- as with none to go down
      unfold eqQ at h0
      cases e1 : scal d with
      | none =>
        rw [e1] at h0
        cases e2 : scal e with
        | none => rw [e2] at h0; cases h0
        | some c =>
          rw [e2] at h0
          cases e3 : seqK S d with
          | none => rw [e3] at h0; cases h0
          | some p =>
            obtain ⟨t, l⟩ := p
            obtain ⟨a, vs, rfl, _⟩ := seqK_ok o rd e3
            exact absurd rfl ((scal_ref re e2).1 a)
      | some c =>
        rw [e1] at h0
        cases e2 : scal e with
        | none =>
          rw [e2] at h0
          cases e3 : seqK S e with
          | none => rw [e3] at h0; cases h0
          | some p =>
            obtain ⟨t, l⟩ := p
            obtain ⟨a, vs, rfl, _⟩ := seqK_ok o re e3
            exact absurd rfl ((scal_ref rd e1).1 a)
        | some c' =>
          rw [e2] at h0
          cases h0
          obtain ⟨_, q1⟩ := scal_ref rd e1
          obtain ⟨_, q2⟩ := scal_ref re e2
          rcases q1 with ⟨rfl, rfl⟩ | ⟨_, rfl, rfl⟩ | ⟨_, rfl, rfl⟩ | ⟨_, rfl, rfl⟩ <;> rcases q2 with ⟨rfl, q⟩ | ⟨_, rfl, q⟩ | ⟨_, rfl, q⟩ | ⟨_, rfl, q⟩ <;> cases q <;> simp [scEq]
theorem sc_at {A : Around} {d e : D} {x y : V} {v u : Value} {c c' : Sc} (rd : Rep X.K μ H d x) (re : Rep X.K μ H e y) (e1 : scal d = some c) (e2 : scal e = some c') (rx : RelV x v) (ry : RelV y u) : SeqAt.EqAt A s v u (scEq c c') ∧ SeqAt.RcAt A s v u (scEq c c') := by
  obtain ⟨_, q1⟩ := scal_ref rd e1
  obtain ⟨_, q2⟩ := scal_ref re e2
  rcases q1 with ⟨rfl, rfl⟩ | ⟨_, rfl, rfl⟩ | ⟨_, rfl, rfl⟩ | ⟨_, rfl, rfl⟩
  · cases rx
    rcases q2 with ⟨rfl, rfl⟩ | ⟨_, rfl, rfl⟩ | ⟨_, rfl, rfl⟩ | ⟨_, rfl, rfl⟩
    · cases ry; exact ⟨.same _, .none_none⟩
    · cases ry; exact ⟨SeqAt.EqAt.none_bool _, SeqAt.RcAt.none_bool _⟩
    · obtain ⟨k2, rfl⟩ := ry; exact ⟨SeqAt.EqAt.none_int _ _, SeqAt.RcAt.none_int _ _⟩
    · obtain ⟨k2, rfl⟩ := ry; exact ⟨SeqAt.EqAt.none_str _ _, SeqAt.RcAt.none_str _ _⟩
  · cases rx
    rcases q2 with ⟨rfl, rfl⟩ | ⟨_, rfl, rfl⟩ | ⟨_, rfl, rfl⟩ | ⟨_, rfl, rfl⟩
    · cases ry; exact ⟨SeqAt.EqAt.bool_none _, SeqAt.RcAt.bool_none _⟩
    · cases ry; exact ⟨SeqAt.EqAt.bool_bool _ _, SeqAt.RcAt.bool_bool _ _⟩
    · obtain ⟨k2, rfl⟩ := ry; exact ⟨SeqAt.EqAt.bool_int _ _ _, SeqAt.RcAt.bool_int _ _ _⟩
    · obtain ⟨k2, rfl⟩ := ry; exact ⟨SeqAt.EqAt.bool_str _ _ _, SeqAt.RcAt.bool_str _ _ _⟩
  · obtain ⟨k1, rfl⟩ := rx
    rcases q2 with ⟨rfl, rfl⟩ | ⟨_, rfl, rfl⟩ | ⟨_, rfl, rfl⟩ | ⟨_, rfl, rfl⟩
    · cases ry; exact ⟨SeqAt.EqAt.int_none _ _, SeqAt.RcAt.int_none _ _⟩
    · cases ry; exact ⟨SeqAt.EqAt.int_bool _ _ _, SeqAt.RcAt.int_bool _ _ _⟩
    · obtain ⟨k2, rfl⟩ := ry; exact ⟨SeqAt.EqAt.int_int _ _ _ _, SeqAt.RcAt.int_int _ _ _ _⟩
    · obtain ⟨k2, rfl⟩ := ry; exact ⟨SeqAt.EqAt.int_str _ _ _ _, SeqAt.RcAt.int_str _ _ _ _⟩
  · obtain ⟨k1, rfl⟩ := rx
    rcases q2 with ⟨rfl, rfl⟩ | ⟨_, rfl, rfl⟩ | ⟨_, rfl, rfl⟩ | ⟨_, rfl, rfl⟩
    · cases ry; exact ⟨SeqAt.EqAt.str_none _ _, SeqAt.RcAt.str_none _ _⟩
    · cases ry; exact ⟨SeqAt.EqAt.str_bool _ _ _, SeqAt.RcAt.str_bool _ _ _⟩
    · obtain ⟨k2, rfl⟩ := ry; exact ⟨SeqAt.EqAt.str_int _ _ _ _, SeqAt.RcAt.str_int _ _ _ _⟩
    · obtain ⟨k2, rfl⟩ := ry; exact ⟨SeqAt.EqAt.str_str _ _ _ _, SeqAt.RcAt.str_str _ _ _ _⟩
theorem sc_seq (I : L2.Inv X pins σ H s) {A : Around} (hu : A.units < cLine) {d : D} {x : V} {v : Value} {c : Sc} {t : Bool} {a : Addr} {vs : List V} (rd : Rep X.K μ H d x) (e1 : scal d = some c) (rx : RelV x v) (g : SeqIn X.K H t a vs) :
    (SeqAt.EqAt A s v (.ref a) false ∧ SeqAt.RcAt A s v (.ref a) false) ∧ (SeqAt.EqAt A s (.ref a) v false ∧ SeqAt.RcAt A s (.ref a) v false) := by
  obtain ⟨_, q1⟩ := scal_ref rd e1
  obtain ⟨its, _, p⟩ := seq_is I g
  cases t with
  | true =>
    have p : s.heap.IsTuple a its.toArray := p
    rcases q1 with ⟨rfl, rfl⟩ | ⟨_, rfl, rfl⟩ | ⟨_, rfl, rfl⟩ | ⟨_, rfl, rfl⟩
    · cases rx; exact ⟨⟨.none_tuple p hu, .none_tuple p hu⟩, .tuple_none p hu, .tuple_none p hu⟩
    · cases rx; exact ⟨⟨.bool_tuple _ p hu, .bool_tuple _ p hu⟩, .tuple_bool _ p hu, .tuple_bool _ p hu⟩
    · obtain ⟨z, rfl⟩ := rx; exact ⟨⟨.int_tuple _ _ p hu, .int_tuple _ _ p hu⟩, .tuple_int _ _ p hu, .tuple_int _ _ p hu⟩
    · obtain ⟨z, rfl⟩ := rx; exact ⟨⟨.str_tuple _ _ p hu, .str_tuple _ _ p hu⟩, .tuple_str _ _ p hu, .tuple_str _ _ p hu⟩
  | false =>
    have p : s.heap.IsList a its.toArray := p
    rcases q1 with ⟨rfl, rfl⟩ | ⟨_, rfl, rfl⟩ | ⟨_, rfl, rfl⟩ | ⟨_, rfl, rfl⟩
    · cases rx; exact ⟨⟨.none_list p hu, .none_list p hu⟩, .list_none p hu, .list_none p hu⟩
    · cases rx; exact ⟨⟨.bool_list _ p hu, .bool_list _ p hu⟩, .list_bool _ p hu, .list_bool _ p hu⟩
    · obtain ⟨z, rfl⟩ := rx; exact ⟨⟨.int_list _ _ p hu, .int_list _ _ p hu⟩, .list_int _ _ p hu, .list_int _ _ p hu⟩
    · obtain ⟨z, rfl⟩ := rx; exact ⟨⟨.str_list _ _ p hu, .str_list _ _ p hu⟩, .list_str _ _ p hu, .list_str _ _ p hu⟩
theorem allSome_at {l : List (Option Bool)} {b : Bool} (h : allSome l = some b) {j : Nat} (hj : j < l.length) : ∃ c, l[j] = some c := (allSome_ok h).1 _ (List.getElem_mem hj)
/-- equality by data is the machine's -/
theorem eqQ_at (I : L2.Inv X pins σ H s) (o : Ok X.K μ S H) : ∀ (n : Nat) (A : Around) (d e : D) (x y : V) (v u : Value) (b : Bool), A.units + n < cLine → Rep X.K μ H d x → Rep X.K μ H e y → RelV x v → RelV y u → eqQ n S d e = some b →
    SeqAt.EqAt A s v u b ∧ SeqAt.RcAt A s v u b := by
  intro n
  induction n with
  | zero =>
    intro A d e x y v u b hu rd re rx ry h
    unfold eqQ at h
    cases e1 : scal d with
    | none =>
      rw [e1] at h
      cases e2 : scal e with
      | none => rw [e2] at h; cases h
      | some c =>
        rw [e2] at h
        cases e3 : seqK S d with
        | none => rw [e3] at h; cases h
        | some p =>
          obtain ⟨t, l⟩ := p
          rw [e3] at h
          cases h
          obtain ⟨a, vs, rfl, g, _⟩ := seqK_ok o rd e3
          cases rx
          exact (sc_seq I (by omega) re e2 ry g).2
    | some c =>
      rw [e1] at h
      cases e2 : scal e with
      | none =>
        rw [e2] at h
        cases e3 : seqK S e with
        | none => rw [e3] at h; cases h
        | some p =>
          obtain ⟨t, l⟩ := p
          rw [e3] at h
          cases h
          obtain ⟨a, vs, rfl, g, _⟩ := seqK_ok o re e3
          cases ry
          exact (sc_seq I (by omega) rd e1 rx g).1
      | some c' =>
        rw [e2] at h
        cases h
        exact sc_at rd re e1 e2 rx ry
  | succ n ih =>
    intro A d e x y v u b hu rd re rx ry h
    have h' := h
    unfold eqQ at h
    cases e1 : scal d with
    | none =>
      rw [e1] at h
      cases e2 : scal e with
      | some c =>
        rw [e2] at h
        cases e3 : seqK S d with
        | none => rw [e3] at h; cases h
        | some p =>
          obtain ⟨t, l⟩ := p
          rw [e3] at h
          cases h
          obtain ⟨a, vs, rfl, g, _⟩ := seqK_ok o rd e3
          cases rx
          exact (sc_seq I (by omega) re e2 ry g).2
      | none =>
        rw [e2] at h
        simp only at h
        cases e3 : seqK S d with
        | none => rw [e3] at h; cases h
        | some p =>
          obtain ⟨t, l⟩ := p
          cases e4 : seqK S e with
          | none => rw [e3, e4] at h; cases h
          | some q =>
            obtain ⟨t', m⟩ := q
            rw [e3, e4] at h
            simp only at h
            obtain ⟨a, vs, rfl, g1, r1⟩ := seqK_ok o rd e3
            obtain ⟨a', us, rfl, g2, r2⟩ := seqK_ok o re e4
            cases rx
            cases ry
            obtain ⟨i1, q1, p1⟩ := seq_is I g1
            obtain ⟨i2, q2, p2⟩ := seq_is I g2
            have L1 : i1.length = l.length := q1.length.symm.trans r1.len.symm
            have L2' : i2.length = m.length := q2.length.symm.trans r2.len.symm
            -- item by item
            have each : ∀ f : Nat → Bool, (∀ j (h1 : j < l.length) (h2 : j < m.length), eqQ n S l[j] m[j] = some (f j)) → ∀ j (h1 : j < i1.toArray.size) (h2 : j < i2.toArray.size), SeqAt.EqAt A.in1 s i1.toArray[j] i2.toArray[j] (f j) := fun f hf j h1 h2 => by
              have h1' : j < l.length := by rw [← L1]; simpa using h1
              have h2' : j < m.length := by rw [← L2']; simpa using h2
              obtain ⟨v1, w1, s1⟩ := r1.get (List.getElem?_eq_getElem h1')
              obtain ⟨v2, w2, s2⟩ := r2.get (List.getElem?_eq_getElem h2')
              obtain ⟨u1, z1, t1⟩ := q1.get w1
              obtain ⟨u2, z2, t2⟩ := q2.get w2
              have k1 : i1.toArray[j] = u1 := by
                have : i1[j]? = some i1.toArray[j] := by simp
                rw [this] at z1; exact Option.some.inj z1
              have k2 : i2.toArray[j] = u2 := by
                have : i2[j]? = some i2.toArray[j] := by simp
                rw [this] at z2; exact Option.some.inj z2
              rw [k1, k2]
              exact (ih A.in1 _ _ _ _ _ _ _ (by show A.units + 1 + n < _; omega) s1 s2 t1 t2 (hf j h1' h2')).1
            have whole : SeqAt.RcAt A s (.ref a) (.ref a') b := by
              by_cases ht : t = t'
              · subst ht
                simp only [ne_eq, not_true_eq_false, if_false] at h
                by_cases hl : t = false ∧ l.length ≠ m.length
                · rw [if_pos hl] at h
                  cases h
                  obtain ⟨rfl, hl⟩ := hl
                  exact .lists_lengths p1 p2 (by simp [L1, L2', hl]) (by omega)
                · rw [if_neg hl] at h
                  cases e5 : allSome (List.zipWith (eqQ n S) l m) with
                  | none => rw [e5] at h; cases h
                  | some c =>
                    rw [e5] at h
                    cases h
                    obtain ⟨_, c2⟩ := allSome_ok e5
                    have zl : (List.zipWith (eqQ n S) l m).length = min l.length m.length := List.length_zipWith
                    have hf : ∀ j (h1 : j < l.length) (h2 : j < m.length), eqQ n S l[j] m[j] = some (decide ((List.zipWith (eqQ n S) l m)[j]? = some (some true))) := fun j h1 h2 => by
                      obtain ⟨cc, ec⟩ := allSome_at e5 (j := j) (by rw [zl]; omega)
                      have e6 := ec
                      rw [List.getElem_zipWith] at ec
                      rw [ec, List.getElem?_eq_getElem (by rw [zl]; omega), e6]
                      cases cc <;> simp
                    have allc : c = (List.range (min l.length m.length)).all fun j => decide ((List.zipWith (eqQ n S) l m)[j]? = some (some true)) := by
                      rw [c2, Bool.eq_iff_iff, List.all_eq_true, List.all_eq_true]
                      constructor
                      · intro g j mj
                        have hj : j < (List.zipWith (eqQ n S) l m).length := by rw [zl]; simpa using mj
                        have := g _ (List.getElem_mem hj)
                        rw [List.getElem?_eq_getElem hj]
                        simpa using this
                      · intro g oo mo
                        obtain ⟨j, hj, rfl⟩ := List.getElem_of_mem mo
                        have := g j (by rw [List.mem_range, ← zl]; exact hj)
                        rw [List.getElem?_eq_getElem hj] at this
                        simpa using this
                    cases t with
                    | true =>
                      have R := SeqAt.RcAt.tuples (A := A) p1 p2 (by omega) (each _ hf)
                      have e7 : ((List.range (min i1.toArray.size i2.toArray.size)).all (fun j => decide ((List.zipWith (eqQ n S) l m)[j]? = some (some true))) && i1.toArray.size == i2.toArray.size) = (c && l.length == m.length) := by
                        rw [List.size_toArray, List.size_toArray, L1, L2', ← allc]
                      show SeqAt.RcAt A s (.ref a) (.ref a') (c && l.length == m.length)
                      rw [← e7]
                      exact R
                    | false =>
                      have hl' : l.length = m.length := by
                        by_cases q : l.length = m.length
                        · exact q
                        · exact absurd ⟨rfl, q⟩ hl
                      have R := SeqAt.RcAt.lists (A := A) p1 p2 (by simp [L1, L2', hl']) (by omega) (each _ hf)
                      have e7 : ((List.range i1.toArray.size).all (fun j => decide ((List.zipWith (eqQ n S) l m)[j]? = some (some true)))) = (c && l.length == m.length) := by
                        rw [List.size_toArray, L1, allc, hl', Nat.min_self, beq_self_eq_true, Bool.and_true]
                      show SeqAt.RcAt A s (.ref a) (.ref a') (c && l.length == m.length)
                      rw [← e7]
                      exact R
              · rw [if_pos ht] at h
                cases h
                cases t <;> cases t'
                · exact absurd rfl ht
                · exact .list_tuple p1 p2 (by omega)
                · exact .tuple_list p1 p2 (by omega)
                · exact absurd rfl ht
            refine ⟨?_, whole⟩
            by_cases ha : a = a'
            · subst ha
              have := eqQ_self I o (n + 1) d e (.ref a) b rd re h'
              rw [this]
              exact .same _
            · exact .of_refs ha whole
    | some c =>
      rw [e1] at h
      cases e2 : scal e with
      | none =>
        rw [e2] at h
        cases e3 : seqK S e with
        | none => rw [e3] at h; cases h
        | some p =>
          obtain ⟨t, l⟩ := p
          rw [e3] at h
          cases h
          obtain ⟨a, vs, rfl, g, _⟩ := seqK_ok o re e3
          cases ry
          exact (sc_seq I (by omega) rd e1 rx g).1
      | some c' =>
        rw [e2] at h
        cases h
        exact sc_at rd re e1 e2 rx ry
end
/-! ### the rules -/
variable [TL]
def eqDp : Nat := 40
def rEqQ (K : PySem.W.Frag) : R2 := fun x y H Q => ∃ μ S d e b, Ok K μ S H ∧ Rep K μ H d x ∧ Rep K μ H e y ∧ eqQ eqDp S d e = some b ∧ Q (.bl b) H
theorem op_eqQ {X : Cx} (hu : X.A.units + 64 < cLine) : OpR X (compareOp .Eq) (rEqQ X.K) := by
  intro pins s σ H x y v u Q I rx ry h
  obtain ⟨μ, S, d, e, b, o, rd, re, h, q⟩ := h
  exact (eqQ_at I o eqDp X.A d e x y v u b (by show X.A.units + 40 < _; omega) rd re rx ry h).2 X.prog X.w X.xe _ (fin_bl I q rfl)
def eqQD : D → D → Os → Res D := fun d e S => match eqQ eqDp S d e with
  | some b => .ok (.bl b) S
  | none => .bad
theorem rd_eqQ {K : PySem.W.Frag} : RD2 K (rEqQ K) eqQD := by
  intro W σ Q μ S H d e x y o rx ry p
  unfold eqQD at p
  cases h : eqQ eqDp S d e with
  | none => rw [h] at p; exact p.elim
  | some b => rw [h] at p; exact ⟨μ, S, d, e, b, o, rx, ry, h, p.val o rfl⟩
end MX

end
section
set_option maxHeartbeats 1000000
/-! Within an except suite: a call of a def that is to know the handled error. -/
namespace MX
open PySem PySem.Spec PyProof.Rows L2 L2H HotX
variable [TL]
abbrev noX : XK := fun _ _ _ => False
section
variable {X : Cx} {x qual : Str} {params : Arguments} {body : List Stmt} {scope : Scope} {dvs : List V} {kws : List (Str × V)} {f : Addr} {fd : FuncData} {N ps : List Str} {k : Nat} {b : MS} {p : Addr × Obj}
theorem call_hot {pins : List (Addr × Obj)} {σ : L2.St} {H : Hp} {s : Shared} {Q : VK} {us : List Value} {vs : List V} (F : FunD X.K x qual params body scope dvs kws f fd) (S : FnScope N ps scope) (hot : Hot1 X.A p) (hp : p ∈ X.pn) (hr : RoomH (k + 1) X.A) (bd : Binds X.K fd ps [])
    (hbody : ∀ (cdv : Value) (s : Shared) (H : Hp), RoomH k (X.A.deeper (envOfC qual scope s.heap.objs.size f cdv)) → PSs (cxH (L2N.CX X.prog X.w) X.prog X.w X.K X.mg X.base N qual scope f cdv X.A X.stack s H noX p) body (LS X.K WF b))
    (I : L2.Inv X pins σ H s) (rv : Vals vs us) (hq : spD X.K ps.length (fnD N.length b) vs H Q noX) : wpAny (model X.prog X.w) X.A (call (.ref f) us) (EP X pins σ Q) X.xe s := by
  obtain ⟨oc, od, dV, kV, doc, pm, an, cdv, ct, osl, rfl, lk, hcd, _, _⟩ := F.ex
  have nvs : vs.length = ps.length := hq.1
  have nus : us.length = ps.length := by rw [← rv.length]; exact nvs
  have given := bd s us I.kIn (by rw [List.append_nil]; exact nus)
  rw [List.append_nil] at given
  have P1 := I.pin p (List.mem_append_left _ hp)
  have pinned : PinOk X.stack H s p := ⟨P1.1, P1.2.1, fun z => (List.mem_cons.mp (I.stkSub p.1 z)).elim P1.2.2.1 P1.2.2.2.1, P1.2.2.2.2⟩
  have lim : s.heap.NoLimit := I.nolimit
  refine wpAny_call (codeAny_call_function hr.depth (I.kIn _ _ lk) rfl S.co S.gen rfl (PySem.W.codeRec_of I.kIn hcd) (given _ _ _ _ (wpAny_newFunctionEnv_cells S.kind (fun y hy => ?_) fun env he s1 enter => ?_)))
  · obtain ⟨n, v⟩ := y
    exact (S.par n (List.of_mem_zip hy).1).elim .inl fun c => .inr ⟨c, PySem.W.cellsFrom_some _ _ _ (.inl c)⟩
  subst he
  refine ⟨lim.keeps enter.toInCall.keep, codeAny_func ?_⟩
  have J := inv_startH (CX := L2N.CX X.prog X.w) (E := noX) (N := N) (f := f) (cd := cdv) S pinned I.env0 nvs rv enter
  obtain ⟨_, μ, S0, ds, rd, o, q⟩ := hq
  have want : LS X.K WF b { nx := fun _ H' => Q .non H', rt := Q } (L2.start N vs) H := by
    refine ⟨μ, S0, _, o, fr_start rd, ?_⟩
    unfold fnD at q
    split at q
    · rename_i d S' z
      split at z
      · rename_i z2; cases z; rw [z2]; exact q
      · rename_i z2; cases z; rw [z2]; exact fun μ' H' σ' nx ok' fr => q μ' H' .non nx ok' rfl
      · cases z
      · cases z
    · rename_i e S' z
      split at z
      · cases z
      · cases z
      · rename_i z2; cases z; rw [z2]; exact fun μ' H' c dd σ' nx ok' fr er => (q μ' H' c dd nx ok' er).elim
      · cases z
    · exact q.elim
  refine wpAny_mono ((hbody cdv s H (hr.deeper _)).run [] s1 (L2.start N vs) H _ J want) (fun fl s2 done => ?_) fun e s2 bad => ?_
  · have fin : ∀ {σ' : L2.St} {H' : Hp} {v : V} {u : Value}, L2.Inv (cxH (L2N.CX X.prog X.w) X.prog X.w X.K X.mg X.base N qual scope f cdv X.A X.stack s H noX p) [] σ' H' s2 → RelV v u → Q v H' → EP X pins σ Q u s2 :=
      fun J' r q' => I.after ⟨_, _, J'.os, J'.bare, J'.base, J'.hok, r, q'⟩
    cases fl with
    | ret u => obtain ⟨v, σ', H', J', r, q'⟩ := done; exact fin J' r q'
    | next => obtain ⟨σ', H', J', q'⟩ := done; exact fin (v := V.non) J' rfl q'
    | brk => obtain ⟨_, _, _, no⟩ := done; exact False.elim no
    | cont => obtain ⟨_, _, _, no⟩ := done; exact False.elim no
  · refine wpAny_mono bad (fun _ _ h => ?_) fun _ _ h => ?_
    · obtain ⟨_, _, _, _, _, _, _, _, _, _, _, _, no⟩ := h
      exact no.elim
    · obtain ⟨_, _, _, _, _, _, _, _, _, _, _, _, no⟩ := h
      exact no.elim
theorem e_callZ {q pos : Pos} {e : Expr} {es : List Expr} {fs : MA} (F : FunD X.K x qual params body scope dvs kws f fd) (S : FnScope N ps scope) (hot : Hot1 X.A p) (hp : p ∈ X.pn) (hr : RoomH (k + 1) X.A) (bd : Binds X.K fd ps []) (hg : Gl X x) (hm : X.mg x = some (.ref f)) (hk : PySem.W.keepIn X.K (.ref f) = true)
    (hbody : ∀ (cdv : Value) (s : Shared) (H : Hp), RoomH k (X.A.deeper (envOfC qual scope s.heap.objs.size f cdv)) → PSs (cxH (L2N.CX X.prog X.w) X.prog X.w X.K X.mg X.base N qual scope f cdv X.A X.stack s H noX p) body (LS X.K WF b))
    (ha : PA X (e :: es) (LA X.K WF fs)) (hn : ∀ σd S ds S', fs σd S = .ok ds S' → ds.length = ps.length)
    (hdb : (x == ("__debug__" : Str)) = false := by decide) (he : starEach (e :: es) X.env = (false, eval e X.env) :: starEach es X.env := by rfl) (hpl : (backTo pos (starEach es X.env)).any (·.1) = false := by rfl) :
    PE X (.Call (.Name x q) (e :: es) [] pos) (LE X.K WF (mCall (fnD N.length b) fs)) := by
  refine ⟨fun pins s σ H Q I h => ?_⟩
  have h2 : tCallS (spD X.K ps.length (fnD N.length b)) (WE WF) (LA X.K WF fs) σ H Q := le_callS hn σ H Q h
  refine wpAny_Call_Name_kw (ld_glob I hg hm (PySem.W.callWith_K (h₀ := X.base) I.ok.mod.kin hk (thn (ha.run pos pins s σ H _ I h2) fun us s1 came => ?_) he hpl) hdb)
  obtain ⟨vs, H1, I1, r1, q1⟩ := came
  exact ⟨I1.kIn, call_hot F S hot hp hr bd hbody I1 r1 q1⟩
end
end MX

end
section
/-! The errors of the library: which is below which; isinstance, fields, comprehensions over a range, in a suite. -/
namespace MX
open PySem PySem.Spec PyProof.Rows L2 L2H HotX
/-- the classes that are raised, those that are named by handlers and isinstance, the fields that are read -/
class ER where
  raised : List Str
  named : List Str
  flds : List Str
/-- a class and all above it -/
def errAnc (c : Str) : List Str :=
  if c = "BadValue" then ["BadValue", "SeenError"] else if c = "TooLarge" then ["TooLarge", "SeenError"] else if c = "NotPossible" then ["NotPossible", "SeenError"] else if c = "TextError" then ["TextError", "SeenError"] else [c]
def kitT [ER] (C c0 : Str) : Option Bool := if c0 ∈ ER.raised ∧ C ∈ ER.named then some (decide (C ∈ errAnc c0)) else none
structure ErrF [ER] (K : PySem.W.Frag) : Prop where
  exc : ∀ c ∈ ER.raised, ExcC K (He.ga K c)
  kit : ∀ c ∈ ER.raised, ∀ C ∈ ER.named, PySem.W.kitOne K (.ref (He.ga K c)) (.ref (He.ga K C)) = some (decide (C ∈ errAnc c))
  kitV : ∀ c ∈ ER.raised, PySem.W.kitOne K (.ref (He.ga K c)) (.type "ValueError") = some true
  exm : ∀ c ∈ ER.raised, ∀ C ∈ ER.named, PySem.W.exmOne K (.ref (He.ga K c)) (.ref (He.ga K C)) = some (decide (C ∈ errAnc c))
  nof : ∀ c ∈ ER.raised, ∀ f ∈ ER.flds, PySem.W.findIn K (.ref (He.ga K c)) f = some none
def errB [ER] (K : PySem.W.Frag) : Bool := (ER.raised (self := ‹ER›)).all fun c => HK.excB K (He.ga K c) && ((ER.named (self := ‹ER›)).all fun C => PySem.W.kitOne K (.ref (He.ga K c)) (.ref (He.ga K C)) == some (decide (C ∈ errAnc c))) &&
  (PySem.W.kitOne K (.ref (He.ga K c)) (.type "ValueError") == some true) && ((ER.named (self := ‹ER›)).all fun C => PySem.W.exmOne K (.ref (He.ga K c)) (.ref (He.ga K C)) == some (decide (C ∈ errAnc c))) && ((ER.flds (self := ‹ER›)).all fun f => PySem.W.findIn K (.ref (He.ga K c)) f == some none)
theorem errB_ok [ER] {K : PySem.W.Frag} (h : errB K = true) : ErrF K := by
  unfold errB at h
  simp only [List.all_eq_true, Bool.and_eq_true, beq_iff_eq] at h
  exact ⟨fun c m => HK.excB_ok (h c m).1.1.1.1, fun c m C n => (h c m).1.1.1.2 C n, fun c m => (h c m).1.1.2, fun c m C n => (h c m).1.2 C n, fun c m f n => (h c m).2 f n⟩
theorem excC_xf {K : PySem.W.Frag} {D : Addr} (T : ExcC K D) : XfC K D := ⟨T.hg, T.hk, T.hs, T.hd⟩
theorem ErrF.sub [ER] {K : PySem.W.Frag} (T : ErrF K) (C : Str) : ∀ c0 b, kitT C c0 = some b → PySem.W.exmOne K (.ref (He.ga K c0)) (.ref (He.ga K C)) = some b := fun c0 b h => by
  unfold kitT at h
  split at h
  · rename_i q
    cases h
    exact T.exm _ q.1 _ q.2
  · cases h
variable [TL] [ER]
def mIsE (a dd : Addr) (o : Option Bool) (e : ME) : ME := match o with
  | some b => isErr a dd b e
  | none => fun _ _ => .bad
section
variable {X : Cx} {a dd : Addr} {c0 C : Str} {oe : Obj} {e : Expr} {fe : ME} {W : WX} {p1 p2 pos : Pos}
theorem e_isG {eC : Expr} {vC : V} {cv : Value} {o : Option Bool} (T : ExcC X.K (He.ga X.K c0)) (hg : Gl X "isinstance") (hm : X.mg "isinstance" = none) (hp : (a, oe) ∈ X.pn) (hz : L2N.Zn (.ref (He.ga X.K c0)) (some dd) oe) (hf : ∃ vs, oe.data = .fields vs)
    (hC : PE X eC (tC vC)) (hv : ∀ u, RelV vC u → u = cv) (hk : ∀ b, o = some b → PySem.W.kitOne X.K (.ref (He.ga X.K c0)) cv = some b) (he : PE X e (LE X.K W fe))
    (st1 : starEach [e, eC] X.env = (false, eval e X.env) :: starEach [eC] X.env) (st2 : starEach [eC] X.env = (false, eval eC X.env) :: starEach [] X.env) (pl : (backTo pos (starEach [eC] X.env)).any (·.1) = false) :
    PE X (.Call (.Name "isinstance" p1) [e, eC] [] pos) (LE X.K W (mIsE a dd o fe)) := by
  cases o with
  | none => exact ⟨fun pins s σ H Q I h => by obtain ⟨_, _, _, _, _, q⟩ := h; exact q.elim⟩
  | some b =>
    refine PE.imp (pe_callB (t := tCons (LE X.K W fe) (tCons (tC vC) tNil)) (call_isX T hz.zc hf hp) hg hm (by decide +kernel) (pa_cons he (pa_cons hC pa_nil st2) st1) (by decide) (by decide) st1 pl) fun σ H Q ⟨μ, S, σd, ok, fr, p⟩ => ?_
    refine ⟨μ, S, σd, ok, fr, p.andThen fun v H1 μ1 S1 d x o1 r1 q1 => ?_⟩
    cases d <;> try exact q1.elim
    rename_i a' dd' fs
    obtain ⟨rfl, hx⟩ := r1
    obtain ⟨hc, q2⟩ := q1.ite
    obtain ⟨rfl, rfl⟩ := hc
    exact ⟨⟨_, hx⟩, _, _, b, rfl, hv, hk b rfl, Pst.val (d := .bl b) q2 o1 rfl⟩
theorem e_isE (EF : ErrF X.K) (hc : c0 ∈ ER.raised) (hg : Gl X "isinstance") (hm : X.mg "isinstance" = none) (hp : (a, oe) ∈ X.pn) (hz : L2N.Zn (.ref (He.ga X.K c0)) (some dd) oe) (hf : ∃ vs, oe.data = .fields vs) (hgC : Gl X C) (hC : X.mg C = some (.ref (He.ga X.K C)))
    (he : PE X e (LE X.K W fe)) (hCd : (C == "__debug__") = false := by decide) (st1 : starEach [e, .Name C p2] X.env = (false, eval e X.env) :: starEach [.Name C p2] X.env := by rfl) :
    PE X (.Call (.Name "isinstance" p1) [e, .Name C p2] [] pos) (LE X.K W (mIsE a dd (kitT C c0) fe)) := by
  refine e_isG (cv := .ref (He.ga X.K C)) (EF.exc c0 hc) hg hm hp hz hf (pe_glob (v := .ref (He.ga X.K C)) hgC hC rfl hCd) (fun u h => h) (fun b q => ?_) he st1 rfl rfl
  unfold kitT at q
  split at q
  · rename_i h; cases q; exact EF.kit _ h.1 _ h.2
  · cases q
theorem e_isV (EF : ErrF X.K) (hc : c0 ∈ ER.raised) (hg : Gl X "isinstance") (hm : X.mg "isinstance" = none) (hp : (a, oe) ∈ X.pn) (hz : L2N.Zn (.ref (He.ga X.K c0)) (some dd) oe) (hf : ∃ vs, oe.data = .fields vs) (hgV : Gl X "ValueError") (hV : X.mg "ValueError" = none)
    (he : PE X e (LE X.K W fe)) (st1 : starEach [e, .Name "ValueError" p2] X.env = (false, eval e X.env) :: starEach [.Name "ValueError" p2] X.env := by rfl) :
    PE X (.Call (.Name "isinstance" p1) [e, .Name "ValueError" p2] [] pos) (LE X.K W (mIsE a dd (some true) fe)) :=
  e_isG (cv := .type "ValueError") (vC := .ty "ValueError") (EF.exc c0 hc) hg hm hp hz hf (pe_bltn (v := .ty "ValueError") hgV hV (by decide +kernel) rfl) (fun u h => h) (fun b q => by cases q; exact EF.kitV c0 hc) he st1 rfl rfl
/-- a suite's field of the error -/
theorem e_xfE {n : Str} {pn : List (Addr × Obj)} (EF : ErrF X.K) (hc : c0 ∈ ER.raised) (hn : n ∈ ER.flds) (hz : L2N.Zn (.ref (He.ga X.K c0)) (some dd) oe) (hf : ∃ vs, oe.data = .fields vs) (he : PE (X.suite a ((a, oe) :: pn)) e (LE X.K W fe)) (hb : attributeBase e n X.env (eval e X.env) = eval e X.env := by rfl) :
    PE (X.suite a ((a, oe) :: pn)) (.Attribute e n pos) (LE X.K W (mXf a dd n fe)) := e_xf (excC_xf (EF.exc c0 hc)) (EF.nof _ hc _ hn) hz.zc hf he hb
end
/-- of the known classes alone -/
def mKn (c0 : Str) (m : MS) : MS := if c0 ∈ ER.raised then m else mNever
theorem ss_known {X : Cx} {W : WX} {c0 : Str} {sts : List Stmt} {m : MS} (h : c0 ∈ ER.raised → PSs X sts (LS X.K W m)) : PSs X sts (LS X.K W (mKn c0 m)) := by
  unfold mKn
  by_cases q : c0 ∈ ER.raised
  · rw [if_pos q]; exact h q
  · rw [if_neg q]
    exact ⟨fun pins s σ H D I z => by obtain ⟨_, _, _, _, _, n⟩ := z; exact n.elim⟩
theorem hot_of {X : Cx} {a : Addr} {pn : List (Addr × Obj)} {oe : Obj} {cls : Value} {d : Option Addr} (hz : L2N.Zn cls d oe) (hf : ∃ vs, oe.data = .fields vs) : Hot1 (X.suite a pn).A (a, oe) := ⟨rfl, hf.choose, hf.choose_spec, hz.2.2 _ hf.choose_spec⟩
/-- a comprehension over range(..), no tests -/
theorem e_lcRH {X : Cx} {W : WX} {elt tg e : Expr} {scope : Scope} {own : List (Str × Nat)} {p rp pos : Pos} {g : TG} {gd : D → Fr → Os → Option Fr} {fa fe : ME} (hot : HotC X) (nd : X.N.Nodup) (gl : Gl X "range") (mg : X.mg "range" = none) (ha : PE X e (LE X.K W fa)) (blk : BlkOk X.N X.env.scope scope own)
    (pg : ∀ (s : Shared) (H : Hp) (C : Addr) (cl : List (Str × Addr)) (fp : List Addr), PG (X.blk s H scope (compEnvC scope cl C X.env) fp) tg g)
    (pe : ∀ (s : Shared) (H : Hp) (C : Addr) (cl : List (Str × Addr)) (fp : List Addr), PE (X.blk s H scope (compEnvC scope cl C X.env) fp) elt (LE X.K WF fe)) (hg : GD X.K g gd) (hw : GW g (own.map (·.2)))
    (st1 : starEach [e] X.env = [(false, eval e X.env)] := by rfl) (fo : ∀ x, foldedSetIterable (.Call (.Name "range" p) [e] [] rp) X.env x = pure x := by intro _; rfl) :
    PE X (.ListComp elt [⟨tg, .Call (.Name "range" p) [e] [] rp, [], 0⟩] scope pos) (LE X.K W (mLcR1 fa gd (own.map (·.2)) mYes fe)) :=
  PE.imp (pe_lcH hot nd (pi_range1H gl mg (a_cons ha a_nil st1) st1) blk pg pe fo) (le_lcR1 hg hw tt_yes)
theorem roomH_mark {k : Nat} {A : Around} (r : Room k A) (x : Option Value) : RoomH k (A.mark x) := ⟨r.dp, r.un⟩
theorem unitsR {k : Nat} {A : Around} (r : Room k A) : A.units + 64 < cLine := by have := r.un; omega
theorem unitsH {k : Nat} {A : Around} (r : RoomH k A) : A.units + 64 < cLine := by have := r.un; omega
/-- two tests of a scope -/
def scopeFreeB (sc : Scope) : Bool := sc.names.all fun y => (y.2 == .cell || y.2 == .free) == false || y.1 == ("__class__" : Str)
theorem scope_free {sc : Scope} (h : scopeFreeB sc = true) : ∀ y, (sc.names.lookup y = some .cell ∨ sc.names.lookup y = some .free) → y = "__class__" := fun y hy => by
  unfold scopeFreeB at h
  rw [List.all_eq_true] at h
  rcases hy with e | e
  · have := h _ (PySem.mem_of_lookup e)
    simpa using this
  · have := h _ (PySem.mem_of_lookup e)
    simpa using this
def scopeNcB (sc : Scope) : Bool := sc.names.all fun y => (y.2 == .cell) == false
theorem scope_nc {sc : Scope} (h : scopeNcB sc = true) : ∀ x ∈ sc.names, x.2 ≠ .cell := fun x m e => by
  unfold scopeNcB at h
  rw [List.all_eq_true] at h
  have := h x m
  rw [e] at this
  simp at this
theorem gw_in {i : Nat} {vs : List Nat} (h : i ∈ vs) : GW (gName i) vs := fun v σ H Q q => ⟨by
  refine List.ext_getElem? fun j => ?_
  have go : ∀ (us : List Nat) (a b : L2.St), a.length = b.length → (∀ j, j ∉ us → a[j]? = b[j]?) → wipe a us = wipe b us := by
    intro us
    induction us with
    | nil => intro a b hl hj; exact List.ext_getElem? fun j => hj j (by simp)
    | cons u us ih =>
      intro a b hl hj
      show (wipe a us).set u none = (wipe b us).set u none
      refine List.ext_getElem? fun j => ?_
      by_cases e : u = j
      · subst e
        by_cases hb : u < a.length
        · rw [List.getElem?_set_self (by rw [wipe_length]; exact hb), List.getElem?_set_self (by rw [wipe_length, ← hl]; exact hb)]
        · rw [List.getElem?_eq_none (by rw [List.length_set, wipe_length]; omega), List.getElem?_eq_none (by rw [List.length_set, wipe_length]; omega)]
      · rw [List.getElem?_set_ne e, List.getElem?_set_ne e]
        by_cases hm : j ∈ us
        · have wn : ∀ (vs : List Nat) (c : L2.St), j ∈ vs → j < c.length → (wipe c vs)[j]? = some none := by
            intro vs
            induction vs with
            | nil => intro c h; simp at h
            | cons v vs ih2 =>
              intro c h hl
              show ((wipe c vs).set v none)[j]? = some none
              by_cases e2 : v = j
              · subst e2
                rw [List.getElem?_set_self (by rw [wipe_length]; exact hl)]
              · rw [List.getElem?_set_ne e2]
                exact ih2 c ((List.mem_cons.mp h).resolve_left fun z => e2 z.symm) hl
          by_cases hb : j < a.length
          · rw [wn us a hm hb, wn us b hm (by omega)]
          · rw [List.getElem?_eq_none (by rw [wipe_length]; omega), List.getElem?_eq_none (by rw [wipe_length]; omega)]
        · rw [wipe_out hm, wipe_out hm]
          exact hj j (by simp only [List.mem_cons, not_or]; exact ⟨fun z => e z.symm, hm⟩)
  have e : wipe ((wipe σ vs).set i (some v)) vs = wipe (wipe σ vs) vs := go vs _ _ (by rw [List.length_set]) fun j hj => List.getElem?_set_ne fun z => hj (by rw [← z]; exact h)
  have e2 : wipe (wipe σ vs) vs = wipe σ vs := go vs _ _ (wipe_length _ _) fun j hj => wipe_out hj
  rw [e, e2], q⟩
end MX

end
section
/-! The order of words, sorted lists of words. -/
namespace WM
open PySem MX
/-- the order of words -/
def wlt (a b : List Nat) : Prop := a.length < b.length ∨ (a.length = b.length ∧ a < b)
instance (a b : List Nat) : Decidable (wlt a b) := by unfold wlt; exact inferInstance
theorem wlt_irrefl (a : List Nat) : ¬ wlt a a := fun h => h.elim (Nat.lt_irrefl _) fun h => List.lt_irrefl a h.2
theorem wlt_trans {a b c : List Nat} (h : wlt a b) (k : wlt b c) : wlt a c := by
  rcases h with h | ⟨h, h'⟩ <;> rcases k with k | ⟨k, k'⟩
  · exact .inl (by omega)
  · exact .inl (by omega)
  · exact .inl (by omega)
  · exact .inr ⟨by omega, List.lt_trans h' k'⟩
theorem wlt_asymm {a b : List Nat} (h : wlt a b) : ¬ wlt b a := fun k => wlt_irrefl a (wlt_trans h k)
theorem wlt_total (a b : List Nat) : a = b ∨ wlt a b ∨ wlt b a := by
  rcases Nat.lt_trichotomy a.length b.length with h | h | h
  · exact .inr (.inl (.inl h))
  · by_cases q : a < b
    · exact .inr (.inl (.inr ⟨h, q⟩))
    · by_cases r : b < a
      · exact .inr (.inr (.inr ⟨h.symm, r⟩))
      · exact .inl (List.le_antisymm (List.not_lt.mp r) (List.not_lt.mp q))
  · exact .inr (.inr (.inl h))
theorem cps_len (x : Str) : x.cps.toList.length = x.length := by show x.cps.toList.length = x.cps.size; simp
theorem wLe_eq (x y : Str) : SK.wLe x y = !decide (wlt y.cps.toList x.cps.toList) := by
  have key : PyProof.Rows.lexLt PyProof.Rows.itemOrd [Sum.inl (y.length : Int), Sum.inr y.cps.toList] [Sum.inl (x.length : Int), Sum.inr x.cps.toList] = decide (wlt y.cps.toList x.cps.toList) := by
    have e0 : ∀ (a b : Int) (u v : List Nat), PyProof.Rows.lexLt PyProof.Rows.itemOrd [Sum.inl a, Sum.inr u] [Sum.inl b, Sum.inr v] = (decide (a < b) || (!decide (b < a) && (decide (u < v) || (!decide (v < u) && false)))) := fun _ _ _ _ => rfl
    rw [e0, ← cps_len x, ← cps_len y, Bool.eq_iff_iff, decide_eq_true_iff (p := wlt _ _)]
    unfold wlt
    simp only [Bool.or_eq_true, Bool.and_eq_true, decide_eq_true_eq, Bool.not_eq_true', decide_eq_false_iff_not, Bool.and_false, or_false, Bool.false_eq_true]
    by_cases q : y.cps.toList < x.cps.toList
    · have q' : ¬ x.cps.toList < y.cps.toList := fun h => List.lt_irrefl _ (List.lt_trans q h)
      have c1 : ((y.cps.toList.length : Int) < x.cps.toList.length) = (y.cps.toList.length < x.cps.toList.length) := propext Int.ofNat_lt
      have c2 : ((x.cps.toList.length : Int) < y.cps.toList.length) = (x.cps.toList.length < y.cps.toList.length) := propext Int.ofNat_lt
      simp only [q, and_true, c1, c2]
      omega
    · have c1 : ((y.cps.toList.length : Int) < x.cps.toList.length) = (y.cps.toList.length < x.cps.toList.length) := propext Int.ofNat_lt
      simp only [q, and_false, or_false, c1]
  show (!_) = _
  rw [← key]
  rfl
theorem sLe_eq (x y : Str) : SK.sLe x y = decide (x.cps.toList ≤ y.cps.toList) := congrFun (congrFun (PySem.W.dataLe_str (β := Str) id) x) y
abbrev Asc (l : List (List Nat)) : Prop := l.Pairwise wlt
theorem asc_nodup {l : List (List Nat)} (h : Asc l) : l.Nodup := h.imp (S := fun a b => a ≠ b) fun {a b} h e => wlt_irrefl a (by rw [← e] at h; exact h)
theorem asc_ext : ∀ {l m : List (List Nat)}, Asc l → Asc m → (∀ x, x ∈ l ↔ x ∈ m) → l = m
  | [], [], _, _, _ => rfl
  | [], b :: m, _, _, h => by have := (h b).mpr List.mem_cons_self; cases this
  | a :: l, [], _, _, h => by have := (h a).mp List.mem_cons_self; cases this
  | a :: l, b :: m, ha, hb, h => by
    obtain ⟨a1, a2⟩ := List.pairwise_cons.mp ha
    obtain ⟨b1, b2⟩ := List.pairwise_cons.mp hb
    have e : a = b := by
      rcases List.mem_cons.mp ((h a).mp List.mem_cons_self) with e | e
      · exact e
      · rcases List.mem_cons.mp ((h b).mpr List.mem_cons_self) with e' | e'
        · exact e'.symm
        · exact (wlt_asymm (b1 a e) (a1 b e')).elim
    subst e
    congr 1
    refine asc_ext a2 b2 fun x => ?_
    have n1 : ∀ x, x ∈ l → x ≠ a := fun x hx e => wlt_irrefl a (by have := a1 x hx; rwa [e] at this)
    have n2 : ∀ x, x ∈ m → x ≠ a := fun x hx e => wlt_irrefl a (by have := b1 x hx; rwa [e] at this)
    constructor
    · intro hx
      rcases List.mem_cons.mp ((h x).mp (List.mem_cons_of_mem _ hx)) with e | e
      · exact (n1 x hx e).elim
      · exact e
    · intro hx
      rcases List.mem_cons.mp ((h x).mpr (List.mem_cons_of_mem _ hx)) with e | e
      · exact (n2 x hx e).elim
      · exact e
theorem back_toS (l : List Str) : (l.map fun x => x.cps.toList).map toS = l := by
  rw [List.map_map]
  conv => rhs; rw [← List.map_id l]
  exact List.map_congr_left fun x _ => toS_of x
theorem fwd_toS (l : List (List Nat)) : (l.map toS).map (fun x => x.cps.toList) = l := by
  rw [List.map_map]
  conv => rhs; rw [← List.map_id l]
  exact List.map_congr_left fun x _ => rfl
theorem wLe_trans (a b c : Str) (h : SK.wLe a b = true) (k : SK.wLe b c = true) : SK.wLe a c = true := by
  rw [wLe_eq] at *
  simp only [Bool.not_eq_true', decide_eq_false_iff_not] at *
  intro q
  rcases wlt_total b.cps.toList c.cps.toList with e | e | e
  · exact h (e ▸ q)
  · exact h (wlt_trans e q)
  · exact k e
theorem wLe_total (a b : Str) : (SK.wLe a b || SK.wLe b a) = true := by
  rw [wLe_eq, wLe_eq]
  by_cases h : wlt b.cps.toList a.cps.toList
  · simp [wlt_asymm h]
  · simp [h]
theorem sort_w (ws : List (List Nat)) : ∃ us : List (List Nat), (ws.map toS).mergeSort SK.wLe = us.map toS ∧ us.Perm ws ∧ (ws.Nodup → Asc us) := by
  refine ⟨((ws.map toS).mergeSort SK.wLe).map fun x => x.cps.toList, (back_toS _).symm, ?_, fun hn => ?_⟩
  · have := (List.mergeSort_perm (ws.map toS) SK.wLe).map fun x => x.cps.toList
    rwa [fwd_toS] at this
  · have p := List.pairwise_mergeSort wLe_trans wLe_total (ws.map toS)
    have n : (((ws.map toS).mergeSort SK.wLe).map fun x => x.cps.toList).Nodup := by
      have := (List.mergeSort_perm (ws.map toS) SK.wLe).map fun x => x.cps.toList
      rw [fwd_toS] at this
      exact this.nodup_iff.mpr hn
    have n2 := List.pairwise_map.mp n
    refine List.pairwise_map.mpr ((p.and n2).imp fun {a b} ⟨h1, h2⟩ => ?_)
    rw [wLe_eq] at h1
    simp only [Bool.not_eq_true', decide_eq_false_iff_not] at h1
    rcases wlt_total a.cps.toList b.cps.toList with e | e | e
    · exact (h2 e).elim
    · exact e
    · exact (h1 e).elim
theorem sort_s (ws : List (List Nat)) : ∃ us : List (List Nat), (ws.map toS).mergeSort SK.sLe = us.map toS ∧ us.Perm ws ∧ us.Pairwise (· ≤ ·) := by
  refine ⟨((ws.map toS).mergeSort SK.sLe).map fun x => x.cps.toList, (back_toS _).symm, ?_, ?_⟩
  · have := (List.mergeSort_perm (ws.map toS) SK.sLe).map fun x => x.cps.toList
    rwa [fwd_toS] at this
  · have p := List.pairwise_mergeSort (le := SK.sLe) (fun a b c h k => by
      rw [sLe_eq] at *
      simp only [decide_eq_true_eq] at *
      exact List.le_trans h k) (fun a b => by
      rw [sLe_eq, sLe_eq]
      simp only [Bool.or_eq_true, decide_eq_true_eq]
      exact List.le_total _ _) (ws.map toS)
    refine List.pairwise_map.mpr (p.imp fun {a b} h1 => ?_)
    rw [sLe_eq] at h1
    simpa using h1
/-! ### beginnings, counted -/
theorem between : ∀ {w a b c : List Nat}, w <+: a → w <+: c → a ≤ b → b ≤ c → w <+: b
  | [], _, b, _, _, _, _, _ => List.nil_prefix
  | x :: w, a, b, c, ⟨t, ha⟩, ⟨u, hc⟩, h1, h2 => by
    subst ha hc
    cases b with
    | nil => simp at h1
    | cons y b =>
      rw [List.cons_append] at h1 h2
      have h1 := List.cons_le_cons_iff.mp h1
      have h2 := List.cons_le_cons_iff.mp h2
      have e : x = y := by omega
      subst e
      have q1 : w ++ t ≤ b := by rcases h1 with h | h; (exact absurd h (Nat.lt_irrefl _)); exact h.2
      have q2 : b ≤ w ++ u := by rcases h2 with h | h; (exact absurd h (Nat.lt_irrefl _)); exact h.2
      obtain ⟨v, e⟩ := between (List.prefix_append w t) (List.prefix_append w u) q1 q2
      exact ⟨v, by rw [List.cons_append, e]⟩
/-- the beginnings with at least lo letters -/
def pre (lo : Nat) (r : List Nat) : List (List Nat) := (List.range' lo (r.length + 1 - lo)).map fun k => r.take k
theorem mem_pre {lo : Nat} {r w : List Nat} : w ∈ pre lo r ↔ w <+: r ∧ lo ≤ w.length := by
  unfold pre
  rw [List.mem_map]
  constructor
  · rintro ⟨k, hk, rfl⟩
    rw [List.mem_range'_1] at hk
    exact ⟨List.take_prefix _ _, by rw [List.length_take]; omega⟩
  · rintro ⟨h, hl⟩
    have := h.length_le
    exact ⟨w.length, List.mem_range'_1.mpr ⟨hl, by omega⟩, (List.prefix_iff_eq_take.mp h).symm⟩
theorem pre_len (lo : Nat) (r : List Nat) : (pre lo r).length = r.length + 1 - lo := by simp [pre]
theorem pre_nodup (lo : Nat) (r : List Nat) : (pre lo r).Nodup := by
  unfold pre
  refine List.pairwise_map.mpr ((List.nodup_range' (s := lo) (n := r.length + 1 - lo)).imp_of_mem fun {a b} ha hb h e => h ?_)
  rw [List.mem_range'_1] at ha hb
  have := congrArg List.length e
  rw [List.length_take, List.length_take] at this
  omega
theorem cpl_pre {a b w : List Nat} (h1 : w <+: a) (h2 : w <+: b) : w.length ≤ cpl a b :=
  cpl_take.mpr ⟨h1.length_le, h2.length_le, (List.prefix_iff_eq_take.mp h1).symm.trans (List.prefix_iff_eq_take.mp h2)⟩
theorem pre_cpl {a b w : List Nat} (h : w <+: b) (hl : w.length ≤ cpl a b) : w <+: a := by
  obtain ⟨_, _, e⟩ := cpl_take.mp hl
  rw [List.prefix_iff_eq_take.mp h, ← e]
  exact List.take_prefix _ _
/-- the beginnings of the first n rows, each one at its first row -/
def plist (rows : List (List Nat)) : Nat → List (List Nat)
  | 0 => []
  | 1 => pre 0 (rows.getD 0 [])
  | n + 2 => plist rows (n + 1) ++ pre (cpl (rows.getD n []) (rows.getD (n + 1) []) + 1) (rows.getD (n + 1) [])
theorem getD_at {l : List (List Nat)} {i : Nat} (h : i < l.length) : l.getD i [] = l[i] := by simp [List.getD, h]
theorem plist_ok (rows : List (List Nat)) (h : rows.Pairwise (· ≤ ·)) : ∀ n, n ≤ rows.length → (plist rows n).Nodup ∧ ∀ w, w ∈ plist rows n ↔ ∃ i, i < n ∧ w <+: rows.getD i []
  | 0, _ => ⟨List.nodup_nil, fun w => ⟨fun h => (by cases h), fun ⟨i, hi, _⟩ => by omega⟩⟩
  | 1, _ => ⟨pre_nodup _ _, fun w => by
      show w ∈ pre 0 _ ↔ _
      rw [mem_pre]
      constructor
      · rintro ⟨h, _⟩; exact ⟨0, by omega, h⟩
      · rintro ⟨i, hi, h⟩
        have : i = 0 := by omega
        subst this
        exact ⟨h, Nat.zero_le _⟩⟩
  | n + 2, hl => by
    obtain ⟨hn, hm⟩ := plist_ok rows h (n + 1) (by omega)
    have le : ∀ i, i ≤ n → rows.getD i [] ≤ rows.getD n [] := fun i hi => by
      rcases Nat.lt_or_eq_of_le hi with hi | rfl
      · rw [getD_at (show _ < rows.length by omega), getD_at (show _ < rows.length by omega)]
        exact (List.pairwise_iff_getElem.mp h) i n (by omega) (by omega) hi
      · exact List.le_refl _
    have le2 : rows.getD n [] ≤ rows.getD (n + 1) [] := by
      rw [getD_at (show _ < rows.length by omega), getD_at (show _ < rows.length by omega)]
      exact (List.pairwise_iff_getElem.mp h) n (n + 1) (by omega) (by omega) (by omega)
    refine ⟨?_, fun w => ?_⟩
    · refine List.nodup_append.mpr ⟨hn, pre_nodup _ _, fun a ha b hb e => ?_⟩
      subst e
      obtain ⟨i, hi, hp⟩ := (hm a).mp ha
      obtain ⟨hp2, hl2⟩ := mem_pre.mp hb
      have := cpl_pre (between hp hp2 (le i (by omega)) le2) hp2
      omega
    · show w ∈ plist rows (n + 1) ++ _ ↔ _
      rw [List.mem_append, hm, mem_pre]
      constructor
      · rintro (⟨i, hi, hp⟩ | ⟨hp, _⟩)
        · exact ⟨i, by omega, hp⟩
        · exact ⟨n + 1, by omega, hp⟩
      · rintro ⟨i, hi, hp⟩
        by_cases hi2 : i < n + 1
        · exact .inl ⟨i, hi2, hp⟩
        · have : i = n + 1 := by omega
          subst this
          by_cases hc : cpl (rows.getD n []) (rows.getD (n + 1) []) + 1 ≤ w.length
          · exact .inr ⟨hp, hc⟩
          · exact .inl ⟨n, by omega, pre_cpl hp (by omega)⟩
theorem same_len {l m : List (List Nat)} (hl : l.Nodup) (hm : m.Nodup) (h : ∀ x, x ∈ l ↔ x ∈ m) : l.length = m.length :=
  Nat.le_antisymm (nodup_len hl fun x hx => (h x).mp hx) (nodup_len hm fun x hx => (h x).mpr hx)
end WM

end
section
/-! Dicts whose keys are words and whose values are True; objects that stay. -/
namespace WM
open PySem L2 MX
def enc (ks : List (List Nat)) : List (Key × D) := ks.map fun w => (.inr (toS w), .bl true)
def ins (ks : List (List Nat)) (w : List Nat) : List (List Nat) := if w ∈ ks then ks else ks ++ [w]
theorem enc_len (ks : List (List Nat)) : (enc ks).length = ks.length := by simp [enc]
theorem key_toS (a b : List Nat) : ((Sum.inr (toS a) : Key) = Sum.inr (toS b)) = (a = b) := by
  rw [Sum.inr.injEq, toS_inj]
theorem any_enc (ks : List (List Nat)) (w : List Nat) : ((enc ks).any fun kv => decide (kv.1 = Sum.inr (toS w))) = decide (w ∈ ks) := by
  rw [Bool.eq_iff_iff]
  simp only [List.any_eq_true, decide_eq_true_eq, enc, List.mem_map]
  constructor
  · rintro ⟨x, ⟨a, ha, rfl⟩, e⟩
    rw [key_toS] at e
    exact e ▸ ha
  · intro h
    exact ⟨_, ⟨w, h, rfl⟩, rfl⟩
theorem put_enc (ks : List (List Nat)) (w : List Nat) : putD (enc ks) (.inr (toS w)) (.bl true) = enc (ins ks w) := by
  unfold putD ins
  rw [any_enc]
  by_cases h : w ∈ ks
  · simp only [h, decide_true, if_true]
    unfold enc
    rw [List.map_map]
    refine List.map_congr_left fun a _ => ?_
    by_cases e : a = w
    · subst e; simp
    · have : ¬ (Sum.inr (toS a) : Key) = Sum.inr (toS w) := by rw [key_toS]; exact e
      simp [this]
  · simp only [h, decide_false, if_false]
    simp [enc]
theorem val_enc (ks : List (List Nat)) (w : List Nat) : (valD (enc ks) (.inr (toS w))).isSome = decide (w ∈ ks) := by
  unfold valD
  rw [Option.isSome_map, ← any_enc, Bool.eq_iff_iff, List.find?_isSome, List.any_eq_true]
theorem mem_ins {ks : List (List Nat)} {w x : List Nat} : x ∈ ins ks w ↔ x ∈ ks ∨ x = w := by
  unfold ins
  split
  · rename_i h
    exact ⟨.inl, fun q => q.elim id fun e => e ▸ h⟩
  · simp
theorem ins_nodup {ks : List (List Nat)} {w : List Nat} (h : ks.Nodup) : (ins ks w).Nodup := by
  unfold ins
  split
  · exact h
  · rename_i q
    refine List.nodup_append.mpr ⟨h, by simp, fun a ha b hb e => ?_⟩
    rw [List.mem_singleton] at hb
    exact q (hb ▸ e ▸ ha)
theorem ins_len (ks : List (List Nat)) (w : List Nat) : (ins ks w).length ≤ ks.length + 1 := by
  unfold ins
  split
  · omega
  · simp
/-! ### dicts among the objects -/
theorem dk_lt {S : Os} {n : Nat} {l : List (Key × D)} (h : dkAt S n = some l) : n < S.length := by
  unfold dkAt at h
  by_cases q : n < S.length
  · exact q
  · rw [List.getElem?_eq_none (by omega)] at h; cases h
theorem dk_get {S : Os} {n : Nat} {l : List (Key × D)} (h : dkAt S n = some l) : S[n]? = some (.dK l) := by
  unfold dkAt at h
  cases e : S[n]? with
  | none => rw [e] at h; cases h
  | some o => rw [e] at h; cases o <;> first | (cases h; rfl) | cases h
theorem get_dk {S : Os} {n : Nat} {l : List (Key × D)} (h : S[n]? = some (.dK l)) : dkAt S n = some l := by unfold dkAt; rw [h]
theorem dk_set {S : Os} {n : Nat} {l m : List (Key × D)} (h : dkAt S n = some m) : dkAt (S.set n (.dK l)) n = some l :=
  get_dk (List.getElem?_set_self (dk_lt h))
theorem dk_ext {S S' : Os} {n : Nat} {l : List (Key × D)} (x : Ext S S') (h : dkAt S n = some l) : dkAt S' n = some l := get_dk (x _ _ (dk_get h))
theorem dk_drw {st n : Nat} {S S' : Os} {l : List (Key × D)} (a : Drw st S S') (h : n ≠ st) (e : dkAt S n = some l) : dkAt S' n = some l := get_dk (a.same n _ h (dk_get e))
@[simp] theorem dk_new {S : Os} {l : List (Key × D)} : dkAt (S ++ [.dK l]) S.length = some l := get_dk (by simp)
theorem get_lst {S : Os} {n : Nat} {l : List D} (h : S[n]? = some (.lst l)) : lstAt S n = some l := by unfold lstAt; rw [h]
theorem lst_get {S : Os} {n : Nat} {l : List D} (h : lstAt S n = some l) : S[n]? = some (.lst l) := by
  unfold lstAt at h
  cases e : S[n]? with
  | none => rw [e] at h; cases h
  | some o => rw [e] at h; cases o <;> first | (cases h; rfl) | cases h
theorem lst_dset {S : Os} {n m : Nat} {l : List D} {o : O} (h : lstAt S m = some l) (e : n ≠ m) : lstAt (S.set n o) m = some l := by rw [lstAt_set_ne e]; exact h
/-- all objects but the stream and those made later stay; further ones may come -/
theorem but_ext {q : Nat} {S S1 S2 : Os} (a : Ext S S1) (h : S.length ≤ q) (b : But q S1 S2) : Ext S S2 := fun n o e => by
  have := (List.getElem?_eq_some_iff.mp e).1
  rw [b.same n (by omega)]
  exact a n o e
theorem ext_set {q : Nat} {S S1 : Os} {o : O} (a : Ext S S1) (h : S.length ≤ q) : Ext S (S1.set q o) := a.set h
/-- the stream at st, its script at sc -/
def StrA (S : Os) (st sc : Nat) : Prop := ∃ (ns : List Int) (c k : Int), lstAt S st = some [.loc sc, .int c, .int k] ∧ lstAt S sc = some (ns.map D.int) ∧ st ≠ sc ∧ 0 ≤ c ∧ 0 ≤ k
theorem StrA.ne {S : Os} {st sc : Nat} (h : StrA S st sc) : st ≠ sc := let ⟨_, _, _, _, _, e, _, _⟩ := h; e
theorem StrA.lt {S : Os} {st sc : Nat} (h : StrA S st sc) : st < S.length ∧ sc < S.length := let ⟨_, _, _, a, b, _, _, _⟩ := h; ⟨lstAt_lt a, lstAt_lt b⟩
theorem StrA.ext {S S' : Os} {st sc : Nat} (h : StrA S st sc) (x : Ext S S') : StrA S' st sc := by
  obtain ⟨ns, c, k, a, b, e, f, g⟩ := h
  exact ⟨ns, c, k, x.lst a, x.lst b, e, f, g⟩
theorem StrA.set {S : Os} {st sc q : Nat} {o : O} (h : StrA S st sc) (h1 : q ≠ st) (h2 : q ≠ sc) : StrA (S.set q o) st sc := by
  obtain ⟨ns, c, k, a, b, e, f, g⟩ := h
  exact ⟨ns, c, k, lst_dset a h1, lst_dset b h2, e, f, g⟩
theorem drw_setn {st q : Nat} {S S1 : Os} {o : O} (d : Drw st S S1) (h : S.length ≤ q) : Drw st S (S1.set q o) :=
  ⟨by rw [List.length_set]; exact d.len, fun n u hn e => by
    have := (List.getElem?_eq_some_iff.mp e).1
    rw [List.getElem?_set_ne (by omega)]
    exact d.same n u hn e⟩
end WM

end
section
/-! The word with an index. -/
namespace WM
open PySem MX
theorem app_lt : ∀ {x y : List Nat} (p q : Nat), x.length = y.length → x < y → x ++ [p] < y ++ [q]
  | [], [], p, q, _, h => (List.lt_irrefl _ h).elim
  | [], b :: y, _, _, h, _ => by simp at h
  | a :: x, [], _, _, h, _ => by simp at h
  | a :: x, b :: y, p, q, hl, h => by
    rw [List.cons_append, List.cons_append]
    refine List.cons_lt_cons_iff.mpr ?_
    rcases List.cons_lt_cons_iff.mp h with h | ⟨e, h⟩
    · exact .inl h
    · exact .inr ⟨e, app_lt p q (by simpa using hl) h⟩
theorem snoc_lt : ∀ (x : List Nat) {p q : Nat}, p < q → x ++ [p] < x ++ [q]
  | [], p, q, h => List.cons_lt_cons_iff.mpr (.inl h)
  | a :: x, p, q, h => by
    rw [List.cons_append, List.cons_append]
    exact List.cons_lt_cons_iff.mpr (.inr ⟨rfl, snoc_lt x h⟩)
theorem wlt_app {x y : List Nat} (p q : Nat) (h : wlt x y) : wlt (x ++ [p]) (y ++ [q]) := by
  rcases h with h | ⟨h, h'⟩
  · exact .inl (by simp; omega)
  · exact .inr ⟨by simp [h], app_lt p q h h'⟩
def Wat (ls : List Nat) (i : Nat) : List Nat := if h : i = 0 then [] else Wat ls ((i - 1) / ls.length) ++ [ls.getD ((i - 1) % ls.length) 0]
termination_by i
decreasing_by exact Nat.lt_of_le_of_lt (Nat.div_le_self _ _) (by omega)
theorem Wat_zero (ls : List Nat) : Wat ls 0 = [] := by unfold Wat; simp
theorem Wat_pos (ls : List Nat) {i : Nat} (h : i ≠ 0) : Wat ls i = Wat ls ((i - 1) / ls.length) ++ [ls.getD ((i - 1) % ls.length) 0] := by
  rw [Wat]
  simp [h]
theorem Wat_mem {ls : List Nat} (hl : 0 < ls.length) : ∀ i, ∀ c ∈ Wat ls i, c ∈ ls := by
  intro i
  induction i using Nat.strongRecOn with
  | ind i ih =>
    intro c hc
    by_cases h : i = 0
    · subst h; rw [Wat_zero] at hc; cases hc
    · rw [Wat_pos ls h] at hc
      rcases List.mem_append.mp hc with hc | hc
      · exact ih _ (Nat.lt_of_le_of_lt (Nat.div_le_self _ _) (by omega)) c hc
      · rw [List.mem_singleton.mp hc]
        have := Nat.mod_lt (i - 1) hl
        simp [List.getD, this]
theorem Wat_len {ls : List Nat} : ∀ i, (Wat ls i).length ≤ i := by
  intro i
  induction i using Nat.strongRecOn with
  | ind i ih =>
    by_cases h : i = 0
    · subst h; rw [Wat_zero]; exact Nat.le_refl _
    · rw [Wat_pos ls h]
      have h1 : (i - 1) / ls.length < i := Nat.lt_of_le_of_lt (Nat.div_le_self _ _) (by omega)
      have := ih _ h1
      simp
      omega
theorem Wat_mono {ls : List Nat} (hl : 0 < ls.length) (ha : ls.Pairwise (· < ·)) : ∀ j i, i < j → wlt (Wat ls i) (Wat ls j) := by
  intro j
  induction j using Nat.strongRecOn with
  | ind j ih =>
    intro i hij
    have hj : j ≠ 0 := by omega
    by_cases hi : i = 0
    · subst hi
      rw [Wat_zero, Wat_pos ls hj]
      exact .inl (by simp)
    · rw [Wat_pos ls hi, Wat_pos ls hj]
      have hb : (j - 1) / ls.length < j := Nat.lt_of_le_of_lt (Nat.div_le_self _ _) (by omega)
      rcases Nat.lt_or_eq_of_le (Nat.div_le_div_right (c := ls.length) (show i - 1 ≤ j - 1 by omega)) with h | h
      · exact wlt_app _ _ (ih _ hb _ h)
      · rw [h]
        have m1 := Nat.mod_lt (i - 1) hl
        have m2 := Nat.mod_lt (j - 1) hl
        have d1 := Nat.div_add_mod (i - 1) ls.length
        have d2 := Nat.div_add_mod (j - 1) ls.length
        rw [h] at d1
        have lt : (i - 1) % ls.length < (j - 1) % ls.length := by omega
        refine .inr ⟨by simp, snoc_lt _ ?_⟩
        have := (List.pairwise_iff_getElem.mp ha) _ _ m1 m2 lt
        simpa [List.getD, m1, m2] using this
def slen (ws : List (List Nat)) : Nat := (ws.map (·.length)).sum
@[simp] theorem slen_nil : slen [] = 0 := rfl
theorem slen_app (a b : List (List Nat)) : slen (a ++ b) = slen a + slen b := by simp [slen]
theorem slen_perm {a b : List (List Nat)} (h : a.Perm b) : slen a = slen b := (h.map _).sum_nat
@[simp] theorem slen_one (w : List Nat) : slen [w] = w.length := by simp [slen]
theorem slen_le {n : Nat} : ∀ {ws : List (List Nat)}, (∀ w ∈ ws, w.length ≤ n) → slen ws ≤ ws.length * n
  | [], _ => by simp
  | w :: ws, h => by
    have := slen_le (ws := ws) fun x hx => h x (List.mem_cons_of_mem _ hx)
    have h1 := h w List.mem_cons_self
    have e : slen (w :: ws) = w.length + slen ws := by simp [slen]
    rw [e, List.length_cons, Nat.succ_mul]
    omega
theorem len_le_slen : ∀ {ws : List (List Nat)} {w : List Nat}, w ∈ ws → w.length ≤ slen ws
  | x :: ws, w, h => by
    have e : slen (x :: ws) = x.length + slen ws := by simp [slen]
    rw [e]
    rcases List.mem_cons.mp h with rfl | h
    · omega
    · have := len_le_slen h; omega
def wd (w : List Nat) : D := .str (toS w)
theorem strs_wd [TL] (ws : List (List Nat)) : strsD (ws.map wd) = some (ws.map toS) := by
  have := strsD_map (ws.map toS)
  rwa [List.map_map] at this
theorem flat_wd [TL] (ws : List (List Nat)) : (ws.map wd).all flatD = true := by simp [wd, List.all_eq_true]
theorem any_wd [TL] (ws : List (List Nat)) (w : List Nat) : ((ws.map wd).any fun y => eqfD y (wd w)) = decide (w ∈ ws) := by
  rw [Bool.eq_iff_iff, List.any_map, List.any_eq_true, decide_eq_true_eq]
  constructor
  · rintro ⟨a, ha, h⟩
    simp [wd] at h
    exact h ▸ ha
  · intro h
    exact ⟨w, h, by simp [wd]⟩
theorem inA_wd [TL] {neg : Bool} {ws : List (List Nat)} {w : List Nat} {d : D} {S : Os} (h : itemsD S d = some (ws.map wd)) : inA neg (wd w) d S = .ok (.bl (if neg then !decide (w ∈ ws) else decide (w ∈ ws))) S := by
  unfold inA
  simp only [h]
  rw [if_pos ⟨rfl, flat_wd ws⟩, any_wd]
end WM

end
section
/-! Loops that may raise; comprehensions with two loops that change nothing. -/
namespace MX
open PySem L2
theorem mSeq_nx {a b : MS} {σ σ1 : Fr} {S S1 : Os} (h : a σ S = .nx σ1 S1) : mSeq a b σ S = b σ1 S1 := by
  simp only [mSeq, h, SRes.seq]
theorem mSeq_exn {a b : MS} {σ σ1 : Fr} {S S1 : Os} {e : Exn} (h : a σ S = .exn e σ1 S1) : mSeq a b σ S = .exn e σ1 S1 := by
  simp only [mSeq, h, SRes.seq]
theorem mSeq_rt {a b : MS} {σ : Fr} {S S1 : Os} {d : D} (h : a σ S = .rt d S1) : mSeq a b σ S = .rt d S1 := by
  simp only [mSeq, h, SRes.seq]
/-- a for by an invariant, that may raise; R: what is wanted of its end -/
theorem loop_genX {ok : Os → Prop} {g : D → Fr → Os → Option Fr} {b : MS} {R : SRes → Prop} (I : Nat → Fr → Os → Prop) (hok : ∀ i σ S, I i σ S → ok S) :
    ∀ (l : List D) (i : Nat) (σ : Fr) (S : Os), I i σ S → (∀ j x σ S, l[j]? = some x → I (i + j) σ S → ∃ σ1, g x σ S = some σ1 ∧ ((∃ σ2 S2, (b σ1 S = .nx σ2 S2 ∨ b σ1 S = .ct σ2 S2) ∧ I (i + j + 1) σ2 S2) ∨ (∃ σ2 S2, b σ1 S = .bk σ2 S2 ∧ R (.nx σ2 S2)) ∨ (∃ d S2, b σ1 S = .rt d S2 ∧ R (.rt d S2)) ∨ (∃ e σ2 S2, b σ1 S = .exn e σ2 S2 ∧ R (.exn e σ2 S2)))) →
      (∀ σ S, I (i + l.length) σ S → R (.nx σ S)) → R (mLoop ok g b l σ S)
  | [], i, σ, S, h, _, hd => by
    rw [mLoop_nil g b σ S (hok _ _ _ h)]
    exact hd σ S h
  | x :: l, i, σ, S, h, hs, hd => by
    obtain ⟨σ1, h1, h2⟩ := hs 0 x σ S rfl h
    rw [mLoop_cons g b x l σ σ1 S (hok _ _ _ h) h1]
    have go : ∀ σ2 S2, I (i + 0 + 1) σ2 S2 → R (mLoop ok g b l σ2 S2) := fun σ2 S2 h4 => by
      refine loop_genX I hok l (i + 1) σ2 S2 h4 (fun j y σ S hj hI => ?_) fun σ S hI => hd σ S ?_
      · have := hs (j + 1) y σ S (by simpa using hj) (by rw [← Nat.add_assoc, Nat.add_right_comm]; exact hI)
        rwa [← Nat.add_assoc, Nat.add_right_comm i j 1] at this
      · rw [List.length_cons, ← Nat.add_assoc, Nat.add_right_comm]
        exact hI
    rcases h2 with ⟨σ2, S2, h3 | h3, h4⟩ | ⟨σ2, S2, h3, h4⟩ | ⟨d, S2, h3, h4⟩ | ⟨e, σ2, S2, h3, h4⟩
    · rw [h3]; exact go _ _ h4
    · rw [h3]; exact go _ _ h4
    · rw [h3]; exact h4
    · rw [h3]; exact h4
    · rw [h3]; exact h4
/-- a comprehension with two loops whose items are reckoned and change nothing -/
theorem comp2_pure {okS : Os → Prop} {g g1 : D → Fr → Os → Option Fr} {vs vs1 : List Nat} {t t1 : MT} {e : ME} {fi1 : MI} {S0 : Os} {σ : Fr} (inner : D → List D) (ok : ∀ a, okS (S0 ++ [.lst a])) (N : Nat) :
    ∀ (l : List D) (acc : List D), acc.length + (l.flatMap inner).length ≤ N → (∀ x ∈ l, ∀ a, a.length + (inner x).length ≤ N → ∃ σ2 l1 okS1, g x (wipeD σ vs) (S0 ++ [.lst a]) = some σ2 ∧ t σ2 (S0 ++ [.lst a]) = .ok true (S0 ++ [.lst a]) ∧ fi1 σ2 (S0 ++ [.lst a]) = .ok (l1, okS1) (S0 ++ [.lst a]) ∧
        mComp okS1 g1 vs1 t1 e S0.length l1 σ2 (S0 ++ [.lst a]) = .ok (.loc S0.length) (S0 ++ [.lst (a ++ inner x)])) →
      mComp2 okS g vs t fi1 g1 vs1 t1 e S0.length l σ (S0 ++ [.lst acc]) = .ok (.loc S0.length) (S0 ++ [.lst (acc ++ l.flatMap inner)])
  | [], acc, _, _ => by
    rw [mComp2]
    dsimp only
    rw [if_pos (ok acc)]
    simp
  | x :: l, acc, hz, h => by
    rw [List.flatMap_cons, List.length_append] at hz
    obtain ⟨σ2, l1, okS1, h1, h2, h3, h4⟩ := h x List.mem_cons_self acc (by omega)
    rw [mComp2]
    dsimp only
    rw [if_pos (ok acc), h1]
    dsimp only
    rw [h2]
    dsimp only
    rw [h3]
    dsimp only
    rw [h4]
    dsimp only
    rw [comp2_pure inner ok N l (acc ++ inner x) (by rw [List.length_append]; omega) fun y hy => h y (List.mem_cons_of_mem _ hy), List.flatMap_cons, List.append_assoc]
end MX
namespace WM
open PySem L2 MX
theorem nat_int (a b : Nat) : ((a : Int) = (b : Int)) = (a = b) := propext ⟨fun h => by omega, fun h => by omega⟩
/-! ### all words of a length, of at most a length -/
def lv (ls : List Nat) : Nat → List (List Nat)
  | 0 => [[]]
  | n + 1 => (lv ls n).flatMap fun w => ls.map fun c => w ++ [c]
def ws (ls : List Nat) : Nat → List (List Nat)
  | 0 => [[]]
  | n + 1 => ws ls n ++ lv ls (n + 1)
def more (ls : List Nat) (l : List (List Nat)) : List (List Nat) := l.flatMap fun w => ls.map fun c => w ++ [c]
theorem more_len (ls : List Nat) (l : List (List Nat)) : (more ls l).length = l.length * ls.length := by
  unfold more
  induction l with
  | nil => simp
  | cons w l ih => rw [List.flatMap_cons, List.length_append, ih, List.length_map, List.length_cons, Nat.succ_mul, Nat.add_comm]
theorem lv_len (ls : List Nat) (n : Nat) : (lv ls (n + 1)).length = (lv ls n).length * ls.length := more_len ls _
theorem ws_more (ls : List Nat) : ∀ n, ws ls (n + 1) = [] :: more ls (ws ls n)
  | 0 => by simp [ws, lv, more]
  | n + 1 => by
    show ws ls (n + 1) ++ lv ls (n + 2) = [] :: more ls (ws ls n ++ lv ls (n + 1))
    rw [ws_more ls n]
    unfold more
    rw [List.flatMap_append, List.cons_append]
    rfl
theorem more_at (ls : List Nat) (hl : 0 < ls.length) : ∀ (l : List (List Nat)) (j : Nat), j < l.length * ls.length → (more ls l)[j]? = some ((l.getD (j / ls.length) []) ++ [ls.getD (j % ls.length) 0])
  | [], j, h => by simp at h
  | w :: l, j, h => by
    unfold more
    rw [List.flatMap_cons]
    by_cases hj : j < ls.length
    · rw [List.getElem?_append_left (by rw [List.length_map]; exact hj), List.getElem?_map, List.getElem?_eq_getElem hj, Nat.div_eq_of_lt hj, Nat.mod_eq_of_lt hj]
      simp [List.getD, hj]
    · rw [List.getElem?_append_right (by rw [List.length_map]; omega), List.length_map]
      rw [List.length_cons, Nat.succ_mul] at h
      have := more_at ls hl l (j - ls.length) (by omega)
      unfold more at this
      rw [this]
      have e1 : j = (j - ls.length) + ls.length := by omega
      have e2 : j / ls.length = (j - ls.length) / ls.length + 1 := by
        conv => lhs; rw [e1]
        rw [Nat.add_div_right _ hl]
      have e3 : j % ls.length = (j - ls.length) % ls.length := by
        conv => lhs; rw [e1]
        rw [Nat.add_mod_right]
      rw [e2, e3]
      simp [List.getD]
theorem ws_len_pos (ls : List Nat) (n : Nat) : 0 < (ws ls n).length := by
  cases n with
  | zero => simp [ws]
  | succ n => rw [ws_more]; simp
theorem ws_Wat (ls : List Nat) (hl : 0 < ls.length) : ∀ (n i : Nat), i < (ws ls n).length → (ws ls n)[i]? = some (Wat ls i)
  | 0, i, h => by
    have : i = 0 := by simp [ws] at h; exact h
    subst this
    simp [ws, Wat_zero]
  | n + 1, 0, h => by rw [ws_more]; simp [Wat_zero]
  | n + 1, i + 1, h => by
    rw [ws_more, List.length_cons, more_len] at h
    have hi : i < (ws ls n).length * ls.length := by omega
    rw [ws_more, List.getElem?_cons_succ, more_at ls hl _ i hi, Wat_pos ls (by omega)]
    have hd : i / ls.length < (ws ls n).length := Nat.div_lt_of_lt_mul (by rw [Nat.mul_comm]; exact hi)
    have := ws_Wat ls hl n (i / ls.length) hd
    rw [List.getD, this]
    simp
theorem ws_eq (ls : List Nat) (hl : 0 < ls.length) (n : Nat) : ws ls n = (List.range (ws ls n).length).map (Wat ls) := by
  refine List.ext_getElem? fun i => ?_
  by_cases h : i < (ws ls n).length
  · rw [ws_Wat ls hl n i h, List.getElem?_map, List.getElem?_range h]
    rfl
  · rw [List.getElem?_eq_none (by omega), List.getElem?_eq_none (by rw [List.length_map, List.length_range]; omega)]
theorem ws_mono (ls : List Nat) : ∀ {m n : Nat}, m ≤ n → (ws ls m).length ≤ (ws ls n).length := fun {m n} h => by
  induction h with
  | refl => exact Nat.le_refl _
  | step h ih => exact Nat.le_trans ih (by show _ ≤ (ws ls _ ++ lv ls _).length; rw [List.length_append]; omega)
end WM

end
section
/-! Equal plain values, at different places; their size. -/
namespace MX
open PySem L2
mutual
/-- d and e are one plain value, of k parts, by what S holds -/
inductive Eqv (S : Os) : D → D → Nat → Prop
  | non : Eqv S .non .non 1
  | bl (b : Bool) : Eqv S (.bl b) (.bl b) 1
  | int (i : Int) : Eqv S (.int i) (.int i) 1
  | str (z : Str) : Eqv S (.str z) (.str z) 1
  | tup {l m : List D} {k : Nat} : Eqvs S l m k → Eqv S (.tup l) (.tup m) (k + 1)
  | loc {a b : Nat} {l m : List D} {k : Nat} : lstAt S a = some l → lstAt S b = some m → Eqvs S l m k → Eqv S (.loc a) (.loc b) (k + 1)
inductive Eqvs (S : Os) : List D → List D → Nat → Prop
  | nil : Eqvs S [] [] 0
  | cons {d e : D} {l m : List D} {i j : Nat} : Eqv S d e i → Eqvs S l m j → Eqvs S (d :: l) (e :: m) (i + j)
end
theorem Eqv.pos {S : Os} {d e : D} {k : Nat} (h : Eqv S d e k) : 0 < k := by cases h <;> omega
theorem Eqvs.len {S : Os} : ∀ {l m : List D} {k : Nat}, Eqvs S l m k → l.length = m.length
  | [], _, _, h => by cases h; rfl
  | _ :: _, _, _, h => by cases h with | cons _ h => simp [h.len]
theorem Eqvs.le {S : Os} : ∀ {l m : List D} {k : Nat}, Eqvs S l m k → l.length ≤ k
  | [], _, _, h => by simp
  | _ :: _, _, _, h => by
    cases h with
    | cons h1 h2 =>
      have := h2.le
      have := h1.pos
      simp
      omega
theorem Eqvs.app {S : Os} : ∀ {l m l' m' : List D} {k k' : Nat}, Eqvs S l m k → Eqvs S l' m' k' → Eqvs S (l ++ l') (m ++ m') (k + k')
  | [], _, _, _, _, _, h, h' => by cases h; simpa using h'
  | _ :: _, _, _, _, _, _, h, h' => by
    cases h with
    | cons h1 h2 =>
      have := Eqvs.cons h1 (h2.app h')
      rw [← Nat.add_assoc] at this
      exact this
theorem Eqvs.snoc {S : Os} : ∀ {l m : List D} {d e : D} {k : Nat}, Eqvs S (l ++ [d]) (m ++ [e]) k → ∃ i j, Eqvs S l m i ∧ Eqv S d e j ∧ k = i + j
  | [], [], _, _, _, h => by
    cases h with
    | cons h1 h2 => cases h2; exact ⟨0, _, .nil, h1, by omega⟩
  | [], _ :: m, _, _, _, h => by have := h.len; simp at this
  | _ :: l, [], _, _, _, h => by have := h.len; simp at this
  | _ :: l, _ :: m, _, _, _, h => by
    cases h with
    | cons h1 h2 =>
      obtain ⟨i, j, h3, h4, e⟩ := h2.snoc
      exact ⟨_, j, .cons h1 h3, h4, by omega⟩
mutual
theorem Eqv.ext {S S' : Os} (x : Ext S S') : ∀ {d e : D} {k : Nat}, Eqv S d e k → Eqv S' d e k
  | _, _, _, .non => .non
  | _, _, _, .bl b => .bl b
  | _, _, _, .int i => .int i
  | _, _, _, .str z => .str z
  | _, _, _, .tup h => .tup (Eqvs.ext x h)
  | _, _, _, .loc a b h => .loc (x.lst a) (x.lst b) (Eqvs.ext x h)
theorem Eqvs.ext {S S' : Os} (x : Ext S S') : ∀ {l m : List D} {k : Nat}, Eqvs S l m k → Eqvs S' l m k
  | _, _, _, .nil => .nil
  | _, _, _, .cons h1 h2 => .cons (Eqv.ext x h1) (Eqvs.ext x h2)
end
theorem Eqvs.wds (S : Os) : ∀ ws : List (List Nat), Eqvs S (ws.map WM.wd) (ws.map WM.wd) ws.length
  | [] => .nil
  | w :: ws => by
    have := Eqvs.cons (.str (toS w)) (Eqvs.wds S ws)
    rw [Nat.add_comm] at this
    exact this
theorem lstAt_get {S : Os} {n : Nat} {l : List D} (h : lstAt S n = some l) : S[n]? = some (O.lst l) := by
  unfold lstAt at h
  cases e : S[n]? with
  | none => rw [e] at h; cases h
  | some o => rw [e] at h; cases o <;> first | (cases h; rfl) | cases h
theorem rngD_pos (lo : Int) (n : Nat) (h : 0 < n) : rngD lo n = .int lo :: rngD (lo + 1) (n - 1) := by
  cases n with
  | zero => omega
  | succ n => exact rngD_succ lo n
theorem mLoop_stepT (g : D → Fr → Os → Option Fr) (b : MS) (x : D) (xs : List D) (σ σ1 σ2 : Fr) (S S2 : Os) (h : g x σ S = some σ1) (h2 : b σ1 S = .nx σ2 S2) : mLoop (fun _ => True) g b (x :: xs) σ S = mLoop (fun _ => True) g b xs σ2 S2 := by
  rw [mLoop_consT g b x xs σ σ1 S h, h2]
/-- pairs of items -/
def zipT (l m : List D) : List D := List.zipWith (fun d e => .tup [d, e]) l m
theorem zipT_len {l m : List D} (h : l.length = m.length) : (zipT l m).length = l.length := by unfold zipT; rw [List.length_zipWith]; omega
theorem zipT_app {l m l' m' : List D} (h : l.length = m.length) : zipT (l ++ l') (m ++ m') = zipT l m ++ zipT l' m' := List.zipWith_append h
end MX

end
section
/-! == of lists of truths. -/
namespace MX
open PySem L2
theorem eqQ_bl (n : Nat) (S : Os) (a b : Bool) : eqQ n S (.bl a) (.bl b) = some (a == b) := by
  unfold eqQ
  cases n <;> rfl
theorem allSome_bl (n : Nat) (S : Os) : ∀ bs cs : List Bool, bs.length = cs.length → allSome (List.zipWith (eqQ n S) (bs.map .bl) (cs.map .bl)) = some (bs == cs)
  | [], [], _ => rfl
  | [], _ :: _, h => by simp at h
  | _ :: _, [], h => by simp at h
  | b :: bs, c :: cs, h => by
    have ih := allSome_bl n S bs cs (by simpa using h)
    show (match eqQ n S (.bl b) (.bl c), allSome (List.zipWith (eqQ n S) (bs.map .bl) (cs.map .bl)) with | some a, some b => some (a && b) | _, _ => none) = _
    rw [eqQ_bl, ih]
    rfl
theorem eqQ_locs (S : Os) (a b : Nat) (bs cs : List Bool) (ha : lstAt S a = some (bs.map .bl)) (hb : lstAt S b = some (cs.map .bl)) (hl : bs.length = cs.length) : eqQD (.loc a) (.loc b) S = .ok (.bl (bs == cs)) S := by
  have e : eqQ eqDp S (.loc a) (.loc b) = some (bs == cs) := by
    unfold eqQ eqDp
    have s1 : seqK S (.loc a) = some (false, bs.map .bl) := by show (lstAt S a).map _ = _; rw [ha]; rfl
    have s2 : seqK S (.loc b) = some (false, cs.map .bl) := by show (lstAt S b).map _ = _; rw [hb]; rfl
    simp only [show scal (.loc a) = none from rfl, show scal (.loc b) = none from rfl, s1, s2]
    have := allSome_bl 39 S bs cs hl
    simp only [ne_eq, not_true_eq_false, if_false, List.length_map, hl, and_false]
    rw [this]
    simp
  unfold eqQD
  rw [e]
theorem p64 : (2 : Int) ^ 64 = 18446744073709551616 := by decide
theorem cmul_nat (i : Int) (n : Nat) (h : n < 1000000000) : CMul i (n : Int) := by
  unfold CMul
  rw [p64]
  exact .inr ⟨by omega, by omega⟩
theorem cmul_natL (i : Int) (n : Nat) (h : n < 1000000000) : CMul (n : Int) i := by
  unfold CMul
  rw [p64]
  exact .inl ⟨by omega, by omega⟩
theorem mulA_int (i j : Int) (S : Os) (h : CMul i j) : mulA (.int i) (.int j) S = .ok (.int (i * j)) S := by simp [h]
end MX

end
section
/-! Steps of tests, all(..) and sum(..) of generator expressions, samples, neighbours. -/
namespace MX
open PySem L2 WM
variable [TL]
theorem mIf_t {t : MT} {a b : MS} {σ : Fr} {S S1 : Os} (h : t σ S = .ok true S1) : mIf t a b σ S = a σ S1 := by
  simp [mIf, h]
theorem mIf_f {t : MT} {a b : MS} {σ : Fr} {S S1 : Os} (h : t σ S = .ok false S1) : mIf t a b σ S = b σ S1 := by
  simp [mIf, h]
theorem mIfE_t {t : MT} {a b : ME} {σ : Fr} {S S1 : Os} (h : t σ S = .ok true S1) : mIfE t a b σ S = a σ S1 := by
  simp [mIfE, h]
theorem mIfE_f {t : MT} {a b : ME} {σ : Fr} {S S1 : Os} (h : t σ S = .ok false S1) : mIfE t a b σ S = b σ S1 := by
  simp [mIfE, h]
theorem mOr_f {a b : MT} {σ : Fr} {S S1 : Os} (h : a σ S = .ok false S1) : mOr a b σ S = b σ S1 := by
  simp [mOr, h]
theorem mOr_t {a b : MT} {σ : Fr} {S S1 : Os} (h : a σ S = .ok true S1) : mOr a b σ S = .ok true S1 := by
  simp [mOr, h]
theorem mAnd_t {a b : MT} {σ : Fr} {S S1 : Os} (h : a σ S = .ok true S1) : mAnd a b σ S = b σ S1 := by
  simp [mAnd, h]
theorem mAnd_f {a b : MT} {σ : Fr} {S S1 : Os} (h : a σ S = .ok false S1) : mAnd a b σ S = .ok false S1 := by
  simp [mAnd, h]
theorem mNot_b {a : MT} {σ : Fr} {S S1 : Os} {b : Bool} (h : a σ S = .ok b S1) : mNot a σ S = .ok (!b) S1 := by
  simp [mNot, h]
theorem mTest_b {e : ME} {σ : Fr} {S S1 : Os} {b : Bool} (h : e σ S = .ok (.bl b) S1) : mTest e σ S = .ok b S1 := by
  simp [mTest, h]
theorem mRet_e {e : ME} {σ : Fr} {S S1 : Os} {d : D} (h : e σ S = .ok d S1) : mRet e σ S = .rt d S1 := by
  simp [mRet, h]
theorem mBin_e {f : D → D → Os → Res D} {a b : ME} {σ : Fr} {S S1 S2 : Os} {x y : D} (h : a σ S = .ok x S1) (k : b σ S1 = .ok y S2) : mBin f a b σ S = f x y S2 := by
  simp only [mBin, h, k, Res.bind_ok]
theorem mCall_1 {f : Fn} {a : ME} {σ : Fr} {S S1 : Os} {x : D} (h : a σ S = .ok x S1) : mCall f (mCons a mNil) σ S = f [x] S1 := by
  simp [mCall, h]
theorem mCall_2 {f : Fn} {a b : ME} {σ : Fr} {S S1 S2 : Os} {x y : D} (h : a σ S = .ok x S1) (k : b σ S1 = .ok y S2) : mCall f (mCons a (mCons b mNil)) σ S = f [x, y] S2 := by
  simp [mCall, h, k]
theorem mCall_3 {f : Fn} {a b c : ME} {σ : Fr} {S S1 S2 S3 : Os} {x y z : D} (h : a σ S = .ok x S1) (k : b σ S1 = .ok y S2) (j : c σ S2 = .ok z S3) : mCall f (mCons a (mCons b (mCons c mNil))) σ S = f [x, y, z] S3 := by
  simp [mCall, h, k, j]
theorem mCall_4 {f : Fn} {a b c d : ME} {σ : Fr} {S S1 S2 S3 S4 : Os} {x y z u : D} (h : a σ S = .ok x S1) (k : b σ S1 = .ok y S2) (j : c σ S2 = .ok z S3) (i : d σ S3 = .ok u S4) : mCall f (mCons a (mCons b (mCons c (mCons d mNil)))) σ S = f [x, y, z, u] S4 := by
  simp [mCall, h, k, j, i]
theorem mSet_e {i : Nat} {a : ME} {σ : Fr} {S S1 : Os} {x : D} (h : a σ S = .ok x S1) : mSet i a σ S = .nx (σ.set i (some x)) S1 := by
  simp [mSet, h]
theorem atI_last {α : Type} (l : List α) (h : l ≠ []) : atI l (-1) = some (l.getLast h) := by
  have hp := List.length_pos_iff.mpr h
  have e : ixN l.length (-1) = some (l.length - 1) := by
    unfold ixN
    simp
    omega
  unfold atI
  rw [e]
  simp [List.getLast_eq_getElem, List.getElem?_eq_getElem (show l.length - 1 < l.length by omega)]
theorem gen_val {ok : Os → Prop} {g : D → Fr → Os → Option Fr} {vs : List Nat} {e : ME} {σ : Fr} {S : Os} (hok : ok S) (P : D → Bool) : ∀ (l : List D), (∀ x ∈ l, ∃ σ2, g x (wipeD σ vs) S = some σ2 ∧ e σ2 S = .ok (.bl (P x)) S) → mGen ok g vs e true l σ S = .ok (.bl (l.all P)) S
  | [], _ => by unfold mGen; rw [if_pos hok]; rfl
  | x :: l, h => by
    obtain ⟨σ2, h1, h2⟩ := h x List.mem_cons_self
    have ih := gen_val (e := e) (g := g) (vs := vs) (σ := σ) hok P l fun y hy => h y (List.mem_cons_of_mem _ hy)
    unfold mGen
    rw [if_pos hok, h1]
    simp only [h2]
    cases q : P x with
    | true => simpa [q] using ih
    | false => simp [q]
theorem sum_all {ok : Os → Prop} {g : D → Fr → Os → Option Fr} {vs : List Nat} {e : ME} {σ : Fr} {S : Os} (hok : ok S) : ∀ (ws : List (List Nat)) (acc : Nat), acc + slen ws ≤ 1000000 → (∀ w ∈ ws, ∃ σ2, g (wd w) (wipeD σ vs) S = some σ2 ∧ e σ2 S = .ok (.int (w.length : Nat)) S) → mSumG ok g vs e (ws.map wd) (acc : Nat) σ S = .ok (.int (acc + slen ws : Nat)) S
  | [], acc, _, _ => by rw [List.map_nil]; unfold mSumG; rw [if_pos hok]; simp
  | w :: ws, acc, hb, h => by
    obtain ⟨σ2, h1, h2⟩ := h w List.mem_cons_self
    have e1 : slen (w :: ws) = w.length + slen ws := by simp [slen]
    rw [List.map_cons]
    unfold mSumG
    rw [if_pos hok, h1]
    simp only [h2]
    have c : InLong ((w.length : Nat) : Int) ∧ InLong ((acc : Int) + (w.length : Nat)) := by
      unfold InLong
      have : (2 : Int) ^ 63 = 9223372036854775808 := by decide
      omega
    rw [if_pos c]
    have := sum_all (e := e) (g := g) (vs := vs) (σ := σ) hok ws (acc + w.length) (by omega) fun y hy => h y (List.mem_cons_of_mem _ hy)
    rw [show ((acc : Int) + (w.length : Nat)) = ((acc + w.length : Nat) : Int) by omega, this, e1]
    congr 2
    omega
theorem step1_pos (l : List Str) (c : Nat) : 0 < (step1 l c).length := by
  unfold step1
  split
  · rename_i h
    cases l with
    | nil => simp at h
    | cons _ _ => simp
  · simp
theorem fold_pos : ∀ (cs : List Nat) (l : List Str), 0 < l.length → 0 < (cs.foldl step1 l).length
  | [], l, h => h
  | c :: cs, l, h => fold_pos cs _ (step1_pos l c)
theorem nsig_pos {ls : List Nat} (h : 0 < ls.length) : 0 < nsig (toS ls) := by
  show 0 < (met1 (toS ls) (toS ls).cps.size).length
  unfold met1
  have e : (toS ls).cps.toList.take (toS ls).cps.size = ls := by simp
  rw [e]
  cases ls with
  | nil => simp at h
  | cons c cs => exact fold_pos cs _ (step1_pos [] c)
theorem lens_comp {okS : Os → Prop} (i : Nat) (σ : Fr) (S : Os) (ok : ∀ a, okS (S ++ [.lst a])) (hg : i < σ.length) (ws : List (List Nat)) (h : ws.length ≤ 100000) (hl : ∀ w ∈ ws, w.length ≤ 16777216) :
    mComp okS (gN i) [i] mYes (mCB lenD (mCons (mVar i) mNil)) S.length (ws.map wd) σ (S ++ [.lst []]) = .ok (.loc S.length) (S ++ [.lst (ws.map fun w => .int (w.length : Nat))]) := by
  have := comp_pure (okS := okS) (g := gN i) (vs := [i]) (t := mYes) (e := mCB lenD (mCons (mVar i) mNil)) (S0 := S) (σ := σ) (fun _ => true) (fun x => match x with | .str z => .int (z.length : Nat) | d => d) ok (ws.map wd) [] (fun x hx a => by
    obtain ⟨w, hw, rfl⟩ := List.mem_map.mp hx
    refine ⟨_, rfl, by simp, fun _ => ?_⟩
    have e0 : ∀ d : D, (σ.set i (some d))[i]? = some (some d) := fun d => List.getElem?_set_self hg
    simp [e0, wd, sizeLine_num, hl w hw]) (by simp; omega)
  rw [List.filter_eq_self.mpr fun _ _ => rfl, List.nil_append, List.map_map] at this
  rw [this]
  have e : ws.map ((fun x => match x with | .str z => D.int (z.length : Nat) | d => d) ∘ wd) = ws.map fun w => .int (w.length : Nat) := List.map_congr_left fun w _ => by
    show D.int ((toS w).length : Nat) = _
    rw [toS_len]
  rw [e]
theorem sum_lens (ws : List (List Nat)) : intsD (ws.map fun w => D.int (w.length : Nat)) = some (ws.map fun w => ((w.length : Nat) : Int)) := by
  have := intsD_map (ws.map fun w => ((w.length : Nat) : Int))
  rwa [List.map_map] at this
theorem sum_cast : ∀ ws : List (List Nat), (ws.map fun w => ((w.length : Nat) : Int)).sum = (slen ws : Nat)
  | [] => rfl
  | w :: ws => by
    have := sum_cast ws
    simp only [List.map_cons, List.sum_cons, this]
    simp [slen]
/-- a sample -/
structure Smp (ls : List Nat) (ws : List (List Nat)) : Prop where
  asc : Asc ws
  lts : ∀ w ∈ ws, ∀ c ∈ w, c ∈ ls
  many : ws.length ≤ 200
  tot : slen ws ≤ 2000
/-- ascending means that neighbours are -/
theorem asc_iff : ∀ ws : List (List Nat), Asc ws ↔ ∀ j (h : j + 1 < ws.length), wlt (ws[j]'(by omega)) ws[j + 1]
  | [] => by simp
  | [a] => by simp
  | a :: b :: ws => by
    have ih := asc_iff (b :: ws)
    constructor
    · intro h j hj
      exact (List.pairwise_iff_getElem.mp h) j (j + 1) (by omega) hj (by omega)
    · intro h
      have h1 : Asc (b :: ws) := ih.mpr fun j hj => h (j + 1) (by simp only [List.length_cons] at hj ⊢; omega)
      refine List.pairwise_cons.mpr ⟨fun x hx => ?_, h1⟩
      have h0 : wlt a b := h 0 (by simp)
      rcases List.mem_cons.mp hx with rfl | hx
      · exact h0
      · exact wlt_trans h0 ((List.pairwise_cons.mp h1).1 x hx)
/-- an item that is no text -/
def Odd (st : Nat) (S : Os) (d : D) : Prop := (∃ T, T ∈ ["NoneType", "bool", "int", "tuple"] ∧ ∀ S, kindD S d = some T) ∨ ∃ n l, d = .loc n ∧ n ≠ st ∧ S[n]? = some (.lst l)
theorem Odd.drw {st : Nat} {S S' : Os} {d : D} (h : Odd st S d) (x : Drw st S S') : Odd st S' d := by
  rcases h with h | ⟨n, l, rfl, h1, h2⟩
  · exact .inl h
  · exact .inr ⟨n, l, rfl, h1, x.same n _ h1 h2⟩
theorem Odd.kind {st : Nat} {S : Os} {d : D} (h : Odd st S d) : ∃ T, T ∈ ["NoneType", "bool", "int", "tuple", "list"] ∧ kindD S d = some T := by
  rcases h with ⟨T, h, k⟩ | ⟨n, l, rfl, h1, h2⟩
  · exact ⟨T, by simp only [List.mem_cons, List.not_mem_nil, or_false] at h ⊢; rcases h with h | h | h | h <;> simp [h], k S⟩
  · exact ⟨"list", by simp, by simp [h2]⟩
end MX

end
section
/-! Slices of tuples and texts by expressions, sums of tuples. -/
namespace MX
open PySem L2 WM
variable [TL]
theorem addT_tup (l m : List D) (S : Os) (h : l.length + m.length ≤ 16777216) : addT (.tup l) (.tup m) S = .ok (.tup (l ++ m)) S := by
  cases l with
  | nil => simp
  | cons x l => simp only [addT, addD]; rw [if_pos ⟨by rw [sizeLine_num]; exact h, by simp⟩]
theorem addT_str (a b : List Nat) (S : Os) (h : a.length + b.length ≤ 16777216) : addT (.str (toS a)) (.str (toS b)) S = .ok (.str (toS (a ++ b))) S := by
  simp [sizeLine_num, h]
theorem mPart_e {e : ME} {σ : Fr} {S S1 : Os} {i : Int} (h : e σ S = .ok (.int i) S1) : mPart e σ S = .ok (some i) S1 := by
  simp [mPart, h]
theorem slice_to {e f : ME} {σ : Fr} {S S1 S2 : Os} {l : List D} {i : Int} (n : Nat) (h : e σ S = .ok (.tup l) S1) (k : f σ S1 = .ok (.int i) S2) (hn : i = (n : Nat)) : mSlice e mNoPart (mPart f) σ S = .ok (.tup (l.take n)) S2 := by
  subst hn
  simp only [mSlice, h, Res.bind_ok, mNoPart, mPart_e k, sliceD, HT.sIx_nat, HT.sIx_none, List.drop_zero, Nat.sub_zero]
  congr 2
  by_cases q : n ≤ l.length
  · rw [Nat.min_eq_left q]
  · rw [Nat.min_eq_right (by omega), List.take_of_length_le (Nat.le_refl _), List.take_of_length_le (by omega)]
theorem slice_from {e f : ME} {σ : Fr} {S S1 S2 : Os} {l : List D} {i : Int} (n : Nat) (h : e σ S = .ok (.tup l) S1) (k : f σ S1 = .ok (.int i) S2) (hn : i = (n : Nat)) : mSlice e (mPart f) mNoPart σ S = .ok (.tup (l.drop n)) S2 := by
  subst hn
  simp only [mSlice, h, Res.bind_ok, mNoPart, mPart_e k, sliceD, HT.sIx_nat, HT.sIx_none]
  congr 2
  by_cases q : n ≤ l.length
  · rw [Nat.min_eq_left q]
    exact List.take_of_length_le (by simp)
  · rw [Nat.min_eq_right (by omega), List.drop_of_length_le (Nat.le_refl _), List.drop_of_length_le (by omega)]
    simp
theorem slice_mid {e f g : ME} {σ : Fr} {S S1 S2 S3 : Os} {l : List D} {i j : Int} (n m : Nat) (h : e σ S = .ok (.tup l) S1) (k : f σ S1 = .ok (.int i) S2) (k2 : g σ S2 = .ok (.int j) S3) (hn : i = (n : Nat)) (hm : j = (m : Nat)) (hnl : n ≤ l.length) (hml : m ≤ l.length) : mSlice e (mPart f) (mPart g) σ S = .ok (.tup ((l.drop n).take (m - n))) S3 := by
  subst hn hm
  simp only [mSlice, h, Res.bind_ok, mPart_e k, mPart_e k2, sliceD, HT.sIx_nat]
  rw [Nat.min_eq_left hnl, Nat.min_eq_left hml]
theorem slice_but {e f : ME} {σ : Fr} {S S1 S2 : Os} {l : List D} (h : e σ S = .ok (.tup l) S1) (k : f σ S1 = .ok (.int (-1)) S2) : mSlice e mNoPart (mPart f) σ S = .ok (.tup (l.take (l.length - 1))) S2 := by
  simp only [mSlice, h, Res.bind_ok, mNoPart, mPart_e k, sliceD, HT.sIx_none, List.drop_zero, Nat.sub_zero]
  have e : HT.sIx l.length l.length (some (-1)) = l.length - 1 := by
    simp [HT.sIx]
    omega
  rw [e]
theorem slice_toS {e f : ME} {σ : Fr} {S S1 S2 : Os} {w : List Nat} {i : Int} (n : Nat) (h : e σ S = .ok (wd w) S1) (k : f σ S1 = .ok (.int i) S2) (hn : i = (n : Nat)) (hw : w.length ≤ 16777216) : mSlice e mNoPart (mPart f) σ S = .ok (wd (w.take n)) S2 := by
  have c := cut_to w i n hn
  simp only [mSlice, h, wd, Res.bind_ok, mNoPart, mPart_e k, sliceD, toS_len, c]
  rw [if_pos (by rw [sizeLine_num]; exact hw)]
theorem slice_fromS {e f : ME} {σ : Fr} {S S1 S2 : Os} {w : List Nat} {i : Int} (n : Nat) (h : e σ S = .ok (wd w) S1) (k : f σ S1 = .ok (.int i) S2) (hn : i = (n : Nat)) (hw : w.length ≤ 16777216) : mSlice e (mPart f) mNoPart σ S = .ok (wd (w.drop n)) S2 := by
  have c := cut_from w i n hn
  simp only [mSlice, h, wd, Res.bind_ok, mNoPart, mPart_e k, sliceD, toS_len, c]
  rw [if_pos (by rw [sizeLine_num]; exact hw)]
theorem tup1_e {a : ME} {σ : Fr} {S S1 : Os} {x : D} (h : a σ S = .ok x S1) : mTup (mCons a mNil) σ S = .ok (.tup [x]) S1 := by
  simp [mTup, h, sizeLine_num]
theorem addT_e {a b : ME} {σ : Fr} {S S1 S2 : Os} {l m : List D} (h : a σ S = .ok (.tup l) S1) (k : b σ S1 = .ok (.tup m) S2) (hl : l.length + m.length ≤ 16777216) : mBin addT a b σ S = .ok (.tup (l ++ m)) S2 :=
  (mBin_e h k).trans (addT_tup l m S2 hl)
theorem addS_e {a b : ME} {σ : Fr} {S S1 S2 : Os} {l m : List Nat} (h : a σ S = .ok (wd l) S1) (k : b σ S1 = .ok (wd m) S2) (hl : l.length + m.length ≤ 16777216) : mBin addT a b σ S = .ok (wd (l ++ m)) S2 :=
  (mBin_e h k).trans (addT_str l m S2 hl)
theorem ix_tup {l : List D} {i : Int} {n : Nat} {d : D} {S : Os} (hn : i = (n : Nat)) (h : l[n]? = some d) : ixD (.tup l) (.int i) S = .ok d S := by
  simp only [ixD, itemsD, atI_some (l := l) (i := i) n hn h]
theorem ix_str {w : List Nat} {i : Int} {n : Nat} {c : Nat} {S : Os} (hn : i = (n : Nat)) (h : w[n]? = some c) (hw : w.length ≤ 16777216) : ixD (.str (toS w)) (.int i) S = .ok (.str (toS [c])) S := by
  simp only [ixD, toS_len, toS_cps, atI_some (l := w) (i := i) n hn h]
  rw [if_pos (by rw [sizeLine_num]; exact hw)]
  rfl
end MX

end
section
namespace B_k01_letters_words_and_looks
open PySem PySem.Spec PyProof.Rows L2 MX
instance erI : MX.ER := ⟨["BadValue"], ["BadValue", "NotPossible", "SeenError", "TextError", "TooLarge"], ["name", "what", "why"]⟩
def erL : List (Str × Str) := [("BadValue", "name")]
theorem er_BadValue : (("BadValue", "name") : Str × Str) ∈ erL := List.mem_cons_self
def top (i : Nat) : Stmt := PySem.Challenge.pw_backseen_k01_letters_words_and_looks.main.body.getD i (.Pass ⟨0, 0, 0, 0⟩)
abbrev s_is_over : Stmt := top 12
abbrev N_is_over : List Str := ["alphabet", "value"]
noncomputable def c_b_is_over (F : Nat) : MS :=
    (mRet (mAndV (mBin eqA (mCB typeD (mCons (mVar 1) mNil)) (mC (.ty "str"))) (mSub0 (mVar 1) (mVar 0))))
noncomputable def f_is_over (F : Nat) : Fn := fnD 2 (c_b_is_over F)
abbrev s_is_integer_within : Stmt := top 13
abbrev N_is_integer_within : List Str := ["value", "low", "high"]
noncomputable def c_b_is_integer_within (F : Nat) : MS :=
    (mRet (mAndV (mBin eqA (mCB typeD (mCons (mVar 0) mNil)) (mC (.ty "int"))) (mChain leD leD (mVar 1) (mVar 0) (mVar 2))))
noncomputable def f_is_integer_within (F : Nat) : Fn := fnD 3 (c_b_is_integer_within F)
abbrev s_is_tuple_of : Stmt := top 14
abbrev N_is_tuple_of : List Str := ["value", "low", "high"]
noncomputable def c_b_is_tuple_of (F : Nat) : MS :=
    (mRet (mAndV (mBin eqA (mCB typeD (mCons (mVar 0) mNil)) (mC (.ty "tuple"))) (mChain leD leD (mVar 1) (mCB lenD (mCons (mVar 0) mNil)) (mVar 2))))
noncomputable def f_is_tuple_of (F : Nat) : Fn := fnD 3 (c_b_is_tuple_of F)
abbrev s_word_place : Stmt := top 15
abbrev N_word_place : List Str := ["word"]
noncomputable def c_b_word_place (F : Nat) : MS :=
    (mRet (mTup (mCons (mCB lenD (mCons (mVar 0) mNil)) (mCons (mVar 0) mNil))))
noncomputable def f_word_place (F : Nat) : Fn := fnD 1 (c_b_word_place F)
abbrev s_is_ascending : Stmt := top 16
abbrev N_is_ascending : List Str := ["words", "at"]
noncomputable def C1_is_ascending (F : Nat) : ME :=
    (mLcR1 (mBin subD (mCB lenD (mCons (mVar 0) mNil)) (mC (.int 1))) (gN 1) [1] mYes (mBin ltW (mCall (f_word_place F) (mCons (mBin ixD (mVar 0) (mVar 1)) mNil)) (mCall (f_word_place F) (mCons (mBin ixD (mVar 0) (mBin addD (mVar 1) (mC (.int 1)))) mNil))))
noncomputable def c_b_is_ascending (F : Nat) : MS :=
    (mRet (mCB allD (mCons (C1_is_ascending F) mNil)))
noncomputable def f_is_ascending (F : Nat) : Fn := fnD 2 (c_b_is_ascending F)
abbrev s_is_letters : Stmt := top 17
abbrev N_is_letters : List Str := ["value", "at"]
noncomputable def C1_is_letters (F : Nat) : ME :=
    (mLcR1 (mBin subD (mCB lenD (mCons (mVar 0) mNil)) (mC (.int 1))) (gN 1) [1] mYes (mBin ltD (mBin ixD (mVar 0) (mVar 1)) (mBin ixD (mVar 0) (mBin addD (mVar 1) (mC (.int 1))))))
noncomputable def c_b_is_letters (F : Nat) : MS :=
    (mSeq (mIf (mOr (mTest (mBin neT (mCB typeD (mCons (mVar 0) mNil)) (mC (.ty "str")))) (mNot (mTest (mChain leD leD (mC (.int 1)) (mCB lenD (mCons (mVar 0) mNil)) (mC (.int 4)))))) (mRet (mC (.bl false))) mNext)
      (mRet (mAndV (mCall (f_is_over F) (mCons (mC (.str "abcdefghijklmnopqrstuvwxyz")) (mCons (mVar 0) mNil))) (mCB allD (mCons (C1_is_letters F) mNil)))))
noncomputable def f_is_letters (F : Nat) : Fn := fnD 2 (c_b_is_letters F)
abbrev s_need_letters : Stmt := top 21
abbrev N_need_letters : List Str := ["letters"]
noncomputable def c_b_need_letters (F : Nat) : MS :=
    (mIf (mNot (mTest (mCall (f_is_letters F) (mCons (mVar 0) mNil)))) (mRaise "BadValue" "name" (mC (.str "letters"))) mNext)
noncomputable def f_need_letters (F : Nat) : Fn := fnD 1 (c_b_need_letters F)
abbrev s_is_word : Stmt := top 18
abbrev N_is_word : List Str := ["letters", "value"]
noncomputable def c_b_is_word (F : Nat) : MS :=
    (mSeq (mExpr (mCall (f_need_letters F) (mCons (mVar 0) mNil)))
      (mRet (mCall (f_is_over F) (mCons (mVar 0) (mCons (mVar 1) mNil)))))
noncomputable def f_is_word (F : Nat) : Fn := fnD 2 (c_b_is_word F)
abbrev s_is_look : Stmt := top 19
abbrev N_is_look : List Str := ["value"]
noncomputable def c_b_is_look (F : Nat) : MS :=
    (mRet (mCall (f_is_integer_within F) (mCons (mVar 0) (mCons (mC (.int 0)) (mCons (mC (.int 12)) mNil)))))
noncomputable def f_is_look (F : Nat) : Fn := fnD 1 (c_b_is_look F)
abbrev s_is_sample : Stmt := top 20
abbrev N_is_sample : List Str := ["letters", "value", "word"]
noncomputable def G1_is_sample (F : Nat) : ME :=
    (mGenT true (mVar 1) (gN 2) [2] (mBin eqA (mCB typeD (mCons (mVar 2) mNil)) (mC (.ty "str"))))
noncomputable def G2_is_sample (F : Nat) : ME :=
    (mSumT (mVar 1) (gN 2) [2] (mCB lenD (mCons (mVar 2) mNil)))
noncomputable def G3_is_sample (F : Nat) : ME :=
    (mGenT true (mVar 1) (gN 2) [2] (mCall (f_is_over F) (mCons (mVar 0) (mCons (mVar 2) mNil))))
noncomputable def s5_is_sample (F : Nat) : MS :=
    (mRet (mAndV (G3_is_sample F) (mCall (f_is_ascending F) (mCons (mVar 1) mNil))))
noncomputable def s4_is_sample (F : Nat) : MS :=
    (mIf (mTest (mBin gtD (G2_is_sample F) (mC (.int 2000)))) (mRet (mC (.bl false))) mNext)
noncomputable def t4_is_sample (F : Nat) : MS :=
    (mSeq (s4_is_sample F) (s5_is_sample F))
noncomputable def s3_is_sample (F : Nat) : MS :=
    (mIf (mNot (mTest (G1_is_sample F))) (mRet (mC (.bl false))) mNext)
noncomputable def t3_is_sample (F : Nat) : MS :=
    (mSeq (s3_is_sample F) (t4_is_sample F))
noncomputable def s2_is_sample (F : Nat) : MS :=
    (mIf (mNot (mTest (mCall (f_is_tuple_of F) (mCons (mVar 1) (mCons (mC (.int 0)) (mCons (mC (.int 200)) mNil)))))) (mRet (mC (.bl false))) mNext)
noncomputable def t2_is_sample (F : Nat) : MS :=
    (mSeq (s2_is_sample F) (t3_is_sample F))
noncomputable def s1_is_sample (F : Nat) : MS :=
    (mExpr (mCall (f_need_letters F) (mCons (mVar 0) mNil)))
noncomputable def c_b_is_sample (F : Nat) : MS :=
    (mSeq (s1_is_sample F) (t2_is_sample F))
noncomputable def f_is_sample (F : Nat) : Fn := fnD 3 (c_b_is_sample F)
abbrev s_law_stream : Stmt := top 23
abbrev N_law_stream : List Str := ["script"]
noncomputable def c_b_law_stream (F : Nat) : MS :=
    (mRet (mLst (mCons (mCB listD (mCons (mVar 0) mNil)) (mCons (mC (.int 0)) (mCons (mC (.int 0)) mNil)))))
noncomputable def f_law_stream (F : Nat) : Fn := fnD 1 (c_b_law_stream F)
abbrev s_law_next : Stmt := top 24
abbrev N_law_next : List Str := ["stream", "many", "digit", "k", "cell"]
noncomputable def c_b_law_next (F : Nat) : MS :=
    (mSeq (mIf (mTest (mBin eqA (mBin ixD (mVar 0) (mC (.int 1))) (mC (.int 0)))) (mSeq (mSet 3 (mBin ixD (mVar 0) (mC (.int 2))))
      (mSeq (mSet 4 (mBin addD (mC (.int 7)) (mVar 3)))
      (mSeq (mIf (mTest (mBin ltD (mVar 3) (mCB lenD (mCons (mBin ixD (mVar 0) (mC (.int 0))) mNil)))) (mSet 4 (mCB absD (mCons (mBin ixD (mBin ixD (mVar 0) (mC (.int 0))) (mVar 3)) mNil))) mNext)
      (mSeq (mIf (mTest (mBin ltD (mVar 4) (mBin powD (mC (.int 10)) (mC (.int 18))))) (mSeq (mSet 4 (mBin modD (mCB intCD (mCons (mBin addD (mBin addD (mBin mulA (mVar 4) (mC (.int 48271))) (mBin mulA (mVar 3) (mC (.int 69621)))) (mC (.int 11))) mNil)) (mC (.int 2147483647))))
      (mSet 4 (mBin addD (mBin mulA (mBin modD (mCB intCD (mCons (mBin addD (mBin mulA (mVar 4) (mC (.int 16807))) (mC (.int 13))) mNil)) (mC (.int 2147483647))) (mC (.int 65537))) (mVar 4)))) mNext)
      (mSeq (mSetIt (mVar 4) (mVar 0) (mC (.int 1)))
      (mSetIt (mBin addD (mVar 3) (mC (.int 1))) (mVar 0) (mC (.int 2)))))))) mNext)
      (mSeq (mSet 2 (mBin modD (mCB intCD (mCons (mBin ixD (mVar 0) (mC (.int 1))) mNil)) (mVar 1)))
      (mSeq (mSetIt (mBin fdivD (mBin ixD (mVar 0) (mC (.int 1))) (mVar 1)) (mVar 0) (mC (.int 1)))
      (mRet (mVar 2)))))
noncomputable def f_law_next (F : Nat) : Fn := fnD 5 (c_b_law_next F)
abbrev s_law_pick : Stmt := top 25
abbrev N_law_pick : List Str := ["stream", "rows"]
noncomputable def c_b_law_pick (F : Nat) : MS :=
    (mRet (mBin ixD (mVar 1) (mCall (f_law_next F) (mCons (mVar 0) (mCons (mCB lenD (mCons (mVar 1) mNil)) mNil)))))
noncomputable def f_law_pick (F : Nat) : Fn := fnD 2 (c_b_law_pick F)
abbrev s_law_letters : Stmt := top 26
abbrev N_law_letters : List Str := ["stream", "found", "turn", "letter"]
noncomputable def C1_law_letters (F : Nat) : ME :=
    (mLcS (mC (.str "abcdefghijklmnopqrstuvwxyz")) (gN 3) [3] (mTest (mBin (inA true) (mVar 3) (mVar 1))) (mVar 3))
noncomputable def B1_law_letters (F : Nat) : MS :=
    (mExpr (mMeth appendD (mVar 1) (mCons (mCall (f_law_pick F) (mCons (mVar 0) (mCons (C1_law_letters F) mNil))) mNil)))
noncomputable def c_b_law_letters (F : Nat) : MS :=
    (mSeq (mSet 1 (mLst mNil))
      (mSeq (mForR1 (mBin addD (mC (.int 1)) (mCall (f_law_next F) (mCons (mVar 0) (mCons (mC (.int 4)) mNil)))) (gN 2) (B1_law_letters F))
      (mRet (mMethS joinD (mC (.str "")) (mCons (mCB sortedT (mCons (mVar 1) mNil)) mNil)))))
noncomputable def f_law_letters (F : Nat) : Fn := fnD 4 (c_b_law_letters F)
abbrev s_law_word : Stmt := top 27
abbrev N_law_word : List Str := ["stream", "letters", "least", "most", "word", "turn"]
noncomputable def B1_law_word (F : Nat) : MS :=
    (mSet 4 (mBin addD (mVar 4) (mBin ixD (mVar 1) (mCall (f_law_next F) (mCons (mVar 0) (mCons (mCB lenD (mCons (mVar 1) mNil)) mNil))))))
noncomputable def c_b_law_word (F : Nat) : MS :=
    (mSeq (mSet 4 (mC (.str "")))
      (mSeq (mForR1 (mBin addD (mVar 2) (mCall (f_law_next F) (mCons (mVar 0) (mCons (mBin addD (mBin subD (mVar 3) (mVar 2)) (mC (.int 1))) mNil)))) (gN 5) (B1_law_word F))
      (mRet (mVar 4))))
noncomputable def f_law_word (F : Nat) : Fn := fnD 6 (c_b_law_word F)
abbrev s_law_says : Stmt := top 28
abbrev N_law_says : List Str := ["actual", "due"]
noncomputable def c_b_law_says (F : Nat) : MS :=
    (mRet (mIfE (mTest (mVar 1)) (mBin (isD false) (mVar 0) (mC (.bl true))) (mBin (isD false) (mVar 0) (mC (.bl false)))))
noncomputable def f_law_says (F : Nat) : Fn := fnD 2 (c_b_law_says F)
abbrev s_law_stranger : Stmt := top 30
abbrev N_law_stranger : List Str := ["stream", "letter", "kind"]
noncomputable def s13_law_stranger (F : Nat) : MS :=
    (mRet (mBin addD (mBin powD (mC (.int 10)) (mC (.int 30))) (mCall (f_law_next F) (mCons (mVar 0) (mCons (mC (.int 1000)) mNil)))))
noncomputable def s12_law_stranger (F : Nat) : MS :=
    (mIf (mTest (mBin eqA (mVar 2) (mC (.int 10)))) (mRet (mC (.bl false))) mNext)
noncomputable def t12_law_stranger (F : Nat) : MS :=
    (mSeq (s12_law_stranger F) (s13_law_stranger F))
noncomputable def s11_law_stranger (F : Nat) : MS :=
    (mIf (mTest (mBin eqA (mVar 2) (mC (.int 9)))) (mRet (mTup (mCons (mTup (mCons (mVar 1) (mCons (mTup (mCons (mVar 1) mNil)) mNil))) (mCons (mLst (mCons (mVar 1) mNil)) mNil)))) mNext)
noncomputable def t11_law_stranger (F : Nat) : MS :=
    (mSeq (s11_law_stranger F) (t12_law_stranger F))
noncomputable def s10_law_stranger (F : Nat) : MS :=
    (mIf (mTest (mBin eqA (mVar 2) (mC (.int 8)))) (mRet (mCall (f_law_pick F) (mCons (mVar 0) (mCons (mLst (mCons (mC (.str "{")) (mCons (mC (.str "0")) (mCons (mC (.str " ")) (mCons (mC (.str "A")) (mCons (mC (.str "Z")) (mCons (mC (.str "_")) (mCons (mC (.str "-")) (mCons (mC (.str "\n")) mNil))))))))) mNil)))) mNext)
noncomputable def t10_law_stranger (F : Nat) : MS :=
    (mSeq (s10_law_stranger F) (t11_law_stranger F))
noncomputable def s9_law_stranger (F : Nat) : MS :=
    (mIf (mTest (mBin eqA (mVar 2) (mC (.int 7)))) (mRet (mMethS supperD (mVar 1) mNil)) mNext)
noncomputable def t9_law_stranger (F : Nat) : MS :=
    (mSeq (s9_law_stranger F) (t10_law_stranger F))
noncomputable def s8_law_stranger (F : Nat) : MS :=
    (mIf (mTest (mBin eqA (mVar 2) (mC (.int 6)))) (mRet (mTup (mCons (mTup mNil) (mCons (mVar 1) mNil)))) mNext)
noncomputable def t8_law_stranger (F : Nat) : MS :=
    (mSeq (s8_law_stranger F) (t9_law_stranger F))
noncomputable def s7_law_stranger (F : Nat) : MS :=
    (mIf (mTest (mBin eqA (mVar 2) (mC (.int 5)))) (mRet (mTup mNil)) mNext)
noncomputable def t7_law_stranger (F : Nat) : MS :=
    (mSeq (s7_law_stranger F) (t8_law_stranger F))
noncomputable def s6_law_stranger (F : Nat) : MS :=
    (mIf (mTest (mBin eqA (mVar 2) (mC (.int 4)))) (mRet (mLst (mCons (mVar 1) mNil))) mNext)
noncomputable def t6_law_stranger (F : Nat) : MS :=
    (mSeq (s6_law_stranger F) (t7_law_stranger F))
noncomputable def s5_law_stranger (F : Nat) : MS :=
    (mIf (mTest (mBin eqA (mVar 2) (mC (.int 3)))) (mRet (mTup (mCons (mVar 1) mNil))) mNext)
noncomputable def t5_law_stranger (F : Nat) : MS :=
    (mSeq (s5_law_stranger F) (t6_law_stranger F))
noncomputable def s4_law_stranger (F : Nat) : MS :=
    (mIf (mTest (mBin eqA (mVar 2) (mC (.int 2)))) (mRet (mBin subD (mCall (f_law_next F) (mCons (mVar 0) (mCons (mC (.int 30)) mNil))) (mC (.int 9)))) mNext)
noncomputable def t4_law_stranger (F : Nat) : MS :=
    (mSeq (s4_law_stranger F) (t5_law_stranger F))
noncomputable def s3_law_stranger (F : Nat) : MS :=
    (mIf (mTest (mBin eqA (mVar 2) (mC (.int 1)))) (mRet (mC (.bl true))) mNext)
noncomputable def t3_law_stranger (F : Nat) : MS :=
    (mSeq (s3_law_stranger F) (t4_law_stranger F))
noncomputable def s2_law_stranger (F : Nat) : MS :=
    (mIf (mTest (mBin eqA (mVar 2) (mC (.int 0)))) (mRet (mC .non)) mNext)
noncomputable def t2_law_stranger (F : Nat) : MS :=
    (mSeq (s2_law_stranger F) (t3_law_stranger F))
noncomputable def s1_law_stranger (F : Nat) : MS :=
    (mSet 2 (mCall (f_law_next F) (mCons (mVar 0) (mCons (mC (.int 12)) mNil))))
noncomputable def c_b_law_stranger (F : Nat) : MS :=
    (mSeq (s1_law_stranger F) (t2_law_stranger F))
noncomputable def f_law_stranger (F : Nat) : Fn := fnD 3 (c_b_law_stranger F)
abbrev s_law_are_letters : Stmt := top 31
abbrev N_law_are_letters : List Str := ["value", "at"]
noncomputable def B1_law_are_letters (F : Nat) : MS :=
    (mSeq (mIf (mTest (mBin (inA true) (mBin ixD (mVar 0) (mVar 1)) (mC (.str "abcdefghijklmnopqrstuvwxyz")))) (mRet (mC (.bl false))) mNext)
      (mIf (mAnd (mTest (mBin gtD (mVar 1) (mC (.int 0)))) (mTest (mBin geD (mMethS sindexD (mC (.str "abcdefghijklmnopqrstuvwxyz")) (mCons (mBin ixD (mVar 0) (mBin subD (mVar 1) (mC (.int 1)))) mNil)) (mMethS sindexD (mC (.str "abcdefghijklmnopqrstuvwxyz")) (mCons (mBin ixD (mVar 0) (mVar 1)) mNil))))) (mRet (mC (.bl false))) mNext))
noncomputable def s3_law_are_letters (F : Nat) : MS :=
    (mRet (mC (.bl true)))
noncomputable def s2_law_are_letters (F : Nat) : MS :=
    (mForR1 (mCB lenD (mCons (mVar 0) mNil)) (gN 1) (B1_law_are_letters F))
noncomputable def t2_law_are_letters (F : Nat) : MS :=
    (mSeq (s2_law_are_letters F) (s3_law_are_letters F))
noncomputable def s1_law_are_letters (F : Nat) : MS :=
    (mIf (mOr (mNot (mTest (mCB isiD (mCons (mVar 0) (mCons (mC (.ty "str")) mNil))))) (mOr (mTest (mBin eqA (mCB lenD (mCons (mVar 0) mNil)) (mC (.int 0)))) (mTest (mBin gtD (mCB lenD (mCons (mVar 0) mNil)) (mC (.int 4)))))) (mRet (mC (.bl false))) mNext)
noncomputable def c_b_law_are_letters (F : Nat) : MS :=
    (mSeq (s1_law_are_letters F) (t2_law_are_letters F))
noncomputable def f_law_are_letters (F : Nat) : Fn := fnD 2 (c_b_law_are_letters F)
abbrev s_law_near_letters : Stmt := top 32
abbrev N_law_near_letters : List Str := ["stream", "letters", "kind", "at", "changed", "letter"]
noncomputable def C1_law_near_letters (F : Nat) : ME :=
    (mLcS (mC (.str "aceghjlnpqrtvxz")) (gN 5) [5] mYes (mVar 5))
noncomputable def C2_law_near_letters (F : Nat) : ME :=
    (mLcS (mVar 1) (gN 5) [5] mYes (mVar 5))
noncomputable def s11_law_near_letters (F : Nat) : MS :=
    (mRet (mTupOf (C2_law_near_letters F)))
noncomputable def s10_law_near_letters (F : Nat) : MS :=
    (mIf (mTest (mBin eqA (mVar 2) (mC (.int 8)))) (mRet (mSlice (mVar 1) mNoPart (mPart (mVar 3)))) mNext)
noncomputable def t10_law_near_letters (F : Nat) : MS :=
    (mSeq (s10_law_near_letters F) (s11_law_near_letters F))
noncomputable def s9_law_near_letters (F : Nat) : MS :=
    (mIf (mTest (mBin eqA (mVar 2) (mC (.int 7)))) (mSeq (mSet 4 (mCall (f_law_stranger F) (mCons (mVar 0) (mCons (mBin ixD (mVar 1) (mVar 3)) mNil))))
      (mRet (mIfE (mTest (mCB isiD (mCons (mVar 4) (mCons (mC (.ty "str")) mNil)))) (mBin addT (mBin addT (mSlice (mVar 1) mNoPart (mPart (mVar 3))) (mVar 4)) (mSlice (mVar 1) (mPart (mBin addD (mVar 3) (mC (.int 1)))) mNoPart)) (mVar 4)))) mNext)
noncomputable def t9_law_near_letters (F : Nat) : MS :=
    (mSeq (s9_law_near_letters F) (t10_law_near_letters F))
noncomputable def s8_law_near_letters (F : Nat) : MS :=
    (mIf (mTest (mBin eqA (mVar 2) (mC (.int 6)))) (mRet (mMethS joinD (mC (.str "")) (mCons (mCB sortedT (mCons (mSlice (mSlice (C1_law_near_letters F) (mPart (mCall (f_law_next F) (mCons (mVar 0) (mCons (mC (.int 10)) mNil)))) mNoPart) mNoPart (mPart (mC (.int 5)))) mNil)) mNil))) mNext)
noncomputable def t8_law_near_letters (F : Nat) : MS :=
    (mSeq (s8_law_near_letters F) (t9_law_near_letters F))
noncomputable def s7_law_near_letters (F : Nat) : MS :=
    (mIf (mTest (mBin eqA (mVar 2) (mC (.int 5)))) (mRet (mBin addT (mSlice (mVar 1) (mPart (mBin addD (mVar 3) (mC (.int 1)))) mNoPart) (mSlice (mVar 1) mNoPart (mPart (mBin addD (mVar 3) (mC (.int 1))))))) mNext)
noncomputable def t7_law_near_letters (F : Nat) : MS :=
    (mSeq (s7_law_near_letters F) (t8_law_near_letters F))
noncomputable def s6_law_near_letters (F : Nat) : MS :=
    (mIf (mTest (mBin eqA (mVar 2) (mC (.int 4)))) (mRet (mRevS (mVar 1))) mNext)
noncomputable def t6_law_near_letters (F : Nat) : MS :=
    (mSeq (s6_law_near_letters F) (t7_law_near_letters F))
noncomputable def s5_law_near_letters (F : Nat) : MS :=
    (mIf (mTest (mBin eqA (mVar 2) (mC (.int 3)))) (mRet (mBin addT (mBin addT (mSlice (mVar 1) mNoPart (mPart (mVar 3))) (mBin ixD (mVar 1) (mVar 3))) (mSlice (mVar 1) (mPart (mVar 3)) mNoPart))) mNext)
noncomputable def t5_law_near_letters (F : Nat) : MS :=
    (mSeq (s5_law_near_letters F) (t6_law_near_letters F))
noncomputable def s4_law_near_letters (F : Nat) : MS :=
    (mIf (mTest (mBin ltD (mVar 2) (mC (.int 3)))) (mRet (mVar 1)) mNext)
noncomputable def t4_law_near_letters (F : Nat) : MS :=
    (mSeq (s4_law_near_letters F) (t5_law_near_letters F))
noncomputable def s3_law_near_letters (F : Nat) : MS :=
    (mSet 3 (mCall (f_law_next F) (mCons (mVar 0) (mCons (mCB lenD (mCons (mVar 1) mNil)) mNil))))
noncomputable def t3_law_near_letters (F : Nat) : MS :=
    (mSeq (s3_law_near_letters F) (t4_law_near_letters F))
noncomputable def s2_law_near_letters (F : Nat) : MS :=
    (mSet 2 (mCall (f_law_next F) (mCons (mVar 0) (mCons (mC (.int 10)) mNil))))
noncomputable def t2_law_near_letters (F : Nat) : MS :=
    (mSeq (s2_law_near_letters F) (t3_law_near_letters F))
noncomputable def s1_law_near_letters (F : Nat) : MS :=
    (mSet 1 (mCall (f_law_letters F) (mCons (mVar 0) mNil)))
noncomputable def c_b_law_near_letters (F : Nat) : MS :=
    (mSeq (s1_law_near_letters F) (t2_law_near_letters F))
noncomputable def f_law_near_letters (F : Nat) : Fn := fnD 6 (c_b_law_near_letters F)
abbrev s_law_near_word : Stmt := top 33
abbrev N_law_near_word : List Str := ["stream", "letters", "word", "kind", "at", "changed", "others", "letter"]
noncomputable def C1_law_near_word (F : Nat) : ME :=
    (mLcS (mC (.str "abcdefghijklmnopqrstuvwxyz")) (gN 7) [7] (mTest (mBin (inA true) (mVar 7) (mVar 1))) (mVar 7))
noncomputable def C2_law_near_word (F : Nat) : ME :=
    (mLcS (mVar 2) (gN 7) [7] mYes (mVar 7))
noncomputable def s9_law_near_word (F : Nat) : MS :=
    (mRet (mIfE (mTest (mCB isiD (mCons (mVar 5) (mCons (mC (.ty "str")) mNil)))) (mBin addT (mBin addT (mSlice (mVar 2) mNoPart (mPart (mVar 4))) (mVar 5)) (mSlice (mVar 2) (mPart (mBin addD (mVar 4) (mC (.int 1)))) mNoPart)) (mVar 5)))
noncomputable def s8_law_near_word (F : Nat) : MS :=
    (mSet 5 (mCall (f_law_stranger F) (mCons (mVar 0) (mCons (mBin ixD (mVar 2) (mVar 4)) mNil))))
noncomputable def t8_law_near_word (F : Nat) : MS :=
    (mSeq (s8_law_near_word F) (s9_law_near_word F))
noncomputable def s7_law_near_word (F : Nat) : MS :=
    (mIf (mTest (mBin eqA (mVar 3) (mC (.int 3)))) (mRet (mTupOf (C2_law_near_word F))) mNext)
noncomputable def t7_law_near_word (F : Nat) : MS :=
    (mSeq (s7_law_near_word F) (t8_law_near_word F))
noncomputable def s6_law_near_word (F : Nat) : MS :=
    (mIf (mTest (mBin eqA (mVar 3) (mC (.int 2)))) (mSeq (mSet 6 (C1_law_near_word F))
      (mRet (mBin addT (mBin addT (mSlice (mVar 2) mNoPart (mPart (mVar 4))) (mBin ixD (mVar 6) (mCall (f_law_next F) (mCons (mVar 0) (mCons (mCB lenD (mCons (mVar 6) mNil)) mNil))))) (mSlice (mVar 2) (mPart (mBin addD (mVar 4) (mC (.int 1)))) mNoPart)))) mNext)
noncomputable def t6_law_near_word (F : Nat) : MS :=
    (mSeq (s6_law_near_word F) (t7_law_near_word F))
noncomputable def s5_law_near_word (F : Nat) : MS :=
    (mSet 4 (mCall (f_law_next F) (mCons (mVar 0) (mCons (mCB lenD (mCons (mVar 2) mNil)) mNil))))
noncomputable def t5_law_near_word (F : Nat) : MS :=
    (mSeq (s5_law_near_word F) (t6_law_near_word F))
noncomputable def s4_law_near_word (F : Nat) : MS :=
    (mIf (mOr (mTest (mBin ltD (mVar 3) (mC (.int 2)))) (mTest (mBin eqA (mCB lenD (mCons (mVar 2) mNil)) (mC (.int 0))))) (mRet (mVar 2)) mNext)
noncomputable def t4_law_near_word (F : Nat) : MS :=
    (mSeq (s4_law_near_word F) (t5_law_near_word F))
noncomputable def s3_law_near_word (F : Nat) : MS :=
    (mSet 3 (mCall (f_law_next F) (mCons (mVar 0) (mCons (mC (.int 6)) mNil))))
noncomputable def t3_law_near_word (F : Nat) : MS :=
    (mSeq (s3_law_near_word F) (t4_law_near_word F))
noncomputable def s2_law_near_word (F : Nat) : MS :=
    (mIf (mTest (mBin eqA (mCall (f_law_next F) (mCons (mVar 0) (mCons (mC (.int 12)) mNil))) (mC (.int 0)))) (mSet 2 (mBin mulA (mBin addD (mVar 2) (mBin ixD (mVar 1) (mC (.int 0)))) (mBin addD (mC (.int 1)) (mCall (f_law_next F) (mCons (mVar 0) (mCons (mBin fdivD (mC (.int 3000)) (mBin addD (mCB lenD (mCons (mVar 2) mNil)) (mC (.int 1)))) mNil)))))) mNext)
noncomputable def t2_law_near_word (F : Nat) : MS :=
    (mSeq (s2_law_near_word F) (t3_law_near_word F))
noncomputable def s1_law_near_word (F : Nat) : MS :=
    (mSet 2 (mCall (f_law_word F) (mCons (mVar 0) (mCons (mVar 1) (mCons (mC (.int 0)) (mCons (mIfE (mTest (mBin gtD (mCall (f_law_next F) (mCons (mVar 0) (mCons (mC (.int 4)) mNil))) (mC (.int 0)))) (mC (.int 12)) (mC (.int 60))) mNil))))))
noncomputable def c_b_law_near_word (F : Nat) : MS :=
    (mSeq (s1_law_near_word F) (t2_law_near_word F))
noncomputable def f_law_near_word (F : Nat) : Fn := fnD 8 (c_b_law_near_word F)
abbrev s_law_over : Stmt := top 34
abbrev N_law_over : List Str := ["letters", "value", "sign"]
noncomputable def C1_law_over (F : Nat) : ME :=
    (mLcS (mVar 1) (gN 2) [2] (mTest (mBin (inA true) (mVar 2) (mVar 0))) (mVar 2))
noncomputable def c_b_law_over (F : Nat) : MS :=
    (mRet (mAndV (mCB isiD (mCons (mVar 1) (mCons (mC (.ty "str")) mNil))) (mBin eqA (mCB lenD (mCons (C1_law_over F) mNil)) (mC (.int 0)))))
noncomputable def f_law_over (F : Nat) : Fn := fnD 3 (c_b_law_over F)
abbrev s_law_refused : Stmt := top 35
abbrev N_law_refused : List Str := ["letters", "value", "turn", "error"]
abbrev s_law_one_class : Stmt := top 29
abbrev N_law_one_class : List Str := ["error", "wanted", "found", "k"]
noncomputable def hC1_law_one_class (F : Nat) (a dd : Addr) (c0 : Str) : ME :=
    (mLcR1 (mC (.int 4)) (gN 3) [3] mYes (mBin eqA (mVar 1) (mVar 3)))
noncomputable def ch_law_one_class (F : Nat) (a dd : Addr) (c0 : Str) : MS :=
    (mSeq (mSet 2 (mLst (mCons (mIsE a dd (kitT "BadValue" c0) (mVar 0)) (mCons (mIsE a dd (kitT "TooLarge" c0) (mVar 0)) (mCons (mIsE a dd (kitT "NotPossible" c0) (mVar 0)) (mCons (mIsE a dd (kitT "TextError" c0) (mVar 0)) mNil))))))
      (mRet (mAndV (mBin eqQD (mVar 2) (hC1_law_one_class F a dd c0)) (mAndV (mIsE a dd (kitT "SeenError" c0) (mVar 0)) (mIsE a dd (some true) (mVar 0))))))
noncomputable def h_law_one_class (F : Nat) (a dd : Addr) (c0 : Str) : Fn := fnD 4 (ch_law_one_class F a dd c0)
noncomputable def T1_law_refused (F : Nat) : MS :=
    (mIf (mTest (mBin eqA (mVar 2) (mC (.int 0)))) (mExpr (mCall (f_is_word F) (mCons (mVar 0) (mCons (mVar 1) mNil)))) (mExpr (mCall (f_is_sample F) (mCons (mVar 0) (mCons (mVar 1) mNil)))))
noncomputable def X1_law_refused (F : Nat) (a dd : Addr) (c0 : Str) : MS :=
    (mRet (mAndV (mCall (h_law_one_class F a dd c0) (mCons (mVar 3) (mCons (mC (.int 0)) mNil))) (mBin eqA (mXf a dd "name" (mVar 3)) (mC (.str "letters")))))
noncomputable def c_b_law_refused (F : Nat) : MS :=
    (mSeq (mTry (T1_law_refused F) 3 (kitT "SeenError") (fun a dd c0 => mKn c0 (X1_law_refused F a dd c0)))
      (mRet (mC (.bl false))))
noncomputable def f_law_refused (F : Nat) : Fn := fnD 4 (c_b_law_refused F)
abbrev s_law_looks : Stmt := top 36
abbrev N_law_looks : List Str := ["stream", "turn", "value", "due"]
noncomputable def B1_law_looks (F : Nat) : MS :=
    (mSeq (mSet 2 (mBin subD (mCall (f_law_next F) (mCons (mVar 0) (mCons (mC (.int 20)) mNil))) (mC (.int 3))))
      (mSeq (mIf (mTest (mBin eqA (mCall (f_law_next F) (mCons (mVar 0) (mCons (mC (.int 5)) mNil))) (mC (.int 0)))) (mSet 2 (mCall (f_law_stranger F) (mCons (mVar 0) (mCons (mC (.str "3")) mNil)))) mNext)
      (mSeq (mIf (mTest (mBin eqA (mCall (f_law_next F) (mCons (mVar 0) (mCons (mC (.int 9)) mNil))) (mC (.int 0)))) (mSet 2 (mBin subD (mCall (f_law_next F) (mCons (mVar 0) (mCons (mBin powD (mC (.int 10)) (mC (.int 6))) mNil))) (mC (.int 500000)))) mNext)
      (mSeq (mSet 3 (mAndV (mCB isiD (mCons (mVar 2) (mCons (mC (.ty "int")) mNil))) (mAndV (mNotV (mCB isiD (mCons (mVar 2) (mCons (mC (.ty "bool")) mNil)))) (mAndV (mBin geD (mVar 2) (mC (.int 0))) (mBin leD (mVar 2) (mC (.int 12)))))))
      (mIf (mNot (mTest (mCall (f_law_says F) (mCons (mCall (f_is_look F) (mCons (mVar 2) mNil)) (mCons (mVar 3) mNil))))) (mRet (mC (.bl false))) mNext)))))
noncomputable def c_b_law_looks (F : Nat) : MS :=
    (mSeq (mForR1 (mC (.int 6)) (gN 1) (B1_law_looks F))
      (mRet (mAndV (mBin (isD false) (mCall (f_is_look F) (mCons (mC (.int 0)) mNil)) (mC (.bl true))) (mAndV (mBin (isD false) (mCall (f_is_look F) (mCons (mC (.int 12)) mNil)) (mC (.bl true))) (mAndV (mBin (isD false) (mCall (f_is_look F) (mCons (mC (.int 13)) mNil)) (mC (.bl false))) (mBin (isD false) (mCall (f_is_look F) (mCons (mC (.bl false)) mNil)) (mC (.bl false))))))))
noncomputable def f_law_looks (F : Nat) : Fn := fnD 4 (c_b_law_looks F)
abbrev s_law : Stmt := top 37
abbrev N_law : List Str := ["script", "stream", "turn", "value", "due", "word"]
noncomputable def B1_law (F : Nat) : MS :=
    (mSeq (mSet 3 (mCall (f_law_near_letters F) (mCons (mVar 1) mNil)))
      (mSeq (mSet 4 (mCall (f_law_are_letters F) (mCons (mVar 3) mNil)))
      (mSeq (mIf (mNot (mTest (mCall (f_law_says F) (mCons (mCall (f_is_letters F) (mCons (mVar 3) mNil)) (mCons (mVar 4) mNil))))) (mRet (mC (.bl false))) mNext)
      (mSeq (mSet 5 (mCall (f_law_near_word F) (mCons (mVar 1) (mCons (mIfE (mTest (mVar 4)) (mVar 3) (mC (.str "ab"))) mNil))))
      (mSeq (mIf (mAnd (mTest (mVar 4)) (mNot (mAnd (mTest (mCall (f_law_says F) (mCons (mCall (f_is_word F) (mCons (mVar 3) (mCons (mVar 5) mNil))) (mCons (mCall (f_law_over F) (mCons (mVar 3) (mCons (mVar 5) mNil))) mNil)))) (mTest (mBin (isD false) (mCall (f_is_word F) (mCons (mVar 3) (mCons (mC (.str "")) mNil))) (mC (.bl true))))))) (mRet (mC (.bl false))) mNext)
      (mSeq (mIf (mAnd (mTest (mVar 4)) (mNot (mTest (mCall (f_law_says F) (mCons (mCall (f_is_sample F) (mCons (mVar 3) (mCons (mTup (mCons (mVar 5) mNil)) mNil))) (mCons (mAndV (mCall (f_law_over F) (mCons (mVar 3) (mCons (mVar 5) mNil))) (mBin leD (mCB lenD (mCons (mVar 5) mNil)) (mC (.int 2000)))) mNil)))))) (mRet (mC (.bl false))) mNext)
      (mIf (mAnd (mNot (mTest (mVar 4))) (mNot (mTest (mCall (f_law_refused F) (mCons (mVar 3) (mCons (mVar 5) (mCons (mCall (f_law_next F) (mCons (mVar 1) (mCons (mC (.int 2)) mNil))) mNil))))))) (mRet (mC (.bl false))) mNext)))))))
noncomputable def s3_law (F : Nat) : MS :=
    (mRet (mCall (f_law_looks F) (mCons (mVar 1) mNil)))
noncomputable def s2_law (F : Nat) : MS :=
    (mForR1 (mC (.int 4)) (gN 2) (B1_law F))
noncomputable def t2_law (F : Nat) : MS :=
    (mSeq (s2_law F) (s3_law F))
noncomputable def s1_law (F : Nat) : MS :=
    (mSet 1 (mCall (f_law_stream F) (mCons (mVar 0) mNil)))
noncomputable def c_b_law (F : Nat) : MS :=
    (mSeq (s1_law F) (t2_law F))
noncomputable def f_law (F : Nat) : Fn := fnD 6 (c_b_law F)
instance tlI : MX.TL := ⟨[("is_sample", none)], []⟩
theorem tf_is_sample : (("is_sample", none) : He.Defn) ∈ MX.TL.tf := List.mem_cons_self
def tnB (K : PySem.W.Frag) : Bool := decide ((MX.TL.tf ++ MX.TL.tl.map (·.1)).map fun p => (He.cT K p).2).Nodup
def erB (K : PySem.W.Frag) : Bool := MX.errB K
def in_BadValue (K : PySem.W.Frag) : Bool := HK.initB K PySem.Challenge.pw_backseen_k01_letters_words_and_looks.main.file "name" "BadValue"
def exB (K : PySem.W.Frag) : Bool := tnB K && erB K && in_BadValue K
theorem exB_all {K : PySem.W.Frag} (h : exB K = true) : (tnB K = true ∧ erB K = true) ∧ in_BadValue K = true := by unfold exB at h; simp only [Bool.and_eq_true] at h; exact ⟨h.1, h.2⟩
theorem exB_nd {K : PySem.W.Frag} (h : exB K = true) : MX.TL.nd K := by have h := (exB_all h).1.1; unfold tnB at h; unfold MX.TL.nd; exact of_decide_eq_true h
theorem exB_er {K : PySem.W.Frag} (h : exB K = true) : MX.ErrF K := MX.errB_ok (exB_all h).1.2
def clsBody (s : Stmt) : Stmt := match s with | .ClassDef _ _ _ (b :: _) _ _ _ _ _ _ _ => b | _ => .Pass ⟨0, 0, 0, 0⟩
abbrev si_BadValue : Stmt := clsBody (top 2)
def erIn : List (Str × HK.IObs) := [("BadValue", ("__init__", "BadValue.__init__", defArgs si_BadValue, FuncBody.stmts (defBody si_BadValue), defScope si_BadValue, mainGlobals, builtinsNs, Value.none, ["__class__"]))]
/-! ### the head: facts by names -/
def d_is_over : He.DefD := ⟨("is_over", none), "is_over", "is_over", defArgs s_is_over, defBody s_is_over, defScope s_is_over, [], []⟩
def d_is_integer_within : He.DefD := ⟨("is_integer_within", none), "is_integer_within", "is_integer_within", defArgs s_is_integer_within, defBody s_is_integer_within, defScope s_is_integer_within, [], []⟩
def d_is_tuple_of : He.DefD := ⟨("is_tuple_of", none), "is_tuple_of", "is_tuple_of", defArgs s_is_tuple_of, defBody s_is_tuple_of, defScope s_is_tuple_of, [], []⟩
def d_word_place : He.DefD := ⟨("word_place", none), "word_place", "word_place", defArgs s_word_place, defBody s_word_place, defScope s_word_place, [], []⟩
def d_is_ascending : He.DefD := ⟨("is_ascending", none), "is_ascending", "is_ascending", defArgs s_is_ascending, defBody s_is_ascending, defScope s_is_ascending, [], []⟩
def d_is_letters : He.DefD := ⟨("is_letters", none), "is_letters", "is_letters", defArgs s_is_letters, defBody s_is_letters, defScope s_is_letters, [], []⟩
def d_need_letters : He.DefD := ⟨("need_letters", none), "need_letters", "need_letters", defArgs s_need_letters, defBody s_need_letters, defScope s_need_letters, [], []⟩
def d_is_word : He.DefD := ⟨("is_word", none), "is_word", "is_word", defArgs s_is_word, defBody s_is_word, defScope s_is_word, [], []⟩
def d_is_look : He.DefD := ⟨("is_look", none), "is_look", "is_look", defArgs s_is_look, defBody s_is_look, defScope s_is_look, [], []⟩
def d_is_sample : He.DefD := ⟨("is_sample", none), "is_sample", "is_sample", defArgs s_is_sample, defBody s_is_sample, defScope s_is_sample, [], []⟩
def d_law_stream : He.DefD := ⟨("_law_stream", none), "_law_stream", "_law_stream", defArgs s_law_stream, defBody s_law_stream, defScope s_law_stream, [], []⟩
def d_law_next : He.DefD := ⟨("_law_next", none), "_law_next", "_law_next", defArgs s_law_next, defBody s_law_next, defScope s_law_next, [], []⟩
def d_law_pick : He.DefD := ⟨("_law_pick", none), "_law_pick", "_law_pick", defArgs s_law_pick, defBody s_law_pick, defScope s_law_pick, [], []⟩
def d_law_letters : He.DefD := ⟨("_law_letters", none), "_law_letters", "_law_letters", defArgs s_law_letters, defBody s_law_letters, defScope s_law_letters, [], []⟩
def d_law_word : He.DefD := ⟨("_law_word", none), "_law_word", "_law_word", defArgs s_law_word, defBody s_law_word, defScope s_law_word, [], []⟩
def d_law_says : He.DefD := ⟨("_law_says", none), "_law_says", "_law_says", defArgs s_law_says, defBody s_law_says, defScope s_law_says, [], []⟩
def d_law_stranger : He.DefD := ⟨("_law_stranger", none), "_law_stranger", "_law_stranger", defArgs s_law_stranger, defBody s_law_stranger, defScope s_law_stranger, [], []⟩
def d_law_are_letters : He.DefD := ⟨("_law_are_letters", none), "_law_are_letters", "_law_are_letters", defArgs s_law_are_letters, defBody s_law_are_letters, defScope s_law_are_letters, [], []⟩
def d_law_near_letters : He.DefD := ⟨("_law_near_letters", none), "_law_near_letters", "_law_near_letters", defArgs s_law_near_letters, defBody s_law_near_letters, defScope s_law_near_letters, [], []⟩
def d_law_near_word : He.DefD := ⟨("_law_near_word", none), "_law_near_word", "_law_near_word", defArgs s_law_near_word, defBody s_law_near_word, defScope s_law_near_word, [], []⟩
def d_law_over : He.DefD := ⟨("_law_over", none), "_law_over", "_law_over", defArgs s_law_over, defBody s_law_over, defScope s_law_over, [], []⟩
def d_law_refused : He.DefD := ⟨("_law_refused", none), "_law_refused", "_law_refused", defArgs s_law_refused, defBody s_law_refused, defScope s_law_refused, [], []⟩
def d_law_looks : He.DefD := ⟨("_law_looks", none), "_law_looks", "_law_looks", defArgs s_law_looks, defBody s_law_looks, defScope s_law_looks, [], []⟩
def d_law : He.DefD := ⟨("law", none), "law", "law", defArgs s_law, defBody s_law, defScope s_law, [], []⟩
def d_law_one_class : He.DefD := ⟨("_law_one_class", none), "_law_one_class", "_law_one_class", defArgs s_law_one_class, defBody s_law_one_class, defScope s_law_one_class, [], []⟩
def fn : List He.DefD := [d_is_over, d_is_integer_within, d_is_tuple_of, d_word_place, d_is_ascending, d_is_letters, d_need_letters, d_is_word, d_is_look, d_is_sample, d_law_stream, d_law_next, d_law_pick, d_law_letters, d_law_word, d_law_says, d_law_stranger, d_law_are_letters, d_law_near_letters, d_law_near_word, d_law_over, d_law_refused, d_law_looks, d_law, d_law_one_class]
def fa : List He.Fa := [.glo "is_over", .glo "is_integer_within", .glo "is_tuple_of", .glo "word_place", .glo "is_ascending", .glo "is_letters", .glo "need_letters", .glo "is_word", .glo "is_look", .glo "is_sample", .glo "_law_stream", .glo "_law_next", .glo "_law_pick", .glo "_law_letters", .glo "_law_word", .glo "_law_says", .glo "_law_stranger", .glo "_law_are_letters", .glo "_law_near_letters", .glo "_law_near_word", .glo "_law_over", .glo "_law_refused", .glo "_law_looks", .glo "law", .glo "_law_one_class", .glo "BadValue", .glo "NotPossible", .glo "SeenError", .glo "TextError", .glo "TooLarge", .free "ValueError", .free "abs", .free "all", .free "bool", .free "int", .free "isinstance", .free "len", .free "list", .free "range", .free "set", .free "sorted", .free "str", .free "sum", .free "super", .free "tuple", .free "type", .str "ALPHABET" "abcdefghijklmnopqrstuvwxyz", .int "MOST_DIFFERENT_LETTERS" 4, .int "MOST_LOOK" 12, .int "MOST_SAMPLE_LETTERS" 2000, .int "MOST_SAMPLE_WORDS" 200]
section
variable {P : Program} {w : World} {K : PySem.W.Frag} {mg : Str → Option Value} {base h : Heap} (F : Nat)
theorem sc_law_one_class : FnScope N_law_one_class ["error", "wanted"] (defScope s_law_one_class) := ⟨rfl, rfl, rfl, by decide +kernel, rfl, by decide +kernel, by decide +kernel⟩
set_option maxHeartbeats 4000000 in
theorem okh_law_one_class (KX : K.In h) (GM : h.Ns mainGlobals mg) (C : He.SaysD fa fn K) (TBs : ∀ p ∈ MX.TL.tf ++ MX.TL.tl.map (·.1), GxR.TabB base mg (He.cT K p).1 (He.cT K p).2) (EF : MX.ErrF K) {a dd : Addr} {c0 : Str} {oe : Obj} (hc : c0 ∈ MX.ER.raised) (hz : L2N.Zn (.ref (He.ga K c0)) (some dd) oe) (hf : ∃ vs, oe.data = .fields vs) {A : Around} {outer : List Env} (cdv : Value) (s : Shared) (H : Hp) (hot : L2H.Hot1 A (a, oe)) (hr : L2H.RoomH 1 (A.deeper (envOfC "_law_one_class" (defScope s_law_one_class) s.heap.objs.size (He.fAd K d_law_one_class.at_) cdv))) : PSs (L2H.cxH (L2N.CX P w) P w K mg base N_law_one_class "_law_one_class" (defScope s_law_one_class) (He.fAd K d_law_one_class.at_) cdv A outer s H MX.noX (a, oe)) (defBody s_law_one_class) (LS K MX.WF (ch_law_one_class F a dd c0)) := by
  have sc := sc_law_one_class
  have HC : L2H.HotC (L2H.cxH (L2N.CX P w) P w K mg base N_law_one_class "_law_one_class" (defScope s_law_one_class) (He.fAd K d_law_one_class.at_) cdv A outer s H MX.noX (a, oe)) := ⟨_, hot, List.mem_cons_self⟩
  have z_ValueError := He.free_ok KX GM (C.fact 30 (f := .free "ValueError") rfl)
  have z_isinstance := He.free_ok KX GM (C.fact 35 (f := .free "isinstance") rfl)
  have z_range := He.free_ok KX GM (C.fact 38 (f := .free "range") rfl)
  have g_BadValue := He.glo_ok KX GM (C.fact 25 (f := .glo "BadValue") rfl)
  have g_NotPossible := He.glo_ok KX GM (C.fact 26 (f := .glo "NotPossible") rfl)
  have g_SeenError := He.glo_ok KX GM (C.fact 27 (f := .glo "SeenError") rfl)
  have g_TextError := He.glo_ok KX GM (C.fact 28 (f := .glo "TextError") rfl)
  have g_TooLarge := He.glo_ok KX GM (C.fact 29 (f := .glo "TooLarge") rfl)
  unfold ch_law_one_class hC1_law_one_class
  exact (s_cons (PS.imp (ps_set (i := 2) sc.nd rfl (by first | exact Or.inl rfl | exact Or.inr rfl) (e_lst (a_cons (e_isE EF hc rfl z_isinstance List.mem_cons_self hz hf rfl g_BadValue (e_var 0 (pv 0))) (a_cons (e_isE EF hc rfl z_isinstance List.mem_cons_self hz hf rfl g_TooLarge (e_var 0 (pv 0))) (a_cons (e_isE EF hc rfl z_isinstance List.mem_cons_self hz hf rfl g_NotPossible (e_var 0 (pv 0))) (a_cons (e_isE EF hc rfl z_isinstance List.mem_cons_self hz hf rfl g_TextError (e_var 0 (pv 0))) a_nil)))))) le_set)
      (s_one (s_ret (e_and (e_cmp (op_eqQ (MX.unitsH hr)) rd_eqQ (e_var 2 (pv 2)) (e_lcRH (own := [("k", 3)]) (W := WF) HC sc.nd rfl z_range e_int (blkOk_by (own := [("k", 3)]) (N := N_law_one_class) (sc := defScope s_law_one_class) (by decide +kernel)) (fun _ _ _ _ _ => (pg_name (i := 3) sc.nd rfl (by first | exact Or.inl rfl | exact Or.inr rfl))) (fun _ _ _ _ _ => (e_cmp o_eq rd_eqA (e_var 1 (pv 1)) (e_var 3 (pv 3)) (nomark _))) (gd_name 3) (gw_name 3)) (nomark _)) (e_and (e_isE EF hc rfl z_isinstance List.mem_cons_self hz hf rfl g_SeenError (e_var 0 (pv 0))) (pe_one (e_isV EF hc rfl z_isinstance List.mem_cons_self hz hf rfl z_ValueError (e_var 0 (pv 0)))))))))
theorem sc_is_over : FnScope N_is_over ["alphabet", "value"] (defScope s_is_over) := ⟨rfl, rfl, rfl, by decide +kernel, rfl, by decide +kernel, by decide +kernel⟩
set_option maxHeartbeats 4000000 in
theorem okf_is_over (KX : K.In h) (GM : h.Ns mainGlobals mg) (C : He.SaysD fa fn K) (TBs : ∀ p ∈ MX.TL.tf ++ MX.TL.tl.map (·.1), GxR.TabB base mg (He.cT K p).1 (He.cT K p).2) (EF : MX.ErrF K) (EO : ∀ q ∈ erL, MX.ErrOk P w K mg base q.1 q.2) {fd : FuncData} (FD : FunD K d_is_over.name d_is_over.qual d_is_over.params d_is_over.body d_is_over.scope (d_is_over.dvs K) (d_is_over.kws K) (He.fAd K d_is_over.at_) fd) : FnOk P w K mg base (L2N.CX P w) 2 (He.ga K "is_over") fd ["alphabet", "value"] (spD K 2 (f_is_over F)) := by
  have z_len := He.free_ok KX GM (C.fact 36 (f := .free "len") rfl)
  have z_set := He.free_ok KX GM (C.fact 39 (f := .free "set") rfl)
  have z_str := He.free_ok KX GM (C.fact 41 (f := .free "str") rfl)
  have z_type := He.free_ok KX GM (C.fact 45 (f := .free "type") rfl)
  have sc := sc_is_over
  refine fn_ok FD sc fun cdv A outer s H E hr => ?_
  have tk := L2N.takes_of (X := cxOf (L2N.CX P w) P w K mg base N_is_over "is_over" (defScope s_is_over) (He.ga K "is_over") cdv A outer s H E) rfl rfl rfl rfl
  have hx := L2N.passAt (X := cxOf (L2N.CX P w) P w K mg base N_is_over "is_over" (defScope s_is_over) (He.ga K "is_over") cdv A outer s H E) tk
  show PSs _ (defBody s_is_over) (LS K _ (c_b_is_over F))
  unfold c_b_is_over 
  exact (s_one (s_ret (e_and (e_cmp o_eq rd_eqA (PE.imp (pe_callTy call_type1 rfl z_type (by decide +kernel) (a_cons (e_var 1 (pv 1)) a_nil)) (le_cb rd_type)) (e_con (d := .ty "str") (pe_bltn (v := .ty "str") rfl z_str (by decide +kernel) rfl) fun _ _ => rfl) (nomark _)) (pe_one (PE.imp (pe_cmpR o_eq (pe_lenSub rfl rfl z_len rfl z_set (e_var 1 (pv 1)) (e_var 0 (pv 0))) pe_int (nomark _)) le_sub0)))))
theorem ok_is_over (KX : K.In h) (GM : h.Ns mainGlobals mg) (C : He.SaysD fa fn K) (TBs : ∀ p ∈ MX.TL.tf ++ MX.TL.tl.map (·.1), GxR.TabB base mg (He.cT K p).1 (He.cT K p).2) (EF : MX.ErrF K) (EO : ∀ q ∈ erL, MX.ErrOk P w K mg base q.1 q.2) : DefOk P w K mg base 2 "is_over" ["alphabet", "value"] (f_is_over F) := by
  obtain ⟨fd, FD⟩ := C.def_ 0 (d := d_is_over) rfl
  have bd : Binds K fd ["alphabet", "value"] [] := FunD.bindsN FD fun _ _ _ _ _ _ us hl => match us, hl with | [_, _], _ => rfl
  exact ⟨⟨fd, okf_is_over F KX GM C TBs EF EO FD, bd⟩, He.glo_ok KX GM (C.fact 0 (f := .glo "is_over") rfl), FD.kp⟩
theorem sc_is_integer_within : FnScope N_is_integer_within ["value", "low", "high"] (defScope s_is_integer_within) := ⟨rfl, rfl, rfl, by decide +kernel, rfl, by decide +kernel, by decide +kernel⟩
set_option maxHeartbeats 4000000 in
theorem okf_is_integer_within (KX : K.In h) (GM : h.Ns mainGlobals mg) (C : He.SaysD fa fn K) (TBs : ∀ p ∈ MX.TL.tf ++ MX.TL.tl.map (·.1), GxR.TabB base mg (He.cT K p).1 (He.cT K p).2) (EF : MX.ErrF K) (EO : ∀ q ∈ erL, MX.ErrOk P w K mg base q.1 q.2) {fd : FuncData} (FD : FunD K d_is_integer_within.name d_is_integer_within.qual d_is_integer_within.params d_is_integer_within.body d_is_integer_within.scope (d_is_integer_within.dvs K) (d_is_integer_within.kws K) (He.fAd K d_is_integer_within.at_) fd) : FnOk P w K mg base (L2N.CX P w) 2 (He.ga K "is_integer_within") fd ["value", "low", "high"] (spD K 3 (f_is_integer_within F)) := by
  have z_int := He.free_ok KX GM (C.fact 34 (f := .free "int") rfl)
  have z_type := He.free_ok KX GM (C.fact 45 (f := .free "type") rfl)
  have sc := sc_is_integer_within
  refine fn_ok FD sc fun cdv A outer s H E hr => ?_
  have tk := L2N.takes_of (X := cxOf (L2N.CX P w) P w K mg base N_is_integer_within "is_integer_within" (defScope s_is_integer_within) (He.ga K "is_integer_within") cdv A outer s H E) rfl rfl rfl rfl
  have hx := L2N.passAt (X := cxOf (L2N.CX P w) P w K mg base N_is_integer_within "is_integer_within" (defScope s_is_integer_within) (He.ga K "is_integer_within") cdv A outer s H E) tk
  show PSs _ (defBody s_is_integer_within) (LS K _ (c_b_is_integer_within F))
  unfold c_b_is_integer_within 
  exact (s_one (s_ret (e_and (e_cmp o_eq rd_eqA (PE.imp (pe_callTy call_type1 rfl z_type (by decide +kernel) (a_cons (e_var 0 (pv 0)) a_nil)) (le_cb rd_type)) (e_con (d := .ty "int") (pe_bltn (v := .ty "int") rfl z_int (by decide +kernel) rfl) fun _ _ => rfl) (nomark _)) (pe_one (PE.imp (pe_chain op_le op_le (e_var 1 (pv 1)) (e_var 0 (pv 0)) (e_var 2 (pv 2))) (le_chain rd_cmp rd_cmp))))))
theorem ok_is_integer_within (KX : K.In h) (GM : h.Ns mainGlobals mg) (C : He.SaysD fa fn K) (TBs : ∀ p ∈ MX.TL.tf ++ MX.TL.tl.map (·.1), GxR.TabB base mg (He.cT K p).1 (He.cT K p).2) (EF : MX.ErrF K) (EO : ∀ q ∈ erL, MX.ErrOk P w K mg base q.1 q.2) : DefOk P w K mg base 2 "is_integer_within" ["value", "low", "high"] (f_is_integer_within F) := by
  obtain ⟨fd, FD⟩ := C.def_ 1 (d := d_is_integer_within) rfl
  have bd : Binds K fd ["value", "low", "high"] [] := FunD.bindsN FD fun _ _ _ _ _ _ us hl => match us, hl with | [_, _, _], _ => rfl
  exact ⟨⟨fd, okf_is_integer_within F KX GM C TBs EF EO FD, bd⟩, He.glo_ok KX GM (C.fact 1 (f := .glo "is_integer_within") rfl), FD.kp⟩
theorem sc_is_tuple_of : FnScope N_is_tuple_of ["value", "low", "high"] (defScope s_is_tuple_of) := ⟨rfl, rfl, rfl, by decide +kernel, rfl, by decide +kernel, by decide +kernel⟩
set_option maxHeartbeats 4000000 in
theorem okf_is_tuple_of (KX : K.In h) (GM : h.Ns mainGlobals mg) (C : He.SaysD fa fn K) (TBs : ∀ p ∈ MX.TL.tf ++ MX.TL.tl.map (·.1), GxR.TabB base mg (He.cT K p).1 (He.cT K p).2) (EF : MX.ErrF K) (EO : ∀ q ∈ erL, MX.ErrOk P w K mg base q.1 q.2) {fd : FuncData} (FD : FunD K d_is_tuple_of.name d_is_tuple_of.qual d_is_tuple_of.params d_is_tuple_of.body d_is_tuple_of.scope (d_is_tuple_of.dvs K) (d_is_tuple_of.kws K) (He.fAd K d_is_tuple_of.at_) fd) : FnOk P w K mg base (L2N.CX P w) 2 (He.ga K "is_tuple_of") fd ["value", "low", "high"] (spD K 3 (f_is_tuple_of F)) := by
  have z_len := He.free_ok KX GM (C.fact 36 (f := .free "len") rfl)
  have z_tuple := He.free_ok KX GM (C.fact 44 (f := .free "tuple") rfl)
  have z_type := He.free_ok KX GM (C.fact 45 (f := .free "type") rfl)
  have sc := sc_is_tuple_of
  refine fn_ok FD sc fun cdv A outer s H E hr => ?_
  have tk := L2N.takes_of (X := cxOf (L2N.CX P w) P w K mg base N_is_tuple_of "is_tuple_of" (defScope s_is_tuple_of) (He.ga K "is_tuple_of") cdv A outer s H E) rfl rfl rfl rfl
  have hx := L2N.passAt (X := cxOf (L2N.CX P w) P w K mg base N_is_tuple_of "is_tuple_of" (defScope s_is_tuple_of) (He.ga K "is_tuple_of") cdv A outer s H E) tk
  show PSs _ (defBody s_is_tuple_of) (LS K _ (c_b_is_tuple_of F))
  unfold c_b_is_tuple_of 
  exact (s_one (s_ret (e_and (e_cmp o_eq rd_eqA (PE.imp (pe_callTy call_type1 rfl z_type (by decide +kernel) (a_cons (e_var 0 (pv 0)) a_nil)) (le_cb rd_type)) (e_con (d := .ty "tuple") (pe_bltn (v := .ty "tuple") rfl z_tuple (by decide +kernel) rfl) fun _ _ => rfl) (nomark _)) (pe_one (PE.imp (pe_chain op_le op_le (e_var 1 (pv 1)) (PE.imp (pe_callB call_len rfl z_len boot_len (a_cons (e_var 0 (pv 0)) a_nil)) (le_cb rd_len)) (e_var 2 (pv 2))) (le_chain rd_cmp rd_cmp))))))
theorem ok_is_tuple_of (KX : K.In h) (GM : h.Ns mainGlobals mg) (C : He.SaysD fa fn K) (TBs : ∀ p ∈ MX.TL.tf ++ MX.TL.tl.map (·.1), GxR.TabB base mg (He.cT K p).1 (He.cT K p).2) (EF : MX.ErrF K) (EO : ∀ q ∈ erL, MX.ErrOk P w K mg base q.1 q.2) : DefOk P w K mg base 2 "is_tuple_of" ["value", "low", "high"] (f_is_tuple_of F) := by
  obtain ⟨fd, FD⟩ := C.def_ 2 (d := d_is_tuple_of) rfl
  have bd : Binds K fd ["value", "low", "high"] [] := FunD.bindsN FD fun _ _ _ _ _ _ us hl => match us, hl with | [_, _, _], _ => rfl
  exact ⟨⟨fd, okf_is_tuple_of F KX GM C TBs EF EO FD, bd⟩, He.glo_ok KX GM (C.fact 2 (f := .glo "is_tuple_of") rfl), FD.kp⟩
theorem sc_word_place : FnScope N_word_place ["word"] (defScope s_word_place) := ⟨rfl, rfl, rfl, by decide +kernel, rfl, by decide +kernel, by decide +kernel⟩
set_option maxHeartbeats 4000000 in
theorem okf_word_place (KX : K.In h) (GM : h.Ns mainGlobals mg) (C : He.SaysD fa fn K) (TBs : ∀ p ∈ MX.TL.tf ++ MX.TL.tl.map (·.1), GxR.TabB base mg (He.cT K p).1 (He.cT K p).2) (EF : MX.ErrF K) (EO : ∀ q ∈ erL, MX.ErrOk P w K mg base q.1 q.2) {fd : FuncData} (FD : FunD K d_word_place.name d_word_place.qual d_word_place.params d_word_place.body d_word_place.scope (d_word_place.dvs K) (d_word_place.kws K) (He.fAd K d_word_place.at_) fd) : FnOk P w K mg base (L2N.CX P w) 2 (He.ga K "word_place") fd ["word"] (spD K 1 (f_word_place F)) := by
  have z_len := He.free_ok KX GM (C.fact 36 (f := .free "len") rfl)
  have sc := sc_word_place
  refine fn_ok FD sc fun cdv A outer s H E hr => ?_
  have tk := L2N.takes_of (X := cxOf (L2N.CX P w) P w K mg base N_word_place "word_place" (defScope s_word_place) (He.ga K "word_place") cdv A outer s H E) rfl rfl rfl rfl
  have hx := L2N.passAt (X := cxOf (L2N.CX P w) P w K mg base N_word_place "word_place" (defScope s_word_place) (He.ga K "word_place") cdv A outer s H E) tk
  show PSs _ (defBody s_word_place) (LS K _ (c_b_word_place F))
  unfold c_b_word_place 
  exact (s_one (s_ret (e_tup (a_cons (PE.imp (pe_callB call_len rfl z_len boot_len (a_cons (e_var 0 (pv 0)) a_nil)) (le_cb rd_len)) (a_cons (e_var 0 (pv 0)) a_nil)))))
theorem ok_word_place (KX : K.In h) (GM : h.Ns mainGlobals mg) (C : He.SaysD fa fn K) (TBs : ∀ p ∈ MX.TL.tf ++ MX.TL.tl.map (·.1), GxR.TabB base mg (He.cT K p).1 (He.cT K p).2) (EF : MX.ErrF K) (EO : ∀ q ∈ erL, MX.ErrOk P w K mg base q.1 q.2) : DefOk P w K mg base 2 "word_place" ["word"] (f_word_place F) := by
  obtain ⟨fd, FD⟩ := C.def_ 3 (d := d_word_place) rfl
  have bd : Binds K fd ["word"] [] := FunD.bindsN FD fun _ _ _ _ _ _ us hl => match us, hl with | [_], _ => rfl
  exact ⟨⟨fd, okf_word_place F KX GM C TBs EF EO FD, bd⟩, He.glo_ok KX GM (C.fact 3 (f := .glo "word_place") rfl), FD.kp⟩
theorem sc_is_ascending : FnScope N_is_ascending ["words"] (defScope s_is_ascending) := ⟨rfl, rfl, rfl, by decide +kernel, rfl, by decide +kernel, by decide +kernel⟩
set_option maxHeartbeats 4000000 in
theorem okf_is_ascending (KX : K.In h) (GM : h.Ns mainGlobals mg) (C : He.SaysD fa fn K) (TBs : ∀ p ∈ MX.TL.tf ++ MX.TL.tl.map (·.1), GxR.TabB base mg (He.cT K p).1 (He.cT K p).2) (EF : MX.ErrF K) (EO : ∀ q ∈ erL, MX.ErrOk P w K mg base q.1 q.2) {fd : FuncData} (FD : FunD K d_is_ascending.name d_is_ascending.qual d_is_ascending.params d_is_ascending.body d_is_ascending.scope (d_is_ascending.dvs K) (d_is_ascending.kws K) (He.fAd K d_is_ascending.at_) fd) : FnOk P w K mg base (L2N.CX P w) 3 (He.ga K "is_ascending") fd ["words"] (spD K 1 (f_is_ascending F)) := by
  obtain ⟨⟨fd_word_place, G_word_place, b_word_place⟩, m_word_place, k_word_place⟩ := ok_word_place (P := P) (w := w) (base := base) F KX GM C TBs EF EO
  have z_all := He.free_ok KX GM (C.fact 32 (f := .free "all") rfl)
  have z_len := He.free_ok KX GM (C.fact 36 (f := .free "len") rfl)
  have z_range := He.free_ok KX GM (C.fact 38 (f := .free "range") rfl)
  have sc := sc_is_ascending
  refine fn_ok FD sc fun cdv A outer s H E hr => ?_
  have tk := L2N.takes_of (X := cxOf (L2N.CX P w) P w K mg base N_is_ascending "is_ascending" (defScope s_is_ascending) (He.ga K "is_ascending") cdv A outer s H E) rfl rfl rfl rfl
  have hx := L2N.passAt (X := cxOf (L2N.CX P w) P w K mg base N_is_ascending "is_ascending" (defScope s_is_ascending) (He.ga K "is_ascending") cdv A outer s H E) tk
  show PSs _ (defBody s_is_ascending) (LS K _ (c_b_is_ascending F))
  unfold c_b_is_ascending C1_is_ascending
  exact (s_one (s_ret (PE.imp (pe_callB (cr_all rfl) rfl z_all (by decide +kernel) (a_cons (PE.imp (pe_lc (own := [("at", 1)]) (tt := LT _ WF mYes) (te := LE _ WF (mBin ltW (mCall (f_word_place F) (mCons (mBin ixD (mVar 0) (mVar 1)) mNil)) (mCall (f_word_place F) (mCons (mBin ixD (mVar 0) (mBin addD (mVar 1) (mC (.int 1)))) mNil)))) rfl sc.nd (pi_range1 rfl z_range (a_cons (e_bin op_sub rd_sub (PE.imp (pe_callB call_len rfl z_len boot_len (a_cons (e_var 0 (pv 0)) a_nil)) (le_cb rd_len)) e_int) a_nil)) (blkOk_by (own := [("at", 1)]) (N := N_is_ascending) (sc := defScope s_is_ascending) (by decide +kernel)) (fun _ _ _ _ _ => (pg_name (i := 1) sc.nd rfl (by first | exact Or.inl rfl | exact Or.inr rfl))) (fun _ _ _ _ _ => ts_nil (X := _) (W := WF)) (fun _ _ _ _ _ => (e_cmp (op_ltW hr) rd_ltW (e_call G_word_place (hr.mono (by decide)) m_word_place k_word_place b_word_place passF (a_cons (e_ix ix_seq rd_ix (e_var 0 (pv 0)) (e_var 1 (pv 1)) (fun _ _ => rfl)) a_nil) (len_cons len_nil)) (e_call G_word_place (hr.mono (by decide)) m_word_place k_word_place b_word_place passF (a_cons (e_ix ix_seq rd_ix (e_var 0 (pv 0)) (e_bin o_add rd_add (e_var 1 (pv 1)) e_int) (fun _ _ => rfl)) a_nil) (len_cons len_nil)) (nomark _)))) (le_lcR1 (gd_name 1) (gw_name 1) (fun _ _ _ h => h))) a_nil)) (le_cb rd_all))))
theorem ok_is_ascending (KX : K.In h) (GM : h.Ns mainGlobals mg) (C : He.SaysD fa fn K) (TBs : ∀ p ∈ MX.TL.tf ++ MX.TL.tl.map (·.1), GxR.TabB base mg (He.cT K p).1 (He.cT K p).2) (EF : MX.ErrF K) (EO : ∀ q ∈ erL, MX.ErrOk P w K mg base q.1 q.2) : DefOk P w K mg base 3 "is_ascending" ["words"] (f_is_ascending F) := by
  obtain ⟨fd, FD⟩ := C.def_ 4 (d := d_is_ascending) rfl
  have bd : Binds K fd ["words"] [] := FunD.bindsN FD fun _ _ _ _ _ _ us hl => match us, hl with | [_], _ => rfl
  exact ⟨⟨fd, okf_is_ascending F KX GM C TBs EF EO FD, bd⟩, He.glo_ok KX GM (C.fact 4 (f := .glo "is_ascending") rfl), FD.kp⟩
theorem sc_is_letters : FnScope N_is_letters ["value"] (defScope s_is_letters) := ⟨rfl, rfl, rfl, by decide +kernel, rfl, by decide +kernel, by decide +kernel⟩
set_option maxHeartbeats 4000000 in
theorem okf_is_letters (KX : K.In h) (GM : h.Ns mainGlobals mg) (C : He.SaysD fa fn K) (TBs : ∀ p ∈ MX.TL.tf ++ MX.TL.tl.map (·.1), GxR.TabB base mg (He.cT K p).1 (He.cT K p).2) (EF : MX.ErrF K) (EO : ∀ q ∈ erL, MX.ErrOk P w K mg base q.1 q.2) {fd : FuncData} (FD : FunD K d_is_letters.name d_is_letters.qual d_is_letters.params d_is_letters.body d_is_letters.scope (d_is_letters.dvs K) (d_is_letters.kws K) (He.fAd K d_is_letters.at_) fd) : FnOk P w K mg base (L2N.CX P w) 3 (He.ga K "is_letters") fd ["value"] (spD K 1 (f_is_letters F)) := by
  obtain ⟨⟨fd_is_over, G_is_over, b_is_over⟩, m_is_over, k_is_over⟩ := ok_is_over (P := P) (w := w) (base := base) F KX GM C TBs EF EO
  have z_all := He.free_ok KX GM (C.fact 32 (f := .free "all") rfl)
  have z_len := He.free_ok KX GM (C.fact 36 (f := .free "len") rfl)
  have z_range := He.free_ok KX GM (C.fact 38 (f := .free "range") rfl)
  have z_str := He.free_ok KX GM (C.fact 41 (f := .free "str") rfl)
  have z_type := He.free_ok KX GM (C.fact 45 (f := .free "type") rfl)
  have c_ALPHABET := He.str_ok KX GM (C.fact 46 (f := .str "ALPHABET" "abcdefghijklmnopqrstuvwxyz") rfl)
  have c_MOST_DIFFERENT_LETTERS := He.int_ok KX GM (C.fact 47 (f := .int "MOST_DIFFERENT_LETTERS" 4) rfl)
  have sc := sc_is_letters
  refine fn_ok FD sc fun cdv A outer s H E hr => ?_
  have tk := L2N.takes_of (X := cxOf (L2N.CX P w) P w K mg base N_is_letters "is_letters" (defScope s_is_letters) (He.ga K "is_letters") cdv A outer s H E) rfl rfl rfl rfl
  have hx := L2N.passAt (X := cxOf (L2N.CX P w) P w K mg base N_is_letters "is_letters" (defScope s_is_letters) (He.ga K "is_letters") cdv A outer s H E) tk
  show PSs _ (defBody s_is_letters) (LS K _ (c_b_is_letters F))
  unfold c_b_is_letters C1_is_letters
  exact (s_cons (s_if (PW.pt (t_or (t_cmp op_neTy rd_neTy (PE.imp (pe_callTy call_type1 rfl z_type (by decide +kernel) (a_cons (e_var 0 (pv 0)) a_nil)) (le_cb rd_type)) (e_con (d := .ty "str") (pe_bltn (v := .ty "str") rfl z_str (by decide +kernel) rfl) fun _ _ => rfl) (nomark _)) (pw_or1 (t_not (PT.imp (pt_chain op_le op_le e_int (PE.imp (pe_callB call_len rfl z_len boot_len (a_cons (e_var 0 (pv 0)) a_nil)) (le_cb rd_len)) (e_con (d := .int 4) (pe_glob (v := .int 4) rfl c_MOST_DIFFERENT_LETTERS.choose_spec ⟨_, rfl⟩) fun _ _ => rfl)) (le_chainT rd_cmp rd_cmp)))))) (s_one (s_ret e_bl)) s_nil)
      (s_one (s_ret (e_and (e_call G_is_over (hr.mono (by decide)) m_is_over k_is_over b_is_over hx (a_cons (e_con (d := .str "abcdefghijklmnopqrstuvwxyz") (pe_glob (v := .str "abcdefghijklmnopqrstuvwxyz") rfl c_ALPHABET.choose_spec ⟨_, rfl⟩) fun _ _ => rfl) (a_cons (e_var 0 (pv 0)) a_nil)) (len_cons (len_cons len_nil))) (pe_one (PE.imp (pe_callB (cr_all rfl) rfl z_all (by decide +kernel) (a_cons (PE.imp (pe_lc (own := [("at", 1)]) (tt := LT _ WF mYes) (te := LE _ WF (mBin ltD (mBin ixD (mVar 0) (mVar 1)) (mBin ixD (mVar 0) (mBin addD (mVar 1) (mC (.int 1)))))) rfl sc.nd (pi_range1 rfl z_range (a_cons (e_bin op_sub rd_sub (PE.imp (pe_callB call_len rfl z_len boot_len (a_cons (e_var 0 (pv 0)) a_nil)) (le_cb rd_len)) e_int) a_nil)) (blkOk_by (own := [("at", 1)]) (N := N_is_letters) (sc := defScope s_is_letters) (by decide +kernel)) (fun _ _ _ _ _ => (pg_name (i := 1) sc.nd rfl (by first | exact Or.inl rfl | exact Or.inr rfl))) (fun _ _ _ _ _ => ts_nil (X := _) (W := WF)) (fun _ _ _ _ _ => (e_cmp o_lt rd_lt (e_ix ix_seq rd_ix (e_var 0 (pv 0)) (e_var 1 (pv 1)) (fun _ _ => rfl)) (e_ix ix_seq rd_ix (e_var 0 (pv 0)) (e_bin o_add rd_add (e_var 1 (pv 1)) e_int) (fun _ _ => rfl)) (nomark _)))) (le_lcR1 (gd_name 1) (gw_name 1) (fun _ _ _ h => h))) a_nil)) (le_cb rd_all)))))))
theorem ok_is_letters (KX : K.In h) (GM : h.Ns mainGlobals mg) (C : He.SaysD fa fn K) (TBs : ∀ p ∈ MX.TL.tf ++ MX.TL.tl.map (·.1), GxR.TabB base mg (He.cT K p).1 (He.cT K p).2) (EF : MX.ErrF K) (EO : ∀ q ∈ erL, MX.ErrOk P w K mg base q.1 q.2) : DefOk P w K mg base 3 "is_letters" ["value"] (f_is_letters F) := by
  obtain ⟨fd, FD⟩ := C.def_ 5 (d := d_is_letters) rfl
  have bd : Binds K fd ["value"] [] := FunD.bindsN FD fun _ _ _ _ _ _ us hl => match us, hl with | [_], _ => rfl
  exact ⟨⟨fd, okf_is_letters F KX GM C TBs EF EO FD, bd⟩, He.glo_ok KX GM (C.fact 5 (f := .glo "is_letters") rfl), FD.kp⟩
theorem sc_need_letters : FnScope N_need_letters ["letters"] (defScope s_need_letters) := ⟨rfl, rfl, rfl, by decide +kernel, rfl, by decide +kernel, by decide +kernel⟩
set_option maxHeartbeats 4000000 in
theorem okf_need_letters (KX : K.In h) (GM : h.Ns mainGlobals mg) (C : He.SaysD fa fn K) (TBs : ∀ p ∈ MX.TL.tf ++ MX.TL.tl.map (·.1), GxR.TabB base mg (He.cT K p).1 (He.cT K p).2) (EF : MX.ErrF K) (EO : ∀ q ∈ erL, MX.ErrOk P w K mg base q.1 q.2) {fd : FuncData} (FD : FunD K d_need_letters.name d_need_letters.qual d_need_letters.params d_need_letters.body d_need_letters.scope (d_need_letters.dvs K) (d_need_letters.kws K) (He.fAd K d_need_letters.at_) fd) : FnOk P w K mg base (L2N.CX P w) 4 (He.ga K "need_letters") fd ["letters"] (spD K 1 (f_need_letters F)) := by
  obtain ⟨⟨fd_is_letters, G_is_letters, b_is_letters⟩, m_is_letters, k_is_letters⟩ := ok_is_letters (P := P) (w := w) (base := base) F KX GM C TBs EF EO
  have sc := sc_need_letters
  refine fn_ok FD sc fun cdv A outer s H E hr => ?_
  have tk := L2N.takes_of (X := cxOf (L2N.CX P w) P w K mg base N_need_letters "need_letters" (defScope s_need_letters) (He.ga K "need_letters") cdv A outer s H E) rfl rfl rfl rfl
  have hx := L2N.passAt (X := cxOf (L2N.CX P w) P w K mg base N_need_letters "need_letters" (defScope s_need_letters) (He.ga K "need_letters") cdv A outer s H E) tk
  show PSs _ (defBody s_need_letters) (LS K _ (c_b_need_letters F))
  unfold c_b_need_letters 
  exact (s_one (s_if (t_not (t_val (e_call G_is_letters (hr.mono (by decide)) m_is_letters k_is_letters b_is_letters hx (a_cons (e_var 0 (pv 0)) a_nil) (len_cons len_nil)))) (s_one (s_raise rfl tk (EO _ er_BadValue) (hr.mono (by decide)) rfl e_str)) s_nil))
theorem ok_need_letters (KX : K.In h) (GM : h.Ns mainGlobals mg) (C : He.SaysD fa fn K) (TBs : ∀ p ∈ MX.TL.tf ++ MX.TL.tl.map (·.1), GxR.TabB base mg (He.cT K p).1 (He.cT K p).2) (EF : MX.ErrF K) (EO : ∀ q ∈ erL, MX.ErrOk P w K mg base q.1 q.2) : DefOk P w K mg base 4 "need_letters" ["letters"] (f_need_letters F) := by
  obtain ⟨fd, FD⟩ := C.def_ 6 (d := d_need_letters) rfl
  have bd : Binds K fd ["letters"] [] := FunD.bindsN FD fun _ _ _ _ _ _ us hl => match us, hl with | [_], _ => rfl
  exact ⟨⟨fd, okf_need_letters F KX GM C TBs EF EO FD, bd⟩, He.glo_ok KX GM (C.fact 6 (f := .glo "need_letters") rfl), FD.kp⟩
theorem sc_is_word : FnScope N_is_word ["letters", "value"] (defScope s_is_word) := ⟨rfl, rfl, rfl, by decide +kernel, rfl, by decide +kernel, by decide +kernel⟩
set_option maxHeartbeats 4000000 in
theorem okf_is_word (KX : K.In h) (GM : h.Ns mainGlobals mg) (C : He.SaysD fa fn K) (TBs : ∀ p ∈ MX.TL.tf ++ MX.TL.tl.map (·.1), GxR.TabB base mg (He.cT K p).1 (He.cT K p).2) (EF : MX.ErrF K) (EO : ∀ q ∈ erL, MX.ErrOk P w K mg base q.1 q.2) {fd : FuncData} (FD : FunD K d_is_word.name d_is_word.qual d_is_word.params d_is_word.body d_is_word.scope (d_is_word.dvs K) (d_is_word.kws K) (He.fAd K d_is_word.at_) fd) : FnOk P w K mg base (L2N.CX P w) 5 (He.ga K "is_word") fd ["letters", "value"] (spD K 2 (f_is_word F)) := by
  obtain ⟨⟨fd_need_letters, G_need_letters, b_need_letters⟩, m_need_letters, k_need_letters⟩ := ok_need_letters (P := P) (w := w) (base := base) F KX GM C TBs EF EO
  obtain ⟨⟨fd_is_over, G_is_over, b_is_over⟩, m_is_over, k_is_over⟩ := ok_is_over (P := P) (w := w) (base := base) F KX GM C TBs EF EO
  have sc := sc_is_word
  refine fn_ok FD sc fun cdv A outer s H E hr => ?_
  have tk := L2N.takes_of (X := cxOf (L2N.CX P w) P w K mg base N_is_word "is_word" (defScope s_is_word) (He.ga K "is_word") cdv A outer s H E) rfl rfl rfl rfl
  have hx := L2N.passAt (X := cxOf (L2N.CX P w) P w K mg base N_is_word "is_word" (defScope s_is_word) (He.ga K "is_word") cdv A outer s H E) tk
  show PSs _ (defBody s_is_word) (LS K _ (c_b_is_word F))
  unfold c_b_is_word 
  exact (s_cons (PS.imp (ps_expr (e_call G_need_letters (hr.mono (by decide)) m_need_letters k_need_letters b_need_letters hx (a_cons (e_var 0 (pv 0)) a_nil) (len_cons len_nil))) le_expr)
      (s_one (s_ret (e_call G_is_over (hr.mono (by decide)) m_is_over k_is_over b_is_over hx (a_cons (e_var 0 (pv 0)) (a_cons (e_var 1 (pv 1)) a_nil)) (len_cons (len_cons len_nil))))))
theorem ok_is_word (KX : K.In h) (GM : h.Ns mainGlobals mg) (C : He.SaysD fa fn K) (TBs : ∀ p ∈ MX.TL.tf ++ MX.TL.tl.map (·.1), GxR.TabB base mg (He.cT K p).1 (He.cT K p).2) (EF : MX.ErrF K) (EO : ∀ q ∈ erL, MX.ErrOk P w K mg base q.1 q.2) : DefOk P w K mg base 5 "is_word" ["letters", "value"] (f_is_word F) := by
  obtain ⟨fd, FD⟩ := C.def_ 7 (d := d_is_word) rfl
  have bd : Binds K fd ["letters", "value"] [] := FunD.bindsN FD fun _ _ _ _ _ _ us hl => match us, hl with | [_, _], _ => rfl
  exact ⟨⟨fd, okf_is_word F KX GM C TBs EF EO FD, bd⟩, He.glo_ok KX GM (C.fact 7 (f := .glo "is_word") rfl), FD.kp⟩
theorem sc_is_look : FnScope N_is_look ["value"] (defScope s_is_look) := ⟨rfl, rfl, rfl, by decide +kernel, rfl, by decide +kernel, by decide +kernel⟩
set_option maxHeartbeats 4000000 in
theorem okf_is_look (KX : K.In h) (GM : h.Ns mainGlobals mg) (C : He.SaysD fa fn K) (TBs : ∀ p ∈ MX.TL.tf ++ MX.TL.tl.map (·.1), GxR.TabB base mg (He.cT K p).1 (He.cT K p).2) (EF : MX.ErrF K) (EO : ∀ q ∈ erL, MX.ErrOk P w K mg base q.1 q.2) {fd : FuncData} (FD : FunD K d_is_look.name d_is_look.qual d_is_look.params d_is_look.body d_is_look.scope (d_is_look.dvs K) (d_is_look.kws K) (He.fAd K d_is_look.at_) fd) : FnOk P w K mg base (L2N.CX P w) 3 (He.ga K "is_look") fd ["value"] (spD K 1 (f_is_look F)) := by
  obtain ⟨⟨fd_is_integer_within, G_is_integer_within, b_is_integer_within⟩, m_is_integer_within, k_is_integer_within⟩ := ok_is_integer_within (P := P) (w := w) (base := base) F KX GM C TBs EF EO
  have c_MOST_LOOK := He.int_ok KX GM (C.fact 48 (f := .int "MOST_LOOK" 12) rfl)
  have sc := sc_is_look
  refine fn_ok FD sc fun cdv A outer s H E hr => ?_
  have tk := L2N.takes_of (X := cxOf (L2N.CX P w) P w K mg base N_is_look "is_look" (defScope s_is_look) (He.ga K "is_look") cdv A outer s H E) rfl rfl rfl rfl
  have hx := L2N.passAt (X := cxOf (L2N.CX P w) P w K mg base N_is_look "is_look" (defScope s_is_look) (He.ga K "is_look") cdv A outer s H E) tk
  show PSs _ (defBody s_is_look) (LS K _ (c_b_is_look F))
  unfold c_b_is_look 
  exact (s_one (s_ret (e_call G_is_integer_within (hr.mono (by decide)) m_is_integer_within k_is_integer_within b_is_integer_within hx (a_cons (e_var 0 (pv 0)) (a_cons e_int (a_cons (e_con (d := .int 12) (pe_glob (v := .int 12) rfl c_MOST_LOOK.choose_spec ⟨_, rfl⟩) fun _ _ => rfl) a_nil))) (len_cons (len_cons (len_cons len_nil))))))
theorem ok_is_look (KX : K.In h) (GM : h.Ns mainGlobals mg) (C : He.SaysD fa fn K) (TBs : ∀ p ∈ MX.TL.tf ++ MX.TL.tl.map (·.1), GxR.TabB base mg (He.cT K p).1 (He.cT K p).2) (EF : MX.ErrF K) (EO : ∀ q ∈ erL, MX.ErrOk P w K mg base q.1 q.2) : DefOk P w K mg base 3 "is_look" ["value"] (f_is_look F) := by
  obtain ⟨fd, FD⟩ := C.def_ 8 (d := d_is_look) rfl
  have bd : Binds K fd ["value"] [] := FunD.bindsN FD fun _ _ _ _ _ _ us hl => match us, hl with | [_], _ => rfl
  exact ⟨⟨fd, okf_is_look F KX GM C TBs EF EO FD, bd⟩, He.glo_ok KX GM (C.fact 8 (f := .glo "is_look") rfl), FD.kp⟩
theorem sc_is_sample : FnScope N_is_sample ["letters", "value"] (defScope s_is_sample) := ⟨rfl, rfl, rfl, by decide +kernel, rfl, by decide +kernel, by decide +kernel⟩
set_option maxHeartbeats 4000000 in
theorem okf_is_sample (KX : K.In h) (GM : h.Ns mainGlobals mg) (C : He.SaysD fa fn K) (TBs : ∀ p ∈ MX.TL.tf ++ MX.TL.tl.map (·.1), GxR.TabB base mg (He.cT K p).1 (He.cT K p).2) (EF : MX.ErrF K) (EO : ∀ q ∈ erL, MX.ErrOk P w K mg base q.1 q.2) {fd : FuncData} (FD : FunD K d_is_sample.name d_is_sample.qual d_is_sample.params d_is_sample.body d_is_sample.scope (d_is_sample.dvs K) (d_is_sample.kws K) (He.fAd K d_is_sample.at_) fd) : FnOk P w K mg base (L2N.CX P w) 7 (He.ga K "is_sample") fd ["letters", "value"] (spD K 2 (f_is_sample F)) := by
  obtain ⟨⟨fd_need_letters, G_need_letters, b_need_letters⟩, m_need_letters, k_need_letters⟩ := ok_need_letters (P := P) (w := w) (base := base) F KX GM C TBs EF EO
  obtain ⟨⟨fd_is_tuple_of, G_is_tuple_of, b_is_tuple_of⟩, m_is_tuple_of, k_is_tuple_of⟩ := ok_is_tuple_of (P := P) (w := w) (base := base) F KX GM C TBs EF EO
  obtain ⟨⟨fd_is_over, G_is_over, b_is_over⟩, m_is_over, k_is_over⟩ := ok_is_over (P := P) (w := w) (base := base) F KX GM C TBs EF EO
  obtain ⟨⟨fd_is_ascending, G_is_ascending, b_is_ascending⟩, m_is_ascending, k_is_ascending⟩ := ok_is_ascending (P := P) (w := w) (base := base) F KX GM C TBs EF EO
  have TB := TBs _ (List.mem_append_left _ tf_is_sample)
  have z_all := He.free_ok KX GM (C.fact 32 (f := .free "all") rfl)
  have z_len := He.free_ok KX GM (C.fact 36 (f := .free "len") rfl)
  have z_str := He.free_ok KX GM (C.fact 41 (f := .free "str") rfl)
  have z_sum := He.free_ok KX GM (C.fact 42 (f := .free "sum") rfl)
  have z_type := He.free_ok KX GM (C.fact 45 (f := .free "type") rfl)
  have c_MOST_SAMPLE_LETTERS := He.int_ok KX GM (C.fact 49 (f := .int "MOST_SAMPLE_LETTERS" 2000) rfl)
  have c_MOST_SAMPLE_WORDS := He.int_ok KX GM (C.fact 50 (f := .int "MOST_SAMPLE_WORDS" 200) rfl)
  have sc := sc_is_sample
  refine fn_okT (p := ("is_sample", none)) FD sc fun cdv A outer s H E hcd hr => ?_
  have tk := L2N.takes_of (X := cxOf (L2N.CX P w) P w K mg base N_is_sample "is_sample" (defScope s_is_sample) (He.ga K "is_sample") cdv A outer s H E) rfl rfl rfl rfl
  have hx := L2N.passAt (X := cxOf (L2N.CX P w) P w K mg base N_is_sample "is_sample" (defScope s_is_sample) (He.ga K "is_sample") cdv A outer s H E) tk
  show PSs _ (defBody s_is_sample) (LS K _ (c_b_is_sample F))
  unfold c_b_is_sample s1_is_sample t2_is_sample s2_is_sample t3_is_sample s3_is_sample t4_is_sample s4_is_sample s5_is_sample G3_is_sample G2_is_sample G1_is_sample
  exact (s_cons (PS.imp (ps_expr (e_call G_need_letters (hr.mono (by decide)) m_need_letters k_need_letters b_need_letters hx (a_cons (e_var 0 (pv 0)) a_nil) (len_cons len_nil))) le_expr)
      (s_cons (s_if (t_not (t_val (e_call G_is_tuple_of (hr.mono (by decide)) m_is_tuple_of k_is_tuple_of b_is_tuple_of hx (a_cons (e_var 1 (pv 1)) (a_cons e_int (a_cons (e_con (d := .int 200) (pe_glob (v := .int 200) rfl c_MOST_SAMPLE_WORDS.choose_spec ⟨_, rfl⟩) fun _ _ => rfl) a_nil))) (len_cons (len_cons (len_cons len_nil)))))) (s_one (s_ret e_bl)) s_nil)
      (s_cons (s_if (t_not (t_val (PE.imp (GX.pe_allG (own := [("word", 2)]) (te := LE _ WF (mBin eqA (mCB typeD (mCons (mVar 2) mNil)) (mC (.ty "str")))) (k := 0) (hr.mono (by decide)) rfl z_all (by decide +kernel) TB hcd (gsc_by (N := N_is_sample) (sc := defScope s_is_sample) (by decide +kernel) (by decide +kernel)) sc.nd (pi_tup (e_var 1 (pv 1))) (fun _ _ _ _ _ _ => (pg_name (i := 2) sc.nd rfl (by first | exact Or.inl rfl | exact Or.inr rfl))) (fun _ _ _ _ _ _ hr => (e_cmp o_eq rd_eqA (PE.imp (pe_callTy call_type1 rfl z_type (by decide +kernel) (a_cons (e_var 2 (pv 2)) a_nil)) (le_cb rd_type)) (e_con (d := .ty "str") (pe_bltn (v := .ty "str") rfl z_str (by decide +kernel) rfl) fun _ _ => rfl) (nomark _))) (fun _ => rfl)) (le_genT (gd_name 2) (gw_name 2) tf_is_sample)))) (s_one (s_ret e_bl)) s_nil)
      (s_cons (s_if (t_cmp op_gt rd_cmp (PE.imp (GX.pe_sumG (own := [("word", 2)]) (te := LE _ WF (mCB lenD (mCons (mVar 2) mNil))) (k := 0) (hr.mono (by decide)) rfl z_sum (by decide +kernel) TB hcd (gsc_by (N := N_is_sample) (sc := defScope s_is_sample) (by decide +kernel) (by decide +kernel)) sc.nd (pi_tup (e_var 1 (pv 1))) (fun _ _ _ _ _ _ => (pg_name (i := 2) sc.nd rfl (by first | exact Or.inl rfl | exact Or.inr rfl))) (fun _ _ _ _ _ _ hr => (PE.imp (pe_callB call_len rfl z_len boot_len (a_cons (e_var 2 (pv 2)) a_nil)) (le_cb rd_len))) (fun _ => rfl)) (le_sumT (gd_name 2) (gw_name 2) tf_is_sample)) (e_con (d := .int 2000) (pe_glob (v := .int 2000) rfl c_MOST_SAMPLE_LETTERS.choose_spec ⟨_, rfl⟩) fun _ _ => rfl) (nomark _)) (s_one (s_ret e_bl)) s_nil)
      (s_one (s_ret (e_and (PE.imp (GX.pe_allG (own := [("word", 2)]) (te := LE _ WF (mCall (f_is_over F) (mCons (mVar 0) (mCons (mVar 2) mNil)))) (k := 2) (hr.mono (by decide)) rfl z_all (by decide +kernel) TB hcd (gsc_by (N := N_is_sample) (sc := defScope s_is_sample) (by decide +kernel) (by decide +kernel)) sc.nd (pi_tup (e_var 1 (pv 1))) (fun _ _ _ _ _ _ => (pg_name (i := 2) sc.nd rfl (by first | exact Or.inl rfl | exact Or.inr rfl))) (fun _ _ _ _ _ _ hr => (e_call G_is_over (hr.mono (by decide)) m_is_over k_is_over b_is_over passF (a_cons (e_var 0 (pv 0)) (a_cons (e_var 2 (pv 2)) a_nil)) (len_cons (len_cons len_nil)))) (fun _ => rfl)) (le_genT (gd_name 2) (gw_name 2) tf_is_sample)) (pe_one (e_call G_is_ascending (hr.mono (by decide)) m_is_ascending k_is_ascending b_is_ascending hx (a_cons (e_var 1 (pv 1)) a_nil) (len_cons len_nil))))))))))
theorem ok_is_sample (KX : K.In h) (GM : h.Ns mainGlobals mg) (C : He.SaysD fa fn K) (TBs : ∀ p ∈ MX.TL.tf ++ MX.TL.tl.map (·.1), GxR.TabB base mg (He.cT K p).1 (He.cT K p).2) (EF : MX.ErrF K) (EO : ∀ q ∈ erL, MX.ErrOk P w K mg base q.1 q.2) : DefOk P w K mg base 7 "is_sample" ["letters", "value"] (f_is_sample F) := by
  obtain ⟨fd, FD⟩ := C.def_ 9 (d := d_is_sample) rfl
  have bd : Binds K fd ["letters", "value"] [] := FunD.bindsN FD fun _ _ _ _ _ _ us hl => match us, hl with | [_, _], _ => rfl
  exact ⟨⟨fd, okf_is_sample F KX GM C TBs EF EO FD, bd⟩, He.glo_ok KX GM (C.fact 9 (f := .glo "is_sample") rfl), FD.kp⟩
theorem sc_law_stream : FnScope N_law_stream ["script"] (defScope s_law_stream) := ⟨rfl, rfl, rfl, by decide +kernel, rfl, by decide +kernel, by decide +kernel⟩
set_option maxHeartbeats 4000000 in
theorem okf_law_stream (KX : K.In h) (GM : h.Ns mainGlobals mg) (C : He.SaysD fa fn K) (TBs : ∀ p ∈ MX.TL.tf ++ MX.TL.tl.map (·.1), GxR.TabB base mg (He.cT K p).1 (He.cT K p).2) (EF : MX.ErrF K) (EO : ∀ q ∈ erL, MX.ErrOk P w K mg base q.1 q.2) {fd : FuncData} (FD : FunD K d_law_stream.name d_law_stream.qual d_law_stream.params d_law_stream.body d_law_stream.scope (d_law_stream.dvs K) (d_law_stream.kws K) (He.fAd K d_law_stream.at_) fd) : FnOk P w K mg base (L2N.CX P w) 2 (He.ga K "_law_stream") fd ["script"] (spD K 1 (f_law_stream F)) := by
  have z_list := He.free_ok KX GM (C.fact 37 (f := .free "list") rfl)
  have sc := sc_law_stream
  refine fn_ok FD sc fun cdv A outer s H E hr => ?_
  have tk := L2N.takes_of (X := cxOf (L2N.CX P w) P w K mg base N_law_stream "_law_stream" (defScope s_law_stream) (He.ga K "_law_stream") cdv A outer s H E) rfl rfl rfl rfl
  have hx := L2N.passAt (X := cxOf (L2N.CX P w) P w K mg base N_law_stream "_law_stream" (defScope s_law_stream) (He.ga K "_law_stream") cdv A outer s H E) tk
  show PSs _ (defBody s_law_stream) (LS K _ (c_b_law_stream F))
  unfold c_b_law_stream 
  exact (s_one (s_ret (e_lst (a_cons (PE.imp (pe_callTy call_list_of rfl z_list (by decide +kernel) (a_cons (e_var 0 (pv 0)) a_nil)) (le_cb rd_list)) (a_cons e_int (a_cons e_int a_nil))))))
theorem ok_law_stream (KX : K.In h) (GM : h.Ns mainGlobals mg) (C : He.SaysD fa fn K) (TBs : ∀ p ∈ MX.TL.tf ++ MX.TL.tl.map (·.1), GxR.TabB base mg (He.cT K p).1 (He.cT K p).2) (EF : MX.ErrF K) (EO : ∀ q ∈ erL, MX.ErrOk P w K mg base q.1 q.2) : DefOk P w K mg base 2 "_law_stream" ["script"] (f_law_stream F) := by
  obtain ⟨fd, FD⟩ := C.def_ 10 (d := d_law_stream) rfl
  have bd : Binds K fd ["script"] [] := FunD.bindsN FD fun _ _ _ _ _ _ us hl => match us, hl with | [_], _ => rfl
  exact ⟨⟨fd, okf_law_stream F KX GM C TBs EF EO FD, bd⟩, He.glo_ok KX GM (C.fact 10 (f := .glo "_law_stream") rfl), FD.kp⟩
theorem sc_law_next : FnScope N_law_next ["stream", "many"] (defScope s_law_next) := ⟨rfl, rfl, rfl, by decide +kernel, rfl, by decide +kernel, by decide +kernel⟩
set_option maxHeartbeats 4000000 in
theorem okf_law_next (KX : K.In h) (GM : h.Ns mainGlobals mg) (C : He.SaysD fa fn K) (TBs : ∀ p ∈ MX.TL.tf ++ MX.TL.tl.map (·.1), GxR.TabB base mg (He.cT K p).1 (He.cT K p).2) (EF : MX.ErrF K) (EO : ∀ q ∈ erL, MX.ErrOk P w K mg base q.1 q.2) {fd : FuncData} (FD : FunD K d_law_next.name d_law_next.qual d_law_next.params d_law_next.body d_law_next.scope (d_law_next.dvs K) (d_law_next.kws K) (He.fAd K d_law_next.at_) fd) : FnOk P w K mg base (L2N.CX P w) 2 (He.ga K "_law_next") fd ["stream", "many"] (spD K 2 (f_law_next F)) := by
  have z_abs := He.free_ok KX GM (C.fact 31 (f := .free "abs") rfl)
  have z_int := He.free_ok KX GM (C.fact 34 (f := .free "int") rfl)
  have z_len := He.free_ok KX GM (C.fact 36 (f := .free "len") rfl)
  have sc := sc_law_next
  refine fn_ok FD sc fun cdv A outer s H E hr => ?_
  have tk := L2N.takes_of (X := cxOf (L2N.CX P w) P w K mg base N_law_next "_law_next" (defScope s_law_next) (He.ga K "_law_next") cdv A outer s H E) rfl rfl rfl rfl
  have hx := L2N.passAt (X := cxOf (L2N.CX P w) P w K mg base N_law_next "_law_next" (defScope s_law_next) (He.ga K "_law_next") cdv A outer s H E) tk
  show PSs _ (defBody s_law_next) (LS K _ (c_b_law_next F))
  unfold c_b_law_next 
  exact (s_cons (s_if (t_cmp o_eq rd_eqA (e_ix ix_seq rd_ix (e_var 0 (pv 0)) e_int (fun _ _ => rfl)) e_int (nomark _)) (s_cons (PS.imp (ps_set (i := 3) sc.nd rfl (by first | exact Or.inl rfl | exact Or.inr rfl) (e_ix ix_seq rd_ix (e_var 0 (pv 0)) e_int (fun _ _ => rfl))) le_set)
      (s_cons (PS.imp (ps_set (i := 4) sc.nd rfl (by first | exact Or.inl rfl | exact Or.inr rfl) (e_bin o_add rd_add e_int (e_var 3 (pv 3)))) le_set)
      (s_cons (s_if (t_cmp o_lt rd_lt (e_var 3 (pv 3)) (PE.imp (pe_callB call_len rfl z_len boot_len (a_cons (e_ix ix_seq rd_ix (e_var 0 (pv 0)) e_int (fun _ _ => rfl)) a_nil)) (le_cb rd_len)) (nomark _)) (s_one (PS.imp (ps_set (i := 4) sc.nd rfl (by first | exact Or.inl rfl | exact Or.inr rfl) (PE.imp (pe_callB call_abs rfl z_abs (by decide +kernel) (a_cons (e_ix ix_seq rd_ix (e_ix ix_seq rd_ix (e_var 0 (pv 0)) e_int (fun _ _ => rfl)) (e_var 3 (pv 3)) (fun _ _ => rfl)) a_nil)) (le_cb rd_abs))) le_set)) s_nil)
      (s_cons (s_if (t_cmp o_lt rd_lt (e_var 4 (pv 4)) (e_bin op_pow rd_int e_int e_int) (nomark _)) (s_cons (PS.imp (ps_set (i := 4) sc.nd rfl (by first | exact Or.inl rfl | exact Or.inr rfl) (e_bin op_modN rd_int (PE.imp (pe_callTy call_int1 rfl z_int (by decide +kernel) (a_cons (e_bin o_add rd_add (e_bin o_add rd_add (e_bin o_mulA rd_mulA (e_var 4 (pv 4)) e_int) (e_bin o_mulA rd_mulA (e_var 3 (pv 3)) e_int)) e_int) a_nil)) (le_cb rd_intC)) e_int)) le_set)
      (s_one (PS.imp (ps_set (i := 4) sc.nd rfl (by first | exact Or.inl rfl | exact Or.inr rfl) (e_bin o_add rd_add (e_bin o_mulA rd_mulA (e_bin op_modN rd_int (PE.imp (pe_callTy call_int1 rfl z_int (by decide +kernel) (a_cons (e_bin o_add rd_add (e_bin o_mulA rd_mulA (e_var 4 (pv 4)) e_int) e_int) a_nil)) (le_cb rd_intC)) e_int) e_int) (e_var 4 (pv 4)))) le_set))) s_nil)
      (s_cons (PS.imp (ps_asg (e_var 4 (pv 4)) (pg_sub (e_var 0 (pv 0)) e_int set_list)) le_setIt)
      (s_one (PS.imp (ps_asg (e_bin o_add rd_add (e_var 3 (pv 3)) e_int) (pg_sub (e_var 0 (pv 0)) e_int set_list)) le_setIt))))))) s_nil)
      (s_cons (PS.imp (ps_set (i := 2) sc.nd rfl (by first | exact Or.inl rfl | exact Or.inr rfl) (e_bin op_modN rd_int (PE.imp (pe_callTy call_int1 rfl z_int (by decide +kernel) (a_cons (e_ix ix_seq rd_ix (e_var 0 (pv 0)) e_int (fun _ _ => rfl)) a_nil)) (le_cb rd_intC)) (e_var 1 (pv 1)))) le_set)
      (s_cons (PS.imp (ps_asg (e_bin op_fdivN rd_int (e_ix ix_seq rd_ix (e_var 0 (pv 0)) e_int (fun _ _ => rfl)) (e_var 1 (pv 1))) (pg_sub (e_var 0 (pv 0)) e_int set_list)) le_setIt)
      (s_one (s_ret (e_var 2 (pv 2)))))))
theorem ok_law_next (KX : K.In h) (GM : h.Ns mainGlobals mg) (C : He.SaysD fa fn K) (TBs : ∀ p ∈ MX.TL.tf ++ MX.TL.tl.map (·.1), GxR.TabB base mg (He.cT K p).1 (He.cT K p).2) (EF : MX.ErrF K) (EO : ∀ q ∈ erL, MX.ErrOk P w K mg base q.1 q.2) : DefOk P w K mg base 2 "_law_next" ["stream", "many"] (f_law_next F) := by
  obtain ⟨fd, FD⟩ := C.def_ 11 (d := d_law_next) rfl
  have bd : Binds K fd ["stream", "many"] [] := FunD.bindsN FD fun _ _ _ _ _ _ us hl => match us, hl with | [_, _], _ => rfl
  exact ⟨⟨fd, okf_law_next F KX GM C TBs EF EO FD, bd⟩, He.glo_ok KX GM (C.fact 11 (f := .glo "_law_next") rfl), FD.kp⟩
theorem sc_law_pick : FnScope N_law_pick ["stream", "rows"] (defScope s_law_pick) := ⟨rfl, rfl, rfl, by decide +kernel, rfl, by decide +kernel, by decide +kernel⟩
set_option maxHeartbeats 4000000 in
theorem okf_law_pick (KX : K.In h) (GM : h.Ns mainGlobals mg) (C : He.SaysD fa fn K) (TBs : ∀ p ∈ MX.TL.tf ++ MX.TL.tl.map (·.1), GxR.TabB base mg (He.cT K p).1 (He.cT K p).2) (EF : MX.ErrF K) (EO : ∀ q ∈ erL, MX.ErrOk P w K mg base q.1 q.2) {fd : FuncData} (FD : FunD K d_law_pick.name d_law_pick.qual d_law_pick.params d_law_pick.body d_law_pick.scope (d_law_pick.dvs K) (d_law_pick.kws K) (He.fAd K d_law_pick.at_) fd) : FnOk P w K mg base (L2N.CX P w) 3 (He.ga K "_law_pick") fd ["stream", "rows"] (spD K 2 (f_law_pick F)) := by
  obtain ⟨⟨fd_law_next, G_law_next, b_law_next⟩, m_law_next, k_law_next⟩ := ok_law_next (P := P) (w := w) (base := base) F KX GM C TBs EF EO
  have z_len := He.free_ok KX GM (C.fact 36 (f := .free "len") rfl)
  have sc := sc_law_pick
  refine fn_ok FD sc fun cdv A outer s H E hr => ?_
  have tk := L2N.takes_of (X := cxOf (L2N.CX P w) P w K mg base N_law_pick "_law_pick" (defScope s_law_pick) (He.ga K "_law_pick") cdv A outer s H E) rfl rfl rfl rfl
  have hx := L2N.passAt (X := cxOf (L2N.CX P w) P w K mg base N_law_pick "_law_pick" (defScope s_law_pick) (He.ga K "_law_pick") cdv A outer s H E) tk
  show PSs _ (defBody s_law_pick) (LS K _ (c_b_law_pick F))
  unfold c_b_law_pick 
  exact (s_one (s_ret (e_ix ix_seq rd_ix (e_var 1 (pv 1)) (e_call G_law_next (hr.mono (by decide)) m_law_next k_law_next b_law_next hx (a_cons (e_var 0 (pv 0)) (a_cons (PE.imp (pe_callB call_len rfl z_len boot_len (a_cons (e_var 1 (pv 1)) a_nil)) (le_cb rd_len)) a_nil)) (len_cons (len_cons len_nil))) (fun _ _ => rfl))))
theorem ok_law_pick (KX : K.In h) (GM : h.Ns mainGlobals mg) (C : He.SaysD fa fn K) (TBs : ∀ p ∈ MX.TL.tf ++ MX.TL.tl.map (·.1), GxR.TabB base mg (He.cT K p).1 (He.cT K p).2) (EF : MX.ErrF K) (EO : ∀ q ∈ erL, MX.ErrOk P w K mg base q.1 q.2) : DefOk P w K mg base 3 "_law_pick" ["stream", "rows"] (f_law_pick F) := by
  obtain ⟨fd, FD⟩ := C.def_ 12 (d := d_law_pick) rfl
  have bd : Binds K fd ["stream", "rows"] [] := FunD.bindsN FD fun _ _ _ _ _ _ us hl => match us, hl with | [_, _], _ => rfl
  exact ⟨⟨fd, okf_law_pick F KX GM C TBs EF EO FD, bd⟩, He.glo_ok KX GM (C.fact 12 (f := .glo "_law_pick") rfl), FD.kp⟩
theorem sc_law_letters : FnScope N_law_letters ["stream"] (defScope s_law_letters) := ⟨rfl, rfl, rfl, by decide +kernel, rfl, by decide +kernel, by decide +kernel⟩
set_option maxHeartbeats 4000000 in
theorem okf_law_letters (KX : K.In h) (GM : h.Ns mainGlobals mg) (C : He.SaysD fa fn K) (TBs : ∀ p ∈ MX.TL.tf ++ MX.TL.tl.map (·.1), GxR.TabB base mg (He.cT K p).1 (He.cT K p).2) (EF : MX.ErrF K) (EO : ∀ q ∈ erL, MX.ErrOk P w K mg base q.1 q.2) {fd : FuncData} (FD : FunD K d_law_letters.name d_law_letters.qual d_law_letters.params d_law_letters.body d_law_letters.scope (d_law_letters.dvs K) (d_law_letters.kws K) (He.fAd K d_law_letters.at_) fd) : FnOk P w K mg base (L2N.CX P w) 4 (He.ga K "_law_letters") fd ["stream"] (spD K 1 (f_law_letters F)) := by
  obtain ⟨⟨fd_law_next, G_law_next, b_law_next⟩, m_law_next, k_law_next⟩ := ok_law_next (P := P) (w := w) (base := base) F KX GM C TBs EF EO
  obtain ⟨⟨fd_law_pick, G_law_pick, b_law_pick⟩, m_law_pick, k_law_pick⟩ := ok_law_pick (P := P) (w := w) (base := base) F KX GM C TBs EF EO
  have z_range := He.free_ok KX GM (C.fact 38 (f := .free "range") rfl)
  have z_sorted := He.free_ok KX GM (C.fact 40 (f := .free "sorted") rfl)
  have sc := sc_law_letters
  refine fn_ok FD sc fun cdv A outer s H E hr => ?_
  have tk := L2N.takes_of (X := cxOf (L2N.CX P w) P w K mg base N_law_letters "_law_letters" (defScope s_law_letters) (He.ga K "_law_letters") cdv A outer s H E) rfl rfl rfl rfl
  have hx := L2N.passAt (X := cxOf (L2N.CX P w) P w K mg base N_law_letters "_law_letters" (defScope s_law_letters) (He.ga K "_law_letters") cdv A outer s H E) tk
  show PSs _ (defBody s_law_letters) (LS K _ (c_b_law_letters F))
  unfold c_b_law_letters B1_law_letters C1_law_letters
  exact (s_cons (PS.imp (ps_set (i := 1) sc.nd rfl (by first | exact Or.inl rfl | exact Or.inr rfl) (e_lst a_nil)) le_set)
      (s_cons (PS.imp (ps_for (passes_of rfl) rfl (pi_range1 rfl z_range (a_cons (e_bin o_add rd_add e_int (e_call G_law_next (hr.mono (by decide)) m_law_next k_law_next b_law_next hx (a_cons (e_var 0 (pv 0)) (a_cons e_int a_nil)) (len_cons (len_cons len_nil)))) a_nil)) (pg_name (i := 2) sc.nd rfl (by first | exact Or.inl rfl | exact Or.inr rfl)) (s_one (PS.imp (ps_expr (PE.imp (pe_bm PySem.F.plainAttrs_list PySem.F.slot_list_append PySem.F.type_list_append mt_append (e_var 1 (pv 1)) (a_cons (e_call G_law_pick (hr.mono (by decide)) m_law_pick k_law_pick b_law_pick hx (a_cons (e_var 0 (pv 0)) (a_cons (PE.imp (pe_lc (own := [("letter", 3)]) (tt := LT _ WF (mTest (mBin (inA true) (mVar 3) (mVar 1)))) (te := LE _ WF (mVar 3)) rfl sc.nd (pi_str e_str) (blkOk_by (own := [("letter", 3)]) (N := N_law_letters) (sc := defScope s_law_letters) (by decide +kernel)) (fun _ _ _ _ _ => (pg_name (i := 3) sc.nd rfl (by first | exact Or.inl rfl | exact Or.inr rfl))) (fun _ _ _ _ _ => ts_one (t_cmp o_notIn rd_in (e_var 3 (pv 3)) (e_var 1 (pv 1)) rfl)) (fun _ _ _ _ _ => (e_var 3 (pv 3)))) (le_lcS (gd_name 3) (gw_name 3) (fun _ _ _ h => h))) a_nil)) (len_cons (len_cons len_nil))) a_nil)) (le_bm rd_append))) le_expr))) (le_forR1 (gd_name 2)))
      (s_one (s_ret (PE.imp (pe_bm PySem.F.plainAttrs_str PySem.F.slot_str_join PySem.F.type_str_join mt_join e_str (a_cons (PE.imp (pe_callB (cr_sortT hr) rfl z_sorted (by decide +kernel) (a_cons (e_var 1 (pv 1)) a_nil)) (le_cb rd_sortT)) a_nil)) (le_bmS rd_join))))))
theorem ok_law_letters (KX : K.In h) (GM : h.Ns mainGlobals mg) (C : He.SaysD fa fn K) (TBs : ∀ p ∈ MX.TL.tf ++ MX.TL.tl.map (·.1), GxR.TabB base mg (He.cT K p).1 (He.cT K p).2) (EF : MX.ErrF K) (EO : ∀ q ∈ erL, MX.ErrOk P w K mg base q.1 q.2) : DefOk P w K mg base 4 "_law_letters" ["stream"] (f_law_letters F) := by
  obtain ⟨fd, FD⟩ := C.def_ 13 (d := d_law_letters) rfl
  have bd : Binds K fd ["stream"] [] := FunD.bindsN FD fun _ _ _ _ _ _ us hl => match us, hl with | [_], _ => rfl
  exact ⟨⟨fd, okf_law_letters F KX GM C TBs EF EO FD, bd⟩, He.glo_ok KX GM (C.fact 13 (f := .glo "_law_letters") rfl), FD.kp⟩
theorem sc_law_word : FnScope N_law_word ["stream", "letters", "least", "most"] (defScope s_law_word) := ⟨rfl, rfl, rfl, by decide +kernel, rfl, by decide +kernel, by decide +kernel⟩
set_option maxHeartbeats 4000000 in
theorem okf_law_word (KX : K.In h) (GM : h.Ns mainGlobals mg) (C : He.SaysD fa fn K) (TBs : ∀ p ∈ MX.TL.tf ++ MX.TL.tl.map (·.1), GxR.TabB base mg (He.cT K p).1 (He.cT K p).2) (EF : MX.ErrF K) (EO : ∀ q ∈ erL, MX.ErrOk P w K mg base q.1 q.2) {fd : FuncData} (FD : FunD K d_law_word.name d_law_word.qual d_law_word.params d_law_word.body d_law_word.scope (d_law_word.dvs K) (d_law_word.kws K) (He.fAd K d_law_word.at_) fd) : FnOk P w K mg base (L2N.CX P w) 3 (He.ga K "_law_word") fd ["stream", "letters", "least", "most"] (spD K 4 (f_law_word F)) := by
  obtain ⟨⟨fd_law_next, G_law_next, b_law_next⟩, m_law_next, k_law_next⟩ := ok_law_next (P := P) (w := w) (base := base) F KX GM C TBs EF EO
  have z_len := He.free_ok KX GM (C.fact 36 (f := .free "len") rfl)
  have z_range := He.free_ok KX GM (C.fact 38 (f := .free "range") rfl)
  have sc := sc_law_word
  refine fn_ok FD sc fun cdv A outer s H E hr => ?_
  have tk := L2N.takes_of (X := cxOf (L2N.CX P w) P w K mg base N_law_word "_law_word" (defScope s_law_word) (He.ga K "_law_word") cdv A outer s H E) rfl rfl rfl rfl
  have hx := L2N.passAt (X := cxOf (L2N.CX P w) P w K mg base N_law_word "_law_word" (defScope s_law_word) (He.ga K "_law_word") cdv A outer s H E) tk
  show PSs _ (defBody s_law_word) (LS K _ (c_b_law_word F))
  unfold c_b_law_word B1_law_word
  exact (s_cons (PS.imp (ps_set (i := 4) sc.nd rfl (by first | exact Or.inl rfl | exact Or.inr rfl) e_str) le_set)
      (s_cons (PS.imp (ps_for (passes_of rfl) rfl (pi_range1 rfl z_range (a_cons (e_bin o_add rd_add (e_var 2 (pv 2)) (e_call G_law_next (hr.mono (by decide)) m_law_next k_law_next b_law_next hx (a_cons (e_var 0 (pv 0)) (a_cons (e_bin o_add rd_add (e_bin op_sub rd_sub (e_var 3 (pv 3)) (e_var 2 (pv 2))) e_int) a_nil)) (len_cons (len_cons len_nil)))) a_nil)) (pg_name (i := 5) sc.nd rfl (by first | exact Or.inl rfl | exact Or.inr rfl)) (s_one (PS.imp (ps_set (i := 4) sc.nd rfl (by first | exact Or.inl rfl | exact Or.inr rfl) (e_bin o_add rd_add (e_var 4 (pv 4)) (e_ix ix_seq rd_ix (e_var 1 (pv 1)) (e_call G_law_next (hr.mono (by decide)) m_law_next k_law_next b_law_next hx (a_cons (e_var 0 (pv 0)) (a_cons (PE.imp (pe_callB call_len rfl z_len boot_len (a_cons (e_var 1 (pv 1)) a_nil)) (le_cb rd_len)) a_nil)) (len_cons (len_cons len_nil))) (fun _ _ => rfl)))) le_set))) (le_forR1 (gd_name 5)))
      (s_one (s_ret (e_var 4 (pv 4))))))
theorem ok_law_word (KX : K.In h) (GM : h.Ns mainGlobals mg) (C : He.SaysD fa fn K) (TBs : ∀ p ∈ MX.TL.tf ++ MX.TL.tl.map (·.1), GxR.TabB base mg (He.cT K p).1 (He.cT K p).2) (EF : MX.ErrF K) (EO : ∀ q ∈ erL, MX.ErrOk P w K mg base q.1 q.2) : DefOk P w K mg base 3 "_law_word" ["stream", "letters", "least", "most"] (f_law_word F) := by
  obtain ⟨fd, FD⟩ := C.def_ 14 (d := d_law_word) rfl
  have bd : Binds K fd ["stream", "letters", "least", "most"] [] := FunD.bindsN FD fun _ _ _ _ _ _ us hl => match us, hl with | [_, _, _, _], _ => rfl
  exact ⟨⟨fd, okf_law_word F KX GM C TBs EF EO FD, bd⟩, He.glo_ok KX GM (C.fact 14 (f := .glo "_law_word") rfl), FD.kp⟩
theorem sc_law_says : FnScope N_law_says ["actual", "due"] (defScope s_law_says) := ⟨rfl, rfl, rfl, by decide +kernel, rfl, by decide +kernel, by decide +kernel⟩
set_option maxHeartbeats 4000000 in
theorem okf_law_says (KX : K.In h) (GM : h.Ns mainGlobals mg) (C : He.SaysD fa fn K) (TBs : ∀ p ∈ MX.TL.tf ++ MX.TL.tl.map (·.1), GxR.TabB base mg (He.cT K p).1 (He.cT K p).2) (EF : MX.ErrF K) (EO : ∀ q ∈ erL, MX.ErrOk P w K mg base q.1 q.2) {fd : FuncData} (FD : FunD K d_law_says.name d_law_says.qual d_law_says.params d_law_says.body d_law_says.scope (d_law_says.dvs K) (d_law_says.kws K) (He.fAd K d_law_says.at_) fd) : FnOk P w K mg base (L2N.CX P w) 2 (He.ga K "_law_says") fd ["actual", "due"] (spD K 2 (f_law_says F)) := by
  have sc := sc_law_says
  refine fn_ok FD sc fun cdv A outer s H E hr => ?_
  have tk := L2N.takes_of (X := cxOf (L2N.CX P w) P w K mg base N_law_says "_law_says" (defScope s_law_says) (He.ga K "_law_says") cdv A outer s H E) rfl rfl rfl rfl
  have hx := L2N.passAt (X := cxOf (L2N.CX P w) P w K mg base N_law_says "_law_says" (defScope s_law_says) (He.ga K "_law_says") cdv A outer s H E) tk
  show PSs _ (defBody s_law_says) (LS K _ (c_b_law_says F))
  unfold c_b_law_says 
  exact (s_one (s_ret (e_if (t_val (e_var 1 (pv 1))) (e_cmp o_is rd_is (e_var 0 (pv 0)) e_bl (nomark _)) (e_cmp o_is rd_is (e_var 0 (pv 0)) e_bl (nomark _)))))
theorem ok_law_says (KX : K.In h) (GM : h.Ns mainGlobals mg) (C : He.SaysD fa fn K) (TBs : ∀ p ∈ MX.TL.tf ++ MX.TL.tl.map (·.1), GxR.TabB base mg (He.cT K p).1 (He.cT K p).2) (EF : MX.ErrF K) (EO : ∀ q ∈ erL, MX.ErrOk P w K mg base q.1 q.2) : DefOk P w K mg base 2 "_law_says" ["actual", "due"] (f_law_says F) := by
  obtain ⟨fd, FD⟩ := C.def_ 15 (d := d_law_says) rfl
  have bd : Binds K fd ["actual", "due"] [] := FunD.bindsN FD fun _ _ _ _ _ _ us hl => match us, hl with | [_, _], _ => rfl
  exact ⟨⟨fd, okf_law_says F KX GM C TBs EF EO FD, bd⟩, He.glo_ok KX GM (C.fact 15 (f := .glo "_law_says") rfl), FD.kp⟩
theorem sc_law_stranger : FnScope N_law_stranger ["stream", "letter"] (defScope s_law_stranger) := ⟨rfl, rfl, rfl, by decide +kernel, rfl, by decide +kernel, by decide +kernel⟩
set_option maxHeartbeats 4000000 in
theorem okf_law_stranger (KX : K.In h) (GM : h.Ns mainGlobals mg) (C : He.SaysD fa fn K) (TBs : ∀ p ∈ MX.TL.tf ++ MX.TL.tl.map (·.1), GxR.TabB base mg (He.cT K p).1 (He.cT K p).2) (EF : MX.ErrF K) (EO : ∀ q ∈ erL, MX.ErrOk P w K mg base q.1 q.2) {fd : FuncData} (FD : FunD K d_law_stranger.name d_law_stranger.qual d_law_stranger.params d_law_stranger.body d_law_stranger.scope (d_law_stranger.dvs K) (d_law_stranger.kws K) (He.fAd K d_law_stranger.at_) fd) : FnOk P w K mg base (L2N.CX P w) 4 (He.ga K "_law_stranger") fd ["stream", "letter"] (spD K 2 (f_law_stranger F)) := by
  obtain ⟨⟨fd_law_next, G_law_next, b_law_next⟩, m_law_next, k_law_next⟩ := ok_law_next (P := P) (w := w) (base := base) F KX GM C TBs EF EO
  obtain ⟨⟨fd_law_pick, G_law_pick, b_law_pick⟩, m_law_pick, k_law_pick⟩ := ok_law_pick (P := P) (w := w) (base := base) F KX GM C TBs EF EO
  have sc := sc_law_stranger
  refine fn_ok FD sc fun cdv A outer s H E hr => ?_
  have tk := L2N.takes_of (X := cxOf (L2N.CX P w) P w K mg base N_law_stranger "_law_stranger" (defScope s_law_stranger) (He.ga K "_law_stranger") cdv A outer s H E) rfl rfl rfl rfl
  have hx := L2N.passAt (X := cxOf (L2N.CX P w) P w K mg base N_law_stranger "_law_stranger" (defScope s_law_stranger) (He.ga K "_law_stranger") cdv A outer s H E) tk
  show PSs _ (defBody s_law_stranger) (LS K _ (c_b_law_stranger F))
  unfold c_b_law_stranger s1_law_stranger t2_law_stranger s2_law_stranger t3_law_stranger s3_law_stranger t4_law_stranger s4_law_stranger t5_law_stranger s5_law_stranger t6_law_stranger s6_law_stranger t7_law_stranger s7_law_stranger t8_law_stranger s8_law_stranger t9_law_stranger s9_law_stranger t10_law_stranger s10_law_stranger t11_law_stranger s11_law_stranger t12_law_stranger s12_law_stranger s13_law_stranger
  exact (s_cons (PS.imp (ps_set (i := 2) sc.nd rfl (by first | exact Or.inl rfl | exact Or.inr rfl) (e_call G_law_next (hr.mono (by decide)) m_law_next k_law_next b_law_next hx (a_cons (e_var 0 (pv 0)) (a_cons e_int a_nil)) (len_cons (len_cons len_nil)))) le_set)
      (s_cons (s_if (t_cmp o_eq rd_eqA (e_var 2 (pv 2)) e_int (nomark _)) (s_one (s_ret e_non)) s_nil)
      (s_cons (s_if (t_cmp o_eq rd_eqA (e_var 2 (pv 2)) e_int (nomark _)) (s_one (s_ret e_bl)) s_nil)
      (s_cons (s_if (t_cmp o_eq rd_eqA (e_var 2 (pv 2)) e_int (nomark _)) (s_one (s_ret (e_bin op_sub rd_sub (e_call G_law_next (hr.mono (by decide)) m_law_next k_law_next b_law_next hx (a_cons (e_var 0 (pv 0)) (a_cons e_int a_nil)) (len_cons (len_cons len_nil))) e_int))) s_nil)
      (s_cons (s_if (t_cmp o_eq rd_eqA (e_var 2 (pv 2)) e_int (nomark _)) (s_one (s_ret (e_tup (a_cons (e_var 1 (pv 1)) a_nil)))) s_nil)
      (s_cons (s_if (t_cmp o_eq rd_eqA (e_var 2 (pv 2)) e_int (nomark _)) (s_one (s_ret (e_lst (a_cons (e_var 1 (pv 1)) a_nil)))) s_nil)
      (s_cons (s_if (t_cmp o_eq rd_eqA (e_var 2 (pv 2)) e_int (nomark _)) (s_one (s_ret (e_tup a_nil))) s_nil)
      (s_cons (s_if (t_cmp o_eq rd_eqA (e_var 2 (pv 2)) e_int (nomark _)) (s_one (s_ret (e_tup (a_cons (e_tup a_nil) (a_cons (e_var 1 (pv 1)) a_nil))))) s_nil)
      (s_cons (s_if (t_cmp o_eq rd_eqA (e_var 2 (pv 2)) e_int (nomark _)) (s_one (s_ret (PE.imp (pe_bm0 PySem.F.plainAttrs_str PySem.F.slot_str_upper PySem.F.type_str_upper mt_upper (e_var 1 (pv 1))) (le_bmS0 rd_supper)))) s_nil)
      (s_cons (s_if (t_cmp o_eq rd_eqA (e_var 2 (pv 2)) e_int (nomark _)) (s_one (s_ret (e_call G_law_pick (hr.mono (by decide)) m_law_pick k_law_pick b_law_pick hx (a_cons (e_var 0 (pv 0)) (a_cons (e_lst (a_cons e_str (a_cons e_str (a_cons e_str (a_cons e_str (a_cons e_str (a_cons e_str (a_cons e_str (a_cons e_str a_nil))))))))) a_nil)) (len_cons (len_cons len_nil))))) s_nil)
      (s_cons (s_if (t_cmp o_eq rd_eqA (e_var 2 (pv 2)) e_int (nomark _)) (s_one (s_ret (e_tup (a_cons (e_tup (a_cons (e_var 1 (pv 1)) (a_cons (e_tup (a_cons (e_var 1 (pv 1)) a_nil)) a_nil))) (a_cons (e_lst (a_cons (e_var 1 (pv 1)) a_nil)) a_nil))))) s_nil)
      (s_cons (s_if (t_cmp o_eq rd_eqA (e_var 2 (pv 2)) e_int (nomark _)) (s_one (s_ret e_bl)) s_nil)
      (s_one (s_ret (e_bin o_add rd_add (e_bin op_pow rd_int e_int e_int) (e_call G_law_next (hr.mono (by decide)) m_law_next k_law_next b_law_next hx (a_cons (e_var 0 (pv 0)) (a_cons e_int a_nil)) (len_cons (len_cons len_nil))))))))))))))))))
theorem ok_law_stranger (KX : K.In h) (GM : h.Ns mainGlobals mg) (C : He.SaysD fa fn K) (TBs : ∀ p ∈ MX.TL.tf ++ MX.TL.tl.map (·.1), GxR.TabB base mg (He.cT K p).1 (He.cT K p).2) (EF : MX.ErrF K) (EO : ∀ q ∈ erL, MX.ErrOk P w K mg base q.1 q.2) : DefOk P w K mg base 4 "_law_stranger" ["stream", "letter"] (f_law_stranger F) := by
  obtain ⟨fd, FD⟩ := C.def_ 16 (d := d_law_stranger) rfl
  have bd : Binds K fd ["stream", "letter"] [] := FunD.bindsN FD fun _ _ _ _ _ _ us hl => match us, hl with | [_, _], _ => rfl
  exact ⟨⟨fd, okf_law_stranger F KX GM C TBs EF EO FD, bd⟩, He.glo_ok KX GM (C.fact 16 (f := .glo "_law_stranger") rfl), FD.kp⟩
theorem sc_law_are_letters : FnScope N_law_are_letters ["value"] (defScope s_law_are_letters) := ⟨rfl, rfl, rfl, by decide +kernel, rfl, by decide +kernel, by decide +kernel⟩
set_option maxHeartbeats 4000000 in
theorem okf_law_are_letters (KX : K.In h) (GM : h.Ns mainGlobals mg) (C : He.SaysD fa fn K) (TBs : ∀ p ∈ MX.TL.tf ++ MX.TL.tl.map (·.1), GxR.TabB base mg (He.cT K p).1 (He.cT K p).2) (EF : MX.ErrF K) (EO : ∀ q ∈ erL, MX.ErrOk P w K mg base q.1 q.2) {fd : FuncData} (FD : FunD K d_law_are_letters.name d_law_are_letters.qual d_law_are_letters.params d_law_are_letters.body d_law_are_letters.scope (d_law_are_letters.dvs K) (d_law_are_letters.kws K) (He.fAd K d_law_are_letters.at_) fd) : FnOk P w K mg base (L2N.CX P w) 2 (He.ga K "_law_are_letters") fd ["value"] (spD K 1 (f_law_are_letters F)) := by
  have z_isinstance := He.free_ok KX GM (C.fact 35 (f := .free "isinstance") rfl)
  have z_len := He.free_ok KX GM (C.fact 36 (f := .free "len") rfl)
  have z_range := He.free_ok KX GM (C.fact 38 (f := .free "range") rfl)
  have z_str := He.free_ok KX GM (C.fact 41 (f := .free "str") rfl)
  have sc := sc_law_are_letters
  refine fn_ok FD sc fun cdv A outer s H E hr => ?_
  have tk := L2N.takes_of (X := cxOf (L2N.CX P w) P w K mg base N_law_are_letters "_law_are_letters" (defScope s_law_are_letters) (He.ga K "_law_are_letters") cdv A outer s H E) rfl rfl rfl rfl
  have hx := L2N.passAt (X := cxOf (L2N.CX P w) P w K mg base N_law_are_letters "_law_are_letters" (defScope s_law_are_letters) (He.ga K "_law_are_letters") cdv A outer s H E) tk
  show PSs _ (defBody s_law_are_letters) (LS K _ (c_b_law_are_letters F))
  unfold c_b_law_are_letters s1_law_are_letters t2_law_are_letters s2_law_are_letters s3_law_are_letters B1_law_are_letters
  exact (s_cons (s_if (PW.pt (t_or (t_not (t_val (PE.imp (pe_callB call_isi rfl z_isinstance (by decide +kernel) (a_cons (e_var 0 (pv 0)) (a_cons (e_con (d := .ty "str") (pe_bltn (v := .ty "str") rfl z_str (by decide +kernel) rfl) fun _ _ => rfl) a_nil))) (le_cb rd_isi)))) (t_or (t_cmp o_eq rd_eqA (PE.imp (pe_callB call_len rfl z_len boot_len (a_cons (e_var 0 (pv 0)) a_nil)) (le_cb rd_len)) e_int (nomark _)) (pw_or1 (t_cmp op_gt rd_cmp (PE.imp (pe_callB call_len rfl z_len boot_len (a_cons (e_var 0 (pv 0)) a_nil)) (le_cb rd_len)) e_int (nomark _)))))) (s_one (s_ret e_bl)) s_nil)
      (s_cons (PS.imp (ps_for (passes_of rfl) rfl (pi_range1 rfl z_range (a_cons (PE.imp (pe_callB call_len rfl z_len boot_len (a_cons (e_var 0 (pv 0)) a_nil)) (le_cb rd_len)) a_nil)) (pg_name (i := 1) sc.nd rfl (by first | exact Or.inl rfl | exact Or.inr rfl)) (s_cons (s_if (t_cmp o_notIn rd_in (e_ix ix_seq rd_ix (e_var 0 (pv 0)) (e_var 1 (pv 1)) (fun _ _ => rfl)) e_str rfl) (s_one (s_ret e_bl)) s_nil)
      (s_one (s_if (PW.pt (t_and (t_cmp op_gt rd_cmp (e_var 1 (pv 1)) e_int (nomark _)) (pw_and1 (t_cmp op_ge rd_cmp (PE.imp (pe_bm PySem.F.plainAttrs_str PySem.F.slot_str_index PySem.F.type_str_index mt_sindex e_str (a_cons (e_ix ix_seq rd_ix (e_var 0 (pv 0)) (e_bin op_sub rd_sub (e_var 1 (pv 1)) e_int) (fun _ _ => rfl)) a_nil)) (le_bmS rd_sindex)) (PE.imp (pe_bm PySem.F.plainAttrs_str PySem.F.slot_str_index PySem.F.type_str_index mt_sindex e_str (a_cons (e_ix ix_seq rd_ix (e_var 0 (pv 0)) (e_var 1 (pv 1)) (fun _ _ => rfl)) a_nil)) (le_bmS rd_sindex)) (nomark _))))) (s_one (s_ret e_bl)) s_nil)))) (le_forR1 (gd_name 1)))
      (s_one (s_ret e_bl))))
theorem ok_law_are_letters (KX : K.In h) (GM : h.Ns mainGlobals mg) (C : He.SaysD fa fn K) (TBs : ∀ p ∈ MX.TL.tf ++ MX.TL.tl.map (·.1), GxR.TabB base mg (He.cT K p).1 (He.cT K p).2) (EF : MX.ErrF K) (EO : ∀ q ∈ erL, MX.ErrOk P w K mg base q.1 q.2) : DefOk P w K mg base 2 "_law_are_letters" ["value"] (f_law_are_letters F) := by
  obtain ⟨fd, FD⟩ := C.def_ 17 (d := d_law_are_letters) rfl
  have bd : Binds K fd ["value"] [] := FunD.bindsN FD fun _ _ _ _ _ _ us hl => match us, hl with | [_], _ => rfl
  exact ⟨⟨fd, okf_law_are_letters F KX GM C TBs EF EO FD, bd⟩, He.glo_ok KX GM (C.fact 17 (f := .glo "_law_are_letters") rfl), FD.kp⟩
theorem sc_law_near_letters : FnScope N_law_near_letters ["stream"] (defScope s_law_near_letters) := ⟨rfl, rfl, rfl, by decide +kernel, rfl, by decide +kernel, by decide +kernel⟩
set_option maxHeartbeats 4000000 in
theorem okf_law_near_letters (KX : K.In h) (GM : h.Ns mainGlobals mg) (C : He.SaysD fa fn K) (TBs : ∀ p ∈ MX.TL.tf ++ MX.TL.tl.map (·.1), GxR.TabB base mg (He.cT K p).1 (He.cT K p).2) (EF : MX.ErrF K) (EO : ∀ q ∈ erL, MX.ErrOk P w K mg base q.1 q.2) {fd : FuncData} (FD : FunD K d_law_near_letters.name d_law_near_letters.qual d_law_near_letters.params d_law_near_letters.body d_law_near_letters.scope (d_law_near_letters.dvs K) (d_law_near_letters.kws K) (He.fAd K d_law_near_letters.at_) fd) : FnOk P w K mg base (L2N.CX P w) 5 (He.ga K "_law_near_letters") fd ["stream"] (spD K 1 (f_law_near_letters F)) := by
  obtain ⟨⟨fd_law_letters, G_law_letters, b_law_letters⟩, m_law_letters, k_law_letters⟩ := ok_law_letters (P := P) (w := w) (base := base) F KX GM C TBs EF EO
  obtain ⟨⟨fd_law_next, G_law_next, b_law_next⟩, m_law_next, k_law_next⟩ := ok_law_next (P := P) (w := w) (base := base) F KX GM C TBs EF EO
  obtain ⟨⟨fd_law_stranger, G_law_stranger, b_law_stranger⟩, m_law_stranger, k_law_stranger⟩ := ok_law_stranger (P := P) (w := w) (base := base) F KX GM C TBs EF EO
  have z_isinstance := He.free_ok KX GM (C.fact 35 (f := .free "isinstance") rfl)
  have z_len := He.free_ok KX GM (C.fact 36 (f := .free "len") rfl)
  have z_sorted := He.free_ok KX GM (C.fact 40 (f := .free "sorted") rfl)
  have z_str := He.free_ok KX GM (C.fact 41 (f := .free "str") rfl)
  have z_tuple := He.free_ok KX GM (C.fact 44 (f := .free "tuple") rfl)
  have sc := sc_law_near_letters
  refine fn_ok FD sc fun cdv A outer s H E hr => ?_
  have tk := L2N.takes_of (X := cxOf (L2N.CX P w) P w K mg base N_law_near_letters "_law_near_letters" (defScope s_law_near_letters) (He.ga K "_law_near_letters") cdv A outer s H E) rfl rfl rfl rfl
  have hx := L2N.passAt (X := cxOf (L2N.CX P w) P w K mg base N_law_near_letters "_law_near_letters" (defScope s_law_near_letters) (He.ga K "_law_near_letters") cdv A outer s H E) tk
  show PSs _ (defBody s_law_near_letters) (LS K _ (c_b_law_near_letters F))
  unfold c_b_law_near_letters s1_law_near_letters t2_law_near_letters s2_law_near_letters t3_law_near_letters s3_law_near_letters t4_law_near_letters s4_law_near_letters t5_law_near_letters s5_law_near_letters t6_law_near_letters s6_law_near_letters t7_law_near_letters s7_law_near_letters t8_law_near_letters s8_law_near_letters t9_law_near_letters s9_law_near_letters t10_law_near_letters s10_law_near_letters s11_law_near_letters C2_law_near_letters C1_law_near_letters
  exact (s_cons (PS.imp (ps_set (i := 1) sc.nd rfl (by first | exact Or.inl rfl | exact Or.inr rfl) (e_call G_law_letters (hr.mono (by decide)) m_law_letters k_law_letters b_law_letters hx (a_cons (e_var 0 (pv 0)) a_nil) (len_cons len_nil))) le_set)
      (s_cons (PS.imp (ps_set (i := 2) sc.nd rfl (by first | exact Or.inl rfl | exact Or.inr rfl) (e_call G_law_next (hr.mono (by decide)) m_law_next k_law_next b_law_next hx (a_cons (e_var 0 (pv 0)) (a_cons e_int a_nil)) (len_cons (len_cons len_nil)))) le_set)
      (s_cons (PS.imp (ps_set (i := 3) sc.nd rfl (by first | exact Or.inl rfl | exact Or.inr rfl) (e_call G_law_next (hr.mono (by decide)) m_law_next k_law_next b_law_next hx (a_cons (e_var 0 (pv 0)) (a_cons (PE.imp (pe_callB call_len rfl z_len boot_len (a_cons (e_var 1 (pv 1)) a_nil)) (le_cb rd_len)) a_nil)) (len_cons (len_cons len_nil)))) le_set)
      (s_cons (s_if (t_cmp o_lt rd_lt (e_var 2 (pv 2)) e_int (nomark _)) (s_one (s_ret (e_var 1 (pv 1)))) s_nil)
      (s_cons (s_if (t_cmp o_eq rd_eqA (e_var 2 (pv 2)) e_int (nomark _)) (s_one (s_ret (e_bin o_addT rd_addT (e_bin o_addT rd_addT (e_slice (e_var 1 (pv 1)) p_none (p_some (e_var 3 (pv 3)))) (e_ix ix_seq rd_ix (e_var 1 (pv 1)) (e_var 3 (pv 3)) (fun _ _ => rfl))) (e_slice (e_var 1 (pv 1)) (p_some (e_var 3 (pv 3))) p_none)))) s_nil)
      (s_cons (s_if (t_cmp o_eq rd_eqA (e_var 2 (pv 2)) e_int (nomark _)) (s_one (s_ret (e_revS (e_var 1 (pv 1))))) s_nil)
      (s_cons (s_if (t_cmp o_eq rd_eqA (e_var 2 (pv 2)) e_int (nomark _)) (s_one (s_ret (e_bin o_addT rd_addT (e_slice (e_var 1 (pv 1)) (p_some (e_bin o_add rd_add (e_var 3 (pv 3)) e_int)) p_none) (e_slice (e_var 1 (pv 1)) p_none (p_some (e_bin o_add rd_add (e_var 3 (pv 3)) e_int)))))) s_nil)
      (s_cons (s_if (t_cmp o_eq rd_eqA (e_var 2 (pv 2)) e_int (nomark _)) (s_one (s_ret (PE.imp (pe_bm PySem.F.plainAttrs_str PySem.F.slot_str_join PySem.F.type_str_join mt_join e_str (a_cons (PE.imp (pe_callB (cr_sortT hr) rfl z_sorted (by decide +kernel) (a_cons (e_slice (e_slice (PE.imp (pe_lc (own := [("letter", 5)]) (tt := LT _ WF mYes) (te := LE _ WF (mVar 5)) rfl sc.nd (pi_str e_str) (blkOk_by (own := [("letter", 5)]) (N := N_law_near_letters) (sc := defScope s_law_near_letters) (by decide +kernel)) (fun _ _ _ _ _ => (pg_name (i := 5) sc.nd rfl (by first | exact Or.inl rfl | exact Or.inr rfl))) (fun _ _ _ _ _ => ts_nil (X := _) (W := WF)) (fun _ _ _ _ _ => (e_var 5 (pv 5)))) (le_lcS (gd_name 5) (gw_name 5) (fun _ _ _ h => h))) (p_some (e_call G_law_next (hr.mono (by decide)) m_law_next k_law_next b_law_next hx (a_cons (e_var 0 (pv 0)) (a_cons e_int a_nil)) (len_cons (len_cons len_nil)))) p_none) p_none (p_some e_int)) a_nil)) (le_cb rd_sortT)) a_nil)) (le_bmS rd_join)))) s_nil)
      (s_cons (s_if (t_cmp o_eq rd_eqA (e_var 2 (pv 2)) e_int (nomark _)) (s_cons (PS.imp (ps_set (i := 4) sc.nd rfl (by first | exact Or.inl rfl | exact Or.inr rfl) (e_call G_law_stranger (hr.mono (by decide)) m_law_stranger k_law_stranger b_law_stranger hx (a_cons (e_var 0 (pv 0)) (a_cons (e_ix ix_seq rd_ix (e_var 1 (pv 1)) (e_var 3 (pv 3)) (fun _ _ => rfl)) a_nil)) (len_cons (len_cons len_nil)))) le_set)
      (s_one (s_ret (e_if (t_val (PE.imp (pe_callB call_isi rfl z_isinstance (by decide +kernel) (a_cons (e_var 4 (pv 4)) (a_cons (e_con (d := .ty "str") (pe_bltn (v := .ty "str") rfl z_str (by decide +kernel) rfl) fun _ _ => rfl) a_nil))) (le_cb rd_isi))) (e_bin o_addT rd_addT (e_bin o_addT rd_addT (e_slice (e_var 1 (pv 1)) p_none (p_some (e_var 3 (pv 3)))) (e_var 4 (pv 4))) (e_slice (e_var 1 (pv 1)) (p_some (e_bin o_add rd_add (e_var 3 (pv 3)) e_int)) p_none)) (e_var 4 (pv 4)))))) s_nil)
      (s_cons (s_if (t_cmp o_eq rd_eqA (e_var 2 (pv 2)) e_int (nomark _)) (s_one (s_ret (e_slice (e_var 1 (pv 1)) p_none (p_some (e_var 3 (pv 3)))))) s_nil)
      (s_one (s_ret (e_tupOf rfl z_tuple (PE.imp (pe_lc (own := [("letter", 5)]) (tt := LT _ WF mYes) (te := LE _ WF (mVar 5)) rfl sc.nd (pi_str (e_var 1 (pv 1))) (blkOk_by (own := [("letter", 5)]) (N := N_law_near_letters) (sc := defScope s_law_near_letters) (by decide +kernel)) (fun _ _ _ _ _ => (pg_name (i := 5) sc.nd rfl (by first | exact Or.inl rfl | exact Or.inr rfl))) (fun _ _ _ _ _ => ts_nil (X := _) (W := WF)) (fun _ _ _ _ _ => (e_var 5 (pv 5)))) (le_lcS (gd_name 5) (gw_name 5) (fun _ _ _ h => h))))))))))))))))
theorem ok_law_near_letters (KX : K.In h) (GM : h.Ns mainGlobals mg) (C : He.SaysD fa fn K) (TBs : ∀ p ∈ MX.TL.tf ++ MX.TL.tl.map (·.1), GxR.TabB base mg (He.cT K p).1 (He.cT K p).2) (EF : MX.ErrF K) (EO : ∀ q ∈ erL, MX.ErrOk P w K mg base q.1 q.2) : DefOk P w K mg base 5 "_law_near_letters" ["stream"] (f_law_near_letters F) := by
  obtain ⟨fd, FD⟩ := C.def_ 18 (d := d_law_near_letters) rfl
  have bd : Binds K fd ["stream"] [] := FunD.bindsN FD fun _ _ _ _ _ _ us hl => match us, hl with | [_], _ => rfl
  exact ⟨⟨fd, okf_law_near_letters F KX GM C TBs EF EO FD, bd⟩, He.glo_ok KX GM (C.fact 18 (f := .glo "_law_near_letters") rfl), FD.kp⟩
theorem sc_law_near_word : FnScope N_law_near_word ["stream", "letters"] (defScope s_law_near_word) := ⟨rfl, rfl, rfl, by decide +kernel, rfl, by decide +kernel, by decide +kernel⟩
set_option maxHeartbeats 4000000 in
theorem okf_law_near_word (KX : K.In h) (GM : h.Ns mainGlobals mg) (C : He.SaysD fa fn K) (TBs : ∀ p ∈ MX.TL.tf ++ MX.TL.tl.map (·.1), GxR.TabB base mg (He.cT K p).1 (He.cT K p).2) (EF : MX.ErrF K) (EO : ∀ q ∈ erL, MX.ErrOk P w K mg base q.1 q.2) {fd : FuncData} (FD : FunD K d_law_near_word.name d_law_near_word.qual d_law_near_word.params d_law_near_word.body d_law_near_word.scope (d_law_near_word.dvs K) (d_law_near_word.kws K) (He.fAd K d_law_near_word.at_) fd) : FnOk P w K mg base (L2N.CX P w) 5 (He.ga K "_law_near_word") fd ["stream", "letters"] (spD K 2 (f_law_near_word F)) := by
  obtain ⟨⟨fd_law_word, G_law_word, b_law_word⟩, m_law_word, k_law_word⟩ := ok_law_word (P := P) (w := w) (base := base) F KX GM C TBs EF EO
  obtain ⟨⟨fd_law_next, G_law_next, b_law_next⟩, m_law_next, k_law_next⟩ := ok_law_next (P := P) (w := w) (base := base) F KX GM C TBs EF EO
  obtain ⟨⟨fd_law_stranger, G_law_stranger, b_law_stranger⟩, m_law_stranger, k_law_stranger⟩ := ok_law_stranger (P := P) (w := w) (base := base) F KX GM C TBs EF EO
  have z_isinstance := He.free_ok KX GM (C.fact 35 (f := .free "isinstance") rfl)
  have z_len := He.free_ok KX GM (C.fact 36 (f := .free "len") rfl)
  have z_str := He.free_ok KX GM (C.fact 41 (f := .free "str") rfl)
  have z_tuple := He.free_ok KX GM (C.fact 44 (f := .free "tuple") rfl)
  have sc := sc_law_near_word
  refine fn_ok FD sc fun cdv A outer s H E hr => ?_
  have tk := L2N.takes_of (X := cxOf (L2N.CX P w) P w K mg base N_law_near_word "_law_near_word" (defScope s_law_near_word) (He.ga K "_law_near_word") cdv A outer s H E) rfl rfl rfl rfl
  have hx := L2N.passAt (X := cxOf (L2N.CX P w) P w K mg base N_law_near_word "_law_near_word" (defScope s_law_near_word) (He.ga K "_law_near_word") cdv A outer s H E) tk
  show PSs _ (defBody s_law_near_word) (LS K _ (c_b_law_near_word F))
  unfold c_b_law_near_word s1_law_near_word t2_law_near_word s2_law_near_word t3_law_near_word s3_law_near_word t4_law_near_word s4_law_near_word t5_law_near_word s5_law_near_word t6_law_near_word s6_law_near_word t7_law_near_word s7_law_near_word t8_law_near_word s8_law_near_word s9_law_near_word C2_law_near_word C1_law_near_word
  exact (s_cons (PS.imp (ps_set (i := 2) sc.nd rfl (by first | exact Or.inl rfl | exact Or.inr rfl) (e_call G_law_word (hr.mono (by decide)) m_law_word k_law_word b_law_word hx (a_cons (e_var 0 (pv 0)) (a_cons (e_var 1 (pv 1)) (a_cons e_int (a_cons (e_if (t_cmp op_gt rd_cmp (e_call G_law_next (hr.mono (by decide)) m_law_next k_law_next b_law_next hx (a_cons (e_var 0 (pv 0)) (a_cons e_int a_nil)) (len_cons (len_cons len_nil))) e_int (nomark _)) e_int e_int) a_nil)))) (len_cons (len_cons (len_cons (len_cons len_nil)))))) le_set)
      (s_cons (s_if (t_cmp o_eq rd_eqA (e_call G_law_next (hr.mono (by decide)) m_law_next k_law_next b_law_next hx (a_cons (e_var 0 (pv 0)) (a_cons e_int a_nil)) (len_cons (len_cons len_nil))) e_int (nomark _)) (s_one (PS.imp (ps_set (i := 2) sc.nd rfl (by first | exact Or.inl rfl | exact Or.inr rfl) (e_bin o_mulA rd_mulA (e_bin o_add rd_add (e_var 2 (pv 2)) (e_ix ix_seq rd_ix (e_var 1 (pv 1)) e_int (fun _ _ => rfl))) (e_bin o_add rd_add e_int (e_call G_law_next (hr.mono (by decide)) m_law_next k_law_next b_law_next hx (a_cons (e_var 0 (pv 0)) (a_cons (e_bin op_fdivN rd_int e_int (e_bin o_add rd_add (PE.imp (pe_callB call_len rfl z_len boot_len (a_cons (e_var 2 (pv 2)) a_nil)) (le_cb rd_len)) e_int)) a_nil)) (len_cons (len_cons len_nil)))))) le_set)) s_nil)
      (s_cons (PS.imp (ps_set (i := 3) sc.nd rfl (by first | exact Or.inl rfl | exact Or.inr rfl) (e_call G_law_next (hr.mono (by decide)) m_law_next k_law_next b_law_next hx (a_cons (e_var 0 (pv 0)) (a_cons e_int a_nil)) (len_cons (len_cons len_nil)))) le_set)
      (s_cons (s_if (PW.pt (t_or (t_cmp o_lt rd_lt (e_var 3 (pv 3)) e_int (nomark _)) (pw_or1 (t_cmp o_eq rd_eqA (PE.imp (pe_callB call_len rfl z_len boot_len (a_cons (e_var 2 (pv 2)) a_nil)) (le_cb rd_len)) e_int (nomark _))))) (s_one (s_ret (e_var 2 (pv 2)))) s_nil)
      (s_cons (PS.imp (ps_set (i := 4) sc.nd rfl (by first | exact Or.inl rfl | exact Or.inr rfl) (e_call G_law_next (hr.mono (by decide)) m_law_next k_law_next b_law_next hx (a_cons (e_var 0 (pv 0)) (a_cons (PE.imp (pe_callB call_len rfl z_len boot_len (a_cons (e_var 2 (pv 2)) a_nil)) (le_cb rd_len)) a_nil)) (len_cons (len_cons len_nil)))) le_set)
      (s_cons (s_if (t_cmp o_eq rd_eqA (e_var 3 (pv 3)) e_int (nomark _)) (s_cons (PS.imp (ps_setLc (i := 6) (own := [("letter", 7)]) (tt := LT _ WF (mTest (mBin (inA true) (mVar 7) (mVar 1)))) (te := LE _ WF (mVar 7)) rfl sc.nd rfl rfl (sw_true rfl rfl rfl (by decide +kernel)) (pi_str e_str) (blkOk_by (own := [("letter", 7)]) (N := N_law_near_word) (sc := defScope s_law_near_word) (by decide +kernel)) (fun _ _ _ _ _ => (pg_name (i := 7) sc.nd rfl (by first | exact Or.inl rfl | exact Or.inr rfl))) (fun _ _ _ _ _ => ts_one (t_cmp o_notIn rd_in (e_var 7 (pv 7)) (e_var 1 (pv 1)) rfl)) (fun _ _ _ _ _ => (e_var 7 (pv 7)))) (le_setL (le_lcS (gd_name 7) (gw_name 7) (fun _ _ _ h => h))))
      (s_one (s_ret (e_bin o_addT rd_addT (e_bin o_addT rd_addT (e_slice (e_var 2 (pv 2)) p_none (p_some (e_var 4 (pv 4)))) (e_ix ix_seq rd_ix (e_var 6 (pv 6)) (e_call G_law_next (hr.mono (by decide)) m_law_next k_law_next b_law_next hx (a_cons (e_var 0 (pv 0)) (a_cons (PE.imp (pe_callB call_len rfl z_len boot_len (a_cons (e_var 6 (pv 6)) a_nil)) (le_cb rd_len)) a_nil)) (len_cons (len_cons len_nil))) (fun _ _ => rfl))) (e_slice (e_var 2 (pv 2)) (p_some (e_bin o_add rd_add (e_var 4 (pv 4)) e_int)) p_none))))) s_nil)
      (s_cons (s_if (t_cmp o_eq rd_eqA (e_var 3 (pv 3)) e_int (nomark _)) (s_one (s_ret (e_tupOf rfl z_tuple (PE.imp (pe_lc (own := [("letter", 7)]) (tt := LT _ WF mYes) (te := LE _ WF (mVar 7)) rfl sc.nd (pi_str (e_var 2 (pv 2))) (blkOk_by (own := [("letter", 7)]) (N := N_law_near_word) (sc := defScope s_law_near_word) (by decide +kernel)) (fun _ _ _ _ _ => (pg_name (i := 7) sc.nd rfl (by first | exact Or.inl rfl | exact Or.inr rfl))) (fun _ _ _ _ _ => ts_nil (X := _) (W := WF)) (fun _ _ _ _ _ => (e_var 7 (pv 7)))) (le_lcS (gd_name 7) (gw_name 7) (fun _ _ _ h => h)))))) s_nil)
      (s_cons (PS.imp (ps_set (i := 5) sc.nd rfl (by first | exact Or.inl rfl | exact Or.inr rfl) (e_call G_law_stranger (hr.mono (by decide)) m_law_stranger k_law_stranger b_law_stranger hx (a_cons (e_var 0 (pv 0)) (a_cons (e_ix ix_seq rd_ix (e_var 2 (pv 2)) (e_var 4 (pv 4)) (fun _ _ => rfl)) a_nil)) (len_cons (len_cons len_nil)))) le_set)
      (s_one (s_ret (e_if (t_val (PE.imp (pe_callB call_isi rfl z_isinstance (by decide +kernel) (a_cons (e_var 5 (pv 5)) (a_cons (e_con (d := .ty "str") (pe_bltn (v := .ty "str") rfl z_str (by decide +kernel) rfl) fun _ _ => rfl) a_nil))) (le_cb rd_isi))) (e_bin o_addT rd_addT (e_bin o_addT rd_addT (e_slice (e_var 2 (pv 2)) p_none (p_some (e_var 4 (pv 4)))) (e_var 5 (pv 5))) (e_slice (e_var 2 (pv 2)) (p_some (e_bin o_add rd_add (e_var 4 (pv 4)) e_int)) p_none)) (e_var 5 (pv 5)))))))))))))
theorem ok_law_near_word (KX : K.In h) (GM : h.Ns mainGlobals mg) (C : He.SaysD fa fn K) (TBs : ∀ p ∈ MX.TL.tf ++ MX.TL.tl.map (·.1), GxR.TabB base mg (He.cT K p).1 (He.cT K p).2) (EF : MX.ErrF K) (EO : ∀ q ∈ erL, MX.ErrOk P w K mg base q.1 q.2) : DefOk P w K mg base 5 "_law_near_word" ["stream", "letters"] (f_law_near_word F) := by
  obtain ⟨fd, FD⟩ := C.def_ 19 (d := d_law_near_word) rfl
  have bd : Binds K fd ["stream", "letters"] [] := FunD.bindsN FD fun _ _ _ _ _ _ us hl => match us, hl with | [_, _], _ => rfl
  exact ⟨⟨fd, okf_law_near_word F KX GM C TBs EF EO FD, bd⟩, He.glo_ok KX GM (C.fact 19 (f := .glo "_law_near_word") rfl), FD.kp⟩
theorem sc_law_over : FnScope N_law_over ["letters", "value"] (defScope s_law_over) := ⟨rfl, rfl, rfl, by decide +kernel, rfl, by decide +kernel, by decide +kernel⟩
set_option maxHeartbeats 4000000 in
theorem okf_law_over (KX : K.In h) (GM : h.Ns mainGlobals mg) (C : He.SaysD fa fn K) (TBs : ∀ p ∈ MX.TL.tf ++ MX.TL.tl.map (·.1), GxR.TabB base mg (He.cT K p).1 (He.cT K p).2) (EF : MX.ErrF K) (EO : ∀ q ∈ erL, MX.ErrOk P w K mg base q.1 q.2) {fd : FuncData} (FD : FunD K d_law_over.name d_law_over.qual d_law_over.params d_law_over.body d_law_over.scope (d_law_over.dvs K) (d_law_over.kws K) (He.fAd K d_law_over.at_) fd) : FnOk P w K mg base (L2N.CX P w) 2 (He.ga K "_law_over") fd ["letters", "value"] (spD K 2 (f_law_over F)) := by
  have z_isinstance := He.free_ok KX GM (C.fact 35 (f := .free "isinstance") rfl)
  have z_len := He.free_ok KX GM (C.fact 36 (f := .free "len") rfl)
  have z_str := He.free_ok KX GM (C.fact 41 (f := .free "str") rfl)
  have sc := sc_law_over
  refine fn_ok FD sc fun cdv A outer s H E hr => ?_
  have tk := L2N.takes_of (X := cxOf (L2N.CX P w) P w K mg base N_law_over "_law_over" (defScope s_law_over) (He.ga K "_law_over") cdv A outer s H E) rfl rfl rfl rfl
  have hx := L2N.passAt (X := cxOf (L2N.CX P w) P w K mg base N_law_over "_law_over" (defScope s_law_over) (He.ga K "_law_over") cdv A outer s H E) tk
  show PSs _ (defBody s_law_over) (LS K _ (c_b_law_over F))
  unfold c_b_law_over C1_law_over
  exact (s_one (s_ret (e_and (PE.imp (pe_callB call_isi rfl z_isinstance (by decide +kernel) (a_cons (e_var 1 (pv 1)) (a_cons (e_con (d := .ty "str") (pe_bltn (v := .ty "str") rfl z_str (by decide +kernel) rfl) fun _ _ => rfl) a_nil))) (le_cb rd_isi)) (pe_one (e_cmp o_eq rd_eqA (PE.imp (pe_callB call_len rfl z_len boot_len (a_cons (PE.imp (pe_lc (own := [("sign", 2)]) (tt := LT _ WF (mTest (mBin (inA true) (mVar 2) (mVar 0)))) (te := LE _ WF (mVar 2)) rfl sc.nd (pi_str (e_var 1 (pv 1))) (blkOk_by (own := [("sign", 2)]) (N := N_law_over) (sc := defScope s_law_over) (by decide +kernel)) (fun _ _ _ _ _ => (pg_name (i := 2) sc.nd rfl (by first | exact Or.inl rfl | exact Or.inr rfl))) (fun _ _ _ _ _ => ts_one (t_cmp o_notIn rd_in (e_var 2 (pv 2)) (e_var 0 (pv 0)) rfl)) (fun _ _ _ _ _ => (e_var 2 (pv 2)))) (le_lcS (gd_name 2) (gw_name 2) (fun _ _ _ h => h))) a_nil)) (le_cb rd_len)) e_int (nomark _))))))
theorem ok_law_over (KX : K.In h) (GM : h.Ns mainGlobals mg) (C : He.SaysD fa fn K) (TBs : ∀ p ∈ MX.TL.tf ++ MX.TL.tl.map (·.1), GxR.TabB base mg (He.cT K p).1 (He.cT K p).2) (EF : MX.ErrF K) (EO : ∀ q ∈ erL, MX.ErrOk P w K mg base q.1 q.2) : DefOk P w K mg base 2 "_law_over" ["letters", "value"] (f_law_over F) := by
  obtain ⟨fd, FD⟩ := C.def_ 20 (d := d_law_over) rfl
  have bd : Binds K fd ["letters", "value"] [] := FunD.bindsN FD fun _ _ _ _ _ _ us hl => match us, hl with | [_, _], _ => rfl
  exact ⟨⟨fd, okf_law_over F KX GM C TBs EF EO FD, bd⟩, He.glo_ok KX GM (C.fact 20 (f := .glo "_law_over") rfl), FD.kp⟩
theorem sc_law_refused : FnScope N_law_refused ["letters", "value", "turn"] (defScope s_law_refused) := ⟨rfl, rfl, rfl, by decide +kernel, rfl, by decide +kernel, by decide +kernel⟩
set_option maxHeartbeats 4000000 in
theorem okf_law_refused (KX : K.In h) (GM : h.Ns mainGlobals mg) (C : He.SaysD fa fn K) (TBs : ∀ p ∈ MX.TL.tf ++ MX.TL.tl.map (·.1), GxR.TabB base mg (He.cT K p).1 (He.cT K p).2) (EF : MX.ErrF K) (EO : ∀ q ∈ erL, MX.ErrOk P w K mg base q.1 q.2) {fd : FuncData} (FD : FunD K d_law_refused.name d_law_refused.qual d_law_refused.params d_law_refused.body d_law_refused.scope (d_law_refused.dvs K) (d_law_refused.kws K) (He.fAd K d_law_refused.at_) fd) : FnOk P w K mg base (L2N.CX P w) 8 (He.ga K "_law_refused") fd ["letters", "value", "turn"] (spD K 3 (f_law_refused F)) := by
  obtain ⟨⟨fd_is_word, G_is_word, b_is_word⟩, m_is_word, k_is_word⟩ := ok_is_word (P := P) (w := w) (base := base) F KX GM C TBs EF EO
  obtain ⟨⟨fd_is_sample, G_is_sample, b_is_sample⟩, m_is_sample, k_is_sample⟩ := ok_is_sample (P := P) (w := w) (base := base) F KX GM C TBs EF EO
  have g_SeenError := He.glo_ok KX GM (C.fact 27 (f := .glo "SeenError") rfl)
  obtain ⟨fdh_law_one_class, FDh_law_one_class⟩ := C.def_ 24 (d := d_law_one_class) rfl
  have bdh_law_one_class : Binds K fdh_law_one_class ["error", "wanted"] [] := FunD.bindsN FDh_law_one_class fun _ _ _ _ _ _ us hl => match us, hl with | [_, _], _ => rfl
  have mh_law_one_class := He.glo_ok KX GM (C.fact 24 (f := .glo "_law_one_class") rfl)
  have sc := sc_law_refused
  refine fn_ok FD sc fun cdv A outer s H E hr => ?_
  have tk := L2N.takes_of (X := cxOf (L2N.CX P w) P w K mg base N_law_refused "_law_refused" (defScope s_law_refused) (He.ga K "_law_refused") cdv A outer s H E) rfl rfl rfl rfl
  have hx := L2N.passAt (X := cxOf (L2N.CX P w) P w K mg base N_law_refused "_law_refused" (defScope s_law_refused) (He.ga K "_law_refused") cdv A outer s H E) tk
  show PSs _ (defBody s_law_refused) (LS K _ (c_b_law_refused F))
  unfold c_b_law_refused X1_law_refused T1_law_refused
  exact (s_cons (s_try_as (i := 3) rfl rfl sc.nd rfl rfl ⟨rfl, by decide, .inl g_SeenError⟩ tk (EF.sub "SeenError") (fun W pn xe tk po => (s_one (s_if (t_cmp o_eq rd_eqA (e_var 2 (pv 2)) e_int (nomark _)) (s_one (PS.imp (ps_expr (e_call G_is_word (hr.mono (by decide)) m_is_word k_is_word b_is_word (L2N.passAt tk) (a_cons (e_var 0 (pv 0)) (a_cons (e_var 1 (pv 1)) a_nil)) (len_cons (len_cons len_nil)))) le_expr)) (s_one (PS.imp (ps_expr (e_call G_is_sample (hr.mono (by decide)) m_is_sample k_is_sample b_is_sample (L2N.passAt tk) (a_cons (e_var 0 (pv 0)) (a_cons (e_var 1 (pv 1)) a_nil)) (len_cons (len_cons len_nil)))) le_expr))))) (fun a oe c0 dd pn hz hf => ss_known fun hc => (s_one (s_ret (e_and (e_callZ FDh_law_one_class sc_law_one_class (hot_of hz hf) List.mem_cons_self (MX.roomH_mark (hr.mono (by decide)) _) bdh_law_one_class rfl mh_law_one_class FDh_law_one_class.kp (fun cdv s H hr => okh_law_one_class F KX GM C TBs EF hc hz hf cdv s H (hot_of hz hf) hr) (a_cons (e_var 3 (pv 3)) (a_cons e_int a_nil)) (len_cons (len_cons len_nil))) (pe_one (e_cmp o_eq rd_eqA (e_xfE EF hc (by decide) hz hf (e_var 3 (pv 3))) e_str (nomark _))))))))
      (s_one (s_ret e_bl)))
theorem ok_law_refused (KX : K.In h) (GM : h.Ns mainGlobals mg) (C : He.SaysD fa fn K) (TBs : ∀ p ∈ MX.TL.tf ++ MX.TL.tl.map (·.1), GxR.TabB base mg (He.cT K p).1 (He.cT K p).2) (EF : MX.ErrF K) (EO : ∀ q ∈ erL, MX.ErrOk P w K mg base q.1 q.2) : DefOk P w K mg base 8 "_law_refused" ["letters", "value", "turn"] (f_law_refused F) := by
  obtain ⟨fd, FD⟩ := C.def_ 21 (d := d_law_refused) rfl
  have bd : Binds K fd ["letters", "value", "turn"] [] := FunD.bindsN FD fun _ _ _ _ _ _ us hl => match us, hl with | [_, _, _], _ => rfl
  exact ⟨⟨fd, okf_law_refused F KX GM C TBs EF EO FD, bd⟩, He.glo_ok KX GM (C.fact 21 (f := .glo "_law_refused") rfl), FD.kp⟩
theorem sc_law_looks : FnScope N_law_looks ["stream"] (defScope s_law_looks) := ⟨rfl, rfl, rfl, by decide +kernel, rfl, by decide +kernel, by decide +kernel⟩
set_option maxHeartbeats 4000000 in
theorem okf_law_looks (KX : K.In h) (GM : h.Ns mainGlobals mg) (C : He.SaysD fa fn K) (TBs : ∀ p ∈ MX.TL.tf ++ MX.TL.tl.map (·.1), GxR.TabB base mg (He.cT K p).1 (He.cT K p).2) (EF : MX.ErrF K) (EO : ∀ q ∈ erL, MX.ErrOk P w K mg base q.1 q.2) {fd : FuncData} (FD : FunD K d_law_looks.name d_law_looks.qual d_law_looks.params d_law_looks.body d_law_looks.scope (d_law_looks.dvs K) (d_law_looks.kws K) (He.fAd K d_law_looks.at_) fd) : FnOk P w K mg base (L2N.CX P w) 5 (He.ga K "_law_looks") fd ["stream"] (spD K 1 (f_law_looks F)) := by
  obtain ⟨⟨fd_law_next, G_law_next, b_law_next⟩, m_law_next, k_law_next⟩ := ok_law_next (P := P) (w := w) (base := base) F KX GM C TBs EF EO
  obtain ⟨⟨fd_law_stranger, G_law_stranger, b_law_stranger⟩, m_law_stranger, k_law_stranger⟩ := ok_law_stranger (P := P) (w := w) (base := base) F KX GM C TBs EF EO
  obtain ⟨⟨fd_law_says, G_law_says, b_law_says⟩, m_law_says, k_law_says⟩ := ok_law_says (P := P) (w := w) (base := base) F KX GM C TBs EF EO
  obtain ⟨⟨fd_is_look, G_is_look, b_is_look⟩, m_is_look, k_is_look⟩ := ok_is_look (P := P) (w := w) (base := base) F KX GM C TBs EF EO
  have z_bool := He.free_ok KX GM (C.fact 33 (f := .free "bool") rfl)
  have z_int := He.free_ok KX GM (C.fact 34 (f := .free "int") rfl)
  have z_isinstance := He.free_ok KX GM (C.fact 35 (f := .free "isinstance") rfl)
  have z_range := He.free_ok KX GM (C.fact 38 (f := .free "range") rfl)
  have sc := sc_law_looks
  refine fn_ok FD sc fun cdv A outer s H E hr => ?_
  have tk := L2N.takes_of (X := cxOf (L2N.CX P w) P w K mg base N_law_looks "_law_looks" (defScope s_law_looks) (He.ga K "_law_looks") cdv A outer s H E) rfl rfl rfl rfl
  have hx := L2N.passAt (X := cxOf (L2N.CX P w) P w K mg base N_law_looks "_law_looks" (defScope s_law_looks) (He.ga K "_law_looks") cdv A outer s H E) tk
  show PSs _ (defBody s_law_looks) (LS K _ (c_b_law_looks F))
  unfold c_b_law_looks B1_law_looks
  exact (s_cons (PS.imp (ps_for (passes_of rfl) rfl (pi_range1 rfl z_range (a_cons e_int a_nil)) (pg_name (i := 1) sc.nd rfl (by first | exact Or.inl rfl | exact Or.inr rfl)) (s_cons (PS.imp (ps_set (i := 2) sc.nd rfl (by first | exact Or.inl rfl | exact Or.inr rfl) (e_bin op_sub rd_sub (e_call G_law_next (hr.mono (by decide)) m_law_next k_law_next b_law_next hx (a_cons (e_var 0 (pv 0)) (a_cons e_int a_nil)) (len_cons (len_cons len_nil))) e_int)) le_set)
      (s_cons (s_if (t_cmp o_eq rd_eqA (e_call G_law_next (hr.mono (by decide)) m_law_next k_law_next b_law_next hx (a_cons (e_var 0 (pv 0)) (a_cons e_int a_nil)) (len_cons (len_cons len_nil))) e_int (nomark _)) (s_one (PS.imp (ps_set (i := 2) sc.nd rfl (by first | exact Or.inl rfl | exact Or.inr rfl) (e_call G_law_stranger (hr.mono (by decide)) m_law_stranger k_law_stranger b_law_stranger hx (a_cons (e_var 0 (pv 0)) (a_cons e_str a_nil)) (len_cons (len_cons len_nil)))) le_set)) s_nil)
      (s_cons (s_if (t_cmp o_eq rd_eqA (e_call G_law_next (hr.mono (by decide)) m_law_next k_law_next b_law_next hx (a_cons (e_var 0 (pv 0)) (a_cons e_int a_nil)) (len_cons (len_cons len_nil))) e_int (nomark _)) (s_one (PS.imp (ps_set (i := 2) sc.nd rfl (by first | exact Or.inl rfl | exact Or.inr rfl) (e_bin op_sub rd_sub (e_call G_law_next (hr.mono (by decide)) m_law_next k_law_next b_law_next hx (a_cons (e_var 0 (pv 0)) (a_cons (e_bin op_pow rd_int e_int e_int) a_nil)) (len_cons (len_cons len_nil))) e_int)) le_set)) s_nil)
      (s_cons (PS.imp (ps_set (i := 3) sc.nd rfl (by first | exact Or.inl rfl | exact Or.inr rfl) (e_and (PE.imp (pe_callB call_isi rfl z_isinstance (by decide +kernel) (a_cons (e_var 2 (pv 2)) (a_cons (e_con (d := .ty "int") (pe_bltn (v := .ty "int") rfl z_int (by decide +kernel) rfl) fun _ _ => rfl) a_nil))) (le_cb rd_isi)) (e_and (e_not (PE.imp (pe_callB call_isi rfl z_isinstance (by decide +kernel) (a_cons (e_var 2 (pv 2)) (a_cons (e_con (d := .ty "bool") (pe_bltn (v := .ty "bool") rfl z_bool (by decide +kernel) rfl) fun _ _ => rfl) a_nil))) (le_cb rd_isi))) (e_and (e_cmp op_ge rd_cmp (e_var 2 (pv 2)) e_int (nomark _)) (pe_one (e_cmp op_le rd_cmp (e_var 2 (pv 2)) e_int (nomark _))))))) le_set)
      (s_one (s_if (t_not (t_val (e_call G_law_says (hr.mono (by decide)) m_law_says k_law_says b_law_says hx (a_cons (e_call G_is_look (hr.mono (by decide)) m_is_look k_is_look b_is_look hx (a_cons (e_var 2 (pv 2)) a_nil) (len_cons len_nil)) (a_cons (e_var 3 (pv 3)) a_nil)) (len_cons (len_cons len_nil))))) (s_one (s_ret e_bl)) s_nil))))))) (le_forR1 (gd_name 1)))
      (s_one (s_ret (e_and (e_cmp o_is rd_is (e_call G_is_look (hr.mono (by decide)) m_is_look k_is_look b_is_look hx (a_cons e_int a_nil) (len_cons len_nil)) e_bl (nomark _)) (e_and (e_cmp o_is rd_is (e_call G_is_look (hr.mono (by decide)) m_is_look k_is_look b_is_look hx (a_cons e_int a_nil) (len_cons len_nil)) e_bl (nomark _)) (e_and (e_cmp o_is rd_is (e_call G_is_look (hr.mono (by decide)) m_is_look k_is_look b_is_look hx (a_cons e_int a_nil) (len_cons len_nil)) e_bl (nomark _)) (pe_one (e_cmp o_is rd_is (e_call G_is_look (hr.mono (by decide)) m_is_look k_is_look b_is_look hx (a_cons e_bl a_nil) (len_cons len_nil)) e_bl (nomark _)))))))))
theorem ok_law_looks (KX : K.In h) (GM : h.Ns mainGlobals mg) (C : He.SaysD fa fn K) (TBs : ∀ p ∈ MX.TL.tf ++ MX.TL.tl.map (·.1), GxR.TabB base mg (He.cT K p).1 (He.cT K p).2) (EF : MX.ErrF K) (EO : ∀ q ∈ erL, MX.ErrOk P w K mg base q.1 q.2) : DefOk P w K mg base 5 "_law_looks" ["stream"] (f_law_looks F) := by
  obtain ⟨fd, FD⟩ := C.def_ 22 (d := d_law_looks) rfl
  have bd : Binds K fd ["stream"] [] := FunD.bindsN FD fun _ _ _ _ _ _ us hl => match us, hl with | [_], _ => rfl
  exact ⟨⟨fd, okf_law_looks F KX GM C TBs EF EO FD, bd⟩, He.glo_ok KX GM (C.fact 22 (f := .glo "_law_looks") rfl), FD.kp⟩
theorem sc_law : FnScope N_law ["script"] (defScope s_law) := ⟨rfl, rfl, rfl, by decide +kernel, rfl, by decide +kernel, by decide +kernel⟩
set_option maxHeartbeats 4000000 in
theorem okf_law (KX : K.In h) (GM : h.Ns mainGlobals mg) (C : He.SaysD fa fn K) (TBs : ∀ p ∈ MX.TL.tf ++ MX.TL.tl.map (·.1), GxR.TabB base mg (He.cT K p).1 (He.cT K p).2) (EF : MX.ErrF K) (EO : ∀ q ∈ erL, MX.ErrOk P w K mg base q.1 q.2) {fd : FuncData} (FD : FunD K d_law.name d_law.qual d_law.params d_law.body d_law.scope (d_law.dvs K) (d_law.kws K) (He.fAd K d_law.at_) fd) : FnOk P w K mg base (L2N.CX P w) 9 (He.ga K "law") fd ["script"] (spD K 1 (f_law F)) := by
  obtain ⟨⟨fd_law_stream, G_law_stream, b_law_stream⟩, m_law_stream, k_law_stream⟩ := ok_law_stream (P := P) (w := w) (base := base) F KX GM C TBs EF EO
  obtain ⟨⟨fd_law_near_letters, G_law_near_letters, b_law_near_letters⟩, m_law_near_letters, k_law_near_letters⟩ := ok_law_near_letters (P := P) (w := w) (base := base) F KX GM C TBs EF EO
  obtain ⟨⟨fd_law_are_letters, G_law_are_letters, b_law_are_letters⟩, m_law_are_letters, k_law_are_letters⟩ := ok_law_are_letters (P := P) (w := w) (base := base) F KX GM C TBs EF EO
  obtain ⟨⟨fd_law_says, G_law_says, b_law_says⟩, m_law_says, k_law_says⟩ := ok_law_says (P := P) (w := w) (base := base) F KX GM C TBs EF EO
  obtain ⟨⟨fd_is_letters, G_is_letters, b_is_letters⟩, m_is_letters, k_is_letters⟩ := ok_is_letters (P := P) (w := w) (base := base) F KX GM C TBs EF EO
  obtain ⟨⟨fd_law_near_word, G_law_near_word, b_law_near_word⟩, m_law_near_word, k_law_near_word⟩ := ok_law_near_word (P := P) (w := w) (base := base) F KX GM C TBs EF EO
  obtain ⟨⟨fd_law_over, G_law_over, b_law_over⟩, m_law_over, k_law_over⟩ := ok_law_over (P := P) (w := w) (base := base) F KX GM C TBs EF EO
  obtain ⟨⟨fd_is_word, G_is_word, b_is_word⟩, m_is_word, k_is_word⟩ := ok_is_word (P := P) (w := w) (base := base) F KX GM C TBs EF EO
  obtain ⟨⟨fd_is_sample, G_is_sample, b_is_sample⟩, m_is_sample, k_is_sample⟩ := ok_is_sample (P := P) (w := w) (base := base) F KX GM C TBs EF EO
  obtain ⟨⟨fd_law_refused, G_law_refused, b_law_refused⟩, m_law_refused, k_law_refused⟩ := ok_law_refused (P := P) (w := w) (base := base) F KX GM C TBs EF EO
  obtain ⟨⟨fd_law_next, G_law_next, b_law_next⟩, m_law_next, k_law_next⟩ := ok_law_next (P := P) (w := w) (base := base) F KX GM C TBs EF EO
  obtain ⟨⟨fd_law_looks, G_law_looks, b_law_looks⟩, m_law_looks, k_law_looks⟩ := ok_law_looks (P := P) (w := w) (base := base) F KX GM C TBs EF EO
  have z_len := He.free_ok KX GM (C.fact 36 (f := .free "len") rfl)
  have z_range := He.free_ok KX GM (C.fact 38 (f := .free "range") rfl)
  have sc := sc_law
  refine fn_ok FD sc fun cdv A outer s H E hr => ?_
  have tk := L2N.takes_of (X := cxOf (L2N.CX P w) P w K mg base N_law "law" (defScope s_law) (He.ga K "law") cdv A outer s H E) rfl rfl rfl rfl
  have hx := L2N.passAt (X := cxOf (L2N.CX P w) P w K mg base N_law "law" (defScope s_law) (He.ga K "law") cdv A outer s H E) tk
  show PSs _ (defBody s_law) (LS K _ (c_b_law F))
  unfold c_b_law s1_law t2_law s2_law s3_law B1_law
  exact (s_cons (PS.imp (ps_set (i := 1) sc.nd rfl (by first | exact Or.inl rfl | exact Or.inr rfl) (e_call G_law_stream (hr.mono (by decide)) m_law_stream k_law_stream b_law_stream hx (a_cons (e_var 0 (pv 0)) a_nil) (len_cons len_nil))) le_set)
      (s_cons (PS.imp (ps_for (passes_of rfl) rfl (pi_range1 rfl z_range (a_cons e_int a_nil)) (pg_name (i := 2) sc.nd rfl (by first | exact Or.inl rfl | exact Or.inr rfl)) (s_cons (PS.imp (ps_set (i := 3) sc.nd rfl (by first | exact Or.inl rfl | exact Or.inr rfl) (e_call G_law_near_letters (hr.mono (by decide)) m_law_near_letters k_law_near_letters b_law_near_letters hx (a_cons (e_var 1 (pv 1)) a_nil) (len_cons len_nil))) le_set)
      (s_cons (PS.imp (ps_set (i := 4) sc.nd rfl (by first | exact Or.inl rfl | exact Or.inr rfl) (e_call G_law_are_letters (hr.mono (by decide)) m_law_are_letters k_law_are_letters b_law_are_letters hx (a_cons (e_var 3 (pv 3)) a_nil) (len_cons len_nil))) le_set)
      (s_cons (s_if (t_not (t_val (e_call G_law_says (hr.mono (by decide)) m_law_says k_law_says b_law_says hx (a_cons (e_call G_is_letters (hr.mono (by decide)) m_is_letters k_is_letters b_is_letters hx (a_cons (e_var 3 (pv 3)) a_nil) (len_cons len_nil)) (a_cons (e_var 4 (pv 4)) a_nil)) (len_cons (len_cons len_nil))))) (s_one (s_ret e_bl)) s_nil)
      (s_cons (PS.imp (ps_set (i := 5) sc.nd rfl (by first | exact Or.inl rfl | exact Or.inr rfl) (e_call G_law_near_word (hr.mono (by decide)) m_law_near_word k_law_near_word b_law_near_word hx (a_cons (e_var 1 (pv 1)) (a_cons (e_if (t_val (e_var 4 (pv 4))) (e_var 3 (pv 3)) e_str) a_nil)) (len_cons (len_cons len_nil)))) le_set)
      (s_cons (s_if (PW.pt (t_and (t_val (e_var 4 (pv 4))) (pw_and1 (t_not (PW.pt (t_and (t_val (e_call G_law_says (hr.mono (by decide)) m_law_says k_law_says b_law_says hx (a_cons (e_call G_is_word (hr.mono (by decide)) m_is_word k_is_word b_is_word hx (a_cons (e_var 3 (pv 3)) (a_cons (e_var 5 (pv 5)) a_nil)) (len_cons (len_cons len_nil))) (a_cons (e_call G_law_over (hr.mono (by decide)) m_law_over k_law_over b_law_over hx (a_cons (e_var 3 (pv 3)) (a_cons (e_var 5 (pv 5)) a_nil)) (len_cons (len_cons len_nil))) a_nil)) (len_cons (len_cons len_nil)))) (pw_and1 (t_cmp o_is rd_is (e_call G_is_word (hr.mono (by decide)) m_is_word k_is_word b_is_word hx (a_cons (e_var 3 (pv 3)) (a_cons e_str a_nil)) (len_cons (len_cons len_nil))) e_bl (nomark _))))))))) (s_one (s_ret e_bl)) s_nil)
      (s_cons (s_if (PW.pt (t_and (t_val (e_var 4 (pv 4))) (pw_and1 (t_not (t_val (e_call G_law_says (hr.mono (by decide)) m_law_says k_law_says b_law_says hx (a_cons (e_call G_is_sample (hr.mono (by decide)) m_is_sample k_is_sample b_is_sample hx (a_cons (e_var 3 (pv 3)) (a_cons (e_tup (a_cons (e_var 5 (pv 5)) a_nil)) a_nil)) (len_cons (len_cons len_nil))) (a_cons (e_and (e_call G_law_over (hr.mono (by decide)) m_law_over k_law_over b_law_over hx (a_cons (e_var 3 (pv 3)) (a_cons (e_var 5 (pv 5)) a_nil)) (len_cons (len_cons len_nil))) (pe_one (e_cmp op_le rd_cmp (PE.imp (pe_callB call_len rfl z_len boot_len (a_cons (e_var 5 (pv 5)) a_nil)) (le_cb rd_len)) e_int (nomark _)))) a_nil)) (len_cons (len_cons len_nil)))))))) (s_one (s_ret e_bl)) s_nil)
      (s_one (s_if (PW.pt (t_and (t_not (t_val (e_var 4 (pv 4)))) (pw_and1 (t_not (t_val (e_call G_law_refused (hr.mono (by decide)) m_law_refused k_law_refused b_law_refused hx (a_cons (e_var 3 (pv 3)) (a_cons (e_var 5 (pv 5)) (a_cons (e_call G_law_next (hr.mono (by decide)) m_law_next k_law_next b_law_next hx (a_cons (e_var 1 (pv 1)) (a_cons e_int a_nil)) (len_cons (len_cons len_nil))) a_nil))) (len_cons (len_cons (len_cons len_nil))))))))) (s_one (s_ret e_bl)) s_nil))))))))) (le_forR1 (gd_name 2)))
      (s_one (s_ret (e_call G_law_looks (hr.mono (by decide)) m_law_looks k_law_looks b_law_looks hx (a_cons (e_var 1 (pv 1)) a_nil) (len_cons len_nil))))))
theorem ok_law (KX : K.In h) (GM : h.Ns mainGlobals mg) (C : He.SaysD fa fn K) (TBs : ∀ p ∈ MX.TL.tf ++ MX.TL.tl.map (·.1), GxR.TabB base mg (He.cT K p).1 (He.cT K p).2) (EF : MX.ErrF K) (EO : ∀ q ∈ erL, MX.ErrOk P w K mg base q.1 q.2) : DefOk P w K mg base 9 "law" ["script"] (f_law F) := by
  obtain ⟨fd, FD⟩ := C.def_ 23 (d := d_law) rfl
  have bd : Binds K fd ["script"] [] := FunD.bindsN FD fun _ _ _ _ _ _ us hl => match us, hl with | [_], _ => rfl
  exact ⟨⟨fd, okf_law F KX GM C TBs EF EO FD, bd⟩, He.glo_ok KX GM (C.fact 23 (f := .glo "law") rfl), FD.kp⟩
end
set_option maxHeartbeats 4000000 in
theorem eo_BadValue {w : World} {K : PySem.W.Frag} {mg : Str → Option Value} {base : Heap} (hB : in_BadValue K = true) (hO : HK.initObs K "BadValue" = some (("__init__", "BadValue.__init__", defArgs si_BadValue, FuncBody.stmts (defBody si_BadValue), defScope si_BadValue, mainGlobals, builtinsNs, Value.none, ["__class__"]) : HK.IObs)) (hg : mg "BadValue" = some (.ref (He.ga K "BadValue"))) (hs : mg "super" = none) : MX.ErrOk PySem.Challenge.rw_backseen_k01_letters_words_and_looks.prog w K mg base "BadValue" "name" :=
  MX.errOk (prm := "name") (z0 := "wrong argument: ") hB hO hg rfl rfl rfl rfl (MX.scope_free (by decide +kernel)) (by decide) (by decide) (by decide) (by decide +kernel) (by decide +kernel) (by decide +kernel) (by decide +kernel) (MX.scope_nc (by decide +kernel)) rfl rfl (by decide +kernel) hs (by decide +kernel) (fun _ _ => rfl) (fun _ => ⟨_, rfl⟩) (fun _ _ _ _ _ _ _ _ _ => rfl)
end B_k01_letters_words_and_looks

end
section
namespace B_k01_letters_words_and_looks
open PySem L2 MX WM
theorem mSeq_nx {a b : MS} {σ σ1 : Fr} {S S1 : Os} (h : a σ S = .nx σ1 S1) : mSeq a b σ S = b σ1 S1 := by
  simp only [mSeq, h, SRes.seq]
theorem next_eq (F : Nat) (S : Os) (st : Nat) (many : Int) (sc : Nat) (h : StrA S st sc) (hm : 0 < many) (hm2 : many < 1073741824) :
    ∃ d S', f_law_next F [.loc st, .int many] S = .ok (.int d) S' ∧ 0 ≤ d ∧ d < many ∧ StrA S' st sc ∧ But st S S' := by
  obtain ⟨ns, c, k, hst, hsc, hne, hc, hk⟩ := h
  have e3 : ixN 3 1 = some 1 := ixN_1 3 (by decide)
  have e4 : ixN 3 2 = some 2 := ixN_2 3 (by decide)
  have fin : ∀ c1 k1 : Int, 0 ≤ c1 → 0 ≤ k1 → ∀ S1, lstAt S1 st = some [.loc sc, .int c1, .int k1] → But st S S1 → f_law_next F [.loc st, .int many] S = .ok (.int (c1.fmod many)) (S1.set st (.lst [.loc sc, .int (c1.fdiv many), .int k1])) →
      ∃ d S', f_law_next F [.loc st, .int many] S = .ok (.int d) S' ∧ 0 ≤ d ∧ d < many ∧ StrA S' st sc ∧ But st S S' := fun c1 k1 h1 h2 S1 h3 h4 h5 => by
    obtain ⟨b1, b2, b3⟩ := fmod_bounds h1 hm
    exact ⟨_, _, h5, b1, b2, ⟨ns, _, k1, lstAt_set h3, by rw [lstAt_set_ne hne]; exact h4.lst (Ne.symm hne) hsc, hne, b3, h2⟩, h4.set⟩
  by_cases h0 : c = 0
  · have cell : ∀ cl : Int, 0 ≤ cl → ∀ S1, S1 = (S.set st (.lst [.loc sc, .int cl, .int k])).set st (.lst [.loc sc, .int cl, .int (k + 1)]) → f_law_next F [.loc st, .int many] S = .ok (.int (cl.fmod many)) (S1.set st (.lst [.loc sc, .int (cl.fdiv many), .int (k + 1)])) →
        ∃ d S', f_law_next F [.loc st, .int many] S = .ok (.int d) S' ∧ 0 ≤ d ∧ d < many ∧ StrA S' st sc ∧ But st S S' := fun cl h1 S1 hS h5 => by
      refine fin cl (k + 1) h1 (by omega) S1 ?_ ?_ h5
      · rw [hS]; exact lstAt_set (lstAt_set hst)
      · rw [hS]; exact ((But.refl st S).set).set
    have e1 : many ≠ 0 := by omega
    have e2 : ∀ z, CDivN z many := fun z => ⟨e1, by omega⟩
    have ek : atI (ns.map D.int) k = (ns[k.toNat]?).map D.int := by
      have h := atI_nn (ns.map D.int) k.toNat
      rw [List.getElem?_map, show ((k.toNat : Nat) : Int) = k by omega] at h
      exact h
    have ep : CPow 10 18 := ⟨by decide, by decide, by decide⟩
    have em : ∀ z : Int, CMul z 48271 := fun z => .inr ⟨by decide, by decide⟩
    have em2 : ∀ z : Int, CMul z 69621 := fun z => .inr ⟨by decide, by decide⟩
    have em3 : ∀ z : Int, CMul z 16807 := fun z => .inr ⟨by decide, by decide⟩
    have em4 : ∀ z : Int, CMul z 65537 := fun z => .inr ⟨by decide, by decide⟩
    -- the cell from the script, or none
    have key : ∀ raw : Int, 0 ≤ raw → (f_law_next F [.loc st, .int many] S = if raw < 1000000000000000000 then .ok (.int ((((((raw * 48271 + k * 69621 + 11).fmod 2147483647) * 16807 + 13).fmod 2147483647) * 65537 + (raw * 48271 + k * 69621 + 11).fmod 2147483647).fmod many)) (((S.set st (.lst [.loc sc, .int ((((raw * 48271 + k * 69621 + 11).fmod 2147483647) * 16807 + 13).fmod 2147483647 * 65537 + (raw * 48271 + k * 69621 + 11).fmod 2147483647), .int k])).set st (.lst [.loc sc, .int ((((raw * 48271 + k * 69621 + 11).fmod 2147483647) * 16807 + 13).fmod 2147483647 * 65537 + (raw * 48271 + k * 69621 + 11).fmod 2147483647), .int (k + 1)])).set st (.lst [.loc sc, .int (((((raw * 48271 + k * 69621 + 11).fmod 2147483647) * 16807 + 13).fmod 2147483647 * 65537 + (raw * 48271 + k * 69621 + 11).fmod 2147483647).fdiv many), .int (k + 1)])) else .ok (.int (raw.fmod many)) (((S.set st (.lst [.loc sc, .int raw, .int k])).set st (.lst [.loc sc, .int raw, .int (k + 1)])).set st (.lst [.loc sc, .int (raw.fdiv many), .int (k + 1)]))) →
        ∃ d S', f_law_next F [.loc st, .int many] S = .ok (.int d) S' ∧ 0 ≤ d ∧ d < many ∧ StrA S' st sc ∧ But st S S' := fun raw hr q => by
      by_cases c1 : raw < 1000000000000000000
      · rw [if_pos c1] at q
        refine cell _ ?_ _ rfl q
        have b1 := (fmod_bounds (a := raw * 48271 + k * 69621 + 11) (b := 2147483647) (by omega) (by decide)).1
        have b2 := (fmod_bounds (a := (raw * 48271 + k * 69621 + 11).fmod 2147483647 * 16807 + 13) (b := 2147483647) (by omega) (by decide)).1
        omega
      · rw [if_neg c1] at q
        exact cell raw hr _ rfl q
    by_cases hkl : k < (ns.length : Int)
    · have hn : k.toNat < ns.length := by omega
      have e7 : ns[k.toNat]? = some ns[k.toNat] := List.getElem?_eq_getElem hn
      refine key (if ns[k.toNat] < 0 then -ns[k.toNat] else ns[k.toNat]) (by split <;> omega) ?_
      by_cases c1 : (if ns[k.toNat] < 0 then -ns[k.toNat] else ns[k.toNat]) < 1000000000000000000
      · rw [if_pos c1]
        simp [f_law_next, c_b_law_next, hst, hsc, h0, e1, e2, e3, e4, kinds, hkl, ek, e7, ep, em, em2, em3, em4, c1, lstAt_set hst, lstAt_set (lstAt_set hst)]
      · rw [if_neg c1]
        simp [f_law_next, c_b_law_next, hst, hsc, h0, e1, e2, e3, e4, kinds, hkl, ek, e7, ep, em, em2, em3, em4, c1, lstAt_set hst, lstAt_set (lstAt_set hst)]
    · refine key (7 + k) (by omega) ?_
      by_cases c1 : 7 + k < 1000000000000000000
      · rw [if_pos c1]
        simp [f_law_next, c_b_law_next, hst, hsc, h0, e1, e2, e3, e4, kinds, hkl, ep, em, em2, em3, em4, c1, lstAt_set hst, lstAt_set (lstAt_set hst)]
      · rw [if_neg c1]
        simp [f_law_next, c_b_law_next, hst, hsc, h0, e1, e2, e3, e4, kinds, hkl, ep, em, em2, em3, em4, c1, lstAt_set hst, lstAt_set (lstAt_set hst)]
  · refine fin c k hc hk S hst (But.refl _ _) ?_
    have e1 : many ≠ 0 := by omega
    have e2 : CDivN c many := ⟨e1, by omega⟩
    simp [f_law_next, c_b_law_next, hst, hsc, h0, e1, e2, e3, kinds]
/-! ### words -/
theorem is_over_eq (F : Nat) (al v : List Nat) (S : Os) (h1 : nsig (toS v) + 1 < 4096) (h2 : nsig (toS al) + 1 < 4096) (h3 : nsig (toS v) / 4 ≤ nsig (toS al)) :
    f_is_over F [.str (toS al), .str (toS v)] S = .ok (.bl (within (toS v) (toS al))) S := by
  simp [f_is_over, c_b_is_over, kinds, h1, h2, h3]
theorem emp_eq : ("" : Str) = toS [] := rfl
/-- letters -/
structure Lts (ls : List Nat) : Prop where
  pos : 0 < ls.length
  max : ls.length ≤ 4
  asc : ls.Pairwise (· < ·)
  abc : ∀ c ∈ ls, c ∈ abc
/-! ### letters -/
theorem is_letters_eq (F : Nat) (ls : List Nat) (S : Os) (h : Lts ls) : ∃ S', f_is_letters F [.str (toS ls)] S = .ok (.bl true) S' ∧ Ext S S' := by
  have hp := h.pos
  have hm := h.max
  have n1 := nsig_le h.abc
  have n2 : abc.length = 26 := rfl
  have n3 := is_over_eq F abc ls S (by omega) (by rw [nsig_abc]; decide) (by rw [nsig_abc]; omega)
  rw [within_iff.mpr h.abc] at n3
  have C : C1_is_letters F [some (.str (toS ls)), none] S = .ok (.loc S.length) (S ++ [.lst ((rngD 0 (ls.length - 1)).map fun _ => .bl true)]) := by
    have := comp_pure (okS := fun _ => True) (g := gN 1) (vs := [1]) (t := mYes) (e := mBin ltD (mBin ixD (mVar 0) (mVar 1)) (mBin ixD (mVar 0) (mBin addD (mVar 1) (mC (.int 1))))) (S0 := S) (σ := [some (.str (toS ls)), none]) (fun _ => true) (fun _ => .bl true) (fun _ => trivial) (rngD 0 (ls.length - 1)) [] (fun x hx a => by
      obtain ⟨j, hj⟩ := List.mem_iff_getElem?.mp hx
      obtain ⟨hj2, rfl⟩ := rngD_get hj
      refine ⟨[some (.str (toS ls)), some (.int (0 + j))], by simp, by simp, fun _ => ?_⟩
      have ea := atI_some (l := ls) (i := (j : Int)) j rfl (List.getElem?_eq_getElem (show j < ls.length by omega))
      have eb := atI_some (l := ls) (i := (j : Int) + 1) (j + 1) (by omega) (List.getElem?_eq_getElem (show j + 1 < ls.length by omega))
      have lt := (List.pairwise_iff_getElem.mp h.asc) j (j + 1) (by omega) (by omega) (by omega)
      simp [ea, eb, lt, List.cons_lt_cons_iff, sizeLine_num, show ls.length ≤ 16777216 by omega]) (by rw [rngD_len]; simp; omega)
    rw [List.filter_eq_self.mpr fun _ _ => rfl, List.nil_append] at this
    unfold C1_is_letters
    rw [lc1_nat (n := ls.length - 1) (S1 := S) (by simp [sizeLine_num, show ls.length ≤ 16777216 by omega]; omega) (by omega)]
    exact this
  have bl : blsD ((rngD 0 (ls.length - 1)).map fun _ => D.bl true) = some ((rngD 0 (ls.length - 1)).map fun _ => true) := by
    rw [← blsD_map, List.map_map]
    rfl
  refine ⟨_, ?_, Ext.app S [.lst ((rngD 0 (ls.length - 1)).map fun _ => .bl true)]⟩
  simp [f_is_letters, c_b_is_letters, kinds, sizeLine_num, show ls.length ≤ 16777216 by omega, show (1 : Int) ≤ ls.length by omega, show (ls.length : Int) ≤ 4 by omega, abc_eq, n3, C, bl, hp, show ls ≠ [] from List.length_pos_iff.mp hp, hm, show 1 ≤ ls.length by omega]
def sg (c : Nat) : D := .str (toS [c])
theorem signs_toS (l : List Nat) : signsD (toS l) = l.map sg := rfl
theorem any_sg (cs : List Nat) (c : Nat) : ((cs.map sg).any fun y => eqfD y (sg c)) = decide (c ∈ cs) := by
  rw [Bool.eq_iff_iff, List.any_map, List.any_eq_true, decide_eq_true_eq]
  constructor
  · rintro ⟨a, ha, h⟩
    simp [sg] at h
    exact h ▸ ha
  · intro h
    exact ⟨c, h, by simp [sg]⟩
theorem flat_sg (cs : List Nat) : (cs.map sg).all flatD = true := by simp [sg, List.all_eq_true]
def sgk (cs : List Nat) : D → Bool
  | .str z => !decide (z.cps.toList.headD 0 ∈ cs)
  | _ => false
theorem sgk_sg (cs : List Nat) (c : Nat) : sgk cs (sg c) = !decide (c ∈ cs) := rfl
theorem inA_sg {neg : Bool} {cs : List Nat} {c fo : Nat} {S : Os} (h : lstAt S fo = some (cs.map sg)) : inA neg (sg c) (.loc fo) S = .ok (.bl (if neg then !decide (c ∈ cs) else decide (c ∈ cs))) S := by
  unfold inA
  simp only [itemsD, h]
  rw [if_pos ⟨rfl, flat_sg cs⟩, any_sg]
theorem free_eq (F : Nat) (S : Os) (fo : Nat) (cs : List Nat) (a b : Option D) (t : Option D) (h : lstAt S fo = some (cs.map sg)) :
    C1_law_letters F [a, some (.loc fo), b, t] S = .ok (.loc S.length) (S ++ [.lst ((abc.filter fun c => !decide (c ∈ cs)).map sg)]) := by
  have := comp_pure (okS := fun _ => True) (g := gN 3) (vs := [3]) (t := mTest (mBin (inA true) (mVar 3) (mVar 1))) (e := mVar 3) (S0 := S) (σ := [a, some (.loc fo), b, t]) (sgk cs) id (fun _ => trivial) (abc.map sg) [] (fun x hx acc => by
    obtain ⟨c, _, rfl⟩ := List.mem_map.mp hx
    refine ⟨[a, some (.loc fo), b, some (sg c)], by simp, ?_, fun _ => by simp⟩
    have h' := lstAt_app (T := [O.lst acc]) h
    have e := inA_sg (neg := true) (c := c) h'
    simp [-inA, sgk_sg, e]) (by simp; decide)
  unfold C1_law_letters
  simp only [mLcS, mC, abc_eq, Res.bind_ok, signs_toS]
  rw [this, List.nil_append, List.map_id, List.filter_map]
  rfl
theorem pick_eq (F : Nat) (S : Os) (st sc L : Nat) (l : List D) (h : StrA S st sc) (hL : lstAt S L = some l) (hne : L ≠ st) (hl : 0 < l.length) (hl2 : l.length < 1000000) :
    ∃ x S', f_law_pick F [.loc st, .loc L] S = .ok x S' ∧ x ∈ l ∧ StrA S' st sc ∧ But st S S' := by
  obtain ⟨d, S1, e1, d0, d1, s1, b1⟩ := next_eq F S st (l.length : Int) sc h (by omega) (by omega)
  have hd : d.toNat < l.length := by omega
  have ea := atI_some (l := l) (i := d) d.toNat (by omega) (List.getElem?_eq_getElem hd)
  refine ⟨l[d.toNat], S1, ?_, List.getElem_mem hd, s1, b1⟩
  simp [f_law_pick, c_b_law_pick, hL, sizeLine_num, show l.length ≤ 16777216 by omega, e1, b1.lst hne hL, ea]
theorem sorted_sg (cs : List Nat) (h : cs.Nodup) : ∃ ds : List Nat, ((cs.map fun c => toS [c]).mergeSort SK.sLe) = ds.map (fun c => toS [c]) ∧ ds.Perm cs ∧ ds.Pairwise (· < ·) := by
  obtain ⟨us, e, p, q⟩ := sort_s (cs.map fun c => [c])
  rw [List.map_map] at e
  have hu : ∀ u ∈ us, ∃ c, u = [c] := fun u hu => by
    obtain ⟨c, _, rfl⟩ := List.mem_map.mp (p.mem_iff.mp hu)
    exact ⟨c, rfl⟩
  have e2 : us = (us.map fun u => u.headD 0).map fun c => [c] := by
    rw [List.map_map]
    conv => lhs; rw [← List.map_id us]
    exact List.map_congr_left fun u h => by obtain ⟨c, rfl⟩ := hu u h; rfl
  have pp : (us.map fun u => u.headD 0).Perm cs := by
    have := p.map fun u => u.headD 0
    rw [List.map_map] at this
    have e3 : cs.map ((fun u : List Nat => u.headD 0) ∘ fun c => [c]) = cs := by
      conv => rhs; rw [← List.map_id cs]
      exact List.map_congr_left fun _ _ => rfl
    rwa [e3] at this
  refine ⟨us.map fun u => u.headD 0, ?_, pp, ?_⟩
  · have e4 : us.map toS = ((us.map fun u => u.headD 0).map fun c => [c]).map toS := by rw [← e2]
    rw [List.map_map] at e4
    exact e.trans e4
  · have n := pp.nodup_iff.mpr h
    rw [e2] at q
    have q2 := List.pairwise_map.mp q
    refine (q2.and n).imp fun {a b} ⟨h1, h2⟩ => ?_
    have h3 := List.cons_le_cons_iff.mp h1
    rcases h3 with h3 | h3
    · exact h3
    · exact (h2 h3.1).elim
theorem join_sg (ds : List Nat) (h : ds.length ≤ 4) : joinN (toS []) (ds.map fun c => toS [c]) = toS ds := by
  match ds, h with
  | [], _ => rfl
  | [a], _ => rfl
  | [a, b], _ => rfl
  | [a, b, c], _ => rfl
  | [a, b, c, d], _ => rfl
  | a :: b :: c :: d :: e :: l, h => simp at h
theorem strs_sg (cs : List Nat) : strsD (cs.map sg) = some (cs.map fun c => toS [c]) := by
  have := strsD_map (cs.map fun c => toS [c])
  rwa [List.map_map] at this
theorem letters_eq (F : Nat) (S : Os) (st sc : Nat) (h : StrA S st sc) : ∃ ls S', f_law_letters F [.loc st] S = .ok (.str (toS ls)) S' ∧ Lts ls ∧ StrA S' st sc ∧ Drw st S S' := by
  have x0 : Ext S (S ++ [O.lst []]) := Ext.app _ _
  obtain ⟨d, S1, e1, d0, d1, s1, b1⟩ := next_eq F (S ++ [O.lst []]) st 4 sc (h.ext x0) (by decide) (by decide)
  obtain ⟨hst, hsc⟩ := h.lt
  have n1 : S.length ≠ st := by omega
  have L : ∃ σ' S', mLoop (fun _ => True) (gN 2) (B1_law_letters F) (rngD 0 (1 + d.toNat)) [some (.loc st), some (.loc S.length), none, none] S1 = .nx σ' S' ∧ ∃ (cs : List Nat) (t u : Option D), σ' = [some (.loc st), some (.loc S.length), t, u] ∧ cs.length = 1 + d.toNat ∧ cs.Nodup ∧ (∀ c ∈ cs, c ∈ abc) ∧ lstAt S' S.length = some (cs.map sg) ∧ StrA S' st sc ∧ Drw st S S' := by
    refine loop_rng_nx (fun j σ S' => ∃ (cs : List Nat) (t u : Option D), σ = [some (.loc st), some (.loc S.length), t, u] ∧ cs.length = j ∧ cs.Nodup ∧ (∀ c ∈ cs, c ∈ abc) ∧ lstAt S' S.length = some (cs.map sg) ∧ StrA S' st sc ∧ Drw st S S') ⟨[], none, none, rfl, rfl, List.nodup_nil, fun c h => by simp at h, b1.lst n1 lstAt_new, s1, x0.drw.trans b1.drw⟩ fun j σ S2 hj ⟨cs, t, u, hσ, hc, hn, ha, hl, hs, hd⟩ => ?_
    subst hσ
    have C := free_eq F S2 S.length cs (some (.loc st)) (some (.int j)) u hl
    have flen : 0 < (abc.filter fun c => !decide (c ∈ cs)).length := by
      rw [List.length_pos_iff]
      intro z
      have := nodup_len (l := abc) (m := cs) (by decide +kernel) (fun x hx => by
        by_cases q : x ∈ cs
        · exact q
        · have : x ∈ abc.filter fun c => !decide (c ∈ cs) := List.mem_filter.mpr ⟨hx, by simp [q]⟩
          rw [z] at this
          cases this)
      have : abc.length = 26 := rfl
      omega
    have fmax : (abc.filter fun c => !decide (c ∈ cs)).length ≤ 26 := List.length_filter_le _ _
    obtain ⟨x, S3, e3, hx, s3, b3⟩ := pick_eq F (S2 ++ [.lst ((abc.filter fun c => !decide (c ∈ cs)).map sg)]) st sc S2.length _ (hs.ext (Ext.app _ _)) lstAt_new (by have := hs.lt.1; omega) (by rw [List.length_map]; exact flen) (by rw [List.length_map]; omega)
    obtain ⟨c, hcf, rfl⟩ := List.mem_map.mp hx
    obtain ⟨hca, hcn⟩ := List.mem_filter.mp hcf
    have hcn : c ∉ cs := by simpa using hcn
    have l3 : lstAt S3 S.length = some (cs.map sg) := b3.lst n1 (lstAt_app hl)
    have hs3 := lstAt_lt l3
    refine ⟨[some (.loc st), some (.loc S.length), some (.int j), u], [some (.loc st), some (.loc S.length), some (.int j), u], S3.set S.length (.lst ((cs ++ [c]).map sg)), by simp, ?_, cs ++ [c], _, _, rfl, by simp [hc], ?_, ?_, lstAt_set l3, ?_, ?_⟩
    · clear hx hcf flen fmax
      generalize (S2 ++ [O.lst ((abc.filter fun c => !decide (c ∈ cs)).map sg)]) = S9 at C e3
      simp [B1_law_letters, C, e3, l3, hl, sizeLine_num, hc, show j < 16777216 by omega]
    · exact List.nodup_append.mpr ⟨hn, by simp, fun a ha b hb e => by rw [List.mem_singleton] at hb; exact hcn (hb ▸ e ▸ ha)⟩
    · intro y hy
      rcases List.mem_append.mp hy with hy | hy
      · exact ha y hy
      · rw [List.mem_singleton.mp hy]; exact hca
    · exact s3.set n1 (by omega)
    · exact drw_setn ((hd.trans (Ext.app S2 _).drw).trans b3.drw) (Nat.le_refl _)
  obtain ⟨σ', S', e3, cs, t, u, rfl, hc, hn, ha, hl, hs, hd⟩ := L
  obtain ⟨ds, e4, p4, q4⟩ := sorted_sg cs hn
  have dl : ds.length = 1 + d.toNat := by rw [p4.length_eq, hc]
  have g := lst_get hl
  have e5 : sortedT [.loc S.length] S' = .ok (.loc S'.length) (S' ++ [.lst (ds.map sg)]) := by
    simp only [sortedT, collT, collD, g, Option.bind_some, strs_sg, e4]
    rw [List.map_map]
    rfl
  have e6 : joinD (.str (toS [])) [.loc S'.length] (S' ++ [.lst (ds.map sg)]) = .ok (.str (toS ds)) (S' ++ [.lst (ds.map sg)]) := by
    have b : ((ds.map fun c => toS [c]).map (·.length)).sum + (ds.map fun c => toS [c]).length * (toS []).length ≤ 16777216 := by
      have z : (toS []).length = 0 := rfl
      rw [z, List.map_map]
      have : (ds.map ((·.length) ∘ fun c => toS [c])) = ds.map fun _ => 1 := List.map_congr_left fun _ _ => rfl
      rw [this, List.map_const', List.sum_replicate_nat]
      omega
    simp only [joinD, itemsD, lstAt_new, strs_sg]
    rw [if_pos b, join_sg ds (by omega)]
  refine ⟨ds, S' ++ [.lst (ds.map sg)], ?_, ⟨by omega, by omega, q4, fun c hc => ha c (p4.mem_iff.mp hc)⟩, hs.ext (Ext.app _ _), hd.trans (Ext.app _ _).drw⟩
  have e7 : (mForR1 (mBin addD (mC (.int 1)) (mCall (f_law_next F) (mCons (mVar 0) (mCons (mC (.int 4)) mNil)))) (gN 2) (B1_law_letters F)) [some (.loc st), some (.loc S.length), none, none] (S ++ [O.lst []]) = .nx [some (.loc st), some (.loc S.length), t, u] S' := by
    rw [for1_nat (n := 1 + d.toNat) (S1 := S1) (by simp [e1]; omega) (by omega)]
    exact e3
  unfold f_law_letters c_b_law_letters
  simp only [fnD]
  rw [mSeq_nx (σ1 := [some (.loc st), some (.loc S.length), none, none]) (S1 := S ++ [O.lst []]) (by simp [sizeLine_num]), mSeq_nx e7]
  simp [-sortedT, -joinD, emp_eq, e5, e6]
theorem word_eq (F : Nat) (S : Os) (st sc l0 m : Nat) (ls : List Nat) (h : StrA S st sc) (hl : 0 < ls.length) (hx : ls.length ≤ 100) (h0 : l0 ≤ m) (hm : m ≤ 100000) :
    ∃ w S', f_law_word F [.loc st, .str (toS ls), .int l0, .int m] S = .ok (.str (toS w)) S' ∧ l0 ≤ w.length ∧ w.length ≤ m ∧ (∀ c ∈ w, c ∈ ls) ∧ StrA S' st sc ∧ But st S S' := by
  obtain ⟨n, S1, e1, n0, n1, s1, b1⟩ := next_eq F S st ((m : Int) - l0 + 1) sc h (by omega) (by omega)
  have L : ∃ σ' S', mLoop (fun _ => True) (gN 5) (B1_law_word F) (rngD 0 (l0 + n.toNat)) [some (.loc st), some (.str (toS ls)), some (.int l0), some (.int m), some (.str (toS [])), none] S1 = .nx σ' S' ∧ ∃ w t, σ' = [some (.loc st), some (.str (toS ls)), some (.int l0), some (.int m), some (.str (toS w)), t] ∧ w.length = l0 + n.toNat ∧ (∀ c ∈ w, c ∈ ls) ∧ StrA S' st sc ∧ But st S1 S' := by
    refine loop_rng_nx (fun j σ S' => ∃ w t, σ = [some (.loc st), some (.str (toS ls)), some (.int l0), some (.int m), some (.str (toS w)), t] ∧ w.length = j ∧ (∀ c ∈ w, c ∈ ls) ∧ StrA S' st sc ∧ But st S1 S') ⟨[], none, rfl, rfl, fun c h => by simp at h, s1, But.refl _ _⟩ fun j σ S2 hj ⟨w, t, hσ, hw, ha, hs, hb⟩ => ?_
    subst hσ
    obtain ⟨d, S3, e2, d0, d1, s3, b3⟩ := next_eq F S2 st (ls.length : Int) sc hs (by omega) (by omega)
    have hd : d.toNat < ls.length := by omega
    have ea := atI_some (l := ls) (i := d) d.toNat (by omega) (List.getElem?_eq_getElem hd)
    refine ⟨[some (.loc st), some (.str (toS ls)), some (.int l0), some (.int m), some (.str (toS w)), some (.int (0 + j))], [some (.loc st), some (.str (toS ls)), some (.int l0), some (.int m), some (.str (toS (w ++ [ls[d.toNat]]))), some (.int (0 + j))], S3, by simp, ?_, w ++ [ls[d.toNat]], _, rfl, by simp [hw], fun c hc => ?_, s3, hb.trans b3⟩
    · simp [B1_law_word, sizeLine_num, show ls.length ≤ 16777216 by omega, e2, ea, hw, show j + 1 ≤ 16777216 by omega]
    · rcases List.mem_append.mp hc with hc | hc
      · exact ha c hc
      · rw [List.mem_singleton.mp hc]
        exact List.getElem_mem hd
  obtain ⟨σ', S', e3, w, t, rfl, hw, ha, hs, hb⟩ := L
  refine ⟨w, S', ?_, by omega, by omega, ha, hs, b1.trans hb⟩
  have e4 : (mForR1 (mBin addD (mVar 2) (mCall (f_law_next F) (mCons (mVar 0) (mCons (mBin addD (mBin subD (mVar 3) (mVar 2)) (mC (.int 1))) mNil)))) (gN 5) (B1_law_word F)) [some (.loc st), some (.str (toS ls)), some (.int l0), some (.int m), some (.str (toS [])), none] S = .nx [some (.loc st), some (.str (toS ls)), some (.int l0), some (.int m), some (.str (toS w)), t] S' := by
    rw [for1_nat (n := l0 + n.toNat) (S1 := S1) (by simp [e1]; omega) (by omega)]
    exact e3
  unfold f_law_word c_b_law_word
  simp only [fnD, emp_eq]
  rw [mSeq_nx (σ1 := [some (.loc st), some (.str (toS ls)), some (.int l0), some (.int m), some (.str (toS [])), none]) (S1 := S) (by simp), mSeq_nx e4]
  simp
/-! ### signs of a text that are not in another one -/
theorem inA_text {neg : Bool} {cs : List Nat} {c : Nat} {S : Os} : inA neg (sg c) (.str (toS cs)) S = .ok (.bl (if neg then !decide (c ∈ cs) else decide (c ∈ cs))) S := by
  cases neg <;> simp [inA, sg, sgn] <;> exact decide_eq_decide.mpr Iff.rfl
theorem out_comp (i l0 : Nat) (σ : Fr) (S : Os) (w ls : List Nat) (h : σ[l0]? = some (some (.str (toS ls)))) (hne : i ≠ l0) (hi : i < σ.length) (hw : w.length ≤ 1000000) :
    mComp (fun _ => True) (gN i) [i] (mTest (mBin (inA true) (mVar i) (mVar l0))) (mVar i) S.length (w.map sg) σ (S ++ [.lst []]) = .ok (.loc S.length) (S ++ [.lst ((w.filter fun c => !decide (c ∈ ls)).map sg)]) := by
  have := comp_pure (okS := fun _ => True) (g := gN i) (vs := [i]) (t := mTest (mBin (inA true) (mVar i) (mVar l0))) (e := mVar i) (S0 := S) (σ := σ) (sgk ls) id (fun _ => trivial) (w.map sg) [] (fun x hx acc => by
    obtain ⟨c, _, rfl⟩ := List.mem_map.mp hx
    have e0 : ∀ d : D, ((σ.set i none).set i (some d))[i]? = some (some d) := fun d => List.getElem?_set_self (by rw [List.length_set]; exact hi)
    have e1 : ∀ d : D, ((σ.set i none).set i (some d))[l0]? = some (some (.str (toS ls))) := fun d => by
      rw [List.getElem?_set_ne hne, List.getElem?_set_ne hne]
      exact h
    refine ⟨(σ.set i none).set i (some (sg c)), rfl, ?_, fun _ => ?_⟩
    · simp only [mTest, mBin, mVar, e0, e1, Res.bind_ok, inA_text, sgk_sg]
      simp
    · simp only [mVar, e0]
      rfl) (by simp; omega)
  rw [this, List.nil_append, List.map_id, List.filter_map]
  rfl
end B_k01_letters_words_and_looks

end
section
namespace B_k01_letters_words_and_looks
open PySem L2 MX WM
/-! ### letters, in general -/
theorem nb_iff : ∀ l : List Nat, l.Pairwise (· < ·) ↔ ∀ j (h : j + 1 < l.length), l[j]'(by omega) < l[j + 1]
  | [] => by simp
  | [a] => by simp
  | a :: b :: l => by
    have ih := nb_iff (b :: l)
    constructor
    · intro h j hj
      exact (List.pairwise_iff_getElem.mp h) j (j + 1) (by omega) hj (by omega)
    · intro h
      have h1 : (b :: l).Pairwise (· < ·) := ih.mpr fun j hj => h (j + 1) (by simp only [List.length_cons] at hj ⊢; omega)
      refine List.pairwise_cons.mpr ⟨fun x hx => ?_, h1⟩
      have h0 : a < b := h 0 (by simp)
      rcases List.mem_cons.mp hx with rfl | hx
      · exact h0
      · exact Nat.lt_trans h0 ((List.pairwise_cons.mp h1).1 x hx)
theorem gdN {l : List Nat} {i : Nat} (h : i < l.length) : l.getD i 0 = l[i] := by simp [List.getD, h]
/-- a text, or no text -/
def Txv (n : Nat) (S : Os) (v : D) : Prop := (∃ w : List Nat, v = .str (toS w) ∧ w.length ≤ n) ∨ ∃ T, T ≠ "str" ∧ T ∈ kinds ∧ kindD S v = some T
def Letr (v : D) : Prop := ∃ ls, v = .str (toS ls) ∧ Lts ls
theorem letr_iff {w : List Nat} : Letr (.str (toS w)) ↔ Lts w := by
  constructor
  · rintro ⟨ls, e, h⟩
    rw [D.str.injEq, toS_inj] at e
    rw [e]
    exact h
  · intro h
    exact ⟨w, rfl, h⟩
theorem is_letters_gen (F : Nat) (v : D) (S : Os) (h : Txv 3900 S v) : ∃ b S', f_is_letters F [v] S = .ok (.bl b) S' ∧ (b = true ↔ Letr v) ∧ Ext S S' := by
  have hs : ("str" : String) ∈ kinds := by simp [kinds]
  rcases h with ⟨w, rfl, hw⟩ | ⟨T, hT, hK, hk⟩
  · by_cases q : 1 ≤ w.length ∧ w.length ≤ 4
    · have n0 := nsig_le (u := w) (v := w) fun _ h => h
      have n3 := is_over_eq F abc w S (by omega) (by rw [nsig_abc]; decide) (by rw [nsig_abc]; omega)
      let f : Nat → Bool := fun j => decide (w.getD j 0 < w.getD (j + 1) 0)
      have C : C1_is_letters F [some (.str (toS w)), none] S = .ok (.loc S.length) (S ++ [.lst ((rngD 0 (w.length - 1)).map fun x => match x with | .int i => .bl (f i.toNat) | d => d)]) := by
        have := comp_pure (okS := fun _ => True) (g := gN 1) (vs := [1]) (t := mYes) (e := mBin ltD (mBin ixD (mVar 0) (mVar 1)) (mBin ixD (mVar 0) (mBin addD (mVar 1) (mC (.int 1))))) (S0 := S) (σ := [some (.str (toS w)), none]) (fun _ => true) (fun x => match x with | .int i => .bl (f i.toNat) | d => d) (fun _ => trivial) (rngD 0 (w.length - 1)) [] (fun x hx a => by
          obtain ⟨j, hj⟩ := List.mem_iff_getElem?.mp hx
          obtain ⟨hj2, rfl⟩ := rngD_get hj
          refine ⟨[some (.str (toS w)), some (.int (0 + j))], by simp, by simp, fun _ => ?_⟩
          have ea := atI_some (l := w) (i := (j : Int)) j rfl (List.getElem?_eq_getElem (show j < w.length by omega))
          have eb := atI_some (l := w) (i := (j : Int) + 1) (j + 1) (by omega) (List.getElem?_eq_getElem (show j + 1 < w.length by omega))
          have hf : f j = decide (w[j] < w[j + 1]) := by
            show decide (w.getD j 0 < w.getD (j + 1) 0) = _
            rw [gdN (by omega), gdN (by omega)]
          simp [ea, eb, hf, List.cons_lt_cons_iff, sizeLine_num, show w.length ≤ 16777216 by omega]) (by rw [rngD_len]; simp; omega)
        rw [List.filter_eq_self.mpr fun _ _ => rfl, List.nil_append] at this
        unfold C1_is_letters
        rw [lc1_nat (n := w.length - 1) (S1 := S) (by simp [sizeLine_num, show w.length ≤ 16777216 by omega]; omega) (by omega)]
        exact this
      have bl : blsD ((rngD 0 (w.length - 1)).map fun x => match x with | .int i => .bl (f i.toNat) | d => d) = some ((List.range (w.length - 1)).map f) := by
        rw [← blsD_map]
        congr 1
        refine List.ext_getElem? fun j => ?_
        by_cases q : j < w.length - 1
        · have e1 : (rngD 0 (w.length - 1))[j]? = some (.int (j : Int)) := by
            have hx : j < (rngD 0 (w.length - 1)).length := by rw [rngD_len]; exact q
            have := List.getElem?_eq_getElem hx
            obtain ⟨_, e⟩ := rngD_get this
            rw [this, e, Int.zero_add]
          rw [List.getElem?_map, e1, List.getElem?_map, List.getElem?_map, List.getElem?_range q]
          simp
        · rw [List.getElem?_eq_none (by rw [List.length_map, rngD_len]; omega), List.getElem?_eq_none (by simp; omega)]
      have ok : ((List.range (w.length - 1)).map f).all id = true ↔ w.Pairwise (· < ·) := by
        rw [nb_iff, List.all_eq_true]
        constructor
        · intro h j hj
          have := h (f j) (List.mem_map.mpr ⟨j, List.mem_range.mpr (by omega), rfl⟩)
          have := of_decide_eq_true (this : f j = true)
          rwa [gdN (by omega), gdN (by omega)] at this
        · intro h b hb
          obtain ⟨j, hj, rfl⟩ := List.mem_map.mp hb
          have hj := List.mem_range.mp hj
          show f j = true
          refine decide_eq_true ?_
          rw [gdN (by omega), gdN (by omega)]
          exact h j (by omega)
      have t1 : (mOr (mTest (mBin neT (mCB typeD (mCons (mVar 0) mNil)) (mC (.ty "str")))) (mNot (mTest (mChain leD leD (mC (.int 1)) (mCB lenD (mCons (mVar 0) mNil)) (mC (.int 4)))))) [some (.str (toS w)), none] S = .ok false S := by
        refine (mOr_f (S1 := S) (mTest_b (by simp [kinds]))).trans (mNot_b (b := true) (mTest_b ?_))
        simp [sizeLine_num, show w.length ≤ 16777216 by omega, show (1 : Int) ≤ w.length by omega, show (w.length : Int) ≤ 4 by omega]
        try omega
      have go : ∀ b S', (mAndV (mCall (f_is_over F) (mCons (mC (.str "abcdefghijklmnopqrstuvwxyz")) (mCons (mVar 0) mNil))) (mCB allD (mCons (C1_is_letters F) mNil))) [some (.str (toS w)), none] S = .ok (.bl b) S' → f_is_letters F [.str (toS w)] S = .ok (.bl b) S' := fun b S' q => by
        unfold f_is_letters c_b_is_letters
        simp only [fnD]
        rw [show (List.map some [D.str (toS w)] ++ List.replicate (2 - [D.str (toS w)].length) none) = [some (.str (toS w)), none] from rfl, mSeq_nx ((mIf_f (b := mNext) t1).trans (show mNext _ _ = SRes.nx _ _ from rfl)), mRet_e q]
      have eo : mCall (f_is_over F) (mCons (mC (.str "abcdefghijklmnopqrstuvwxyz")) (mCons (mVar 0) mNil)) [some (.str (toS w)), none] S = .ok (.bl (within (toS w) (toS abc))) S := by
        refine (mCall_2 (S1 := S) (S2 := S) (x := .str (toS abc)) (y := .str (toS w)) (by rw [abc_eq]; rfl) (by simp)).trans n3
      by_cases q2 : within (toS w) (toS abc) = true
      · refine ⟨((List.range (w.length - 1)).map f).all id, _, go _ _ ?_, ?_, Ext.app S [.lst ((rngD 0 (w.length - 1)).map fun x => match x with | .int i => .bl (f i.toNat) | d => d)]⟩
        · rw [q2] at eo
          simp only [mAndV, eo, Res.bind_ok]
          simp [C, bl]
        · rw [ok, letr_iff]
          exact ⟨fun h => ⟨q.1, q.2, h, within_iff.mp q2⟩, fun h => h.asc⟩
      · refine ⟨false, S, go _ _ ?_, ⟨fun h => (by cases h), fun h => (q2 (within_iff.mpr (letr_iff.mp h).abc)).elim⟩, Ext.refl S⟩
        rw [Bool.not_eq_true] at q2
        rw [q2] at eo
        simp only [mAndV, eo, Res.bind_ok]
    · have t1 : (mOr (mTest (mBin neT (mCB typeD (mCons (mVar 0) mNil)) (mC (.ty "str")))) (mNot (mTest (mChain leD leD (mC (.int 1)) (mCB lenD (mCons (mVar 0) mNil)) (mC (.int 4)))))) [some (.str (toS w)), none] S = .ok true S := by
        refine (mOr_f (S1 := S) (mTest_b (by simp [kinds]))).trans (mNot_b (b := false) (mTest_b ?_))
        by_cases q3 : 1 ≤ w.length
        · have : ¬ (w.length : Int) ≤ 4 := by omega
          simp [sizeLine_num, show w.length ≤ 16777216 by omega, show (1 : Int) ≤ w.length by omega, this]
          try omega
        · have : ¬ (1 : Int) ≤ w.length := by omega
          have e : w = [] := List.length_eq_zero_iff.mp (by omega)
          subst e
          simp [sizeLine_num]
      refine ⟨false, S, ?_, ⟨fun h => (by cases h), fun h => (q ⟨(letr_iff.mp h).pos, (letr_iff.mp h).max⟩).elim⟩, Ext.refl S⟩
      unfold f_is_letters c_b_is_letters
      simp only [fnD]
      rw [show (List.map some [D.str (toS w)] ++ List.replicate (2 - [D.str (toS w)].length) none) = [some (.str (toS w)), none] from rfl, mSeq_rt ((mIf_t t1).trans (show mRet (mC (.bl false)) _ _ = .rt (.bl false) S from rfl))]
  · have ty : typeD [v] S = .ok (.ty T) S := by simp only [typeD, hk]
    have t1 : (mOr (mTest (mBin neT (mCB typeD (mCons (mVar 0) mNil)) (mC (.ty "str")))) (mNot (mTest (mChain leD leD (mC (.int 1)) (mCB lenD (mCons (mVar 0) mNil)) (mC (.int 4)))))) [some v, none] S = .ok true S := by
      refine mOr_t (mTest_b ?_)
      simp [-typeD, ty, hK, hs, hT]
    refine ⟨false, S, ?_, ⟨fun h => (by cases h), ?_⟩, Ext.refl S⟩
    · unfold f_is_letters c_b_is_letters
      simp only [fnD]
      rw [show (List.map some [v] ++ List.replicate (2 - [v].length) none) = [some v, none] from rfl, mSeq_rt ((mIf_t t1).trans (show mRet (mC (.bl false)) _ _ = .rt (.bl false) S from rfl))]
    · rintro ⟨ls, rfl, _⟩
      rw [kindD, Option.some.injEq] at hk
      exact (hT hk.symm).elim
end B_k01_letters_words_and_looks

end
section
namespace B_k01_letters_words_and_looks
open PySem L2 MX WM
/-! ### the law's own word about letters -/
theorem idx_eq (c : Nat) (S : Os) (h : c ∈ abc) : sindexD (.str (toS abc)) [.str (toS [c])] S = .ok (.int ((c - 97 : Nat) : Int)) S := by
  have : ∀ c ∈ abc, (Builtin.Str.occurrences (toS abc) (toS [c]) 0 26 1).head? = some (c - 97) := by decide +kernel
  have e := this c h
  have hl : (toS abc).length = 26 := by rw [toS_len]; exact List.length_range'
  unfold sindexD
  simp only [hl]
  cases q : Builtin.Str.occurrences (toS abc) (toS [c]) 0 26 1 with
  | nil => rw [q] at e; cases e
  | cons i r =>
    rw [q, List.head?_cons, Option.some.injEq] at e
    rw [e]
theorem abc_le {c : Nat} (h : c ∈ abc) : 97 ≤ c := (List.mem_range'_1.mp h).1
theorem are_letters_gen (F : Nat) (v : D) (S : Os) (h : Txv 3900 S v) : ∃ b, f_law_are_letters F [v] S = .ok (.bl b) S ∧ (b = true ↔ Letr v) := by
  have fl : ∀ (σ : Fr) (S : Os), mRet (mC (.bl false)) σ S = .rt (.bl false) S := fun σ S => by simp
  have nxt : ∀ (σ : Fr) (S : Os), mNext σ S = .nx σ S := fun σ S => by simp
  have go : ∀ b, c_b_law_are_letters F [some v, none] S = .rt (.bl b) S → f_law_are_letters F [v] S = .ok (.bl b) S := fun b q => by
    unfold f_law_are_letters
    simp only [fnD]
    rw [show (List.map some [v] ++ List.replicate (2 - [v].length) none) = [some v, none] from rfl, q]
  rcases h with ⟨w, rfl, hw⟩ | ⟨T, hT, hK, hk⟩
  · have t1 : (mOr (mNot (mTest (mCB isiD (mCons (mVar 0) (mCons (mC (.ty "str")) mNil))))) (mOr (mTest (mBin eqA (mCB lenD (mCons (mVar 0) mNil)) (mC (.int 0)))) (mTest (mBin gtD (mCB lenD (mCons (mVar 0) mNil)) (mC (.int 4)))))) [some (.str (toS w)), none] S = .ok (decide (w.length = 0) || decide (4 < w.length)) S := by
      refine (mOr_f (S1 := S) (mNot_b (b := true) (mTest_b (by simp [kinds])))).trans ?_
      by_cases q : w.length = 0
      · have e : w = [] := List.length_eq_zero_iff.mp q
        subst e
        exact (mOr_t (S1 := S) (mTest_b (by simp [sizeLine_num]))).trans (by simp)
      · refine (mOr_f (S1 := S) (mTest_b ?_)).trans (mTest_b ?_)
        · have : ¬ w = [] := fun e => q (by rw [e]; rfl)
          simp [sizeLine_num, show w.length ≤ 16777216 by omega, this]
        · simp [sizeLine_num, show w.length ≤ 16777216 by omega, q]
          try omega
    by_cases q : (decide (w.length = 0) || decide (4 < w.length)) = true
    · refine ⟨false, go _ ?_, ⟨fun h => (by cases h), fun h => ?_⟩⟩
      · unfold c_b_law_are_letters s1_law_are_letters
        exact mSeq_rt ((mIf_t (S1 := S) (t1.trans (by rw [q]))).trans (fl _ _))
      · have h1 := (letr_iff.mp h).pos
        have h2 := (letr_iff.mp h).max
        rw [Bool.or_eq_true, decide_eq_true_eq, decide_eq_true_eq] at q
        omega
    · rw [Bool.not_eq_true] at q
      have s1 : s1_law_are_letters F [some (.str (toS w)), none] S = .nx [some (.str (toS w)), none] S := by
        unfold s1_law_are_letters
        exact (mIf_f (S1 := S) (t1.trans (by rw [q]))).trans (nxt _ _)
      rw [Bool.or_eq_false_iff, decide_eq_false_iff_not, decide_eq_false_iff_not] at q
      let A : Nat → Prop := fun j => (∀ i (h : i < w.length), i < j → w[i] ∈ abc) ∧ ∀ i (h : i + 1 < w.length), i + 1 < j → w[i]'(by omega) < w[i + 1]
      let R : SRes → Prop := fun r => (∃ t : Option D, r = .nx [some (.str (toS w)), t] S ∧ A w.length) ∨ (r = .rt (.bl false) S ∧ ¬ Lts w)
      have L : R (mLoop (fun _ => True) (gN 1) (B1_law_are_letters F) (rngD 0 w.length) [some (.str (toS w)), none] S) := by
        refine loop_gen (R := R) (fun j σ S' => S' = S ∧ (∃ t : Option D, σ = [some (.str (toS w)), t]) ∧ A j) (fun _ _ _ _ => trivial) (rngD 0 w.length) 0 _ S ⟨rfl, ⟨none, rfl⟩, fun i _ h => by omega, fun i _ h => by omega⟩ (fun j x σ S2 hj ⟨hS, ⟨t, hσ⟩, hA⟩ => ?_) (fun σ S2 ⟨hS, ⟨t, hσ⟩, hA⟩ => ?_)
        · subst hσ
          subst hS
          obtain ⟨hjl, rfl⟩ := rngD_get hj
          rw [Nat.zero_add] at hA
          have gj : w[j]? = some w[j] := List.getElem?_eq_getElem hjl
          refine ⟨[some (.str (toS w)), some (.int (j : Nat))], by simp, ?_⟩
          have ix : ∀ S : Os, mBin ixD (mVar 0) (mVar 1) [some (.str (toS w)), some (.int (j : Nat))] S = .ok (.str (toS [w[j]])) S := fun S => (mBin_e (S1 := S) (S2 := S) (x := .str (toS w)) (y := .int (j : Nat)) (by simp) (by simp)).trans (ix_str rfl gj (by omega))
          have c1 : mTest (mBin (inA true) (mBin ixD (mVar 0) (mVar 1)) (mC (.str "abcdefghijklmnopqrstuvwxyz"))) [some (.str (toS w)), some (.int (j : Nat))] S2 = .ok (!decide (w[j] ∈ abc)) S2 := mTest_b (by
            rw [abc_eq]
            exact (mBin_e (ix S2) rfl).trans (inA_text (neg := true)))
          by_cases q1 : w[j] ∈ abc
          · have b1 : (mIf (mTest (mBin (inA true) (mBin ixD (mVar 0) (mVar 1)) (mC (.str "abcdefghijklmnopqrstuvwxyz")))) (mRet (mC (.bl false))) mNext) [some (.str (toS w)), some (.int (j : Nat))] S2 = .nx [some (.str (toS w)), some (.int (j : Nat))] S2 := (mIf_f (S1 := S2) (c1.trans (by rw [decide_eq_true q1]; rfl))).trans (nxt _ _)
            by_cases q2 : j = 0
            · refine .inl ⟨[some (.str (toS w)), some (.int (j : Nat))], S2, .inl ?_, rfl, ⟨_, rfl⟩, fun i hi hij => ?_, fun i hi hij => by omega⟩
              · unfold B1_law_are_letters
                rw [mSeq_nx b1]
                exact (mIf_f (S1 := S2) (mAnd_f (mTest_b (by simp [q2])))).trans (nxt _ _)
              · obtain rfl : i = j := by omega
                exact q1
            · have gp : w[j - 1]? = some w[j - 1] := List.getElem?_eq_getElem (by omega)
              have hp : w[j - 1] ∈ abc := hA.1 (j - 1) (by omega) (by omega)
              have ixp : mBin ixD (mVar 0) (mBin subD (mVar 1) (mC (.int 1))) [some (.str (toS w)), some (.int (j : Nat))] S2 = .ok (.str (toS [w[j - 1]])) S2 := (mBin_e (S1 := S2) (S2 := S2) (x := .str (toS w)) (y := .int ((j : Int) - 1)) (by simp) (by simp)).trans (ix_str (n := j - 1) (by omega) gp (by omega))
              have i1 : (mMethS sindexD (mC (.str "abcdefghijklmnopqrstuvwxyz")) (mCons (mBin ixD (mVar 0) (mBin subD (mVar 1) (mC (.int 1)))) mNil)) [some (.str (toS w)), some (.int (j : Nat))] S2 = .ok (.int ((w[j - 1] - 97 : Nat) : Int)) S2 := by
                rw [abc_eq]
                refine Eq.trans ?_ (idx_eq _ S2 hp)
                simp only [mMethS, mCons, mNil, mC, ixp, Res.bind_ok]
              have i2 : (mMethS sindexD (mC (.str "abcdefghijklmnopqrstuvwxyz")) (mCons (mBin ixD (mVar 0) (mVar 1)) mNil)) [some (.str (toS w)), some (.int (j : Nat))] S2 = .ok (.int ((w[j] - 97 : Nat) : Int)) S2 := by
                rw [abc_eq]
                refine Eq.trans ?_ (idx_eq _ S2 q1)
                simp only [mMethS, mCons, mNil, mC, ix, Res.bind_ok]
              have l1 := abc_le hp
              have l2 := abc_le q1
              have c2 : (mAnd (mTest (mBin gtD (mVar 1) (mC (.int 0)))) (mTest (mBin geD (mMethS sindexD (mC (.str "abcdefghijklmnopqrstuvwxyz")) (mCons (mBin ixD (mVar 0) (mBin subD (mVar 1) (mC (.int 1)))) mNil)) (mMethS sindexD (mC (.str "abcdefghijklmnopqrstuvwxyz")) (mCons (mBin ixD (mVar 0) (mVar 1)) mNil))))) [some (.str (toS w)), some (.int (j : Nat))] S2 = .ok (!decide (w[j - 1] < w[j])) S2 := by
                refine (mAnd_t (S1 := S2) (mTest_b ?_)).trans (mTest_b ((mBin_e i1 i2).trans ?_))
                · simp
                  omega
                · show Res.ok (D.bl (decide _)) _ = _
                  rw [← decide_not]
                  congr 2
                  rw [decide_eq_decide]
                  omega
              by_cases q3 : w[j - 1] < w[j]
              · refine .inl ⟨[some (.str (toS w)), some (.int (j : Nat))], S2, .inl ?_, rfl, ⟨_, rfl⟩, fun i hi hij => ?_, fun i hi hij => ?_⟩
                · unfold B1_law_are_letters
                  rw [mSeq_nx b1]
                  exact (mIf_f (S1 := S2) (c2.trans (by rw [decide_eq_true q3]; rfl))).trans (nxt _ _)
                · by_cases z : i = j
                  · subst z; exact q1
                  · exact hA.1 i hi (by omega)
                · by_cases z : i = j - 1
                  · subst z
                    have e : w[j - 1 + 1] = w[j] := by congr 1; omega
                    rw [e]
                    exact q3
                  · exact hA.2 i hi (by omega)
              · refine .inr (.inr ⟨.bl false, S2, ?_, .inr ⟨rfl, fun h => q3 ((List.pairwise_iff_getElem.mp h.asc) (j - 1) j (by omega) hjl (by omega))⟩⟩)
                unfold B1_law_are_letters
                rw [mSeq_nx b1]
                exact (mIf_t (S1 := S2) (c2.trans (by rw [decide_eq_false q3]; rfl))).trans (fl _ _)
          · refine .inr (.inr ⟨.bl false, S2, ?_, .inr ⟨rfl, fun h => q1 (h.abc _ (List.getElem_mem hjl))⟩⟩)
            unfold B1_law_are_letters
            exact mSeq_rt ((mIf_t (S1 := S2) (c1.trans (by rw [decide_eq_false q1]; rfl))).trans (fl _ _))
        · subst hσ
          subst hS
          rw [Nat.zero_add, rngD_len] at hA
          exact .inl ⟨t, rfl, hA⟩
      have e7 : s2_law_are_letters F [some (.str (toS w)), none] S = mLoop (fun _ => True) (gN 1) (B1_law_are_letters F) (rngD 0 w.length) [some (.str (toS w)), none] S := by
        unfold s2_law_are_letters
        exact for1_nat (n := w.length) (S1 := S) (by simp [sizeLine_num, show w.length ≤ 16777216 by omega]) (by omega)
      rcases L with ⟨t, e, hA⟩ | ⟨e, hn⟩
      · refine ⟨true, go _ ?_, ⟨fun _ => letr_iff.mpr ⟨by omega, by omega, (nb_iff w).mpr fun j hj => hA.2 j hj hj, fun c hc => ?_⟩, fun _ => rfl⟩⟩
        · unfold c_b_law_are_letters
          rw [mSeq_nx s1]
          unfold t2_law_are_letters
          rw [mSeq_nx (e7.trans e)]
          simp [s3_law_are_letters]
        · obtain ⟨i, hi, rfl⟩ := List.getElem_of_mem hc
          exact hA.1 i hi hi
      · refine ⟨false, go _ ?_, ⟨fun h => (by cases h), fun h => (hn (letr_iff.mp h)).elim⟩⟩
        unfold c_b_law_are_letters
        rw [mSeq_nx s1]
        unfold t2_law_are_letters
        exact mSeq_rt (e7.trans e)
  · have hs : ("str" : String) ∈ kinds := by simp [kinds]
    have isi : isiD [v, .ty "str"] S = .ok (.bl false) S := by
      simp only [isiD, hk]
      have : T = "str" ∨ T = "int" ∨ T = "tuple" ∨ T = "bool" ∨ T = "list" ∨ T = "dict" ∨ T = "NoneType" := by simpa [kinds] using hK
      rcases this with rfl | rfl | rfl | rfl | rfl | rfl | rfl
      · exact (hT rfl).elim
      all_goals simp [kinds]
    refine ⟨false, go _ ?_, ⟨fun h => (by cases h), ?_⟩⟩
    · unfold c_b_law_are_letters s1_law_are_letters
      refine mSeq_rt ((mIf_t (S1 := S) (mOr_t (mNot_b (b := false) (mTest_b ?_)))).trans (fl _ _))
      refine Eq.trans ?_ isi
      simp [-isiD]
    · rintro ⟨ls, rfl, _⟩
      rw [kindD, Option.some.injEq] at hk
      exact (hT hk.symm).elim
end B_k01_letters_words_and_looks

end
section
namespace B_k01_letters_words_and_looks
open PySem L2 MX WM
/-! ### strangers: what no letters or no text are -/
theorem cpow30 : CPow 10 30 := ⟨by decide, by decide, by decide⟩
theorem upper_abc : ∀ c ∈ abc, ∃ x, Txt.upper (toS [c]) = toS [x] ∧ x ∉ abc := by
  have : ∀ c ∈ abc, Txt.upper (toS [c]) = toS [c - 32] ∧ (c - 32) ∉ abc := by decide +kernel
  exact fun c h => ⟨c - 32, this c h⟩
theorem special_eq : [("{" : Str), "0", " ", "A", "Z", "_", "-", "\n"] = ([123, 48, 32, 65, 90, 95, 45, 10] : List Nat).map fun c => toS [c] := by decide +kernel
def Stra (st : Nat) (S : Os) (d : D) : Prop := (∃ x, d = sg x ∧ x ∉ abc) ∨ Odd st S d
theorem stranger_gen (F : Nat) (S : Os) (st sc c : Nat) (h : StrA S st sc) (hu : ∃ x, Txt.upper (toS [c]) = toS [x] ∧ x ∉ abc) : ∃ d S', f_law_stranger F [.loc st, sg c] S = .ok d S' ∧ Stra st S' d ∧ StrA S' st sc ∧ Drw st S S' := by
  obtain ⟨kind, S1, e1, k0, k1, s1, b1⟩ := next_eq F S st 12 sc h (by decide) (by decide)
  have hlt := s1.lt.1
  have odd : ∀ {d : D} {T : String}, T ∈ ["NoneType", "bool", "int", "tuple"] → (∀ S, kindD S d = some T) → ∀ S', Stra st S' d := fun h1 h2 S' => .inr (.inl ⟨_, h1, h2⟩)
  have f1 : ∀ k : Int, kind = k → s1_law_stranger F [some (.loc st), some (sg c), none] S = .nx [some (.loc st), some (sg c), some (.int k)] S1 := fun k hk => by
    subst hk
    unfold s1_law_stranger
    exact mSet_e (x := .int kind) ((mCall_2 (S1 := S) (S2 := S) (by simp) (by simp)).trans e1)
  have go : ∀ (d : D) (S' : Os), t2_law_stranger F [some (.loc st), some (sg c), some (.int kind)] S1 = .rt d S' → f_law_stranger F [.loc st, sg c] S = .ok d S' := fun d S' q => by
    unfold f_law_stranger c_b_law_stranger
    simp only [fnD]
    rw [show (List.map some [D.loc st, sg c] ++ List.replicate (3 - [D.loc st, sg c].length) none) = [some (D.loc st), some (sg c), none] from rfl, mSeq_nx (f1 kind rfl), q]
  have hk : kind = 0 ∨ kind = 1 ∨ kind = 2 ∨ kind = 3 ∨ kind = 4 ∨ kind = 5 ∨ kind = 6 ∨ kind = 7 ∨ kind = 8 ∨ kind = 9 ∨ kind = 10 ∨ kind = 11 := by omega
  rcases hk with rfl | rfl | rfl | rfl | rfl | rfl | rfl | rfl | rfl | rfl | rfl | rfl
  · exact ⟨.non, S1, go _ _ (by simp [sizeLine_num, t2_law_stranger, s2_law_stranger]), odd (T := "NoneType") (by simp) (fun _ => rfl) _, s1, b1.drw⟩
  · exact ⟨.bl true, S1, go _ _ (by simp [sizeLine_num, t2_law_stranger, s2_law_stranger, t3_law_stranger, s3_law_stranger]), odd (T := "bool") (by simp) (fun _ => rfl) _, s1, b1.drw⟩
  · obtain ⟨m, S2, e2, _, _, s2, b2⟩ := next_eq F S1 st 30 sc s1 (by decide) (by decide)
    exact ⟨.int (m - 9), S2, go _ _ (by simp [sizeLine_num, t2_law_stranger, s2_law_stranger, t3_law_stranger, s3_law_stranger, t4_law_stranger, s4_law_stranger, e2]), odd (T := "int") (by simp) (fun _ => rfl) _, s2, b1.drw.trans b2.drw⟩
  · exact ⟨.tup [sg c], S1, go _ _ (by simp [sizeLine_num, t2_law_stranger, s2_law_stranger, t3_law_stranger, s3_law_stranger, t4_law_stranger, s4_law_stranger, t5_law_stranger, s5_law_stranger]), odd (T := "tuple") (by simp) (fun _ => rfl) _, s1, b1.drw⟩
  · exact ⟨.loc S1.length, S1 ++ [.lst [sg c]], go _ _ (by simp [sizeLine_num, t2_law_stranger, s2_law_stranger, t3_law_stranger, s3_law_stranger, t4_law_stranger, s4_law_stranger, t5_law_stranger, s5_law_stranger, t6_law_stranger, s6_law_stranger]), .inr (.inr ⟨_, [sg c], rfl, by omega, by simp⟩), s1.ext (Ext.app _ _), b1.drw.trans (Ext.app _ _).drw⟩
  · exact ⟨.tup [], S1, go _ _ (by simp [sizeLine_num, t2_law_stranger, s2_law_stranger, t3_law_stranger, s3_law_stranger, t4_law_stranger, s4_law_stranger, t5_law_stranger, s5_law_stranger, t6_law_stranger, s6_law_stranger, t7_law_stranger, s7_law_stranger]), odd (T := "tuple") (by simp) (fun _ => rfl) _, s1, b1.drw⟩
  · exact ⟨.tup [.tup [], sg c], S1, go _ _ (by simp [sizeLine_num, t2_law_stranger, s2_law_stranger, t3_law_stranger, s3_law_stranger, t4_law_stranger, s4_law_stranger, t5_law_stranger, s5_law_stranger, t6_law_stranger, s6_law_stranger, t7_law_stranger, s7_law_stranger, t8_law_stranger, s8_law_stranger]), odd (T := "tuple") (by simp) (fun _ => rfl) _, s1, b1.drw⟩
  · obtain ⟨x, hx, hx2⟩ := hu
    refine ⟨sg x, S1, go _ _ ?_, .inl ⟨x, rfl, hx2⟩, s1, b1.drw⟩
    simp [t2_law_stranger, s2_law_stranger, t3_law_stranger, s3_law_stranger, t4_law_stranger, s4_law_stranger, t5_law_stranger, s5_law_stranger, t6_law_stranger, s6_law_stranger, t7_law_stranger, s7_law_stranger, t8_law_stranger, s8_law_stranger, t9_law_stranger, s9_law_stranger, supperD, sg, hx]
  · let cs : List Nat := [123, 48, 32, 65, 90, 95, 45, 10]
    obtain ⟨x, S2, e2, hx, s2, b2⟩ := pick_eq F (S1 ++ [.lst (cs.map sg)]) st sc S1.length (cs.map sg) (s1.ext (Ext.app _ _)) lstAt_new (by omega) (by decide) (by decide)
    obtain ⟨y, hy, rfl⟩ := List.mem_map.mp hx
    refine ⟨sg y, S2, go _ _ ?_, .inl ⟨y, rfl, ?_⟩, s2, (b1.drw.trans (Ext.app _ _).drw).trans b2.drw⟩
    · have e3 : (mLst (mCons (mC (.str "{")) (mCons (mC (.str "0")) (mCons (mC (.str " ")) (mCons (mC (.str "A")) (mCons (mC (.str "Z")) (mCons (mC (.str "_")) (mCons (mC (.str "-")) (mCons (mC (.str "\n")) mNil))))))))) [some (.loc st), some (sg c), some (.int 8)] S1 = .ok (.loc S1.length) (S1 ++ [.lst (cs.map sg)]) := by
        simp [sizeLine_num]
        exact congrArg (List.map D.str) special_eq
      have e4 := mCall_2 (f := f_law_pick F) (a := mVar 0) (b := mLst (mCons (mC (.str "{")) (mCons (mC (.str "0")) (mCons (mC (.str " ")) (mCons (mC (.str "A")) (mCons (mC (.str "Z")) (mCons (mC (.str "_")) (mCons (mC (.str "-")) (mCons (mC (.str "\n")) mNil))))))))) (σ := [some (.loc st), some (sg c), some (.int 8)]) (S := S1) (S1 := S1) (x := .loc st) (by simp) e3
      have e5 := mRet_e (e4.trans e2)
      have t10 : t10_law_stranger F [some (.loc st), some (sg c), some (.int 8)] S1 = .rt (sg y) S2 := by
        unfold t10_law_stranger s10_law_stranger
        exact mSeq_rt ((mIf_t (S1 := S1) (mTest_b (by simp))).trans e5)
      have sk : ∀ (i : Int) (a : MS), i ≠ 8 → mIf (mTest (mBin eqA (mVar 2) (mC (.int i)))) a mNext [some (.loc st), some (sg c), some (.int 8)] S1 = .nx [some (.loc st), some (sg c), some (.int 8)] S1 := fun i a hi => (mIf_f (S1 := S1) (mTest_b (by simp [Ne.symm hi]))).trans (by simp)
      unfold t2_law_stranger s2_law_stranger
      rw [mSeq_nx (sk _ _ (by decide))]
      unfold t3_law_stranger s3_law_stranger
      rw [mSeq_nx (sk _ _ (by decide))]
      unfold t4_law_stranger s4_law_stranger
      rw [mSeq_nx (sk _ _ (by decide))]
      unfold t5_law_stranger s5_law_stranger
      rw [mSeq_nx (sk _ _ (by decide))]
      unfold t6_law_stranger s6_law_stranger
      rw [mSeq_nx (sk _ _ (by decide))]
      unfold t7_law_stranger s7_law_stranger
      rw [mSeq_nx (sk _ _ (by decide))]
      unfold t8_law_stranger s8_law_stranger
      rw [mSeq_nx (sk _ _ (by decide))]
      unfold t9_law_stranger s9_law_stranger
      rw [mSeq_nx (sk _ _ (by decide)), t10]
    · exact (by decide : ∀ y ∈ [123, 48, 32, 65, 90, 95, 45, 10], y ∉ abc) y hy
  · exact ⟨.tup [.tup [sg c, .tup [sg c]], .loc S1.length], S1 ++ [.lst [sg c]], go _ _ (by simp [sizeLine_num, t2_law_stranger, s2_law_stranger, t3_law_stranger, s3_law_stranger, t4_law_stranger, s4_law_stranger, t5_law_stranger, s5_law_stranger, t6_law_stranger, s6_law_stranger, t7_law_stranger, s7_law_stranger, t8_law_stranger, s8_law_stranger, t9_law_stranger, s9_law_stranger, t10_law_stranger, s10_law_stranger, t11_law_stranger, s11_law_stranger]), odd (T := "tuple") (by simp) (fun _ => rfl) _, s1.ext (Ext.app _ _), b1.drw.trans (Ext.app _ _).drw⟩
  · exact ⟨.bl false, S1, go _ _ (by simp [sizeLine_num, t2_law_stranger, s2_law_stranger, t3_law_stranger, s3_law_stranger, t4_law_stranger, s4_law_stranger, t5_law_stranger, s5_law_stranger, t6_law_stranger, s6_law_stranger, t7_law_stranger, s7_law_stranger, t8_law_stranger, s8_law_stranger, t9_law_stranger, s9_law_stranger, t10_law_stranger, s10_law_stranger, t11_law_stranger, s11_law_stranger, t12_law_stranger, s12_law_stranger]), odd (T := "bool") (by simp) (fun _ => rfl) _, s1, b1.drw⟩
  · obtain ⟨m, S2, e2, _, _, s2, b2⟩ := next_eq F S1 st 1000 sc s1 (by decide) (by decide)
    exact ⟨.int (10 ^ 30 + m), S2, go _ _ (by simp [sizeLine_num, t2_law_stranger, s2_law_stranger, t3_law_stranger, s3_law_stranger, t4_law_stranger, s4_law_stranger, t5_law_stranger, s5_law_stranger, t6_law_stranger, s6_law_stranger, t7_law_stranger, s7_law_stranger, t8_law_stranger, s8_law_stranger, t9_law_stranger, s9_law_stranger, t10_law_stranger, s10_law_stranger, t11_law_stranger, s11_law_stranger, t12_law_stranger, s12_law_stranger, s13_law_stranger, e2, intD, cpow30]), odd (T := "int") (by simp) (fun _ => rfl) _, s2, b1.drw.trans b2.drw⟩
theorem stranger_eq (F : Nat) (S : Os) (st sc c : Nat) (h : StrA S st sc) (hc : c ∈ abc) : ∃ d S', f_law_stranger F [.loc st, sg c] S = .ok d S' ∧ Stra st S' d ∧ StrA S' st sc ∧ Drw st S S' := stranger_gen F S st sc c h (upper_abc c hc)
end B_k01_letters_words_and_looks

end
section
namespace B_k01_letters_words_and_looks
open PySem L2 MX WM
/-! ### letters, or nearly -/
def Nv (st : Nat) (S : Os) (d : D) : Prop := (∃ w : List Nat, d = .str (toS w) ∧ w.length ≤ 10) ∨ Odd st S d
theorem Nv.txv {st n : Nat} {S : Os} {d : D} (h : Nv st S d) (hn : 10 ≤ n) : Txv n S d := by
  rcases h with ⟨w, rfl, hw⟩ | ho
  · exact .inl ⟨w, rfl, by omega⟩
  · obtain ⟨T, h1, h2⟩ := ho.kind
    simp only [List.mem_cons, List.not_mem_nil, or_false] at h1
    exact .inr ⟨T, by rintro rfl; simp at h1, by rcases h1 with h | h | h | h | h <;> simp [h, kinds], h2⟩
theorem Nv.of {st : Nat} {S : Os} {w : List Nat} (h : w.length ≤ 10) : Nv st S (.str (toS w)) := .inl ⟨w, rfl, h⟩
theorem rev_ind : Builtin.Str.strSliceIndices none none (-1) 0 = [] ∧ Builtin.Str.strSliceIndices none none (-1) 1 = [0] ∧ Builtin.Str.strSliceIndices none none (-1) 2 = [1, 0] ∧ Builtin.Str.strSliceIndices none none (-1) 3 = [2, 1, 0] ∧ Builtin.Str.strSliceIndices none none (-1) 4 = [3, 2, 1, 0] := by decide +kernel
theorem rev_len {w : List Nat} (h : w.length ≤ 4) : ∃ u : List Nat, revS (toS w) = toS u ∧ u.length ≤ 4 := by
  obtain ⟨i0, i1, i2, i3, i4⟩ := rev_ind
  match w, h with
  | [], _ => exact ⟨[], by unfold revS; rw [show (toS []).length = 0 from rfl, i0]; rfl, by simp⟩
  | [a], _ => exact ⟨[a], by unfold revS; rw [show (toS [a]).length = 1 from rfl, i1]; rfl, by simp⟩
  | [a, b], _ => exact ⟨[b, a], by unfold revS; rw [show (toS [a, b]).length = 2 from rfl, i2]; rfl, by simp⟩
  | [a, b, c], _ => exact ⟨[c, b, a], by unfold revS; rw [show (toS [a, b, c]).length = 3 from rfl, i3]; rfl, by simp⟩
  | [a, b, c, d], _ => exact ⟨[d, c, b, a], by unfold revS; rw [show (toS [a, b, c, d]).length = 4 from rfl, i4]; rfl, by simp⟩
  | a :: b :: c :: d :: e :: l, h => simp at h
theorem join5 (ds : List Nat) (h : ds.length ≤ 5) : joinN (toS []) (ds.map fun c => toS [c]) = toS ds := by
  match ds, h with
  | [], _ => rfl
  | [a], _ => rfl
  | [a, b], _ => rfl
  | [a, b, c], _ => rfl
  | [a, b, c, d], _ => rfl
  | [a, b, c, d, e], _ => rfl
  | a :: b :: c :: d :: e :: f :: l, h => simp at h
def n3 (st : Nat) (w : List Nat) (kind : Int) (a : Nat) : Fr := [some (.loc st), some (.str (toS w)), some (.int kind), some (.int a), none, none]
/-- the kinds that are texts made of the letters -/
theorem nl_texts (F : Nat) (S : Os) (st : Nat) (w : List Nat) (kind : Int) (a : Nat) (hl : w.length ≤ 4) (ha : a < w.length) :
    (kind < 3 → ∃ u, s4_law_near_letters F (n3 st w kind a) S = .rt (.str (toS u)) S ∧ u.length ≤ 10) ∧
    (kind = 3 → ∃ u, s5_law_near_letters F (n3 st w kind a) S = .rt (.str (toS u)) S ∧ u.length ≤ 10) ∧
    (kind = 4 → ∃ u, s6_law_near_letters F (n3 st w kind a) S = .rt (.str (toS u)) S ∧ u.length ≤ 10) ∧
    (kind = 5 → ∃ u, s7_law_near_letters F (n3 st w kind a) S = .rt (.str (toS u)) S ∧ u.length ≤ 10) ∧
    (kind = 8 → ∃ u, s10_law_near_letters F (n3 st w kind a) S = .rt (.str (toS u)) S ∧ u.length ≤ 10) := by
  have v1 : ∀ S : Os, mVar 1 (n3 st w kind a) S = .ok (wd w) S := fun S => by simp [n3, wd]
  have v3 : ∀ S : Os, mVar 3 (n3 st w kind a) S = .ok (.int (a : Nat)) S := fun S => by simp [n3]
  have v31 : ∀ S : Os, mBin addD (mVar 3) (mC (.int 1)) (n3 st w kind a) S = .ok (.int ((a : Int) + 1)) S := fun S => (mBin_e (v3 S) rfl).trans rfl
  have kt : ∀ i : Int, kind = i → mTest (mBin eqA (mVar 2) (mC (.int i))) (n3 st w kind a) S = .ok true S := fun i hi => mTest_b (by simp [n3, hi])
  refine ⟨fun h => ⟨w, ?_, by omega⟩, fun h => ⟨w.take a ++ [w[a]] ++ w.drop a, ?_, ?_⟩, fun h => ?_, fun h => ⟨w.drop (a + 1) ++ w.take (a + 1), ?_, ?_⟩, fun h => ⟨w.take a, ?_, ?_⟩⟩
  · unfold s4_law_near_letters
    exact (mIf_t (S1 := S) (mTest_b (by simp [n3, h]))).trans (mRet_e (v1 S))
  · unfold s5_law_near_letters
    refine (mIf_t (kt 3 h)).trans (mRet_e ?_)
    have ix : mBin ixD (mVar 1) (mVar 3) (n3 st w kind a) S = .ok (wd [w[a]]) S := (mBin_e (v1 S) (v3 S)).trans (ix_str rfl (List.getElem?_eq_getElem ha) (by omega))
    refine addS_e (addS_e (slice_toS a (v1 S) (v3 S) rfl (by omega)) ix ?_) (slice_fromS a (v1 S) (v3 S) rfl (by omega)) ?_
    · rw [List.length_take]; simp; omega
    · rw [List.length_append, List.length_take, List.length_drop]; simp; omega
  · rw [List.length_append, List.length_append, List.length_take, List.length_drop]; simp; omega
  · obtain ⟨u, hu, hul⟩ := rev_len hl
    refine ⟨u, ?_, by omega⟩
    unfold s6_law_near_letters
    refine (mIf_t (kt 4 h)).trans (mRet_e ?_)
    simp only [mRevS, v1, wd, Res.bind_ok, hu]
    rw [if_pos (by rw [toS_len, sizeLine_num]; omega)]
  · unfold s7_law_near_letters
    refine (mIf_t (kt 5 h)).trans (mRet_e ?_)
    refine addS_e (slice_fromS (a + 1) (v1 S) (v31 S) (by omega) (by omega)) (slice_toS (a + 1) (v1 S) (v31 S) (by omega) (by omega)) ?_
    rw [List.length_take, List.length_drop]; omega
  · rw [List.length_append, List.length_take, List.length_drop]; omega
  · unfold s10_law_near_letters
    refine (mIf_t (kt 8 h)).trans (mRet_e ?_)
    exact slice_toS a (v1 S) (v3 S) rfl (by omega)
  · rw [List.length_take]; omega
/-- one letter is a stranger -/
theorem nl_stranger (F : Nat) (S : Os) (st sc : Nat) (w : List Nat) (a : Nat) (h : StrA S st sc) (hls : Lts w) (ha : a < w.length) :
    ∃ d S', s9_law_near_letters F (n3 st w 7 a) S = .rt d S' ∧ Nv st S' d ∧ StrA S' st sc ∧ Drw st S S' := by
  have hl := hls.max
  obtain ⟨c, hc⟩ : ∃ c, w[a]? = some c := ⟨_, List.getElem?_eq_getElem ha⟩
  obtain ⟨d, S1, e1, hd, s1, d1⟩ := stranger_eq F S st sc c h (hls.abc c (List.mem_of_getElem? hc))
  have p1 : mSet 4 (mCall (f_law_stranger F) (mCons (mVar 0) (mCons (mBin ixD (mVar 1) (mVar 3)) mNil))) (n3 st w 7 a) S = .nx ((n3 st w 7 a).set 4 (some d)) S1 :=
    mSet_e ((mCall_2 (S1 := S) (S2 := S) (x := .loc st) (y := sg c) (by simp [n3]) ((mBin_e (S1 := S) (S2 := S) (x := .str (toS w)) (y := .int (a : Nat)) (by simp [n3]) (by simp [n3])).trans (ix_str rfl hc (by omega)))).trans e1)
  let τ : Fr := (n3 st w 7 a).set 4 (some d)
  have v1 : ∀ S : Os, mVar 1 τ S = .ok (wd w) S := fun S => by simp [τ, n3, wd]
  have v3 : ∀ S : Os, mVar 3 τ S = .ok (.int (a : Nat)) S := fun S => by simp [τ, n3]
  have v31 : ∀ S : Os, mBin addD (mVar 3) (mC (.int 1)) τ S = .ok (.int ((a : Int) + 1)) S := fun S => (mBin_e (v3 S) rfl).trans rfl
  have v4 : ∀ S : Os, mVar 4 τ S = .ok d S := fun S => by simp [τ, n3]
  have run : ∀ v : D, (mIfE (mTest (mCB isiD (mCons (mVar 4) (mCons (mC (.ty "str")) mNil)))) (mBin addT (mBin addT (mSlice (mVar 1) mNoPart (mPart (mVar 3))) (mVar 4)) (mSlice (mVar 1) (mPart (mBin addD (mVar 3) (mC (.int 1)))) mNoPart)) (mVar 4)) τ S1 = .ok v S1 → s9_law_near_letters F (n3 st w 7 a) S = .rt v S1 := fun v hv => by
    unfold s9_law_near_letters
    refine (mIf_t (S1 := S) (mTest_b (by simp [n3]))).trans ?_
    rw [mSeq_nx p1]
    exact mRet_e hv
  rcases hd with ⟨x, rfl, _⟩ | ho
  · refine ⟨_, S1, run _ ((mIfE_t (S1 := S1) (mTest_b ?_)).trans (addS_e (addS_e (slice_toS a (v1 S1) (v3 S1) rfl (by omega)) (v4 S1) ?_) (slice_fromS (a + 1) (v1 S1) (v31 S1) (by omega) (by omega)) ?_)), Nv.of ?_, s1, d1⟩
    · simp [τ, n3, sg, kinds]
    · rw [List.length_take]; simp; omega
    · rw [List.length_append, List.length_take, List.length_drop]; simp; omega
    · rw [List.length_append, List.length_append, List.length_take, List.length_drop]; simp; omega
  · obtain ⟨T, h1, h2⟩ := ho.kind
    have isi : isiD [d, .ty "str"] S1 = .ok (.bl false) S1 := by
      simp only [isiD, h2]
      simp only [List.mem_cons, List.not_mem_nil, or_false] at h1
      rcases h1 with rfl | rfl | rfl | rfl | rfl <;> simp [kinds]
    refine ⟨d, S1, run _ ((mIfE_f (S1 := S1) (mTest_b ?_)).trans (v4 S1)), .inr ho, s1, d1⟩
    refine Eq.trans ?_ isi
    simp only [mCB, mCons, mNil, v4, mC, Res.bind_ok]

/-- five signs of fifteen, sorted -/
def some15 : List Nat := [97, 99, 101, 103, 104, 106, 108, 110, 112, 113, 114, 116, 118, 120, 122]
theorem some15_eq : ("aceghjlnpqrtvxz" : Str) = toS some15 := by decide +kernel
theorem all_comp (i : Nat) (σ : Fr) (S : Os) (w : List Nat) (hi : i < σ.length) (hw : w.length ≤ 1000000) :
    mComp (fun _ => True) (gN i) [i] mYes (mVar i) S.length (w.map sg) σ (S ++ [.lst []]) = .ok (.loc S.length) (S ++ [.lst (w.map sg)]) := by
  have := comp_pure (okS := fun _ => True) (g := gN i) (vs := [i]) (t := mYes) (e := mVar i) (S0 := S) (σ := σ) (fun _ => true) id (fun _ => trivial) (w.map sg) [] (fun x hx acc => by
    have e0 : ((σ.set i none).set i (some x))[i]? = some (some x) := List.getElem?_set_self (by rw [List.length_set]; exact hi)
    refine ⟨(σ.set i none).set i (some x), rfl, by simp, fun _ => ?_⟩
    simp only [mVar, e0]
    rfl) (by simp; omega)
  rw [this, List.nil_append, List.map_id, List.filter_eq_self.mpr fun _ _ => rfl]
theorem lslice_from {e f : ME} {σ : Fr} {S S1 S2 : Os} {q : Nat} {l : List D} {i : Int} (n : Nat) (h : e σ S = .ok (.loc q) S1) (k : f σ S1 = .ok (.int i) S2) (hn : i = (n : Nat)) (hq : lstAt S2 q = some l) : mSlice e (mPart f) mNoPart σ S = .ok (.loc S2.length) (S2 ++ [.lst (l.drop n)]) := by
  subst hn
  simp only [mSlice, h, Res.bind_ok, mNoPart, mPart_e k, sliceD, itemsD, hq, HT.sIx_nat, HT.sIx_none]
  congr 4
  by_cases q : n ≤ l.length
  · rw [Nat.min_eq_left q]
    exact List.take_of_length_le (by simp)
  · rw [Nat.min_eq_right (by omega), List.drop_of_length_le (Nat.le_refl _), List.drop_of_length_le (by omega)]
    simp
theorem lslice_to {e f : ME} {σ : Fr} {S S1 S2 : Os} {q : Nat} {l : List D} {i : Int} (n : Nat) (h : e σ S = .ok (.loc q) S1) (k : f σ S1 = .ok (.int i) S2) (hn : i = (n : Nat)) (hq : lstAt S2 q = some l) : mSlice e mNoPart (mPart f) σ S = .ok (.loc S2.length) (S2 ++ [.lst (l.take n)]) := by
  subst hn
  simp only [mSlice, h, Res.bind_ok, mNoPart, mPart_e k, sliceD, itemsD, hq, HT.sIx_nat, HT.sIx_none, List.drop_zero, Nat.sub_zero]
  congr 4
  by_cases q : n ≤ l.length
  · rw [Nat.min_eq_left q]
  · rw [Nat.min_eq_right (by omega), List.take_of_length_le (Nat.le_refl _), List.take_of_length_le (by omega)]
theorem nl_five (F : Nat) (S : Os) (st sc : Nat) (w : List Nat) (a : Nat) (h : StrA S st sc) :
    ∃ d S', s8_law_near_letters F (n3 st w 6 a) S = .rt d S' ∧ Nv st S' d ∧ StrA S' st sc ∧ Drw st S S' := by
  have x0 : Ext S (S ++ [.lst (some15.map sg)]) := Ext.app _ _
  obtain ⟨k, S2, e2, k0, k1, s2, b2⟩ := next_eq F (S ++ [.lst (some15.map sg)]) st 10 sc (h.ext x0) (by decide) (by decide)
  have hne : S.length ≠ st := by have := h.lt.1; omega
  have C : C1_law_near_letters F (n3 st w 6 a) S = .ok (.loc S.length) (S ++ [.lst (some15.map sg)]) := by
    have := all_comp 5 (n3 st w 6 a) S some15 (by simp [n3]) (by decide)
    unfold C1_law_near_letters
    simp only [mLcS, mC, some15_eq, Res.bind_ok, signs_toS]
    rw [this]
  have y0 : ∀ S : Os, mVar 0 (n3 st w 6 a) S = .ok (.loc st) S := fun S => by simp [n3]
  have lst2 := b2.lst hne (lstAt_new (S := S) (l := some15.map sg))
  have f1 := lslice_from (f := mCall (f_law_next F) (mCons (mVar 0) (mCons (mC (.int 10)) mNil))) k.toNat C ((mCall_2 (y0 _) rfl).trans e2) (by omega) lst2
  have f2 := lslice_to (f := mC (.int 5)) (S2 := S2 ++ [.lst ((some15.map sg).drop k.toNat)]) 5 f1 rfl rfl lstAt_new
  obtain ⟨cs, hcs⟩ : ∃ cs, cs = (some15.drop k.toNat).take 5 := ⟨_, rfl⟩
  have e3 : ((some15.map sg).drop k.toNat).take 5 = cs.map sg := by rw [hcs, ← List.map_drop, ← List.map_take]
  rw [e3] at f2
  have hn : cs.Nodup := by
    rw [hcs]
    exact ((by decide : some15.Nodup).sublist (List.drop_sublist _ _)).sublist (List.take_sublist _ _)
  have hl : cs.length ≤ 5 := by rw [hcs, List.length_take]; omega
  obtain ⟨ds, e4, p4, q4⟩ := sorted_sg cs hn
  have dl : ds.length ≤ 5 := by rw [p4.length_eq]; exact hl
  have x2 : Ext S2 (S2 ++ [O.lst ((some15.map sg).drop k.toNat)]) := Ext.app _ _
  generalize S2 ++ [O.lst ((some15.map sg).drop k.toNat)] = S3 at f2 x2
  have x3 : Ext S3 (S3 ++ [O.lst (cs.map sg)]) := Ext.app _ _
  have g : lstAt (S3 ++ [O.lst (cs.map sg)]) S3.length = some (cs.map sg) := lstAt_new
  generalize S3 ++ [O.lst (cs.map sg)] = S4 at f2 x3 g
  have e5 : sortedT [.loc S3.length] S4 = .ok (.loc S4.length) (S4 ++ [.lst (ds.map sg)]) := by
    simp only [sortedT, collT, collD, lst_get g, Option.bind_some, strs_sg, e4]
    rw [List.map_map]
    rfl
  have e6 : joinD (.str (toS [])) [.loc S4.length] (S4 ++ [.lst (ds.map sg)]) = .ok (.str (toS ds)) (S4 ++ [.lst (ds.map sg)]) := by
    have b : ((ds.map fun c => toS [c]).map (·.length)).sum + (ds.map fun c => toS [c]).length * (toS []).length ≤ 16777216 := by
      have z : (toS []).length = 0 := rfl
      rw [z, List.map_map]
      have : (ds.map ((·.length) ∘ fun c => toS [c])) = ds.map fun _ => 1 := List.map_congr_left fun _ _ => rfl
      rw [this, List.map_const', List.sum_replicate_nat]
      omega
    simp only [joinD, itemsD, lstAt_new, strs_sg]
    rw [if_pos b, join5 ds dl]
  have x4 : Ext S2 (S4 ++ [O.lst (ds.map sg)]) := (x2.trans x3).trans (Ext.app _ _)
  refine ⟨.str (toS ds), S4 ++ [.lst (ds.map sg)], ?_, Nv.of (by omega), s2.ext x4, (x0.drw.trans b2.drw).trans x4.drw⟩
  unfold s8_law_near_letters
  refine (mIf_t (S1 := S) (mTest_b (by simp [n3]))).trans (mRet_e ?_)
  have e7 : mCB sortedT (mCons (mSlice (mSlice (C1_law_near_letters F) (mPart (mCall (f_law_next F) (mCons (mVar 0) (mCons (mC (.int 10)) mNil)))) mNoPart) mNoPart (mPart (mC (.int 5)))) mNil) (n3 st w 6 a) S = .ok (.loc S4.length) (S4 ++ [.lst (ds.map sg)]) := by
    refine Eq.trans ?_ e5
    simp only [mCB, mCons, mNil, f2, Res.bind_ok]
  refine Eq.trans ?_ e6
  simp only [mMethS, mCons, mNil, mC, e7, Res.bind_ok, emp_eq]
/-- a tuple of the signs -/
theorem nl_tuple (F : Nat) (S : Os) (st : Nat) (w : List Nat) (kind : Int) (a : Nat) (hl : w.length ≤ 4) : ∃ S', s11_law_near_letters F (n3 st w kind a) S = .rt (.tup (w.map sg)) S' ∧ Ext S S' := by
  refine ⟨S ++ [.lst (w.map sg)], ?_, Ext.app _ _⟩
  have C : C2_law_near_letters F (n3 st w kind a) S = .ok (.loc S.length) (S ++ [.lst (w.map sg)]) := by
    have := all_comp 5 (n3 st w kind a) S w (by simp [n3]) (by omega)
    unfold C2_law_near_letters
    have v1 : mVar 1 (n3 st w kind a) S = .ok (.str (toS w)) S := by simp [n3]
    simp only [mLcS, v1, Res.bind_ok, signs_toS]
    rw [this]
  unfold s11_law_near_letters
  refine mRet_e ?_
  simp only [mTupOf, C, Res.bind_ok, lisD_loc, lstAt_new]
theorem near_letters_eq (F : Nat) (S : Os) (st sc : Nat) (h : StrA S st sc) : ∃ d S', f_law_near_letters F [.loc st] S = .ok d S' ∧ Nv st S' d ∧ StrA S' st sc ∧ Drw st S S' := by
  obtain ⟨w, S1, e1, hls, s1, d1⟩ := letters_eq F S st sc h
  have hp := hls.pos
  have hm := hls.max
  obtain ⟨kind, S2, e2, k0, k1, s2, b2⟩ := next_eq F S1 st 10 sc s1 (by decide) (by decide)
  obtain ⟨at_, S3, e3, a0, a1, s3, b3⟩ := next_eq F S2 st (w.length : Int) sc s2 (by omega) (by omega)
  obtain ⟨a, ha⟩ : ∃ a : Nat, at_ = (a : Int) := ⟨at_.toNat, by omega⟩
  subst ha
  have ha : a < w.length := by omega
  have d3 : Drw st S S3 := (d1.trans b2.drw).trans b3.drw
  have p1 : s1_law_near_letters F [some (.loc st), none, none, none, none, none] S = .nx [some (.loc st), some (.str (toS w)), none, none, none, none] S1 := by
    unfold s1_law_near_letters
    exact mSet_e ((mCall_1 (S1 := S) (by simp)).trans e1)
  have p2 : s2_law_near_letters F [some (.loc st), some (.str (toS w)), none, none, none, none] S1 = .nx [some (.loc st), some (.str (toS w)), some (.int kind), none, none, none] S2 := by
    unfold s2_law_near_letters
    exact mSet_e ((mCall_2 (S1 := S1) (S2 := S1) (by simp) (by simp)).trans e2)
  have p3 : s3_law_near_letters F [some (.loc st), some (.str (toS w)), some (.int kind), none, none, none] S2 = .nx (n3 st w kind a) S3 := by
    unfold s3_law_near_letters
    exact mSet_e ((mCall_2 (S1 := S2) (S2 := S2) (x := .loc st) (y := .int (w.length : Nat)) (by simp) (by simp [sizeLine_num]; omega)).trans e3)
  have go : ∀ (d : D) (S' : Os), t4_law_near_letters F (n3 st w kind a) S3 = .rt d S' → f_law_near_letters F [.loc st] S = .ok d S' := fun d S' q => by
    unfold f_law_near_letters c_b_law_near_letters
    simp only [fnD]
    rw [show (List.map some [D.loc st] ++ List.replicate (6 - [D.loc st].length) none) = [some (.loc st), none, none, none, none, none] from rfl, mSeq_nx p1]
    unfold t2_law_near_letters
    rw [mSeq_nx p2]
    unfold t3_law_near_letters
    rw [mSeq_nx p3, q]
  have nxt : ∀ (σ : Fr) (S : Os), mNext σ S = .nx σ S := fun σ S => by simp
  have sk : ∀ (i : Int) (m : MS), kind ≠ i → mIf (mTest (mBin eqA (mVar 2) (mC (.int i)))) m mNext (n3 st w kind a) S3 = .nx (n3 st w kind a) S3 := fun i m hi => (mIf_f (S1 := S3) (mTest_b (by simp [n3, hi]))).trans (nxt _ _)
  obtain ⟨t3, t4, t5, t6, t9⟩ := nl_texts F S3 st w kind a hm ha
  by_cases q3 : kind < 3
  · obtain ⟨u, e, hu⟩ := t3 q3
    exact ⟨_, S3, go _ _ (by unfold t4_law_near_letters; exact mSeq_rt e), Nv.of hu, s3, d3⟩
  have k4 : s4_law_near_letters F (n3 st w kind a) S3 = .nx (n3 st w kind a) S3 := by
    unfold s4_law_near_letters
    exact (mIf_f (S1 := S3) (mTest_b (by simp [n3, q3]))).trans (nxt _ _)
  by_cases q4 : kind = 3
  · obtain ⟨u, e, hu⟩ := t4 q4
    exact ⟨_, S3, go _ _ (by unfold t4_law_near_letters; rw [mSeq_nx k4]; unfold t5_law_near_letters; exact mSeq_rt e), Nv.of hu, s3, d3⟩
  have k5 : s5_law_near_letters F (n3 st w kind a) S3 = .nx (n3 st w kind a) S3 := by unfold s5_law_near_letters; exact sk _ _ q4
  by_cases q5 : kind = 4
  · obtain ⟨u, e, hu⟩ := t5 q5
    exact ⟨_, S3, go _ _ (by unfold t4_law_near_letters; rw [mSeq_nx k4]; unfold t5_law_near_letters; rw [mSeq_nx k5]; unfold t6_law_near_letters; exact mSeq_rt e), Nv.of hu, s3, d3⟩
  have k6 : s6_law_near_letters F (n3 st w kind a) S3 = .nx (n3 st w kind a) S3 := by unfold s6_law_near_letters; exact sk _ _ q5
  by_cases q6 : kind = 5
  · obtain ⟨u, e, hu⟩ := t6 q6
    exact ⟨_, S3, go _ _ (by unfold t4_law_near_letters; rw [mSeq_nx k4]; unfold t5_law_near_letters; rw [mSeq_nx k5]; unfold t6_law_near_letters; rw [mSeq_nx k6]; unfold t7_law_near_letters; exact mSeq_rt e), Nv.of hu, s3, d3⟩
  have k7 : s7_law_near_letters F (n3 st w kind a) S3 = .nx (n3 st w kind a) S3 := by unfold s7_law_near_letters; exact sk _ _ q6
  have go8 : ∀ (d : D) (S' : Os), t8_law_near_letters F (n3 st w kind a) S3 = .rt d S' → f_law_near_letters F [.loc st] S = .ok d S' := fun d S' q => go d S' (by
    unfold t4_law_near_letters
    rw [mSeq_nx k4]
    unfold t5_law_near_letters
    rw [mSeq_nx k5]
    unfold t6_law_near_letters
    rw [mSeq_nx k6]
    unfold t7_law_near_letters
    rw [mSeq_nx k7, q])
  by_cases q7 : kind = 6
  · subst q7
    obtain ⟨d, S4, e4, hd, s4, d4⟩ := nl_five F S3 st sc w a s3
    exact ⟨d, S4, go8 _ _ (by unfold t8_law_near_letters; exact mSeq_rt e4), hd, s4, d3.trans d4⟩
  have k8 : s8_law_near_letters F (n3 st w kind a) S3 = .nx (n3 st w kind a) S3 := by unfold s8_law_near_letters; exact sk _ _ q7
  by_cases q8 : kind = 7
  · subst q8
    obtain ⟨d, S4, e4, hd, s4, d4⟩ := nl_stranger F S3 st sc w a s3 hls ha
    exact ⟨d, S4, go8 _ _ (by unfold t8_law_near_letters; rw [mSeq_nx k8]; unfold t9_law_near_letters; exact mSeq_rt e4), hd, s4, d3.trans d4⟩
  have k9 : s9_law_near_letters F (n3 st w kind a) S3 = .nx (n3 st w kind a) S3 := by unfold s9_law_near_letters; exact sk _ _ q8
  by_cases q9 : kind = 8
  · obtain ⟨u, e, hu⟩ := t9 q9
    exact ⟨_, S3, go8 _ _ (by unfold t8_law_near_letters; rw [mSeq_nx k8]; unfold t9_law_near_letters; rw [mSeq_nx k9]; unfold t10_law_near_letters; exact mSeq_rt e), Nv.of hu, s3, d3⟩
  have k10 : s10_law_near_letters F (n3 st w kind a) S3 = .nx (n3 st w kind a) S3 := by unfold s10_law_near_letters; exact sk _ _ q9
  obtain ⟨S4, e4, x4⟩ := nl_tuple F S3 st w kind a hm
  exact ⟨_, S4, go8 _ _ (by unfold t8_law_near_letters; rw [mSeq_nx k8]; unfold t9_law_near_letters; rw [mSeq_nx k9]; unfold t10_law_near_letters; rw [mSeq_nx k10]; exact e4), .inr (.inl ⟨"tuple", by simp, fun _ => rfl⟩), s3.ext x4, d3.trans x4.drw⟩
end B_k01_letters_words_and_looks

end
section
namespace B_k01_letters_words_and_looks
open PySem L2 MX WM
/-! ### is_sample, in general -/
theorem place_eq (F : Nat) (w : List Nat) (S : Os) (h : w.length ≤ 16777216) : f_word_place F [.str (toS w)] S = .ok (.tup [.int (w.length : Nat), .str (toS w)]) S := by
  simp [f_word_place, c_b_word_place, sizeLine_num, h]
theorem asc_val (F : Nat) (ws : List (List Nat)) (S : Os) (hl : ws.length ≤ 100000) (hw : ∀ w ∈ ws, w.length ≤ 16777216) : ∃ b S', f_is_ascending F [.tup (ws.map wd)] S = .ok (.bl b) S' ∧ (b = true ↔ Asc ws) ∧ Ext S S' := by
  let f : Nat → Bool := fun j => decide (wlt (ws.getD j []) (ws.getD (j + 1) []))
  have C : C1_is_ascending F [some (.tup (ws.map wd)), none] S = .ok (.loc S.length) (S ++ [.lst ((rngD 0 (ws.length - 1)).map fun x => match x with | .int i => .bl (f i.toNat) | d => d)]) := by
    have := comp_pure (okS := fun _ => True) (g := gN 1) (vs := [1]) (t := mYes) (e := mBin ltW (mCall (f_word_place F) (mCons (mBin ixD (mVar 0) (mVar 1)) mNil)) (mCall (f_word_place F) (mCons (mBin ixD (mVar 0) (mBin addD (mVar 1) (mC (.int 1)))) mNil))) (S0 := S) (σ := [some (.tup (ws.map wd)), none]) (fun _ => true) (fun x => match x with | .int i => .bl (f i.toNat) | d => d) (fun _ => trivial) (rngD 0 (ws.length - 1)) [] (fun x hx a => by
      obtain ⟨j, hj⟩ := List.mem_iff_getElem?.mp hx
      obtain ⟨hj2, rfl⟩ := rngD_get hj
      refine ⟨[some (.tup (ws.map wd)), some (.int (0 + j))], by simp, by simp, fun _ => ?_⟩
      have ga : (ws.map wd)[j]? = some (wd ws[j]) := by rw [List.getElem?_map, List.getElem?_eq_getElem (by omega)]; rfl
      have gb : (ws.map wd)[j + 1]? = some (wd ws[j + 1]) := by rw [List.getElem?_map, List.getElem?_eq_getElem (by omega)]; rfl
      have ea := atI_some (l := ws.map wd) (i := (j : Int)) j rfl ga
      have eb := atI_some (l := ws.map wd) (i := (j : Int) + 1) (j + 1) (by omega) gb
      have p1 := place_eq F ws[j] (S ++ [O.lst a]) (hw _ (List.getElem_mem _))
      have p2 := place_eq F ws[j + 1] (S ++ [O.lst a]) (hw _ (List.getElem_mem _))
      have hf : f j = decide (wlt ws[j] ws[j + 1]) := by
        show decide (wlt (ws.getD j []) (ws.getD (j + 1) [])) = _
        rw [WM.getD_at (by omega), WM.getD_at (by omega)]
      have lt2 : (((ws[j].length : Nat) : Int) < (ws[j + 1].length : Nat) ∨ (((ws[j].length : Nat) : Int) = (ws[j + 1].length : Nat) ∧ ws[j] < ws[j + 1])) ↔ wlt ws[j] ws[j + 1] := by
        constructor
        · rintro (lt | ⟨lt, lt'⟩)
          · exact .inl (by omega)
          · exact .inr ⟨by omega, lt'⟩
        · rintro (lt | ⟨lt, lt'⟩)
          · exact .inl (by omega)
          · exact .inr ⟨by omega, lt'⟩
      have e5 : ltW (.tup [.int (ws[j].length : Nat), .str (toS ws[j])]) (.tup [.int (ws[j + 1].length : Nat), .str (toS ws[j + 1])]) (S ++ [O.lst a]) = .ok (.bl (f j)) (S ++ [O.lst a]) := by
        rw [hf]
        show Res.ok (D.bl (decide _)) _ = _
        congr 2
        exact decide_eq_decide.mpr lt2
      simp only [mBin, mCall, mCons, mNil, mVar, mC, addD, ixD, itemsD, List.getElem?_cons_succ, List.getElem?_cons_zero, Res.bind_ok, Int.zero_add, ea, eb]
      simp only [wd, p1, p2, Res.bind_ok, e5, Int.toNat_natCast]) (by rw [rngD_len]; simp; omega)
    rw [List.filter_eq_self.mpr fun _ _ => rfl, List.nil_append] at this
    unfold C1_is_ascending
    rw [lc1_int (j := (ws.length : Int) - 1) (S1 := S) (by simp) (by rw [p62]; omega)]
    rw [show ((ws.length : Int) - 1).toNat = ws.length - 1 by omega]
    exact this
  have bl : blsD ((rngD 0 (ws.length - 1)).map fun x => match x with | .int i => .bl (f i.toNat) | d => d) = some ((List.range (ws.length - 1)).map f) := by
    rw [← blsD_map]
    congr 1
    refine List.ext_getElem? fun j => ?_
    by_cases q : j < ws.length - 1
    · have e1 : (rngD 0 (ws.length - 1))[j]? = some (.int (j : Int)) := by
        have hx : j < (rngD 0 (ws.length - 1)).length := by rw [rngD_len]; exact q
        have := List.getElem?_eq_getElem hx
        obtain ⟨_, e⟩ := rngD_get this
        rw [this, e, Int.zero_add]
      rw [List.getElem?_map, e1, List.getElem?_map, List.getElem?_map, List.getElem?_range q]
      simp
    · rw [List.getElem?_eq_none (by rw [List.length_map, rngD_len]; omega), List.getElem?_eq_none (by simp; omega)]
  refine ⟨((List.range (ws.length - 1)).map f).all id, _, ?_, ?_, Ext.app S [.lst ((rngD 0 (ws.length - 1)).map fun x => match x with | .int i => .bl (f i.toNat) | d => d)]⟩
  · simp [f_is_ascending, c_b_is_ascending, C, bl]
  · rw [asc_iff, List.all_eq_true]
    constructor
    · intro h j hj
      have := h (f j) (List.mem_map.mpr ⟨j, List.mem_range.mpr (by omega), rfl⟩)
      have := of_decide_eq_true (this : f j = true)
      rwa [WM.getD_at (by omega), WM.getD_at (by omega)] at this
    · intro h b hb
      obtain ⟨j, hj, rfl⟩ := List.mem_map.mp hb
      have hj := List.mem_range.mp hj
      show f j = true
      refine decide_eq_true ?_
      rw [WM.getD_at (by omega), WM.getD_at (by omega)]
      exact h j (by omega)
/-- a word that may have one sign too many -/
def Wd (ls w : List Nat) : Prop := w.length ≤ 4100 ∧ ∃ x, ∀ c ∈ w, c ∈ ls ++ [x]
def It (ls : List Nat) (st : Nat) (S : Os) (d : D) : Prop := (∃ w, d = wd w ∧ Wd ls w) ∨ Odd st S d
def Val (ls : List Nat) (st : Nat) (S : Os) (v : D) : Prop := (∃ l, v = .tup l ∧ l.length ≤ 206 ∧ ∀ d ∈ l, It ls st S d) ∨ ∃ T, T ≠ "tuple" ∧ T ∈ kinds ∧ kindD S v = some T
def Right (ls : List Nat) (v : D) : Prop := ∃ ws, v = .tup (ws.map wd) ∧ Smp ls ws
theorem It.drw {ls : List Nat} {st : Nat} {S S' : Os} {d : D} (h : It ls st S d) (x : Drw st S S') : It ls st S' d := h.imp id fun h => h.drw x
theorem Wd.of {ls w : List Nat} (h : w.length ≤ 4100) (k : ∀ c ∈ w, c ∈ ls) : Wd ls w := ⟨h, 0, fun c hc => List.mem_append.mpr (.inl (k c hc))⟩
theorem over_val (F : Nat) (ls w : List Nat) (S : Os) (h : Lts ls) (hw : Wd ls w) : f_is_over F [.str (toS ls), .str (toS w)] S = .ok (.bl (within (toS w) (toS ls))) S := by
  obtain ⟨_, x, hx⟩ := hw
  have n1 := nsig_le hx
  have n2 := nsig_le (u := ls) (v := ls) fun _ h => h
  have n3 := nsig_pos h.pos
  have hm := h.max
  rw [List.length_append, List.length_singleton] at n1
  exact is_over_eq F ls w S (by omega) (by omega) (by omega)
theorem all_wds {ls : List Nat} : ∀ {l : List D}, (∀ d ∈ l, ∃ w, d = wd w ∧ Wd ls w) → ∃ ws : List (List Nat), l = ws.map wd ∧ ∀ w ∈ ws, Wd ls w
  | [], _ => ⟨[], rfl, fun _ h => by simp at h⟩
  | d :: l, h => by
    obtain ⟨w, rfl, hw⟩ := h d List.mem_cons_self
    obtain ⟨ws, rfl, hws⟩ := all_wds fun y hy => h y (List.mem_cons_of_mem _ hy)
    exact ⟨w :: ws, rfl, fun x hx => by
      rcases List.mem_cons.mp hx with rfl | hx
      · exact hw
      · exact hws x hx⟩
theorem wds_inj : ∀ {a b : List (List Nat)}, a.map wd = b.map wd → a = b
  | [], [], _ => rfl
  | [], _ :: _, h => by simp at h
  | _ :: _, [], h => by simp at h
  | x :: a, y :: b, h => by
    rw [List.map_cons, List.map_cons, List.cons.injEq] at h
    have e : x = y := by
      have h1 : D.str (toS x) = D.str (toS y) := h.1
      rw [D.str.injEq, toS_inj] at h1
      exact h1
    rw [e, wds_inj h.2]
theorem right_iff {ls : List Nat} {ws : List (List Nat)} : Right ls (.tup (ws.map wd)) ↔ Smp ls ws := by
  constructor
  · rintro ⟨us, e, h⟩
    rw [D.tup.injEq] at e
    rw [wds_inj e]
    exact h
  · intro h
    exact ⟨ws, rfl, h⟩
def isS : D → Bool
  | .str _ => true
  | _ => false
theorem odd_notS {st : Nat} {S : Os} {d : D} (h : Odd st S d) : isS d = false := by
  obtain ⟨T, h1, h2⟩ := h.kind
  cases d <;> try rfl
  rw [kindD, Option.some.injEq] at h2
  subst h2
  simp at h1
theorem notS_right {ls : List Nat} {l : List D} {d : D} (hd : d ∈ l) (h : isS d = false) : ¬ Right ls (.tup l) := by
  rintro ⟨ws, e, _⟩
  rw [D.tup.injEq] at e
  subst e
  obtain ⟨w, _, rfl⟩ := List.mem_map.mp hd
  simp [wd, isS] at h
theorem kind_ext {S S' : Os} {d : D} {T : String} (x : Ext S S') (h : kindD S d = some T) : kindD S' d = some T := by
  cases d <;> try exact h
  rename_i n
  simp only [kindD] at h ⊢
  cases q : S[n]? with
  | none => rw [q] at h; cases h
  | some o => rw [q] at h; rw [x _ _ q]; exact h
theorem is_sample_gen (F : Nat) (ls : List Nat) (st : Nat) (v : D) (S : Os) (hls : Lts ls) (h : Val ls st S v) : ∃ b S', f_is_sample F [.str (toS ls), v] S = .ok (.bl b) S' ∧ (b = true ↔ Right ls v) ∧ Ext S S' := by
  obtain ⟨S1, e1, x1⟩ := is_letters_eq F ls S hls
  have dr1 : Drw st S S1 := x1.drw
  let σ : Fr := [some (.str (toS ls)), some v, none]
  have s1 : s1_is_sample F σ S = .nx σ S1 := by
    simp [s1_is_sample, σ, f_need_letters, c_b_need_letters, e1]
  have st0 : ∀ {b : Bool} {S' : Os}, t2_is_sample F σ S1 = .rt (.bl b) S' → f_is_sample F [.str (toS ls), v] S = .ok (.bl b) S' := fun h => by
    unfold f_is_sample c_b_is_sample
    simp only [fnD]
    rw [show (List.map some [D.str (toS ls), v] ++ List.replicate (3 - [D.str (toS ls), v].length) none) = σ from rfl, mSeq_nx s1, h]
  have fl : mRet (mC (.bl false)) σ S1 = .rt (.bl false) S1 := by simp
  rcases h with ⟨l, rfl, hl, hit⟩ | ⟨T, hT, hK, hk⟩
  · have hT2 : f_is_tuple_of F [.tup l, .int 0, .int 200] S1 = .ok (.bl (decide (l.length ≤ 200))) S1 := by
      simp [f_is_tuple_of, c_b_is_tuple_of, kinds, sizeLine_num, show l.length ≤ 16777216 by omega]
      omega
    have tt : (mNot (mTest (mCall (f_is_tuple_of F) (mCons (mVar 1) (mCons (mC (.int 0)) (mCons (mC (.int 200)) mNil)))))) σ S1 = .ok (!decide (l.length ≤ 200)) S1 := mNot_b (mTest_b (by simp [σ, hT2]))
    by_cases q1 : l.length ≤ 200
    · have s2 : s2_is_sample F σ S1 = .nx σ S1 := by
        unfold s2_is_sample
        exact (mIf_f (S1 := S1) (tt.trans (by simp [q1]))).trans (by simp)
      have g1 : G1_is_sample F σ S1 = .ok (.bl (l.all isS)) S1 := by
        unfold G1_is_sample
        simp only [mGenT, mVar, σ, List.getElem?_cons_succ, List.getElem?_cons_zero, Res.bind_ok]
        refine gen_val trivial isS _ fun x hx => ⟨_, rfl, ?_⟩
        rcases hit x hx with ⟨w, rfl, hw⟩ | ho
        · simp [wd, kinds, isS]
        · have ho1 := ho.drw dr1
          obtain ⟨T, h1, h2⟩ := ho1.kind
          have h3 := odd_notS ho1
          have hTk : T ∈ kinds := by simp only [kinds, List.mem_cons, List.not_mem_nil, or_false] at h1 ⊢; rcases h1 with h | h | h | h | h <;> simp [h]
          have hTs : T ≠ "str" := by rintro rfl; simp at h1
          have hs : ("str" : String) ∈ kinds := by simp [kinds]
          simp only [mBin, mCB, mCons, mNil, mVar, mC, wipeD, gN, List.foldl, List.set, List.getElem?_cons_succ, List.getElem?_cons_zero, Res.bind_ok, typeD, h2]
          simp [hTk, hs, hTs, h3]
      by_cases q2 : l.all isS = true
      · have hall : ∀ d ∈ l, ∃ w, d = wd w ∧ Wd ls w := fun d hd => by
          rcases hit d hd with hw | ho
          · exact hw
          · have := List.all_eq_true.mp q2 d hd
            rw [odd_notS ho] at this
            cases this
        obtain ⟨ws, rfl, hws⟩ := all_wds hall
        rw [List.length_map] at q1 hl
        have hw6 : ∀ w ∈ ws, w.length ≤ 16777216 := fun w hw => by have := (hws w hw).1; omega
        have hsl : slen ws ≤ 200 * 4100 := Nat.le_trans (slen_le fun w hw => (hws w hw).1) (Nat.mul_le_mul_right _ q1)
        have s3 : s3_is_sample F σ S1 = .nx σ S1 := by
          unfold s3_is_sample
          refine (mIf_f (S1 := S1) ((mNot_b (mTest_b g1)).trans (by rw [q2]; rfl))).trans (by simp)
        have g2 : G2_is_sample F σ S1 = .ok (.int (slen ws : Nat)) S1 := by
          unfold G2_is_sample
          simp only [mSumT, mVar, σ, List.getElem?_cons_succ, List.getElem?_cons_zero, Res.bind_ok]
          have := sum_all (ok := fun _ => True) (g := gN 2) (vs := [2]) (e := mCB lenD (mCons (mVar 2) mNil)) (σ := [some (.str (toS ls)), some (.tup (ws.map wd)), none]) (S := S1) trivial ws 0 (by omega) fun w hww => ⟨_, rfl, by simp [wd, sizeLine_num, hw6 w hww]⟩
          rw [Nat.zero_add] at this
          exact this
        have t4 : (mTest (mBin gtD (G2_is_sample F) (mC (.int 2000)))) σ S1 = .ok (decide (2000 < slen ws)) S1 := mTest_b (by
          simp only [mBin, g2, Res.bind_ok, mC]
          simp
          omega)
        by_cases q3 : slen ws ≤ 2000
        · have s4 : s4_is_sample F σ S1 = .nx σ S1 := by
            unfold s4_is_sample
            exact (mIf_f (S1 := S1) (t4.trans (by rw [decide_eq_false (by omega)]))).trans (by simp)
          let P : D → Bool := fun d => match d with | .str z => within z (toS ls) | _ => false
          have g3 : G3_is_sample F σ S1 = .ok (.bl ((ws.map wd).all P)) S1 := by
            unfold G3_is_sample
            simp only [mGenT, mVar, σ, List.getElem?_cons_succ, List.getElem?_cons_zero, Res.bind_ok]
            refine gen_val trivial P _ fun x hx => ?_
            obtain ⟨w, hww, rfl⟩ := List.mem_map.mp hx
            refine ⟨_, rfl, ?_⟩
            have := over_val F ls w S1 hls (hws w hww)
            simp [wd, this, P]
          have gP : (ws.map wd).all P = true ↔ ∀ w ∈ ws, ∀ c ∈ w, c ∈ ls := by
            rw [List.all_eq_true]
            constructor
            · intro h w hw
              exact within_iff.mp (h (wd w) (List.mem_map.mpr ⟨w, hw, rfl⟩))
            · intro h d hd
              obtain ⟨w, hw, rfl⟩ := List.mem_map.mp hd
              exact within_iff.mpr (h w hw)
          by_cases q4 : (ws.map wd).all P = true
          · obtain ⟨b, S2, e2, hb, x2⟩ := asc_val F ws S1 (by omega) hw6
            refine ⟨b, S2, st0 ?_, ?_, x1.trans x2⟩
            · unfold t2_is_sample
              rw [mSeq_nx s2]
              unfold t3_is_sample
              rw [mSeq_nx s3]
              unfold t4_is_sample
              rw [mSeq_nx s4]
              refine mRet_e ?_
              simp only [mAndV, g3, q4, Res.bind_ok]
              simp [σ, e2]
            · rw [hb, right_iff]
              exact ⟨fun h => ⟨h, gP.mp q4, q1, q3⟩, fun h => h.asc⟩
          · refine ⟨false, S1, st0 ?_, ?_, x1⟩
            · unfold t2_is_sample
              rw [mSeq_nx s2]
              unfold t3_is_sample
              rw [mSeq_nx s3]
              unfold t4_is_sample
              rw [mSeq_nx s4]
              refine mRet_e ?_
              rw [Bool.not_eq_true] at q4
              simp only [mAndV, g3, q4, Res.bind_ok]
            · rw [right_iff]
              exact ⟨fun h => (by cases h), fun h => (q4 (gP.mpr h.lts)).elim⟩
        · refine ⟨false, S1, st0 ?_, ?_, x1⟩
          · unfold t2_is_sample
            rw [mSeq_nx s2]
            unfold t3_is_sample
            rw [mSeq_nx s3]
            unfold t4_is_sample
            refine mSeq_rt ?_
            unfold s4_is_sample
            exact (mIf_t (S1 := S1) (t4.trans (by rw [decide_eq_true (by omega)]))).trans fl
          · rw [right_iff]
            exact ⟨fun h => (by cases h), fun h => (q3 h.tot).elim⟩
      · refine ⟨false, S1, st0 ?_, ?_, x1⟩
        · unfold t2_is_sample
          rw [mSeq_nx s2]
          unfold t3_is_sample
          refine mSeq_rt ?_
          unfold s3_is_sample
          rw [Bool.not_eq_true] at q2
          exact (mIf_t (S1 := S1) ((mNot_b (mTest_b g1)).trans (by rw [q2]; rfl))).trans fl
        · rw [Bool.not_eq_true, List.all_eq_false] at q2
          obtain ⟨d, hd, h2⟩ := q2
          rw [Bool.not_eq_true] at h2
          exact ⟨fun h => (by cases h), fun h => (notS_right hd h2 h).elim⟩
    · refine ⟨false, S1, st0 ?_, ?_, x1⟩
      · unfold t2_is_sample
        refine mSeq_rt ?_
        unfold s2_is_sample
        exact (mIf_t (S1 := S1) (tt.trans (by simp [q1]))).trans fl
      · refine ⟨fun h => (by cases h), ?_⟩
        rintro ⟨ws, e, hs⟩
        rw [D.tup.injEq] at e
        have := hs.many
        rw [e, List.length_map] at q1
        omega
  · have hk1 := kind_ext x1 hk
    have ht : ("tuple" : String) ∈ kinds := by simp [kinds]
    have hT2 : f_is_tuple_of F [v, .int 0, .int 200] S1 = .ok (.bl false) S1 := by
      have ty : typeD [v] S1 = .ok (.ty T) S1 := by simp only [typeD, hk1]
      simp [-typeD, f_is_tuple_of, c_b_is_tuple_of, ty, hK, ht, hT]
    have tt : (mNot (mTest (mCall (f_is_tuple_of F) (mCons (mVar 1) (mCons (mC (.int 0)) (mCons (mC (.int 200)) mNil)))))) σ S1 = .ok (!false) S1 := mNot_b (mTest_b (by simp [σ, hT2]))
    refine ⟨false, S1, st0 ?_, ?_, x1⟩
    · unfold t2_is_sample
      refine mSeq_rt ?_
      unfold s2_is_sample
      exact (mIf_t (S1 := S1) tt).trans fl
    · refine ⟨fun h => (by cases h), ?_⟩
      rintro ⟨ws, rfl, _⟩
      rw [kindD, Option.some.injEq] at hk
      exact (hT hk.symm).elim
/-! ### words, or nearly -/
def g2 (st : Nat) (ls w : List Nat) : Fr := [some (.loc st), some (.str (toS ls)), some (wd w), none, none, none, none, none]
def g4 (st : Nat) (ls w : List Nat) (kind : Int) (a : Nat) : Fr := [some (.loc st), some (.str (toS ls)), some (wd w), some (.int kind), some (.int a), none, none, none]
theorem nw_first (F : Nat) (S : Os) (st sc : Nat) (ls : List Nat) (h : StrA S st sc) (hls : Lts ls) : ∃ w S', s1_law_near_word F [some (.loc st), some (.str (toS ls)), none, none, none, none, none, none] S = .nx (g2 st ls w) S' ∧ w.length ≤ 60 ∧ (∀ c ∈ w, c ∈ ls) ∧ StrA S' st sc ∧ Drw st S S' := by
  have hp := hls.pos
  have hm := hls.max
  obtain ⟨d, S1, e1, d0, d1, s1, b1⟩ := next_eq F S st 4 sc h (by decide) (by decide)
  have key : ∀ m : Nat, m ≤ 60 → (mIfE (mTest (mBin gtD (mCall (f_law_next F) (mCons (mVar 0) (mCons (mC (.int 4)) mNil))) (mC (.int 0)))) (mC (.int 12)) (mC (.int 60))) [some (.loc st), some (.str (toS ls)), none, none, none, none, none, none] S = .ok (.int (m : Nat)) S1 → ∃ w S', s1_law_near_word F [some (.loc st), some (.str (toS ls)), none, none, none, none, none, none] S = .nx (g2 st ls w) S' ∧ w.length ≤ 60 ∧ (∀ c ∈ w, c ∈ ls) ∧ StrA S' st sc ∧ Drw st S S' := fun m hm6 q => by
    obtain ⟨w, S2, e2, _, l2, c2, s2, b2⟩ := word_eq F S1 st sc 0 m ls s1 hp (by omega) (by omega) (by omega)
    refine ⟨w, S2, ?_, by omega, c2, s2, b1.drw.trans b2.drw⟩
    unfold s1_law_near_word
    exact mSet_e ((mCall_4 (S1 := S) (S2 := S) (S3 := S) (x := .loc st) (y := .str (toS ls)) (z := .int ((0 : Nat) : Int)) (by simp) (by simp) rfl q).trans e2)
  have tn : (mBin gtD (mCall (f_law_next F) (mCons (mVar 0) (mCons (mC (.int 4)) mNil))) (mC (.int 0))) [some (.loc st), some (.str (toS ls)), none, none, none, none, none, none] S = .ok (.bl (decide (0 < d))) S1 := (mBin_e ((mCall_2 (S1 := S) (S2 := S) (by simp) rfl).trans e1) rfl).trans rfl
  by_cases q : 0 < d
  · exact key 12 (by decide) ((mIfE_t (S1 := S1) (mTest_b (tn.trans (by rw [decide_eq_true q])))).trans rfl)
  · exact key 60 (by decide) ((mIfE_f (S1 := S1) (mTest_b (tn.trans (by rw [decide_eq_false q])))).trans rfl)
theorem rep_toS (u : List Nat) (n : Nat) : repStr (toS u) n = toS (List.replicate n u).flatten := rfl
theorem rep_len (u : List Nat) (n : Nat) : (List.replicate n u).flatten.length = n * u.length := by
  rw [List.length_flatten, List.map_replicate, List.sum_replicate_nat]
theorem rep_mem {u : List Nat} {n c : Nat} (h : c ∈ (List.replicate n u).flatten) : c ∈ u := by
  obtain ⟨l, hl, hc⟩ := List.mem_flatten.mp h
  rw [List.eq_of_mem_replicate hl] at hc
  exact hc
theorem nw_long (F : Nat) (S : Os) (st sc : Nat) (ls w : List Nat) (h : StrA S st sc) (hls : Lts ls) (hw : w.length ≤ 60) (hc : ∀ c ∈ w, c ∈ ls) : ∃ u S', s2_law_near_word F (g2 st ls w) S = .nx (g2 st ls u) S' ∧ u.length ≤ 3000 ∧ (∀ c ∈ u, c ∈ ls) ∧ StrA S' st sc ∧ Drw st S S' := by
  have hp := hls.pos
  have hm := hls.max
  obtain ⟨d, S1, e1, d0, d1, s1, b1⟩ := next_eq F S st 12 sc h (by decide) (by decide)
  have tn : (mBin eqA (mCall (f_law_next F) (mCons (mVar 0) (mCons (mC (.int 12)) mNil))) (mC (.int 0))) (g2 st ls w) S = .ok (.bl (decide (d = 0))) S1 := (mBin_e ((mCall_2 (S1 := S) (S2 := S) (by simp [g2]) rfl).trans e1) rfl).trans (by simp)
  by_cases q : d = 0
  · obtain ⟨c, hc0⟩ : ∃ c, ls[0]? = some c := ⟨ls[0], List.getElem?_eq_getElem hp⟩
    have hL : 0 < w.length + 1 := by omega
    have dv : (3000 : Int).fdiv ((w.length : Int) + 1) = ((3000 / (w.length + 1) : Nat) : Int) := by
      rw [show (w.length : Int) + 1 = ((w.length + 1 : Nat) : Int) by omega, Int.fdiv_eq_ediv_of_nonneg _ (by omega)]
      rfl
    have dle : 3000 / (w.length + 1) ≤ 3000 := Nat.div_le_self _ _
    have dpos : 0 < 3000 / (w.length + 1) := Nat.div_pos (by omega) hL
    have dmul : 3000 / (w.length + 1) * (w.length + 1) ≤ 3000 := Nat.div_mul_le_self _ _
    generalize 3000 / (w.length + 1) = m at dv dle dpos dmul
    obtain ⟨k, S2, e2, k0, k1, s2, b2⟩ := next_eq F S1 st (m : Int) sc s1 (by omega) (by omega)
    obtain ⟨k, hk⟩ : ∃ n : Nat, k = (n : Int) := ⟨k.toNat, by omega⟩
    subst hk
    have kle : (1 + k) * (w.length + 1) ≤ 3000 := Nat.le_trans (Nat.mul_le_mul_right _ (by omega)) dmul
    have ul : (List.replicate (1 + k) (w ++ [c])).flatten.length = (1 + k) * (w.length + 1) := by rw [rep_len, List.length_append, List.length_singleton]
    refine ⟨(List.replicate (1 + k) (w ++ [c])).flatten, S2, ?_, by omega, fun x hx => ?_, s2, b1.drw.trans b2.drw⟩
    · unfold s2_law_near_word
      refine (mIf_t (S1 := S1) (mTest_b (tn.trans (by rw [decide_eq_true q])))).trans ?_
      have f1 : mBin addD (mVar 2) (mBin ixD (mVar 1) (mC (.int 0))) (g2 st ls w) S1 = .ok (.str (toS (w ++ [c]))) S1 := by
        refine (mBin_e (S1 := S1) (S2 := S1) (x := wd w) (y := .str (toS [c])) (by simp [g2]) ((mBin_e (S1 := S1) (S2 := S1) (x := .str (toS ls)) (y := .int 0) (by simp [g2]) rfl).trans (ix_str (n := 0) rfl hc0 (by omega)))).trans ?_
        simp [wd, sizeLine_num]
        omega
      have f3 : mBin fdivD (mC (.int 3000)) (mBin addD (mCB lenD (mCons (mVar 2) mNil)) (mC (.int 1))) (g2 st ls w) S1 = .ok (.int (m : Nat)) S1 := by
        have l1 : mBin addD (mCB lenD (mCons (mVar 2) mNil)) (mC (.int 1)) (g2 st ls w) S1 = .ok (.int ((w.length : Int) + 1)) S1 := by
          simp [g2, wd, sizeLine_num, show w.length ≤ 16777216 by omega]
        have ec : CDivN 3000 ((w.length : Int) + 1) := ⟨by omega, by omega⟩
        refine (mBin_e (S1 := S1) rfl l1).trans ?_
        simp [intD, ec, dv]
      have f2 : mBin addD (mC (.int 1)) (mCall (f_law_next F) (mCons (mVar 0) (mCons (mBin fdivD (mC (.int 3000)) (mBin addD (mCB lenD (mCons (mVar 2) mNil)) (mC (.int 1)))) mNil))) (g2 st ls w) S1 = .ok (.int (1 + (k : Int))) S2 :=
        (mBin_e (S1 := S1) rfl ((mCall_2 (S1 := S1) (x := .loc st) (by simp [g2]) f3).trans e2)).trans rfl
      have f4 : mulA (.str (toS (w ++ [c]))) (.int (1 + (k : Int))) S2 = .ok (wd (List.replicate (1 + k) (w ++ [c])).flatten) S2 := by
        have : (1 + (k : Int)).toNat = 1 + k := by omega
        have k3 : 1 + k ≤ 3000 := Nat.le_trans (Nat.le_mul_of_pos_right _ hL) kle
        have k4 : (w ++ [c]).length * (1 + k) ≤ 1000000 := by
          rw [List.length_append, List.length_singleton, Nat.mul_comm]
          omega
        simp only [mulA, this, toS_len]
        rw [if_pos ⟨by omega, k4, by omega, by rw [List.length_append, List.length_singleton]; omega⟩]
        rfl
      exact mSet_e ((mBin_e f1 f2).trans f4)
    · have := rep_mem hx
      rcases List.mem_append.mp this with h | h
      · exact hc x h
      · rw [List.mem_singleton.mp h]; exact List.mem_of_getElem? hc0
  · refine ⟨w, S1, ?_, by omega, hc, s1, b1.drw⟩
    unfold s2_law_near_word
    exact (mIf_f (S1 := S1) (mTest_b (tn.trans (by rw [decide_eq_false q])))).trans (by simp)
theorem others_eq (F : Nat) (S : Os) (σ : Fr) (ls : List Nat) (h : σ[1]? = some (some (.str (toS ls)))) (hl : 7 < σ.length) : C1_law_near_word F σ S = .ok (.loc S.length) (S ++ [.lst ((abc.filter fun c => !decide (c ∈ ls)).map sg)]) := by
  have habc : abc.length = 26 := List.length_range'
  have := out_comp 7 1 σ S abc ls h (by decide) hl (by omega)
  unfold C1_law_near_word
  simp only [mLcS, mC, abc_eq, Res.bind_ok, signs_toS]
  rw [this]
theorem nw_kind2 (F : Nat) (S : Os) (st sc : Nat) (ls w : List Nat) (a : Nat) (h : StrA S st sc) (hls : Lts ls) (ha : a < w.length) (hw : w.length ≤ 3000) (hc : ∀ c ∈ w, c ∈ ls) : ∃ d S', s6_law_near_word F (g4 st ls w 2 a) S = .rt d S' ∧ It ls st S' d ∧ StrA S' st sc ∧ Drw st S S' := by
  have hm := hls.max
  obtain ⟨os, hos⟩ : ∃ os, os = abc.filter fun c => !decide (c ∈ ls) := ⟨_, rfl⟩
  have habc : abc.length = 26 := List.length_range'
  have C : C1_law_near_word F (g4 st ls w 2 a) S = .ok (.loc S.length) (S ++ [.lst (os.map sg)]) := by
    rw [hos]
    exact others_eq F S (g4 st ls w 2 a) ls rfl (by simp [g4])
  have o1 : 0 < os.length := by
    rw [hos]
    by_cases q : 0 < (abc.filter fun c => !decide (c ∈ ls)).length
    · exact q
    · have e : (abc.filter fun c => !decide (c ∈ ls)) = [] := List.length_eq_zero_iff.mp (by omega)
      have hsub : ∀ c ∈ abc, c ∈ ls := fun c hcc => by
        by_cases q9 : c ∈ ls
        · exact q9
        · have : c ∈ abc.filter fun c => !decide (c ∈ ls) := List.mem_filter.mpr ⟨hcc, by simp [q9]⟩
          rw [e] at this
          cases this
      have := nodup_len (l := abc) (m := ls) List.nodup_range' hsub
      omega
  have o2 : os.length ≤ 26 := by rw [hos, ← habc]; exact List.length_filter_le _ _
  have x0 : Ext S (S ++ [.lst (os.map sg)]) := Ext.app _ _
  obtain ⟨k, S7, e7, kk0, kk1, s7, b7⟩ := next_eq F (S ++ [.lst (os.map sg)]) st (os.length : Int) sc (h.ext x0) (by omega) (by omega)
  have hk7 : k.toNat < os.length := by omega
  have hne : S.length ≠ st := by have := h.lt.1; omega
  obtain ⟨τ, hτ⟩ : ∃ τ : Fr, τ = (g4 st ls w 2 a).set 6 (some (.loc S.length)) := ⟨_, rfl⟩
  have y0 : ∀ S' : Os, mVar 0 τ S' = .ok (.loc st) S' := fun S' => by simp [hτ, g4]
  have y2 : ∀ S' : Os, mVar 2 τ S' = .ok (wd w) S' := fun S' => by simp [hτ, g4]
  have y4 : ∀ S' : Os, mVar 4 τ S' = .ok (.int (a : Nat)) S' := fun S' => by simp [hτ, g4]
  have y41 : ∀ S' : Os, mBin addD (mVar 4) (mC (.int 1)) τ S' = .ok (.int ((a : Int) + 1)) S' := fun S' => (mBin_e (y4 S') rfl).trans rfl
  have y6 : ∀ S' : Os, mVar 6 τ S' = .ok (.loc S.length) S' := fun S' => by simp [hτ, g4]
  have lst7 := b7.lst hne (lstAt_new (S := S) (l := os.map sg))
  have dr : Drw st S S7 := x0.drw.trans b7.drw
  obtain ⟨c, hcc⟩ : ∃ c, os[k.toNat]? = some c := ⟨_, List.getElem?_eq_getElem hk7⟩
  have ln : mCB lenD (mCons (mVar 6) mNil) τ (S ++ [.lst (os.map sg)]) = .ok (.int (os.length : Nat)) (S ++ [.lst (os.map sg)]) := by
    simp [hτ, g4]
  have ex : mBin ixD (mVar 6) (mCall (f_law_next F) (mCons (mVar 0) (mCons (mCB lenD (mCons (mVar 6) mNil)) mNil))) τ (S ++ [.lst (os.map sg)]) = .ok (wd [c]) S7 := by
    refine (mBin_e (y6 _) ((mCall_2 (y0 _) ln).trans e7)).trans ?_
    have g : (os.map sg)[k.toNat]? = some (sg c) := by rw [List.getElem?_map, hcc]; rfl
    simp only [ixD, itemsD, lst7, atI_some (l := os.map sg) (i := k) k.toNat (by omega) g]
    rfl
  refine ⟨wd (w.take a ++ [c] ++ w.drop (a + 1)), S7, ?_, .inl ⟨_, rfl, ?_, c, fun y hy => ?_⟩, s7, dr⟩
  · unfold s6_law_near_word
    refine (mIf_t (S1 := S) (mTest_b (by simp [g4]))).trans ?_
    rw [mSeq_nx (mSet_e C), ← hτ]
    refine mRet_e ?_
    refine addS_e (addS_e (slice_toS a (y2 _) (y4 _) rfl (by omega)) ex ?_) (slice_fromS (a + 1) (y2 S7) (y41 S7) (by omega) (by omega)) ?_
    · rw [List.length_take]; simp; omega
    · rw [List.length_append, List.length_take, List.length_drop]; simp; omega
  · rw [List.length_append, List.length_append, List.length_take, List.length_drop]; simp; omega
  · rcases List.mem_append.mp hy with hy | hy
    · rcases List.mem_append.mp hy with hy | hy
      · exact List.mem_append.mpr (.inl (hc y (List.mem_of_mem_take hy)))
      · exact List.mem_append.mpr (.inr hy)
    · exact List.mem_append.mpr (.inl (hc y (List.mem_of_mem_drop hy)))
theorem nw_tuple (F : Nat) (S : Os) (st : Nat) (ls w : List Nat) (a : Nat) (hw : w.length ≤ 3000) : ∃ S', s7_law_near_word F (g4 st ls w 3 a) S = .rt (.tup (w.map sg)) S' ∧ Ext S S' := by
  refine ⟨S ++ [.lst (w.map sg)], ?_, Ext.app _ _⟩
  have C : C2_law_near_word F (g4 st ls w 3 a) S = .ok (.loc S.length) (S ++ [.lst (w.map sg)]) := by
    have := all_comp 7 (g4 st ls w 3 a) S w (by simp [g4]) (by omega)
    unfold C2_law_near_word
    have v2 : mVar 2 (g4 st ls w 3 a) S = .ok (.str (toS w)) S := by simp [g4, wd]
    simp only [mLcS, v2, Res.bind_ok, signs_toS]
    rw [this]
  unfold s7_law_near_word
  refine (mIf_t (S1 := S) (mTest_b (by simp [g4]))).trans (mRet_e ?_)
  simp only [mTupOf, C, Res.bind_ok, lisD_loc, lstAt_new]
theorem nw_rest (F : Nat) (S : Os) (st sc : Nat) (ls w : List Nat) (kind : Int) (a : Nat) (h : StrA S st sc) (hls : Lts ls) (ha : a < w.length) (hw : w.length ≤ 3000) (hc : ∀ c ∈ w, c ∈ ls) : ∃ d S', t8_law_near_word F (g4 st ls w kind a) S = .rt d S' ∧ It ls st S' d ∧ StrA S' st sc ∧ Drw st S S' := by
  obtain ⟨c, hca⟩ : ∃ c, w[a]? = some c := ⟨_, List.getElem?_eq_getElem ha⟩
  obtain ⟨d, S1, e1, hd, s1, d1⟩ := stranger_eq F S st sc c h (hls.abc c (hc c (List.mem_of_getElem? hca)))
  have p1 : s8_law_near_word F (g4 st ls w kind a) S = .nx ((g4 st ls w kind a).set 5 (some d)) S1 := by
    unfold s8_law_near_word
    exact mSet_e ((mCall_2 (S1 := S) (S2 := S) (x := .loc st) (y := sg c) (by simp [g4]) ((mBin_e (S1 := S) (S2 := S) (x := .str (toS w)) (y := .int (a : Nat)) (by simp [g4, wd]) (by simp [g4])).trans (ix_str rfl hca (by omega)))).trans e1)
  obtain ⟨τ, hτ⟩ : ∃ τ : Fr, τ = (g4 st ls w kind a).set 5 (some d) := ⟨_, rfl⟩
  rw [← hτ] at p1
  have v2 : ∀ S : Os, mVar 2 τ S = .ok (wd w) S := fun S => by simp [hτ, g4]
  have v4 : ∀ S : Os, mVar 4 τ S = .ok (.int (a : Nat)) S := fun S => by simp [hτ, g4]
  have v41 : ∀ S : Os, mBin addD (mVar 4) (mC (.int 1)) τ S = .ok (.int ((a : Int) + 1)) S := fun S => (mBin_e (v4 S) rfl).trans rfl
  have v5 : ∀ S : Os, mVar 5 τ S = .ok d S := fun S => by simp [hτ, g4]
  have run : ∀ v : D, (mIfE (mTest (mCB isiD (mCons (mVar 5) (mCons (mC (.ty "str")) mNil)))) (mBin addT (mBin addT (mSlice (mVar 2) mNoPart (mPart (mVar 4))) (mVar 5)) (mSlice (mVar 2) (mPart (mBin addD (mVar 4) (mC (.int 1)))) mNoPart)) (mVar 5)) τ S1 = .ok v S1 → t8_law_near_word F (g4 st ls w kind a) S = .rt v S1 := fun v hv => by
    unfold t8_law_near_word
    rw [mSeq_nx p1]
    unfold s9_law_near_word
    exact mRet_e hv
  rcases hd with ⟨x, rfl, _⟩ | ho
  · refine ⟨wd (w.take a ++ [x] ++ w.drop (a + 1)), S1, run _ ((mIfE_t (S1 := S1) (mTest_b ?_)).trans (addS_e (addS_e (slice_toS a (v2 S1) (v4 S1) rfl (by omega)) (v5 S1) ?_) (slice_fromS (a + 1) (v2 S1) (v41 S1) (by omega) (by omega)) ?_)), .inl ⟨_, rfl, ?_, x, fun y hy => ?_⟩, s1, d1⟩
    · simp [hτ, g4, sg, kinds]
    · rw [List.length_take]; simp; omega
    · rw [List.length_append, List.length_take, List.length_drop]; simp; omega
    · rw [List.length_append, List.length_append, List.length_take, List.length_drop]; simp; omega
    · rcases List.mem_append.mp hy with hy | hy
      · rcases List.mem_append.mp hy with hy | hy
        · exact List.mem_append.mpr (.inl (hc y (List.mem_of_mem_take hy)))
        · exact List.mem_append.mpr (.inr hy)
      · exact List.mem_append.mpr (.inl (hc y (List.mem_of_mem_drop hy)))
  · obtain ⟨T, h1, h2⟩ := ho.kind
    have isi : isiD [d, .ty "str"] S1 = .ok (.bl false) S1 := by
      simp only [isiD, h2]
      simp only [List.mem_cons, List.not_mem_nil, or_false] at h1
      rcases h1 with rfl | rfl | rfl | rfl | rfl <;> simp [kinds]
    refine ⟨d, S1, run _ ((mIfE_f (S1 := S1) (mTest_b ?_)).trans (v5 S1)), .inr ho, s1, d1⟩
    refine Eq.trans ?_ isi
    simp only [mCB, mCons, mNil, v5, mC, Res.bind_ok]
theorem near_word_eq (F : Nat) (S : Os) (st sc : Nat) (ls : List Nat) (h : StrA S st sc) (hls : Lts ls) : ∃ d S', f_law_near_word F [.loc st, .str (toS ls)] S = .ok d S' ∧ It ls st S' d ∧ StrA S' st sc ∧ Drw st S S' := by
  obtain ⟨w0, S1, p1, l1, c1, s1, d1⟩ := nw_first F S st sc ls h hls
  obtain ⟨w, S2, p2, l2, c2, s2, d2⟩ := nw_long F S1 st sc ls w0 s1 hls l1 c1
  obtain ⟨kind, S3, e3, k0, k1, s3, b3⟩ := next_eq F S2 st 6 sc s2 (by decide) (by decide)
  have d3 : Drw st S S3 := (d1.trans d2).trans b3.drw
  have p3 : s3_law_near_word F (g2 st ls w) S2 = .nx ((g2 st ls w).set 3 (some (.int kind))) S3 := by
    unfold s3_law_near_word
    exact mSet_e ((mCall_2 (S1 := S2) (S2 := S2) (by simp [g2]) rfl).trans e3)
  have go : ∀ (d : D) (S' : Os), t4_law_near_word F ((g2 st ls w).set 3 (some (.int kind))) S3 = .rt d S' → f_law_near_word F [.loc st, .str (toS ls)] S = .ok d S' := fun d S' q => by
    unfold f_law_near_word c_b_law_near_word
    simp only [fnD]
    rw [show (List.map some [D.loc st, D.str (toS ls)] ++ List.replicate (8 - [D.loc st, D.str (toS ls)].length) none) = [some (.loc st), some (.str (toS ls)), none, none, none, none, none, none] from rfl, mSeq_nx p1]
    unfold t2_law_near_word
    rw [mSeq_nx p2]
    unfold t3_law_near_word
    rw [mSeq_nx p3, q]
  have nxt : ∀ (σ : Fr) (S : Os), mNext σ S = .nx σ S := fun σ S => by simp
  have t4 : (mOr (mTest (mBin ltD (mVar 3) (mC (.int 2)))) (mTest (mBin eqA (mCB lenD (mCons (mVar 2) mNil)) (mC (.int 0))))) ((g2 st ls w).set 3 (some (.int kind))) S3 = .ok (decide (kind < 2) || decide (w.length = 0)) S3 := by
    by_cases q : kind < 2
    · exact (mOr_t (S1 := S3) (mTest_b (by simp [g2, q]))).trans (by simp [q])
    · refine (mOr_f (S1 := S3) (mTest_b (by simp [g2, q]))).trans (mTest_b ?_)
      simp [g2, q, wd, sizeLine_num, show w.length ≤ 16777216 by omega]
  by_cases q4 : (decide (kind < 2) || decide (w.length = 0)) = true
  · refine ⟨wd w, S3, go _ _ ?_, .inl ⟨w, rfl, Wd.of (by omega) c2⟩, s3, d3⟩
    unfold t4_law_near_word s4_law_near_word
    exact mSeq_rt ((mIf_t (S1 := S3) (t4.trans (by rw [q4]))).trans (mRet_e (by simp [g2])))
  rw [Bool.not_eq_true] at q4
  have p4 : s4_law_near_word F ((g2 st ls w).set 3 (some (.int kind))) S3 = .nx ((g2 st ls w).set 3 (some (.int kind))) S3 := by
    unfold s4_law_near_word
    exact (mIf_f (S1 := S3) (t4.trans (by rw [q4]))).trans (nxt _ _)
  rw [Bool.or_eq_false_iff, decide_eq_false_iff_not, decide_eq_false_iff_not] at q4
  obtain ⟨at_, S4, e4, a0, a1, s4, b4⟩ := next_eq F S3 st (w.length : Int) sc s3 (by omega) (by omega)
  obtain ⟨a, ha⟩ : ∃ a : Nat, at_ = (a : Int) := ⟨at_.toNat, by omega⟩
  subst ha
  have ha : a < w.length := by omega
  have d4 : Drw st S S4 := d3.trans b4.drw
  have p5 : s5_law_near_word F ((g2 st ls w).set 3 (some (.int kind))) S3 = .nx (g4 st ls w kind a) S4 := by
    unfold s5_law_near_word
    exact mSet_e ((mCall_2 (S1 := S3) (S2 := S3) (x := .loc st) (y := .int (w.length : Nat)) (by simp [g2]) (by simp [g2, wd, sizeLine_num]; omega)).trans e4)
  have go6 : ∀ (d : D) (S' : Os), t6_law_near_word F (g4 st ls w kind a) S4 = .rt d S' → f_law_near_word F [.loc st, .str (toS ls)] S = .ok d S' := fun d S' q => go d S' (by
    unfold t4_law_near_word
    rw [mSeq_nx p4]
    unfold t5_law_near_word
    rw [mSeq_nx p5, q])
  by_cases q6 : kind = 2
  · subst q6
    obtain ⟨d, S5, e5, hd, s5, d5⟩ := nw_kind2 F S4 st sc ls w a s4 hls ha l2 c2
    exact ⟨d, S5, go6 _ _ (by unfold t6_law_near_word; exact mSeq_rt e5), hd, s5, d4.trans d5⟩
  have k6 : s6_law_near_word F (g4 st ls w kind a) S4 = .nx (g4 st ls w kind a) S4 := by
    unfold s6_law_near_word
    exact (mIf_f (S1 := S4) (mTest_b (by simp [g4, q6]))).trans (nxt _ _)
  by_cases q7 : kind = 3
  · subst q7
    obtain ⟨S5, e5, x5⟩ := nw_tuple F S4 st ls w a l2
    exact ⟨_, S5, go6 _ _ (by unfold t6_law_near_word; rw [mSeq_nx k6]; unfold t7_law_near_word; exact mSeq_rt e5), .inr (.inl ⟨"tuple", by simp, fun _ => rfl⟩), s4.ext x5, d4.trans x5.drw⟩
  have k7 : s7_law_near_word F (g4 st ls w kind a) S4 = .nx (g4 st ls w kind a) S4 := by
    unfold s7_law_near_word
    exact (mIf_f (S1 := S4) (mTest_b (by simp [g4, q7]))).trans (nxt _ _)
  obtain ⟨d, S5, e5, hd, s5, d5⟩ := nw_rest F S4 st sc ls w kind a s4 hls ha l2 c2
  exact ⟨d, S5, go6 _ _ (by unfold t6_law_near_word; rw [mSeq_nx k6]; unfold t7_law_near_word; rw [mSeq_nx k7, e5]), hd, s5, d4.trans d5⟩
end B_k01_letters_words_and_looks

end
section
namespace B_k01_letters_words_and_looks
open PySem L2 MX WM
/-! ### an error of just one class -/
def oneL (k : Nat) : List Bool := [decide ((k : Int) = 0), decide ((k : Int) = 1), decide ((k : Int) = 2), decide ((k : Int) = 3)]
theorem one_C (F : Nat) (a dd : Addr) (c0 : Str) (x y : Option D) (k : Nat) (t : Option D) (S : Os) : hC1_law_one_class F a dd c0 [x, some (.int (k : Nat)), y, t] S = .ok (.loc S.length) (S ++ [.lst ((oneL k).map .bl)]) := by
  have := comp_pure (okS := fun _ => True) (g := gN 3) (vs := [3]) (t := mYes) (e := mBin eqA (mVar 1) (mVar 3)) (S0 := S) (σ := [x, some (.int (k : Nat)), y, t]) (fun _ => true) (fun d => match d with | .int j => .bl (decide ((k : Int) = j)) | d => d) (fun _ => trivial) (rngD 0 4) [] (fun d hd b => by
    obtain ⟨j, hj⟩ := List.mem_iff_getElem?.mp hd
    obtain ⟨hj2, rfl⟩ := rngD_get hj
    exact ⟨[x, some (.int (k : Nat)), y, some (.int (0 + j))], by simp, by simp, fun _ => by simp [kinds]⟩) (by rw [rngD_len]; simp)
  unfold hC1_law_one_class
  rw [lc1_nat (n := 4) (S1 := S) (by simp) (by omega), this]
  rfl
theorem one_eq (F : Nat) (a dd : Addr) (c0 : Str) (k : Nat) (fs : List (Str × Str)) (S : Os) (h0 : MX.kitT "BadValue" c0 = some (decide ((k : Int) = 0))) (h1 : MX.kitT "TooLarge" c0 = some (decide ((k : Int) = 1))) (h2 : MX.kitT "NotPossible" c0 = some (decide ((k : Int) = 2))) (h3 : MX.kitT "TextError" c0 = some (decide ((k : Int) = 3))) (h4 : MX.kitT "SeenError" c0 = some true) :
    h_law_one_class F a dd c0 [.err a dd fs, .int (k : Nat)] S = .ok (.bl true) ((S ++ [.lst ((oneL k).map .bl)]) ++ [.lst ((oneL k).map .bl)]) := by
  have C := one_C F a dd c0 (some (.err a dd fs)) (some (.loc S.length)) k none (S ++ [.lst ((oneL k).map .bl)])
  have e := eqQ_locs ((S ++ [O.lst ((oneL k).map .bl)]) ++ [.lst ((oneL k).map .bl)]) S.length (S ++ [O.lst ((oneL k).map .bl)]).length (oneL k) (oneL k) (lstAt_app lstAt_new) lstAt_new rfl
  rw [beq_self_eq_true] at e
  have st1 : (mSet 2 (mLst (mCons (mIsE a dd (MX.kitT "BadValue" c0) (mVar 0)) (mCons (mIsE a dd (MX.kitT "TooLarge" c0) (mVar 0)) (mCons (mIsE a dd (MX.kitT "NotPossible" c0) (mVar 0)) (mCons (mIsE a dd (MX.kitT "TextError" c0) (mVar 0)) mNil)))))) [some (.err a dd fs), some (.int (k : Nat)), none, none] S = .nx [some (.err a dd fs), some (.int (k : Nat)), some (.loc S.length), none] (S ++ [.lst ((oneL k).map .bl)]) := by
    simp [h0, h1, h2, h3, mIsE, isErr, sizeLine_num, oneL]
  generalize S ++ [O.lst ((oneL k).map .bl)] = T at C e st1 ⊢
  generalize T ++ [O.lst ((oneL k).map .bl)] = T2 at C e ⊢
  unfold h_law_one_class ch_law_one_class
  simp only [fnD, List.map_cons, List.map_nil, List.length_cons, List.length_nil]
  rw [show [some (D.err a dd fs), some (D.int (k : Nat))] ++ List.replicate (4 - (0 + 1 + 1)) (none : Option D) = [some (.err a dd fs), some (.int (k : Nat)), none, none] from rfl]
  rw [mSeq_nx st1]
  simp [C, e, h4, mIsE, isErr]
/-! ### is_word, the law's own word about it, refusals -/
def Wrd (ls : List Nat) (v : D) : Prop := ∃ w, v = wd w ∧ ∀ c ∈ w, c ∈ ls
theorem odd_not {st : Nat} {S : Os} {d : D} {w : List Nat} (h : Odd st S d) : d ≠ wd w := by
  rintro rfl
  have := odd_notS h
  simp [wd, isS] at this
theorem isi_str {st : Nat} {S : Os} {d : D} (h : Odd st S d) : isiD [d, .ty "str"] S = .ok (.bl false) S := by
  obtain ⟨T, h1, h2⟩ := h.kind
  simp only [isiD, h2]
  simp only [List.mem_cons, List.not_mem_nil, or_false] at h1
  rcases h1 with rfl | rfl | rfl | rfl | rfl <;> simp [kinds]
theorem wrd_iff {ls w : List Nat} : Wrd ls (wd w) ↔ ∀ c ∈ w, c ∈ ls := by
  constructor
  · rintro ⟨u, e, h⟩
    have e : D.str (toS w) = D.str (toS u) := e
    rw [D.str.injEq, toS_inj] at e
    rw [e]
    exact h
  · intro h
    exact ⟨w, rfl, h⟩
theorem over_gen (F : Nat) (ls : List Nat) (st : Nat) (v : D) (S : Os) (hls : Lts ls) (h : It ls st S v) : ∃ b, f_is_over F [.str (toS ls), v] S = .ok (.bl b) S ∧ (b = true ↔ Wrd ls v) := by
  rcases h with ⟨w, rfl, hw⟩ | ho
  · exact ⟨_, over_val F ls w S hls hw, within_iff.trans wrd_iff.symm⟩
  · obtain ⟨T, h1, h2⟩ := ho.kind
    have ty : typeD [v] S = .ok (.ty T) S := by simp only [typeD, h2]
    have hs : ("str" : String) ∈ kinds := by simp [kinds]
    have hK : T ∈ kinds := by
      simp only [kinds, List.mem_cons, List.not_mem_nil, or_false] at h1 ⊢
      rcases h1 with h | h | h | h | h <;> simp [h]
    have hT : T ≠ "str" := by rintro rfl; simp at h1
    refine ⟨false, ?_, ⟨fun h => (by cases h), fun ⟨w, e, _⟩ => (odd_not ho e).elim⟩⟩
    simp [-typeD, f_is_over, c_b_is_over, ty, hK, hs, hT]
theorem is_word_gen (F : Nat) (ls : List Nat) (st : Nat) (v : D) (S : Os) (hls : Lts ls) (h : It ls st S v) : ∃ b S', f_is_word F [.str (toS ls), v] S = .ok (.bl b) S' ∧ (b = true ↔ Wrd ls v) ∧ Ext S S' := by
  obtain ⟨S1, e1, x1⟩ := is_letters_eq F ls S hls
  obtain ⟨b, e2, hb⟩ := over_gen F ls st v S1 hls (h.drw x1.drw)
  refine ⟨b, S1, ?_, hb, x1⟩
  simp [f_is_word, c_b_is_word, f_need_letters, c_b_need_letters, e1, e2]
theorem law_over_gen (F : Nat) (ls : List Nat) (st : Nat) (v : D) (S : Os) (h : It ls st S v) : ∃ b S', f_law_over F [.str (toS ls), v] S = .ok (.bl b) S' ∧ (b = true ↔ Wrd ls v) ∧ Ext S S' := by
  have go : ∀ b S', (mAndV (mCB isiD (mCons (mVar 1) (mCons (mC (.ty "str")) mNil))) (mBin eqA (mCB lenD (mCons (C1_law_over F) mNil)) (mC (.int 0)))) [some (.str (toS ls)), some v, none] S = .ok (.bl b) S' → f_law_over F [.str (toS ls), v] S = .ok (.bl b) S' := fun b S' q => by
    unfold f_law_over c_b_law_over
    simp only [fnD]
    rw [show (List.map some [D.str (toS ls), v] ++ List.replicate (3 - [D.str (toS ls), v].length) none) = [some (.str (toS ls)), some v, none] from rfl, mRet_e q]
  rcases h with ⟨w, rfl, hw⟩ | ho
  · obtain ⟨xs, hxs⟩ : ∃ xs, xs = w.filter fun c => !decide (c ∈ ls) := ⟨_, rfl⟩
    have C : C1_law_over F [some (.str (toS ls)), some (wd w), none] S = .ok (.loc S.length) (S ++ [.lst (xs.map sg)]) := by
      have := out_comp 2 0 [some (.str (toS ls)), some (wd w), none] S w ls rfl (by decide) (by simp) (by have := hw.1; omega)
      rw [hxs]
      unfold C1_law_over
      have v1 : mVar 1 [some (.str (toS ls)), some (wd w), none] S = .ok (.str (toS w)) S := by simp [wd]
      simp only [mLcS, v1, Res.bind_ok, signs_toS]
      rw [this]
    have i1 : mCB isiD (mCons (mVar 1) (mCons (mC (.ty "str")) mNil)) [some (.str (toS ls)), some (wd w), none] S = .ok (.bl true) S := by simp [wd, kinds]
    refine ⟨decide (xs.length = 0), S ++ [.lst (xs.map sg)], go _ _ ?_, ?_, Ext.app _ _⟩
    · simp only [mAndV, i1, Res.bind_ok]
      have l1 : mCB lenD (mCons (C1_law_over F) mNil) [some (.str (toS ls)), some (wd w), none] S = .ok (.int (xs.length : Nat)) (S ++ [.lst (xs.map sg)]) := by
        simp only [mCB, mCons, mNil, C, Res.bind_ok, lenD, lstAt_new, List.length_map]
      refine (mBin_e l1 rfl).trans ?_
      simp
    · rw [wrd_iff, decide_eq_true_eq]
      constructor
      · intro e c hc
        by_cases q : c ∈ ls
        · exact q
        · have : c ∈ xs := by rw [hxs]; exact List.mem_filter.mpr ⟨hc, by simp [q]⟩
          rw [List.length_eq_zero_iff.mp e] at this
          cases this
      · intro hall
        rw [hxs, List.length_eq_zero_iff, List.filter_eq_nil_iff]
        intro c hc
        simp [hall c hc]
  · have isi := isi_str ho
    have i1 : mCB isiD (mCons (mVar 1) (mCons (mC (.ty "str")) mNil)) [some (.str (toS ls)), some v, none] S = .ok (.bl false) S := by
      refine Eq.trans ?_ isi
      simp [-isiD]
    refine ⟨false, S, go _ _ ?_, ⟨fun h => (by cases h), fun ⟨w, e, _⟩ => (odd_not ho e).elim⟩, Ext.refl S⟩
    simp only [mAndV, i1, Res.bind_ok]
theorem refused_eq (F : Nat) (u v : D) (t : Int) (S : Os) (h : Txv 3900 S u) (hn : ¬ Letr u) : ∃ S', f_law_refused F [u, v, .int t] S = .ok (.bl true) S' ∧ Ext S S' := by
  obtain ⟨b, S1, e1, hb, x1⟩ := is_letters_gen F u S h
  obtain rfl : b = false := by
    cases b with
    | false => rfl
    | true => exact (hn (hb.mp rfl)).elim
  have zl : ("letters" : Str).length ≤ 1000 := by decide +kernel
  have nl : f_need_letters F [u] S = .exn ⟨"BadValue", [("name", "letters")]⟩ S1 := by
    simp [f_need_letters, c_b_need_letters, mRaise, zl, e1]
  have w1 : f_is_word F [u, v] S = .exn ⟨"BadValue", [("name", "letters")]⟩ S1 := by
    simp [f_is_word, c_b_is_word, nl]
  have w2 : f_is_sample F [u, v] S = .exn ⟨"BadValue", [("name", "letters")]⟩ S1 := by
    simp [f_is_sample, c_b_is_sample, s1_is_sample, nl]
  have T : T1_law_refused F [some u, some v, some (.int t), none] S = .exn ⟨"BadValue", [("name", "letters")]⟩ [some u, some v, some (.int t), none] S1 := by
    unfold T1_law_refused
    by_cases q : t = 0
    · refine (mIf_t (S1 := S) (mTest_b (by simp [q]))).trans ?_
      simp [w1]
    · refine (mIf_f (S1 := S) (mTest_b (by simp [q]))).trans ?_
      simp [w2]
  refine ⟨(S1 ++ [.lst ((oneL 0).map .bl)]) ++ [.lst ((oneL 0).map .bl)], ?_, (x1.trans (Ext.app _ _)).trans (Ext.app _ _)⟩
  unfold f_law_refused c_b_law_refused
  simp only [fnD]
  rw [show (List.map some [u, v, D.int t] ++ List.replicate (4 - [u, v, D.int t].length) none) = [some u, some v, some (.int t), none] from rfl]
  have one := one_eq F
  rw [mSeq_rt (d := .bl true) (S1 := (S1 ++ [.lst ((oneL 0).map .bl)]) ++ [.lst ((oneL 0).map .bl)])]
  refine mTry_exn T (by decide +kernel) fun a dd => ?_
  have one := one_eq F a dd "BadValue" 0 [("name", "letters")] S1 (by decide +kernel) (by decide +kernel) (by decide +kernel) (by decide +kernel) (by decide +kernel)
  generalize (S1 ++ [O.lst ((oneL 0).map .bl)]) ++ [O.lst ((oneL 0).map .bl)] = S7 at one ⊢
  have kn : mKn "BadValue" (X1_law_refused F a dd "BadValue") = X1_law_refused F a dd "BadValue" := if_pos (by decide +kernel)
  have lk : List.lookup ("name" : Str) [(("name" : Str), ("letters" : Str))] = some "letters" := by decide +kernel
  have one : h_law_one_class F a dd "BadValue" [.err a dd [("name", "letters")], .int 0] S1 = .ok (.bl true) S7 := one
  show unset 3 (mKn "BadValue" (X1_law_refused F a dd "BadValue") _ _) = _
  rw [kn]
  simp [X1_law_refused, one, mXf, lk, unset]
end B_k01_letters_words_and_looks

end
section
namespace B_k01_letters_words_and_looks
open PySem L2 MX WM
/-! ### looks -/
def Lk (S : Os) (v : D) : Prop := (∃ i : Int, v = .int i) ∨ ∃ T, T ≠ "int" ∧ T ∈ kinds ∧ kindD S v = some T
theorem stra_lk {st : Nat} {S : Os} {d : D} (h : Stra st S d) : Lk S d := by
  rcases h with ⟨x, rfl, _⟩ | ho
  · exact .inr ⟨"str", by decide, by simp [kinds], rfl⟩
  · obtain ⟨T, h1, h2⟩ := ho.kind
    by_cases q : T = "int"
    · subst q
      left
      cases d <;> try (simp [kindD] at h2; done)
      · exact ⟨_, rfl⟩
      · rename_i n
        simp only [kindD] at h2
        split at h2 <;> simp at h2
    · refine .inr ⟨T, q, ?_, h2⟩
      simp only [kinds, List.mem_cons, List.not_mem_nil, or_false] at h1 ⊢
      rcases h1 with h | h | h | h | h <;> simp [h]
theorem look_gen (F : Nat) (v : D) (S : Os) (h : Lk S v) (a t e : Option D) : ∃ b, f_is_look F [v] S = .ok (.bl b) S ∧ (mAndV (mCB isiD (mCons (mVar 2) (mCons (mC (.ty "int")) mNil))) (mAndV (mNotV (mCB isiD (mCons (mVar 2) (mCons (mC (.ty "bool")) mNil)))) (mAndV (mBin geD (mVar 2) (mC (.int 0))) (mBin leD (mVar 2) (mC (.int 12)))))) [a, t, some v, e] S = .ok (.bl b) S := by
  rcases h with ⟨i, rfl⟩ | ⟨T, hT, hK, hk⟩
  · refine ⟨decide (0 ≤ i ∧ i ≤ 12), ?_, ?_⟩
    · by_cases q1 : 0 ≤ i
      · simp [f_is_look, c_b_is_look, f_is_integer_within, c_b_is_integer_within, kinds, q1]
      · simp [f_is_look, c_b_is_look, f_is_integer_within, c_b_is_integer_within, kinds, q1]
    · by_cases q1 : 0 ≤ i
      · simp [kinds, q1]
      · simp [kinds, q1]
  · have ty : typeD [v] S = .ok (.ty T) S := by simp only [typeD, hk]
    have hi : ("int" : String) ∈ kinds := by simp [kinds]
    refine ⟨false, ?_, ?_⟩
    · simp [-typeD, f_is_look, c_b_is_look, f_is_integer_within, c_b_is_integer_within, ty, hK, hi, hT]
    · by_cases q : T = "bool"
      · subst q
        have i1 : isiD [v, .ty "int"] S = .ok (.bl true) S := by simp only [isiD, hk]; simp [kinds]
        have i2 : isiD [v, .ty "bool"] S = .ok (.bl true) S := by simp only [isiD, hk]; simp [kinds]
        simp [-isiD, i1, i2]
      · have i1 : isiD [v, .ty "int"] S = .ok (.bl false) S := by
          simp only [isiD, hk]
          simp [hK, hT, q]
        simp [-isiD, i1]
theorem upper3 : ∃ x, Txt.upper (toS [51]) = toS [x] ∧ x ∉ abc := ⟨51, by decide +kernel, by decide⟩
theorem three_eq : ("3" : Str) = toS [51] := by decide +kernel
theorem cpow6 : CPow 10 6 := ⟨by decide, by decide, by decide⟩
theorem says_eq (F : Nat) (b : Bool) (S : Os) : f_law_says F [.bl b, .bl b] S = .ok (.bl true) S := by
  cases b <;> simp [f_law_says, c_b_law_says]
theorem Lk.ext {S S' : Os} {v : D} (h : Lk S v) (x : ∀ T, kindD S v = some T → kindD S' v = some T) : Lk S' v := h.imp id fun ⟨T, h1, h2, h3⟩ => ⟨T, h1, h2, x T h3⟩
theorem look_turn (F : Nat) (S : Os) (st sc : Nat) (t v e : Option D) (h : StrA S st sc) : ∃ v' e' S', B1_law_looks F [some (.loc st), t, v, e] S = .nx [some (.loc st), t, v', e'] S' ∧ StrA S' st sc := by
  have nxt : ∀ (σ : Fr) (S : Os), mNext σ S = .nx σ S := fun σ S => by simp
  obtain ⟨d1, S1, e1, _, _, s1, b1⟩ := next_eq F S st 20 sc h (by decide) (by decide)
  have p1 : mSet 2 (mBin subD (mCall (f_law_next F) (mCons (mVar 0) (mCons (mC (.int 20)) mNil))) (mC (.int 3))) [some (.loc st), t, v, e] S = .nx [some (.loc st), t, some (.int (d1 - 3)), e] S1 :=
    mSet_e ((mBin_e ((mCall_2 (S1 := S) (S2 := S) (x := .loc st) (by simp) rfl).trans e1) rfl).trans rfl)
  obtain ⟨d2, S2, e2, _, _, s2, b2⟩ := next_eq F S1 st 5 sc s1 (by decide) (by decide)
  have t2 : mTest (mBin eqA (mCall (f_law_next F) (mCons (mVar 0) (mCons (mC (.int 5)) mNil))) (mC (.int 0))) [some (.loc st), t, some (.int (d1 - 3)), e] S1 = .ok (decide (d2 = 0)) S2 := mTest_b ((mBin_e ((mCall_2 (S1 := S1) (S2 := S1) (x := .loc st) (by simp) rfl).trans e2) rfl).trans (by simp))
  have P2 : ∃ w S3, mIf (mTest (mBin eqA (mCall (f_law_next F) (mCons (mVar 0) (mCons (mC (.int 5)) mNil))) (mC (.int 0)))) (mSet 2 (mCall (f_law_stranger F) (mCons (mVar 0) (mCons (mC (.str "3")) mNil)))) mNext [some (.loc st), t, some (.int (d1 - 3)), e] S1 = .nx [some (.loc st), t, some w, e] S3 ∧ StrA S3 st sc ∧ Stra st S3 w := by
    by_cases q : d2 = 0
    · obtain ⟨w, S3, e3, hw, s3, d3⟩ := stranger_gen F S2 st sc 51 s2 upper3
      exact ⟨w, S3, (mIf_t (S1 := S2) (t2.trans (by rw [decide_eq_true q]))).trans (mSet_e ((mCall_2 (S1 := S2) (S2 := S2) (x := .loc st) (y := sg 51) (by simp) (by rw [three_eq]; rfl)).trans e3)), s3, hw⟩
    · exact ⟨.int (d1 - 3), S2, (mIf_f (S1 := S2) (t2.trans (by rw [decide_eq_false q]))).trans (nxt _ _), s2, .inr (.inl ⟨"int", by simp, fun _ => rfl⟩)⟩
  obtain ⟨w, S3, p2, s3, hw⟩ := P2
  obtain ⟨d4, S4, e4, _, _, s4, b4⟩ := next_eq F S3 st 9 sc s3 (by decide) (by decide)
  have t3 : mTest (mBin eqA (mCall (f_law_next F) (mCons (mVar 0) (mCons (mC (.int 9)) mNil))) (mC (.int 0))) [some (.loc st), t, some w, e] S3 = .ok (decide (d4 = 0)) S4 := mTest_b ((mBin_e ((mCall_2 (S1 := S3) (S2 := S3) (x := .loc st) (by simp) rfl).trans e4) rfl).trans (by simp))
  have hw4 : Stra st S4 w := hw.imp id fun h => h.drw b4.drw
  have P3 : ∃ w' S5, mIf (mTest (mBin eqA (mCall (f_law_next F) (mCons (mVar 0) (mCons (mC (.int 9)) mNil))) (mC (.int 0)))) (mSet 2 (mBin subD (mCall (f_law_next F) (mCons (mVar 0) (mCons (mBin powD (mC (.int 10)) (mC (.int 6))) mNil))) (mC (.int 500000)))) mNext [some (.loc st), t, some w, e] S3 = .nx [some (.loc st), t, some w', e] S5 ∧ StrA S5 st sc ∧ Lk S5 w' := by
    by_cases q : d4 = 0
    · obtain ⟨d5, S5, e5, _, _, s5, b5⟩ := next_eq F S4 st 1000000 sc s4 (by decide) (by decide)
      have pw : mBin powD (mC (.int 10)) (mC (.int 6)) [some (.loc st), t, some w, e] S4 = .ok (.int 1000000) S4 := by
        simp [intD, cpow6]
      exact ⟨.int (d5 - 500000), S5, (mIf_t (S1 := S4) (t3.trans (by rw [decide_eq_true q]))).trans (mSet_e ((mBin_e ((mCall_2 (S1 := S4) (S2 := S4) (x := .loc st) (by simp) pw).trans e5) rfl).trans rfl)), s5, .inl ⟨_, rfl⟩⟩
    · exact ⟨w, S4, (mIf_f (S1 := S4) (t3.trans (by rw [decide_eq_false q]))).trans (nxt _ _), s4, stra_lk hw4⟩
  obtain ⟨w', S5, p3, s5, hl⟩ := P3
  obtain ⟨b, e6, e7⟩ := look_gen F w' S5 hl (some (.loc st)) t e
  have p4 := mSet_e (i := 3) e7
  have p5 : mIf (mNot (mTest (mCall (f_law_says F) (mCons (mCall (f_is_look F) (mCons (mVar 2) mNil)) (mCons (mVar 3) mNil))))) (mRet (mC (.bl false))) mNext [some (.loc st), t, some w', some (.bl b)] S5 = .nx [some (.loc st), t, some w', some (.bl b)] S5 :=
    (mIf_f (S1 := S5) (mNot_b (b := true) (mTest_b ((mCall_2 (S1 := S5) (S2 := S5) ((mCall_1 (S1 := S5) (x := w') (by simp)).trans e6) (by simp)).trans (says_eq F b S5))))).trans (nxt _ _)
  refine ⟨some w', some (.bl b), S5, ?_, s5⟩
  unfold B1_law_looks
  rw [mSeq_nx p1, mSeq_nx p2, mSeq_nx p3, mSeq_nx p4]
  exact p5
theorem looks_eq (F : Nat) (S : Os) (st sc : Nat) (h : StrA S st sc) : ∃ S', f_law_looks F [.loc st] S = .ok (.bl true) S' := by
  have L : ∃ σ' S', mLoop (fun _ => True) (gN 1) (B1_law_looks F) (rngD 0 6) [some (.loc st), none, none, none] S = .nx σ' S' ∧ (∃ t v e, σ' = [some (.loc st), t, v, e]) ∧ StrA S' st sc := by
    refine loop_rng_nx (fun j σ S' => (∃ t v e, σ = [some (.loc st), t, v, e]) ∧ StrA S' st sc) ⟨⟨none, none, none, rfl⟩, h⟩ fun j σ S2 hj ⟨⟨t, v, e, hσ⟩, hs⟩ => ?_
    subst hσ
    obtain ⟨v', e', S3, e3, s3⟩ := look_turn F S2 st sc (some (.int (0 + j))) v e hs
    exact ⟨[some (.loc st), some (.int (0 + j)), v, e], _, S3, rfl, e3, ⟨_, _, _, rfl⟩, s3⟩
  obtain ⟨σ', S2, e2, ⟨t, v, e, rfl⟩, s2⟩ := L
  refine ⟨S2, ?_⟩
  have p1 : mForR1 (mC (.int 6)) (gN 1) (B1_law_looks F) [some (.loc st), none, none, none] S = .nx [some (.loc st), t, v, e] S2 := by
    rw [for1_nat (n := 6) (S1 := S) (by simp) (by omega)]
    exact e2
  unfold f_law_looks c_b_law_looks
  simp only [fnD]
  rw [show (List.map some [D.loc st] ++ List.replicate (4 - [D.loc st].length) none) = [some (.loc st), none, none, none] from rfl, mSeq_nx p1]
  simp [f_is_look, c_b_is_look, f_is_integer_within, c_b_is_integer_within, kinds]
end B_k01_letters_words_and_looks

end
section
namespace B_k01_letters_words_and_looks
open PySem L2 MX WM
def FUEL : Nat := 1000000
theorem lts_ab : Lts [97, 98] := ⟨by decide, by decide, by decide, by decide⟩
theorem ab_eq : ("ab" : Str) = toS [97, 98] := by decide +kernel
theorem bool_iff {a b : Bool} {p : Prop} (h : a = true ↔ p) (k : b = true ↔ p) : a = b := by
  cases a <;> cases b <;> simp_all
def fr (d : D) (st : Nat) (t a b c : Option D) : Fr := [some d, some (.loc st), t, a, b, c]
theorem right_one {ls : List Nat} {v : D} : Right ls (.tup [v]) ↔ ∃ w, v = wd w ∧ (∀ c ∈ w, c ∈ ls) ∧ w.length ≤ 2000 := by
  constructor
  · rintro ⟨ws, e, hs⟩
    rw [D.tup.injEq] at e
    match ws, e, hs with
    | [], e, _ => simp at e
    | [w], e, hs =>
      simp at e
      have h2 := hs.tot
      rw [slen_one] at h2
      exact ⟨w, e, hs.lts w List.mem_cons_self, h2⟩
    | _ :: _ :: _, e, _ => simp at e
  · rintro ⟨w, rfl, h1, h2⟩
    exact ⟨[w], rfl, List.pairwise_singleton _ _, fun x hx => by rw [List.mem_singleton.mp hx]; exact h1, by simp, by rw [slen_one]; exact h2⟩
theorem It.ext {ls : List Nat} {st : Nat} {S S' : Os} {d : D} (h : It ls st S d) (x : Ext S S') : It ls st S' d := h.drw x.drw
theorem turn_eq (F : Nat) (d : D) (S : Os) (st sc : Nat) (t a b c : Option D) (h : StrA S st sc) : ∃ a' b' c' S', B1_law F (fr d st t a b c) S = .nx (fr d st t a' b' c') S' ∧ StrA S' st sc := by
  have nxt : ∀ (σ : Fr) (S : Os), mNext σ S = .nx σ S := fun σ S => by simp
  obtain ⟨u, S1, e1, hu, s1, d1⟩ := near_letters_eq F S st sc h
  have tx := hu.txv (n := 3900) (by decide)
  obtain ⟨due, e2, h2⟩ := are_letters_gen F u S1 tx
  obtain ⟨b3, S2, e3, h3, x3⟩ := is_letters_gen F u S1 tx
  obtain rfl : b3 = due := bool_iff h3 h2
  have s2 := s1.ext x3
  have p1 : mSet 3 (mCall (f_law_near_letters F) (mCons (mVar 1) mNil)) (fr d st t a b c) S = .nx (fr d st t (some u) b c) S1 := mSet_e ((mCall_1 (S1 := S) (x := .loc st) (by simp [fr])).trans e1)
  have p2 : mSet 4 (mCall (f_law_are_letters F) (mCons (mVar 3) mNil)) (fr d st t (some u) b c) S1 = .nx (fr d st t (some u) (some (.bl b3)) c) S1 := mSet_e ((mCall_1 (S1 := S1) (x := u) (by simp [fr])).trans e2)
  have p3 : (mIf (mNot (mTest (mCall (f_law_says F) (mCons (mCall (f_is_letters F) (mCons (mVar 3) mNil)) (mCons (mVar 4) mNil))))) (mRet (mC (.bl false))) mNext) (fr d st t (some u) (some (.bl b3)) c) S1 = .nx (fr d st t (some u) (some (.bl b3)) c) S2 :=
    (mIf_f (S1 := S2) (mNot_b (b := true) (mTest_b ((mCall_2 (S1 := S2) (S2 := S2) (x := .bl b3) (y := .bl b3) ((mCall_1 (S1 := S1) (x := u) (by simp [fr])).trans e3) (by simp [fr])).trans (says_eq F b3 S2))))).trans (nxt _ _)
  cases b3 with
  | false =>
    have hn : ¬ Letr u := fun y => by have := h2.mpr y; cases this
    obtain ⟨w, S3, e4, hw, s3, d3⟩ := near_word_eq F S2 st sc [97, 98] s2 lts_ab
    have p4 : mSet 5 (mCall (f_law_near_word F) (mCons (mVar 1) (mCons (mIfE (mTest (mVar 4)) (mVar 3) (mC (.str "ab"))) mNil))) (fr d st t (some u) (some (.bl false)) c) S2 = .nx (fr d st t (some u) (some (.bl false)) (some w)) S3 :=
      mSet_e ((mCall_2 (S1 := S2) (S2 := S2) (x := .loc st) (y := .str (toS [97, 98])) (by simp [fr]) ((mIfE_f (S1 := S2) (mTest_b (by simp [fr]))).trans (by rw [ab_eq]; rfl))).trans e4)
    have td : ∀ S : Os, mTest (mVar 4) (fr d st t (some u) (some (.bl false)) (some w)) S = .ok false S := fun S => mTest_b (by simp [fr])
    obtain ⟨k, S4, e5, _, _, s4, b4⟩ := next_eq F S3 st 2 sc s3 (by decide) (by decide)
    have tx4 : Txv 3900 S4 u := by
      rcases hu with ⟨w, rfl, hw⟩ | ho
      · exact .inl ⟨w, rfl, by omega⟩
      · exact Nv.txv (st := st) (.inr (((ho.drw x3.drw).drw d3).drw b4.drw)) (by decide)
    obtain ⟨S5, e6, x6⟩ := refused_eq F u w k S4 tx4 hn
    refine ⟨some u, some (.bl false), some w, S5, ?_, s4.ext x6⟩
    unfold B1_law
    rw [mSeq_nx p1, mSeq_nx p2, mSeq_nx p3, mSeq_nx p4, mSeq_nx ((mIf_f (b := mNext) (mAnd_f (td S3))).trans (nxt _ _)), mSeq_nx ((mIf_f (b := mNext) (mAnd_f (td S3))).trans (nxt _ _))]
    refine (mIf_f (S1 := S5) ((mAnd_t (S1 := S3) (mNot_b (td S3))).trans (mNot_b (b := true) (mTest_b ?_)))).trans (nxt _ _)
    exact (mCall_3 (S1 := S3) (S2 := S3) (S3 := S4) (x := u) (y := w) (z := .int k) (by simp [fr]) (by simp [fr]) ((mCall_2 (S1 := S3) (S2 := S3) (x := .loc st) (by simp [fr]) rfl).trans e5)).trans e6
  | true =>
    obtain ⟨ls, rfl, hls⟩ := h2.mp rfl
    obtain ⟨w, S3, e4, hw, s3, d3⟩ := near_word_eq F S2 st sc ls s2 hls
    have p4 : mSet 5 (mCall (f_law_near_word F) (mCons (mVar 1) (mCons (mIfE (mTest (mVar 4)) (mVar 3) (mC (.str "ab"))) mNil))) (fr d st t (some (.str (toS ls))) (some (.bl true)) c) S2 = .nx (fr d st t (some (.str (toS ls))) (some (.bl true)) (some w)) S3 :=
      mSet_e ((mCall_2 (S1 := S2) (S2 := S2) (x := .loc st) (y := .str (toS ls)) (by simp [fr]) ((mIfE_t (S1 := S2) (mTest_b (by simp [fr]))).trans (by simp [fr]))).trans e4)
    have td : ∀ S : Os, mTest (mVar 4) (fr d st t (some (.str (toS ls))) (some (.bl true)) (some w)) S = .ok true S := fun S => mTest_b (by simp [fr])
    have v3 : ∀ S : Os, mVar 3 (fr d st t (some (.str (toS ls))) (some (.bl true)) (some w)) S = .ok (.str (toS ls)) S := fun S => by simp [fr]
    have v5 : ∀ S : Os, mVar 5 (fr d st t (some (.str (toS ls))) (some (.bl true)) (some w)) S = .ok w S := fun S => by simp [fr]
    obtain ⟨b4, S4, e5, h4, x4⟩ := is_word_gen F ls st w S3 hls hw
    obtain ⟨b5, S5, e6, h5, x5⟩ := law_over_gen F ls st w S4 (hw.ext x4)
    obtain rfl : b5 = b4 := bool_iff h5 h4
    obtain ⟨b6, S6, e7, h6, x6⟩ := is_word_gen F ls st (wd []) S5 hls (.inl ⟨[], rfl, by simp, 0, fun c hc => by cases hc⟩)
    obtain rfl : b6 = true := h6.mpr ⟨[], rfl, fun c hc => by cases hc⟩
    have hw6 := ((hw.ext x4).ext x5).ext x6
    obtain ⟨b7, S7, e8, h7, x7⟩ := is_sample_gen F ls st (.tup [w]) S6 hls (.inl ⟨[w], rfl, by simp, fun y hy => by rw [List.mem_singleton.mp hy]; exact hw6⟩)
    obtain ⟨b8, S8, e9, h8, x8⟩ := law_over_gen F ls st w S7 (hw6.ext x7)
    have s8 : StrA S8 st sc := ((((s3.ext x4).ext x5).ext x6).ext x7).ext x8
    have c5 : (mAnd (mTest (mVar 4)) (mNot (mAnd (mTest (mCall (f_law_says F) (mCons (mCall (f_is_word F) (mCons (mVar 3) (mCons (mVar 5) mNil))) (mCons (mCall (f_law_over F) (mCons (mVar 3) (mCons (mVar 5) mNil))) mNil)))) (mTest (mBin (isD false) (mCall (f_is_word F) (mCons (mVar 3) (mCons (mC (.str "")) mNil))) (mC (.bl true))))))) (fr d st t (some (.str (toS ls))) (some (.bl true)) (some w)) S3 = .ok false S6 := by
      refine (mAnd_t (S1 := S3) (td S3)).trans (mNot_b (b := true) ((mAnd_t (S1 := S5) (mTest_b ?_)).trans (mTest_b ?_)))
      · exact (mCall_2 (S1 := S4) (S2 := S5) ((mCall_2 (v3 S3) (v5 S3)).trans e5) ((mCall_2 (v3 S4) (v5 S4)).trans e6)).trans (says_eq F b5 S5)
      · refine (mBin_e (S1 := S6) (x := .bl true) ((mCall_2 (S2 := S5) (y := wd []) (v3 S5) rfl).trans e7) rfl).trans ?_
        simp
    have e10 : (mAndV (mCall (f_law_over F) (mCons (mVar 3) (mCons (mVar 5) mNil))) (mBin leD (mCB lenD (mCons (mVar 5) mNil)) (mC (.int 2000)))) (fr d st t (some (.str (toS ls))) (some (.bl true)) (some w)) S7 = .ok (.bl b7) S8 := by
      have o1 := (mCall_2 (f := f_law_over F) (v3 S7) (v5 S7)).trans e9
      cases b8 with
      | false =>
        obtain rfl : b7 = false := by
          cases b7 with
          | false => rfl
          | true =>
            obtain ⟨y, rfl, hy, _⟩ := right_one.mp (h7.mp rfl)
            have := h8.mpr ⟨y, rfl, hy⟩
            cases this
        simp only [mAndV, o1, Res.bind_ok]
      | true =>
        obtain ⟨y, rfl, hy⟩ := h8.mp rfl
        have hyl : y.length ≤ 4100 := by
          rcases hw with ⟨z, e, hz⟩ | ho
          · have e : D.str (toS y) = D.str (toS z) := e
            rw [D.str.injEq, toS_inj] at e
            rw [e]
            exact hz.1
          · exact (odd_not ho rfl).elim
        have hb : b7 = decide (y.length ≤ 2000) := bool_iff h7 (by
          rw [decide_eq_true_eq, right_one]
          constructor
          · intro h
            exact ⟨y, rfl, hy, h⟩
          · rintro ⟨z, e, _, hz⟩
            have e : D.str (toS y) = D.str (toS z) := e
            rw [D.str.injEq, toS_inj] at e
            rw [e]
            exact hz)
        simp only [mAndV, o1, Res.bind_ok]
        have ln : mCB lenD (mCons (mVar 5) mNil) (fr d st t (some (.str (toS ls))) (some (.bl true)) (some (wd y))) S8 = .ok (.int (y.length : Nat)) S8 := by
          simp [fr, wd, sizeLine_num]
          omega
        refine (mBin_e ln rfl).trans ?_
        rw [hb]
        simp
        try omega
    have c6 : (mAnd (mTest (mVar 4)) (mNot (mTest (mCall (f_law_says F) (mCons (mCall (f_is_sample F) (mCons (mVar 3) (mCons (mTup (mCons (mVar 5) mNil)) mNil))) (mCons (mAndV (mCall (f_law_over F) (mCons (mVar 3) (mCons (mVar 5) mNil))) (mBin leD (mCB lenD (mCons (mVar 5) mNil)) (mC (.int 2000)))) mNil)))))) (fr d st t (some (.str (toS ls))) (some (.bl true)) (some w)) S6 = .ok false S8 :=
      (mAnd_t (S1 := S6) (td S6)).trans (mNot_b (b := true) (mTest_b ((mCall_2 (S1 := S7) (S2 := S8) ((mCall_2 (v3 S6) (tup1_e (v5 S6))).trans e8) e10).trans (says_eq F b7 S8))))
    refine ⟨some (.str (toS ls)), some (.bl true), some w, S8, ?_, s8⟩
    unfold B1_law
    rw [mSeq_nx p1, mSeq_nx p2, mSeq_nx p3, mSeq_nx p4, mSeq_nx ((mIf_f (b := mNext) c5).trans (nxt _ _)), mSeq_nx ((mIf_f (b := mNext) c6).trans (nxt _ _))]
    exact (mIf_f (S1 := S8) (mAnd_f (mNot_b (td S8)))).trans (nxt _ _)
theorem law_true : ∀ ns : List Int, ns.length ≤ 63 → ∀ (d : D) (S : Os), itemsD S d = some (ns.map D.int) → ∃ S', f_law FUEL [d] S = .ok (.bl true) S' := fun ns hl d S hd => by
  have st1 : s1_law FUEL [some d, none, none, none, none, none] S = .nx (fr d (S.length + 1) none none none none) ((S ++ [.lst (ns.map D.int)]) ++ [.lst [.loc S.length, .int 0, .int 0]]) := by
    have hd' : listD [d] S = .ok (.loc S.length) (S ++ [.lst (ns.map D.int)]) := by simp only [listD, hd]
    simp [-listD, s1_law, fr, f_law_stream, c_b_law_stream, hd', sizeLine_num]
  have s0 : StrA ((S ++ [.lst (ns.map D.int)]) ++ [.lst [.loc S.length, .int 0, .int 0]]) (S.length + 1) S.length := by
    have e : S.length + 1 = (S ++ [O.lst (ns.map D.int)]).length := by simp
    exact ⟨ns, 0, 0, by rw [e]; exact lstAt_new, lstAt_app lstAt_new, by omega, Int.le_refl _, Int.le_refl _⟩
  generalize (S ++ [O.lst (ns.map D.int)]) ++ [O.lst [.loc S.length, .int 0, .int 0]] = S1 at st1 s0
  have L : ∃ σ' S', mLoop (fun _ => True) (gN 2) (B1_law FUEL) (rngD 0 4) (fr d (S.length + 1) none none none none) S1 = .nx σ' S' ∧ (∃ t a b c, σ' = fr d (S.length + 1) t a b c) ∧ StrA S' (S.length + 1) S.length := by
    refine loop_rng_nx (fun j σ S' => (∃ t a b c, σ = fr d (S.length + 1) t a b c) ∧ StrA S' (S.length + 1) S.length) ⟨⟨none, none, none, none, rfl⟩, s0⟩ fun j σ S2 hj ⟨⟨t, a, b, c, hσ⟩, hs⟩ => ?_
    subst hσ
    obtain ⟨a', b', c', S3, e3, s3⟩ := turn_eq FUEL d S2 _ _ (some (.int (0 + j))) a b c hs
    exact ⟨fr d (S.length + 1) (some (.int (0 + j))) a b c, _, S3, rfl, e3, ⟨_, _, _, _, rfl⟩, s3⟩
  obtain ⟨σ', S2, e2, ⟨t, a, b, c, rfl⟩, s2⟩ := L
  obtain ⟨S3, e3⟩ := looks_eq FUEL S2 _ _ s2
  refine ⟨S3, ?_⟩
  have st2 : s2_law FUEL (fr d (S.length + 1) none none none none) S1 = .nx (fr d (S.length + 1) t a b c) S2 := by
    unfold s2_law
    rw [for1_nat (n := 4) (S1 := S1) (by simp) (by omega)]
    exact e2
  simp only [f_law, c_b_law, fnD, List.map_cons, List.map_nil, List.length_cons, List.length_nil]
  rw [show [some d] ++ List.replicate (6 - (0 + 1)) (none : Option D) = [some d, none, none, none, none, none] from rfl]
  unfold t2_law
  rw [mSeq_nx st1, mSeq_nx st2]
  unfold s3_law
  rw [mRet_e ((mCall_1 (S1 := S2) (x := .loc (S.length + 1)) (by simp [fr])).trans e3)]
end B_k01_letters_words_and_looks

end
set_option maxHeartbeats 0
open PySem PySem.Spec PyProof.Rows L2
namespace B_k01_letters_words_and_looks
abbrev R : PySem.W.OpenRow := PySem.W.OpenLaw.row PySem.Challenge.rw_backseen_k01_letters_words_and_looks
abbrev hk : PySem.W.Hook := HK.hookE 4 fa fn [] (MX.TL.tf ++ MX.TL.tl.map (·.1)) exB erIn
def ob (s : PySem.W.SharedT) : He.AlX × List (Option HK.IObs) := HK.obsE 4 fa fn [] (MX.TL.tf ++ MX.TL.tl.map (·.1)) exB erIn (HandSHeadRun.getT s)
theorem ob_eq (s : PySem.W.SharedT) : ob s = hk.obs s.abs := HK.obsE_eq (HandSHeadRun.getT_eq s)
def loose : List PySem.Str := [("__name__" : PySem.Str), ("SeenError" : PySem.Str), ("BadValue" : PySem.Str), ("TooLarge" : PySem.Str), ("NotPossible" : PySem.Str), ("TextError" : PySem.Str), ("ALPHABET" : PySem.Str), ("MOST_DIFFERENT_LETTERS" : PySem.Str), ("MOST_LOOK" : PySem.Str), ("MOST_SAMPLE_WORDS" : PySem.Str), ("MOST_SAMPLE_LETTERS" : PySem.Str), ("is_over" : PySem.Str), ("is_integer_within" : PySem.Str), ("is_tuple_of" : PySem.Str), ("word_place" : PySem.Str), ("is_ascending" : PySem.Str), ("is_letters" : PySem.Str), ("is_word" : PySem.Str), ("is_look" : PySem.Str), ("is_sample" : PySem.Str), ("need_letters" : PySem.Str), ("_law_stream" : PySem.Str), ("_law_next" : PySem.Str), ("_law_pick" : PySem.Str), ("_law_letters" : PySem.Str), ("_law_word" : PySem.Str), ("_law_says" : PySem.Str), ("_law_one_class" : PySem.Str), ("_law_stranger" : PySem.Str), ("_law_are_letters" : PySem.Str), ("_law_near_letters" : PySem.Str), ("_law_near_word" : PySem.Str), ("_law_over" : PySem.Str), ("_law_refused" : PySem.Str), ("_law_looks" : PySem.Str)]
theorem run (w : World) : HandSHeadRun.RunEq R (PySem.W.view R.prog [37]) hk ob 8000 loose w := by
  intro os
  kernel_rfl
end B_k01_letters_words_and_looks
open PySem PySem.W PySem.Calls PyProof.Rows
theorem PySem.Challenge.cw_backseen_k01_letters_words_and_looks_holds : PySem.Challenge.rw_backseen_k01_letters_words_and_looks.Holds := by
  w_on; o_law
  refine HandSHeadRun.head_any (r := OpenLaw.row PySem.Challenge.rw_backseen_k01_letters_words_and_looks) (q := view (OpenLaw.row PySem.Challenge.rw_backseen_k01_letters_words_and_looks).prog [37]) (H := B_k01_letters_words_and_looks.hk) (ob := B_k01_letters_words_and_looks.ob) (M := 8000) (loose := B_k01_letters_words_and_looks.loose) (d := HandSHeadRun.topDef (OpenLaw.row PySem.Challenge.rw_backseen_k01_letters_words_and_looks).prog 37) (kwd := []) B_k01_letters_words_and_looks.ob_eq
    (by kernel_rfl) (fun s => by kernel_rfl) B_k01_letters_words_and_looks.run (by kernel_rfl) (by kernel_rfl) (by kernel_rfl) (by rfl) (by first | assumption | decide +kernel) (by decide +kernel) ⟨rfl, rfl, rfl, rfl, rfl, by decide +kernel⟩ ?hw ?hc
  case hw => w_witness2
  case hc =>
    refine MX.walk_dataT (l := PySem.Challenge.rw_backseen_k01_letters_words_and_looks) (n := 63) (k := 9) (x := "script") rfl (by decide) (by kernel_rfl) ⟨rfl, by decide, by decide⟩ B_k01_letters_words_and_looks.law_true ?_
    intro w mg fa h Y G hmg0
    obtain ⟨K, KX, cc, ci⟩ := Y
    have c := cc.t.d
    have hmg : mg ("law" : PySem.Str) = some (.ref fa) := by
      have e : (HandSHeadRun.topDef (OpenLaw.row PySem.Challenge.rw_backseen_k01_letters_words_and_looks).prog 37).name = ("law" : PySem.Str) := by kernel_rfl
      rw [← e]
      exact hmg0
    obtain ⟨fd, FD⟩ := c.def_ 23 (d := B_k01_letters_words_and_looks.d_law) rfl
    have e := hmg.symm.trans (He.glo_ok KX G (c.fact 23 (f := .glo "law") rfl))
    cases e
    have EO : ∀ base : Heap, ∀ q ∈ B_k01_letters_words_and_looks.erL, MX.ErrOk PySem.Challenge.rw_backseen_k01_letters_words_and_looks.prog w K mg base q.1 q.2 := by
      intro base q hq
      simp only [B_k01_letters_words_and_looks.erL, List.mem_cons, List.not_mem_nil, or_false] at hq
      subst hq
      exact B_k01_letters_words_and_looks.eo_BadValue (B_k01_letters_words_and_looks.exB_all cc.more).2 (ci _ (show _ ∈ B_k01_letters_words_and_looks.erIn from List.mem_cons_self)) (He.glo_ok KX G (c.fact 25 (f := .glo "BadValue") rfl)) (He.free_ok KX G (c.fact 43 (f := .free "super") rfl))
    have b := L2.FunD.bindsA (ps := ["script"]) FD fun _ _ _ _ _ _ us hl => match us, hl with | [_], _ => rfl
    exact ⟨K, fd, KX, B_k01_letters_words_and_looks.exB_nd cc.more, cc.empty, cc.out, fun p hp => PySem.W.codeHd_of_K KX (cc.hd p hp), fun s v => b s [v] rfl, fun base _ _ tbs => B_k01_letters_words_and_looks.okf_law B_k01_letters_words_and_looks.FUEL KX G c tbs (B_k01_letters_words_and_looks.exB_er cc.more) (EO base) FD⟩

