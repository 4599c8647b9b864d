import PyProof.Rows.All
import Wide.All
import OpenK.AllK
import Wide.FinOn
import KE.KStateDown
import HandS.Head0
import HandS.Head1
import HandS.Head2
import HandS.Head3
import PySem.Challenge.RW_labelmoves_k21_moves_by_hand
import KE.RegKIsAll
import HandS.ForMost
import HandS.ForExc
import HandS.ExcInit
import HandS.Wide
import HandS.WideMore
import HandS.WideBits
import HandS.IsInst
import HandS.Defaults
import HandS.FStr
import HandS.Property
import HandS.ClsMeth
import HandS.OwnEq
import HandS.Flow
import HandS.Style
import HandS.Conv
import HandS.Evl
import HandS.Codes
import HandS.StrMore
import HandS.DeepEq
import HandS.TryMany
import HandS.CallLocal
import HandS.EndBits
import HandS.MakeKw
import HandS.NoneIn
import HandS.RaiseMore
import KE.GoesEnum
import KE.KEqDeep
import KE.KMathG
import HandS.Gcd
import HandS.Rev
import PyProof.ReprRoads
import PyProof.ReprText
import HandS.FStrTup
import PyProof.JoinWalk
import PyProof.Rows.StrJoin2
import HandS.RevTup
import HandS.MapJoin
import HandS.Zip
import HandS.Walk
import PyProof.StrBlock2
import KE.GoesNew
import KE.GoesMore
import OpenK.KOps
import KE.KCallOwn
import KE.KUnpackStar
import PyProof.InstNe
import HandS.TryOnly
import KE.KIntText
import KE.IntTextText
import PyProof.StrLawsTight
import PyProof.StrLawsChain
import PyProof.Rows.StrItems
import PyProof.LongRange
import PyProof.ListRange
import HandS.WrittenGet
import HandS.Star
set_option Elab.async false
set_option linter.all false
set_option maxRecDepth 100000
/-! an end's top, run by the kernel in three equations of their own -/
namespace LM
open PySem PySem.W PySem.Calls PyProof.Rows HandSHeadRun
/-- the whole run at a world -/
noncomputable def topW (p : Program) (M : Nat) (w : World) : Option (Shared × SharedT) := wholeF (fun p => stepQ (denQ tabQ) p w) fenceQ M p
theorem top3 {α β γ δ : Type} {o : Option α} {f : α → β} {g : α → γ} {h : α → δ} {b : β} {c : γ} {d : δ} (e1 : o.map f = some b) (e2 : o.map g = some c) (e3 : o.map h = some d) : o.map (fun x => (f x, g x, h x)) = some (b, c, d) := by
  cases o with
  | none => cases e1
  | some x =>
    have e1' : f x = b := Option.some.inj e1
    have e2' : g x = c := Option.some.inj e2
    have e3' : h x = d := Option.some.inj e3
    show some (f x, g x, h x) = _
    rw [e1', e2', e3']
/-- the three ends of a run -/
structure Top3 (r : OpenRow) (q : Program) (H : Hook) (M : Nat) (loose : List PySem.Str) (w : World) : Prop where
  looks : (topW r.prog M w).map (fun x => looksF r.prog x.1.heap x.2.abs) = some true
  seen : (topW r.prog M w).map (fun x => seenQ q loose (importedModules r.prog.main.body) (fun s => xlAt q [] s && recOk r.toRowW.records s) x.2.abs) = some (openGood q loose)
  obs : (topW r.prog M w).map (fun x => H.obs x.2.abs) = some (H.val w)
theorem obsK {K : Params → PySem.W.Frag} {as : List Addr} {e : ∀ P, as = (K P).map (·.1)} {w : World} {o : Option (Shared × SharedT)} (h : o.map (fun x => as.map (getT x.2)) = some ((K w.params).map fun p => some p.2)) :
    o.map (fun x => (PySem.W.kHook K as e).obs x.2.abs) = some ((PySem.W.kHook K as e).val w) := by
  have z : (fun x : Shared × SharedT => (PySem.W.kHook K as e).obs x.2.abs) = fun x => as.map (getT x.2) := funext fun x => by
    show as.map x.2.abs.heap.get? = _
    exact congrArg (fun f => as.map f) (funext fun a => (getT_eq x.2 a).symm)
  rw [z]
  exact h
theorem Top3.run {r : OpenRow} {q : Program} {H : Hook} {M : Nat} {loose : List PySem.Str} {w : World} (t : Top3 r q H M loose w) : RunEqI r q H (fun s => H.obs s.abs) M loose w := top3 t.looks t.seen t.obs
/-- what a row asks of its text, the law's def as d -/
structure RowSaid (r : OpenRow) (q : Program) (d : DefRec) : Prop where
  inView : defOf q r.name = some (d, [])
  inText : r.prog.theDef r.name = some (d.params, d.body, d.scope)
  noKw : kwWritten? d.params.kwonlyargs d.params.kw_defaults = some []
  noDf : d.params.defaults = []
  tame : (!r.writes || r.records.isEmpty) = true
  opens : (chainsOk q && opensWell r.prog && (frees r.toRowW && r.within.isEmpty)) = true
  bare : r.prog.bare
theorem head_top3 {r : OpenRow} {q : Program} {H : Hook} {M : Nat} {loose : List PySem.Str} {d : DefRec} (sd : RowSaid r q d) (run : ∀ w, Top3 r q H M loose w) (said : r.wellSaid = true) (wit : r.toRowW.promised)
    (walk : WalkO q loose (XL q []) H.says r.toRowW d [] fun f vs => PySem.call f vs) : r.Holds :=
  head_imp (ob := fun s => H.obs s.abs) (fun _ => rfl) (fun w => (run w).run) sd.inView sd.inText sd.noKw sd.tame said sd.opens sd.bare wit walk
/-- a world's row, both ways -/
theorem byRow {P : World → Prop} (row : String) (t : ∀ w : World, P (w.withFollow row true)) (f : ∀ w : World, P (w.withFollow row false)) (w : World) : P w := by
  have e := World.withFollow_self w row
  cases hb : w.params.followText row <;> rw [hb] at e
  · rw [← e]; exact f w
  · rw [← e]; exact t w
end LM

set_option Elab.async false
set_option linter.all false
set_option maxRecDepth 100000
set_option maxHeartbeats 0
/-! the run of the top -/
namespace LM.HX
open PySem PySem.Spec PySem.W PyProof.Rows HandSHeadRun
abbrev R : PySem.W.OpenRow := PySem.W.OpenLaw.row PySem.Challenge.rw_labelmoves_k21_moves_by_hand
def q : Program := PySem.W.view R.prog [0, 97]
def loose : List PySem.Str := (["_wall", "__name__", "WrongValue", "InvalidLabel", "InvalidText", "InvalidNumber", "InvalidWay", "InvalidStep", "InvalidBases", "InvalidRows", "InvalidHouses", "InvalidSteps", "NoAnswer", "TooLong", "is_integer", "is_integer_within", "is_number", "check_number", "is_way", "check_way", "word_of", "written_number", "has_figures_alone", "worth", "read_number", "is_label", "place_of", "label_at", "written_label", "MOST_BASES"] : List PySem.Str) ++ (["MOST_ROWS", "MOST_GROUPS", "MOST_HOUSES", "MOST_STEPS", "MOST_ROUND", "groups_in_unit", "groups_to_repeat", "fitted_groups", "skipped_counts", "least_repeat", "sums_ahead", "last_not_above", "LEAST_BASE", "GREATEST_BASE", "GREATEST_EVERY", "check_bases", "is_row", "check_rows", "spaced", "house_text", "numbers_behind", "House", "GREATEST_AMOUNT", "GREATEST_RATE", "FORMS", "has_form", "bounds", "is_part", "is_step", "house_behind"] : List PySem.Str) ++ (["check_steps", "read_part", "read_step", "FrameShift", "LabelShift", "UnitStart", "Rate", "places_in_round", "frames_in_places", "place_behind_frame_ahead", "leg_of", "legs_of", "led", "least_led_to", "least_through", "check_houses", "last_house", "move_text", "texts_of_houses", "Move", "_law_vase", "_law_pour", "_law_pluck", "_law_drop", "_law_known_right", "_law_long_right", "_law_right"] : List PySem.Str)
theorem looks_true (w : World) : (LM.topW R.prog 20000 (w.withFollow "special-get-raises" true)).map (fun x => looksF R.prog x.1.heap x.2.abs) = some true := by
  unfold LM.topW
  kernel_rfl
theorem looks_false (w : World) : (LM.topW R.prog 20000 (w.withFollow "special-get-raises" false)).map (fun x => looksF R.prog x.1.heap x.2.abs) = some true := by
  unfold LM.topW
  kernel_rfl
theorem looks (w : World) : (LM.topW R.prog 20000 w).map (fun x => looksF R.prog x.1.heap x.2.abs) = some true := LM.byRow (P := fun w => (LM.topW R.prog 20000 w).map (fun x => looksF R.prog x.1.heap x.2.abs) = some true) "special-get-raises" looks_true looks_false w
theorem seen_true (w : World) : (LM.topW R.prog 20000 (w.withFollow "special-get-raises" true)).map (fun x => seenQ q loose (importedModules R.prog.main.body) (fun s => xlAt q [] s && recOk R.toRowW.records s) x.2.abs) = some (openGood q loose) := by
  unfold LM.topW
  kernel_rfl
theorem seen_false (w : World) : (LM.topW R.prog 20000 (w.withFollow "special-get-raises" false)).map (fun x => seenQ q loose (importedModules R.prog.main.body) (fun s => xlAt q [] s && recOk R.toRowW.records s) x.2.abs) = some (openGood q loose) := by
  unfold LM.topW
  kernel_rfl
theorem seen (w : World) : (LM.topW R.prog 20000 w).map (fun x => seenQ q loose (importedModules R.prog.main.body) (fun s => xlAt q [] s && recOk R.toRowW.records s) x.2.abs) = some (openGood q loose) := LM.byRow (P := fun w => (LM.topW R.prog 20000 w).map (fun x => seenQ q loose (importedModules R.prog.main.body) (fun s => xlAt q [] s && recOk R.toRowW.records s) x.2.abs) = some (openGood q loose)) "special-get-raises" seen_true seen_false w
def dL : DefRec := topDef R.prog 97
abbrev dR : DefRec := ⟨("law" : PySem.Str), dL.params, dL.body, dL.scope, dL.pos⟩
theorem said : LM.RowSaid R q dR := ⟨by kernel_rfl, by kernel_rfl, by kernel_rfl, by kernel_rfl, by kernel_rfl, by kernel_rfl, ⟨by kernel_rfl, by kernel_rfl, by kernel_rfl, by kernel_rfl, by kernel_rfl, by decide +kernel⟩⟩
end LM.HX

set_option Elab.async false
set_option linter.all false
set_option maxRecDepth 100000
set_option maxHeartbeats 0
open PySem PySem.W PyProof.Rows
namespace LM.HX
noncomputable section
@[reducible] def HW (_ : Hook) : Prop := LM.HX.R.Holds
theorem HW.mk (H : Hook) (h : LM.HX.R.Holds) : HW H := h
section
set_option hygiene false in
local macro_rules | `(tactic| o_head $H) => `(tactic| exact HW.mk $H h)
def HP : {H : Hook // LM.HX.R.Holds → HW H} := by
  refine ⟨?a, fun h => ?b⟩
  case b => k_head
end
abbrev H : Hook := HP.1
theorem ob_true (w : World) : (LM.topW R.prog 20000 (w.withFollow "special-get-raises" true)).map (fun x => H.obs x.2.abs) = some (H.val (w.withFollow "special-get-raises" true)) := by
  refine LM.obsK (e := fun _ => by kernel_rfl) ?_
  unfold LM.topW
  kernel_rfl
theorem ob_false (w : World) : (LM.topW R.prog 20000 (w.withFollow "special-get-raises" false)).map (fun x => H.obs x.2.abs) = some (H.val (w.withFollow "special-get-raises" false)) := by
  refine LM.obsK (e := fun _ => by kernel_rfl) ?_
  unfold LM.topW
  kernel_rfl
theorem ob (w : World) : (LM.topW R.prog 20000 w).map (fun x => H.obs x.2.abs) = some (H.val w) := LM.byRow (P := fun w => (LM.topW R.prog 20000 w).map (fun x => H.obs x.2.abs) = some (H.val w)) "special-get-raises" ob_true ob_false w
end
end LM.HX

set_option Elab.async false
set_option linter.all false
set_option maxRecDepth 100000
set_option maxHeartbeats 4000000
namespace LM
open PySem PySem.Spec PyProof.Rows L2

/-- a def of the text that stands at its name and keeps its promise, nothing leaving it -/
structure DefK (P : Program) (w : World) (K : PySem.W.Frag) (mg : Str → Option Value) (base : Heap) (x : Str) (ps : List Str) (k : Nat) (sp : Sp) : Prop where
  all : ∃ (f : Addr) (fd : FuncData), FnOk P w K mg base CX0 k f fd ps sp ∧ mg x = some (.ref f) ∧ PySem.W.keepIn K (.ref f) = true ∧ Binds K fd ps []
theorem pe_d {X : Cx} {x : Str} {p pos : Pos} {e : Expr} {es : List Expr} {t : TA} {ps : List Str} {k : Nat} {sp : Sp} (D : DefK X.prog X.w X.K X.mg X.base x ps k sp) (hr : Room k X.A) (hg : Gl X x) (ha : PA X (e :: es) t)
    (hdb : (x == ("__debug__" : Str)) = false := by decide) (he : starEach (e :: es) X.env = (false, eval e X.env) :: starEach es X.env := by rfl) (hpl : (backTo pos (starEach es X.env)).any (·.1) = false := by rfl) :
    PE X (.Call (.Name x p) (e :: es) [] pos) (tCall sp [] E0 t) := by
  obtain ⟨f, fd, F, m, kp, b⟩ := D.all
  exact pe_call F hr hg m kp b .nil pass0 ha hdb he hpl
/-- a new thing leaves the rest as it was -/
theorem same_new {H : Hp} {p : Addr} {o : HO} (h : H p = none) : Same H (upd H p o) := fun b x e => by
  rw [upd_ne (ne_of_none e h)]
  exact e
theorem same_mut {H H' : Hp} {p : Addr} {o : HO} (s : Same H H') (h : H p = none) : Same H (upd H' p o) := fun b x e => by
  rw [upd_ne (ne_of_none e h)]
  exact s b x e
end LM
namespace LM
open PySem PySem.Spec PyProof.Rows L2
theorem ifD {p A B : Prop} [Decidable p] (h1 : p → A) (h2 : ¬ p → B) : if decide p = true then A else B := by
  by_cases h : p
  · rw [decide_eq_true h]
    exact iteT (h1 h)
  · rw [decide_eq_false h]
    exact iteF (h2 h)
theorem ifN {p A B : Prop} [Decidable p] (h1 : ¬ p → A) (h2 : p → B) : if (!decide p) = true then A else B := by
  by_cases h : p
  · rw [decide_eq_true h]
    exact iteF (h2 h)
  · rw [decide_eq_false h]
    exact iteT (h1 h)
theorem ifB {b : Bool} {A B : Prop} (h1 : b = true → A) (h2 : b = false → B) : if b = true then A else B := by
  cases b with
  | true => exact iteT (h1 rfl)
  | false => exact iteF (h2 rfl)
end LM
namespace LM
open PySem PySem.Spec PyProof.Rows L2
/-- both ways of a conditional expression hand on a value with P, the heap as it was -/
theorem if_join {p : Prop} [Decidable p] {ta tb : TE} {σ : L2.St} {H : Hp} {Q : VK} (P : V → Prop) (h1 : p → ∀ Q' : VK, (∀ v, P v → Q' v H) → ta σ H Q') (h2 : ¬ p → ∀ Q' : VK, (∀ v, P v → Q' v H) → tb σ H Q') (k : ∀ v, P v → Q v H) :
    if decide p = true then ta σ H Q else tb σ H Q := ifD (fun h => h1 h Q k) (fun h => h2 h Q k)
theorem Same.of_new {H H' : Hp} {p : Addr} {o : HO} (s : Same H H') (h : H' p = none) : Same H (upd H' p o) := s.trans (same_new h)
theorem nat_of {i : Int} (h : 0 ≤ i) : ∃ j : Nat, i = (j : Int) := ⟨i.toNat, by omega⟩
theorem map_get {ns : List Int} {j : Nat} (h : j < ns.length) : (ns.map V.int)[j]? = some (V.int ns[j]) := by
  rw [List.getElem?_map, List.getElem?_eq_getElem h]
  rfl
/-- the vase stands at p, the rest is as it was -/
def Else (p : Addr) (H H' : Hp) : Prop := ∀ b o, b ≠ p → H b = some o → H' b = some o
theorem Else.refl (p : Addr) (H : Hp) : Else p H H := fun _ _ _ h => h
theorem Else.trans {p : Addr} {H H1 H2 : Hp} (a : Else p H H1) (b : Else p H1 H2) : Else p H H2 := fun c o n h => b c o n (a c o n h)
theorem Same.els {p : Addr} {H H' : Hp} (s : Same H H') : Else p H H' := fun c o _ h => s c o h
theorem Else.seq {K : PySem.W.Frag} {p : Addr} {H H' : Hp} {a : Addr} {xs : List V} (e : Else p H H') (n : a ≠ p) (h : SqL K H a xs) : SqL K H' a xs := by
  rcases h with (h | ⟨o, h⟩) | h
  · exact .inl (.inl (e _ _ n h))
  · exact .inl (.inr ⟨o, e _ _ n h⟩)
  · exact .inr h
theorem Same.seqT {K : PySem.W.Frag} {H H' : Hp} {a : Addr} {xs : List V} (e : Same H H') (h : SqT K H a xs) : SqT K H' a xs := by
  rcases h with (h | ⟨o, h⟩) | h
  · exact .inl (.inl (e _ _ h))
  · exact .inl (.inr ⟨o, e _ _ h⟩)
  · exact .inr h
theorem divW {n : Int} (h0 : 0 < n) (h1 : n < 2 ^ 220) (i : Int) : CDivP i n := by
  refine ⟨h0, ?_⟩
  have hl : n.natAbs.log2 < 220 := (Nat.log2_lt (by omega)).mpr (by
    have : ((2 : Int) ^ 220) = ((2 ^ 220 : Nat) : Int) := by decide
    omega)
  unfold Builtin.divisionGoesByPylong
  simp only [Bool.and_eq_false_imp, decide_eq_true_eq]
  intro h
  exfalso
  split at h <;> omega
end LM
namespace LM
open PySem PySem.Spec PyProof.Rows L2
theorem cut_to (xs : List V) (n : Nat) : cutV xs none (some (n : Int)) = xs.take n := by
  unfold cutV
  rw [HT.sIx_none, HT.sIx_nat, List.drop_zero, Nat.sub_zero]
  by_cases h : n ≤ xs.length
  · rw [Nat.min_eq_left h]
  · rw [Nat.min_eq_right (by omega), List.take_of_length_le (Nat.le_refl _), List.take_of_length_le (by omega)]
theorem cut_from (xs : List V) (n : Nat) : cutV xs (some (n : Int)) none = xs.drop n := by
  unfold cutV
  rw [HT.sIx_none, HT.sIx_nat]
  by_cases h : n ≤ xs.length
  · rw [Nat.min_eq_left h, List.take_of_length_le (by rw [List.length_drop]; exact Nat.le_refl _)]
  · rw [Nat.min_eq_right (by omega), List.drop_eq_nil_of_le (Nat.le_refl _), List.drop_eq_nil_of_le (by omega), List.take_nil]
theorem sIx_last (n d : Nat) : HT.sIx n d (some (-1)) = n - 1 := by
  show (if (-1 : Int) < 0 then (-1 + (n : Int)).toNat else min (-1 : Int).toNat n) = n - 1
  rw [if_pos (by decide)]
  omega
theorem cut_but (xs : List V) : cutV xs none (some (-1)) = xs.dropLast := by
  unfold cutV
  rw [HT.sIx_none, sIx_last, List.drop_zero, Nat.sub_zero, List.dropLast_eq_take]
theorem cut_fb (xs : List V) (n : Nat) (h : n + 1 ≤ xs.length) : cutV xs (some (n : Int)) (some (-1)) = xs.dropLast.drop n := by
  unfold cutV
  rw [HT.sIx_nat, sIx_last, Nat.min_eq_left (by omega), List.dropLast_eq_take, List.drop_take]
theorem cut_ft (xs : List V) (a b : Nat) (hb : b ≤ xs.length) (hab : a ≤ b) : cutV xs (some (a : Int)) (some (b : Int)) = (xs.drop a).take (b - a) := by
  unfold cutV
  rw [HT.sIx_nat, HT.sIx_nat, Nat.min_eq_left hb, Nat.min_eq_left (by omega)]
/-- a new list, what is known of it -/
theorem lst_new {H : Hp} {xs : List V} {Q : V → Hp → Prop} (h : ∀ p H', H p = none → Same H H' → H' p = some (.lst xs) → Q (.ref p) H') : ∀ p, H p = none → Q (.ref p) (upd H p (.lst xs)) := fun p n => h p _ n (same_new n) upd_same
theorem tup_new {H : Hp} {xs : List V} {Q : V → Hp → Prop} (h : ∀ p H', H p = none → Same H H' → H' p = some (.tup xs) → Q (.ref p) H') : ∀ p, H p = none → Q (.ref p) (upd H p (.tup xs)) := fun p n => h p _ n (same_new n) upd_same
theorem small {n : Nat} (h : n ≤ 1000000) : n ≤ sizeLine := Nat.le_trans h (by decide)
theorem smallLt {n : Nat} (h : n ≤ 1000000) : n < sizeLine := Nat.lt_of_le_of_lt h (by decide)
theorem SqL.lst {K : PySem.W.Frag} {H : Hp} {a : Addr} {xs : List V} (h : H a = some (.lst xs)) : SqL K H a xs := .inl (.inl h)
theorem SqT.tup {K : PySem.W.Frag} {H : Hp} {a : Addr} {xs : List V} (h : H a = some (.tup xs)) : SqT K H a xs := .inl (.inl h)
end LM
namespace LM
theorem idP {p : Prop} (h : p) : p := h
end LM
namespace LM
open PySem PySem.Spec PyProof.Rows L2
theorem pe_const {X : Cx} {x : Str} {pos : Pos} {i : Int} (hg : Gl X x) (h : ∃ t, X.mg x = some (.int i t)) (hdb : (x == ("__debug__" : Str)) = false := by decide) : PE X (.Name x pos) (tC (.int i)) := by
  obtain ⟨t, e⟩ := h
  exact pe_glob hg e ⟨t, rfl⟩ hdb
theorem pe_ty {X : Cx} {x : Str} {pos : Pos} (T : String) (hg : Gl X x) (hm : X.mg x = none) (hv : bootBuiltins x = some (.type T)) (hn : x ≠ "__name__" := by decide) (hdb : (x == ("__debug__" : Str)) = false := by decide) : PE X (.Name x pos) (tC (.ty T)) :=
  pe_bltn hg hm hv rfl hn hdb
end LM

set_option Elab.async false
set_option linter.all false
set_option maxRecDepth 100000
set_option maxHeartbeats 4000000
namespace LM
open PySem PySem.Spec PyProof.Rows L2

/-! ### any(xs) of a list of ints -/
theorem nz_range : ∀ ks : List Int, (List.range ks.length).any (fun j => decide (ks.getD j 0 ≠ 0)) = ks.any (fun k => decide (k ≠ 0))
  | [] => rfl
  | k :: ks => by
    rw [List.length_cons, List.range_succ_eq_map, List.any_cons, List.any_map, List.any_cons, ← nz_range ks]
    all_goals rfl
theorem truth_nums {prog : Program} {w : World} {A : Around} {ks : List Int} {vs : List Value} (e : Vals (ks.map V.int) vs) :
    TruthOf prog w A (fun j v => vs.toArray[j]? = some v) (fun j => decide (ks.getD j 0 ≠ 0)) := fun j v s Q E hv hq => by
  have hv' : vs[j]? = some v := by simpa using hv
  have hl : (ks.map V.int).length = vs.length := e.length
  have hj : j < ks.length := by
    have := (List.getElem?_eq_some_iff.mp hv').1
    rw [← hl, List.length_map] at this
    exact this
  have hk : (ks.map V.int)[j]? = some (V.int ks[j]) := by rw [List.getElem?_map, List.getElem?_eq_getElem hj]; rfl
  obtain ⟨u, hu, ru⟩ := e.get hk
  rw [hv'] at hu
  cases hu
  obtain ⟨t, rfl⟩ := ru
  have hg : ks.getD j 0 = ks[j] := by rw [List.getD_eq_getElem?_getD, List.getElem?_eq_getElem hj]; rfl
  have hq' : Q (decide (ks.getD j 0 ≠ 0)) s := hq
  rw [hg] at hq'
  have eb : decide (ks[j] ≠ 0) = (ks[j] != 0) := by
    by_cases z : ks[j] = 0
    · rw [z]; rfl
    · rw [decide_eq_true z]; exact (bne_iff_ne.mpr z).symm
  rw [eb] at hq'
  first | exact PyProof.Rows.truthy_int hq' | exact PySem.P.truthy_int hq'
def rAnyI (K : PySem.W.Frag) : List V → Hp → VK → Prop := fun vs H Q => ∃ (a : Addr) (ks : List Int), vs = [V.ref a] ∧ SqL K H a (ks.map V.int) ∧ Q (.bl (ks.any fun k => decide (k ≠ 0))) H
theorem cr_anyI {X : Cx} (hc : X.calm = true) : CallR X (.builtin "any") (rAnyI X.K) := by
  intro pins s σ H vs us Q I r h
  obtain ⟨a, ks, rfl, hs, q⟩ := h
  obtain ⟨its, rv, hl, _⟩ := I.list hs
  rw [Vals.ref1 r]
  have hlen : (ks.map V.int).length = its.length := rv.length
  refine call_any_walk (iter_any hl.isList fun s2 e2 st hne => ?_)
  subst e2
  refine ⟨_, _, _, _, _, _, _, rfl, Walks.list (A := X.A.in1) (I.ok.hd hc) _ a hne its.toArray, st, truth_nums rv, fun h' tk hk => ?_⟩
  refine ⟨.bl _, H, I.kept fun b o eo => hk b o (fun hm => ?_) (Heap.get?_push_of_some _ eo), ?_, q⟩
  · rcases List.mem_cons.mp hm with z | hm
    · exact absurd (z ▸ Heap.lt_size eo) (Nat.lt_irrefl _)
    · cases hm
  · show Value.bool _ = Value.bool _
    rw [← nz_range, List.size_toArray, ← hlen, List.length_map]

/-! ### math.lcm -/
def rLcm : List V → Hp → VK → Prop := fun vs H Q => ∃ a b : Int, vs = [.int a, .int b] ∧ a.natAbs < 2 ^ 30 ∧ b.natAbs < 2 ^ 30 ∧ Q (.int ((Nat.lcm a.natAbs b.natAbs : Nat) : Int)) H
theorem lcm_small {a b : Nat} (ha : a < 2 ^ 30) (hb : b < 2 ^ 30) : (Nat.lcm a b).log2 < 60 := by
  have h1 : Nat.lcm a b ≤ a * b := by
    rcases Nat.eq_zero_or_pos (a * b) with z | z
    · have e : Nat.lcm a b = 0 := by
        unfold Nat.lcm
        rw [z, Nat.zero_div]
      omega
    · exact Nat.le_of_dvd z (Nat.lcm_dvd (Nat.dvd_mul_right a b) (Nat.dvd_mul_left b a))
  have h2 : a * b < 2 ^ 30 * 2 ^ 30 := Nat.lt_of_le_of_lt (Nat.mul_le_mul_right b (Nat.le_of_lt ha)) (Nat.mul_lt_mul_of_pos_left hb (by decide))
  have h3 : Nat.lcm a b < 2 ^ 60 := by
    have : (2 : Nat) ^ 30 * 2 ^ 30 = 2 ^ 60 := by decide
    omega
  rcases Nat.eq_zero_or_pos (Nat.lcm a b) with z | z
  · rw [z]; decide
  · exact (Nat.log2_lt (by omega)).mpr h3
theorem cr_lcm {X : Cx} : CallR X (.builtin "math.lcm") rLcm := by
  intro pins s σ H vs us Q I r h
  obtain ⟨a, b, rfl, ha, hb, q⟩ := h
  obtain ⟨t, u, rfl⟩ := Vals.int2 r
  have e1 : (Nat.lcm 1 a.natAbs) = a.natAbs := Nat.lcm_one_left _
  have hs : (((((Nat.lcm 1 a.natAbs).lcm b.natAbs : Nat) : Int)).natAbs).log2 < bitsLine := by
    rw [e1, Int.natAbs_natCast]
    exact Nat.lt_trans (lcm_small ha hb) (by decide)
  refine PySem.W.mg_lcm (Nat.lt_trans ha (by decide)) (Nat.lt_trans hb (by decide)) hs ?_
  rw [e1]
  exact ⟨.int _, H, I.tok _, ⟨_, rfl⟩, q⟩

/-! ### a *= b -/
theorem ip_mul {X : Cx} : PIp X .Mult (rI CMul fun i j => .int (i * j)) := fun pins s σ H x y v u Q I rx ry h => iop_mul pins s σ H x y v u Q I rx ry h

/-! ### enumerate(t), t a tuple -/
theorem enumT_new {v : Value} {o : Obj} {J : Heap → Prop} (B : Begins v o J) :
    Meets (Builtin.«enumerate.__new__» ⟨[.type "enumerate", v], []⟩) (fun _ R s => J s.heap ∧
      R (.ok (.ret (.ref (s.heap.push o).objs.size))) { s with heap := (s.heap.push o).push { cls := .type "enumerate", data := .fields #[.none, .bool false, .ref s.heap.objs.size, rawInt 0, .none, .none] } }) :=
  .of_wp fun prog w A R s h => by
    obtain ⟨hp, gs, dr, tk, os⟩ := s
    obtain ⟨hj, hr⟩ := h
    have hsub := sub_enumerate
    have go : ∀ {A' : Around} {E Q : Value → Shared → Prop}, Q (.ref hp.objs.size) ⟨hp.push o, gs, dr, tk, os⟩ → wpAny (model prog w) A' (pyIter v) Q E ⟨hp, gs, dr, tk, os⟩ :=
      fun q => B.iter prog w _ _ ⟨hp, gs, dr, tk, os⟩ _ hj q
    wp_walk using go
    refine wpAny_stack_any fun st => wpAny_pure ?_
    split
    · rename_i c _ _ _ _ _
      cases (c == Value.type "enumerate") <;> (wp_walk using go; exact ⟨_, rfl, hr⟩)
    · wp_walk using go
      exact ⟨_, rfl, hr⟩
theorem enumT_call {prog : Program} {w : World} {A : Around} {E : Value → Shared → Prop} {s : Shared} {v : Value} {o : Obj} {J : Heap → Prop} {Q : Value → Shared → Prop} (B : Begins v o J) (hj : J s.heap)
    (h : ∀ h', IsEnum h' (s.heap.objs.size + 1) s.heap.objs.size 0 .none → h'.get? s.heap.objs.size = some o → (∀ b u, s.heap.get? b = some u → h'.get? b = some u) → Q (.ref (s.heap.objs.size + 1)) { s with heap := h' }) :
    wpAny (model prog w) A (call (.type "enumerate") [v]) Q E s := by
  refine callType_new F.called_enumerate (by decide) (F.typeCall_enumerate_1 _) (F.newCall_enumerate_1 _) (fun obj => F.args_object_init_2 obj _) F.entry_enumerate_new (enumT_new B) ⟨hj, ?_⟩
  have z : (s.heap.push o).objs.size = s.heap.objs.size + 1 := Heap.size_push ..
  show _ ∧ _
  rw [z]
  have he : IsEnum ((s.heap.push o).push { cls := .type "enumerate", data := .fields #[.none, .bool false, .ref s.heap.objs.size, rawInt 0, .none, .none] }) (s.heap.objs.size + 1) s.heap.objs.size 0 .none := by
    have y := Heap.get?_push_size (s.heap.push o) (o := { cls := .type "enumerate", data := .fields #[.none, .bool false, .ref s.heap.objs.size, rawInt 0, .none, .none] }) rfl
    rw [z] at y
    exact y
  exact ⟨⟨_, he, rfl⟩, h _ he (Heap.get?_push_of_some _ (Heap.get?_push_size _ B.free)) fun b u x => Heap.get?_push_of_some _ (Heap.get?_push_of_some _ x)⟩
/-- the tuple at a, each item in a new pair with its index -/
def IteT (K : PySem.W.Frag) (a : Addr) : It :=
  ⟨fun i H => ∃ (xs : List V) (x : V), SqT K H a xs ∧ xs[i]? = some x,
   fun i H v H' => ∃ T x, v = .ref T ∧ H T = none ∧ H' = upd H T (.tup [.int (i : Nat), x]) ∧ ∀ xs, SqT K H a xs → xs[i]? = some x,
   fun i H => ∃ xs : List V, SqT K H a xs ∧ xs.length ≤ i⟩
theorem turn_enumT {P : Program} {w : World} {K : PySem.W.Frag} {elts : List Expr} {kk : Nat} {tpos : Pos} (a e it : Addr) (hai : a ≠ it) (hae : a ≠ e) :
    Turn P w K (.Tuple elts kk tpos) (IteT K a) [e, it] e (fun i h => (∃ old, IsEnum h e it ((i : Nat) : Int) old) ∧ h.IsTupleIter it a i ∧ e ≠ it) where
  mem := by simp
  obj := fun i h st b hb => by
    obtain ⟨⟨old, he⟩, ⟨o, ho, hc, hd⟩, _⟩ := st
    rcases (show b = e ∨ b = it by simpa using hb) with z | z
    · rw [z]
      exact ⟨_, he, fun v q => nomatch q⟩
    · rw [z]
      exact ⟨o, ho, fun v q => by rw [hd] at q; cases q⟩
  keep := fun i h h' st k => by
    obtain ⟨⟨old, he⟩, hi, hne⟩ := st
    exact ⟨⟨old, k e (by simp) _ he⟩, hi.at fun o q => k it (by simp) o q, hne⟩
  item := by
    intro X hP hw hK hc i pins s σ H E I hf st hg
    subst hP hw hK
    obtain ⟨⟨old, he⟩, hit, hne⟩ := st
    obtain ⟨xs, x, hq, hx⟩ := hg
    obtain ⟨its, rv, p, hz⟩ := I.tuple hq
    obtain ⟨u, hu, ru⟩ := rv.get hx
    have hel : e < s.heap.objs.size := Heap.lt_size he
    have hil : it < s.heap.objs.size := by obtain ⟨_, q, _⟩ := hit; exact Heap.lt_size q
    have D := Draws.tuple (prog := X.prog) (w := X.w) (A := X.A.in1) (I.ok.hd hc) it a hai its.toArray
    have hlt : i < its.toArray.size := by
      have := (List.getElem?_eq_some_iff.mp hu).1
      simpa using this
    refine wpAny_pyNext_enum_itemD D he ⟨hit, show s.heap.IsTuple a its.toArray from p⟩ hlt hne (fun hm => ?_) fun y h' tk hy ho hst hT hsz hk => ?_
    · rcases (show e = it ∨ e = a by simpa using hm) with z | z
      · exact hne z
      · exact hae z.symm
    have ey : y = u := by
      have h1 : its.toArray[i]? = some y := hy
      have h2 : its[i]? = some y := by simpa using h1
      exact Option.some.inj (h2.symm.trans hu)
    subst ey
    refine ⟨_, rfl, wpAny_letOwnedTupleGo_enum (s := { s with heap := h', toks := tk + 1 }) ho fun h2 he2 sb => ?_⟩
    have hT2 : h2.get? s.heap.objs.size = some { cls := .type "tuple", data := .seq #[.int i tk, y] } := (sb.2 _ (Nat.ne_of_gt hel)).trans hT
    have new : ObjOk X.prog X.w (upd H s.heap.objs.size (.tup [.int (i : Nat), x])) h2 s.heap.objs.size (.tup [.int (i : Nat), x]) :=
      ⟨by show 2 ≤ sizeLine; decide, [.int i tk, y], .cons ⟨_, rfl⟩ (.cons ru .nil), ⟨_, hT2, rfl, _, rfl⟩⟩
    have J : Inv X pins σ (upd H s.heap.objs.size (.tup [.int (i : Nat), x])) { s with heap := h2, toks := tk + 1 } :=
      I.turnedNew (ch := [e, it]) (fun b ob hb q => (sb.2 b (fun z => hb (by simp [z]))).trans (hk b ob (fun z => hb (by simp [z])) (fun z => hb (by simp [z])) q)) hf (Nat.le_refl _) new
    refine ⟨.ref s.heap.objs.size, _, J, rfl, ⟨_, x, rfl, I.hok.fresh (Nat.le_refl _), rfl, fun ys hys => by rw [I.tuple_inj hys hq]; exact hx⟩, ⟨⟨y, ?_⟩, hst.1.at fun o q => (sb.2 it (Ne.symm hne)).trans q, hne⟩, fun b hb => ?_⟩
    · have e1 : ((i + 1 : Nat) : Int) = (i : Int) + 1 := by omega
      rw [e1]
      exact he2
    · have hb' : b < s.heap.objs.size := by
        rcases (show b = e ∨ b = it by simpa using hb) with z | z
        · rw [z]; exact hel
        · rw [z]; exact hil
      rw [upd_ne (Nat.ne_of_lt hb')]
      exact (hf b hb).1
  done := by
    intro X hP hw hK hc i pins s σ H E I hf st hg
    subst hP hw hK
    obtain ⟨⟨old, he⟩, hit, hne⟩ := st
    obtain ⟨xs, hq, hx⟩ := hg
    obtain ⟨its, rv, p, hz⟩ := I.tuple hq
    obtain ⟨f0, f1, f2, f3, f4, f5⟩ := hf it (by simp)
    have hl := rv.length
    have D := Draws.tuple (prog := X.prog) (w := X.w) (A := X.A.in1) (I.ok.hd hc) it a hai its.toArray
    have hT : s.TypeIs (.ref e) "enumerate" := ⟨_, he, rfl⟩
    unfold pyNext
    refine wpAny_bind (wpAny_attempt (wpAny_callSpecial?_slot (name := Str.ofString "__next__") hT F.slot_enumerate_next
      (wpAny_call_entry F.slot_enumerate_next hT F.entry_enumerate_next ?_ (F.args_enumerate_next_1 _))))
    show wpAny _ _ (field (.ref e) 2 >>= _) _ _ _
    refine wpAny_bind (wpAny_field he rfl (x := .ref it) rfl ?_)
    refine wpAny_bind (wpAny_nextOf_tuple_end (I.ok.hd hc) hit (show s.heap.IsTuple a its.toArray from p) (by simp; omega) fun h' y hy hy' => ?_)
    obtain ⟨o, ho, hcl⟩ := hy'
    refine wpAny_bind (wpAny_isInstance (T := "StopIteration") (b := true) ⟨o, ho, hcl⟩ isSubtype_stop ?_)
    exact wpAny_pure ⟨rfl, I.turned (t' := s.toks) (fun b o hb q => hy b o hb q) f0 f1 f3 f4 f5⟩
  self := fun A i s Q E st h => by
    obtain ⟨⟨_, he⟩, _⟩ := st
    exact wpAny_pyIter_enum he h
def iEnumT (K : PySem.W.Frag) (ta : TA) : TI := fun σ H R => ta σ H fun vs H1 => ∃ a xs, vs = [.ref a] ∧ SqT K H1 a xs ∧ R (IteT K a) H1
theorem pi_enumT {X : Cx} {e : Expr} {ta : TA} {p pos tpos : Pos} {elts : List Expr} {kk : Nat} (hg : Gl X "enumerate") (hm : X.mg "enumerate" = none) (ha : PA X [e] ta) (hs : starEach [e] X.env = [(false, eval e X.env)] := by rfl) :
    PI X (.Tuple elts kk tpos) (.Call (.Name "enumerate" p) [e] [] pos) (iEnumT X.K ta) := by
  refine ⟨fun pins s σ H R I h => ?_⟩
  refine Call_ (ld_blt I hg hm boot_enumerate (PyProof.Rows.callWith_type1 (thn (ha.run pos pins s σ H _ I h) fun us s1 ⟨vs, H1, I1, r1, q1⟩ => ?_) hs rfl))
  obtain ⟨a, xs, ex, hq, q⟩ := q1
  subst ex
  rw [Vals.ref1 r1]
  obtain ⟨its, rv, tp, hz⟩ := I1.tuple hq
  have hla : a < s1.heap.objs.size := by obtain ⟨o, ho, _⟩ := tp; exact Heap.lt_size ho
  refine enumT_call (begins_tuple a its.toArray) (show s1.heap.IsTuple a its.toArray from tp) fun h' he hit hk => wpAny_pyIter_enum he ?_
  have I2 : Inv X pins σ H1 { s1 with heap := h' } := I1.kept (t' := s1.toks) hk
  refine ⟨s1.heap.objs.size + 1, [s1.heap.objs.size + 1, s1.heap.objs.size], _, _, H1, rfl, I2, turn_enumT a (s1.heap.objs.size + 1) s1.heap.objs.size (Nat.ne_of_lt hla) (Nat.ne_of_lt (Nat.lt_succ_of_lt hla)), ⟨⟨.none, he⟩, ⟨_, hit, rfl, rfl⟩, Nat.succ_ne_self _⟩, fun b hb => ?_, q⟩
  have hle : s1.heap.objs.size ≤ b := by
    rcases (show b = s1.heap.objs.size + 1 ∨ b = s1.heap.objs.size by simpa using hb) with z | z
    · rw [z]; exact Nat.le_add_right _ _
    · rw [z]; exact Nat.le_refl _
  exact I1.fpOk hle (I1.hok.fresh hle)
theorem for_enumT {K : PySem.W.Frag} {a : Addr} {xs : List V} {g : TG} {tb : TS} {D : Ends} {σ : L2.St} {H : Hp} (Pv : Nat → L2.St → Hp → Prop) (h0 : Pv 0 σ H) (hl : ∀ i σ H, i ≤ xs.length → Pv i σ H → SqT K H a xs)
    (hs : ∀ i x T σ H, xs[i]? = some x → H T = none → Pv i σ H → g (.ref T) σ (upd H T (.tup [.int (i : Nat), x])) fun σ2 H2 => tb { D with nx := Pv (i + 1), ct := Pv (i + 1), bk := D.nx } σ2 H2) (hd : ∀ σ H, Pv xs.length σ H → D.nx σ H) :
    ∃ W : Nat → Nat → L2.St → Hp → Prop, (∃ m, W 0 m σ H) ∧ ∀ i m σ H, W i m σ H →
      ((IteT K a).stop i H ∧ D.nx σ H) ∨ ((IteT K a).go i H ∧ ∃ N : L2.St → Hp → Prop, (∀ σ' H', N σ' H' → ∃ m', m' < m ∧ W (i + 1) m' σ' H') ∧ ∀ x H', (IteT K a).yld i H x H' → g x σ H' fun σ2 H2 => tb { D with nx := N, ct := N, bk := D.nx } σ2 H2) := by
  refine ⟨fun i m σ H => m = xs.length - i ∧ i ≤ xs.length ∧ Pv i σ H, ⟨xs.length, by simp, Nat.zero_le _, h0⟩, ?_⟩
  rintro i m σ H ⟨rfl, hi, p⟩
  have q := hl i σ H hi p
  by_cases hlt : i < xs.length
  · refine .inr ⟨⟨xs, xs[i], q, by simp [hlt]⟩, Pv (i + 1), fun σ' H' p' => ⟨xs.length - (i + 1), by omega, rfl, hlt, p'⟩, fun v H' y => ?_⟩
    obtain ⟨T, x, rfl, nT, rfl, f⟩ := y
    exact hs i x T σ H (f xs q) nT p
  · have e : i = xs.length := by omega
    subst e
    exact .inl ⟨⟨xs, q, Nat.le_refl _⟩, hd σ H p⟩
end LM
namespace LM
open PySem PySem.Spec PyProof.Rows L2
theorem hu64 {k : Nat} {A : Around} (hr : Room k A) : A.units + 64 < cLine := by
  have := hr.units
  omega
theorem dp_ints {K : PySem.W.Frag} {H : Hp} : ∀ ns : List Int, DpAll K H (ns.map V.int) (ns.map PyData.int)
  | [] => .nil
  | n :: ns => .cons (.int n) (dp_ints ns)
theorem lay_ints : ∀ ns : List Int, PyData.canLayAll0 (ns.map PyData.int) = true
  | [] => by simp [PyData.canLayAll0]
  | n :: ns => by simp [PyData.canLayAll0, PyData.canLay0, lay_ints ns]
theorem dep_ints : ∀ ns : List Int, PyData.depthAll (ns.map PyData.int) = 0
  | [] => by simp [PyData.depthAll]
  | n :: ns => by simp [PyData.depthAll, PyData.depth, dep_ints ns]
theorem shaped_ints (ns : List Int) : SeqAt.shaped (.list (ns.map PyData.int)) = true := by
  unfold SeqAt.shaped
  rw [PyData.canLay0, lay_ints, PyData.depth, dep_ints]
  rfl
theorem shaped_intsT (ns : List Int) : SeqAt.shaped (.tuple (ns.map PyData.int)) = true := by
  unfold SeqAt.shaped
  rw [PyData.canLay0, lay_ints, PyData.depth, dep_ints]
  rfl
/-- two lists of ints, two tuples of ints compared -/
def rEqIs (K : PySem.W.Frag) : R2 := fun x y H Q => ∃ (a b : Addr) (ns ms : List Int), x = .ref a ∧ y = .ref b ∧ ((SqL K H a (ns.map V.int) ∧ SqL K H b (ms.map V.int)) ∨ (SqT K H a (ns.map V.int) ∧ SqT K H b (ms.map V.int))) ∧ Q (.bl (decide (ns = ms))) H
theorem op_eqIs {X : Cx} (hu : X.A.units + 64 < cLine) : OpR X (compareOp .Eq) (rEqIs X.K) := by
  intro pins s σ H x y v u Q I rx ry h
  obtain ⟨a, b, ns, ms, rfl, rfl, h1, q⟩ := h
  rcases h1 with ⟨h1, h2⟩ | ⟨h1, h2⟩
  · refine op_eqD hu pins s σ H _ _ v u Q I rx ry ⟨.list (ns.map .int), .list (ms.map .int), .lst h1 (dp_ints ns), .lst h2 (dp_ints ms), shaped_ints ns, shaped_ints ms, ?_⟩
    rw [PyData.eqv, PySem.W.ked_eqvAll]
    exact q
  · refine op_eqD hu pins s σ H _ _ v u Q I rx ry ⟨.tuple (ns.map .int), .tuple (ms.map .int), .tup h1 (dp_ints ns), .tup h2 (dp_ints ms), shaped_intsT ns, shaped_intsT ms, ?_⟩
    rw [PyData.eqv, PySem.W.ked_eqvAll]
    exact q
def rNeIs (K : PySem.W.Frag) : R2 := fun x y H Q => ∃ (a b : Addr) (ns ms : List Int), x = .ref a ∧ y = .ref b ∧ ((SqL K H a (ns.map V.int) ∧ SqL K H b (ms.map V.int)) ∨ (SqT K H a (ns.map V.int) ∧ SqT K H b (ms.map V.int))) ∧ Q (.bl (!decide (ns = ms))) H
theorem op_neIs {X : Cx} (hu : X.A.units + 64 < cLine) : OpR X (compareOp .NotEq) (rNeIs X.K) := by
  intro pins s σ H x y v u Q I rx ry h
  obtain ⟨a, b, ns, ms, rfl, rfl, h1, q⟩ := h
  rcases h1 with ⟨h1, h2⟩ | ⟨h1, h2⟩
  · refine op_neD hu pins s σ H _ _ v u Q I rx ry ⟨.list (ns.map .int), .list (ms.map .int), .lst h1 (dp_ints ns), .lst h2 (dp_ints ms), shaped_ints ns, shaped_ints ms, ?_⟩
    rw [PyData.eqv, PySem.W.ked_eqvAll]
    exact q
  · refine op_neD hu pins s σ H _ _ v u Q I rx ry ⟨.tuple (ns.map .int), .tuple (ms.map .int), .tup h1 (dp_ints ns), .tup h2 (dp_ints ms), shaped_intsT ns, shaped_intsT ms, ?_⟩
    rw [PyData.eqv, PySem.W.ked_eqvAll]
    exact q
end LM

set_option Elab.async false
set_option linter.all false
set_option maxRecDepth 100000
set_option maxHeartbeats 4000000
namespace LM
open PySem PySem.Spec PyProof.Rows L2
local macro_rules | `(tactic| walk_at "hp") => `(tactic| first | assumption | exact upd_same | (rw [upd_ne (by assumption)]; assumption) | (rw [upd_ne (Ne.symm (by assumption))]; assumption) | (rw [upd_ne (by assumption)]; exact upd_same) | (rw [upd_ne (Ne.symm (by assumption))]; exact upd_same))
local macro_rules | `(tactic| walk_at "sq") => `(tactic| first | assumption | exact Or.inl (Or.inl (by assumption)) | exact Or.inl (Or.inl upd_same) | exact Or.inl (Or.inl (by walk_at "hp")))
local macro_rules | `(tactic| walk_at "ixl") => `(tactic| refine ⟨_, _, _, _, rfl, rfl, (by walk_at "sq"), (by rfl), ?_⟩)
local macro_rules | `(tactic| walk_at "setl") => `(tactic| refine ⟨_, _, _, _, rfl, rfl, (by walk_at "hp"), (by rfl), ?_⟩)
local macro_rules | `(tactic| walk_at "side") => `(tactic| refine idP ?_; first | omega | (show (0 : Int) < _; omega) | (show (0 : Int) < _ ∧ _ < _; omega) | (refine Or.inr ?_; show (-(2 ^ 64) : Int) < _ ∧ _ < _; omega) | (refine Or.inl ?_; show (-(2 ^ 64) : Int) < _ ∧ _ < _; omega) | exact divW (by omega) (by omega) _ | (refine ⟨by decide, by decide, ?_⟩; decide))
local macro_rules | `(tactic| walk_at "go1") => `(tactic| first
  | refine ⟨_, rfl, ?_⟩
  | refine ⟨_, _, rfl, rfl, (by walk_at "side"), ?_⟩
  | refine ⟨_, _, rfl, (by walk_at "side"), ?_⟩
  | refine ⟨_, _, rfl, rfl, ?_⟩
  | refine Or.inl ⟨_, rfl, ?_⟩
  | refine ⟨_, _, rfl, Or.inl (by walk_at "sq"), ?_⟩
  | walk_at "ixl"
  | walk_at "setl"
  | refine ⟨_, _, rfl, (by walk_at "sq"), rfl, ?_⟩
  | refine ⟨_, _, rfl, (by walk_at "sq"), ?_⟩
  | refine ⟨_, _, rfl, ?_⟩
  | refine ⟨rfl, ?_⟩
  | refine ⟨small (Nat.le_of_ble_eq_true rfl), ?_⟩)
local macro_rules | `(tactic| walk_at "go") => `(tactic| repeat walk_at "go1")

def topS (i : Nat) : Stmt := PySem.Challenge.pw_labelmoves_k21_moves_by_hand.main.body.getD i (.Pass ⟨0, 0, 0, 0⟩)
/-- the names of the built-ins that no def of the text takes -/
structure Names (mg : Str → Option Value) : Prop where
  len : mg "len" = none
  int : mg "int" = none
  str : mg "str" = none
  abs : mg "abs" = none
  divmod : mg "divmod" = none
  range : mg "range" = none
  any : mg "any" = none
  all : mg "all" = none
  sum : mg "sum" = none
  min : mg "min" = none
  max : mg "max" = none
  list : mg "list" = none
  tuple : mg "tuple" = none
  enumerate : mg "enumerate" = none
  reversed : mg "reversed" = none
  isinstance : mg "isinstance" = none
  bool : mg "bool" = none
  repr : mg "repr" = none
  zip : mg "zip" = none
  sorted : mg "sorted" = none
  set : mg "set" = none
  lcm : mg "lcm" = some (.builtin "math.lcm")
abbrev s_law_vase : Stmt := topS 90
theorem sc_law_vase : FnScope ["_law_cells", "_law_turn", "_law_cell", "_law_blend", "_law_each"] ["_law_cells", "_law_turn"] (defScope s_law_vase) := ⟨rfl, rfl, rfl, by decide +kernel, rfl, by decide +kernel, by decide +kernel⟩
abbrev s_law_pour : Stmt := topS 91
theorem sc_law_pour : FnScope ["_law_vase_here", "_law_top", "_law_digit"] ["_law_vase_here", "_law_top"] (defScope s_law_pour) := ⟨rfl, rfl, rfl, by decide +kernel, rfl, by decide +kernel, by decide +kernel⟩
abbrev s_law_pluck : Stmt := topS 92
theorem sc_law_pluck : FnScope ["_law_vase_here", "_law_menu"] ["_law_vase_here", "_law_menu"] (defScope s_law_pluck) := ⟨rfl, rfl, rfl, by decide +kernel, rfl, by decide +kernel, by decide +kernel⟩
/-- a vase at p: two numbers from 0 on, and a count -/
def VaseAt (H : Hp) (p : Addr) : Prop := ∃ a b c : Int, 0 ≤ a ∧ 0 ≤ b ∧ 0 ≤ c ∧ H p = some (.lst [.int a, .int b, .int c])
def spVase (K : PySem.W.Frag) : Sp := fun vs H Q _ => ∃ (a : Addr) (ns : List Int) (t : Nat), vs = [.ref a, .int t] ∧ SqL K H a (ns.map V.int) ∧ ns.length ≤ 63 ∧
  ∀ H' p, Same H H' → H p = none → VaseAt H' p → Q (.ref p) H'
def spPour : Sp := fun vs H Q _ => ∃ (p : Addr) (n : Int), vs = [.ref p, .int n] ∧ VaseAt H p ∧ 0 < n ∧ n < 2 ^ 220 ∧ ∀ (d : Int) H', 0 ≤ d → d < n → VaseAt H' p → Else p H H' → Q (.int d) H'
def spPluck (K : PySem.W.Frag) : Sp := fun vs H Q _ => ∃ (p m : Addr) (ys : List V), vs = [.ref p, .ref m] ∧ VaseAt H p ∧ m ≠ p ∧ SqL K H m ys ∧ 0 < ys.length ∧ ys.length ≤ 20000 ∧
  ∀ v H', v ∈ ys → VaseAt H' p → Else p H H' → Q v H'
section
variable {P : Program} {w : World} {K : PySem.W.Frag} {mg : Str → Option Value} {base : Heap}
theorem ok_vase {f : Addr} {fd : FuncData} (F : Fun K "_law_vase" "_law_vase" s_law_vase f fd) (N : Names mg) : FnOk P w K mg base CX0 1 f fd ["_law_cells", "_law_turn"] (spVase K) := by
  have sc := sc_law_vase
  refine F.ok sc (fun vs H Q E h => ?_) (fun cdv A outer s H vs Q E hr h => ?_)
  · obtain ⟨a, ns, t, rfl, _⟩ := h
    rfl
  · obtain ⟨a, ns, t, rfl, hS, hl, k⟩ := h
    have hu := hu_of hr
    refine ⟨_, (pss_cons (ps_set (i := 2) sc.nd rfl (Or.inl rfl) (pe_ifExp (pt_cmpR op_lt (pv 1) (pe_callB call_len_seq (by rfl) N.len (by decide +kernel) (pa_cons (pv 0) pa_nil)) (nomark _)) (pe_ix ix_list (pv 0) (pv 1) (fun _ _ => rfl)) (pe_op op_add (pe_op op_mul pe_int (pv 1)) pe_int)))
      (pss_cons (ps_set (i := 3) sc.nd rfl (Or.inl rfl) (pe_op op_add pe_int (pe_op op_mul pe_int (pv 1))))
      (pss_cons (ps_for PassesOwn.never rfl (pi_list (pe_op op_cat (pe_slice sl_list (pv 0) po_none (po_some pe_int)) (pe_lst (pa_cons (pv 2) pa_nil)))) (pg_name (i := 4) sc.nd rfl (Or.inl rfl)) (pss_one (ps_set (i := 3) sc.nd rfl (Or.inl rfl) (pe_op op_mod (pe_callTy (T := "int") call_int1 (by rfl) N.int (by decide +kernel) (pa_cons (pe_op op_add (pe_op op_mul (pv 3) pe_int) (pv 4)) pa_nil)) pe_int))))
      (pss_one (ps_ret (pe_lst (pa_cons (pe_ifExp (PW.pt (pw_or (pt_cmpR op_lt (pv 2) pe_int (nomark _)) (pw_or1 (pt_cmpR op_ge (pv 2) (pe_op op_pow pe_int pe_int) (nomark _))))) (pe_callB call_abs (by rfl) N.abs (by decide +kernel) (pa_cons (pv 2) pa_nil)) pe_int) (pa_cons (pv 3) (pa_cons pe_int pa_nil))))))))), ?_⟩
    walk_at "go"
    refine if_join (fun v => ∃ c : Int, v = .int c) (fun hd Q' k' => ?_) (fun hd Q' k' => ?_) ?_
    · have ht : t < ns.length := by
        rw [List.length_map] at hd
        omega
      exact ⟨_, rfl, _, rfl, _, _, _, _, rfl, rfl, hS, atI_nat (map_get ht), k' _ ⟨_, rfl⟩⟩
    · walk_at "go"
      exact k' _ ⟨_, rfl⟩
    rintro v ⟨c, rfl⟩
    walk_at "go"
    (intro p1 n1; generalize e_p1 : upd H p1 _ = H1; have s1 : Same H H1 := fun b x hb => (congrFun e_p1 b).symm.trans (same_new n1 b x hb); have h1 := (congrFun e_p1 p1).symm.trans upd_same; clear e_p1)
    walk_at "go"
    (intro p2 n2; generalize e_p2 : upd H1 p2 _ = H2; have s2 : Same H1 H2 := fun b x hb => (congrFun e_p2 b).symm.trans (same_new n2 b x hb); have h2 := (congrFun e_p2 p2).symm.trans upd_same; clear e_p2)
    have h12 : H2 p1 = some (.lst ((ns.take 6).map V.int)) := by
      rw [s2 _ _ h1]
      exact congrArg (fun l => some (HO.lst l)) ((cut_to _ 6).trans List.map_take.symm)
    refine ⟨p1, p2, _, _, rfl, rfl, h12, h2, ?_, ?_⟩
    · exact small (by simp; omega)
    (intro p3 n3; generalize e_p3 : upd H2 p3 _ = H3; have s3 : Same H2 H3 := fun b x hb => (congrFun e_p3 b).symm.trans (same_new n3 b x hb); have h3 := (congrFun e_p3 p3).symm.trans upd_same; clear e_p3)
    have h3' : H3 p3 = some (.lst ((ns.take 6 ++ [c]).map V.int)) := by
      rw [h3, List.map_append]
      rfl
    have sa : Same H H3 := (s1.trans s2).trans s3
    refine ⟨p3, rfl, ⟨_, SqL.lst h3'⟩, for_list (K := K) (xs := (ns.take 6 ++ [c]).map V.int) (fun i σ H' => ∃ (b : Int) (v : Option V), 0 ≤ b ∧ σ = [some (.ref a), some (.int t), some (.int c), some (.int b), v] ∧ Same H H' ∧ H' p3 = some (.lst ((ns.take 6 ++ [c]).map V.int)))
      ⟨70003 + 7919 * (t : Int), none, by omega, rfl, sa, h3'⟩ (fun i σ H' _ ⟨b, v, _, _, _, e⟩ => SqL.lst e) ?_ ?_⟩
    · rintro i x σ H' hx ⟨b, v, hb, rfl, sm, e⟩
      obtain ⟨z, hz, rfl⟩ : ∃ z, (ns.take 6 ++ [c])[i]? = some z ∧ x = V.int z := by
        rw [List.getElem?_map] at hx
        obtain ⟨z, hz, e⟩ := Option.map_eq_some_iff.mp hx
        exact ⟨z, hz, e.symm⟩
      walk_at "go"
      exact ⟨_, _, Int.emod_nonneg _ (by decide), rfl, sm, e⟩
    · rintro σ H' ⟨b, v, hb, rfl, sm, e⟩
      have fin : ∀ x : Int, 0 ≤ x → ∀ p, H' p = none → Q (.ref p) (upd H' p (.lst [.int x, .int b, .int 0])) := fun x hx p n => k _ p (Same.of_new sm n) (sm.free n) ⟨x, b, 0, hx, hb, by omega, upd_same⟩
      walk_at "go"
      refine ifD (fun h1 => iteT ?_) (fun h1 => ?_)
      · walk_at "go"
        exact fin _ (by split <;> omega)
      · walk_at "go"
        refine ifD (fun h2 => ?_) (fun h2 => ?_)
        · walk_at "go"
          refine fin _ (by split <;> omega)
        · walk_at "go"
          refine fin _ (by omega)
theorem ok_pour {f : Addr} {fd : FuncData} (F : Fun K "_law_pour" "_law_pour" s_law_pour f fd) (N : Names mg) : FnOk P w K mg base CX0 1 f fd ["_law_vase_here", "_law_top"] spPour := by
  have sc := sc_law_pour
  refine F.ok sc (fun vs H Q E h => ?_) (fun cdv A outer s H vs Q E hr h => ?_)
  · obtain ⟨p, n, rfl, _⟩ := h
    rfl
  · obtain ⟨p, n, rfl, ⟨a, b, c, ha, hb, hc, hp⟩, h0, h1, k⟩ := h
    have hu := hu_of hr
    refine ⟨_, (pss_cons (ps_asg (pe_op op_add (pe_ix ix_list (pv 0) pe_int (fun _ _ => rfl)) pe_int) (pg_sub (pv 0) pe_int set_list))
      (pss_cons (ps_if (pt_cmpR op_gt (pe_ix ix_list (pv 0) pe_int (fun _ _ => rfl)) pe_int (nomark _)) (pss_cons (ps_asg (pe_callB call_divmodW (by rfl) N.divmod (by decide +kernel) (pa_cons (pe_ix ix_list (pv 0) pe_int (fun _ _ => rfl)) (pa_cons (pv 1) pa_nil))) (pg_tup rfl (pgs_cons (pg_sub (pv 0) pe_int set_list) (pgs_cons (pg_name (i := 2) sc.nd rfl (Or.inl rfl)) pgs_nil))))
      (pss_one (ps_ret (pv 2)))) pss_nil)
      (pss_cons (ps_asg (pe_op op_mod (pe_callTy (T := "int") call_int1 (by rfl) N.int (by decide +kernel) (pa_cons (pe_op op_add (pe_op op_mul (pe_ix ix_list (pv 0) pe_int (fun _ _ => rfl)) pe_int) (pe_op op_mul pe_int (pe_ix ix_list (pv 0) pe_int (fun _ _ => rfl)))) pa_nil)) pe_int) (pg_sub (pv 0) pe_int set_list))
      (pss_one (ps_ret (pe_op op_mod (pe_callTy (T := "int") call_int1 (by rfl) N.int (by decide +kernel) (pa_cons (pe_op op_fdiv (pe_ix ix_list (pv 0) pe_int (fun _ _ => rfl)) pe_int) pa_nil)) (pv 1))))))), ?_⟩
    walk_at "go"
    refine ifD (fun hd => ?_) (fun hd => ?_)
    · walk_at "go"
      intro t ht
      have htp : t ≠ p := fun e => by rw [e, upd_same] at ht; cases ht
      have hbp : ∀ {x : Addr} {o : HO}, x ≠ p → H x = some o → x ≠ t := fun hx e => ne_of_none (by rw [upd_ne hx]; exact e) ht
      walk_at "go"
      refine k (a % n) _ (Int.emod_nonneg _ (by omega)) (Int.emod_lt_of_pos _ h0) ⟨a / n, b, c + 1, Int.ediv_nonneg ha (by omega), hb, by omega, upd_same⟩ (fun x o hx e => ?_)
      rw [upd_ne hx, upd_ne (hbp hx e), upd_ne hx]
      exact e
    · walk_at "go"
      refine k _ _ (Int.emod_nonneg _ (by omega)) (Int.emod_lt_of_pos _ h0) ⟨a, _, c + 1, ha, Int.emod_nonneg _ (by omega), by omega, upd_same⟩ (fun x o hx e => ?_)
      rw [upd_ne hx, upd_ne hx]
      exact e
theorem ok_pluck {f : Addr} {fd : FuncData} (F : Fun K "_law_pluck" "_law_pluck" s_law_pluck f fd) (N : Names mg) (D_law_pour : DefK P w K mg base "_law_pour" ["_law_vase_here", "_law_top"] 1 spPour) : FnOk P w K mg base CX0 2 f fd ["_law_vase_here", "_law_menu"] (spPluck K) := by
  have sc := sc_law_pluck
  refine F.ok sc (fun vs H Q E h => ?_) (fun cdv A outer s H vs Q E hr h => ?_)
  · obtain ⟨p, m, ys, rfl, _⟩ := h
    rfl
  · obtain ⟨p, m, ys, rfl, hv, hmp, hm, h0, h1, k⟩ := h
    refine ⟨_, (pss_one (ps_ret (pe_ix ix_list (pv 1) (pe_d D_law_pour (hr.mono (by decide)) rfl (pa_cons (pv 0) (pa_cons (pe_callB call_len_seq (by rfl) N.len (by decide +kernel) (pa_cons (pv 1) pa_nil)) pa_nil))) (fun _ _ => rfl)))), ?_⟩
    refine ⟨_, rfl, _, rfl, _, rfl, _, _, rfl, .inl hm, _, _, rfl, hv, by omega, by omega, fun d H' hd0 hd1 hv' he => ?_⟩
    obtain ⟨j, rfl⟩ := nat_of hd0
    have hj : j < ys.length := by omega
    exact ⟨_, _, _, _, rfl, rfl, he.seq hmp hm, atI_nat (List.getElem?_eq_getElem hj), k _ _ (List.getElem_mem hj) hv' he⟩
end
end LM

set_option Elab.async false
set_option linter.all false
set_option maxRecDepth 100000
set_option maxHeartbeats 4000000
namespace LM
open PySem PySem.Spec PyProof.Rows L2
local macro_rules | `(tactic| walk_at "hp") => `(tactic| first | assumption | exact upd_same | (rw [upd_ne (by assumption)]; assumption) | (rw [upd_ne (Ne.symm (by assumption))]; assumption) | (rw [upd_ne (by assumption)]; exact upd_same) | (rw [upd_ne (Ne.symm (by assumption))]; exact upd_same))
local macro_rules | `(tactic| walk_at "sq") => `(tactic| first | assumption | exact Or.inl (Or.inl (by assumption)) | exact Or.inl (Or.inl upd_same) | exact Or.inl (Or.inl (by walk_at "hp")))
local macro_rules | `(tactic| walk_at "ixl") => `(tactic| refine ⟨_, _, _, _, rfl, rfl, (by walk_at "sq"), (by rfl), ?_⟩)
local macro_rules | `(tactic| walk_at "setl") => `(tactic| refine ⟨_, _, _, _, rfl, rfl, (by walk_at "hp"), (by rfl), ?_⟩)
local macro_rules | `(tactic| walk_at "side") => `(tactic| refine idP ?_; first | omega | (show (0 : Int) < _; omega) | (show (0 : Int) < _ ∧ _ < _; omega) | (refine Or.inr ?_; show (-(2 ^ 64) : Int) < _ ∧ _ < _; omega) | (refine Or.inl ?_; show (-(2 ^ 64) : Int) < _ ∧ _ < _; omega) | exact divW (by omega) (by omega) _ | (refine ⟨by decide, by decide, ?_⟩; decide))
local macro_rules | `(tactic| walk_at "go1") => `(tactic| first
  | refine ⟨_, rfl, ?_⟩
  | refine ⟨_, _, rfl, rfl, (by walk_at "side"), ?_⟩
  | refine ⟨_, _, rfl, (by walk_at "side"), ?_⟩
  | refine ⟨_, _, rfl, rfl, ?_⟩
  | refine Or.inl ⟨_, rfl, ?_⟩
  | refine ⟨_, _, rfl, Or.inl (by walk_at "sq"), ?_⟩
  | walk_at "ixl"
  | walk_at "setl"
  | refine ⟨_, _, rfl, (by walk_at "sq"), rfl, ?_⟩
  | refine ⟨_, _, rfl, (by walk_at "sq"), ?_⟩
  | refine ⟨_, _, rfl, ?_⟩
  | refine ⟨rfl, ?_⟩
  | refine ⟨small (Nat.le_of_ble_eq_true rfl), ?_⟩)
local macro_rules | `(tactic| walk_at "go") => `(tactic| repeat walk_at "go1")

abbrev R3 := Int × Int × Int
/-- at l a list of rows, each a list of three ints, none of it at p -/
def LanesAt (p : Addr) (H : Hp) (l : Addr) (rows : List R3) : Prop :=
  ∃ as : List Addr, l ≠ p ∧ (∀ a ∈ as, a ≠ p) ∧ H l = some (.lst (as.map V.ref)) ∧ Paired (fun a (r : R3) => H a = some (.lst [.int r.1, .int r.2.1, .int r.2.2])) as rows
theorem paired_imp {α β : Type} {F G : α → β → Prop} : ∀ {as : List α} {bs : List β}, Paired F as bs → (∀ a ∈ as, ∀ b, F a b → G a b) → Paired G as bs
  | _, _, .nil, _ => .nil
  | _, _, .cons r t, f => .cons (f _ List.mem_cons_self _ r) (paired_imp t fun a h => f a (List.mem_cons_of_mem _ h))
theorem paired_app {α β : Type} {F : α → β → Prop} : ∀ {as : List α} {bs : List β} {a : α} {b : β}, Paired F as bs → F a b → Paired F (as ++ [a]) (bs ++ [b])
  | _, _, _, _, .nil, h => .cons h .nil
  | _, _, _, _, .cons r t, h => .cons r (paired_app t h)
theorem paired_left {α β : Type} {F : α → β → Prop} : ∀ {as : List α} {bs : List β} {a : α}, Paired F as bs → a ∈ as → ∃ b, b ∈ bs ∧ F a b
  | _, _, _, .cons r t, h => by
    rcases List.mem_cons.mp h with e | h
    · exact ⟨_, List.mem_cons_self, e ▸ r⟩
    · obtain ⟨b, hb, f⟩ := paired_left t h
      exact ⟨b, List.mem_cons_of_mem _ hb, f⟩
theorem paired_at {α β : Type} {F : α → β → Prop} : ∀ {as : List α} {bs : List β} {i : Nat} {a : α}, Paired F as bs → as[i]? = some a → ∃ b, bs[i]? = some b ∧ F a b
  | _, _, 0, _, .cons r _, h => by
    simp at h
    exact ⟨_, rfl, h ▸ r⟩
  | _, _, i + 1, _, .cons _ t, h => by
    obtain ⟨b, hb, f⟩ := paired_at (i := i) t (by simpa using h)
    exact ⟨b, by simpa using hb, f⟩
theorem LanesAt.els {p l : Addr} {H H' : Hp} {rows : List R3} (h : LanesAt p H l rows) (e : Else p H H') : LanesAt p H' l rows := by
  obtain ⟨as, hl, ha, e1, e2⟩ := h
  exact ⟨as, hl, ha, e _ _ hl e1, paired_imp e2 fun a m r q => e _ _ (ha a m) q⟩
theorem LanesAt.same {p l : Addr} {H H' : Hp} {rows : List R3} (h : LanesAt p H l rows) (e : Same H H') : LanesAt p H' l rows := h.els (Same.els e)
/-- a row of a house with these bases, its every at most m -/
def RowOk (m : Int) (gs : List Int) (r : R3) : Prop := 0 ≤ r.1 ∧ r.1 < gs.length ∧ 1 ≤ r.2.1 ∧ r.2.1 ≤ m ∧ 0 ≤ r.2.2 ∧ r.2.2 < gs.getLastD 1
def spGround (K : PySem.W.Frag) : Sp := fun vs H Q _ => ∃ (p : Addr) (most : Int), vs = [.ref p, .int most] ∧ VaseAt H p ∧ 3 ≤ most ∧ most ≤ 100 ∧
  ∀ (g : Addr) (gs : List Int) (H' : Hp), H g = none → H' g = some (.lst (gs.map V.int)) → 1 ≤ gs.length → gs.length ≤ 3 → (∀ x ∈ gs, 2 ≤ x ∧ x ≤ most) → VaseAt H' p → Else p H H' → Q (.ref g) H'
section
variable {P : Program} {w : World} {K : PySem.W.Frag} {mg : Str → Option Value} {base : Heap}
theorem VaseAt.same {H H' : Hp} {p : Addr} (h : VaseAt H p) (s : Same H H') : VaseAt H' p := by
  obtain ⟨a, b, c, h1, h2, h3, e⟩ := h
  exact ⟨a, b, c, h1, h2, h3, s _ _ e⟩
theorem VaseAt.ne {H : Hp} {p q : Addr} (h : VaseAt H p) (n : H q = none) : q ≠ p := by
  obtain ⟨a, b, c, h1, h2, h3, e⟩ := h
  exact fun z => by rw [z, e] at n; cases n
def spLanes (K : PySem.W.Frag) : Sp := fun vs H Q _ => ∃ (p g : Addr) (gs : List Int), vs = [.ref p, .ref g] ∧ VaseAt H p ∧ g ≠ p ∧ SqL K H g (gs.map V.int) ∧ 1 ≤ gs.length ∧ gs.length ≤ 3 ∧ (∀ x ∈ gs, 2 ≤ x ∧ x ≤ 60) ∧
  ∀ (l : Addr) (rows : List R3) (H' : Hp), H l = none → LanesAt p H' l rows → rows.length ≤ 3 → (∀ r ∈ rows, RowOk 4 gs r) → VaseAt H' p → Else p H H' → Q (.ref l) H'
theorem getLastD_map (gs : List Int) (h : 1 ≤ gs.length) : atI (gs.map V.int) (-1) = some (V.int (gs.getLastD 1)) := by
  have hne : gs ≠ [] := fun e => by rw [e] at h; exact absurd h (by decide)
  have e : gs = gs.dropLast ++ [gs.getLastD 1] := by
    rw [List.getLastD_eq_getLast?, List.getLast?_eq_some_getLast hne]
    exact (List.dropLast_concat_getLast hne).symm
  have e2 : gs.map V.int = (gs.dropLast.map V.int) ++ [V.int (gs.getLastD 1)] := by
    conv => lhs; rw [e]
    rw [List.map_append]
    rfl
  rw [e2]
  exact atI_last _ _
theorem lastD_mem {gs : List Int} (h : 1 ≤ gs.length) : gs.getLastD 1 ∈ gs := by
  have hne : gs ≠ [] := fun e => by rw [e] at h; exact absurd h (by decide)
  rw [List.getLastD_eq_getLast?, List.getLast?_eq_some_getLast hne]
  exact List.getLast_mem hne
end
end LM

set_option Elab.async false
set_option linter.all false
set_option maxRecDepth 100000
set_option maxHeartbeats 4000000
namespace LM
open PySem PySem.Spec PyProof.Rows L2
local macro_rules | `(tactic| walk_at "hp") => `(tactic| first | assumption | exact upd_same | (rw [upd_ne (by assumption)]; assumption) | (rw [upd_ne (Ne.symm (by assumption))]; assumption) | (rw [upd_ne (by assumption)]; exact upd_same) | (rw [upd_ne (Ne.symm (by assumption))]; exact upd_same))
local macro_rules | `(tactic| walk_at "sq") => `(tactic| first | assumption | exact Or.inl (Or.inl (by assumption)) | exact Or.inl (Or.inl upd_same) | exact Or.inl (Or.inl (by walk_at "hp")))
local macro_rules | `(tactic| walk_at "ixl") => `(tactic| refine ⟨_, _, _, _, rfl, rfl, (by walk_at "sq"), (by rfl), ?_⟩)
local macro_rules | `(tactic| walk_at "setl") => `(tactic| refine ⟨_, _, _, _, rfl, rfl, (by walk_at "hp"), (by rfl), ?_⟩)
local macro_rules | `(tactic| walk_at "side") => `(tactic| refine idP ?_; first | omega | (show (0 : Int) < _; omega) | (show (0 : Int) < _ ∧ _ < _; omega) | (refine Or.inr ?_; show (-(2 ^ 64) : Int) < _ ∧ _ < _; omega) | (refine Or.inl ?_; show (-(2 ^ 64) : Int) < _ ∧ _ < _; omega) | exact divW (by omega) (by omega) _ | (refine ⟨by decide, by decide, ?_⟩; decide))
local macro_rules | `(tactic| walk_at "go1") => `(tactic| first
  | refine ⟨_, rfl, ?_⟩
  | refine ⟨_, _, rfl, rfl, (by walk_at "side"), ?_⟩
  | refine ⟨_, _, rfl, (by walk_at "side"), ?_⟩
  | refine ⟨_, _, rfl, rfl, ?_⟩
  | refine Or.inl ⟨_, rfl, ?_⟩
  | refine ⟨_, _, rfl, Or.inl (by walk_at "sq"), ?_⟩
  | walk_at "ixl"
  | walk_at "setl"
  | refine ⟨_, _, rfl, (by walk_at "sq"), rfl, ?_⟩
  | refine ⟨_, _, rfl, (by walk_at "sq"), ?_⟩
  | refine ⟨_, _, rfl, ?_⟩
  | refine ⟨rfl, ?_⟩
  | refine ⟨small (Nat.le_of_ble_eq_true rfl), ?_⟩)
local macro_rules | `(tactic| walk_at "go") => `(tactic| repeat walk_at "go1")

/-- at l a list of rows, to be read -/
def LanesIn (K : PySem.W.Frag) (H : Hp) (l : Addr) (rows : List R3) : Prop :=
  ∃ as : List Addr, SqL K H l (as.map V.ref) ∧ Paired (fun a (r : R3) => H a = some (.lst [.int r.1, .int r.2.1, .int r.2.2])) as rows
theorem LanesAt.in {K : PySem.W.Frag} {p l : Addr} {H : Hp} {rows : List R3} (h : LanesAt p H l rows) : LanesIn K H l rows := by
  obtain ⟨as, _, _, e, r⟩ := h
  exact ⟨as, SqL.lst e, r⟩
theorem LanesIn.same {K : PySem.W.Frag} {l : Addr} {H H' : Hp} {rows : List R3} (h : LanesIn K H l rows) (s : Same H H') : LanesIn K H' l rows := by
  obtain ⟨as, e, r⟩ := h
  exact ⟨as, s.seq e, paired_imp r fun a _ x q => s _ _ q⟩
def digStep (s : Int × List Int) (b : Int) : Int × List Int := (s.1 / b, s.1 % b :: s.2)
/-- the numbers of a group, number 0 first -/
def digs (gs : List Int) (g : Int) : List Int := (gs.dropLast.reverse.foldl digStep (g, [])).1 :: (gs.dropLast.reverse.foldl digStep (g, [])).2
def fitL (ds : List Int) (r : R3) : Bool := decide (ds.getD r.1.toNat 0 % r.2.1 = 0) && !((ds.drop (r.1.toNat + 1)).any fun k => decide (k ≠ 0))
def gapStep (ds : List Int) (acc : Int) (r : R3) : Int := if fitL ds r = true then r.2.2 else acc
/-- how many labels this group skips, by the law's own numbers -/
def gapL (gs : List Int) (rows : List R3) (g : Int) : Int := rows.foldl (gapStep (digs gs g)) 0
theorem digStep_len : ∀ (l : List Int) (s : Int × List Int), (l.foldl digStep s).2.length = s.2.length + l.length
  | [], s => rfl
  | b :: l, s => by
    rw [List.foldl_cons, digStep_len l, List.length_cons]
    show (s.1 % b :: s.2).length + l.length = _
    rw [List.length_cons]
    omega
theorem digs_len (gs : List Int) (g : Int) (h : 1 ≤ gs.length) : (digs gs g).length = gs.length := by
  unfold digs
  rw [List.length_cons, digStep_len, List.length_reverse, List.length_dropLast]
  simp
  omega
theorem take_fold {α β : Type} (f : β → α → β) (s : β) (l : List α) (i : Nat) (x : α) (h : l[i]? = some x) : (l.take (i + 1)).foldl f s = f ((l.take i).foldl f s) x := by
  rw [List.take_add_one, h, List.foldl_append]
  rfl
theorem atI_getD {ns : List Int} {i : Int} (h0 : 0 ≤ i) (h1 : i < ns.length) : atI (ns.map V.int) i = some (V.int (ns.getD i.toNat 0)) := by
  obtain ⟨j, rfl⟩ := nat_of h0
  have hj : j < ns.length := by omega
  rw [atI_nat (map_get hj), Int.toNat_natCast, List.getD_eq_getElem?_getD, List.getElem?_eq_getElem hj]
  rfl
def spGap (K : PySem.W.Frag) : Sp := fun vs H Q _ => ∃ (g l : Addr) (gs : List Int) (rows : List R3) (n : Int) (m : Int), vs = [.ref g, .ref l, .int n] ∧ SqL K H g (gs.map V.int) ∧ LanesIn K H l rows ∧ 1 ≤ gs.length ∧ gs.length ≤ 3 ∧ (∀ x ∈ gs, 2 ≤ x ∧ x ≤ 60) ∧ rows.length ≤ 20 ∧ (∀ r ∈ rows, RowOk m gs r) ∧
  ∀ H', Same H H' → Q (.int (gapL gs rows n)) H'
section
variable {P : Program} {w : World} {K : PySem.W.Frag} {mg : Str → Option Value} {base : Heap}
/-! ### the greatest common divisor, the least common multiple -/
def spGcd : Sp := fun vs H Q _ => ∃ (a b : Nat), vs = [.int (a : Int), .int (b : Int)] ∧ Q (.int ((Nat.gcd a b : Nat) : Int)) H
def spLcm : Sp := fun vs H Q _ => ∃ (a b : Nat), vs = [.int (a : Int), .int (b : Int)] ∧ 0 < a ∧ a < 2 ^ 29 ∧ 0 < b ∧ b < 2 ^ 29 ∧ Q (.int ((Nat.lcm a b : Nat) : Int)) H
/-! ### whether a list goes on the same behind so many items -/
def againL (cs : List Int) (k : Nat) : Bool := decide (cs.length / k * k = cs.length) && decide (cs.drop k = cs.take (cs.length - k))
def spAgain (K : PySem.W.Frag) : Sp := fun vs H Q _ => ∃ (a : Addr) (cs : List Int) (k : Nat), vs = [.ref a, .int (k : Int)] ∧ SqL K H a (cs.map V.int) ∧ cs.length ≤ 100000 ∧ 0 < k ∧ k ≤ cs.length ∧ ∀ H', Same H H' → Q (.bl (againL cs k)) H'
end
end LM

set_option Elab.async false
set_option linter.all false
set_option maxRecDepth 100000
set_option maxHeartbeats 4000000
set_option pp.maxSteps 600
set_option pp.deepTerms false
namespace LM
open PySem PySem.Spec PyProof.Rows L2
local macro_rules | `(tactic| walk_at "hp") => `(tactic| first | assumption | exact upd_same | (rw [upd_ne (by assumption)]; assumption) | (rw [upd_ne (Ne.symm (by assumption))]; assumption) | (rw [upd_ne (by assumption)]; exact upd_same) | (rw [upd_ne (Ne.symm (by assumption))]; exact upd_same))
local macro_rules | `(tactic| walk_at "sq") => `(tactic| first | assumption | exact Or.inl (Or.inl (by assumption)) | exact Or.inl (Or.inl upd_same) | exact Or.inl (Or.inl (by walk_at "hp")))
local macro_rules | `(tactic| walk_at "ixl") => `(tactic| refine ⟨_, _, _, _, rfl, rfl, (by walk_at "sq"), (by rfl), ?_⟩)
local macro_rules | `(tactic| walk_at "setl") => `(tactic| refine ⟨_, _, _, _, rfl, rfl, (by walk_at "hp"), (by rfl), ?_⟩)
local macro_rules | `(tactic| walk_at "side") => `(tactic| refine idP ?_; first | omega | (show (0 : Int) < _; omega) | (show (0 : Int) < _ ∧ _ < _; omega) | (refine Or.inr ?_; show (-(2 ^ 64) : Int) < _ ∧ _ < _; omega) | (refine Or.inl ?_; show (-(2 ^ 64) : Int) < _ ∧ _ < _; omega) | exact divW (by omega) (by omega) _ | (refine ⟨by decide, by decide, ?_⟩; decide))
local macro_rules | `(tactic| walk_at "go1") => `(tactic| first
  | refine ⟨_, rfl, ?_⟩
  | refine ⟨_, _, rfl, rfl, (by walk_at "side"), ?_⟩
  | refine ⟨_, _, rfl, (by walk_at "side"), ?_⟩
  | refine ⟨_, _, rfl, rfl, ?_⟩
  | refine Or.inl ⟨_, rfl, ?_⟩
  | refine ⟨_, _, rfl, Or.inl (by walk_at "sq"), ?_⟩
  | walk_at "ixl"
  | walk_at "setl"
  | refine ⟨_, _, rfl, (by walk_at "sq"), rfl, ?_⟩
  | refine ⟨_, _, rfl, (by walk_at "sq"), ?_⟩
  | refine ⟨_, _, rfl, ?_⟩
  | refine ⟨rfl, ?_⟩
  | refine ⟨small (Nat.le_of_ble_eq_true rfl), ?_⟩)
local macro_rules | `(tactic| walk_at "go") => `(tactic| repeat walk_at "go1")

/-- how many groups there are in a unit of field 0; the least common multiple of the everys of field 0 -/
def unitL (gs : List Int) : Nat := gs.dropLast.foldl (fun a b => a * b.toNat) 1
def everyStep (e : Nat) (r : R3) : Nat := if r.1 = 0 then Nat.lcm e r.2.1.toNat else e
def everyL (rows : List R3) : Nat := rows.foldl everyStep 1
def gapsL (gs : List Int) (rows : List R3) (n : Nat) : List Int := (List.range n).map fun i => gapL gs rows ((i : Nat) : Int)
def sizesL (cs : List Int) (n : Nat) : List Nat := ((List.range n).filter fun j => againL cs (j + 1)).map (· + 1)
def sizeL (cs : List Int) : Nat := (sizesL cs cs.length).headD 0
def spotOk (cs : List Int) (b : Nat) (s : Nat) : Bool := decide (cs.getD (s / b) 0 ≤ ((s % b : Nat) : Int))
def spotsL (cs : List Int) (b n : Nat) : List Nat := (List.range n).filter (spotOk cs b)
def belowL (cs : List Int) (b n : Nat) : List Nat := (List.range n).map fun i => (spotsL cs b i).length
/-- the law's own house at d -/
def HomeAt (old : Addr → Prop) (H : Hp) (d g l : Addr) (gs : List Int) (rows : List R3) : Prop :=
  ∃ (s b : Addr) (cs : List Int) (n : Nat), H d = some (.dK [(Sum.inr "ground", .ref g), (Sum.inr "lanes", .ref l), (Sum.inr "groups", .int ((sizeL cs : Nat) : Int)), (Sum.inr "spots", .ref s), (Sum.inr "below", .ref b)]) ∧
    n = unitL gs * everyL rows ∧ cs = gapsL gs rows n ∧
    H s = some (.lst ((spotsL cs (gs.getLastD 1).toNat (sizeL cs * (gs.getLastD 1).toNat)).map fun k => V.int ((k : Nat) : Int))) ∧
    H b = some (.lst ((belowL cs (gs.getLastD 1).toNat (sizeL cs * (gs.getLastD 1).toNat)).map fun k => V.int ((k : Nat) : Int))) ∧ ¬ old s ∧ ¬ old b
theorem HomeAt.weak {o1 o2 : Addr → Prop} {H : Hp} {d g l : Addr} {gs : List Int} {rows : List R3} (h : HomeAt o1 H d g l gs rows) (i : ∀ q, o2 q → o1 q) : HomeAt o2 H d g l gs rows := by
  obtain ⟨s, b, cs, n, e1, e2, e3, e4, e5, e6, e7⟩ := h
  exact ⟨s, b, cs, n, e1, e2, e3, e4, e5, fun z => e6 (i _ z), fun z => e7 (i _ z)⟩
def spPlace (K : PySem.W.Frag) : Sp := fun vs H Q _ => ∃ (g l : Addr) (gs : List Int) (rows : List R3) (m : Int), vs = [.ref g, .ref l] ∧ SqL K H g (gs.map V.int) ∧ LanesIn K H l rows ∧ 1 ≤ gs.length ∧ gs.length ≤ 3 ∧ (∀ x ∈ gs, 2 ≤ x ∧ x ≤ 60) ∧ rows.length ≤ 20 ∧ m ≤ 60 ∧ (∀ r ∈ rows, RowOk m gs r) ∧ unitL gs * everyL rows ≤ 7200 ∧
  ∀ (d : Addr) (H' : Hp), Same H H' → H d = none → HomeAt (fun q => H q ≠ none) H' d g l gs rows → Q (.ref d) H'
theorem foldl_mul_pos : ∀ (bs : List Int) (a : Nat), 0 < a → (∀ x ∈ bs, 2 ≤ x) → a ≤ bs.foldl (fun a b => a * b.toNat) a
  | [], a, _, _ => Nat.le_refl _
  | b :: bs, a, ha, h => by
    have hb := h b List.mem_cons_self
    have h1 : a ≤ a * b.toNat := Nat.le_mul_of_pos_right a (by omega)
    exact Nat.le_trans h1 (foldl_mul_pos bs _ (by omega) fun x hx => h x (List.mem_cons_of_mem _ hx))
theorem everyStep_pos {e : Nat} {r : R3} (he : 0 < e) (hr : 1 ≤ r.2.1) : 0 < everyStep e r := by
  unfold everyStep
  split
  · exact Nat.lcm_pos he (by omega)
  · exact he
theorem every_mono : ∀ (rows : List R3) (e : Nat), 0 < e → (∀ r ∈ rows, 1 ≤ r.2.1) → e ≤ rows.foldl everyStep e
  | [], e, _, _ => Nat.le_refl _
  | r :: rows, e, he, h => by
    have hr := h r List.mem_cons_self
    have h1 : e ≤ everyStep e r := by
      unfold everyStep
      split
      · exact Nat.le_of_dvd (Nat.lcm_pos he (by omega)) (Nat.dvd_lcm_left _ _)
      · exact Nat.le_refl _
    exact Nat.le_trans h1 (every_mono rows _ (everyStep_pos he hr) fun x hx => h x (List.mem_cons_of_mem _ hx))
section
variable {P : Program} {w : World} {K : PySem.W.Frag} {mg : Str → Option Value} {base : Heap}
def spHouse (K : PySem.W.Frag) : Sp := fun vs H Q _ => ∃ (p : Addr), vs = [.ref p, .non] ∧ VaseAt H p ∧
  ∀ (d g l : Addr) (gs : List Int) (rows : List R3) (H' : Hp), H d = none → H g = none → H l = none → H' g = some (.lst (gs.map V.int)) → LanesAt p H' l rows → HomeAt (fun q => H q ≠ none) H' d g l gs rows → 1 ≤ gs.length → gs.length ≤ 3 → (∀ x ∈ gs, 2 ≤ x ∧ x ≤ 4) →
    rows.length ≤ 3 → (∀ r ∈ rows, RowOk 4 gs r) → VaseAt H' p → Else p H H' → Q (.ref d) H'
theorem lcm_12 : ∀ a ∈ [1, 2, 3, 4, 6, 12], ∀ b ∈ [1, 2, 3, 4], Nat.lcm a b ∈ [1, 2, 3, 4, 6, 12] := by decide
theorem every_12 : ∀ (rows : List R3) (e : Nat), e ∈ [1, 2, 3, 4, 6, 12] → (∀ r ∈ rows, 1 ≤ r.2.1 ∧ r.2.1 ≤ 4) → rows.foldl everyStep e ∈ [1, 2, 3, 4, 6, 12]
  | [], e, he, _ => he
  | r :: rows, e, he, h => by
    rw [List.foldl_cons]
    refine every_12 rows _ ?_ fun x hx => h x (List.mem_cons_of_mem _ hx)
    unfold everyStep
    split
    · refine lcm_12 e he _ ?_
      have := h r List.mem_cons_self
      have h4 : r.2.1.toNat = 1 ∨ r.2.1.toNat = 2 ∨ r.2.1.toNat = 3 ∨ r.2.1.toNat = 4 := by omega
      simp
      omega
    · exact he
theorem every_12' {rows : List R3} (h : ∀ r ∈ rows, 1 ≤ r.2.1 ∧ r.2.1 ≤ 4) : everyL rows ≤ 12 := by
  have := every_12 rows 1 (by decide) h
  simp at this
  unfold everyL
  omega
theorem unit_16 {gs : List Int} (h1 : gs.length ≤ 3) (h : ∀ x ∈ gs, 2 ≤ x ∧ x ≤ 4) : unitL gs ≤ 16 := by
  unfold unitL
  match gs, h1, h with
  | [], _, _ => decide
  | [a], _, _ => exact (by decide : 1 ≤ 16)
  | [a, b], _, h =>
    have := h a (by simp)
    show 1 * a.toNat ≤ 16
    omega
  | [a, b, c], _, h =>
    have h1 := h a (by simp)
    have h2 := h b (by simp)
    show 1 * a.toNat * b.toNat ≤ 16
    have : 1 * a.toNat * b.toNat ≤ 4 * 4 := Nat.mul_le_mul (by omega) (by omega)
    omega
  | _ :: _ :: _ :: _ :: _, h1, _ => exact absurd h1 (by simp)
end
end LM

set_option Elab.async false
set_option linter.all false
set_option maxRecDepth 100000
set_option maxHeartbeats 4000000
set_option pp.maxSteps 600
set_option pp.deepTerms false
namespace LM
open PySem PySem.Spec PyProof.Rows L2
local macro_rules | `(tactic| walk_at "hp") => `(tactic| first | assumption | exact upd_same | (rw [upd_ne (by assumption)]; assumption) | (rw [upd_ne (Ne.symm (by assumption))]; assumption) | (rw [upd_ne (by assumption)]; exact upd_same) | (rw [upd_ne (Ne.symm (by assumption))]; exact upd_same))
local macro_rules | `(tactic| walk_at "sq") => `(tactic| first | assumption | exact Or.inl (Or.inl (by assumption)) | exact Or.inl (Or.inl upd_same) | exact Or.inl (Or.inl (by walk_at "hp")))
local macro_rules | `(tactic| walk_at "ixl") => `(tactic| refine ⟨_, _, _, _, rfl, rfl, (by walk_at "sq"), (by rfl), ?_⟩)
local macro_rules | `(tactic| walk_at "setl") => `(tactic| refine ⟨_, _, _, _, rfl, rfl, (by walk_at "hp"), (by rfl), ?_⟩)
local macro_rules | `(tactic| walk_at "side") => `(tactic| refine idP ?_; first | omega | (show (0 : Int) < _; omega) | (show (0 : Int) < _ ∧ _ < _; omega) | (refine Or.inr ?_; show (-(2 ^ 64) : Int) < _ ∧ _ < _; omega) | (refine Or.inl ?_; show (-(2 ^ 64) : Int) < _ ∧ _ < _; omega) | exact divW (by omega) (by omega) _ | (refine ⟨by decide, by decide, ?_⟩; decide))
local macro_rules | `(tactic| walk_at "go1") => `(tactic| first
  | refine ⟨_, rfl, ?_⟩
  | refine ⟨_, _, rfl, rfl, (by walk_at "side"), ?_⟩
  | refine ⟨_, _, rfl, (by walk_at "side"), ?_⟩
  | refine ⟨_, _, rfl, rfl, ?_⟩
  | refine Or.inl ⟨_, rfl, ?_⟩
  | refine ⟨_, _, rfl, Or.inl (by walk_at "sq"), ?_⟩
  | walk_at "ixl"
  | walk_at "setl"
  | refine ⟨_, _, rfl, (by walk_at "sq"), rfl, ?_⟩
  | refine ⟨_, _, rfl, (by walk_at "sq"), ?_⟩
  | refine ⟨_, _, rfl, ?_⟩
  | refine ⟨rfl, ?_⟩
  | refine ⟨small (Nat.le_of_ble_eq_true rfl), ?_⟩)
local macro_rules | `(tactic| walk_at "go") => `(tactic| repeat walk_at "go1")

abbrev sis_integer : Stmt := topS 16
theorem scis_integer : FnScope ["value"] ["value"] (defScope sis_integer) := ⟨rfl, rfl, rfl, by decide +kernel, rfl, by decide +kernel, by decide +kernel⟩
abbrev sis_integer_within : Stmt := topS 17
theorem scis_integer_within : FnScope ["value", "low", "high"] ["value", "low", "high"] (defScope sis_integer_within) := ⟨rfl, rfl, rfl, by decide +kernel, rfl, by decide +kernel, by decide +kernel⟩
abbrev sis_number : Stmt := topS 18
theorem scis_number : FnScope ["value"] ["value"] (defScope sis_number) := ⟨rfl, rfl, rfl, by decide +kernel, rfl, by decide +kernel, by decide +kernel⟩
abbrev scheck_number : Stmt := topS 19
theorem sccheck_number : FnScope ["given"] ["given"] (defScope scheck_number) := ⟨rfl, rfl, rfl, by decide +kernel, rfl, by decide +kernel, by decide +kernel⟩
abbrev scheck_bases : Stmt := topS 51
theorem sccheck_bases : FnScope ["bases", "index", "base"] ["bases"] (defScope scheck_bases) := ⟨rfl, rfl, rfl, by decide +kernel, rfl, by decide +kernel, by decide +kernel⟩
abbrev sis_row : Stmt := topS 52
theorem scis_row : FnScope ["bases", "value", "field", "every", "count"] ["bases", "value"] (defScope sis_row) := ⟨rfl, rfl, rfl, by decide +kernel, rfl, by decide +kernel, by decide +kernel⟩
abbrev scheck_rows : Stmt := topS 53
theorem sccheck_rows : FnScope ["bases", "rows", "index", "row"] ["bases", "rows"] (defScope scheck_rows) := ⟨rfl, rfl, rfl, by decide +kernel, rfl, by decide +kernel, by decide +kernel⟩
/-- the constants of the program's modules -/
structure Consts (mg : Str → Option Value) : Prop where
  MOST_BASES : ∃ t, mg "MOST_BASES" = some (.int 3 t)
  MOST_ROWS : ∃ t, mg "MOST_ROWS" = some (.int 6 t)
  MOST_GROUPS : ∃ t, mg "MOST_GROUPS" = some (.int 7200 t)
  LEAST_BASE : ∃ t, mg "LEAST_BASE" = some (.int 2 t)
  GREATEST_BASE : ∃ t, mg "GREATEST_BASE" = some (.int 60 t)
  GREATEST_EVERY : ∃ t, mg "GREATEST_EVERY" = some (.int 60 t)
theorem within_true {a b c : Int} (h1 : a ≤ b) (h2 : b ≤ c) : (decide (a ≤ b) && decide (b ≤ c)) = true := by
  rw [decide_eq_true h1, decide_eq_true h2]
  rfl
def spIsInt : Sp := fun vs H Q _ => ∃ n : Int, vs = [.int n] ∧ Q (.bl true) H
def spWithin : Sp := fun vs H Q _ => ∃ n lo hi : Int, vs = [.int n, .int lo, .int hi] ∧ Q (.bl (decide (lo ≤ n) && decide (n ≤ hi))) H
def spIsNum : Sp := fun vs H Q _ => ∃ n : Int, vs = [.int n] ∧ Q (.bl (decide (0 ≤ n))) H
def spChkNum : Sp := fun vs H Q _ => ∃ n : Int, vs = [.int n] ∧ 0 ≤ n ∧ Q .non H
def spChkBases (K : PySem.W.Frag) : Sp := fun vs H Q _ => ∃ (a : Addr) (bs : List Int), vs = [.ref a] ∧ SqT K H a (bs.map V.int) ∧ 1 ≤ bs.length ∧ bs.length ≤ 3 ∧ (∀ x ∈ bs, 2 ≤ x ∧ x ≤ 60) ∧ ∀ H', Same H H' → Q .non H'
def spIsRow (K : PySem.W.Frag) : Sp := fun vs H Q _ => ∃ (a r : Addr) (bs : List Int) (x : R3), vs = [.ref a, .ref r] ∧ SqT K H a (bs.map V.int) ∧ 1 ≤ bs.length ∧ SqT K H r [.int x.1, .int x.2.1, .int x.2.2] ∧ RowOk 60 bs x ∧ ∀ H', Same H H' → Q (.bl true) H'
/-- at r a tuple of rows, each a tuple of three ints -/
def RowsAt (K : PySem.W.Frag) (H : Hp) (r : Addr) (rows : List R3) : Prop := ∃ as : List Addr, SqT K H r (as.map V.ref) ∧ Paired (fun a (x : R3) => SqT K H a [.int x.1, .int x.2.1, .int x.2.2]) as rows
theorem RowsAt.same {K : PySem.W.Frag} {H H' : Hp} {r : Addr} {rows : List R3} (h : RowsAt K H r rows) (s : Same H H') : RowsAt K H' r rows := by
  obtain ⟨as, e, p⟩ := h
  exact ⟨as, Same.seqT s e, paired_imp p fun a _ x q => Same.seqT s q⟩
def spChkRows (K : PySem.W.Frag) : Sp := fun vs H Q _ => ∃ (a r : Addr) (bs : List Int) (rows : List R3), vs = [.ref a, .ref r] ∧ SqT K H a (bs.map V.int) ∧ 1 ≤ bs.length ∧ RowsAt K H r rows ∧ rows.length ≤ 6 ∧ (∀ x ∈ rows, RowOk 60 bs x) ∧ ∀ H', Same H H' → Q .non H'
theorem tyT {K : PySem.W.Frag} {H : Hp} {a : Addr} {xs : List V} (h : SqT K H a xs) : TyX K H (.ref a) (.type "tuple") := by
  rcases h with (h | ⟨o, h⟩) | h
  · exact .base (.tup h)
  · exact .fTuple h
  · obtain ⟨o, its, n, e, c, _⟩ := h
    exact .kTuple e c
section
variable {P : Program} {w : World} {K : PySem.W.Frag} {mg : Str → Option Value} {base : Heap}
theorem ok_isint {f : Addr} {fd : FuncData} (F : Fun K "is_integer" "is_integer" sis_integer f fd) (N : Names mg) : FnOk P w K mg base CX0 1 f fd ["value"] spIsInt := by
  have sc := scis_integer
  refine F.ok sc (fun vs H Q E h => ?_) (fun cdv A outer s H vs Q E hr h => ?_)
  · obtain ⟨n, rfl, _⟩ := h
    rfl
  · obtain ⟨n, rfl, k⟩ := h
    refine ⟨_, (pss_one (ps_ret (pe_and (pe_callB call_isi (by rfl) N.isinstance (by decide +kernel) (pa_cons (pv 0) (pa_cons (pe_ty "int" rfl N.int (by decide +kernel)) pa_nil))) (pe_one (pe_not (pe_callB call_isi (by rfl) N.isinstance (by decide +kernel) (pa_cons (pv 0) (pa_cons (pe_ty "bool" rfl N.bool (by decide +kernel)) pa_nil)))))))), ?_⟩
    refine ⟨_, rfl, _, _, _, _, _, rfl, .ty _, .base (.int n), kit_ty (r := true) (by decide +kernel), _, rfl, ?_⟩
    exact ⟨_, rfl, _, _, _, _, _, rfl, .ty _, .base (.int n), kit_ty (r := false) (by decide +kernel), _, rfl, k⟩
theorem ok_within {f : Addr} {fd : FuncData} (F : Fun K "is_integer_within" "is_integer_within" sis_integer_within f fd) (Dis_integer : DefK P w K mg base "is_integer" ["value"] 1 spIsInt) : FnOk P w K mg base CX0 2 f fd ["value", "low", "high"] spWithin := by
  have sc := scis_integer_within
  refine F.ok sc (fun vs H Q E h => ?_) (fun cdv A outer s H vs Q E hr h => ?_)
  · obtain ⟨n, lo, hi, rfl, _⟩ := h
    rfl
  · obtain ⟨n, lo, hi, rfl, k⟩ := h
    refine ⟨_, (pss_one (ps_ret (pe_and (pe_d Dis_integer (hr.mono (by decide)) rfl (pa_cons (pv 0) pa_nil)) (pe_one (pe_chain op_le op_le (pv 1) (pv 0) (pv 2)))))), ?_⟩
    refine ⟨_, rfl, n, rfl, _, rfl, ?_⟩
    refine ⟨_, rfl, _, rfl, _, _, rfl, rfl, _, rfl, ?_⟩
    refine ifD (fun hd => ?_) (fun hd => ?_)
    · refine ⟨_, rfl, _, _, rfl, rfl, ?_⟩
      rw [decide_eq_true hd, Bool.true_and] at k
      exact k
    · rw [decide_eq_false hd, Bool.false_and] at k
      exact k
theorem ok_isnum {f : Addr} {fd : FuncData} (F : Fun K "is_number" "is_number" sis_number f fd) (Dis_integer : DefK P w K mg base "is_integer" ["value"] 1 spIsInt) : FnOk P w K mg base CX0 2 f fd ["value"] spIsNum := by
  have sc := scis_number
  refine F.ok sc (fun vs H Q E h => ?_) (fun cdv A outer s H vs Q E hr h => ?_)
  · obtain ⟨n, rfl, _⟩ := h
    rfl
  · obtain ⟨n, rfl, k⟩ := h
    refine ⟨_, (pss_one (ps_ret (pe_and (pe_d Dis_integer (hr.mono (by decide)) rfl (pa_cons (pv 0) pa_nil)) (pe_one (pe_cmpR op_ge (pv 0) pe_int (nomark _)))))), ?_⟩
    refine ⟨_, rfl, n, rfl, _, rfl, ?_⟩
    exact ⟨_, rfl, _, _, rfl, rfl, k⟩
theorem ok_chknum {f : Addr} {fd : FuncData} (F : Fun K "check_number" "check_number" scheck_number f fd) (Dis_number : DefK P w K mg base "is_number" ["value"] 2 spIsNum) : FnOk P w K mg base CX0 3 f fd ["given"] spChkNum := by
  have sc := sccheck_number
  refine F.ok sc (fun vs H Q E h => ?_) (fun cdv A outer s H vs Q E hr h => ?_)
  · obtain ⟨n, rfl, _⟩ := h
    rfl
  · obtain ⟨n, rfl, h0, k⟩ := h
    refine ⟨_, (pss_one (ps_if (pt_not (pt_val (pe_d Dis_number (hr.mono (by decide)) rfl (pa_cons (pv 0) pa_nil)))) (pss_one ps_never) pss_nil)), ?_⟩
    refine ⟨_, rfl, n, rfl, _, rfl, ?_⟩
    rw [decide_eq_true h0]
    exact iteF k
theorem ok_chkbases {f : Addr} {fd : FuncData} (F : Fun K "check_bases" "check_bases" scheck_bases f fd) (N : Names mg) (M : Consts mg) (Dis_integer_within : DefK P w K mg base "is_integer_within" ["value", "low", "high"] 2 spWithin) : FnOk P w K mg base CX0 3 f fd ["bases"] (spChkBases K) := by
  have sc := sccheck_bases
  refine F.ok sc (fun vs H Q E h => ?_) (fun cdv A outer s H vs Q E hr h => ?_)
  · obtain ⟨a, bs, rfl, _⟩ := h
    rfl
  · obtain ⟨a, bs, rfl, hb, b0, b1, bb, k⟩ := h
    refine ⟨_, (pss_cons (ps_if (PW.pt (pw_or (pt_not (pt_val (pe_callB call_isi (by rfl) N.isinstance (by decide +kernel) (pa_cons (pv 0) (pa_cons (pe_ty "tuple" rfl N.tuple (by decide +kernel)) pa_nil))))) (pw_or1 (pt_not (pt_chain op_le op_le pe_int (pe_callB call_len_seq (by rfl) N.len (by decide +kernel) (pa_cons (pv 0) pa_nil)) (pe_const rfl M.MOST_BASES)))))) (pss_one ps_never) pss_nil)
      (pss_one (ps_for PassesOwn.never rfl (pi_enumT rfl N.enumerate (pa_cons (pv 0) pa_nil)) (pg_tup rfl (pgs_cons (pg_name (i := 1) sc.nd rfl (Or.inl rfl)) (pgs_cons (pg_name (i := 2) sc.nd rfl (Or.inl rfl)) pgs_nil))) (pss_one (ps_if (pt_not (pt_val (pe_d Dis_integer_within (hr.mono (by decide)) rfl (pa_cons (pv 2) (pa_cons (pe_const rfl M.LEAST_BASE) (pa_cons (pe_const rfl M.GREATEST_BASE) pa_nil)))))) (pss_one ps_never) pss_nil))))), ?_⟩
    refine ⟨_, rfl, _, _, _, _, _, rfl, .ty _, tyT hb, kit_ty (r := true) (by decide +kernel), _, rfl, ?_⟩
    refine iteF ?_
    refine ⟨_, rfl, a, _, rfl, .inr hb, _, _, rfl, rfl, _, rfl, ?_⟩
    rw [List.length_map]
    refine ifD (fun hd => ?_) (fun hd => absurd (by omega) hd)
    refine ⟨_, _, rfl, rfl, _, rfl, ?_⟩
    refine ifN (fun hd => absurd (by show ((bs.length : Nat) : Int) ≤ 3; omega) hd) (fun hd => ?_)
    refine ⟨_, rfl, a, _, rfl, hb, for_enumT (K := K) (xs := bs.map V.int) (fun i σ H' => ∃ v1 v2 : Option V, σ = [some (.ref a), v1, v2] ∧ Same H H') ⟨_, _, rfl, Same.refl H⟩ (fun i σ H' _ ⟨_, _, _, s⟩ => Same.seqT s hb) ?_ ?_⟩
    · rintro i x T σ H' hx nT ⟨v1, v2, rfl, sm⟩
      obtain ⟨b, hb', rfl⟩ : ∃ b, bs[i]? = some b ∧ x = V.int b := by
        rw [List.getElem?_map] at hx
        obtain ⟨z, hz, e⟩ := Option.map_eq_some_iff.mp hx
        exact ⟨z, hz, e.symm⟩
      have hbb := bb b (List.mem_of_getElem? hb')
      refine ⟨T, _, rfl, SqT.tup upd_same, rfl, _, _, rfl, _, _, rfl, rfl, ?_⟩
      refine ⟨_, rfl, b, 2, 60, rfl, _, rfl, ?_⟩
      rw [decide_eq_true hbb.1, decide_eq_true hbb.2]
      refine iteF ?_
      exact ⟨_, _, rfl, Same.of_new sm nT⟩
    · rintro σ H' ⟨v1, v2, rfl, sm⟩
      exact k H' sm
theorem ok_isrow {f : Addr} {fd : FuncData} (F : Fun K "is_row" "is_row" sis_row f fd) (N : Names mg) (M : Consts mg) (Dis_integer_within : DefK P w K mg base "is_integer_within" ["value", "low", "high"] 2 spWithin) : FnOk P w K mg base CX0 3 f fd ["bases", "value"] (spIsRow K) := by
  have sc := scis_row
  refine F.ok sc (fun vs H Q E h => ?_) (fun cdv A outer s H vs Q E hr h => ?_)
  · obtain ⟨a, r, bs, x, rfl, _⟩ := h
    rfl
  · obtain ⟨a, r, bs, x, rfl, hb, b0, hx, ⟨o1, o2, o3, o4, o5, o6⟩, k⟩ := h
    refine ⟨_, (pss_cons (ps_if (PW.pt (pw_or (pt_not (pt_val (pe_callB call_isi (by rfl) N.isinstance (by decide +kernel) (pa_cons (pv 1) (pa_cons (pe_ty "tuple" rfl N.tuple (by decide +kernel)) pa_nil))))) (pw_or1 (pt_cmpR op_ne (pe_callB call_len_seq (by rfl) N.len (by decide +kernel) (pa_cons (pv 1) pa_nil)) pe_int (nomark _))))) (pss_one (ps_ret pe_bl)) pss_nil)
      (pss_cons (ps_asg (pv 1) (pg_tup rfl (pgs_cons (pg_name (i := 2) sc.nd rfl (Or.inl rfl)) (pgs_cons (pg_name (i := 3) sc.nd rfl (Or.inl rfl)) (pgs_cons (pg_name (i := 4) sc.nd rfl (Or.inl rfl)) pgs_nil)))))
      (pss_one (ps_ret (pe_and (pe_d Dis_integer_within (hr.mono (by decide)) rfl (pa_cons (pv 2) (pa_cons pe_int (pa_cons (pe_op op_sub (pe_callB call_len_seq (by rfl) N.len (by decide +kernel) (pa_cons (pv 0) pa_nil)) pe_int) pa_nil)))) (pe_and (pe_d Dis_integer_within (hr.mono (by decide)) rfl (pa_cons (pv 3) (pa_cons pe_int (pa_cons (pe_const rfl M.GREATEST_EVERY) pa_nil)))) (pe_one (pe_d Dis_integer_within (hr.mono (by decide)) rfl (pa_cons (pv 4) (pa_cons pe_int (pa_cons (pe_op op_sub (pe_ix ix_tup (pv 0) (pe_un un_neg pe_int) (fun _ _ => rfl)) pe_int) pa_nil))))))))))), ?_⟩
    refine ⟨_, rfl, _, _, _, _, _, rfl, .ty _, tyT hx, kit_ty (r := true) (by decide +kernel), _, rfl, ?_⟩
    refine iteF ?_
    refine ⟨_, rfl, r, _, rfl, .inr hx, rfl, _, rfl, ?_⟩
    refine iteF ?_
    refine ⟨_, rfl, r, _, rfl, hx, rfl, _, _, rfl, _, _, rfl, _, _, rfl, rfl, ?_⟩
    refine ⟨_, rfl, _, rfl, a, _, rfl, .inr hb, _, _, rfl, rfl, x.1, 0, _, rfl, _, rfl, ?_⟩
    rw [within_true o1 (by rw [List.length_map]; omega)]
    refine iteT ?_
    refine ⟨_, rfl, x.2.1, 1, 60, rfl, _, rfl, ?_⟩
    rw [within_true o3 o4]
    refine iteT ?_
    refine ⟨_, rfl, _, rfl, _, rfl, a, _, _, _, rfl, rfl, hb, getLastD_map bs b0, _, _, rfl, rfl, x.2.2, 0, _, rfl, ?_⟩
    rw [within_true o5 (by omega)]
    exact k H (Same.refl H)
theorem ok_chkrows {f : Addr} {fd : FuncData} (F : Fun K "check_rows" "check_rows" scheck_rows f fd) (N : Names mg) (M : Consts mg) (Dis_row : DefK P w K mg base "is_row" ["bases", "value"] 3 (spIsRow K)) : FnOk P w K mg base CX0 4 f fd ["bases", "rows"] (spChkRows K) := by
  have sc := sccheck_rows
  refine F.ok sc (fun vs H Q E h => ?_) (fun cdv A outer s H vs Q E hr h => ?_)
  · obtain ⟨a, r, bs, rows, rfl, _⟩ := h
    rfl
  · obtain ⟨a, r, bs, rows, rfl, hb, b0, hR, r6, ro, k⟩ := h
    obtain ⟨as, hrt, pr⟩ := id hR
    have hpl := pr.length
    refine ⟨_, (pss_cons (ps_if (PW.pt (pw_or (pt_not (pt_val (pe_callB call_isi (by rfl) N.isinstance (by decide +kernel) (pa_cons (pv 1) (pa_cons (pe_ty "tuple" rfl N.tuple (by decide +kernel)) pa_nil))))) (pw_or1 (pt_cmpR op_gt (pe_callB call_len_seq (by rfl) N.len (by decide +kernel) (pa_cons (pv 1) pa_nil)) (pe_const rfl M.MOST_ROWS) (nomark _))))) (pss_one ps_never) pss_nil)
      (pss_one (ps_for PassesOwn.never rfl (pi_enumT rfl N.enumerate (pa_cons (pv 1) pa_nil)) (pg_tup rfl (pgs_cons (pg_name (i := 2) sc.nd rfl (Or.inl rfl)) (pgs_cons (pg_name (i := 3) sc.nd rfl (Or.inl rfl)) pgs_nil))) (pss_one (ps_if (pt_not (pt_val (pe_d Dis_row (hr.mono (by decide)) rfl (pa_cons (pv 0) (pa_cons (pv 3) pa_nil))))) (pss_one ps_never) pss_nil))))), ?_⟩
    refine ⟨_, rfl, _, _, _, _, _, rfl, .ty _, tyT hrt, kit_ty (r := true) (by decide +kernel), _, rfl, ?_⟩
    refine iteF ?_
    refine ⟨_, rfl, r, _, rfl, .inr hrt, _, _, rfl, rfl, _, rfl, ?_⟩
    refine ifD (fun hd => absurd hd (by rw [List.length_map]; omega)) (fun hd => ?_)
    refine ⟨_, rfl, r, _, rfl, hrt, for_enumT (K := K) (xs := as.map V.ref) (fun i σ H' => ∃ v1 v2 : Option V, σ = [some (.ref a), some (.ref r), v1, v2] ∧ Same H H') ⟨_, _, rfl, Same.refl H⟩ (fun i σ H' _ ⟨_, _, _, s⟩ => Same.seqT s hrt) ?_ ?_⟩
    · rintro i x T σ H' hx nT ⟨v1, v2, rfl, sm⟩
      obtain ⟨ra, ha, rfl⟩ : ∃ b, as[i]? = some b ∧ x = V.ref b := by
        rw [List.getElem?_map] at hx
        obtain ⟨z, hz, e⟩ := Option.map_eq_some_iff.mp hx
        exact ⟨z, hz, e.symm⟩
      obtain ⟨y, hy, hya⟩ := paired_at pr ha
      have sT : Same H (upd H' T (.tup [.int ((i : Nat) : Int), .ref ra])) := Same.of_new sm nT
      refine ⟨T, _, rfl, SqT.tup upd_same, rfl, _, _, rfl, _, _, rfl, rfl, ?_⟩
      refine ⟨_, rfl, _, rfl, a, ra, bs, y, rfl, Same.seqT sT hb, b0, Same.seqT sT hya, ro y (List.mem_of_getElem? hy), fun H5 s5 => ?_⟩
      refine ⟨_, rfl, iteF ?_⟩
      exact ⟨_, _, rfl, sT.trans s5⟩
    · rintro σ H' ⟨v1, v2, rfl, sm⟩
      exact k H' sm
end
end LM

set_option Elab.async false
set_option linter.all false
set_option maxRecDepth 100000
set_option maxHeartbeats 4000000
namespace LM
open PySem PySem.Spec PyProof.Rows L2
def rgN (i j c : Int) : Nat := if i < j then ((j - i - 1) / c + 1).toNat else 0
theorem rgN_le {i j c : Int} (hi : i ≤ j) (hc : 1 ≤ c) : (rgN i j c : Int) ≤ j - i := by
  unfold rgN
  split
  · have h1 : (j - i - 1) / c ≤ j - i - 1 := Int.ediv_le_self _ (by omega)
    omega
  · omega
theorem RgC.pos {i j c : Int} (h0 : 0 ≤ i) (h1 : i ≤ j) (h2 : j ≤ 10000000) (h3 : 1 ≤ c) (h4 : c ≤ 10000000) : RgC i j c (rgN i j c) := by
  have hs : Builtin.Range.rangeSize i j c = ((rgN i j c : Nat) : Int) := by
    unfold Builtin.Range.rangeSize rgN
    rw [if_pos (by omega)]
    by_cases h : i < j
    · rw [if_pos h, if_pos h]
      have : 0 ≤ (j - i - 1) / c := Int.ediv_nonneg (by omega) (by omega)
      omega
    · rw [if_neg h, if_neg h]
      rfl
  have hl := rgN_le h1 h3
  refine ⟨by omega, by omega, ?_, hs⟩
  unfold Builtin.Range.small
  rw [hs]
  simp only [Builtin.Range.rangeFitsLong, Bool.and_eq_true, Bool.or_eq_true, decide_eq_true_eq, beq_iff_eq]
  refine ⟨by omega, .inr ?_⟩
  rw [if_pos (by omega)]
  simp only [Bool.and_eq_true, decide_eq_true_eq]
  omega
/-- list(range(a, b, c)) -/
def rg3V (i c : Int) (n : Nat) : List V := (List.range n).map fun k => V.int (i + (k : Nat) * c)
def tLstRg3 (ta : TA) : TE := fun σ H Q => ta σ H fun vs H1 => ∃ (i j c : Int) (n : Nat), vs = [.int i, .int j, .int c] ∧ RgC i j c n ∧ n ≤ 2 ^ 24 ∧ ∀ q, H1 q = none → Q (.ref q) (upd H1 q (.lst (rg3V i c n)))
theorem vals_rg3 {i c : Int} {n : Nat} {acc : Array Value} (h : ItemsOf (fun k v => ∃ t, v = .int (i + k * c) t) acc n) : Vals (rg3V i c n) acc.toList := by
  have e : acc.toList.length = n := by rw [Array.length_toList]; exact h.1
  unfold rg3V
  rw [← e]
  refine vals_of_get acc.toList _ fun j u hj => ?_
  exact h.2 j u (by rw [← hj, Array.getElem?_toList])
theorem pe_listRg3 {X : Cx} {a b c : Expr} {ta : TA} {p pos p2 pos2 : Pos} (hc : X.calm = true) (hg : Gl X "list") (hm : X.mg "list" = none) (hg2 : Gl X "range") (hm2 : X.mg "range" = none) (ha : PA X [a, b, c] ta)
    (hs : starEach [a, b, c] X.env = (false, eval a X.env) :: starEach [b, c] X.env := by rfl) (hpl : (backTo pos2 (starEach [b, c] X.env)).any (·.1) = false := by rfl)
    (na : starEach [.Call (.Name "range" p2) [a, b, c] [] pos2] X.env = (false, eval (.Call (.Name "range" p2) [a, b, c] [] pos2) X.env) :: starEach [] X.env := by rfl) :
    PE X (.Call (.Name "list" p) [.Call (.Name "range" p2) [a, b, c] [] pos2] [] pos) (tLstRg3 ta) := by
  refine ⟨fun pins s σ H Q I h => ?_⟩
  refine Call_ (ld_blt I hg hm boot_list (PyProof.Rows.callWith_type1 (args_cons (Call_ (ld_blt I hg2 hm2 boot_range (PyProof.Rows.callWith_type1 (thn (ha.run pos2 pins s σ H _ I h) fun us s1 ⟨vs, H1, I1, r1, q1⟩ => ?_) hs hpl))) na) na))
  obtain ⟨i, j, k, n, e, ⟨c0, c1, c2, c3⟩, hn, q⟩ := q1
  subst e
  cases r1 with
  | cons r rr =>
    cases rr with
    | cons r' rr =>
      cases rr with
      | cons r'' rr =>
        cases rr
        obtain ⟨t, rfl⟩ := r
        obtain ⟨t', rfl⟩ := r'
        obtain ⟨t'', rfl⟩ := r''
        refine call_range_3 c0 ?_ (.inl (PyProof.noPylong_small c1))
        refine args_nil ?_
        have I2 : Inv X pins σ H1 { s1 with heap := s1.heap.push { cls := .type "range", data := .fields #[.int i t, .int j t', .int k t''] } } := I1.kept (t' := s1.toks) fun b o e => Heap.get?_push_of_some _ e
        refine call_list_range (n := n) (I2.ok.hd hc) (IsRange.new ..) c2 c3 hn fun h' tk acc c' hk e' hi => ?_
        have hsz : (rg3V i k n).length ≤ sizeLine := by
          unfold rg3V
          rw [List.length_map, List.length_range, sizeLine_eq]
          omega
        exact ⟨.ref _, upd H1 _ (.lst (rg3V i k n)), I2.laid hk (Nat.le_refl _) (show ObjOk X.prog X.w _ _ _ (.lst (rg3V i k n)) from ⟨hsz, acc.toList, c', vals_rg3 hi, by rw [Array.toArray_toList]; exact e'⟩), rfl, q _ (I2.hok.fresh (Nat.le_refl _))⟩
end LM
namespace LM
open PySem PySem.Spec PyProof.Rows L2
theorem if_joinH {p : Prop} [Decidable p] {ta tb : TE} {σ : L2.St} {H : Hp} {Q : VK} (P : V → Hp → Prop) (h1 : p → ∀ Q' : VK, (∀ v H', P v H' → Q' v H') → ta σ H Q') (h2 : ¬ p → ∀ Q' : VK, (∀ v H', P v H' → Q' v H') → tb σ H Q') (k : ∀ v H', P v H' → Q v H') :
    if decide p = true then ta σ H Q else tb σ H Q := ifD (fun h => h1 h Q k) (fun h => h2 h Q k)
end LM

set_option Elab.async false
set_option linter.all false
set_option maxRecDepth 100000
set_option maxHeartbeats 4000000
set_option pp.maxSteps 600
set_option pp.deepTerms false
namespace LM
open PySem PySem.Spec PyProof.Rows L2
local macro_rules | `(tactic| walk_at "hp") => `(tactic| first | assumption | exact upd_same | (rw [upd_ne (by assumption)]; assumption) | (rw [upd_ne (Ne.symm (by assumption))]; assumption) | (rw [upd_ne (by assumption)]; exact upd_same) | (rw [upd_ne (Ne.symm (by assumption))]; exact upd_same))
local macro_rules | `(tactic| walk_at "sq") => `(tactic| first | assumption | exact Or.inl (Or.inl (by assumption)) | exact Or.inl (Or.inl upd_same) | exact Or.inl (Or.inl (by walk_at "hp")))
local macro_rules | `(tactic| walk_at "ixl") => `(tactic| refine ⟨_, _, _, _, rfl, rfl, (by walk_at "sq"), (by rfl), ?_⟩)
local macro_rules | `(tactic| walk_at "setl") => `(tactic| refine ⟨_, _, _, _, rfl, rfl, (by walk_at "hp"), (by rfl), ?_⟩)
local macro_rules | `(tactic| walk_at "side") => `(tactic| refine idP ?_; first | omega | (show (0 : Int) < _; omega) | (show (0 : Int) < _ ∧ _ < _; omega) | (refine Or.inr ?_; show (-(2 ^ 64) : Int) < _ ∧ _ < _; omega) | (refine Or.inl ?_; show (-(2 ^ 64) : Int) < _ ∧ _ < _; omega) | exact divW (by omega) (by omega) _ | (refine ⟨by decide, by decide, ?_⟩; decide))
local macro_rules | `(tactic| walk_at "go1") => `(tactic| first
  | refine ⟨_, rfl, ?_⟩
  | refine ⟨_, _, rfl, rfl, (by walk_at "side"), ?_⟩
  | refine ⟨_, _, rfl, (by walk_at "side"), ?_⟩
  | refine ⟨_, _, rfl, rfl, ?_⟩
  | refine Or.inl ⟨_, rfl, ?_⟩
  | refine ⟨_, _, rfl, Or.inl (by walk_at "sq"), ?_⟩
  | walk_at "ixl"
  | walk_at "setl"
  | refine ⟨_, _, rfl, (by walk_at "sq"), rfl, ?_⟩
  | refine ⟨_, _, rfl, (by walk_at "sq"), ?_⟩
  | refine ⟨_, _, rfl, ?_⟩
  | refine ⟨rfl, ?_⟩
  | refine ⟨small (Nat.le_of_ble_eq_true rfl), ?_⟩)
local macro_rules | `(tactic| walk_at "go") => `(tactic| repeat walk_at "go1")

abbrev sspaced : Stmt := topS 54
theorem scspaced : FnScope ["parts", "part"] ["parts"] (defScope sspaced) := ⟨rfl, rfl, rfl, by decide +kernel, rfl, by decide +kernel, by decide +kernel⟩
abbrev shouse_text : Stmt := topS 55
theorem schouse_text : FnScope ["bases", "rows", "lines", "row"] ["bases", "rows"] (defScope shouse_text) := ⟨rfl, rfl, rfl, by decide +kernel, rfl, by decide +kernel, by decide +kernel⟩
abbrev sgroups_in_unit : Stmt := topS 40
theorem scgroups_in_unit : FnScope ["bases", "field", "groups", "base"] ["bases", "field"] (defScope sgroups_in_unit) := ⟨rfl, rfl, rfl, by decide +kernel, rfl, by decide +kernel, by decide +kernel⟩
abbrev sgroups_to_repeat : Stmt := topS 41
theorem scgroups_to_repeat : FnScope ["bases", "rows", "cycle", "field", "every", "_"] ["bases", "rows"] (defScope sgroups_to_repeat) := ⟨rfl, rfl, rfl, by decide +kernel, rfl, by decide +kernel, by decide +kernel⟩
abbrev sfitted_groups : Stmt := topS 42
theorem scfitted_groups : FnScope ["bases", "row", "groups", "field", "every", "_", "step", "span", "fitted", "start"] ["bases", "row", "groups"] (defScope sfitted_groups) := ⟨rfl, rfl, rfl, by decide +kernel, rfl, by decide +kernel, by decide +kernel⟩
abbrev sskipped_counts : Stmt := topS 43
theorem scskipped_counts : FnScope ["bases", "rows", "groups", "counts", "row", "group"] ["bases", "rows", "groups"] (defScope sskipped_counts) := ⟨rfl, rfl, rfl, by decide +kernel, rfl, by decide +kernel, by decide +kernel⟩
abbrev sleast_repeat : Stmt := topS 44
theorem scleast_repeat : FnScope ["counts", "many", "step"] ["counts"] (defScope sleast_repeat) := ⟨rfl, rfl, rfl, by decide +kernel, rfl, by decide +kernel, by decide +kernel⟩
abbrev ssums_ahead : Stmt := topS 45
theorem scsums_ahead : FnScope ["numbers", "total", "sums", "number"] ["numbers"] (defScope ssums_ahead) := ⟨rfl, rfl, rfl, by decide +kernel, rfl, by decide +kernel, by decide +kernel⟩
def numS (n : Int) : Str := toString n
def spacedS (ns : List Int) : Str := Txt.join " " (ns.map numS)
theorem numS_len {n : Int} (h0 : 0 ≤ n) (h1 : n ≤ 60) : (numS n).length ≤ 62 := by
  have := len_str_of_int n
  unfold numS
  omega
theorem join_le (a : Str) (ys : List Str) (m : Nat) (h : ∀ y ∈ ys, y.length ≤ m) : (ys.map (·.length)).sum + ys.length * a.length ≤ ys.length * (m + a.length) := by
  induction ys with
  | nil => simp
  | cons y ys ih =>
    have h1 := h y List.mem_cons_self
    have h2 := ih fun z hz => h z (List.mem_cons_of_mem _ hz)
    simp only [List.map_cons, List.sum_cons, List.length_cons, Nat.succ_mul]
    omega
theorem join_len (a : Str) (ys : List Str) (m : Nat) (h : ∀ y ∈ ys, y.length ≤ m) : (Txt.join a ys).length ≤ ys.length * (m + a.length) := by
  have h1 : (Txt.join a ys).length = (Str.join a ys).length := by
    show (Builtin.Str.glued a ys).length = _
    rw [StrLaws.glued_eq_join]
  rw [h1]
  exact Nat.le_trans (StrLaws.join_length_le a ys) (join_le a ys m h)
theorem spaced_len {ns : List Int} (h3 : ns.length ≤ 3) (h : ∀ x ∈ ns, 0 ≤ x ∧ x ≤ 60) : (spacedS ns).length ≤ 200 := by
  have := join_len " " (ns.map numS) 62 (fun y hy => by
    obtain ⟨x, hx, rfl⟩ := List.mem_map.mp hy
    exact numS_len (h x hx).1 (h x hx).2)
  rw [List.length_map] at this
  have e : ((" " : Str)).length = 1 := by decide
  rw [e] at this
  unfold spacedS
  omega
def spSpaced (K : PySem.W.Frag) : Sp := fun vs H Q _ => ∃ (a : Addr) (ns : List Int), vs = [.ref a] ∧ SqT K H a (ns.map V.int) ∧ ns.length ≤ 3 ∧ (∀ x ∈ ns, 0 ≤ x ∧ x ≤ 60) ∧ ∀ H', Same H H' → Q (.str (spacedS ns)) H'
section
variable {P : Program} {w : World} {K : PySem.W.Frag} {mg : Str → Option Value} {base : Heap}
theorem ok_spaced {f : Addr} {fd : FuncData} (F : Fun K "spaced" "spaced" sspaced f fd) (N : Names mg) : FnOk P w K mg base CX0 1 f fd ["parts"] (spSpaced K) := by
  have sc := scspaced
  refine F.ok sc (fun vs H Q E h => ?_) (fun cdv A outer s H vs Q E hr h => ?_)
  · obtain ⟨a, ns, rfl, _⟩ := h
    rfl
  · obtain ⟨a, ns, rfl, ha, h3, hb, k⟩ := h
    refine ⟨_, (pss_one (ps_ret (pe_join pe_str (pe_lc (own := [("part", 1)]) rfl sc.nd (pi_tup (pv 0)) (blkOk_by (own := [("part", 1)]) (N := ["parts", "part"]) (sc := defScope (topS 54)) (by decide +kernel)) (fun _ _ _ _ _ => (pg_name (i := 1) sc.nd rfl (Or.inl rfl))) (fun _ _ _ _ _ => pts_nil) (fun _ _ _ _ _ => (pe_callTy (T := "str") call_str_int (by rfl) N.str (by decide +kernel) (pa_cons (pv 1) pa_nil))))))), ?_⟩
    refine ⟨⟨_, rfl⟩, _, rfl, a, rfl, ⟨_, ha⟩, ?_⟩
    intro D nD
    refine lc_tup (K := K) (xs := ns.map V.int) (fun i H' => Same H H' ∧ H' D = some (.lst (((ns.take i).map numS).map V.str))) ⟨same_new nD, upd_same⟩ (fun i H' _ ⟨s, _⟩ => Same.seqT s ha) ?_ ?_
    · rintro i x H' hx ⟨sm, eD⟩
      obtain ⟨n, hn, rfl⟩ : ∃ b, ns[i]? = some b ∧ x = V.int b := by
        rw [List.getElem?_map] at hx
        obtain ⟨z, hz, e⟩ := Option.map_eq_some_iff.mp hx
        exact ⟨z, hz, e.symm⟩
      obtain ⟨b0, b1⟩ := hb n (List.mem_of_getElem? hn)
      have hl : n.natAbs.log2 < 1920 := by
        rcases Nat.eq_zero_or_pos n.natAbs with z | z
        · rw [z]; decide
        · exact Nat.lt_trans ((Nat.log2_lt (by omega)).mpr (show n.natAbs < 2 ^ 6 by omega)) (by decide)
      refine ⟨rfl, ?_⟩
      refine ⟨_, rfl, n, rfl, hl, _, eD, smallLt (by rw [List.length_map, List.length_map, List.length_take]; omega), same_mut sm nD, ?_⟩
      rw [upd_same, List.take_add_one, hn, List.map_append, List.map_append]
      rfl
    · rintro H' ⟨sm, eD⟩
      rw [List.take_of_length_le (by rw [List.length_map]; exact Nat.le_refl _)] at eD
      refine ⟨_, D, _, rfl, rfl, .inl (SqL.lst eD), ?_, k H' sm⟩
      refine Nat.le_trans (join_le _ _ 62 fun y hy => ?_) ?_
      · obtain ⟨x, hx, rfl⟩ := List.mem_map.mp hy
        exact numS_len (hb x hx).1 (hb x hx).2
      · rw [List.length_map]
        have e : ((" " : Str)).length = 1 := by decide
        rw [e]
        omega
def rowS (x : R3) : Str := Str.empty ++ "skip " ++ spacedS [x.1, x.2.1, x.2.2]
def houseS (bs : List Int) (rows : List R3) : Str := Txt.join "\n" ((Str.empty ++ "house " ++ spacedS bs) :: rows.map rowS)
def spHouseText (K : PySem.W.Frag) : Sp := fun vs H Q _ => ∃ (a r : Addr) (bs : List Int) (rows : List R3), vs = [.ref a, .ref r] ∧ SqT K H a (bs.map V.int) ∧ bs.length ≤ 3 ∧ (∀ x ∈ bs, 0 ≤ x ∧ x ≤ 60) ∧ RowsAt K H r rows ∧ rows.length ≤ 6 ∧ (∀ x ∈ rows, RowOk 60 bs x) ∧
  (∀ x ∈ rows, x.2.2 ≤ 60) ∧ ∀ H', Same H H' → Q (.str (houseS bs rows)) H'
theorem ok_housetext {f : Addr} {fd : FuncData} (F : Fun K "house_text" "house_text" shouse_text f fd) (Dspaced : DefK P w K mg base "spaced" ["parts"] 1 (spSpaced K)) : FnOk P w K mg base CX0 2 f fd ["bases", "rows"] (spHouseText K) := by
  have sc := schouse_text
  refine F.ok sc (fun vs H Q E h => ?_) (fun cdv A outer s H vs Q E hr h => ?_)
  · obtain ⟨a, r, bs, rows, rfl, _⟩ := h
    rfl
  · obtain ⟨a, r, bs, rows, rfl, ha, h3, hb, hR, r6, ro, rc, k⟩ := h
    refine ⟨_, (pss_cons (ps_set (i := 2) sc.nd rfl (Or.inl rfl) (pe_lst (pa_cons (pe_joined (.cons pe_str (.cons (pe_fmt (pe_d Dspaced (hr.mono (by decide)) rfl (pa_cons (pv 0) pa_nil))) .nil))) pa_nil)))
      (pss_cons (ps_for PassesOwn.never rfl (pi_tup (pv 1)) (pg_name (i := 3) sc.nd rfl (Or.inl rfl)) (pss_one (ps_expr (pe_bm PySem.F.plainAttrs_list PySem.F.slot_list_append PySem.F.type_list_append mt_append (pv 2) (pa_cons (pe_joined (.cons pe_str (.cons (pe_fmt (pe_d Dspaced (hr.mono (by decide)) rfl (pa_cons (pv 3) pa_nil))) .nil))) pa_nil)))))
      (pss_one (ps_ret (pe_join pe_str (pv 2)))))), ?_⟩
    have hls := spaced_len h3 hb
    have l0 : (Str.empty ++ ("house " : Str)).length = 6 := by decide
    have l1 : (Str.empty ++ ("skip " : Str)).length = 5 := by decide
    refine ⟨_, rfl, small (by rw [l0]; omega), _, rfl, a, bs, rfl, ha, h3, hb, fun H1 s1 => ?_⟩
    refine .inl ⟨_, rfl, small (by omega), _, rfl, small (by rw [Str.length_append, l0]; omega), ?_⟩
    refine ⟨Nat.le_of_ble_eq_true rfl, ?_⟩
    (intro l nl; generalize e_l : upd H1 l _ = H2; have s2 : Same H1 H2 := fun b x hb => (congrFun e_l b).symm.trans (same_new nl b x hb); have h2 := (congrFun e_l l).symm.trans upd_same; clear e_l)
    have s02 := s1.trans s2
    have nl0 : H l = none := s1.free nl
    obtain ⟨as, hrt, pr⟩ := id hR
    have hpl := pr.length
    refine ⟨_, rfl, r, rfl, ⟨_, Same.seqT s02 hrt⟩, for_tup (K := K) (xs := as.map V.ref) (fun i σ H' => ∃ v3 : Option V, σ = [some (.ref a), some (.ref r), some (.ref l), v3] ∧ Same H H' ∧ H' l = some (.lst (((Str.empty ++ "house " ++ spacedS bs) :: (rows.take i).map rowS).map V.str)))
      ⟨_, rfl, s02, h2⟩ (fun i σ H' _ ⟨_, _, s, _⟩ => Same.seqT s hrt) ?_ ?_⟩
    · rintro i x σ H' hx ⟨v3, rfl, sm, el⟩
      obtain ⟨ra, hra, rfl⟩ : ∃ b, as[i]? = some b ∧ x = V.ref b := by
        rw [List.getElem?_map] at hx
        obtain ⟨z, hz, e⟩ := Option.map_eq_some_iff.mp hx
        exact ⟨z, hz, e.symm⟩
      obtain ⟨y, hy, hya⟩ := paired_at pr hra
      have hym := List.mem_of_getElem? hy
      obtain ⟨o1, o2, o3, o4, o5, o6⟩ := ro y hym
      have o7 := rc y hym
      have hb3 : ∀ x ∈ [y.1, y.2.1, y.2.2], 0 ≤ x ∧ x ≤ 60 := fun x hx => by
        simp at hx
        rcases hx with rfl | rfl | rfl <;> omega
      have hl3 := spaced_len (ns := [y.1, y.2.1, y.2.2]) (Nat.le_refl 3) hb3
      refine ⟨_, rfl, .inl ⟨rfl, _, SqL.lst el⟩, _, rfl, small (by rw [l1]; omega), _, rfl, ra, [y.1, y.2.1, y.2.2], rfl, Same.seqT sm hya, Nat.le_refl 3, hb3, fun H5 s5 => ?_⟩
      refine .inl ⟨_, rfl, small (by omega), _, rfl, small (by rw [Str.length_append, l1]; omega), ?_⟩
      refine ⟨l, _, _, rfl, rfl, s5 _ _ el, smallLt (by simp only [List.length_map, List.length_cons, List.length_take]; omega), ?_⟩
      refine ⟨_, rfl, same_mut (sm.trans s5) nl0, ?_⟩
      rw [upd_same, List.take_add_one, hy]
      simp only [List.map_cons, List.map_append, List.cons_append]
      rfl
    · rintro σ H' ⟨v3, rfl, sm, el⟩
      rw [List.take_of_length_le (by rw [List.length_map, hpl]; exact Nat.le_refl _)] at el
      refine ⟨⟨_, rfl⟩, _, rfl, _, l, _, rfl, rfl, .inl (SqL.lst el), ?_, k H' sm⟩
      refine Nat.le_trans (join_le _ _ 300 fun y hy => ?_) ?_
      · rcases List.mem_cons.mp hy with rfl | hy
        · rw [Str.length_append, l0]
          omega
        · obtain ⟨x, hx, rfl⟩ := List.mem_map.mp hy
          obtain ⟨o1, o2, o3, o4, o5, o6⟩ := ro x hx
          have o7 := rc x hx
          have hb3 : ∀ z ∈ [x.1, x.2.1, x.2.2], 0 ≤ z ∧ z ≤ 60 := fun z hz => by
            simp at hz
            rcases hz with rfl | rfl | rfl <;> omega
          have hl3 := spaced_len (ns := [x.1, x.2.1, x.2.2]) (Nat.le_refl 3) hb3
          unfold rowS
          rw [Str.length_append, l1]
          omega
      · have e : (("\n" : Str)).length = 1 := by decide
        rw [List.length_cons, List.length_map, e]
        omega
def unitP (bs : List Int) (f : Nat) : Nat := (bs.dropLast.drop f).foldl (fun a b => a * b.toNat) 1
def spUnit (K : PySem.W.Frag) : Sp := fun vs H Q _ => ∃ (a : Addr) (bs : List Int) (f : Nat), vs = [.ref a, .int (f : Int)] ∧ SqT K H a (bs.map V.int) ∧ f < bs.length ∧ bs.length ≤ 3 ∧ (∀ x ∈ bs, 2 ≤ x ∧ x ≤ 60) ∧ ∀ H', Same H H' → Q (.int ((unitP bs f : Nat) : Int)) H'
theorem ok_unit {f : Addr} {fd : FuncData} (F : Fun K "groups_in_unit" "groups_in_unit" sgroups_in_unit f fd) : FnOk P w K mg base CX0 1 f fd ["bases", "field"] (spUnit K) := by
  have sc := scgroups_in_unit
  refine F.ok sc (fun vs H Q E h => ?_) (fun cdv A outer s H vs Q E hr h => ?_)
  · obtain ⟨a, bs, f, rfl, _⟩ := h
    rfl
  · obtain ⟨a, bs, f, rfl, ha, hf, h3, hb, k⟩ := h
    refine ⟨_, (pss_cons (ps_set (i := 2) sc.nd rfl (Or.inl rfl) pe_int)
      (pss_cons (ps_for PassesOwn.never rfl (pi_tup (pe_slice sl_tup (pv 0) (po_some (pv 1)) (po_some (pe_un un_neg pe_int)))) (pg_name (i := 3) sc.nd rfl (Or.inl rfl)) (pss_one (ps_aug (i := 2) sc.nd rfl (Or.inl rfl) (pv 3) ip_mul)))
      (pss_one (ps_ret (pv 2))))), ?_⟩
    walk_at "go"
    have el : (bs.map V.int).length = bs.length := List.length_map ..
    refine ⟨fun z => ?_, ?_⟩
    · have := z.2
      rw [sIx_last, el] at this
      omega
    (intro d nd; generalize e_d : upd H d _ = H1; have s1 : Same H H1 := fun b x hb => (congrFun e_d b).symm.trans (same_new nd b x hb); have h1 := (congrFun e_d d).symm.trans upd_same; clear e_d)
    have h1' : H1 d = some (.tup ((bs.dropLast.drop f).map V.int)) := by
      rw [h1, cut_fb _ _ (by rw [el]; omega), List.map_drop, List.map_dropLast]
    refine ⟨d, rfl, ⟨_, SqT.tup h1'⟩, for_tup (K := K) (xs := (bs.dropLast.drop f).map V.int) (fun i σ H' => ∃ v3 : Option V, σ = [some (.ref a), some (.int ((f : Nat) : Int)), some (.int ((((bs.dropLast.drop f).take i).foldl (fun a b => a * b.toNat) 1 : Nat) : Int)), v3] ∧ H1 = H')
      ⟨_, rfl, rfl⟩ (fun i σ H' _ ⟨_, _, e⟩ => by rw [← e]; exact SqT.tup h1') ?_ ?_⟩
    · rintro i x σ H' hx ⟨v3, rfl, rfl⟩
      obtain ⟨b, hb', rfl⟩ : ∃ b, (bs.dropLast.drop f)[i]? = some b ∧ x = V.int b := by
        rw [List.getElem?_map] at hx
        obtain ⟨z, hz, e⟩ := Option.map_eq_some_iff.mp hx
        exact ⟨z, hz, e.symm⟩
      have hbb := hb b ((List.dropLast_sublist bs).subset (List.mem_of_mem_drop (List.mem_of_getElem? hb')))
      have st := take_fold (fun (a : Nat) (b : Int) => a * b.toNat) 1 _ i b hb'
      have e6 : (((((bs.dropLast.drop f).take i).foldl (fun a b => a * b.toNat) 1 : Nat) : Int)) * b = ((((bs.dropLast.drop f).take (i + 1)).foldl (fun a b => a * b.toNat) 1 : Nat) : Int) := by
        rw [st, Int.natCast_mul, Int.toNat_of_nonneg (by omega)]
      refine ⟨_, rfl, _, rfl, _, _, rfl, rfl, .inr ⟨by omega, by omega⟩, ?_⟩
      exact ⟨_, (by rw [← e6]; rfl), rfl⟩
    · rintro σ H' ⟨v3, rfl, rfl⟩
      rw [List.take_of_length_le (by rw [List.length_map]; exact Nat.le_refl _)]
      exact ⟨_, rfl, k _ s1⟩
def spRepeat (K : PySem.W.Frag) : Sp := fun vs H Q _ => ∃ (a r : Addr) (bs : List Int) (rows : List R3), vs = [.ref a, .ref r] ∧ SqT K H a (bs.map V.int) ∧ 1 ≤ bs.length ∧ bs.length ≤ 3 ∧ (∀ x ∈ bs, 2 ≤ x ∧ x ≤ 60) ∧ RowsAt K H r rows ∧ (∀ x ∈ rows, RowOk 60 bs x) ∧ everyL rows ≤ 100000000 ∧
  ∀ H', Same H H' → Q (.int ((unitP bs 0 * everyL rows : Nat) : Int)) H'
theorem ok_repeat {f : Addr} {fd : FuncData} (F : Fun K "groups_to_repeat" "groups_to_repeat" sgroups_to_repeat f fd) (N : Names mg) (Dgroups_in_unit : DefK P w K mg base "groups_in_unit" ["bases", "field"] 1 (spUnit K)) : FnOk P w K mg base CX0 2 f fd ["bases", "rows"] (spRepeat K) := by
  have sc := scgroups_to_repeat
  refine F.ok sc (fun vs H Q E h => ?_) (fun cdv A outer s H vs Q E hr h => ?_)
  · obtain ⟨a, r, bs, rows, rfl, _⟩ := h
    rfl
  · obtain ⟨a, r, bs, rows, rfl, ha, b0, b3, hb, hR, ro, hE, k⟩ := h
    refine ⟨_, (pss_cons (ps_set (i := 2) sc.nd rfl (Or.inl rfl) pe_int)
      (pss_cons (ps_for PassesOwn.never rfl (pi_tup (pv 1)) (pg_tup rfl (pgs_cons (pg_name (i := 3) sc.nd rfl (Or.inl rfl)) (pgs_cons (pg_name (i := 4) sc.nd rfl (Or.inl rfl)) (pgs_cons (pg_name (i := 5) sc.nd rfl (Or.inl rfl)) pgs_nil)))) (pss_one (ps_if (pt_cmpR op_eq (pv 3) pe_int (nomark _)) (pss_one (ps_set (i := 2) sc.nd rfl (Or.inl rfl) (pe_callBfun cr_lcm (by rfl) N.lcm (pa_cons (pv 2) (pa_cons (pv 4) pa_nil))))) pss_nil)))
      (pss_one (ps_ret (pe_op op_mul (pe_d Dgroups_in_unit (hr.mono (by decide)) rfl (pa_cons (pv 0) (pa_cons pe_int pa_nil))) (pv 2)))))), ?_⟩
    obtain ⟨as, hrt, pr⟩ := id hR
    have hpl := pr.length
    have hr1 : ∀ r ∈ rows, 1 ≤ r.2.1 := fun r hm => (ro r hm).2.2.1
    refine ⟨_, rfl, r, rfl, ⟨_, hrt⟩, for_tup (K := K) (xs := as.map V.ref) (fun i σ H' => ∃ v3 v4 v5 : Option V, σ = [some (.ref a), some (.ref r), some (.int (((rows.take i).foldl everyStep 1 : Nat) : Int)), v3, v4, v5] ∧ H = H')
      ⟨_, _, _, rfl, rfl⟩ (fun i σ H' _ ⟨_, _, _, _, e⟩ => by rw [← e]; exact hrt) ?_ ?_⟩
    · rintro i x σ H' hx ⟨v3, v4, v5, rfl, rfl⟩
      obtain ⟨ra, hra, rfl⟩ : ∃ b, as[i]? = some b ∧ x = V.ref b := by
        rw [List.getElem?_map] at hx
        obtain ⟨z, hz, e⟩ := Option.map_eq_some_iff.mp hx
        exact ⟨z, hz, e.symm⟩
      obtain ⟨y, hy, hya⟩ := paired_at pr hra
      obtain ⟨o1, o2, o3, o4, o5, o6⟩ := ro y (List.mem_of_getElem? hy)
      have st := take_fold everyStep 1 rows i y hy
      have hei1 : 1 ≤ (rows.take i).foldl everyStep 1 := every_mono _ 1 (by decide) fun r hm => hr1 r (List.mem_of_mem_take hm)
      have hei2 : (rows.take i).foldl everyStep 1 ≤ 100000000 := by
        refine Nat.le_trans ?_ hE
        have e : everyL rows = (rows.drop i).foldl everyStep ((rows.take i).foldl everyStep 1) := by
          unfold everyL
          rw [← List.foldl_append, List.take_append_drop]
        rw [e]
        exact every_mono _ _ (by omega) fun r hm => hr1 r (List.mem_of_mem_drop hm)
      refine ⟨ra, _, rfl, hya, rfl, _, _, rfl, _, _, rfl, _, _, rfl, rfl, ?_⟩
      refine ⟨_, rfl, rfl, _, rfl, ?_⟩
      refine ifD (fun hd => ?_) (fun hd => ?_)
      · have hz : y.1 = 0 := V.int.inj hd
        have e6 : everyStep ((rows.take i).foldl everyStep 1) y = Nat.lcm ((rows.take i).foldl everyStep 1) y.2.1.toNat := by
          unfold everyStep
          rw [if_pos hz]
        have e7 : y.2.1.natAbs = y.2.1.toNat := by omega
        refine ⟨_, rfl, _, rfl, _, _, rfl, by omega, by omega, ?_⟩
        exact ⟨_, _, _, (by rw [st, e6, Int.natAbs_natCast, e7]; rfl), rfl⟩
      · have hz : y.1 ≠ 0 := fun z => hd (congrArg V.int z)
        have e6 : everyStep ((rows.take i).foldl everyStep 1) y = (rows.take i).foldl everyStep 1 := by
          unfold everyStep
          rw [if_neg hz]
        exact ⟨_, _, _, (by rw [st, e6]; rfl), rfl⟩
    · rintro σ H' ⟨v3, v4, v5, rfl, rfl⟩
      rw [List.take_of_length_le (by rw [List.length_map, hpl]; exact Nat.le_refl _)]
      refine ⟨_, rfl, a, bs, 0, rfl, ha, by omega, b3, hb, fun H1 s1 => ?_⟩
      refine ⟨_, rfl, _, _, rfl, rfl, .inr ⟨?_, ?_⟩, ?_⟩
      · omega
      · show ((everyL rows : Nat) : Int) < 2 ^ 64
        omega
      · have := k H1 s1
        rw [Int.natCast_mul] at this
        exact this
end
end LM

set_option Elab.async false
set_option linter.all false
set_option maxRecDepth 100000
set_option maxHeartbeats 4000000
set_option pp.maxSteps 600
set_option pp.deepTerms false
namespace LM
open PySem PySem.Spec PyProof.Rows L2
local macro_rules | `(tactic| walk_at "hp") => `(tactic| first | assumption | exact upd_same | (rw [upd_ne (by assumption)]; assumption) | (rw [upd_ne (Ne.symm (by assumption))]; assumption) | (rw [upd_ne (by assumption)]; exact upd_same) | (rw [upd_ne (Ne.symm (by assumption))]; exact upd_same))
local macro_rules | `(tactic| walk_at "sq") => `(tactic| first | assumption | exact Or.inl (Or.inl (by assumption)) | exact Or.inl (Or.inl upd_same) | exact Or.inl (Or.inl (by walk_at "hp")))
local macro_rules | `(tactic| walk_at "ixl") => `(tactic| refine ⟨_, _, _, _, rfl, rfl, (by walk_at "sq"), (by rfl), ?_⟩)
local macro_rules | `(tactic| walk_at "setl") => `(tactic| refine ⟨_, _, _, _, rfl, rfl, (by walk_at "hp"), (by rfl), ?_⟩)
local macro_rules | `(tactic| walk_at "side") => `(tactic| refine idP ?_; first | omega | (show (0 : Int) < _; omega) | (show (0 : Int) < _ ∧ _ < _; omega) | (refine Or.inr ?_; show (-(2 ^ 64) : Int) < _ ∧ _ < _; omega) | (refine Or.inl ?_; show (-(2 ^ 64) : Int) < _ ∧ _ < _; omega) | exact divW (by omega) (by omega) _ | (refine ⟨by decide, by decide, ?_⟩; decide))
local macro_rules | `(tactic| walk_at "go1") => `(tactic| first
  | refine ⟨_, rfl, ?_⟩
  | refine ⟨_, _, rfl, rfl, (by walk_at "side"), ?_⟩
  | refine ⟨_, _, rfl, (by walk_at "side"), ?_⟩
  | refine ⟨_, _, rfl, rfl, ?_⟩
  | refine Or.inl ⟨_, rfl, ?_⟩
  | refine ⟨_, _, rfl, Or.inl (by walk_at "sq"), ?_⟩
  | walk_at "ixl"
  | walk_at "setl"
  | refine ⟨_, _, rfl, (by walk_at "sq"), rfl, ?_⟩
  | refine ⟨_, _, rfl, (by walk_at "sq"), ?_⟩
  | refine ⟨_, _, rfl, ?_⟩
  | refine ⟨rfl, ?_⟩
  | refine ⟨small (Nat.le_of_ble_eq_true rfl), ?_⟩)
local macro_rules | `(tactic| walk_at "go") => `(tactic| repeat walk_at "go1")

/-- the groups from start on by step below start + span -/
def segN (span step start : Nat) : List Nat := (List.range (rgN (start : Int) ((start : Int) + (span : Int)) (step : Int))).map fun j => start + j * step
def fitsP (span step n : Nat) : List Nat := ((List.range (rgN 0 (n : Int) (span : Int))).map fun k => segN span step (k * span)).flatten
def stepP (bs : List Int) (r : R3) : Nat := unitP bs r.1.toNat * r.2.1.toNat
def spanP (bs : List Int) (r : R3) (n : Nat) : Nat := if r.1 = 0 then n else unitP bs (r.1.toNat - 1)
def castL (ns : List Nat) : List Int := ns.map fun k => ((k : Nat) : Int)
theorem castL_app (a b : List Nat) : castL (a ++ b) = castL a ++ castL b := List.map_append ..
def spFitted (K : PySem.W.Frag) : Sp := fun vs H Q _ => ∃ (a r : Addr) (bs : List Int) (x : R3) (n : Nat), vs = [.ref a, .ref r, .int (n : Int)] ∧ SqT K H a (bs.map V.int) ∧ 1 ≤ bs.length ∧ bs.length ≤ 3 ∧ (∀ x ∈ bs, 2 ≤ x ∧ x ≤ 60) ∧ SqT K H r [.int x.1, .int x.2.1, .int x.2.2] ∧ RowOk 60 bs x ∧
  1 ≤ n ∧ n ≤ 7200 ∧ spanP bs x n ∣ n ∧ ∀ (l : Addr) H', Same H H' → H l = none → H' l = some (.lst ((castL (fitsP (spanP bs x n) (stepP bs x) n)).map V.int)) → Q (.ref l) H'
theorem rgN_nat (a b c : Nat) : rgN (a : Int) (b : Int) (c : Int) = if a < b then (b - a - 1) / c + 1 else 0 := by
  unfold rgN
  by_cases h : a < b
  · rw [if_pos h, if_pos (by omega), show ((b : Int) - (a : Int) - 1) = ((b - a - 1 : Nat) : Int) by omega, ← Int.natCast_ediv]
    generalize (b - a - 1) / c = z
    omega
  · rw [if_neg h, if_neg (by omega)]
theorem segN_len (span step start : Nat) (hs : 1 ≤ step) : (segN span step start).length ≤ span := by
  unfold segN
  rw [List.length_map, List.length_range, show ((start : Int) + (span : Int)) = ((start + span : Nat) : Int) by omega, rgN_nat]
  split
  · have := Nat.div_le_self (start + span - start - 1) step
    omega
  · omega
theorem flat_len (f : Nat → List Nat) (m : Nat) (h : ∀ k, (f k).length ≤ m) : ∀ i, (((List.range i).map f).flatten).length ≤ i * m
  | 0 => by simp
  | i + 1 => by
    have h1 := flat_len f m h i
    have h2 := h i
    rw [List.range_succ, List.map_append, List.flatten_append, List.length_append, Nat.add_mul, Nat.one_mul]
    simp only [List.map_cons, List.map_nil, List.flatten_cons, List.flatten_nil, List.append_nil]
    omega
theorem rg_count {n span : Nat} (h1 : 1 ≤ n) (hd : span ∣ n) : rgN 0 (n : Int) (span : Int) * span = n := by
  have e : rgN 0 (n : Int) (span : Int) = rgN ((0 : Nat) : Int) (n : Int) (span : Int) := rfl
  rw [e, rgN_nat, if_pos (by omega)]
  obtain ⟨q, rfl⟩ := hd
  have hs : 0 < span := Nat.pos_of_mul_pos_right (by omega : 0 < span * q)
  have hq : 0 < q := Nat.pos_of_mul_pos_left (by omega : 0 < span * q)
  have e2 : (span * q - 0 - 1) / span = q - 1 := by
    refine Nat.div_eq_of_lt_le ?_ ?_
    · rw [Nat.mul_comm, Nat.mul_sub_one]
      omega
    · rw [Nat.sub_add_cancel hq, Nat.mul_comm q span]
      omega
  rw [e2, Nat.sub_add_cancel hq, Nat.mul_comm]
theorem foldl_mul_le : ∀ (bs : List Int) (a : Nat), (∀ x ∈ bs, 2 ≤ x ∧ x ≤ 60) → bs.foldl (fun a b => a * b.toNat) a ≤ a * 60 ^ bs.length
  | [], a, _ => by simp
  | b :: bs, a, h => by
    have hb := h b List.mem_cons_self
    refine Nat.le_trans (foldl_mul_le bs _ fun x hx => h x (List.mem_cons_of_mem _ hx)) ?_
    rw [List.length_cons, Nat.pow_succ, Nat.mul_comm (60 ^ bs.length) 60, ← Nat.mul_assoc]
    exact Nat.mul_le_mul_right _ (Nat.mul_le_mul_left _ (by omega))
theorem unitP_le {bs : List Int} (h3 : bs.length ≤ 3) (h : ∀ x ∈ bs, 2 ≤ x ∧ x ≤ 60) (f : Nat) : unitP bs f ≤ 3600 := by
  unfold unitP
  refine Nat.le_trans (foldl_mul_le _ 1 fun x hx => h x ((List.dropLast_sublist bs).subset (List.mem_of_mem_drop hx))) ?_
  have hl : (bs.dropLast.drop f).length ≤ 2 := by rw [List.length_drop, List.length_dropLast]; omega
  have : 60 ^ (bs.dropLast.drop f).length ≤ 60 ^ 2 := Nat.pow_le_pow_right (by decide) hl
  omega
theorem unitP_pos {bs : List Int} (h : ∀ x ∈ bs, 2 ≤ x ∧ x ≤ 60) (f : Nat) : 1 ≤ unitP bs f :=
  foldl_mul_pos _ 1 (by decide) fun x hx => (h x ((List.dropLast_sublist bs).subset (List.mem_of_mem_drop hx))).1
section
variable {P : Program} {w : World} {K : PySem.W.Frag} {mg : Str → Option Value} {base : Heap}
theorem ok_fitted {f : Addr} {fd : FuncData} (F : Fun K "fitted_groups" "fitted_groups" sfitted_groups f fd) (N : Names mg) (Dgroups_in_unit : DefK P w K mg base "groups_in_unit" ["bases", "field"] 1 (spUnit K)) : FnOk P w K mg base CX0 2 f fd ["bases", "row", "groups"] (spFitted K) := by
  have sc := scfitted_groups
  refine F.ok sc (fun vs H Q E h => ?_) (fun cdv A outer s H vs Q E hr h => ?_)
  · obtain ⟨a, r, bs, x, n, rfl, _⟩ := h
    rfl
  · obtain ⟨a, r, bs, x, n, rfl, ha, b0, b3, hb, hx, ⟨o1, o2, o3, o4, o5, o6⟩, n1, n2, hdv, k⟩ := h
    refine ⟨_, (pss_cons (ps_asg (pv 1) (pg_tup rfl (pgs_cons (pg_name (i := 3) sc.nd rfl (Or.inl rfl)) (pgs_cons (pg_name (i := 4) sc.nd rfl (Or.inl rfl)) (pgs_cons (pg_name (i := 5) sc.nd rfl (Or.inl rfl)) pgs_nil)))))
      (pss_cons (ps_set (i := 6) sc.nd rfl (Or.inl rfl) (pe_op op_mul (pe_d Dgroups_in_unit (hr.mono (by decide)) rfl (pa_cons (pv 0) (pa_cons (pv 3) pa_nil))) (pv 4)))
      (pss_cons (ps_set (i := 7) sc.nd rfl (Or.inl rfl) (pe_ifExp (pt_cmpR op_eq (pv 3) pe_int (nomark _)) (pv 2) (pe_d Dgroups_in_unit (hr.mono (by decide)) rfl (pa_cons (pv 0) (pa_cons (pe_op op_sub (pv 3) pe_int) pa_nil)))))
      (pss_cons (ps_set (i := 8) sc.nd rfl (Or.inl rfl) (pe_lst pa_nil))
      (pss_cons (ps_for PassesOwn.never rfl (pi_range3 rfl N.range (pa_cons pe_int (pa_cons (pv 2) (pa_cons (pv 7) pa_nil)))) (pg_name (i := 9) sc.nd rfl (Or.inl rfl)) (pss_one (ps_expr (pe_bm PySem.F.plainAttrs_list PySem.F.slot_list_extend PySem.F.type_list_extend mt_extend (pv 8) (pa_cons (pe_listRg3 rfl (by rfl) N.list (by rfl) N.range (pa_cons (pv 9) (pa_cons (pe_op op_add (pv 9) (pv 7)) (pa_cons (pv 6) pa_nil)))) pa_nil)))))
      (pss_one (ps_ret (pv 8)))))))), ?_⟩
    obtain ⟨fi, hfi⟩ := nat_of o1
    have ef : x.1.toNat = fi := by omega
    refine ⟨_, rfl, r, _, rfl, hx, rfl, _, _, rfl, _, _, rfl, _, _, rfl, rfl, ?_⟩
    refine ⟨_, rfl, _, rfl, a, bs, fi, (by rw [← hfi]; rfl), ha, by omega, b3, hb, fun H1 s1 => ?_⟩
    have hU1 := unitP_pos hb fi
    have hU2 := unitP_le b3 hb fi
    refine ⟨_, rfl, _, _, rfl, rfl, .inr ⟨by omega, by omega⟩, ?_⟩
    have hst : ((unitP bs fi : Nat) : Int) * x.2.1 = ((stepP bs x : Nat) : Int) := by
      unfold stepP
      rw [ef, Int.natCast_mul, Int.toNat_of_nonneg (by omega)]
    have hst1 : 1 ≤ stepP bs x := by
      unfold stepP
      rw [ef]
      exact Nat.mul_pos hU1 (by omega)
    have hst2 : stepP bs x ≤ 3600 * 60 := by
      unfold stepP
      rw [ef]
      exact Nat.mul_le_mul hU2 (by omega)
    -- span
    refine ⟨_, rfl, rfl, _, rfl, ?_⟩
    refine if_joinH (fun v H' => v = .int ((spanP bs x n : Nat) : Int) ∧ Same H H') (fun hd Q' k' => ?_) (fun hd Q' k' => ?_) ?_
    · have hz : x.1 = 0 := V.int.inj hd
      refine ⟨_, rfl, k' _ _ ⟨?_, s1⟩⟩
      unfold spanP
      rw [if_pos hz]
    · have hz : x.1 ≠ 0 := fun z => hd (congrArg V.int z)
      refine ⟨_, rfl, _, rfl, _, _, rfl, rfl, a, bs, fi - 1, (by show [V.ref a, V.int (x.1 - 1)] = _; rw [hfi, show ((fi : Int) - 1) = ((fi - 1 : Nat) : Int) by omega]), Same.seqT s1 ha, by omega, b3, hb, fun H2 s2 => k' _ _ ⟨?_, s1.trans s2⟩⟩
      unfold spanP
      rw [if_neg hz, ef]
    rintro v H2 ⟨rfl, s2⟩
    generalize hsp : spanP bs x n = span at *
    generalize hstp : stepP bs x = step at *
    have hspan1 : 1 ≤ span := by
      rcases Nat.eq_zero_or_pos span with z | z
      · rw [z] at hdv
        have := Nat.eq_zero_of_zero_dvd hdv
        omega
      · exact z
    have hspan2 : span ≤ n := Nat.le_of_dvd (by omega) hdv
    have hcnt := rg_count n1 hdv
    refine ⟨Nat.le_of_ble_eq_true rfl, ?_⟩
    (intro l nl; generalize e_l : upd H2 l _ = H3; have s3 : Same H2 H3 := fun b x hb => (congrFun e_l b).symm.trans (same_new nl b x hb); have h3 := (congrFun e_l l).symm.trans upd_same; clear e_l)
    have s03 := s2.trans s3
    have nl0 : H l = none := s2.free nl
    have hgcd : RgC 0 (n : Int) (span : Int) (rgN 0 (n : Int) (span : Int)) := RgC.pos (by omega) (by omega) (by omega) (by omega) (by omega)
    refine ⟨_, rfl, _, rfl, 0, (n : Int), (span : Int), _, rfl, hgcd, for_rangeC (n := rgN 0 (n : Int) (span : Int)) (fun i σ H' => ∃ v9 : Option V, σ = [some (.ref a), some (.ref r), some (.int ((n : Nat) : Int)), some (.int x.1), some (.int x.2.1), some (.int x.2.2), some (.int ((step : Nat) : Int)), some (.int ((span : Nat) : Int)), some (.ref l), v9] ∧ Same H H' ∧
        H' l = some (.lst ((castL (((List.range i).map fun k => segN span step (k * span)).flatten)).map V.int)))
      ⟨_, (by rw [← hst]; rfl), s03, h3⟩ ?_ ?_⟩
    · rintro i σ H' hi ⟨v9, rfl, sm, el⟩
      have hip : i * span + span ≤ n := by
        have : (i + 1) * span ≤ rgN 0 (n : Int) (span : Int) * span := Nat.mul_le_mul_right _ hi
        rw [hcnt, Nat.add_mul, Nat.one_mul] at this
        exact this
      have hstart : (0 : Int) + ((i : Nat) : Int) * ((span : Nat) : Int) = ((i * span : Nat) : Int) := by rw [Int.zero_add, Int.natCast_mul]
      rw [hstart]
      have hrg : RgC ((i * span : Nat) : Int) (((i * span : Nat) : Int) + (span : Int)) (step : Int) (rgN ((i * span : Nat) : Int) (((i * span : Nat) : Int) + (span : Int)) (step : Int)) := RgC.pos (by omega) (by omega) (by omega) (by omega) (by omega)
      have hsl := segN_len span step (i * span) hst1
      have hsl2 : rgN ((i * span : Nat) : Int) (((i * span : Nat) : Int) + (span : Int)) (step : Int) = (segN span step (i * span)).length := by
        unfold segN
        rw [List.length_map, List.length_range]
      refine ⟨_, rfl, .inl ⟨rfl, _, SqL.lst el⟩, _, rfl, _, rfl, _, rfl, _, _, rfl, rfl, _, rfl, _, _, _, _, rfl, hrg, by omega, ?_⟩
      (intro q nq; generalize e_q : upd H' q _ = H5; have s5 : Same H' H5 := fun b x hb => (congrFun e_q b).symm.trans (same_new nq b x hb); have h5 := (congrFun e_q q).symm.trans upd_same; clear e_q)
      have hfl := flat_len (fun k => segN span step (k * span)) span (fun k => segN_len span step _ hst1) i
      refine ⟨l, q, _, _, rfl, rfl, s5 _ _ el, h5, small ?_, ?_⟩
      · unfold castL rg3V
        rw [List.length_map, List.length_map, List.length_map, List.length_range, hsl2]
        omega
      refine ⟨_, rfl, same_mut (sm.trans s5) nl0, ?_⟩
      rw [upd_same, List.range_succ, List.map_append, List.flatten_append, castL_app, List.map_append]
      have e : (rg3V ((i * span : Nat) : Int) ((step : Nat) : Int) (rgN ((i * span : Nat) : Int) (((i * span : Nat) : Int) + (span : Int)) (step : Int))) = (castL (segN span step (i * span))).map V.int := by
        unfold rg3V castL segN
        rw [List.map_map, List.map_map]
        refine List.map_congr_left fun j _ => ?_
        show V.int (((i * span : Nat) : Int) + ((j : Nat) : Int) * ((step : Nat) : Int)) = V.int (((i * span + j * step : Nat)) : Int)
        rw [Int.natCast_add, Int.natCast_mul j step]
      rw [e]
      simp
    · rintro σ H' ⟨v9, rfl, sm, el⟩
      exact ⟨_, rfl, k l H' sm nl0 el⟩
end
end LM

set_option Elab.async false
set_option linter.all false
set_option maxRecDepth 100000
set_option maxHeartbeats 4000000
set_option pp.maxSteps 600
set_option pp.deepTerms false
namespace LM
open PySem PySem.Spec PyProof.Rows L2
local macro_rules | `(tactic| walk_at "hp") => `(tactic| first | assumption | exact upd_same | (rw [upd_ne (by assumption)]; assumption) | (rw [upd_ne (Ne.symm (by assumption))]; assumption) | (rw [upd_ne (by assumption)]; exact upd_same) | (rw [upd_ne (Ne.symm (by assumption))]; exact upd_same))
local macro_rules | `(tactic| walk_at "sq") => `(tactic| first | assumption | exact Or.inl (Or.inl (by assumption)) | exact Or.inl (Or.inl upd_same) | exact Or.inl (Or.inl (by walk_at "hp")))
local macro_rules | `(tactic| walk_at "ixl") => `(tactic| refine ⟨_, _, _, _, rfl, rfl, (by walk_at "sq"), (by rfl), ?_⟩)
local macro_rules | `(tactic| walk_at "setl") => `(tactic| refine ⟨_, _, _, _, rfl, rfl, (by walk_at "hp"), (by rfl), ?_⟩)
local macro_rules | `(tactic| walk_at "side") => `(tactic| refine idP ?_; first | omega | (show (0 : Int) < _; omega) | (show (0 : Int) < _ ∧ _ < _; omega) | (refine Or.inr ?_; show (-(2 ^ 64) : Int) < _ ∧ _ < _; omega) | (refine Or.inl ?_; show (-(2 ^ 64) : Int) < _ ∧ _ < _; omega) | exact divW (by omega) (by omega) _ | (refine ⟨by decide, by decide, ?_⟩; decide))
local macro_rules | `(tactic| walk_at "go1") => `(tactic| first
  | refine ⟨_, rfl, ?_⟩
  | refine ⟨_, _, rfl, rfl, (by walk_at "side"), ?_⟩
  | refine ⟨_, _, rfl, (by walk_at "side"), ?_⟩
  | refine ⟨_, _, rfl, rfl, ?_⟩
  | refine Or.inl ⟨_, rfl, ?_⟩
  | refine ⟨_, _, rfl, Or.inl (by walk_at "sq"), ?_⟩
  | walk_at "ixl"
  | walk_at "setl"
  | refine ⟨_, _, rfl, (by walk_at "sq"), rfl, ?_⟩
  | refine ⟨_, _, rfl, (by walk_at "sq"), ?_⟩
  | refine ⟨_, _, rfl, ?_⟩
  | refine ⟨rfl, ?_⟩
  | refine ⟨small (Nat.le_of_ble_eq_true rfl), ?_⟩)
local macro_rules | `(tactic| walk_at "go") => `(tactic| repeat walk_at "go1")

def fitG (bs : List Int) (n : Nat) (r : R3) (g : Nat) : Prop := g ∈ fitsP (spanP bs r n) (stepP bs r) n
instance (bs : List Int) (n : Nat) (r : R3) (g : Nat) : Decidable (fitG bs n r g) := inferInstanceAs (Decidable (g ∈ _))
def cntStep (bs : List Int) (n g : Nat) (acc : Int) (r : R3) : Int := if fitG bs n r g then r.2.2 else acc
def cntP (bs : List Int) (rows : List R3) (n g : Nat) : Int := rows.foldl (cntStep bs n g) 0
def countsP (bs : List Int) (rows : List R3) (n : Nat) : List Int := (List.range n).map (cntP bs rows n)
theorem seg_bound {span step start g : Nat} (hs : 1 ≤ step) (h : g ∈ segN span step start) : start ≤ g ∧ g < start + span := by
  unfold segN at h
  obtain ⟨j, hj, rfl⟩ := List.mem_map.mp h
  have hj' := List.mem_range.mp hj
  rw [show ((start : Int) + (span : Int)) = ((start + span : Nat) : Int) by omega, rgN_nat] at hj'
  split at hj'
  · have h1 : j ≤ (start + span - start - 1) / step := by omega
    have h2 : j * step ≤ start + span - start - 1 := Nat.le_trans (Nat.mul_le_mul_right _ h1) (Nat.div_mul_le_self _ _)
    omega
  · omega
theorem fits_lt {span step n g : Nat} (h1 : 1 ≤ n) (hd : span ∣ n) (hs : 1 ≤ step) (h : g ∈ fitsP span step n) : g < n := by
  unfold fitsP at h
  obtain ⟨l, hl, hg⟩ := List.mem_flatten.mp h
  obtain ⟨k, hk, rfl⟩ := List.mem_map.mp hl
  have hk' := List.mem_range.mp hk
  have h2 := seg_bound hs hg
  have h3 : (k + 1) * span ≤ rgN 0 (n : Int) (span : Int) * span := Nat.mul_le_mul_right _ hk'
  rw [rg_count h1 hd, Nat.add_mul, Nat.one_mul] at h3
  omega
theorem set_range {α : Type} (f : Nat → α) (n g : Nat) (v : α) (hg : g < n) : ((List.range n).map f).set g v = (List.range n).map fun x => if x = g then v else f x := by
  apply List.ext_getElem?
  intro i
  rw [List.getElem?_set, List.getElem?_map, List.getElem?_map, List.length_map, List.length_range]
  by_cases h : g = i
  · subst h
    rw [if_pos rfl, if_pos hg, List.getElem?_range hg]
    simp
  · rw [if_neg h]
    by_cases hi : i < n
    · rw [List.getElem?_range hi]
      simp only [Option.map_some]
      rw [if_neg (fun z => h z.symm)]
    · rw [List.getElem?_eq_none (by rw [List.length_range]; omega)]
      rfl
def spSkipped (K : PySem.W.Frag) : Sp := fun vs H Q _ => ∃ (a r : Addr) (bs : List Int) (rows : List R3) (n : Nat), vs = [.ref a, .ref r, .int (n : Int)] ∧ SqT K H a (bs.map V.int) ∧ 1 ≤ bs.length ∧ bs.length ≤ 3 ∧ (∀ x ∈ bs, 2 ≤ x ∧ x ≤ 60) ∧ RowsAt K H r rows ∧ (∀ x ∈ rows, RowOk 60 bs x) ∧
  1 ≤ n ∧ n ≤ 7200 ∧ (∀ x ∈ rows, spanP bs x n ∣ n) ∧ ∀ (l : Addr) H', Same H H' → H l = none → H' l = some (.lst ((countsP bs rows n).map V.int)) → Q (.ref l) H'
section
variable {P : Program} {w : World} {K : PySem.W.Frag} {mg : Str → Option Value} {base : Heap}
theorem ok_skipped {f : Addr} {fd : FuncData} (F : Fun K "skipped_counts" "skipped_counts" sskipped_counts f fd) (Dfitted_groups : DefK P w K mg base "fitted_groups" ["bases", "row", "groups"] 2 (spFitted K)) : FnOk P w K mg base CX0 3 f fd ["bases", "rows", "groups"] (spSkipped K) := by
  have sc := scskipped_counts
  refine F.ok sc (fun vs H Q E h => ?_) (fun cdv A outer s H vs Q E hr h => ?_)
  · obtain ⟨a, r, bs, rows, n, rfl, _⟩ := h
    rfl
  · obtain ⟨a, r, bs, rows, n, rfl, ha, b0, b3, hb, hR, ro, n1, n2, hdv, k⟩ := h
    refine ⟨_, (pss_cons (ps_set (i := 3) sc.nd rfl (Or.inl rfl) (pe_op op_rep (pe_lst (pa_cons pe_int pa_nil)) (pv 2)))
      (pss_cons (ps_for PassesOwn.never rfl (pi_tup (pv 1)) (pg_name (i := 4) sc.nd rfl (Or.inl rfl)) (pss_one (ps_for PassesOwn.never rfl (pi_list (pe_d Dfitted_groups (hr.mono (by decide)) rfl (pa_cons (pv 0) (pa_cons (pv 4) (pa_cons (pv 2) pa_nil))))) (pg_name (i := 5) sc.nd rfl (Or.inl rfl)) (pss_one (ps_asg (pe_ix ix_tup (pv 4) pe_int (fun _ _ => rfl)) (pg_sub (pv 3) (pv 5) set_list))))))
      (pss_one (ps_ret (pv 3))))), ?_⟩
    refine ⟨Nat.le_of_ble_eq_true rfl, ?_⟩
    (intro z nz; generalize e_z : upd H z _ = H1; have s1 : Same H H1 := fun b x hb => (congrFun e_z b).symm.trans (same_new nz b x hb); have h1 := (congrFun e_z z).symm.trans upd_same; clear e_z)
    refine ⟨_, rfl, z, _, _, rfl, rfl, h1, by omega, by omega, small (by rw [List.length_singleton, Int.toNat_natCast]; omega), ?_⟩
    (intro l nl; generalize e_l : upd H1 l _ = H2; have s2 : Same H1 H2 := fun b x hb => (congrFun e_l b).symm.trans (same_new nl b x hb); have h2 := (congrFun e_l l).symm.trans upd_same; clear e_l)
    have s02 := s1.trans s2
    have nl0 : H l = none := s1.free nl
    obtain ⟨as, hrt, pr⟩ := id hR
    have hpl := pr.length
    have h2' : H2 l = some (.lst ((countsP bs [] n).map V.int)) := by
      rw [h2]
      unfold countsP cntP
      simp [List.map_const']
    refine ⟨_, rfl, r, rfl, ⟨_, Same.seqT s02 hrt⟩, for_tup (K := K) (xs := as.map V.ref) (fun i σ H' => ∃ v4 v5 : Option V, σ = [some (.ref a), some (.ref r), some (.int ((n : Nat) : Int)), some (.ref l), v4, v5] ∧ Same H H' ∧ H' l = some (.lst ((countsP bs (rows.take i) n).map V.int)))
      ⟨_, _, rfl, s02, h2'⟩ (fun i σ H' _ ⟨_, _, _, s, _⟩ => Same.seqT s hrt) ?_ ?_⟩
    · rintro i x σ H' hx ⟨v4, v5, rfl, sm, el⟩
      obtain ⟨ra, hra, rfl⟩ : ∃ b, as[i]? = some b ∧ x = V.ref b := by
        rw [List.getElem?_map] at hx
        obtain ⟨z, hz, e⟩ := Option.map_eq_some_iff.mp hx
        exact ⟨z, hz, e.symm⟩
      obtain ⟨y, hy, hya⟩ := paired_at pr hra
      have hym := List.mem_of_getElem? hy
      have hoy := ro y hym
      obtain ⟨o1, o2, o3, o4, o5, o6⟩ := id hoy
      have hstep : 1 ≤ stepP bs y := Nat.mul_pos (unitP_pos hb _) (by omega)
      refine ⟨_, rfl, _, rfl, _, rfl, a, ra, bs, y, n, rfl, Same.seqT sm ha, b0, b3, hb, Same.seqT sm hya, hoy, n1, n2, hdv y hym, fun q H5 s5 nq eq5 => ?_⟩
      generalize hfits : fitsP (spanP bs y n) (stepP bs y) n = fits at *
      have hflt : ∀ g ∈ fits, g < n := fun g hg => fits_lt n1 (hdv y hym) hstep (by rw [hfits]; exact hg)
      have hql : q ≠ l := fun z => by rw [z, el] at nq; cases nq
      refine ⟨q, rfl, ⟨_, SqL.lst eq5⟩, for_list (K := K) (xs := (castL fits).map V.int) (fun j σ H' => ∃ v5 : Option V, σ = [some (.ref a), some (.ref r), some (.int ((n : Nat) : Int)), some (.ref l), some (.ref ra), v5] ∧ Same H H' ∧ H' q = some (.lst ((castL fits).map V.int)) ∧
          H' l = some (.lst (((List.range n).map fun g => if g ∈ fits.take j then y.2.2 else cntP bs (rows.take i) n g).map V.int)))
        ⟨_, rfl, sm.trans s5, eq5, ?_⟩ (fun j σ H' _ ⟨_, _, _, e, _⟩ => SqL.lst e) ?_ ?_⟩
      · rw [s5 _ _ el]
        unfold countsP
        simp
      · rintro j x σ H6 hx ⟨w5, rfl, sm6, e6q, e6l⟩
        obtain ⟨g, hg, rfl⟩ : ∃ g : Nat, fits[j]? = some g ∧ x = V.int ((g : Nat) : Int) := by
          unfold castL at hx
          rw [List.map_map, List.getElem?_map] at hx
          obtain ⟨z, hz, e⟩ := Option.map_eq_some_iff.mp hx
          exact ⟨z, hz, e.symm⟩
        have hgn := hflt g (List.mem_of_getElem? hg)
        refine ⟨_, rfl, ra, _, 2, .int y.2.2, rfl, rfl, Same.seqT sm6 hya, rfl, ?_⟩
        refine ⟨_, rfl, _, rfl, l, _, _, g, rfl, rfl, e6l, Evl.ixN_nat (by simp; exact hgn), ?_⟩
        refine ⟨_, rfl, same_mut sm6 nl0, by rw [upd_ne hql]; exact e6q, ?_⟩
        rw [upd_same, ← List.map_set (f := V.int), set_range _ _ _ _ hgn]
        congr 2
        refine congrArg (List.map V.int) (List.map_congr_left fun x _ => ?_)
        rw [List.take_add_one, hg]
        by_cases hxg : x = g
        · simp [hxg]
        · simp [hxg]
      · rintro σ H6 ⟨w5, rfl, sm6, e6q, e6l⟩
        refine ⟨_, _, rfl, sm6, ?_⟩
        rw [e6l]
        unfold castL
        rw [List.length_map, List.length_map, List.take_of_length_le (Nat.le_refl _)]
        unfold countsP
        congr 2
        refine congrArg (List.map V.int) (List.map_congr_left fun x _ => ?_)
        unfold cntP
        rw [take_fold (cntStep bs n x) 0 rows i y hy]
        show (if x ∈ fits then y.2.2 else (rows.take i).foldl (cntStep bs n x) 0) = (if fitG bs n y x then y.2.2 else (rows.take i).foldl (cntStep bs n x) 0)
        by_cases hxf : x ∈ fits
        · have hG : fitG bs n y x := by show x ∈ fitsP _ _ _; rw [hfits]; exact hxf
          rw [if_pos hxf, if_pos hG]
        · have hG : ¬ fitG bs n y x := fun z => hxf (by rw [← hfits]; exact z)
          rw [if_neg hxf, if_neg hG]
    · rintro σ H' ⟨v4, v5, rfl, sm, el⟩
      rw [List.take_of_length_le (by rw [List.length_map, hpl]; exact Nat.le_refl _)] at el
      exact ⟨_, rfl, k l H' sm nl0 el⟩
/-- shifted by k the list is the same, as far as it goes -/
def repOk (cs : List Int) (k : Nat) : Prop := cs.length % k = 0 ∧ cs.drop k = cs.take (cs.length - k)
/-- k is the least such number from 1 on -/
def RepIs (cs : List Int) (k : Nat) : Prop := 1 ≤ k ∧ k ≤ cs.length ∧ repOk cs k ∧ ∀ j, 1 ≤ j → j < k → ¬ repOk cs j
def spLeast (K : PySem.W.Frag) : Sp := fun vs H Q _ => ∃ (a : Addr) (cs : List Int), vs = [.ref a] ∧ SqL K H a (cs.map V.int) ∧ 1 ≤ cs.length ∧ cs.length ≤ 100000 ∧ ∀ (k : Nat) H', Same H H' → RepIs cs k → Q (.int (k : Int)) H'
theorem ok_least {f : Addr} {fd : FuncData} (F : Fun K "least_repeat" "least_repeat" sleast_repeat f fd) (N : Names mg) : FnOk P w K mg base CX0 1 f fd ["counts"] (spLeast K) := by
  have sc := scleast_repeat
  refine F.ok sc (fun vs H Q E h => ?_) (fun cdv A outer s H vs Q E hr h => ?_)
  · obtain ⟨a, cs, rfl, _⟩ := h
    rfl
  · obtain ⟨a, cs, rfl, ha, c1, c2, k⟩ := h
    refine ⟨_, (pss_cons (ps_set (i := 1) sc.nd rfl (Or.inl rfl) (pe_callB call_len_seq (by rfl) N.len (by decide +kernel) (pa_cons (pv 0) pa_nil)))
      (pss_cons (ps_for PassesOwn.never rfl (pi_range2 rfl N.range (pa_cons pe_int (pa_cons (pv 1) pa_nil))) (pg_name (i := 2) sc.nd rfl (Or.inl rfl)) (pss_one (ps_if (PW.pt (pw_and (pt_cmpR op_eq (pe_op op_mod (pv 1) (pv 2)) pe_int (nomark _)) (pw_and1 (pt_cmpR (op_eqIs (hu64 hr)) (pe_slice sl_list (pv 0) (po_some (pv 2)) po_none) (pe_slice sl_list (pv 0) po_none (po_some (pe_op op_sub (pv 1) (pv 2)))) (nomark _))))) (pss_one (ps_ret (pv 2))) pss_nil)))
      (pss_one (ps_ret (pv 1))))), ?_⟩
    have el : (cs.map V.int).length = cs.length := List.length_map ..
    refine ⟨_, rfl, a, _, rfl, .inl ha, ?_⟩
    rw [el]
    refine ⟨_, rfl, 1, _, rfl, ⟨by omega, by omega, by omega, by omega⟩, ?_⟩
    have en : (((cs.length : Nat) : Int) - 1).toNat = cs.length - 1 := by omega
    rw [en]
    refine for_range (n := cs.length - 1) (fun i σ H' => ∃ v2 : Option V, σ = [some (.ref a), some (.int ((cs.length : Nat) : Int)), v2] ∧ Same H H' ∧ ∀ j, 1 ≤ j → j < i + 1 → ¬ repOk cs j) ⟨_, rfl, Same.refl H, fun j h1 h2 => by omega⟩ ?_ ?_
    · rintro i σ H' hi ⟨v2, rfl, sm, hno⟩
      have e1 : (1 : Int) + ((i : Nat) : Int) = ((i + 1 : Nat) : Int) := by omega
      rw [e1]
      have ha' := sm.seq ha
      refine ⟨_, rfl, _, rfl, _, _, rfl, rfl, (by show (0 : Int) < _; omega), rfl, _, rfl, ?_⟩
      refine ifD (fun hd => ?_) (fun hd => ?_)
      · have hm : cs.length % (i + 1) = 0 := by
          have z := V.int.inj hd
          have z' : (((cs.length % (i + 1) : Nat)) : Int) = 0 := by rw [Int.natCast_emod]; exact z
          omega
        refine ⟨_, rfl, _, rfl, _, rfl, a, _, rfl, ha', ?_⟩
        (intro t nt; generalize e_t : upd H' t _ = H5; have s5 : Same H' H5 := fun b x hb => (congrFun e_t b).symm.trans (same_new nt b x hb); have h5 := (congrFun e_t t).symm.trans upd_same; clear e_t)
        have h5' : H5 t = some (.lst ((cs.drop (i + 1)).map V.int)) := by rw [h5, cut_from, List.map_drop]
        refine ⟨_, rfl, _, rfl, _, rfl, _, _, rfl, rfl, _, rfl, a, _, rfl, s5.seq ha', ?_⟩
        (intro u nu; generalize e_u : upd H5 u _ = H6; have s6 : Same H5 H6 := fun b x hb => (congrFun e_u b).symm.trans (same_new nu b x hb); have h6 := (congrFun e_u u).symm.trans upd_same; clear e_u)
        have h6' : H6 u = some (.lst ((cs.take (cs.length - (i + 1))).map V.int)) := by
          rw [h6]
          show some (HO.lst (cutV _ none (some (((cs.length : Nat) : Int) - ((i + 1 : Nat) : Int))))) = _
          rw [show (((cs.length : Nat) : Int) - ((i + 1 : Nat) : Int)) = ((cs.length - (i + 1) : Nat) : Int) by omega, cut_to, List.map_take]
        refine ⟨t, u, _, _, rfl, rfl, .inl ⟨SqL.lst (s6 _ _ h5'), SqL.lst h6'⟩, _, rfl, ?_⟩
        refine ifD (fun hd2 => ?_) (fun hd2 => ?_)
        · exact ⟨_, rfl, k (i + 1) H6 (sm.trans (s5.trans s6)) ⟨by omega, by omega, ⟨hm, hd2⟩, fun j j1 j2 => hno j j1 j2⟩⟩
        · refine ⟨_, rfl, sm.trans (s5.trans s6), fun j j1 j2 hj => ?_⟩
          by_cases hji : j = i + 1
          · rw [hji] at hj
            exact hd2 hj.2
          · exact hno j j1 (by omega) hj
      · refine iteF ?_
        refine ⟨_, rfl, sm, fun j j1 j2 hj => ?_⟩
        by_cases hji : j = i + 1
        · rw [hji] at hj
          refine hd (congrArg V.int ?_)
          show ((cs.length : Nat) : Int) % ((i + 1 : Nat) : Int) = 0
          rw [← Int.natCast_emod, hj.1]
          rfl
        · exact hno j j1 (by omega) hj
    · rintro σ H' ⟨v2, rfl, sm, hno⟩
      refine ⟨_, rfl, k cs.length H' sm ⟨c1, Nat.le_refl _, ⟨Nat.mod_self _, ?_⟩, fun j j1 j2 => hno j j1 (by omega)⟩⟩
      rw [List.drop_eq_nil_of_le (Nat.le_refl _), Nat.sub_self, List.take_zero]
def sumsP (ns : List Int) : List Int := (List.range ns.length).map fun i => (ns.take i).sum
def spSums (K : PySem.W.Frag) : Sp := fun vs H Q _ => ∃ (a : Addr) (ns : List Int), vs = [.ref a] ∧ SqL K H a (ns.map V.int) ∧ ns.length ≤ 100000 ∧ ∀ (l : Addr) H', Same H H' → H l = none → H' l = some (.lst ((sumsP ns).map V.int)) → Q (.ref l) H'
theorem sums_take {ns : List Int} {i : Nat} {x : Int} (h : ns[i]? = some x) : (ns.take (i + 1)).sum = (ns.take i).sum + x := by
  rw [List.take_add_one, h, List.sum_append]
  simp
theorem ok_sums {f : Addr} {fd : FuncData} (F : Fun K "sums_ahead" "sums_ahead" ssums_ahead f fd) : FnOk P w K mg base CX0 1 f fd ["numbers"] (spSums K) := by
  have sc := scsums_ahead
  refine F.ok sc (fun vs H Q E h => ?_) (fun cdv A outer s H vs Q E hr h => ?_)
  · obtain ⟨a, ns, rfl, _⟩ := h
    rfl
  · obtain ⟨a, ns, rfl, ha, hl, k⟩ := h
    refine ⟨_, (pss_cons (ps_set (i := 1) sc.nd rfl (Or.inl rfl) pe_int)
      (pss_cons (ps_set (i := 2) sc.nd rfl (Or.inl rfl) (pe_lst pa_nil))
      (pss_cons (ps_for PassesOwn.never rfl (pi_list (pv 0)) (pg_name (i := 3) sc.nd rfl (Or.inl rfl)) (pss_cons (ps_expr (pe_bm PySem.F.plainAttrs_list PySem.F.slot_list_append PySem.F.type_list_append mt_append (pv 2) (pa_cons (pv 1) pa_nil)))
      (pss_one (ps_aug (i := 1) sc.nd rfl (Or.inl rfl) (pv 3) ip_add))))
      (pss_one (ps_ret (pv 2)))))), ?_⟩
    refine ⟨Nat.le_of_ble_eq_true rfl, ?_⟩
    (intro l nl; generalize e_l : upd H l _ = H1; have s1 : Same H H1 := fun b x hb => (congrFun e_l b).symm.trans (same_new nl b x hb); have h1 := (congrFun e_l l).symm.trans upd_same; clear e_l)
    refine ⟨_, rfl, a, rfl, ⟨_, s1.seq ha⟩, for_list (K := K) (xs := ns.map V.int) (fun i σ H' => ∃ v3 : Option V, σ = [some (.ref a), some (.int (ns.take i).sum), some (.ref l), v3] ∧ Same H H' ∧ H' l = some (.lst (((List.range i).map fun j => (ns.take j).sum).map V.int)))
      ⟨_, rfl, s1, h1⟩ (fun i σ H' _ ⟨_, _, s, _⟩ => s.seq ha) ?_ ?_⟩
    · rintro i x σ H' hx ⟨v3, rfl, sm, el⟩
      obtain ⟨b, hb, rfl⟩ : ∃ b, ns[i]? = some b ∧ x = V.int b := by
        rw [List.getElem?_map] at hx
        obtain ⟨z, hz, e⟩ := Option.map_eq_some_iff.mp hx
        exact ⟨z, hz, e.symm⟩
      have hi : i < ns.length := (List.getElem?_eq_some_iff.mp hb).1
      refine ⟨_, rfl, .inl ⟨rfl, _, SqL.lst el⟩, _, rfl, l, _, _, rfl, rfl, el, smallLt (by simp; omega), ?_⟩
      refine ⟨_, rfl, _, rfl, _, _, rfl, rfl, ?_⟩
      refine ⟨_, (by rw [sums_take hb]; rfl), same_mut sm nl, ?_⟩
      rw [upd_same, List.range_succ, List.map_append, List.map_append]
      rfl
    · rintro σ H' ⟨v3, rfl, sm, el⟩
      rw [List.length_map] at el
      exact ⟨_, rfl, k l H' sm nl el⟩
end
end LM

set_option Elab.async false
set_option linter.all false
set_option maxRecDepth 100000
set_option maxHeartbeats 4000000
set_option pp.maxSteps 600
set_option pp.deepTerms false
namespace LM
open PySem PySem.Spec PyProof.Rows L2 RT
local macro_rules | `(tactic| walk_at "hp") => `(tactic| first | assumption | exact upd_same | (rw [upd_ne (by assumption)]; assumption) | (rw [upd_ne (Ne.symm (by assumption))]; assumption) | (rw [upd_ne (by assumption)]; exact upd_same) | (rw [upd_ne (Ne.symm (by assumption))]; exact upd_same))
local macro_rules | `(tactic| walk_at "sq") => `(tactic| first | assumption | exact Or.inl (Or.inl (by assumption)) | exact Or.inl (Or.inl upd_same) | exact Or.inl (Or.inl (by walk_at "hp")))
local macro_rules | `(tactic| walk_at "ixl") => `(tactic| refine ⟨_, _, _, _, rfl, rfl, (by walk_at "sq"), (by rfl), ?_⟩)
local macro_rules | `(tactic| walk_at "setl") => `(tactic| refine ⟨_, _, _, _, rfl, rfl, (by walk_at "hp"), (by rfl), ?_⟩)
local macro_rules | `(tactic| walk_at "side") => `(tactic| refine idP ?_; first | omega | (show (0 : Int) < _; omega) | (show (0 : Int) < _ ∧ _ < _; omega) | (refine Or.inr ?_; show (-(2 ^ 64) : Int) < _ ∧ _ < _; omega) | (refine Or.inl ?_; show (-(2 ^ 64) : Int) < _ ∧ _ < _; omega) | exact divW (by omega) (by omega) _ | (refine ⟨by decide, by decide, ?_⟩; decide))
local macro_rules | `(tactic| walk_at "go1") => `(tactic| first
  | refine ⟨_, rfl, ?_⟩
  | refine ⟨_, _, rfl, rfl, (by walk_at "side"), ?_⟩
  | refine ⟨_, _, rfl, (by walk_at "side"), ?_⟩
  | refine ⟨_, _, rfl, rfl, ?_⟩
  | refine Or.inl ⟨_, rfl, ?_⟩
  | refine ⟨_, _, rfl, Or.inl (by walk_at "sq"), ?_⟩
  | walk_at "ixl"
  | walk_at "setl"
  | refine ⟨_, _, rfl, (by walk_at "sq"), rfl, ?_⟩
  | refine ⟨_, _, rfl, (by walk_at "sq"), ?_⟩
  | refine ⟨_, _, rfl, ?_⟩
  | refine ⟨rfl, ?_⟩
  | refine ⟨small (Nat.le_of_ble_eq_true rfl), ?_⟩)
local macro_rules | `(tactic| walk_at "go") => `(tactic| repeat walk_at "go1")

abbrev slast_not_above : Stmt := topS 46
theorem sclast_not_above : FnScope ["ascending", "number", "low", "high", "middle"] ["ascending", "number"] (defScope slast_not_above) := ⟨rfl, rfl, rfl, by decide +kernel, rfl, by decide +kernel, by decide +kernel⟩
abbrev slabel_at : Stmt := topS 31
theorem sclabel_at : FnScope ["bases", "place", "numbers", "base", "number"] ["bases", "place"] (defScope slabel_at) := ⟨rfl, rfl, rfl, by decide +kernel, rfl, by decide +kernel, by decide +kernel⟩
/-- the search by halves -/
def lnaGo (fs : List Int) (x : Int) (lo hi : Nat) : Nat :=
  if h : 1 < hi - lo then (if fs.getD ((lo + hi) / 2) 0 ≤ x then lnaGo fs x ((lo + hi) / 2) hi else lnaGo fs x lo ((lo + hi) / 2)) else lo
termination_by hi - lo
decreasing_by all_goals omega
theorem lnaGo_lt (fs : List Int) (x : Int) (lo hi : Nat) (h : lo < hi) : lo ≤ lnaGo fs x lo hi ∧ lnaGo fs x lo hi < hi := by
  unfold lnaGo
  split
  · split
    · have := lnaGo_lt fs x ((lo + hi) / 2) hi (by omega)
      omega
    · have := lnaGo_lt fs x lo ((lo + hi) / 2) (by omega)
      omega
  · omega
termination_by hi - lo
decreasing_by all_goals omega
def lna (fs : List Int) (x : Int) : Nat := lnaGo fs x 0 fs.length
def spLna (K : PySem.W.Frag) : Sp := fun vs H Q _ => ∃ (a : Addr) (fs : List Int) (x : Int), vs = [.ref a, .int x] ∧ SqL K H a (fs.map V.int) ∧ 1 ≤ fs.length ∧ fs.length ≤ 100000 ∧ Q (.int ((lna fs x : Nat) : Int)) H
def labelP (bs : List Int) (p : Int) : List Int := (bs.reverse.foldl digStep (p, [])).1 :: (bs.reverse.foldl digStep (p, [])).2
def spLabelAt (K : PySem.W.Frag) : Sp := fun vs H Q _ => ∃ (a : Addr) (bs : List Int) (p : Int), vs = [.ref a, .int p] ∧ SqT K H a (bs.map V.int) ∧ bs.length ≤ 3 ∧ (∀ x ∈ bs, 2 ≤ x ∧ x ≤ 60) ∧ ∀ (t : Addr) H', Same H H' → H t = none → H' t = some (.tup ((labelP bs p).map V.int)) → Q (.ref t) H'
def spNumbers (K : PySem.W.Frag) : Sp := fun vs H Q _ => ∃ (a : Addr) (bs : List Int) (p : Int), vs = [.ref a, .int p] ∧ SqL K H a (bs.map V.int) ∧ bs.length ≤ 3 ∧ (∀ x ∈ bs, 2 ≤ x ∧ x ≤ 60) ∧ ∀ (t : Addr) H', Same H H' → H t = none → H' t = some (.tup ((labelP bs p).map V.int)) → Q (.ref t) H'
section
variable {P : Program} {w : World} {K : PySem.W.Frag} {mg : Str → Option Value} {base : Heap}
theorem ok_lna {f : Addr} {fd : FuncData} (F : Fun K "last_not_above" "last_not_above" slast_not_above f fd) (N : Names mg) : FnOk P w K mg base CX0 1 f fd ["ascending", "number"] (spLna K) := by
  have sc := sclast_not_above
  refine F.ok sc (fun vs H Q E h => ?_) (fun cdv A outer s H vs Q E hr h => ?_)
  · obtain ⟨a, fs, x, rfl, _⟩ := h
    rfl
  · obtain ⟨a, fs, x, rfl, ha, l1, l2, k⟩ := h
    refine ⟨_, (pss_cons (ps_par (i := 2) (j := 3) rfl sc.nd rfl rfl (by decide) rfl rfl (pa_cons pe_int (pa_cons (pe_callB call_len_seq (by rfl) N.len (by decide +kernel) (pa_cons (pv 0) pa_nil)) pa_nil)) (by rfl))
      (pss_cons (ps_while PassesOwn.never (pt_cmpR op_gt (pe_op op_sub (pv 3) (pv 2)) pe_int (nomark _)) (pss_cons (ps_set (i := 4) sc.nd rfl (Or.inl rfl) (pe_op op_fdiv (pe_op op_add (pv 2) (pv 3)) pe_int))
      (pss_one (ps_if (pt_cmpR op_le (pe_ix ix_list (pv 0) (pv 4) (fun _ _ => rfl)) (pv 1) (nomark _)) (pss_one (ps_set (i := 2) sc.nd rfl (Or.inl rfl) (pv 4))) (pss_one (ps_set (i := 3) sc.nd rfl (Or.inl rfl) (pv 4)))))))
      (pss_one (ps_ret (pv 2))))), ?_⟩
    have el : (fs.map V.int).length = fs.length := List.length_map ..
    refine ⟨_, rfl, a, _, rfl, .inl ha, ?_⟩
    rw [el]
    refine ⟨_, _, rfl, ?_⟩
    refine while_by (fun σ H' => ∃ (lo hi : Nat) (v4 : Option V), σ = [some (.ref a), some (.int x), some (.int ((lo : Nat) : Int)), some (.int ((hi : Nat) : Int)), v4] ∧ lo < hi ∧ hi ≤ fs.length ∧ lnaGo fs x lo hi = lna fs x ∧ H' = H)
      (fun σ _ => match σ with | [_, _, some (.int lo), some (.int hi), _] => hi.toNat - lo.toNat | _ => 0) ⟨0, fs.length, none, rfl, by omega, Nat.le_refl _, rfl, rfl⟩ ?_ ?_
    · rintro σ H' ⟨lo, hi, v4, rfl, hlt, hle, hg, rfl⟩
      refine ⟨_, rfl, _, rfl, _, _, rfl, rfl, _, _, rfl, rfl, _, rfl, ?_⟩
      refine ifD (fun hd => ?_) (fun hd => ?_)
      · have h1 : 1 < hi - lo := by omega
        have hm : (((lo : Nat) : Int) + ((hi : Nat) : Int)) / 2 = (((lo + hi) / 2 : Nat) : Int) := by omega
        have hml : (lo + hi) / 2 < fs.length := by omega
        have hat : atI (fs.map V.int) ((((lo + hi) / 2 : Nat)) : Int) = some (V.int (fs.getD ((lo + hi) / 2) 0)) := by
          rw [atI_nat (map_get hml), List.getD_eq_getElem?_getD, List.getElem?_eq_getElem hml]
          rfl
        refine ⟨_, rfl, _, rfl, _, _, rfl, rfl, _, _, rfl, rfl, (by show (0 : Int) < _ ∧ _ < _; omega), ?_⟩
        refine ⟨_, rfl, _, rfl, a, _, _, .int (fs.getD ((lo + hi) / 2) 0), rfl, rfl, ha, (by rw [hm]; exact hat), _, rfl, _, _, rfl, rfl, _, rfl, ?_⟩
        unfold lnaGo at hg
        rw [dif_pos h1] at hg
        refine ifD (fun hd2 => ?_) (fun hd2 => ?_)
        · rw [if_pos hd2] at hg
          refine ⟨_, rfl, ⟨(lo + hi) / 2, hi, _, (by rw [← hm]; rfl), by omega, hle, hg, rfl⟩, ?_⟩
          show ((hi : Nat) : Int).toNat - ((((lo : Nat) : Int) + ((hi : Nat) : Int)) / 2).toNat < ((hi : Nat) : Int).toNat - ((lo : Nat) : Int).toNat
          omega
        · rw [if_neg hd2] at hg
          refine ⟨_, rfl, ⟨lo, (lo + hi) / 2, _, (by rw [← hm]; rfl), by omega, by omega, hg, rfl⟩, ?_⟩
          show ((((lo : Nat) : Int) + ((hi : Nat) : Int)) / 2).toNat - ((lo : Nat) : Int).toNat < ((hi : Nat) : Int).toNat - ((lo : Nat) : Int).toNat
          omega
      · have h1 : ¬ 1 < hi - lo := by omega
        unfold lnaGo at hg
        rw [dif_neg h1] at hg
        refine ⟨_, rfl, ?_⟩
        rw [hg]
        exact k
    · intro σ H' Q1 Q2 hm h
      obtain ⟨v, hv, v2, hv2, i, j, e1, e2, i2, j2, e3, e4, b, e5, q⟩ := h
      exact ⟨v, hv, v2, hv2, i, j, e1, e2, i2, j2, e3, e4, b, e5, hm _ _ q⟩
theorem ok_labelat {f : Addr} {fd : FuncData} (F : Fun K "label_at" "label_at" slabel_at f fd) (N : Names mg) : FnOk P w K mg base CX0 1 f fd ["bases", "place"] (spLabelAt K) := by
  have sc := sclabel_at
  refine F.ok sc (fun vs H Q E h => ?_) (fun cdv A outer s H vs Q E hr h => ?_)
  · obtain ⟨a, bs, p, rfl, _⟩ := h
    rfl
  · obtain ⟨a, bs, p, rfl, ha, h3, hb, k⟩ := h
    refine ⟨_, (pss_cons (ps_set (i := 2) sc.nd rfl (Or.inl rfl) (pe_lst pa_nil))
      (pss_cons (ps_for PassesOwn.never rfl (pi_revA rfl N.reversed (pv 0)) (pg_name (i := 3) sc.nd rfl (Or.inl rfl)) (pss_cons (ps_asg (pe_callB call_divmod (by rfl) N.divmod (by decide +kernel) (pa_cons (pv 1) (pa_cons (pv 3) pa_nil))) (pg_tup rfl (pgs_cons (pg_name (i := 1) sc.nd rfl (Or.inl rfl)) (pgs_cons (pg_name (i := 4) sc.nd rfl (Or.inl rfl)) pgs_nil))))
      (pss_one (ps_expr (pe_bm PySem.F.plainAttrs_list PySem.F.slot_list_append PySem.F.type_list_append mt_append (pv 2) (pa_cons (pv 4) pa_nil))))))
      (pss_cons (ps_expr (pe_bm PySem.F.plainAttrs_list PySem.F.slot_list_append PySem.F.type_list_append mt_append (pv 2) (pa_cons (pv 1) pa_nil)))
      (pss_one (ps_ret (pe_tupRev rfl (by rfl) N.tuple (by rfl) N.reversed (pv 2))))))), ?_⟩
    refine ⟨Nat.le_of_ble_eq_true rfl, ?_⟩
    (intro l nl; generalize e_l : upd H l _ = H1; have s1 : Same H H1 := fun b x hb => (congrFun e_l b).symm.trans (same_new nl b x hb); have h1 := (congrFun e_l l).symm.trans upd_same; clear e_l)
    refine ⟨_, rfl, a, _, rfl, .inr ⟨Same.seqT s1 ha, ?_⟩⟩
    have hrev : ∀ i x, i < (bs.map V.int).length → (bs.map V.int)[(bs.map V.int).length - 1 - i]? = some x → ∃ b, bs.reverse[i]? = some b ∧ x = V.int b := fun i x hi hx => by
      rw [List.length_map] at hi hx
      rw [List.getElem?_map] at hx
      obtain ⟨z, hz, e⟩ := Option.map_eq_some_iff.mp hx
      exact ⟨z, by rw [List.getElem?_reverse hi]; exact hz, e.symm⟩
    refine for_ItvT (K := K) (xs := bs.map V.int) (fun i σ H' => ∃ v3 v4 : Option V, σ = [some (.ref a), some (.int ((bs.reverse.take i).foldl digStep (p, [])).1), some (.ref l), v3, v4] ∧ Same H H' ∧ H' l = some (.lst (((((bs.reverse.take i).foldl digStep (p, [])).2).reverse).map V.int)))
      ⟨_, _, rfl, s1, h1⟩ (fun i σ H' ⟨_, _, _, s, _⟩ => Same.seqT s ha) ?_ ?_
    · rintro i x σ H' hi hx ⟨v3, v4, rfl, sm, el⟩
      obtain ⟨b, hb', rfl⟩ := hrev i x hi hx
      have hbb := hb b (List.mem_reverse.mp (List.mem_of_getElem? hb'))
      have st := take_fold digStep (p, []) _ i b hb'
      refine ⟨_, rfl, _, rfl, _, _, rfl, (by show (0 : Int) < _ ∧ _ < _; omega), ?_⟩
      (intro t nt; generalize e_t : upd H' t _ = H5; have s5 : Same H' H5 := fun b x hb => (congrFun e_t b).symm.trans (same_new nt b x hb); have h5 := (congrFun e_t t).symm.trans upd_same; clear e_t)
      have el5 := s5 _ _ el
      refine ⟨t, _, rfl, SqT.tup h5, rfl, _, _, rfl, _, _, rfl, rfl, ?_⟩
      refine ⟨_, rfl, .inl ⟨rfl, _, SqL.lst el5⟩, _, rfl, l, _, _, rfl, rfl, el5, smallLt (by rw [List.length_map, List.length_reverse, digStep_len, List.length_take, List.length_reverse]; simp; omega), ?_⟩
      refine ⟨_, _, (by rw [st]; rfl), same_mut (sm.trans s5) nl, ?_⟩
      rw [upd_same, st]
      show _ = some (HO.lst ((((((bs.reverse.take i).foldl digStep (p, [])).1 % b) :: ((bs.reverse.take i).foldl digStep (p, [])).2).reverse).map V.int))
      rw [List.reverse_cons, List.map_append]
      rfl
    · rintro σ H' ⟨v3, v4, rfl, sm, el⟩
      rw [List.take_of_length_le (by rw [List.length_map, List.length_reverse]; exact Nat.le_refl _)] at el
      rw [List.take_of_length_le (by rw [List.length_map, List.length_reverse]; exact Nat.le_refl _)]
      refine ⟨_, rfl, .inl ⟨rfl, _, SqL.lst el⟩, _, rfl, l, _, _, rfl, rfl, el, smallLt (by rw [List.length_map, List.length_reverse, digStep_len, List.length_reverse]; simp; omega), ?_⟩
      generalize eH : upd H' l _ = H6
      have s6 : Same H H6 := by rw [← eH]; exact same_mut sm nl
      have e6 : H6 l = some (.lst ((labelP bs p).reverse.map V.int)) := by
        rw [← eH, upd_same]
        unfold labelP
        rw [List.reverse_cons, List.map_append]
        rfl
      refine ⟨_, rfl, l, _, rfl, SqL.lst e6, ?_⟩
      (intro t nt; generalize e_t : upd H6 t _ = H7; have s7 : Same H6 H7 := fun b x hb => (congrFun e_t b).symm.trans (same_new nt b x hb); have h7 := (congrFun e_t t).symm.trans upd_same; clear e_t)
      refine k t H7 (s6.trans s7) (s6.free nt) ?_
      rw [h7, ← List.map_reverse, List.reverse_reverse]
end
end LM

set_option Elab.async false
set_option linter.all false
set_option maxRecDepth 100000
set_option maxHeartbeats 4000000
set_option pp.maxSteps 600
set_option pp.deepTerms false
namespace LM
open PySem PySem.Spec PyProof.Rows L2
end LM

set_option Elab.async false
set_option linter.all false
set_option maxRecDepth 100000
set_option maxHeartbeats 4000000
set_option pp.maxSteps 600
set_option pp.deepTerms false
namespace LM
open PySem PySem.Spec PyProof.Rows L2
local macro_rules | `(tactic| walk_at "hp") => `(tactic| first | assumption | exact upd_same | (rw [upd_ne (by assumption)]; assumption) | (rw [upd_ne (Ne.symm (by assumption))]; assumption) | (rw [upd_ne (by assumption)]; exact upd_same) | (rw [upd_ne (Ne.symm (by assumption))]; exact upd_same))
local macro_rules | `(tactic| walk_at "sq") => `(tactic| first | assumption | exact Or.inl (Or.inl (by assumption)) | exact Or.inl (Or.inl upd_same) | exact Or.inl (Or.inl (by walk_at "hp")))
local macro_rules | `(tactic| walk_at "ixl") => `(tactic| refine ⟨_, _, _, _, rfl, rfl, (by walk_at "sq"), (by rfl), ?_⟩)
local macro_rules | `(tactic| walk_at "setl") => `(tactic| refine ⟨_, _, _, _, rfl, rfl, (by walk_at "hp"), (by rfl), ?_⟩)
local macro_rules | `(tactic| walk_at "side") => `(tactic| refine idP ?_; first | omega | (show (0 : Int) < _; omega) | (show (0 : Int) < _ ∧ _ < _; omega) | (refine Or.inr ?_; show (-(2 ^ 64) : Int) < _ ∧ _ < _; omega) | (refine Or.inl ?_; show (-(2 ^ 64) : Int) < _ ∧ _ < _; omega) | exact divW (by omega) (by omega) _ | (refine ⟨by decide, by decide, ?_⟩; decide))
local macro_rules | `(tactic| walk_at "go1") => `(tactic| first
  | refine ⟨_, rfl, ?_⟩
  | refine ⟨_, _, rfl, rfl, (by walk_at "side"), ?_⟩
  | refine ⟨_, _, rfl, (by walk_at "side"), ?_⟩
  | refine ⟨_, _, rfl, rfl, ?_⟩
  | refine Or.inl ⟨_, rfl, ?_⟩
  | refine ⟨_, _, rfl, Or.inl (by walk_at "sq"), ?_⟩
  | walk_at "ixl"
  | walk_at "setl"
  | refine ⟨_, _, rfl, (by walk_at "sq"), rfl, ?_⟩
  | refine ⟨_, _, rfl, (by walk_at "sq"), ?_⟩
  | refine ⟨_, _, rfl, ?_⟩
  | refine ⟨rfl, ?_⟩
  | refine ⟨small (Nat.le_of_ble_eq_true rfl), ?_⟩)
local macro_rules | `(tactic| walk_at "go") => `(tactic| repeat walk_at "go1")

abbrev sHouse__init_ : Stmt := inClass (topS 57) 0
theorem scHouse__init_ : FnScope ["self", "bases", "rows", "groups", "counts", "borne", "count"] ["self", "bases", "rows"] (defScope sHouse__init_) := ⟨rfl, rfl, rfl, by decide +kernel, rfl, by decide +kernel, by decide +kernel⟩
abbrev sHouse_place_borne : Stmt := inClass (topS 57) 14
theorem scHouse_place_borne : FnScope ["self", "frame", "groups", "frames", "rounds", "rest", "group", "number"] ["self", "frame"] (defScope sHouse_place_borne) := ⟨rfl, rfl, rfl, by decide +kernel, rfl, by decide +kernel, by decide +kernel⟩
abbrev sHouse_place : Stmt := inClass (topS 57) 6
theorem scHouse_place : FnScope ["self", "frame"] ["self", "frame"] (defScope sHouse_place) := ⟨rfl, rfl, rfl, by decide +kernel, rfl, by decide +kernel, by decide +kernel⟩
abbrev sHouse_label : Stmt := inClass (topS 57) 5
theorem scHouse_label : FnScope ["self", "frame"] ["self", "frame"] (defScope sHouse_label) := ⟨rfl, rfl, rfl, by decide +kernel, rfl, by decide +kernel, by decide +kernel⟩
/-- the attributes in the order in which they are stored -/
def hf (b r sk ah rd : Addr) (t : Str) : List (Str × V) := putF "_round" (.ref rd) (putF "_frames_ahead" (.ref ah) (putF "_skipped" (.ref sk) (putF "_text" (.str t) (putF "_rows" (.ref r) (putF "_bases" (.ref b) [])))))
theorem hf_bases (b r sk ah rd : Addr) (t : Str) : (hf b r sk ah rd t).lookup ("_bases" : Str) = some (.ref b) := by
  unfold hf
  rw [lookup_putF, if_neg (by decide +kernel), lookup_putF, if_neg (by decide +kernel), lookup_putF, if_neg (by decide +kernel), lookup_putF, if_neg (by decide +kernel), lookup_putF, if_neg (by decide +kernel), lookup_putF, if_pos rfl]
theorem hf_skipped (b r sk ah rd : Addr) (t : Str) : (hf b r sk ah rd t).lookup ("_skipped" : Str) = some (.ref sk) := by
  unfold hf
  rw [lookup_putF, if_neg (by decide +kernel), lookup_putF, if_neg (by decide +kernel), lookup_putF, if_pos rfl]
theorem hf_ahead (b r sk ah rd : Addr) (t : Str) : (hf b r sk ah rd t).lookup ("_frames_ahead" : Str) = some (.ref ah) := by
  unfold hf
  rw [lookup_putF, if_neg (by decide +kernel), lookup_putF, if_pos rfl]
theorem hf_round (b r sk ah rd : Addr) (t : Str) : (hf b r sk ah rd t).lookup ("_round" : Str) = some (.ref rd) := by
  unfold hf
  rw [lookup_putF, if_pos rfl]
theorem hf_no (b r sk ah rd : Addr) (t : Str) {m : Str} (h1 : ¬ m = "_round") (h2 : ¬ m = "_frames_ahead") (h3 : ¬ m = "_skipped") (h4 : ¬ m = "_text") (h5 : ¬ m = "_rows") (h6 : ¬ m = "_bases") : (hf b r sk ah rd t).lookup m = none := by
  unfold hf
  rw [lookup_putF, if_neg h1, lookup_putF, if_neg h2, lookup_putF, if_neg h3, lookup_putF, if_neg h4, lookup_putF, if_neg h5, lookup_putF, if_neg h6]
  rfl
theorem hf_place (b r sk ah rd : Addr) (t : Str) : (hf b r sk ah rd t).lookup ("_place_borne" : Str) = none := hf_no _ _ _ _ _ _ (by decide +kernel) (by decide +kernel) (by decide +kernel) (by decide +kernel) (by decide +kernel) (by decide +kernel)
def borneP (bs cs : List Int) : List Int := cs.map fun c => bs.getLastD 1 - c
def groupsP (bs : List Int) (rows : List R3) : Nat := unitP bs 0 * everyL rows
/-- the bases and rows of a house that may be made -/
structure Fair (bs : List Int) (rows : List R3) : Prop where
  b0 : 1 ≤ bs.length
  b3 : bs.length ≤ 3
  bb : ∀ x ∈ bs, 2 ≤ x ∧ x ≤ 60
  r6 : rows.length ≤ 6
  ro : ∀ x ∈ rows, RowOk 60 bs x
  gr : groupsP bs rows ≤ 7200
/-- a house at p -/
structure HouseAt (K : PySem.W.Frag) (C : Addr) (old : Addr → Prop) (H : Hp) (p b r : Addr) (bs : List Int) (rows : List R3) (cs : List Int) : Prop where
  ob : ∃ dx sk ah rd, H p = some (.ins C dx (hf b r sk ah rd (houseS bs rows))) ∧ H sk = some (.lst (cs.map V.int)) ∧ H ah = some (.lst ((sumsP (borneP bs cs)).map V.int)) ∧ H rd = some (.tup [.int (cs.length : Int), .int (borneP bs cs).sum]) ∧ ¬ old sk ∧ ¬ old ah
  bt : SqT K H b (bs.map V.int)
  rt : RowsAt K H r rows
  fair : Fair bs rows
  rep : ∃ k, RepIs (countsP bs rows (groupsP bs rows)) k ∧ cs = (countsP bs rows (groupsP bs rows)).take k
theorem HouseAt.same {K : PySem.W.Frag} {C : Addr} {old : Addr → Prop} {H H' : Hp} {p b r : Addr} {bs : List Int} {rows : List R3} {cs : List Int} (h : HouseAt K C old H p b r bs rows cs) (s : Same H H') : HouseAt K C old H' p b r bs rows cs := by
  obtain ⟨⟨dx, sk, ah, rd, e1, e2, e3, e4, e5, e6⟩, h2, h3, h4, h5⟩ := h
  exact ⟨⟨dx, sk, ah, rd, s _ _ e1, s _ _ e2, s _ _ e3, s _ _ e4, e5, e6⟩, Same.seqT s h2, h3.same s, h4, h5⟩
theorem countsP_len (bs : List Int) (rows : List R3) (n : Nat) : (countsP bs rows n).length = n := by
  unfold countsP
  rw [List.length_map, List.length_range]
theorem cnt_in {bs : List Int} {n g : Nat} : ∀ (rows : List R3) (acc : Int), (∀ x ∈ rows, RowOk 60 bs x) → 0 ≤ acc ∧ acc < bs.getLastD 1 → 0 ≤ rows.foldl (cntStep bs n g) acc ∧ rows.foldl (cntStep bs n g) acc < bs.getLastD 1
  | [], _, _, ha => ha
  | x :: rows, acc, h, ha => by
    rw [List.foldl_cons]
    refine cnt_in rows _ (fun y hy => h y (List.mem_cons_of_mem _ hy)) ?_
    unfold cntStep
    obtain ⟨_, _, _, _, o5, o6⟩ := h x List.mem_cons_self
    split
    · exact ⟨o5, o6⟩
    · exact ha
theorem counts_in {bs : List Int} {rows : List R3} {n : Nat} (b0 : 1 ≤ bs.length) (bb : ∀ x ∈ bs, 2 ≤ x ∧ x ≤ 60) (ro : ∀ x ∈ rows, RowOk 60 bs x) : ∀ c ∈ countsP bs rows n, 0 ≤ c ∧ c < bs.getLastD 1 := by
  intro c hc
  obtain ⟨g, _, rfl⟩ := List.mem_map.mp hc
  have := bb _ (lastD_mem b0)
  exact cnt_in rows 0 ro ⟨Int.le_refl 0, by omega⟩
/-- what stands elsewhere than p stays -/
theorem els_upd {H : Hp} {p : Addr} {o : HO} : Else p H (upd H p o) := fun b x n e => by rw [upd_ne n]; exact e
theorem els_free {H H' : Hp} {p a : Addr} (e : Else p H H') (n : a ≠ p) (h : H' a = none) : H a = none := by
  cases q : H a with
  | none => rfl
  | some o =>
    rw [e _ _ n q] at h
    cases h
theorem els_seqT {K : PySem.W.Frag} {H H' : Hp} {p a C dx : Addr} {fs : List (Str × V)} {xs : List V} (hp : H p = some (.ins C dx fs)) (e : Else p H H') (h : SqT K H a xs) : SqT K H' a xs := by
  rcases h with (h | ⟨o, h⟩) | h
  · exact .inl (.inl (e _ _ (fun z => by rw [z, hp] at h; cases h) h))
  · exact .inl (.inr ⟨o, e _ _ (fun z => by rw [z, hp] at h; cases h) h⟩)
  · exact .inr h
theorem els_rows {K : PySem.W.Frag} {H H' : Hp} {p r C dx : Addr} {fs : List (Str × V)} {rows : List R3} (hp : H p = some (.ins C dx fs)) (e : Else p H H') (h : RowsAt K H r rows) : RowsAt K H' r rows := by
  obtain ⟨as, h1, h2⟩ := h
  exact ⟨as, els_seqT hp e h1, paired_imp h2 fun a _ x q => els_seqT hp e q⟩
theorem sumsP_len (ns : List Int) : (sumsP ns).length = ns.length := by
  unfold sumsP
  rw [List.length_map, List.length_range]
theorem borneP_len (bs cs : List Int) : (borneP bs cs).length = cs.length := by
  unfold borneP
  rw [List.length_map]
theorem lna_lt (fs : List Int) (x : Int) (h : 1 ≤ fs.length) : lna fs x < fs.length := (lnaGo_lt fs x 0 fs.length (by omega)).2
theorem sum_bounds {bs : List Int} (m : Int) : ∀ (cs : List Int), (∀ c ∈ cs, 0 ≤ c ∧ c < bs.getLastD 1) → bs.getLastD 1 ≤ m → (cs.length : Int) ≤ (borneP bs cs).sum ∧ (borneP bs cs).sum ≤ cs.length * m
  | [], _, _ => by
    show (0 : Int) ≤ 0 ∧ (0 : Int) ≤ 0 * m
    omega
  | c :: cs, h, hm => by
    obtain ⟨i1, i2⟩ := sum_bounds (bs := bs) m cs (fun x hx => h x (List.mem_cons_of_mem _ hx)) hm
    obtain ⟨h1, h2⟩ := h c List.mem_cons_self
    have e : (borneP bs (c :: cs)).sum = (bs.getLastD 1 - c) + (borneP bs cs).sum := List.sum_cons
    rw [e, List.length_cons, Int.natCast_add, Int.add_mul]
    omega
theorem cs_facts {bs : List Int} {rows : List R3} {cs : List Int} {kk : Nat} (fr : Fair bs rows) (rep : RepIs (countsP bs rows (groupsP bs rows)) kk) (hcs : cs = (countsP bs rows (groupsP bs rows)).take kk) :
    1 ≤ cs.length ∧ cs.length ≤ 7200 ∧ 1 ≤ (borneP bs cs).sum ∧ (borneP bs cs).sum ≤ 432000 := by
  have cl := countsP_len bs rows (groupsP bs rows)
  have gr := fr.gr
  have hl : cs.length = kk := by rw [hcs, List.length_take]; have := rep.2.1; omega
  have h1 := rep.1
  have h2 := rep.2.1
  have hlast := fr.bb _ (lastD_mem fr.b0)
  obtain ⟨s1, s2⟩ := sum_bounds (bs := bs) 60 cs (fun c hc => counts_in fr.b0 fr.bb fr.ro c (by rw [hcs] at hc; exact List.mem_of_mem_take hc)) hlast.2
  omega
def spInit (K : PySem.W.Frag) (C : Addr) : Sp := fun vs H Q _ => ∃ (p dx b r : Addr) (bs : List Int) (rows : List R3), vs = [.ref p, .ref b, .ref r] ∧ H p = some (.ins C dx []) ∧ SqT K H b (bs.map V.int) ∧ RowsAt K H r rows ∧ Fair bs rows ∧
  ∀ (cs : List Int) H', HouseAt K C (fun q => H q ≠ none) H' p b r bs rows cs → Else p H H' → Q .non H'
def placeP (bs cs : List Int) (n : Int) : Int :=
  (n / (borneP bs cs).sum * (cs.length : Int) + (lna (sumsP (borneP bs cs)) (n % (borneP bs cs).sum) : Nat)) * bs.getLastD 1 +
    (cs.getD (lna (sumsP (borneP bs cs)) (n % (borneP bs cs).sum)) 0 + n % (borneP bs cs).sum - (sumsP (borneP bs cs)).getD (lna (sumsP (borneP bs cs)) (n % (borneP bs cs).sum)) 0)
def spPlaceM (K : PySem.W.Frag) (C : Addr) : Sp := fun vs H Q _ => ∃ (old : Addr → Prop) (p b r : Addr) (bs : List Int) (rows : List R3) (cs : List Int) (n : Int), vs = [.ref p, .int n] ∧ HouseAt K C old H p b r bs rows cs ∧ 0 ≤ n ∧ ∀ H', Same H H' → Q (.int (placeP bs cs n)) H'
def spLabelM (K : PySem.W.Frag) (C : Addr) : Sp := fun vs H Q _ => ∃ (old : Addr → Prop) (p b r : Addr) (bs : List Int) (rows : List R3) (cs : List Int) (n : Int), vs = [.ref p, .int n] ∧ HouseAt K C old H p b r bs rows cs ∧ 0 ≤ n ∧
  ∀ (t : Addr) H', Same H H' → H t = none → H' t = some (.tup ((labelP bs (placeP bs cs n)).map V.int)) → Q (.ref t) H'
structure HouseTxt (K : PySem.W.Frag) (mg : Str → Option Value) (C : Addr) : Prop where
  cl : Cls K C
  nB : NoAttr K C "_bases"
  nR : NoAttr K C "_rows"
  nT : NoAttr K C "_text"
  nS : NoAttr K C "_skipped"
  nA : NoAttr K C "_frames_ahead"
  nD : NoAttr K C "_round"
  mgC : mg "House" = some (.ref C)
theorem pf_len {f : Str} {v : V} : ∀ {fs : List (Str × V)} {n : Nat}, fs.length ≤ n → (putF f v fs).length ≤ n + 1
  | [], _, _ => Nat.succ_le_succ (Nat.zero_le _)
  | (g, x) :: fs, n, h => by
    unfold putF
    split
    · exact Nat.le_succ_of_le h
    · have h2 : fs.length + 1 ≤ n := h
      obtain ⟨m, rfl⟩ : ∃ m, n = m + 1 := ⟨n - 1, by omega⟩
      exact Nat.succ_le_succ (pf_len (show fs.length ≤ m by omega))
theorem few0 : ([] : List (Str × V)).length < 1000 := by decide
theorem few1 {f1 : Str} {v1 : V} : (putF f1 v1 []).length < 1000 := Nat.lt_of_le_of_lt (pf_len (Nat.le_refl 0)) (by decide)
theorem few2 {f1 f2 : Str} {v1 v2 : V} : (putF f2 v2 (putF f1 v1 [])).length < 1000 := Nat.lt_of_le_of_lt (pf_len (pf_len (Nat.le_refl 0))) (by decide)
theorem few3 {f1 f2 f3 : Str} {v1 v2 v3 : V} : (putF f3 v3 (putF f2 v2 (putF f1 v1 []))).length < 1000 := Nat.lt_of_le_of_lt (pf_len (pf_len (pf_len (Nat.le_refl 0)))) (by decide)
theorem few4 {f1 f2 f3 f4 : Str} {v1 v2 v3 v4 : V} : (putF f4 v4 (putF f3 v3 (putF f2 v2 (putF f1 v1 [])))).length < 1000 := Nat.lt_of_le_of_lt (pf_len (pf_len (pf_len (pf_len (Nat.le_refl 0))))) (by decide)
theorem few5 {f1 f2 f3 f4 f5 : Str} {v1 v2 v3 v4 v5 : V} : (putF f5 v5 (putF f4 v4 (putF f3 v3 (putF f2 v2 (putF f1 v1 []))))).length < 1000 := Nat.lt_of_le_of_lt (pf_len (pf_len (pf_len (pf_len (pf_len (Nat.le_refl 0)))))) (by decide)
theorem every_dvd {rows : List R3} : ∀ (e : Nat), e ∣ rows.foldl everyStep e := by
  induction rows with
  | nil => exact fun e => Nat.dvd_refl e
  | cons x rows ih =>
    intro e
    rw [List.foldl_cons]
    refine Nat.dvd_trans ?_ (ih _)
    unfold everyStep
    split
    · exact Nat.dvd_lcm_left _ _
    · exact Nat.dvd_refl e
theorem mul_dvd : ∀ (l : List Int) (a : Nat), a ∣ l.foldl (fun a b => a * b.toNat) a
  | [], a => Nat.dvd_refl a
  | b :: l, a => Nat.dvd_trans (Nat.dvd_mul_right a b.toNat) (mul_dvd l _)
theorem mul_scale : ∀ (l : List Int) (a : Nat), l.foldl (fun a b => a * b.toNat) a = a * l.foldl (fun a b => a * b.toNat) 1
  | [], a => (Nat.mul_one a).symm
  | b :: l, a => by
    rw [List.foldl_cons, List.foldl_cons, mul_scale l (a * b.toNat), mul_scale l (1 * b.toNat), Nat.one_mul, Nat.mul_assoc]
theorem unitP_dvd (bs : List Int) (f : Nat) : unitP bs f ∣ unitP bs 0 := by
  unfold unitP
  rw [List.drop_zero]
  conv => rhs; rw [← List.take_append_drop f bs.dropLast, List.foldl_append, mul_scale]
  exact Nat.dvd_mul_left _ _
theorem spanP_dvd {bs : List Int} {rows : List R3} {x : R3} (bb : ∀ x ∈ bs, 2 ≤ x ∧ x ≤ 60) (ro : ∀ x ∈ rows, RowOk 60 bs x) (hx : x ∈ rows) : spanP bs x (groupsP bs rows) ∣ groupsP bs rows := by
  unfold spanP
  split
  · exact Nat.dvd_refl _
  · exact Nat.dvd_trans (unitP_dvd bs _) (Nat.dvd_mul_right _ _)
section
variable {P : Program} {w : World} {K : PySem.W.Frag} {mg : Str → Option Value} {base : Heap}
/-- a def with defaults that lets nothing out -/
theorem funD_ok {x qual : Str} {params : Arguments} {body : List Stmt} {scope : Scope} {dvs : List V} {kws : List (Str × V)} {f : Addr} {fd : FuncData} {NN ps : List Str} {k : Nat} {sp : Sp} (F : FunD K x qual params body scope dvs kws f fd) (S : FnScope NN ps scope) (hlen : ∀ vs H Q E, sp vs H Q E → vs.length = ps.length)
    (hbd : ∀ (cdv : Value) (A : Around) (outer : List Env) (s : Shared) (H : Hp) (vs : List V) (Q : VK) (E : XK), Room k (A.deeper (envOfC qual scope s.heap.objs.size f cdv)) → sp vs H Q E →
      ∃ t, PSs (Cx.nox (cxOf CX0 P w K mg base NN qual scope f cdv A outer s H E)) body t ∧ t { nx := fun _ H' => Q .non H', rt := Q } (start NN vs) H) : FnOk P w K mg base CX0 (k + 1) f fd ps sp := by
  refine F.ok S hlen fun cdv A outer s H vs Q E hr h => ?_
  obtain ⟨t, ht, q⟩ := hbd cdv A outer s H vs Q E hr h
  exact ⟨t, ht.nox, q⟩
theorem ok_init {f C : Addr} {fd : FuncData} {dv : List V} (F : FunD K "__init__" "House.__init__" (defArgs sHouse__init_) (defBody sHouse__init_) (defScope sHouse__init_) dv [] f fd) (T : HouseTxt K mg C) (N : Names mg) (M : Consts mg)
    (Dcheck_bases : DefK P w K mg base "check_bases" ["bases"] 3 (spChkBases K)) (Dcheck_rows : DefK P w K mg base "check_rows" ["bases", "rows"] 4 (spChkRows K)) (Dgroups_to_repeat : DefK P w K mg base "groups_to_repeat" ["bases", "rows"] 2 (spRepeat K))
    (Dskipped_counts : DefK P w K mg base "skipped_counts" ["bases", "rows", "groups"] 3 (spSkipped K)) (Dhouse_text : DefK P w K mg base "house_text" ["bases", "rows"] 2 (spHouseText K)) (Dleast_repeat : DefK P w K mg base "least_repeat" ["counts"] 1 (spLeast K))
    (Dsums_ahead : DefK P w K mg base "sums_ahead" ["numbers"] 1 (spSums K)) : FnOk P w K mg base CX0 5 f fd ["self", "bases", "rows"] (spInit K C) := by
  have sc := scHouse__init_
  refine funD_ok F sc (fun vs H Q E h => ?_) (fun cdv A outer s H vs Q E hr h => ?_)
  · obtain ⟨p, dx, b, r, bs, rows, rfl, _⟩ := h
    rfl
  · obtain ⟨p, dx, b, r, bs, rows, rfl, hp, hb, hR, fr, k⟩ := h
    obtain ⟨b0, b3, bb, r6, ro, gr⟩ := id fr
    refine ⟨_, (pss_cons (ps_expr (pe_d Dcheck_bases (hr.mono (by decide)) rfl (pa_cons (pv 1) pa_nil)))
      (pss_cons (ps_expr (pe_d Dcheck_rows (hr.mono (by decide)) rfl (pa_cons (pv 1) (pa_cons (pv 2) pa_nil))))
      (pss_cons (ps_set (i := 3) sc.nd rfl (Or.inl rfl) (pe_d Dgroups_to_repeat (hr.mono (by decide)) rfl (pa_cons (pv 1) (pa_cons (pv 2) pa_nil))))
      (pss_cons (ps_if (pt_cmpR op_gt (pv 3) (pe_const rfl M.MOST_GROUPS) (nomark _)) (pss_one ps_never) pss_nil)
      (pss_cons (ps_set (i := 4) sc.nd rfl (Or.inl rfl) (pe_d Dskipped_counts (hr.mono (by decide)) rfl (pa_cons (pv 1) (pa_cons (pv 2) (pa_cons (pv 3) pa_nil)))))
      (pss_cons (ps_fld (pv 0) (pv 1) rfl)
      (pss_cons (ps_fld (pv 0) (pv 2) rfl)
      (pss_cons (ps_fld (pv 0) (pe_d Dhouse_text (hr.mono (by decide)) rfl (pa_cons (pv 1) (pa_cons (pv 2) pa_nil))) rfl)
      (pss_cons (ps_fld (pv 0) (pe_slice sl_list (pv 4) po_none (po_some (pe_d Dleast_repeat (hr.mono (by decide)) rfl (pa_cons (pv 4) pa_nil)))) rfl)
      (pss_cons (ps_setLc (i := 5) (own := [("count", 6)]) rfl sc.nd rfl rfl (sw_true rfl rfl rfl (by decide +kernel)) (pi_list (pe_fld (pv 0) rfl)) (blkOk_by (own := [("count", 6)]) (N := ["self", "bases", "rows", "groups", "counts", "borne", "count"]) (sc := defScope (inClass (topS 57) 0)) (by decide +kernel)) (fun _ _ _ _ _ => (pg_name (i := 6) sc.nd rfl (Or.inl rfl))) (fun _ _ _ _ _ => pts_nil) (fun _ _ _ _ _ => (pe_op op_sub (pe_ix (show IxR _ (rIxT K) from ix_tup) (pv 1) (pe_un un_neg pe_int) (fun _ _ => rfl)) (pv 6))))
      (pss_cons (ps_fld (pv 0) (pe_d Dsums_ahead (hr.mono (by decide)) rfl (pa_cons (pv 5) pa_nil)) rfl)
      (pss_one (ps_fld (pv 0) (pe_tup (pa_cons (pe_callB call_len_seq (by rfl) N.len (by decide +kernel) (pa_cons (pv 5) pa_nil)) (pa_cons (pe_callB (cr_sum rfl) (by rfl) N.sum (by decide +kernel) (pa_cons (pv 5) pa_nil)) pa_nil))) rfl))))))))))))), ?_⟩
    have hlast := bb _ (lastD_mem b0)
    refine ⟨_, rfl, b, bs, rfl, hb, b0, b3, bb, fun H1 s1 => ?_⟩
    refine ⟨_, rfl, _, rfl, b, r, bs, rows, rfl, Same.seqT s1 hb, b0, hR.same s1, r6, ro, fun H2 s2 => ?_⟩
    have s02 := s1.trans s2
    have hev : everyL rows ≤ 7200 := Nat.le_trans (Nat.le_mul_of_pos_left _ (unitP_pos bb 0)) gr
    refine ⟨_, rfl, _, rfl, b, r, bs, rows, rfl, Same.seqT s02 hb, b0, b3, bb, hR.same s02, ro, by omega, fun H3 s3 => ?_⟩
    have s03 := s02.trans s3
    have gr' : ((unitP bs 0 * everyL rows : Nat) : Int) ≤ 7200 := by
      have : unitP bs 0 * everyL rows ≤ 7200 := gr
      omega
    have g1 : 1 ≤ groupsP bs rows := Nat.mul_pos (unitP_pos bb 0) (every_mono rows 1 (by decide) fun x hx => (ro x hx).2.2.1)
    refine ⟨_, rfl, _, _, rfl, rfl, _, rfl, ?_⟩
    refine ifD (fun hd => absurd hd (Int.not_lt.mpr gr')) (fun _ => ?_)
    refine ⟨_, rfl, _, rfl, _, rfl, b, r, bs, rows, groupsP bs rows, rfl, Same.seqT s03 hb, b0, b3, bb, hR.same s03, ro, g1, gr, fun x hx => spanP_dvd bb ro hx, fun l H4 s4 nl el => ?_⟩
    have s04 := s03.trans s4
    have hp4 := s04 _ _ hp
    have hb4 := Same.seqT s04 hb
    have hR4 := hR.same s04
    have npl : l ≠ p := fun z => by rw [z, s03 _ _ hp] at nl; cases nl
    refine ⟨_, rfl, _, rfl, p, C, dx, _, rfl, hp4, T.cl, T.nB, few0, ?_⟩
    (generalize e_f : upd H4 p _ = H5; have hp5 := (congrFun e_f p).symm.trans upd_same; have x5 : Else p H4 H5 := e_f ▸ els_upd; clear e_f)
    refine ⟨_, rfl, _, rfl, p, C, dx, _, rfl, hp5, T.cl, T.nR, few1, ?_⟩
    (generalize e_f : upd H5 p _ = H6; have hp6 := (congrFun e_f p).symm.trans upd_same; have x6 : Else p H5 H6 := e_f ▸ els_upd; clear e_f)
    have x46 := x5.trans x6
    have hb6 := els_seqT hp4 x46 hb4
    have hR6 := els_rows hp4 x46 hR4
    refine ⟨_, rfl, _, rfl, b, r, bs, rows, rfl, hb6, b3, (fun x hx => ⟨by have := bb x hx; omega, (bb x hx).2⟩), hR6, r6, ro, (fun x hx => by have := (ro x hx).2.2.2.2.2; omega), fun H7 s7 => ?_⟩
    have hp7 := s7 _ _ hp6
    refine ⟨_, rfl, p, C, dx, _, rfl, hp7, T.cl, T.nT, few2, ?_⟩
    (generalize e_f : upd H7 p _ = H8; have hp8 := (congrFun e_f p).symm.trans upd_same; have x8 : Else p H7 H8 := e_f ▸ els_upd; clear e_f)
    have x48 := (x46.trans (Same.els s7)).trans x8
    have el8 := x48 _ _ npl el
    have cl := countsP_len bs rows (groupsP bs rows)
    refine ⟨_, rfl, _, rfl, l, _, rfl, SqL.lst el8, by omega, by omega, fun kk H9 s9 rep => ?_⟩
    have hp9 := s9 _ _ hp8
    have x49 := x48.trans (Same.els s9)
    refine ⟨_, rfl, l, _, rfl, SqL.lst (s9 _ _ el8), ?_⟩
    (intro sk nsk; generalize e_sk : upd H9 sk _ = H10; have s10 : Same H9 H10 := fun b x hb => (congrFun e_sk b).symm.trans (same_new nsk b x hb); have h10 := (congrFun e_sk sk).symm.trans upd_same; clear e_sk)
    have h10' : H10 sk = some (.lst (((countsP bs rows (groupsP bs rows)).take kk).map V.int)) := by rw [h10, cut_to, List.map_take]
    generalize hcs : (countsP bs rows (groupsP bs rows)).take kk = cs at h10'
    have hp10 := s10 _ _ hp9
    have nks : sk ≠ p := fun z => by rw [z, hp9] at nsk; cases nsk
    refine ⟨_, rfl, p, C, dx, _, rfl, hp10, T.cl, T.nS, few3, ?_⟩
    (generalize e_f : upd H10 p _ = H11; have hp11 := (congrFun e_f p).symm.trans upd_same; have x11 : Else p H10 H11 := e_f ▸ els_upd; clear e_f)
    have x411 := (x49.trans (Same.els s10)).trans x11
    have h11 := x11 _ _ nks h10'
    have hb11 := els_seqT hp4 x411 hb4
    have hR11 := els_rows hp4 x411 hR4
    have hkk : kk ≤ groupsP bs rows := by have := rep.2.1; omega
    have hcl : cs.length = kk := by rw [← hcs, List.length_take, countsP_len]; omega
    refine ⟨_, rfl, p, C, dx, _, _, rfl, hp11, T.cl, T.nS, (by rw [lookup_putF, if_pos rfl]), sk, rfl, ⟨_, SqL.lst h11⟩, ?_⟩
    intro D nD
    refine lc_list (K := K) (xs := cs.map V.int) (fun i H' => Same H11 H' ∧ H' D = some (.lst ((borneP bs (cs.take i)).map V.int))) ⟨same_new nD, upd_same⟩ (fun i H' _ ⟨s, _⟩ => s.seq (SqL.lst h11)) ?_ ?_
    · rintro i x H' hx ⟨sm, eD⟩
      obtain ⟨c, hc, rfl⟩ : ∃ b, cs[i]? = some b ∧ x = V.int b := by
        rw [List.getElem?_map] at hx
        obtain ⟨z, hz, e⟩ := Option.map_eq_some_iff.mp hx
        exact ⟨z, hz, e.symm⟩
      refine ⟨rfl, ?_⟩
      have hcm := counts_in b0 bb ro c (by rw [← hcs] at hc; exact List.mem_of_mem_take (List.mem_of_getElem? hc))
      refine ⟨_, rfl, _, rfl, b, _, _, _, rfl, rfl, els_seqT hp11 (Same.els sm) hb11, getLastD_map bs b0, _, rfl, _, _, rfl, rfl, _, eD, smallLt (by unfold borneP; rw [List.length_map, List.length_map, List.length_take]; omega), same_mut sm nD, ?_⟩
      rw [upd_same]
      unfold borneP
      rw [List.take_add_one, hc, List.map_append, List.map_append]
      rfl
    · rintro H12 ⟨sm, eD⟩
      rw [List.take_of_length_le (by rw [List.length_map]; exact Nat.le_refl _)] at eD
      have hp12 := sm _ _ hp11
      have hbl : (borneP bs cs).length = cs.length := by unfold borneP; exact List.length_map ..
      refine ⟨_, rfl, D, borneP bs cs, rfl, SqL.lst eD, by omega, fun ah H13 s13 nah eah => ?_⟩
      have hp13 := s13 _ _ hp12
      have nap : ah ≠ p := fun z => by rw [z, hp12] at nah; cases nah
      have nDp : D ≠ p := fun z => by rw [z, hp11] at nD; cases nD
      refine ⟨_, rfl, p, C, dx, _, rfl, hp13, T.cl, T.nA, few4, ?_⟩
      (generalize e_f : upd H13 p _ = H14; have hp14 := (congrFun e_f p).symm.trans upd_same; have x14 : Else p H13 H14 := e_f ▸ els_upd; clear e_f)
      have eD14 := x14 _ _ nDp (s13 _ _ eD)
      refine ⟨_, rfl, D, _, rfl, .inl (SqL.lst eD14), _, rfl, D, _, rfl, SqL.lst eD14, small (Nat.le_of_ble_eq_true rfl), ?_⟩
      (intro rd nrd; generalize e_rd : upd H14 rd _ = H15; have s15 : Same H14 H15 := fun b x hb => (congrFun e_rd b).symm.trans (same_new nrd b x hb); have h15 := (congrFun e_rd rd).symm.trans upd_same; clear e_rd)
      have hp15 := s15 _ _ hp14
      have nrp : rd ≠ p := fun z => by rw [z, hp14] at nrd; cases nrd
      refine ⟨_, rfl, p, C, dx, _, rfl, hp15, T.cl, T.nD, few5, ?_⟩
      (generalize e_f : upd H15 p _ = H16; have hp16 := (congrFun e_f p).symm.trans upd_same; have x16 : Else p H15 H16 := e_f ▸ els_upd; clear e_f)
      have x1116 : Else p H11 H16 := (((Same.els (sm.trans s13)).trans x14).trans (Same.els s15)).trans x16
      have x412 : Else p H H12 := ((Same.els s04).trans x411).trans (Same.els sm)
      refine k cs H16 ⟨⟨dx, sk, ah, rd, hp16, x1116 _ _ nks h11, x16 _ _ nap (s15 _ _ (x14 _ _ nap eah)), ?_, fun z => z (els_free ((Same.els s04).trans x49) nks nsk), fun z => z (els_free x412 nap nah)⟩, els_seqT hp11 x1116 hb11, els_rows hp11 x1116 hR11, fr, kk, rep, hcs.symm⟩ ((Same.els s04).trans (x411.trans x1116))
      rw [x16 _ _ nrp h15, List.length_map, hbl]
theorem ok_placeborne {f C : Addr} {fd : FuncData} (F : Fun K "_place_borne" "House._place_borne" sHouse_place_borne f fd) (T : HouseTxt K mg C) (N : Names mg) (Dlast_not_above : DefK P w K mg base "last_not_above" ["ascending", "number"] 1 (spLna K)) : FnOk P w K mg base CX0 2 f fd ["self", "frame"] (spPlaceM K C) := by
  have sc := scHouse_place_borne
  refine F.ok sc (fun vs H Q E h => ?_) (fun cdv A outer s H vs Q E hr h => ?_)
  · obtain ⟨old, p, b, r, bs, rows, cs, n, rfl, _⟩ := h
    rfl
  · obtain ⟨old, p, b, r, bs, rows, cs, n, rfl, ⟨⟨dx, sk, ah, rd, e1, e2, e3, e4, _, _⟩, bt, rt, fr, kk, rep, hcs⟩, hn, k⟩ := h
    refine ⟨_, (pss_cons (ps_asg (pe_fld (pv 0) rfl) (pg_tup rfl (pgs_cons (pg_name (i := 2) sc.nd rfl (Or.inl rfl)) (pgs_cons (pg_name (i := 3) sc.nd rfl (Or.inl rfl)) pgs_nil))))
      (pss_cons (ps_asg (pe_callB call_divmod (by rfl) N.divmod (by decide +kernel) (pa_cons (pv 1) (pa_cons (pv 3) pa_nil))) (pg_tup rfl (pgs_cons (pg_name (i := 4) sc.nd rfl (Or.inl rfl)) (pgs_cons (pg_name (i := 5) sc.nd rfl (Or.inl rfl)) pgs_nil))))
      (pss_cons (ps_set (i := 6) sc.nd rfl (Or.inl rfl) (pe_d Dlast_not_above (hr.mono (by decide)) rfl (pa_cons (pe_fld (pv 0) rfl) (pa_cons (pv 5) pa_nil))))
      (pss_cons (ps_set (i := 7) sc.nd rfl (Or.inl rfl) (pe_op op_sub (pe_op op_add (pe_ix ix_list (pe_fld (pv 0) rfl) (pv 6) (fun _ _ => rfl)) (pv 5)) (pe_ix ix_list (pe_fld (pv 0) rfl) (pv 6) (fun _ _ => rfl))))
      (pss_one (ps_ret (pe_op op_add (pe_op op_mul (pe_op op_add (pe_op op_mul (pv 4) (pv 2)) (pv 6)) (pe_ix ix_tup (pe_fld (pv 0) rfl) (pe_un un_neg pe_int) (fun _ _ => rfl))) (pv 7)))))))), ?_⟩
    obtain ⟨c1, c2, c3, c4⟩ := cs_facts fr rep hcs
    have lv := lna_lt (sumsP (borneP bs cs)) (n % (borneP bs cs).sum) (by rw [sumsP_len, borneP_len]; omega)
    rw [sumsP_len, borneP_len] at lv
    refine ⟨_, rfl, p, C, dx, _, _, rfl, e1, T.cl, T.nD, hf_round _ _ _ _ _ _, rd, _, rfl, SqT.tup e4, rfl, _, _, rfl, _, _, rfl, rfl, ?_⟩
    refine ⟨_, rfl, _, rfl, _, _, rfl, ⟨by omega, by omega⟩, ?_⟩
    (intro q nq; generalize e_q : upd H q _ = H1; have s1 : Same H H1 := fun b x hb => (congrFun e_q b).symm.trans (same_new nq b x hb); have h1 := (congrFun e_q q).symm.trans upd_same; clear e_q)
    have e1' := s1 _ _ e1
    have e2' := s1 _ _ e2
    have e3' := s1 _ _ e3
    refine ⟨q, _, rfl, SqT.tup h1, rfl, _, _, rfl, _, _, rfl, rfl, ?_⟩
    refine ⟨_, rfl, p, C, dx, _, _, rfl, e1', T.cl, T.nA, hf_ahead _ _ _ _ _ _, _, rfl, ah, _, _, rfl, SqL.lst e3', (by rw [sumsP_len, borneP_len]; exact c1), (by rw [sumsP_len, borneP_len]; omega), ?_⟩
    refine ⟨_, rfl, p, C, dx, _, _, rfl, e1', T.cl, T.nS, hf_skipped _ _ _ _ _ _, _, rfl, sk, _, _, _, rfl, rfl, SqL.lst e2', atI_getD (by omega) (by omega), _, rfl, _, _, rfl, rfl, ?_⟩
    refine ⟨_, rfl, p, C, dx, _, _, rfl, e1', T.cl, T.nA, hf_ahead _ _ _ _ _ _, _, rfl, ah, _, _, _, rfl, rfl, SqL.lst e3', atI_getD (by omega) (by rw [sumsP_len, borneP_len]; omega), _, _, rfl, rfl, ?_⟩
    have hlast := fr.bb _ (lastD_mem fr.b0)
    refine ⟨_, rfl, _, rfl, _, _, rfl, rfl, .inr ⟨by omega, by omega⟩, _, rfl, _, _, rfl, rfl, ?_⟩
    refine ⟨_, rfl, p, C, dx, _, _, rfl, e1', T.cl, T.nB, hf_bases _ _ _ _ _ _, _, rfl, b, _, _, _, rfl, rfl, Same.seqT s1 bt, getLastD_map bs fr.b0, _, _, rfl, rfl, .inr ⟨by omega, by omega⟩, _, rfl, _, _, rfl, rfl, ?_⟩
    exact k _ s1
theorem ok_placeM {f C fP : Addr} {fd fdP : FuncData} (F : Fun K "place" "House.place" sHouse_place f fd) (T : HouseTxt K mg C) (Dcheck_number : DefK P w K mg base "check_number" ["given"] 3 spChkNum)
    (mP : Meth K C "_place_borne" fP) (GP : FnOk P w K mg base CX0 2 fP fdP ["self", "frame"] (spPlaceM K C)) (bP : Binds K fdP ["self", "frame"] []) : FnOk P w K mg base CX0 4 f fd ["self", "frame"] (spPlaceM K C) := by
  have sc := scHouse_place
  refine F.ok sc (fun vs H Q E h => ?_) (fun cdv A outer s H vs Q E hr h => ?_)
  · obtain ⟨old, p, b, r, bs, rows, cs, n, rfl, _⟩ := h
    rfl
  · obtain ⟨old, p, b, r, bs, rows, cs, n, rfl, hH, hn, k⟩ := h
    refine ⟨_, (pss_cons (ps_expr (pe_d Dcheck_number (hr.mono (by decide)) rfl (pa_cons (pv 1) pa_nil)))
      (pss_one (ps_ret (pe_meth (pv 0) T.cl mP GP (hr.mono (by decide)) bP .nil pass0 (pa_cons (pv 1) pa_nil))))), ?_⟩
    obtain ⟨dx, sk, ah, rd, e1, e2, e3, e4, _, _⟩ := hH.ob
    refine ⟨_, rfl, n, rfl, hn, ?_⟩
    exact ⟨_, rfl, p, dx, _, rfl, e1, hf_place _ _ _ _ _ _, _, rfl, old, p, b, r, bs, rows, cs, n, rfl, hH, hn, k⟩
theorem ok_labelM {f C fP : Addr} {fd fdP : FuncData} (F : Fun K "label" "House.label" sHouse_label f fd) (T : HouseTxt K mg C) (Dcheck_number : DefK P w K mg base "check_number" ["given"] 3 spChkNum) (Dlabel_at : DefK P w K mg base "label_at" ["bases", "place"] 1 (spLabelAt K))
    (mP : Meth K C "_place_borne" fP) (GP : FnOk P w K mg base CX0 2 fP fdP ["self", "frame"] (spPlaceM K C)) (bP : Binds K fdP ["self", "frame"] []) : FnOk P w K mg base CX0 4 f fd ["self", "frame"] (spLabelM K C) := by
  have sc := scHouse_label
  refine F.ok sc (fun vs H Q E h => ?_) (fun cdv A outer s H vs Q E hr h => ?_)
  · obtain ⟨old, p, b, r, bs, rows, cs, n, rfl, _⟩ := h
    rfl
  · obtain ⟨old, p, b, r, bs, rows, cs, n, rfl, hH, hn, k⟩ := h
    refine ⟨_, (pss_cons (ps_expr (pe_d Dcheck_number (hr.mono (by decide)) rfl (pa_cons (pv 1) pa_nil)))
      (pss_one (ps_ret (pe_d Dlabel_at (hr.mono (by decide)) rfl (pa_cons (pe_fld (pv 0) rfl) (pa_cons (pe_meth (pv 0) T.cl mP GP (hr.mono (by decide)) bP .nil pass0 (pa_cons (pv 1) pa_nil)) pa_nil)))))), ?_⟩
    obtain ⟨dx, sk, ah, rd, e1, e2, e3, e4, _, _⟩ := hH.ob
    refine ⟨_, rfl, n, rfl, hn, ?_⟩
    refine ⟨_, rfl, p, C, dx, _, _, rfl, e1, T.cl, T.nB, hf_bases _ _ _ _ _ _, ?_⟩
    refine ⟨_, rfl, p, dx, _, rfl, e1, hf_place _ _ _ _ _ _, _, rfl, old, p, b, r, bs, rows, cs, n, rfl, hH, hn, fun H1 s1 => ?_⟩
    refine ⟨b, bs, _, rfl, Same.seqT s1 hH.bt, hH.fair.b3, hH.fair.bb, fun t H2 s2 nt et => ?_⟩
    exact k t H2 (s1.trans s2) (s1.free nt) et
end
end LM

set_option Elab.async false
set_option linter.all false
set_option maxRecDepth 100000
set_option maxHeartbeats 4000000
set_option pp.maxSteps 600
set_option pp.deepTerms false
namespace LM
open PySem PySem.Spec PyProof.Rows L2
local macro_rules | `(tactic| walk_at "hp") => `(tactic| first | assumption | exact upd_same | (rw [upd_ne (by assumption)]; assumption) | (rw [upd_ne (Ne.symm (by assumption))]; assumption) | (rw [upd_ne (by assumption)]; exact upd_same) | (rw [upd_ne (Ne.symm (by assumption))]; exact upd_same))
local macro_rules | `(tactic| walk_at "sq") => `(tactic| first | assumption | exact Or.inl (Or.inl (by assumption)) | exact Or.inl (Or.inl upd_same) | exact Or.inl (Or.inl (by walk_at "hp")))
local macro_rules | `(tactic| walk_at "ixl") => `(tactic| refine ⟨_, _, _, _, rfl, rfl, (by walk_at "sq"), (by rfl), ?_⟩)
local macro_rules | `(tactic| walk_at "setl") => `(tactic| refine ⟨_, _, _, _, rfl, rfl, (by walk_at "hp"), (by rfl), ?_⟩)
local macro_rules | `(tactic| walk_at "side") => `(tactic| refine idP ?_; first | omega | (show (0 : Int) < _; omega) | (show (0 : Int) < _ ∧ _ < _; omega) | (refine Or.inr ?_; show (-(2 ^ 64) : Int) < _ ∧ _ < _; omega) | (refine Or.inl ?_; show (-(2 ^ 64) : Int) < _ ∧ _ < _; omega) | exact divW (by omega) (by omega) _ | (refine ⟨by decide, by decide, ?_⟩; decide))
local macro_rules | `(tactic| walk_at "go1") => `(tactic| first
  | refine ⟨_, rfl, ?_⟩
  | refine ⟨_, _, rfl, rfl, (by walk_at "side"), ?_⟩
  | refine ⟨_, _, rfl, (by walk_at "side"), ?_⟩
  | refine ⟨_, _, rfl, rfl, ?_⟩
  | refine Or.inl ⟨_, rfl, ?_⟩
  | refine ⟨_, _, rfl, Or.inl (by walk_at "sq"), ?_⟩
  | walk_at "ixl"
  | walk_at "setl"
  | refine ⟨_, _, rfl, (by walk_at "sq"), rfl, ?_⟩
  | refine ⟨_, _, rfl, (by walk_at "sq"), ?_⟩
  | refine ⟨_, _, rfl, ?_⟩
  | refine ⟨rfl, ?_⟩
  | refine ⟨small (Nat.le_of_ble_eq_true rfl), ?_⟩)
local macro_rules | `(tactic| walk_at "go") => `(tactic| repeat walk_at "go1")

theorem DGet.some {H : Hp} {d : Addr} {kvs : List (Key × V)} {s : Str} {v : V} (h : H d = Option.some (.dK kvs)) (e : valV kvs (Sum.inr s : Key) = Option.some v) : DGet H d (.str s) (Option.some v) := by
  have := DGet.k (k := Sum.inr s) h
  rw [e] at this
  exact this
/-- tuple of a list or a tuple -/
def rTupOf (K : PySem.W.Frag) : List V → Hp → VK → Prop := fun xs H Q => ∃ p ys, xs = [.ref p] ∧ ((SqL K H p ys ∧ ∀ l, H l = none → Q (.ref l) (upd H l (.tup ys))) ∨ (SqT K H p ys ∧ Q (.ref p) H))
/-- the law's own house at d, as far as it is asked for its bases and rows -/
def HomeD (H : Hp) (d g l : Addr) : Prop := ∃ n s b : V, H d = some (.dK [(Sum.inr "ground", .ref g), (Sum.inr "lanes", .ref l), (Sum.inr "groups", n), (Sum.inr "spots", s), (Sum.inr "below", b)])
theorem HomeAt.els {old : Addr → Prop} {H H' : Hp} {d g l q : Addr} {gs : List Int} {rows : List R3} (h : HomeAt old H d g l gs rows) (n : d ≠ q) (hq : old q) (e : Else q H H') : HomeAt old H' d g l gs rows := by
  obtain ⟨s, b, cs, m, e1, e2, e3, e4, e5, e6, e7⟩ := h
  exact ⟨s, b, cs, m, e _ _ n e1, e2, e3, e _ _ (fun z => e6 (z ▸ hq)) e4, e _ _ (fun z => e7 (z ▸ hq)) e5, e6, e7⟩
theorem HomeAt.same {old : Addr → Prop} {H H' : Hp} {d g l : Addr} {gs : List Int} {rows : List R3} (h : HomeAt old H d g l gs rows) (s : Same H H') : HomeAt old H' d g l gs rows := by
  obtain ⟨x, b, cs, m, e1, e2, e3, e4, e5, e6, e7⟩ := h
  exact ⟨x, b, cs, m, s _ _ e1, e2, e3, s _ _ e4, s _ _ e5, e6, e7⟩
theorem HomeAt.dict {old : Addr → Prop} {H : Hp} {d g l : Addr} {gs : List Int} {rows : List R3} (h : HomeAt old H d g l gs rows) : HomeD H d g l := by
  obtain ⟨s, b, cs, n, e, _⟩ := h
  exact ⟨_, _, _, e⟩
theorem HomeD.els {H H' : Hp} {p d g l : Addr} (h : HomeD H d g l) (n : d ≠ p) (e : Else p H H') : HomeD H' d g l := by
  obtain ⟨x, s, b, ed⟩ := h
  exact ⟨x, s, b, e _ _ n ed⟩
theorem HouseAt.weak {K : PySem.W.Frag} {C : Addr} {o1 o2 : Addr → Prop} {H : Hp} {p b r : Addr} {bs : List Int} {rows : List R3} {cs : List Int} (h : HouseAt K C o1 H p b r bs rows cs) (i : ∀ q, o2 q → o1 q) : HouseAt K C o2 H p b r bs rows cs := by
  obtain ⟨⟨dx, sk, ah, rd, e1, e2, e3, e4, e5, e6⟩, h2, h3, h4, h5⟩ := h
  exact ⟨⟨dx, sk, ah, rd, e1, e2, e3, e4, fun z => e5 (i _ z), fun z => e6 (i _ z)⟩, h2, h3, h4, h5⟩
/-- a list at q that is no part of the house changes: the house stays -/
theorem HouseAt.els {K : PySem.W.Frag} {C : Addr} {old : Addr → Prop} {H H' : Hp} {q p b r : Addr} {bs : List Int} {rows : List R3} {cs : List Int} {ys : List V} (h : HouseAt K C old H p b r bs rows cs) (hq : H q = some (.lst ys)) (ho : old q) (e : Else q H H') : HouseAt K C old H' p b r bs rows cs := by
  obtain ⟨⟨dx, sk, ah, rd, e1, e2, e3, e4, e5, e6⟩, h2, ⟨as, h3, h3'⟩, h4, h5⟩ := h
  have tup : ∀ {a : Addr} {xs : List V}, SqT K H a xs → SqT K H' a xs := by
    intro a xs z
    rcases z with (z | ⟨o, z⟩) | z
    · exact .inl (.inl (e _ _ (fun y => by rw [y, hq] at z; cases z) z))
    · exact .inl (.inr ⟨o, e _ _ (fun y => by rw [y, hq] at z; cases z) z⟩)
    · exact .inr z
  refine ⟨⟨dx, sk, ah, rd, e _ _ (fun y => by rw [y, hq] at e1; cases e1) e1, e _ _ (fun y => e5 (y ▸ ho)) e2, e _ _ (fun y => e6 (y ▸ ho)) e3, e _ _ (fun y => by rw [y, hq] at e4; cases e4) e4, e5, e6⟩, tup h2, ⟨as, tup h3, paired_imp h3' fun a _ x z => tup z⟩, h4, h5⟩
def spBuilt (K : PySem.W.Frag) (C : Addr) : Sp := fun vs H Q _ => ∃ (d g l : Addr) (gs : List Int) (rows : List R3), vs = [.ref d] ∧ HomeD H d g l ∧ SqL K H g (gs.map V.int) ∧ LanesIn K H l rows ∧ Fair gs rows ∧
  ∀ (p b r : Addr) (cs : List Int) H', Same H H' → H p = none → HouseAt K C (fun q => H q ≠ none) H' p b r gs rows cs → Q (.ref p) H'
section
variable {P : Program} {w : World} {K : PySem.W.Frag} {mg : Str → Option Value} {base : Heap}
end
end LM

set_option Elab.async false
set_option linter.all false
set_option maxRecDepth 100000
set_option maxHeartbeats 4000000
namespace LM
open PySem PySem.Spec PyProof.Rows L2
/-! ### arithmetic of groups -/
theorem mod_two {x u e : Nat} (hu : 0 < u) : x % (u * e) = 0 ↔ x / u % e = 0 ∧ x % u = 0 := by
  rw [Nat.mod_mul]
  constructor
  · intro h
    have h1 : x % u = 0 := by omega
    have h2 : u * (x / u % e) = 0 := by omega
    exact ⟨(Nat.mul_eq_zero.mp h2).resolve_left (by omega), h1⟩
  · rintro ⟨h1, h2⟩
    rw [h1, h2, Nat.mul_zero]
theorem castmod (g e : Nat) : ((g : Int) % (e : Int) = 0) ↔ g % e = 0 := by
  rw [← Int.natCast_emod]
  omega
def fitN (gs : List Int) (r : R3) (g : Nat) : Prop := (if r.1 = 0 then g else g % unitP gs (r.1.toNat - 1)) % (unitP gs r.1.toNat * r.2.1.toNat) = 0
theorem fitL_iff (ds : List Int) (r : R3) : fitL ds r = true ↔ (ds.getD r.1.toNat 0 % r.2.1 = 0 ∧ ∀ k ∈ ds.drop (r.1.toNat + 1), k = 0) := by
  unfold fitL
  rw [Bool.and_eq_true, decide_eq_true_iff, Bool.not_eq_true', List.any_eq_false]
  constructor
  · rintro ⟨h1, h2⟩
    refine ⟨h1, fun k hk => ?_⟩
    have := h2 k hk
    simpa using this
  · rintro ⟨h1, h2⟩
    refine ⟨h1, fun k hk => ?_⟩
    simp [h2 k hk]
theorem fit_law {gs : List Int} {r : R3} (g0 : 1 ≤ gs.length) (g3 : gs.length ≤ 3) (gb : ∀ x ∈ gs, 2 ≤ x ∧ x ≤ 60) (ro : RowOk 60 gs r) (g : Nat) : fitL (digs gs (g : Int)) r = true ↔ fitN gs r g := by
  obtain ⟨f, e, c⟩ := r
  obtain ⟨o1, o2, o3, o4, _, _⟩ := ro
  dsimp only at o1 o2 o3 o4
  obtain ⟨E, rfl⟩ : ∃ E : Nat, e = (E : Int) := ⟨e.toNat, by omega⟩
  rw [fitL_iff]
  unfold fitN
  dsimp only
  rw [Int.toNat_natCast]
  match gs, g0, g3 with
  | [b], _, _ =>
    have hf : f = 0 := by simp at o2; omega
    subst hf
    show ((g : Int) % (E : Int) = 0 ∧ ∀ k ∈ [], k = 0) ↔ g % (1 * E) = 0
    rw [castmod, Nat.one_mul]
    exact ⟨fun h => h.1, fun h => ⟨h, fun _ z => nomatch z⟩⟩
  | [a, b], _, _ =>
    have ha := gb a (by simp)
    obtain ⟨A, rfl⟩ : ∃ A : Nat, a = (A : Int) := ⟨a.toNat, by omega⟩
    have hf : f = 0 ∨ f = 1 := by simp at o2; omega
    rcases hf with rfl | rfl
    · show ((g : Int) / (A : Int) % (E : Int) = 0 ∧ ∀ k ∈ [(g : Int) % (A : Int)], k = 0) ↔ g % (1 * A * E) = 0
      rw [Nat.one_mul, mod_two (by omega), ← Int.natCast_ediv, castmod, ← castmod g A]
      exact ⟨fun h => ⟨h.1, h.2 _ (List.mem_singleton.mpr rfl)⟩, fun h => ⟨h.1, fun k hk => by rw [List.mem_singleton.mp hk]; exact h.2⟩⟩
    · show ((g : Int) % (A : Int) % (E : Int) = 0 ∧ ∀ k ∈ [], k = 0) ↔ g % (1 * A) % (1 * E) = 0
      rw [Nat.one_mul, Nat.one_mul, ← Int.natCast_emod, castmod]
      exact ⟨fun h => h.1, fun h => ⟨h, fun _ z => nomatch z⟩⟩
  | [a, b, d], _, _ =>
    have ha := gb a (by simp)
    have hb := gb b (by simp)
    obtain ⟨A, rfl⟩ : ∃ A : Nat, a = (A : Int) := ⟨a.toNat, by omega⟩
    obtain ⟨B, rfl⟩ : ∃ B : Nat, b = (B : Int) := ⟨b.toNat, by omega⟩
    have hf : f = 0 ∨ f = 1 ∨ f = 2 := by simp at o2; omega
    have hAB : 0 < A * B := Nat.mul_pos (by omega) (by omega)
    rcases hf with rfl | rfl | rfl
    · show ((g : Int) / (B : Int) / (A : Int) % (E : Int) = 0 ∧ ∀ k ∈ [(g : Int) / (B : Int) % (A : Int), (g : Int) % (B : Int)], k = 0) ↔ g % (1 * A * B * E) = 0
      rw [Nat.one_mul, mod_two hAB, Nat.mul_comm A B, mod_two (show 0 < B by omega), ← Nat.div_div_eq_div_mul, ← Int.natCast_ediv, ← Int.natCast_ediv, castmod, ← castmod (g / B) A, ← castmod g B]
      constructor
      · rintro ⟨h1, h2⟩
        exact ⟨h1, h2 _ (by simp), h2 _ (by simp)⟩
      · rintro ⟨h1, h2, h3⟩
        refine ⟨h1, fun k hk => ?_⟩
        rcases List.mem_cons.mp hk with rfl | hk
        · exact h2
        · rw [List.mem_singleton.mp hk]
          exact h3
    · show ((g : Int) / (B : Int) % (A : Int) % (E : Int) = 0 ∧ ∀ k ∈ [(g : Int) % (B : Int)], k = 0) ↔ g % (1 * A * B) % (1 * B * E) = 0
      rw [Nat.one_mul, Nat.one_mul, mod_two (show 0 < B by omega), Nat.mul_comm A B, Nat.mod_mul_right_div_self, Nat.mod_mul_right_mod, ← Int.natCast_ediv, ← Int.natCast_emod, castmod, ← castmod g B]
      exact ⟨fun h => ⟨h.1, h.2 _ (List.mem_singleton.mpr rfl)⟩, fun h => ⟨h.1, fun k hk => by rw [List.mem_singleton.mp hk]; exact h.2⟩⟩
    · show ((g : Int) % (B : Int) % (E : Int) = 0 ∧ ∀ k ∈ [], k = 0) ↔ g % (1 * B) % (1 * E) = 0
      rw [Nat.one_mul, Nat.one_mul, ← Int.natCast_emod, castmod]
      exact ⟨fun h => h.1, fun h => ⟨h, fun _ z => nomatch z⟩⟩
theorem mem_seg {span step start g : Nat} (hs : 1 ≤ step) (hp : 1 ≤ span) : g ∈ segN span step start ↔ start ≤ g ∧ g < start + span ∧ (g - start) % step = 0 := by
  unfold segN
  rw [show ((start : Int) + (span : Int)) = ((start + span : Nat) : Int) by omega, rgN_nat, if_pos (by omega), List.mem_map]
  constructor
  · rintro ⟨j, hj, rfl⟩
    have hj := List.mem_range.mp hj
    have h1 : j ≤ (start + span - start - 1) / step := by omega
    have h2 : j * step ≤ start + span - start - 1 := (Nat.le_div_iff_mul_le (by omega)).mp h1
    refine ⟨by omega, by omega, ?_⟩
    rw [Nat.add_sub_cancel_left, Nat.mul_mod_left]
  · rintro ⟨h1, h2, h3⟩
    refine ⟨(g - start) / step, List.mem_range.mpr ?_, ?_⟩
    · have := Nat.div_le_div_right (c := step) (show g - start ≤ start + span - start - 1 by omega)
      omega
    · have := Nat.div_mul_cancel (Nat.dvd_of_mod_eq_zero h3)
      omega
theorem mem_fits {span step n g : Nat} (h1 : 1 ≤ n) (hd : span ∣ n) (hs : 1 ≤ step) (hg : g < n) : g ∈ fitsP span step n ↔ g % span % step = 0 := by
  have hp : 1 ≤ span := Nat.pos_of_dvd_of_pos hd (by omega)
  have hc := rg_count h1 hd
  have dm := Nat.div_add_mod g span
  have ml := Nat.mod_lt g (show 0 < span by omega)
  unfold fitsP
  rw [List.mem_flatten]
  constructor
  · rintro ⟨l, hl, hg2⟩
    obtain ⟨k, hk, rfl⟩ := List.mem_map.mp hl
    obtain ⟨q1, q2, q3⟩ := (mem_seg hs hp).mp hg2
    have e : g / span = k := by
      refine Nat.div_eq_of_lt_le q1 ?_
      rw [Nat.succ_mul]
      exact q2
    rw [show g % span = g - k * span by rw [← e, Nat.mul_comm]; omega]
    exact q3
  · intro h
    refine ⟨_, List.mem_map.mpr ⟨g / span, List.mem_range.mpr ?_, rfl⟩, (mem_seg hs hp).mpr ⟨?_, ?_, ?_⟩⟩
    · exact Nat.div_lt_of_lt_mul (by rw [Nat.mul_comm, hc]; exact hg)
    · rw [Nat.mul_comm]
      omega
    · rw [Nat.mul_comm]
      omega
    · rw [Nat.mul_comm, show g - span * (g / span) = g % span by omega]
      exact h
theorem fit_prog {bs : List Int} {r : R3} {n g : Nat} (bb : ∀ x ∈ bs, 2 ≤ x ∧ x ≤ 60) (ro : RowOk 60 bs r) (h1 : 1 ≤ n) (hd : spanP bs r n ∣ n) (hg : g < n) : fitG bs n r g ↔ fitN bs r g := by
  unfold fitG
  have hs : 1 ≤ stepP bs r := Nat.mul_pos (unitP_pos bb _) (by have := ro.2.2.1; omega)
  rw [mem_fits h1 hd hs hg]
  unfold fitN spanP stepP
  split
  · rw [Nat.mod_eq_of_lt hg]
  · exact Iff.rfl
theorem ite_iff {α : Type} {p q : Prop} {i1 : Decidable p} {i2 : Decidable q} (h : p ↔ q) (x y : α) : (if p then x else y) = if q then x else y := by
  by_cases hp : p
  · rw [if_pos hp, if_pos (h.mp hp)]
  · rw [if_neg hp, if_neg fun z => hp (h.mpr z)]
open Classical in
noncomputable def gnStep (gs : List Int) (g : Nat) (acc : Int) (r : R3) : Int := if fitN gs r g then r.2.2 else acc
/-- how many labels of a group are skipped -/
noncomputable def GN (gs : List Int) (rows : List R3) (g : Nat) : Int := rows.foldl (gnStep gs g) 0
theorem gapL_GN {gs : List Int} {rows : List R3} (g0 : 1 ≤ gs.length) (g3 : gs.length ≤ 3) (gb : ∀ x ∈ gs, 2 ≤ x ∧ x ≤ 60) (ro : ∀ r ∈ rows, RowOk 60 gs r) (g : Nat) : gapL gs rows (g : Int) = GN gs rows g := by
  unfold gapL GN
  suffices ∀ (l : List R3) (acc : Int), (∀ r ∈ l, RowOk 60 gs r) → l.foldl (gapStep (digs gs (g : Int))) acc = l.foldl (gnStep gs g) acc from this rows 0 ro
  intro l
  induction l with
  | nil => exact fun _ _ => rfl
  | cons r l ih =>
    intro acc h
    rw [List.foldl_cons, List.foldl_cons, ih _ fun x hx => h x (List.mem_cons_of_mem _ hx)]
    congr 1
    unfold gapStep gnStep
    exact ite_iff (fit_law g0 g3 gb (h r List.mem_cons_self) g) _ _
theorem cntP_GN {gs : List Int} {rows : List R3} {n g : Nat} (gb : ∀ x ∈ gs, 2 ≤ x ∧ x ≤ 60) (ro : ∀ r ∈ rows, RowOk 60 gs r) (h1 : 1 ≤ n) (hd : ∀ x ∈ rows, spanP gs x n ∣ n) (hg : g < n) : cntP gs rows n g = GN gs rows g := by
  unfold cntP GN
  suffices ∀ (l : List R3) (acc : Int), (∀ r ∈ l, RowOk 60 gs r) → (∀ x ∈ l, spanP gs x n ∣ n) → l.foldl (cntStep gs n g) acc = l.foldl (gnStep gs g) acc from this rows 0 ro hd
  intro l
  induction l with
  | nil => exact fun _ _ _ => rfl
  | cons r l ih =>
    intro acc h h2
    rw [List.foldl_cons, List.foldl_cons, ih _ (fun x hx => h x (List.mem_cons_of_mem _ hx)) fun x hx => h2 x (List.mem_cons_of_mem _ hx)]
    congr 1
    unfold cntStep gnStep
    exact ite_iff (fit_prog gb (h r List.mem_cons_self) h1 (h2 r List.mem_cons_self) hg) _ _
/-! ### rounds -/
def Per (G : Nat → Int) (p : Nat) : Prop := ∀ i, G (i + p) = G i
/-- p keeps the rows -/
def Keeps (gs : List Int) (rows : List R3) (p : Nat) : Prop := unitP gs 0 ∣ p ∧ ∀ r ∈ rows, r.1 = 0 → unitP gs 0 * r.2.1.toNat ∣ p
theorem fitN_per {gs : List Int} {r : R3} {p : Nat} (hu : unitP gs 0 ∣ p) (hr : r.1 = 0 → unitP gs 0 * r.2.1.toNat ∣ p) (g : Nat) : fitN gs r (g + p) ↔ fitN gs r g := by
  unfold fitN
  by_cases h : r.1 = 0
  · rw [if_pos h, if_pos h, h]
    obtain ⟨k, rfl⟩ := hr h
    show (g + unitP gs 0 * r.2.1.toNat * k) % (unitP gs 0 * r.2.1.toNat) = 0 ↔ g % (unitP gs 0 * r.2.1.toNat) = 0
    rw [Nat.add_mul_mod_self_left]
  · rw [if_neg h, if_neg h]
    obtain ⟨k, rfl⟩ := Nat.dvd_trans (unitP_dvd gs (r.1.toNat - 1)) hu
    rw [Nat.add_mul_mod_self_left]
theorem GN_per {gs : List Int} {rows : List R3} {p : Nat} (h : Keeps gs rows p) : Per (GN gs rows) p := by
  intro g
  unfold GN
  suffices ∀ (l : List R3) (acc : Int), (∀ r ∈ l, r.1 = 0 → unitP gs 0 * r.2.1.toNat ∣ p) → l.foldl (gnStep gs (g + p)) acc = l.foldl (gnStep gs g) acc from this rows 0 h.2
  intro l
  induction l with
  | nil => exact fun _ _ => rfl
  | cons r l ih =>
    intro acc hl
    rw [List.foldl_cons, List.foldl_cons, ih _ fun x hx => hl x (List.mem_cons_of_mem _ hx)]
    congr 1
    unfold gnStep
    exact ite_iff (fitN_per h.1 (hl r List.mem_cons_self) g) _ _
theorem every_in : ∀ (rows : List R3) (e : Nat), ∀ r ∈ rows, r.1 = 0 → r.2.1.toNat ∣ rows.foldl everyStep e
  | x :: rows, e, r, hr, h0 => by
    rw [List.foldl_cons]
    rcases List.mem_cons.mp hr with rfl | hr
    · refine Nat.dvd_trans ?_ (every_dvd _)
      unfold everyStep
      rw [if_pos h0]
      exact Nat.dvd_lcm_right _ _
    · exact every_in rows _ r hr h0
theorem keeps_groups (gs : List Int) (rows : List R3) : Keeps gs rows (groupsP gs rows) :=
  ⟨Nat.dvd_mul_right _ _, fun r hr h0 => Nat.mul_dvd_mul_left _ (every_in rows 1 r hr h0)⟩
theorem unitP_unitL (gs : List Int) : unitP gs 0 = unitL gs := rfl
theorem per_add {G : Nat → Int} {p q : Nat} (h : Per G p) (h2 : Per G q) : Per G (p + q) := fun i => by
  rw [← Nat.add_assoc, h2, h]
theorem per_mul {G : Nat → Int} {p : Nat} (h : Per G p) : ∀ k i, G (i + p * k) = G i
  | 0, i => rfl
  | k + 1, i => by
    rw [Nat.mul_succ, ← Nat.add_assoc, h, per_mul h k]
theorem per_mod {G : Nat → Int} {p q : Nat} (h : Per G p) (h2 : Per G q) : Per G (q % p) := fun i => by
  rw [← per_mul h (q / p) (i + q % p), show i + q % p + p * (q / p) = i + q by have := Nat.mod_add_div q p; omega, h2]
/-- the least number from 1 on behind which all comes again -/
def LeastPer (G : Nat → Int) (m : Nat) : Prop := 1 ≤ m ∧ Per G m ∧ ∀ j, 1 ≤ j → j < m → ¬ Per G j
theorem LeastPer.dvd {G : Nat → Int} {m q : Nat} (h : LeastPer G m) (hq : Per G q) : m ∣ q := by
  have hm := per_mod h.2.1 hq
  refine Nat.dvd_of_mod_eq_zero ?_
  rcases Nat.eq_zero_or_pos (q % m) with z | z
  · exact z
  · exact absurd hm (h.2.2 _ z (Nat.mod_lt _ h.1))
theorem LeastPer.uniq {G : Nat → Int} {m k : Nat} (h : LeastPer G m) (h2 : LeastPer G k) : m = k := by
  rcases Nat.lt_trichotomy m k with z | z | z
  · exact absurd h.2.1 (h2.2.2 m h.1 z)
  · exact z
  · exact absurd h2.2.1 (h.2.2 k h2.1 z)
theorem range_get {G : Nat → Int} {n i : Nat} (h : i < n) : ((List.range n).map G)[i]? = some (G i) := by
  rw [List.getElem?_map, List.getElem?_range h]
  rfl
theorem repOk_iff {G : Nat → Int} {n k : Nat} (hk : 1 ≤ k) (hkn : k ≤ n) (hn : Per G n) : repOk ((List.range n).map G) k ↔ (k ∣ n ∧ Per G k) := by
  unfold repOk
  rw [List.length_map, List.length_range]
  constructor
  · rintro ⟨h1, h2⟩
    have hd := Nat.dvd_of_mod_eq_zero h1
    refine ⟨hd, ?_⟩
    have step : ∀ i, i + k < n → G (i + k) = G i := by
      intro i hi
      have e := congrArg (fun l => l[i]?) h2
      rw [List.getElem?_drop, List.getElem?_take_of_lt (by omega), range_get (by omega), range_get (by omega), Nat.add_comm k i] at e
      exact Option.some.inj e
    have low : ∀ i, i < n → G i = G (i % k) := by
      intro i
      induction i using Nat.strongRecOn with
      | _ i ih =>
        intro hi
        by_cases h : i < k
        · rw [Nat.mod_eq_of_lt h]
        · have := step (i - k) (by omega)
          rw [show i - k + k = i by omega] at this
          rw [this, ih (i - k) (by omega) (by omega), ← Nat.mod_eq_sub_mod (by omega)]
    have all : ∀ i, G i = G (i % k) := by
      intro i
      have e := per_mul hn (i / n) (i % n)
      rw [Nat.mod_add_div] at e
      rw [e, low _ (Nat.mod_lt _ (by omega)), Nat.mod_mod_of_dvd _ hd]
    intro i
    rw [all (i + k), Nat.add_mod_right, ← all i]
  · rintro ⟨hd, hp⟩
    refine ⟨Nat.mod_eq_zero_of_dvd hd, List.ext_getElem? fun i => ?_⟩
    rw [List.getElem?_drop]
    by_cases h : i < n - k
    · rw [List.getElem?_take_of_lt h, range_get (by omega), range_get (by omega), Nat.add_comm k i, hp]
    · rw [List.getElem?_eq_none (by rw [List.length_map, List.length_range]; omega), List.getElem?_eq_none (by rw [List.length_take, List.length_map, List.length_range]; omega)]
theorem rep_least {G : Nat → Int} {n k : Nat} (hn : Per G n) (h : RepIs ((List.range n).map G) k) : LeastPer G k := by
  obtain ⟨h1, h2, h3, h4⟩ := h
  rw [List.length_map, List.length_range] at h2
  obtain ⟨q1, q2⟩ := (repOk_iff h1 h2 hn).mp h3
  -- the least period divides n
  have ex : ∃ m, LeastPer G m := by
    have : ∀ b, (∃ m, 1 ≤ m ∧ m ≤ b ∧ Per G m) → ∃ m, LeastPer G m := by
      intro b
      induction b with
      | zero => exact fun ⟨m, a, c, _⟩ => by omega
      | succ b ih =>
        rintro ⟨m, a, c, d⟩
        by_cases hx : ∃ m, 1 ≤ m ∧ m ≤ b ∧ Per G m
        · exact ih hx
        · exact ⟨m, a, d, fun j j1 j2 j3 => hx ⟨j, j1, by omega, j3⟩⟩
    exact this k ⟨k, h1, Nat.le_refl k, q2⟩
  obtain ⟨m, hm⟩ := ex
  have hmn : m ∣ n := hm.dvd hn
  have hmle : m ≤ n := Nat.le_of_dvd (by omega) hmn
  have hmk : m ≤ k := Nat.le_of_dvd (by omega) (hm.dvd q2)
  rcases Nat.lt_or_eq_of_le hmk with z | z
  · exact absurd ((repOk_iff hm.1 hmle hn).mpr ⟨hmn, hm.2.1⟩) (h4 m hm.1 z)
  · rw [← z]
    exact hm
theorem counts_GN {gs : List Int} {rows : List R3} (fr : Fair gs rows) : countsP gs rows (groupsP gs rows) = (List.range (groupsP gs rows)).map (GN gs rows) := by
  refine List.map_congr_left fun g hg => ?_
  have g1 : 1 ≤ groupsP gs rows := Nat.mul_pos (unitP_pos fr.bb 0) (every_mono rows 1 (by decide) fun x hx => (fr.ro x hx).2.2.1)
  exact cntP_GN fr.bb fr.ro g1 (fun x hx => spanP_dvd fr.bb fr.ro hx) (List.mem_range.mp hg)
theorem gaps_GN {gs : List Int} {rows : List R3} (fr : Fair gs rows) (n : Nat) : gapsL gs rows n = (List.range n).map (GN gs rows) :=
  List.map_congr_left fun g _ => gapL_GN fr.b0 fr.b3 fr.bb fr.ro g
/-- the house's counts are those of the least round -/
theorem cs_GN {gs : List Int} {rows : List R3} {cs : List Int} (fr : Fair gs rows) (h : ∃ k, RepIs (countsP gs rows (groupsP gs rows)) k ∧ cs = (countsP gs rows (groupsP gs rows)).take k) : LeastPer (GN gs rows) cs.length ∧ cs = (List.range cs.length).map (GN gs rows) := by
  obtain ⟨k, hk, rfl⟩ := h
  rw [counts_GN fr] at hk ⊢
  have hl := rep_least (GN_per (keeps_groups gs rows)) hk
  have hkn : k ≤ groupsP gs rows := by have := hk.2.1; rwa [List.length_map, List.length_range] at this
  have hlen : ((List.range (groupsP gs rows)).map (GN gs rows)).take k = (List.range k).map (GN gs rows) := by
    rw [← List.map_take, List.take_range, Nat.min_eq_left hkn]
  rw [hlen, List.length_map, List.length_range]
  exact ⟨hl, rfl⟩
end LM

set_option Elab.async false
set_option linter.all false
set_option maxRecDepth 100000
set_option maxHeartbeats 4000000
namespace LM
open PySem PySem.Spec PyProof.Rows L2
/-! ### defs called where no repr is under way -/
structure FnG (P : Program) (w : World) (K : PySem.W.Frag) (mg : Str → Option Value) (base : Heap) (k : Nat) (f : Addr) (fd : FuncData) (ps : List Str) (sp : Sp) : Prop where
  num : ∀ xs G R Z, sp xs G R Z → xs.length = ps.length
  go : ∀ (Ar : Around) (above : List Env) (t : Shared) (G : Hp) (ar : Args) (ys : List Value) (xs : List V) (R : VK) (Z : XK), Ar.guards = some [] → Room k Ar → Env0 P w K mg base Ar above t G → BindsTo t fd ar (ps.zip ys) → Vals xs ys → sp xs G R Z →
    codeAny (model P w) Ar (.call (.ref f) ar) (CR CX0 above P w G t R Z) t
section
variable {P : Program} {w : World} {K : PySem.W.Frag} {mg : Str → Option Value} {base : Heap}
/-- such a def, by its body -/
theorem funG_ok {x qual : Str} {st : Stmt} {f : Addr} {fd : FuncData} {NN ps : List Str} {k : Nat} {sp : Sp} (F : Fun K x qual st f fd) (S : FnScope NN ps (defScope st)) (hnum : ∀ xs G R Z, sp xs G R Z → xs.length = ps.length)
    (hbd : ∀ (cd : Value) (Ar : Around) (above : List Env) (t : Shared) (G : Hp) (xs : List V) (R : VK) (Z : XK), Ar.guards = some [] → Room k (Ar.deeper (envOfC qual (defScope st) t.heap.objs.size f cd)) → sp xs G R Z →
      ∃ T, PSs (Cx.nox (cxOf CX0 P w K mg base NN qual (defScope st) f cd Ar above t G Z)) (defBody st) T ∧ T { nx := fun _ G' => R .non G', rt := R } (start NN xs) G) : FnG P w K mg base (k + 1) f fd ps sp := by
  obtain ⟨oc, od, kV, doc, pm, an, cd, ct, osl, rfl, inK, hco⟩ := F.ex
  refine ⟨hnum, fun Ar above t G ar ys xs R Z hgd room en bi va sat => ?_⟩
  have hlen := hnum _ _ _ _ sat
  have kin : K.In t.heap := en.mod.kin.keeps fun b o z => (en.bs b o z).1
  have noL : t.heap.NoLimit := en.mod.nolimit.keeps fun b o z => (en.bs b o z).1
  have kinds : ∀ y ∈ ps.zip ys, (defScope st).names.lookup y.1 = some .local ∨ ((defScope st).names.lookup y.1 = some .cell ∧ ((cellsFrom (t.heap.objs.size + 1) (defScope st).names []).lookup y.1).isSome = true) := by
    rintro ⟨n, v⟩ hy
    exact (S.par n (List.of_mem_zip hy).1).imp id fun q => ⟨q, PySem.W.cellsFrom_some _ _ _ (.inl q)⟩
  refine codeAny_call_function room.depth (kin _ _ inK) rfl S.co S.gen rfl (PySem.W.codeRec_of kin hco) (bi _ _ _ _ ?_)
  refine wpAny_newFunctionEnv_cells S.kind kinds fun env heq t1 inC => ?_
  subst heq
  refine ⟨noL.keeps inC.toInCall.keep, codeAny_func ?_⟩
  obtain ⟨T, hT, hq⟩ := hbd cd Ar above t G xs R Z hgd (room.deeper _) sat
  have hI := inv_start (CX := CX0) (E := Z) S room.hd en hlen va inC
  refine wpAny_mono (hT.nox.run [] t1 (start NN xs) G _ hI hq) (fun fl t2 hs => ?_) fun _ _ hs => hs
  cases fl with
  | ret u =>
    obtain ⟨v, σ2, G2, J, rv, q⟩ := hs
    exact ⟨v, G2, J.os, J.bare, J.base, J.hok, rv, q⟩
  | next =>
    obtain ⟨σ2, G2, J, q⟩ := hs
    exact ⟨V.non, G2, J.os, J.bare, J.base, J.hok, rfl, q⟩
  | brk =>
    obtain ⟨_, _, _, z⟩ := hs
    exact (show False from z).elim
  | cont =>
    obtain ⟨_, _, _, z⟩ := hs
    exact (show False from z).elim
end
/-- such a def of the text that stands at its name -/
structure DefG (P : Program) (w : World) (K : PySem.W.Frag) (mg : Str → Option Value) (base : Heap) (x : Str) (ps : List Str) (k : Nat) (sp : Sp) : Prop where
  all : ∃ (f : Addr) (fd : FuncData), FnG P w K mg base k f fd ps sp ∧ mg x = some (.ref f) ∧ PySem.W.keepIn K (.ref f) = true ∧ Binds K fd ps []
theorem pe_dG {X : Cx} {x : Str} {p pos : Pos} {e : Expr} {es : List Expr} {t : TA} {ps : List Str} {k : Nat} {sp : Sp} (D : DefG X.prog X.w X.K X.mg X.base x ps k sp) (hgd : X.A.guards = some []) (hr : Room k X.A) (hg : Gl X x) (ha : PA X (e :: es) t)
    (hdb : (x == ("__debug__" : Str)) = false := by decide) (he : starEach (e :: es) X.env = (false, eval e X.env) :: starEach es X.env := by rfl) (hpl : (backTo pos (starEach es X.env)).any (·.1) = false := by rfl) :
    PE X (.Call (.Name x p) (e :: es) [] pos) (tCall sp [] E0 t) := by
  obtain ⟨f, fd, F, hm, hk, hb⟩ := D.all
  refine ⟨fun pins s σ G R I sat => ?_⟩
  refine wpAny_Call_Name_kw (ld_glob I hg hm ?_ hdb)
  refine PySem.W.callWith_K (h₀ := X.base) I.ok.mod.kin hk (thn (ha.run pos pins s σ G _ I sat) fun ys s1 ⟨xs, G1, J, va, q⟩ => ⟨J.kIn, ?_⟩) he hpl
  have q' : sp xs G1 R E0 := by
    have q2 : sp (xs ++ []) G1 R E0 := q
    rwa [List.append_nil] at q2
  have hl : (ys ++ ([] : List Value)).length = ps.length := by rw [List.append_nil, ← va.length]; exact F.num _ _ _ _ q'
  have hbb := hb s1 ys J.kIn hl
  rw [List.append_nil] at hbb
  refine wpAny_call (codeAny_mono (F.go X.A X.stack s1 G1 ⟨ys, []⟩ ys xs R E0 hgd hr J.env0 hbb va q') fun res s2 hq => ?_)
  cases res with
  | error er => exact hq.elim
  | ok fl =>
    cases fl with
    | ret u => exact J.after hq
    | next => exact hq.elim
    | brk => exact hq.elim
    | cont => exact hq.elim
/-! ### repr of a tuple of integers -/
theorem reads_ints {h : Heap} : ∀ {ns : List Int} {its : List Value}, Vals (ns.map V.int) its → ReadsAll h its (ns.map PyData.int) []
  | [], _, r => by
    cases r
    exact .nil
  | n :: ns, _, r => by
    cases r with
    | cons r1 r2 =>
      obtain ⟨t, rfl⟩ := r1
      exact ReadsAll.cons (.int n t) (reads_ints r2)
/-- what repr of a tuple of integers shows -/
def showI (ns : List Int) : Str := (PyData.tuple (ns.map PyData.int)).shown
theorem depth_ints : ∀ ns : List Int, (PyData.tuple (ns.map PyData.int)).depth ≤ 2 := by
  intro ns
  have : ∀ l : List Int, PyData.depthAll (l.map PyData.int) ≤ 1 := by
    intro l
    induction l with
    | nil => simp [PyData.depthAll]
    | cons n l ih =>
      simp only [List.map_cons, PyData.depthAll, PyData.depth]
      omega
  simp only [PyData.depth]
  have := this ns
  omega
def rRepr (K : PySem.W.Frag) : List V → Hp → VK → Prop := fun xs G R => ∃ (p : Addr) (ns : List Int), xs = [.ref p] ∧ SqT K G p (ns.map V.int) ∧ (∀ n ∈ ns, n.natAbs.log2 < 1920) ∧ (showI ns).length ≤ sizeLine ∧ R (.str (showI ns)) G
theorem call_reprI {X : Cx} (hgd : X.A.guards = some []) (hu : X.A.units + 3 < cLine) : CallR X (.builtin "repr") (rRepr X.K) := by
  intro pins s σ G xs us R I va sat
  obtain ⟨p, ns, rfl, hp, hb, hz, q⟩ := sat
  obtain ⟨u, rfl, hu1⟩ := vals1 va
  obtain rfl : u = Value.ref p := hu1
  obtain ⟨its, rv, ⟨o, ho, hcl, n, hd⟩, _⟩ := I.tuple hp
  have rd : Reads s.heap (.ref p) (PyData.tuple (ns.map PyData.int)) [] := Reads.tuple (vs := its.toArray) ho hcl hd (reads_ints (by simpa using rv))
  refine repr_of_reads' rd (by simpa [PyData.showable] using PyData.showableAll_ints ns hb) (fun _ z => nomatch z) hgd (by have := depth_ints ns; omega) (fun _ _ z => z) (fun h' u tk hk => ?_) hz
  exact ⟨.str _, G, I.kept hk, ⟨u, rfl⟩, q⟩
/-! ### the law's call, where no repr is under way -/
/-- from a heap in which nothing but the script may be tracked -/
theorem law_coreG {P : Program} {w : World} {K : PySem.W.Frag} {mg mb : Str → Option Value} {k : Nat} {fa a : Addr} {fd : FuncData} {x : Str} {sp : Sp} {t : Shared} {ys : List Value} {G : Hp}
    (kin : K.In t.heap) (gns : t.heap.Ns mainGlobals mg) (bns : t.heap.Ns builtinsNs mb) (boot : ∀ x : Str, x ≠ "__name__" → mb x = bootBuiltins x) (noL : t.heap.NoLimit) (gens : t.gens = #[])
    (ha : t.heap.get? a = some { cls := .type "list", data := .seq ys.toArray }) (room : Room k callerA) (hgd : callerA.guards = some [])
    (F : ∀ base : Heap, K.In base → base.Ns mainGlobals mg → FnG P w K mg base k fa fd [x] sp) (bi : ∀ (s : Shared) (u : Value), BindsTo s fd ⟨[u], []⟩ [(x, u)])
    (sat : sp [.ref a] G (fun v _ => v = .bl true) E0) (only : Only G) (hok : HOk P w G t.heap) (hA : ∀ b, G b ≠ none → b = a) (hK : G a ≠ none → K.lookup a = none) :
    codeAny (model P w) callerA (.call (.ref fa) ⟨[.ref a], []⟩) (fun r s' => r = .ok (.ret (.bool true)) ∧ PySem.OldK t.heap s'.heap ∧ s'.os = t.os ∧ AllBare s'.gens) t := by
  have base_of : ∀ {b : Addr} {o : Obj}, t.heap.get? b = some o → G b = none → (hidT t.heap G).get? b = some o := hidT_get
  have noDict : ∀ {b : Addr} {o : Obj} {es : Array DictEntry} {ep : Nat}, t.heap.get? b = some o → o.data = .dict es ep → G b = none := by
    intro b o es ep z dz
    cases q : G b with
    | none => rfl
    | some u =>
      obtain rfl := hA b (by rw [q]; exact fun z => nomatch z)
      rw [ha] at z
      cases z
      exact nomatch dz
  have ns_of : ∀ {b : Addr} {m : Str → Option Value}, t.heap.Ns b m → (hidT t.heap G).Ns b m := fun ⟨o, es, ep, z, dz, rest⟩ => ⟨o, es, ep, base_of z (noDict z dz), dz, rest⟩
  have kinB : K.In (hidT t.heap G) := by
    intro b o z
    refine base_of (kin b o z) ?_
    cases q : G b with
    | none => rfl
    | some u =>
      obtain rfl := hA b (by rw [q]; exact fun z => nomatch z)
      rw [hK (by rw [q]; exact fun z => nomatch z)] at z
      cases z
  obtain ⟨mc, l1, l2⟩ := noL
  have hM : Mod K mg (hidT t.heap G) := ⟨kinB, ns_of gns, ⟨mb, ns_of bns, boot⟩, ⟨mc, ns_of l1, l2⟩⟩
  have en : Env0 P w K mg (hidT t.heap G) callerA [] t G := ⟨rfl, hM, fun _ _ z => of_hidT z, Nat.le_of_eq (hidT_size _ _), trivial, fun b z => absurd (show b ∈ ([] : List Addr) from z) List.not_mem_nil, hok, .of_eq gens⟩
  have run := (F _ kinB (ns_of gns)).go callerA [] t G ⟨[.ref a], []⟩ [.ref a] [.ref a] _ _ hgd room en (bi t (.ref a)) (.cons rfl .nil) sat
  refine codeAny_mono run fun res t2 hq => ?_
  cases res with
  | error er => exact hq.elim
  | ok fl =>
    cases fl with
    | next => exact hq.elim
    | brk => exact hq.elim
    | cont => exact hq.elim
    | ret u =>
      obtain ⟨v, G2, os, bare, un, hok2, rv, q⟩ := hq
      obtain rfl : v = V.bl true := q
      obtain rfl : u = Value.bool true := rv
      refine ⟨rfl, OldK.of_keep fun b o z => ?_, os, bare⟩
      cases q : G b with
      | none => exact un.keep b o z q (fun y => absurd (show b ∈ ([] : List Addr) from y) List.not_mem_nil) List.not_mem_nil
      | some u =>
        rcases only b with y | ⟨ob, xs, y⟩
        · rw [q] at y
          cases y
        · obtain ⟨e1, _⟩ := hok b _ y
          obtain ⟨e2, _⟩ := hok2 b _ (un.frzs b ob _ y)
          rw [z] at e1
          cases e1
          exact e2
theorem law_callG {P : Program} {w : World} {K : PySem.W.Frag} {mg mb : Str → Option Value} {k : Nat} {fa a : Addr} {fd : FuncData} {x : Str} {sp : Sp} {t : Shared} {ys : List Value} {ns : List Int}
    (kin : K.In t.heap) (gns : t.heap.Ns mainGlobals mg) (bns : t.heap.Ns builtinsNs mb) (boot : ∀ x : Str, x ≠ "__name__" → mb x = bootBuiltins x) (noL : t.heap.NoLimit) (gens : t.gens = #[])
    (ha : t.heap.get? a = some { cls := .type "list", data := .seq ys.toArray }) (hi : IntsAre ys ns) (hl : ns.length ≤ sizeLine) (room : Room k callerA) (hgd : callerA.guards = some [])
    (F : ∀ base : Heap, K.In base → base.Ns mainGlobals mg → FnG P w K mg base k fa fd [x] sp) (bi : ∀ (s : Shared) (u : Value), BindsTo s fd ⟨[u], []⟩ [(x, u)])
    (hsp : ∀ G : Hp, Only G → SqL K G a (ns.map V.int) → sp [.ref a] G (fun v _ => v = .bl true) E0) :
    codeAny (model P w) callerA (.call (.ref fa) ⟨[.ref a], []⟩) (fun r s' => r = .ok (.ret (.bool true)) ∧ PySem.OldK t.heap s'.heap ∧ s'.os = t.os ∧ AllBare s'.gens) t := by
  have rv := vals_ints hi
  have hlen := hi.length
  cases hk : K.lookup a with
  | some o =>
    have e := kin a o hk
    rw [ha] at e
    cases e
    have only : Only (fun _ => none) := fun _ => .inl rfl
    exact law_coreG kin gns bns boot noL gens ha room hgd F bi (hsp _ only (.inr ⟨_, ys.toArray, _, hk, rfl, rfl, rfl, by rw [List.size_toArray, hlen]; exact hl, by simpa using rv⟩)) only (fun _ _ z => nomatch z) (fun _ z => absurd rfl z) fun z => absurd rfl z
  | none =>
    have at_a : (fun b => if b = a then some (HO.frz { cls := .type "list", data := .seq ys.toArray } (.lst (ns.map V.int))) else none) a = some (HO.frz { cls := .type "list", data := .seq ys.toArray } (.lst (ns.map V.int))) := if_pos rfl
    have only : Only (fun b => if b = a then some (HO.frz { cls := .type "list", data := .seq ys.toArray } (.lst (ns.map V.int))) else none) := by
      intro b
      by_cases hb : b = a
      · exact .inr ⟨_, _, if_pos hb⟩
      · exact .inl (if_neg hb)
    refine law_coreG kin gns bns boot noL gens ha room hgd F bi (hsp _ only (.inl (.inr ⟨_, at_a⟩))) only (fun b u z => ?_) (fun b z => ?_) fun _ => hk
    · by_cases hb : b = a
      · subst hb
        cases at_a.symm.trans z
        exact ⟨ha, by rw [List.length_map]; exact hl, ys, _, rv, ha⟩
      · exact nomatch (if_neg hb).symm.trans z
    · by_cases hb : b = a
      · exact hb
      · exact absurd (if_neg hb) z
theorem walk_ofG {l : PySem.W.OpenLaw} {n k : Nat} {q : Program} {loose : List Str} {XP : (Str → Option Value) → Heap → Prop} {YP : World → Heap → Prop} {d : DefRec} {K : Params → PySem.W.Frag} {sp : PySem.W.Frag → Sp} {x : Str}
    (most : l.most = some n) (small : n ≤ sizeLine) (nodf : d.params.defaults = []) (room : Room k callerA) (hgd : callerA.guards = some []) (hY : ∀ (w : World) (h : Heap), YP w h → (K w.params).In h)
    (F : ∀ (w : World) (mg : Str → Option Value) (fa : Addr) (h : Heap), (K w.params).In h → h.Ns mainGlobals mg → mg d.name = some (.ref fa) →
      ∃ fd : FuncData, (∀ (s : Shared) (u : Value), BindsTo s fd ⟨[u], []⟩ [(x, u)]) ∧ ∀ base : Heap, (K w.params).In base → base.Ns mainGlobals mg → FnG l.prog w (K w.params) mg base k fa fd [x] (sp (K w.params)))
    (hsp : ∀ (K : PySem.W.Frag) (G : Hp) (a : Addr) (ns : List Int), ns.length ≤ n → Only G → SqL K G a (ns.map V.int) → sp K [.ref a] G (fun v _ => v = .bl true) E0) :
    PySem.W.WalkO q loose XP YP l.row.toRowW d [] (fun f vs => PySem.call f vs) := by
  refine Att.attach_call most nodf fun w s0 t mg mb fa o pm cd doc a ys ns Gr Y ho hd hcd hmg hobj hints hlen gens => ?_
  have kin := hY w _ Y
  obtain ⟨fd, bi, hF⟩ := F w mg fa _ kin Gr.T.g hmg
  exact law_callG kin Gr.T.g Gr.T.b Gr.T.builtins Gr.T.nolimit gens hobj hints (Nat.le_trans hlen small) room hgd hF bi fun G only hS => hsp _ G a ns hlen only hS
end LM

set_option Elab.async false
set_option linter.all false
set_option maxRecDepth 100000
set_option maxHeartbeats 4000000
namespace LM
open PySem PySem.Spec PyProof.Rows L2
/-! ### repr of a list of integers and None -/
def optV : Option Int → V
  | none => .non
  | some n => .int n
def optD : Option Int → PyData
  | none => .none
  | some n => .int n
theorem reads_opts {h : Heap} : ∀ {ds : List (Option Int)} {its : List Value}, Vals (ds.map optV) its → ReadsAll h its (ds.map optD) []
  | [], _, r => by
    cases r
    exact .nil
  | none :: ds, _, r => by
    cases r with
    | cons r1 r2 =>
      obtain rfl := r1
      exact ReadsAll.cons .none (reads_opts r2)
  | some n :: ds, _, r => by
    cases r with
    | cons r1 r2 =>
      obtain ⟨t, rfl⟩ := r1
      exact ReadsAll.cons (.int n t) (reads_opts r2)
def showO (ds : List (Option Int)) : Str := (PyData.list (ds.map optD)).shown
theorem opts_facts : ∀ (ds : List (Option Int)), (∀ n, some n ∈ ds → n.natAbs.log2 < 1920) → PyData.showableAll (ds.map optD) = true ∧ PyData.hasDictAll (ds.map optD) = false ∧ PyData.depthAll (ds.map optD) ≤ 1
  | [], _ => by simp [PyData.showableAll, PyData.hasDictAll, PyData.depthAll]
  | d :: ds, h => by
    obtain ⟨h1, h2, h3⟩ := opts_facts ds fun n hn => h n (List.mem_cons_of_mem _ hn)
    cases d with
    | none =>
      refine ⟨?_, ?_, ?_⟩
      · simpa [optD, PyData.showableAll, PyData.showable] using h1
      · simpa [optD, PyData.hasDictAll, PyData.hasDict] using h2
      · simp only [List.map_cons, optD, PyData.depthAll, PyData.depth]
        omega
    | some n =>
      have hn := h n List.mem_cons_self
      refine ⟨?_, ?_, ?_⟩
      · simp only [List.map_cons, optD, PyData.showableAll, PyData.showable, Bool.and_eq_true, decide_eq_true_eq]
        exact ⟨hn, h1⟩
      · simpa [optD, PyData.hasDictAll, PyData.hasDict] using h2
      · simp only [List.map_cons, optD, PyData.depthAll, PyData.depth]
        omega
def rReprL (K : PySem.W.Frag) : List V → Hp → VK → Prop := fun xs G R => ∃ (p : Addr) (ds : List (Option Int)), xs = [.ref p] ∧ SqL K G p (ds.map optV) ∧ (∀ n, some n ∈ ds → n.natAbs.log2 < 1920) ∧ (showO ds).length ≤ sizeLine ∧ R (.str (showO ds)) G
theorem call_reprL {X : Cx} (hgd : X.A.guards = some []) (hu : X.A.units + 3 < cLine) : CallR X (.builtin "repr") (rReprL X.K) := by
  intro pins s σ G xs us R I va sat
  obtain ⟨p, ds, rfl, hp, hb, hz, q⟩ := sat
  obtain ⟨u, rfl, hu1⟩ := vals1 va
  obtain rfl : u = Value.ref p := hu1
  obtain ⟨its, rv, pl, _⟩ := I.list hp
  obtain ⟨h1, h2, h3⟩ := opts_facts ds hb
  obtain ⟨o, n, ho, hcl, _, hd⟩ := pl
  have rd : Reads s.heap (.ref p) (PyData.list (ds.map optD)) [p] := Reads.list (vs := its.toArray) ho hcl hd (reads_opts (by simpa using rv))
  have nod : (PyData.list (ds.map optD)).hasDict = false := by simpa [PyData.hasDict] using h2
  refine repr_of_reads' rd (by simpa [PyData.showable] using h1) (PyData.noDict_hsm nod) hgd (by simp only [PyData.depth]; omega) (fun _ _ z => z) (fun h' u tk hk => ?_) hz
  exact ⟨.str _, G, I.kept hk, ⟨u, rfl⟩, q⟩
theorem opts_len : ∀ (ds : List (Option Int)), ds.length ≤ 100 → (∀ n, some n ∈ ds → n.natAbs.log2 < 1920) → (showO ds).length ≤ sizeLine := by
  intro ds hl h
  have e : ∀ y ∈ PyData.shownAll (ds.map optD), y.length ≤ 2000 := by
    clear hl
    induction ds with
    | nil => intro y hy; simp [PyData.shownAll] at hy
    | cons d ds ih =>
      intro y hy
      simp only [List.map_cons, PyData.shownAll] at hy
      rcases List.mem_cons.mp hy with rfl | hy
      · cases d with
        | none =>
          simp only [optD, PyData.shown]
          decide
        | some n =>
          simp only [optD, PyData.shown]
          have := int_text_length_le (k := 1920) (by decide) (h n List.mem_cons_self)
          rw [PySem.ofString_length]
          omega
      · exact ih (fun n hn => h n (List.mem_cons_of_mem _ hn)) y hy
  have hn : (PyData.shownAll (ds.map optD)).length = ds.length := by rw [PyData.shownAll_length, List.length_map]
  unfold showO
  rw [PyData.shown_list]
  have hj := Nat.le_trans (StrLaws.join_length_le ", " (PyData.shownAll (ds.map optD))) (join_le ", " _ 2000 e)
  rw [hn] at hj
  have e1 : ((", " : Str)).length = 2 := by decide
  have e2 : (("[" : Str)).length = 1 := by decide
  have e3 : (("]" : Str)).length = 1 := by decide
  rw [e1] at hj
  rw [strLen_append, strLen_append, e2, e3]
  have : ds.length * (2000 + 2) ≤ 100 * 2002 := Nat.mul_le_mul_right _ hl
  exact Nat.le_trans (show _ ≤ 300000 by omega) (by decide)
/-! ### a method called with keywords alone -/
def tMethKw (C : Addr) (m : Str) (sp : Sp) (gV : List V → List V → List V) (E : XK) (ta : TE) (tk : TA) : TE := fun σ G R => ta σ G fun x G1 => ∃ a dx fs, x = .ref a ∧ G1 a = some (.ins C dx fs) ∧ fs.lookup m = none ∧ tk σ G1 fun zs G2 => sp (gV [x] zs) G2 R E
theorem pe_methKw {X : Cx} {k : Nat} {C f : Addr} {fd : FuncData} {ps ks : List Str} {sp : Sp} {m : Str} {pos apos : Pos} {o : Expr} {kws : List Keyword} {ta : TE} {tk : TA} {g : List Value → List Value → List Value} {gV : List V → List V → List V} {pl : Sem Bool}
    (he : PE X o ta) (c : Cls X.K C) (hm : Meth X.K C m f) (F : FnOk X.prog X.w X.K X.mg X.base CX0 k f fd ps sp) (hr : Room k X.A) (hb : KBinds X.K fd ps ks g gV) (hkw : PK X kws tk)
    (hall : (backToKw pos (keywordEach kws X.env)).all (·.1.isSome) = true := by rfl) (hks : (backToKw pos (keywordEach kws X.env)).filterMap (·.1) = ks := by rfl) (hpl : ((backTo pos (starEach [] X.env)).any (·.1) || (backToKw pos (keywordEach kws X.env)).any (·.1.isNone)) = false := by rfl)
    (ht : eval (.Call (.Attribute o m apos) [] kws pos) X.env = (eval o X.env >>= fun ov => standAt apos.atName >>= fun _ => holding [ov] (getMethod ov m pl) >>= fun fx => callWith pos fx.1 fx.2 (backTo pos (starEach [] X.env)) (backToKw pos (keywordEach kws X.env))) := by rfl) :
    PE X (.Call (.Attribute o m apos) [] kws pos) (tMethKw C m sp gV E0 ta tk) := by
  refine ⟨fun pins s σ G R I sat => ?_⟩
  refine PySem.W.methodCall_KW (pl := pl) (thn (he.run pins s σ G _ I sat) fun u s1 ⟨x, G1, J, rx, a, dx, fs, ex, ea, lk, q⟩ => ?_) ht
  subst ex
  obtain rfl : u = Value.ref a := rx
  refine getmeth_ok J ea c hm lk ?_
  refine PySem.W.callWith_KW0 (first := [.ref a]) (h₀ := X.base) J.ok.mod.kin hm.kp hall (thn (hkw.run pos pins s1 σ G1 _ J q) fun ws s2 ⟨zs, G2, J2, rz, q2⟩ => ⟨J2.kIn, ?_⟩) hpl
  rw [hks]
  exact run_fnk (us := [.ref a]) (vs := [.ref a]) F hr hb pass0 J2 (.cons rfl .nil) rz q2
end LM

set_option Elab.async false
set_option linter.all false
set_option maxRecDepth 100000
set_option maxHeartbeats 4000000
namespace LM
open PySem PySem.Spec PyProof.Rows L2 RT
theorem strs_of_vals : ∀ {zs : List Str} {us : List Value}, Vals (zs.map V.str) us → ∃ l : List (Str × Tok), strValues l = us ∧ l.map (·.1) = zs
  | [], _, r => by
    cases r
    exact ⟨[], rfl, rfl⟩
  | z :: zs, _, r => by
    cases r with
    | cons r1 r2 =>
      obtain ⟨t, rfl⟩ := r1
      obtain ⟨l, e1, e2⟩ := strs_of_vals r2
      exact ⟨(z, t) :: l, by rw [← e1]; rfl, by rw [← e2]; rfl⟩
theorem join_rev {prog : Program} {w : World} {A : Around} {E : Value → Shared → Prop} {s : Shared} {x : Str} {t : Tok} {it l : Addr} {its : List Value} {ys : List Str} {Q : Value → Shared → Prop} (hh : A.handled = none) (hit : s.heap.IsRevIter it l ((its.toArray.size : Int) - 1)) (hl : s.heap.IsList l its.toArray) (hne : l ≠ it)
    (hn : its.toArray.size ≤ sizeLine) (rv : Vals (ys.map V.str) its) (hz : (ys.reverse.map (·.length)).sum + ys.reverse.length * x.length ≤ 16777216)
    (hq : ∀ (h' : Heap) (tk : Nat) (t' : Tok), (∀ b o, b ≠ it → s.heap.get? b = some o → h'.get? b = some o) → Q (.str (Txt.join x ys.reverse) t') { s with heap := h', toks := tk }) :
    wpAny (model prog w) A (call (.builtin "str.join") [.str x t, .ref it]) Q E s := by
  refine wpAny_call (codeAny_call_builtin F.slot_str_join.plain F.entry_str_join (F.slot_str_join.check _ _ _ _ _ _ _ _ (typeIs_str _ _ _) (F.args_str_join_2 _ _) ?_))
  rw [join_tree_other]
  refine wpAny_bind (wpAny_typeOf hit.typeIs ?_)
  show wpAny _ A.in1 ((pyIter (.ref it)).tryCatch _ >>= fun i => collect i >>= fun items => joinTail x items) _ _ s
  refine wpAny_bind (wpAny_tryCatch (wpAny_pyIter_revIter hit ?_))
  refine wpAny_bind (collect_rev (A := A.in1) hh hit hl hne hn fun h' tk acc hk hacc => ?_)
  have rv2 := vals_rev rv hacc
  rw [← List.map_reverse] at rv2
  obtain ⟨l', e1, e2⟩ := strs_of_vals rv2
  rw [← e1]
  have hok : JoinOk x (l'.map (·.1)) = true := by
    rw [e2]
    exact joinOk_of hz
  have hok' := hok
  unfold JoinOk at hok'
  rw [Bool.not_eq_true'] at hok'
  have g : Gives (joinTail x (strValues l')) (joinMade x l') := by
    have g0 := gives_joinTail x l' hok'
    cases l' with
    | nil => exact g0
    | cons p r => cases r with
      | nil => exact g0
      | cons q r' => exact g0
  refine g prog w A (wants Q E) { s with heap := h', toks := tk } (post_join l' ⟨joinFit_length hok', fun t' k => ?_⟩)
  rw [e2]
  exact hq h' k t' hk
/-- sep.join(reversed(parts)) -/
def tJoinRev (K : PySem.W.Frag) (to te : TE) : TE := fun σ G R => to σ G fun x G1 => (∃ a, x = .str a) ∧ te σ G1 fun v G2 => ∃ (a : Str) (q : Addr) (ys : List Str), x = .str a ∧ v = .ref q ∧ SqL K G2 q (ys.map V.str) ∧ (ys.reverse.map (·.length)).sum + ys.reverse.length * a.length ≤ 16777216 ∧ R (.str (Txt.join a ys.reverse)) G2
theorem pe_joinRev {X : Cx} {o e : Expr} {to te : TE} {apos pos p2 pos2 : Pos} (hc : X.calm = true) (ho : PE X o to) (hg2 : Gl X "reversed") (hm2 : X.mg "reversed" = none) (he : PE X e te)
    (hs : starEach [e] X.env = (false, eval e X.env) :: starEach [] X.env := by rfl)
    (hs1 : starEach [.Call (.Name "reversed" p2) [e] [] pos2] X.env = [(false, eval (.Call (.Name "reversed" p2) [e] [] pos2) X.env)] := by rfl)
    (hbase : attributeBase o "join" X.env (eval o X.env) = eval o X.env := by rfl) (hline : (apos.endLine == pos.line) = true := by rfl) :
    PE X (.Call (.Attribute o "join" apos) [.Call (.Name "reversed" p2) [e] [] pos2] [] pos) (tJoinRev X.K to te) := by
  refine ⟨fun pins s σ G R I sat => ?_⟩
  refine PySem.Call_method1 hbase hs1 hline (thn (ho.run pins s σ G _ I sat) fun v s1 ⟨x, G1, J, rx, q1⟩ => ?_)
  obtain ⟨⟨a, rfl⟩, q1⟩ := q1
  obtain ⟨t, rfl⟩ := _root_.id rx
  refine ⟨"str", _, F.plainAttrs_str, F.slot_str_join, F.type_str_join, typeIs_str _ _ _, (fun _ e => nomatch e), Calls.callWith_builtin rfl (Calls.evalArgs_plain (Calls.spliced_cons ?_))⟩
  refine Call_ (ld_blt J hg2 hm2 PyProof.Rows.boot_reversed (PyProof.Rows.callWith_type1 (args_cons (thn (he.run pins s1 σ G1 _ J q1) fun u s2 ⟨y, G2, J2, ry, q2⟩ => args_nil ?_) hs) hs rfl))
  obtain ⟨a', q, ys, ea, rfl, hq, hz, q3⟩ := q2
  cases ea
  obtain rfl : u = Value.ref q := ry
  obtain ⟨its, rv, pl, hsz⟩ := J2.list hq
  refine call_reversed_list pl.isList ?_
  refine Calls.spliced_nil ?_
  have k0 : ∀ b o, s2.heap.get? b = some o → (s2.heap.push (revObj q ((its.toArray.size : Int) - 1))).get? b = some o := fun b o z => Heap.get?_push_of_some _ z
  have J3 : Inv X pins σ G2 { s2 with heap := s2.heap.push (revObj q ((its.toArray.size : Int) - 1)) } := J2.kept (t' := s2.toks) k0
  obtain ⟨f0, f1, f2, f3, f4, f5⟩ := J2.fpOk (H' := G2) (b := s2.heap.objs.size) (Nat.le_refl _) (J2.hok.fresh (Nat.le_refl _))
  have hl := pl.isList
  obtain ⟨ol, hol, _⟩ := id hl
  have hne : q ≠ s2.heap.objs.size := Nat.ne_of_lt (Heap.lt_size hol)
  have hn : its.toArray.size ≤ sizeLine := by rw [List.size_toArray, ← rv.length]; exact hsz
  refine join_rev (s := { s2 with heap := s2.heap.push (revObj q ((its.toArray.size : Int) - 1)) }) (J2.ok.hd hc) ⟨_, Heap.get?_push_size _ rfl, rfl, rfl⟩ (hl.push _) hne hn rv hz fun h' tk t' hk => ?_
  exact ⟨.str _, G2, J3.turned (t' := tk) (fun b o hb z => hk b o hb z) f0 f1 f3 f4 f5, ⟨t', rfl⟩, q3⟩
end LM

set_option Elab.async false
set_option linter.all false
set_option maxRecDepth 100000
set_option maxHeartbeats 4000000
namespace LM
open PySem PySem.Spec PyProof.Rows L2
/-! ### text times number -/
theorem op_mul_str {X : Cx} : OpR X (binaryOp .Mult) (fun x y H Q => ∃ a n, x = .str a ∧ y = .int n ∧ MulOk a n ∧ Q (.str (Txt.mul a n)) H) := by
  intro pins s σ H x y v u Q I rx ry h
  obtain ⟨a, n, rfl, rfl, hz, q⟩ := h
  obtain ⟨t, rfl⟩ := rx
  obtain ⟨t', rfl⟩ := ry
  exact SB.mul hz fun t' k => ⟨.str (Txt.mul a n), H, I.tok _, ⟨_, rfl⟩, q⟩
theorem mulOk_one {c : Nat} {n : Int} (h0 : -1000000 ≤ n) (h1 : n ≤ 1000000) : MulOk ⟨#[c]⟩ n := by
  refine ⟨?_, fun h _ => ?_, fun h _ => ?_⟩
  · rw [decide_eq_false (by omega), decide_eq_false (by omega)]
    rfl
  · intro z
    have z' : (1 : Int) > (2 ^ 63 - 1) / n := z
    have : (1 : Int) ≤ (2 ^ 63 - 1) / n := (Int.le_ediv_iff_mul_le (by omega)).mpr (by omega)
    omega
  · show Builtin.Str.tooLong (1 * n.toNat) = false
    unfold Builtin.Str.tooLong
    refine decide_eq_false ?_
    have : n.toNat ≤ 1000000 := by omega
    have e : (1000000 : Nat) < sizeLine := by decide
    omega
/-! ### two tuples side by side -/
theorem walk_zipT {K : PySem.W.Frag} {a b : Addr} {xs ys : List V} {n : Nat} (hn : n = min xs.length ys.length) : Walk (RZ.ItzT K a b) n (fun H => SqT K H a xs ∧ SqT K H b ys) (YPair (fun i => xs[i]?) (fun i => ys[i]?)) := by
  refine ⟨fun i _ hi ⟨q1, q2⟩ => ⟨xs, ys, xs[i]'(by omega), ys[i]'(by omega), q1, q2, by simp [show i < xs.length by omega], by simp [show i < ys.length by omega]⟩, fun _ ⟨q1, q2⟩ => ⟨xs, ys, q1, q2, by omega⟩, fun i H v H' _ ⟨q1, q2⟩ y => ?_⟩
  obtain ⟨T, x, z, h1, h2, h3, h4, h5⟩ := y
  exact ⟨T, x, z, h1, h2, h3, h4 xs q1, h5 ys q2⟩
/-! ### repr of lists and tuples of any data -/
def rReprD (K : PySem.W.Frag) : List V → Hp → VK → Prop := fun xs G R => ∃ (p : Addr) (d : PyData), xs = [.ref p] ∧ Dp K G (.ref p) d ∧ d.showable = true ∧ d.hasDict = false ∧ d.depth ≤ 20 ∧ d.shown.length ≤ sizeLine ∧ R (.str d.shown) G
theorem call_reprD {X : Cx} (hgd : X.A.guards = some []) (hu : X.A.units + 64 < cLine) : CallR X (.builtin "repr") (rReprD X.K) := by
  intro pins s σ G xs us R I va sat
  obtain ⟨p, d, rfl, hp, h1, h2, h3, hz, q⟩ := sat
  obtain ⟨u, rfl, hu1⟩ := vals1 va
  obtain rfl : u = Value.ref p := hu1
  obtain ⟨as, rd⟩ := Dp.reads I d (.ref p) (.ref p) hp rfl
  refine repr_of_reads' rd h1 (PyData.noDict_hsm h2) hgd (by omega) (fun _ _ z => z) (fun h' u tk hk => ?_) hz
  exact ⟨.str _, G, I.kept hk, ⟨u, rfl⟩, q⟩
theorem shownAll_le {m : Nat} : ∀ (ds : List PyData), (∀ d ∈ ds, d.shown.length ≤ m) → ∀ y ∈ PyData.shownAll ds, y.length ≤ m
  | [], _, y, hy => by simp [PyData.shownAll] at hy
  | d :: ds, h, y, hy => by
    rcases List.mem_cons.mp (show y ∈ d.shown :: PyData.shownAll ds from hy) with rfl | hy
    · exact h d List.mem_cons_self
    · exact shownAll_le ds (fun e he => h e (List.mem_cons_of_mem _ he)) y hy
theorem shown_list_le {m : Nat} {ds : List PyData} (h : ∀ d ∈ ds, d.shown.length ≤ m) : (PyData.list ds).shown.length ≤ ds.length * (m + 2) + 2 := by
  rw [PyData.shown_list]
  have hj := Nat.le_trans (StrLaws.join_length_le ", " (PyData.shownAll ds)) (join_le ", " _ m (shownAll_le ds h))
  rw [PyData.shownAll_length] at hj
  have e1 : ((", " : Str)).length = 2 := by decide
  have e2 : (("[" : Str)).length = 1 := by decide
  have e3 : (("]" : Str)).length = 1 := by decide
  rw [e1] at hj
  rw [strLen_append, strLen_append, e2, e3]
  omega
theorem shown_tuple_le {m : Nat} {ds : List PyData} (h : ∀ d ∈ ds, d.shown.length ≤ m) : (PyData.tuple ds).shown.length ≤ ds.length * (m + 2) + 3 := by
  rw [PyData.shown_tuple]
  have hj := Nat.le_trans (StrLaws.join_length_le ", " (PyData.shownAll ds)) (join_le ", " _ m (shownAll_le ds h))
  rw [PyData.shownAll_length] at hj
  have e1 : ((", " : Str)).length = 2 := by decide
  have e2 : (("(" : Str)).length = 1 := by decide
  have e3 : ((",)" : Str)).length = 2 := by decide
  have e4 : ((")" : Str)).length = 1 := by decide
  rw [e1] at hj
  rw [strLen_append, strLen_append, e2]
  split
  · rw [e3]
    omega
  · rw [e4]
    omega
theorem dpAll_ints {K : PySem.W.Frag} {H : Hp} : ∀ ns : List Int, DpAll K H (ns.map V.int) (ns.map PyData.int)
  | [] => .nil
  | n :: ns => .cons (.int n) (dpAll_ints ns)
end LM

set_option Elab.async false
set_option linter.all false
set_option maxRecDepth 100000
set_option maxHeartbeats 4000000
namespace LM
open PySem PySem.Spec PyProof.Rows L2
/-! ### how many labels are borne below a place -/
def sumC (B : Nat) (c : Nat → Nat) : Nat → Nat
  | 0 => 0
  | g + 1 => sumC B c g + (B - c g)
def bor (B : Nat) (c : Nat → Nat) (s : Nat) : Bool := decide (c (s / B) ≤ s % B)
def bel (B : Nat) (c : Nat → Nat) (s : Nat) : Nat := ((List.range s).filter (bor B c)).length
section
variable {B : Nat} {c : Nat → Nat}
theorem bel_succ (s : Nat) : bel B c (s + 1) = bel B c s + if bor B c s = true then 1 else 0 := by
  unfold bel
  rw [List.range_succ, List.filter_append, List.length_append]
  cases h : bor B c s <;> simp [h]
theorem bel_eq (hB : 0 < B) (hc : ∀ g, c g ≤ B) : ∀ g j, j ≤ B → bel B c (g * B + j) = sumC B c g + (j - c g) := by
  have inner : ∀ g, bel B c (g * B) = sumC B c g → ∀ j, j ≤ B → bel B c (g * B + j) = sumC B c g + (j - c g) := by
    intro g h0 j
    induction j with
    | zero =>
      intro _
      rw [Nat.add_zero, h0, Nat.zero_sub, Nat.add_zero]
    | succ j ih =>
      intro hj
      rw [← Nat.add_assoc, bel_succ, ih (by omega)]
      have e1 : (g * B + j) / B = g := by
        rw [Nat.mul_comm, Nat.mul_add_div hB, Nat.div_eq_of_lt (by omega), Nat.add_zero]
      have e2 : (g * B + j) % B = j := by
        rw [Nat.mul_comm, Nat.mul_add_mod, Nat.mod_eq_of_lt (by omega)]
      have e3 : bor B c (g * B + j) = decide (c g ≤ j) := by
        unfold bor
        rw [e1, e2]
      rw [e3]
      by_cases h : c g ≤ j
      · rw [decide_eq_true h, if_pos rfl]
        omega
      · rw [decide_eq_false h, if_neg Bool.false_ne_true]
        omega
  intro g
  induction g with
  | zero => exact inner 0 (by rw [Nat.zero_mul]; rfl)
  | succ g ih =>
    refine inner (g + 1) ?_
    have := ih B (Nat.le_refl B)
    rw [Nat.succ_mul, this]
    rfl
theorem bel_at (hB : 0 < B) (hc : ∀ g, c g ≤ B) (s : Nat) : bel B c s = sumC B c (s / B) + (s % B - c (s / B)) := by
  have h := bel_eq hB hc (s / B) (s % B) (Nat.le_of_lt (Nat.mod_lt s hB))
  rwa [Nat.div_add_mod'] at h
theorem sumC_add {L : Nat} (hp : ∀ i, c (i + L) = c i) : ∀ g, sumC B c (g + L) = sumC B c g + sumC B c L
  | 0 => by
    rw [Nat.zero_add]
    show _ = 0 + _
    rw [Nat.zero_add]
  | g + 1 => by
    have e : g + 1 + L = (g + L) + 1 := by omega
    rw [e]
    show sumC B c (g + L) + (B - c (g + L)) = sumC B c g + (B - c g) + sumC B c L
    rw [sumC_add hp g, hp]
    omega
theorem c_mul {L : Nat} (hp : ∀ i, c (i + L) = c i) : ∀ q i, c (i + L * q) = c i
  | 0, i => rfl
  | q + 1, i => by rw [Nat.mul_succ, ← Nat.add_assoc, hp, c_mul hp q]
theorem sumC_mul {L : Nat} (hp : ∀ i, c (i + L) = c i) : ∀ q g, sumC B c (g + L * q) = sumC B c g + sumC B c L * q
  | 0, g => rfl
  | q + 1, g => by
    rw [Nat.mul_succ, ← Nat.add_assoc, sumC_add hp, sumC_mul hp q, Nat.mul_succ]
    omega
theorem bor_mul (hB : 0 < B) {L : Nat} (hp : ∀ i, c (i + L) = c i) (q s : Nat) : bor B c (s + L * B * q) = bor B c s := by
  unfold bor
  have e1 : (s + L * B * q) / B = s / B + L * q := by
    rw [show L * B * q = B * (L * q) by rw [Nat.mul_comm L B, Nat.mul_assoc], Nat.add_mul_div_left _ _ hB]
  have e2 : (s + L * B * q) % B = s % B := by
    rw [show L * B * q = B * (L * q) by rw [Nat.mul_comm L B, Nat.mul_assoc], Nat.add_mul_mod_self_left]
  rw [e1, e2, c_mul hp]
theorem bel_mul (hB : 0 < B) (hc : ∀ g, c g ≤ B) {L : Nat} (hp : ∀ i, c (i + L) = c i) (q s : Nat) : bel B c (s + L * B * q) = bel B c s + sumC B c L * q := by
  have e1 : (s + L * B * q) / B = s / B + L * q := by
    rw [show L * B * q = B * (L * q) by rw [Nat.mul_comm L B, Nat.mul_assoc], Nat.add_mul_div_left _ _ hB]
  have e2 : (s + L * B * q) % B = s % B := by
    rw [show L * B * q = B * (L * q) by rw [Nat.mul_comm L B, Nat.mul_assoc], Nat.add_mul_mod_self_left]
  rw [bel_at hB hc, bel_at hB hc, e1, e2, c_mul hp, sumC_mul hp]
  omega
theorem bel_mono {s t : Nat} (h : s ≤ t) : bel B c s ≤ bel B c t := by
  induction t with
  | zero => rw [Nat.le_zero.mp h]; exact Nat.le_refl _
  | succ t ih =>
    rcases Nat.lt_or_eq_of_le h with z | z
    · rw [bel_succ]
      have := ih (by omega)
      omega
    · rw [z]; exact Nat.le_refl _
theorem bel_lt {s t : Nat} (hs : bor B c s = true) (h : s < t) : bel B c s < bel B c t := by
  have := bel_mono (B := B) (c := c) (show s + 1 ≤ t from h)
  rw [bel_succ, if_pos hs] at this
  omega
theorem bel_inj {s t : Nat} (hs : bor B c s = true) (ht : bor B c t = true) (h : bel B c s = bel B c t) : s = t := by
  rcases Nat.lt_trichotomy s t with z | z | z
  · have := bel_lt hs z
    omega
  · exact z
  · have := bel_lt ht z
    omega
theorem spot_get {p : Nat → Bool} {s : Nat} (hp : p s = true) : ∀ {N : Nat}, s < N → ((List.range N).filter p)[((List.range s).filter p).length]? = some s
  | N + 1, h => by
    rw [List.range_succ, List.filter_append]
    rcases Nat.lt_or_eq_of_le (Nat.le_of_lt_succ h) with z | z
    · have ih := spot_get hp z
      rw [List.getElem?_append_left (List.getElem?_eq_some_iff.mp ih).1]
      exact ih
    · subst z
      rw [List.getElem?_append_right (Nat.le_refl _), Nat.sub_self]
      simp [hp]
end
theorem lnaGo_spec (fs : List Int) (x : Int) (n lo hi : Nat) (h : lo < hi) (h1 : fs.getD lo 0 ≤ x) (h2 : hi = n ∨ x < fs.getD hi 0) : fs.getD (lnaGo fs x lo hi) 0 ≤ x ∧ (lnaGo fs x lo hi + 1 = n ∨ x < fs.getD (lnaGo fs x lo hi + 1) 0) := by
  unfold lnaGo
  split
  · split
    · rename_i hm
      exact lnaGo_spec fs x n ((lo + hi) / 2) hi (by omega) hm h2
    · rename_i hm
      exact lnaGo_spec fs x n lo ((lo + hi) / 2) (by omega) h1 (.inr (by omega))
  · have e : lo + 1 = hi := by omega
    rw [e]
    exact ⟨h1, h2⟩
termination_by hi - lo
decreasing_by all_goals omega
/-! ### the house by its counts -/
noncomputable def cN (gs : List Int) (rows : List R3) (g : Nat) : Nat := (GN gs rows g).toNat
theorem GN_in {gs : List Int} {rows : List R3} (fr : Fair gs rows) (g : Nat) : 0 ≤ GN gs rows g ∧ GN gs rows g < gs.getLastD 1 := by
  have hl := fr.bb _ (lastD_mem fr.b0)
  unfold GN
  suffices ∀ (l : List R3) (acc : Int), (∀ r ∈ l, RowOk 60 gs r) → 0 ≤ acc ∧ acc < gs.getLastD 1 → 0 ≤ l.foldl (gnStep gs g) acc ∧ l.foldl (gnStep gs g) acc < gs.getLastD 1 from this rows 0 fr.ro ⟨Int.le_refl 0, by omega⟩
  intro l
  induction l with
  | nil => exact fun _ _ h => h
  | cons r l ih =>
    intro acc h ha
    rw [List.foldl_cons]
    refine ih _ (fun x hx => h x (List.mem_cons_of_mem _ hx)) ?_
    unfold gnStep
    split
    · exact (h r List.mem_cons_self).2.2.2.2
    · exact ha
/-- what a house's lists are, by its counts -/
structure Cnt (gs : List Int) (rows : List R3) (cs : List Int) (B : Nat) (c : Nat → Nat) (L : Nat) : Prop where
  hB : 2 ≤ B
  hB6 : B ≤ 60
  last : gs.getLastD 1 = (B : Int)
  hL : 1 ≤ L
  hL7 : L ≤ 7200
  len : cs.length = L
  cse : cs = (List.range L).map fun g => ((c g : Nat) : Int)
  lt : ∀ g, c g < B
  per : ∀ i, c (i + L) = c i
  eqG : ∀ g, GN gs rows g = ((c g : Nat) : Int)
  least : LeastPer (GN gs rows) L
theorem cnt_of {gs : List Int} {rows : List R3} {cs : List Int} (fr : Fair gs rows) (h : ∃ k, RepIs (countsP gs rows (groupsP gs rows)) k ∧ cs = (countsP gs rows (groupsP gs rows)).take k) : Cnt gs rows cs (gs.getLastD 1).toNat (cN gs rows) cs.length := by
  obtain ⟨lp, e⟩ := cs_GN fr h
  have hl := fr.bb _ (lastD_mem fr.b0)
  have hG : ∀ g, GN gs rows g = ((cN gs rows g : Nat) : Int) := fun g => by
    have := GN_in fr g
    unfold cN
    omega
  obtain ⟨k, hk, hcs⟩ := h
  obtain ⟨f1, f2, _, _⟩ := cs_facts fr hk hcs
  refine ⟨by omega, by omega, by omega, f1, f2, rfl, ?_, fun g => ?_, fun i => ?_, hG, lp⟩
  · conv => lhs; rw [e]
    exact List.map_congr_left fun g _ => hG g
  · have := GN_in fr g
    have := hG g
    omega
  · have h1 := lp.2.1 i
    rw [hG, hG] at h1
    omega
section
variable {gs : List Int} {rows : List R3} {cs : List Int} {B : Nat} {c : Nat → Nat} {L : Nat}
theorem sum_range (n : Nat) (hlt : ∀ g, c g < B) : ((List.range n).map fun g => (B : Int) - ((c g : Nat) : Int)).sum = ((sumC B c n : Nat) : Int) := by
  induction n with
  | zero => rfl
  | succ n ih =>
    rw [List.range_succ, List.map_append, List.sum_append, ih]
    show _ + ((B : Int) - ((c n : Nat) : Int) + 0) = ((sumC B c n + (B - c n) : Nat) : Int)
    have := hlt n
    omega
theorem Cnt.borne (k : Cnt gs rows cs B c L) : borneP gs cs = (List.range L).map fun g => (B : Int) - ((c g : Nat) : Int) := by
  unfold borneP
  rw [k.cse, List.map_map, k.last]
  rfl
theorem Cnt.total (k : Cnt gs rows cs B c L) : (borneP gs cs).sum = ((sumC B c L : Nat) : Int) := by
  rw [k.borne, sum_range _ k.lt]
theorem Cnt.ahead (k : Cnt gs rows cs B c L) {i : Nat} (h : i < L) : (sumsP (borneP gs cs)).getD i 0 = ((sumC B c i : Nat) : Int) := by
  unfold sumsP
  have hl : (borneP gs cs).length = L := by rw [borneP_len, k.len]
  rw [hl, List.getD_eq_getElem?_getD, List.getElem?_map, List.getElem?_range h]
  show ((borneP gs cs).take i).sum = _
  rw [k.borne, ← List.map_take, List.take_range, Nat.min_eq_left (by omega), sum_range _ k.lt]
theorem Cnt.skipped (k : Cnt gs rows cs B c L) {i : Nat} (h : i < L) : cs.getD i 0 = ((c i : Nat) : Int) := by
  rw [k.cse, List.getD_eq_getElem?_getD, List.getElem?_map, List.getElem?_range h]
  rfl
theorem sumC_mono {i j : Nat} (h : i ≤ j) : sumC B c i ≤ sumC B c j := by
  induction j with
  | zero => rw [Nat.le_zero.mp h]; exact Nat.le_refl _
  | succ j ih =>
    rcases Nat.lt_or_eq_of_le h with z | z
    · have := ih (by omega)
      show _ ≤ sumC B c j + (B - c j)
      omega
    · rw [z]; exact Nat.le_refl _
/-- the place of a frame bears just this frame -/
theorem Cnt.place (k : Cnt gs rows cs B c L) (hF : 1 ≤ sumC B c L) (m : Nat) : ∃ s : Nat, placeP gs cs (m : Int) = (s : Int) ∧ bor B c s = true ∧ bel B c s = m := by
  have hlen : (sumsP (borneP gs cs)).length = L := by rw [sumsP_len, borneP_len, k.len]
  unfold placeP
  rw [k.total, ← Int.natCast_ediv, ← Int.natCast_emod]
  have hmF : m % sumC B c L < sumC B c L := Nat.mod_lt _ (by omega)
  have h0 : (sumsP (borneP gs cs)).getD 0 0 ≤ ((m % sumC B c L : Nat) : Int) := by
    rw [k.ahead (by have := k.hL; omega)]
    show ((0 : Nat) : Int) ≤ _
    omega
  have hlt := lna_lt (sumsP (borneP gs cs)) ((m % sumC B c L : Nat) : Int) (by rw [hlen]; exact k.hL)
  have sp := lnaGo_spec (sumsP (borneP gs cs)) ((m % sumC B c L : Nat) : Int) L 0 L k.hL h0 (.inl rfl)
  have elna : lna (sumsP (borneP gs cs)) ((m % sumC B c L : Nat) : Int) = lnaGo (sumsP (borneP gs cs)) ((m % sumC B c L : Nat) : Int) 0 L := by
    unfold lna
    rw [hlen]
  rw [← elna] at sp
  rw [hlen] at hlt
  generalize lna (sumsP (borneP gs cs)) ((m % sumC B c L : Nat) : Int) = r at hlt sp
  obtain ⟨s1, s2⟩ := sp
  rw [k.ahead hlt] at s1
  have s3 : m % sumC B c L < sumC B c (r + 1) := by
    rcases s2 with z | z
    · rw [z]
      exact hmF
    · by_cases h : r + 1 < L
      · rw [k.ahead h] at z
        omega
      · rw [show r + 1 = L by omega]
        exact hmF
  have s1' : sumC B c r ≤ m % sumC B c L := by omega
  have s3' : m % sumC B c L < sumC B c r + (B - c r) := s3
  have hcr := k.lt r
  rw [k.ahead hlt, k.skipped hlt, k.last, k.len]
  refine ⟨(m / sumC B c L * L + r) * B + (c r + (m % sumC B c L - sumC B c r)), ?_, ?_, ?_⟩
  · rw [Int.natCast_add, Int.natCast_mul, Int.natCast_add, Int.natCast_mul]
    omega
  · have e1 : ((m / sumC B c L * L + r) * B + (c r + (m % sumC B c L - sumC B c r))) / B = r + L * (m / sumC B c L) := by
      rw [Nat.mul_comm _ B, Nat.mul_add_div (by omega), Nat.div_eq_of_lt (show c r + (m % sumC B c L - sumC B c r) < B by omega), Nat.add_zero, Nat.mul_comm L, Nat.add_comm]
    have e2 : ((m / sumC B c L * L + r) * B + (c r + (m % sumC B c L - sumC B c r))) % B = c r + (m % sumC B c L - sumC B c r) := by
      rw [Nat.mul_comm _ B, Nat.mul_add_mod, Nat.mod_eq_of_lt (show c r + (m % sumC B c L - sumC B c r) < B by omega)]
    unfold bor
    rw [e1, e2, c_mul k.per]
    exact decide_eq_true (by omega)
  · rw [bel_eq (by omega) (fun g => Nat.le_of_lt (k.lt g)) _ _ (by omega), Nat.add_comm _ r, Nat.mul_comm _ L, c_mul k.per, sumC_mul k.per]
    have := Nat.mod_add_div m (sumC B c L)
    omega
end
end LM

set_option Elab.async false
set_option linter.all false
set_option maxRecDepth 100000
set_option maxHeartbeats 4000000
namespace LM
open PySem PySem.Spec PyProof.Rows L2
/-! ### zip of a list and a tuple, either way -/
def SqB (K : PySem.W.Frag) : Bool → Hp → Addr → List V → Prop
  | true => SqL K
  | false => SqT K
def ItB : Bool → Heap → Addr → Addr → Nat → Prop
  | true => Heap.IsListIter
  | false => Heap.IsTupleIter
def SeB : Bool → Heap → Addr → Array Value → Prop
  | true => Heap.IsList
  | false => Heap.IsTuple
def obB (b : Bool) (l : Addr) : Obj := { cls := .type (if b = true then "list_iterator" else "tuple_iterator"), data := .fields #[.ref l, .int 0 0] }
def ItzM (K : PySem.W.Frag) (m n : Bool) (a b : Addr) : It :=
  ⟨fun i H => ∃ (xs ys : List V), SqB K m H a xs ∧ SqB K n H b ys ∧ i < xs.length ∧ i < ys.length,
    fun i H v H' => ∃ T x y, v = .ref T ∧ H T = none ∧ H' = upd H T (.tup [x, y]) ∧ (∀ xs, SqB K m H a xs → xs[i]? = some x) ∧ ∀ ys, SqB K n H b ys → ys[i]? = some y,
    fun i H => ∃ xs ys : List V, SqB K m H a xs ∧ SqB K n H b ys ∧ i = min xs.length ys.length⟩
theorem drawsB {prog : Program} {w : World} {A : Around} (hh : A.handled = none) (m : Bool) (it l : Addr) (hne : l ≠ it) (items : Array Value) : Draws prog w A it [it, l] items.size (fun i v => items[i]? = some v) (fun i h => ItB m h it l i ∧ SeB m h l items) := by
  cases m with
  | true => exact Draws.list hh it l hne items
  | false => exact Draws.tuple hh it l hne items
theorem beginsB (m : Bool) (l : Addr) (items : Array Value) : Begins (.ref l) (obB m l) fun h => SeB m h l items := by
  cases m with
  | true => exact begins_list l items
  | false => exact begins_tuple l items
theorem itB_obj {m : Bool} {h : Heap} {it l : Addr} {i : Nat} (z : ItB m h it l i) : ∃ o, h.get? it = some o ∧ ∀ v, o.data ≠ .cell v := by
  cases m with
  | true =>
    obtain ⟨o, ho, hc, hd⟩ := z
    exact ⟨o, ho, fun v q => by rw [hd] at q; cases q⟩
  | false =>
    obtain ⟨o, ho, hc, hd⟩ := z
    exact ⟨o, ho, fun v q => by rw [hd] at q; cases q⟩
theorem itB_keep {m : Bool} {h h' : Heap} {it l : Addr} {i : Nat} (z : ItB m h it l i) (k : ∀ o, h.get? it = some o → h'.get? it = some o) : ItB m h' it l i := by
  cases m with
  | true => exact Heap.IsListIter.at z k
  | false => exact Heap.IsTupleIter.at z k
theorem itB_first {m : Bool} {h : Heap} {it l : Addr} (z : h.get? it = some (obB m l)) : ItB m h it l 0 := by
  cases m with
  | true => exact ⟨_, z, rfl, rfl⟩
  | false => exact ⟨_, z, rfl, rfl⟩
section
variable {X : Cx} {pins : List (Addr × Obj)} {σ : L2.St} {H : Hp} {s : Shared}
theorem sqB_get (I : Inv X pins σ H s) {m : Bool} {a : Addr} {xs : List V} (h : SqB X.K m H a xs) : ∃ its, Vals xs its ∧ SeB m s.heap a its.toArray ∧ a < s.heap.objs.size := by
  cases m with
  | true =>
    obtain ⟨its, rv, p, _⟩ := I.list h
    exact ⟨its, rv, p.isList, p.lt⟩
  | false =>
    obtain ⟨its, rv, p, _⟩ := I.tuple h
    obtain ⟨o, ho, _⟩ := id p
    exact ⟨its, rv, p, Heap.lt_size ho⟩
theorem sqB_inj (I : Inv X pins σ H s) {m : Bool} {a : Addr} {xs ys : List V} (h1 : SqB X.K m H a xs) (h2 : SqB X.K m H a ys) : xs = ys := by
  cases m with
  | true => exact I.list_inj h1 h2
  | false => exact I.tuple_inj h1 h2
end
theorem turn_zipM {P : Program} {w : World} {K : PySem.W.Frag} {elts : List Expr} {kk : Nat} {tpos : Pos} {m n : Bool} {a b z TI TO i1 i2 : Addr} (S : ZipSep2 z TI TO i1 i2 [i1, a] [i2, b]) (ha : a ≠ i1) (hb : b ≠ i2) :
    Turn P w K (.Tuple elts kk tpos) (ItzM K m n a b) [z, TI, TO, i1, i2] z (fun i h => IsZip h z TI TO .none ∧ IsTupOf2 h TI (.ref i1) (.ref i2) ∧ (∃ x y, IsTupOf2 h TO x y) ∧ ItB m h i1 a i ∧ ItB n h i2 b i) := by
  have objs : ∀ i h, (IsZip h z TI TO .none ∧ IsTupOf2 h TI (.ref i1) (.ref i2) ∧ (∃ x y, IsTupOf2 h TO x y) ∧ ItB m h i1 a i ∧ ItB n h i2 b i) → ∀ c ∈ [z, TI, TO, i1, i2], ∃ o, h.get? c = some o ∧ ∀ v, o.data ≠ .cell v := by
    rintro i h ⟨q1, q2, ⟨x, y, q3⟩, q4, q5⟩ c hc
    simp only [List.mem_cons, List.not_mem_nil, or_false] at hc
    rcases hc with rfl | rfl | rfl | rfl | rfl
    · exact ⟨_, q1, fun v q => nomatch q⟩
    · exact ⟨_, q2, fun v q => nomatch q⟩
    · exact ⟨_, q3, fun v q => nomatch q⟩
    · exact itB_obj q4
    · exact itB_obj q5
  refine ⟨by simp, objs, ?_, ?_, ?_, fun A i s Q E st h => wpAny_pyIter_zip st.1 h⟩
  · rintro i h h' ⟨q1, q2, ⟨x, y, q3⟩, q4, q5⟩ k
    exact ⟨k z (by simp) _ q1, k TI (by simp) _ q2, ⟨x, y, k TO (by simp) _ q3⟩, itB_keep q4 fun o q => k i1 (by simp) o q, itB_keep q5 fun o q => k i2 (by simp) o q⟩
  · intro X hP hw hK hc i pins s σ H E I hf st hg
    subst hP hw hK
    have ob := objs i s.heap st
    obtain ⟨q1, q2, q3, q4, q5⟩ := st
    obtain ⟨xs, ys, h1, h2, l1, l2⟩ := hg
    obtain ⟨its, rv, p, _⟩ := sqB_get I h1
    obtain ⟨jts, rw_, r, _⟩ := sqB_get I h2
    have W := GoesN.zip2 (elts := elts) (x1 := kk) (pos := tpos) S (drawsB (prog := X.prog) (w := X.w) (A := X.A.in1) (I.ok.hd hc) m i1 a ha its.toArray) (drawsB (prog := X.prog) (w := X.w) (A := X.A.in1) (I.ok.hd hc) n i2 b hb jts.toArray)
    have e1 := rv.length
    have e2 := rw_.length
    have g1 : xs[i]? = some xs[i] := List.getElem?_eq_getElem l1
    have g2 : ys[i]? = some ys[i] := List.getElem?_eq_getElem l2
    obtain ⟨u, hu, ru⟩ := rv.get g1
    obtain ⟨v, hv, rv2⟩ := rw_.get g2
    refine W.goes i s _ E (by simp; omega) ⟨q1, q2, q3, ⟨q4, p⟩, ⟨q5, r⟩⟩ fun y h' tk hy st' hk _ => ?_
    obtain ⟨T, x1, x2, rfl, hT, k1, k2, hp⟩ := hy
    obtain rfl : x1 = u := by
      have z1 : its[i]? = some x1 := by simpa using k1
      exact Option.some.inj (z1.symm.trans hu)
    obtain rfl : x2 = v := by
      have z1 : jts[i]? = some x2 := by simpa using k2
      exact Option.some.inj (z1.symm.trans hv)
    have new : ObjOk X.prog X.w (upd H T (.tup [xs[i], ys[i]])) h' T (.tup [xs[i], ys[i]]) := ⟨by show 2 ≤ sizeLine; decide, [x1, x2], .cons ru (.cons rv2 .nil), hp⟩
    have J : Inv X pins σ (upd H T (.tup [xs[i], ys[i]])) { s with heap := h', toks := tk } :=
      I.turnedNew (ch := [z, TI, TO, i1, i2]) (fun c o hc q => hk c o (fun hm => hc (by simp only [List.mem_cons, List.not_mem_nil, or_false] at hm ⊢; rcases hm with h | h | h | h <;> simp [h])) q) hf hT new
    refine ⟨.ref T, _, J, rfl, ⟨T, xs[i], ys[i], rfl, I.hok.fresh hT, rfl, fun zs hz => by rw [sqB_inj I hz h1]; exact g1, fun zs hz => by rw [sqB_inj I hz h2]; exact g2⟩, ⟨st'.1, st'.2.1, st'.2.2.1, st'.2.2.2.1.1, st'.2.2.2.2.1⟩, fun c hc => ?_⟩
    obtain ⟨o, ho, _⟩ := ob c hc
    have hlt := Heap.lt_size ho
    rw [upd_ne (Nat.ne_of_lt (Nat.lt_of_lt_of_le hlt hT))]
    exact (hf c hc).1
  · intro X hP hw hK hc i pins s σ H E I hf st hg
    subst hP hw hK
    obtain ⟨q1, q2, q3, q4, q5⟩ := st
    obtain ⟨xs, ys, h1, h2, he⟩ := hg
    obtain ⟨its, rv, p, _⟩ := sqB_get I h1
    obtain ⟨jts, rw_, r, _⟩ := sqB_get I h2
    have W := GoesN.zip2 (elts := elts) (x1 := kk) (pos := tpos) S (drawsB (prog := X.prog) (w := X.w) (A := X.A.in1) (I.ok.hd hc) m i1 a ha its.toArray) (drawsB (prog := X.prog) (w := X.w) (A := X.A.in1) (I.ok.hd hc) n i2 b hb jts.toArray)
    have e1 := rv.length
    have e2 := rw_.length
    have en : i = min its.toArray.size jts.toArray.size := by simp; omega
    refine W.stops s _ E ⟨q1, q2, q3, ⟨en ▸ q4, p⟩, ⟨en ▸ q5, r⟩⟩ fun h' tk hk _ => ?_
    exact I.turnedL (t' := tk) (ch := [z, TI, TO, i1, i2]) (fun c o hc q => hk c o (fun hm => hc (by simp only [List.mem_cons, List.not_mem_nil, or_false] at hm ⊢; rcases hm with h | h | h | h <;> simp [h])) q) hf
def iZipM (K : PySem.W.Frag) (m n : Bool) (ta : TA) : TI := fun σ H R => ta σ H fun vs H1 => ∃ a b xs ys, vs = [.ref a, .ref b] ∧ SqB K m H1 a xs ∧ SqB K n H1 b ys ∧ R (ItzM K m n a b) H1
theorem pi_zipM {X : Cx} {e e2 : Expr} {ta : TA} {p pos tpos : Pos} {elts : List Expr} {kk : Nat} (m n : Bool) (hg : Gl X "zip") (hm : X.mg "zip" = none) (ha : PA X [e, e2] ta)
    (hst : starEach [e, e2] X.env = (false, eval e X.env) :: starEach [e2] X.env := by rfl) (hpl : (backTo pos (starEach [e2] X.env)).any (·.1) = false := by rfl) : PI X (.Tuple elts kk tpos) (.Call (.Name "zip" p) [e, e2] [] pos) (iZipM X.K m n ta) := by
  refine ⟨fun pins s σ H R I h => Call_ (ld_blt I hg hm PyProof.Rows.boot_zip (PyProof.Rows.callWith_type1 (thn (ha.run pos pins s σ H _ I h) fun us s1 ⟨vs, H1, I1, r1, a, b, xs, ys, ev, h1, h2, q⟩ => ?_) hst hpl))⟩
  subst ev
  obtain ⟨u, v, rfl, ru, rv⟩ := vals2 r1
  obtain rfl : u = Value.ref a := ru
  obtain rfl : v = Value.ref b := rv
  obtain ⟨its, _, p1, lt1⟩ := sqB_get I1 h1
  obtain ⟨jts, _, p2, lt2⟩ := sqB_get I1 h2
  have hS : ZipSep2 (s1.heap.objs.size + 4) (s1.heap.objs.size + 2) (s1.heap.objs.size + 3) s1.heap.objs.size (s1.heap.objs.size + 1) [s1.heap.objs.size, a] [s1.heap.objs.size + 1, b] := zip_sep2 (fun c hc => by rw [List.mem_singleton.mp hc]; exact lt1) (fun c hc => by rw [List.mem_singleton.mp hc]; exact lt2)
  refine zip_begins2 (beginsB m a its.toArray) (beginsB n b jts.toArray) p1 p2 fun h' hz hTI hTO g1 g2 hsz hk => wpAny_pyIter_zip hz ?_
  refine ⟨s1.heap.objs.size + 4, [s1.heap.objs.size + 4, s1.heap.objs.size + 2, s1.heap.objs.size + 3, s1.heap.objs.size, s1.heap.objs.size + 1], _, _, H1, rfl, I1.kept (t' := s1.toks) hk, turn_zipM hS (Nat.ne_of_lt lt1) (Nat.ne_of_lt (Nat.lt_succ_of_lt lt2)), ⟨hz, hTI, ⟨_, _, hTO⟩, itB_first g1, itB_first g2⟩, fun c hc => ?_, q⟩
  have hle : s1.heap.objs.size ≤ c := by
    simp only [List.mem_cons, List.not_mem_nil, or_false] at hc
    rcases hc with h | h | h | h | h <;> rw [h] <;> first | exact Nat.le_refl _ | exact Nat.le_add_right _ _
  exact I1.fpOk hle (I1.hok.fresh hle)
theorem walk_zipM {K : PySem.W.Frag} {m n : Bool} {a b : Addr} {xs ys : List V} {k : Nat} (hk : k = min xs.length ys.length) : Walk (ItzM K m n a b) k (fun H => SqB K m H a xs ∧ SqB K n H b ys) (YPair (fun i => xs[i]?) (fun i => ys[i]?)) := by
  refine ⟨fun i _ hi ⟨q1, q2⟩ => ⟨xs, ys, q1, q2, by omega, by omega⟩, fun _ ⟨q1, q2⟩ => ⟨xs, ys, q1, q2, hk⟩, fun i H v H' _ ⟨q1, q2⟩ y => ?_⟩
  obtain ⟨T, x, z, h1, h2, h3, h4, h5⟩ := y
  exact ⟨T, x, z, h1, h2, h3, h4 xs q1, h5 ys q2⟩
end LM

set_option Elab.async false
set_option linter.all false
set_option maxRecDepth 100000
set_option maxHeartbeats 4000000
namespace LM
open PySem PySem.Spec PyProof.Rows L2
/-! ### own == and != beside any value -/
section
open Builtin
variable {prog : Program} {w : World} {A : Around} {E : Value → Shared → Prop} {s : Shared} {K : PySem.W.Frag} {x C L f : Addr} {h₀ : Heap} {m : Str → Option Value} {ox : Obj} {od : Option Obj} {b tb : Value}
theorem objNe_own {Q : Fin → Shared → Prop} (hu : A.units < cLine) (X : K.In s.heap) (I : PySem.W.InstAt s.heap x ox C od) (hs : PySem.W.findIn K (.ref C) "__eq__" = some (some (.ref f))) (hf : PySem.W.isFn K (.ref f) = true)
    (h : wpAny (model prog w) A (call (.ref f) [.ref x, b]) (fun v s' => ∃ r, v = .bool r ∧ Q (.done (.ret (.bool (!r)))) s') E s) : wpAny (model prog w) A (Builtin.«object.__ne__» ⟨[.ref x, b], []⟩) Q E s := by
  unfold Builtin.«object.__ne__»
  refine wpAny_bind (wpAny_pure ?_)
  refine wpAny_bind (wpAny_cRoomFor hu ?_)
  refine wpAny_bind (PySem.W.ifBound_K X I hs hf (wpAny_mono h (fun v s' ⟨r, ev, q⟩ => ?_) fun _ _ e => e))
  subst ev
  exact wpAny_bind (wpAny_truthy_bool (wpAny_pure q))
theorem ne_own {Q : Value → Shared → Prop} (hu : A.units + 1 < cLine) (Fx : Fr h₀ L s.heap m) (X₀ : K.In h₀) (I : PySem.W.InstAt s.heap x ox C od) (hb : PySem.W.Looks (model prog w) s.heap (typeOf b) tb) (hn : PySem.W.notFirst K C tb = true)
    (hne : PySem.W.findIn K (.ref C) "__ne__" = some (some (.builtin "object.__ne__"))) (hob : PySem.W.mroIn K C (.type "object") = some true) (hs : PySem.W.findIn K (.ref C) "__eq__" = some (some (.ref f))) (hf : PySem.W.isFn K (.ref f) = true)
    (h : wpAny (model prog w) A.in1 (call (.ref f) [.ref x, b]) (fun v s' => ∃ r, v = .bool r ∧ Q (.bool (!r)) s') E s) : wpAny (model prog w) A (richCompare .NotEq (.ref x) b) Q E s := by
  have X := X₀.keeps Fx.keep
  have one : wpAny (model prog w) A (tryCompare (.ref x) "__ne__" b) (fun r s' => ∃ v, r = some v ∧ Q v s') E s := by
    unfold tryCompare
    refine wpAny_bind ?_
    simp only [callSpecialIfBound?, bindSpecialIfBound?]
    refine wpAny_holding (wpAny_bind (wpAny_bind (wpAny_bind (I.type.here ((PySem.W.looks_findIn X hne).here ?_)))))
    have hbind := PySem.F.slot_object_ne.bind
    simp only [hbind]
    refine wpAny_bind (wpAny_askSetting (wpAny_ite ?_))
    have fin : wpAny (model prog w) A (call (.builtin "object.__ne__") ([.ref x] ++ [b]) >>= fun v => pure (some v)) (fun r s' => wpAny (model prog w) A (match r with | some .notImplemented | none => pure none | some v => pure (some v)) (fun r s' => ∃ v, r = some v ∧ Q v s') E s') E s := by
      refine wpAny_bind (wpAny_call (codeAny_call_builtin PySem.F.slot_object_ne.plain PySem.F.cmpEntry_ne (@PySem.W.check_slot (model prog w) _ _ s "object.__ne__" "object" "__ne__" (.ref x) [b] [] _ PySem.F.cmpKind_ne PySem.F.cmpSplit_ne (I.type.andThen (PySem.W.looks_mroIn X hob)) (PySem.F.cmpArgs_ne _ _) (objNe_own (A := A.in1) (Nat.lt_of_succ_lt hu |> fun z => by show A.units + 1 < cLine; exact hu) X I hs hf (wpAny_mono h (fun v s' ⟨r, ev, q⟩ => ⟨r, ev, ?_⟩) fun _ _ e => e)))))
      exact wpAny_pure (wpAny_pure ⟨_, rfl, q⟩)
    split
    · exact wpAny_bind (wpAny_pure (wpAny_pure fin))
    · exact wpAny_tryCatch (wpAny_bind (wpAny_pure (wpAny_pure fin)))
  unfold richCompare
  simp only [oneThing_ref]
  refine wpAny_holding (wpAny_bind (wpAny_cRoomFor (Nat.lt_of_succ_lt hu) ?_))
  refine wpAny_bind (I.type.here (wpAny_bind (hb.here ?_)))
  have fin2 : wpAny (model prog w) A (tryCompare (.ref x) "__ne__" b) (fun r s' => ∃ v, r = some v ∧ Q v s') E s := one
  split
  · rename_i q
    have e : PySem.W.subIn K tb (.ref C) = some false := (Bool.or_eq_true_iff.mp hn).elim (fun e => by rw [beq_iff_eq.mp e] at q; simp at q) fun e => beq_iff_eq.mp e
    refine wpAny_bind ((PySem.W.looks_subIn X e).here ?_)
    simp only [Bool.false_eq_true, if_false]
    exact wpAny_bind (wpAny_mono fin2 (fun r s' ⟨v, ev, hq⟩ => by subst ev; exact wpAny_pure hq) fun _ _ e => e)
  · refine wpAny_bind (wpAny_pure ?_)
    simp only [Bool.false_eq_true, if_false]
    exact wpAny_bind (wpAny_mono fin2 (fun r s' ⟨v, ev, hq⟩ => by subst ev; exact wpAny_pure hq) fun _ _ e => e)
end

/-- the class's own == at f, its != that of object -/
structure OwnE (K : PySem.W.Frag) (C f : Addr) : Prop where
  eq : PySem.W.findIn K (.ref C) "__eq__" = some (some (.ref f))
  fn : PySem.W.isFn K (.ref f) = true
  ne : PySem.W.findIn K (.ref C) "__ne__" = some (some (.builtin "object.__ne__"))
  ob : PySem.W.mroIn K C (.type "object") = some true
/-- an instance beside any value: what the own == promises, ng: turned about -/
def rEqO (K : PySem.W.Frag) (C : Addr) (sp : Sp) (E : XK) (ng : Bool) : R2 := fun x y H Q => ∃ a dx fs t, x = .ref a ∧ H a = some (.ins C dx fs) ∧ TyX K H y t ∧ PySem.W.notFirst K C t = true ∧ sp [.ref a, y] H (fun v H' => ∃ r, v = .bl r ∧ Q (.bl (if ng = true then !r else r)) H') E
section
variable {X : Cx} {CX : CXT} {k : Nat} {C f : Addr} {fd : FuncData} {ps : List Str} {sp : Sp} {E : XK}
theorem ty_looks {pins : List (Addr × Obj)} {σ : L2.St} {H : Hp} {s : Shared} {x : V} {u t : Value} (I : Inv X pins σ H s) (rx : RelV x u) (ty : TyX X.K H x t) : PySem.W.Looks (model X.prog X.w) s.heap (typeOf u) t := by
  obtain ⟨Pp, Z, hp, _⟩ := L2.kit_of I rx ty
  exact Z.ty _ _ I.kIn hp
theorem op_eqO (O : OwnE X.K C f) (F : FnOk X.prog X.w X.K X.mg X.base CX k f fd ps sp) (hr : Room k X.A) (hb : Binds X.K fd ps []) (hx : Passes CX X E) : OpR X (compareOp .Eq) (rEqO X.K C sp E false) := by
  intro pins s σ H x y v u Q I rx ry ⟨a, dx, fs, t, ex, ea, ty, nf, h⟩
  subst ex
  obtain rfl : v = Value.ref a := rx
  obtain ⟨mA, J, _⟩ := ins_get I.hok ea
  obtain ⟨od, J, _⟩ := J.look
  obtain ⟨m, hF⟩ := I.fr
  show wpAny (model X.prog X.w) X.A (richCompare .Eq (.ref a) u) (EP X pins σ Q) X.xe s
  refine PySem.W.cmp_K (op := .Eq) hr.units0 hF I.ok.mod.kin J (ty_looks I ry ty) nf O.eq O.fn ?_
  refine wpAny_mono (run_fn (us := [.ref a, u]) (vs := [.ref a, y]) F hr hb .nil hx I (.cons rfl (.cons ry .nil)) h) (fun w s' hq => ?_) fun _ _ z => z
  obtain ⟨v', H', I', rw_, r, er, q⟩ := hq
  subst er
  obtain rfl : w = Value.bool r := rw_
  exact ⟨.bl r, H', I', rfl, q⟩
theorem op_neO (O : OwnE X.K C f) (F : FnOk X.prog X.w X.K X.mg X.base CX k f fd ps sp) (hr : Room (k + 1) X.A) (hb : Binds X.K fd ps []) (hx : Passes CX X.nox E) : OpR X (compareOp .NotEq) (rEqO X.K C sp E true) := by
  intro pins s σ H x y v u Q I rx ry ⟨a, dx, fs, t, ex, ea, ty, nf, h⟩
  subst ex
  obtain rfl : v = Value.ref a := rx
  obtain ⟨mA, J, _⟩ := ins_get I.hok ea
  obtain ⟨od, J, _⟩ := J.look
  obtain ⟨m, hF⟩ := I.fr
  show wpAny (model X.prog X.w) X.A (richCompare .NotEq (.ref a) u) (EP X pins σ Q) X.xe s
  refine ne_own (hu_of hr) hF I.ok.mod.kin J (ty_looks I ry ty) nf O.ne O.ob O.eq O.fn ?_
  have hl := F.len _ _ _ _ h
  refine wpAny_call (codeAny_mono (F.run X.A.in1 X.stack s H ⟨[.ref a, u], []⟩ [.ref a, u] [.ref a, y] _ E hr.in1 I.env0.in1 (by
    have := hb s [.ref a, u] I.kIn (by simpa using hl)
    simpa using this) (.cons rfl (.cons ry .nil)) h) fun r s' hq => ?_)
  cases r with
  | error er => exact False.elim (hx pins σ H s er s' (I.wish _) hq)
  | ok fl =>
    cases fl with
    | ret w =>
      obtain ⟨v', H', I', rw_, r, er, q⟩ := I.after hq
      subst er
      obtain rfl : w = Value.bool r := rw_
      exact ⟨r, rfl, .bl (!r), H', I', rfl, q⟩
    | next => exact False.elim hq
    | brk => exact False.elim hq
    | cont => exact False.elim hq
end

/-! ### str, repr and bool of an instance -/
section
variable {X : Cx} {CX : CXT} {k : Nat} {C f : Addr} {fd : FuncData} {ps : List Str} {sp : Sp} {E : XK}
def rStrO (C : Addr) (sp : Sp) (E : XK) : List V → Hp → VK → Prop := fun xs H Q => ∃ a dx fs, xs = [.ref a] ∧ H a = some (.ins C dx fs) ∧ sp [.ref a] H (fun v H' => ∃ z, v = .str z ∧ Q (.str z) H') E
theorem call_strO (hs : PySem.W.findIn X.K (.ref C) "__str__" = some (some (.ref f))) (hf : PySem.W.isFn X.K (.ref f) = true) (F : FnOk X.prog X.w X.K X.mg X.base CX k f fd ps sp) (hr : Room (k + 2) X.A) (hb : Binds X.K fd ps []) (hx : Passes CX X.nox E) : CallR X (.type "str") (rStrO C sp E) := by
  intro pins s σ H xs us Q I va ⟨a, dx, fs, ex, ea, h⟩
  subst ex
  obtain ⟨u, rfl, ru⟩ := vals1 va
  obtain rfl : u = Value.ref a := ru
  obtain ⟨mA, J, _⟩ := ins_get I.hok ea
  obtain ⟨od, J, _⟩ := J.look
  have hl := F.len _ _ _ _ h
  refine PySem.W.kso_call (by have := hu_of hr; have := hr.in1.in1.units0; exact this) I.kIn J hs hf ?_
  refine wpAny_call (codeAny_mono (F.run X.A.in1.in1 X.stack s H ⟨[.ref a], []⟩ [.ref a] [.ref a] _ E hr.in1.in1 I.env0.in1.in1 (by
    have := hb s [.ref a] I.kIn (by simpa using hl)
    simpa using this) (.cons rfl .nil) h) fun r s' hq => ?_)
  cases r with
  | error er => exact False.elim (hx pins σ H s er s' (I.wish _) hq)
  | ok fl =>
    cases fl with
    | ret w =>
      obtain ⟨v', H', I', rw_, z, er, q⟩ := I.after hq
      subst er
      obtain ⟨t, rfl⟩ := rw_
      exact ⟨.str z, H', I', ⟨t, rfl⟩, q⟩
    | next => exact False.elim hq
    | brk => exact False.elim hq
    | cont => exact False.elim hq
theorem call_reprO (hs : PySem.W.findIn X.K (.ref C) "__repr__" = some (some (.ref f))) (hf : PySem.W.isFn X.K (.ref f) = true) (F : FnOk X.prog X.w X.K X.mg X.base CX k f fd ps sp) (hr : Room (k + 1) X.A) (hb : Binds X.K fd ps []) (hx : Passes CX X.nox E) : CallR X (.builtin "repr") (rStrO C sp E) := by
  intro pins s σ H xs us Q I va ⟨a, dx, fs, ex, ea, h⟩
  subst ex
  obtain ⟨u, rfl, ru⟩ := vals1 va
  obtain rfl : u = Value.ref a := ru
  obtain ⟨mA, J, _⟩ := ins_get I.hok ea
  obtain ⟨od, J, _⟩ := J.look
  obtain ⟨m, hF⟩ := I.fr
  have hl := F.len _ _ _ _ h
  refine PySem.W.repr_K hr.in1.units0 hF I.ok.mod.kin J hs hf ?_
  refine wpAny_call (codeAny_mono (F.run X.A.in1 X.stack s H ⟨[.ref a], []⟩ [.ref a] [.ref a] _ E hr.in1 I.env0.in1 (by
    have := hb s [.ref a] I.kIn (by simpa using hl)
    simpa using this) (.cons rfl .nil) h) fun r s' hq => ?_)
  cases r with
  | error er => exact False.elim (hx pins σ H s er s' (I.wish _) hq)
  | ok fl =>
    cases fl with
    | ret w =>
      obtain ⟨v', H', I', rw_, z, er, q⟩ := I.after hq
      subst er
      obtain ⟨t, rfl⟩ := rw_
      exact ⟨.str z, H', I', ⟨t, rfl⟩, q⟩
    | next => exact False.elim hq
    | brk => exact False.elim hq
    | cont => exact False.elim hq
end
/-! ### first, *others = a list -/
section
variable {X : Cx}
theorem pgs_star {e : Expr} {es : List Expr} {p : Pos} {t : TG} {u : TGs} (h1 : PG X e t) (h2 : PGs X es u) (hs : (assignEach (.Starred e p :: es) X.env).map (·.2) = assign e X.env :: (assignEach es X.env).map (·.2) := by rfl) : PGs X (.Starred e p :: es) (gCons t u) := by
  refine ⟨fun pins s σ H vs us Q I r ⟨v, vr, e1, h⟩ => ?_⟩
  subst e1
  cases r with
  | cons r rr =>
    rw [hs]
    refine assignInOrder_cons (thn (h1.run pins s σ H _ _ _ I r h) fun _ s1 ⟨σ1, H1, I1, q1⟩ => ?_)
    exact h2.run pins s1 σ1 H1 vr _ Q I1 rr q1
/-- a list's first item, and a new list of the others -/
def gStar1 (K : PySem.W.Frag) (t : TGs) : TG := fun v σ H Q => ∃ a x xs, v = .ref a ∧ SqL K H a (x :: xs) ∧ ∀ D, H D = none → t [x, .ref D] σ (upd H D (.lst xs)) Q
theorem pg_star1 {es : List Expr} {k : Nat} {pos : Pos} {t : TGs} (hc : X.calm = true) (h : PGs X es t) (hn : (assignEach es X.env).length = 2 := by rfl) (hst : (assignEach es X.env).findIdx? (·.1) = some 1 := by rfl) : PG X (.Tuple es k pos) (gStar1 X.K t) := by
  refine ⟨fun pins s σ H v u Q I r ⟨a, x, xs, e1, hq, hw⟩ => ?_⟩
  subst e1
  obtain rfl : u = Value.ref a := r
  obtain ⟨its, rv, pl, hz⟩ := I.list hq
  cases rv with
  | @cons _ y _ ys ry rys =>
  have hl := pl.isList
  have hlt : a ≠ s.heap.objs.size := Nat.ne_of_lt pl.lt
  have hh : X.A.handled = none := I.ok.hd hc
  rw [PyProof.Rows.assign_Tuple]
  refine wpAny_bind (wpAny_standAt ?_)
  unfold unpack
  rw [hn, hst]
  refine wpAny_bind (wpAny_holding ?_)
  unfold unpackItems notIterableAtAll
  refine wpAny_bind (wpAny_bind (wpAny_specialOf hl.typeIs PySem.F.slot_list_iter.lookup (wpAny_pure ?_)))
  simp only [Bool.false_eq_true, if_false]
  refine wpAny_bind (wpAny_holding (wpAny_pyIter_list hl ?_))
  refine wpAny_bind (wpAny_holding (PySem.W.kun_draw hlt 1 0 _ _ ⟨_, Heap.get?_push_size _ rfl, rfl, rfl⟩ (hl.push _) (by simp) fun h1 hit1 hs1 => ?_))
  have hl1 : h1.IsList a (y :: ys).toArray := (hl.push _).extBut hs1.extBut hlt
  obtain ⟨oi, hoi, _⟩ := id hit1
  obtain ⟨ol, hol, _⟩ := id hl1
  have hsz : (y :: ys).toArray.size ≤ sizeLine := by
    have e := rys.length
    simp only [List.size_toArray, List.length_cons] at hz ⊢
    omega
  show wpAny _ _ (if ([y] : List Value).length < 1 then _ else _) _ _ _
  rw [if_neg (by simp)]
  refine wpAny_bind (wpAny_holding (PySem.W.kun_collect (s := { s with heap := h1 }) (T := "list_iterator") (.inr (.inr (.inl rfl))) (Walks.list (A := X.A.in1) hh s.heap.objs.size a hlt (y :: ys).toArray) (fun j u st => st.1.typeIs) (k := 1) (by simp) ⟨hit1, hl1⟩ (Heap.lt_size hoi) (Heap.lt_size hol) (fun h2 tk hk => ?_) hsz))
  show wpAny _ _ (if ys.length < 0 then _ else _) _ _ _
  rw [if_neg (Nat.not_lt_zero _)]
  show wpAny _ _ (newList (ys.take (ys.length - 0)) >>= fun d => pure ([y] ++ [d] ++ ys.drop (ys.length - 0))) _ _ _
  rw [Nat.sub_zero, List.take_length, List.drop_length]
  have hk2 : ∀ b o, s.heap.get? b = some o → h2.get? b = some o := fun b o e => by
    have hb : b ≠ s.heap.objs.size := Nat.ne_of_lt (Heap.lt_size e)
    exact hk b o hb (hs1.extBut b o hb (Heap.get?_push_of_some _ e))
  have I2 : Inv X pins σ H { s with heap := h2, toks := tk } := I.kept (t' := tk) hk2
  refine wpAny_bind (wpAny_newList (s := { s with heap := h2, toks := tk }) ?_ (by simp only [List.size_toArray, List.length_cons] at hsz; omega))
  refine wpAny_pure ?_
  have hsz' : ys.length ≤ sizeLine := by simp only [List.size_toArray, List.length_cons] at hsz; omega
  have hxs : xs.length ≤ sizeLine := by rw [rys.length]; exact hsz'
  have kk : ∀ b u, h2.get? b = some u → (h2.push { cls := .type "list", data := .seq ys.toArray }).get? b = some u := fun b u e => Heap.get?_push_of_some _ e
  have I3 := I2.laid (t' := tk) kk (Nat.le_refl _) (show ObjOk X.prog X.w (upd H _ (.lst xs)) _ _ (.lst xs) from ⟨hxs, ys, 0, rys, Heap.get?_push_size _ rfl⟩)
  exact thn (h.run pins _ σ _ [x, .ref h2.objs.size] [y, .ref h2.objs.size] Q I3 (.cons ry (.cons rfl .nil)) (hw _ (I2.hok.fresh (Nat.le_refl _)))) fun _ s' hh => hh
end

/-! ### bool of an instance without __bool__ and __len__ -/
section
variable {prog : Program} {w : World} {A : Around} {E : Value → Shared → Prop} {s : Shared}
theorem meets_bool_ref (x : Addr) : MeetsIn prog w (Builtin.«bool.__new__» ⟨[.type "bool", .ref x], []⟩) (fun A R s => (∀ (Q : Bool → Shared → Prop) (E : Value → Shared → Prop), Q true s → wpAny (model prog w) A.in1 (truthy (.ref x)) Q E s) ∧ R (.ok (.ret (.bool true))) s) :=
  .of_wp fun A R s hs => by
    obtain ⟨hl, hs⟩ := hs
    obtain ⟨hp, g, d, tk, os⟩ := s
    have f1 := F.conv_sub_bool
    repeat (any_goals (first | assumption | (with_reducible refine hl _ _ ?_) | wp_step))
    all_goals first | exact ⟨_, rfl, hs⟩ | exact hs | skip
theorem call_bool_ref {x : Addr} {Q : Value → Shared → Prop} (hl : ∀ (Q : Bool → Shared → Prop) (E : Value → Shared → Prop), Q true s → wpAny (model prog w) A.in1.in1 (truthy (.ref x)) Q E s) (h : Q (.bool true) s) : wpAny (model prog w) A (call (.type "bool") [.ref x]) Q E s :=
  callType_newIn F.called_bool F.newNe_bool (F.typeCall_bool_1 (.ref x)) (F.newCall_bool_1 (.ref x)) (fun obj => F.args_object_init_2 obj (.ref x)) F.entry_bool_new (meets_bool_ref x) ⟨hl, rfl, h⟩
end
section
variable {X : Cx} {CX : CXT} {k : Nat} {C f : Addr} {fd : FuncData} {ps : List Str} {sp : Sp} {E : XK}
theorem call_boolO (hs : PySem.W.findIn X.K (.ref C) "__bool__" = some none) (hl : PySem.W.findIn X.K (.ref C) "__len__" = some none) : CallR X (.type "bool") (fun xs H Q => ∃ a dx fs, xs = [.ref a] ∧ H a = some (.ins C dx fs) ∧ Q (.bl true) H) := by
  intro pins s σ H xs us Q I va ⟨a, dx, fs, ex, ea, h⟩
  subst ex
  obtain ⟨u, rfl, ru⟩ := vals1 va
  obtain rfl : u = Value.ref a := ru
  obtain ⟨mA, J, _⟩ := ins_get I.hok ea
  obtain ⟨od, J, _⟩ := J.look
  obtain ⟨m, hF⟩ := I.fr
  exact call_bool_ref (fun Q E h => PySem.W.truthy_K0 hF I.ok.mod.kin J hs hl h) ⟨.bl true, H, I, rfl, h⟩
/-- x(..), x a local name that holds the class at C -/
def tMakeV (i : Nat) (C : Addr) (sp : Sp) (dvs : List V) (E : XK) (t : TA) : TE := fun σ H Q => σ[i]? = some (some (.ref C)) ∧ tMake C sp dvs E t σ H Q
theorem pe_makeV {x : Str} {i : Nat} {ds : List Value} {dvs : List V} {e : Expr} {es : List Expr} {t : TA} {p pos : Pos} (M : Mk X.K C f) (F : FnOk X.prog X.w X.K X.mg X.base CX k f fd ps sp) (hr : Room (k + 1) X.A) (hN : X.N[i]? = some x) (hv : Vis X.env.scope x) (hb : Binds X.K fd ps ds) (hd : Vals dvs ds) (hx : Passes CX X E) (ha : PA X (e :: es) t)
    (hdb : (x == ("__debug__" : Str)) = false := by decide) (hcd : (x == ("__classdict__" : Str)) = false := by decide)
    (he : starEach (e :: es) X.env = (false, eval e X.env) :: starEach es X.env := by rfl) (hpl : (backTo pos (starEach es X.env)).any (·.1) = false := by rfl) : PE X (.Call (.Name x p) (e :: es) [] pos) (tMakeV i C sp dvs E t) := by
  refine ⟨fun pins s σ H Q I h => ?_⟩
  obtain ⟨hs, ht⟩ := h
  refine wpAny_Call_Name_kw (thn ((pe_var (pos := p) hN hv hdb hcd).run pins s σ H (fun v H1 => v = .ref C ∧ H1 = H) I ⟨.ref C, hs, rfl, rfl⟩) fun u s1 ⟨v, H1, I1, r1, q1⟩ => ?_)
  obtain ⟨rfl, rfl⟩ := q1
  cases r1
  refine PySem.W.callWith_K (h₀ := X.base) I.ok.mod.kin M.kp (thn (ha.run pos pins s1 σ _ _ I1 ht) fun us s2 ⟨vs, H2, I2, r, q⟩ => ⟨I2.kIn, ?_⟩) he hpl
  exact run_make M F hr hb hd hx I2 r q
end
/-! ### values of other kinds beside an instance -/
/-- a value that is no instance of the class at C, nor of a class below it -/
structure Alien (K : PySem.W.Frag) (C : Addr) (H : Hp) (y : V) : Prop where
  ty : ∃ t, TyX K H y t ∧ PySem.W.notFirst K C t = true ∧ PySem.W.kitOne K t (.ref C) = some false
/-- what of the text the kinds of values ask, for the class at C -/
structure Other (K : PySem.W.Frag) (C : Addr) : Prop where
  own1 : PySem.W.notFirst K C (.ref C) = true
  own2 : PySem.W.kitOne K (.ref C) (.ref C) = some true
  str1 : PySem.W.notFirst K C (.type "str") = true
  str2 : PySem.W.kitOne K (.type "str") (.ref C) = some false
  int1 : PySem.W.notFirst K C (.type "int") = true
  int2 : PySem.W.kitOne K (.type "int") (.ref C) = some false
  non1 : PySem.W.notFirst K C (.type "NoneType") = true
  non2 : PySem.W.kitOne K (.type "NoneType") (.ref C) = some false
  lst1 : PySem.W.notFirst K C (.type "list") = true
  lst2 : PySem.W.kitOne K (.type "list") (.ref C) = some false
  tup1 : PySem.W.notFirst K C (.type "tuple") = true
  tup2 : PySem.W.kitOne K (.type "tuple") (.ref C) = some false
  dic1 : PySem.W.notFirst K C (.type "dict") = true
  dic2 : PySem.W.kitOne K (.type "dict") (.ref C) = some false
section
variable {K : PySem.W.Frag} {C : Addr} {H : Hp}
theorem Other.str (o : Other K C) (x : Str) : Alien K C H (.str x) := ⟨_, .base (.str _), o.str1, o.str2⟩
theorem Other.int (o : Other K C) (x : Int) : Alien K C H (.int x) := ⟨_, .base (.int _), o.int1, o.int2⟩
theorem Other.non (o : Other K C) : Alien K C H .non := ⟨_, .base .non, o.non1, o.non2⟩
theorem Other.lst (o : Other K C) {a : Addr} {xs : List V} (h : H a = some (.lst xs)) : Alien K C H (.ref a) := ⟨_, .base (.lst h), o.lst1, o.lst2⟩
theorem Other.dic (o : Other K C) {a : Addr} {xs : List (Key × V)} (h : H a = some (.dK xs)) : Alien K C H (.ref a) := ⟨_, .base (.dK h), o.dic1, o.dic2⟩
end
/-- what isinstance asks of an instance of the class at C itself -/
structure OwnT (K : PySem.W.Frag) (C : Addr) : Prop where
  ha : PySem.W.findIn K (.ref C) "__class__" = some (some (.builtin "object.__class__"))
  hn : PySem.W.specialIn K (.builtin "object.__class__") "__get__" = some (some (.builtin "getset_descriptor.__get__"))
  htk : PySem.W.takesIn K (.builtin "object.__class__") = some true
  hm : PySem.W.mroIn K C (.type "object") = some true
theorem OwnT.ty {K : PySem.W.Frag} {C : Addr} {H : Hp} {a dx : Addr} {fs : List (Str × V)} (o : OwnT K C) (cl : Cls K C) (e : H a = some (.ins C dx fs)) : TyX K H (.ref a) (.ref C) := .base (.ins e cl o.ha o.hn o.htk o.hm)
end LM

set_option Elab.async false
set_option linter.all false
set_option maxRecDepth 100000
set_option maxHeartbeats 4000000
namespace LM
open PySem PySem.Spec PyProof.Rows L2
theorem dig_acc : ∀ (l : List Int) (q : Int) (acc : List Int), l.foldl digStep (q, acc) = ((l.foldl digStep (q, [])).1, (l.foldl digStep (q, [])).2 ++ acc)
  | [], q, acc => rfl
  | b :: l, q, acc => by
    rw [List.foldl_cons, List.foldl_cons]
    show l.foldl digStep (q / b, q % b :: acc) = ((l.foldl digStep (q / b, [q % b])).1, (l.foldl digStep (q / b, [q % b])).2 ++ acc)
    rw [dig_acc l (q / b) (q % b :: acc), dig_acc l (q / b) [q % b], List.append_assoc]
    rfl
theorem labelP_nil (p : Int) : labelP [] p = [p] := rfl
theorem labelP_snoc (bs : List Int) (b p : Int) : labelP (bs ++ [b]) p = labelP bs (p / b) ++ [p % b] := by
  unfold labelP
  rw [List.reverse_append, List.reverse_singleton, List.singleton_append, List.foldl_cons]
  show (bs.reverse.foldl digStep (p / b, [p % b])).1 :: (bs.reverse.foldl digStep (p / b, [p % b])).2 = _
  rw [dig_acc]
  rfl
theorem snoc_of {α : Type} : ∀ (l : List α), l = [] ∨ ∃ r x, l = r ++ [x]
  | [] => .inl rfl
  | x :: l => .inr ⟨(x :: l).dropLast, (x :: l).getLast (List.cons_ne_nil _ _), (List.dropLast_concat_getLast _).symm⟩
theorem snoc_ind {α : Type} {P : List α → Prop} (h0 : P []) (h1 : ∀ l x, P l → P (l ++ [x])) (l : List α) : P l := by
  rw [← List.reverse_reverse l]
  induction l.reverse with
  | nil => exact h0
  | cons x r ih =>
    rw [List.reverse_cons]
    exact h1 _ _ ih
theorem labelP_len (bs : List Int) (p : Int) : (labelP bs p).length = bs.length + 1 := by
  induction bs using snoc_ind generalizing p with
  | h0 => rfl
  | h1 l x ih => rw [labelP_snoc, List.length_append, ih, List.length_append]; rfl
/-- the place of a label -/
def placeOf (bs ds : List Int) : Int := (bs.zip ds.tail).foldl (fun a p => a * p.1 + p.2) (ds.headD 0)
/-- whether these are the numbers of a label -/
def boundL (bs ds : List Int) : List Bool := (bs.zip ds.tail).map fun p => decide (0 ≤ p.2) && decide (p.2 ≤ p.1 - 1)
def labelB (bs ds : List Int) : Bool := decide (ds.length = bs.length + 1) && (decide (0 ≤ ds.headD 0) && (boundL bs ds).all id)
theorem zip_snoc {bs ds : List Int} {b d : Int} (h : ds.length = bs.length + 1) : (bs ++ [b]).zip (ds ++ [d]).tail = bs.zip ds.tail ++ [(b, d)] := by
  cases ds with
  | nil => simp at h
  | cons x ds =>
    show (bs ++ [b]).zip (ds ++ [d]) = bs.zip ds ++ [(b, d)]
    rw [List.zip_append (by simpa using h.symm)]
    rfl
theorem headD_snoc {ds : List Int} {d : Int} (h : 1 ≤ ds.length) : (ds ++ [d]).headD 0 = ds.headD 0 := by
  cases ds with
  | nil => simp at h
  | cons x ds => rfl
theorem placeOf_snoc {bs ds : List Int} {b d : Int} (h : ds.length = bs.length + 1) : placeOf (bs ++ [b]) (ds ++ [d]) = placeOf bs ds * b + d := by
  unfold placeOf
  rw [zip_snoc h, headD_snoc (by omega), List.foldl_append]
  rfl
theorem labelB_snoc {bs ds : List Int} {b d : Int} (h : ds.length = bs.length + 1) : labelB (bs ++ [b]) (ds ++ [d]) = (labelB bs ds && (decide (0 ≤ d) && decide (d ≤ b - 1))) := by
  unfold labelB boundL
  rw [zip_snoc h, headD_snoc (by omega), List.map_append, List.all_append, List.length_append, List.length_append, h]
  simp [Bool.and_assoc]
theorem place_label (bs : List Int) (p : Int) (hb : ∀ x ∈ bs, 2 ≤ x) : placeOf bs (labelP bs p) = p := by
  induction bs using snoc_ind generalizing p with
  | h0 => rfl
  | h1 l x ih =>
    rw [labelP_snoc, placeOf_snoc (labelP_len _ _), ih _ fun y hy => hb y (List.mem_append_left _ hy), Int.mul_comm]
    exact Int.mul_ediv_add_emod _ _
theorem label_ok (bs : List Int) (p : Int) (hb : ∀ x ∈ bs, 2 ≤ x) (hp : 0 ≤ p) : labelB bs (labelP bs p) = true := by
  induction bs using snoc_ind generalizing p with
  | h0 =>
    show (decide (1 = 0 + 1) && (decide (0 ≤ p) && true)) = true
    rw [decide_eq_true hp]
    rfl
  | h1 l x ih =>
    have hx := hb x (by simp)
    have h1 := Int.emod_nonneg p (show x ≠ 0 by omega)
    have h2 := Int.emod_lt_of_pos p (show 0 < x by omega)
    rw [labelP_snoc, labelB_snoc (labelP_len _ _), ih _ (fun y hy => hb y (List.mem_append_left _ hy)) (Int.ediv_nonneg hp (by omega)), decide_eq_true h1, decide_eq_true (show p % x ≤ x - 1 by omega)]
    rfl
theorem labelB_len {bs ds : List Int} (h : labelB bs ds = true) : ds.length = bs.length + 1 := by
  unfold labelB at h
  rw [Bool.and_eq_true] at h
  exact of_decide_eq_true h.1
theorem label_place (bs : List Int) : ∀ (ds : List Int), labelB bs ds = true → (∀ x ∈ bs, 2 ≤ x) → labelP bs (placeOf bs ds) = ds := by
  induction bs using snoc_ind with
  | h0 =>
    intro ds h _
    have hl := labelB_len h
    match ds, hl with
    | [d], _ => rfl
  | h1 l x ih =>
    intro ds h hb
    have hl := labelB_len h
    rcases snoc_of ds with rfl | ⟨r, d, rfl⟩
    · simp at hl
    · have hr : r.length = l.length + 1 := by simpa using hl
      rw [labelB_snoc hr, Bool.and_eq_true, Bool.and_eq_true] at h
      obtain ⟨h1, h2, h3⟩ := h
      have h2 := of_decide_eq_true h2
      have h3 := of_decide_eq_true h3
      have hx := hb x (by simp)
      have e1 : (placeOf l r * x + d) / x = placeOf l r := by
        rw [Int.add_comm, Int.add_mul_ediv_right _ _ (by omega), Int.ediv_eq_zero_of_lt h2 (by omega), Int.zero_add]
      have e2 : (placeOf l r * x + d) % x = d := by
        rw [Int.add_comm, Int.add_mul_emod_self_right, Int.emod_eq_of_lt h2 (by omega)]
      rw [placeOf_snoc hr, labelP_snoc, e1, e2, ih r h1 fun y hy => hb y (List.mem_append_left _ hy)]
/-- the number of a label's group -/
def groupOf (bs ds : List Int) : Int := (bs.dropLast.zip ds.tail).foldl (fun a p => a * p.1 + p.2) (ds.headD 0)
theorem group_label (bs : List Int) (p : Int) (hb : ∀ x ∈ bs, 2 ≤ x) (h : 1 ≤ bs.length) : groupOf bs (labelP bs p) = p / bs.getLastD 1 ∧ ∃ r, labelP bs p = r ++ [p % bs.getLastD 1] ∧ r.length = bs.length := by
  rcases snoc_of bs with rfl | ⟨r, x, rfl⟩
  · simp at h
  · have el : (r ++ [x]).getLastD 1 = x := by simp
    rw [el, labelP_snoc]
    refine ⟨?_, labelP r (p / x), rfl, by rw [labelP_len]; simp⟩
    unfold groupOf
    rw [List.dropLast_concat, headD_snoc (by rw [labelP_len]; omega)]
    have hl := labelP_len r (p / x)
    have e : r.zip (labelP r (p / x) ++ [p % x]).tail = r.zip (labelP r (p / x)).tail := by
      cases q : labelP r (p / x) with
      | nil => rw [q] at hl; simp at hl
      | cons y t =>
        rw [q] at hl
        show r.zip (t ++ [p % x]) = r.zip t
        conv => lhs; rw [← List.append_nil r, List.zip_append (by simpa using hl.symm)]
        simp
    rw [e]
    exact place_label r (p / x) fun y hy => hb y (List.mem_append_left _ hy)
/-- the label behind a label, as the law tells it -/
def laterStep (bs : List Int) (s : List Int × Nat) : List Int × Nat :=
  if s.1.getD s.2 0 = bs.getD (s.2 - 1) 0 then ((s.1.set s.2 0).set (s.2 - 1) (s.1.getD (s.2 - 1) 0 + 1), s.2 - 1) else s
def laterN (bs ds : List Int) : Nat → List Int × Nat
  | 0 => (ds.set bs.length (ds.getD bs.length 0 + 1), bs.length)
  | i + 1 => laterStep bs (laterN bs ds i)
def laterL (bs ds : List Int) : List Int := (laterN bs ds bs.length).1
theorem laterN_at (bs ds : List Int) : ∀ i, (laterN bs ds i).2 ≤ bs.length ∧ bs.length ≤ (laterN bs ds i).2 + i
  | 0 => ⟨Nat.le_refl _, Nat.le_refl _⟩
  | i + 1 => by
    have h := laterN_at bs ds i
    show (laterStep bs (laterN bs ds i)).2 ≤ _ ∧ _ ≤ (laterStep bs (laterN bs ds i)).2 + _
    unfold laterStep
    split
    · dsimp only
      omega
    · omega
theorem laterN_len (bs ds : List Int) : ∀ i, (laterN bs ds i).1.length = ds.length
  | 0 => by show (ds.set _ _).length = _; rw [List.length_set]
  | i + 1 => by
    show (laterStep bs (laterN bs ds i)).1.length = _
    unfold laterStep
    split
    · dsimp only
      rw [List.length_set, List.length_set, laterN_len bs ds i]
    · exact laterN_len bs ds i
theorem later_label (bs : List Int) (p : Int) (hb : ∀ x ∈ bs, 2 ≤ x) (hp : 0 ≤ p) (h1 : 1 ≤ bs.length) (h3 : bs.length ≤ 3) : laterL bs (labelP bs p) = labelP bs (p + 1) := by
  have hB := label_ok bs p hb hp
  have hP := place_label bs p hb
  have hl := labelP_len bs p
  suffices labelB bs (laterL bs (labelP bs p)) = true ∧ placeOf bs (laterL bs (labelP bs p)) = p + 1 by
    rw [← this.2]
    exact (label_place bs _ this.1 hb).symm
  generalize labelP bs p = ds at hB hP hl
  match bs, h1, h3 with
  | [b], _, _ =>
    match ds, hl with
    | [x, y], _ =>
      have hb1 := hb b (by simp)
      simp [labelB, boundL] at hB
      replace hP : x * b + y = p := hP
      show labelB [b] (laterStep [b] ([x, y + 1], 1)).1 = true ∧ placeOf [b] (laterStep [b] ([x, y + 1], 1)).1 = p + 1
      unfold laterStep
      by_cases c : y + 1 = b
      · have e : (if ([x, y + 1] : List Int).getD 1 0 = ([b] : List Int).getD (1 - 1) 0 then (((([x, y + 1] : List Int).set 1 0).set (1 - 1) (([x, y + 1] : List Int).getD (1 - 1) 0 + 1), 1 - 1) : List Int × Nat) else ([x, y + 1], 1)) = ([x + 1, 0], 0) := if_pos c
        rw [e]
        refine ⟨?_, ?_⟩
        · simp [labelB, boundL]; omega
        · show (x + 1) * b + 0 = p + 1
          rw [Int.add_mul]; omega
      · have e : (if ([x, y + 1] : List Int).getD 1 0 = ([b] : List Int).getD (1 - 1) 0 then (((([x, y + 1] : List Int).set 1 0).set (1 - 1) (([x, y + 1] : List Int).getD (1 - 1) 0 + 1), 1 - 1) : List Int × Nat) else ([x, y + 1], 1)) = ([x, y + 1], 1) := if_neg c
        rw [e]
        refine ⟨?_, ?_⟩
        · simp [labelB, boundL]; omega
        · show x * b + (y + 1) = p + 1
          omega
  | [a, b], _, _ =>
    match ds, hl with
    | [x, y, z], _ =>
      have hb1 := hb a (by simp)
      have hb2 := hb b (by simp)
      simp [labelB, boundL] at hB
      replace hP : (x * a + y) * b + z = p := hP
      have st1 : laterStep [a, b] ([x, y, z + 1], 2) = if z + 1 = b then ([x, y + 1, 0], 1) else ([x, y, z + 1], 2) := rfl
      have st2 : laterStep [a, b] ([x, y + 1, 0], 1) = if y + 1 = a then ([x + 1, 0, 0], 0) else ([x, y + 1, 0], 1) := rfl
      show labelB [a, b] (laterStep [a, b] (laterStep [a, b] ([x, y, z + 1], 2))).1 = true ∧ placeOf [a, b] (laterStep [a, b] (laterStep [a, b] ([x, y, z + 1], 2))).1 = p + 1
      rw [st1]
      by_cases c : z + 1 = b
      · rw [if_pos c, st2]
        by_cases d : y + 1 = a
        · rw [if_pos d]
          refine ⟨?_, ?_⟩
          · simp [labelB, boundL]; omega
          · show ((x + 1) * a + 0) * b + 0 = p + 1
            rw [show (x + 1) * a + 0 = (x * a + y) + 1 by rw [Int.add_mul]; omega, Int.add_mul]; omega
        · rw [if_neg d]
          refine ⟨?_, ?_⟩
          · simp [labelB, boundL]; omega
          · show (x * a + (y + 1)) * b + 0 = p + 1
            rw [← Int.add_assoc, Int.add_mul]; omega
      · rw [if_neg c, st1, if_neg c]
        refine ⟨?_, ?_⟩
        · simp [labelB, boundL]; omega
        · show (x * a + y) * b + (z + 1) = p + 1
          omega
  | [a, b, c], _, _ =>
    match ds, hl with
    | [w, x, y, z], _ =>
      have hb1 := hb a (by simp)
      have hb2 := hb b (by simp)
      have hb3 := hb c (by simp)
      simp [labelB, boundL] at hB
      replace hP : ((w * a + x) * b + y) * c + z = p := hP
      have st1 : laterStep [a, b, c] ([w, x, y, z + 1], 3) = if z + 1 = c then ([w, x, y + 1, 0], 2) else ([w, x, y, z + 1], 3) := rfl
      have st2 : laterStep [a, b, c] ([w, x, y + 1, 0], 2) = if y + 1 = b then ([w, x + 1, 0, 0], 1) else ([w, x, y + 1, 0], 2) := rfl
      have st3 : laterStep [a, b, c] ([w, x + 1, 0, 0], 1) = if x + 1 = a then ([w + 1, 0, 0, 0], 0) else ([w, x + 1, 0, 0], 1) := rfl
      show labelB [a, b, c] (laterStep [a, b, c] (laterStep [a, b, c] (laterStep [a, b, c] ([w, x, y, z + 1], 3)))).1 = true ∧ placeOf [a, b, c] (laterStep [a, b, c] (laterStep [a, b, c] (laterStep [a, b, c] ([w, x, y, z + 1], 3)))).1 = p + 1
      rw [st1]
      by_cases h1 : z + 1 = c
      · rw [if_pos h1, st2]
        by_cases h2 : y + 1 = b
        · rw [if_pos h2, st3]
          by_cases h3 : x + 1 = a
          · rw [if_pos h3]
            refine ⟨?_, ?_⟩
            · simp [labelB, boundL]; omega
            · show (((w + 1) * a + 0) * b + 0) * c + 0 = p + 1
              rw [show (w + 1) * a + 0 = (w * a + x) + 1 by rw [Int.add_mul]; omega, show (w * a + x + 1) * b + 0 = ((w * a + x) * b + y) + 1 by rw [Int.add_mul]; omega, Int.add_mul]; omega
          · rw [if_neg h3]
            refine ⟨?_, ?_⟩
            · simp [labelB, boundL]; omega
            · show ((w * a + (x + 1)) * b + 0) * c + 0 = p + 1
              rw [← Int.add_assoc, show (w * a + x + 1) * b + 0 = ((w * a + x) * b + y) + 1 by rw [Int.add_mul]; omega, Int.add_mul]; omega
        · rw [if_neg h2, st2, if_neg h2]
          refine ⟨?_, ?_⟩
          · simp [labelB, boundL]; omega
          · show ((w * a + x) * b + (y + 1)) * c + 0 = p + 1
            rw [← Int.add_assoc, Int.add_mul]; omega
      · rw [if_neg h1, st1, if_neg h1, st1, if_neg h1]
        refine ⟨?_, ?_⟩
        · simp [labelB, boundL]; omega
        · show ((w * a + x) * b + y) * c + (z + 1) = p + 1
          omega
/-! ### texts of words -/
abbrev sg (x : Str) : List Nat := x.cps.toList
theorem sg_app (x y : Str) : sg (x ++ y) = sg x ++ sg y := by
  show (x.cps ++ y.cps).toList = _
  rw [Array.toList_append]
theorem sg_inj {x y : Str} (h : sg x = sg y) : x = y := by
  cases x
  cases y
  exact congrArg Str.mk (Array.toList_inj.mp h)
theorem sg_join (c : Nat) (x y : Str) (r : List Str) : sg (Str.join ⟨#[c]⟩ (x :: y :: r)) = sg x ++ c :: sg (Str.join ⟨#[c]⟩ (y :: r)) := by
  show sg (x ++ ⟨#[c]⟩ ++ Str.join ⟨#[c]⟩ (y :: r)) = _
  rw [sg_app, sg_app, List.append_assoc]
  rfl
theorem cut_one {c : Nat} : ∀ {a b x y : List Nat}, c ∉ a → c ∉ b → a ++ c :: x = b ++ c :: y → a = b ∧ x = y
  | [], [], x, y, _, _, h => ⟨rfl, by simpa using h⟩
  | [], d :: b, x, y, _, hb, h => by
    have h1 : c = d := by simpa using congrArg List.head? h
    exact absurd (by rw [h1]; exact List.mem_cons_self) hb
  | d :: a, [], x, y, ha, _, h => by
    have h1 : d = c := by simpa using congrArg List.head? h
    exact absurd (by rw [h1]; exact List.mem_cons_self) ha
  | d :: a, e :: b, x, y, ha, hb, h => by
    have h1 : d = e ∧ a ++ c :: x = b ++ c :: y := by simpa using h
    have h2 := cut_one (fun z => ha (List.mem_cons_of_mem _ z)) (fun z => hb (List.mem_cons_of_mem _ z)) h1.2
    exact ⟨by rw [h1.1, h2.1], h2.2⟩
theorem joinC_inj (c : Nat) : ∀ (as bs : List Str), as ≠ [] → bs ≠ [] → (∀ p ∈ as, c ∉ sg p) → (∀ p ∈ bs, c ∉ sg p) → Str.join ⟨#[c]⟩ as = Str.join ⟨#[c]⟩ bs → as = bs
  | [], _, h, _, _, _, _ => absurd rfl h
  | _, [], _, h, _, _, _ => absurd rfl h
  | [a], [b], _, _, _, _, h => by
    have h' : a = b := h
    rw [h']
  | [a], b :: d :: r, _, _, ha, _, h => by
    have e := congrArg sg h
    rw [sg_join] at e
    have e' : sg a = sg b ++ c :: sg (Str.join ⟨#[c]⟩ (d :: r)) := e
    exact absurd (by rw [e']; simp) (ha a List.mem_cons_self)
  | a :: d :: r, [b], _, _, _, hb, h => by
    have e := congrArg sg h
    rw [sg_join] at e
    have e' : sg a ++ c :: sg (Str.join ⟨#[c]⟩ (d :: r)) = sg b := e
    exact absurd (by rw [← e']; simp) (hb b List.mem_cons_self)
  | a :: a2 :: r, b :: b2 :: s, _, _, ha, hb, h => by
    have e := congrArg sg h
    rw [sg_join, sg_join] at e
    obtain ⟨e1, e2⟩ := cut_one (ha a List.mem_cons_self) (hb b List.mem_cons_self) e
    rw [sg_inj e1, joinC_inj c (a2 :: r) (b2 :: s) (List.cons_ne_nil _ _) (List.cons_ne_nil _ _) (fun p hp => ha p (List.mem_cons_of_mem _ hp)) (fun p hp => hb p (List.mem_cons_of_mem _ hp)) (sg_inj e2)]
theorem join_glued (sep : Str) (ws : List Str) : Txt.join sep ws = Str.join sep ws := StrLaws.glued_eq_join sep ws
theorem split_ne (x y : Str) : Txt.split x y ≠ [] := fun h => by
  have := PyProof.Rows.split_pos x y
  rw [h] at this
  exact absurd this (by decide)
theorem split_join (c : Nat) (ws : List Str) (h0 : ws ≠ []) (hw : ∀ p ∈ ws, c ∉ sg p) : Txt.split (Txt.join ⟨#[c]⟩ ws) ⟨#[c]⟩ = ws := by
  refine joinC_inj c _ _ (split_ne _ _) h0 (StrLaws.split_free _ c) hw ?_
  rw [StrLaws.join_split, join_glued]
/-! ### words of figures -/
def figB (w : Str) : Bool := !(sg w).isEmpty && (sg w).all fun c => decide (48 ≤ c) && decide (c ≤ 57)
theorem dig_cls : ∀ c : Nat, c < 128 → Unicode.isDigit c = (decide (48 ≤ c) && decide (c ≤ 57)) := by
  have k : ∀ n : _root_.Fin 128, Unicode.isDigit n.val = (decide (48 ≤ n.val) && decide (n.val ≤ 57)) := by decide +kernel
  exact fun c h => k ⟨c, h⟩
theorem all_toL (x : Str) (p : Nat → Bool) : x.cps.all p = (sg x).all p := by
  rw [← Array.all_toList]
theorem fig_eq (w : Str) : (Txt.isascii w && Txt.isdigit w) = figB w := by
  unfold Txt.isascii Txt.isdigit figB
  rw [all_toL, all_toL]
  have h0 : decide (w.length > 0) = !(sg w).isEmpty := by
    show decide (w.cps.size > 0) = !w.cps.toList.isEmpty
    rw [← Array.length_toList]
    cases w.cps.toList <;> simp
  rw [h0]
  have h1 : ((sg w).all (fun x => decide (x < 128)) && (sg w).all Unicode.isDigit) = (sg w).all fun c => decide (48 ≤ c) && decide (c ≤ 57) := by
    generalize sg w = l
    induction l with
    | nil => rfl
    | cons c l ih =>
      rw [List.all_cons, List.all_cons, List.all_cons, ← ih]
      by_cases h : c < 128
      · rw [decide_eq_true h, dig_cls c h]
        cases (decide (48 ≤ c) && decide (c ≤ 57)) <;> cases (l.all fun x => decide (x < 128)) <;> simp
      · rw [decide_eq_false h, decide_eq_false (show ¬ c ≤ 57 by omega)]
        simp
  rw [← h1]
  cases (sg w).isEmpty <;> simp
theorem figB_iff {w : Str} : figB w = true ↔ sg w ≠ [] ∧ NumText.AllDigits (sg w) := by
  unfold figB NumText.AllDigits
  generalize sg w = l
  rw [Bool.and_eq_true, List.all_eq_true]
  constructor
  · rintro ⟨h1, h2⟩
    refine ⟨fun z => by rw [z] at h1; exact absurd h1 (by decide), fun c hc => ?_⟩
    have := h2 c hc
    rw [Bool.and_eq_true, decide_eq_true_eq, decide_eq_true_eq] at this
    exact this
  · rintro ⟨h1, h2⟩
    refine ⟨?_, fun c hc => ?_⟩
    · cases l with
      | nil => exact absurd rfl h1
      | cons => rfl
    · rw [Bool.and_eq_true, decide_eq_true_eq, decide_eq_true_eq]
      exact h2 c hc
/-- the number that figures write -/
def worthN (w : Str) : Nat := NumText.digitsVal (sg w)
theorem sg_num (m : Nat) : sg (numS (m : Int)) = (Nat.toDigits 10 m).map Char.toNat := PySem.W.KIN.signs_num m
theorem num_worth (m : Nat) : worthN (numS (m : Int)) = m := by
  unfold worthN
  rw [sg_num]
  exact PySem.W.KIN.val_back m
theorem num_fig (m : Nat) : figB (numS (m : Int)) = true := by
  rw [figB_iff, sg_num]
  refine ⟨fun e => ?_, fun c hc => ?_⟩
  · have h := toDigits_len_ge 10 m
    rw [List.map_eq_nil_iff.mp e] at h
    exact absurd h (by decide)
  · obtain ⟨ch, hch, e⟩ := List.mem_map.mp hc
    have r := digit_range (Nat.isDigit_of_mem_toDigits (by decide) (by decide) hch)
    rw [← e]
    exact r
theorem fig_free {w : Str} (h : figB w = true) {c : Nat} (hc : c < 48 ∨ 57 < c) : c ∉ sg w := fun hm => by
  have := (figB_iff.mp h).2 c hm
  omega
theorem worth_snoc (w : Str) (i : Nat) (c : Nat) (h : (sg w)[i]? = some c) : NumText.digitsVal ((sg w).take (i + 1)) = NumText.digitsVal ((sg w).take i) * 10 + (c - 48) := by
  rw [List.take_add_one, h]
  exact NumText.digitsVal_snoc _ _
theorem fig_int {c : Nat} (h : 48 ≤ c ∧ c ≤ 57) : PySem.intText? ⟨#[c]⟩ = some ((c - 48 : Nat) : Int) := by
  have e := PySem.intText_digits (x := ⟨#[c]⟩) (fun d hd => by rw [List.mem_singleton.mp hd]; exact h) (List.cons_ne_nil _ _) (show 1 ≤ 4300 by decide)
  rw [e]
  show some (((0 * 10 + (c - 48) : Nat)) : Int) = _
  rw [Nat.zero_mul, Nat.zero_add]
/-! ### small numbers with zeros in front -/
def padS (b d : Int) : Str := Txt.zfill (numS d) (((numS (b - 1)).length : Nat) : Int)
def padL (b d : Int) : Str := Txt.mul "0" ((((numS (b - 1)).length : Nat) : Int) - (((numS d).length : Nat) : Int)) ++ numS d
theorem pad_small : ∀ b : _root_.Fin 61, ∀ d : _root_.Fin 61, d.val < b.val → figB (padS b.val d.val) = true ∧ worthN (padS b.val d.val) = d.val ∧ padS b.val d.val = padL b.val d.val ∧ (padS b.val d.val).length ≤ 2 ∧ (numS b.val).length ≤ 2 := by decide +kernel
theorem pad_of {b d : Int} (h0 : 0 ≤ d) (h1 : d ≤ b - 1) (h2 : b ≤ 60) : figB (padS b d) = true ∧ ((worthN (padS b d) : Nat) : Int) = d ∧ padS b d = padL b d ∧ (padS b d).length ≤ 2 ∧ (numS b).length ≤ 2 := by
  obtain ⟨d, rfl⟩ := Int.eq_ofNat_of_zero_le h0
  obtain ⟨b, rfl⟩ := Int.eq_ofNat_of_zero_le (show 0 ≤ b by omega)
  obtain ⟨q1, q2, q3, q4, q5⟩ := pad_small ⟨b, by omega⟩ ⟨d, by omega⟩ (show d < b by omega)
  exact ⟨q1, congrArg Int.ofNat q2, q3, q4, q5⟩
/-! ### texts of labels -/
theorem str_assoc (x y z : Str) : x ++ y ++ z = x ++ (y ++ z) := sg_inj (by rw [sg_app, sg_app, sg_app, sg_app, List.append_assoc])
theorem join_two (sep x y : Str) : ∀ r : List Str, Str.join sep (x :: y :: r) = Str.join sep ((x ++ sep ++ y) :: r)
  | [] => rfl
  | z :: r => by
    show x ++ sep ++ (y ++ sep ++ Str.join sep (z :: r)) = (x ++ sep ++ y) ++ sep ++ Str.join sep (z :: r)
    simp only [str_assoc]
theorem join_fold (sep : Str) : ∀ (r : List Str) (x : Str), Str.join sep (x :: r) = r.foldl (fun s y => s ++ sep ++ y) x
  | [], x => rfl
  | y :: r, x => by rw [join_two, join_fold sep r, List.foldl_cons]
def wordsP (bs ds : List Int) : List Str := numS (ds.headD 0) :: (bs.zip ds.tail).map fun p => padS p.1 p.2
def labelS (bs ds : List Int) : Str := Txt.join ":" (wordsP bs ds)
def wordedStep (s : Str) (p : Int × Int) : Str := s ++ ":" ++ Txt.mul "0" ((((numS (p.1 - 1)).length : Nat) : Int) - (((numS p.2).length : Nat) : Int)) ++ numS p.2
def wordedL (bs ds : List Int) : Str := (bs.zip ds.tail).foldl wordedStep (numS (ds.headD 0))
theorem col_eq : (":" : Str) = ⟨#[58]⟩ := by decide
theorem zip_bound {bs ds : List Int} (h : labelB bs ds = true) : ∀ p ∈ bs.zip ds.tail, 0 ≤ p.2 ∧ p.2 ≤ p.1 - 1 := by
  intro p hp
  unfold labelB boundL at h
  rw [Bool.and_eq_true, Bool.and_eq_true, List.all_eq_true] at h
  have := h.2.2 _ (List.mem_map.mpr ⟨p, hp, rfl⟩)
  simpa using this
theorem zip_left {bs ds : List Int} {m : Int} (hb : ∀ x ∈ bs, x ≤ m) : ∀ p ∈ bs.zip ds, p.1 ≤ m := fun p hp => hb _ (List.of_mem_zip hp).1
theorem label_head {bs ds : List Int} (h : labelB bs ds = true) : 0 ≤ ds.headD 0 := by
  unfold labelB at h
  rw [Bool.and_eq_true, Bool.and_eq_true] at h
  exact of_decide_eq_true h.2.1
theorem worded_eq {bs ds : List Int} (h : labelB bs ds = true) (hb : ∀ x ∈ bs, x ≤ 60) : wordedL bs ds = labelS bs ds := by
  unfold wordedL labelS wordsP
  rw [join_glued, join_fold, List.foldl_map]
  have h1 := zip_bound h
  have h2 := zip_left (ds := ds.tail) hb
  generalize bs.zip ds.tail = l at h1 h2
  generalize numS (ds.headD 0) = s
  induction l generalizing s with
  | nil => rfl
  | cons p l ih =>
    rw [List.foldl_cons, List.foldl_cons, ih (fun q hq => h1 q (List.mem_cons_of_mem _ hq)) fun q hq => h2 q (List.mem_cons_of_mem _ hq)]
    obtain ⟨a, b⟩ := h1 p List.mem_cons_self
    rw [(pad_of a b (h2 p List.mem_cons_self)).2.2.1]
    unfold wordedStep padL
    simp only [str_assoc]
theorem words_fig {bs ds : List Int} (h : labelB bs ds = true) (hb : ∀ x ∈ bs, x ≤ 60) : ∀ w ∈ wordsP bs ds, figB w = true := by
  intro w hw
  rcases List.mem_cons.mp hw with rfl | hw
  · obtain ⟨m, e⟩ := Int.eq_ofNat_of_zero_le (label_head h)
    rw [e]
    exact num_fig m
  · obtain ⟨p, hp, rfl⟩ := List.mem_map.mp hw
    obtain ⟨a, b⟩ := zip_bound h p hp
    exact (pad_of a b (zip_left hb p hp)).1
theorem words_worth {bs ds : List Int} (h : labelB bs ds = true) (hb : ∀ x ∈ bs, x ≤ 60) : (wordsP bs ds).map (fun w => ((worthN w : Nat) : Int)) = ds := by
  have hl := labelB_len h
  have h1 := zip_bound h
  have h2 := zip_left (ds := ds.tail) hb
  have h0 := label_head h
  cases ds with
  | nil => simp at hl
  | cons d ds =>
    have hl' : ds.length = bs.length := by simpa using hl
    unfold wordsP
    rw [List.map_cons, List.map_map]
    obtain ⟨m, e⟩ := Int.eq_ofNat_of_zero_le (show 0 ≤ d from h0)
    have e0 : ((worthN (numS ((d :: ds).headD 0)) : Nat) : Int) = d := by
      show ((worthN (numS d) : Nat) : Int) = d
      rw [e, num_worth]
    rw [e0]
    refine congrArg (d :: ·) ?_
    show (bs.zip ds).map _ = ds
    have e1 : (bs.zip ds).map (fun p => ((worthN (padS p.1 p.2) : Nat) : Int)) = (bs.zip ds).map Prod.snd := List.map_congr_left fun p hp => by
      obtain ⟨a, b⟩ := h1 p hp
      exact (pad_of a b (h2 p hp)).2.1
    exact e1.trans (List.map_snd_zip (by omega))
/-- the label that is read off a text -/
def readL (bs : List Int) (x : Str) : Option (List Int) :=
  if ((Txt.split x ":").map figB).all id = true then
    if labelB bs ((Txt.split x ":").map fun w => ((worthN w : Nat) : Int)) = true ∧ labelS bs ((Txt.split x ":").map fun w => ((worthN w : Nat) : Int)) = x then some ((Txt.split x ":").map fun w => ((worthN w : Nat) : Int)) else none
  else none
theorem label_split {bs ds : List Int} (h : labelB bs ds = true) (hb : ∀ x ∈ bs, x ≤ 60) : Txt.split (labelS bs ds) ":" = wordsP bs ds := by
  unfold labelS
  rw [col_eq]
  exact split_join 58 _ (List.cons_ne_nil _ _) fun p hp => fig_free (words_fig h hb p hp) (.inr (by decide))
theorem read_label {bs ds : List Int} (h : labelB bs ds = true) (hb : ∀ x ∈ bs, x ≤ 60) : readL bs (labelS bs ds) = some ds := by
  unfold readL
  rw [label_split h hb, words_worth h hb, if_pos, if_pos ⟨h, rfl⟩]
  rw [List.all_map, List.all_eq_true]
  exact fun w hw => words_fig h hb w hw
theorem num_len {m : Int} (h0 : 0 ≤ m) (h1 : m < 10 ^ 60) : (numS m).length ≤ 60 := by
  obtain ⟨n, rfl⟩ := Int.eq_ofNat_of_zero_le h0
  have hn : n < 10 ^ 60 := by
    have : ((10 : Int) ^ 60) = ((10 ^ 60 : Nat) : Int) := by decide
    omega
  have e : (numS (n : Int)).length = (Nat.toDigits 10 n).length := by
    show (numS (n : Int)).cps.size = _
    rw [← Array.length_toList]
    show (sg (numS (n : Int))).length = _
    rw [sg_num, List.length_map]
  rw [e]
  exact Nat.le_trans (Nat.le_refl _) (toDigits_len_pow (by decide) (by decide) hn)
end LM

set_option Elab.async false
set_option linter.all false
set_option maxRecDepth 100000
set_option maxHeartbeats 4000000
set_option pp.maxSteps 600
set_option pp.deepTerms false
namespace LM
open PySem PySem.Spec PyProof.Rows L2 RZ
local macro_rules | `(tactic| walk_at "hp") => `(tactic| first | assumption | exact upd_same | (rw [upd_ne (by assumption)]; assumption) | (rw [upd_ne (Ne.symm (by assumption))]; assumption) | (rw [upd_ne (by assumption)]; exact upd_same) | (rw [upd_ne (Ne.symm (by assumption))]; exact upd_same))
local macro_rules | `(tactic| walk_at "sq") => `(tactic| first | assumption | exact Or.inl (Or.inl (by assumption)) | exact Or.inl (Or.inl upd_same) | exact Or.inl (Or.inl (by walk_at "hp")))
local macro_rules | `(tactic| walk_at "ixl") => `(tactic| refine ⟨_, _, _, _, rfl, rfl, (by walk_at "sq"), (by rfl), ?_⟩)
local macro_rules | `(tactic| walk_at "setl") => `(tactic| refine ⟨_, _, _, _, rfl, rfl, (by walk_at "hp"), (by rfl), ?_⟩)
local macro_rules | `(tactic| walk_at "side") => `(tactic| refine idP ?_; first | omega | (show (0 : Int) < _; omega) | (show (0 : Int) < _ ∧ _ < _; omega) | (refine Or.inr ?_; show (-(2 ^ 64) : Int) < _ ∧ _ < _; omega) | (refine Or.inl ?_; show (-(2 ^ 64) : Int) < _ ∧ _ < _; omega) | exact divW (by omega) (by omega) _ | (refine ⟨by decide, by decide, ?_⟩; decide))
local macro_rules | `(tactic| walk_at "go1") => `(tactic| first
  | refine ⟨_, rfl, ?_⟩
  | refine ⟨_, _, rfl, rfl, (by walk_at "side"), ?_⟩
  | refine ⟨_, _, rfl, (by walk_at "side"), ?_⟩
  | refine ⟨_, _, rfl, rfl, ?_⟩
  | refine Or.inl ⟨_, rfl, ?_⟩
  | refine ⟨_, _, rfl, Or.inl (by walk_at "sq"), ?_⟩
  | walk_at "ixl"
  | walk_at "setl"
  | refine ⟨_, _, rfl, (by walk_at "sq"), rfl, ?_⟩
  | refine ⟨_, _, rfl, (by walk_at "sq"), ?_⟩
  | refine ⟨_, _, rfl, ?_⟩
  | refine ⟨rfl, ?_⟩
  | refine ⟨small (Nat.le_of_ble_eq_true rfl), ?_⟩)
local macro_rules | `(tactic| walk_at "go") => `(tactic| repeat walk_at "go1")

abbrev shas_figures_alone : Stmt := topS 25
theorem schas_figures_alone : FnScope ["word"] ["word"] (defScope shas_figures_alone) := ⟨rfl, rfl, rfl, by decide +kernel, rfl, by decide +kernel, by decide +kernel⟩
abbrev sworth : Stmt := topS 26
theorem scworth : FnScope ["figures", "number", "figure"] ["figures"] (defScope sworth) := ⟨rfl, rfl, rfl, by decide +kernel, rfl, by decide +kernel, by decide +kernel⟩
abbrev sread_number : Stmt := topS 27
theorem scread_number : FnScope ["word"] ["word"] (defScope sread_number) := ⟨rfl, rfl, rfl, by decide +kernel, rfl, by decide +kernel, by decide +kernel⟩
abbrev snumbers_behind : Stmt := topS 56
theorem scnumbers_behind : FnScope ["word", "line", "first", "others", "other"] ["word", "line"] (defScope snumbers_behind) := ⟨rfl, rfl, rfl, by decide +kernel, rfl, by decide +kernel, by decide +kernel⟩
def spHasFig : Sp := fun vs H Q _ => ∃ (w : Str), vs = [.str w] ∧ Q (.bl (figB w)) H
def spWorth : Sp := fun vs H Q _ => ∃ (w : Str), vs = [.str w] ∧ figB w = true ∧ Q (.int ((worthN w : Nat) : Int)) H
/-- the number that a word is read as, None if it is none -/
def readN (w : Str) : Option Int := if figB w = true ∧ ¬ (Txt.startswith w "0" = true ∧ w ≠ "0") then some ((worthN w : Nat) : Int) else none
theorem read_small : ∀ k : _root_.Fin 61, readN (numS (k.val : Int)) = some (k.val : Int) := by decide +kernel
theorem read_num {n : Int} (h0 : 0 ≤ n) (h1 : n ≤ 60) : readN (numS n) = some n := by
  have := read_small ⟨n.toNat, by omega⟩
  have e : ((n.toNat : Nat) : Int) = n := by omega
  simpa [e] using this
def readV : Option Int → V
  | none => .non
  | some n => .int n
def spReadNum : Sp := fun vs H Q _ => ∃ (w : Str), vs = [.str w] ∧ Q (readV (readN w)) H
/-- what stands behind a word in a line -/
def spBehind : Sp := fun vs H Q _ => ∃ (word line w : Str) (ws : List Str), vs = [.str word, .str line] ∧ line.length ≤ 100000 ∧ Txt.split line " " = w :: ws ∧
  (w = word → ∀ (t : Addr) H', Same H H' → H t = none → H' t = some (.tup (ws.map fun x => readV (readN x))) → Q (.ref t) H') ∧ (w ≠ word → ∀ H', Same H H' → Q .non H')
section
variable {P : Program} {w : World} {K : PySem.W.Frag} {mg : Str → Option Value} {base : Heap}
theorem ok_hasfig {f : Addr} {fd : FuncData} (F : Fun K "has_figures_alone" "has_figures_alone" shas_figures_alone f fd) : FnOk P w K mg base CX0 1 f fd ["word"] spHasFig := by
  have sc := schas_figures_alone
  refine F.ok sc (fun vs H Q E h => ?_) (fun cdv A outer s H vs Q E hr h => ?_)
  · obtain ⟨w, rfl, _⟩ := h
    rfl
  · obtain ⟨w, rfl, k⟩ := h
    refine ⟨_, (pss_one (ps_ret (pe_and (pe_m0 PySem.F.slot_str_isascii PySem.F.type_str_isascii mt_isascii (pv 0)) (pe_one (pe_m0 PySem.F.slot_str_isdigit PySem.F.type_str_isdigit mt_isdigit (pv 0)))))), ?_⟩
    refine ⟨_, rfl, ⟨_, rfl⟩, _, rfl, rfl, trivial, _, rfl, ?_⟩
    rw [← fig_eq] at k
    refine ifB (fun h1 => ?_) (fun h1 => ?_)
    · refine ⟨_, rfl, ⟨_, rfl⟩, _, rfl, rfl, trivial, ?_⟩
      rw [h1, Bool.true_and] at k
      exact k
    · rw [h1, Bool.false_and] at k
      exact k
theorem ok_worth {f : Addr} {fd : FuncData} (F : Fun K "worth" "worth" sworth f fd) (N : Names mg) : FnOk P w K mg base CX0 1 f fd ["figures"] spWorth := by
  have sc := scworth
  refine F.ok sc (fun vs H Q E h => ?_) (fun cdv A outer s H vs Q E hr h => ?_)
  · obtain ⟨w, rfl, _⟩ := h
    rfl
  · obtain ⟨z, rfl, hf, k⟩ := h
    refine ⟨_, (pss_cons (ps_set (i := 1) sc.nd rfl (Or.inl rfl) pe_int)
      (pss_cons (ps_for PassesOwn.never rfl (pi_str (pv 0)) (pg_name (i := 2) sc.nd rfl (Or.inl rfl)) (pss_one (ps_set (i := 1) sc.nd rfl (Or.inl rfl) (pe_op op_add (pe_op op_mul pe_int (pv 1)) (pe_callTy (T := "int") call_int_str (by rfl) N.int (by decide +kernel) (pa_cons (pv 2) pa_nil))))))
      (pss_one (ps_ret (pv 1))))), ?_⟩
    obtain ⟨f1, f2⟩ := figB_iff.mp hf
    refine ⟨_, rfl, _, rfl, for_it walk_str (fun i σ H' => ∃ v2 : Option V, σ = [some (.str z), some (.int ((NumText.digitsVal ((sg z).take i) : Nat) : Int)), v2] ∧ H' = H) ⟨_, rfl, rfl⟩ (fun _ _ _ _ _ => trivial) ?_ ?_⟩
    · rintro i x σ H1 H2 hi ⟨v2, rfl, rfl⟩ ⟨rfl, c, hc, rfl⟩
      have hc' : (sg z)[i]? = some c := by rw [← Array.getElem?_toList] at hc; exact hc
      have hcc := f2 c (List.mem_of_getElem? hc')
      refine ⟨_, rfl, _, _, rfl, rfl, .inl ⟨by decide, by decide⟩, _, rfl, _, _, rfl, fig_int hcc, (show 1 ≤ 640 by decide), _, _, rfl, rfl, ?_⟩
      refine ⟨_, (by rw [worth_snoc z i c hc', Int.natCast_add, Int.natCast_mul, Int.mul_comm]; rfl), rfl⟩
    · rintro σ H' ⟨v2, rfl, rfl⟩
      refine ⟨_, rfl, ?_⟩
      have e : (sg z).take z.cps.size = sg z := List.take_of_length_le (by rw [Array.length_toList]; exact Nat.le_refl _)
      rw [e]
      exact k
theorem ok_readnum {f : Addr} {fd : FuncData} (F : Fun K "read_number" "read_number" sread_number f fd) (Dhas_figures_alone : DefK P w K mg base "has_figures_alone" ["word"] 1 spHasFig) (Dworth : DefK P w K mg base "worth" ["figures"] 1 spWorth) : FnOk P w K mg base CX0 2 f fd ["word"] spReadNum := by
  have sc := scread_number
  refine F.ok sc (fun vs H Q E h => ?_) (fun cdv A outer s H vs Q E hr h => ?_)
  · obtain ⟨w, rfl, _⟩ := h
    rfl
  · obtain ⟨z, rfl, k⟩ := h
    refine ⟨_, (pss_cons (ps_if (PW.pt (pw_or (pt_not (pt_val (pe_d Dhas_figures_alone (hr.mono (by decide)) rfl (pa_cons (pv 0) pa_nil)))) (pw_or1 (PW.pt (pw_and (pt_val (pe_m1 PySem.F.slot_str_startswith PySem.F.type_str_startswith mt_startswith (pv 0) pe_str)) (pw_and1 (pt_cmpR op_ne (pv 0) pe_str (nomark _)))))))) (pss_one (ps_ret pe_non)) pss_nil)
      (pss_one (ps_ret (pe_d Dworth (hr.mono (by decide)) rfl (pa_cons (pv 0) pa_nil))))), ?_⟩
    refine ⟨_, rfl, z, rfl, _, rfl, ?_⟩
    cases hf : figB z with
    | false =>
      refine iteT ?_
      have e : readN z = none := by
        unfold readN
        rw [if_neg (fun h => by rw [hf] at h; exact Bool.false_ne_true h.1)]
      rw [e] at k
      exact k
    | true =>
      refine iteF ?_
      refine ⟨_, rfl, ⟨_, rfl⟩, z, _, rfl, rfl, _, rfl, ?_⟩
      have yes : ¬ (Txt.startswith z "0" = true ∧ z ≠ "0") → readV (readN z) = .int ((worthN z : Nat) : Int) := fun h => by
        unfold readN
        rw [if_pos ⟨hf, h⟩]
        rfl
      cases hz : Txt.startswith z "0" with
      | false =>
        rw [yes (fun h => by rw [hz] at h; exact Bool.false_ne_true h.1)] at k
        refine iteF ?_
        exact ⟨_, rfl, z, rfl, hf, k⟩
      | true =>
        refine iteT ?_
        refine ⟨_, rfl, rfl, _, rfl, ?_⟩
        refine ifN (fun hd => ?_) (fun hd => ?_)
        · have e : readN z = none := by
            unfold readN
            rw [if_neg (fun h => h.2 ⟨hz, fun e => hd (congrArg V.str e)⟩)]
          rw [e] at k
          exact k
        · rw [yes (fun h => h.2 (V.str.inj hd))] at k
          exact ⟨_, rfl, z, rfl, hf, k⟩
theorem ok_behind {f : Addr} {fd : FuncData} (F : Fun K "numbers_behind" "numbers_behind" snumbers_behind f fd) (N : Names mg) (Dread_number : DefK P w K mg base "read_number" ["word"] 2 spReadNum) : FnOk P w K mg base CX0 3 f fd ["word", "line"] spBehind := by
  have sc := scnumbers_behind
  refine F.ok sc (fun vs H Q E h => ?_) (fun cdv A outer s H vs Q E hr h => ?_)
  · obtain ⟨a, b, w, ws, rfl, _⟩ := h
    rfl
  · obtain ⟨word, line, w, ws, rfl, hl, hsp, k1, k2⟩ := h
    refine ⟨_, (pss_cons (ps_asg (pe_split (pv 1) pe_str) (pg_star1 rfl (pgs_cons (pg_name (i := 2) sc.nd rfl (Or.inl rfl)) (pgs_star (pg_name (i := 3) sc.nd rfl (Or.inl rfl)) pgs_nil))))
      (pss_cons (ps_if (pt_cmpR op_ne (pv 2) (pv 0) (nomark _)) (pss_one (ps_ret pe_non)) pss_nil)
      (pss_one (ps_ret (pe_callTy (T := "tuple") call_tuple_of (by rfl) N.tuple (by decide +kernel) (pa_cons (pe_lc (own := [("other", 4)]) rfl sc.nd (pi_list (pv 3)) (blkOk_by (own := [("other", 4)]) (N := ["word", "line", "first", "others", "other"]) (sc := defScope (topS 56)) (by decide +kernel)) (fun _ _ _ _ _ => (pg_name (i := 4) sc.nd rfl (Or.inl rfl))) (fun _ _ _ _ _ => pts_nil) (fun _ _ _ _ _ => (pe_d Dread_number (hr.mono (by decide)) rfl (pa_cons (pv 4) pa_nil)))) pa_nil)))))), ?_⟩
    refine ⟨_, rfl, ⟨_, rfl⟩, _, _, rfl, rfl, (by decide), Nat.le_trans (show line.length + 2 ≤ 100002 by omega) (by decide), ?_⟩
    (intro q nq; generalize e_q : upd H q _ = H1; have s1 : Same H H1 := fun b x hb => (congrFun e_q b).symm.trans (same_new nq b x hb); have h1 := (congrFun e_q q).symm.trans upd_same; clear e_q)
    rw [hsp] at h1
    refine ⟨q, _, _, rfl, SqL.lst h1, ?_⟩
    (intro r nr; generalize e_r : upd H1 r _ = H2; have s2 : Same H1 H2 := fun b x hb => (congrFun e_r b).symm.trans (same_new nr b x hb); have h2 := (congrFun e_r r).symm.trans upd_same; clear e_r)
    have s02 := s1.trans s2
    refine ⟨_, _, rfl, _, _, rfl, rfl, ?_⟩
    refine ⟨_, rfl, _, rfl, rfl, _, rfl, ?_⟩
    refine ifN (fun hd => k2 (fun e => hd (congrArg V.str e)) H2 s02) (fun hd => ?_)
    have k1 := k1 (V.str.inj hd)
    clear k2 hd
    refine ⟨_, rfl, r, rfl, ⟨_, SqL.lst h2⟩, ?_⟩
    intro D nD
    have hwl : ws.length ≤ 100001 := by
      have := PyProof.Rows.split_le line " "
      rw [hsp] at this
      have : ws.length + 1 ≤ line.length + 2 := this
      omega
    refine lc_list (K := K) (xs := ws.map V.str) (fun i H' => Same H2 H' ∧ H' D = some (.lst ((ws.take i).map fun x => readV (readN x)))) ⟨same_new nD, upd_same⟩ (fun i H' _ ⟨sm, _⟩ => SqL.lst (sm _ _ h2)) ?_ ?_
    · rintro i y H' hy ⟨sm, eD⟩
      obtain ⟨x, hx, rfl⟩ : ∃ b, ws[i]? = some b ∧ y = V.str b := by
        rw [List.getElem?_map] at hy
        obtain ⟨z, hz, e⟩ := Option.map_eq_some_iff.mp hy
        exact ⟨z, hz, e.symm⟩
      refine ⟨rfl, ?_⟩
      refine ⟨_, rfl, x, rfl, _, eD, smallLt (by rw [List.length_map, List.length_take]; omega), same_mut sm nD, ?_⟩
      rw [upd_same, List.take_add_one, hx, List.map_append]
      rfl
    rintro H3 ⟨s3, eD⟩
    rw [List.take_of_length_le (by rw [List.length_map]; exact Nat.le_refl _)] at eD
    refine ⟨D, _, rfl, .inl ⟨SqL.lst eD, ?_⟩⟩
    (intro t nt; generalize e_t : upd H3 t _ = H4; have s4 : Same H3 H4 := fun b x hb => (congrFun e_t b).symm.trans (same_new nt b x hb); have h4 := (congrFun e_t t).symm.trans upd_same; clear e_t)
    exact k1 t H4 (s02.trans (s3.trans s4)) ((s02.trans s3).free nt) h4
end
end LM

set_option Elab.async false
set_option linter.all false
set_option maxRecDepth 100000
set_option maxHeartbeats 4000000
namespace LM
open PySem PySem.Spec PyProof.Rows L2
/-! ### texts of houses -/
theorem join_free (c : Nat) (sep : Str) (hs : c ∉ sg sep) : ∀ ws : List Str, (∀ w ∈ ws, c ∉ sg w) → c ∉ sg (Str.join sep ws)
  | [], _ => by
    show c ∉ sg Str.empty
    exact fun z => nomatch z
  | [x], h => h x (List.mem_singleton.mpr rfl)
  | x :: y :: r, h => by
    show c ∉ sg (x ++ sep ++ Str.join sep (y :: r))
    rw [sg_app, sg_app]
    intro z
    rcases List.mem_append.mp z with z | z
    · rcases List.mem_append.mp z with z | z
      · exact h x List.mem_cons_self z
      · exact hs z
    · exact join_free c sep hs (y :: r) (fun w hw => h w (List.mem_cons_of_mem _ hw)) z
theorem sp_eq : (" " : Str) = ⟨#[32]⟩ := by decide
theorem nl_eq : ("\n" : Str) = ⟨#[10]⟩ := by decide
theorem num_free {x : Int} (h : 0 ≤ x) {c : Nat} (hc : c < 48 ∨ 57 < c) : c ∉ sg (numS x) := by
  obtain ⟨m, rfl⟩ := Int.eq_ofNat_of_zero_le h
  exact fig_free (num_fig m) hc
theorem spaced_free {ns : List Int} (h : ∀ x ∈ ns, 0 ≤ x) {c : Nat} (hc : c < 48 ∨ 57 < c) (h32 : c ≠ 32) : c ∉ sg (spacedS ns) := by
  unfold spacedS
  rw [join_glued]
  refine join_free c _ ?_ _ fun w hw => ?_
  · rw [sp_eq]
    intro z
    exact h32 (List.mem_singleton.mp z)
  · obtain ⟨x, hx, rfl⟩ := List.mem_map.mp hw
    exact num_free (h x hx) hc
theorem empty_app (x : Str) : Str.empty ++ x = x := sg_inj (by rw [sg_app]; rfl)
/-- a line of a house: a word, and numbers behind it -/
theorem line_join (a : Str) : ∀ {ns : List Int}, ns ≠ [] → Str.empty ++ (a ++ " ") ++ spacedS ns = Txt.join " " (a :: ns.map numS)
  | [], h => absurd rfl h
  | n :: ns, _ => by
    unfold spacedS
    rw [join_glued, join_glued, empty_app]
    rfl
theorem line_split (a : Str) {ns : List Int} (h0 : ns ≠ []) (h : ∀ x ∈ ns, 0 ≤ x) (ha : 32 ∉ sg a) : Txt.split (Str.empty ++ (a ++ " ") ++ spacedS ns) " " = a :: ns.map numS := by
  rw [line_join a h0, sp_eq]
  refine split_join 32 _ (List.cons_ne_nil _ _) fun p hp => ?_
  rcases List.mem_cons.mp hp with rfl | hp
  · exact ha
  · obtain ⟨x, hx, rfl⟩ := List.mem_map.mp hp
    exact num_free (h x hx) (.inl (by decide))
theorem house_word : ("house " : Str) = "house" ++ " " := by decide
theorem skip_word : ("skip " : Str) = "skip" ++ " " := by decide
def headS (bs : List Int) : Str := Str.empty ++ "house " ++ spacedS bs
theorem head_split {bs : List Int} (h0 : bs ≠ []) (h : ∀ x ∈ bs, 0 ≤ x) : Txt.split (headS bs) " " = ("house" : Str) :: bs.map numS := by
  unfold headS
  rw [house_word]
  exact line_split ("house" : Str) h0 h (by decide)
theorem row_split {x : R3} (h : 0 ≤ x.1 ∧ 0 ≤ x.2.1 ∧ 0 ≤ x.2.2) : Txt.split (rowS x) " " = ("skip" : Str) :: [x.1, x.2.1, x.2.2].map numS := by
  unfold rowS
  rw [skip_word]
  refine line_split ("skip" : Str) (List.cons_ne_nil _ _) (fun y hy => ?_) (by decide)
  simp at hy
  rcases hy with rfl | rfl | rfl
  · exact h.1
  · exact h.2.1
  · exact h.2.2
theorem house_split {bs : List Int} {rows : List R3} (h : ∀ x ∈ bs, 0 ≤ x) (hr : ∀ x ∈ rows, 0 ≤ x.1 ∧ 0 ≤ x.2.1 ∧ 0 ≤ x.2.2) : Txt.split (houseS bs rows) "\n" = headS bs :: rows.map rowS := by
  have e : houseS bs rows = Txt.join "\n" (headS bs :: rows.map rowS) := rfl
  have fr : ∀ (a : Str) (ns : List Int), 10 ∉ sg a → (∀ x ∈ ns, 0 ≤ x) → 10 ∉ sg (Str.empty ++ a ++ spacedS ns) := fun a ns ha hn z => by
    rw [sg_app, sg_app] at z
    rcases List.mem_append.mp z with z | z
    · rcases List.mem_append.mp z with z | z
      · exact nomatch z
      · exact ha z
    · exact spaced_free hn (.inl (by decide)) (by decide) z
  rw [e, nl_eq]
  refine split_join 10 _ (List.cons_ne_nil _ _) fun p hp => ?_
  rcases List.mem_cons.mp hp with rfl | hp
  · exact fr _ _ (by decide) h
  · obtain ⟨x, hx, rfl⟩ := List.mem_map.mp hp
    refine fr _ _ (by decide) fun y hy => ?_
    simp at hy
    have := hr x hx
    rcases hy with rfl | rfl | rfl
    · exact this.1
    · exact this.2.1
    · exact this.2.2
/-- the text of a house, as the law writes it -/
def statedStep (s : Str) (x : R3) : Str := s ++ "\nskip " ++ spacedS [x.1, x.2.1, x.2.2]
def statedL (bs : List Int) (rows : List R3) : Str := rows.foldl statedStep ("house " ++ spacedS bs)
theorem stated_eq (bs : List Int) (rows : List R3) : statedL bs rows = houseS bs rows := by
  have e : houseS bs rows = Txt.join "\n" (headS bs :: rows.map rowS) := rfl
  have e2 : headS bs = "house " ++ spacedS bs := by
    unfold headS
    rw [empty_app]
  have e3 : ("\nskip " : Str) = "\n" ++ "skip " := by decide
  unfold statedL
  rw [e, join_glued, join_fold, List.foldl_map, e2]
  clear e e2
  generalize ("house " : Str) ++ spacedS bs = s
  induction rows generalizing s with
  | nil => rfl
  | cons x rows ih =>
    rw [List.foldl_cons, List.foldl_cons]
    have e4 : statedStep s x = s ++ "\n" ++ rowS x := by
      unfold statedStep rowS
      rw [empty_app, e3]
      exact sg_inj (by simp only [sg_app, List.append_assoc])
    rw [e4]
    exact ih _
theorem house_len {bs : List Int} {rows : List R3} (h3 : bs.length ≤ 3) (hb : ∀ x ∈ bs, 0 ≤ x ∧ x ≤ 60) (h6 : rows.length ≤ 6) (hr : ∀ x ∈ rows, (0 ≤ x.1 ∧ x.1 ≤ 60) ∧ (0 ≤ x.2.1 ∧ x.2.1 ≤ 60) ∧ 0 ≤ x.2.2 ∧ x.2.2 ≤ 60) : (houseS bs rows).length ≤ 3000 ∧ (headS bs).length ≤ 300 ∧ ∀ x ∈ rows, (rowS x).length ≤ 300 := by
  have l0 : (Str.empty ++ "house " : Str).length = 6 := by decide
  have l1 : (Str.empty ++ "skip " : Str).length = 5 := by decide
  have hh : (headS bs).length ≤ 300 := by
    have := spaced_len h3 hb
    unfold headS
    rw [Str.length_append, l0]
    omega
  have hw : ∀ x ∈ rows, (rowS x).length ≤ 300 := fun x hx => by
    have h := hr x hx
    have := spaced_len (ns := [x.1, x.2.1, x.2.2]) (Nat.le_refl 3) (fun z hz => by
      simp at hz
      rcases hz with rfl | rfl | rfl
      · exact h.1
      · exact h.2.1
      · exact h.2.2)
    unfold rowS
    rw [Str.length_append, l1]
    omega
  refine ⟨?_, hh, hw⟩
  have e : houseS bs rows = Txt.join "\n" (headS bs :: rows.map rowS) := rfl
  rw [e]
  refine Nat.le_trans (join_len _ _ 300 fun y hy => ?_) ?_
  · rcases List.mem_cons.mp hy with rfl | hy
    · exact hh
    · obtain ⟨x, hx, rfl⟩ := List.mem_map.mp hy
      exact hw x hx
  · have e : (("\n" : Str)).length = 1 := by decide
    rw [List.length_cons, List.length_map, e]
    refine Nat.le_trans (Nat.mul_le_mul_right _ (show rows.length + 1 ≤ 7 by omega)) (by decide)
end LM

set_option Elab.async false
set_option linter.all false
set_option maxRecDepth 100000
set_option maxHeartbeats 4000000
set_option pp.maxSteps 600
set_option pp.deepTerms false
namespace LM
open PySem PySem.Spec PyProof.Rows L2 RZ
local macro_rules | `(tactic| walk_at "hp") => `(tactic| first | assumption | exact upd_same | (rw [upd_ne (by assumption)]; assumption) | (rw [upd_ne (Ne.symm (by assumption))]; assumption) | (rw [upd_ne (by assumption)]; exact upd_same) | (rw [upd_ne (Ne.symm (by assumption))]; exact upd_same))
local macro_rules | `(tactic| walk_at "sq") => `(tactic| first | assumption | exact Or.inl (Or.inl (by assumption)) | exact Or.inl (Or.inl upd_same) | exact Or.inl (Or.inl (by walk_at "hp")))
local macro_rules | `(tactic| walk_at "ixl") => `(tactic| refine ⟨_, _, _, _, rfl, rfl, (by walk_at "sq"), (by rfl), ?_⟩)
local macro_rules | `(tactic| walk_at "setl") => `(tactic| refine ⟨_, _, _, _, rfl, rfl, (by walk_at "hp"), (by rfl), ?_⟩)
local macro_rules | `(tactic| walk_at "side") => `(tactic| refine idP ?_; first | omega | (show (0 : Int) < _; omega) | (show (0 : Int) < _ ∧ _ < _; omega) | (refine Or.inr ?_; show (-(2 ^ 64) : Int) < _ ∧ _ < _; omega) | (refine Or.inl ?_; show (-(2 ^ 64) : Int) < _ ∧ _ < _; omega) | exact divW (by omega) (by omega) _ | (refine ⟨by decide, by decide, ?_⟩; decide))
local macro_rules | `(tactic| walk_at "go1") => `(tactic| first
  | refine ⟨_, rfl, ?_⟩
  | refine ⟨_, _, rfl, rfl, (by walk_at "side"), ?_⟩
  | refine ⟨_, _, rfl, (by walk_at "side"), ?_⟩
  | refine ⟨_, _, rfl, rfl, ?_⟩
  | refine Or.inl ⟨_, rfl, ?_⟩
  | refine ⟨_, _, rfl, Or.inl (by walk_at "sq"), ?_⟩
  | walk_at "ixl"
  | walk_at "setl"
  | refine ⟨_, _, rfl, (by walk_at "sq"), rfl, ?_⟩
  | refine ⟨_, _, rfl, (by walk_at "sq"), ?_⟩
  | refine ⟨_, _, rfl, ?_⟩
  | refine ⟨rfl, ?_⟩
  | refine ⟨small (Nat.le_of_ble_eq_true rfl), ?_⟩)
local macro_rules | `(tactic| walk_at "go") => `(tactic| repeat walk_at "go1")

abbrev sHouse_read : Stmt := inClass (topS 57) 1
theorem scHouse_read : FnScope ["cls", "text", "first", "others", "bases", "rows", "line"] ["cls", "text"] (defScope sHouse_read) := ⟨rfl, rfl, rfl, by decide +kernel, rfl, by decide +kernel, by decide +kernel⟩
abbrev sHouse__eq_ : Stmt := inClass (topS 57) 16
theorem scHouse__eq_ : FnScope ["self", "other"] ["self", "other"] (defScope sHouse__eq_) := ⟨rfl, rfl, rfl, by decide +kernel, rfl, by decide +kernel, by decide +kernel⟩
abbrev sHouse__str_ : Stmt := inClass (topS 57) 17
theorem scHouse__str_ : FnScope ["self"] ["self"] (defScope sHouse__str_) := ⟨rfl, rfl, rfl, by decide +kernel, rfl, by decide +kernel, by decide +kernel⟩
abbrev sHouse__repr_ : Stmt := inClass (topS 57) 18
theorem scHouse__repr_ : FnScope ["self"] ["self"] (defScope sHouse__repr_) := ⟨rfl, rfl, rfl, by decide +kernel, rfl, by decide +kernel, by decide +kernel⟩
theorem Other.tup {K : PySem.W.Frag} {C : Addr} {H : Hp} (o : Other K C) {a : Addr} {xs : List V} (h : SqT K H a xs) : Alien K C H (.ref a) := ⟨_, tyT h, o.tup1, o.tup2⟩
theorem hf_text (b r sk ah rd : Addr) (t : Str) : (hf b r sk ah rd t).lookup ("_text" : Str) = some (.str t) := by
  unfold hf
  rw [lookup_putF, if_neg (by decide +kernel), lookup_putF, if_neg (by decide +kernel), lookup_putF, if_neg (by decide +kernel), lookup_putF, if_pos rfl]
theorem hf_rows (b r sk ah rd : Addr) (t : Str) : (hf b r sk ah rd t).lookup ("_rows" : Str) = some (.ref r) := by
  unfold hf
  rw [lookup_putF, if_neg (by decide +kernel), lookup_putF, if_neg (by decide +kernel), lookup_putF, if_neg (by decide +kernel), lookup_putF, if_neg (by decide +kernel), lookup_putF, if_pos rfl]
/-- an instance of the class with this text -/
def TextAt (C : Addr) (H : Hp) (p : Addr) (z : Str) : Prop := ∃ dx fs, H p = some (.ins C dx fs) ∧ fs.lookup ("_text" : Str) = some (.str z)
theorem HouseAt.text {K : PySem.W.Frag} {C : Addr} {old : Addr → Prop} {H : Hp} {p b r : Addr} {bs : List Int} {rows : List R3} {cs : List Int} (h : HouseAt K C old H p b r bs rows cs) : TextAt C H p (houseS bs rows) := by
  obtain ⟨⟨dx, sk, ah, rd, e1, _⟩, _⟩ := h
  exact ⟨dx, _, e1, hf_text _ _ _ _ _ _⟩
theorem TextAt.same {C : Addr} {H H' : Hp} {p : Addr} {z : Str} (h : TextAt C H p z) (s : Same H H') : TextAt C H' p z := by
  obtain ⟨dx, fs, e1, e2⟩ := h
  exact ⟨dx, fs, s _ _ e1, e2⟩
def spEq (K : PySem.W.Frag) (C : Addr) : Sp := fun vs H Q _ => ∃ (p : Addr) (y : V) (z : Str), vs = [.ref p, y] ∧ TextAt C H p z ∧ ((∃ q z', y = .ref q ∧ TextAt C H q z' ∧ Q (.bl (decide (z = z'))) H) ∨ (Alien K C H y ∧ Q (.bl false) H))
def spStr (C : Addr) : Sp := fun vs H Q _ => ∃ (p : Addr) (z : Str), vs = [.ref p] ∧ TextAt C H p z ∧ Q (.str z) H
def reprS (bs : List Int) (rows : List R3) : Str := Str.empty ++ "House(" ++ spacedS bs ++ ", " ++ numS rows.length ++ " rows)"
def spRepr (K : PySem.W.Frag) (C : Addr) : Sp := fun vs H Q _ => ∃ (old : Addr → Prop) (p b r : Addr) (bs : List Int) (rows : List R3) (cs : List Int), vs = [.ref p] ∧ HouseAt K C old H p b r bs rows cs ∧ ∀ H', Same H H' → Q (.str (reprS bs rows)) H'
def spRead (K : PySem.W.Frag) (C : Addr) : Sp := fun vs H Q _ => ∃ (bs : List Int) (rows : List R3), vs = [.ref C, .str (houseS bs rows)] ∧ Fair bs rows ∧
  ∀ (p b r : Addr) (cs : List Int) H', Same H H' → H p = none → HouseAt K C (fun q => H q ≠ none) H' p b r bs rows cs → Q (.ref p) H'
section
variable {P : Program} {w : World} {K : PySem.W.Frag} {mg : Str → Option Value} {base : Heap}
theorem ok_eq {f C : Addr} {fd : FuncData} (F : Fun K "__eq__" "House.__eq__" sHouse__eq_ f fd) (T : HouseTxt K mg C) (N : Names mg) (O : Other K C) (W : OwnT K C) : FnOk P w K mg base CX0 1 f fd ["self", "other"] (spEq K C) := by
  have sc := scHouse__eq_
  refine F.ok sc (fun vs H Q E h => ?_) (fun cdv A outer s H vs Q E hr h => ?_)
  · obtain ⟨p, y, z, rfl, _⟩ := h
    rfl
  · obtain ⟨p, y, z, rfl, ⟨dx, fs, e1, l1⟩, h⟩ := h
    refine ⟨_, (pss_one (ps_ret (pe_and (pe_callB call_isi (by rfl) N.isinstance (by decide +kernel) (pa_cons (pv 1) (pa_cons (pe_glob (v := .ref C) rfl T.mgC rfl) pa_nil))) (pe_one (pe_cmpR op_eq (pe_fld (pv 0) rfl) (pe_fld (pv 1) rfl) (nomark _)))))), ?_⟩
    rcases h with ⟨q, z', rfl, ⟨dx', fs', e2, l2⟩, k⟩ | ⟨⟨t, ty, n1, n2⟩, k⟩
    · refine ⟨_, rfl, _, _, _, _, _, rfl, .own _, W.ty T.cl e2, O.own2, _, rfl, ?_⟩
      refine iteT ?_
      refine ⟨_, rfl, p, C, dx, _, _, rfl, e1, T.cl, T.nT, l1, _, rfl, q, C, dx', _, _, rfl, e2, T.cl, T.nT, l2, rfl, ?_⟩
      have e : decide (V.str z = V.str z') = decide (z = z') := by
        by_cases h : z = z'
        · rw [decide_eq_true h, decide_eq_true (congrArg V.str h)]
        · rw [decide_eq_false h, decide_eq_false (fun q => h (V.str.inj q))]
      rw [e]
      exact k
    · refine ⟨_, rfl, _, _, _, _, _, rfl, .own _, ty, n2, _, rfl, ?_⟩
      exact iteF k
theorem ok_str {f C : Addr} {fd : FuncData} (F : Fun K "__str__" "House.__str__" sHouse__str_ f fd) (T : HouseTxt K mg C) (N : Names mg) : FnOk P w K mg base CX0 1 f fd ["self"] (spStr C) := by
  have sc := scHouse__str_
  refine F.ok sc (fun vs H Q E h => ?_) (fun cdv A outer s H vs Q E hr h => ?_)
  · obtain ⟨p, z, rfl, _⟩ := h
    rfl
  · obtain ⟨p, z, rfl, ⟨dx, fs, e1, l1⟩, k⟩ := h
    refine ⟨_, (pss_one (ps_ret (pe_callTy (T := "str") SkE.call_str_str (by rfl) N.str (by decide +kernel) (pa_cons (pe_fld (pv 0) rfl) pa_nil)))), ?_⟩
    exact ⟨_, rfl, p, C, dx, _, _, rfl, e1, T.cl, T.nT, l1, z, rfl, k⟩
theorem ok_repr {f C : Addr} {fd : FuncData} (F : Fun K "__repr__" "House.__repr__" sHouse__repr_ f fd) (T : HouseTxt K mg C) (N : Names mg) (Dspaced : DefK P w K mg base "spaced" ["parts"] 1 (spSpaced K)) : FnOk P w K mg base CX0 2 f fd ["self"] (spRepr K C) := by
  have sc := scHouse__repr_
  refine F.ok sc (fun vs H Q E h => ?_) (fun cdv A outer s H vs Q E hr h => ?_)
  · obtain ⟨old, p, b, r, bs, rows, cs, rfl, _⟩ := h
    rfl
  · obtain ⟨old, p, b, r, bs, rows, cs, rfl, hA, k⟩ := h
    refine ⟨_, (pss_one (ps_ret (pe_joined (.cons pe_str (.cons (pe_fmt (pe_d Dspaced (hr.mono (by decide)) rfl (pa_cons (pe_fld (pv 0) rfl) pa_nil))) (.cons pe_str (.cons (pe_fmt (pe_callB call_len_seq (by rfl) N.len (by decide +kernel) (pa_cons (pe_fld (pv 0) rfl) pa_nil))) (.cons pe_str .nil)))))))), ?_⟩
    obtain ⟨⟨dx, sk, ah, rd, e1, e2, e3, e4, _, _⟩, hb, hrt, fr, _⟩ := hA
    obtain ⟨as, hrt, pr⟩ := hrt
    have hpl := pr.length
    have hb' : ∀ x ∈ bs, 0 ≤ x ∧ x ≤ 60 := fun x hx => ⟨by have := (fr.bb x hx).1; omega, (fr.bb x hx).2⟩
    have hls := spaced_len fr.b3 hb'
    have l0 : (Str.empty ++ ("House(" : Str)).length = 6 := by decide
    have l1 : (", " : Str).length = 2 := by decide
    have l2 : (" rows)" : Str).length = 6 := by decide
    have r6 := fr.r6
    have ln := numS_len (n := ((rows.length : Nat) : Int)) (by omega) (by omega)
    refine ⟨_, rfl, small (by rw [l0]; omega), _, rfl, p, C, dx, _, _, rfl, e1, T.cl, T.nB, hf_bases _ _ _ _ _ _, b, bs, rfl, hb, fr.b3, hb', fun H1 s1 => ?_⟩
    refine .inl ⟨_, rfl, small (by omega), _, rfl, small (by rw [Str.length_append, l0]; omega), ?_⟩
    have e1' := s1 _ _ e1
    have ln' : (toString (((as.map V.ref).length : Nat) : Int) : Str).length ≤ 62 := by
      rw [List.length_map, hpl]
      exact ln
    have hlog : ((((as.map V.ref).length : Nat) : Int)).natAbs.log2 < 1920 := by
      rw [List.length_map, hpl, Int.natAbs_natCast]
      rcases Nat.eq_zero_or_pos rows.length with z | z
      · rw [z]; decide
      · exact Nat.lt_trans ((Nat.log2_lt (by omega)).mpr (show rows.length < 2 ^ 6 by omega)) (by decide)
    refine ⟨_, rfl, small (by rw [Str.length_append, Str.length_append, l0, l1]; omega), _, rfl, p, C, dx, _, _, rfl, e1', T.cl, T.nR, hf_rows _ _ _ _ _ _, r, _, rfl, .inr (Same.seqT s1 hrt), ?_⟩
    refine .inr ⟨_, rfl, hlog, _, rfl, small (by rw [Str.length_append, Str.length_append, Str.length_append, l0, l1]; omega), ?_⟩
    refine ⟨_, rfl, small (by rw [Str.length_append, Str.length_append, Str.length_append, Str.length_append, l0, l1, l2]; omega), ?_⟩
    have := k H1 s1
    unfold reprS at this
    rw [List.length_map, hpl]
    exact this
theorem ok_read {f C fI : Addr} {fd fdI : FuncData} (F : Fun K "read" "House.read" sHouse_read f fd) (T : HouseTxt K mg C) (N : Names mg) (MK : Mk K C fI) (GI : FnOk P w K mg base CX0 5 fI fdI ["self", "bases", "rows"] (spInit K C)) (bI : Binds K fdI ["self", "bases", "rows"] [])
    (Dnumbers_behind : DefK P w K mg base "numbers_behind" ["word", "line"] 3 spBehind) : FnOk P w K mg base CX0 7 f fd ["cls", "text"] (spRead K C) := by
  have sc := scHouse_read
  refine F.ok sc (fun vs H Q E h => ?_) (fun cdv A outer s H vs Q E hr h => ?_)
  · obtain ⟨bs, rows, rfl, _⟩ := h
    rfl
  · obtain ⟨bs, rows, rfl, fr, k⟩ := h
    refine ⟨_, (pss_cons (ps_if (pt_not (pt_val (pe_callB call_isi (by rfl) N.isinstance (by decide +kernel) (pa_cons (pv 1) (pa_cons (pe_ty "str" rfl N.str (by decide +kernel)) pa_nil))))) (pss_one ps_never) pss_nil)
      (pss_cons (ps_asg (pe_split (pv 1) pe_str) (pg_star1 rfl (pgs_cons (pg_name (i := 2) sc.nd rfl (Or.inl rfl)) (pgs_star (pg_name (i := 3) sc.nd rfl (Or.inl rfl)) pgs_nil))))
      (pss_cons (ps_set (i := 4) sc.nd rfl (Or.inl rfl) (pe_d Dnumbers_behind (hr.mono (by decide)) rfl (pa_cons pe_str (pa_cons (pv 2) pa_nil))))
      (pss_cons (ps_set (i := 5) sc.nd rfl (Or.inl rfl) (pe_callTy (T := "tuple") call_tuple_of (by rfl) N.tuple (by decide +kernel) (pa_cons (pe_lc (own := [("line", 6)]) rfl sc.nd (pi_list (pv 3)) (blkOk_by (own := [("line", 6)]) (N := ["cls", "text", "first", "others", "bases", "rows", "line"]) (sc := defScope (inClass (topS 57) 1)) (by decide +kernel)) (fun _ _ _ _ _ => (pg_name (i := 6) sc.nd rfl (Or.inl rfl))) (fun _ _ _ _ _ => pts_nil) (fun _ _ _ _ _ => (pe_d Dnumbers_behind (hr.mono (by decide)) rfl (pa_cons pe_str (pa_cons (pv 6) pa_nil))))) pa_nil)))
      (pss_one (ps_try_thru0 (pss_one (ps_ret (pe_makeV (i := 0) MK GI hr rfl (Or.inl rfl) bI .nil pass0 (pa_cons (pv 4) (pa_cons (pv 5) pa_nil))))))))))), ?_⟩
    have hb0 : ∀ x ∈ bs, 0 ≤ x := fun x hx => by have := (fr.bb x hx).1; omega
    have hb' : ∀ x ∈ bs, 0 ≤ x ∧ x ≤ 60 := fun x hx => ⟨hb0 x hx, (fr.bb x hx).2⟩
    have hro : ∀ x ∈ rows, (0 ≤ x.1 ∧ x.1 ≤ 60) ∧ (0 ≤ x.2.1 ∧ x.2.1 ≤ 60) ∧ 0 ≤ x.2.2 ∧ x.2.2 ≤ 60 := fun x hx => by
      have o := fr.ro x hx
      have h1 := o.1; have h2 := o.2.1; have h3 := o.2.2.1; have h4 := o.2.2.2.1; have h5 := o.2.2.2.2.1; have h6 := o.2.2.2.2.2
      have hl := (fr.bb _ (lastD_mem fr.b0)).2
      have h3 := fr.b3
      exact ⟨⟨h1, by omega⟩, ⟨by omega, h4⟩, h5, by omega⟩
    obtain ⟨t1, t2, t3⟩ := house_len fr.b3 hb' fr.r6 hro
    refine ⟨_, rfl, _, _, _, _, _, rfl, .ty _, .base (.str _), kit_ty (r := true) (by decide +kernel), _, rfl, ?_⟩
    refine iteF ?_
    refine ⟨_, rfl, ⟨_, rfl⟩, _, _, rfl, rfl, (by decide), Nat.le_trans (show (houseS bs rows).length + 2 ≤ 3002 by omega) (by decide), ?_⟩
    (intro q nq; generalize e_q : upd H q _ = H1; have s1 : Same H H1 := fun b x hb => (congrFun e_q b).symm.trans (same_new nq b x hb); have h1 := (congrFun e_q q).symm.trans upd_same; clear e_q)
    rw [house_split hb0 fun x hx => ⟨(hro x hx).1.1, (hro x hx).2.1.1, (hro x hx).2.2.1⟩] at h1
    refine ⟨q, _, _, rfl, SqL.lst h1, ?_⟩
    (intro o no; generalize e_o : upd H1 o _ = H2; have s2 : Same H1 H2 := fun b x hb => (congrFun e_o b).symm.trans (same_new no b x hb); have h2 := (congrFun e_o o).symm.trans upd_same; clear e_o)
    have s02 := s1.trans s2
    refine ⟨_, _, rfl, _, _, rfl, rfl, ?_⟩
    have hb0' : bs ≠ [] := fun z => by have := fr.b0; rw [z] at this; exact absurd this (by decide)
    refine ⟨_, rfl, _, _, _, _, rfl, by omega, head_split hb0' hb0, fun _ b H3 s3 nb eb => ?_, fun h => absurd rfl h⟩
    have eb' : H3 b = some (.tup (bs.map V.int)) := by
      rw [eb, List.map_map]
      refine congrArg (fun l => some (HO.tup l)) (List.map_congr_left fun x hx => ?_)
      show readV (readN (numS x)) = V.int x
      rw [read_num (hb' x hx).1 (hb' x hx).2]
      rfl
    have s03 := s02.trans s3
    have h3 := s3 _ _ h2
    refine ⟨_, rfl, o, rfl, ⟨_, SqL.lst h3⟩, ?_⟩
    intro D nD
    refine lc_list (K := K) (xs := (rows.map rowS).map V.str) (fun i H' => ∃ ts : List Addr, Same H3 H' ∧ H' D = some (.lst (ts.map V.ref)) ∧ Paired (fun a (x : R3) => H' a = some (.tup [.int x.1, .int x.2.1, .int x.2.2])) ts (rows.take i)) ⟨[], same_new nD, upd_same, .nil⟩ (fun i H' _ ⟨_, s, _⟩ => SqL.lst (s _ _ h3)) ?_ ?_
    · rintro i x H' hx ⟨ts, sm, eD, pt⟩
      obtain ⟨y, hy, rfl⟩ : ∃ b, rows[i]? = some b ∧ x = V.str (rowS b) := by
        rw [List.map_map, List.getElem?_map] at hx
        obtain ⟨z, hz, e⟩ := Option.map_eq_some_iff.mp hx
        exact ⟨z, hz, e.symm⟩
      have hym := List.mem_of_getElem? hy
      have hry := hro y hym
      refine ⟨rfl, ?_⟩
      refine ⟨_, rfl, _, _, _, _, rfl, by have := t3 y hym; omega, row_split ⟨hry.1.1, hry.2.1.1, hry.2.2.1⟩, fun _ t H4 s4 nt et => ?_, fun h => absurd rfl h⟩
      have et' : H4 t = some (.tup [.int y.1, .int y.2.1, .int y.2.2]) := by
        rw [et]
        refine congrArg (fun l => some (HO.tup l)) ?_
        show [readV (readN (numS y.1)), readV (readN (numS y.2.1)), readV (readN (numS y.2.2))] = _
        rw [read_num hry.1.1 hry.1.2, read_num hry.2.1.1 hry.2.1.2, read_num hry.2.2.1 hry.2.2.2]
        rfl
      have eD4 := s4 _ _ eD
      have hpt := pt.length
      refine ⟨_, eD4, smallLt (by have := fr.r6; rw [List.length_map, hpt, List.length_take]; omega), ts ++ [t], same_mut (sm.trans s4) nD, ?_, ?_⟩
      · rw [upd_same, List.map_append]
        rfl
      · rw [List.take_add_one, hy]
        have ntD : t ≠ D := fun z => by rw [z, eD] at nt; cases nt
        refine paired_app (paired_imp pt fun c hc y hy => ?_) ?_
        · have hy2 := s4 _ _ hy
          rw [upd_ne (fun z => by rw [z, eD4] at hy2; cases hy2)]
          exact hy2
        · rw [upd_ne ntD]
          exact et'
    rintro H4 ⟨ts, s4, eD, pt⟩
    rw [List.take_of_length_le (by rw [List.length_map, List.length_map]; exact Nat.le_refl _)] at pt
    refine ⟨D, _, rfl, .inl ⟨SqL.lst eD, ?_⟩⟩
    (intro r nr; generalize e_r : upd H4 r _ = H5; have s5 : Same H4 H5 := fun b x hb => (congrFun e_r b).symm.trans (same_new nr b x hb); have h5 := (congrFun e_r r).symm.trans upd_same; clear e_r)
    refine ⟨rfl, _, rfl, _, rfl, ?_⟩
    intro p dx np ndx ndp
    generalize e6 : upd (upd H5 dx (.own p)) p _ = H6
    have s6 : Same H5 H6 := fun c o h => (congrFun e6 c).symm.trans (by rw [upd_ne (ne_of_none h np), upd_ne (ne_of_none h ndx)]; exact h)
    have hp6 : H6 p = some (.ins C dx []) := (congrFun e6 p).symm.trans upd_same
    have s35 := s4.trans s5
    have s05 := s03.trans s35
    refine ⟨p, dx, b, r, bs, rows, rfl, hp6, SqT.tup (s6 _ _ (s35 _ _ eb')), ⟨ts, SqT.tup (s6 _ _ h5), paired_imp pt fun a _ x q => SqT.tup (s6 _ _ (s5 _ _ q))⟩, fr, fun cs H7 hh e7 => ⟨rfl, k p b r cs H7 ?_ (s05.free np) (hh.weak fun q hq z => ?_)⟩⟩
    rotate_left
    · cases e : H q with
      | none => exact hq e
      | some o =>
        have := s6 _ _ (s05 _ _ e)
        rw [z] at this
        cases this
    exact fun c o h => e7 _ _ (ne_of_none (s05 _ _ h) np) (s6 _ _ (s05 _ _ h))
end
end LM

set_option Elab.async false
set_option linter.all false
set_option maxRecDepth 100000
set_option maxHeartbeats 4000000
/-! a house that laws name: 2, 3 where one number is skipped; House(..) is made -/
namespace LM
open PySem PySem.Spec PyProof.Rows L2 RZ
def smallB : List Int := [2, 3]
def smallR : List R3 := [(0, 1, 1)]
def smallC : List Int := [1, 0]
theorem small_fair : Fair smallB smallR := ⟨by decide, by decide, by decide, by decide, fun x hx => by rw [List.mem_singleton.mp hx]; unfold RowOk; decide, by decide +kernel⟩
theorem small_counts : countsP smallB smallR (groupsP smallB smallR) = [1, 0] := by decide +kernel
theorem small_cs {cs : List Int} (h : ∃ k, RepIs (countsP smallB smallR (groupsP smallB smallR)) k ∧ cs = (countsP smallB smallR (groupsP smallB smallR)).take k) : cs = smallC := by
  obtain ⟨k, hk, e⟩ := h
  rw [small_counts] at hk e
  obtain ⟨h1, h2, h3, _⟩ := hk
  have h2' : k ≤ 2 := h2
  have : k = 2 := by
    rcases Nat.lt_or_ge k 2 with z | z
    · exfalso
      obtain rfl : k = 1 := by omega
      exact absurd h3.2 (by decide)
    · omega
  rw [e, this]
  rfl
theorem small_sum : (borneP smallB smallC).sum = 5 := by decide +kernel
/-- House(b, r) -/
theorem house_use {K : PySem.W.Frag} {C b r p dx : Addr} {H : Hp} {bs : List Int} {rows : List R3} {Q : VK} {E : XK} {vs : List V} (np : H p = none) (ndx : H dx = none) (hv : vs = [.ref p, .ref b, .ref r]) (hb : SqT K H b (bs.map V.int)) (hr : RowsAt K H r rows) (fr : Fair bs rows)
    (k : ∀ (cs : List Int) H', Same H H' → HouseAt K C (fun q => H q ≠ none) H' p b r bs rows cs → Q .non H') : spInit K C vs (upd (upd H dx (.own p)) p (.ins C dx [])) Q E := by
  subst hv
  generalize e4 : upd (upd H dx (.own p)) p _ = H4
  have s4 : Same H H4 := fun c o h => (congrFun e4 c).symm.trans (by rw [upd_ne (ne_of_none h np), upd_ne (ne_of_none h ndx)]; exact h)
  have hp4 : H4 p = some (.ins C dx []) := (congrFun e4 p).symm.trans upd_same
  refine ⟨p, dx, b, r, bs, rows, rfl, hp4, Same.seqT s4 hb, hr.same s4, fr, fun cs H5 hh e5 => k cs H5 ?_ (hh.weak fun q hq z => ?_)⟩
  · exact fun c o h => e5 _ _ (ne_of_none h np) (s4 _ _ h)
  · cases e : H q with
    | none => exact hq e
    | some o =>
      have := s4 _ _ e
      rw [z] at this
      cases this
end LM

set_option Elab.async false
set_option linter.all false
set_option maxRecDepth 100000
set_option maxHeartbeats 4000000
namespace LM
open PySem PySem.Spec PyProof.Rows L2
/-! ### the law's own house by its counts -/
theorem again_rep {cs : List Int} {k : Nat} : againL cs k = true ↔ repOk cs k := by
  unfold againL repOk
  rw [Bool.and_eq_true, decide_eq_true_iff, decide_eq_true_iff]
  refine ⟨fun ⟨h1, h2⟩ => ⟨?_, h2⟩, fun ⟨h1, h2⟩ => ⟨?_, h2⟩⟩
  · have := Nat.div_add_mod' cs.length k
    omega
  · exact Nat.div_mul_cancel (Nat.dvd_of_mod_eq_zero h1)
section
variable {gs : List Int} {rows : List R3} {cs : List Int} {B : Nat} {c : Nat → Nat} {L : Nat}
theorem Cnt.size (k : Cnt gs rows cs B c L) (fr : Fair gs rows) : sizeL (gapsL gs rows (groupsP gs rows)) = L ∧ L ≤ groupsP gs rows := by
  have hn := GN_per (keeps_groups gs rows)
  have g1 : 1 ≤ groupsP gs rows := Nat.mul_pos (unitP_pos fr.bb 0) (every_mono rows 1 (by decide) fun x hx => (fr.ro x hx).2.2.1)
  have hd := k.least.dvd hn
  have hle := Nat.le_of_dvd g1 hd
  refine ⟨?_, hle⟩
  rw [gaps_GN fr]
  generalize groupsP gs rows = n at *
  unfold sizeL sizesL
  rw [List.length_map, List.length_range]
  have hf : (List.range n).find? (fun j => againL ((List.range n).map (GN gs rows)) (j + 1)) = some (L - 1) := by
    rw [List.find?_range_eq_some]
    have hL := k.hL
    refine ⟨?_, List.mem_range.mpr (by omega), fun j hj => ?_⟩
    · rw [show L - 1 + 1 = L by omega]
      exact again_rep.mpr ((repOk_iff k.hL hle hn).mpr ⟨hd, k.least.2.1⟩)
    · cases h : againL ((List.range n).map (GN gs rows)) (j + 1) with
      | false => rfl
      | true => exact absurd ((repOk_iff (by omega) (by omega) hn).mp (again_rep.mp h)).2 (k.least.2.2 (j + 1) (by omega) (by omega))
  rw [← List.head?_filter] at hf
  cases e : (List.range n).filter fun j => againL ((List.range n).map (GN gs rows)) (j + 1) with
  | nil =>
    rw [e] at hf
    cases hf
  | cons x l =>
    rw [e] at hf
    obtain rfl := Option.some.inj hf
    have hL := k.hL
    show L - 1 + 1 = L
    omega
theorem Cnt.spots (k : Cnt gs rows cs B c L) (fr : Fair gs rows) {n : Nat} (hn : n ≤ L * B) : spotsL (gapsL gs rows (groupsP gs rows)) B n = (List.range n).filter (bor B c) := by
  obtain ⟨_, hle⟩ := k.size fr
  have hB := k.hB
  unfold spotsL
  refine List.filter_congr fun s hs => ?_
  have hs := List.mem_range.mp hs
  have hdiv : s / B < L := Nat.div_lt_of_lt_mul (by rw [Nat.mul_comm]; omega)
  unfold spotOk bor
  rw [gaps_GN fr, List.getD_eq_getElem?_getD, range_get (show s / B < groupsP gs rows by omega)]
  show decide (GN gs rows (s / B) ≤ ((s % B : Nat) : Int)) = _
  rw [k.eqG]
  by_cases h : c (s / B) ≤ s % B
  · rw [decide_eq_true h]
    exact decide_eq_true (by omega)
  · rw [decide_eq_false h]
    exact decide_eq_false (by omega)
theorem Cnt.below (k : Cnt gs rows cs B c L) (fr : Fair gs rows) : belowL (gapsL gs rows (groupsP gs rows)) B (L * B) = (List.range (L * B)).map (bel B c) := by
  unfold belowL
  refine List.map_congr_left fun s hs => ?_
  rw [k.spots fr (Nat.le_of_lt (List.mem_range.mp hs))]
  rfl
theorem Cnt.belN (k : Cnt gs rows cs B c L) : bel B c (L * B) = sumC B c L := by
  have hB := k.hB
  have h := bel_eq (B := B) (c := c) (by omega) (fun g => Nat.le_of_lt (k.lt g)) L 0 (Nat.zero_le _)
  rw [Nat.add_zero, Nat.zero_sub, Nat.add_zero] at h
  exact h
theorem Cnt.pos (k : Cnt gs rows cs B c L) : 1 ≤ sumC B c L := by
  have h := sumC_mono (B := B) (c := c) k.hL
  have h2 : sumC B c 1 = 0 + (B - c 0) := rfl
  have := k.lt 0
  omega
theorem Cnt.top (k : Cnt gs rows cs B c L) : sumC B c L ≤ L * B := by
  rw [← k.belN]
  unfold bel
  exact Nat.le_trans (List.length_filter_le _ _) (by rw [List.length_range]; exact Nat.le_refl _)
/-- places and frames of the house over a round -/
theorem Cnt.bel_split (k : Cnt gs rows cs B c L) (s : Nat) : bel B c s = s / (L * B) * sumC B c L + bel B c (s % (L * B)) ∧ bor B c s = bor B c (s % (L * B)) := by
  have hB := k.hB
  have h1 := bel_mul (B := B) (c := c) (by omega) (fun g => Nat.le_of_lt (k.lt g)) k.per (s / (L * B)) (s % (L * B))
  have h2 := bor_mul (B := B) (c := c) (by omega) k.per (s / (L * B)) (s % (L * B))
  rw [Nat.mod_add_div] at h1 h2
  refine ⟨?_, h2⟩
  rw [h1, Nat.mul_comm (sumC B c L)]
  omega
theorem Cnt.spot (k : Cnt gs rows cs B c L) {s : Nat} (hs : bor B c s = true) : ∃ q, ((List.range (L * B)).filter (bor B c))[bel B c s % sumC B c L]? = some q ∧ bel B c s / sumC B c L * (L * B) + q = s := by
  have hB := k.hB
  have hLB : 0 < L * B := Nat.mul_pos k.hL (by omega)
  obtain ⟨e1, e2⟩ := k.bel_split s
  have hm := Nat.mod_lt s hLB
  have hq := spot_get (e2 ▸ hs) hm
  have hlt : bel B c (s % (L * B)) < sumC B c L := by
    rw [← k.belN]
    exact bel_lt (e2 ▸ hs) hm
  have d1 : bel B c s / sumC B c L = s / (L * B) := by
    rw [e1, Nat.mul_comm, Nat.mul_add_div k.pos, Nat.div_eq_of_lt hlt, Nat.add_zero]
  have d2 : bel B c s % sumC B c L = bel B c (s % (L * B)) := by
    rw [e1, Nat.mul_comm, Nat.mul_add_mod, Nat.mod_eq_of_lt hlt]
  refine ⟨s % (L * B), ?_, ?_⟩
  · rw [d2]
    exact hq
  · rw [d1, Nat.mul_comm]
    exact Nat.div_add_mod s (L * B)
end
end LM

set_option Elab.async false
set_option linter.all false
set_option maxRecDepth 100000
set_option maxHeartbeats 4000000
set_option pp.maxSteps 600
set_option pp.deepTerms false
namespace LM
open PySem PySem.Spec PyProof.Rows L2
local macro_rules | `(tactic| walk_at "hp") => `(tactic| first | assumption | exact upd_same | (rw [upd_ne (by assumption)]; assumption) | (rw [upd_ne (Ne.symm (by assumption))]; assumption) | (rw [upd_ne (by assumption)]; exact upd_same) | (rw [upd_ne (Ne.symm (by assumption))]; exact upd_same))
local macro_rules | `(tactic| walk_at "sq") => `(tactic| first | assumption | exact Or.inl (Or.inl (by assumption)) | exact Or.inl (Or.inl upd_same) | exact Or.inl (Or.inl (by walk_at "hp")))
local macro_rules | `(tactic| walk_at "ixl") => `(tactic| refine ⟨_, _, _, _, rfl, rfl, (by walk_at "sq"), (by rfl), ?_⟩)
local macro_rules | `(tactic| walk_at "setl") => `(tactic| refine ⟨_, _, _, _, rfl, rfl, (by walk_at "hp"), (by rfl), ?_⟩)
local macro_rules | `(tactic| walk_at "side") => `(tactic| refine idP ?_; first | omega | (show (0 : Int) < _; omega) | (show (0 : Int) < _ ∧ _ < _; omega) | (refine Or.inr ?_; show (-(2 ^ 64) : Int) < _ ∧ _ < _; omega) | (refine Or.inl ?_; show (-(2 ^ 64) : Int) < _ ∧ _ < _; omega) | exact divW (by omega) (by omega) _ | (refine ⟨by decide, by decide, ?_⟩; decide))
local macro_rules | `(tactic| walk_at "go1") => `(tactic| first
  | refine ⟨_, rfl, ?_⟩
  | refine ⟨_, _, rfl, rfl, (by walk_at "side"), ?_⟩
  | refine ⟨_, _, rfl, (by walk_at "side"), ?_⟩
  | refine ⟨_, _, rfl, rfl, ?_⟩
  | refine Or.inl ⟨_, rfl, ?_⟩
  | refine ⟨_, _, rfl, Or.inl (by walk_at "sq"), ?_⟩
  | walk_at "ixl"
  | walk_at "setl"
  | refine ⟨_, _, rfl, (by walk_at "sq"), rfl, ?_⟩
  | refine ⟨_, _, rfl, (by walk_at "sq"), ?_⟩
  | refine ⟨_, _, rfl, ?_⟩
  | refine ⟨rfl, ?_⟩
  | refine ⟨small (Nat.le_of_ble_eq_true rfl), ?_⟩)
local macro_rules | `(tactic| walk_at "go") => `(tactic| repeat walk_at "go1")

abbrev sis_way : Stmt := topS 20
theorem scis_way : FnScope ["value"] ["value"] (defScope sis_way) := ⟨rfl, rfl, rfl, by decide +kernel, rfl, by decide +kernel, by decide +kernel⟩
abbrev scheck_way : Stmt := topS 21
theorem sccheck_way : FnScope ["given"] ["given"] (defScope scheck_way) := ⟨rfl, rfl, rfl, by decide +kernel, rfl, by decide +kernel, by decide +kernel⟩
abbrev sHouse_first_frame : Stmt := inClass (topS 57) 13
theorem scHouse_first_frame : FnScope ["self", "group", "groups", "frames", "rounds", "rest"] ["self", "group"] (defScope sHouse_first_frame) := ⟨rfl, rfl, rfl, by decide +kernel, rfl, by decide +kernel, by decide +kernel⟩
abbrev sHouse_frame_bearing : Stmt := inClass (topS 57) 15
theorem scHouse_frame_bearing : FnScope ["self", "place", "group", "number", "behind"] ["self", "place"] (defScope sHouse_frame_bearing) := ⟨rfl, rfl, rfl, by decide +kernel, rfl, by decide +kernel, by decide +kernel⟩
abbrev sHouse_at : Stmt := inClass (topS 57) 10
theorem scHouse_at : FnScope ["self", "place", "way", "frame", "following"] ["self", "place", "way"] (defScope sHouse_at) := ⟨rfl, rfl, rfl, by decide +kernel, rfl, by decide +kernel, by decide +kernel⟩
def wayS (nx : Bool) : Str := if nx then "next" else "last"
def wayStr (x : Str) : Bool := (x == "next") || (x == "last")
def spIsWay : Sp := fun vs H Q _ => ∃ x : Str, vs = [.str x] ∧ ∀ H', Same H H' → Q (.bl (wayStr x)) H'
def spWay : Sp := fun vs H Q _ => ∃ nx : Bool, vs = [.str (wayS nx)] ∧ ∀ H', Same H H' → Q .non H'
/-- what is told of a place -/
def atO (B : Nat) (c : Nat → Nat) (s : Nat) (nx : Bool) : Option Int := if bor B c s = true then some (bel B c s : Int) else if nx = true then some (bel B c s : Int) else if 0 < bel B c s then some ((bel B c s : Int) - 1) else none
def bearO (B : Nat) (c : Nat → Nat) (s : Nat) : Option Int := if bor B c s = true then some (bel B c s : Int) else none
/-- a house at p, by its counts -/
def HouseBy (K : PySem.W.Frag) (C : Addr) (old : Addr → Prop) (H : Hp) (p b r : Addr) (bs : List Int) (rows : List R3) (cs : List Int) (B : Nat) (c : Nat → Nat) (L : Nat) : Prop := HouseAt K C old H p b r bs rows cs ∧ Cnt bs rows cs B c L
theorem HouseAt.by {K : PySem.W.Frag} {C : Addr} {old : Addr → Prop} {H : Hp} {p b r : Addr} {bs : List Int} {rows : List R3} {cs : List Int} (h : HouseAt K C old H p b r bs rows cs) : HouseBy K C old H p b r bs rows cs (bs.getLastD 1).toNat (cN bs rows) cs.length := ⟨h, cnt_of h.fair h.rep⟩
theorem hf_ff (b r sk ah rd : Addr) (t : Str) : (hf b r sk ah rd t).lookup ("_first_frame" : Str) = none := hf_no _ _ _ _ _ _ (by decide +kernel) (by decide +kernel) (by decide +kernel) (by decide +kernel) (by decide +kernel) (by decide +kernel)
theorem hf_fb (b r sk ah rd : Addr) (t : Str) : (hf b r sk ah rd t).lookup ("_frame_bearing" : Str) = none := hf_no _ _ _ _ _ _ (by decide +kernel) (by decide +kernel) (by decide +kernel) (by decide +kernel) (by decide +kernel) (by decide +kernel)
theorem hf_at (b r sk ah rd : Addr) (t : Str) : (hf b r sk ah rd t).lookup ("at" : Str) = none := hf_no _ _ _ _ _ _ (by decide +kernel) (by decide +kernel) (by decide +kernel) (by decide +kernel) (by decide +kernel) (by decide +kernel)
def spFirst (K : PySem.W.Frag) (C : Addr) : Sp := fun vs H Q _ => ∃ (old : Addr → Prop) (p b r : Addr) (bs : List Int) (rows : List R3) (cs : List Int) (B : Nat) (c : Nat → Nat) (L g : Nat), vs = [.ref p, .int (g : Int)] ∧ HouseBy K C old H p b r bs rows cs B c L ∧ ∀ H', Same H H' → Q (.int ((sumC B c g : Nat) : Int)) H'
def spBear (K : PySem.W.Frag) (C : Addr) : Sp := fun vs H Q _ => ∃ (old : Addr → Prop) (p b r : Addr) (bs : List Int) (rows : List R3) (cs : List Int) (B : Nat) (c : Nat → Nat) (L s : Nat), vs = [.ref p, .int (s : Int)] ∧ HouseBy K C old H p b r bs rows cs B c L ∧ ∀ H', Same H H' → Q (optV (bearO B c s)) H'
def spAt (K : PySem.W.Frag) (C : Addr) : Sp := fun vs H Q _ => ∃ (old : Addr → Prop) (p b r : Addr) (bs : List Int) (rows : List R3) (cs : List Int) (B : Nat) (c : Nat → Nat) (L s : Nat) (nx : Bool), vs = [.ref p, .int (s : Int), .str (wayS nx)] ∧ HouseBy K C old H p b r bs rows cs B c L ∧ ∀ H', Same H H' → Q (optV (atO B c s nx)) H'
section
variable {P : Program} {w : World} {K : PySem.W.Frag} {mg : Str → Option Value} {base : Heap}
theorem ok_isway {f : Addr} {fd : FuncData} (F : Fun K "is_way" "is_way" sis_way f fd) (N : Names mg) : FnOk P w K mg base CX0 1 f fd ["value"] spIsWay := by
  have sc := scis_way
  refine F.ok sc (fun vs H Q E h => ?_) (fun cdv A outer s H vs Q E hr h => ?_)
  · obtain ⟨x, rfl, _⟩ := h
    rfl
  · obtain ⟨x, rfl, k⟩ := h
    refine ⟨_, (pss_one (ps_ret (pe_and (pe_callB call_isi (by rfl) N.isinstance (by decide +kernel) (pa_cons (pv 0) (pa_cons (pe_ty "str" rfl N.str (by decide +kernel)) pa_nil))) (pe_one (pe_cmpR op_in_seq (pv 0) (pe_tup (pa_cons pe_str (pa_cons pe_str pa_nil))) (by rfl)))))), ?_⟩
    refine ⟨_, rfl, _, _, _, _, _, rfl, .ty _, .base (.str x), kit_ty (r := true) (by decide +kernel), _, rfl, ?_⟩
    refine iteT ?_
    refine ⟨_, rfl, Nat.le_of_ble_eq_true rfl, ?_⟩
    (intro q nq; generalize e_q : upd H q _ = H1; have s1 : Same H H1 := fun b x hb => (congrFun e_q b).symm.trans (same_new nq b x hb); have h1 := (congrFun e_q q).symm.trans upd_same; clear e_q)
    refine ⟨q, _, rfl, .inr (SqT.tup h1), rfl, rfl, ?_⟩
    have e : inV (.str x) [.str "next", .str "last"] = wayStr x := by
      show (("next" : Str) == x || (("last" : Str) == x || false)) = ((x == "next") || (x == "last"))
      rw [Bool.or_false, Bool.beq_comm (a := ("next" : Str)), Bool.beq_comm (a := ("last" : Str))]
    rw [if_neg Bool.false_ne_true, e]
    exact k _ s1
theorem ok_way {f : Addr} {fd : FuncData} (F : Fun K "check_way" "check_way" scheck_way f fd) (Dis_way : DefK P w K mg base "is_way" ["value"] 1 spIsWay) : FnOk P w K mg base CX0 2 f fd ["given"] spWay := by
  have sc := sccheck_way
  refine F.ok sc (fun vs H Q E h => ?_) (fun cdv A outer s H vs Q E hr h => ?_)
  · obtain ⟨nx, rfl, _⟩ := h
    rfl
  · obtain ⟨nx, rfl, k⟩ := h
    refine ⟨_, (pss_one (ps_if (pt_not (pt_val (pe_d Dis_way (hr.mono (by decide)) rfl (pa_cons (pv 0) pa_nil)))) (pss_one ps_never) pss_nil)), ?_⟩
    refine ⟨_, rfl, _, rfl, fun H1 s1 => ?_⟩
    have e : wayStr (wayS nx) = true := by cases nx <;> decide +kernel
    rw [e]
    refine ⟨_, rfl, ?_⟩
    exact iteF (k _ s1)
theorem ok_first {f C : Addr} {fd : FuncData} (F : Fun K "_first_frame" "House._first_frame" sHouse_first_frame f fd) (T : HouseTxt K mg C) (N : Names mg) : FnOk P w K mg base CX0 1 f fd ["self", "group"] (spFirst K C) := by
  have sc := scHouse_first_frame
  refine F.ok sc (fun vs H Q E h => ?_) (fun cdv A outer s H vs Q E hr h => ?_)
  · obtain ⟨old, p, b, r, bs, rows, cs, B, c, L, g, rfl, _⟩ := h
    rfl
  · obtain ⟨old, p, b, r, bs, rows, cs, B, c, L, g, rfl, ⟨⟨⟨dx, sk, ah, rd, e1, e2, e3, e4, _, _⟩, bt, rt, fr, _⟩, ct⟩, k⟩ := h
    refine ⟨_, (pss_cons (ps_asg (pe_fld (pv 0) rfl) (pg_tup rfl (pgs_cons (pg_name (i := 2) sc.nd rfl (Or.inl rfl)) (pgs_cons (pg_name (i := 3) sc.nd rfl (Or.inl rfl)) pgs_nil))))
      (pss_cons (ps_asg (pe_callB call_divmod (by rfl) N.divmod (by decide +kernel) (pa_cons (pv 1) (pa_cons (pv 2) pa_nil))) (pg_tup rfl (pgs_cons (pg_name (i := 4) sc.nd rfl (Or.inl rfl)) (pgs_cons (pg_name (i := 5) sc.nd rfl (Or.inl rfl)) pgs_nil))))
      (pss_one (ps_ret (pe_op op_add (pe_op op_mul (pv 4) (pv 3)) (pe_ix ix_list (pe_fld (pv 0) rfl) (pv 5) (fun _ _ => rfl))))))), ?_⟩
    rw [ct.total, ct.len] at e4
    have hL := ct.hL
    have hL7 := ct.hL7
    have hpos := ct.pos
    have htop := ct.top
    have hLB : L * B ≤ 7200 * 60 := Nat.mul_le_mul hL7 ct.hB6
    refine ⟨_, rfl, p, C, dx, _, _, rfl, e1, T.cl, T.nD, hf_round _ _ _ _ _ _, rd, _, rfl, SqT.tup e4, rfl, _, _, rfl, _, _, rfl, rfl, ?_⟩
    refine ⟨_, rfl, _, rfl, _, _, rfl, ⟨by omega, by omega⟩, ?_⟩
    (intro q nq; generalize e_q : upd H q _ = H1; have s1 : Same H H1 := fun b x hb => (congrFun e_q b).symm.trans (same_new nq b x hb); have h1 := (congrFun e_q q).symm.trans upd_same; clear e_q)
    refine ⟨q, _, rfl, SqT.tup h1, rfl, _, _, rfl, _, _, rfl, rfl, ?_⟩
    have hm : g % L < L := Nat.mod_lt _ hL
    have hlen : (sumsP (borneP bs cs)).length = L := by rw [sumsP_len, borneP_len, ct.len]
    refine ⟨_, rfl, _, rfl, _, _, rfl, rfl, .inr ⟨by omega, by omega⟩, _, rfl, p, C, dx, _, _, rfl, s1 _ _ e1, T.cl, T.nA, hf_ahead _ _ _ _ _ _, _, rfl, ah, _, _, _, rfl, rfl, SqL.lst (s1 _ _ e3), atI_getD (by omega) (by rw [hlen]; omega), _, _, rfl, rfl, ?_⟩
    have e : (g : Int) / (L : Int) * ((sumC B c L : Nat) : Int) + (sumsP (borneP bs cs)).getD ((g : Int) % (L : Int)).toNat 0 = ((sumC B c g : Nat) : Int) := by
      rw [← Int.natCast_emod, Int.toNat_natCast, ct.ahead hm, ← Int.natCast_ediv, ← Int.natCast_mul]
      have h1 := sumC_mul (B := B) ct.per (g / L) (g % L)
      rw [Nat.mod_add_div] at h1
      rw [h1, Nat.mul_comm (sumC B c L)]
      omega
    show Q (V.int ((g : Int) / (L : Int) * ((sumC B c L : Nat) : Int) + (sumsP (borneP bs cs)).getD ((g : Int) % (L : Int)).toNat 0)) H1
    rw [e]
    exact k _ s1
theorem ok_bear {f C fF : Addr} {fd fdF : FuncData} (F : Fun K "_frame_bearing" "House._frame_bearing" sHouse_frame_bearing f fd) (T : HouseTxt K mg C) (N : Names mg) (mF : Meth K C "_first_frame" fF) (GF : FnOk P w K mg base CX0 1 fF fdF ["self", "group"] (spFirst K C)) (bF : Binds K fdF ["self", "group"] []) :
    FnOk P w K mg base CX0 2 f fd ["self", "place"] (spBear K C) := by
  have sc := scHouse_frame_bearing
  refine F.ok sc (fun vs H Q E h => ?_) (fun cdv A outer s H vs Q E hr h => ?_)
  · obtain ⟨old, p, b, r, bs, rows, cs, B, c, L, x, rfl, _⟩ := h
    rfl
  · obtain ⟨old, p, b, r, bs, rows, cs, B, c, L, x, rfl, hB, k⟩ := h
    refine ⟨_, (pss_cons (ps_asg (pe_callB call_divmod (by rfl) N.divmod (by decide +kernel) (pa_cons (pv 1) (pa_cons (pe_ix ix_tup (pe_fld (pv 0) rfl) (pe_un un_neg pe_int) (fun _ _ => rfl)) pa_nil))) (pg_tup rfl (pgs_cons (pg_name (i := 2) sc.nd rfl (Or.inl rfl)) (pgs_cons (pg_name (i := 3) sc.nd rfl (Or.inl rfl)) pgs_nil))))
      (pss_cons (ps_set (i := 4) sc.nd rfl (Or.inl rfl) (pe_op op_sub (pv 3) (pe_ix ix_list (pe_fld (pv 0) rfl) (pe_op op_mod (pv 2) (pe_ix ix_tup (pe_fld (pv 0) rfl) pe_int (fun _ _ => rfl))) (fun _ _ => rfl))))
      (pss_one (ps_ret (pe_ifExp (pt_cmpR op_ge (pv 4) pe_int (nomark _)) (pe_op op_add (pe_meth (pv 0) T.cl mF GF (hr.mono (by decide)) bF .nil pass0 (pa_cons (pv 2) pa_nil)) (pv 4)) pe_non))))), ?_⟩
    obtain ⟨hA, ct⟩ := id hB
    obtain ⟨⟨dx, sk, ah, rd, e1, e2, e3, e4, _, _⟩, bt, rt, fr, _⟩ := id hA
    rw [ct.total, ct.len] at e4
    have hL := ct.hL
    have hL7 := ct.hL7
    have hB2 := ct.hB
    have hB6 := ct.hB6
    refine ⟨_, rfl, _, rfl, p, C, dx, _, _, rfl, e1, T.cl, T.nB, hf_bases _ _ _ _ _ _, _, rfl, b, _, _, _, rfl, rfl, bt, getLastD_map bs fr.b0, _, _, rfl, ?_⟩
    rw [ct.last]
    refine ⟨⟨by omega, by omega⟩, ?_⟩
    (intro q nq; generalize e_q : upd H q _ = H1; have s1 : Same H H1 := fun b x hb => (congrFun e_q b).symm.trans (same_new nq b x hb); have h1 := (congrFun e_q q).symm.trans upd_same; clear e_q)
    refine ⟨q, _, rfl, SqT.tup h1, rfl, _, _, rfl, _, _, rfl, rfl, ?_⟩
    have e1' := s1 _ _ e1
    have e2' := s1 _ _ e2
    have e4' := s1 _ _ e4
    have hm : x / B % L < L := Nat.mod_lt _ hL
    have hsk : atI (cs.map V.int) ((x : Int) / (B : Int) % (L : Int)) = some (V.int ((c (x / B) : Nat) : Int)) := by
      have h1 := c_mul ct.per (x / B / L) (x / B % L)
      rw [Nat.mod_add_div] at h1
      rw [← Int.natCast_ediv, ← Int.natCast_emod, atI_getD (by omega) (by rw [ct.len]; omega), Int.toNat_natCast, ct.skipped hm, h1]
    refine ⟨_, rfl, _, rfl, p, C, dx, _, _, rfl, e1', T.cl, T.nS, hf_skipped _ _ _ _ _ _, _, rfl, _, rfl, p, C, dx, _, _, rfl, e1', T.cl, T.nD, hf_round _ _ _ _ _ _, rd, _, _, _, rfl, rfl, SqT.tup e4', rfl, _, _, rfl, rfl, (by show (0 : Int) < _; omega), sk, _, _, _, rfl, rfl, SqL.lst e2', hsk, _, _, rfl, rfl, ?_⟩
    have hc := ct.lt (x / B)
    have hxB := Nat.mod_lt x (show 0 < B by omega)
    have hbel := bel_at (B := B) (c := c) (by omega) (fun g => Nat.le_of_lt (ct.lt g)) x
    refine ⟨_, rfl, _, _, rfl, rfl, _, rfl, ?_⟩
    refine ifD (fun hd => ?_) (fun hd => ?_)
    · have hd' : c (x / B) ≤ x % B := by rw [← Int.natCast_emod] at hd; omega
      refine ⟨_, rfl, p, dx, _, rfl, e1', hf_ff _ _ _ _ _ _, _, rfl, old, p, b, r, bs, rows, cs, B, c, L, x / B, (by rw [Int.natCast_ediv]; rfl), ⟨hA.same s1, ct⟩, fun H2 s2 => ⟨_, rfl, _, _, rfl, rfl, ?_⟩⟩
      have e : bearO B c x = some (((sumC B c (x / B) : Nat) : Int) + ((x : Int) % (B : Int) - ((c (x / B) : Nat) : Int))) := by
        unfold bearO bor
        rw [decide_eq_true hd', if_pos rfl, hbel, ← Int.natCast_emod]
        refine congrArg some ?_
        omega
      have := k H2 (s1.trans s2)
      rw [e] at this
      exact this
    · have hd' : ¬ c (x / B) ≤ x % B := by rw [← Int.natCast_emod] at hd; omega
      have e : bearO B c x = none := by
        unfold bearO bor
        rw [decide_eq_false hd', if_neg Bool.false_ne_true]
      have := k H1 s1
      rw [e] at this
      exact this
theorem ok_at {f C fF fB : Addr} {fd fdF fdB : FuncData} (F : Fun K "at" "House.at" sHouse_at f fd) (T : HouseTxt K mg C) (N : Names mg) (Dcheck_number : DefK P w K mg base "check_number" ["given"] 3 spChkNum) (Dcheck_way : DefK P w K mg base "check_way" ["given"] 2 spWay)
    (mF : Meth K C "_first_frame" fF) (GF : FnOk P w K mg base CX0 1 fF fdF ["self", "group"] (spFirst K C)) (bF : Binds K fdF ["self", "group"] [])
    (mB : Meth K C "_frame_bearing" fB) (GB : FnOk P w K mg base CX0 2 fB fdB ["self", "place"] (spBear K C)) (bB : Binds K fdB ["self", "place"] []) : FnOk P w K mg base CX0 4 f fd ["self", "place", "way"] (spAt K C) := by
  have sc := scHouse_at
  refine F.ok sc (fun vs H Q E h => ?_) (fun cdv A outer s H vs Q E hr h => ?_)
  · obtain ⟨old, p, b, r, bs, rows, cs, B, c, L, x, nx, rfl, _⟩ := h
    rfl
  · obtain ⟨old, p, b, r, bs, rows, cs, B, c, L, x, nx, rfl, hB, k⟩ := h
    refine ⟨_, (pss_cons (ps_expr (pe_d Dcheck_number (hr.mono (by decide)) rfl (pa_cons (pv 1) pa_nil)))
      (pss_cons (ps_expr (pe_d Dcheck_way (hr.mono (by decide)) rfl (pa_cons (pv 2) pa_nil)))
      (pss_cons (ps_set (i := 3) sc.nd rfl (Or.inl rfl) (pe_meth (pv 0) T.cl mB GB (hr.mono (by decide)) bB .nil pass0 (pa_cons (pv 1) pa_nil)))
      (pss_cons (ps_if (pt_cmpR op_notN (pv 3) pe_non (nomark _)) (pss_one (ps_ret (pv 3))) pss_nil)
      (pss_cons (ps_set (i := 4) sc.nd rfl (Or.inl rfl) (pe_meth (pv 0) T.cl mF GF (hr.mono (by decide)) bF .nil pass0 (pa_cons (pe_op op_fdiv (pv 1) (pe_ix ix_tup (pe_fld (pv 0) rfl) (pe_un un_neg pe_int) (fun _ _ => rfl))) pa_nil)))
      (pss_cons (ps_if (pt_cmpR op_eq (pv 2) pe_str (nomark _)) (pss_one (ps_ret (pv 4))) pss_nil)
      (pss_one (ps_ret (pe_ifExp (pt_cmpR op_gt (pv 4) pe_int (nomark _)) (pe_op op_sub (pv 4) pe_int) pe_non))))))))), ?_⟩
    obtain ⟨hA, ct⟩ := id hB
    obtain ⟨⟨dx, sk, ah, rd, e1, e2, e3, e4, _, _⟩, bt, rt, fr, _⟩ := id hA
    have hB2 := ct.hB
    have hB6 := ct.hB6
    refine ⟨_, rfl, _, rfl, by omega, ?_⟩
    refine ⟨_, rfl, nx, rfl, fun H1 s1 => ?_⟩
    refine ⟨_, rfl, p, dx, _, rfl, s1 _ _ e1, hf_fb _ _ _ _ _ _, _, rfl, old, p, b, r, bs, rows, cs, B, c, L, x, rfl, ⟨hA.same s1, ct⟩, fun H2 s2 => ?_⟩
    have s12 := s1.trans s2
    have hbel := bel_at (B := B) (c := c) (by omega) (fun g => Nat.le_of_lt (ct.lt g)) x
    refine ⟨_, rfl, rfl, _, rfl, ?_⟩
    by_cases hbo : bor B c x = true
    · have e0 : bearO B c x = some ((bel B c x : Nat) : Int) := if_pos hbo
      have e9 : atO B c x nx = some ((bel B c x : Nat) : Int) := if_pos hbo
      have kk := k H2 s12
      rw [e9] at kk
      rw [e0]
      refine ifN (fun _ => ⟨_, rfl, kk⟩) (fun hd => nomatch hd)
    · have e0 : bearO B c x = none := if_neg hbo
      have e9 : atO B c x nx = if nx = true then some ((bel B c x : Nat) : Int) else if 0 < bel B c x then some (((bel B c x : Nat) : Int) - 1) else none := if_neg hbo
      rw [e0]
      refine ifN (fun hd => absurd rfl hd) (fun _ => ?_)
      have hbel2 : bel B c x = sumC B c (x / B) := by
        unfold bor at hbo
        have : ¬ c (x / B) ≤ x % B := fun z => hbo (decide_eq_true z)
        omega
      refine ⟨_, rfl, p, dx, _, rfl, s12 _ _ e1, hf_ff _ _ _ _ _ _, _, rfl, _, rfl, p, C, dx, _, _, rfl, s12 _ _ e1, T.cl, T.nB, hf_bases _ _ _ _ _ _, _, rfl, b, _, _, _, rfl, rfl, Same.seqT s12 bt, getLastD_map bs fr.b0, _, _, rfl, rfl, (by rw [ct.last]; exact ⟨by omega, by omega⟩), ?_⟩
      refine ⟨old, p, b, r, bs, rows, cs, B, c, L, x / B, (by rw [ct.last, Int.natCast_ediv]; rfl), ⟨hA.same s12, ct⟩, fun H3 s3 => ?_⟩
      have s13 := s12.trans s3
      have kk := k H3 s13
      rw [e9] at kk
      rw [← hbel2]
      refine ⟨_, rfl, rfl, _, rfl, ?_⟩
      cases nx with
      | true =>
        rw [if_pos rfl] at kk
        exact ifD (fun _ => ⟨_, rfl, kk⟩) (fun hd => absurd rfl hd)
      | false =>
        rw [if_neg Bool.false_ne_true] at kk
        refine ifD (fun hd => absurd (V.str.inj hd) (by decide +kernel)) (fun _ => ?_)
        refine ⟨_, rfl, _, _, rfl, rfl, _, rfl, ?_⟩
        refine ifD (fun hd => ?_) (fun hd => ?_)
        · have hd' : 0 < bel B c x := by omega
          rw [if_pos hd'] at kk
          exact ⟨_, rfl, _, _, rfl, rfl, kk⟩
        · have hd' : ¬ 0 < bel B c x := by omega
          rw [if_neg hd'] at kk
          exact kk
end
end LM

set_option Elab.async false
set_option linter.all false
set_option maxRecDepth 100000
set_option maxHeartbeats 4000000
set_option pp.maxSteps 600
set_option pp.deepTerms false
namespace LM
open PySem PySem.Spec PyProof.Rows L2
local macro_rules | `(tactic| walk_at "hp") => `(tactic| first | assumption | exact upd_same | (rw [upd_ne (by assumption)]; assumption) | (rw [upd_ne (Ne.symm (by assumption))]; assumption) | (rw [upd_ne (by assumption)]; exact upd_same) | (rw [upd_ne (Ne.symm (by assumption))]; exact upd_same))
local macro_rules | `(tactic| walk_at "sq") => `(tactic| first | assumption | exact Or.inl (Or.inl (by assumption)) | exact Or.inl (Or.inl upd_same) | exact Or.inl (Or.inl (by walk_at "hp")))
local macro_rules | `(tactic| walk_at "ixl") => `(tactic| refine ⟨_, _, _, _, rfl, rfl, (by walk_at "sq"), (by rfl), ?_⟩)
local macro_rules | `(tactic| walk_at "setl") => `(tactic| refine ⟨_, _, _, _, rfl, rfl, (by walk_at "hp"), (by rfl), ?_⟩)
local macro_rules | `(tactic| walk_at "side") => `(tactic| refine idP ?_; first | omega | (show (0 : Int) < _; omega) | (show (0 : Int) < _ ∧ _ < _; omega) | (refine Or.inr ?_; show (-(2 ^ 64) : Int) < _ ∧ _ < _; omega) | (refine Or.inl ?_; show (-(2 ^ 64) : Int) < _ ∧ _ < _; omega) | exact divW (by omega) (by omega) _ | (refine ⟨by decide, by decide, ?_⟩; decide))
local macro_rules | `(tactic| walk_at "go1") => `(tactic| first
  | refine ⟨_, rfl, ?_⟩
  | refine ⟨_, _, rfl, rfl, (by walk_at "side"), ?_⟩
  | refine ⟨_, _, rfl, (by walk_at "side"), ?_⟩
  | refine ⟨_, _, rfl, rfl, ?_⟩
  | refine Or.inl ⟨_, rfl, ?_⟩
  | refine ⟨_, _, rfl, Or.inl (by walk_at "sq"), ?_⟩
  | walk_at "ixl"
  | walk_at "setl"
  | refine ⟨_, _, rfl, (by walk_at "sq"), rfl, ?_⟩
  | refine ⟨_, _, rfl, (by walk_at "sq"), ?_⟩
  | refine ⟨_, _, rfl, ?_⟩
  | refine ⟨rfl, ?_⟩
  | refine ⟨small (Nat.le_of_ble_eq_true rfl), ?_⟩)
local macro_rules | `(tactic| walk_at "go") => `(tactic| repeat walk_at "go1")

def natL (l : List Nat) : List V := l.map fun k => V.int ((k : Nat) : Int)
/-- the law's own house, by its counts -/
def HomeBy (old : Addr → Prop) (H : Hp) (d g l : Addr) (B : Nat) (c : Nat → Nat) (L : Nat) : Prop := ∃ (n : V) (sp be : Addr), H d = some (.dK [(Sum.inr "ground", .ref g), (Sum.inr "lanes", .ref l), (Sum.inr "groups", n), (Sum.inr "spots", .ref sp), (Sum.inr "below", .ref be)]) ∧
  H sp = some (.lst (natL ((List.range (L * B)).filter (bor B c)))) ∧ H be = some (.lst (natL ((List.range (L * B)).map (bel B c)))) ∧ ¬ old sp ∧ ¬ old be
theorem HomeAt.by {old : Addr → Prop} {H : Hp} {d g l : Addr} {gs : List Int} {rows : List R3} {cs : List Int} {B : Nat} {c : Nat → Nat} {L : Nat} (h : HomeAt old H d g l gs rows) (k : Cnt gs rows cs B c L) (fr : Fair gs rows) : HomeBy old H d g l B c L := by
  obtain ⟨s, b, cs', n, e1, e2, e3, e4, e5, e6, e7⟩ := h
  have eb : (gs.getLastD 1).toNat = B := by have := k.last; omega
  have e3' : cs' = gapsL gs rows (groupsP gs rows) := by rw [e3, e2]; rfl
  rw [eb, e3', (k.size fr).1] at e4 e5
  rw [k.spots fr (Nat.le_refl _)] at e4
  rw [k.below fr] at e5
  exact ⟨_, s, b, e1, e4, e5, e6, e7⟩
theorem HomeBy.same {old : Addr → Prop} {H H' : Hp} {d g l : Addr} {B : Nat} {c : Nat → Nat} {L : Nat} (h : HomeBy old H d g l B c L) (s : Same H H') : HomeBy old H' d g l B c L := by
  obtain ⟨n, sp, be, e1, e2, e3, e4, e5⟩ := h
  exact ⟨n, sp, be, s _ _ e1, s _ _ e2, s _ _ e3, e4, e5⟩
theorem HomeBy.els {old : Addr → Prop} {H H' : Hp} {d g l q : Addr} {B : Nat} {c : Nat → Nat} {L : Nat} (h : HomeBy old H d g l B c L) (hd : d ≠ q) (hq : old q) (e : Else q H H') : HomeBy old H' d g l B c L := by
  obtain ⟨n, sp, be, e1, e2, e3, e4, e5⟩ := h
  exact ⟨n, sp, be, e _ _ hd e1, e _ _ (fun z => e4 (z ▸ hq)) e2, e _ _ (fun z => e5 (z ▸ hq)) e3, e4, e5⟩
theorem natL_len (l : List Nat) : (natL l).length = l.length := List.length_map ..
theorem natL_flat : ∀ l : List Nat, (natL l).all flatV = true
  | [] => rfl
  | _ :: l => natL_flat l
theorem natL_in (i : Nat) : ∀ l : List Nat, inV (.int (i : Int)) (natL l) = decide (i ∈ l)
  | [] => rfl
  | k :: l => by
    have h := natL_in i l
    show (eqV (.int ((k : Nat) : Int)) (.int (i : Int)) || inV (.int (i : Int)) (natL l)) = _
    rw [h]
    by_cases hk : i = k
    · subst hk
      simp [eqV]
    · have : ¬ ((k : Nat) : Int) = (i : Int) := by omega
      simp [eqV, hk, this]
theorem natL_at {l : List Nat} {i : Nat} {x : Nat} (h : l[i]? = some x) : atI (natL l) ((i : Nat) : Int) = some (V.int (x : Int)) := by
  refine atI_nat ?_
  unfold natL
  rw [List.getElem?_map, h]
  rfl
def nearI (B : Nat) (c : Nat → Nat) (s : Nat) (nx : Bool) : Int := if nx = true ∨ bor B c s = true then (bel B c s : Int) else (bel B c s : Int) - 1
def spNear : Sp := fun vs H Q _ => ∃ (old : Addr → Prop) (d g l : Addr) (gs : List Int) (rows : List R3) (cs : List Int) (B : Nat) (c : Nat → Nat) (L s : Nat) (nx : Bool), vs = [.ref d, .int (s : Int), .str (wayS nx)] ∧ HomeBy old H d g l B c L ∧ Cnt gs rows cs B c L ∧ ∀ H', Same H H' → Q (.int (nearI B c s nx)) H'
def spSpot : Sp := fun vs H Q _ => ∃ (old : Addr → Prop) (d g l : Addr) (gs : List Int) (rows : List R3) (cs : List Int) (B : Nat) (c : Nat → Nat) (L s : Nat), vs = [.ref d, .int ((bel B c s : Nat) : Int)] ∧ HomeBy old H d g l B c L ∧ Cnt gs rows cs B c L ∧ bor B c s = true ∧ ∀ H', Same H H' → Q (.int (s : Int)) H'
section
variable {P : Program} {w : World} {K : PySem.W.Frag} {mg : Str → Option Value} {base : Heap}
end
end LM

set_option Elab.async false
set_option linter.all false
set_option maxRecDepth 100000
set_option maxHeartbeats 4000000
set_option pp.maxSteps 600
set_option pp.deepTerms false
namespace LM
open PySem PySem.Spec PyProof.Rows L2 RZ
local macro_rules | `(tactic| walk_at "hp") => `(tactic| first | assumption | exact upd_same | (rw [upd_ne (by assumption)]; assumption) | (rw [upd_ne (Ne.symm (by assumption))]; assumption) | (rw [upd_ne (by assumption)]; exact upd_same) | (rw [upd_ne (Ne.symm (by assumption))]; exact upd_same))
local macro_rules | `(tactic| walk_at "sq") => `(tactic| first | assumption | exact Or.inl (Or.inl (by assumption)) | exact Or.inl (Or.inl upd_same) | exact Or.inl (Or.inl (by walk_at "hp")))
local macro_rules | `(tactic| walk_at "ixl") => `(tactic| refine ⟨_, _, _, _, rfl, rfl, (by walk_at "sq"), (by rfl), ?_⟩)
local macro_rules | `(tactic| walk_at "setl") => `(tactic| refine ⟨_, _, _, _, rfl, rfl, (by walk_at "hp"), (by rfl), ?_⟩)
local macro_rules | `(tactic| walk_at "side") => `(tactic| refine idP ?_; first | omega | (show (0 : Int) < _; omega) | (show (0 : Int) < _ ∧ _ < _; omega) | (refine Or.inr ?_; show (-(2 ^ 64) : Int) < _ ∧ _ < _; omega) | (refine Or.inl ?_; show (-(2 ^ 64) : Int) < _ ∧ _ < _; omega) | exact divW (by omega) (by omega) _ | (refine ⟨by decide, by decide, ?_⟩; decide))
local macro_rules | `(tactic| walk_at "go1") => `(tactic| first
  | refine ⟨_, rfl, ?_⟩
  | refine ⟨_, _, rfl, rfl, (by walk_at "side"), ?_⟩
  | refine ⟨_, _, rfl, (by walk_at "side"), ?_⟩
  | refine ⟨_, _, rfl, rfl, ?_⟩
  | refine Or.inl ⟨_, rfl, ?_⟩
  | refine ⟨_, _, rfl, Or.inl (by walk_at "sq"), ?_⟩
  | walk_at "ixl"
  | walk_at "setl"
  | refine ⟨_, _, rfl, (by walk_at "sq"), rfl, ?_⟩
  | refine ⟨_, _, rfl, (by walk_at "sq"), ?_⟩
  | refine ⟨_, _, rfl, ?_⟩
  | refine ⟨rfl, ?_⟩
  | refine ⟨small (Nat.le_of_ble_eq_true rfl), ?_⟩)
local macro_rules | `(tactic| walk_at "go") => `(tactic| repeat walk_at "go1")

abbrev sis_label : Stmt := topS 29
theorem scis_label : FnScope ["bases", "value", "bounded", "base", "number"] ["bases", "value"] (defScope sis_label) := ⟨rfl, rfl, rfl, by decide +kernel, rfl, by decide +kernel, by decide +kernel⟩
abbrev splace_of : Stmt := topS 30
theorem scplace_of : FnScope ["bases", "label", "place", "base", "number"] ["bases", "label"] (defScope splace_of) := ⟨rfl, rfl, rfl, by decide +kernel, rfl, by decide +kernel, by decide +kernel⟩
abbrev swritten_number : Stmt := topS 24
theorem scwritten_number : FnScope ["number", "parts", "rest"] ["number"] (defScope swritten_number) := ⟨rfl, rfl, rfl, by decide +kernel, rfl, by decide +kernel, by decide +kernel⟩
abbrev swritten_label : Stmt := topS 32
theorem scwritten_label : FnScope ["bases", "label", "words", "base", "number"] ["bases", "label"] (defScope swritten_label) := ⟨rfl, rfl, rfl, by decide +kernel, rfl, by decide +kernel, by decide +kernel⟩
def spIsLabel (K : PySem.W.Frag) : Sp := fun vs H Q _ => ∃ (a l : Addr) (bs ds : List Int), vs = [.ref a, .ref l] ∧ SqT K H a (bs.map V.int) ∧ SqT K H l (ds.map V.int) ∧ 1 ≤ bs.length ∧ bs.length ≤ 3 ∧ ∀ H', Same H H' → Q (.bl (labelB bs ds)) H'
def spPlaceOf (K : PySem.W.Frag) : Sp := fun vs H Q _ => ∃ (a l : Addr) (bs ds : List Int), vs = [.ref a, .ref l] ∧ SqT K H a (bs.map V.int) ∧ SqT K H l (ds.map V.int) ∧ ds.length = bs.length + 1 ∧ bs.length ≤ 3 ∧ (∀ x ∈ bs, 2 ≤ x ∧ x ≤ 60) ∧ ∀ H', Same H H' → Q (.int (placeOf bs ds)) H'
def spNumText : Sp := fun vs H Q _ => ∃ (n : Int), vs = [.int n] ∧ 0 ≤ n ∧ n < 10 ^ 60 ∧ ∀ H', Same H H' → Q (.str (numS n)) H'
def spLabelText (K : PySem.W.Frag) : Sp := fun vs H Q _ => ∃ (a l : Addr) (bs ds : List Int), vs = [.ref a, .ref l] ∧ SqT K H a (bs.map V.int) ∧ SqT K H l (ds.map V.int) ∧ labelB bs ds = true ∧ bs.length ≤ 3 ∧ (∀ x ∈ bs, 2 ≤ x ∧ x ≤ 60) ∧ ds.headD 0 < 10 ^ 60 ∧ ∀ H', Same H H' → Q (.str (labelS bs ds)) H'
/-- what is read: the label, or None -/
def readO (o : Option (List Int)) (H : Hp) (Q : V → Hp → Prop) : Prop := match o with
  | none => ∀ H', Same H H' → Q .non H'
  | some ds => ∀ (t : Addr) H', Same H H' → H t = none → H' t = some (.tup (ds.map V.int)) → Q (.ref t) H'
def spReadLabel (K : PySem.W.Frag) : Sp := fun vs H Q _ => ∃ (a : Addr) (bs : List Int) (x : Str), vs = [.ref a, .str x] ∧ SqT K H a (bs.map V.int) ∧ 1 ≤ bs.length ∧ bs.length ≤ 3 ∧ (∀ x ∈ bs, 2 ≤ x ∧ x ≤ 60) ∧ x.length ≤ 90 ∧ (∀ w ∈ (Txt.split x ":").head?, w.length ≤ 59) ∧ readO (readL bs x) H Q
theorem cut_tail (xs : List V) : cutV xs (some 1) none = xs.drop 1 := cut_from xs 1
theorem not_whole {n : Nat} (h : 1 ≤ n) : ¬ (HT.sIx n 0 (some 1) = 0 ∧ HT.sIx n n none = n) := fun z => by
  have e : HT.sIx n 0 (some 1) = min 1 n := HT.sIx_nat n 0 1
  rw [e] at z
  omega
theorem zip_get {bs ds : List Int} {i : Nat} {x1 x2 : V} (hi : i < (bs.zip ds).length) (g1 : (bs.map V.int)[i]? = some x1) (g2 : (ds.map V.int)[i]? = some x2) : ∃ b d, (bs.zip ds)[i]? = some (b, d) ∧ x1 = .int b ∧ x2 = .int d := by
  rw [List.getElem?_map] at g1 g2
  obtain ⟨b, hb, rfl⟩ := Option.map_eq_some_iff.mp g1
  obtain ⟨d, hd, rfl⟩ := Option.map_eq_some_iff.mp g2
  exact ⟨b, d, List.getElem?_zip_eq_some.mpr ⟨hb, hd⟩, rfl, rfl⟩
theorem pad_all : ∀ k : _root_.Fin 61, PadOk (k.val : Int) = true := by decide +kernel
theorem pad_ok {k : Nat} (h : k ≤ 60) : PadOk (k : Int) = true := pad_all ⟨k, by omega⟩
theorem digits_lt : ∀ cs : List Nat, NumText.AllDigits cs → NumText.digitsVal cs < 10 ^ cs.length := by
  intro cs
  induction cs using snoc_ind with
  | h0 => exact fun _ => (by decide : 0 < 1)
  | h1 l c ih =>
    intro h
    have h1 := ih fun d hd => h d (List.mem_append_left _ hd)
    have h2 := h c (by simp)
    rw [NumText.digitsVal_snoc, List.length_append]
    show _ < 10 ^ (l.length + 1)
    rw [Nat.pow_succ]
    omega
theorem big_log {n : Int} (h0 : 0 ≤ n) (h1 : n < 10 ^ 60) : n.natAbs.log2 < 1920 := by
  have hn : n.natAbs < 10 ^ 60 := by
    have : ((10 : Int) ^ 60) = ((10 ^ 60 : Nat) : Int) := by decide
    omega
  rcases Nat.eq_zero_or_pos n.natAbs with z | z
  · rw [z]
    decide
  · exact Nat.lt_trans ((Nat.log2_lt (by omega)).mpr (Nat.lt_trans hn (show 10 ^ 60 < 2 ^ 200 by decide))) (by decide)
section
variable {P : Program} {w : World} {K : PySem.W.Frag} {mg : Str → Option Value} {base : Heap}
theorem ok_islabel {f : Addr} {fd : FuncData} (F : Fun K "is_label" "is_label" sis_label f fd) (N : Names mg) (Dis_integer_within : DefK P w K mg base "is_integer_within" ["value", "low", "high"] 2 spWithin) (Dis_number : DefK P w K mg base "is_number" ["value"] 2 spIsNum) : FnOk P w K mg base CX0 3 f fd ["bases", "value"] (spIsLabel K) := by
  have sc := scis_label
  refine F.ok sc (fun vs H Q E h => ?_) (fun cdv A outer s H vs Q E hr h => ?_)
  · obtain ⟨a, l, bs, ds, rfl, _⟩ := h
    rfl
  · obtain ⟨a, l, bs, ds, rfl, hb, hd, b1, b3, k⟩ := h
    refine ⟨_, (pss_cons (ps_if (PW.pt (pw_or (pt_not (pt_val (pe_callB call_isi (by rfl) N.isinstance (by decide +kernel) (pa_cons (pv 1) (pa_cons (pe_ty "tuple" rfl N.tuple (by decide +kernel)) pa_nil))))) (pw_or1 (pt_cmpR op_ne (pe_callB call_len_seq (by rfl) N.len (by decide +kernel) (pa_cons (pv 1) pa_nil)) (pe_op op_add (pe_callB call_len_seq (by rfl) N.len (by decide +kernel) (pa_cons (pv 0) pa_nil)) pe_int) (nomark _))))) (pss_one (ps_ret pe_bl)) pss_nil)
      (pss_cons (ps_setLc (i := 2) (own := [("base", 3), ("number", 4)]) (g := gTup K 2 (gCons (gName 3) (gCons (gName 4) gNil))) rfl sc.nd rfl rfl (sw_true rfl rfl rfl (by decide +kernel)) (pi_zipA rfl N.zip (pa_cons (pv 0) (pa_cons (pe_slice sl_tup (pv 1) (po_some pe_int) po_none) pa_nil))) (blkOk_by (own := [("base", 3), ("number", 4)]) (N := ["bases", "value", "bounded", "base", "number"]) (sc := defScope (topS 29)) (by decide +kernel)) (fun _ _ _ _ _ => (pg_tup rfl (pgs_cons (pg_name (i := 3) sc.nd rfl (Or.inl rfl) (Or.inr rfl)) (pgs_cons (pg_name (i := 4) sc.nd rfl (Or.inl rfl) (Or.inr rfl)) pgs_nil)))) (fun _ _ _ _ _ => pts_nil) (fun _ _ _ _ _ => (pe_d Dis_integer_within (hr.mono (by decide)) rfl (pa_cons (pv 4) (pa_cons pe_int (pa_cons (pe_op op_sub (pv 3) pe_int) pa_nil))))))
      (pss_one (ps_ret (pe_and (pe_d Dis_number (hr.mono (by decide)) rfl (pa_cons (pe_ix ix_tup (pv 1) pe_int (fun _ _ => rfl)) pa_nil)) (pe_one (pe_callB (cr_all rfl) (by rfl) N.all (by decide +kernel) (pa_cons (pv 2) pa_nil)))))))), ?_⟩
    refine ⟨_, rfl, _, _, _, _, _, rfl, .ty _, tyT hd, kit_ty (r := true) (by decide +kernel), _, rfl, ?_⟩
    refine iteF ?_
    refine ⟨_, rfl, l, _, rfl, .inr hd, _, rfl, a, _, rfl, .inr hb, _, _, rfl, rfl, rfl, _, rfl, ?_⟩
    rw [List.length_map, List.length_map]
    by_cases hlen : ds.length = bs.length + 1
    rotate_left
    · refine ifN (fun hd' => ?_) (fun hd' => absurd (V.int.inj hd') (by omega))
      have e : labelB bs ds = false := by
        unfold labelB
        rw [decide_eq_false hlen]
        rfl
      rw [e] at k
      exact k H (Same.refl H)
    refine ifN (fun hd' => absurd (congrArg V.int (by omega)) hd') (fun _ => ?_)
    have hx : 0 < ds.length := by omega
    have h0 : ds.headD 0 = ds[0] := by cases ds with | nil => simp at hx | cons => rfl
    refine ⟨_, rfl, _, rfl, _, rfl, l, _, rfl, hd, not_whole (by rw [List.length_map]; exact hx), ?_⟩
    (intro t nt; generalize e_t : upd H t _ = H1; have s1 : Same H H1 := fun b x hb => (congrFun e_t b).symm.trans (same_new nt b x hb); have h1 := (congrFun e_t t).symm.trans upd_same; clear e_t)
    have h1' : H1 t = some (.tup (ds.tail.map V.int)) := by rw [h1, cut_tail, List.drop_one, List.map_tail]
    refine ⟨a, t, _, _, rfl, .inr ⟨Same.seqT s1 hb, SqT.tup h1', ?_⟩⟩
    intro D nD
    refine lc_it (walk_zipT (n := (bs.zip ds.tail).length) (by rw [List.length_zip, List.length_map, List.length_map])) (fun i H' => Same H1 H' ∧ H' D = some (.lst ((((bs.zip ds.tail).take i).map fun p => decide (0 ≤ p.2) && decide (p.2 ≤ p.1 - 1)).map V.bl))) ⟨same_new nD, upd_same⟩ (fun i H' _ ⟨sm, _⟩ => ⟨Same.seqT (s1.trans sm) hb, SqT.tup (sm _ _ h1')⟩) ?_ ?_
    · rintro i x H2 H3 hi ⟨sm, eD⟩ ⟨T, x1, x2, rfl, nT, rfl, g1, g2⟩
      obtain ⟨b, d, hz, rfl, rfl⟩ := zip_get hi g1 g2
      have zl : (bs.zip ds.tail).length ≤ 3 := by rw [List.length_zip]; omega
      refine ⟨T, _, rfl, SqT.tup upd_same, rfl, _, _, rfl, _, _, rfl, rfl, rfl, ?_⟩
      have eD2 := same_new nT (o := HO.tup [V.int b, V.int d]) _ _ eD
      refine ⟨_, rfl, _, rfl, _, _, rfl, rfl, d, 0, b - 1, rfl, _, eD2, smallLt (by rw [List.length_map, List.length_map, List.length_take]; omega), same_mut (Same.of_new sm nT) nD, ?_⟩
      rw [upd_same, List.take_add_one, hz, List.map_append, List.map_append]
      rfl
    rintro H2 ⟨sm, eD⟩
    rw [List.take_of_length_le (Nat.le_refl _)] at eD
    have s02 := s1.trans sm
    refine ⟨_, rfl, l, _, _, _, rfl, rfl, Same.seqT s02 hd, atI_nat (map_get hx), ds[0], rfl, _, rfl, ?_⟩
    rw [← h0]
    have kk := k H2 s02
    have e : labelB bs ds = (decide (0 ≤ ds.headD 0) && (boundL bs ds).all id) := by
      unfold labelB
      rw [decide_eq_true hlen, Bool.true_and]
    rw [e] at kk
    refine ifB (fun h1 => ?_) (fun h1 => ?_)
    · rw [h1, Bool.true_and] at kk
      exact ⟨_, rfl, D, _, rfl, SqL.lst eD, kk⟩
    · rw [h1, Bool.false_and] at kk
      exact kk
theorem ok_placeof {f : Addr} {fd : FuncData} (F : Fun K "place_of" "place_of" splace_of f fd) (N : Names mg) : FnOk P w K mg base CX0 1 f fd ["bases", "label"] (spPlaceOf K) := by
  have sc := scplace_of
  refine F.ok sc (fun vs H Q E h => ?_) (fun cdv A outer s H vs Q E hr h => ?_)
  · obtain ⟨a, l, bs, ds, rfl, _⟩ := h
    rfl
  · obtain ⟨a, l, bs, ds, rfl, hb, hd, hl, b3, bb, k⟩ := h
    refine ⟨_, (pss_cons (ps_set (i := 2) sc.nd rfl (Or.inl rfl) (pe_ix ix_tup (pv 1) pe_int (fun _ _ => rfl)))
      (pss_cons (ps_for PassesOwn.never rfl (pi_zipA rfl N.zip (pa_cons (pv 0) (pa_cons (pe_slice sl_tup (pv 1) (po_some pe_int) po_none) pa_nil))) (pg_tup rfl (pgs_cons (pg_name (i := 3) sc.nd rfl (Or.inl rfl)) (pgs_cons (pg_name (i := 4) sc.nd rfl (Or.inl rfl)) pgs_nil))) (pss_one (ps_set (i := 2) sc.nd rfl (Or.inl rfl) (pe_op op_add (pe_op op_mul (pv 2) (pv 3)) (pv 4)))))
      (pss_one (ps_ret (pv 2))))), ?_⟩
    have hx : 0 < ds.length := by omega
    have h0 : ds.headD 0 = ds[0] := by cases ds with | nil => simp at hx | cons => rfl
    refine ⟨_, rfl, l, _, _, _, rfl, rfl, hd, atI_nat (map_get hx), ?_⟩
    rw [← h0]
    refine ⟨_, rfl, _, rfl, _, rfl, l, _, rfl, hd, not_whole (by rw [List.length_map]; exact hx), ?_⟩
    (intro t nt; generalize e_t : upd H t _ = H1; have s1 : Same H H1 := fun b x hb => (congrFun e_t b).symm.trans (same_new nt b x hb); have h1 := (congrFun e_t t).symm.trans upd_same; clear e_t)
    have h1' : H1 t = some (.tup (ds.tail.map V.int)) := by rw [h1, cut_tail, List.drop_one, List.map_tail]
    refine ⟨a, t, _, _, rfl, .inr ⟨Same.seqT s1 hb, SqT.tup h1', ?_⟩⟩
    refine for_it (walk_zipT (n := (bs.zip ds.tail).length) (by rw [List.length_zip, List.length_map, List.length_map])) (fun i σ H' => ∃ v3 v4 : Option V, σ = [some (.ref a), some (.ref l), some (.int (((bs.zip ds.tail).take i).foldl (fun a p => a * p.1 + p.2) (ds.headD 0))), v3, v4] ∧ Same H1 H') ⟨_, _, rfl, Same.refl H1⟩ (fun i σ H' _ ⟨_, _, _, sm⟩ => ⟨Same.seqT (s1.trans sm) hb, SqT.tup (sm _ _ h1')⟩) ?_ ?_
    · rintro i x σ H2 H3 hi ⟨v3, v4, rfl, sm⟩ ⟨T, x1, x2, rfl, nT, rfl, g1, g2⟩
      obtain ⟨b, d, hz, rfl, rfl⟩ := zip_get hi g1 g2
      have hbb := bb b (List.of_mem_zip (List.mem_of_getElem? hz)).1
      refine ⟨T, _, rfl, SqT.tup upd_same, rfl, _, _, rfl, _, _, rfl, rfl, ?_⟩
      refine ⟨_, rfl, _, rfl, _, _, rfl, rfl, .inr ⟨by omega, by omega⟩, _, rfl, _, _, rfl, rfl, ?_⟩
      exact ⟨_, _, (by rw [take_fold _ _ _ i _ hz]; rfl), Same.of_new sm nT⟩
    · rintro σ H' ⟨v3, v4, rfl, sm⟩
      rw [List.take_of_length_le (Nat.le_refl _)]
      exact ⟨_, rfl, k _ (s1.trans sm)⟩
theorem ok_numtext {f : Addr} {fd : FuncData} (F : Fun K "written_number" "written_number" swritten_number f fd) (N : Names mg) : FnOk P w K mg base CX0 1 f fd ["number"] spNumText := by
  have sc := scwritten_number
  refine F.ok sc (fun vs H Q E h => ?_) (fun cdv A outer s H vs Q E hr h => ?_)
  · obtain ⟨n, rfl, _⟩ := h
    rfl
  · obtain ⟨n, rfl, n0, n1, k⟩ := h
    refine ⟨_, (pss_cons (ps_set (i := 1) sc.nd rfl (Or.inl rfl) (pe_lst pa_nil))
      (pss_cons (ps_while PassesOwn.never (pt_cmpR op_ge (pv 0) (pe_op op_pow pe_int pe_int) (nomark _)) (pss_cons (ps_asg (pe_callB call_divmodW (by rfl) N.divmod (by decide +kernel) (pa_cons (pv 0) (pa_cons (pe_op op_pow pe_int pe_int) pa_nil))) (pg_tup rfl (pgs_cons (pg_name (i := 0) sc.nd rfl (Or.inl rfl)) (pgs_cons (pg_name (i := 2) sc.nd rfl (Or.inl rfl)) pgs_nil))))
      (pss_one (ps_expr (pe_bm PySem.F.plainAttrs_list PySem.F.slot_list_append PySem.F.type_list_append mt_append (pv 1) (pa_cons (pe_bm PySem.F.plainAttrs_str PySem.F.slot_str_zfill PySem.F.type_str_zfill mt_zfill (pe_callTy (T := "str") call_str_int (by rfl) N.str (by decide +kernel) (pa_cons (pv 2) pa_nil)) (pa_cons pe_int pa_nil)) pa_nil))))))
      (pss_cons (ps_expr (pe_bm PySem.F.plainAttrs_list PySem.F.slot_list_append PySem.F.type_list_append mt_append (pv 1) (pa_cons (pe_callTy (T := "str") call_str_int (by rfl) N.str (by decide +kernel) (pa_cons (pv 0) pa_nil)) pa_nil)))
      (pss_one (ps_ret (pe_joinRev rfl pe_str rfl N.reversed (pv 1))))))), ?_⟩
    refine ⟨Nat.le_of_ble_eq_true rfl, ?_⟩
    (intro p np; generalize e_p : upd H p _ = H1; have s1 : Same H H1 := fun b x hb => (congrFun e_p b).symm.trans (same_new np b x hb); have h1 := (congrFun e_p p).symm.trans upd_same; clear e_p)
    refine while_by (fun σ H' => ∃ v2 : Option V, σ = [some (.int n), some (.ref p), v2] ∧ H' = H1) (fun _ _ => 0) ⟨_, rfl, rfl⟩ ?_ ?_
    · rintro σ H' ⟨v2, rfl, rfl⟩
      refine ⟨_, rfl, _, _, rfl, rfl, ⟨by decide, by decide, by decide⟩, _, _, rfl, rfl, _, rfl, ?_⟩
      refine ifD (fun hd => absurd hd (by show ¬ (10 : Int) ^ 60 ≤ n; omega)) (fun hd => ?_)
      refine ⟨_, rfl, .inl ⟨rfl, _, SqL.lst h1⟩, _, rfl, n, rfl, big_log n0 n1, p, _, _, rfl, rfl, h1, smallLt (by decide), ?_⟩
      generalize e2 : upd H' p _ = H2
      have h2 : H2 p = some (.lst ([numS n].map V.str)) := (congrFun e2 p).symm.trans upd_same
      have s2 : Same H H2 := fun b o e => by rw [← e2, upd_ne (ne_of_none e np)]; exact s1 _ _ e
      refine ⟨⟨_, rfl⟩, _, rfl, _, p, [numS n], rfl, rfl, SqL.lst h2, ?_, ?_⟩
      · have := num_len n0 n1
        show ((numS n).length + 0) + 1 * 0 ≤ 16777216
        omega
      · exact k H2 s2
    · intro σ H' Q1 Q2 hm h
      obtain ⟨v, hv, i, j, e1, e2, c, i2, j2, e3, e4, b, e5, q⟩ := h
      exact ⟨v, hv, i, j, e1, e2, c, i2, j2, e3, e4, b, e5, hm _ _ q⟩
theorem ok_labeltext {f : Addr} {fd : FuncData} (F : Fun K "written_label" "written_label" swritten_label f fd) (N : Names mg) (Dwritten_number : DefK P w K mg base "written_number" ["number"] 1 spNumText) : FnOk P w K mg base CX0 2 f fd ["bases", "label"] (spLabelText K) := by
  have sc := scwritten_label
  refine F.ok sc (fun vs H Q E h => ?_) (fun cdv A outer s H vs Q E hr h => ?_)
  · obtain ⟨a, l, bs, ds, rfl, _⟩ := h
    rfl
  · obtain ⟨a, l, bs, ds, rfl, hb, hd, hl, b3, bb, h60, k⟩ := h
    refine ⟨_, (pss_cons (ps_set (i := 2) sc.nd rfl (Or.inl rfl) (pe_lst (pa_cons (pe_d Dwritten_number (hr.mono (by decide)) rfl (pa_cons (pe_ix ix_tup (pv 1) pe_int (fun _ _ => rfl)) pa_nil)) pa_nil)))
      (pss_cons (ps_for PassesOwn.never rfl (pi_zipA rfl N.zip (pa_cons (pv 0) (pa_cons (pe_slice sl_tup (pv 1) (po_some pe_int) po_none) pa_nil))) (pg_tup rfl (pgs_cons (pg_name (i := 3) sc.nd rfl (Or.inl rfl)) (pgs_cons (pg_name (i := 4) sc.nd rfl (Or.inl rfl)) pgs_nil))) (pss_one (ps_expr (pe_bm PySem.F.plainAttrs_list PySem.F.slot_list_append PySem.F.type_list_append mt_append (pv 2) (pa_cons (pe_bm PySem.F.plainAttrs_str PySem.F.slot_str_zfill PySem.F.type_str_zfill mt_zfill (pe_callTy (T := "str") call_str_int (by rfl) N.str (by decide +kernel) (pa_cons (pv 4) pa_nil)) (pa_cons (pe_callB call_len_str (by rfl) N.len (by decide +kernel) (pa_cons (pe_callTy (T := "str") call_str_int (by rfl) N.str (by decide +kernel) (pa_cons (pe_op op_sub (pv 3) pe_int) pa_nil)) pa_nil)) pa_nil)) pa_nil)))))
      (pss_one (ps_ret (pe_join pe_str (pv 2)))))), ?_⟩
    have hlen := labelB_len hl
    have hx : 0 < ds.length := by omega
    have h0 : ds.headD 0 = ds[0] := by cases ds with | nil => simp at hx | cons => rfl
    refine ⟨_, rfl, l, _, _, _, rfl, rfl, hd, atI_nat (map_get hx), ?_⟩
    rw [← h0]
    refine ⟨_, rfl, label_head hl, h60, fun H1 s1 => ?_⟩
    refine ⟨Nat.le_of_ble_eq_true rfl, ?_⟩
    (intro p np; generalize e_p : upd H1 p _ = H2; have s2 : Same H1 H2 := fun b x hb => (congrFun e_p b).symm.trans (same_new np b x hb); have h2 := (congrFun e_p p).symm.trans upd_same; clear e_p)
    have s02 := s1.trans s2
    refine ⟨_, rfl, _, rfl, _, rfl, l, _, rfl, Same.seqT s02 hd, not_whole (by rw [List.length_map]; exact hx), ?_⟩
    (intro t nt; generalize e_t : upd H2 t _ = H3; have s3 : Same H2 H3 := fun b x hb => (congrFun e_t b).symm.trans (same_new nt b x hb); have h3 := (congrFun e_t t).symm.trans upd_same; clear e_t)
    have h3' : H3 t = some (.tup (ds.tail.map V.int)) := by rw [h3, cut_tail, List.drop_one, List.map_tail]
    have s03 := s02.trans s3
    have hzb := zip_bound hl
    have hzl := zip_left (ds := ds.tail) (m := 60) fun x hx => (bb x hx).2
    have ntp : t ≠ p := fun z => by rw [z, s3 _ _ h2] at h3; cases h3
    refine ⟨a, t, _, _, rfl, .inr ⟨Same.seqT s03 hb, SqT.tup h3', ?_⟩⟩
    refine for_it (walk_zipT (n := (bs.zip ds.tail).length) (by rw [List.length_zip, List.length_map, List.length_map])) (fun i σ H' => ∃ v3 v4 : Option V, σ = [some (.ref a), some (.ref l), some (.ref p), v3, v4] ∧ Same H1 H' ∧ H' t = some (.tup (ds.tail.map V.int)) ∧ H' p = some (.lst ((numS (ds.headD 0) :: ((bs.zip ds.tail).take i).map fun p => padS p.1 p.2).map V.str)))
      ⟨_, _, rfl, s2.trans s3, h3', s3 _ _ h2⟩ (fun i σ H' _ ⟨_, _, _, sm, ht, _⟩ => ⟨Same.seqT (s1.trans sm) hb, SqT.tup ht⟩) ?_ ?_
    · rintro i x σ H4 H5 hi ⟨v3, v4, rfl, sm, ht, hp⟩ ⟨T, x1, x2, rfl, nT, rfl, g1, g2⟩
      obtain ⟨b, d, hz, rfl, rfl⟩ := zip_get hi g1 g2
      obtain ⟨q0, q1⟩ := hzb _ (List.mem_of_getElem? hz)
      have q2 := hzl _ (List.mem_of_getElem? hz)
      dsimp only at q0 q1 q2
      obtain ⟨_, _, _, q5, _⟩ := pad_of q0 q1 q2
      refine ⟨T, _, rfl, SqT.tup upd_same, rfl, _, _, rfl, _, _, rfl, rfl, ?_⟩
      generalize e5 : upd H4 T _ = H5
      have s5 : Same H4 H5 := fun b o e => by rw [← e5, upd_ne (ne_of_none e nT)]; exact e
      have hp5 := s5 _ _ hp
      have zl : (bs.zip ds.tail).length ≤ 3 := by rw [List.length_zip]; omega
      have nl := num_len (m := b - 1) (by omega) (Int.lt_of_le_of_lt (show b - 1 ≤ 60 by omega) (by decide))
      refine ⟨_, rfl, .inl ⟨rfl, _, SqL.lst hp5⟩, _, rfl, d, rfl, big_log q0 (Int.lt_of_le_of_lt (show d ≤ 60 by omega) (by decide)), rfl, _, rfl, _, _, rfl, rfl, b - 1, rfl, big_log (show 0 ≤ b - 1 by omega) (Int.lt_of_le_of_lt (show b - 1 ≤ 60 by omega) (by decide)), numS (b - 1), rfl, small (by omega), _, _, rfl, rfl, pad_ok nl, p, _, _, rfl, rfl, hp5, smallLt (by rw [List.length_map, List.length_cons, List.length_map, List.length_take]; omega), ?_⟩
      refine ⟨_, _, rfl, same_mut (sm.trans s5) np, ?_, ?_⟩
      · rw [upd_ne ntp]
        exact s5 _ _ ht
      · rw [upd_same, List.take_add_one, hz, List.map_append, ← List.cons_append, List.map_append]
        rfl
    · rintro σ H' ⟨v3, v4, rfl, sm, ht, hp⟩
      rw [List.take_of_length_le (Nat.le_refl _)] at hp
      refine ⟨⟨_, rfl⟩, _, rfl, _, p, wordsP bs ds, rfl, rfl, .inl (SqL.lst hp), ?_, k H' (s1.trans sm)⟩
      refine Nat.le_trans (join_le _ _ 60 fun y hy => ?_) ?_
      · rcases List.mem_cons.mp hy with rfl | hy
        · exact num_len (label_head hl) h60
        · obtain ⟨z, hz, rfl⟩ := List.mem_map.mp hy
          obtain ⟨a1, a2⟩ := hzb z hz
          have := (pad_of a1 a2 (hzl z hz)).2.2.2.1
          omega
      · have e : ((":" : Str)).length = 1 := by decide
        rw [e]
        unfold wordsP
        rw [List.length_cons, List.length_map, List.length_zip]
        omega
end
end LM

set_option Elab.async false
set_option linter.all false
set_option maxRecDepth 100000
set_option maxHeartbeats 4000000
set_option pp.maxSteps 600
set_option pp.deepTerms false
namespace LM
open PySem PySem.Spec PyProof.Rows L2 RZ
local macro_rules | `(tactic| walk_at "hp") => `(tactic| first | assumption | exact upd_same | (rw [upd_ne (by assumption)]; assumption) | (rw [upd_ne (Ne.symm (by assumption))]; assumption) | (rw [upd_ne (by assumption)]; exact upd_same) | (rw [upd_ne (Ne.symm (by assumption))]; exact upd_same))
local macro_rules | `(tactic| walk_at "sq") => `(tactic| first | assumption | exact Or.inl (Or.inl (by assumption)) | exact Or.inl (Or.inl upd_same) | exact Or.inl (Or.inl (by walk_at "hp")))
local macro_rules | `(tactic| walk_at "ixl") => `(tactic| refine ⟨_, _, _, _, rfl, rfl, (by walk_at "sq"), (by rfl), ?_⟩)
local macro_rules | `(tactic| walk_at "setl") => `(tactic| refine ⟨_, _, _, _, rfl, rfl, (by walk_at "hp"), (by rfl), ?_⟩)
local macro_rules | `(tactic| walk_at "side") => `(tactic| refine idP ?_; first | omega | (show (0 : Int) < _; omega) | (show (0 : Int) < _ ∧ _ < _; omega) | (refine Or.inr ?_; show (-(2 ^ 64) : Int) < _ ∧ _ < _; omega) | (refine Or.inl ?_; show (-(2 ^ 64) : Int) < _ ∧ _ < _; omega) | exact divW (by omega) (by omega) _ | (refine ⟨by decide, by decide, ?_⟩; decide))
local macro_rules | `(tactic| walk_at "go1") => `(tactic| first
  | refine ⟨_, rfl, ?_⟩
  | refine ⟨_, _, rfl, rfl, (by walk_at "side"), ?_⟩
  | refine ⟨_, _, rfl, (by walk_at "side"), ?_⟩
  | refine ⟨_, _, rfl, rfl, ?_⟩
  | refine Or.inl ⟨_, rfl, ?_⟩
  | refine ⟨_, _, rfl, Or.inl (by walk_at "sq"), ?_⟩
  | walk_at "ixl"
  | walk_at "setl"
  | refine ⟨_, _, rfl, (by walk_at "sq"), rfl, ?_⟩
  | refine ⟨_, _, rfl, (by walk_at "sq"), ?_⟩
  | refine ⟨_, _, rfl, ?_⟩
  | refine ⟨rfl, ?_⟩
  | refine ⟨small (Nat.le_of_ble_eq_true rfl), ?_⟩)
local macro_rules | `(tactic| walk_at "go") => `(tactic| repeat walk_at "go1")

abbrev sHouse_frame : Stmt := inClass (topS 57) 8
theorem scHouse_frame : FnScope ["self", "label"] ["self", "label"] (defScope sHouse_frame) := ⟨rfl, rfl, rfl, by decide +kernel, rfl, by decide +kernel, by decide +kernel⟩
abbrev sHouse_written : Stmt := inClass (topS 57) 7
theorem scHouse_written : FnScope ["self", "frame"] ["self", "frame"] (defScope sHouse_written) := ⟨rfl, rfl, rfl, by decide +kernel, rfl, by decide +kernel, by decide +kernel⟩
/-! ### labels and frames by counts -/
section
variable {gs : List Int} {rows : List R3} {cs : List Int} {B : Nat} {c : Nat → Nat} {L : Nat}
theorem Cnt.grp (k : Cnt gs rows cs B c L) (s : Nat) : s / B ≤ bel B c s := by
  have hB := k.hB
  have h : ∀ g, g ≤ sumC B c g := by
    intro g
    induction g with
    | zero => exact Nat.le_refl _
    | succ g ih =>
      have := k.lt g
      show g + 1 ≤ sumC B c g + (B - c g)
      omega
  rw [bel_at (by omega) (fun g => Nat.le_of_lt (k.lt g)) s]
  have := h (s / B)
  omega
/-- a borne place is that of its frame -/
theorem Cnt.back (k : Cnt gs rows cs B c L) {s : Nat} (hs : bor B c s = true) : placeP gs cs ((bel B c s : Nat) : Int) = (s : Int) := by
  obtain ⟨t, h1, h2, h3⟩ := k.place k.pos (bel B c s)
  rw [h1, bel_inj h2 hs h3]
/-- the place of a frame -/
theorem Cnt.at (k : Cnt gs rows cs B c L) (m : Nat) : ∃ s : Nat, placeP gs cs (m : Int) = (s : Int) ∧ bor B c s = true ∧ bel B c s = m ∧ s < (m + 1) * B := by
  obtain ⟨t, h1, h2, h3⟩ := k.place k.pos m
  refine ⟨t, h1, h2, h3, ?_⟩
  have hB := k.hB
  have h4 := k.grp t
  rw [h3] at h4
  have h5 := Nat.div_add_mod t B
  have h6 := Nat.mod_lt t (show 0 < B by omega)
  have h7 : B * (t / B) ≤ B * m := Nat.mul_le_mul_left _ h4
  rw [Nat.succ_mul, Nat.mul_comm]
  omega
end
theorem label_first (bs : List Int) (p : Int) (hb : ∀ x ∈ bs, 2 ≤ x) (hp : 0 ≤ p) : (labelP bs p).headD 0 ≤ p := by
  induction bs using snoc_ind generalizing p with
  | h0 => exact Int.le_refl _
  | h1 l x ih =>
    have hx := hb x (by simp)
    have h1 := ih (p / x) (fun y hy => hb y (List.mem_append_left _ hy)) (Int.ediv_nonneg hp (by omega))
    have h2 : p / x ≤ p := Int.ediv_le_self _ hp
    rw [labelP_snoc, headD_snoc (by rw [labelP_len]; omega)]
    omega
def spFrame (K : PySem.W.Frag) (C : Addr) : Sp := fun vs H Q _ => ∃ (old : Addr → Prop) (p b r : Addr) (bs : List Int) (rows : List R3) (cs : List Int) (B : Nat) (c : Nat → Nat) (L : Nat) (l : Addr) (s : Nat), vs = [.ref p, .ref l] ∧ HouseBy K C old H p b r bs rows cs B c L ∧ SqT K H l ((labelP bs (s : Int)).map V.int) ∧ ∀ H', Same H H' → Q (optV (bearO B c s)) H'
def spSpoken (K : PySem.W.Frag) (C : Addr) : Sp := fun vs H Q _ => ∃ (old : Addr → Prop) (p b r : Addr) (bs : List Int) (rows : List R3) (cs : List Int) (B : Nat) (c : Nat → Nat) (L : Nat) (s : Nat), vs = [.ref p, .str (labelS bs (labelP bs (s : Int)))] ∧ HouseBy K C old H p b r bs rows cs B c L ∧ s < 10 ^ 59 ∧ ∀ H', Same H H' → Q (optV (bearO B c s)) H'
def spWritten (K : PySem.W.Frag) (C : Addr) : Sp := fun vs H Q _ => ∃ (old : Addr → Prop) (p b r : Addr) (bs : List Int) (rows : List R3) (cs : List Int) (n : Int), vs = [.ref p, .int n] ∧ HouseAt K C old H p b r bs rows cs ∧ 0 ≤ n ∧ 0 ≤ placeP bs cs n ∧ placeP bs cs n < 10 ^ 59 ∧ ∀ H', Same H H' → Q (.str (labelS bs (labelP bs (placeP bs cs n)))) H'
theorem hf_nm (b r sk ah rd : Addr) (t : Str) : (hf b r sk ah rd t).lookup ("frame" : Str) = none ∧ (hf b r sk ah rd t).lookup ("spoken" : Str) = none ∧ (hf b r sk ah rd t).lookup ("written" : Str) = none := ⟨hf_no _ _ _ _ _ _ (by decide +kernel) (by decide +kernel) (by decide +kernel) (by decide +kernel) (by decide +kernel) (by decide +kernel), hf_no _ _ _ _ _ _ (by decide +kernel) (by decide +kernel) (by decide +kernel) (by decide +kernel) (by decide +kernel) (by decide +kernel), hf_no _ _ _ _ _ _ (by decide +kernel) (by decide +kernel) (by decide +kernel) (by decide +kernel) (by decide +kernel) (by decide +kernel)⟩
theorem label_len {bs ds : List Int} (h : labelB bs ds = true) (hb : ∀ x ∈ bs, 2 ≤ x ∧ x ≤ 60) (b3 : bs.length ≤ 3) (h59 : ds.headD 0 < 10 ^ 59) : (labelS bs ds).length ≤ 90 ∧ ∀ w ∈ (Txt.split (labelS bs ds) ":").head?, w.length ≤ 59 := by
  have hn : (numS (ds.headD 0)).length ≤ 59 := by
    obtain ⟨m, e⟩ := Int.eq_ofNat_of_zero_le (label_head h)
    rw [e] at h59 ⊢
    have hm : m < 10 ^ 59 := by
      have : ((10 : Int) ^ 59) = ((10 ^ 59 : Nat) : Int) := by decide
      omega
    have e2 : (numS (m : Int)).length = (Nat.toDigits 10 m).length := by
      show (numS (m : Int)).cps.size = _
      rw [← Array.length_toList]
      show (sg (numS (m : Int))).length = _
      rw [sg_num, List.length_map]
    rw [e2]
    exact toDigits_len_pow (by decide) (by decide) hm
  refine ⟨?_, ?_⟩
  · unfold labelS
    rw [join_glued]
    refine Nat.le_trans (StrLaws.join_length_le ":" (wordsP bs ds)) ?_
    have e : ((":" : Str)).length = 1 := by decide
    rw [e]
    unfold wordsP
    have h2 : ((bs.zip ds.tail).map fun p => padS p.1 p.2).length ≤ 3 := by rw [List.length_map, List.length_zip]; omega
    have h3 : ∀ y ∈ (bs.zip ds.tail).map fun p => padS p.1 p.2, y.length ≤ 2 := fun y hy => by
      obtain ⟨z, hz, rfl⟩ := List.mem_map.mp hy
      obtain ⟨a1, a2⟩ := zip_bound h z hz
      exact (pad_of a1 a2 (zip_left (ds := ds.tail) (m := 60) (fun x hx => (hb x hx).2) z hz)).2.2.2.1
    have h4 := join_le ":" _ 2 h3
    rw [List.map_cons, List.sum_cons, List.length_cons]
    rw [e] at h4
    omega
  · rw [label_split h fun x hx => (hb x hx).2]
    intro w hw
    obtain rfl := Option.some.inj (show some (numS (ds.headD 0)) = some w from hw)
    exact hn
section
variable {P : Program} {w : World} {K : PySem.W.Frag} {mg : Str → Option Value} {base : Heap}
theorem ok_frame {f C fB : Addr} {fd fdB : FuncData} (F : Fun K "frame" "House.frame" sHouse_frame f fd) (T : HouseTxt K mg C) (Dis_label : DefK P w K mg base "is_label" ["bases", "value"] 3 (spIsLabel K)) (Dplace_of : DefK P w K mg base "place_of" ["bases", "label"] 1 (spPlaceOf K))
    (mB : Meth K C "_frame_bearing" fB) (GB : FnOk P w K mg base CX0 2 fB fdB ["self", "place"] (spBear K C)) (bB : Binds K fdB ["self", "place"] []) : FnOk P w K mg base CX0 4 f fd ["self", "label"] (spFrame K C) := by
  have sc := scHouse_frame
  refine F.ok sc (fun vs H Q E h => ?_) (fun cdv A outer s H vs Q E hr h => ?_)
  · obtain ⟨old, p, b, r, bs, rows, cs, B, c, L, l, x, rfl, _⟩ := h
    rfl
  · obtain ⟨old, p, b, r, bs, rows, cs, B, c, L, l, x, rfl, ⟨hA, ct⟩, hl, k⟩ := h
    refine ⟨_, (pss_cons (ps_if (pt_not (pt_val (pe_d Dis_label (hr.mono (by decide)) rfl (pa_cons (pe_fld (pv 0) rfl) (pa_cons (pv 1) pa_nil))))) (pss_one ps_never) pss_nil)
      (pss_one (ps_ret (pe_meth (pv 0) T.cl mB GB (hr.mono (by decide)) bB .nil pass0 (pa_cons (pe_d Dplace_of (hr.mono (by decide)) rfl (pa_cons (pe_fld (pv 0) rfl) (pa_cons (pv 1) pa_nil))) pa_nil))))), ?_⟩
    obtain ⟨dx, sk, ah, rd, e1, e2, e3, e4, _, _⟩ := hA.ob
    have fr := hA.fair
    have hb2 : ∀ y ∈ bs, 2 ≤ y := fun y hy => (fr.bb y hy).1
    have hok := label_ok bs (x : Int) hb2 (by omega)
    refine ⟨_, rfl, p, C, dx, _, _, rfl, e1, T.cl, T.nB, hf_bases _ _ _ _ _ _, _, rfl, b, l, bs, _, rfl, hA.bt, hl, fr.b0, fr.b3, fun H1 s1 => ⟨_, rfl, ?_⟩⟩
    rw [hok]
    refine iteF ?_
    have e1' := s1 _ _ e1
    refine ⟨_, rfl, p, dx, _, rfl, e1', hf_fb _ _ _ _ _ _, ?_⟩
    refine ⟨_, rfl, p, C, dx, _, _, rfl, e1', T.cl, T.nB, hf_bases _ _ _ _ _ _, _, rfl, b, l, bs, _, rfl, Same.seqT s1 hA.bt, Same.seqT s1 hl, labelP_len _ _, fr.b3, fr.bb, fun H2 s2 => ?_⟩
    rw [place_label bs (x : Int) hb2]
    exact ⟨old, p, b, r, bs, rows, cs, B, c, L, x, rfl, ⟨hA.same (s1.trans s2), ct⟩, fun H3 s3 => k H3 ((s1.trans s2).trans s3)⟩
theorem ok_written {f C fP : Addr} {fd fdP : FuncData} (F : Fun K "written" "House.written" sHouse_written f fd) (T : HouseTxt K mg C) (Dcheck_number : DefK P w K mg base "check_number" ["given"] 3 spChkNum) (Dlabel_at : DefK P w K mg base "label_at" ["bases", "place"] 1 (spLabelAt K)) (Dwritten_label : DefK P w K mg base "written_label" ["bases", "label"] 2 (spLabelText K))
    (mP : Meth K C "_place_borne" fP) (GP : FnOk P w K mg base CX0 2 fP fdP ["self", "frame"] (spPlaceM K C)) (bP : Binds K fdP ["self", "frame"] []) : FnOk P w K mg base CX0 4 f fd ["self", "frame"] (spWritten K C) := by
  have sc := scHouse_written
  refine F.ok sc (fun vs H Q E h => ?_) (fun cdv A outer s H vs Q E hr h => ?_)
  · obtain ⟨old, p, b, r, bs, rows, cs, n, rfl, _⟩ := h
    rfl
  · obtain ⟨old, p, b, r, bs, rows, cs, n, rfl, hA, hn, hp0, hp1, k⟩ := h
    refine ⟨_, (pss_cons (ps_expr (pe_d Dcheck_number (hr.mono (by decide)) rfl (pa_cons (pv 1) pa_nil)))
      (pss_one (ps_ret (pe_d Dwritten_label (hr.mono (by decide)) rfl (pa_cons (pe_fld (pv 0) rfl) (pa_cons (pe_d Dlabel_at (hr.mono (by decide)) rfl (pa_cons (pe_fld (pv 0) rfl) (pa_cons (pe_meth (pv 0) T.cl mP GP (hr.mono (by decide)) bP .nil pass0 (pa_cons (pv 1) pa_nil)) pa_nil))) pa_nil)))))), ?_⟩
    obtain ⟨dx, sk, ah, rd, e1, e2, e3, e4, _, _⟩ := hA.ob
    have fr := hA.fair
    have hb2 : ∀ y ∈ bs, 2 ≤ y := fun y hy => (fr.bb y hy).1
    have hok := label_ok bs (placeP bs cs n) hb2 hp0
    have hfirst := label_first bs (placeP bs cs n) hb2 hp0
    refine ⟨_, rfl, n, rfl, hn, ?_⟩
    refine ⟨_, rfl, p, C, dx, _, _, rfl, e1, T.cl, T.nB, hf_bases _ _ _ _ _ _, _, rfl, p, C, dx, _, _, rfl, e1, T.cl, T.nB, hf_bases _ _ _ _ _ _, ?_⟩
    refine ⟨_, rfl, p, dx, _, rfl, e1, hf_place _ _ _ _ _ _, _, rfl, old, p, b, r, bs, rows, cs, n, rfl, hA, hn, fun H1 s1 => ?_⟩
    refine ⟨b, bs, _, rfl, Same.seqT s1 hA.bt, fr.b3, fr.bb, fun t H2 s2 nt et => ?_⟩
    exact ⟨b, t, bs, _, rfl, Same.seqT (s1.trans s2) hA.bt, SqT.tup et, hok, fr.b3, fr.bb, Int.lt_of_le_of_lt hfirst (Int.lt_of_lt_of_le hp1 (by decide)), fun H3 s3 => k H3 ((s1.trans s2).trans s3)⟩
end
end LM

set_option Elab.async false
set_option linter.all false
set_option maxRecDepth 100000
set_option maxHeartbeats 4000000
set_option pp.maxSteps 600
set_option pp.deepTerms false
namespace LM
open PySem PySem.Spec PyProof.Rows L2 RZ
local macro_rules | `(tactic| walk_at "hp") => `(tactic| first | assumption | exact upd_same | (rw [upd_ne (by assumption)]; assumption) | (rw [upd_ne (Ne.symm (by assumption))]; assumption) | (rw [upd_ne (by assumption)]; exact upd_same) | (rw [upd_ne (Ne.symm (by assumption))]; exact upd_same))
local macro_rules | `(tactic| walk_at "sq") => `(tactic| first | assumption | exact Or.inl (Or.inl (by assumption)) | exact Or.inl (Or.inl upd_same) | exact Or.inl (Or.inl (by walk_at "hp")))
local macro_rules | `(tactic| walk_at "ixl") => `(tactic| refine ⟨_, _, _, _, rfl, rfl, (by walk_at "sq"), (by rfl), ?_⟩)
local macro_rules | `(tactic| walk_at "setl") => `(tactic| refine ⟨_, _, _, _, rfl, rfl, (by walk_at "hp"), (by rfl), ?_⟩)
local macro_rules | `(tactic| walk_at "side") => `(tactic| refine idP ?_; first | omega | (show (0 : Int) < _; omega) | (show (0 : Int) < _ ∧ _ < _; omega) | (refine Or.inr ?_; show (-(2 ^ 64) : Int) < _ ∧ _ < _; omega) | (refine Or.inl ?_; show (-(2 ^ 64) : Int) < _ ∧ _ < _; omega) | exact divW (by omega) (by omega) _ | (refine ⟨by decide, by decide, ?_⟩; decide))
local macro_rules | `(tactic| walk_at "go1") => `(tactic| first
  | refine ⟨_, rfl, ?_⟩
  | refine ⟨_, _, rfl, rfl, (by walk_at "side"), ?_⟩
  | refine ⟨_, _, rfl, (by walk_at "side"), ?_⟩
  | refine ⟨_, _, rfl, rfl, ?_⟩
  | refine Or.inl ⟨_, rfl, ?_⟩
  | refine ⟨_, _, rfl, Or.inl (by walk_at "sq"), ?_⟩
  | walk_at "ixl"
  | walk_at "setl"
  | refine ⟨_, _, rfl, (by walk_at "sq"), rfl, ?_⟩
  | refine ⟨_, _, rfl, (by walk_at "sq"), ?_⟩
  | refine ⟨_, _, rfl, ?_⟩
  | refine ⟨rfl, ?_⟩
  | refine ⟨small (Nat.le_of_ble_eq_true rfl), ?_⟩)
local macro_rules | `(tactic| walk_at "go") => `(tactic| repeat walk_at "go1")

abbrev sHouse_frames_at : Stmt := inClass (topS 57) 12
theorem scHouse_frames_at : FnScope ["self", "places", "way", "base", "frames", "first", "borne", "behind", "place", "group"] ["self", "places", "way"] (defScope sHouse_frames_at) := ⟨rfl, rfl, rfl, by decide +kernel, rfl, by decide +kernel, by decide +kernel⟩
theorem natL_snoc (l : List Nat) (k : Nat) : natL (l ++ [k]) = natL l ++ [V.int (k : Int)] := List.map_append
theorem seq_joinC {t1 t2 : TS} {D : Ends} {σ : L2.St} {H : Hp} (J : L2.St → Hp → Prop) (h1 : ∀ D' : Ends, (∀ σ' H', J σ' H' → D'.nx σ' H') → t1 D' σ H) (h2 : ∀ σ' H', J σ' H' → t2 D σ' H') : tSeq t1 t2 D σ H := h1 _ h2
theorem g_nx {i : Nat} {v : V} {σ : L2.St} {H : Hp} {D : L2.St → Hp → Prop} (h : D (σ.set i (some v)) H) : gName i v σ H D := h
theorem near_at {B : Nat} {c : Nat → Nat} (hB : 0 < B) (hc : ∀ g, c g ≤ B) (s : Nat) (nx : Bool) : nearI B c s nx = if (s / B * B + c (s / B) : Nat) ≤ s then ((sumC B c (s / B) : Nat) : Int) + (s : Int) - ((s / B * B + c (s / B) : Nat) : Int) else if nx = true then ((sumC B c (s / B) : Nat) : Int) else ((sumC B c (s / B) : Nat) : Int) - 1 := by
  have h := bel_at hB hc s
  have hd := Nat.div_add_mod' s B
  unfold nearI bor
  by_cases hk : c (s / B) ≤ s % B
  · rw [if_pos (Or.inr (decide_eq_true hk)), if_pos (by omega)]
    omega
  · rw [if_neg (show ¬ (s / B * B + c (s / B) ≤ s) by omega)]
    have e : bel B c s = sumC B c (s / B) := by omega
    rw [e]
    cases nx with
    | true => rw [if_pos (Or.inl rfl), if_pos rfl]
    | false => rw [if_neg (fun z => by rcases z with z | z; exact Bool.false_ne_true z; exact hk (of_decide_eq_true z)), if_neg Bool.false_ne_true]
/-- the group that was looked up last -/
def Looked (B : Nat) (c : Nat → Nat) (rest : List Nat) (fi bo be : Int) : Prop := be = 0 ∨ ∃ G : Nat, fi = ((sumC B c G : Nat) : Int) ∧ bo = ((G * B + c G : Nat) : Int) ∧ be = (((G + 1) * B : Nat) : Int) ∧ ∀ s ∈ rest, G * B ≤ s
/-- the values for places -/
def nearL (B : Nat) (c : Nat → Nat) (nx : Bool) (ss : List Nat) : List V := (ss.map fun s => nearI B c s nx).map V.int
def spFramesAt (K : PySem.W.Frag) (C : Addr) : Sp := fun vs H Q _ => ∃ (old : Addr → Prop) (p b r l : Addr) (bs : List Int) (rows : List R3) (cs : List Int) (B : Nat) (c : Nat → Nat) (L : Nat) (ss : List Nat) (nx : Bool), vs = [.ref p, .ref l, .str (wayS nx)] ∧ HouseBy K C old H p b r bs rows cs B c L ∧ SqL K H l (natL ss) ∧ ss.Pairwise (· ≤ ·) ∧ ss.length ≤ 30000 ∧
  ∀ q H', Same H H' → H q = none → H' q = some (.lst (nearL B c nx ss)) → Q (.ref q) H'
section
variable {P : Program} {w : World} {K : PySem.W.Frag} {mg : Str → Option Value} {base : Heap}
theorem ok_framesat {f C fF : Addr} {fd fdF : FuncData} (F : Fun K "frames_at" "House.frames_at" sHouse_frames_at f fd) (T : HouseTxt K mg C) (N : Names mg)
    (mF : Meth K C "_first_frame" fF) (GF : FnOk P w K mg base CX0 1 fF fdF ["self", "group"] (spFirst K C)) (bF : Binds K fdF ["self", "group"] []) : FnOk P w K mg base CX0 2 f fd ["self", "places", "way"] (spFramesAt K C) := by
  have sc := scHouse_frames_at
  refine F.ok sc (fun vs H Q E h => ?_) (fun cdv A outer s H vs Q E hr h => ?_)
  · obtain ⟨old, p, b, r, l, bs, rows, cs, B, c, L, ss, nx, rfl, _⟩ := h
    rfl
  · obtain ⟨old, p, b, r, l, bs, rows, cs, B, c, L, ss, nx, rfl, hB, hl, hpw, hln, k⟩ := h
    refine ⟨_, (pss_cons (ps_set (i := 3) sc.nd rfl (Or.inl rfl) (pe_ix ix_tup (pe_fld (pv 0) rfl) (pe_un un_neg pe_int) (fun _ _ => rfl)))
      (pss_cons (ps_set (i := 4) sc.nd rfl (Or.inl rfl) (pe_lst pa_nil))
      (pss_cons (ps_asg3 pe_int (pg_name (i := 5) sc.nd rfl (Or.inl rfl)) (pg_name (i := 6) sc.nd rfl (Or.inl rfl)) (pg_name (i := 7) sc.nd rfl (Or.inl rfl)))
      (pss_cons (ps_for PassesOwn.never rfl (pi_list (pv 1)) (pg_name (i := 8) sc.nd rfl (Or.inl rfl)) (pss_cons (ps_if (pt_cmpR op_ge (pv 8) (pv 7) (nomark _)) (pss_cons (ps_set (i := 9) sc.nd rfl (Or.inl rfl) (pe_op op_fdiv (pv 8) (pv 3)))
      (pss_cons (ps_set (i := 5) sc.nd rfl (Or.inl rfl) (pe_meth (pv 0) T.cl mF GF (hr.mono (by decide)) bF .nil pass0 (pa_cons (pv 9) pa_nil)))
      (pss_cons (ps_set (i := 6) sc.nd rfl (Or.inl rfl) (pe_op op_add (pe_op op_mul (pv 9) (pv 3)) (pe_ix ix_list (pe_fld (pv 0) rfl) (pe_op op_mod (pv 9) (pe_ix ix_tup (pe_fld (pv 0) rfl) pe_int (fun _ _ => rfl))) (fun _ _ => rfl))))
      (pss_one (ps_set (i := 7) sc.nd rfl (Or.inl rfl) (pe_op op_mul (pe_op op_add (pv 9) pe_int) (pv 3))))))) pss_nil)
      (pss_one (ps_if (pt_cmpR op_ge (pv 8) (pv 6) (nomark _)) (pss_one (ps_expr (pe_bm PySem.F.plainAttrs_list PySem.F.slot_list_append PySem.F.type_list_append mt_append (pv 4) (pa_cons (pe_op op_sub (pe_op op_add (pv 5) (pv 8)) (pv 6)) pa_nil)))) (pss_one (ps_expr (pe_bm PySem.F.plainAttrs_list PySem.F.slot_list_append PySem.F.type_list_append mt_append (pv 4) (pa_cons (pe_ifExp (pt_cmpR op_eq (pv 2) pe_str (nomark _)) (pv 5) (pe_op op_sub (pv 5) pe_int)) pa_nil))))))))
      (pss_one (ps_ret (pv 4))))))), ?_⟩
    obtain ⟨hA, ct⟩ := id hB
    obtain ⟨⟨dx, sk, ah, rd, e1, e2, e3, e4, _, _⟩, bt, rt, fr, _⟩ := id hA
    rw [ct.total, ct.len] at e4
    have hL := ct.hL
    have hL7 := ct.hL7
    have hB2 := ct.hB
    have hB6 := ct.hB6
    refine ⟨_, rfl, p, C, dx, _, _, rfl, e1, T.cl, T.nB, hf_bases _ _ _ _ _ _, _, rfl, b, _, _, _, rfl, rfl, bt, getLastD_map bs fr.b0, ?_⟩
    rw [ct.last]
    refine ⟨Nat.le_of_ble_eq_true rfl, ?_⟩
    (intro q nq; generalize e_q : upd H q _ = H1; have s1 : Same H H1 := fun b x hb => (congrFun e_q b).symm.trans (same_new nq b x hb); have h1 := (congrFun e_q q).symm.trans upd_same; clear e_q)
    refine ⟨_, rfl, l, rfl, ⟨_, s1.seq hl⟩, for_list (K := K) (xs := natL ss) (fun i σ H' => ∃ (fi bo be : Int) (v8 v9 : Option V), σ = [some (.ref p), some (.ref l), some (.str (wayS nx)), some (.int (B : Int)), some (.ref q), some (.int fi), some (.int bo), some (.int be), v8, v9] ∧ Same H H' ∧ H' q = some (.lst (nearL B c nx (ss.take i))) ∧ Looked B c (ss.drop i) fi bo be)
      ⟨0, 0, 0, _, _, rfl, s1, h1, .inl rfl⟩ (fun i σ H' _ ⟨_, _, _, _, _, _, sm, _⟩ => sm.seq hl) ?_ ?_⟩
    · rintro i x σ H2 hx ⟨fi, bo, be, v8, v9, rfl, s2, hq, lk⟩
      obtain ⟨s, hs, rfl⟩ : ∃ s, ss[i]? = some s ∧ x = V.int (s : Int) := by
        unfold natL at hx
        rw [List.getElem?_map] at hx
        obtain ⟨z, hz, e⟩ := Option.map_eq_some_iff.mp hx
        exact ⟨z, hz, e.symm⟩
      obtain ⟨hil, hse⟩ := List.getElem?_eq_some_iff.mp hs
      have hdrop : ss.drop i = s :: ss.drop (i + 1) := by rw [List.drop_eq_getElem_cons hil, hse]
      have hafter : ∀ t ∈ ss.drop (i + 1), s ≤ t := by
        have h := hpw.sublist (List.drop_sublist i ss)
        rw [hdrop] at h
        exact (List.pairwise_cons.mp h).1
      refine g_nx ?_
      dsimp only
      refine seq_joinC (fun σ' H' => ∃ (v9 : Option V), σ' = [some (.ref p), some (.ref l), some (.str (wayS nx)), some (.int (B : Int)), some (.ref q), some (.int ((sumC B c (s / B) : Nat) : Int)), some (.int ((s / B * B + c (s / B) : Nat) : Int)), some (.int (((s / B + 1) * B : Nat) : Int)), some (.int (s : Int)), v9] ∧ Same H H' ∧ H' q = some (.lst (nearL B c nx (ss.take i)))) (fun D' kj => ?_) (fun σ' H' hj => ?_)
      · refine ⟨_, rfl, _, rfl, _, _, rfl, rfl, _, rfl, ?_⟩
        refine ifD (fun hd => ?_) (fun hd => ?_)
        · have e1' := s2 _ _ e1
          have e2' := s2 _ _ e2
          have e4' := s2 _ _ e4
          have hm : s / B % L < L := Nat.mod_lt _ hL
          have hsk : atI (cs.map V.int) ((s : Int) / (B : Int) % (L : Int)) = some (V.int ((c (s / B) : Nat) : Int)) := by
            have h1 := c_mul ct.per (s / B / L) (s / B % L)
            rw [Nat.mod_add_div] at h1
            rw [← Int.natCast_ediv, ← Int.natCast_emod, atI_getD (by omega) (by rw [ct.len]; omega), Int.toNat_natCast, ct.skipped hm, h1]
          refine ⟨_, rfl, _, rfl, _, _, rfl, rfl, ⟨by omega, by omega⟩, ?_⟩
          refine ⟨_, rfl, p, dx, _, rfl, e1', hf_ff _ _ _ _ _ _, _, rfl, old, p, b, r, bs, rows, cs, B, c, L, s / B, (by rw [Int.natCast_ediv]; rfl), ⟨hA.same s2, ct⟩, fun H3 s3 => ?_⟩
          have s23 := s2.trans s3
          have e1'' := s23 _ _ e1
          refine ⟨_, rfl, _, rfl, _, _, rfl, rfl, .inr ⟨by omega, by omega⟩, ?_⟩
          refine ⟨_, rfl, p, C, dx, _, _, rfl, e1'', T.cl, T.nS, hf_skipped _ _ _ _ _ _, _, rfl, _, rfl, p, C, dx, _, _, rfl, e1'', T.cl, T.nD, hf_round _ _ _ _ _ _, rd, _, _, _, rfl, rfl, SqT.tup (s23 _ _ e4), rfl, _, _, rfl, rfl, (by show (0 : Int) < _; omega), sk, _, _, _, rfl, rfl, SqL.lst (s23 _ _ e2), hsk, _, _, rfl, rfl, ?_⟩
          refine ⟨_, rfl, _, _, rfl, rfl, _, rfl, _, _, rfl, rfl, .inr ⟨by omega, by omega⟩, ?_⟩
          refine kj _ _ ⟨some (.int ((s : Int) / (B : Int))), ?_, s23, s3 _ _ hq⟩
          have x1 : (s : Int) / (B : Int) * (B : Int) + ((c (s / B) : Nat) : Int) = ((s / B * B + c (s / B) : Nat) : Int) := by
            rw [Int.natCast_add, Int.natCast_mul, Int.natCast_ediv]
          have x2 : ((s : Int) / (B : Int) + 1) * (B : Int) = (((s / B + 1) * B : Nat) : Int) := by
            rw [Int.natCast_mul, Int.natCast_add, Int.natCast_ediv]
            rfl
          rw [← x1, ← x2]
          rfl
        · rcases lk with h0 | ⟨G, g1, g2, g3, g4⟩
          · exact absurd (by omega) hd
          · have hG := g4 s (by rw [hdrop]; exact List.mem_cons_self)
            have eG : s / B = G := by
              have : s < (G + 1) * B := by omega
              refine Nat.div_eq_of_lt_le hG this
            rw [g1, g2, g3, ← eG]
            exact kj _ _ ⟨_, rfl, s2, hq⟩
      · obtain ⟨v9, rfl, s3, hq3⟩ := hj
        have nr := near_at (B := B) (c := c) (by omega) (fun g => Nat.le_of_lt (ct.lt g)) s nx
        have hlk : Looked B c (ss.drop (i + 1)) ((sumC B c (s / B) : Nat) : Int) ((s / B * B + c (s / B) : Nat) : Int) (((s / B + 1) * B : Nat) : Int) := .inr ⟨s / B, rfl, rfl, rfl, fun t ht => Nat.le_trans (Nat.div_mul_le_self s B) (hafter t ht)⟩
        have hnl : ∀ y : Int, y = nearI B c s nx → nearL B c nx (ss.take i) ++ [V.int y] = nearL B c nx (ss.take (i + 1)) := by
          rintro y rfl
          unfold nearL
          rw [List.take_add_one, hs, List.map_append, List.map_append]
          rfl
        have hz : (nearL B c nx (ss.take i)).length < sizeLine := smallLt (by unfold nearL; rw [List.length_map, List.length_map, List.length_take]; omega)
        refine ⟨_, rfl, _, rfl, _, _, rfl, rfl, _, rfl, ?_⟩
        refine ifD (fun hd => ?_) (fun hd => ?_)
        · rw [if_pos (by omega)] at nr
          refine ⟨_, rfl, .inl ⟨rfl, _, SqL.lst hq3⟩, _, rfl, _, rfl, _, _, rfl, rfl, _, rfl, _, _, rfl, rfl, q, _, _, rfl, rfl, hq3, hz, ?_⟩
          refine ⟨_, _, _, _, _, rfl, same_mut s3 nq, ?_, hlk⟩
          rw [upd_same]
          exact congrArg (fun z => some (HO.lst z)) (hnl _ nr.symm)
        · rw [if_neg (by omega)] at nr
          refine ⟨_, rfl, .inl ⟨rfl, _, SqL.lst hq3⟩, _, rfl, rfl, _, rfl, ?_⟩
          cases nx with
          | true =>
            rw [if_pos rfl] at nr
            refine ifD (fun _ => ⟨_, rfl, q, _, _, rfl, rfl, hq3, hz, ?_⟩) (fun hd => absurd rfl hd)
            refine ⟨_, _, _, _, _, rfl, same_mut s3 nq, ?_, hlk⟩
            rw [upd_same]
            exact congrArg (fun z => some (HO.lst z)) (hnl _ nr.symm)
          | false =>
            rw [if_neg Bool.false_ne_true] at nr
            refine ifD (fun hd => absurd (V.str.inj hd) (by decide +kernel)) (fun _ => ⟨_, rfl, _, _, rfl, rfl, q, _, _, rfl, rfl, hq3, hz, ?_⟩)
            refine ⟨_, _, _, _, _, rfl, same_mut s3 nq, ?_, hlk⟩
            rw [upd_same]
            exact congrArg (fun z => some (HO.lst z)) (hnl _ nr.symm)
    · rintro σ H' ⟨fi, bo, be, v8, v9, rfl, s2, hq, _⟩
      unfold natL at hq
      rw [List.length_map, List.take_of_length_le (Nat.le_refl _)] at hq
      exact ⟨_, rfl, k q H' s2 nq hq⟩
end
end LM

set_option Elab.async false
set_option linter.all false
set_option maxRecDepth 100000
set_option maxHeartbeats 4000000
set_option pp.maxSteps 600
set_option pp.deepTerms false
namespace LM
open PySem PySem.Spec PyProof.Rows L2
local macro_rules | `(tactic| walk_at "hp") => `(tactic| first | assumption | exact upd_same | (rw [upd_ne (by assumption)]; assumption) | (rw [upd_ne (Ne.symm (by assumption))]; assumption) | (rw [upd_ne (by assumption)]; exact upd_same) | (rw [upd_ne (Ne.symm (by assumption))]; exact upd_same))
local macro_rules | `(tactic| walk_at "sq") => `(tactic| first | assumption | exact Or.inl (Or.inl (by assumption)) | exact Or.inl (Or.inl upd_same) | exact Or.inl (Or.inl (by walk_at "hp")))
local macro_rules | `(tactic| walk_at "ixl") => `(tactic| refine ⟨_, _, _, _, rfl, rfl, (by walk_at "sq"), (by rfl), ?_⟩)
local macro_rules | `(tactic| walk_at "setl") => `(tactic| refine ⟨_, _, _, _, rfl, rfl, (by walk_at "hp"), (by rfl), ?_⟩)
local macro_rules | `(tactic| walk_at "side") => `(tactic| refine idP ?_; first | omega | (show (0 : Int) < _; omega) | (show (0 : Int) < _ ∧ _ < _; omega) | (refine Or.inr ?_; show (-(2 ^ 64) : Int) < _ ∧ _ < _; omega) | (refine Or.inl ?_; show (-(2 ^ 64) : Int) < _ ∧ _ < _; omega) | exact divW (by omega) (by omega) _ | (refine ⟨by decide, by decide, ?_⟩; decide))
local macro_rules | `(tactic| walk_at "go1") => `(tactic| first
  | refine ⟨_, rfl, ?_⟩
  | refine ⟨_, _, rfl, rfl, (by walk_at "side"), ?_⟩
  | refine ⟨_, _, rfl, (by walk_at "side"), ?_⟩
  | refine ⟨_, _, rfl, rfl, ?_⟩
  | refine Or.inl ⟨_, rfl, ?_⟩
  | refine ⟨_, _, rfl, Or.inl (by walk_at "sq"), ?_⟩
  | walk_at "ixl"
  | walk_at "setl"
  | refine ⟨_, _, rfl, (by walk_at "sq"), rfl, ?_⟩
  | refine ⟨_, _, rfl, (by walk_at "sq"), ?_⟩
  | refine ⟨_, _, rfl, ?_⟩
  | refine ⟨rfl, ?_⟩
  | refine ⟨small (Nat.le_of_ble_eq_true rfl), ?_⟩)
local macro_rules | `(tactic| walk_at "go") => `(tactic| repeat walk_at "go1")

/-- a house with the bases at g -/
def spHouseL (K : PySem.W.Frag) : Sp := fun vs H Q _ => ∃ (p g : Addr) (gs : List Int), vs = [.ref p, .ref g] ∧ VaseAt H p ∧ g ≠ p ∧ SqL K H g (gs.map V.int) ∧ 1 ≤ gs.length ∧ gs.length ≤ 3 ∧ (∀ x ∈ gs, 2 ≤ x ∧ x ≤ 60) ∧ unitL gs ≤ 600 ∧
  ∀ (d l : Addr) (rows : List R3) (H' : Hp), H d = none → SqL K H' g (gs.map V.int) → LanesIn K H' l rows → HomeAt (fun q => q = p) H' d g l gs rows → Fair gs rows → everyL rows ≤ 12 → VaseAt H' p → Else p H H' → Q (.ref d) H'
def orH (a b : Sp) : Sp := fun vs H Q E => a vs H Q E ∨ b vs H Q E
theorem FnOk.orh {P : Program} {w : World} {K : PySem.W.Frag} {mg : Str → Option Value} {base : Heap} {CX : CXT} {k : Nat} {f : Addr} {fd : FuncData} {ps : List Str} {a b : Sp} (A : FnOk P w K mg base CX k f fd ps a) (B : FnOk P w K mg base CX k f fd ps b) : FnOk P w K mg base CX k f fd ps (orH a b) := by
  constructor
  · exact fun vs H Q E h => h.elim (A.len _ _ _ _) (B.len _ _ _ _)
  · exact fun Ar outer s H ag us vs Q E hr e0 hb r h => h.elim (A.run Ar outer s H ag us vs Q E hr e0 hb r) (B.run Ar outer s H ag us vs Q E hr e0 hb r)
theorem fair_of {gs : List Int} {rows : List R3} (g0 : 1 ≤ gs.length) (g3 : gs.length ≤ 3) (gb : ∀ x ∈ gs, 2 ≤ x ∧ x ≤ 60) (hU : unitL gs ≤ 600) (hrl : rows.length ≤ 3) (hro : ∀ r ∈ rows, RowOk 4 gs r) : Fair gs rows := by
  have hE : everyL rows ≤ 12 := every_12' fun r hm => ⟨(hro r hm).2.2.1, (hro r hm).2.2.2.1⟩
  exact ⟨g0, g3, gb, by omega, fun x hx => ⟨(hro x hx).1, (hro x hx).2.1, (hro x hx).2.2.1, by have := (hro x hx).2.2.2.1; omega, (hro x hx).2.2.2.2⟩, Nat.le_trans (Nat.mul_le_mul hU hE) (by decide)⟩
/-- the law's own house, by its counts, the groups told -/
def HomeC (old : Addr → Prop) (H : Hp) (d g l : Addr) (B : Nat) (c : Nat → Nat) (L : Nat) : Prop := ∃ (sp be : Addr), H d = some (.dK [(Sum.inr "ground", .ref g), (Sum.inr "lanes", .ref l), (Sum.inr "groups", .int (L : Int)), (Sum.inr "spots", .ref sp), (Sum.inr "below", .ref be)]) ∧
  H sp = some (.lst (natL ((List.range (L * B)).filter (bor B c)))) ∧ H be = some (.lst (natL ((List.range (L * B)).map (bel B c)))) ∧ ¬ old sp ∧ ¬ old be
theorem HomeC.by {old : Addr → Prop} {H : Hp} {d g l : Addr} {B : Nat} {c : Nat → Nat} {L : Nat} (h : HomeC old H d g l B c L) : HomeBy old H d g l B c L := by
  obtain ⟨sp, be, h⟩ := h
  exact ⟨_, sp, be, h⟩
theorem HomeAt.cby {old : Addr → Prop} {H : Hp} {d g l : Addr} {gs : List Int} {rows : List R3} {cs : List Int} {B : Nat} {c : Nat → Nat} {L : Nat} (h : HomeAt old H d g l gs rows) (k : Cnt gs rows cs B c L) (fr : Fair gs rows) : HomeC old H d g l B c L := by
  obtain ⟨s, b, cs', n, e1, e2, e3, e4, e5, e6, e7⟩ := h
  have eb : (gs.getLastD 1).toNat = B := by have := k.last; omega
  have e3' : cs' = gapsL gs rows (groupsP gs rows) := by rw [e3, e2]; rfl
  rw [e3', (k.size fr).1] at e1
  rw [eb, e3', (k.size fr).1] at e4 e5
  rw [k.spots fr (Nat.le_refl _)] at e4
  rw [k.below fr] at e5
  exact ⟨s, b, e1, e4, e5, e6, e7⟩
theorem HomeC.same {old : Addr → Prop} {H H' : Hp} {d g l : Addr} {B : Nat} {c : Nat → Nat} {L : Nat} (h : HomeC old H d g l B c L) (s : Same H H') : HomeC old H' d g l B c L := by
  obtain ⟨sp, be, e1, e2, e3, e4, e5⟩ := h
  exact ⟨sp, be, s _ _ e1, s _ _ e2, s _ _ e3, e4, e5⟩
theorem HomeC.els {old : Addr → Prop} {H H' : Hp} {d g l q : Addr} {B : Nat} {c : Nat → Nat} {L : Nat} (h : HomeC old H d g l B c L) (hd : d ≠ q) (hq : old q) (e : Else q H H') : HomeC old H' d g l B c L := by
  obtain ⟨sp, be, e1, e2, e3, e4, e5⟩ := h
  exact ⟨sp, be, e _ _ hd e1, e _ _ (fun z => e4 (z ▸ hq)) e2, e _ _ (fun z => e5 (z ▸ hq)) e3, e4, e5⟩
theorem VaseAt.here {H : Hp} {p : Addr} (h : VaseAt H p) : H p ≠ none := by
  obtain ⟨_, _, _, _, _, _, q⟩ := h
  rw [q]
  exact fun z => nomatch z
def spClockHome (K : PySem.W.Frag) : Sp := fun vs H Q _ => ∃ (p : Addr), vs = [.ref p] ∧ VaseAt H p ∧
  ∀ (d g l : Addr) (gs : List Int) (rows : List R3) (H' : Hp), d ≠ p → g ≠ p → SqL K H' g (gs.map V.int) → LanesIn K H' l rows → HomeAt (fun q => q = p) H' d g l gs rows → Fair gs rows → unitL gs * (gs.getLastD 1).toNat * everyL rows ≤ 1200 → VaseAt H' p → Else p H H' → Q (.ref d) H'
section
variable {P : Program} {w : World} {K : PySem.W.Frag} {mg : Str → Option Value} {base : Heap}
end
end LM

set_option Elab.async false
set_option linter.all false
set_option maxRecDepth 100000
set_option maxHeartbeats 4000000
set_option pp.maxSteps 600
set_option pp.deepTerms false
namespace LM
open PySem PySem.Spec PyProof.Rows L2 RZ
local macro_rules | `(tactic| walk_at "hp") => `(tactic| first | assumption | exact upd_same | (rw [upd_ne (by assumption)]; assumption) | (rw [upd_ne (Ne.symm (by assumption))]; assumption) | (rw [upd_ne (by assumption)]; exact upd_same) | (rw [upd_ne (Ne.symm (by assumption))]; exact upd_same))
local macro_rules | `(tactic| walk_at "sq") => `(tactic| first | assumption | exact Or.inl (Or.inl (by assumption)) | exact Or.inl (Or.inl upd_same) | exact Or.inl (Or.inl (by walk_at "hp")))
local macro_rules | `(tactic| walk_at "ixl") => `(tactic| refine ⟨_, _, _, _, rfl, rfl, (by walk_at "sq"), (by rfl), ?_⟩)
local macro_rules | `(tactic| walk_at "setl") => `(tactic| refine ⟨_, _, _, _, rfl, rfl, (by walk_at "hp"), (by rfl), ?_⟩)
local macro_rules | `(tactic| walk_at "side") => `(tactic| refine idP ?_; first | omega | (show (0 : Int) < _; omega) | (show (0 : Int) < _ ∧ _ < _; omega) | (refine Or.inr ?_; show (-(2 ^ 64) : Int) < _ ∧ _ < _; omega) | (refine Or.inl ?_; show (-(2 ^ 64) : Int) < _ ∧ _ < _; omega) | exact divW (by omega) (by omega) _ | (refine ⟨by decide, by decide, ?_⟩; decide))
local macro_rules | `(tactic| walk_at "go1") => `(tactic| first
  | refine ⟨_, rfl, ?_⟩
  | refine ⟨_, _, rfl, rfl, (by walk_at "side"), ?_⟩
  | refine ⟨_, _, rfl, (by walk_at "side"), ?_⟩
  | refine ⟨_, _, rfl, rfl, ?_⟩
  | refine Or.inl ⟨_, rfl, ?_⟩
  | refine ⟨_, _, rfl, Or.inl (by walk_at "sq"), ?_⟩
  | walk_at "ixl"
  | walk_at "setl"
  | refine ⟨_, _, rfl, (by walk_at "sq"), rfl, ?_⟩
  | refine ⟨_, _, rfl, (by walk_at "sq"), ?_⟩
  | refine ⟨_, _, rfl, ?_⟩
  | refine ⟨rfl, ?_⟩
  | refine ⟨small (Nat.le_of_ble_eq_true rfl), ?_⟩)
local macro_rules | `(tactic| walk_at "go") => `(tactic| repeat walk_at "go1")

theorem hf_plc (b r sk ah rd : Addr) (t : Str) : (hf b r sk ah rd t).lookup ("place" : Str) = none := hf_no _ _ _ _ _ _ (by decide +kernel) (by decide +kernel) (by decide +kernel) (by decide +kernel) (by decide +kernel) (by decide +kernel)
def spChkHouse (C : Addr) : Sp := fun vs H Q _ => ∃ (p : Addr) (dx : Addr) (fs : List (Str × V)), vs = [.ref p] ∧ H p = some (.ins C dx fs) ∧ Q .non H
def PaceAt (K : PySem.W.Frag) (H : Hp) (q : Addr) (a b : Int) : Prop := SqT K H q [.int a, .int b] ∧ 1 ≤ a ∧ a ≤ 1000000 ∧ 1 ≤ b ∧ b ≤ 1000000
theorem PaceAt.same {K : PySem.W.Frag} {H H' : Hp} {q : Addr} {a b : Int} (h : PaceAt K H q a b) (s : Same H H') : PaceAt K H' q a b := ⟨Same.seqT s h.1, h.2⟩
def spChkPace (K : PySem.W.Frag) : Sp := fun vs H Q _ => ∃ (q : Addr) (a b : Int), vs = [.ref q] ∧ PaceAt K H q a b ∧ ∀ H', Same H H' → Q .non H'
def gapI (bs cs : List Int) (a b n : Int) : Int := placeP bs cs n * a - n * b * bs.getLastD 1
def spGapAt (K : PySem.W.Frag) (C : Addr) : Sp := fun vs H Q _ => ∃ (old : Addr → Prop) (p b r q : Addr) (bs : List Int) (rows : List R3) (cs : List Int) (x y n : Int), vs = [.ref p, .ref q, .int n] ∧ HouseAt K C old H p b r bs rows cs ∧ PaceAt K H q x y ∧ 0 ≤ n ∧ ∀ H', Same H H' → Q (.int (gapI bs cs x y n)) H'
def fracV (z w : Int) : List V := [.int (z / ((Nat.gcd z.natAbs w.natAbs : Nat) : Int)), .int (w / ((Nat.gcd z.natAbs w.natAbs : Nat) : Int))]
def spDriftOf (K : PySem.W.Frag) (C : Addr) : Sp := fun vs H Q _ => ∃ (old : Addr → Prop) (p b r q : Addr) (bs : List Int) (rows : List R3) (cs : List Int) (x y z : Int), vs = [.ref p, .ref q, .int z] ∧ HouseAt K C old H p b r bs rows cs ∧ PaceAt K H q x y ∧
  ∀ t H', Same H H' → H t = none → H' t = some (.tup (fracV z (bs.getLastD 1 * x))) → Q (.ref t) H'
def spDrift (K : PySem.W.Frag) (C : Addr) : Sp := fun vs H Q _ => ∃ (old : Addr → Prop) (p b r q : Addr) (bs : List Int) (rows : List R3) (cs : List Int) (x y n : Int), vs = [.ref p, .ref q, .int n] ∧ HouseAt K C old H p b r bs rows cs ∧ PaceAt K H q x y ∧ 0 ≤ n ∧
  ∀ t H', Same H H' → H t = none → H' t = some (.tup (fracV (gapI bs cs x y n) (bs.getLastD 1 * x))) → Q (.ref t) H'
section
variable {P : Program} {w : World} {K : PySem.W.Frag} {mg : Str → Option Value} {base : Heap}
end
end LM

set_option Elab.async false
set_option linter.all false
set_option maxRecDepth 100000
set_option maxHeartbeats 4000000
namespace LM
open PySem PySem.Spec PyProof.Rows L2
/-! ### ranges of any size -/
theorem turn_wide {P : Program} {w : World} {K : PySem.W.Frag} {tg : Expr} (it : Addr) (lo : Int) (n : Nat) :
    Turn P w K tg (Itr lo n) [it] it (fun i h => IsLongIter h it (lo + ((i : Nat) : Int) * 1) (((n : Nat) : Int) - ((i : Nat) : Int)) 1) := by
  refine ⟨by simp, fun i h st b hb => ?_, fun i h h' st k => k it (by simp) _ st, ?_, ?_, fun _ _ _ _ _ st h => wpAny_pyIter_longiter st h⟩
  · rw [List.mem_singleton.mp hb]
    exact ⟨_, st, fun v z => nomatch z⟩
  · intro X e1 e2 e3 hc i pins s σ H E I hf st hg
    subst e1 e2 e3
    obtain ⟨f0, f1, f2, f3, f4, f5⟩ := hf it List.mem_cons_self
    refine (Walks.longrange (prog := X.prog) (w := X.w) (I.ok.hd hc) it lo 1 n).item i s _ _ hg st fun v h' tk hv st' kk => ?_
    obtain ⟨t, rfl⟩ := hv
    refine ⟨_, rfl, go_of (s := { s with heap := h', toks := tk }) (n := "longrange_iterator") st' rfl rfl (by decide) ⟨.int (lo + i), H, I.turned (fun b o hb e => kk b o (by simpa using hb) e) f0 f1 f3 f4 f5, ⟨t, by rw [Int.mul_one]⟩, ⟨rfl, rfl⟩, st', fun b hb => (hf b hb).1⟩⟩
  · intro X e1 e2 e3 hc i pins s σ H E I hf st hg
    subst e1 e2 e3
    obtain ⟨f0, f1, f2, f3, f4, f5⟩ := hf it List.mem_cons_self
    have hn : n ≤ i := hg
    exact wpAny_pyNext_long_end (I.ok.hd hc) st (by omega) fun h' eb => ⟨rfl, I.turned (t' := s.toks) (fun b o hb e => eb b o hb e) f0 f1 f3 f4 f5⟩
theorem size_int (a b : Int) : Builtin.Range.rangeSize a b 1 = (((b - a).toNat : Nat) : Int) := by
  rw [rangeSize_one]
  split <;> omega
section
variable {X : Cx} {tg : Expr}
theorem wide_it {pins : List (Addr × Obj)} {σ : L2.St} {H : Hp} {s : Shared} {R : It → Hp → Prop} {E : Value → Shared → Prop} {lo hi : Int} {t u v : Tok} {tk : Nat} (I : Inv X pins σ H s) (hs : Builtin.Range.small lo hi 1 = false) (q : R (Itr lo (hi - lo).toNat) H) :
    wpAny (model X.prog X.w) X.A (pyIter (.ref s.heap.objs.size)) (PIE X pins σ tg R) E { s with heap := s.heap.push { cls := .type "range", data := .fields #[.int lo t, .int hi u, .int 1 v] }, toks := tk } := by
  refine wpAny_pyIter_longrange (IsRange.new ..) hs ?_
  have I1 : Inv X pins σ H { s with heap := s.heap.push { cls := .type "range", data := .fields #[.int lo t, .int hi u, .int 1 v] }, toks := tk } := I.kept fun b o e => Heap.get?_push_of_some _ e
  generalize s.heap.push { cls := .type "range", data := .fields #[.int lo t, .int hi u, .int 1 v] } = hp at I1 ⊢
  refine ⟨hp.objs.size, [hp.objs.size], _, _, H, rfl, I1.kept (t' := tk) fun b o e => Heap.get?_push_of_some _ e, turn_wide _ lo (hi - lo).toNat, ?_, fun b hb => ?_, q⟩
  · have e1 : lo + ((0 : Nat) : Int) * 1 = lo := by simp
    have e2 : (((hi - lo).toNat : Nat) : Int) - ((0 : Nat) : Int) = Builtin.Range.rangeSize lo hi 1 := by rw [size_int]; omega
    show IsLongIter _ _ (lo + ((0 : Nat) : Int) * 1) ((((hi - lo).toNat : Nat) : Int) - ((0 : Nat) : Int)) 1
    rw [e1, e2]
    exact Heap.get?_push_size _ rfl
  · rw [List.mem_singleton.mp hb]
    exact I1.fpOk (Nat.le_refl _) (I1.hok.fresh (Nat.le_refl _))
theorem small_it {pins : List (Addr × Obj)} {σ : L2.St} {H : Hp} {s : Shared} {R : It → Hp → Prop} {E : Value → Shared → Prop} {lo hi : Int} {t u v : Tok} {tk : Nat} (I : Inv X pins σ H s) (hs : Builtin.Range.small lo hi 1 = true) (q : R (Itr lo (hi - lo).toNat) H) :
    wpAny (model X.prog X.w) X.A (pyIter (.ref s.heap.objs.size)) (PIE X pins σ tg R) E { s with heap := s.heap.push { cls := .type "range", data := .fields #[.int lo t, .int hi u, .int 1 v] }, toks := tk } := by
  refine wpAny_pyIter_range (IsRange.new ..) hs ?_
  have I1 : Inv X pins σ H { s with heap := s.heap.push { cls := .type "range", data := .fields #[.int lo t, .int hi u, .int 1 v] }, toks := tk } := I.kept fun b o e => Heap.get?_push_of_some _ e
  generalize s.heap.push { cls := .type "range", data := .fields #[.int lo t, .int hi u, .int 1 v] } = hp at I1 ⊢
  refine ⟨hp.objs.size, [hp.objs.size], _, _, H, rfl, I1.kept (t' := tk) fun b o e => Heap.get?_push_of_some _ e, turn_range _ lo (hi - lo).toNat, ?_, fun b hb => ?_, q⟩
  · have e1 : lo + ((0 : Nat) : Int) * 1 = lo := by simp
    have e2 : (((hi - lo).toNat : Nat) : Int) - ((0 : Nat) : Int) = Builtin.Range.rangeSize lo hi 1 := by rw [size_int]; omega
    show IsRangeIter _ _ (lo + ((0 : Nat) : Int) * 1) ((((hi - lo).toNat : Nat) : Int) - ((0 : Nat) : Int)) 1
    rw [e1, e2]
    exact Heap.get?_push_size _ rfl
  · rw [List.mem_singleton.mp hb]
    exact I1.fpOk (Nat.le_refl _) (I1.hok.fresh (Nat.le_refl _))
/-- range(i, j) of any size -/
def iRngW (ta : TA) : TI := fun σ H R => ta σ H fun vs H1 => ∃ i j : Int, vs = [.int i, .int j] ∧ R (Itr i (j - i).toNat) H1
theorem pi_range2W {a b : Expr} {ta : TA} {p pos : Pos} (hg : Gl X "range") (hm : X.mg "range" = none) (ha : PA X [a, b] ta) (hs : starEach [a, b] X.env = [(false, eval a X.env), (false, eval b X.env)] := by rfl) (hs2 : starEach [b] X.env = [(false, eval b X.env)] := by rfl) :
    PI X tg (.Call (.Name "range" p) [a, b] [] pos) (iRngW ta) := by
  refine ⟨fun pins s σ H R I h => Call_ (ld_blt I hg hm boot_range (PyProof.Rows.callWith_type1 (thn (ha.run pos pins s σ H _ I h) fun us s1 ⟨vs, H1, I1, r1, q1⟩ => ?_) (by rw [hs, hs2]) (by rw [hs2]; rfl)))⟩
  obtain ⟨i, j, rfl, q⟩ := q1
  obtain ⟨u, v, rfl, ru, rv⟩ := vals2 r1
  obtain ⟨t, rfl⟩ := ru
  obtain ⟨t', rfl⟩ := rv
  cases hz : Builtin.Range.small i j 1 with
  | true => exact call_range_2 (small_it I1 hz q)
  | false => exact call_range_2 (wide_it I1 hz q)
end
section
variable {prog : Program} {w : World} {A : Around} {E : Value → Shared → Prop} {s : Shared}
/-- list(range(..)) of any size: the items come from a long iterator -/
theorem fill_wide {R : Result → Shared → Prop} {r : Addr} {a b c : Int} {t u v : Tok} {n : Nat} (hh : A.handled = none) (hr : IsRange s.heap r a b c t u v) (big : Builtin.Range.small a b c = false) (hn : Builtin.Range.rangeSize a b c = n) (hlen : n ≤ 2 ^ 24)
    (S : Addr) (res : Value) (c₀ : Nat) (hS : s.heap.get? S = some { cls := .type "list", data := .seq #[] c₀ })
    (hR : ∀ h' tk acc' c', (∀ b o, b ≠ S → s.heap.get? b = some o → h'.get? b = some o) → h'.get? S = some { cls := .type "list", dict := none, data := .seq acc' c', slots := #[] } → ItemsOf (fun i v => ∃ t, v = .int (a + i * c) t) acc' n → R (.ok (.ret res)) { s with heap := h', toks := tk }) :
    wpAny (model prog w) A.in1 (Builtin.List.listExtendWith (.ref S) (.ref r) res) (fun fin s' => match fin with | .done f => R (.ok f) s' | .again c' => c'.quiet = true ∧ codeAny (model prog w) A c' R s') (fun e s' => R (.error e) s') s := by
  have ne1 : S ≠ r := fun e => by rw [e, hr] at hS; simp at hS
  have lt1 : S < s.heap.objs.size := Heap.lt_size hS
  have ne2 : S ≠ s.heap.objs.size := Nat.ne_of_lt lt1
  have ne3 : S ∉ [s.heap.objs.size] := fun hm => ne2 (List.mem_singleton.mp hm)
  have W := (Walks.longrange (prog := prog) (w := w) (A := A.in1) hh s.heap.objs.size a c n).toS
  have key : ∀ (h : Heap) (c₁ tk : Nat), IsLongIter h s.heap.objs.size (a + ((0 : Nat) : Int) * c) ((n : Int) - ((0 : Nat) : Int)) c → (∀ b o, b ≠ S → s.heap.get? b = some o → h.get? b = some o) → h.get? S = some { cls := .type "list", data := .seq #[] c₁ } →
      codeAny (model prog w) A (.builtin "list.extend.loop" ⟨[.ref S, .ref s.heap.objs.size, res], []⟩) R { s with heap := h, toks := tk } := by
    intro h c₁ tk hit hk h1
    refine codeAny_extend_loopS W (by rw [sizeLine_eq]; omega) S ne3 res n 0 _ #[] c₁ rfl (Nat.zero_le _) hit h1 (ItemsOf.nil _) fun s' acc' c' hm hS' hacc => ?_
    rw [Moved.eq_with hm]
    refine hR s'.heap s'.toks acc' c' (fun b o hb e => hm.heap b o (fun hmem => (List.mem_cons.mp hmem).elim hb fun z => ?_) (hk b o hb e)) hS' hacc
    exact Nat.lt_irrefl _ (List.mem_singleton.mp z ▸ Heap.lt_size e)
  unfold Builtin.List.listExtendWith
  refine wpAny_bind (wpAny_typeOf (T := "range") ⟨_, hr, rfl⟩ ?_)
  simp only [show Builtin.List.listSameRef (.ref S) (.ref r) = false by simp [Builtin.List.listSameRef, ne1], show (Value.type "range" == Value.type "list") = false by decide, show (Value.type "range" == Value.type "tuple") = false by decide, Bool.or_false, Bool.false_eq_true, if_false]
  refine wpAny_bind (wpAny_pyIter_longrange hr big ?_)
  refine wpAny_bind (wpAny_holding (wpAny_hint_range (n := n) (Heap.get?_push_of_some _ hr) hn hlen ?_))
  have g0 : IsLongIter (s.heap.push { cls := .type "longrange_iterator", data := .fields #[rawInt a, rawInt (Builtin.Range.rangeSize a b c), rawInt c] }) s.heap.objs.size (a + ((0 : Nat) : Int) * c) ((n : Int) - ((0 : Nat) : Int)) c := by
    show IsLongIter _ _ _ _ _
    rw [hn]
    simpa using Heap.get?_push_size _ rfl
  have z1 := Heap.get?_push_of_some { cls := .type "longrange_iterator", data := .fields #[rawInt a, rawInt (Builtin.Range.rangeSize a b c), rawInt c] } hS
  refine wpAny_ite_split (fun _ => ?_) (fun _ => wpAny_pure ⟨plainId_quiet F.plain_extend_loop _, key _ c₀ _ g0 (fun b o _ e => Heap.get?_push_of_some _ e) z1⟩)
  refine wpAny_bind (wpAny_rule (wpAny_bind ?_))
  show wpAny _ _ (updateSeq S (·.push .none) >>= fun _ => updateSeq S (·.pop)) _ _ _
  refine wpAny_bind (wpAny_updateSeq z1 rfl ?_)
  have z2 := Heap.get?_update_self (Obj.mapSeq (·.push Value.none)) z1 rfl
  refine wpAny_updateSeq (hz := by seq_fits) z2 rfl ?_
  have z3 := Heap.get?_update_self (Obj.mapSeq (·.pop)) z2 rfl
  refine wpAny_pure ⟨plainId_quiet F.plain_extend_loop _, key _ _ _ ?_ (fun b o hb e => ?_) z3⟩
  · exact (Heap.get?_update_other _ _ ne2).trans ((Heap.get?_update_other _ _ ne2).trans g0)
  · exact (Heap.get?_update_other _ _ (Ne.symm hb)).trans ((Heap.get?_update_other _ _ (Ne.symm hb)).trans (Heap.get?_push_of_some _ e))
theorem init_wide {R : Result → Shared → Prop} {r : Addr} {a b c : Int} {t u v : Tok} {n : Nat} (hh : A.handled = none) (hr : IsRange s.heap r a b c t u v) (big : Builtin.Range.small a b c = false) (hn : Builtin.Range.rangeSize a b c = n) (hlen : n ≤ 2 ^ 24)
    (S : Addr) (hS : s.heap.get? S = some { cls := .type "list", data := .seq #[] })
    (hR : ∀ h' tk acc' c', (∀ b o, b ≠ S → s.heap.get? b = some o → h'.get? b = some o) → h'.get? S = some { cls := .type "list", dict := none, data := .seq acc' c', slots := #[] } → ItemsOf (fun i v => ∃ t, v = .int (a + i * c) t) acc' n → R (.ok (.ret .none)) { s with heap := h', toks := tk }) :
    wpAny (model prog w) A.in1 (Builtin.«list.__init__» ⟨[.ref S, .ref r], []⟩) (fun fin s' => match fin with | .done f => R (.ok f) s' | .again c' => c'.quiet = true ∧ codeAny (model prog w) A c' R s') (fun e s' => R (.error e) s') s := by
  have ne1 : S ≠ r := fun e => by rw [e, hr] at hS; simp at hS
  show wpAny _ _ (do let old ← Builtin.List.listItems (.ref S); Builtin.List.listUpdate (.ref S) (fun _ => #[]); letGo old.toList.reverse; Builtin.List.listExtendWith (.ref S) (.ref r) .none) _ _ s
  refine wpAny_bind ?_
  unfold Builtin.List.listItems
  refine wpAny_bind (wpAny_seqItems hS rfl (wpAny_pure ?_))
  show wpAny _ _ (updateSeq S (fun _ => #[]) >>= fun _ => letGo (#[] : Array Value).toList.reverse >>= fun _ => Builtin.List.listExtendWith (.ref S) (.ref r) .none) _ _ s
  refine wpAny_bind (wpAny_updateSeq hS rfl ?_)
  have z2 := Heap.get?_update_self (Obj.mapSeq (fun _ => (#[] : Array Value))) hS rfl
  have oth : ∀ b o, b ≠ S → s.heap.get? b = some o → (s.heap.update S (Obj.mapSeq (fun _ => (#[] : Array Value)))).get? b = some o := fun b o hb e => (Heap.get?_update_other _ _ (Ne.symm hb)).trans e
  refine wpAny_bind (wpAny_letGo ?_)
  exact fill_wide hh (oth r _ (Ne.symm ne1) hr) big hn hlen S .none _ z2 fun h' tk acc' c' hk hS' hacc => hR h' tk acc' c' (fun b o hb e => hk b o hb (oth b o hb e)) hS' hacc
theorem list_wide {Q : Value → Shared → Prop} {r : Addr} {a b c : Int} {t u v : Tok} {n : Nat} (hh : A.handled = none) (hr : IsRange s.heap r a b c t u v) (hn : Builtin.Range.rangeSize a b c = n) (hlen : n ≤ 2 ^ 24)
    (hQ : ∀ h' tk acc' c', (∀ b o, s.heap.get? b = some o → h'.get? b = some o) → h'.get? s.heap.objs.size = some { cls := .type "list", dict := none, data := .seq acc' c', slots := #[] } → ItemsOf (fun i v => ∃ t, v = .int (a + i * c) t) acc' n → Q (.ref s.heap.objs.size) { s with heap := h', toks := tk }) :
    wpAny (model prog w) A (call (.type "list") [.ref r]) Q E s := by
  cases hz : Builtin.Range.small a b c with
  | true => exact call_list_range hh hr hz hn hlen hQ
  | false =>
    refine callType_codes (Q₁ := fun obj s₁ => obj = .ref s.heap.objs.size ∧ s₁ = { s with heap := s.heap.push { cls := .type "list", data := .seq #[] } }) F.called_list (F.typeCall_list_1 _) F.entry_list_init (code_list_new _ ⟨rfl, rfl⟩) fun obj s₁ h₁ => ?_
    obtain ⟨rfl, rfl⟩ := h₁
    have hS : (s.heap.push { cls := .type "list", data := .seq #[] }).get? s.heap.objs.size = some { cls := .type "list", data := .seq #[] } := Heap.get?_push_size _ rfl
    refine ⟨⟨_, hS, rfl⟩, F.args_list_init_2 _ _, init_wide (A := A.in1) hh (Heap.get?_push_of_some _ hr) hz hn hlen _ hS fun h' tk acc' c' hk hS' hacc => ?_⟩
    exact ⟨rfl, hQ h' tk acc' c' (fun b o e => hk b o (Nat.ne_of_lt (Heap.lt_size e)) (Heap.get?_push_of_some _ e)) hS' hacc⟩
end
section
variable {X : Cx} {e : Expr} {te : L2.St → Hp → (Int → Int → Hp → Prop) → Prop}
def tLstW (te : L2.St → Hp → (Int → Int → Hp → Prop) → Prop) : TE := fun σ H Q => te σ H fun a b H1 => (b - a).toNat ≤ 2 ^ 24 ∧ ∀ q, H1 q = none → Q (.ref q) (upd H1 q (.lst (rgV a b)))
theorem pe_listRgW {p pos : Pos} (hc : X.calm = true) (hg : Gl X "list") (hm : X.mg "list" = none) (he : PRg X e te) (na : starEach [e] X.env = (false, eval e X.env) :: starEach [] X.env := by rfl) : PE X (.Call (.Name "list" p) [e] [] pos) (tLstW te) := by
  refine ⟨fun pins s σ H Q I h => Call_ (ld_blt I hg hm boot_list (PyProof.Rows.callWith_type1 (args_cons (thn (he pins s σ H _ I h) fun x s1 ⟨r, a, b, t, u, v, H1, ex, hr, I1, ok, q⟩ => args_nil ?_) na) na))⟩
  subst ex
  refine list_wide (n := (b - a).toNat) (I1.ok.hd hc) hr (size_int a b) ok fun h' tk acc c' hk e' hi => ?_
  refine ⟨.ref s1.heap.objs.size, upd H1 s1.heap.objs.size (.lst (rgV a b)), I1.laid hk (Nat.le_refl _) (show ObjOk X.prog X.w _ _ _ (.lst (rgV a b)) from ⟨?_, acc.toList, c', vals_rg hi, ?_⟩), rfl, q _ (I1.hok.fresh (Nat.le_refl _))⟩
  · rw [rgV_length, sizeLine_eq]
    omega
  · rw [Array.toArray_toList]
    exact e'
end
end LM

set_option Elab.async false
set_option linter.all false
set_option maxRecDepth 100000
set_option maxHeartbeats 4000000
set_option pp.maxSteps 600
set_option pp.deepTerms false
namespace LM
open PySem PySem.Spec PyProof.Rows L2 RZ
local macro_rules | `(tactic| walk_at "hp") => `(tactic| first | assumption | exact upd_same | (rw [upd_ne (by assumption)]; assumption) | (rw [upd_ne (Ne.symm (by assumption))]; assumption) | (rw [upd_ne (by assumption)]; exact upd_same) | (rw [upd_ne (Ne.symm (by assumption))]; exact upd_same))
local macro_rules | `(tactic| walk_at "sq") => `(tactic| first | assumption | exact Or.inl (Or.inl (by assumption)) | exact Or.inl (Or.inl upd_same) | exact Or.inl (Or.inl (by walk_at "hp")))
local macro_rules | `(tactic| walk_at "ixl") => `(tactic| refine ⟨_, _, _, _, rfl, rfl, (by walk_at "sq"), (by rfl), ?_⟩)
local macro_rules | `(tactic| walk_at "setl") => `(tactic| refine ⟨_, _, _, _, rfl, rfl, (by walk_at "hp"), (by rfl), ?_⟩)
local macro_rules | `(tactic| walk_at "side") => `(tactic| refine idP ?_; first | omega | (show (0 : Int) < _; omega) | (show (0 : Int) < _ ∧ _ < _; omega) | (refine Or.inr ?_; show (-(2 ^ 64) : Int) < _ ∧ _ < _; omega) | (refine Or.inl ?_; show (-(2 ^ 64) : Int) < _ ∧ _ < _; omega) | exact divW (by omega) (by omega) _ | (refine ⟨by decide, by decide, ?_⟩; decide))
local macro_rules | `(tactic| walk_at "go1") => `(tactic| first
  | refine ⟨_, rfl, ?_⟩
  | refine ⟨_, _, rfl, rfl, (by walk_at "side"), ?_⟩
  | refine ⟨_, _, rfl, (by walk_at "side"), ?_⟩
  | refine ⟨_, _, rfl, rfl, ?_⟩
  | refine Or.inl ⟨_, rfl, ?_⟩
  | refine ⟨_, _, rfl, Or.inl (by walk_at "sq"), ?_⟩
  | walk_at "ixl"
  | walk_at "setl"
  | refine ⟨_, _, rfl, (by walk_at "sq"), rfl, ?_⟩
  | refine ⟨_, _, rfl, (by walk_at "sq"), ?_⟩
  | refine ⟨_, _, rfl, ?_⟩
  | refine ⟨rfl, ?_⟩
  | refine ⟨small (Nat.le_of_ble_eq_true rfl), ?_⟩)
local macro_rules | `(tactic| walk_at "go") => `(tactic| repeat walk_at "go1")

def spGapRound (K : PySem.W.Frag) (C : Addr) : Sp := fun vs H Q _ => ∃ (old : Addr → Prop) (p b r q : Addr) (bs : List Int) (rows : List R3) (cs : List Int) (B : Nat) (c : Nat → Nat) (L : Nat) (x y : Int), vs = [.ref p, .ref q] ∧ HouseBy K C old H p b r bs rows cs B c L ∧ PaceAt K H q x y ∧ Q (.int (((L : Int) * x - ((sumC B c L : Nat) : Int) * y) * (B : Int))) H
/-- the ends of the groups -/
def EndsAt (B : Nat) (c : Nat → Nat) (H : Hp) (es : List Addr) (n : Nat) : Prop := Paired (fun a (g : Nat) => H a = some (.tup [.int ((sumC B c g : Nat) : Int), .int (((sumC B c (g + 1) : Nat) : Int) - 1)])) es (List.range n)
def spEnds (K : PySem.W.Frag) (C : Addr) : Sp := fun vs H Q _ => ∃ (old : Addr → Prop) (p b r : Addr) (bs : List Int) (rows : List R3) (cs : List Int) (B : Nat) (c : Nat → Nat) (L : Nat), vs = [.ref p] ∧ HouseBy K C old H p b r bs rows cs B c L ∧
  ∀ q es H', Same H H' → H q = none → H' q = some (.lst (es.map V.ref)) → EndsAt B c H' es L → Q (.ref q) H'
theorem hf_fat (b r sk ah rd : Addr) (t : Str) : (hf b r sk ah rd t).lookup ("frames_at" : Str) = none := hf_no _ _ _ _ _ _ (by decide +kernel) (by decide +kernel) (by decide +kernel) (by decide +kernel) (by decide +kernel) (by decide +kernel)
theorem near_mul {gs : List Int} {rows : List R3} {cs : List Int} {B : Nat} {c : Nat → Nat} {L : Nat} (ct : Cnt gs rows cs B c L) (g : Nat) : nearI B c (g * B) true = ((sumC B c g : Nat) : Int) := by
  have hB := ct.hB
  unfold nearI
  rw [if_pos (Or.inl rfl)]
  have h := bel_eq (B := B) (c := c) (by omega) (fun g => Nat.le_of_lt (ct.lt g)) g 0 (Nat.zero_le _)
  rw [Nat.add_zero, Nat.zero_sub, Nat.add_zero] at h
  rw [h]
section
variable {P : Program} {w : World} {K : PySem.W.Frag} {mg : Str → Option Value} {base : Heap}
end
end LM

set_option Elab.async false
set_option linter.all false
set_option maxRecDepth 100000
set_option maxHeartbeats 4000000
set_option pp.maxSteps 600
set_option pp.deepTerms false
namespace LM
open PySem PySem.Spec PyProof.Rows L2 RZ
local macro_rules | `(tactic| walk_at "hp") => `(tactic| first | assumption | exact upd_same | (rw [upd_ne (by assumption)]; assumption) | (rw [upd_ne (Ne.symm (by assumption))]; assumption) | (rw [upd_ne (by assumption)]; exact upd_same) | (rw [upd_ne (Ne.symm (by assumption))]; exact upd_same))
local macro_rules | `(tactic| walk_at "sq") => `(tactic| first | assumption | exact Or.inl (Or.inl (by assumption)) | exact Or.inl (Or.inl upd_same) | exact Or.inl (Or.inl (by walk_at "hp")))
local macro_rules | `(tactic| walk_at "ixl") => `(tactic| refine ⟨_, _, _, _, rfl, rfl, (by walk_at "sq"), (by rfl), ?_⟩)
local macro_rules | `(tactic| walk_at "setl") => `(tactic| refine ⟨_, _, _, _, rfl, rfl, (by walk_at "hp"), (by rfl), ?_⟩)
local macro_rules | `(tactic| walk_at "side") => `(tactic| refine idP ?_; first | omega | (show (0 : Int) < _; omega) | (show (0 : Int) < _ ∧ _ < _; omega) | (refine Or.inr ?_; show (-(2 ^ 64) : Int) < _ ∧ _ < _; omega) | (refine Or.inl ?_; show (-(2 ^ 64) : Int) < _ ∧ _ < _; omega) | exact divW (by omega) (by omega) _ | (refine ⟨by decide, by decide, ?_⟩; decide))
local macro_rules | `(tactic| walk_at "go1") => `(tactic| first
  | refine ⟨_, rfl, ?_⟩
  | refine ⟨_, _, rfl, rfl, (by walk_at "side"), ?_⟩
  | refine ⟨_, _, rfl, (by walk_at "side"), ?_⟩
  | refine ⟨_, _, rfl, rfl, ?_⟩
  | refine Or.inl ⟨_, rfl, ?_⟩
  | refine ⟨_, _, rfl, Or.inl (by walk_at "sq"), ?_⟩
  | walk_at "ixl"
  | walk_at "setl"
  | refine ⟨_, _, rfl, (by walk_at "sq"), rfl, ?_⟩
  | refine ⟨_, _, rfl, (by walk_at "sq"), ?_⟩
  | refine ⟨_, _, rfl, ?_⟩
  | refine ⟨rfl, ?_⟩
  | refine ⟨small (Nat.le_of_ble_eq_true rfl), ?_⟩)
local macro_rules | `(tactic| walk_at "go") => `(tactic| repeat walk_at "go1")

/-- a comprehension with two `for`, the outer one over a list -/
theorem lc2_list {K : PySem.W.Frag} {a : Addr} {xs : List V} {wi1 : TI} {g g1 : TG} {tt tt1 : TT} {te : TE} {vs vs1 : List Nat} {σ : L2.St} {H1 : Hp} {D : Addr} {Qd : Hp → Prop} (Pv : Nat → Hp → Prop) (h0 : Pv 0 (upd H1 D (.lst []))) (hl : ∀ i H, i ≤ xs.length → Pv i H → SqL K H a xs)
    (hs : ∀ i x H, xs[i]? = some x → Pv i H → g x (wipe σ vs) H fun σ2 H2 => wipe σ2 vs = wipe σ vs ∧ tt σ2 H2 fun b H3 =>
      if b = true then wi1 σ2 H3 fun J1 H4 => ∃ W1 : Nat → Nat → Hp → Prop, (∃ m, W1 0 m H4) ∧ ∀ j k H, W1 j k H →
        (J1.stop j H ∧ Pv (i + 1) H) ∨ (J1.go j H ∧ ∃ Nx1 : Hp → Prop, (∀ H', Nx1 H' → ∃ k', k' < k ∧ W1 (j + 1) k' H') ∧ ∀ x H', J1.yld j H x H' → g1 x (wipe σ2 vs1) H' fun σ3 H5 => wipe σ3 vs1 = wipe σ2 vs1 ∧ tt1 σ3 H5 fun b H6 =>
          if b = true then te σ3 H6 fun y H7 => ∃ acc, H7 D = some (.lst acc) ∧ acc.length < sizeLine ∧ Nx1 (upd H7 D (.lst (acc ++ [y]))) else Nx1 H6)
      else Pv (i + 1) H3) (hd : ∀ H, Pv xs.length H → Qd H) :
    ∃ W : Nat → Nat → Hp → Prop, (∃ m, W 0 m (upd H1 D (.lst []))) ∧ ∀ i m H, W i m H →
      ((Itl K a).stop i H ∧ Qd H) ∨ ((Itl K a).go i H ∧ ∃ Nx : Hp → Prop, (∀ H', Nx H' → ∃ m', m' < m ∧ W (i + 1) m' H') ∧ ∀ x H', (Itl K a).yld i H x H' → g x (wipe σ vs) H' fun σ2 H2 => wipe σ2 vs = wipe σ vs ∧ tt σ2 H2 fun b H3 =>
        if b = true then wi1 σ2 H3 fun J1 H4 => ∃ W1 : Nat → Nat → Hp → Prop, (∃ m, W1 0 m H4) ∧ ∀ j k H, W1 j k H →
          (J1.stop j H ∧ Nx H) ∨ (J1.go j H ∧ ∃ Nx1 : Hp → Prop, (∀ H', Nx1 H' → ∃ k', k' < k ∧ W1 (j + 1) k' H') ∧ ∀ x H', J1.yld j H x H' → g1 x (wipe σ2 vs1) H' fun σ3 H5 => wipe σ3 vs1 = wipe σ2 vs1 ∧ tt1 σ3 H5 fun b H6 =>
            if b = true then te σ3 H6 fun y H7 => ∃ acc, H7 D = some (.lst acc) ∧ acc.length < sizeLine ∧ Nx1 (upd H7 D (.lst (acc ++ [y]))) else Nx1 H6)
        else Nx H3) := by
  refine ⟨fun i m H => m = xs.length - i ∧ i ≤ xs.length ∧ Pv i H, ⟨xs.length, by simp, Nat.zero_le _, h0⟩, ?_⟩
  rintro i m H ⟨rfl, hi, p⟩
  have q := hl i H hi p
  by_cases hlt : i < xs.length
  · refine .inr ⟨⟨xs, xs[i], q, by simp [hlt]⟩, Pv (i + 1), fun H' p' => ⟨xs.length - (i + 1), by omega, rfl, hlt, p'⟩, fun x H' y => ?_⟩
    obtain ⟨e, y⟩ := y
    subst e
    exact hs i x _ (y xs q) p
  · have e : i = xs.length := by omega
    subst e
    exact .inl ⟨⟨xs, q, Nat.le_refl _⟩, hd H p⟩
/-- its inner one over a tuple -/
theorem lc2_tup {K : PySem.W.Frag} {a : Addr} {xs : List V} {g1 : TG} {tt1 : TT} {te : TE} {vs1 : List Nat} {σ2 : L2.St} {H4 : Hp} {D : Addr} {Nx : Hp → Prop} (Pv : Nat → Hp → Prop) (h0 : Pv 0 H4) (hl : ∀ i H, i ≤ xs.length → Pv i H → SqT K H a xs)
    (hs : ∀ j x H, xs[j]? = some x → Pv j H → g1 x (wipe σ2 vs1) H fun σ3 H5 => wipe σ3 vs1 = wipe σ2 vs1 ∧ tt1 σ3 H5 fun b H6 =>
          if b = true then te σ3 H6 fun y H7 => ∃ acc, H7 D = some (.lst acc) ∧ acc.length < sizeLine ∧ Pv (j + 1) (upd H7 D (.lst (acc ++ [y]))) else Pv (j + 1) H6) (hd : ∀ H, Pv xs.length H → Nx H) :
    ∃ W1 : Nat → Nat → Hp → Prop, (∃ m, W1 0 m H4) ∧ ∀ j k H, W1 j k H →
        ((Itt K a).stop j H ∧ Nx H) ∨ ((Itt K a).go j H ∧ ∃ Nx1 : Hp → Prop, (∀ H', Nx1 H' → ∃ k', k' < k ∧ W1 (j + 1) k' H') ∧ ∀ x H', (Itt K a).yld j H x H' → g1 x (wipe σ2 vs1) H' fun σ3 H5 => wipe σ3 vs1 = wipe σ2 vs1 ∧ tt1 σ3 H5 fun b H6 =>
          if b = true then te σ3 H6 fun y H7 => ∃ acc, H7 D = some (.lst acc) ∧ acc.length < sizeLine ∧ Nx1 (upd H7 D (.lst (acc ++ [y]))) else Nx1 H6) := by
  refine ⟨fun i m H => m = xs.length - i ∧ i ≤ xs.length ∧ Pv i H, ⟨xs.length, by simp, Nat.zero_le _, h0⟩, ?_⟩
  rintro i m H ⟨rfl, hi, p⟩
  have q := hl i H hi p
  by_cases hlt : i < xs.length
  · refine .inr ⟨⟨xs, xs[i], q, by simp [hlt]⟩, Pv (i + 1), fun H' p' => ⟨xs.length - (i + 1), by omega, rfl, hlt, p'⟩, fun x H' y => ?_⟩
    obtain ⟨e, y⟩ := y
    subst e
    exact hs i x _ (y xs q) p
  · have e : i = xs.length := by omega
    subst e
    exact .inl ⟨⟨xs, q, Nat.le_refl _⟩, hd H p⟩
/-- the frames at the ends, one behind another -/
def endsI (B : Nat) (c : Nat → Nat) (n : Nat) : List Int := ((List.range n).map fun g => [((sumC B c g : Nat) : Int), ((sumC B c (g + 1) : Nat) : Int) - 1]).flatten
theorem endsI_succ (B : Nat) (c : Nat → Nat) (n : Nat) : endsI B c (n + 1) = endsI B c n ++ [((sumC B c n : Nat) : Int), ((sumC B c (n + 1) : Nat) : Int) - 1] := by
  unfold endsI
  rw [List.range_succ, List.map_append, List.flatten_append]
  rfl
theorem endsI_len (B : Nat) (c : Nat → Nat) : ∀ n, (endsI B c n).length = 2 * n
  | 0 => rfl
  | n + 1 => by
    rw [endsI_succ, List.length_append, endsI_len B c n]
    show 2 * n + 2 = _
    omega
/-- m at i is the least value of a round, i the least frame with it -/
def LeastAt (G : Nat → Int) (F : Nat) (m : Int) (i : Nat) : Prop := i < F ∧ G i = m ∧ (∀ n, n < F → m ≤ G n) ∧ ∀ n, n < i → G n ≠ m
def endE (B : Nat) (c : Nat → Nat) (k : Nat) : Int := if k % 2 = 0 then ((sumC B c (k / 2) : Nat) : Int) else ((sumC B c (k / 2 + 1) : Nat) : Int) - 1
theorem endsI_get (B : Nat) (c : Nat → Nat) : ∀ n k, k < 2 * n → (endsI B c n)[k]? = some (endE B c k)
  | 0, k, h => by omega
  | n + 1, k, h => by
    rw [endsI_succ]
    by_cases hk : k < 2 * n
    · rw [List.getElem?_append_left (by rw [endsI_len]; exact hk)]
      exact endsI_get B c n k hk
    · rw [List.getElem?_append_right (by rw [endsI_len]; omega), endsI_len]
      have h2 : k = 2 * n ∨ k = 2 * n + 1 := by omega
      rcases h2 with rfl | rfl
      · rw [Nat.sub_self]
        unfold endE
        rw [if_pos (by omega), show 2 * n / 2 = n by omega]
        rfl
      · rw [show 2 * n + 1 - 2 * n = 1 by omega]
        unfold endE
        rw [if_neg (by omega), show (2 * n + 1) / 2 = n by omega]
        rfl
section
variable {gs : List Int} {rows : List R3} {cs : List Int} {B : Nat} {c : Nat → Nat} {L : Nat}
theorem Cnt.up (ct : Cnt gs rows cs B c L) (g : Nat) : sumC B c g < sumC B c (g + 1) := by
  have h := ct.lt g
  show sumC B c g < sumC B c g + (B - c g)
  omega
theorem Cnt.endE_succ (ct : Cnt gs rows cs B c L) (k : Nat) : endE B c k ≤ endE B c (k + 1) := by
  unfold endE
  have h := ct.up (k / 2)
  by_cases hk : k % 2 = 0
  · rw [if_pos hk, if_neg (by omega), show (k + 1) / 2 = k / 2 by omega]
    omega
  · rw [if_neg hk, if_pos (by omega), show (k + 1) / 2 = k / 2 + 1 by omega]
    omega
theorem Cnt.endE_mono (ct : Cnt gs rows cs B c L) {i j : Nat} (h : i ≤ j) : endE B c i ≤ endE B c j := by
  induction j with
  | zero => rw [Nat.le_zero.mp h]; exact Int.le_refl _
  | succ j ih =>
    rcases Nat.lt_or_eq_of_le h with z | z
    · exact Int.le_trans (ih (by omega)) (ct.endE_succ j)
    · rw [z]; exact Int.le_refl _
theorem Cnt.group (ct : Cnt gs rows cs B c L) {t : Nat} : ∀ n, t < sumC B c n → ∃ g, g < n ∧ sumC B c g ≤ t ∧ t < sumC B c (g + 1)
  | 0, h => absurd h (Nat.not_lt_zero t)
  | n + 1, h => by
    by_cases hn : t < sumC B c n
    · obtain ⟨g, h1, h2⟩ := ct.group n hn
      exact ⟨g, by omega, h2⟩
    · exact ⟨n, by omega, by omega, h⟩
theorem Cnt.endE_pos (ct : Cnt gs rows cs B c L) (k : Nat) : 0 ≤ endE B c k := by
  have h := ct.up (k / 2)
  unfold endE
  split <;> omega
theorem Cnt.endE_lt (ct : Cnt gs rows cs B c L) {k n : Nat} (h : k < 2 * n) : endE B c k < ((sumC B c n : Nat) : Int) := by
  have h1 := ct.up (k / 2)
  have h2 := sumC_mono (B := B) (c := c) (show k / 2 + 1 ≤ n by omega)
  unfold endE
  split <;> omega
/-- the place of a frame of a group -/
theorem Cnt.place_in (ct : Cnt gs rows cs B c L) {g n : Nat} (h1 : sumC B c g ≤ n) (h2 : n < sumC B c (g + 1)) : placeP gs cs (n : Int) = ((g * B + c g : Nat) : Int) + ((n : Int) - ((sumC B c g : Nat) : Int)) := by
  obtain ⟨s, p1, b1, f1, _⟩ := ct.at n
  have hB := ct.hB
  have h2' : n < sumC B c g + (B - c g) := h2
  have e : bel B c (g * B + (c g + (n - sumC B c g))) = n := by
    rw [bel_eq (by omega) (fun g => Nat.le_of_lt (ct.lt g)) _ _ (by omega)]
    omega
  have b2 : bor B c (g * B + (c g + (n - sumC B c g))) = true := by
    unfold bor
    rw [Nat.mul_comm, Nat.mul_add_div (by omega), Nat.div_eq_of_lt (by omega), Nat.mul_add_mod, Nat.mod_eq_of_lt (by omega), Nat.add_zero]
    exact decide_eq_true (by omega)
  have hs := bel_inj b1 b2 (f1.trans e.symm)
  rw [p1, hs]
  omega
theorem Cnt.gap_in (ct : Cnt gs rows cs B c L) (x y : Int) {g n : Nat} (h1 : sumC B c g ≤ n) (h2 : n < sumC B c (g + 1)) : gapI gs cs x y (n : Int) = gapI gs cs x y ((sumC B c g : Nat) : Int) + ((n : Int) - ((sumC B c g : Nat) : Int)) * (x - y * (B : Int)) := by
  unfold gapI
  rw [ct.place_in h1 h2, ct.place_in (Nat.le_refl _) (ct.up g), ct.last]
  generalize ((g * B + c g : Nat) : Int) = u
  generalize ((sumC B c g : Nat) : Int) = v
  generalize (B : Int) = w
  generalize (n : Int) = m
  rw [Int.sub_self, Int.add_zero, Int.add_mul, Int.mul_sub, Int.sub_mul, Int.sub_mul, ← Int.mul_assoc, ← Int.mul_assoc]
  omega
/-- the least one of the ends is the least one of the round -/
theorem Cnt.least_ends (ct : Cnt gs rows cs B c L) {G : Nat → Int} {d : Int} (lin : ∀ g n, sumC B c g ≤ n → n < sumC B c (g + 1) → G n = G (sumC B c g) + ((n : Int) - ((sumC B c g : Nat) : Int)) * d)
    {m : Int} {j : Nat} (hle : ∀ k, k < 2 * L → m ≤ G (endE B c k).toNat) (hj : j < 2 * L) (hm : G (endE B c j).toNat = m) (hf : ∀ k, k < j → G (endE B c k).toNat ≠ m) : LeastAt G (sumC B c L) m (endE B c j).toNat := by
  have e0 : ∀ g, endE B c (2 * g) = ((sumC B c g : Nat) : Int) := fun g => by
    unfold endE
    rw [if_pos (by omega), show 2 * g / 2 = g by omega]
  have e1 : ∀ g, endE B c (2 * g + 1) = ((sumC B c (g + 1) : Nat) : Int) - 1 := fun g => by
    unfold endE
    rw [if_neg (by omega), show (2 * g + 1) / 2 = g by omega]
  have hjp := ct.endE_pos j
  have hjl := ct.endE_lt hj
  have key : ∀ t, t < sumC B c L → ∃ g, g < L ∧ sumC B c g ≤ t ∧ t < sumC B c (g + 1) ∧ m ≤ G (sumC B c g) ∧ m ≤ G (sumC B c (g + 1) - 1) ∧ G t = G (sumC B c g) + ((t : Int) - ((sumC B c g : Nat) : Int)) * d ∧ G (sumC B c (g + 1) - 1) = G t + (((sumC B c (g + 1) - 1 : Nat) : Int) - (t : Int)) * d := by
    intro t ht
    obtain ⟨g, g1, g2, g3⟩ := ct.group L ht
    have up := ct.up g
    have a1 := hle (2 * g) (by omega)
    have a2 := hle (2 * g + 1) (by omega)
    rw [e0, Int.toNat_natCast] at a1
    rw [e1, show (((sumC B c (g + 1) : Nat) : Int) - 1).toNat = sumC B c (g + 1) - 1 by omega] at a2
    have l1 := lin g t g2 g3
    have l2 := lin g (sumC B c (g + 1) - 1) (by omega) (by omega)
    refine ⟨g, g1, g2, g3, a1, a2, l1, ?_⟩
    rw [l2, l1, Int.sub_mul, Int.sub_mul, Int.sub_mul]
    omega
  refine ⟨by omega, hm, fun t ht => ?_, fun t ht he => ?_⟩
  · obtain ⟨g, g1, g2, g3, a1, a2, l1, l2⟩ := key t ht
    rcases Int.le_total 0 d with hd | hd
    · have : 0 ≤ ((t : Int) - ((sumC B c g : Nat) : Int)) * d := Int.mul_nonneg (by omega) hd
      omega
    · have : (((sumC B c (g + 1) - 1 : Nat) : Int) - (t : Int)) * d ≤ 0 := Int.mul_nonpos_of_nonneg_of_nonpos (by omega) hd
      omega
  · obtain ⟨g, g1, g2, g3, a1, a2, l1, l2⟩ := key t (by omega)
    have up := ct.up g
    have low : ∀ k, k < 2 * L → endE B c k = (t : Int) → False := by
      intro k hk ek
      have hkj : k < j := by
        rcases Nat.lt_or_ge k j with z | z
        · exact z
        · have := ct.endE_mono z
          omega
      refine hf k hkj ?_
      rw [ek, Int.toNat_natCast]
      exact he
    have fst : t ≠ sumC B c g := fun z => low (2 * g) (by omega) (by rw [e0, z])
    have snd : t ≠ sumC B c (g + 1) - 1 := fun z => low (2 * g + 1) (by omega) (by rw [e1, z]; omega)
    rcases Int.lt_trichotomy d 0 with hd | hd | hd
    · have : (((sumC B c (g + 1) - 1 : Nat) : Int) - (t : Int)) * d < 0 := Int.mul_neg_of_pos_of_neg (by omega) hd
      omega
    · rw [hd, Int.mul_zero, Int.add_zero] at l1
      have hkj : 2 * g < j := by
        rcases Nat.lt_or_ge (2 * g) j with z | z
        · exact z
        · have := ct.endE_mono z
          rw [e0] at this
          omega
      refine hf _ hkj ?_
      rw [e0, Int.toNat_natCast]
      omega
    · have : 0 < ((t : Int) - ((sumC B c g : Nat) : Int)) * d := Int.mul_pos (by omega) hd
      omega
end
theorem first_ix {m : Int} : ∀ {ns : List Int}, m ∈ ns → ∃ j : Nat, ns[j]? = some m ∧ ∀ k : Nat, k < j → ∀ z, ns[k]? = some z → z ≠ m
  | n :: ns, h => by
    by_cases e : n = m
    · exact ⟨0, by rw [e]; rfl, fun k hk => absurd hk (Nat.not_lt_zero k)⟩
    · obtain ⟨j, h1, h2⟩ := first_ix (List.mem_of_ne_of_mem (fun z => e z.symm) h)
      refine ⟨j + 1, h1, fun k hk z hz => ?_⟩
      cases k with
      | zero => rw [← Option.some.inj hz]; exact e
      | succ k => exact h2 k (by omega) z hz
theorem ints_flatP : ∀ ns : List Int, (ns.map V.int).all flatV = true
  | [] => rfl
  | _ :: ns => ints_flatP ns
def spSwing (K : PySem.W.Frag) (C : Addr) : Sp := fun vs H Q _ => ∃ (old : Addr → Prop) (p b r q : Addr) (bs : List Int) (rows : List R3) (cs : List Int) (B : Nat) (c : Nat → Nat) (L : Nat) (x y : Int), vs = [.ref p, .ref q] ∧ HouseBy K C old H p b r bs rows cs B c L ∧ PaceAt K H q x y ∧
  (((L : Int) * x - ((sumC B c L : Nat) : Int) * y) * (B : Int) ≠ 0 → ∀ H', Same H H' → Q .non H') ∧
  (((L : Int) * x - ((sumC B c L : Nat) : Int) * y) * (B : Int) = 0 → ∀ (m1 m2 : Int) (i1 i2 : Nat) (t d1 d2 : Addr) H', Same H H' → LeastAt (fun n => gapI bs cs x y (n : Int)) (sumC B c L) m1 i1 → LeastAt (fun n => - gapI bs cs x y (n : Int)) (sumC B c L) (-m2) i2 →
    H' t = some (.tup [.ref d1, .int (i1 : Int), .ref d2, .int (i2 : Int)]) → H' d1 = some (.tup (fracV m1 (bs.getLastD 1 * x))) → H' d2 = some (.tup (fracV m2 (bs.getLastD 1 * x))) → Q (.ref t) H')
section
variable {P : Program} {w : World} {K : PySem.W.Frag} {mg : Str → Option Value} {base : Heap}
end
end LM

set_option Elab.async false
set_option linter.all false
set_option maxRecDepth 100000
set_option maxHeartbeats 4000000
/-! two houses that a law names: 60, 60, 30 where two numbers are skipped nine times of ten; 2, 3 where one is skipped -/
namespace LM
open PySem PySem.Spec PyProof.Rows L2 RZ
def dropB : List Int := [60, 60, 30]
def dropR : List R3 := [(1, 1, 2), (1, 10, 0)]
def dropF (g : Nat) : Int := if g % 600 == 0 then 0 else if g % 60 == 0 then 2 else 0
def dropC : List Int := (List.range 600).map dropF
theorem drop_fair : Fair dropB dropR := ⟨by decide, by decide, by decide, by decide, fun x hx => by
  simp only [dropR, List.mem_cons, List.not_mem_nil, or_false] at hx
  rcases hx with rfl | rfl <;> (unfold RowOk; decide), by decide +kernel⟩
theorem drop_counts : countsP dropB dropR (groupsP dropB dropR) = (List.range 3600).map dropF := by decide +kernel
theorem drop_apart : (List.range 600).all (fun j => j == 0 || dropF (60 + j) != 2 || dropF (600 - j) != 0) = true := by decide +kernel
theorem drop_get {i : Nat} (h : i < 3600) : ((List.range 3600).map dropF)[i]? = some (dropF i) := by
  rw [List.getElem?_map, List.getElem?_range h]
  rfl
theorem drop_shift {k : Nat} (h : repOk ((List.range 3600).map dropF) k) (hk : k < 600) {i : Nat} (hi : i + k < 3600) : dropF (i + k) = dropF i := by
  obtain ⟨_, e⟩ := h
  have a := congrArg (fun l : List Int => l[i]?) e
  rw [List.getElem?_drop, List.length_map, List.length_range, List.getElem?_take_of_lt (by omega), Nat.add_comm k i, drop_get hi, drop_get (by omega)] at a
  exact Option.some.inj a
theorem drop_600 : repOk ((List.range 3600).map dropF) 600 := ⟨by decide +kernel, by decide +kernel⟩
theorem drop_rep {k : Nat} (h : RepIs ((List.range 3600).map dropF) k) : k = 600 := by
  obtain ⟨h1, h2, h3, h4⟩ := h
  rcases Nat.lt_trichotomy k 600 with z | z | z
  · exfalso
    have q := List.all_eq_true.mp drop_apart k (List.mem_range.mpr z)
    have a := drop_shift h3 z (i := 60) (by omega)
    have b := drop_shift h3 z (i := 600 - k) (by omega)
    rw [show 600 - k + k = 600 by omega] at b
    rw [show dropF 60 = 2 from rfl] at a
    rw [show dropF 600 = 0 from rfl] at b
    rw [a, ← b] at q
    simp at q
    omega
  · exact z
  · exact absurd drop_600 (h4 600 (by decide) z)
theorem drop_cs {cs : List Int} (h : ∃ k, RepIs (countsP dropB dropR (groupsP dropB dropR)) k ∧ cs = (countsP dropB dropR (groupsP dropB dropR)).take k) : cs = dropC := by
  obtain ⟨k, hk, e⟩ := h
  rw [drop_counts] at hk e
  rw [drop_rep hk] at e
  rw [e, ← List.map_take, List.take_range]
  rfl
theorem drop_sum : (borneP dropB dropC).sum = 17982 := by decide +kernel
theorem drop_len : dropC.length = 600 := by decide +kernel
theorem drop_at0 : lna (sumsP (borneP dropB dropC)) 0 = 0 ∧ dropC.getD 0 0 = 0 ∧ (sumsP (borneP dropB dropC)).getD 0 0 = 0 := by decide +kernel
theorem drop_far (m : Int) : placeP dropB dropC (17982 * m) = 18000 * m := by
  unfold placeP
  rw [drop_sum, drop_len, Int.mul_ediv_cancel_left m (by decide), Int.mul_emod_right, drop_at0.1, drop_at0.2.1, drop_at0.2.2]
  show (m * 600 + 0) * 30 + (0 + 0 - 0) = 18000 * m
  omega
theorem drop_some : placeP dropB dropC 0 = 0 ∧ placeP dropB dropC 1799 = 1799 ∧ placeP dropB dropC 1800 = 1802 ∧ placeP dropB dropC 17982 = 18000 := by decide +kernel
/-! ### two numbers are skipped: what comes early -/
theorem drop_c {c : Nat → Nat} {L : Nat} {B : Nat} (ct : Cnt dropB dropR dropC B c L) : L = 600 ∧ B = 30 ∧ ∀ g, g < 600 → ((c g : Nat) : Int) = dropF g := by
  have hL : L = 600 := by rw [← ct.len, drop_len]
  refine ⟨hL, ?_, fun g hg => ?_⟩
  · have := ct.last
    have e : dropB.getLastD 1 = 30 := rfl
    rw [e] at this
    omega
  · have e := congrArg (fun l : List Int => l[g]?) ct.cse
    rw [hL] at e
    unfold dropC at e
    rw [List.getElem?_map, List.getElem?_map, List.getElem?_range hg] at e
    exact (Option.some.inj e).symm
theorem drop_early {g : Nat} (h : g < 60) : dropF g = 0 := by
  have : ∀ g, g < 60 → dropF g = 0 := by decide
  exact this g h
theorem drop_low {c : Nat → Nat} {L B : Nat} (ct : Cnt dropB dropR dropC B c L) (n : Nat) (h : n < 1800) : placeP dropB dropC (n : Int) = (n : Int) := by
  obtain ⟨hL, rfl, hc⟩ := drop_c ct
  have c0 : ∀ g, g < 60 → c g = 0 := fun g hg => by have := hc g (by omega); rw [drop_early hg] at this; omega
  have sm : ∀ g, g ≤ 60 → sumC 30 c g = 30 * g := by
    intro g
    induction g with
    | zero => intro _; rfl
    | succ g ih =>
      intro hg
      show sumC 30 c g + (30 - c g) = _
      rw [ih (by omega), c0 g (by omega)]
      omega
  have hg : n / 30 < 60 := by omega
  have s1 := sm (n / 30) (by omega)
  have s2 := sm (n / 30 + 1) (by omega)
  rw [ct.place_in (g := n / 30) (by omega) (by omega), s1, c0 _ hg]
  omega
end LM

set_option Elab.async false
set_option linter.all false
set_option maxRecDepth 100000
set_option maxHeartbeats 4000000
namespace LM
open PySem PySem.Spec PyProof.Rows L2
/-! ### moves by numbers alone: what a leg does with a frame -/
/-- what the counts of a house tell: last base, skipped labels of a group, groups of a round -/
structure HN where
  B : Nat
  c : Nat → Nat
  L : Nat
structure HN.Ok (h : HN) : Prop where
  hB : 2 ≤ h.B
  hL : 1 ≤ h.L
  lt : ∀ g, h.c g < h.B
  per : ∀ i, h.c (i + h.L) = h.c i
  ex : ∀ n, ∃ s, bor h.B h.c s = true ∧ bel h.B h.c s = n
/-- frames and places of a round -/
def HN.N (h : HN) : Nat := sumC h.B h.c h.L
def HN.P (h : HN) : Nat := h.L * h.B
noncomputable def HN.plc (h : HN) (n : Nat) : Nat := Classical.epsilon fun s => bor h.B h.c s = true ∧ bel h.B h.c s = n
abbrev HN.bl (h : HN) (s : Nat) : Nat := bel h.B h.c s
section
variable {h : HN}
theorem HN.Ok.plc_spec (k : h.Ok) (n : Nat) : bor h.B h.c (h.plc n) = true ∧ h.bl (h.plc n) = n := Classical.epsilon_spec (k.ex n)
theorem HN.Ok.plc_of (k : h.Ok) {s n : Nat} (h1 : bor h.B h.c s = true) (h2 : h.bl s = n) : h.plc n = s := bel_inj (k.plc_spec n).1 h1 ((k.plc_spec n).2.trans h2.symm)
theorem HN.Ok.bl_le (k : h.Ok) {s n : Nat} : h.bl s ≤ n ↔ s ≤ h.plc n := by
  constructor
  · intro z
    rcases Nat.lt_or_ge (h.plc n) s with y | y
    · have := bel_lt (k.plc_spec n).1 y
      have e := (k.plc_spec n).2
      simp only [HN.bl] at z e
      omega
    · exact y
  · intro z
    have := bel_mono (B := h.B) (c := h.c) z
    have e := (k.plc_spec n).2
    simp only [HN.bl] at e ⊢
    omega
theorem HN.Ok.lt_bl (k : h.Ok) {s n : Nat} : n < h.bl s ↔ h.plc n < s := by
  have := k.bl_le (s := s) (n := n)
  omega
theorem HN.Ok.plc_le (k : h.Ok) {n m : Nat} : h.plc n ≤ h.plc m ↔ n ≤ m := by
  rw [← k.bl_le, (k.plc_spec n).2]
theorem HN.Ok.N_pos (k : h.Ok) : 1 ≤ h.N := by
  have h1 := sumC_mono (B := h.B) (c := h.c) (show 1 ≤ h.L from k.hL)
  have h2 := k.lt 0
  have e : sumC h.B h.c 1 = 0 + (h.B - h.c 0) := rfl
  unfold HN.N
  omega
theorem HN.Ok.P_pos (k : h.Ok) : 1 ≤ h.P := Nat.mul_pos k.hL (by have := k.hB; omega)
theorem HN.Ok.bl_per (k : h.Ok) (s q : Nat) : h.bl (s + h.P * q) = h.bl s + h.N * q := bel_mul (by have := k.hB; omega) (fun g => Nat.le_of_lt (k.lt g)) k.per q s
theorem HN.Ok.plc_per (k : h.Ok) (n q : Nat) : h.plc (n + h.N * q) = h.plc n + h.P * q := by
  refine k.plc_of ?_ ?_
  · exact (bor_mul (by have := k.hB; omega) k.per q (h.plc n)).trans (k.plc_spec n).1
  · rw [k.bl_per, (k.plc_spec n).2]
end
/-- the frame at a place or near it: for `last` below 0 if there is none -/
def HN.nr (h : HN) (s : Nat) (nx : Bool) : Int := if nx = true then (h.bl s : Int) else (h.bl (s + 1) : Int) - 1
theorem HN.nr_next (h : HN) (s : Nat) : h.nr s true = (h.bl s : Int) := by
  unfold HN.nr
  rw [if_pos rfl]
theorem HN.nr_last (h : HN) (s : Nat) : h.nr s false = (h.bl (s + 1) : Int) - 1 := by
  unfold HN.nr
  rw [if_neg Bool.false_ne_true]
inductive Leg where
  | sh (k : Int)
  | lb (here there : HN) (k : Int) (nx : Bool)
  | un (here : HN) (W : Nat) (a : Nat)
  | rt (a b : Nat)
def Leg.Ok : Leg → Prop
  | .sh _ => True
  | .lb h1 h2 _ _ => h1.Ok ∧ h2.Ok
  | .un h W _ => h.Ok ∧ 1 ≤ W
  | .rt a b => 1 ≤ a ∧ 1 ≤ b
/-- where the frame is led; below 0: lost -/
noncomputable def Leg.F : Leg → Nat → Int
  | .sh k, n => (n : Int) + k
  | .lb h1 h2 k nx, n => if (h1.plc n : Int) + k < 0 then -1 else h2.nr ((h1.plc n : Int) + k).toNat nx
  | .un h W a, n => h.nr ((h.plc n / W + a) * W) true
  | .rt a b, n => ((n * a / b : Nat) : Int)
def nrLow (h : HN) (nx : Bool) (plc : Nat → Nat) (f : Nat) : Nat := if nx = false then plc f else if 0 < f then plc (f - 1) + 1 else 0
/-- the least frame that is led here or further -/
noncomputable def Leg.ls : Leg → Nat → Nat
  | .sh k, f => ((f : Int) - k).toNat
  | .lb h1 h2 k nx, f => h1.bl ((nrLow h2 nx h2.plc f : Int) - k).toNat
  | .un h W a, f => h.bl (((nrLow h true h.plc f + W - 1) / W - a) * W)
  | .rt a b, f => (f * b + a - 1) / a
theorem HN.Ok.nr_low {h : HN} (k : h.Ok) (s f : Nat) (nx : Bool) : (f : Int) ≤ h.nr s nx ↔ nrLow h nx h.plc f ≤ s := by
  cases nx with
  | true =>
    rw [HN.nr_next]
    unfold nrLow
    rw [if_neg (by decide)]
    by_cases hf : 0 < f
    · rw [if_pos hf]
      have := k.lt_bl (s := s) (n := f - 1)
      omega
    · rw [if_neg hf]
      omega
  | false =>
    rw [HN.nr_last]
    unfold nrLow
    rw [if_pos rfl]
    have := k.lt_bl (s := s + 1) (n := f)
    omega
theorem div_le_up {a b w : Nat} (hw : 1 ≤ w) : (a + w - 1) / w ≤ b ↔ a ≤ b * w := by
  rw [Nat.div_le_iff_le_mul_add_pred (by omega), Nat.mul_comm w b]
  omega
theorem Leg.gal {l : Leg} (k : l.Ok) (n f : Nat) : (f : Int) ≤ l.F n ↔ l.ls f ≤ n := by
  cases l with
  | sh k => 
    simp only [Leg.F, Leg.ls]
    omega
  | lb h1 h2 a nx =>
    obtain ⟨k1, k2⟩ := k
    simp only [Leg.F, Leg.ls]
    rw [k1.bl_le]
    by_cases hn : (h1.plc n : Int) + a < 0
    · rw [if_pos hn]
      omega
    · rw [if_neg hn, k2.nr_low]
      omega
  | un h W a =>
    obtain ⟨k1, hW⟩ := k
    simp only [Leg.F, Leg.ls]
    rw [k1.bl_le, k1.nr_low]
    have h1 := div_le_up (a := nrLow h true h.plc f) (b := h.plc n / W + a) hW
    have h2 : ((nrLow h true h.plc f + W - 1) / W - a) * W ≤ h.plc n ↔ (nrLow h true h.plc f + W - 1) / W - a ≤ h.plc n / W := (Nat.le_div_iff_mul_le (by omega)).symm
    rw [h2, ← h1]
    generalize (nrLow h true h.plc f + W - 1) / W = x
    generalize h.plc n / W = y
    omega
  | rt a b =>
    obtain ⟨ha, hb⟩ := k
    simp only [Leg.F, Leg.ls]
    rw [div_le_up ha, Int.ofNat_le, Nat.le_div_iff_mul_le (by omega)]
theorem Leg.mono {l : Leg} (k : l.Ok) {n m : Nat} (h : n ≤ m) (h0 : 0 ≤ l.F n) : l.F n ≤ l.F m := by
  have e := Int.toNat_of_nonneg h0
  rw [← e, l.gal k]
  exact Nat.le_trans ((l.gal k n _).mp (by rw [e]; exact Int.le_refl _)) h
/-- the divisor and the share of a leg -/
def Leg.D : Leg → Nat
  | .sh _ => 1
  | .lb h1 h2 _ _ => h1.N * (Nat.lcm h1.P h2.P / h1.P)
  | .un h W _ => h.N * (Nat.lcm h.P W / h.P)
  | .rt a b => b / Nat.gcd a b
def Leg.S : Leg → Nat
  | .sh _ => 1
  | .lb h1 h2 _ _ => h2.N * (Nat.lcm h1.P h2.P / h2.P)
  | .un h W _ => h.N * (Nat.lcm h.P W / h.P)
  | .rt a b => a / Nat.gcd a b
theorem HN.Ok.N_le {h : HN} (k : h.Ok) : h.N ≤ h.P := by
  have : ∀ n, sumC h.B h.c n ≤ n * h.B := fun n => by
    induction n with
    | zero => exact Nat.zero_le _
    | succ n ih =>
      rw [Nat.succ_mul]
      show sumC h.B h.c n + (h.B - h.c n) ≤ _
      omega
  exact this h.L
theorem lcm_quot {a b : Nat} : a * (Nat.lcm a b / a) = Nat.lcm a b := Nat.mul_div_cancel' (Nat.dvd_lcm_left a b)
theorem lcm_quot2 {a b : Nat} : b * (Nat.lcm a b / b) = Nat.lcm a b := Nat.mul_div_cancel' (Nat.dvd_lcm_right a b)
theorem quot_pos {a b : Nat} (ha : 1 ≤ a) (hb : 1 ≤ b) : 1 ≤ Nat.lcm a b / a := by
  have h1 := Nat.lcm_pos (show 0 < a from ha) (show 0 < b from hb)
  exact Nat.div_pos (Nat.le_of_dvd h1 (Nat.dvd_lcm_left a b)) (by omega)
theorem quot_pos2 {a b : Nat} (ha : 1 ≤ a) (hb : 1 ≤ b) : 1 ≤ Nat.lcm a b / b := by
  have h1 := Nat.lcm_pos (show 0 < a from ha) (show 0 < b from hb)
  exact Nat.div_pos (Nat.le_of_dvd h1 (Nat.dvd_lcm_right a b)) (by omega)
theorem Leg.D_pos {l : Leg} (k : l.Ok) : 1 ≤ l.D ∧ 1 ≤ l.S := by
  cases l with
  | sh k => exact ⟨Nat.le_refl _, Nat.le_refl _⟩
  | lb h1 h2 a nx => exact ⟨Nat.mul_pos k.1.N_pos (quot_pos k.1.P_pos k.2.P_pos), Nat.mul_pos k.2.N_pos (quot_pos2 k.1.P_pos k.2.P_pos)⟩
  | un h W a => exact ⟨Nat.mul_pos k.1.N_pos (quot_pos k.1.P_pos k.2), Nat.mul_pos k.1.N_pos (quot_pos k.1.P_pos k.2)⟩
  | rt a b =>
    have g := Nat.gcd_pos_of_pos_left b (show 0 < a from k.1)
    exact ⟨Nat.div_pos (Nat.le_of_dvd k.2 (Nat.gcd_dvd_right a b)) g, Nat.div_pos (Nat.le_of_dvd k.1 (Nat.gcd_dvd_left a b)) g⟩
theorem HN.Ok.nr_per {h : HN} (k : h.Ok) (s q : Nat) (nx : Bool) : h.nr (s + h.P * q) nx = h.nr s nx + ((h.N * q : Nat) : Int) := by
  cases nx with
  | true =>
    rw [HN.nr_next, HN.nr_next, k.bl_per]
    omega
  | false =>
    rw [HN.nr_last, HN.nr_last, show s + h.P * q + 1 = s + 1 + h.P * q by omega, k.bl_per]
    omega
theorem F_lb {h1 h2 : HN} {a : Int} {nx : Bool} {n : Nat} (h : ¬ (h1.plc n : Int) + a < 0) : (Leg.lb h1 h2 a nx).F n = h2.nr ((h1.plc n : Int) + a).toNat nx := if_neg h
theorem F_lb_lost {h1 h2 : HN} {a : Int} {nx : Bool} {n : Nat} (h : 0 ≤ (Leg.lb h1 h2 a nx).F n) : ¬ (h1.plc n : Int) + a < 0 := fun z => by
  have e : (Leg.lb h1 h2 a nx).F n = -1 := if_pos z
  rw [e] at h
  exact absurd h (by decide)
theorem Leg.per {l : Leg} (k : l.Ok) (n q : Nat) (h0 : 0 ≤ l.F n) : l.F (n + l.D * q) = l.F n + ((l.S * q : Nat) : Int) := by
  cases l with
  | sh k =>
    simp only [Leg.F, Leg.D, Leg.S]
    omega
  | lb h1 h2 a nx =>
    obtain ⟨k1, k2⟩ := k
    have hn := F_lb_lost h0
    have e1 : h1.plc (n + h1.N * (Nat.lcm h1.P h2.P / h1.P) * q) = h1.plc n + Nat.lcm h1.P h2.P * q := by
      rw [Nat.mul_assoc, k1.plc_per, ← Nat.mul_assoc, lcm_quot]
    show (Leg.lb h1 h2 a nx).F (n + h1.N * (Nat.lcm h1.P h2.P / h1.P) * q) = _ + ((h2.N * (Nat.lcm h1.P h2.P / h2.P) * q : Nat) : Int)
    rw [F_lb hn, F_lb (by omega), e1]
    have e2 : (((h1.plc n + Nat.lcm h1.P h2.P * q : Nat) : Int) + a).toNat = ((h1.plc n : Int) + a).toNat + h2.P * ((Nat.lcm h1.P h2.P / h2.P) * q) := by
      rw [← Nat.mul_assoc, lcm_quot2]
      omega
    rw [e2, k2.nr_per, ← Nat.mul_assoc]
  | un h W a =>
    obtain ⟨k1, hW⟩ := k
    simp only [Leg.F, Leg.D, Leg.S] at h0 ⊢
    have e1 : h.plc (n + h.N * (Nat.lcm h.P W / h.P) * q) = h.plc n + Nat.lcm h.P W * q := by
      rw [Nat.mul_assoc, k1.plc_per, ← Nat.mul_assoc, lcm_quot]
    have e2 : (h.plc n + Nat.lcm h.P W * q) / W = h.plc n / W + Nat.lcm h.P W / W * q := by
      have : Nat.lcm h.P W * q = W * (Nat.lcm h.P W / W * q) := by rw [← Nat.mul_assoc, lcm_quot2]
      rw [this, Nat.add_mul_div_left _ _ (by omega)]
    have e3 : (h.plc n / W + Nat.lcm h.P W / W * q + a) * W = (h.plc n / W + a) * W + h.P * (Nat.lcm h.P W / h.P * q) := by
      rw [← Nat.mul_assoc h.P, lcm_quot, Nat.add_right_comm, Nat.add_mul _ _ W]
      congr 1
      rw [Nat.mul_right_comm, Nat.mul_comm (Nat.lcm h.P W / W) W, lcm_quot2]
    rw [e1, e2, e3, k1.nr_per, ← Nat.mul_assoc]
  | rt a b =>
    obtain ⟨ha, hb⟩ := k
    simp only [Leg.F, Leg.D, Leg.S]
    have g1 := Nat.gcd_dvd_left a b
    have g2 := Nat.gcd_dvd_right a b
    have e : (n + b / Nat.gcd a b * q) * a = n * a + b * (a / Nat.gcd a b * q) := by
      rw [Nat.add_mul]
      congr 1
      rw [Nat.mul_right_comm, ← Nat.mul_assoc]
      congr 1
      rw [← Nat.mul_div_assoc _ g1, Nat.mul_comm (b / Nat.gcd a b), ← Nat.mul_div_assoc _ g2, Nat.mul_comm a b]
    rw [e, Nat.add_mul_div_left _ _ (by omega)]
    omega
/-! ### rows of legs -/
noncomputable def vl : List Leg → Nat → Option Nat
  | [], n => some n
  | l :: r, n => if 0 ≤ l.F n then vl r (l.F n).toNat else none
noncomputable def lsl : List Leg → Nat → Nat
  | [], f => f
  | l :: r, f => l.ls (lsl r f)
theorem vl_gal : ∀ {ls : List Leg}, (∀ l ∈ ls, l.Ok) → ∀ n f, (∃ v, vl ls n = some v ∧ f ≤ v) ↔ lsl ls f ≤ n
  | [], _, n, f => ⟨fun ⟨v, e, h⟩ => by cases e; exact h, fun h => ⟨n, rfl, h⟩⟩
  | l :: r, k, n, f => by
    have kl := k l List.mem_cons_self
    have kr := fun x hx => k x (List.mem_cons_of_mem _ hx)
    unfold vl lsl
    rw [← l.gal kl]
    by_cases h0 : 0 ≤ l.F n
    · rw [if_pos h0, vl_gal kr]
      omega
    · rw [if_neg h0]
      constructor
      · rintro ⟨v, e, _⟩
        exact nomatch e
      · intro z
        omega
section
variable {ls : List Leg}
theorem vl_some (k : ∀ l ∈ ls, l.Ok) (n : Nat) : (∃ v, vl ls n = some v) ↔ lsl ls 0 ≤ n := by
  rw [← vl_gal k]
  exact ⟨fun ⟨v, e⟩ => ⟨v, e, Nat.zero_le _⟩, fun ⟨v, e, _⟩ => ⟨v, e⟩⟩
theorem vl_none (k : ∀ l ∈ ls, l.Ok) (n : Nat) : vl ls n = none ↔ n < lsl ls 0 := by
  have := vl_some k n
  constructor
  · intro h
    rw [h] at this
    rcases Nat.lt_or_ge n (lsl ls 0) with z | z
    · exact z
    · obtain ⟨v, e⟩ := this.mpr z
      exact nomatch e
  · intro h
    cases e : vl ls n with
    | none => rfl
    | some v => exact absurd (this.mp ⟨v, e⟩) (by omega)
theorem vl_mono (k : ∀ l ∈ ls, l.Ok) {n m v : Nat} (h : n ≤ m) (e : vl ls n = some v) : ∃ w, vl ls m = some w ∧ v ≤ w := (vl_gal k m v).mpr (Nat.le_trans ((vl_gal k n v).mp ⟨v, e, Nat.le_refl _⟩) h)
end
/-- the least number that goes through, and what it becomes -/
def thr : List Leg → Nat × Nat → Nat × Nat
  | [], s => s
  | l :: r, s => thr r (s.1 * (l.D / Nat.gcd l.D s.2), s.2 * (l.D / Nat.gcd l.D s.2) / l.D * l.S)
theorem thr_step {D b : Nat} (hD : 1 ≤ D) (hb : 1 ≤ b) : ∃ q, 1 ≤ q ∧ b * (D / Nat.gcd D b) = D * q ∧ b * (D / Nat.gcd D b) / D = q ∧ 1 ≤ D / Nat.gcd D b := by
  have g := Nat.gcd_pos_of_pos_left b (show 0 < D from hD)
  have d1 := Nat.gcd_dvd_left D b
  have d2 := Nat.gcd_dvd_right D b
  have e : b * (D / Nat.gcd D b) = D * (b / Nat.gcd D b) := by
    rw [← Nat.mul_div_assoc _ d1, ← Nat.mul_div_assoc _ d2, Nat.mul_comm]
  refine ⟨b / Nat.gcd D b, Nat.div_pos (Nat.le_of_dvd hb d2) g, e, ?_, Nat.div_pos (Nat.le_of_dvd hD d1) g⟩
  rw [e, Nat.mul_div_cancel_left _ (by omega)]
theorem thr_pos : ∀ {ls : List Leg}, (∀ l ∈ ls, l.Ok) → ∀ s : Nat × Nat, 1 ≤ s.1 → 1 ≤ s.2 → 1 ≤ (thr ls s).1 ∧ 1 ≤ (thr ls s).2 ∧ ∃ t, (thr ls s).1 = s.1 * t ∧ 1 ≤ t
  | [], _, s, h1, h2 => ⟨h1, h2, 1, (Nat.mul_one _).symm, Nat.le_refl _⟩
  | l :: r, k, s, h1, h2 => by
    have kl := Leg.D_pos (k l List.mem_cons_self)
    obtain ⟨q, hq, e1, e2, e3⟩ := thr_step kl.1 h2
    unfold thr
    rw [e2]
    obtain ⟨a, b, t, et, ht⟩ := thr_pos (fun x hx => k x (List.mem_cons_of_mem _ hx)) (s.1 * (l.D / Nat.gcd l.D s.2), q * l.S) (Nat.mul_pos h1 e3) (Nat.mul_pos hq kl.2)
    refine ⟨a, b, (l.D / Nat.gcd l.D s.2) * t, ?_, Nat.mul_pos e3 ht⟩
    rw [et, Nat.mul_assoc]
/-- with `t` so many times the numbers with which the row began, the value grows by what that becomes -/
theorem vl_per_at : ∀ {ls : List Leg}, (∀ l ∈ ls, l.Ok) → ∀ s : Nat × Nat, 1 ≤ s.1 → 1 ≤ s.2 → ∀ t, (thr ls s).1 = s.1 * t → ∀ q n v, vl ls n = some v → vl ls (n + s.2 * t * q) = some (v + (thr ls s).2 * q)
  | [], _, s, h1, h2, t, ht, q, n, v, e => by
    cases e
    have : t = 1 := Nat.eq_of_mul_eq_mul_left h1 (ht.symm.trans (Nat.mul_one _).symm)
    subst this
    unfold vl thr
    rw [Nat.mul_one]
  | l :: r, k, s, h1, h2, t, ht, q, n, v, e => by
    have kl := k l List.mem_cons_self
    have kr := fun x hx => k x (List.mem_cons_of_mem _ hx)
    have kd := Leg.D_pos kl
    obtain ⟨p, hp, e1, e2, e3⟩ := thr_step kd.1 h2
    unfold thr at ht ⊢
    rw [e2] at ht ⊢
    obtain ⟨_, _, t1, et1, _⟩ := thr_pos kr (s.1 * (l.D / Nat.gcd l.D s.2), p * l.S) (Nat.mul_pos h1 e3) (Nat.mul_pos hp kd.2)
    have ett : t = l.D / Nat.gcd l.D s.2 * t1 := by
      refine Nat.eq_of_mul_eq_mul_left h1 ?_
      rw [← ht, et1, Nat.mul_assoc]
    unfold vl at e ⊢
    by_cases h0 : 0 ≤ l.F n
    · rw [if_pos h0] at e
      have ee : s.2 * t * q = l.D * (p * t1 * q) := by
        rw [ett, ← Nat.mul_assoc s.2, e1]
        simp only [Nat.mul_assoc]
      have ep := l.per kl n (p * t1 * q) h0
      rw [ee, ep, if_pos (by omega)]
      have et : (l.F n + ((l.S * (p * t1 * q) : Nat) : Int)).toNat = (l.F n).toNat + p * l.S * t1 * q := by
        have : l.S * (p * t1 * q) = p * l.S * t1 * q := by
          rw [← Nat.mul_assoc, ← Nat.mul_assoc, Nat.mul_comm l.S p]
        omega
      rw [et]
      exact vl_per_at kr (s.1 * (l.D / Nat.gcd l.D s.2), p * l.S) (Nat.mul_pos h1 e3) (Nat.mul_pos hp kd.2) t1 et1 q _ _ e
    · rw [if_neg h0] at e
      exact nomatch e
theorem vl_per {ls : List Leg} (k : ∀ l ∈ ls, l.Ok) (q n v : Nat) (e : vl ls n = some v) : vl ls (n + (thr ls (1, 1)).1 * q) = some (v + (thr ls (1, 1)).2 * q) := by
  have := vl_per_at k (1, 1) (Nat.le_refl _) (Nat.le_refl _) (thr ls (1, 1)).1 (by rw [Nat.one_mul]) q n v e
  rwa [Nat.one_mul] at this
/-! ### places within a group -/
theorem HN.Ok.plc_run {h : HN} (k : h.Ok) {m j : Nat} (hj : h.plc m % h.B + j < h.B) : h.plc (m + j) = h.plc m + j := by
  have hB := k.hB
  have s1 := (k.plc_spec m).1
  have s2 := (k.plc_spec m).2
  have hd := Nat.div_add_mod (h.plc m) h.B
  have e1 : (h.plc m + j) / h.B = h.plc m / h.B := Nat.div_eq_of_lt_le (by rw [Nat.mul_comm]; omega) (by rw [Nat.add_mul, Nat.mul_comm]; omega)
  have e2 : (h.plc m + j) % h.B = h.plc m % h.B + j := by
    have := Nat.div_add_mod (h.plc m + j) h.B
    rw [e1] at this
    omega
  have hb := of_decide_eq_true s1
  refine k.plc_of ?_ ?_
  · unfold bor
    rw [e1, e2]
    exact decide_eq_true (by omega)
  · have a1 := bel_at (B := h.B) (c := h.c) (by omega) (fun g => Nat.le_of_lt (k.lt g)) (h.plc m)
    have a2 := bel_at (B := h.B) (c := h.c) (by omega) (fun g => Nat.le_of_lt (k.lt g)) (h.plc m + j)
    rw [e1, e2] at a2
    simp only [HN.bl] at s2 ⊢
    omega
end LM

set_option Elab.async false
set_option linter.all false
set_option maxRecDepth 100000
set_option maxHeartbeats 4000000
set_option pp.maxSteps 600
set_option pp.deepTerms false
namespace LM
open PySem PySem.Spec PyProof.Rows L2 RZ
local macro_rules | `(tactic| walk_at "hp") => `(tactic| first | assumption | exact upd_same | (rw [upd_ne (by assumption)]; assumption) | (rw [upd_ne (Ne.symm (by assumption))]; assumption) | (rw [upd_ne (by assumption)]; exact upd_same) | (rw [upd_ne (Ne.symm (by assumption))]; exact upd_same))
local macro_rules | `(tactic| walk_at "sq") => `(tactic| first | assumption | exact Or.inl (Or.inl (by assumption)) | exact Or.inl (Or.inl upd_same) | exact Or.inl (Or.inl (by walk_at "hp")))
local macro_rules | `(tactic| walk_at "ixl") => `(tactic| refine ⟨_, _, _, _, rfl, rfl, (by walk_at "sq"), (by rfl), ?_⟩)
local macro_rules | `(tactic| walk_at "setl") => `(tactic| refine ⟨_, _, _, _, rfl, rfl, (by walk_at "hp"), (by rfl), ?_⟩)
local macro_rules | `(tactic| walk_at "side") => `(tactic| refine idP ?_; first | omega | (show (0 : Int) < _; omega) | (show (0 : Int) < _ ∧ _ < _; omega) | (refine Or.inr ?_; show (-(2 ^ 64) : Int) < _ ∧ _ < _; omega) | (refine Or.inl ?_; show (-(2 ^ 64) : Int) < _ ∧ _ < _; omega) | exact divW (by omega) (by omega) _ | (refine ⟨by decide, by decide, ?_⟩; decide))
local macro_rules | `(tactic| walk_at "go1") => `(tactic| first
  | refine ⟨_, rfl, ?_⟩
  | refine ⟨_, _, rfl, rfl, (by walk_at "side"), ?_⟩
  | refine ⟨_, _, rfl, (by walk_at "side"), ?_⟩
  | refine ⟨_, _, rfl, rfl, ?_⟩
  | refine Or.inl ⟨_, rfl, ?_⟩
  | refine ⟨_, _, rfl, Or.inl (by walk_at "sq"), ?_⟩
  | walk_at "ixl"
  | walk_at "setl"
  | refine ⟨_, _, rfl, (by walk_at "sq"), rfl, ?_⟩
  | refine ⟨_, _, rfl, (by walk_at "sq"), ?_⟩
  | refine ⟨_, _, rfl, ?_⟩
  | refine ⟨rfl, ?_⟩
  | refine ⟨small (Nat.le_of_ble_eq_true rfl), ?_⟩)
local macro_rules | `(tactic| walk_at "go") => `(tactic| repeat walk_at "go1")

abbrev sHouse_places_of : Stmt := inClass (topS 57) 11
theorem scHouse_places_of : FnScope ["self", "frames", "base", "places", "ahead", "behind", "frame", "place"] ["self", "frames"] (defScope sHouse_places_of) := ⟨rfl, rfl, rfl, by decide +kernel, rfl, by decide +kernel, by decide +kernel⟩
theorem Cnt.hn {gs : List Int} {rows : List R3} {cs : List Int} {B : Nat} {c : Nat → Nat} {L : Nat} (ct : Cnt gs rows cs B c L) : (HN.mk B c L).Ok := ⟨ct.hB, ct.hL, ct.lt, ct.per, fun n => by
  obtain ⟨s, _, h2, h3, _⟩ := ct.at n
  exact ⟨s, h2, h3⟩⟩
theorem Cnt.plc {gs : List Int} {rows : List R3} {cs : List Int} {B : Nat} {c : Nat → Nat} {L : Nat} (ct : Cnt gs rows cs B c L) (n : Nat) : placeP gs cs (n : Int) = (((HN.mk B c L).plc n : Nat) : Int) := by
  obtain ⟨s, h1, h2, h3, _⟩ := ct.at n
  rw [h1, ct.hn.plc_of (h := HN.mk B c L) h2 h3]
theorem hf_po (b r sk ah rd : Addr) (t : Str) : (hf b r sk ah rd t).lookup ("places_of" : Str) = none := hf_no _ _ _ _ _ _ (by decide +kernel) (by decide +kernel) (by decide +kernel) (by decide +kernel) (by decide +kernel) (by decide +kernel)
/-- the frame that was looked up last -/
def LookedP (h : HN) (rest : List Nat) (ah be : Int) : Prop := be = 0 ∨ ∃ m : Nat, ah = (h.plc m : Int) - (m : Int) ∧ be = (m : Int) + (h.B : Int) - ((h.plc m % h.B : Nat) : Int) ∧ ∀ s ∈ rest, m ≤ s
def spPlacesOf (K : PySem.W.Frag) (C : Addr) : Sp := fun vs H Q _ => ∃ (old : Addr → Prop) (p b r l : Addr) (bs : List Int) (rows : List R3) (cs : List Int) (B : Nat) (c : Nat → Nat) (L : Nat) (ss : List Nat), vs = [.ref p, .ref l] ∧ HouseBy K C old H p b r bs rows cs B c L ∧ SqL K H l (natL ss) ∧ ss.Pairwise (· ≤ ·) ∧ ss.length ≤ 30000 ∧
  ∀ q H', Same H H' → H q = none → H' q = some (.lst (natL (ss.map (HN.mk B c L).plc))) → Q (.ref q) H'
section
variable {P : Program} {w : World} {K : PySem.W.Frag} {mg : Str → Option Value} {base : Heap}
theorem ok_placesof {f C fB : Addr} {fd fdB : FuncData} (F : Fun K "places_of" "House.places_of" sHouse_places_of f fd) (T : HouseTxt K mg C) (N : Names mg)
    (mB : Meth K C "_place_borne" fB) (GB : FnOk P w K mg base CX0 2 fB fdB ["self", "frame"] (spPlaceM K C)) (bB : Binds K fdB ["self", "frame"] []) : FnOk P w K mg base CX0 3 f fd ["self", "frames"] (spPlacesOf K C) := by
  have sc := scHouse_places_of
  refine F.ok sc (fun vs H Q E h => ?_) (fun cdv A outer s H vs Q E hr h => ?_)
  · obtain ⟨old, p, b, r, l, bs, rows, cs, B, c, L, ss, rfl, _⟩ := h
    rfl
  · obtain ⟨old, p, b, r, l, bs, rows, cs, B, c, L, ss, rfl, hB, hl, hpw, hln, k⟩ := h
    refine ⟨_, (pss_cons (ps_set (i := 2) sc.nd rfl (Or.inl rfl) (pe_ix ix_tup (pe_fld (pv 0) rfl) (pe_un un_neg pe_int) (fun _ _ => rfl)))
      (pss_cons (ps_set (i := 3) sc.nd rfl (Or.inl rfl) (pe_lst pa_nil))
      (pss_cons (ps_asg2 pe_int (pg_name (i := 4) sc.nd rfl (Or.inl rfl)) (pg_name (i := 5) sc.nd rfl (Or.inl rfl)))
      (pss_cons (ps_for PassesOwn.never rfl (pi_list (pv 1)) (pg_name (i := 6) sc.nd rfl (Or.inl rfl)) (pss_cons (ps_if (pt_cmpR op_ge (pv 6) (pv 5) (nomark _)) (pss_cons (ps_set (i := 7) sc.nd rfl (Or.inl rfl) (pe_meth (pv 0) T.cl mB GB (hr.mono (by decide)) bB .nil pass0 (pa_cons (pv 6) pa_nil)))
      (pss_cons (ps_set (i := 4) sc.nd rfl (Or.inl rfl) (pe_op op_sub (pv 7) (pv 6)))
      (pss_one (ps_set (i := 5) sc.nd rfl (Or.inl rfl) (pe_op op_sub (pe_op op_add (pv 6) (pv 2)) (pe_op op_mod (pv 7) (pv 2))))))) pss_nil)
      (pss_one (ps_expr (pe_bm PySem.F.plainAttrs_list PySem.F.slot_list_append PySem.F.type_list_append mt_append (pv 3) (pa_cons (pe_op op_add (pv 6) (pv 4)) pa_nil))))))
      (pss_one (ps_ret (pv 3))))))), ?_⟩
    obtain ⟨hA, ct⟩ := id hB
    obtain ⟨⟨dx, sk, ah, rd, e1, e2, e3, e4, _, _⟩, bt, rt, fr, _⟩ := id hA
    have hB2 := ct.hB
    have hB6 := ct.hB6
    have ko := ct.hn
    refine ⟨_, rfl, p, C, dx, _, _, rfl, e1, T.cl, T.nB, hf_bases _ _ _ _ _ _, _, rfl, b, _, _, _, rfl, rfl, bt, getLastD_map bs fr.b0, ?_⟩
    rw [ct.last]
    refine ⟨Nat.le_of_ble_eq_true rfl, ?_⟩
    (intro q nq; generalize e_q : upd H q _ = H1; have s1 : Same H H1 := fun b x hb => (congrFun e_q b).symm.trans (same_new nq b x hb); have h1 := (congrFun e_q q).symm.trans upd_same; clear e_q)
    refine ⟨_, rfl, l, rfl, ⟨_, s1.seq hl⟩, for_list (K := K) (xs := natL ss) (fun i σ H' => ∃ (ah be : Int) (v6 v7 : Option V), σ = [some (.ref p), some (.ref l), some (.int (B : Int)), some (.ref q), some (.int ah), some (.int be), v6, v7] ∧ Same H H' ∧ H' q = some (.lst (natL ((ss.take i).map (HN.mk B c L).plc))) ∧ LookedP (HN.mk B c L) (ss.drop i) ah be)
      ⟨0, 0, _, _, rfl, s1, h1, .inl rfl⟩ (fun i σ H' _ ⟨_, _, _, _, _, sm, _⟩ => sm.seq hl) ?_ ?_⟩
    · rintro i x σ H2 hx ⟨ah0, be, v6, v7, rfl, s2, hq, lk⟩
      obtain ⟨s, hs, rfl⟩ : ∃ s, ss[i]? = some s ∧ x = V.int (s : Int) := by
        unfold natL at hx
        rw [List.getElem?_map] at hx
        obtain ⟨z, hz, e⟩ := Option.map_eq_some_iff.mp hx
        exact ⟨z, hz, e.symm⟩
      obtain ⟨hil, hse⟩ := List.getElem?_eq_some_iff.mp hs
      have hdrop : ss.drop i = s :: ss.drop (i + 1) := by rw [List.drop_eq_getElem_cons hil, hse]
      have hafter : ∀ t ∈ ss.drop (i + 1), s ≤ t := by
        have h := hpw.sublist (List.drop_sublist i ss)
        rw [hdrop] at h
        exact (List.pairwise_cons.mp h).1
      refine g_nx ?_
      dsimp only
      refine seq_joinC (fun σ' H' => ∃ (ah be : Int) (v7 : Option V), σ' = [some (.ref p), some (.ref l), some (.int (B : Int)), some (.ref q), some (.int ah), some (.int be), some (.int (s : Int)), v7] ∧ Same H H' ∧ H' q = some (.lst (natL ((ss.take i).map (HN.mk B c L).plc))) ∧ ah = ((HN.mk B c L).plc s : Int) - (s : Int) ∧ LookedP (HN.mk B c L) (ss.drop (i + 1)) ah be) (fun D' kj => ?_) (fun σ' H' hj => ?_)
      · refine ⟨_, rfl, _, rfl, _, _, rfl, rfl, _, rfl, ?_⟩
        refine ifD (fun hd => ?_) (fun hd => ?_)
        · have e1' := s2 _ _ e1
          refine ⟨_, rfl, p, dx, _, rfl, e1', hf_place _ _ _ _ _ _, _, rfl, old, p, b, r, bs, rows, cs, (s : Int), rfl, hA.same s2, by omega, fun H3 s3 => ?_⟩
          rw [ct.plc]
          have s23 := s2.trans s3
          refine ⟨_, rfl, _, rfl, _, _, rfl, rfl, _, rfl, _, rfl, _, _, rfl, rfl, _, rfl, _, rfl, _, _, rfl, rfl, (by show (0 : Int) < _; omega), _, _, rfl, rfl, ?_⟩
          refine kj _ _ ⟨_, _, _, rfl, s23, s3 _ _ hq, rfl, .inr ⟨s, rfl, ?_, hafter⟩⟩
          rw [Int.natCast_emod]
        · rcases lk with h0 | ⟨m, g1, g2, g4⟩
          · exact absurd (by omega) hd
          · have hm := g4 s (by rw [hdrop]; exact List.mem_cons_self)
            obtain ⟨j, rfl⟩ : ∃ j, s = m + j := ⟨s - m, by omega⟩
            have hml : (HN.mk B c L).plc m % B < B := Nat.mod_lt _ (by omega)
            have hrun := ko.plc_run (m := m) (j := j) (by show (HN.mk B c L).plc m % B + j < B; simp only at g2; omega)
            refine kj _ _ ⟨_, _, _, rfl, s2, hq, by rw [g1, hrun]; omega, .inr ⟨m, g1, g2, fun t ht => Nat.le_trans hm (hafter t ht)⟩⟩
      · obtain ⟨ah1, be1, v7, rfl, s3, hq3, eah, lk3⟩ := hj
        have hz : (natL ((ss.take i).map (HN.mk B c L).plc)).length < sizeLine := smallLt (by rw [natL_len, List.length_map, List.length_take]; omega)
        refine ⟨_, rfl, .inl ⟨rfl, _, SqL.lst hq3⟩, _, rfl, _, rfl, _, _, rfl, rfl, q, _, _, rfl, rfl, hq3, hz, ?_⟩
        refine ⟨_, _, _, _, rfl, same_mut s3 nq, ?_, lk3⟩
        rw [upd_same, List.take_add_one, hs, List.map_append]
        show some (HO.lst (_ ++ [V.int ((s : Int) + ah1)])) = some (HO.lst (natL (_ ++ [(HN.mk B c L).plc s])))
        rw [natL_snoc, eah]
        rw [show (s : Int) + (((HN.mk B c L).plc s : Int) - (s : Int)) = ((HN.mk B c L).plc s : Int) by omega]
    · rintro σ H' ⟨ah0, be, v6, v7, rfl, s2, hq, _⟩
      rw [natL_len, List.take_of_length_le (Nat.le_refl _)] at hq
      exact ⟨_, rfl, k q H' s2 nq hq⟩
end
end LM

set_option Elab.async false
set_option linter.all false
set_option maxRecDepth 100000
set_option maxHeartbeats 4000000
set_option pp.maxSteps 600
set_option pp.deepTerms false
namespace LM
open PySem PySem.Spec PyProof.Rows L2 RZ
local macro_rules | `(tactic| walk_at "hp") => `(tactic| first | assumption | exact upd_same | (rw [upd_ne (by assumption)]; assumption) | (rw [upd_ne (Ne.symm (by assumption))]; assumption) | (rw [upd_ne (by assumption)]; exact upd_same) | (rw [upd_ne (Ne.symm (by assumption))]; exact upd_same))
local macro_rules | `(tactic| walk_at "sq") => `(tactic| first | assumption | exact Or.inl (Or.inl (by assumption)) | exact Or.inl (Or.inl upd_same) | exact Or.inl (Or.inl (by walk_at "hp")))
local macro_rules | `(tactic| walk_at "ixl") => `(tactic| refine ⟨_, _, _, _, rfl, rfl, (by walk_at "sq"), (by rfl), ?_⟩)
local macro_rules | `(tactic| walk_at "setl") => `(tactic| refine ⟨_, _, _, _, rfl, rfl, (by walk_at "hp"), (by rfl), ?_⟩)
local macro_rules | `(tactic| walk_at "side") => `(tactic| refine idP ?_; first | omega | (show (0 : Int) < _; omega) | (show (0 : Int) < _ ∧ _ < _; omega) | (refine Or.inr ?_; show (-(2 ^ 64) : Int) < _ ∧ _ < _; omega) | (refine Or.inl ?_; show (-(2 ^ 64) : Int) < _ ∧ _ < _; omega) | exact divW (by omega) (by omega) _ | (refine ⟨by decide, by decide, ?_⟩; decide))
local macro_rules | `(tactic| walk_at "go1") => `(tactic| first
  | refine ⟨_, rfl, ?_⟩
  | refine ⟨_, _, rfl, rfl, (by walk_at "side"), ?_⟩
  | refine ⟨_, _, rfl, (by walk_at "side"), ?_⟩
  | refine ⟨_, _, rfl, rfl, ?_⟩
  | refine Or.inl ⟨_, rfl, ?_⟩
  | refine ⟨_, _, rfl, Or.inl (by walk_at "sq"), ?_⟩
  | walk_at "ixl"
  | walk_at "setl"
  | refine ⟨_, _, rfl, (by walk_at "sq"), rfl, ?_⟩
  | refine ⟨_, _, rfl, (by walk_at "sq"), ?_⟩
  | refine ⟨_, _, rfl, ?_⟩
  | refine ⟨rfl, ?_⟩
  | refine ⟨small (Nat.le_of_ble_eq_true rfl), ?_⟩)
local macro_rules | `(tactic| walk_at "go") => `(tactic| repeat walk_at "go1")

local macro_rules | `(tactic| walk_at "lk") => `(tactic| first | rfl | (rw [lookup_putF, if_pos rfl]) | (rw [lookup_putF, if_neg (by decide +kernel)]; walk_at "lk"))
abbrev sFrameShift__init_ : Stmt := inClass (topS 71) 0
theorem scFrameShift__init_ : FnScope ["self", "amount"] ["self", "amount"] (defScope sFrameShift__init_) := ⟨rfl, rfl, rfl, by decide +kernel, rfl, by decide +kernel, by decide +kernel⟩
abbrev sLabelShift__init_ : Stmt := inClass (topS 72) 0
theorem scLabelShift__init_ : FnScope ["self", "here", "there", "amount", "way"] ["self", "here", "there", "amount", "way"] (defScope sLabelShift__init_) := ⟨rfl, rfl, rfl, by decide +kernel, rfl, by decide +kernel, by decide +kernel⟩
abbrev sUnitStart__init_ : Stmt := inClass (topS 73) 0
theorem scUnitStart__init_ : FnScope ["self", "house", "labels", "ahead"] ["self", "house", "labels", "ahead"] (defScope sUnitStart__init_) := ⟨rfl, rfl, rfl, by decide +kernel, rfl, by decide +kernel, by decide +kernel⟩
abbrev sRate__init_ : Stmt := inClass (topS 74) 0
theorem scRate__init_ : FnScope ["self", "factor", "divisor"] ["self", "factor", "divisor"] (defScope sRate__init_) := ⟨rfl, rfl, rfl, by decide +kernel, rfl, by decide +kernel, by decide +kernel⟩
/-- a house that a move stands on: its addresses and what it is told by -/
structure HD where
  p : Addr
  b : Addr
  r : Addr
  bs : List Int
  rows : List R3
  cs : List Int
def HD.At (K : PySem.W.Frag) (C : Addr) (old : Addr → Prop) (H : Hp) (h : HD) : Prop := HouseAt K C old H h.p h.b h.r h.bs h.rows h.cs
noncomputable def HD.n (h : HD) : HN := ⟨(h.bs.getLastD 1).toNat, cN h.bs h.rows, h.cs.length⟩
theorem HD.At.by {K : PySem.W.Frag} {C : Addr} {old : Addr → Prop} {H : Hp} {h : HD} (a : h.At K C old H) : HouseBy K C old H h.p h.b h.r h.bs h.rows h.cs h.n.B h.n.c h.n.L := HouseAt.by a
theorem HD.At.cnt {K : PySem.W.Frag} {C : Addr} {old : Addr → Prop} {H : Hp} {h : HD} (a : h.At K C old H) : Cnt h.bs h.rows h.cs h.n.B h.n.c h.n.L := (HouseAt.by a).2
theorem HD.At.ok {K : PySem.W.Frag} {C : Addr} {old : Addr → Prop} {H : Hp} {h : HD} (a : h.At K C old H) : h.n.Ok := a.cnt.hn
theorem HD.At.same {K : PySem.W.Frag} {C : Addr} {old : Addr → Prop} {H H' : Hp} {h : HD} (a : h.At K C old H) (s : Same H H') : h.At K C old H' := HouseAt.same a s
theorem HD.At.els {K : PySem.W.Frag} {C : Addr} {old : Addr → Prop} {H H' : Hp} {h : HD} {q : Addr} {ys : List V} (a : h.At K C old H) (hq : H q = some (.lst ys)) (ho : old q) (e : Else q H H') : h.At K C old H' := HouseAt.els a hq ho e
/-- legs with the addresses of their houses -/
inductive LG where
  | sh (k : Int)
  | lb (h1 h2 : HD) (k : Int) (nx : Bool)
  | un (h : HD) (W : Nat) (a : Nat)
  | rt (a b : Nat)
noncomputable def LG.leg : LG → Leg
  | .sh k => .sh k
  | .lb h1 h2 k nx => .lb h1.n h2.n k nx
  | .un h W a => .un h.n W a
  | .rt a b => .rt a b
/-- the classes of legs -/
structure LCs where
  S : Addr
  L : Addr
  U : Addr
  R : Addr
def fS (k : Int) : List (Str × V) := putF "_amount" (.int k) []
def fL (a b : Addr) (k : Int) (x : V) : List (Str × V) := putF "_way" x (putF "_amount" (.int k) (putF "_there" (.ref b) (putF "_here" (.ref a) [])))
def fU (a : Addr) (W k : Int) : List (Str × V) := putF "_ahead" (.int k) (putF "_labels" (.int W) (putF "_house" (.ref a) []))
def fR (a b : Int) : List (Str × V) := putF "_divisor" (.int b) (putF "_factor" (.int a) [])
def LG.cls (c : LCs) : LG → Addr
  | .sh _ => c.S
  | .lb .. => c.L
  | .un .. => c.U
  | .rt .. => c.R
def LG.fs : LG → List (Str × V)
  | .sh k => fS k
  | .lb h1 h2 k nx => fL h1.p h2.p k (.str (wayS nx))
  | .un h W a => fU h.p W a
  | .rt a b => fR a b
def LG.Sound (K : PySem.W.Frag) (C : Addr) (old : Addr → Prop) (H : Hp) : LG → Prop
  | .sh _ => True
  | .lb h1 h2 k nx => h1.At K C old H ∧ h2.At K C old H
  | .un h W a => h.At K C old H ∧ 1 ≤ W ∧ W ≤ 216000
  | .rt a b => (1 ≤ a ∧ a ≤ 100) ∧ 1 ≤ b ∧ b ≤ 100
def LegAt (K : PySem.W.Frag) (C : Addr) (c : LCs) (old : Addr → Prop) (H : Hp) (a : Addr) (g : LG) : Prop := (∃ dx, H a = some (.ins (g.cls c) dx g.fs)) ∧ g.Sound K C old H
theorem LG.Sound.same {K : PySem.W.Frag} {C : Addr} {old : Addr → Prop} {H H' : Hp} {g : LG} (h : g.Sound K C old H) (s : Same H H') : g.Sound K C old H' := by
  cases g with
  | sh k => trivial
  | lb h1 h2 k nx => exact ⟨h.1.same s, h.2.same s⟩
  | un h1 W a => exact ⟨h.1.same s, h.2⟩
  | rt a b => exact h
theorem LG.Sound.els {K : PySem.W.Frag} {C : Addr} {old : Addr → Prop} {H H' : Hp} {g : LG} {q : Addr} {ys : List V} (h : g.Sound K C old H) (hq : H q = some (.lst ys)) (ho : old q) (e : Else q H H') : g.Sound K C old H' := by
  cases g with
  | sh k => trivial
  | lb h1 h2 k nx => exact ⟨h.1.els hq ho e, h.2.els hq ho e⟩
  | un h1 W a => exact ⟨h.1.els hq ho e, h.2⟩
  | rt a b => exact h
theorem LegAt.same {K : PySem.W.Frag} {C : Addr} {c : LCs} {old : Addr → Prop} {H H' : Hp} {a : Addr} {g : LG} (h : LegAt K C c old H a g) (s : Same H H') : LegAt K C c old H' a g := by
  obtain ⟨⟨dx, e⟩, k⟩ := h
  exact ⟨⟨dx, s _ _ e⟩, k.same s⟩
theorem LegAt.els {K : PySem.W.Frag} {C : Addr} {c : LCs} {old : Addr → Prop} {H H' : Hp} {a : Addr} {g : LG} {q : Addr} {ys : List V} (h : LegAt K C c old H a g) (hq : H q = some (.lst ys)) (ho : old q) (e : Else q H H') : LegAt K C c old H' a g := by
  obtain ⟨⟨dx, ea⟩, k⟩ := h
  exact ⟨⟨dx, e _ _ (fun z => by rw [z, hq] at ea; cases ea) ea⟩, k.els hq ho e⟩
theorem LG.Sound.ok {K : PySem.W.Frag} {C : Addr} {old : Addr → Prop} {H : Hp} {g : LG} (h : g.Sound K C old H) : g.leg.Ok := by
  cases g with
  | sh k => trivial
  | lb h1 h2 k nx => exact ⟨h.1.ok, h.2.ok⟩
  | un h1 W a => exact ⟨h.1.ok, h.2.1⟩
  | rt a b => exact ⟨h.1.1, h.2.1⟩
structure LegTxt (K : PySem.W.Frag) (mg : Str → Option Value) (c : LCs) : Prop where
  cS : Cls K c.S
  cL : Cls K c.L
  cU : Cls K c.U
  cR : Cls K c.R
  nS1 : NoAttr K c.S "_amount"
  nL1 : NoAttr K c.L "_here"
  nL2 : NoAttr K c.L "_there"
  nL3 : NoAttr K c.L "_amount"
  nL4 : NoAttr K c.L "_way"
  nU1 : NoAttr K c.U "_house"
  nU2 : NoAttr K c.U "_labels"
  nU3 : NoAttr K c.U "_ahead"
  nR1 : NoAttr K c.R "_factor"
  nR2 : NoAttr K c.R "_divisor"
  gS : mg "FrameShift" = some (.ref c.S)
  gL : mg "LabelShift" = some (.ref c.L)
  gU : mg "UnitStart" = some (.ref c.U)
  gR : mg "Rate" = some (.ref c.R)
/-- a new instance is made and its fields are stored -/
theorem made_ins {H H' : Hp} {x dx C : Addr} (hx : H x = none) (hd : H dx = none) (hn : dx ≠ x) (e : Else x (upd (upd H dx (.own x)) x (.ins C dx [])) H') : Same H H' := fun b o hb => by
  have nx : b ≠ x := fun z => by rw [z, hx] at hb; cases hb
  have nd : b ≠ dx := fun z => by rw [z, hd] at hb; cases hb
  refine e b o nx ?_
  rw [upd_ne nx, upd_ne nd]
  exact hb
def spIniS (c : LCs) : Sp := fun vs H Q _ => ∃ (p dx : Addr) (k : Int), vs = [.ref p, .int k] ∧ H p = some (.ins c.S dx []) ∧ ∀ H', H' p = some (.ins c.S dx (fS k)) → Else p H H' → Q .non H'
def spIniL (c : LCs) : Sp := fun vs H Q _ => ∃ (p dx a b : Addr) (k : Int) (nx : Bool), vs = [.ref p, .ref a, .ref b, .int k, .str (wayS nx)] ∧ H p = some (.ins c.L dx []) ∧ ∀ H', H' p = some (.ins c.L dx (fL a b k (.str (wayS nx)))) → Else p H H' → Q .non H'
def spIniU (c : LCs) : Sp := fun vs H Q _ => ∃ (p dx a : Addr) (W k : Int), vs = [.ref p, .ref a, .int W, .int k] ∧ H p = some (.ins c.U dx []) ∧ ∀ H', H' p = some (.ins c.U dx (fU a W k)) → Else p H H' → Q .non H'
def spIniR (c : LCs) : Sp := fun vs H Q _ => ∃ (p dx : Addr) (a b : Int), vs = [.ref p, .int a, .int b] ∧ H p = some (.ins c.R dx []) ∧ ∀ H', H' p = some (.ins c.R dx (fR a b)) → Else p H H' → Q .non H'
section
variable {P : Program} {w : World} {K : PySem.W.Frag} {mg : Str → Option Value} {base : Heap} {c : LCs}
theorem ok_iniS {f : Addr} {fd : FuncData} (F : Fun K "__init__" "FrameShift.__init__" sFrameShift__init_ f fd) (T : LegTxt K mg c) : FnOk P w K mg base CX0 1 f fd ["self", "amount"] (spIniS c) := by
  have sc := scFrameShift__init_
  refine F.ok sc (fun vs H Q E h => ?_) (fun cdv A outer s H vs Q E hr h => ?_)
  · obtain ⟨p, dx, k, rfl, _⟩ := h
    rfl
  · obtain ⟨p, dx, k, rfl, hp, q⟩ := h
    refine ⟨_, (pss_one (ps_fld (pv 0) (pv 1) rfl)), ?_⟩
    refine ⟨_, rfl, _, rfl, p, c.S, dx, _, rfl, hp, T.cS, T.nS1, few0, ?_⟩
    exact q _ upd_same els_upd
theorem ok_iniL {f : Addr} {fd : FuncData} (F : Fun K "__init__" "LabelShift.__init__" sLabelShift__init_ f fd) (T : LegTxt K mg c) : FnOk P w K mg base CX0 1 f fd ["self", "here", "there", "amount", "way"] (spIniL c) := by
  have sc := scLabelShift__init_
  refine F.ok sc (fun vs H Q E h => ?_) (fun cdv A outer s H vs Q E hr h => ?_)
  · obtain ⟨p, dx, a, b, k, nx, rfl, _⟩ := h
    rfl
  · obtain ⟨p, dx, a, b, k, nx, rfl, hp, q⟩ := h
    refine ⟨_, (pss_cons (ps_fld (pv 0) (pv 1) rfl)
      (pss_cons (ps_fld (pv 0) (pv 2) rfl)
      (pss_cons (ps_fld (pv 0) (pv 3) rfl)
      (pss_one (ps_fld (pv 0) (pv 4) rfl))))), ?_⟩
    refine ⟨_, rfl, _, rfl, p, c.L, dx, _, rfl, hp, T.cL, T.nL1, few0, ?_⟩
    refine ⟨_, rfl, _, rfl, p, c.L, dx, _, rfl, upd_same, T.cL, T.nL2, few1, ?_⟩
    refine ⟨_, rfl, _, rfl, p, c.L, dx, _, rfl, upd_same, T.cL, T.nL3, few2, ?_⟩
    refine ⟨_, rfl, _, rfl, p, c.L, dx, _, rfl, upd_same, T.cL, T.nL4, few3, ?_⟩
    exact q _ upd_same (els_upd.trans (els_upd.trans (els_upd.trans els_upd)))
theorem ok_iniU {f : Addr} {fd : FuncData} (F : Fun K "__init__" "UnitStart.__init__" sUnitStart__init_ f fd) (T : LegTxt K mg c) : FnOk P w K mg base CX0 1 f fd ["self", "house", "labels", "ahead"] (spIniU c) := by
  have sc := scUnitStart__init_
  refine F.ok sc (fun vs H Q E h => ?_) (fun cdv A outer s H vs Q E hr h => ?_)
  · obtain ⟨p, dx, a, W, k, rfl, _⟩ := h
    rfl
  · obtain ⟨p, dx, a, W, k, rfl, hp, q⟩ := h
    refine ⟨_, (pss_cons (ps_fld (pv 0) (pv 1) rfl)
      (pss_cons (ps_fld (pv 0) (pv 2) rfl)
      (pss_one (ps_fld (pv 0) (pv 3) rfl)))), ?_⟩
    refine ⟨_, rfl, _, rfl, p, c.U, dx, _, rfl, hp, T.cU, T.nU1, few0, ?_⟩
    refine ⟨_, rfl, _, rfl, p, c.U, dx, _, rfl, upd_same, T.cU, T.nU2, few1, ?_⟩
    refine ⟨_, rfl, _, rfl, p, c.U, dx, _, rfl, upd_same, T.cU, T.nU3, few2, ?_⟩
    exact q _ upd_same (els_upd.trans (els_upd.trans els_upd))
theorem ok_iniR {f : Addr} {fd : FuncData} (F : Fun K "__init__" "Rate.__init__" sRate__init_ f fd) (T : LegTxt K mg c) : FnOk P w K mg base CX0 1 f fd ["self", "factor", "divisor"] (spIniR c) := by
  have sc := scRate__init_
  refine F.ok sc (fun vs H Q E h => ?_) (fun cdv A outer s H vs Q E hr h => ?_)
  · obtain ⟨p, dx, a, b, rfl, _⟩ := h
    rfl
  · obtain ⟨p, dx, a, b, rfl, hp, q⟩ := h
    refine ⟨_, (pss_cons (ps_fld (pv 0) (pv 1) rfl)
      (pss_one (ps_fld (pv 0) (pv 2) rfl))), ?_⟩
    refine ⟨_, rfl, _, rfl, p, c.R, dx, _, rfl, hp, T.cR, T.nR1, few0, ?_⟩
    refine ⟨_, rfl, _, rfl, p, c.R, dx, _, rfl, upd_same, T.cR, T.nR2, few1, ?_⟩
    exact q _ upd_same (els_upd.trans els_upd)
end
end LM

set_option Elab.async false
set_option linter.all false
set_option maxRecDepth 100000
set_option maxHeartbeats 4000000
set_option pp.maxSteps 600
set_option pp.deepTerms false
namespace LM
open PySem PySem.Spec PyProof.Rows L2 RZ
local macro_rules | `(tactic| walk_at "hp") => `(tactic| first | assumption | exact upd_same | (rw [upd_ne (by assumption)]; assumption) | (rw [upd_ne (Ne.symm (by assumption))]; assumption) | (rw [upd_ne (by assumption)]; exact upd_same) | (rw [upd_ne (Ne.symm (by assumption))]; exact upd_same))
local macro_rules | `(tactic| walk_at "sq") => `(tactic| first | assumption | exact Or.inl (Or.inl (by assumption)) | exact Or.inl (Or.inl upd_same) | exact Or.inl (Or.inl (by walk_at "hp")))
local macro_rules | `(tactic| walk_at "ixl") => `(tactic| refine ⟨_, _, _, _, rfl, rfl, (by walk_at "sq"), (by rfl), ?_⟩)
local macro_rules | `(tactic| walk_at "setl") => `(tactic| refine ⟨_, _, _, _, rfl, rfl, (by walk_at "hp"), (by rfl), ?_⟩)
local macro_rules | `(tactic| walk_at "side") => `(tactic| refine idP ?_; first | omega | (show (0 : Int) < _; omega) | (show (0 : Int) < _ ∧ _ < _; omega) | (refine Or.inr ?_; show (-(2 ^ 64) : Int) < _ ∧ _ < _; omega) | (refine Or.inl ?_; show (-(2 ^ 64) : Int) < _ ∧ _ < _; omega) | exact divW (by omega) (by omega) _ | (refine ⟨by decide, by decide, ?_⟩; decide))
local macro_rules | `(tactic| walk_at "go1") => `(tactic| first
  | refine ⟨_, rfl, ?_⟩
  | refine ⟨_, _, rfl, rfl, (by walk_at "side"), ?_⟩
  | refine ⟨_, _, rfl, (by walk_at "side"), ?_⟩
  | refine ⟨_, _, rfl, rfl, ?_⟩
  | refine Or.inl ⟨_, rfl, ?_⟩
  | refine ⟨_, _, rfl, Or.inl (by walk_at "sq"), ?_⟩
  | walk_at "ixl"
  | walk_at "setl"
  | refine ⟨_, _, rfl, (by walk_at "sq"), rfl, ?_⟩
  | refine ⟨_, _, rfl, (by walk_at "sq"), ?_⟩
  | refine ⟨_, _, rfl, ?_⟩
  | refine ⟨rfl, ?_⟩
  | refine ⟨small (Nat.le_of_ble_eq_true rfl), ?_⟩)
local macro_rules | `(tactic| walk_at "go") => `(tactic| repeat walk_at "go1")

local macro_rules | `(tactic| walk_at "lk") => `(tactic| first | rfl | (rw [lookup_putF, if_pos rfl]) | (rw [lookup_putF, if_neg (by decide +kernel)]; walk_at "lk"))
abbrev sFrameShift_lead : Stmt := inClass (topS 71) 1
theorem scFrameShift_lead : FnScope ["self", "frames", "frame"] ["self", "frames"] (defScope sFrameShift_lead) := ⟨rfl, rfl, rfl, by decide +kernel, rfl, by decide +kernel, by decide +kernel⟩
abbrev sLabelShift_lead : Stmt := inClass (topS 72) 1
theorem scLabelShift_lead : FnScope ["self", "frames", "places", "place"] ["self", "frames"] (defScope sLabelShift_lead) := ⟨rfl, rfl, rfl, by decide +kernel, rfl, by decide +kernel, by decide +kernel⟩
abbrev sUnitStart_lead : Stmt := inClass (topS 73) 1
theorem scUnitStart_lead : FnScope ["self", "frames", "units", "place", "unit"] ["self", "frames"] (defScope sUnitStart_lead) := ⟨rfl, rfl, rfl, by decide +kernel, rfl, by decide +kernel, by decide +kernel⟩
abbrev sRate_lead : Stmt := inClass (topS 74) 1
theorem scRate_lead : FnScope ["self", "frames", "frame"] ["self", "frames"] (defScope sRate_lead) := ⟨rfl, rfl, rfl, by decide +kernel, rfl, by decide +kernel, by decide +kernel⟩
theorem fS_amount (k : Int) : (fS k).lookup ("_amount" : Str) = some (.int k) := by unfold fS; walk_at "lk"
theorem fL_here (a b : Addr) (k : Int) (x : V) : (fL a b k x).lookup ("_here" : Str) = some (.ref a) := by unfold fL; walk_at "lk"
theorem fL_there (a b : Addr) (k : Int) (x : V) : (fL a b k x).lookup ("_there" : Str) = some (.ref b) := by unfold fL; walk_at "lk"
theorem fL_amount (a b : Addr) (k : Int) (x : V) : (fL a b k x).lookup ("_amount" : Str) = some (.int k) := by unfold fL; walk_at "lk"
theorem fL_way (a b : Addr) (k : Int) (x : V) : (fL a b k x).lookup ("_way" : Str) = some x := by unfold fL; walk_at "lk"
theorem fU_house (a : Addr) (W k : Int) : (fU a W k).lookup ("_house" : Str) = some (.ref a) := by unfold fU; walk_at "lk"
theorem fU_labels (a : Addr) (W k : Int) : (fU a W k).lookup ("_labels" : Str) = some (.int W) := by unfold fU; walk_at "lk"
theorem fU_ahead (a : Addr) (W k : Int) : (fU a W k).lookup ("_ahead" : Str) = some (.int k) := by unfold fU; walk_at "lk"
theorem fR_factor (a b : Int) : (fR a b).lookup ("_factor" : Str) = some (.int a) := by unfold fR; walk_at "lk"
theorem fR_divisor (a b : Int) : (fR a b).lookup ("_divisor" : Str) = some (.int b) := by unfold fR; walk_at "lk"
theorem hf_fam (b r sk ah rd : Addr) (t : Str) : (hf b r sk ah rd t).lookup ("frames_at" : Str) = none := hf_no _ _ _ _ _ _ (by decide +kernel) (by decide +kernel) (by decide +kernel) (by decide +kernel) (by decide +kernel) (by decide +kernel)
theorem nearI_nr (h : HN) (s : Nat) (nx : Bool) : nearI h.B h.c s nx = h.nr s nx := by
  cases nx with
  | true =>
    rw [HN.nr_next]
    unfold nearI
    rw [if_pos (Or.inl rfl)]
  | false =>
    rw [HN.nr_last]
    show nearI h.B h.c s false = ((bel h.B h.c (s + 1) : Nat) : Int) - 1
    rw [bel_succ]
    unfold nearI
    by_cases hb : bor h.B h.c s = true
    · rw [if_pos (Or.inr hb), if_pos hb]
      omega
    · rw [if_neg (fun z => z.elim (fun y => Bool.false_ne_true y) hb), if_neg hb]
      omega
theorem natL_get {ns : List Nat} {i : Nat} {x : V} (h : (natL ns)[i]? = some x) : ∃ n, ns[i]? = some n ∧ x = V.int (n : Int) := by
  unfold natL at h
  rw [List.getElem?_map] at h
  obtain ⟨z, hz, e⟩ := Option.map_eq_some_iff.mp h
  exact ⟨z, hz, e.symm⟩
theorem natL_take {ns : List Nat} {i n : Nat} (h : ns[i]? = some n) (f : Nat → Nat) : natL ((ns.take (i + 1)).map f) = natL ((ns.take i).map f) ++ [V.int (f n : Int)] := by
  rw [List.take_add_one, h, List.map_append]
  exact natL_snoc _ _
theorem nearL_natL {h : HN} {nx : Bool} {ss : List Nat} (h0 : ∀ s ∈ ss, 0 ≤ h.nr s nx) : nearL h.B h.c nx ss = natL (ss.map fun s => (h.nr s nx).toNat) := by
  unfold nearL natL
  rw [List.map_map, List.map_map]
  refine List.map_congr_left fun s hs => ?_
  show V.int (nearI h.B h.c s nx) = V.int ((h.nr s nx).toNat : Int)
  rw [nearI_nr, Int.toNat_of_nonneg (h0 s hs)]
theorem pair_map {f : Nat → Nat} {ns : List Nat} (h : ns.Pairwise (· ≤ ·)) (m : ∀ a ∈ ns, ∀ b ∈ ns, a ≤ b → f a ≤ f b) : (ns.map f).Pairwise (· ≤ ·) := by
  rw [List.pairwise_map]
  exact List.Pairwise.imp_of_mem (fun ha hb hab => m _ ha _ hb hab) h
/-- where ascending frames that are not lost are led -/
def spLead (K : PySem.W.Frag) (C : Addr) (c : LCs) (ok : LG → Prop) : Sp := fun vs H Q _ => ∃ (old : Addr → Prop) (a l : Addr) (g : LG) (ns : List Nat), vs = [.ref a, .ref l] ∧ ok g ∧ LegAt K C c old H a g ∧ SqL K H l (natL ns) ∧ ns.Pairwise (· ≤ ·) ∧ ns.length ≤ 20001 ∧ (∀ n ∈ ns, 0 ≤ g.leg.F n) ∧
  ∀ q H', Same H H' → H q = none → H' q = some (.lst (natL (ns.map fun n => (g.leg.F n).toNat))) → Q (.ref q) H'
def isS (g : LG) : Prop := ∃ k, g = .sh k
def isL (g : LG) : Prop := ∃ h1 h2 k nx, g = .lb h1 h2 k nx
def isU (g : LG) : Prop := ∃ h W a, g = .un h W a
def isR (g : LG) : Prop := ∃ a b, g = .rt a b
section
variable {P : Program} {w : World} {K : PySem.W.Frag} {mg : Str → Option Value} {base : Heap} {c : LCs} {C : Addr}
theorem ok_leadS {f : Addr} {fd : FuncData} (F : Fun K "lead" "FrameShift.lead" sFrameShift_lead f fd) (T : LegTxt K mg c) : FnOk P w K mg base CX0 1 f fd ["self", "frames"] (spLead K C c isS) := by
  have sc := scFrameShift_lead
  refine F.ok sc (fun vs H Q E h => ?_) (fun cdv A outer s H vs Q E hr h => ?_)
  · obtain ⟨old, a, l, g, ns, rfl, _⟩ := h
    rfl
  · obtain ⟨old, a, l, g, ns, rfl, ⟨k, rfl⟩, ⟨⟨dx, e1⟩, _⟩, hl, hpw, hln, h0, q⟩ := h
    refine ⟨_, (pss_one (ps_ret (pe_lc (own := [("frame", 2)]) rfl sc.nd (pi_list (pv 1)) (blkOk_by (own := [("frame", 2)]) (N := ["self", "frames", "frame"]) (sc := defScope (inClass (topS 71) 1)) (by decide +kernel)) (fun _ _ _ _ _ => (pg_name (i := 2) sc.nd rfl (Or.inl rfl))) (fun _ _ _ _ _ => pts_nil) (fun _ _ _ _ _ => (pe_op op_add (pv 2) (show PE _ _ (tFld K _ _) from (pe_fld (pv 0) rfl))))))), ?_⟩
    refine ⟨_, rfl, l, rfl, ⟨_, hl⟩, ?_⟩
    intro D nD
    refine lc_list (K := K) (xs := natL ns) (fun i H' => Same H H' ∧ H' D = some (.lst (natL ((ns.take i).map fun n => ((Leg.sh k).F n).toNat)))) ⟨same_new nD, upd_same⟩ (fun i H' _ ⟨s, _⟩ => s.seq hl) ?_ ?_
    · rintro i x H' hx ⟨sm, eD⟩
      obtain ⟨n, hn, rfl⟩ := natL_get hx
      have hF : 0 ≤ (n : Int) + k := h0 n (List.mem_of_getElem? hn)
      refine ⟨rfl, ?_⟩
      refine ⟨_, rfl, _, rfl, a, c.S, dx, _, _, rfl, sm _ _ e1, T.cS, T.nS1, fS_amount k, _, _, rfl, rfl, _, eD, smallLt (by rw [natL_len, List.length_map, List.length_take]; omega), same_mut sm nD, ?_⟩
      rw [upd_same, natL_take hn]
      show some (HO.lst (_ ++ [V.int ((n : Int) + k)])) = some (HO.lst (_ ++ [V.int ((((n : Int) + k).toNat : Nat) : Int)]))
      rw [Int.toNat_of_nonneg hF]
    · rintro H' ⟨sm, eD⟩
      rw [natL_len, List.take_of_length_le (Nat.le_refl _)] at eD
      exact q D H' sm nD eD
theorem ok_leadR {f : Addr} {fd : FuncData} (F : Fun K "lead" "Rate.lead" sRate_lead f fd) (T : LegTxt K mg c) : FnOk P w K mg base CX0 1 f fd ["self", "frames"] (spLead K C c isR) := by
  have sc := scRate_lead
  refine F.ok sc (fun vs H Q E h => ?_) (fun cdv A outer s H vs Q E hr h => ?_)
  · obtain ⟨old, a, l, g, ns, rfl, _⟩ := h
    rfl
  · obtain ⟨old, a, l, g, ns, rfl, ⟨x, y, rfl⟩, ⟨⟨dx, e1⟩, ⟨x0, x1⟩, y0, y1⟩, hl, hpw, hln, h0, q⟩ := h
    refine ⟨_, (pss_one (ps_ret (pe_lc (own := [("frame", 2)]) rfl sc.nd (pi_list (pv 1)) (blkOk_by (own := [("frame", 2)]) (N := ["self", "frames", "frame"]) (sc := defScope (inClass (topS 74) 1)) (by decide +kernel)) (fun _ _ _ _ _ => (pg_name (i := 2) sc.nd rfl (Or.inl rfl))) (fun _ _ _ _ _ => pts_nil) (fun _ _ _ _ _ => (pe_op op_fdiv (pe_op op_mul (pv 2) (show PE _ _ (tFld K _ _) from (pe_fld (pv 0) rfl))) (show PE _ _ (tFld K _ _) from (pe_fld (pv 0) rfl))))))), ?_⟩
    refine ⟨_, rfl, l, rfl, ⟨_, hl⟩, ?_⟩
    intro D nD
    refine lc_list (K := K) (xs := natL ns) (fun i H' => Same H H' ∧ H' D = some (.lst (natL ((ns.take i).map fun n => ((Leg.rt x y).F n).toNat)))) ⟨same_new nD, upd_same⟩ (fun i H' _ ⟨s, _⟩ => s.seq hl) ?_ ?_
    · rintro i z H' hx ⟨sm, eD⟩
      obtain ⟨n, hn, rfl⟩ := natL_get hx
      refine ⟨rfl, ?_⟩
      have e1' := sm _ _ e1
      refine ⟨_, rfl, _, rfl, a, c.R, dx, _, _, rfl, e1', T.cR, T.nR1, fR_factor _ _, _, _, rfl, rfl, .inr ⟨by omega, by omega⟩, ?_⟩
      refine ⟨_, rfl, a, c.R, dx, _, _, rfl, e1', T.cR, T.nR2, fR_divisor _ _, _, _, rfl, rfl, ⟨by omega, by omega⟩, ?_⟩
      refine ⟨_, eD, smallLt (by rw [natL_len, List.length_map, List.length_take]; omega), same_mut sm nD, ?_⟩
      rw [upd_same, natL_take hn]
      show some (HO.lst (_ ++ [V.int ((n : Int) * (x : Int) / (y : Int))])) = some (HO.lst (_ ++ [V.int (((((n * x / y : Nat) : Int)).toNat : Nat) : Int)]))
      rw [Int.toNat_natCast, Int.natCast_ediv, Int.natCast_mul]
    · rintro H' ⟨sm, eD⟩
      rw [natL_len, List.take_of_length_le (Nat.le_refl _)] at eD
      exact q D H' sm nD eD
theorem ok_leadL {f fPo fFa : Addr} {fd fdPo fdFa : FuncData} (F : Fun K "lead" "LabelShift.lead" sLabelShift_lead f fd) (TL : LegTxt K mg c) (T : HouseTxt K mg C)
    (mPo : Meth K C "places_of" fPo) (GPo : FnOk P w K mg base CX0 3 fPo fdPo ["self", "frames"] (spPlacesOf K C)) (bPo : Binds K fdPo ["self", "frames"] [])
    (mFa : Meth K C "frames_at" fFa) (GFa : FnOk P w K mg base CX0 2 fFa fdFa ["self", "places", "way"] (spFramesAt K C)) (bFa : Binds K fdFa ["self", "places", "way"] []) : FnOk P w K mg base CX0 4 f fd ["self", "frames"] (spLead K C c isL) := by
  have sc := scLabelShift_lead
  refine F.ok sc (fun vs H Q E h => ?_) (fun cdv A outer s H vs Q E hr h => ?_)
  · obtain ⟨old, a, l, g, ns, rfl, _⟩ := h
    rfl
  · obtain ⟨old, a, l, g, ns, rfl, ⟨h1, h2, k, nx, rfl⟩, ⟨⟨dx, e1⟩, k1, k2⟩, hl, hpw, hln, h0, q⟩ := h
    refine ⟨_, (pss_cons (ps_setLc (i := 2) (own := [("place", 3)]) rfl sc.nd rfl rfl (sw_true rfl rfl rfl (by decide +kernel)) (pi_list (pe_meth (pe_fld (pv 0) rfl) T.cl mPo GPo (hr.mono (by decide)) bPo .nil pass0 (pa_cons (pv 1) pa_nil))) (blkOk_by (own := [("place", 3)]) (N := ["self", "frames", "places", "place"]) (sc := defScope (inClass (topS 72) 1)) (by decide +kernel)) (fun _ _ _ _ _ => (pg_name (i := 3) sc.nd rfl (Or.inl rfl))) (fun _ _ _ _ _ => pts_nil) (fun _ _ _ _ _ => (pe_op op_add (pv 3) (show PE _ _ (tFld K _ _) from (pe_fld (pv 0) rfl)))))
      (pss_one (ps_ret (pe_meth (pe_fld (pv 0) rfl) T.cl mFa GFa (hr.mono (by decide)) bFa .nil pass0 (pa_cons (pv 2) (pa_cons (pe_fld (pv 0) rfl) pa_nil)))))), ?_⟩
    obtain ⟨d1, _, _, _, o1, _⟩ := k1.ob
    obtain ⟨d2, _, _, _, o2, _⟩ := k2.ob
    refine ⟨_, rfl, a, c.L, dx, _, _, rfl, e1, TL.cL, TL.nL1, fL_here _ _ _ _, h1.p, d1, _, rfl, o1, hf_po _ _ _ _ _ _, _, rfl, ?_⟩
    refine ⟨old, h1.p, h1.b, h1.r, l, h1.bs, h1.rows, h1.cs, h1.n.B, h1.n.c, h1.n.L, ns, rfl, k1.by, hl, hpw, by omega, fun p1 H1 s1 np1 ep1 => ?_⟩
    refine ⟨p1, rfl, ⟨_, SqL.lst ep1⟩, ?_⟩
    have kp : ∀ n ∈ ns, 0 ≤ (h1.n.plc n : Int) + k := fun n hn => by
      have := F_lb_lost (h0 n hn)
      omega
    intro D nD
    refine lc_list (K := K) (xs := natL (ns.map h1.n.plc)) (fun i H' => Same H1 H' ∧ H' D = some (.lst (natL ((ns.take i).map fun n => ((h1.n.plc n : Int) + k).toNat)))) ⟨same_new nD, upd_same⟩ (fun i H' _ ⟨s, _⟩ => s.seq (SqL.lst ep1)) ?_ ?_
    · rintro i x H' hx ⟨sm, eD⟩
      obtain ⟨m, hm, rfl⟩ := natL_get hx
      rw [List.getElem?_map] at hm
      obtain ⟨n, hn, rfl⟩ := Option.map_eq_some_iff.mp hm
      have hF := kp n (List.mem_of_getElem? hn)
      refine ⟨rfl, ?_⟩
      refine ⟨_, rfl, _, rfl, a, c.L, dx, _, _, rfl, sm _ _ (s1 _ _ e1), TL.cL, TL.nL3, fL_amount _ _ _ _, _, _, rfl, rfl, _, eD, smallLt (by rw [natL_len, List.length_map, List.length_take]; omega), same_mut sm nD, ?_⟩
      rw [upd_same, natL_take hn]
      show some (HO.lst (_ ++ [V.int ((h1.n.plc n : Int) + k)])) = some (HO.lst (_ ++ [V.int ((((h1.n.plc n : Int) + k).toNat : Nat) : Int)]))
      rw [Int.toNat_of_nonneg hF]
    · rintro H2 ⟨sm, eD⟩
      rw [natL_len, List.take_of_length_le (by rw [List.length_map]; exact Nat.le_refl _)] at eD
      have s2 := s1.trans sm
      refine ⟨_, rfl, a, c.L, dx, _, _, rfl, s2 _ _ e1, TL.cL, TL.nL2, fL_there _ _ _ _, h2.p, d2, _, rfl, s2 _ _ o2, hf_fam _ _ _ _ _ _, _, rfl, _, rfl, a, c.L, dx, _, _, rfl, s2 _ _ e1, TL.cL, TL.nL4, fL_way _ _ _ _, ?_⟩
      refine ⟨old, h2.p, h2.b, h2.r, D, h2.bs, h2.rows, h2.cs, h2.n.B, h2.n.c, h2.n.L, _, nx, rfl, (k2.same s2).by, SqL.lst eD, pair_map hpw (fun x hx y hy hxy => ?_), by rw [List.length_map]; omega, fun p3 H3 s3 np3 ep3 => ?_⟩
      · have := (k1.ok.plc_le (n := x) (m := y)).mpr hxy
        omega
      · refine q p3 H3 (s2.trans s3) (s2.free np3) ?_
        rw [ep3, nearL_natL]
        · rw [List.map_map]
          refine congrArg (fun z => some (HO.lst (natL z))) (List.map_congr_left fun n hn => ?_)
          show (h2.n.nr ((h1.n.plc n : Int) + k).toNat nx).toNat = ((Leg.lb h1.n h2.n k nx).F n).toNat
          rw [F_lb (F_lb_lost (h0 n hn))]
        · intro s hs
          obtain ⟨n, hn, rfl⟩ := List.mem_map.mp hs
          have := h0 n hn
          show 0 ≤ h2.n.nr ((h1.n.plc n : Int) + k).toNat nx
          rw [← F_lb (F_lb_lost this)]
          exact this
theorem ok_leadU {f fPo fFa : Addr} {fd fdPo fdFa : FuncData} (F : Fun K "lead" "UnitStart.lead" sUnitStart_lead f fd) (TL : LegTxt K mg c) (T : HouseTxt K mg C)
    (mPo : Meth K C "places_of" fPo) (GPo : FnOk P w K mg base CX0 3 fPo fdPo ["self", "frames"] (spPlacesOf K C)) (bPo : Binds K fdPo ["self", "frames"] [])
    (mFa : Meth K C "frames_at" fFa) (GFa : FnOk P w K mg base CX0 2 fFa fdFa ["self", "places", "way"] (spFramesAt K C)) (bFa : Binds K fdFa ["self", "places", "way"] []) : FnOk P w K mg base CX0 4 f fd ["self", "frames"] (spLead K C c isU) := by
  have sc := scUnitStart_lead
  refine F.ok sc (fun vs H Q E h => ?_) (fun cdv A outer s H vs Q E hr h => ?_)
  · obtain ⟨old, a, l, g, ns, rfl, _⟩ := h
    rfl
  · obtain ⟨old, a, l, g, ns, rfl, ⟨h1, W, ad, rfl⟩, ⟨⟨dx, e1⟩, k1, W1, W2⟩, hl, hpw, hln, h0, q⟩ := h
    refine ⟨_, (pss_cons (ps_setLc (i := 2) (own := [("place", 3)]) rfl sc.nd rfl rfl (sw_true rfl rfl rfl (by decide +kernel)) (pi_list (pe_meth (pe_fld (pv 0) rfl) T.cl mPo GPo (hr.mono (by decide)) bPo .nil pass0 (pa_cons (pv 1) pa_nil))) (blkOk_by (own := [("place", 3)]) (N := ["self", "frames", "units", "place", "unit"]) (sc := defScope (inClass (topS 73) 1)) (by decide +kernel)) (fun _ _ _ _ _ => (pg_name (i := 3) sc.nd rfl (Or.inl rfl))) (fun _ _ _ _ _ => pts_nil) (fun _ _ _ _ _ => (pe_op op_add (pe_op op_fdiv (pv 3) (show PE _ _ (tFld K _ _) from (pe_fld (pv 0) rfl))) (show PE _ _ (tFld K _ _) from (pe_fld (pv 0) rfl)))))
      (pss_one (ps_ret (pe_meth (pe_fld (pv 0) rfl) T.cl mFa GFa (hr.mono (by decide)) bFa .nil pass0 (pa_cons (pe_lc (own := [("unit", 4)]) rfl sc.nd (pi_list (pv 2)) (blkOk_by (own := [("unit", 4)]) (N := ["self", "frames", "units", "place", "unit"]) (sc := defScope (inClass (topS 73) 1)) (by decide +kernel)) (fun _ _ _ _ _ => (pg_name (i := 4) sc.nd rfl (Or.inl rfl))) (fun _ _ _ _ _ => pts_nil) (fun _ _ _ _ _ => (pe_op op_mul (pv 4) (show PE _ _ (tFld K _ _) from (pe_fld (pv 0) rfl))))) (pa_cons pe_str pa_nil)))))), ?_⟩
    obtain ⟨d1, _, _, _, o1, _⟩ := k1.ob
    refine ⟨_, rfl, a, c.U, dx, _, _, rfl, e1, TL.cU, TL.nU1, fU_house _ _ _, h1.p, d1, _, rfl, o1, hf_po _ _ _ _ _ _, _, rfl, ?_⟩
    refine ⟨old, h1.p, h1.b, h1.r, l, h1.bs, h1.rows, h1.cs, h1.n.B, h1.n.c, h1.n.L, ns, rfl, k1.by, hl, hpw, by omega, fun p1 H1 s1 np1 ep1 => ?_⟩
    refine ⟨p1, rfl, ⟨_, SqL.lst ep1⟩, ?_⟩
    intro D nD
    refine lc_list (K := K) (xs := natL (ns.map h1.n.plc)) (fun i H' => Same H1 H' ∧ H' D = some (.lst (natL ((ns.take i).map fun n => h1.n.plc n / W + ad)))) ⟨same_new nD, upd_same⟩ (fun i H' _ ⟨s, _⟩ => s.seq (SqL.lst ep1)) ?_ ?_
    · rintro i x H' hx ⟨sm, eD⟩
      obtain ⟨m, hm, rfl⟩ := natL_get hx
      rw [List.getElem?_map] at hm
      obtain ⟨n, hn, rfl⟩ := Option.map_eq_some_iff.mp hm
      refine ⟨rfl, ?_⟩
      have e1' := sm _ _ (s1 _ _ e1)
      refine ⟨_, rfl, _, rfl, a, c.U, dx, _, _, rfl, e1', TL.cU, TL.nU2, fU_labels _ _ _, _, _, rfl, rfl, ⟨by omega, by omega⟩, _, rfl, a, c.U, dx, _, _, rfl, e1', TL.cU, TL.nU3, fU_ahead _ _ _, _, _, rfl, rfl, _, eD, smallLt (by rw [natL_len, List.length_map, List.length_take]; omega), same_mut sm nD, ?_⟩
      rw [upd_same, natL_take hn, ← Int.natCast_ediv]
      dsimp only
      rw [← Int.natCast_add]
    · rintro H2 ⟨sm, eD⟩
      rw [natL_len, List.take_of_length_le (by rw [List.length_map]; exact Nat.le_refl _)] at eD
      have s2 := s1.trans sm
      refine ⟨_, rfl, a, c.U, dx, _, _, rfl, s2 _ _ e1, TL.cU, TL.nU1, fU_house _ _ _, h1.p, d1, _, rfl, s2 _ _ o1, hf_fam _ _ _ _ _ _, _, rfl, D, rfl, ⟨_, SqL.lst eD⟩, ?_⟩
      intro D2 nD2
      refine lc_list (K := K) (xs := natL (ns.map fun n => h1.n.plc n / W + ad)) (fun i H' => Same H2 H' ∧ H' D2 = some (.lst (natL ((ns.take i).map fun n => (h1.n.plc n / W + ad) * W)))) ⟨same_new nD2, upd_same⟩ (fun i H' _ ⟨s, _⟩ => s.seq (SqL.lst eD)) ?_ ?_
      · rintro i x H' hx ⟨sm2, eD2⟩
        obtain ⟨m, hm, rfl⟩ := natL_get hx
        rw [List.getElem?_map] at hm
        obtain ⟨n, hn, rfl⟩ := Option.map_eq_some_iff.mp hm
        refine ⟨rfl, ?_⟩
        have e1' := sm2 _ _ (s2 _ _ e1)
        refine ⟨_, rfl, _, rfl, a, c.U, dx, _, _, rfl, e1', TL.cU, TL.nU2, fU_labels _ _ _, _, _, rfl, rfl, .inr ⟨by omega, by omega⟩, _, eD2, smallLt (by rw [natL_len, List.length_map, List.length_take]; omega), same_mut sm2 nD2, ?_⟩
        rw [upd_same, natL_take hn]
        dsimp only
        rw [← Int.natCast_mul]
      · rintro H3 ⟨sm2, eD2⟩
        rw [natL_len, List.take_of_length_le (by rw [List.length_map]; exact Nat.le_refl _)] at eD2
        have s3 := s2.trans sm2
        refine ⟨old, h1.p, h1.b, h1.r, D2, h1.bs, h1.rows, h1.cs, h1.n.B, h1.n.c, h1.n.L, _, true, rfl, (k1.same s3).by, SqL.lst eD2, pair_map hpw (fun x hx y hy hxy => ?_), by rw [List.length_map]; omega, fun p4 H4 s4 np4 ep4 => ?_⟩
        · have h2 := (k1.ok.plc_le (n := x) (m := y)).mpr hxy
          exact Nat.mul_le_mul_right W (Nat.add_le_add_right (Nat.div_le_div_right h2) ad)
        · refine q p4 H4 (s3.trans s4) (s3.free np4) ?_
          rw [ep4, nearL_natL]
          · rw [List.map_map]
            rfl
          · intro s hs
            rw [HN.nr_next]
            omega
end
end LM

set_option Elab.async false
set_option linter.all false
set_option maxRecDepth 100000
set_option maxHeartbeats 4000000
set_option pp.maxSteps 600
set_option pp.deepTerms false
namespace LM
open PySem PySem.Spec PyProof.Rows L2 RZ
local macro_rules | `(tactic| walk_at "hp") => `(tactic| first | assumption | exact upd_same | (rw [upd_ne (by assumption)]; assumption) | (rw [upd_ne (Ne.symm (by assumption))]; assumption) | (rw [upd_ne (by assumption)]; exact upd_same) | (rw [upd_ne (Ne.symm (by assumption))]; exact upd_same))
local macro_rules | `(tactic| walk_at "sq") => `(tactic| first | assumption | exact Or.inl (Or.inl (by assumption)) | exact Or.inl (Or.inl upd_same) | exact Or.inl (Or.inl (by walk_at "hp")))
local macro_rules | `(tactic| walk_at "ixl") => `(tactic| refine ⟨_, _, _, _, rfl, rfl, (by walk_at "sq"), (by rfl), ?_⟩)
local macro_rules | `(tactic| walk_at "setl") => `(tactic| refine ⟨_, _, _, _, rfl, rfl, (by walk_at "hp"), (by rfl), ?_⟩)
local macro_rules | `(tactic| walk_at "side") => `(tactic| refine idP ?_; first | omega | (show (0 : Int) < _; omega) | (show (0 : Int) < _ ∧ _ < _; omega) | (refine Or.inr ?_; show (-(2 ^ 64) : Int) < _ ∧ _ < _; omega) | (refine Or.inl ?_; show (-(2 ^ 64) : Int) < _ ∧ _ < _; omega) | exact divW (by omega) (by omega) _ | (refine ⟨by decide, by decide, ?_⟩; decide))
local macro_rules | `(tactic| walk_at "go1") => `(tactic| first
  | refine ⟨_, rfl, ?_⟩
  | refine ⟨_, _, rfl, rfl, (by walk_at "side"), ?_⟩
  | refine ⟨_, _, rfl, (by walk_at "side"), ?_⟩
  | refine ⟨_, _, rfl, rfl, ?_⟩
  | refine Or.inl ⟨_, rfl, ?_⟩
  | refine ⟨_, _, rfl, Or.inl (by walk_at "sq"), ?_⟩
  | walk_at "ixl"
  | walk_at "setl"
  | refine ⟨_, _, rfl, (by walk_at "sq"), rfl, ?_⟩
  | refine ⟨_, _, rfl, (by walk_at "sq"), ?_⟩
  | refine ⟨_, _, rfl, ?_⟩
  | refine ⟨rfl, ?_⟩
  | refine ⟨small (Nat.le_of_ble_eq_true rfl), ?_⟩)
local macro_rules | `(tactic| walk_at "go") => `(tactic| repeat walk_at "go1")

abbrev splaces_in_round : Stmt := topS 75
theorem scplaces_in_round : FnScope ["house"] ["house"] (defScope splaces_in_round) := ⟨rfl, rfl, rfl, by decide +kernel, rfl, by decide +kernel, by decide +kernel⟩
abbrev sframes_in_places : Stmt := topS 76
theorem scframes_in_places : FnScope ["house", "places"] ["house", "places"] (defScope sframes_in_places) := ⟨rfl, rfl, rfl, by decide +kernel, rfl, by decide +kernel, by decide +kernel⟩
abbrev splace_behind_frame_ahead : Stmt := topS 77
theorem scplace_behind_frame_ahead : FnScope ["house", "frame"] ["house", "frame"] (defScope splace_behind_frame_ahead) := ⟨rfl, rfl, rfl, by decide +kernel, rfl, by decide +kernel, by decide +kernel⟩
abbrev sFrameShift_least_start : Stmt := inClass (topS 71) 2
theorem scFrameShift_least_start : FnScope ["self", "frame"] ["self", "frame"] (defScope sFrameShift_least_start) := ⟨rfl, rfl, rfl, by decide +kernel, rfl, by decide +kernel, by decide +kernel⟩
abbrev sLabelShift_least_start : Stmt := inClass (topS 72) 2
theorem scLabelShift_least_start : FnScope ["self", "frame", "least"] ["self", "frame"] (defScope sLabelShift_least_start) := ⟨rfl, rfl, rfl, by decide +kernel, rfl, by decide +kernel, by decide +kernel⟩
abbrev sUnitStart_least_start : Stmt := inClass (topS 73) 2
theorem scUnitStart_least_start : FnScope ["self", "frame", "least", "unit"] ["self", "frame"] (defScope sUnitStart_least_start) := ⟨rfl, rfl, rfl, by decide +kernel, rfl, by decide +kernel, by decide +kernel⟩
abbrev sRate_least_start : Stmt := inClass (topS 74) 2
theorem scRate_least_start : FnScope ["self", "frame"] ["self", "frame"] (defScope sRate_least_start) := ⟨rfl, rfl, rfl, by decide +kernel, rfl, by decide +kernel, by decide +kernel⟩
abbrev sFrameShift_passing : Stmt := inClass (topS 71) 3
theorem scFrameShift_passing : FnScope ["self"] ["self"] (defScope sFrameShift_passing) := ⟨rfl, rfl, rfl, by decide +kernel, rfl, by decide +kernel, by decide +kernel⟩
abbrev sLabelShift_passing : Stmt := inClass (topS 72) 3
theorem scLabelShift_passing : FnScope ["self", "places"] ["self"] (defScope sLabelShift_passing) := ⟨rfl, rfl, rfl, by decide +kernel, rfl, by decide +kernel, by decide +kernel⟩
abbrev sUnitStart_passing : Stmt := inClass (topS 73) 3
theorem scUnitStart_passing : FnScope ["self", "frames"] ["self"] (defScope sUnitStart_passing) := ⟨rfl, rfl, rfl, by decide +kernel, rfl, by decide +kernel, by decide +kernel⟩
abbrev sRate_passing : Stmt := inClass (topS 74) 3
theorem scRate_passing : FnScope ["self", "common"] ["self"] (defScope sRate_passing) := ⟨rfl, rfl, rfl, by decide +kernel, rfl, by decide +kernel, by decide +kernel⟩
def spPlacesIn (K : PySem.W.Frag) (C : Addr) : Sp := fun vs H Q _ => ∃ (old : Addr → Prop) (h : HD), vs = [.ref h.p] ∧ h.At K C old H ∧ Q (.int (h.n.P : Int)) H
def spFramesIn (K : PySem.W.Frag) (C : Addr) : Sp := fun vs H Q _ => ∃ (old : Addr → Prop) (h : HD) (M : Nat), vs = [.ref h.p, .int (M : Int)] ∧ h.At K C old H ∧ Q (.int ((h.n.N * (M / h.n.P) : Nat) : Int)) H
def spBehindAhead (K : PySem.W.Frag) (C : Addr) : Sp := fun vs H Q _ => ∃ (old : Addr → Prop) (h : HD) (f : Nat), vs = [.ref h.p, .int (f : Int)] ∧ h.At K C old H ∧ ∀ H', Same H H' → Q (.int (nrLow h.n true h.n.plc f : Int)) H'
def spLs (K : PySem.W.Frag) (C : Addr) (c : LCs) (ok : LG → Prop) : Sp := fun vs H Q _ => ∃ (old : Addr → Prop) (a : Addr) (g : LG) (f : Nat), vs = [.ref a, .int (f : Int)] ∧ ok g ∧ LegAt K C c old H a g ∧ ∀ H', Same H H' → Q (.int (g.leg.ls f : Int)) H'
def spPass (K : PySem.W.Frag) (C : Addr) (c : LCs) (ok : LG → Prop) : Sp := fun vs H Q _ => ∃ (old : Addr → Prop) (a : Addr) (g : LG), vs = [.ref a] ∧ ok g ∧ LegAt K C c old H a g ∧ ∀ t H', Same H H' → H t = none → H' t = some (.tup [.int (g.leg.D : Int), .int (g.leg.S : Int)]) → Q (.ref t) H'
theorem hf_pl (b r sk ah rd : Addr) (t : Str) : (hf b r sk ah rd t).lookup ("place" : Str) = none := hf_no _ _ _ _ _ _ (by decide +kernel) (by decide +kernel) (by decide +kernel) (by decide +kernel) (by decide +kernel) (by decide +kernel)
theorem HD.At.P_le {K : PySem.W.Frag} {C : Addr} {old : Addr → Prop} {H : Hp} {h : HD} (a : h.At K C old H) : h.n.P ≤ 432000 := by
  have k := a.cnt
  exact Nat.mul_le_mul k.hL7 k.hB6
section
variable {P : Program} {w : World} {K : PySem.W.Frag} {mg : Str → Option Value} {base : Heap} {c : LCs} {C : Addr}
theorem ok_placesin {f fBs pBs fRo pRo : Addr} {fd fdBs fdRo : FuncData} (F : Fun K "places_in_round" "places_in_round" splaces_in_round f fd) (T : HouseTxt K mg C)
    (qBs : PropOf K C "bases" pBs fBs) (GBs : FnOk P w K mg base CX0 1 fBs fdBs ["self"] (getSp C "_bases")) (bBs : Binds K fdBs ["self"] [])
    (qRo : PropOf K C "round" pRo fRo) (GRo : FnOk P w K mg base CX0 1 fRo fdRo ["self"] (getSp C "_round")) (bRo : Binds K fdRo ["self"] []) : FnOk P w K mg base CX0 3 f fd ["house"] (spPlacesIn K C) := by
  have sc := scplaces_in_round
  refine F.ok sc (fun vs H Q E h => ?_) (fun cdv A outer s H vs Q E hr h => ?_)
  · obtain ⟨old, h, rfl, _⟩ := h
    rfl
  · obtain ⟨old, h, rfl, hA, k⟩ := h
    refine ⟨_, (pss_one (ps_ret (pe_op op_mul (pe_ix ix_tup (pe_prop (pv 0) T.cl qRo GRo (hr.mono (by decide)) bRo .nil pass0 rfl) pe_int (fun _ _ => rfl)) (pe_ix ix_tup (pe_prop (pv 0) T.cl qBs GBs (hr.mono (by decide)) bBs .nil pass0 rfl) (pe_un un_neg pe_int) (fun _ _ => rfl))))), ?_⟩
    have ct := hA.cnt
    obtain ⟨⟨dx, sk, ah, rd, e1, e2, e3, e4, _, _⟩, bt, rt, fr, _⟩ := id hA
    have hB6 := ct.hB6
    refine ⟨_, rfl, h.p, dx, _, rfl, e1, h.p, dx, _, _, rfl, e1, hf_round _ _ _ _ _ _, rd, _, _, _, rfl, rfl, SqT.tup e4, rfl, ?_⟩
    refine ⟨_, rfl, h.p, dx, _, rfl, e1, h.p, dx, _, _, rfl, e1, hf_bases _ _ _ _ _ _, _, rfl, h.b, _, _, _, rfl, rfl, bt, getLastD_map h.bs fr.b0, ?_⟩
    rw [ct.last]
    refine ⟨_, _, rfl, rfl, .inr ⟨by omega, by omega⟩, ?_⟩
    dsimp only
    rw [← Int.natCast_mul]
    exact k
theorem ok_framesin {f fRo pRo : Addr} {fd fdRo : FuncData} (F : Fun K "frames_in_places" "frames_in_places" sframes_in_places f fd) (T : HouseTxt K mg C)
    (qRo : PropOf K C "round" pRo fRo) (GRo : FnOk P w K mg base CX0 1 fRo fdRo ["self"] (getSp C "_round")) (bRo : Binds K fdRo ["self"] []) (Dplaces_in_round : DefK P w K mg base "places_in_round" ["house"] 3 (spPlacesIn K C)) : FnOk P w K mg base CX0 4 f fd ["house", "places"] (spFramesIn K C) := by
  have sc := scframes_in_places
  refine F.ok sc (fun vs H Q E h => ?_) (fun cdv A outer s H vs Q E hr h => ?_)
  · obtain ⟨old, h, M, rfl, _⟩ := h
    rfl
  · obtain ⟨old, h, M, rfl, hA, k⟩ := h
    refine ⟨_, (pss_one (ps_ret (pe_op op_mul (pe_ix ix_tup (pe_prop (pv 0) T.cl qRo GRo (hr.mono (by decide)) bRo .nil pass0 rfl) pe_int (fun _ _ => rfl)) (pe_op op_fdiv (pv 1) (pe_d Dplaces_in_round (hr.mono (by decide)) rfl (pa_cons (pv 0) pa_nil)))))), ?_⟩
    have ct := hA.cnt
    obtain ⟨⟨dx, sk, ah, rd, e1, e2, e3, e4, _, _⟩, bt, rt, fr, _⟩ := id hA
    rw [ct.total, ct.len] at e4
    have hP := hA.P_le
    have hP1 := hA.ok.P_pos
    have hN := hA.ok.N_le
    refine ⟨_, rfl, h.p, dx, _, rfl, e1, h.p, dx, _, _, rfl, e1, hf_round _ _ _ _ _ _, rd, _, _, _, rfl, rfl, SqT.tup e4, rfl, ?_⟩
    refine ⟨_, rfl, _, rfl, old, h, rfl, hA, _, _, rfl, rfl, ⟨by omega, by omega⟩, _, _, rfl, rfl, .inl ?_, ?_⟩
    · show (-(2 ^ 64) : Int) < (h.n.N : Int) ∧ (h.n.N : Int) < 2 ^ 64
      omega
    · dsimp only
      rw [← Int.natCast_ediv]
      show Q (.int ((h.n.N : Int) * ((M / h.n.P : Nat) : Int))) H
      rw [← Int.natCast_mul]
      exact k
theorem ok_behindahead {f fPl : Addr} {fd fdPl : FuncData} (F : Fun K "place_behind_frame_ahead" "place_behind_frame_ahead" splace_behind_frame_ahead f fd) (T : HouseTxt K mg C)
    (mPl : Meth K C "place" fPl) (GPl : FnOk P w K mg base CX0 4 fPl fdPl ["self", "frame"] (spPlaceM K C)) (bPl : Binds K fdPl ["self", "frame"] []) : FnOk P w K mg base CX0 5 f fd ["house", "frame"] (spBehindAhead K C) := by
  have sc := scplace_behind_frame_ahead
  refine F.ok sc (fun vs H Q E h => ?_) (fun cdv A outer s H vs Q E hr h => ?_)
  · obtain ⟨old, h, f, rfl, _⟩ := h
    rfl
  · obtain ⟨old, h, f, rfl, hA, k⟩ := h
    refine ⟨_, (pss_one (ps_ret (pe_ifExp (pt_cmpR op_gt (pv 1) pe_int (nomark _)) (pe_op op_add (pe_meth (pv 0) T.cl mPl GPl (hr.mono (by decide)) bPl .nil pass0 (pa_cons (pe_op op_sub (pv 1) pe_int) pa_nil)) pe_int) pe_int))), ?_⟩
    obtain ⟨dx, sk, ah, rd, e1, e2, e3, e4, _, _⟩ := hA.ob
    refine ⟨_, rfl, _, _, rfl, rfl, _, rfl, ?_⟩
    refine ifD (fun hd => ?_) (fun hd => ?_)
    · refine ⟨_, rfl, h.p, dx, _, rfl, e1, hf_pl _ _ _ _ _ _, _, rfl, _, _, rfl, rfl, old, h.p, h.b, h.r, h.bs, h.rows, h.cs, _, rfl, hA, by omega, fun H' s => ?_⟩
      refine ⟨_, _, rfl, rfl, ?_⟩
      have e : (f : Int) - 1 = ((f - 1 : Nat) : Int) := by omega
      have hk := k H' s
      unfold nrLow at hk
      rw [if_neg (by decide), if_pos (by omega)] at hk
      dsimp only
      rw [e, hA.cnt.plc]
      exact hk
    · have hk := k H (Same.refl _)
      unfold nrLow at hk
      rw [if_neg (by decide), if_neg (by omega)] at hk
      exact hk
theorem ok_lsS {f : Addr} {fd : FuncData} (F : Fun K "least_start" "FrameShift.least_start" sFrameShift_least_start f fd) (TL : LegTxt K mg c) (N : Names mg) : FnOk P w K mg base CX0 1 f fd ["self", "frame"] (spLs K C c isS) := by
  have sc := scFrameShift_least_start
  refine F.ok sc (fun vs H Q E h => ?_) (fun cdv A outer s H vs Q E hr h => ?_)
  · obtain ⟨old, a, g, f, rfl, _⟩ := h
    rfl
  · obtain ⟨old, a, g, f, rfl, ⟨k, rfl⟩, ⟨⟨dx, e1⟩, _⟩, q⟩ := h
    refine ⟨_, (pss_one (ps_ret (pe_callB (call_max2 rfl) (by rfl) N.max (by decide +kernel) (pa_cons pe_int (pa_cons (pe_op op_sub (pv 1) (pe_fld (pv 0) rfl)) pa_nil))))), ?_⟩
    refine ⟨_, rfl, _, rfl, a, c.S, dx, _, _, rfl, e1, TL.cS, TL.nS1, fS_amount k, _, _, rfl, rfl, _, _, rfl, ?_⟩
    have hq := q H (Same.refl _)
    have e : (if (f : Int) - k > 0 then (f : Int) - k else 0) = (((LG.sh k).leg.ls f : Nat) : Int) := by
      show _ = ((((f : Int) - k).toNat : Nat) : Int)
      split <;> omega
    rw [← e] at hq
    exact hq
theorem ok_lsR {f : Addr} {fd : FuncData} (F : Fun K "least_start" "Rate.least_start" sRate_least_start f fd) (TL : LegTxt K mg c) (N : Names mg) : FnOk P w K mg base CX0 1 f fd ["self", "frame"] (spLs K C c isR) := by
  have sc := scRate_least_start
  refine F.ok sc (fun vs H Q E h => ?_) (fun cdv A outer s H vs Q E hr h => ?_)
  · obtain ⟨old, a, g, f, rfl, _⟩ := h
    rfl
  · obtain ⟨old, a, g, f, rfl, ⟨x, y, rfl⟩, ⟨⟨dx, e1⟩, ⟨x0, x1⟩, y0, y1⟩, q⟩ := h
    refine ⟨_, (pss_one (ps_ret (pe_op op_fdiv (pe_op op_sub (pe_op op_add (pe_op op_mul (pv 1) (pe_fld (pv 0) rfl)) (pe_fld (pv 0) rfl)) pe_int) (pe_fld (pv 0) rfl)))), ?_⟩
    refine ⟨_, rfl, _, rfl, a, c.R, dx, _, _, rfl, e1, TL.cR, TL.nR2, fR_divisor _ _, _, _, rfl, rfl, .inr ⟨by omega, by omega⟩, ?_⟩
    refine ⟨_, rfl, a, c.R, dx, _, _, rfl, e1, TL.cR, TL.nR1, fR_factor _ _, _, _, rfl, rfl, _, _, rfl, rfl, ?_⟩
    refine ⟨_, rfl, a, c.R, dx, _, _, rfl, e1, TL.cR, TL.nR1, fR_factor _ _, _, _, rfl, rfl, ⟨by omega, by omega⟩, ?_⟩
    have hq := q H (Same.refl _)
    have e : ((f : Int) * (y : Int) + (x : Int) - 1) / (x : Int) = (((LG.rt x y).leg.ls f : Nat) : Int) := by
      show _ = (((f * y + x - 1) / x : Nat) : Int)
      rw [Int.natCast_ediv, show ((f * y + x - 1 : Nat) : Int) = ((f * y : Nat) : Int) + (x : Int) - 1 by omega, Int.natCast_mul]
    rw [← e] at hq
    exact hq
theorem ok_lsL {f fPl fAt : Addr} {fd fdPl fdAt : FuncData} (F : Fun K "least_start" "LabelShift.least_start" sLabelShift_least_start f fd) (TL : LegTxt K mg c) (T : HouseTxt K mg C) (N : Names mg)
    (mPl : Meth K C "place" fPl) (GPl : FnOk P w K mg base CX0 4 fPl fdPl ["self", "frame"] (spPlaceM K C)) (bPl : Binds K fdPl ["self", "frame"] [])
    (mAt : Meth K C "at" fAt) (GAt : FnOk P w K mg base CX0 4 fAt fdAt ["self", "place", "way"] (spAt K C)) (bAt : Binds K fdAt ["self", "place", "way"] []) (Dplace_behind_frame_ahead : DefK P w K mg base "place_behind_frame_ahead" ["house", "frame"] 5 (spBehindAhead K C)) :
    FnOk P w K mg base CX0 6 f fd ["self", "frame"] (spLs K C c isL) := by
  have sc := scLabelShift_least_start
  refine F.ok sc (fun vs H Q E h => ?_) (fun cdv A outer s H vs Q E hr h => ?_)
  · obtain ⟨old, a, g, f, rfl, _⟩ := h
    rfl
  · obtain ⟨old, a, g, f, rfl, ⟨h1, h2, k, nx, rfl⟩, ⟨⟨dx, e1⟩, k1, k2⟩, q⟩ := h
    refine ⟨_, (pss_cons (ps_if (pt_cmpR op_eq (pe_fld (pv 0) rfl) pe_str (nomark _)) (pss_one (ps_set (i := 2) sc.nd rfl (Or.inl rfl) (pe_meth (pe_fld (pv 0) rfl) T.cl mPl GPl (hr.mono (by decide)) bPl .nil pass0 (pa_cons (pv 1) pa_nil)))) (pss_one (ps_set (i := 2) sc.nd rfl (Or.inl rfl) (pe_d Dplace_behind_frame_ahead (hr.mono (by decide)) rfl (pa_cons (pe_fld (pv 0) rfl) (pa_cons (pv 1) pa_nil))))))
      (pss_one (ps_ret (pe_meth (pe_fld (pv 0) rfl) T.cl mAt GAt (hr.mono (by decide)) bAt .nil pass0 (pa_cons (pe_callB (call_max2 rfl) (by rfl) N.max (by decide +kernel) (pa_cons pe_int (pa_cons (pe_op op_sub (pv 2) (pe_fld (pv 0) rfl)) pa_nil))) (pa_cons pe_str pa_nil)))))), ?_⟩
    obtain ⟨d1, _, _, _, o1, _⟩ := k1.ob
    obtain ⟨d2, _, _, _, o2, _⟩ := k2.ob
    refine seq_joinC (fun σ' H' => σ' = [some (.ref a), some (.int (f : Int)), some (.int (nrLow h2.n nx h2.n.plc f : Int))] ∧ Same H H') (fun D' kj => ?_) (fun σ' H' hj => ?_)
    · refine ⟨_, rfl, a, c.L, dx, _, _, rfl, e1, TL.cL, TL.nL4, fL_way _ _ _ _, rfl, _, rfl, ?_⟩
      cases nx with
      | true =>
        refine ifD (fun hd => absurd (V.str.inj hd) (by decide +kernel)) (fun _ => ?_)
        refine ⟨_, rfl, a, c.L, dx, _, _, rfl, e1, TL.cL, TL.nL2, fL_there _ _ _ _, _, rfl, old, h2, f, rfl, k2, fun H1 s1 => ?_⟩
        exact kj _ _ ⟨rfl, s1⟩
      | false =>
        refine ifD (fun _ => ?_) (fun hd => absurd rfl hd)
        refine ⟨_, rfl, a, c.L, dx, _, _, rfl, e1, TL.cL, TL.nL2, fL_there _ _ _ _, h2.p, d2, _, rfl, o2, hf_pl _ _ _ _ _ _, _, rfl, old, h2.p, h2.b, h2.r, h2.bs, h2.rows, h2.cs, _, rfl, k2, by omega, fun H1 s1 => ?_⟩
        rw [k2.cnt.plc]
        exact kj _ _ ⟨rfl, s1⟩
    · obtain ⟨rfl, s1⟩ := hj
      refine ⟨_, rfl, a, c.L, dx, _, _, rfl, s1 _ _ e1, TL.cL, TL.nL1, fL_here _ _ _ _, h1.p, d1, _, rfl, s1 _ _ o1, hf_at _ _ _ _ _ _, _, rfl, _, rfl, a, c.L, dx, _, _, rfl, s1 _ _ e1, TL.cL, TL.nL3, fL_amount _ _ _ _, _, _, rfl, rfl, _, _, rfl, ?_⟩
      refine ⟨old, h1.p, h1.b, h1.r, h1.bs, h1.rows, h1.cs, h1.n.B, h1.n.c, h1.n.L, ((nrLow h2.n nx h2.n.plc f : Int) - k).toNat, true, ?_, (k1.same s1).by, fun H2 s2 => ?_⟩
      · refine congrArg (fun z => [V.ref h1.p, V.int z, V.str "next"]) ?_
        split <;> omega
      · have hq := q H2 (s1.trans s2)
        unfold atO
        split
        · exact hq
        · exact hq
theorem ok_lsU {f fAt : Addr} {fd fdAt : FuncData} (F : Fun K "least_start" "UnitStart.least_start" sUnitStart_least_start f fd) (TL : LegTxt K mg c) (T : HouseTxt K mg C) (N : Names mg)
    (mAt : Meth K C "at" fAt) (GAt : FnOk P w K mg base CX0 4 fAt fdAt ["self", "place", "way"] (spAt K C)) (bAt : Binds K fdAt ["self", "place", "way"] []) (Dplace_behind_frame_ahead : DefK P w K mg base "place_behind_frame_ahead" ["house", "frame"] 5 (spBehindAhead K C)) :
    FnOk P w K mg base CX0 6 f fd ["self", "frame"] (spLs K C c isU) := by
  have sc := scUnitStart_least_start
  refine F.ok sc (fun vs H Q E h => ?_) (fun cdv A outer s H vs Q E hr h => ?_)
  · obtain ⟨old, a, g, f, rfl, _⟩ := h
    rfl
  · obtain ⟨old, a, g, f, rfl, ⟨h1, W, ad, rfl⟩, ⟨⟨dx, e1⟩, k1, W1, W2⟩, q⟩ := h
    refine ⟨_, (pss_cons (ps_set (i := 2) sc.nd rfl (Or.inl rfl) (pe_d Dplace_behind_frame_ahead (hr.mono (by decide)) rfl (pa_cons (pe_fld (pv 0) rfl) (pa_cons (pv 1) pa_nil))))
      (pss_cons (ps_set (i := 3) sc.nd rfl (Or.inl rfl) (pe_op op_fdiv (pe_op op_sub (pe_op op_add (pv 2) (pe_fld (pv 0) rfl)) pe_int) (pe_fld (pv 0) rfl)))
      (pss_one (ps_ret (pe_meth (pe_fld (pv 0) rfl) T.cl mAt GAt (hr.mono (by decide)) bAt .nil pass0 (pa_cons (pe_op op_mul (pe_callB (call_max2 rfl) (by rfl) N.max (by decide +kernel) (pa_cons pe_int (pa_cons (pe_op op_sub (pv 3) (pe_fld (pv 0) rfl)) pa_nil))) (pe_fld (pv 0) rfl)) (pa_cons pe_str pa_nil))))))), ?_⟩
    obtain ⟨d1, _, _, _, o1, _⟩ := k1.ob
    refine ⟨_, rfl, a, c.U, dx, _, _, rfl, e1, TL.cU, TL.nU1, fU_house _ _ _, _, rfl, old, h1, f, rfl, k1, fun H1 s1 => ?_⟩
    have e1' := s1 _ _ e1
    refine ⟨_, rfl, _, rfl, a, c.U, dx, _, _, rfl, e1', TL.cU, TL.nU2, fU_labels _ _ _, _, _, rfl, rfl, _, _, rfl, rfl, _, rfl, a, c.U, dx, _, _, rfl, e1', TL.cU, TL.nU2, fU_labels _ _ _, _, _, rfl, rfl, ⟨by omega, by omega⟩, ?_⟩
    refine ⟨_, rfl, a, c.U, dx, _, _, rfl, e1', TL.cU, TL.nU1, fU_house _ _ _, h1.p, d1, _, rfl, s1 _ _ o1, hf_at _ _ _ _ _ _, _, rfl, _, rfl, a, c.U, dx, _, _, rfl, e1', TL.cU, TL.nU3, fU_ahead _ _ _, _, _, rfl, rfl, _, _, rfl, ?_⟩
    refine ⟨_, rfl, a, c.U, dx, _, _, rfl, e1', TL.cU, TL.nU2, fU_labels _ _ _, _, _, rfl, rfl, .inr ⟨by omega, by omega⟩, ?_⟩
    refine ⟨old, h1.p, h1.b, h1.r, h1.bs, h1.rows, h1.cs, h1.n.B, h1.n.c, h1.n.L, ((nrLow h1.n true h1.n.plc f + W - 1) / W - ad) * W, true, ?_, (k1.same s1).by, fun H2 s2 => ?_⟩
    · refine congrArg (fun z => [V.ref h1.p, V.int z, V.str "next"]) ?_
      have e : (((nrLow h1.n true h1.n.plc f : Nat) : Int) + (W : Int) - 1) / (W : Int) = (((nrLow h1.n true h1.n.plc f + W - 1) / W : Nat) : Int) := by
        rw [Int.natCast_ediv, show ((nrLow h1.n true h1.n.plc f + W - 1 : Nat) : Int) = ((nrLow h1.n true h1.n.plc f : Nat) : Int) + (W : Int) - 1 by omega]
      rw [Int.natCast_mul, e]
      congr 1
      split <;> omega
    · have hq := q H2 (s1.trans s2)
      unfold atO
      split
      · exact hq
      · exact hq
theorem ok_passS {f : Addr} {fd : FuncData} (F : Fun K "passing" "FrameShift.passing" sFrameShift_passing f fd) : FnOk P w K mg base CX0 1 f fd ["self"] (spPass K C c isS) := by
  have sc := scFrameShift_passing
  refine F.ok sc (fun vs H Q E h => ?_) (fun cdv A outer s H vs Q E hr h => ?_)
  · obtain ⟨old, a, g, rfl, _⟩ := h
    rfl
  · obtain ⟨old, a, g, rfl, ⟨k, rfl⟩, ⟨⟨dx, e1⟩, _⟩, q⟩ := h
    refine ⟨_, (pss_one (ps_ret (pe_tup (pa_cons pe_int (pa_cons pe_int pa_nil))))), ?_⟩
    refine ⟨Nat.le_of_ble_eq_true rfl, ?_⟩
    (intro t nt; generalize e_t : upd H t _ = H1; have s1 : Same H H1 := fun b x hb => (congrFun e_t b).symm.trans (same_new nt b x hb); have h1 := (congrFun e_t t).symm.trans upd_same; clear e_t)
    exact q t H1 s1 nt h1
theorem ok_passR {f : Addr} {fd : FuncData} (F : Fun K "passing" "Rate.passing" sRate_passing f fd) (TL : LegTxt K mg c) (hgcd : mg "gcd" = some (.builtin "math.gcd")) : FnOk P w K mg base CX0 1 f fd ["self"] (spPass K C c isR) := by
  have sc := scRate_passing
  refine F.ok sc (fun vs H Q E h => ?_) (fun cdv A outer s H vs Q E hr h => ?_)
  · obtain ⟨old, a, g, rfl, _⟩ := h
    rfl
  · obtain ⟨old, a, g, rfl, ⟨x, y, rfl⟩, ⟨⟨dx, e1⟩, ⟨x0, x1⟩, y0, y1⟩, q⟩ := h
    refine ⟨_, (pss_cons (ps_set (i := 1) sc.nd rfl (Or.inl rfl) (pe_callBfun cr_gcd (by rfl) hgcd (pa_cons (pe_fld (pv 0) rfl) (pa_cons (pe_fld (pv 0) rfl) pa_nil))))
      (pss_one (ps_ret (pe_tup (pa_cons (pe_op op_fdiv (pe_fld (pv 0) rfl) (pv 1)) (pa_cons (pe_op op_fdiv (pe_fld (pv 0) rfl) (pv 1)) pa_nil)))))), ?_⟩
    refine ⟨_, rfl, a, c.R, dx, _, _, rfl, e1, TL.cR, TL.nR1, fR_factor _ _, _, rfl, a, c.R, dx, _, _, rfl, e1, TL.cR, TL.nR2, fR_divisor _ _, _, _, rfl, ?_⟩
    have g0 := Nat.gcd_pos_of_pos_left y (show 0 < x from x0)
    have g1 := Nat.gcd_le_left y (show 0 < x from x0)
    refine ⟨_, rfl, a, c.R, dx, _, _, rfl, e1, TL.cR, TL.nR2, fR_divisor _ _, _, rfl, _, _, rfl, rfl, ⟨by simp only [Int.natAbs_natCast]; omega, by simp only [Int.natAbs_natCast]; omega⟩, ?_⟩
    refine ⟨_, rfl, a, c.R, dx, _, _, rfl, e1, TL.cR, TL.nR1, fR_factor _ _, _, rfl, _, _, rfl, rfl, ⟨by simp only [Int.natAbs_natCast]; omega, by simp only [Int.natAbs_natCast]; omega⟩, ?_⟩
    refine ⟨Nat.le_of_ble_eq_true rfl, ?_⟩
    (intro t nt; generalize e_t : upd H t _ = H1; have s1 : Same H H1 := fun b x hb => (congrFun e_t b).symm.trans (same_new nt b x hb); have h1 := (congrFun e_t t).symm.trans upd_same; clear e_t)
    refine q t H1 s1 nt ?_
    rw [h1]
    simp only [Int.natAbs_natCast]
    show some (HO.tup [V.int ((y : Int) / ((Nat.gcd x y : Nat) : Int)), V.int ((x : Int) / ((Nat.gcd x y : Nat) : Int))]) = some (HO.tup [V.int ((y / Nat.gcd x y : Nat) : Int), V.int ((x / Nat.gcd x y : Nat) : Int)])
    rw [Int.natCast_ediv, Int.natCast_ediv]
theorem lcm_lt {a b : Nat} (ha : a ≤ 432000) (hb : b ≤ 432000) (h1 : 1 ≤ a) (h2 : 1 ≤ b) : Nat.lcm a b < 2 ^ 60 := by
  have h := Nat.le_of_dvd (Nat.mul_pos h1 h2) (Nat.lcm_dvd_mul a b)
  have h3 : a * b ≤ 432000 * 432000 := Nat.mul_le_mul ha hb
  omega
theorem ok_passL {f : Addr} {fd : FuncData} (F : Fun K "passing" "LabelShift.passing" sLabelShift_passing f fd) (TL : LegTxt K mg c) (N : Names mg)
    (Dplaces_in_round : DefK P w K mg base "places_in_round" ["house"] 3 (spPlacesIn K C)) (Dframes_in_places : DefK P w K mg base "frames_in_places" ["house", "places"] 4 (spFramesIn K C)) : FnOk P w K mg base CX0 5 f fd ["self"] (spPass K C c isL) := by
  have sc := scLabelShift_passing
  refine F.ok sc (fun vs H Q E h => ?_) (fun cdv A outer s H vs Q E hr h => ?_)
  · obtain ⟨old, a, g, rfl, _⟩ := h
    rfl
  · obtain ⟨old, a, g, rfl, ⟨h1, h2, k, nx, rfl⟩, ⟨⟨dx, e1⟩, k1, k2⟩, q⟩ := h
    refine ⟨_, (pss_cons (ps_set (i := 1) sc.nd rfl (Or.inl rfl) (pe_callBfun cr_lcm (by rfl) N.lcm (pa_cons (pe_d Dplaces_in_round (hr.mono (by decide)) rfl (pa_cons (pe_fld (pv 0) rfl) pa_nil)) (pa_cons (pe_d Dplaces_in_round (hr.mono (by decide)) rfl (pa_cons (pe_fld (pv 0) rfl) pa_nil)) pa_nil))))
      (pss_one (ps_ret (pe_tup (pa_cons (pe_d Dframes_in_places (hr.mono (by decide)) rfl (pa_cons (pe_fld (pv 0) rfl) (pa_cons (pv 1) pa_nil))) (pa_cons (pe_d Dframes_in_places (hr.mono (by decide)) rfl (pa_cons (pe_fld (pv 0) rfl) (pa_cons (pv 1) pa_nil))) pa_nil)))))), ?_⟩
    have p1 := k1.P_le
    have p2 := k2.P_le
    refine ⟨_, rfl, a, c.L, dx, _, _, rfl, e1, TL.cL, TL.nL1, fL_here _ _ _ _, old, h1, rfl, k1, _, rfl, a, c.L, dx, _, _, rfl, e1, TL.cL, TL.nL2, fL_there _ _ _ _, old, h2, rfl, k2, ?_⟩
    refine ⟨_, _, rfl, by simp only [Int.natAbs_natCast]; omega, by simp only [Int.natAbs_natCast]; omega, ?_⟩
    simp only [Int.natAbs_natCast]
    refine ⟨_, rfl, a, c.L, dx, _, _, rfl, e1, TL.cL, TL.nL1, fL_here _ _ _ _, _, rfl, old, h1, _, rfl, k1, ?_⟩
    refine ⟨_, rfl, a, c.L, dx, _, _, rfl, e1, TL.cL, TL.nL2, fL_there _ _ _ _, _, rfl, old, h2, _, rfl, k2, Nat.le_of_ble_eq_true rfl, ?_⟩
    (intro t nt; generalize e_t : upd H t _ = H1; have s1 : Same H H1 := fun b x hb => (congrFun e_t b).symm.trans (same_new nt b x hb); have h1 := (congrFun e_t t).symm.trans upd_same; clear e_t)
    exact q t H1 s1 nt h1
theorem ok_passU {f : Addr} {fd : FuncData} (F : Fun K "passing" "UnitStart.passing" sUnitStart_passing f fd) (TL : LegTxt K mg c) (N : Names mg)
    (Dplaces_in_round : DefK P w K mg base "places_in_round" ["house"] 3 (spPlacesIn K C)) (Dframes_in_places : DefK P w K mg base "frames_in_places" ["house", "places"] 4 (spFramesIn K C)) : FnOk P w K mg base CX0 5 f fd ["self"] (spPass K C c isU) := by
  have sc := scUnitStart_passing
  refine F.ok sc (fun vs H Q E h => ?_) (fun cdv A outer s H vs Q E hr h => ?_)
  · obtain ⟨old, a, g, rfl, _⟩ := h
    rfl
  · obtain ⟨old, a, g, rfl, ⟨h1, W, ad, rfl⟩, ⟨⟨dx, e1⟩, k1, W1, W2⟩, q⟩ := h
    refine ⟨_, (pss_cons (ps_set (i := 1) sc.nd rfl (Or.inl rfl) (pe_d Dframes_in_places (hr.mono (by decide)) rfl (pa_cons (pe_fld (pv 0) rfl) (pa_cons (pe_callBfun cr_lcm (by rfl) N.lcm (pa_cons (pe_d Dplaces_in_round (hr.mono (by decide)) rfl (pa_cons (pe_fld (pv 0) rfl) pa_nil)) (pa_cons (pe_fld (pv 0) rfl) pa_nil))) pa_nil))))
      (pss_one (ps_ret (pe_tup (pa_cons (pv 1) (pa_cons (pv 1) pa_nil)))))), ?_⟩
    have p1 := k1.P_le
    refine ⟨_, rfl, a, c.U, dx, _, _, rfl, e1, TL.cU, TL.nU1, fU_house _ _ _, _, rfl, a, c.U, dx, _, _, rfl, e1, TL.cU, TL.nU1, fU_house _ _ _, old, h1, rfl, k1, _, rfl, a, c.U, dx, _, _, rfl, e1, TL.cU, TL.nU2, fU_labels _ _ _, ?_⟩
    refine ⟨_, _, rfl, by simp only [Int.natAbs_natCast]; omega, by simp only [Int.natAbs_natCast]; omega, ?_⟩
    simp only [Int.natAbs_natCast]
    refine ⟨old, h1, _, rfl, k1, _, rfl, _, rfl, Nat.le_of_ble_eq_true rfl, ?_⟩
    (intro t nt; generalize e_t : upd H t _ = H1; have s1 : Same H H1 := fun b x hb => (congrFun e_t b).symm.trans (same_new nt b x hb); have h1 := (congrFun e_t t).symm.trans upd_same; clear e_t)
    exact q t H1 s1 nt h1
end
end LM

set_option Elab.async false
set_option linter.all false
set_option maxRecDepth 100000
set_option maxHeartbeats 4000000
set_option pp.maxSteps 600
set_option pp.deepTerms false
namespace LM
open PySem PySem.Spec PyProof.Rows L2 RZ RT
local macro_rules | `(tactic| walk_at "hp") => `(tactic| first | assumption | exact upd_same | (rw [upd_ne (by assumption)]; assumption) | (rw [upd_ne (Ne.symm (by assumption))]; assumption) | (rw [upd_ne (by assumption)]; exact upd_same) | (rw [upd_ne (Ne.symm (by assumption))]; exact upd_same))
local macro_rules | `(tactic| walk_at "sq") => `(tactic| first | assumption | exact Or.inl (Or.inl (by assumption)) | exact Or.inl (Or.inl upd_same) | exact Or.inl (Or.inl (by walk_at "hp")))
local macro_rules | `(tactic| walk_at "ixl") => `(tactic| refine ⟨_, _, _, _, rfl, rfl, (by walk_at "sq"), (by rfl), ?_⟩)
local macro_rules | `(tactic| walk_at "setl") => `(tactic| refine ⟨_, _, _, _, rfl, rfl, (by walk_at "hp"), (by rfl), ?_⟩)
local macro_rules | `(tactic| walk_at "side") => `(tactic| refine idP ?_; first | omega | (show (0 : Int) < _; omega) | (show (0 : Int) < _ ∧ _ < _; omega) | (refine Or.inr ?_; show (-(2 ^ 64) : Int) < _ ∧ _ < _; omega) | (refine Or.inl ?_; show (-(2 ^ 64) : Int) < _ ∧ _ < _; omega) | exact divW (by omega) (by omega) _ | (refine ⟨by decide, by decide, ?_⟩; decide))
local macro_rules | `(tactic| walk_at "go1") => `(tactic| first
  | refine ⟨_, rfl, ?_⟩
  | refine ⟨_, _, rfl, rfl, (by walk_at "side"), ?_⟩
  | refine ⟨_, _, rfl, (by walk_at "side"), ?_⟩
  | refine ⟨_, _, rfl, rfl, ?_⟩
  | refine Or.inl ⟨_, rfl, ?_⟩
  | refine ⟨_, _, rfl, Or.inl (by walk_at "sq"), ?_⟩
  | walk_at "ixl"
  | walk_at "setl"
  | refine ⟨_, _, rfl, (by walk_at "sq"), rfl, ?_⟩
  | refine ⟨_, _, rfl, (by walk_at "sq"), ?_⟩
  | refine ⟨_, _, rfl, ?_⟩
  | refine ⟨rfl, ?_⟩
  | refine ⟨small (Nat.le_of_ble_eq_true rfl), ?_⟩)
local macro_rules | `(tactic| walk_at "go") => `(tactic| repeat walk_at "go1")

abbrev sleg_of : Stmt := topS 78
theorem scleg_of : FnScope ["houses", "at", "step", "here", "word", "labels"] ["houses", "at", "step"] (defScope sleg_of) := ⟨rfl, rfl, rfl, by decide +kernel, rfl, by decide +kernel, by decide +kernel⟩
abbrev slegs_of : Stmt := topS 79
theorem sclegs_of : FnScope ["houses", "steps", "legs", "at", "step"] ["houses", "steps"] (defScope slegs_of) := ⟨rfl, rfl, rfl, by decide +kernel, rfl, by decide +kernel, by decide +kernel⟩
abbrev shouse_behind : Stmt := topS 66
theorem schouse_behind : FnScope ["at", "step"] ["at", "step"] (defScope shouse_behind) := ⟨rfl, rfl, rfl, by decide +kernel, rfl, by decide +kernel, by decide +kernel⟩
abbrev sled : Stmt := topS 80
theorem scled : FnScope ["legs", "frames", "leg"] ["legs", "frames"] (defScope sled) := ⟨rfl, rfl, rfl, by decide +kernel, rfl, by decide +kernel, by decide +kernel⟩
abbrev sleast_led_to : Stmt := topS 81
theorem scleast_led_to : FnScope ["legs", "frame", "leg"] ["legs", "frame"] (defScope sleast_led_to) := ⟨rfl, rfl, rfl, by decide +kernel, rfl, by decide +kernel, by decide +kernel⟩
abbrev sleast_through : Stmt := topS 82
theorem scleast_through : FnScope ["legs", "number", "becoming", "leg", "divisor", "share", "times"] ["legs"] (defScope sleast_through) := ⟨rfl, rfl, rfl, by decide +kernel, rfl, by decide +kernel, by decide +kernel⟩
/-- a method of a class that keeps its promise, nothing leaving it -/
structure MethOk (P : Program) (w : World) (K : PySem.W.Frag) (mg : Str → Option Value) (base : Heap) (C : Addr) (m : Str) (k : Nat) (ps : List Str) (sp : Sp) : Prop where
  all : ∃ (f : Addr) (fd : FuncData), Meth K C m f ∧ FnOk P w K mg base CX0 k f fd ps sp ∧ Binds K fd ps []
theorem pe_mo {X : Cx} {o e : Expr} {es : List Expr} {ta : TE} {t : TA} {C : Addr} {m : Str} {k : Nat} {ps : List Str} {sp : Sp} {apos pos : Pos} {pl : Sem Bool} (he : PE X o ta) (c : Cls X.K C) (M : MethOk X.prog X.w X.K X.mg X.base C m k ps sp) (hr : Room k X.A) (ha : PA X (e :: es) t)
    (hst : starEach (e :: es) X.env = (false, eval e X.env) :: starEach es X.env := by rfl) (hpl : (backTo pos (starEach es X.env)).any (·.1) = false := by rfl)
    (ht : eval (.Call (.Attribute o m apos) (e :: es) [] pos) X.env = (do
      let ov ← eval o X.env
      standAt apos.atName
      let (f, first) ← holding [ov] (getMethod ov m pl)
      callWith pos f first (backTo pos (starEach (e :: es) X.env)) (backToKw pos (keywordEach [] X.env))) := by rfl) :
    PE X (.Call (.Attribute o m apos) (e :: es) [] pos) (tMeth C m sp [] E0 ta t) := by
  obtain ⟨f, fd, hm, F, hb⟩ := M.all
  exact pe_meth he c hm F hr hb .nil pass0 ha hst hpl ht
theorem pe_mo0 {X : Cx} {o : Expr} {ta : TE} {C : Addr} {m : Str} {k : Nat} {ps : List Str} {sp : Sp} {apos pos : Pos} {pl : Sem Bool} (he : PE X o ta) (c : Cls X.K C) (M : MethOk X.prog X.w X.K X.mg X.base C m k ps sp) (hr : Room k X.A)
    (ht : eval (.Call (.Attribute o m apos) [] [] pos) X.env = (do
      let ov ← eval o X.env
      standAt apos.atName
      let (f, first) ← holding [ov] (getMethod ov m pl)
      callWith pos f first (backTo pos (starEach [] X.env)) (backToKw pos (keywordEach [] X.env))) := by rfl) :
    PE X (.Call (.Attribute o m apos) [] [] pos) (tMeth C m sp [] E0 ta tNil) := by
  obtain ⟨f, fd, hm, F, hb⟩ := M.all
  exact pe_meth0 he c hm F hr hb .nil pass0 ht
/-- one of four readings of the same expression -/
theorem pe_four {X : Cx} {e : Expr} {t1 t2 t3 t4 : TE} (h1 : PE X e t1) (h2 : PE X e t2) (h3 : PE X e t3) (h4 : PE X e t4) : PE X e (fun σ H Q => t1 σ H Q ∨ t2 σ H Q ∨ t3 σ H Q ∨ t4 σ H Q) := by
  refine ⟨fun pins s σ H Q I h => ?_⟩
  rcases h with h | h | h | h
  · exact h1.run pins s σ H Q I h
  · exact h2.run pins s σ H Q I h
  · exact h3.run pins s σ H Q I h
  · exact h4.run pins s σ H Q I h
/-- what the four classes of legs ask of their methods -/
structure LegM (P : Program) (w : World) (K : PySem.W.Frag) (mg : Str → Option Value) (base : Heap) (c : LCs) (m : Str) (k : Nat) (ps : List Str) (sp : (LG → Prop) → Sp) : Prop where
  S : MethOk P w K mg base c.S m k ps (sp isS)
  L : MethOk P w K mg base c.L m k ps (sp isL)
  U : MethOk P w K mg base c.U m k ps (sp isU)
  R : MethOk P w K mg base c.R m k ps (sp isR)
/-- steps of moves -/
inductive Stp where
  | on (k : Nat)
  | back (k : Nat)
  | label (k : Nat) (nx : Bool)
  | unlabel (k : Nat) (nx : Bool)
  | to (f : Nat)
  | after (f : Nat)
  | read (h : Nat) (nx : Bool)
  | call (h : Nat)
  | rate (a b : Nat)
def Stp.vs : Stp → List V
  | .on k => [.str "on", .int k]
  | .back k => [.str "back", .int k]
  | .label k nx => [.str "label", .int k, .str (wayS nx)]
  | .unlabel k nx => [.str "unlabel", .int k, .str (wayS nx)]
  | .to f => [.str "to", .int f]
  | .after f => [.str "after", .int f]
  | .read h nx => [.str "read", .int h, .str (wayS nx)]
  | .call h => [.str "call", .int h]
  | .rate a b => [.str "rate", .int a, .int b]
def Stp.word : Stp → Str
  | .on _ => "on"
  | .back _ => "back"
  | .label _ _ => "label"
  | .unlabel _ _ => "unlabel"
  | .to _ => "to"
  | .after _ => "after"
  | .read _ _ => "read"
  | .call _ => "call"
  | .rate _ _ => "rate"
theorem ite_of {c b : Bool} {A B : Prop} (e : c = b) (h1 : b = true → A) (h2 : b = false → B) : if c = true then A else B := by
  subst e
  exact ifB h1 h2
def Stp.beh (j : Nat) : Stp → Nat
  | .read h _ => h
  | .call h => h
  | _ => j
def HD0 : HD := ⟨0, 0, 0, [], [], []⟩
def HD.W (h : HD) (f : Nat) : Nat := unitP h.bs f * (h.bs.getLastD 1).toNat
def Stp.lg (hs : List HD) (j : Nat) : Stp → LG
  | .on k => .sh k
  | .back k => .sh (-k)
  | .label k nx => .lb (hs.getD j HD0) (hs.getD j HD0) k nx
  | .unlabel k nx => .lb (hs.getD j HD0) (hs.getD j HD0) (-k) nx
  | .to f => .un (hs.getD j HD0) ((hs.getD j HD0).W f) 0
  | .after f => .un (hs.getD j HD0) ((hs.getD j HD0).W f) 1
  | .read h nx => .lb (hs.getD j HD0) (hs.getD h HD0) 0 nx
  | .call _ => .sh 0
  | .rate a b => .rt a b
/-- the step may stand in house number j -/
def Stp.Fits (hs : List HD) (j : Nat) : Stp → Prop
  | .on k => k ≤ 10 ^ 40
  | .back k => k ≤ 10 ^ 40
  | .label k _ => k ≤ 10 ^ 40
  | .unlabel k _ => k ≤ 10 ^ 40
  | .to f => f < (hs.getD j HD0).bs.length
  | .after f => f < (hs.getD j HD0).bs.length
  | .read h _ => h < hs.length ∧ (hs.getD h HD0).bs = (hs.getD j HD0).bs
  | .call h => h < hs.length
  | .rate a b => (1 ≤ a ∧ a ≤ 100) ∧ 1 ≤ b ∧ b ≤ 100
def fitS (hs : List HD) : Nat → List Stp → Prop
  | _, [] => True
  | j, s :: r => s.Fits hs j ∧ fitS hs (s.beh j) r
def behS : Nat → List Stp → Nat
  | j, [] => j
  | j, s :: r => behS (s.beh j) r
def lgS (hs : List HD) : Nat → List Stp → List LG
  | _, [] => []
  | j, s :: r => s.lg hs j :: lgS hs (s.beh j) r
theorem behS_snoc : ∀ (j : Nat) (l : List Stp) (s : Stp), behS j (l ++ [s]) = s.beh (behS j l)
  | _, [], _ => rfl
  | j, x :: r, s => behS_snoc (x.beh j) r s
theorem lgS_snoc (hs : List HD) : ∀ (j : Nat) (l : List Stp) (s : Stp), lgS hs j (l ++ [s]) = lgS hs j l ++ [s.lg hs (behS j l)]
  | _, [], _ => rfl
  | j, x :: r, s => by
    show _ :: lgS hs (x.beh j) (r ++ [s]) = _
    rw [lgS_snoc hs (x.beh j) r s]
    rfl
theorem lgS_len (hs : List HD) : ∀ (j : Nat) (l : List Stp), (lgS hs j l).length = l.length
  | _, [] => rfl
  | j, x :: r => congrArg (· + 1) (lgS_len hs (x.beh j) r)
theorem fitS_at (hs : List HD) : ∀ (j : Nat) (l : List Stp) (i : Nat) (s : Stp), fitS hs j l → l[i]? = some s → s.Fits hs (behS j (l.take i))
  | _, [], i, s, _, e => by simp at e
  | j, x :: r, 0, s, h, e => by
    cases e
    exact h.1
  | j, x :: r, i + 1, s, h, e => fitS_at hs (x.beh j) r i s h.2 e
theorem beh_lt {hs : List HD} {j : Nat} {s : Stp} (hj : j < hs.length) (h : s.Fits hs j) : s.beh j < hs.length := by
  cases s with
  | read h1 nx => exact h.1
  | call h1 => exact h
  | on k => exact hj
  | back k => exact hj
  | label k nx => exact hj
  | unlabel k nx => exact hj
  | to f => exact hj
  | after f => exact hj
  | rate a b => exact hj
theorem behS_lt {hs : List HD} : ∀ {j : Nat} {l : List Stp}, j < hs.length → fitS hs j l → ∀ i, behS j (l.take i) < hs.length
  | j, [], hj, _, i => by
    rw [List.take_nil]
    exact hj
  | j, x :: r, hj, h, 0 => hj
  | j, x :: r, hj, h, i + 1 => behS_lt (beh_lt hj h.1) h.2 i
def HousesAt (K : PySem.W.Frag) (C : Addr) (old : Addr → Prop) (H : Hp) (hp : Addr) (hs : List HD) : Prop := SqT K H hp (hs.map fun h => V.ref h.p) ∧ ∀ h ∈ hs, h.At K C old H
theorem HousesAt.same {K : PySem.W.Frag} {C : Addr} {old : Addr → Prop} {H H' : Hp} {hp : Addr} {hs : List HD} (h : HousesAt K C old H hp hs) (s : Same H H') : HousesAt K C old H' hp hs := ⟨Same.seqT s h.1, fun x hx => (h.2 x hx).same s⟩
theorem HousesAt.get {K : PySem.W.Frag} {C : Addr} {old : Addr → Prop} {H : Hp} {hp : Addr} {hs : List HD} (h : HousesAt K C old H hp hs) {j : Nat} (hj : j < hs.length) : (hs.getD j HD0).At K C old H ∧ atI (hs.map fun h => V.ref h.p) (j : Int) = some (V.ref (hs.getD j HD0).p) := by
  have e : hs.getD j HD0 = hs[j] := by rw [List.getD_eq_getElem?_getD, List.getElem?_eq_getElem hj]; rfl
  refine ⟨h.2 _ (by rw [e]; exact List.getElem_mem hj), ?_⟩
  refine atI_nat ?_
  rw [List.getElem?_map, List.getElem?_eq_getElem hj, e]
  rfl
def spHBehind (K : PySem.W.Frag) : Sp := fun vs H Q _ => ∃ (a : Addr) (j : Nat) (s : Stp), vs = [.int (j : Int), .ref a] ∧ SqT K H a s.vs ∧ ∀ H', Same H H' → Q (.int (s.beh j : Int)) H'
def spLegOf (K : PySem.W.Frag) (C : Addr) (c : LCs) : Sp := fun vs H Q _ => ∃ (old : Addr → Prop) (hp a : Addr) (hs : List HD) (j : Nat) (s : Stp), vs = [.ref hp, .int (j : Int), .ref a] ∧ HousesAt K C old H hp hs ∧ j < hs.length ∧ SqT K H a s.vs ∧ s.Fits hs j ∧
  ∀ x H', Same H H' → H x = none → LegAt K C c old H' x (s.lg hs j) → Q (.ref x) H'
section
variable {P : Program} {w : World} {K : PySem.W.Frag} {mg : Str → Option Value} {base : Heap} {c : LCs} {C : Addr}
theorem ok_hbehind {f : Addr} {fd : FuncData} (F : Fun K "house_behind" "house_behind" shouse_behind f fd) : FnOk P w K mg base CX0 1 f fd ["at", "step"] (spHBehind K) := by
  have sc := schouse_behind
  refine F.ok sc (fun vs H Q E h => ?_) (fun cdv A outer s H vs Q E hr h => ?_)
  · obtain ⟨a, j, s, rfl, _⟩ := h
    rfl
  · obtain ⟨a, j, s, rfl, ha, k⟩ := h
    refine ⟨_, (pss_one (ps_ret (pe_ifExp (pt_cmpR op_in_seq (pe_ix ix_tup (pv 1) pe_int (fun _ _ => rfl)) (pe_tup (pa_cons pe_str (pa_cons pe_str pa_nil))) (by rfl)) (pe_ix ix_tup (pv 1) pe_int (fun _ _ => rfl)) (pv 0)))), ?_⟩
    have h0 : atI s.vs 0 = some (.str s.word) := by cases s <;> rfl
    refine ⟨_, rfl, a, _, _, _, rfl, rfl, ha, h0, Nat.le_of_ble_eq_true rfl, ?_⟩
    (intro q nq; generalize e_q : upd H q _ = H1; have s1 : Same H H1 := fun b x hb => (congrFun e_q b).symm.trans (same_new nq b x hb); have h1 := (congrFun e_q q).symm.trans upd_same; clear e_q)
    refine ⟨q, _, rfl, .inr (SqT.tup h1), rfl, rfl, _, rfl, ?_⟩
    rw [if_neg Bool.false_ne_true]
    cases s with
    | read h1 nx =>
      refine ite_of (b := true) (by show inV (V.str "read") _ = true; decide +kernel) (fun _ => ?_) (fun z => nomatch z)
      exact ⟨_, rfl, a, _, _, _, rfl, rfl, Same.seqT s1 ha, rfl, k H1 s1⟩
    | call h1 =>
      refine ite_of (b := true) (by show inV (V.str "call") _ = true; decide +kernel) (fun _ => ?_) (fun z => nomatch z)
      exact ⟨_, rfl, a, _, _, _, rfl, rfl, Same.seqT s1 ha, rfl, k H1 s1⟩
    | on k1 => exact ite_of (b := false) (by show inV (V.str "on") _ = false; decide +kernel) (fun z => nomatch z) (fun _ => ⟨_, rfl, k H1 s1⟩)
    | back k1 => exact ite_of (b := false) (by show inV (V.str "back") _ = false; decide +kernel) (fun z => nomatch z) (fun _ => ⟨_, rfl, k H1 s1⟩)
    | label k1 nx => exact ite_of (b := false) (by show inV (V.str "label") _ = false; decide +kernel) (fun z => nomatch z) (fun _ => ⟨_, rfl, k H1 s1⟩)
    | unlabel k1 nx => exact ite_of (b := false) (by show inV (V.str "unlabel") _ = false; decide +kernel) (fun z => nomatch z) (fun _ => ⟨_, rfl, k H1 s1⟩)
    | to f1 => exact ite_of (b := false) (by show inV (V.str "to") _ = false; decide +kernel) (fun z => nomatch z) (fun _ => ⟨_, rfl, k H1 s1⟩)
    | after f1 => exact ite_of (b := false) (by show inV (V.str "after") _ = false; decide +kernel) (fun z => nomatch z) (fun _ => ⟨_, rfl, k H1 s1⟩)
    | rate a1 b1 => exact ite_of (b := false) (by show inV (V.str "rate") _ = false; decide +kernel) (fun z => nomatch z) (fun _ => ⟨_, rfl, k H1 s1⟩)
/-- what making the four kinds of legs asks -/
structure LegI (P : Program) (w : World) (K : PySem.W.Frag) (mg : Str → Option Value) (base : Heap) (c : LCs) : Prop where
  S : ∃ (f : Addr) (fd : FuncData), Mk K c.S f ∧ FnOk P w K mg base CX0 1 f fd ["self", "amount"] (spIniS c) ∧ Binds K fd ["self", "amount"] []
  L : ∃ (f : Addr) (fd : FuncData), Mk K c.L f ∧ FnOk P w K mg base CX0 1 f fd ["self", "here", "there", "amount", "way"] (spIniL c) ∧ Binds K fd ["self", "here", "there", "amount", "way"] []
  U : ∃ (f : Addr) (fd : FuncData), Mk K c.U f ∧ FnOk P w K mg base CX0 1 f fd ["self", "house", "labels", "ahead"] (spIniU c) ∧ Binds K fd ["self", "house", "labels", "ahead"] []
  R : ∃ (f : Addr) (fd : FuncData), Mk K c.R f ∧ FnOk P w K mg base CX0 1 f fd ["self", "factor", "divisor"] (spIniR c) ∧ Binds K fd ["self", "factor", "divisor"] []
theorem word_no {x y : Str} {A : Prop} {B : Prop} (hn : (x == y) = false) (h : B) : if decide (V.str x = V.str y) = true then A else B := by
  refine ifD (fun hd => ?_) (fun _ => h)
  rw [V.str.inj hd, beq_self_eq_true] at hn
  cases hn
theorem word_yes {x : Str} {A : Prop} {B : Prop} (h : A) : if decide (V.str x = V.str x) = true then A else B := ifD (fun _ => h) (fun hd => absurd rfl hd)
theorem ok_legof {f fBs pBs : Addr} {fd fdBs : FuncData} (F : Fun K "leg_of" "leg_of" sleg_of f fd) (T : HouseTxt K mg C) (TL : LegTxt K mg c) (I : LegI P w K mg base c)
    (qBs : PropOf K C "bases" pBs fBs) (GBs : FnOk P w K mg base CX0 1 fBs fdBs ["self"] (getSp C "_bases")) (bBs : Binds K fdBs ["self"] []) (Dgroups_in_unit : DefK P w K mg base "groups_in_unit" ["bases", "field"] 1 (spUnit K)) :
    FnOk P w K mg base CX0 4 f fd ["houses", "at", "step"] (spLegOf K C c) := by
  have sc := scleg_of
  refine F.ok sc (fun vs H Q E h => ?_) (fun cdv A outer s H vs Q E hr h => ?_)
  · obtain ⟨old, hp, a, hs, j, s, rfl, _⟩ := h
    rfl
  · obtain ⟨old, hp, a, hs, j, s, rfl, hH, hj, ha, hf, q⟩ := h
    obtain ⟨xxS, fdS, MS, GS, bS⟩ := I.S
    obtain ⟨xxL, fdL, ML, GL, bL⟩ := I.L
    obtain ⟨xxU, fdU, MU, GU, bU⟩ := I.U
    obtain ⟨xxR, fdR, MR, GR, bR⟩ := I.R
    refine ⟨_, (pss_cons (ps_set (i := 3) sc.nd rfl (Or.inl rfl) (pe_ix ix_tup (pv 0) (pv 1) (fun _ _ => rfl)))
      (pss_cons (ps_set (i := 4) sc.nd rfl (Or.inl rfl) (pe_ix ix_tup (pv 2) pe_int (fun _ _ => rfl)))
      (pss_cons (ps_if (pt_cmpR op_eq (pv 4) pe_str (nomark _)) (pss_one (ps_ret (pe_make MS GS (hr.mono (by decide)) rfl TL.gS bS .nil pass0 (pa_cons (pe_ix ix_tup (pv 2) pe_int (fun _ _ => rfl)) pa_nil)))) pss_nil)
      (pss_cons (ps_if (pt_cmpR op_eq (pv 4) pe_str (nomark _)) (pss_one (ps_ret (pe_make MS GS (hr.mono (by decide)) rfl TL.gS bS .nil pass0 (pa_cons (pe_un un_neg (pe_ix ix_tup (pv 2) pe_int (fun _ _ => rfl))) pa_nil)))) pss_nil)
      (pss_cons (ps_if (pt_cmpR op_eq (pv 4) pe_str (nomark _)) (pss_one (ps_ret (pe_make MS GS (hr.mono (by decide)) rfl TL.gS bS .nil pass0 (pa_cons pe_int pa_nil)))) pss_nil)
      (pss_cons (ps_if (pt_cmpR op_eq (pv 4) pe_str (nomark _)) (pss_one (ps_ret (pe_make ML GL (hr.mono (by decide)) rfl TL.gL bL .nil pass0 (pa_cons (pv 3) (pa_cons (pv 3) (pa_cons (pe_ix ix_tup (pv 2) pe_int (fun _ _ => rfl)) (pa_cons (pe_ix ix_tup (pv 2) pe_int (fun _ _ => rfl)) pa_nil))))))) pss_nil)
      (pss_cons (ps_if (pt_cmpR op_eq (pv 4) pe_str (nomark _)) (pss_one (ps_ret (pe_make ML GL (hr.mono (by decide)) rfl TL.gL bL .nil pass0 (pa_cons (pv 3) (pa_cons (pv 3) (pa_cons (pe_un un_neg (pe_ix ix_tup (pv 2) pe_int (fun _ _ => rfl))) (pa_cons (pe_ix ix_tup (pv 2) pe_int (fun _ _ => rfl)) pa_nil))))))) pss_nil)
      (pss_cons (ps_if (pt_cmpR op_eq (pv 4) pe_str (nomark _)) (pss_one (ps_ret (pe_make ML GL (hr.mono (by decide)) rfl TL.gL bL .nil pass0 (pa_cons (pv 3) (pa_cons (pe_ix ix_tup (pv 0) (pe_ix ix_tup (pv 2) pe_int (fun _ _ => rfl)) (fun _ _ => rfl)) (pa_cons pe_int (pa_cons (pe_ix ix_tup (pv 2) pe_int (fun _ _ => rfl)) pa_nil))))))) pss_nil)
      (pss_cons (ps_if (pt_cmpR op_eq (pv 4) pe_str (nomark _)) (pss_one (ps_ret (pe_make MR GR (hr.mono (by decide)) rfl TL.gR bR .nil pass0 (pa_cons (pe_ix ix_tup (pv 2) pe_int (fun _ _ => rfl)) (pa_cons (pe_ix ix_tup (pv 2) pe_int (fun _ _ => rfl)) pa_nil))))) pss_nil)
      (pss_cons (ps_set (i := 5) sc.nd rfl (Or.inl rfl) (pe_op op_mul (pe_d Dgroups_in_unit (hr.mono (by decide)) rfl (pa_cons (pe_prop (pv 3) T.cl qBs GBs (hr.mono (by decide)) bBs .nil pass0 rfl) (pa_cons (pe_ix ix_tup (pv 2) pe_int (fun _ _ => rfl)) pa_nil))) (pe_ix ix_tup (pe_prop (pv 3) T.cl qBs GBs (hr.mono (by decide)) bBs .nil pass0 rfl) (pe_un un_neg pe_int) (fun _ _ => rfl))))
      (pss_one (ps_ret (pe_make MU GU (hr.mono (by decide)) rfl TL.gU bU .nil pass0 (pa_cons (pv 3) (pa_cons (pv 5) (pa_cons (pe_ifExp (pt_cmpR op_eq (pv 4) pe_str (nomark _)) pe_int pe_int) pa_nil)))))))))))))))), ?_⟩
    obtain ⟨hA, hget⟩ := hH.get hj
    have h0 : atI s.vs 0 = some (.str s.word) := by cases s <;> rfl
    refine ⟨_, rfl, _, rfl, hp, _, _, _, rfl, rfl, hH.1, hget, ?_⟩
    refine ⟨_, rfl, a, _, _, _, rfl, rfl, ha, h0, ?_⟩
    generalize hgh : hs.getD j HD0 = g at hA hget
    cases s with
    | on k =>
      refine ⟨_, rfl, rfl, _, rfl, word_yes ?_⟩
      refine ⟨_, rfl, a, _, _, _, rfl, rfl, ha, rfl, ?_⟩
      intro x dx nx nd hne
      refine ⟨x, dx, _, rfl, upd_same, fun H' e1 e2 => ⟨rfl, ?_⟩⟩
      exact q x H' (made_ins nx nd hne e2) nx ⟨⟨dx, e1⟩, trivial⟩
    | back k =>
      refine ⟨_, rfl, rfl, _, rfl, word_no (x := "back") (by decide +kernel) ?_⟩
      refine ⟨_, rfl, rfl, _, rfl, word_yes ?_⟩
      refine ⟨_, rfl, a, _, _, _, rfl, rfl, ha, rfl, _, rfl, ?_⟩
      intro x dx nx nd hne
      refine ⟨x, dx, _, rfl, upd_same, fun H' e1 e2 => ⟨rfl, ?_⟩⟩
      exact q x H' (made_ins nx nd hne e2) nx ⟨⟨dx, e1⟩, trivial⟩
    | call i =>
      refine ⟨_, rfl, rfl, _, rfl, word_no (x := "call") (by decide +kernel) ?_⟩
      refine ⟨_, rfl, rfl, _, rfl, word_no (x := "call") (by decide +kernel) ?_⟩
      refine ⟨_, rfl, rfl, _, rfl, word_yes ?_⟩
      intro x dx nx nd hne
      refine ⟨x, dx, _, rfl, upd_same, fun H' e1 e2 => ⟨rfl, ?_⟩⟩
      exact q x H' (made_ins nx nd hne e2) nx ⟨⟨dx, e1⟩, trivial⟩
    | label k b =>
      refine ⟨_, rfl, rfl, _, rfl, word_no (x := "label") (by decide +kernel) ?_⟩
      refine ⟨_, rfl, rfl, _, rfl, word_no (x := "label") (by decide +kernel) ?_⟩
      refine ⟨_, rfl, rfl, _, rfl, word_no (x := "label") (by decide +kernel) ?_⟩
      refine ⟨_, rfl, rfl, _, rfl, word_yes ?_⟩
      refine ⟨_, rfl, _, rfl, _, rfl, a, _, _, _, rfl, rfl, ha, rfl, _, rfl, a, _, _, _, rfl, rfl, ha, rfl, ?_⟩
      intro x dx nx nd hne
      refine ⟨x, dx, _, _, _, b, rfl, upd_same, fun H' e1 e2 => ⟨rfl, q x H' (made_ins nx nd hne e2) nx ⟨⟨dx, ?_⟩, ?_⟩⟩⟩
      · show H' x = some (.ins c.L dx (fL (hs.getD j HD0).p (hs.getD j HD0).p _ _))
        rw [hgh]
        exact e1
      · show (hs.getD j HD0).At _ _ _ _ ∧ (hs.getD j HD0).At _ _ _ _
        rw [hgh]
        exact ⟨hA.same (made_ins nx nd hne e2), hA.same (made_ins nx nd hne e2)⟩
    | unlabel k b =>
      refine ⟨_, rfl, rfl, _, rfl, word_no (x := "unlabel") (by decide +kernel) ?_⟩
      refine ⟨_, rfl, rfl, _, rfl, word_no (x := "unlabel") (by decide +kernel) ?_⟩
      refine ⟨_, rfl, rfl, _, rfl, word_no (x := "unlabel") (by decide +kernel) ?_⟩
      refine ⟨_, rfl, rfl, _, rfl, word_no (x := "unlabel") (by decide +kernel) ?_⟩
      refine ⟨_, rfl, rfl, _, rfl, word_yes ?_⟩
      refine ⟨_, rfl, _, rfl, _, rfl, a, _, _, _, rfl, rfl, ha, rfl, _, rfl, _, rfl, a, _, _, _, rfl, rfl, ha, rfl, ?_⟩
      intro x dx nx nd hne
      refine ⟨x, dx, _, _, _, b, rfl, upd_same, fun H' e1 e2 => ⟨rfl, q x H' (made_ins nx nd hne e2) nx ⟨⟨dx, ?_⟩, ?_⟩⟩⟩
      · show H' x = some (.ins c.L dx (fL (hs.getD j HD0).p (hs.getD j HD0).p _ _))
        rw [hgh]
        exact e1
      · show (hs.getD j HD0).At _ _ _ _ ∧ (hs.getD j HD0).At _ _ _ _
        rw [hgh]
        exact ⟨hA.same (made_ins nx nd hne e2), hA.same (made_ins nx nd hne e2)⟩
    | read i b =>
      obtain ⟨hi, hb⟩ := hf
      obtain ⟨hA2, hget2⟩ := hH.get hi
      refine ⟨_, rfl, rfl, _, rfl, word_no (x := "read") (by decide +kernel) ?_⟩
      refine ⟨_, rfl, rfl, _, rfl, word_no (x := "read") (by decide +kernel) ?_⟩
      refine ⟨_, rfl, rfl, _, rfl, word_no (x := "read") (by decide +kernel) ?_⟩
      refine ⟨_, rfl, rfl, _, rfl, word_no (x := "read") (by decide +kernel) ?_⟩
      refine ⟨_, rfl, rfl, _, rfl, word_no (x := "read") (by decide +kernel) ?_⟩
      refine ⟨_, rfl, rfl, _, rfl, word_yes ?_⟩
      refine ⟨_, rfl, _, rfl, _, rfl, a, _, _, _, rfl, rfl, ha, rfl, hp, _, _, _, rfl, rfl, hH.1, hget2, _, rfl, a, _, _, _, rfl, rfl, ha, rfl, ?_⟩
      intro x dx nx nd hne
      refine ⟨x, dx, _, _, _, b, rfl, upd_same, fun H' e1 e2 => ⟨rfl, q x H' (made_ins nx nd hne e2) nx ⟨⟨dx, ?_⟩, ?_⟩⟩⟩
      · show H' x = some (.ins c.L dx (fL (hs.getD j HD0).p (hs.getD i HD0).p _ _))
        rw [hgh]
        exact e1
      · show (hs.getD j HD0).At _ _ _ _ ∧ (hs.getD i HD0).At _ _ _ _
        rw [hgh]
        exact ⟨hA.same (made_ins nx nd hne e2), hA2.same (made_ins nx nd hne e2)⟩
    | rate a1 b1 =>
      refine ⟨_, rfl, rfl, _, rfl, word_no (x := "rate") (by decide +kernel) ?_⟩
      refine ⟨_, rfl, rfl, _, rfl, word_no (x := "rate") (by decide +kernel) ?_⟩
      refine ⟨_, rfl, rfl, _, rfl, word_no (x := "rate") (by decide +kernel) ?_⟩
      refine ⟨_, rfl, rfl, _, rfl, word_no (x := "rate") (by decide +kernel) ?_⟩
      refine ⟨_, rfl, rfl, _, rfl, word_no (x := "rate") (by decide +kernel) ?_⟩
      refine ⟨_, rfl, rfl, _, rfl, word_no (x := "rate") (by decide +kernel) ?_⟩
      refine ⟨_, rfl, rfl, _, rfl, word_yes ?_⟩
      refine ⟨_, rfl, a, _, _, _, rfl, rfl, ha, rfl, _, rfl, a, _, _, _, rfl, rfl, ha, rfl, ?_⟩
      intro x dx nx nd hne
      refine ⟨x, dx, _, _, rfl, upd_same, fun H' e1 e2 => ⟨rfl, ?_⟩⟩
      exact q x H' (made_ins nx nd hne e2) nx ⟨⟨dx, e1⟩, hf⟩
    | to fi =>
      refine ⟨_, rfl, rfl, _, rfl, word_no (x := "to") (by decide +kernel) ?_⟩
      refine ⟨_, rfl, rfl, _, rfl, word_no (x := "to") (by decide +kernel) ?_⟩
      refine ⟨_, rfl, rfl, _, rfl, word_no (x := "to") (by decide +kernel) ?_⟩
      refine ⟨_, rfl, rfl, _, rfl, word_no (x := "to") (by decide +kernel) ?_⟩
      refine ⟨_, rfl, rfl, _, rfl, word_no (x := "to") (by decide +kernel) ?_⟩
      refine ⟨_, rfl, rfl, _, rfl, word_no (x := "to") (by decide +kernel) ?_⟩
      refine ⟨_, rfl, rfl, _, rfl, word_no (x := "to") (by decide +kernel) ?_⟩
      have hfi : fi < g.bs.length := by rw [← hgh]; exact hf
      obtain ⟨_, bt, rt, fr, _⟩ := id hA
      obtain ⟨e1, e2, e3, e4, e5, e6, _⟩ := hA.ob
      have ct := hA.cnt
      have hB6 := ct.hB6
      have hB2 := ct.hB
      have hU2 := unitP_le fr.b3 fr.bb fi
      have hU1 := unitP_pos fr.bb fi
      refine ⟨_, rfl, g.p, e1, _, rfl, e5, g.p, e1, _, _, rfl, e5, hf_bases _ _ _ _ _ _, _, rfl, a, _, _, _, rfl, rfl, ha, rfl, g.b, g.bs, fi, rfl, bt, hfi, fr.b3, fr.bb, fun H1 s1 => ?_⟩
      refine ⟨_, rfl, g.p, e1, _, rfl, s1 _ _ e5, g.p, e1, _, _, rfl, s1 _ _ e5, hf_bases _ _ _ _ _ _, _, rfl, g.b, _, _, _, rfl, rfl, Same.seqT s1 bt, getLastD_map g.bs fr.b0, ?_⟩
      rw [ct.last]
      refine ⟨_, _, rfl, rfl, .inr ⟨by omega, by omega⟩, ?_⟩
      refine ⟨_, rfl, _, rfl, _, rfl, rfl, _, rfl, word_yes ?_⟩
      intro x dx nx nd hne
      refine ⟨x, dx, _, _, _, rfl, upd_same, fun H' e1 e2 => ⟨rfl, ?_⟩⟩
      have sm := s1.trans (made_ins nx nd hne e2)
      refine q x H' sm (s1.free nx) ⟨⟨dx, ?_⟩, ?_⟩
      · show H' x = some (.ins c.U dx (fU (hs.getD j HD0).p (((hs.getD j HD0).W fi : Nat) : Int) (0 : Nat)))
        rw [hgh]
        exact e1.trans (by unfold HD.W; rw [Int.natCast_mul]; rfl)
      · show (hs.getD j HD0).At _ _ _ _ ∧ 1 ≤ (hs.getD j HD0).W fi ∧ (hs.getD j HD0).W fi ≤ 216000
        rw [hgh]
        refine ⟨hA.same sm, Nat.mul_pos hU1 (by show 0 < g.n.B; omega), ?_⟩
        exact Nat.le_trans (Nat.mul_le_mul hU2 hB6) (by decide)
    | after fi =>
      refine ⟨_, rfl, rfl, _, rfl, word_no (x := "after") (by decide +kernel) ?_⟩
      refine ⟨_, rfl, rfl, _, rfl, word_no (x := "after") (by decide +kernel) ?_⟩
      refine ⟨_, rfl, rfl, _, rfl, word_no (x := "after") (by decide +kernel) ?_⟩
      refine ⟨_, rfl, rfl, _, rfl, word_no (x := "after") (by decide +kernel) ?_⟩
      refine ⟨_, rfl, rfl, _, rfl, word_no (x := "after") (by decide +kernel) ?_⟩
      refine ⟨_, rfl, rfl, _, rfl, word_no (x := "after") (by decide +kernel) ?_⟩
      refine ⟨_, rfl, rfl, _, rfl, word_no (x := "after") (by decide +kernel) ?_⟩
      have hfi : fi < g.bs.length := by rw [← hgh]; exact hf
      obtain ⟨_, bt, rt, fr, _⟩ := id hA
      obtain ⟨e1, e2, e3, e4, e5, e6, _⟩ := hA.ob
      have ct := hA.cnt
      have hB6 := ct.hB6
      have hB2 := ct.hB
      have hU2 := unitP_le fr.b3 fr.bb fi
      have hU1 := unitP_pos fr.bb fi
      refine ⟨_, rfl, g.p, e1, _, rfl, e5, g.p, e1, _, _, rfl, e5, hf_bases _ _ _ _ _ _, _, rfl, a, _, _, _, rfl, rfl, ha, rfl, g.b, g.bs, fi, rfl, bt, hfi, fr.b3, fr.bb, fun H1 s1 => ?_⟩
      refine ⟨_, rfl, g.p, e1, _, rfl, s1 _ _ e5, g.p, e1, _, _, rfl, s1 _ _ e5, hf_bases _ _ _ _ _ _, _, rfl, g.b, _, _, _, rfl, rfl, Same.seqT s1 bt, getLastD_map g.bs fr.b0, ?_⟩
      rw [ct.last]
      refine ⟨_, _, rfl, rfl, .inr ⟨by omega, by omega⟩, ?_⟩
      refine ⟨_, rfl, _, rfl, _, rfl, rfl, _, rfl, word_no (x := "after") (by decide +kernel) ?_⟩
      intro x dx nx nd hne
      refine ⟨x, dx, _, _, _, rfl, upd_same, fun H' e1 e2 => ⟨rfl, ?_⟩⟩
      have sm := s1.trans (made_ins nx nd hne e2)
      refine q x H' sm (s1.free nx) ⟨⟨dx, ?_⟩, ?_⟩
      · show H' x = some (.ins c.U dx (fU (hs.getD j HD0).p (((hs.getD j HD0).W fi : Nat) : Int) (1 : Nat)))
        rw [hgh]
        exact e1.trans (by unfold HD.W; rw [Int.natCast_mul]; rfl)
      · show (hs.getD j HD0).At _ _ _ _ ∧ 1 ≤ (hs.getD j HD0).W fi ∧ (hs.getD j HD0).W fi ≤ 216000
        rw [hgh]
        refine ⟨hA.same sm, Nat.mul_pos hU1 (by show 0 < g.n.B; omega), ?_⟩
        exact Nat.le_trans (Nat.mul_le_mul hU2 hB6) (by decide)
end
end LM

set_option Elab.async false
set_option linter.all false
set_option maxRecDepth 100000
set_option maxHeartbeats 4000000
set_option pp.maxSteps 600
set_option pp.deepTerms false
namespace LM
open PySem PySem.Spec PyProof.Rows L2 RZ RT
local macro_rules | `(tactic| walk_at "hp") => `(tactic| first | assumption | exact upd_same | (rw [upd_ne (by assumption)]; assumption) | (rw [upd_ne (Ne.symm (by assumption))]; assumption) | (rw [upd_ne (by assumption)]; exact upd_same) | (rw [upd_ne (Ne.symm (by assumption))]; exact upd_same))
local macro_rules | `(tactic| walk_at "sq") => `(tactic| first | assumption | exact Or.inl (Or.inl (by assumption)) | exact Or.inl (Or.inl upd_same) | exact Or.inl (Or.inl (by walk_at "hp")))
local macro_rules | `(tactic| walk_at "ixl") => `(tactic| refine ⟨_, _, _, _, rfl, rfl, (by walk_at "sq"), (by rfl), ?_⟩)
local macro_rules | `(tactic| walk_at "setl") => `(tactic| refine ⟨_, _, _, _, rfl, rfl, (by walk_at "hp"), (by rfl), ?_⟩)
local macro_rules | `(tactic| walk_at "side") => `(tactic| refine idP ?_; first | omega | (show (0 : Int) < _; omega) | (show (0 : Int) < _ ∧ _ < _; omega) | (refine Or.inr ?_; show (-(2 ^ 64) : Int) < _ ∧ _ < _; omega) | (refine Or.inl ?_; show (-(2 ^ 64) : Int) < _ ∧ _ < _; omega) | exact divW (by omega) (by omega) _ | (refine ⟨by decide, by decide, ?_⟩; decide))
local macro_rules | `(tactic| walk_at "go1") => `(tactic| first
  | refine ⟨_, rfl, ?_⟩
  | refine ⟨_, _, rfl, rfl, (by walk_at "side"), ?_⟩
  | refine ⟨_, _, rfl, (by walk_at "side"), ?_⟩
  | refine ⟨_, _, rfl, rfl, ?_⟩
  | refine Or.inl ⟨_, rfl, ?_⟩
  | refine ⟨_, _, rfl, Or.inl (by walk_at "sq"), ?_⟩
  | walk_at "ixl"
  | walk_at "setl"
  | refine ⟨_, _, rfl, (by walk_at "sq"), rfl, ?_⟩
  | refine ⟨_, _, rfl, (by walk_at "sq"), ?_⟩
  | refine ⟨_, _, rfl, ?_⟩
  | refine ⟨rfl, ?_⟩
  | refine ⟨small (Nat.le_of_ble_eq_true rfl), ?_⟩)
local macro_rules | `(tactic| walk_at "go") => `(tactic| repeat walk_at "go1")

local macro_rules | `(tactic| walk_at "lk") => `(tactic| first | rfl | (rw [lookup_putF, if_pos rfl]) | (rw [lookup_putF, if_neg (by decide +kernel)]; walk_at "lk"))
def LegsAt (K : PySem.W.Frag) (C : Addr) (c : LCs) (old : Addr → Prop) (H : Hp) (lp : Addr) (gs : List LG) : Prop := ∃ as : List Addr, H lp = some (.lst (as.map V.ref)) ∧ Paired (LegAt K C c old H) as gs
def StepsAt (K : PySem.W.Frag) (H : Hp) (tp : Addr) (sts : List Stp) : Prop := ∃ as : List Addr, SqT K H tp (as.map V.ref) ∧ Paired (fun a (s : Stp) => SqT K H a s.vs) as sts
theorem LegsAt.same {K : PySem.W.Frag} {C : Addr} {c : LCs} {old : Addr → Prop} {H H' : Hp} {lp : Addr} {gs : List LG} (h : LegsAt K C c old H lp gs) (s : Same H H') : LegsAt K C c old H' lp gs := by
  obtain ⟨as, e, p⟩ := h
  exact ⟨as, s _ _ e, paired_imp p fun a _ b hb => hb.same s⟩
theorem StepsAt.same {K : PySem.W.Frag} {H H' : Hp} {tp : Addr} {sts : List Stp} (h : StepsAt K H tp sts) (s : Same H H') : StepsAt K H' tp sts := by
  obtain ⟨as, e, p⟩ := h
  exact ⟨as, Same.seqT s e, paired_imp p fun a _ b hb => Same.seqT s hb⟩
theorem LegsAt.ok {K : PySem.W.Frag} {C : Addr} {c : LCs} {old : Addr → Prop} {H : Hp} {lp : Addr} {gs : List LG} (h : LegsAt K C c old H lp gs) : ∀ l ∈ gs.map LG.leg, l.Ok := by
  obtain ⟨as, _, p⟩ := h
  have aux : ∀ {as : List Addr} {gs : List LG}, Paired (LegAt K C c old H) as gs → ∀ g ∈ gs, g.leg.Ok := by
    intro as gs p
    induction p with
    | nil => exact fun g hg => nomatch hg
    | cons hx _ ih =>
      intro g hg
      rcases List.mem_cons.mp hg with rfl | hg
      · exact hx.2.ok
      · exact ih g hg
  intro l hl
  obtain ⟨g, hg, rfl⟩ := List.mem_map.mp hl
  exact aux p g hg
theorem vl_app (a b : List Leg) : ∀ n, vl (a ++ b) n = (vl a n).bind (vl b) := by
  induction a with
  | nil => exact fun n => rfl
  | cons l r ih =>
    intro n
    show (if 0 ≤ l.F n then vl (r ++ b) (l.F n).toNat else none) = (if 0 ≤ l.F n then vl r (l.F n).toNat else none).bind (vl b)
    split
    · exact ih _
    · rfl
def vlD (ls : List Leg) (n : Nat) : Nat → Prop := fun v => vl ls n = some v
noncomputable def vn (ls : List Leg) (n : Nat) : Nat := (vl ls n).getD 0
theorem vn_of {ls : List Leg} {n v : Nat} (h : vl ls n = some v) : vn ls n = v := by
  unfold vn
  rw [h]
  rfl
/-- not lost by the row: not lost by its beginning, nor by the leg behind -/
theorem vl_split {a b : List Leg} {l : Leg} {n v : Nat} (h : vl (a ++ l :: b) n = some v) : ∃ m, vl a n = some m ∧ 0 ≤ l.F m ∧ vl (a ++ [l]) n = some (l.F m).toNat := by
  rw [vl_app] at h
  cases e : vl a n with
  | none =>
    rw [e] at h
    cases h
  | some m =>
    rw [e] at h
    have h2 : (if 0 ≤ l.F m then vl b (l.F m).toNat else none) = some v := h
    by_cases h0 : 0 ≤ l.F m
    · refine ⟨m, rfl, h0, ?_⟩
      rw [vl_app, e]
      show (if 0 ≤ l.F m then some (l.F m).toNat else none) = _
      rw [if_pos h0]
    · rw [if_neg h0] at h2
      cases h2
theorem Stp.sound {K : PySem.W.Frag} {C : Addr} {old : Addr → Prop} {H : Hp} {hp : Addr} {hs : List HD} {j : Nat} {s : Stp} (hH : HousesAt K C old H hp hs) (hj : j < hs.length) (hf : s.Fits hs j) : (s.lg hs j).Sound K C old H := by
  have hA := (hH.get hj).1
  have un : ∀ fi, fi < (hs.getD j HD0).bs.length → (hs.getD j HD0).At K C old H ∧ 1 ≤ (hs.getD j HD0).W fi ∧ (hs.getD j HD0).W fi ≤ 216000 := fun fi hfi => by
    obtain ⟨_, bt, rt, fr, _⟩ := id hA
    have ct := hA.cnt
    have hB2 := ct.hB
    exact ⟨hA, Nat.mul_pos (unitP_pos fr.bb fi) (by show 0 < (hs.getD j HD0).n.B; omega), Nat.le_trans (Nat.mul_le_mul (unitP_le fr.b3 fr.bb fi) ct.hB6) (by decide)⟩
  cases s with
  | on k => trivial
  | back k => trivial
  | call k => trivial
  | label k nx => exact ⟨hA, hA⟩
  | unlabel k nx => exact ⟨hA, hA⟩
  | read i nx => exact ⟨hA, (hH.get hf.1).1⟩
  | rate a b => exact hf
  | to fi => exact un fi hf
  | after fi => exact un fi hf
theorem lgS_sound {K : PySem.W.Frag} {C : Addr} {old : Addr → Prop} {H : Hp} {hp : Addr} {hs : List HD} (hH : HousesAt K C old H hp hs) : ∀ {j : Nat} {l : List Stp}, j < hs.length → fitS hs j l → ∀ g ∈ lgS hs j l, g.Sound K C old H
  | _, [], _, _, g, hg => nomatch hg
  | j, x :: r, hj, h, g, hg => by
    rcases List.mem_cons.mp hg with rfl | hg
    · exact Stp.sound hH hj h.1
    · exact lgS_sound hH (beh_lt hj h.1) h.2 g hg
theorem paired_mem {α β : Type} {F G : α → β → Prop} {p : β → Prop} : ∀ {as : List α} {bs : List β}, Paired F as bs → (∀ b ∈ bs, p b) → (∀ a b, F a b → p b → G a b) → Paired G as bs
  | _, _, .nil, _, _ => .nil
  | _, _, .cons h t, hp, i => .cons (i _ _ h (hp _ List.mem_cons_self)) (paired_mem t (fun b hb => hp b (List.mem_cons_of_mem _ hb)) i)
def spLegsOf (K : PySem.W.Frag) (C : Addr) (c : LCs) : Sp := fun vs H Q _ => ∃ (old : Addr → Prop) (hp tp : Addr) (hs : List HD) (sts : List Stp), vs = [.ref hp, .ref tp] ∧ HousesAt K C old H hp hs ∧ 1 ≤ hs.length ∧ StepsAt K H tp sts ∧ fitS hs 0 sts ∧ sts.length ≤ 8 ∧
  ∀ q H', Same H H' → H q = none → LegsAt K C c old H' q (lgS hs 0 sts) → Q (.ref q) H'
def spLed (K : PySem.W.Frag) (C : Addr) (c : LCs) : Sp := fun vs H Q _ => ∃ (old : Addr → Prop) (lp l : Addr) (gs : List LG) (ns : List Nat), vs = [.ref lp, .ref l] ∧ LegsAt K C c old H lp gs ∧ H l = some (.lst (natL ns)) ∧ ns.Pairwise (· ≤ ·) ∧ ns.length ≤ 20001 ∧ (∀ n ∈ ns, ∃ v, vl (gs.map LG.leg) n = some v) ∧
  ∀ q H', Same H H' → (q = l ∨ H q = none) → H' q = some (.lst (natL (ns.map (vn (gs.map LG.leg))))) → Q (.ref q) H'
def spLeastLed (K : PySem.W.Frag) (C : Addr) (c : LCs) : Sp := fun vs H Q _ => ∃ (old : Addr → Prop) (lp : Addr) (gs : List LG) (f : Nat), vs = [.ref lp, .int (f : Int)] ∧ LegsAt K C c old H lp gs ∧ ∀ H', Same H H' → Q (.int (lsl (gs.map LG.leg) f : Int)) H'
def spThrough (K : PySem.W.Frag) (C : Addr) (c : LCs) : Sp := fun vs H Q _ => ∃ (old : Addr → Prop) (lp : Addr) (gs : List LG), vs = [.ref lp] ∧ LegsAt K C c old H lp gs ∧ gs.length ≤ 8 ∧
  ∀ t H', Same H H' → H t = none → H' t = some (.tup [.int ((thr (gs.map LG.leg) (1, 1)).1 : Int), .int ((thr (gs.map LG.leg) (1, 1)).2 : Int)]) → Q (.ref t) H'
section
variable {P : Program} {w : World} {K : PySem.W.Frag} {mg : Str → Option Value} {base : Heap} {c : LCs} {C : Addr}
theorem ok_legsof {f : Addr} {fd : FuncData} (F : Fun K "legs_of" "legs_of" slegs_of f fd) (Dleg_of : DefK P w K mg base "leg_of" ["houses", "at", "step"] 4 (spLegOf K C c)) (Dhouse_behind : DefK P w K mg base "house_behind" ["at", "step"] 1 (spHBehind K)) : FnOk P w K mg base CX0 5 f fd ["houses", "steps"] (spLegsOf K C c) := by
  have sc := sclegs_of
  refine F.ok sc (fun vs H Q E h => ?_) (fun cdv A outer s H vs Q E hr h => ?_)
  · obtain ⟨old, hp, tp, hs, sts, rfl, _⟩ := h
    rfl
  · obtain ⟨old, hp, tp, hs, sts, rfl, hH, h1, ⟨as, ht, pa⟩, hfit, h8, q⟩ := h
    refine ⟨_, (pss_cons (ps_set (i := 2) sc.nd rfl (Or.inl rfl) (pe_lst pa_nil))
      (pss_cons (ps_set (i := 3) sc.nd rfl (Or.inl rfl) pe_int)
      (pss_cons (ps_for PassesOwn.never rfl (pi_tup (pv 1)) (pg_name (i := 4) sc.nd rfl (Or.inl rfl)) (pss_cons (ps_expr (pe_bm PySem.F.plainAttrs_list PySem.F.slot_list_append PySem.F.type_list_append mt_append (pv 2) (pa_cons (pe_d Dleg_of (hr.mono (by decide)) rfl (pa_cons (pv 0) (pa_cons (pv 3) (pa_cons (pv 4) pa_nil)))) pa_nil)))
      (pss_one (ps_set (i := 3) sc.nd rfl (Or.inl rfl) (pe_d Dhouse_behind (hr.mono (by decide)) rfl (pa_cons (pv 3) (pa_cons (pv 4) pa_nil)))))))
      (pss_one (ps_ret (pv 2)))))), ?_⟩
    refine ⟨Nat.le_of_ble_eq_true rfl, ?_⟩
    (intro l nl; generalize e_l : upd H l _ = H1; have s1 : Same H H1 := fun b x hb => (congrFun e_l b).symm.trans (same_new nl b x hb); have el := (congrFun e_l l).symm.trans upd_same; clear e_l)
    have hpl := pa.length
    refine ⟨_, rfl, tp, rfl, ⟨_, Same.seqT s1 ht⟩, for_tup (K := K) (xs := as.map V.ref) (fun i σ H' => ∃ (v4 : Option V) (bs : List Addr), σ = [some (.ref hp), some (.ref tp), some (.ref l), some (.int (behS 0 (sts.take i) : Int)), v4] ∧ Same H H' ∧ H' l = some (.lst (bs.map V.ref)) ∧ Paired (fun b (g : LG) => ∃ dx, H' b = some (.ins (g.cls c) dx g.fs)) bs (lgS hs 0 (sts.take i)))
      ⟨_, [], rfl, s1, el, .nil⟩ (fun i σ H' _ ⟨_, _, _, sm, _⟩ => Same.seqT sm ht) ?_ ?_⟩
    · rintro i x σ H2 hx ⟨v4, bs, rfl, s2, hl, pl⟩
      obtain ⟨a, ha, rfl⟩ : ∃ b, as[i]? = some b ∧ x = V.ref b := by
        rw [List.getElem?_map] at hx
        obtain ⟨z, hz, e⟩ := Option.map_eq_some_iff.mp hx
        exact ⟨z, hz, e.symm⟩
      obtain ⟨st, hst, hsa⟩ := paired_at pa ha
      refine g_nx ?_
      dsimp only
      have hbl := pl.length
      rw [lgS_len] at hbl
      refine ⟨_, rfl, .inl ⟨rfl, _, SqL.lst hl⟩, _, rfl, _, rfl, _, rfl, old, hp, a, hs, _, st, rfl, hH.same s2, behS_lt h1 hfit i, Same.seqT s2 hsa, fitS_at hs 0 sts i st hfit hst, fun x H3 s3 nx hx3 => ?_⟩
      have hl3 := s3 _ _ hl
      refine ⟨l, _, _, rfl, rfl, hl3, smallLt (by rw [List.length_map, hbl, List.length_take]; omega), ?_⟩
      have nlx : x ≠ l := fun z => by rw [z, hl] at nx; cases nx
      generalize e4 : upd H3 l _ = H4
      have s24 : ∀ b o, b ≠ l → H3 b = some o → H4 b = some o := fun b o hb e => by rw [← e4, upd_ne hb]; exact e
      have hl4 : H4 l = some (.lst (bs.map V.ref ++ [V.ref x])) := by rw [← e4, upd_same]
      have s4 : Same H H4 := by rw [← e4]; exact same_mut (s2.trans s3) nl
      refine ⟨_, rfl, _, rfl, _, _, st, rfl, Same.seqT s4 hsa, fun H5 s5 => ?_⟩
      have etk : sts.take (i + 1) = sts.take i ++ [st] := by rw [List.take_add_one, hst]; rfl
      refine ⟨_, bs ++ [x], (by rw [etk, behS_snoc]; rfl), s4.trans s5, ?_, ?_⟩
      · rw [List.map_append]
        exact s5 _ _ hl4
      · rw [etk, lgS_snoc]
        have key : ∀ {b : Addr} {g : LG}, (∃ dx, H3 b = some (.ins (g.cls c) dx g.fs)) → ∃ dx, H5 b = some (.ins (g.cls c) dx g.fs) := fun {b g} ⟨dx, hg⟩ => ⟨dx, s5 _ _ (s24 _ _ (fun z => by rw [z, hl3] at hg; cases hg) hg)⟩
        refine paired_app (paired_imp pl fun b _ g ⟨dx, hg⟩ => key ⟨dx, s3 _ _ hg⟩) (key hx3.1)
    · rintro σ H' ⟨v4, bs, rfl, s2, hl, pl⟩
      rw [List.length_map, hpl, List.take_of_length_le (Nat.le_refl _)] at pl
      refine ⟨_, rfl, q l H' s2 nl ⟨bs, hl, ?_⟩⟩
      exact paired_mem pl (lgS_sound (hH.same s2) h1 hfit) fun a g ha hg => ⟨ha, hg⟩
theorem map_refs_get {as : List Addr} {i : Nat} {x : V} (hx : (as.map V.ref)[i]? = some x) : ∃ b, as[i]? = some b ∧ x = V.ref b := by
  rw [List.getElem?_map] at hx
  obtain ⟨z, hz, e⟩ := Option.map_eq_some_iff.mp hx
  exact ⟨z, hz, e.symm⟩
theorem ok_led {f : Addr} {fd : FuncData} (F : Fun K "led" "led" sled f fd) (TL : LegTxt K mg c) (M : LegM P w K mg base c "lead" 4 ["self", "frames"] (spLead K C c)) : FnOk P w K mg base CX0 5 f fd ["legs", "frames"] (spLed K C c) := by
  have sc := scled
  refine F.ok sc (fun vs H Q E h => ?_) (fun cdv A outer s H vs Q E hr h => ?_)
  · obtain ⟨old, lp, l, gs, ns, rfl, _⟩ := h
    rfl
  · obtain ⟨old, lp, l, gs, ns, rfl, hL, hl, hpw, hln, hv, q⟩ := h
    refine ⟨_, (pss_cons (ps_for PassesOwn.never rfl (pi_list (pv 0)) (pg_name (i := 2) sc.nd rfl (Or.inl rfl)) (pss_one (ps_set (i := 1) sc.nd rfl (Or.inl rfl) (pe_four (pe_mo (pv 2) TL.cS M.S (hr.mono (by decide)) (pa_cons (pv 1) pa_nil)) (pe_mo (pv 2) TL.cL M.L (hr.mono (by decide)) (pa_cons (pv 1) pa_nil)) (pe_mo (pv 2) TL.cU M.U (hr.mono (by decide)) (pa_cons (pv 1) pa_nil)) (pe_mo (pv 2) TL.cR M.R (hr.mono (by decide)) (pa_cons (pv 1) pa_nil))))))
      (pss_one (ps_ret (pv 1)))), ?_⟩
    obtain ⟨as, ea, pa⟩ := id hL
    have hok := hL.ok
    have hpl := pa.length
    refine ⟨_, rfl, lp, rfl, ⟨_, SqL.lst ea⟩, for_list (K := K) (xs := as.map V.ref) (fun i σ H' => ∃ (v2 : Option V) (p : Addr), σ = [some (.ref lp), some (.ref p), v2] ∧ Same H H' ∧ (p = l ∨ H p = none) ∧ H' p = some (.lst (natL (ns.map (vn ((gs.take i).map LG.leg))))))
      ⟨_, l, rfl, Same.refl _, .inl rfl, ?_⟩ (fun i σ H' _ ⟨_, _, _, sm, _⟩ => sm.seq (SqL.lst ea)) ?_ ?_⟩
    · rw [hl]
      refine congrArg (fun z => some (HO.lst (natL z))) ?_
      have : ∀ n, vn (List.map LG.leg (List.take 0 gs)) n = n := fun n => rfl
      rw [List.map_congr_left (fun n _ => this n), List.map_id']
    · rintro i x σ H2 hx ⟨v2, p, rfl, s2, hp, hq⟩
      obtain ⟨a, ha, rfl⟩ := map_refs_get hx
      obtain ⟨g, hg, hga⟩ := paired_at pa ha
      have hga2 := hga.same s2
      refine g_nx ?_
      dsimp only
      have hsplit : ∀ n ∈ ns, ∃ m, vl ((gs.take i).map LG.leg) n = some m ∧ 0 ≤ g.leg.F m ∧ vl ((gs.take (i + 1)).map LG.leg) n = some (g.leg.F m).toNat := fun n hn => by
        obtain ⟨v, hv⟩ := hv n hn
        obtain ⟨hil, hge⟩ := List.getElem?_eq_some_iff.mp hg
        have e1 : gs = gs.take i ++ g :: gs.drop (i + 1) := by rw [← hge, ← List.drop_eq_getElem_cons hil, List.take_append_drop]
        have e2 : gs.take (i + 1) = gs.take i ++ [g] := by rw [List.take_add_one, hg]; rfl
        rw [e1, List.map_append] at hv
        rw [e2, List.map_append]
        exact vl_split hv
      have call : ∀ (ok : LG → Prop), ok g → ∀ Q' : VK, (∀ q' H', Same H2 H' → H2 q' = none → H' q' = some (.lst (natL (ns.map (vn ((gs.take (i + 1)).map LG.leg))))) → Q' (.ref q') H') → spLead K C c ok [.ref a, .ref p] H2 Q' E0 := fun ok hok' Q' k => by
        refine ⟨old, a, p, g, ns.map (vn ((gs.take i).map LG.leg)), rfl, hok', hga2, SqL.lst hq, pair_map hpw (fun x hx y hy hxy => ?_), by rw [List.length_map]; omega, fun n hn => ?_, fun q' H' sm nq' eq' => ?_⟩
        · obtain ⟨m1, hm1, _⟩ := hsplit x hx
          obtain ⟨m2, hm2, _⟩ := hsplit y hy
          have hok2 : ∀ l ∈ (gs.take i).map LG.leg, l.Ok := fun l hl => hok l (by
            obtain ⟨z, hz, rfl⟩ := List.mem_map.mp hl
            exact List.mem_map.mpr ⟨z, List.mem_of_mem_take hz, rfl⟩)
          obtain ⟨w2, hw2, hle⟩ := vl_mono hok2 hxy hm1
          rw [vn_of hm1, vn_of hw2]
          exact hle
        · obtain ⟨n0, hn0, rfl⟩ := List.mem_map.mp hn
          obtain ⟨m1, hm1, h0, _⟩ := hsplit n0 hn0
          rw [vn_of hm1]
          exact h0
        · refine k q' H' sm nq' ?_
          rw [eq', List.map_map]
          refine congrArg (fun z => some (HO.lst (natL z))) (List.map_congr_left fun n hn => ?_)
          obtain ⟨m1, hm1, h0, h1⟩ := hsplit n hn
          show (g.leg.F (vn ((gs.take i).map LG.leg) n)).toNat = _
          rw [vn_of hm1, vn_of h1]
      have fin : ∀ q' H', Same H2 H' → H2 q' = none → H' q' = some (.lst (natL (ns.map (vn ((gs.take (i + 1)).map LG.leg))))) → ∃ (v2 : Option V) (p : Addr), [some (V.ref lp), some (V.ref q'), some (V.ref a)] = [some (.ref lp), some (.ref p), v2] ∧ Same H H' ∧ (p = l ∨ H p = none) ∧ H' p = some (.lst (natL (ns.map (vn ((gs.take (i + 1)).map LG.leg))))) := fun q' H' sm nq' eq' => ⟨_, q', rfl, s2.trans sm, .inr (s2.free nq'), eq'⟩
      obtain ⟨dx, hi⟩ := hga2.1
      cases g with
      | sh k => (refine .inl ⟨_, rfl, a, dx, _, rfl, hi, (by unfold LG.fs fS; walk_at "lk"), _, rfl, ?_⟩; dsimp only [tNil, List.cons_append, List.nil_append]; exact call isS ⟨k, rfl⟩ _ fin)
      | lb h1 h2 k nx => (refine .inr (.inl ⟨_, rfl, a, dx, _, rfl, hi, (by unfold LG.fs fL; walk_at "lk"), _, rfl, ?_⟩); dsimp only [tNil, List.cons_append, List.nil_append]; exact call isL ⟨h1, h2, k, nx, rfl⟩ _ fin)
      | un h1 W ad => (refine .inr (.inr (.inl ⟨_, rfl, a, dx, _, rfl, hi, (by unfold LG.fs fU; walk_at "lk"), _, rfl, ?_⟩)); dsimp only [tNil, List.cons_append, List.nil_append]; exact call isU ⟨h1, W, ad, rfl⟩ _ fin)
      | rt x y => (refine .inr (.inr (.inr ⟨_, rfl, a, dx, _, rfl, hi, (by unfold LG.fs fR; walk_at "lk"), _, rfl, ?_⟩)); dsimp only [tNil, List.cons_append, List.nil_append]; exact call isR ⟨x, y, rfl⟩ _ fin)
    · rintro σ H' ⟨v2, p, rfl, s2, hp, hq⟩
      rw [List.length_map, hpl, List.take_of_length_le (Nat.le_refl _)] at hq
      exact ⟨_, rfl, q p H' s2 hp hq⟩
end
end LM

set_option Elab.async false
set_option linter.all false
set_option maxRecDepth 100000
set_option maxHeartbeats 4000000
set_option pp.maxSteps 600
set_option pp.deepTerms false
namespace LM
open PySem PySem.Spec PyProof.Rows L2 RZ RT
local macro_rules | `(tactic| walk_at "hp") => `(tactic| first | assumption | exact upd_same | (rw [upd_ne (by assumption)]; assumption) | (rw [upd_ne (Ne.symm (by assumption))]; assumption) | (rw [upd_ne (by assumption)]; exact upd_same) | (rw [upd_ne (Ne.symm (by assumption))]; exact upd_same))
local macro_rules | `(tactic| walk_at "sq") => `(tactic| first | assumption | exact Or.inl (Or.inl (by assumption)) | exact Or.inl (Or.inl upd_same) | exact Or.inl (Or.inl (by walk_at "hp")))
local macro_rules | `(tactic| walk_at "ixl") => `(tactic| refine ⟨_, _, _, _, rfl, rfl, (by walk_at "sq"), (by rfl), ?_⟩)
local macro_rules | `(tactic| walk_at "setl") => `(tactic| refine ⟨_, _, _, _, rfl, rfl, (by walk_at "hp"), (by rfl), ?_⟩)
local macro_rules | `(tactic| walk_at "side") => `(tactic| refine idP ?_; first | omega | (show (0 : Int) < _; omega) | (show (0 : Int) < _ ∧ _ < _; omega) | (refine Or.inr ?_; show (-(2 ^ 64) : Int) < _ ∧ _ < _; omega) | (refine Or.inl ?_; show (-(2 ^ 64) : Int) < _ ∧ _ < _; omega) | exact divW (by omega) (by omega) _ | (refine ⟨by decide, by decide, ?_⟩; decide))
local macro_rules | `(tactic| walk_at "go1") => `(tactic| first
  | refine ⟨_, rfl, ?_⟩
  | refine ⟨_, _, rfl, rfl, (by walk_at "side"), ?_⟩
  | refine ⟨_, _, rfl, (by walk_at "side"), ?_⟩
  | refine ⟨_, _, rfl, rfl, ?_⟩
  | refine Or.inl ⟨_, rfl, ?_⟩
  | refine ⟨_, _, rfl, Or.inl (by walk_at "sq"), ?_⟩
  | walk_at "ixl"
  | walk_at "setl"
  | refine ⟨_, _, rfl, (by walk_at "sq"), rfl, ?_⟩
  | refine ⟨_, _, rfl, (by walk_at "sq"), ?_⟩
  | refine ⟨_, _, rfl, ?_⟩
  | refine ⟨rfl, ?_⟩
  | refine ⟨small (Nat.le_of_ble_eq_true rfl), ?_⟩)
local macro_rules | `(tactic| walk_at "go") => `(tactic| repeat walk_at "go1")

local macro_rules | `(tactic| walk_at "lk") => `(tactic| first | rfl | (rw [lookup_putF, if_pos rfl]) | (rw [lookup_putF, if_neg (by decide +kernel)]; walk_at "lk"))
theorem lsl_app (a b : List Leg) (f : Nat) : lsl (a ++ b) f = lsl a (lsl b f) := by
  induction a with
  | nil => rfl
  | cons l r ih =>
    show l.ls (lsl (r ++ b) f) = l.ls (lsl r (lsl b f))
    rw [ih]
theorem thr_snoc (l : Leg) : ∀ (a : List Leg) (s : Nat × Nat), thr (a ++ [l]) s = ((thr a s).1 * (l.D / Nat.gcd l.D (thr a s).2), (thr a s).2 * (l.D / Nat.gcd l.D (thr a s).2) / l.D * l.S)
  | [], s => rfl
  | x :: r, s => thr_snoc l r _
/-- bounds for the numbers of a leg -/
theorem LG.Sound.D_lt {K : PySem.W.Frag} {C : Addr} {old : Addr → Prop} {H : Hp} {g : LG} (h : g.Sound K C old H) : g.leg.D < 2 ^ 60 ∧ g.leg.S < 2 ^ 60 := by
  have q : ∀ {n p l : Nat}, n ≤ p → 1 ≤ p → p ∣ l → l < 2 ^ 60 → n * (l / p) < 2 ^ 60 := fun {n p l} hn hp hd hl => by
    have h1 : n * (l / p) ≤ p * (l / p) := Nat.mul_le_mul_right _ hn
    rw [Nat.mul_div_cancel' hd] at h1
    omega
  cases g with
  | sh k => exact ⟨by show (1 : Nat) < _; decide, by show (1 : Nat) < _; decide⟩
  | lb h1 h2 k nx =>
    have hl := lcm_lt h.1.P_le h.2.P_le h.1.ok.P_pos h.2.ok.P_pos
    exact ⟨q h.1.ok.N_le h.1.ok.P_pos (Nat.dvd_lcm_left _ _) hl, q h.2.ok.N_le h.2.ok.P_pos (Nat.dvd_lcm_right _ _) hl⟩
  | un h1 W a =>
    have hl := lcm_lt h.1.P_le (show W ≤ 432000 by have := h.2.2; omega) h.1.ok.P_pos h.2.1
    exact ⟨q h.1.ok.N_le h.1.ok.P_pos (Nat.dvd_lcm_left _ _) hl, q h.1.ok.N_le h.1.ok.P_pos (Nat.dvd_lcm_left _ _) hl⟩
  | rt a b =>
    have h1 : b / Nat.gcd a b ≤ b := Nat.div_le_self _ _
    have h2 : a / Nat.gcd a b ≤ a := Nat.div_le_self _ _
    obtain ⟨⟨_, h3⟩, _, h4⟩ := h
    exact ⟨by show b / Nat.gcd a b < _; omega, by show a / Nat.gcd a b < _; omega⟩
section
variable {P : Program} {w : World} {K : PySem.W.Frag} {mg : Str → Option Value} {base : Heap} {c : LCs} {C : Addr}
theorem ok_leastled {f : Addr} {fd : FuncData} (F : Fun K "least_led_to" "least_led_to" sleast_led_to f fd) (N : Names mg) (TL : LegTxt K mg c) (M : LegM P w K mg base c "least_start" 6 ["self", "frame"] (spLs K C c)) : FnOk P w K mg base CX0 7 f fd ["legs", "frame"] (spLeastLed K C c) := by
  have sc := scleast_led_to
  refine F.ok sc (fun vs H Q E h => ?_) (fun cdv A outer s H vs Q E hr h => ?_)
  · obtain ⟨old, lp, gs, f, rfl, _⟩ := h
    rfl
  · obtain ⟨old, lp, gs, f, rfl, hL, q⟩ := h
    refine ⟨_, (pss_cons (ps_for PassesOwn.never rfl (pi_reversed rfl N.reversed (pa_cons (pv 0) pa_nil)) (pg_name (i := 2) sc.nd rfl (Or.inl rfl)) (pss_one (ps_set (i := 1) sc.nd rfl (Or.inl rfl) (pe_four (pe_mo (pv 2) TL.cS M.S (hr.mono (by decide)) (pa_cons (pv 1) pa_nil)) (pe_mo (pv 2) TL.cL M.L (hr.mono (by decide)) (pa_cons (pv 1) pa_nil)) (pe_mo (pv 2) TL.cU M.U (hr.mono (by decide)) (pa_cons (pv 1) pa_nil)) (pe_mo (pv 2) TL.cR M.R (hr.mono (by decide)) (pa_cons (pv 1) pa_nil))))))
      (pss_one (ps_ret (pv 1)))), ?_⟩
    obtain ⟨as, ea, pa⟩ := id hL
    have hpl := pa.length
    refine ⟨_, rfl, lp, _, rfl, SqL.lst ea, ?_⟩
    refine for_Itv (K := K) (xs := as.map V.ref) (fun i σ H' => ∃ (v2 : Option V), σ = [some (.ref lp), some (.int (lsl ((gs.drop (gs.length - i)).map LG.leg) f : Int)), v2] ∧ Same H H')
      ⟨none, (by rw [Nat.sub_zero, List.drop_length]; rfl), Same.refl _⟩ (fun i σ H' ⟨_, _, sm⟩ => sm.seq (SqL.lst ea)) ?_ ?_
    · rintro i x σ H2 hi hx ⟨v2, rfl, s2⟩
      obtain ⟨a, ha, rfl⟩ := map_refs_get hx
      rw [List.length_map, hpl] at ha hi
      obtain ⟨g, hg, hga⟩ := paired_at pa ha
      have hga2 := hga.same s2
      refine g_nx ?_
      dsimp only
      have e1 : gs.drop (gs.length - (i + 1)) = g :: gs.drop (gs.length - i) := by
        obtain ⟨hil, hge⟩ := List.getElem?_eq_some_iff.mp hg
        rw [show gs.length - (i + 1) = gs.length - 1 - i by omega, List.drop_eq_getElem_cons hil, hge, show gs.length - 1 - i + 1 = gs.length - i by omega]
      have call : ∀ (ok : LG → Prop), ok g → ∀ Q' : VK, (∀ H', Same H2 H' → Q' (.int (lsl ((gs.drop (gs.length - (i + 1))).map LG.leg) f : Int)) H') → spLs K C c ok [.ref a, .int (lsl ((gs.drop (gs.length - i)).map LG.leg) f : Int)] H2 Q' E0 := fun ok hok' Q' k => ⟨old, a, g, _, rfl, hok', hga2, fun H' sm => by
        have h := k H' sm
        rw [e1] at h
        exact h⟩
      have fin : ∀ H', Same H2 H' → ∃ (v2 : Option V), [some (V.ref lp), some (V.int (lsl ((gs.drop (gs.length - (i + 1))).map LG.leg) f : Int)), some (V.ref a)] = [some (.ref lp), some (.int (lsl ((gs.drop (gs.length - (i + 1))).map LG.leg) f : Int)), v2] ∧ Same H H' := fun H' sm => ⟨_, rfl, s2.trans sm⟩
      obtain ⟨dx, hi⟩ := hga2.1
      cases g with
      | sh k => (refine .inl ⟨_, rfl, a, dx, _, rfl, hi, (by unfold LG.fs fS; walk_at "lk"), _, rfl, ?_⟩; dsimp only [tNil, List.cons_append, List.nil_append]; exact call isS ⟨k, rfl⟩ _ fin)
      | lb h1 h2 k nx => (refine .inr (.inl ⟨_, rfl, a, dx, _, rfl, hi, (by unfold LG.fs fL; walk_at "lk"), _, rfl, ?_⟩); dsimp only [tNil, List.cons_append, List.nil_append]; exact call isL ⟨h1, h2, k, nx, rfl⟩ _ fin)
      | un h1 W ad => (refine .inr (.inr (.inl ⟨_, rfl, a, dx, _, rfl, hi, (by unfold LG.fs fU; walk_at "lk"), _, rfl, ?_⟩)); dsimp only [tNil, List.cons_append, List.nil_append]; exact call isU ⟨h1, W, ad, rfl⟩ _ fin)
      | rt x y => (refine .inr (.inr (.inr ⟨_, rfl, a, dx, _, rfl, hi, (by unfold LG.fs fR; walk_at "lk"), _, rfl, ?_⟩)); dsimp only [tNil, List.cons_append, List.nil_append]; exact call isR ⟨x, y, rfl⟩ _ fin)
    · rintro σ H' ⟨v2, rfl, s2⟩
      rw [List.length_map, hpl, Nat.sub_self, List.drop_zero]
      exact ⟨_, rfl, q H' s2⟩
/-- leg.m(), whichever class the leg in slot i is of -/
theorem pe_leg0 {X : Cx} {o : Expr} {i : Nat} {c : LCs} {C : Addr} {m : Str} {k : Nat} {ps : List Str} {sp : (LG → Prop) → Sp} {apos pos : Pos} {pl : Sem Bool} (he : PE X o (tVar i)) (TL : LegTxt X.K mg c) (M : LegM X.prog X.w X.K X.mg X.base c m k ps sp) (hr : Room k X.A) (hno : ∀ g : LG, g.fs.lookup m = none)
    (ht : eval (.Call (.Attribute o m apos) [] [] pos) X.env = (do
      let ov ← eval o X.env
      standAt apos.atName
      let (f, first) ← holding [ov] (getMethod ov m pl)
      callWith pos f first (backTo pos (starEach [] X.env)) (backToKw pos (keywordEach [] X.env))) := by rfl) :
    PE X (.Call (.Attribute o m apos) [] [] pos) (fun σ H Q => ∃ (a : Addr) (old : Addr → Prop) (g : LG), σ[i]? = some (some (.ref a)) ∧ LegAt X.K C c old H a g ∧ ∀ ok : LG → Prop, ok g → sp ok [.ref a] H Q E0) := by
  refine ⟨fun pins s σ H Q I h => ?_⟩
  obtain ⟨a, old, g, hv, ⟨⟨dx, hi⟩, _⟩, h⟩ := h
  have hn := hno g
  cases g with
  | sh k => exact (pe_mo0 he TL.cS M.S hr ht).run pins s σ H Q I ⟨_, hv, a, dx, _, rfl, hi, hn, h isS ⟨k, rfl⟩⟩
  | lb h1 h2 k nx => exact (pe_mo0 he TL.cL M.L hr ht).run pins s σ H Q I ⟨_, hv, a, dx, _, rfl, hi, hn, h isL ⟨h1, h2, k, nx, rfl⟩⟩
  | un h1 W ad => exact (pe_mo0 he TL.cU M.U hr ht).run pins s σ H Q I ⟨_, hv, a, dx, _, rfl, hi, hn, h isU ⟨h1, W, ad, rfl⟩⟩
  | rt x y => exact (pe_mo0 he TL.cR M.R hr ht).run pins s σ H Q I ⟨_, hv, a, dx, _, rfl, hi, hn, h isR ⟨x, y, rfl⟩⟩
theorem no_passing : ∀ g : LG, g.fs.lookup ("passing" : Str) = none := fun g => by
  cases g with
  | sh k => unfold LG.fs fS; walk_at "lk"
  | lb h1 h2 k nx => unfold LG.fs fL; walk_at "lk"
  | un h1 W ad => unfold LG.fs fU; walk_at "lk"
  | rt x y => unfold LG.fs fR; walk_at "lk"
theorem ok_through {f : Addr} {fd : FuncData} (F : Fun K "least_through" "least_through" sleast_through f fd) (hgcd : mg "gcd" = some (.builtin "math.gcd")) (TL : LegTxt K mg c) (M : LegM P w K mg base c "passing" 5 ["self"] (spPass K C c)) : FnOk P w K mg base CX0 6 f fd ["legs"] (spThrough K C c) := by
  have sc := scleast_through
  refine F.ok sc (fun vs H Q E h => ?_) (fun cdv A outer s H vs Q E hr h => ?_)
  · obtain ⟨old, lp, gs, rfl, _⟩ := h
    rfl
  · obtain ⟨old, lp, gs, rfl, hL, h8, q⟩ := h
    refine ⟨_, (pss_cons (ps_asg2 pe_int (pg_name (i := 1) sc.nd rfl (Or.inl rfl)) (pg_name (i := 2) sc.nd rfl (Or.inl rfl)))
      (pss_cons (ps_for PassesOwn.never rfl (pi_list (pv 0)) (pg_name (i := 3) sc.nd rfl (Or.inl rfl)) (pss_cons (ps_asg (pe_leg0 (C := C) (pv 3) TL M (hr.mono (by decide)) no_passing) (pg_tup rfl (pgs_cons (pg_name (i := 4) sc.nd rfl (Or.inl rfl)) (pgs_cons (pg_name (i := 5) sc.nd rfl (Or.inl rfl)) pgs_nil))))
      (pss_cons (ps_set (i := 6) sc.nd rfl (Or.inl rfl) (pe_op op_fdivW (pv 4) (pe_callBfun cr_gcd (by rfl) hgcd (pa_cons (pv 4) (pa_cons (pv 2) pa_nil)))))
      (pss_cons (ps_set (i := 1) sc.nd rfl (Or.inl rfl) (pe_op op_mulW (pv 1) (pv 6)))
      (pss_one (ps_set (i := 2) sc.nd rfl (Or.inl rfl) (pe_op op_mulW (pe_op op_fdivW (pe_op op_mulW (pv 2) (pv 6)) (pv 4)) (pv 5))))))))
      (pss_one (ps_ret (pe_tup (pa_cons (pv 1) (pa_cons (pv 2) pa_nil))))))), ?_⟩
    obtain ⟨as, ea, pa⟩ := id hL
    have hpl := pa.length
    refine ⟨_, rfl, lp, rfl, ⟨_, SqL.lst ea⟩, for_list (K := K) (xs := as.map V.ref) (fun i σ H' => ∃ (v3 v4 v5 v6 : Option V), σ = [some (.ref lp), some (.int ((thr ((gs.take i).map LG.leg) (1, 1)).1 : Int)), some (.int ((thr ((gs.take i).map LG.leg) (1, 1)).2 : Int)), v3, v4, v5, v6] ∧ Same H H' ∧ (thr ((gs.take i).map LG.leg) (1, 1)).1 < 2 ^ (60 * i + 1) ∧ (thr ((gs.take i).map LG.leg) (1, 1)).2 < 2 ^ (60 * i + 1) ∧ 1 ≤ (thr ((gs.take i).map LG.leg) (1, 1)).2)
      ⟨_, _, _, _, rfl, Same.refl _, by show 1 < 2 ^ (60 * 0 + 1); decide, by show 1 < 2 ^ (60 * 0 + 1); decide, Nat.le_refl 1⟩ (fun i σ H' _ ⟨_, _, _, _, _, sm, _⟩ => sm.seq (SqL.lst ea)) ?_ ?_⟩
    · rintro i x σ H2 hx ⟨v3, v4, v5, v6, rfl, s2, b1, b2, b3⟩
      obtain ⟨a, ha, rfl⟩ := map_refs_get hx
      obtain ⟨g, hg, hga⟩ := paired_at pa ha
      have hga2 := hga.same s2
      have hi8 : i < 8 := by
        have := (List.getElem?_eq_some_iff.mp hg).1
        omega
      obtain ⟨d1, d2⟩ := hga.2.D_lt
      obtain ⟨d3, d4⟩ := Leg.D_pos hga.2.ok
      refine g_nx ?_
      dsimp only
      have e2 : gs.take (i + 1) = gs.take i ++ [g] := by rw [List.take_add_one, hg]; rfl
      have et := thr_snoc g.leg ((gs.take i).map LG.leg) (1, 1)
      rw [show (gs.take i).map LG.leg ++ [g.leg] = (gs.take (i + 1)).map LG.leg by rw [e2, List.map_append]; rfl] at et
      generalize hD : g.leg.D = D at d1 d3 et
      generalize hS : g.leg.S = S at d2 d4 et
      generalize hn : (thr ((gs.take i).map LG.leg) (1, 1)).1 = n at b1 et ⊢
      generalize hb : (thr ((gs.take i).map LG.leg) (1, 1)).2 = b at b2 b3 et ⊢
      have g0 := Nat.gcd_pos_of_pos_left b (show 0 < D from d3)
      have g1 := Nat.gcd_le_left b (show 0 < D from d3)
      obtain ⟨p, hp1, hp2, hp3, hp4⟩ := thr_step (D := D) (b := b) d3 b3
      generalize hG : Nat.gcd D b = G at g0 g1 hp2 hp3 hp4 et
      have ht : D / G ≤ D := Nat.div_le_self _ _
      generalize hT : D / G = t at ht hp2 hp3 hp4 et
      have p60 : 2 ^ (60 * (i + 1) + 1) = 2 ^ (60 * i + 1) * 2 ^ 60 := by rw [← Nat.pow_add]; congr 1
      have c1 : n * t < 2 ^ (60 * i + 1) * 2 ^ 60 := Nat.mul_lt_mul'' b1 (by omega)
      have c2 : b * t / D * S < 2 ^ (60 * i + 1) * 2 ^ 60 := by
        refine Nat.mul_lt_mul'' (Nat.lt_of_le_of_lt ?_ b2) d2
        refine Nat.div_le_of_le_mul ?_
        rw [Nat.mul_comm D]
        exact Nat.mul_le_mul_left b ht
      have lt64 : ∀ {x : Nat}, x < 2 ^ (60 * i + 1) → (x : Int).natAbs < 2 ^ 600 := fun {x} hx => by
        rw [Int.natAbs_natCast]
        exact Nat.lt_of_lt_of_le hx (Nat.pow_le_pow_right (by decide) (by omega))
      have l60 : ∀ {x : Nat}, x < 2 ^ 60 → (x : Int).natAbs < 2 ^ 60 := fun {x} hx => by rw [Int.natAbs_natCast]; exact hx
      refine ⟨a, old, g, rfl, hga2, fun ok hok => ⟨old, a, g, rfl, hok, hga2, fun q0 H3 s3 nq eq => ?_⟩⟩
      rw [hD, hS] at eq
      refine ⟨q0, _, rfl, SqT.tup eq, rfl, _, _, rfl, _, _, rfl, rfl, ?_⟩
      refine ⟨_, rfl, _, rfl, _, rfl, _, _, rfl, ?_⟩
      rw [Int.natAbs_natCast, Int.natAbs_natCast, hG]
      refine ⟨_, _, rfl, rfl, wide_div (b := 60) (by omega) (l60 (by omega)) (by decide) (by decide), ?_⟩
      dsimp only
      rw [← Int.natCast_ediv, hT]
      refine ⟨_, rfl, _, rfl, _, _, rfl, rfl, wide_mul (lt64 b1) (l60 (x := t) (by omega)) (by decide) (by decide) (by decide), ?_⟩
      refine ⟨_, rfl, _, rfl, _, _, rfl, rfl, wide_mul (lt64 b2) (l60 (x := t) (by omega)) (by decide) (by decide) (by decide), ?_⟩
      refine ⟨_, rfl, _, _, rfl, rfl, wide_div (b := 60) (by omega) (l60 (by omega)) (by decide) (by decide), _, rfl, _, _, rfl, rfl, ?_, ?_⟩
      · rw [← Int.natCast_mul, ← Int.natCast_ediv]
        refine wide_mul (a := 600) (b := 60) ?_ (l60 d2) (by decide) (by decide) (by decide)
        refine lt64 (Nat.lt_of_le_of_lt ?_ b2)
        refine Nat.div_le_of_le_mul ?_
        rw [Nat.mul_comm D]
        exact Nat.mul_le_mul_left b ht
      · refine ⟨some (.ref a), some (.int D), some (.int S), some (.int t), ?_, s2.trans s3, ?_⟩
        · rw [et]
          dsimp only
          rw [← Int.natCast_mul, ← Int.natCast_mul, ← Int.natCast_ediv, ← Int.natCast_mul]
          rfl
        · rw [et, p60]
          refine ⟨c1, c2, ?_⟩
          rw [hp3]
          exact Nat.mul_pos hp1 d4
    · rintro σ H' ⟨v3, v4, v5, v6, rfl, s2, b1, b2, b3⟩
      rw [List.length_map, hpl, List.take_of_length_le (Nat.le_refl _)]
      refine ⟨_, rfl, _, rfl, Nat.le_of_ble_eq_true rfl, ?_⟩
      (intro t nt; generalize e_t : upd H' t _ = H1; have s1 : Same H' H1 := fun b x hb => (congrFun e_t b).symm.trans (same_new nt b x hb); have h1 := (congrFun e_t t).symm.trans upd_same; clear e_t)
      exact q t H1 (s2.trans s1) (s2.free nt) h1
end
end LM

set_option Elab.async false
set_option linter.all false
set_option maxRecDepth 100000
set_option maxHeartbeats 4000000
namespace LM
open PySem PySem.Spec PyProof.Rows L2
/-! ### d.get(k) of a dict of the top -/
def KDictOk (K : PySem.W.Frag) (w : World) (d : Addr) : Prop := ∃ es n, K.lookup d = some ⟨.type "dict", none, .dict es n, #[]⟩ ∧ PySem.W.KeysLit w.params es.toList ∧ (d == sysModules) = false
def tKGet (K : PySem.W.Frag) (w : World) (d : Addr) (ty : TE) : TE := fun σ H Q => ty σ H fun y H1 => ∃ (z : Str), y = .str z ∧ ((∃ v, KDct K w d z v ∧ Q v H1) ∨ (KMiss K w d z ∧ Q .non H1))
section
variable {X : Cx} {d : Addr} {o e : Expr} {ty : TE} {apos cpos : Pos}
theorem pe_kget (D : KDictOk X.K X.w d) (ho : PE X o (tC (.ref d))) (he : PE X e ty) (m : M1 X o "get" apos e cpos) : PE X (.Call (.Attribute o "get" apos) [e] [] cpos) (tKGet X.K X.w d ty) := by
  refine ⟨fun pins s σ H Q I h => ?_⟩
  obtain ⟨es, n, hl, hk, low⟩ := D
  refine wpAny_Call_method m.base m.few m.line PySem.F.plainAttrs_dict PySem.F.slot_dict_get PySem.F.type_dict_get (thn (ho.run pins s σ H (fun x H1 => x = .ref d ∧ tKGet X.K X.w d ty σ H1 Q) I ⟨rfl, h⟩) fun u s1 ⟨x, H1, I1, rx, ex, q1⟩ => ?_)
  subst ex
  obtain rfl : u = Value.ref d := rx
  have hm := PySem.W.mapOf_K (prog := X.prog) (w := X.w) I1.kIn hl hk
  refine ⟨hm.typeIs, fun b q => ?_, ?_⟩
  · cases q
    exact ⟨_, I1.kIn _ _ hl, rfl⟩
  rw [m.trees]
  refine Calls.callWith_builtin rfl (Calls.evalArgs_plain (Calls.spliced_cons (thn (he.run pins s1 σ H1 _ I1 q1) fun iv s2 ⟨y, H2, I2, ry, z, ey, q2⟩ => Calls.spliced_nil ?_)))
  subst ey
  obtain ⟨t, rfl⟩ := (show ∃ t, iv = Value.str z t from ry)
  have hm2 := PySem.W.mapOf_K (prog := X.prog) (w := X.w) I2.kIn hl hk
  refine call_meetsIn PySem.F.slot_dict_get hm2.typeIs PySem.F.entry_dict_get (PySem.F.args_dict_get_2 _ _) (meets_dict_get (PySem.strKind X.prog X.w) d (PySem.strKind_is X.prog X.w z t) low) ⟨_, hm2, ?_⟩
  rcases q2 with ⟨v, ⟨es', n', u0, hl', hk', ev, rv⟩, q⟩ | ⟨⟨es', n', hl', hk', low', ev⟩, q⟩
  · rw [PySem.W.find_K hl ev]
    exact ⟨v, H2, I2.tok _, rv, q⟩
  · rw [PySem.W.find_K hl ev]
    exact ⟨.non, H2, I2.tok _, rfl, q⟩
end
end LM

set_option Elab.async false
set_option linter.all false
set_option maxRecDepth 100000
set_option maxHeartbeats 4000000
set_option pp.maxSteps 600
set_option pp.deepTerms false
namespace LM
open PySem PySem.Spec PyProof.Rows L2 RZ RT
local macro_rules | `(tactic| walk_at "hp") => `(tactic| first | assumption | exact upd_same | (rw [upd_ne (by assumption)]; assumption) | (rw [upd_ne (Ne.symm (by assumption))]; assumption) | (rw [upd_ne (by assumption)]; exact upd_same) | (rw [upd_ne (Ne.symm (by assumption))]; exact upd_same))
local macro_rules | `(tactic| walk_at "sq") => `(tactic| first | assumption | exact Or.inl (Or.inl (by assumption)) | exact Or.inl (Or.inl upd_same) | exact Or.inl (Or.inl (by walk_at "hp")))
local macro_rules | `(tactic| walk_at "ixl") => `(tactic| refine ⟨_, _, _, _, rfl, rfl, (by walk_at "sq"), (by rfl), ?_⟩)
local macro_rules | `(tactic| walk_at "setl") => `(tactic| refine ⟨_, _, _, _, rfl, rfl, (by walk_at "hp"), (by rfl), ?_⟩)
local macro_rules | `(tactic| walk_at "side") => `(tactic| refine idP ?_; first | omega | (show (0 : Int) < _; omega) | (show (0 : Int) < _ ∧ _ < _; omega) | (refine Or.inr ?_; show (-(2 ^ 64) : Int) < _ ∧ _ < _; omega) | (refine Or.inl ?_; show (-(2 ^ 64) : Int) < _ ∧ _ < _; omega) | exact divW (by omega) (by omega) _ | (refine ⟨by decide, by decide, ?_⟩; decide))
local macro_rules | `(tactic| walk_at "go1") => `(tactic| first
  | refine ⟨_, rfl, ?_⟩
  | refine ⟨_, _, rfl, rfl, (by walk_at "side"), ?_⟩
  | refine ⟨_, _, rfl, (by walk_at "side"), ?_⟩
  | refine ⟨_, _, rfl, rfl, ?_⟩
  | refine Or.inl ⟨_, rfl, ?_⟩
  | refine ⟨_, _, rfl, Or.inl (by walk_at "sq"), ?_⟩
  | walk_at "ixl"
  | walk_at "setl"
  | refine ⟨_, _, rfl, (by walk_at "sq"), rfl, ?_⟩
  | refine ⟨_, _, rfl, (by walk_at "sq"), ?_⟩
  | refine ⟨_, _, rfl, ?_⟩
  | refine ⟨rfl, ?_⟩
  | refine ⟨small (Nat.le_of_ble_eq_true rfl), ?_⟩)
local macro_rules | `(tactic| walk_at "go") => `(tactic| repeat walk_at "go1")

abbrev sword_of : Stmt := topS 22
theorem scword_of : FnScope ["value"] ["value"] (defScope sword_of) := ⟨rfl, rfl, rfl, by decide +kernel, rfl, by decide +kernel, by decide +kernel⟩
abbrev shas_form : Stmt := topS 62
theorem schas_form : FnScope ["value", "kinds"] ["value"] (defScope shas_form) := ⟨rfl, rfl, rfl, by decide +kernel, rfl, by decide +kernel, by decide +kernel⟩
abbrev sbounds : Stmt := topS 63
theorem scbounds : FnScope ["kind", "houses", "at"] ["kind", "houses", "at"] (defScope sbounds) := ⟨rfl, rfl, rfl, by decide +kernel, rfl, by decide +kernel, by decide +kernel⟩
abbrev sis_part : Stmt := topS 64
theorem scis_part : FnScope ["kind", "houses", "at", "value", "low", "high"] ["kind", "houses", "at", "value"] (defScope sis_part) := ⟨rfl, rfl, rfl, by decide +kernel, rfl, by decide +kernel, by decide +kernel⟩
abbrev sis_step : Stmt := topS 65
theorem scis_step : FnScope ["houses", "at", "value", "word", "kind", "part"] ["houses", "at", "value"] (defScope sis_step) := ⟨rfl, rfl, rfl, by decide +kernel, rfl, by decide +kernel, by decide +kernel⟩
abbrev scheck_steps : Stmt := topS 67
theorem sccheck_steps : FnScope ["houses", "steps", "at", "index", "step"] ["houses", "steps"] (defScope scheck_steps) := ⟨rfl, rfl, rfl, by decide +kernel, rfl, by decide +kernel, by decide +kernel⟩
abbrev scheck_houses : Stmt := topS 84
theorem sccheck_houses : FnScope ["houses", "index", "house"] ["houses"] (defScope scheck_houses) := ⟨rfl, rfl, rfl, by decide +kernel, rfl, by decide +kernel, by decide +kernel⟩
abbrev slast_house : Stmt := topS 85
theorem sclast_house : FnScope ["houses", "steps", "at", "step"] ["houses", "steps"] (defScope slast_house) := ⟨rfl, rfl, rfl, by decide +kernel, rfl, by decide +kernel, by decide +kernel⟩
abbrev smove_text : Stmt := topS 86
theorem scmove_text : FnScope ["houses", "steps", "lines", "step", "house"] ["houses", "steps"] (defScope smove_text) := ⟨rfl, rfl, rfl, by decide +kernel, rfl, by decide +kernel, by decide +kernel⟩
structure MConsts (mg : Str → Option Value) : Prop extends Consts mg where
  MOST_HOUSES : ∃ t, mg "MOST_HOUSES" = some (.int 3 t)
  MOST_STEPS : ∃ t, mg "MOST_STEPS" = some (.int 8 t)
  MOST_ROUND : ∃ t, mg "MOST_ROUND" = some (.int 20000 t)
  GREATEST_AMOUNT : ∃ t, mg "GREATEST_AMOUNT" = some (.int 10000000000000000000000000000000000000000 t)
  GREATEST_RATE : ∃ t, mg "GREATEST_RATE" = some (.int 100 t)
def kAm : Str := "amount"
/-- the kinds of the parts behind the word -/
def Stp.kinds : Stp → List Str
  | .on _ => ["amount"]
  | .back _ => ["amount"]
  | .label _ _ => ["amount", "way"]
  | .unlabel _ _ => ["amount", "way"]
  | .to _ => ["field"]
  | .after _ => ["field"]
  | .read _ _ => ["house", "way"]
  | .call _ => ["house"]
  | .rate _ _ => ["rate", "rate"]
def TupK (K : PySem.W.Frag) (a : Addr) (xs : List V) : Prop := ∃ (o : Obj) (its : Array Value) (n : Nat), K.lookup a = some o ∧ o.cls = .type "tuple" ∧ o.data = .seq its n ∧ its.size ≤ sizeLine ∧ Vals xs its.toList
theorem TupK.sq {K : PySem.W.Frag} {H : Hp} {a : Addr} {xs : List V} (h : TupK K a xs) : SqT K H a xs := .inr h
/-- the dict FORMS of the top -/
structure FormsD (K : PySem.W.Frag) (w : World) (mg : Str → Option Value) (d : Addr) : Prop where
  mgF : mg "FORMS" = some (.ref d)
  ok : KDictOk K w d
  get : ∀ s : Stp, ∃ a, KDct K w d s.word (.ref a) ∧ TupK K a (s.kinds.map V.str)
def boundsI (hs : List HD) (j : Nat) (k : Str) : Int × Int :=
  if k = "amount" then (0, 10000000000000000000000000000000000000000) else if k = "field" then (0, (((hs.getD j HD0).bs.length : Nat) : Int) - 1) else if k = "house" then (0, ((hs.length : Nat) : Int) - 1) else (1, 100)
def spWordOf (K : PySem.W.Frag) : Sp := fun vs H Q _ => ∃ (a : Addr) (s : Stp), vs = [.ref a] ∧ SqT K H a s.vs ∧ Q (.str s.word) H
def spHasForm (K : PySem.W.Frag) : Sp := fun vs H Q _ => ∃ (a : Addr) (s : Stp), vs = [.ref a] ∧ SqT K H a s.vs ∧ Q (.bl true) H
def spBounds (K : PySem.W.Frag) (C : Addr) : Sp := fun vs H Q _ => ∃ (old : Addr → Prop) (hp : Addr) (hs : List HD) (j : Nat) (k : Str), vs = [.str k, .ref hp, .int (j : Int)] ∧ HousesAt K C old H hp hs ∧ j < hs.length ∧
  ∀ t H', Same H H' → H t = none → H' t = some (.tup [.int (boundsI hs j k).1, .int (boundsI hs j k).2]) → Q (.ref t) H'
/-- the part is of its kind -/
def PartOk (hs : List HD) (j : Nat) (k : Str) (v : V) : Prop := (k = "way" ∧ ∃ nx, v = .str (wayS nx)) ∨ (¬ k = "way" ∧ ∃ n : Int, v = .int n ∧ (boundsI hs j k).1 ≤ n ∧ n ≤ (boundsI hs j k).2)
def spIsPart (K : PySem.W.Frag) (C : Addr) : Sp := fun vs H Q _ => ∃ (old : Addr → Prop) (hp : Addr) (hs : List HD) (j : Nat) (k : Str) (v : V), vs = [.str k, .ref hp, .int (j : Int), v] ∧ HousesAt K C old H hp hs ∧ j < hs.length ∧ PartOk hs j k v ∧ ∀ H', Same H H' → Q (.bl true) H'
def spIsStep (K : PySem.W.Frag) (C : Addr) : Sp := fun vs H Q _ => ∃ (old : Addr → Prop) (hp a : Addr) (hs : List HD) (j : Nat) (s : Stp), vs = [.ref hp, .int (j : Int), .ref a] ∧ HousesAt K C old H hp hs ∧ j < hs.length ∧ SqT K H a s.vs ∧ s.Fits hs j ∧ ∀ H', Same H H' → Q (.bl true) H'
def spChkSteps (K : PySem.W.Frag) (C : Addr) : Sp := fun vs H Q _ => ∃ (old : Addr → Prop) (hp tp : Addr) (hs : List HD) (sts : List Stp), vs = [.ref hp, .ref tp] ∧ HousesAt K C old H hp hs ∧ 1 ≤ hs.length ∧ StepsAt K H tp sts ∧ fitS hs 0 sts ∧ sts.length ≤ 8 ∧ ∀ H', Same H H' → Q .non H'
def spChkHouses (K : PySem.W.Frag) (C : Addr) : Sp := fun vs H Q _ => ∃ (old : Addr → Prop) (hp : Addr) (hs : List HD), vs = [.ref hp] ∧ HousesAt K C old H hp hs ∧ 1 ≤ hs.length ∧ hs.length ≤ 3 ∧ ∀ H', Same H H' → Q .non H'
theorem kinds_len (s : Stp) : s.vs.length = s.kinds.length + 1 := by cases s <;> rfl
theorem vs_tail (s : Stp) : s.vs = .str s.word :: s.vs.tail := by cases s <;> rfl
theorem parts_ok {hs : List HD} {j : Nat} {s : Stp} (h : s.Fits hs j) : ∀ p ∈ s.kinds.zip s.vs.tail, PartOk hs j p.1 p.2 := by
  have am : ∀ {n : Nat}, n ≤ 10 ^ 40 → PartOk hs j "amount" (.int (n : Int)) := fun {n} hn => .inr ⟨by decide +kernel, _, rfl, by unfold boundsI; rw [if_pos rfl]; exact ⟨by simp only; omega, by simp only; omega⟩⟩
  have wy : ∀ {b : Bool}, PartOk hs j "way" (.str (wayS b)) := fun {b} => .inl ⟨rfl, b, rfl⟩
  have fi : ∀ {n : Nat}, n < (hs.getD j HD0).bs.length → PartOk hs j "field" (.int (n : Int)) := fun {n} hn => .inr ⟨by decide +kernel, _, rfl, by unfold boundsI; rw [if_neg (by decide +kernel), if_pos rfl]; exact ⟨by simp only; omega, by simp only; omega⟩⟩
  have ho : ∀ {n : Nat}, n < hs.length → PartOk hs j "house" (.int (n : Int)) := fun {n} hn => .inr ⟨by decide +kernel, _, rfl, by unfold boundsI; rw [if_neg (by decide +kernel), if_neg (by decide +kernel), if_pos rfl]; exact ⟨by simp only; omega, by simp only; omega⟩⟩
  have ra : ∀ {n : Nat}, 1 ≤ n ∧ n ≤ 100 → PartOk hs j "rate" (.int (n : Int)) := fun {n} hn => .inr ⟨by decide +kernel, _, rfl, by unfold boundsI; rw [if_neg (by decide +kernel), if_neg (by decide +kernel), if_neg (by decide +kernel)]; exact ⟨by simp only; omega, by simp only; omega⟩⟩
  have one : ∀ {a : Str × V} {P : Str × V → Prop}, P a → ∀ p ∈ [a], P p := fun h p hp => by rw [List.mem_singleton.mp hp]; exact h
  have two : ∀ {a b : Str × V} {P : Str × V → Prop}, P a → P b → ∀ p ∈ [a, b], P p := fun h1 h2 p hp => by
    rcases List.mem_cons.mp hp with rfl | hp
    · exact h1
    · rw [List.mem_singleton.mp hp]; exact h2
  cases s with
  | on k => exact one (am h)
  | back k => exact one (am h)
  | label k b => exact two (am h) wy
  | unlabel k b => exact two (am h) wy
  | to f => exact one (fi h)
  | after f => exact one (fi h)
  | read i b => exact two (ho h.1) wy
  | call i => exact one (ho h)
  | rate a b => exact two (ra h.1) (ra h.2)
section
variable {P : Program} {w : World} {K : PySem.W.Frag} {mg : Str → Option Value} {base : Heap} {C : Addr}
theorem ok_wordof {f : Addr} {fd : FuncData} (F : Fun K "word_of" "word_of" sword_of f fd) (N : Names mg) : FnOk P w K mg base CX0 1 f fd ["value"] (spWordOf K) := by
  have sc := scword_of
  refine F.ok sc (fun vs H Q E h => ?_) (fun cdv A outer s H vs Q E hr h => ?_)
  · obtain ⟨a, s, rfl, _⟩ := h
    rfl
  · obtain ⟨a, s, rfl, ha, k⟩ := h
    refine ⟨_, (pss_cons (ps_if (PW.pt (pw_and (pt_val (pe_callB call_isi (by rfl) N.isinstance (by decide +kernel) (pa_cons (pv 0) (pa_cons (pe_ty "tuple" rfl N.tuple (by decide +kernel)) pa_nil)))) (pw_and (pt_cmpR op_gt (pe_callB call_len_seq (by rfl) N.len (by decide +kernel) (pa_cons (pv 0) pa_nil)) pe_int (nomark _)) (pw_and1 (pt_val (pe_callB call_isi (by rfl) N.isinstance (by decide +kernel) (pa_cons (pe_ix ix_tup (pv 0) pe_int (fun _ _ => rfl)) (pa_cons (pe_ty "str" rfl N.str (by decide +kernel)) pa_nil)))))))) (pss_one (ps_ret (pe_ix ix_tup (pv 0) pe_int (fun _ _ => rfl)))) pss_nil)
      (pss_one (ps_ret pe_non))), ?_⟩
    have h0 : atI s.vs 0 = some (.str s.word) := by cases s <;> rfl
    have hl : 0 < s.vs.length := by rw [kinds_len]; omega
    refine ⟨_, rfl, _, _, _, _, _, rfl, .ty _, tyT ha, kit_ty (r := true) (by decide +kernel), _, rfl, ?_⟩
    refine iteT ?_
    refine ⟨_, rfl, a, _, rfl, .inr ha, _, _, rfl, rfl, _, rfl, ?_⟩
    refine ifD (fun _ => ?_) (fun hd => absurd (by omega) hd)
    refine ⟨_, rfl, a, _, _, _, rfl, rfl, ha, h0, _, _, _, _, _, rfl, .ty _, .base (.str _), kit_ty (r := true) (by decide +kernel), _, rfl, ?_⟩
    refine iteT ?_
    exact ⟨_, rfl, a, _, _, _, rfl, rfl, ha, h0, k⟩
theorem ok_hasform {f d : Addr} {fd : FuncData} (F : Fun K "has_form" "has_form" shas_form f fd) (N : Names mg) (FD : FormsD K w mg d) (Dword_of : DefK P w K mg base "word_of" ["value"] 1 (spWordOf K)) : FnOk P w K mg base CX0 2 f fd ["value"] (spHasForm K) := by
  have sc := schas_form
  refine F.ok sc (fun vs H Q E h => ?_) (fun cdv A outer s H vs Q E hr h => ?_)
  · obtain ⟨a, s, rfl, _⟩ := h
    rfl
  · obtain ⟨a, s, rfl, ha, k⟩ := h
    refine ⟨_, (pss_cons (ps_set (i := 1) sc.nd rfl (Or.inl rfl) (pe_kget FD.ok (pe_glob (v := .ref d) rfl FD.mgF rfl) (pe_d Dword_of (hr.mono (by decide)) rfl (pa_cons (pv 0) pa_nil)) ⟨by rfl, by rfl, by rfl, by rfl⟩))
      (pss_one (ps_ret (pe_and (pe_cmpR op_notN (pv 1) pe_non (nomark _)) (pe_one (pe_cmpR op_eq (pe_callB call_len_seq (by rfl) N.len (by decide +kernel) (pa_cons (pv 0) pa_nil)) (pe_op op_add (pe_callB call_len_seq (by rfl) N.len (by decide +kernel) (pa_cons (pv 1) pa_nil)) pe_int) (nomark _))))))), ?_⟩
    obtain ⟨ka, k1, k2⟩ := FD.get s
    refine ⟨_, rfl, a, s, rfl, ha, s.word, rfl, .inl ⟨_, k1, ?_⟩⟩
    refine ⟨_, rfl, rfl, _, rfl, ?_⟩
    refine ifN (fun _ => ?_) (fun hd => nomatch hd)
    refine ⟨_, rfl, a, _, rfl, .inr ha, _, rfl, ka, _, rfl, .inr k2.sq, _, _, rfl, rfl, rfl, ?_⟩
    rw [decide_eq_true (congrArg V.int (by rw [kinds_len, List.length_map]; rfl))]
    exact k
theorem ok_bounds {f fBs pBs : Addr} {fd fdBs : FuncData} (F : Fun K "bounds" "bounds" sbounds f fd) (N : Names mg) (M : MConsts mg) (T : HouseTxt K mg C)
    (qBs : PropOf K C "bases" pBs fBs) (GBs : FnOk P w K mg base CX0 1 fBs fdBs ["self"] (getSp C "_bases")) (bBs : Binds K fdBs ["self"] []) : FnOk P w K mg base CX0 3 f fd ["kind", "houses", "at"] (spBounds K C) := by
  have sc := scbounds
  refine F.ok sc (fun vs H Q E h => ?_) (fun cdv A outer s H vs Q E hr h => ?_)
  · obtain ⟨old, hp, hs, j, k, rfl, _⟩ := h
    rfl
  · obtain ⟨old, hp, hs, j, k, rfl, hH, hj, q⟩ := h
    refine ⟨_, (pss_cons (ps_if (pt_cmpR op_eq (pv 0) pe_str (nomark _)) (pss_one (ps_ret (pe_tup (pa_cons pe_int (pa_cons (pe_const rfl M.GREATEST_AMOUNT) pa_nil))))) pss_nil)
      (pss_cons (ps_if (pt_cmpR op_eq (pv 0) pe_str (nomark _)) (pss_one (ps_ret (pe_tup (pa_cons pe_int (pa_cons (pe_op op_sub (pe_callB call_len_seq (by rfl) N.len (by decide +kernel) (pa_cons (pe_prop (pe_ix ix_tup (pv 1) (pv 2) (fun _ _ => rfl)) T.cl qBs GBs (hr.mono (by decide)) bBs .nil pass0 rfl) pa_nil)) pe_int) pa_nil))))) pss_nil)
      (pss_cons (ps_if (pt_cmpR op_eq (pv 0) pe_str (nomark _)) (pss_one (ps_ret (pe_tup (pa_cons pe_int (pa_cons (pe_op op_sub (pe_callB call_len_seq (by rfl) N.len (by decide +kernel) (pa_cons (pv 1) pa_nil)) pe_int) pa_nil))))) pss_nil)
      (pss_one (ps_ret (pe_tup (pa_cons pe_int (pa_cons (pe_const rfl M.GREATEST_RATE) pa_nil)))))))), ?_⟩
    refine ⟨_, rfl, rfl, _, rfl, ?_⟩
    refine ifD (fun hd => ?_) (fun hd => ?_)
    · refine ⟨Nat.le_of_ble_eq_true rfl, ?_⟩
      (intro t nt; generalize e_t : upd H t _ = H1; have s1 : Same H H1 := fun b x hb => (congrFun e_t b).symm.trans (same_new nt b x hb); have h1 := (congrFun e_t t).symm.trans upd_same; clear e_t)
      refine q t H1 s1 nt ?_
      rw [h1]
      unfold boundsI
      rw [if_pos (V.str.inj hd)]
    refine ⟨_, rfl, rfl, _, rfl, ?_⟩
    refine ifD (fun hd2 => ?_) (fun hd2 => ?_)
    · obtain ⟨hA, hget⟩ := hH.get hj
      obtain ⟨dx, sk, ah, rd, e1, _⟩ := hA.ob
      refine ⟨_, rfl, _, rfl, hp, _, _, _, rfl, rfl, hH.1, hget, _, dx, _, rfl, e1, _, dx, _, _, rfl, e1, hf_bases _ _ _ _ _ _, _, _, rfl, .inr hA.bt, _, _, rfl, rfl, Nat.le_of_ble_eq_true rfl, ?_⟩
      (intro t nt; generalize e_t : upd H t _ = H1; have s1 : Same H H1 := fun b x hb => (congrFun e_t b).symm.trans (same_new nt b x hb); have h1 := (congrFun e_t t).symm.trans upd_same; clear e_t)
      refine q t H1 s1 nt ?_
      rw [h1]
      unfold boundsI
      rw [if_neg (fun z => hd (congrArg V.str z)), if_pos (V.str.inj hd2), List.length_map]
    refine ⟨_, rfl, rfl, _, rfl, ?_⟩
    refine ifD (fun hd3 => ?_) (fun hd3 => ?_)
    · refine ⟨_, rfl, hp, _, rfl, .inr hH.1, _, _, rfl, rfl, Nat.le_of_ble_eq_true rfl, ?_⟩
      (intro t nt; generalize e_t : upd H t _ = H1; have s1 : Same H H1 := fun b x hb => (congrFun e_t b).symm.trans (same_new nt b x hb); have h1 := (congrFun e_t t).symm.trans upd_same; clear e_t)
      refine q t H1 s1 nt ?_
      rw [h1]
      unfold boundsI
      rw [if_neg (fun z => hd (congrArg V.str z)), if_neg (fun z => hd2 (congrArg V.str z)), if_pos (V.str.inj hd3), List.length_map]
    · refine ⟨Nat.le_of_ble_eq_true rfl, ?_⟩
      (intro t nt; generalize e_t : upd H t _ = H1; have s1 : Same H H1 := fun b x hb => (congrFun e_t b).symm.trans (same_new nt b x hb); have h1 := (congrFun e_t t).symm.trans upd_same; clear e_t)
      refine q t H1 s1 nt ?_
      rw [h1]
      unfold boundsI
      rw [if_neg (fun z => hd (congrArg V.str z)), if_neg (fun z => hd2 (congrArg V.str z)), if_neg (fun z => hd3 (congrArg V.str z))]
theorem wayS_is (nx : Bool) : wayStr (wayS nx) = true := by cases nx <;> decide +kernel
theorem ok_ispart {f : Addr} {fd : FuncData} (F : Fun K "is_part" "is_part" sis_part f fd) (N : Names mg) (Dis_way : DefK P w K mg base "is_way" ["value"] 1 spIsWay) (Dbounds : DefK P w K mg base "bounds" ["kind", "houses", "at"] 3 (spBounds K C)) (Dis_integer_within : DefK P w K mg base "is_integer_within" ["value", "low", "high"] 2 spWithin) : FnOk P w K mg base CX0 4 f fd ["kind", "houses", "at", "value"] (spIsPart K C) := by
  have sc := scis_part
  refine F.ok sc (fun vs H Q E h => ?_) (fun cdv A outer s H vs Q E hr h => ?_)
  · obtain ⟨old, hp, hs, j, k, v, rfl, _⟩ := h
    rfl
  · obtain ⟨old, hp, hs, j, k, v, rfl, hH, hj, ho, q⟩ := h
    refine ⟨_, (pss_cons (ps_if (pt_cmpR op_eq (pv 0) pe_str (nomark _)) (pss_one (ps_ret (pe_d Dis_way (hr.mono (by decide)) rfl (pa_cons (pv 3) pa_nil)))) pss_nil)
      (pss_cons (ps_asg (pe_d Dbounds (hr.mono (by decide)) rfl (pa_cons (pv 0) (pa_cons (pv 1) (pa_cons (pv 2) pa_nil)))) (pg_tup rfl (pgs_cons (pg_name (i := 4) sc.nd rfl (Or.inl rfl)) (pgs_cons (pg_name (i := 5) sc.nd rfl (Or.inl rfl)) pgs_nil))))
      (pss_one (ps_ret (pe_d Dis_integer_within (hr.mono (by decide)) rfl (pa_cons (pv 3) (pa_cons (pv 4) (pa_cons (pv 5) pa_nil)))))))), ?_⟩
    refine ⟨_, rfl, rfl, _, rfl, ?_⟩
    rcases ho with ⟨rfl, nx, rfl⟩ | ⟨hk, n, rfl, h0, h1⟩
    · refine word_yes ?_
      refine ⟨_, rfl, _, rfl, fun H' s => ?_⟩
      rw [wayS_is]
      exact q H' s
    · refine ifD (fun hd => absurd (V.str.inj hd) hk) (fun _ => ?_)
      refine ⟨_, rfl, _, rfl, _, rfl, old, hp, hs, j, k, rfl, hH, hj, fun t H1 s1 nt et => ?_⟩
      refine ⟨t, _, rfl, SqT.tup et, rfl, _, _, rfl, _, _, rfl, rfl, ?_⟩
      refine ⟨_, rfl, _, rfl, _, rfl, n, _, _, rfl, ?_⟩
      rw [within_true h0 h1]
      exact q H1 s1
theorem zipV_get {ks : List Str} {vs : List V} {i : Nat} {x y : V} (h1 : (ks.map V.str)[i]? = some x) (h2 : vs[i]? = some y) : ∃ k, (k, y) ∈ ks.zip vs ∧ x = .str k := by
  rw [List.getElem?_map] at h1
  obtain ⟨k, hk, e⟩ := Option.map_eq_some_iff.mp h1
  refine ⟨k, ?_, e.symm⟩
  have : (ks.zip vs)[i]? = some (k, y) := by
    rw [List.getElem?_zip_eq_some]
    exact ⟨hk, h2⟩
  exact List.mem_of_getElem? this
theorem ok_isstep {f d fBs pBs : Addr} {fd fdBs : FuncData} (F : Fun K "is_step" "is_step" sis_step f fd) (N : Names mg) (T : HouseTxt K mg C) (FD : FormsD K w mg d) (Dhas_form : DefK P w K mg base "has_form" ["value"] 2 (spHasForm K)) (Dis_part : DefK P w K mg base "is_part" ["kind", "houses", "at", "value"] 4 (spIsPart K C))
    (qBs : PropOf K C "bases" pBs fBs) (GBs : FnOk P w K mg base CX0 1 fBs fdBs ["self"] (getSp C "_bases")) (bBs : Binds K fdBs ["self"] []) : FnOk P w K mg base CX0 5 f fd ["houses", "at", "value"] (spIsStep K C) := by
  have sc := scis_step
  refine F.ok sc (fun vs H Q E h => ?_) (fun cdv A outer s H vs Q E hr h => ?_)
  · obtain ⟨old, hp, a, hs, j, s, rfl, _⟩ := h
    rfl
  · obtain ⟨old, hp, a, hs, j, s, rfl, hH, hj, ha, hf, q⟩ := h
    have hu := hu_of hr
    refine ⟨_, (pss_cons (ps_if (pt_not (pt_val (pe_d Dhas_form (hr.mono (by decide)) rfl (pa_cons (pv 2) pa_nil)))) (pss_one (ps_ret pe_bl)) pss_nil)
      (pss_cons (ps_set (i := 3) sc.nd rfl (Or.inl rfl) (pe_ix ix_tup (pv 2) pe_int (fun _ _ => rfl)))
      (pss_cons (ps_if (pt_not (pt_val (pe_callB (cr_all rfl) (by rfl) N.all (by decide +kernel) (pa_cons (pe_lc (own := [("kind", 4), ("part", 5)]) (g := gTup K 2 (gCons (gName 4) (gCons (gName 5) gNil))) rfl sc.nd (pi_zipA rfl N.zip (pa_cons (pe_ix ix_kdict (pe_glob (v := .ref d) rfl FD.mgF rfl) (pv 3) (fun _ _ => rfl)) (pa_cons (pe_slice sl_tup (pv 2) (po_some pe_int) po_none) pa_nil))) (blkOk_by (own := [("kind", 4), ("part", 5)]) (N := ["houses", "at", "value", "word", "kind", "part"]) (sc := defScope (topS 65)) (by decide +kernel)) (fun _ _ _ _ _ => (pg_tup rfl (pgs_cons (pg_name (i := 4) sc.nd rfl (Or.inl rfl) (Or.inr rfl)) (pgs_cons (pg_name (i := 5) sc.nd rfl (Or.inl rfl) (Or.inr rfl)) pgs_nil)))) (fun _ _ _ _ _ => pts_nil) (fun _ _ _ _ _ => (pe_d Dis_part (hr.mono (by decide)) rfl (pa_cons (pv 4) (pa_cons (pv 0) (pa_cons (pv 1) (pa_cons (pv 5) pa_nil))))))) pa_nil)))) (pss_one (ps_ret pe_bl)) pss_nil)
      (pss_one (ps_ret (pe_or (pe_cmpR op_ne (pv 3) pe_str (nomark _)) (pe_one (pe_cmpR (op_eqIs (hu64 hr)) (pe_prop (pe_ix ix_tup (pv 0) (pe_ix ix_tup (pv 2) pe_int (fun _ _ => rfl)) (fun _ _ => rfl)) T.cl qBs GBs (hr.mono (by decide)) bBs .nil pass0 rfl) (pe_prop (pe_ix ix_tup (pv 0) (pv 1) (fun _ _ => rfl)) T.cl qBs GBs (hr.mono (by decide)) bBs .nil pass0 rfl) (nomark _))))))))), ?_⟩
    have h0 : atI s.vs 0 = some (.str s.word) := by cases s <;> rfl
    obtain ⟨ka, k1, k2⟩ := FD.get s
    refine ⟨_, rfl, a, s, rfl, ha, _, rfl, iteF ?_⟩
    refine ⟨_, rfl, a, _, _, _, rfl, rfl, ha, h0, ?_⟩
    refine ⟨_, rfl, d, s.word, _, rfl, rfl, k1, ?_⟩
    have hvl : 0 < s.vs.length := by rw [kinds_len]; omega
    refine ⟨_, rfl, _, rfl, a, _, rfl, ha, not_whole hvl, ?_⟩
    (intro t nt; generalize e_t : upd H t _ = H1; have s1 : Same H H1 := fun b x hb => (congrFun e_t b).symm.trans (same_new nt b x hb); have h1 := (congrFun e_t t).symm.trans upd_same; clear e_t)
    have h1' : H1 t = some (.tup s.vs.tail) := by rw [h1, cut_tail, List.drop_one]
    refine ⟨ka, t, _, _, rfl, .inr ⟨k2.sq, SqT.tup h1', ?_⟩⟩
    intro D nD
    have hzl : (s.kinds.zip s.vs.tail).length ≤ 3 := by cases s <;> exact Nat.le_of_ble_eq_true rfl
    refine lc_it (walk_zipT (n := (s.kinds.zip s.vs.tail).length) (by rw [List.length_zip, List.length_map])) (fun i H' => Same H1 H' ∧ H' D = some (.lst ((List.replicate i true).map V.bl))) ⟨same_new nD, upd_same⟩ (fun i H' _ ⟨sm, _⟩ => ⟨k2.sq, SqT.tup (sm _ _ h1')⟩) ?_ ?_
    · rintro i x H2 H3 hi ⟨sm, eD⟩ ⟨T, x1, x2, rfl, nT, rfl, g1, g2⟩
      obtain ⟨k, hmem, rfl⟩ := zipV_get g1 g2
      refine ⟨T, _, rfl, SqT.tup upd_same, rfl, _, _, rfl, _, _, rfl, rfl, rfl, ?_⟩
      have sT := Same.of_new (o := HO.tup [V.str k, x2]) (s1.trans sm) nT
      have eD2 := same_new nT (o := HO.tup [V.str k, x2]) _ _ eD
      refine ⟨_, rfl, _, rfl, _, rfl, _, rfl, old, hp, hs, j, k, x2, rfl, hH.same sT, hj, parts_ok hf _ hmem, fun H5 s5 => ?_⟩
      refine ⟨_, s5 _ _ eD2, smallLt (by rw [List.length_map, List.length_replicate]; omega), same_mut (Same.trans (Same.of_new sm nT) s5) nD, ?_⟩
      rw [upd_same, List.replicate_succ', List.map_append]
      rfl
    rintro H2 ⟨sm, eD⟩
    have s02 := s1.trans sm
    refine ⟨D, List.replicate (s.kinds.zip s.vs.tail).length true, rfl, SqL.lst eD, ?_⟩
    have e : (List.replicate (s.kinds.zip s.vs.tail).length true).all id = true := by simp
    rw [e]
    refine ⟨_, rfl, iteF ?_⟩
    have fin := q H2 s02
    have no : ∀ {x : Str} {A B : Prop}, (x == ("read" : Str)) = false → A → if (!decide (V.str x = V.str "read")) = true then A else B := fun {x A B} hx h => ifN (fun _ => h) (fun hd => by rw [V.str.inj hd, beq_self_eq_true] at hx; cases hx)
    have tup : ∀ {A : Addr} {h : HD}, h.At K C old H → SqT K H2 h.b (h.bs.map V.int) ∧ ∃ dx sk ah rd, H2 h.p = some (.ins C dx (LM.hf h.b h.r sk ah rd (houseS h.bs h.rows))) := fun {_ h} hA => by
      obtain ⟨dx, sk, ah, rd, e1, _⟩ := hA.ob
      exact ⟨Same.seqT s02 hA.bt, dx, sk, ah, rd, s02 _ _ e1⟩
    cases s with
    | on k => exact ⟨_, rfl, rfl, _, rfl, no (x := "on") (by decide +kernel) fin⟩
    | back k => exact ⟨_, rfl, rfl, _, rfl, no (x := "back") (by decide +kernel) fin⟩
    | label k b => exact ⟨_, rfl, rfl, _, rfl, no (x := "label") (by decide +kernel) fin⟩
    | unlabel k b => exact ⟨_, rfl, rfl, _, rfl, no (x := "unlabel") (by decide +kernel) fin⟩
    | to k => exact ⟨_, rfl, rfl, _, rfl, no (x := "to") (by decide +kernel) fin⟩
    | after k => exact ⟨_, rfl, rfl, _, rfl, no (x := "after") (by decide +kernel) fin⟩
    | call k => exact ⟨_, rfl, rfl, _, rfl, no (x := "call") (by decide +kernel) fin⟩
    | rate k b => exact ⟨_, rfl, rfl, _, rfl, no (x := "rate") (by decide +kernel) fin⟩
    | read i b =>
      obtain ⟨hi, hb⟩ := hf
      obtain ⟨hA1, hg1⟩ := hH.get hi
      obtain ⟨hA2, hg2⟩ := hH.get hj
      obtain ⟨b1, x1, x2, x3, x4, x5⟩ := tup (A := a) hA1
      obtain ⟨b2, y1, y2, y3, y4, y5⟩ := tup (A := a) hA2
      refine ⟨_, rfl, rfl, _, rfl, ifN (fun hd => absurd rfl hd) (fun _ => ?_)⟩
      refine ⟨_, rfl, _, rfl, a, _, _, _, rfl, rfl, Same.seqT s02 ha, rfl, hp, _, _, _, rfl, rfl, Same.seqT s02 hH.1, hg1, _, x1, _, rfl, x5, _, x1, _, _, rfl, x5, hf_bases _ _ _ _ _ _, ?_⟩
      refine ⟨_, rfl, _, rfl, hp, _, _, _, rfl, rfl, Same.seqT s02 hH.1, hg2, _, y1, _, rfl, y5, _, y1, _, _, rfl, y5, hf_bases _ _ _ _ _ _, ?_⟩
      refine ⟨_, _, _, _, rfl, rfl, .inr ⟨b1, b2⟩, ?_⟩
      rw [decide_eq_true hb]
      exact fin
theorem ok_chksteps {f : Addr} {fd : FuncData} (F : Fun K "check_steps" "check_steps" scheck_steps f fd) (N : Names mg) (M : MConsts mg) (Dis_step : DefK P w K mg base "is_step" ["houses", "at", "value"] 5 (spIsStep K C)) (Dhouse_behind : DefK P w K mg base "house_behind" ["at", "step"] 1 (spHBehind K)) : FnOk P w K mg base CX0 6 f fd ["houses", "steps"] (spChkSteps K C) := by
  have sc := sccheck_steps
  refine F.ok sc (fun vs H Q E h => ?_) (fun cdv A outer s H vs Q E hr h => ?_)
  · obtain ⟨old, hp, tp, hs, sts, rfl, _⟩ := h
    rfl
  · obtain ⟨old, hp, tp, hs, sts, rfl, hH, h1, ⟨as, ht, pa⟩, hfit, h8, q⟩ := h
    have hpl := pa.length
    refine ⟨_, (pss_cons (ps_if (PW.pt (pw_or (pt_not (pt_val (pe_callB call_isi (by rfl) N.isinstance (by decide +kernel) (pa_cons (pv 1) (pa_cons (pe_ty "tuple" rfl N.tuple (by decide +kernel)) pa_nil))))) (pw_or1 (pt_cmpR op_gt (pe_callB call_len_seq (by rfl) N.len (by decide +kernel) (pa_cons (pv 1) pa_nil)) (pe_const rfl M.MOST_STEPS) (nomark _))))) (pss_one ps_never) pss_nil)
      (pss_cons (ps_set (i := 2) sc.nd rfl (Or.inl rfl) pe_int)
      (pss_one (ps_for PassesOwn.never rfl (pi_enumT rfl N.enumerate (pa_cons (pv 1) pa_nil)) (pg_tup rfl (pgs_cons (pg_name (i := 3) sc.nd rfl (Or.inl rfl)) (pgs_cons (pg_name (i := 4) sc.nd rfl (Or.inl rfl)) pgs_nil))) (pss_cons (ps_if (pt_not (pt_val (pe_d Dis_step (hr.mono (by decide)) rfl (pa_cons (pv 0) (pa_cons (pv 2) (pa_cons (pv 4) pa_nil)))))) (pss_one ps_never) pss_nil)
      (pss_one (ps_set (i := 2) sc.nd rfl (Or.inl rfl) (pe_d Dhouse_behind (hr.mono (by decide)) rfl (pa_cons (pv 2) (pa_cons (pv 4) pa_nil)))))))))), ?_⟩
    refine ⟨_, rfl, _, _, _, _, _, rfl, .ty _, tyT ht, kit_ty (r := true) (by decide +kernel), _, rfl, ?_⟩
    refine iteF ?_
    refine ⟨_, rfl, tp, _, rfl, .inr ht, _, _, rfl, rfl, _, rfl, ?_⟩
    refine ifD (fun hd => absurd hd (by rw [List.length_map]; omega)) (fun hd => ?_)
    refine ⟨_, rfl, tp, _, rfl, ht, for_enumT (K := K) (xs := as.map V.ref) (fun i σ H' => ∃ v3 v4 : Option V, σ = [some (.ref hp), some (.ref tp), some (.int (behS 0 (sts.take i) : Int)), v3, v4] ∧ Same H H') ⟨_, _, rfl, Same.refl H⟩ (fun i σ H' _ ⟨_, _, _, s⟩ => Same.seqT s ht) ?_ ?_⟩
    · rintro i x T σ H' hx nT ⟨v3, v4, rfl, sm⟩
      obtain ⟨a, ha, rfl⟩ := map_refs_get hx
      obtain ⟨st, hst, hsa⟩ := paired_at pa ha
      have sT : Same H (upd H' T (.tup [.int ((i : Nat) : Int), .ref a])) := Same.of_new sm nT
      refine ⟨T, _, rfl, SqT.tup upd_same, rfl, _, _, rfl, _, _, rfl, rfl, ?_⟩
      refine ⟨_, rfl, _, rfl, _, rfl, old, hp, a, hs, _, st, rfl, hH.same sT, behS_lt h1 hfit i, Same.seqT sT hsa, fitS_at hs 0 sts i st hfit hst, fun H5 s5 => ?_⟩
      refine ⟨_, rfl, iteF ?_⟩
      refine ⟨_, rfl, _, rfl, a, _, st, rfl, Same.seqT (sT.trans s5) hsa, fun H6 s6 => ?_⟩
      have etk : sts.take (i + 1) = sts.take i ++ [st] := by rw [List.take_add_one, hst]; rfl
      exact ⟨_, _, by rw [etk, behS_snoc]; rfl, sT.trans (s5.trans s6)⟩
    · rintro σ H' ⟨v3, v4, rfl, sm⟩
      exact q H' sm
theorem ok_chkhouses {f : Addr} {fd : FuncData} (F : Fun K "check_houses" "check_houses" scheck_houses f fd) (T : HouseTxt K mg C) (N : Names mg) (M : MConsts mg) (O : Other K C) (W : OwnT K C) : FnOk P w K mg base CX0 1 f fd ["houses"] (spChkHouses K C) := by
  have sc := sccheck_houses
  refine F.ok sc (fun vs H Q E h => ?_) (fun cdv A outer s H vs Q E hr h => ?_)
  · obtain ⟨old, hp, hs, rfl, _⟩ := h
    rfl
  · obtain ⟨old, hp, hs, rfl, hH, h1, h3, q⟩ := h
    refine ⟨_, (pss_cons (ps_if (PW.pt (pw_or (pt_not (pt_val (pe_callB call_isi (by rfl) N.isinstance (by decide +kernel) (pa_cons (pv 0) (pa_cons (pe_ty "tuple" rfl N.tuple (by decide +kernel)) pa_nil))))) (pw_or1 (pt_not (pt_chain op_le op_le pe_int (pe_callB call_len_seq (by rfl) N.len (by decide +kernel) (pa_cons (pv 0) pa_nil)) (pe_const rfl M.MOST_HOUSES)))))) (pss_one ps_never) pss_nil)
      (pss_one (ps_for PassesOwn.never rfl (pi_enumT rfl N.enumerate (pa_cons (pv 0) pa_nil)) (pg_tup rfl (pgs_cons (pg_name (i := 1) sc.nd rfl (Or.inl rfl)) (pgs_cons (pg_name (i := 2) sc.nd rfl (Or.inl rfl)) pgs_nil))) (pss_one (ps_if (pt_not (pt_val (pe_callB call_isi (by rfl) N.isinstance (by decide +kernel) (pa_cons (pv 2) (pa_cons (pe_glob (v := .ref C) rfl T.mgC rfl) pa_nil))))) (pss_one ps_never) pss_nil))))), ?_⟩
    refine ⟨_, rfl, _, _, _, _, _, rfl, .ty _, tyT hH.1, kit_ty (r := true) (by decide +kernel), _, rfl, ?_⟩
    refine iteF ?_
    refine ⟨_, rfl, hp, _, rfl, .inr hH.1, _, _, rfl, rfl, _, rfl, ?_⟩
    rw [List.length_map]
    refine ifD (fun hd => ?_) (fun hd => absurd (by omega) hd)
    refine ⟨_, _, rfl, rfl, _, rfl, ?_⟩
    refine ifN (fun hd => absurd (by show ((hs.length : Nat) : Int) ≤ 3; omega) hd) (fun hd => ?_)
    refine ⟨_, rfl, hp, _, rfl, hH.1, for_enumT (K := K) (xs := hs.map fun h => V.ref h.p) (fun i σ H' => ∃ v1 v2 : Option V, σ = [some (.ref hp), v1, v2] ∧ Same H H') ⟨_, _, rfl, Same.refl H⟩ (fun i σ H' _ ⟨_, _, _, s⟩ => Same.seqT s hH.1) ?_ ?_⟩
    · rintro i x tt σ H' hx nT ⟨v1, v2, rfl, sm⟩
      rw [List.getElem?_map] at hx
      obtain ⟨h, hh, rfl⟩ := Option.map_eq_some_iff.mp hx
      have hA := hH.2 h (List.mem_of_getElem? hh)
      obtain ⟨dx, sk, ah, rd, e1, _⟩ := hA.ob
      have sT : Same H (upd H' tt (.tup [.int ((i : Nat) : Int), .ref h.p])) := Same.of_new sm nT
      refine ⟨tt, _, rfl, SqT.tup upd_same, rfl, _, _, rfl, _, _, rfl, rfl, ?_⟩
      refine ⟨_, rfl, _, _, _, _, _, rfl, .own _, W.ty T.cl (sT _ _ e1), O.own2, _, rfl, ?_⟩
      exact iteF ⟨_, _, rfl, sT⟩
    · rintro σ H' ⟨v1, v2, rfl, sm⟩
      exact q H' sm
end
end LM

set_option Elab.async false
set_option linter.all false
set_option maxRecDepth 100000
set_option maxHeartbeats 4000000
set_option pp.maxSteps 600
set_option pp.deepTerms false
namespace LM
open PySem PySem.Spec PyProof.Rows L2 RZ RT
local macro_rules | `(tactic| walk_at "hp") => `(tactic| first | assumption | exact upd_same | (rw [upd_ne (by assumption)]; assumption) | (rw [upd_ne (Ne.symm (by assumption))]; assumption) | (rw [upd_ne (by assumption)]; exact upd_same) | (rw [upd_ne (Ne.symm (by assumption))]; exact upd_same))
local macro_rules | `(tactic| walk_at "sq") => `(tactic| first | assumption | exact Or.inl (Or.inl (by assumption)) | exact Or.inl (Or.inl upd_same) | exact Or.inl (Or.inl (by walk_at "hp")))
local macro_rules | `(tactic| walk_at "ixl") => `(tactic| refine ⟨_, _, _, _, rfl, rfl, (by walk_at "sq"), (by rfl), ?_⟩)
local macro_rules | `(tactic| walk_at "setl") => `(tactic| refine ⟨_, _, _, _, rfl, rfl, (by walk_at "hp"), (by rfl), ?_⟩)
local macro_rules | `(tactic| walk_at "side") => `(tactic| refine idP ?_; first | omega | (show (0 : Int) < _; omega) | (show (0 : Int) < _ ∧ _ < _; omega) | (refine Or.inr ?_; show (-(2 ^ 64) : Int) < _ ∧ _ < _; omega) | (refine Or.inl ?_; show (-(2 ^ 64) : Int) < _ ∧ _ < _; omega) | exact divW (by omega) (by omega) _ | (refine ⟨by decide, by decide, ?_⟩; decide))
local macro_rules | `(tactic| walk_at "go1") => `(tactic| first
  | refine ⟨_, rfl, ?_⟩
  | refine ⟨_, _, rfl, rfl, (by walk_at "side"), ?_⟩
  | refine ⟨_, _, rfl, (by walk_at "side"), ?_⟩
  | refine ⟨_, _, rfl, rfl, ?_⟩
  | refine Or.inl ⟨_, rfl, ?_⟩
  | refine ⟨_, _, rfl, Or.inl (by walk_at "sq"), ?_⟩
  | walk_at "ixl"
  | walk_at "setl"
  | refine ⟨_, _, rfl, (by walk_at "sq"), rfl, ?_⟩
  | refine ⟨_, _, rfl, (by walk_at "sq"), ?_⟩
  | refine ⟨_, _, rfl, ?_⟩
  | refine ⟨rfl, ?_⟩
  | refine ⟨small (Nat.le_of_ble_eq_true rfl), ?_⟩)
local macro_rules | `(tactic| walk_at "go") => `(tactic| repeat walk_at "go1")

theorem CallR.or {X : Cx} {v : Value} {r1 r2 : List V → Hp → VK → Prop} (h1 : CallR X v r1) (h2 : CallR X v r2) : CallR X v (fun xs H Q => r1 xs H Q ∨ r2 xs H Q) := fun pins s σ H vs us Q I r h => h.elim (h1 pins s σ H vs us Q I r) (h2 pins s σ H vs us Q I r)
/-- the text of a part -/
def strV : V → Str
  | .int n => numS n
  | .str z => z
  | _ => Str.empty
def PartV (x : V) : Prop := (∃ n : Int, x = .int n ∧ 0 ≤ n ∧ n < 10 ^ 60) ∨ ∃ z : Str, x = .str z ∧ z.length ≤ 20
def spacedV (xs : List V) : Str := Txt.join " " (xs.map strV)
def spSpacedV (K : PySem.W.Frag) : Sp := fun vs H Q _ => ∃ (a : Addr) (xs : List V), vs = [.ref a] ∧ SqT K H a xs ∧ xs.length ≤ 3 ∧ (∀ x ∈ xs, PartV x) ∧ ∀ H', Same H H' → Q (.str (spacedV xs)) H'
theorem strV_len {x : V} (h : PartV x) : (strV x).length ≤ 62 := by
  rcases h with ⟨n, rfl, h0, h1⟩ | ⟨z, rfl, h⟩
  · exact Nat.le_trans (num_len h0 h1) (by decide)
  · exact Nat.le_trans h (by decide)
def stepS (s : Stp) : Str := spacedV s.vs
def moveS (hs : List HD) (sts : List Stp) : Str := Txt.join "\n" ((hs.map fun h => houseS h.bs h.rows) ++ [("move" : Str)] ++ sts.map stepS)
def spLastHouse (K : PySem.W.Frag) (C : Addr) : Sp := fun vs H Q _ => ∃ (old : Addr → Prop) (hp tp : Addr) (hs : List HD) (sts : List Stp), vs = [.ref hp, .ref tp] ∧ HousesAt K C old H hp hs ∧ 1 ≤ hs.length ∧ StepsAt K H tp sts ∧ fitS hs 0 sts ∧ ∀ H', Same H H' → Q (.ref (hs.getD (behS 0 sts) HD0).p) H'
def spMoveText (K : PySem.W.Frag) (C : Addr) : Sp := fun vs H Q _ => ∃ (old : Addr → Prop) (hp tp : Addr) (hs : List HD) (sts : List Stp), vs = [.ref hp, .ref tp] ∧ HousesAt K C old H hp hs ∧ hs.length ≤ 3 ∧ StepsAt K H tp sts ∧ (∀ s ∈ sts, ∀ x ∈ s.vs, PartV x) ∧ sts.length ≤ 8 ∧ ∀ H', Same H H' → Q (.str (moveS hs sts)) H'
theorem wayS_len (nx : Bool) : (wayS nx).length ≤ 20 := by cases nx <;> decide
theorem word_len (s : Stp) : s.word.length ≤ 20 := by
  cases s with
  | on k => exact (show ("on" : Str).length ≤ 20 by decide)
  | back k => exact (show ("back" : Str).length ≤ 20 by decide)
  | label k nx => exact (show ("label" : Str).length ≤ 20 by decide)
  | unlabel k nx => exact (show ("unlabel" : Str).length ≤ 20 by decide)
  | to f => exact (show ("to" : Str).length ≤ 20 by decide)
  | after f => exact (show ("after" : Str).length ≤ 20 by decide)
  | read h nx => exact (show ("read" : Str).length ≤ 20 by decide)
  | call h => exact (show ("call" : Str).length ≤ 20 by decide)
  | rate a b => exact (show ("rate" : Str).length ≤ 20 by decide)
theorem vs_len (s : Stp) : s.vs.length ≤ 3 := by cases s <;> exact Nat.le_of_ble_eq_true rfl
/-- the parts of a step that stands somewhere can be written -/
theorem fits_parts {hs : List HD} {j : Nat} {s : Stp} (h3 : hs.length ≤ 3) (hb : (hs.getD j HD0).bs.length ≤ 3) (h : s.Fits hs j) : ∀ x ∈ s.vs, PartV x := by
  have p60 : (10 : Int) ^ 60 = 1000000000000000000000000000000000000000000000000000000000000 := by decide
  have p40 : (10 : Nat) ^ 40 = 10000000000000000000000000000000000000000 := by decide
  have num : ∀ {n : Nat}, n ≤ 10 ^ 40 → PartV (.int (n : Int)) := fun {n} hn => .inl ⟨_, rfl, by omega, by omega⟩
  have wy : ∀ {b : Bool}, PartV (.str (wayS b)) := fun {b} => .inr ⟨_, rfl, wayS_len b⟩
  have wd : PartV (.str s.word) := .inr ⟨_, rfl, word_len s⟩
  have two : ∀ {a b : V}, PartV a → PartV b → ∀ x ∈ [a, b], PartV x := fun h1 h2 p hp => by
    rcases List.mem_cons.mp hp with rfl | hp
    · exact h1
    · rw [List.mem_singleton.mp hp]; exact h2
  have three : ∀ {a b c : V}, PartV a → PartV b → PartV c → ∀ x ∈ [a, b, c], PartV x := fun h1 h2 h3 p hp => by
    rcases List.mem_cons.mp hp with rfl | hp
    · exact h1
    · exact two h2 h3 p hp
  cases s with
  | on k => exact two wd (num h)
  | back k => exact two wd (num h)
  | label k b => exact three wd (num h) wy
  | unlabel k b => exact three wd (num h) wy
  | to f => exact two wd (num (by have := (show f < _ from h); omega))
  | after f => exact two wd (num (by have := (show f < _ from h); omega))
  | read i b => exact three wd (num (by have := h.1; omega)) wy
  | call i => exact two wd (num (by have := (show i < _ from h); omega))
  | rate a b => exact three wd (num (by have := h.1.2; omega)) (num (by have := h.2.2; omega))
theorem fitS_parts {K : PySem.W.Frag} {C : Addr} {old : Addr → Prop} {H : Hp} {hp : Addr} {hs : List HD} (hH : HousesAt K C old H hp hs) (h3 : hs.length ≤ 3) : ∀ {j : Nat} {sts : List Stp}, j < hs.length → fitS hs j sts → ∀ s ∈ sts, ∀ x ∈ s.vs, PartV x
  | _, [], _, _, s, hs => nomatch hs
  | j, y :: r, hj, h, s, hm => by
    rcases List.mem_cons.mp hm with rfl | hm
    · exact fits_parts h3 (hH.get hj).1.fair.b3 h.1
    · exact fitS_parts hH h3 (beh_lt hj h.1) h.2 s hm
section
variable {P : Program} {w : World} {K : PySem.W.Frag} {mg : Str → Option Value} {base : Heap} {C : Addr}
theorem ok_spacedV {f : Addr} {fd : FuncData} (F : Fun K "spaced" "spaced" sspaced f fd) (N : Names mg) : FnOk P w K mg base CX0 1 f fd ["parts"] (spSpacedV K) := by
  have sc := scspaced
  refine F.ok sc (fun vs H Q E h => ?_) (fun cdv A outer s H vs Q E hr h => ?_)
  · obtain ⟨a, xs, rfl, _⟩ := h
    rfl
  · obtain ⟨a, xs, rfl, ha, h3, hb, k⟩ := h
    refine ⟨_, (pss_one (ps_ret (pe_join pe_str (pe_lc (own := [("part", 1)]) rfl sc.nd (pi_tup (pv 0)) (blkOk_by (own := [("part", 1)]) (N := ["parts", "part"]) (sc := defScope (topS 54)) (by decide +kernel)) (fun _ _ _ _ _ => (pg_name (i := 1) sc.nd rfl (Or.inl rfl))) (fun _ _ _ _ _ => pts_nil) (fun _ _ _ _ _ => (pe_callTy (T := "str") (CallR.or call_str_int SkE.call_str_str) (by rfl) N.str (by decide +kernel) (pa_cons (pv 1) pa_nil))))))), ?_⟩
    refine ⟨⟨_, rfl⟩, _, rfl, a, rfl, ⟨_, ha⟩, ?_⟩
    intro D nD
    refine lc_tup (K := K) (xs := xs) (fun i H' => Same H H' ∧ H' D = some (.lst (((xs.take i).map strV).map V.str))) ⟨same_new nD, upd_same⟩ (fun i H' _ ⟨s, _⟩ => Same.seqT s ha) ?_ ?_
    · rintro i x H' hx ⟨sm, eD⟩
      have hp := hb x (List.mem_of_getElem? hx)
      have hz : (((xs.take i).map strV).map V.str).length < sizeLine := smallLt (by rw [List.length_map, List.length_map, List.length_take]; omega)
      refine ⟨rfl, ?_⟩
      rcases hp with ⟨n, rfl, h0, h1⟩ | ⟨z, rfl, hzl⟩
      · have hl : n.natAbs.log2 < 1920 := by
          rcases Nat.eq_zero_or_pos n.natAbs with z | z
          · rw [z]; decide
          · have p60 : (10 : Int) ^ 60 = 1000000000000000000000000000000000000000000000000000000000000 := by decide
            exact Nat.lt_trans ((Nat.log2_lt (by omega)).mpr (show n.natAbs < 2 ^ 200 by omega)) (by decide)
        refine ⟨_, rfl, .inl ⟨n, rfl, hl, _, eD, hz, same_mut sm nD, ?_⟩⟩
        rw [upd_same, List.take_add_one, hx, List.map_append, List.map_append]
        rfl
      · refine ⟨_, rfl, .inr ⟨z, rfl, _, eD, hz, same_mut sm nD, ?_⟩⟩
        rw [upd_same, List.take_add_one, hx, List.map_append, List.map_append]
        rfl
    · rintro H' ⟨sm, eD⟩
      rw [List.take_of_length_le (Nat.le_refl _)] at eD
      refine ⟨_, D, _, rfl, rfl, .inl (SqL.lst eD), ?_, k H' sm⟩
      refine Nat.le_trans (join_le _ _ 62 fun y hy => ?_) ?_
      · obtain ⟨x, hx, rfl⟩ := List.mem_map.mp hy
        exact strV_len (hb x hx)
      · rw [List.length_map]
        have e : ((" " : Str)).length = 1 := by decide
        rw [e]
        omega
theorem ok_lasthouse {f : Addr} {fd : FuncData} (F : Fun K "last_house" "last_house" slast_house f fd) (Dhouse_behind : DefK P w K mg base "house_behind" ["at", "step"] 1 (spHBehind K)) : FnOk P w K mg base CX0 2 f fd ["houses", "steps"] (spLastHouse K C) := by
  have sc := sclast_house
  refine F.ok sc (fun vs H Q E h => ?_) (fun cdv A outer s H vs Q E hr h => ?_)
  · obtain ⟨old, hp, tp, hs, sts, rfl, _⟩ := h
    rfl
  · obtain ⟨old, hp, tp, hs, sts, rfl, hH, h1, ⟨as, ht, pa⟩, hfit, q⟩ := h
    have hpl := pa.length
    refine ⟨_, (pss_cons (ps_set (i := 2) sc.nd rfl (Or.inl rfl) pe_int)
      (pss_cons (ps_for PassesOwn.never rfl (pi_tup (pv 1)) (pg_name (i := 3) sc.nd rfl (Or.inl rfl)) (pss_one (ps_set (i := 2) sc.nd rfl (Or.inl rfl) (pe_d Dhouse_behind (hr.mono (by decide)) rfl (pa_cons (pv 2) (pa_cons (pv 3) pa_nil))))))
      (pss_one (ps_ret (pe_ix ix_tup (pv 0) (pv 2) (fun _ _ => rfl)))))), ?_⟩
    refine ⟨_, rfl, tp, rfl, ⟨_, ht⟩, for_tup (K := K) (xs := as.map V.ref) (fun i σ H' => ∃ (v3 : Option V), σ = [some (.ref hp), some (.ref tp), some (.int (behS 0 (sts.take i) : Int)), v3] ∧ Same H H') ⟨_, rfl, Same.refl H⟩ (fun i σ H' _ ⟨_, _, s⟩ => Same.seqT s ht) ?_ ?_⟩
    · rintro i x σ H' hx ⟨v3, rfl, sm⟩
      obtain ⟨a, ha, rfl⟩ := map_refs_get hx
      obtain ⟨st, hst, hsa⟩ := paired_at pa ha
      refine g_nx ?_
      dsimp only
      refine ⟨_, rfl, _, rfl, a, _, st, rfl, Same.seqT sm hsa, fun H6 s6 => ?_⟩
      have etk : sts.take (i + 1) = sts.take i ++ [st] := by rw [List.take_add_one, hst]; rfl
      exact ⟨_, by rw [etk, behS_snoc]; rfl, sm.trans s6⟩
    · rintro σ H' ⟨v3, rfl, sm⟩
      have hlt := behS_lt h1 hfit sts.length
      rw [List.length_map, hpl, List.take_of_length_le (Nat.le_refl _)]
      rw [List.take_of_length_le (Nat.le_refl _)] at hlt
      exact ⟨_, rfl, _, rfl, hp, _, _, _, rfl, rfl, Same.seqT sm hH.1, (hH.get hlt).2, q H' sm⟩
theorem ok_movetext {f fSt : Addr} {fd fdSt : FuncData} (F : Fun K "move_text" "move_text" smove_text f fd) (N : Names mg) (sSt : PySem.W.findIn K (.ref C) "__str__" = some (some (.ref fSt))) (iSt : PySem.W.isFn K (.ref fSt) = true) (GSt : FnOk P w K mg base CX0 1 fSt fdSt ["self"] (spStr C)) (bSt : Binds K fdSt ["self"] [])
    (DspacedV : DefK P w K mg base "spaced" ["parts"] 1 (spSpacedV K)) : FnOk P w K mg base CX0 4 f fd ["houses", "steps"] (spMoveText K C) := by
  have sc := scmove_text
  refine F.ok sc (fun vs H Q E h => ?_) (fun cdv A outer s H vs Q E hr h => ?_)
  · obtain ⟨old, hp, tp, hs, sts, rfl, _⟩ := h
    rfl
  · obtain ⟨old, hp, tp, hs, sts, rfl, hH, h3, ⟨as, ht, pa⟩, hparts, h8, q⟩ := h
    have hpl := pa.length
    refine ⟨_, (pss_cons (ps_setLc (i := 2) (own := [("house", 4)]) rfl sc.nd rfl rfl (sw_true rfl rfl rfl (by decide +kernel)) (pi_tup (pv 0)) (blkOk_by (own := [("house", 4)]) (N := ["houses", "steps", "lines", "step", "house"]) (sc := defScope (topS 86)) (by decide +kernel)) (fun _ _ _ _ _ => (pg_name (i := 4) sc.nd rfl (Or.inl rfl))) (fun _ _ _ _ _ => pts_nil) (fun _ _ _ _ _ => (pe_callTy (T := "str") (call_strO sSt iSt GSt (hr.mono (by decide)) bSt pass0) (by rfl) N.str (by decide +kernel) (pa_cons (pv 4) pa_nil))))
      (pss_cons (ps_expr (pe_bm PySem.F.plainAttrs_list PySem.F.slot_list_append PySem.F.type_list_append mt_append (pv 2) (pa_cons pe_str pa_nil)))
      (pss_cons (ps_for PassesOwn.never rfl (pi_tup (pv 1)) (pg_name (i := 3) sc.nd rfl (Or.inl rfl)) (pss_one (ps_expr (pe_bm PySem.F.plainAttrs_list PySem.F.slot_list_append PySem.F.type_list_append mt_append (pv 2) (pa_cons (pe_d DspacedV (hr.mono (by decide)) rfl (pa_cons (pv 3) pa_nil)) pa_nil)))))
      (pss_one (ps_ret (pe_join pe_str (pv 2))))))), ?_⟩
    have hlen : ∀ h ∈ hs, (houseS h.bs h.rows).length ≤ 3000 := fun h hm => by
      have fr := (hH.2 h hm).fair
      exact (house_len fr.b3 (fun x hx => ⟨by have := (fr.bb x hx).1; omega, (fr.bb x hx).2⟩) fr.r6 (fun x hx => by
        obtain ⟨a1, a2, a3, a4, a5, a6⟩ := fr.ro x hx
        have h3 := fr.b3
        have hl := (fr.bb _ (lastD_mem fr.b0)).2
        exact ⟨⟨a1, by omega⟩, ⟨by omega, a4⟩, a5, by omega⟩)).1
    refine ⟨_, rfl, hp, rfl, ⟨_, hH.1⟩, ?_⟩
    intro D nD
    refine lc_tup (K := K) (xs := hs.map fun h => V.ref h.p) (fun i H' => Same H H' ∧ H' D = some (.lst (((hs.take i).map fun h => houseS h.bs h.rows).map V.str))) ⟨same_new nD, upd_same⟩ (fun i H' _ ⟨s, _⟩ => Same.seqT s hH.1) ?_ ?_
    · rintro i x H' hx ⟨sm, eD⟩
      rw [List.getElem?_map] at hx
      obtain ⟨h, hh, rfl⟩ := Option.map_eq_some_iff.mp hx
      have hA := hH.2 h (List.mem_of_getElem? hh)
      obtain ⟨dx, sk, ah, rd, e1, _⟩ := hA.ob
      refine ⟨rfl, ?_⟩
      refine ⟨_, rfl, h.p, dx, _, rfl, sm _ _ e1, h.p, _, rfl, ⟨dx, _, sm _ _ e1, hf_text _ _ _ _ _ _⟩, _, rfl, _, eD, smallLt (by rw [List.length_map, List.length_map, List.length_take]; omega), same_mut sm nD, ?_⟩
      rw [upd_same, List.take_add_one, hh, List.map_append, List.map_append]
      rfl
    · rintro H1 ⟨s1, eD⟩
      rw [List.length_map, List.take_of_length_le (Nat.le_refl _)] at eD
      refine ⟨_, rfl, .inl ⟨rfl, _, SqL.lst eD⟩, D, _, _, rfl, rfl, eD, smallLt (by rw [List.length_map, List.length_map]; omega), ?_⟩
      generalize e2 : upd H1 D _ = H2
      have s2 : Same H H2 := by rw [← e2]; exact same_mut s1 nD
      have eD2 : H2 D = some (.lst (((hs.map fun h => houseS h.bs h.rows) ++ [("move" : Str)]).map V.str)) := by
        rw [← e2, upd_same, List.map_append]
        rfl
      refine ⟨_, rfl, tp, rfl, ⟨_, Same.seqT s2 ht⟩, for_tup (K := K) (xs := as.map V.ref) (fun i σ H' => ∃ (v3 v4 : Option V), σ = [some (.ref hp), some (.ref tp), some (.ref D), v3, v4] ∧ Same H H' ∧ H' D = some (.lst (((hs.map fun h => houseS h.bs h.rows) ++ [("move" : Str)] ++ (sts.take i).map stepS).map V.str))) ⟨_, _, rfl, s2, by rw [List.take_zero, List.map_nil, List.append_nil]; exact eD2⟩ (fun i σ H' _ ⟨_, _, _, s, _⟩ => Same.seqT s ht) ?_ ?_⟩
      · rintro i x σ H3 hx ⟨v3, v4, rfl, s3, hD⟩
        obtain ⟨a, ha, rfl⟩ := map_refs_get hx
        obtain ⟨st, hst, hsa⟩ := paired_at pa ha
        refine g_nx ?_
        dsimp only
        refine ⟨_, rfl, .inl ⟨rfl, _, SqL.lst hD⟩, _, rfl, a, _, rfl, Same.seqT s3 hsa, vs_len st, hparts st (List.mem_of_getElem? hst), fun H4 s4 => ?_⟩
        refine ⟨D, _, _, rfl, rfl, s4 _ _ hD, smallLt (by rw [List.length_map, List.length_append, List.length_append, List.length_map, List.length_map, List.length_take]; show hs.length + 1 + min i sts.length ≤ 1000000; omega), ?_⟩
        refine ⟨_, _, rfl, same_mut (s3.trans s4) nD, ?_⟩
        rw [upd_same]
        have e : sts.take (i + 1) = sts.take i ++ [st] := by rw [List.take_add_one, hst]; rfl
        rw [e, List.map_append (l₁ := sts.take i), ← List.append_assoc, List.map_append (l₂ := [st].map stepS)]
        rfl
      · rintro σ H3 ⟨v3, v4, rfl, s3, hD⟩
        rw [List.length_map, hpl, List.take_of_length_le (Nat.le_refl _)] at hD
        refine ⟨⟨_, rfl⟩, _, rfl, _, D, _, rfl, rfl, .inl (SqL.lst hD), ?_, q H3 s3⟩
        refine Nat.le_trans (join_le _ _ 3000 fun y hy => ?_) ?_
        · rcases List.mem_append.mp hy with hy | hy
          · rcases List.mem_append.mp hy with hy | hy
            · obtain ⟨x, hx, rfl⟩ := List.mem_map.mp hy
              exact hlen x hx
            · rw [List.mem_singleton.mp hy]
              decide
          · obtain ⟨x, hx, rfl⟩ := List.mem_map.mp hy
            refine Nat.le_trans (join_len _ _ 62 fun y hy => ?_) ?_
            · obtain ⟨z, hz, rfl⟩ := List.mem_map.mp hy
              exact strV_len (hparts x hx z hz)
            · rw [List.length_map]
              have := vs_len x
              have e : ((" " : Str)).length = 1 := by decide
              rw [e]
              omega
        · rw [List.length_append, List.length_append, List.length_map, List.length_map]
          have e : (("\n" : Str)).length = 1 := by decide
          rw [e]
          show (hs.length + 1 + sts.length) * _ ≤ _
          omega
end
end LM

set_option Elab.async false
set_option linter.all false
set_option maxRecDepth 100000
set_option maxHeartbeats 4000000
set_option pp.maxSteps 600
set_option pp.deepTerms false
namespace LM
open PySem PySem.Spec PyProof.Rows L2 RZ RT
local macro_rules | `(tactic| walk_at "hp") => `(tactic| first | assumption | exact upd_same | (rw [upd_ne (by assumption)]; assumption) | (rw [upd_ne (Ne.symm (by assumption))]; assumption) | (rw [upd_ne (by assumption)]; exact upd_same) | (rw [upd_ne (Ne.symm (by assumption))]; exact upd_same))
local macro_rules | `(tactic| walk_at "sq") => `(tactic| first | assumption | exact Or.inl (Or.inl (by assumption)) | exact Or.inl (Or.inl upd_same) | exact Or.inl (Or.inl (by walk_at "hp")))
local macro_rules | `(tactic| walk_at "ixl") => `(tactic| refine ⟨_, _, _, _, rfl, rfl, (by walk_at "sq"), (by rfl), ?_⟩)
local macro_rules | `(tactic| walk_at "setl") => `(tactic| refine ⟨_, _, _, _, rfl, rfl, (by walk_at "hp"), (by rfl), ?_⟩)
local macro_rules | `(tactic| walk_at "side") => `(tactic| refine idP ?_; first | omega | (show (0 : Int) < _; omega) | (show (0 : Int) < _ ∧ _ < _; omega) | (refine Or.inr ?_; show (-(2 ^ 64) : Int) < _ ∧ _ < _; omega) | (refine Or.inl ?_; show (-(2 ^ 64) : Int) < _ ∧ _ < _; omega) | exact divW (by omega) (by omega) _ | (refine ⟨by decide, by decide, ?_⟩; decide))
local macro_rules | `(tactic| walk_at "go1") => `(tactic| first
  | refine ⟨_, rfl, ?_⟩
  | refine ⟨_, _, rfl, rfl, (by walk_at "side"), ?_⟩
  | refine ⟨_, _, rfl, (by walk_at "side"), ?_⟩
  | refine ⟨_, _, rfl, rfl, ?_⟩
  | refine Or.inl ⟨_, rfl, ?_⟩
  | refine ⟨_, _, rfl, Or.inl (by walk_at "sq"), ?_⟩
  | walk_at "ixl"
  | walk_at "setl"
  | refine ⟨_, _, rfl, (by walk_at "sq"), rfl, ?_⟩
  | refine ⟨_, _, rfl, (by walk_at "sq"), ?_⟩
  | refine ⟨_, _, rfl, ?_⟩
  | refine ⟨rfl, ?_⟩
  | refine ⟨small (Nat.le_of_ble_eq_true rfl), ?_⟩)
local macro_rules | `(tactic| walk_at "go") => `(tactic| repeat walk_at "go1")

local macro_rules | `(tactic| walk_at "lk") => `(tactic| first | rfl | (rw [lookup_putF, if_pos rfl]) | (rw [lookup_putF, if_neg (by decide +kernel)]; walk_at "lk"))
abbrev sMove__init_ : Stmt := inClass (topS 88) 0
theorem scMove__init_ : FnScope ["self", "houses", "steps", "legs", "through", "becoming", "first", "values", "growths", "many", "value", "later"] ["self", "houses", "steps"] (defScope sMove__init_) := ⟨rfl, rfl, rfl, by decide +kernel, rfl, by decide +kernel, by decide +kernel⟩
def mf (ht st : Addr) (tx : Str) (en lg : Addr) (th be fi : Int) (vs rd : Addr) : List (Str × V) := putF "_round" (.ref rd) (putF "_values" (.ref vs) (putF "_first" (.int fi) (putF "_becoming" (.int be) (putF "_through" (.int th) (putF "_legs" (.ref lg) (putF "_end" (.ref en) (putF "_text" (.str tx) (putF "_steps" (.ref st) (putF "_houses" (.ref ht) [])))))))))
/-- a move: its addresses, and what it is told by -/
structure MD where
  hs : List HD
  sts : List Stp
  ht : Addr
  st : Addr
  lg : Addr
  vs : Addr
  rd : Addr
  many : Nat
noncomputable def legsM (hs : List HD) (sts : List Stp) : List Leg := (lgS hs 0 sts).map LG.leg
noncomputable def MD.ls (d : MD) : List Leg := legsM d.hs d.sts
noncomputable def MD.th (d : MD) : Nat := (thr d.ls (1, 1)).1
noncomputable def MD.be (d : MD) : Nat := (thr d.ls (1, 1)).2
noncomputable def MD.fi (d : MD) : Nat := lsl d.ls 0
/-- by how much the value grows from the i-th frame that is not lost to the next one -/
noncomputable def grow (ls : List Leg) (i : Nat) : Int := (vn ls (lsl ls 0 + i + 1) : Int) - (vn ls (lsl ls 0 + i) : Int)
noncomputable def MD.U (d : MD) : Int := (vn d.ls (d.fi + d.many) : Int) - (vn d.ls d.fi : Int)
noncomputable def MD.fs (d : MD) : List (Str × V) := mf d.ht d.st (moveS d.hs d.sts) (d.hs.getD (behS 0 d.sts) HD0).p d.lg d.th d.be d.fi d.vs d.rd
structure MoveAt (K : PySem.W.Frag) (C cm : Addr) (c : LCs) (old : Addr → Prop) (H : Hp) (m : Addr) (d : MD) : Prop where
  ob : ∃ dx, H m = some (.ins cm dx d.fs)
  hh : HousesAt K C old H d.ht d.hs
  h1 : 1 ≤ d.hs.length
  h3 : d.hs.length ≤ 3
  ss : StepsAt K H d.st d.sts
  fit : fitS d.hs 0 d.sts
  s8 : d.sts.length ≤ 8
  lg : LegsAt K C c old H d.lg (lgS d.hs 0 d.sts)
  vs : H d.vs = some (.lst (natL ((List.range d.many).map fun i => vn d.ls (d.fi + i))))
  rd : H d.rd = some (.tup [.int (d.many : Int), .int d.U])
  nlg : ¬ old d.lg
  nvs : ¬ old d.vs
  th2 : d.th ≤ 20000
  lp : LeastPer (grow d.ls) d.many
  le : d.many ≤ d.th
theorem MoveAt.same {K : PySem.W.Frag} {C cm : Addr} {c : LCs} {old : Addr → Prop} {H H' : Hp} {m : Addr} {d : MD} (a : MoveAt K C cm c old H m d) (s : Same H H') : MoveAt K C cm c old H' m d := by
  obtain ⟨⟨dx, e⟩, h2, h3, h4, h5, h6, h7, h8, h9, h10, h11, h12, h13, h14, h15⟩ := a
  exact ⟨⟨dx, s _ _ e⟩, h2.same s, h3, h4, h5.same s, h6, h7, h8.same s, s _ _ h9, s _ _ h10, h11, h12, h13, h14, h15⟩
theorem tup_els {K : PySem.W.Frag} {H H' : Hp} {q a : Addr} {ys xs : List V} (hq : H q = some (.lst ys)) (e : Else q H H') (h : SqT K H a xs) : SqT K H' a xs := by
  rcases h with (h | ⟨o, h⟩) | h
  · exact .inl (.inl (e _ _ (fun z => by rw [z, hq] at h; cases h) h))
  · exact .inl (.inr ⟨o, e _ _ (fun z => by rw [z, hq] at h; cases h) h⟩)
  · exact .inr h
theorem HousesAt.els {K : PySem.W.Frag} {C : Addr} {old : Addr → Prop} {H H' : Hp} {hp q : Addr} {ys : List V} {hs : List HD} (h : HousesAt K C old H hp hs) (hq : H q = some (.lst ys)) (ho : old q) (e : Else q H H') : HousesAt K C old H' hp hs := ⟨tup_els hq e h.1, fun x hx => (h.2 x hx).els hq ho e⟩
theorem StepsAt.els {K : PySem.W.Frag} {H H' : Hp} {tp q : Addr} {ys : List V} {sts : List Stp} (h : StepsAt K H tp sts) (hq : H q = some (.lst ys)) (e : Else q H H') : StepsAt K H' tp sts := by
  obtain ⟨as, h1, p⟩ := h
  exact ⟨as, tup_els hq e h1, paired_imp p fun a _ b hb => tup_els hq e hb⟩
theorem LegsAt.els {K : PySem.W.Frag} {C : Addr} {c : LCs} {old : Addr → Prop} {H H' : Hp} {lp q : Addr} {ys : List V} {gs : List LG} (h : LegsAt K C c old H lp gs) (nl : ¬ old lp) (hq : H q = some (.lst ys)) (ho : old q) (e : Else q H H') : LegsAt K C c old H' lp gs := by
  obtain ⟨as, h1, p⟩ := h
  exact ⟨as, e _ _ (fun z => nl (z ▸ ho)) h1, paired_imp p fun a _ b hb => hb.els hq ho e⟩
theorem MoveAt.els {K : PySem.W.Frag} {C cm : Addr} {c : LCs} {old : Addr → Prop} {H H' : Hp} {m q : Addr} {ys : List V} {d : MD} (a : MoveAt K C cm c old H m d) (hq : H q = some (.lst ys)) (ho : old q) (e : Else q H H') : MoveAt K C cm c old H' m d := by
  obtain ⟨⟨dx, e1⟩, h2, h3, h4, h5, h6, h7, h8, h9, h10, h11, h12, h13, h14, h15⟩ := a
  have ne : ∀ {b : Addr} {o : HO}, H b = some o → (∀ z, o ≠ .lst z) → H' b = some o := fun {b o} hb hn => e _ _ (fun z => by rw [z, hq] at hb; exact hn _ (Option.some.inj hb).symm) hb
  exact ⟨⟨dx, ne e1 (fun z h => nomatch h)⟩, h2.els hq ho e, h3, h4, h5.els hq e, h6, h7, h8.els h11 hq ho e, e _ _ (fun z => h12 (z ▸ ho)) h9, ne h10 (fun z h => nomatch h), h11, h12, h13, h14, h15⟩
structure MoveTxt (K : PySem.W.Frag) (mg : Str → Option Value) (cm : Addr) : Prop where
  cl : Cls K cm
  n1 : NoAttr K cm "_houses"
  n2 : NoAttr K cm "_steps"
  n3 : NoAttr K cm "_text"
  n4 : NoAttr K cm "_end"
  n5 : NoAttr K cm "_legs"
  n6 : NoAttr K cm "_through"
  n7 : NoAttr K cm "_becoming"
  n8 : NoAttr K cm "_first"
  n9 : NoAttr K cm "_values"
  n10 : NoAttr K cm "_round"
  mgM : mg "Move" = some (.ref cm)
/-! ### the growths of the values -/
section
variable {ls : List Leg}
theorem vn_some (k : ∀ l ∈ ls, l.Ok) {n : Nat} (h : lsl ls 0 ≤ n) : vl ls n = some (vn ls n) := by
  obtain ⟨v, e⟩ := (vl_some k n).mpr h
  rw [e, vn_of e]
theorem vn_per (k : ∀ l ∈ ls, l.Ok) {n : Nat} (q : Nat) (h : lsl ls 0 ≤ n) : vn ls (n + (thr ls (1, 1)).1 * q) = vn ls n + (thr ls (1, 1)).2 * q := vn_of (vl_per k q n _ (vn_some k h))
theorem grow_per (k : ∀ l ∈ ls, l.Ok) : Per (grow ls) (thr ls (1, 1)).1 := fun i => by
  unfold grow
  have h1 := vn_per k 1 (n := lsl ls 0 + i + 1) (by omega)
  have h2 := vn_per k 1 (n := lsl ls 0 + i) (by omega)
  rw [Nat.mul_one, Nat.mul_one] at h1 h2
  rw [show lsl ls 0 + (i + (thr ls (1, 1)).1) + 1 = lsl ls 0 + i + 1 + (thr ls (1, 1)).1 by omega, show lsl ls 0 + (i + (thr ls (1, 1)).1) = lsl ls 0 + i + (thr ls (1, 1)).1 by omega, h1, h2]
  omega
theorem grow_sum (ls : List Leg) : ∀ n, ((List.range n).map (grow ls)).sum = (vn ls (lsl ls 0 + n) : Int) - (vn ls (lsl ls 0) : Int)
  | 0 => by
    show (0 : Int) = _
    rw [Nat.add_zero, Int.sub_self]
  | n + 1 => by
    rw [List.range_succ, List.map_append, List.sum_append, grow_sum ls n]
    show _ + (grow ls n + 0) = _
    unfold grow
    rw [show lsl ls 0 + (n + 1) = lsl ls 0 + n + 1 by omega]
    omega
/-- after so many frames the value is so much greater -/
theorem vn_round {p : Nat} (h : Per (grow ls) p) : ∀ i, (vn ls (lsl ls 0 + (i + p)) : Int) = (vn ls (lsl ls 0 + i) : Int) + ((vn ls (lsl ls 0 + p) : Int) - (vn ls (lsl ls 0) : Int))
  | 0 => by
    rw [Nat.zero_add, Nat.add_zero]
    omega
  | i + 1 => by
    have ih := vn_round h i
    have e := h i
    unfold grow at e
    rw [show lsl ls 0 + (i + 1 + p) = lsl ls 0 + (i + p) + 1 by omega, show lsl ls 0 + (i + 1) = lsl ls 0 + i + 1 by omega]
    omega
theorem vn_rounds {p : Nat} (h : Per (grow ls) p) (i : Nat) : ∀ q, (vn ls (lsl ls 0 + (i + p * q)) : Int) = (vn ls (lsl ls 0 + i) : Int) + (q : Int) * ((vn ls (lsl ls 0 + p) : Int) - (vn ls (lsl ls 0) : Int))
  | 0 => by
    rw [Nat.mul_zero, Nat.add_zero]
    omega
  | q + 1 => by
    have ih := vn_rounds h i q
    have e := vn_round h (i + p * q)
    rw [Nat.mul_succ, ← Nat.add_assoc i, e, ih, Int.natCast_add, Int.add_mul]
    omega
end
/-! ### an instance that has no attributes yet is stored into: the rest stays -/
theorem HD.At.elsI {K : PySem.W.Frag} {C : Addr} {old : Addr → Prop} {H H' : Hp} {h : HD} {m cm dx : Addr} (a : h.At K C old H) (hm : H m = some (.ins cm dx [])) (e : Else m H H') : h.At K C old H' := by
  obtain ⟨⟨d1, sk, ah, rd, e1, e2, e3, e4, e5, e6⟩, h2, h3, h4, h5⟩ := a
  have ne : ∀ {b : Addr} {o : HO}, H b = some o → o ≠ .ins cm dx [] → H' b = some o := fun {b o} hb hn => e _ _ (fun z => by rw [z, hm] at hb; exact hn (Option.some.inj hb).symm) hb
  refine ⟨⟨d1, sk, ah, rd, ne e1 ?_, ne e2 (fun z => nomatch z), ne e3 (fun z => nomatch z), ne e4 (fun z => nomatch z), e5, e6⟩, els_seqT hm e h2, els_rows hm e h3, h4, h5⟩
  intro z
  have z2 : hf h.b h.r sk ah rd (houseS h.bs h.rows) = [] := by
    injection z
  have z3 := hf_round h.b h.r sk ah rd (houseS h.bs h.rows)
  rw [z2] at z3
  cases z3
theorem HousesAt.elsI {K : PySem.W.Frag} {C : Addr} {old : Addr → Prop} {H H' : Hp} {hp m cm dx : Addr} {hs : List HD} (h : HousesAt K C old H hp hs) (hm : H m = some (.ins cm dx [])) (e : Else m H H') : HousesAt K C old H' hp hs := ⟨els_seqT hm e h.1, fun x hx => (h.2 x hx).elsI hm e⟩
theorem StepsAt.elsI {K : PySem.W.Frag} {H H' : Hp} {tp m cm dx : Addr} {sts : List Stp} (h : StepsAt K H tp sts) (hm : H m = some (.ins cm dx [])) (e : Else m H H') : StepsAt K H' tp sts := by
  obtain ⟨as, h1, p⟩ := h
  exact ⟨as, els_seqT hm e h1, paired_imp p fun a _ b hb => els_seqT hm e hb⟩
theorem LegsAt.elsI {K : PySem.W.Frag} {C : Addr} {c : LCs} {old : Addr → Prop} {H H' : Hp} {lp m cm dx : Addr} {gs : List LG} (h : LegsAt K C c old H lp gs) (hm : H m = some (.ins cm dx [])) (e : Else m H H') : LegsAt K C c old H' lp gs := by
  obtain ⟨as, h1, p⟩ := h
  refine ⟨as, e _ _ (fun z => by rw [z, hm] at h1; cases h1) h1, paired_imp p fun a _ g ⟨⟨d1, hb⟩, hs⟩ => ⟨⟨d1, e _ _ (fun z => ?_) hb⟩, ?_⟩⟩
  · rw [z, hm] at hb
    injection hb with hb
    injection hb with _ _ hb
    cases g with
    | sh k => (have h3 := fS_amount k; rw [show fS k = [] from hb.symm] at h3; cases h3)
    | lb h1 h2 k nx => (have h3 := fL_way h1.p h2.p k (.str (wayS nx)); rw [show fL h1.p h2.p k (.str (wayS nx)) = [] from hb.symm] at h3; cases h3)
    | un h1 W a => (have h3 := fU_ahead h1.p W a; rw [show fU h1.p W a = [] from hb.symm] at h3; cases h3)
    | rt a b => (have h3 := fR_divisor a b; rw [show fR a b = [] from hb.symm] at h3; cases h3)
  · cases g with
    | sh k => trivial
    | lb h1 h2 k nx => exact ⟨hs.1.elsI hm e, hs.2.elsI hm e⟩
    | un h1 W a => exact ⟨hs.1.elsI hm e, hs.2⟩
    | rt a b => exact hs
theorem rgV_natL (a n : Nat) : rgV (a : Int) ((a : Int) + (n : Int)) = natL ((List.range n).map fun i => a + i) := by
  unfold rgV natL
  rw [show ((a : Int) + (n : Int) - (a : Int)).toNat = n by omega, List.map_map]
  exact List.map_congr_left fun i _ => by
    show V.int _ = V.int _
    rw [Int.natCast_add]
theorem natL_shift {g : Nat → Nat} {n : Nat} {x : Int} (h1 : 1 ≤ n) (h : x = ((g n : Nat) : Int)) : (natL ((List.range n).map g)).drop 1 ++ [V.int x] = natL ((List.range n).map fun i => g (i + 1)) := by
  obtain ⟨t, rfl⟩ : ∃ t, n = t + 1 := ⟨n - 1, by omega⟩
  subst h
  conv => lhs; rw [List.range_succ_eq_map]
  rw [List.map_cons, List.map_map]
  show (V.int ((g 0 : Nat) : Int) :: natL _).drop 1 ++ _ = _
  rw [List.drop_one, List.tail_cons, List.range_succ, List.map_append]
  exact (natL_snoc _ _).symm
theorem range_asc (a n : Nat) : ((List.range n).map fun i => a + i).Pairwise (· ≤ ·) := by
  rw [List.pairwise_map]
  exact List.Pairwise.imp (fun h => Nat.add_le_add_left (Nat.le_of_lt h) a) List.pairwise_lt_range
theorem few6 {f1 f2 f3 f4 f5 f6 : Str} {v1 v2 v3 v4 v5 v6 : V} : (putF f6 v6 (putF f5 v5 (putF f4 v4 (putF f3 v3 (putF f2 v2 (putF f1 v1 [])))))).length < 1000 := Nat.lt_of_le_of_lt (pf_len (pf_len (pf_len (pf_len (pf_len (pf_len (Nat.le_refl 0))))))) (by decide)
theorem few7 {f1 f2 f3 f4 f5 f6 f7 : Str} {v1 v2 v3 v4 v5 v6 v7 : V} : (putF f7 v7 (putF f6 v6 (putF f5 v5 (putF f4 v4 (putF f3 v3 (putF f2 v2 (putF f1 v1 []))))))).length < 1000 := Nat.lt_of_le_of_lt (pf_len (pf_len (pf_len (pf_len (pf_len (pf_len (pf_len (Nat.le_refl 0)))))))) (by decide)
theorem few8 {f1 f2 f3 f4 f5 f6 f7 f8 : Str} {v1 v2 v3 v4 v5 v6 v7 v8 : V} : (putF f8 v8 (putF f7 v7 (putF f6 v6 (putF f5 v5 (putF f4 v4 (putF f3 v3 (putF f2 v2 (putF f1 v1 [])))))))).length < 1000 := Nat.lt_of_le_of_lt (pf_len (pf_len (pf_len (pf_len (pf_len (pf_len (pf_len (pf_len (Nat.le_refl 0))))))))) (by decide)
theorem few9 {f1 f2 f3 f4 f5 f6 f7 f8 f9 : Str} {v1 v2 v3 v4 v5 v6 v7 v8 v9 : V} : (putF f9 v9 (putF f8 v8 (putF f7 v7 (putF f6 v6 (putF f5 v5 (putF f4 v4 (putF f3 v3 (putF f2 v2 (putF f1 v1 []))))))))).length < 1000 := Nat.lt_of_le_of_lt (pf_len (pf_len (pf_len (pf_len (pf_len (pf_len (pf_len (pf_len (pf_len (Nat.le_refl 0)))))))))) (by decide)
def spMoveInit (K : PySem.W.Frag) (C cm : Addr) (c : LCs) : Sp := fun vs H Q _ => ∃ (old : Addr → Prop) (m dx ht st : Addr) (hs : List HD) (sts : List Stp), vs = [.ref m, .ref ht, .ref st] ∧ H m = some (.ins cm dx []) ∧ (∀ q, old q → H q ≠ none) ∧ HousesAt K C old H ht hs ∧ 1 ≤ hs.length ∧ hs.length ≤ 3 ∧ StepsAt K H st sts ∧ fitS hs 0 sts ∧ sts.length ≤ 8 ∧ (thr (legsM hs sts) (1, 1)).1 ≤ 20000 ∧
  ∀ (d : MD) H', d.hs = hs → d.sts = sts → d.ht = ht → d.st = st → MoveAt K C cm c old H' m d → Else m H H' → Q .non H'
section
variable {P : Program} {w : World} {K : PySem.W.Frag} {mg : Str → Option Value} {base : Heap} {C cm : Addr} {c : LCs}
theorem ok_moveinit {f : Addr} {fd : FuncData} {dv : List V} (F : FunD K "__init__" "Move.__init__" (defArgs sMove__init_) (defBody sMove__init_) (defScope sMove__init_) dv [] f fd) (TM : MoveTxt K mg cm) (N : Names mg) (M : MConsts mg)
    (Dcheck_houses : DefK P w K mg base "check_houses" ["houses"] 1 (spChkHouses K C)) (Dcheck_steps : DefK P w K mg base "check_steps" ["houses", "steps"] 6 (spChkSteps K C)) (Dlegs_of : DefK P w K mg base "legs_of" ["houses", "steps"] 5 (spLegsOf K C c))
    (Dleast_through : DefK P w K mg base "least_through" ["legs"] 6 (spThrough K C c)) (Dleast_led_to : DefK P w K mg base "least_led_to" ["legs", "frame"] 7 (spLeastLed K C c)) (Dled : DefK P w K mg base "led" ["legs", "frames"] 5 (spLed K C c))
    (Dleast_repeat : DefK P w K mg base "least_repeat" ["counts"] 1 (spLeast K)) (Dmove_text : DefK P w K mg base "move_text" ["houses", "steps"] 4 (spMoveText K C)) (Dlast_house : DefK P w K mg base "last_house" ["houses", "steps"] 2 (spLastHouse K C)) :
    FnOk P w K mg base CX0 8 f fd ["self", "houses", "steps"] (spMoveInit K C cm c) := by
  have sc := scMove__init_
  refine funD_ok F sc (fun vs H Q E h => ?_) (fun cdv A outer s H vs Q E hr h => ?_)
  · obtain ⟨old, m, dx, ht, st, hs, sts, rfl, _⟩ := h
    rfl
  · obtain ⟨old, m, dx, ht, st, hs, sts, rfl, hm, hold, hH, h1, h3, hS, hfit, h8, hth, q⟩ := h
    refine ⟨_, (pss_cons (ps_expr (pe_d Dcheck_houses (hr.mono (by decide)) rfl (pa_cons (pv 1) pa_nil)))
      (pss_cons (ps_expr (pe_d Dcheck_steps (hr.mono (by decide)) rfl (pa_cons (pv 1) (pa_cons (pv 2) pa_nil))))
      (pss_cons (ps_set (i := 3) sc.nd rfl (Or.inl rfl) (pe_d Dlegs_of (hr.mono (by decide)) rfl (pa_cons (pv 1) (pa_cons (pv 2) pa_nil))))
      (pss_cons (ps_asg (pe_d Dleast_through (hr.mono (by decide)) rfl (pa_cons (pv 3) pa_nil)) (pg_tup rfl (pgs_cons (pg_name (i := 4) sc.nd rfl (Or.inl rfl)) (pgs_cons (pg_name (i := 5) sc.nd rfl (Or.inl rfl)) pgs_nil))))
      (pss_cons (ps_if (pt_cmpR op_gt (pv 4) (pe_const rfl M.MOST_ROUND) (nomark _)) (pss_one ps_never) pss_nil)
      (pss_cons (ps_set (i := 6) sc.nd rfl (Or.inl rfl) (pe_d Dleast_led_to (hr.mono (by decide)) rfl (pa_cons (pv 3) (pa_cons pe_int pa_nil))))
      (pss_cons (ps_set (i := 7) sc.nd rfl (Or.inl rfl) (pe_d Dled (hr.mono (by decide)) rfl (pa_cons (pv 3) (pa_cons (pe_listRgW rfl rfl N.list (prg_2 rfl N.range (pv 6) (pe_op op_add (pv 6) (pv 4)))) pa_nil))))
      (pss_cons (ps_setLc (i := 8) (own := [("value", 10), ("later", 11)]) (g := gTup K 2 (gCons (gName 10) (gCons (gName 11) gNil))) rfl sc.nd rfl rfl (sw_true rfl rfl rfl (by decide +kernel)) (pi_zip rfl N.zip (pa_cons (pv 7) (pa_cons (pe_lst (StX.pa_star (pe_slice sl_list (pv 7) (po_some pe_int) po_none) (pa_cons (pe_op op_add (pe_ix ix_list (pv 7) pe_int (fun _ _ => rfl)) (pv 5)) pa_nil))) pa_nil))) (blkOk_by (own := [("value", 10), ("later", 11)]) (N := ["self", "houses", "steps", "legs", "through", "becoming", "first", "values", "growths", "many", "value", "later"]) (sc := defScope (inClass (topS 88) 0)) (by decide +kernel)) (fun _ _ _ _ _ => (pg_tup rfl (pgs_cons (pg_name (i := 10) sc.nd rfl (Or.inl rfl) (Or.inr rfl)) (pgs_cons (pg_name (i := 11) sc.nd rfl (Or.inl rfl) (Or.inr rfl)) pgs_nil)))) (fun _ _ _ _ _ => pts_nil) (fun _ _ _ _ _ => (pe_op op_sub (pv 11) (pv 10))))
      (pss_cons (ps_set (i := 9) sc.nd rfl (Or.inl rfl) (pe_d Dleast_repeat (hr.mono (by decide)) rfl (pa_cons (pv 8) pa_nil)))
      (pss_cons (ps_fld (pv 0) (pv 1) rfl)
      (pss_cons (ps_fld (pv 0) (pv 2) rfl)
      (pss_cons (ps_fld (pv 0) (pe_d Dmove_text (hr.mono (by decide)) rfl (pa_cons (pv 1) (pa_cons (pv 2) pa_nil))) rfl)
      (pss_cons (ps_fld (pv 0) (pe_d Dlast_house (hr.mono (by decide)) rfl (pa_cons (pv 1) (pa_cons (pv 2) pa_nil))) rfl)
      (pss_cons (ps_fld (pv 0) (pv 3) rfl)
      (pss_cons (ps_fld (pv 0) (pv 4) rfl)
      (pss_cons (ps_fld (pv 0) (pv 5) rfl)
      (pss_cons (ps_fld (pv 0) (pv 6) rfl)
      (pss_cons (ps_fld (pv 0) (pe_slice sl_list (pv 7) po_none (po_some (pv 9))) rfl)
      (pss_one (ps_fld (pv 0) (pe_tup (pa_cons (pv 9) (pa_cons (pe_callB (cr_sum rfl) (by rfl) N.sum (by decide +kernel) (pa_cons (pe_slice sl_list (pv 8) po_none (po_some (pv 9))) pa_nil)) pa_nil))) rfl)))))))))))))))))))), ?_⟩
    refine ⟨_, rfl, old, ht, hs, rfl, hH, h1, h3, fun H1 s1 => ?_⟩
    refine ⟨_, rfl, _, rfl, old, ht, st, hs, sts, rfl, hH.same s1, h1, hS.same s1, hfit, h8, fun H2 s2 => ?_⟩
    have s02 := s1.trans s2
    refine ⟨_, rfl, _, rfl, old, ht, st, hs, sts, rfl, hH.same s02, h1, hS.same s02, hfit, h8, fun lp H3 s3 nlp hL => ?_⟩
    have s03 := s02.trans s3
    refine ⟨_, rfl, old, lp, _, rfl, hL, by rw [lgS_len]; exact h8, fun t H4 s4 nt et => ?_⟩
    have s04 := s03.trans s4
    have hok := hL.ok
    have hL4 := hL.same s4
    have hls : (lgS hs 0 sts).map LG.leg = legsM hs sts := rfl
    rw [hls] at hok et
    generalize hL0 : legsM hs sts = ls at hok et hth hls
    have hthp := (thr_pos hok (1, 1) (Nat.le_refl _) (Nat.le_refl _)).1
    generalize hT : (thr ls (1, 1)).1 = T at et hth hthp
    generalize hB : (thr ls (1, 1)).2 = B at et
    refine ⟨t, _, rfl, SqT.tup et, rfl, _, _, rfl, _, _, rfl, rfl, ?_⟩
    refine ⟨_, rfl, _, _, rfl, rfl, _, rfl, ?_⟩
    refine ifD (fun hd => absurd hd (by omega)) (fun _ => ?_)
    refine ⟨_, rfl, old, lp, _, 0, rfl, hL4, fun H5 s5 => ?_⟩
    rw [hls]
    have s05 := s04.trans s5
    generalize hFi : lsl ls 0 = fi
    refine ⟨_, rfl, _, rfl, _, rfl, _, rfl, _, _, rfl, rfl, _, _, rfl, rfl, by omega, ?_⟩
    rw [rgV_natL]
    (intro l0 nl0; generalize e_l0 : upd H5 l0 _ = H6; have s6 : Same H5 H6 := fun b x hb => (congrFun e_l0 b).symm.trans (same_new nl0 b x hb); have h6 := (congrFun e_l0 l0).symm.trans upd_same; clear e_l0)
    have s06 := s05.trans s6
    have hL6 := hL4.same (s5.trans s6)
    refine ⟨old, lp, l0, _, _, rfl, hL6, h6, range_asc fi T, by rw [List.length_map, List.length_range]; omega, fun n hn => ?_, fun vq H7 s7 hvq evq => ?_⟩
    · obtain ⟨i, hi, rfl⟩ := List.mem_map.mp hn
      rw [hls]
      exact ⟨_, vn_some hok (by omega)⟩
    rw [hls, List.map_map] at evq
    replace evq : H7 vq = some (.lst (natL ((List.range T).map fun i => vn ls (fi + i)))) := evq
    have s07 := s06.trans s7
    have nvq : H vq = none := by
      rcases hvq with z | z
      · rw [z]; exact s05.free nl0
      · exact s06.free z
    have hper : vn ls (fi + T) = vn ls fi + B := by
      have h := vn_per hok 1 (n := fi) (by omega)
      rw [Nat.mul_one, Nat.mul_one, hT, hB] at h
      exact h
    refine ⟨_, rfl, _, rfl, _, rfl, vq, _, rfl, SqL.lst evq, ?_⟩
    (intro p1 np1; generalize e_p1 : upd H7 p1 _ = H8; have s8 : Same H7 H8 := fun b x hb => (congrFun e_p1 b).symm.trans (same_new np1 b x hb); have g8 := (congrFun e_p1 p1).symm.trans upd_same; clear e_p1)
    have evq8 := s8 _ _ evq
    have e0 : atI (natL ((List.range T).map fun i => vn ls (fi + i))) 0 = some (.int ((vn ls (fi + 0) : Nat) : Int)) := natL_at (i := 0) (by rw [List.getElem?_map, List.getElem?_range hthp]; rfl)
    refine ⟨p1, _, rfl, .inr (SqL.lst g8), _, rfl, vq, _, _, _, rfl, rfl, SqL.lst evq8, e0, _, rfl, _, _, rfl, rfl, ?_, ?_⟩
    · rw [cut_tail, List.length_append, List.length_drop, natL_len, List.length_map, List.length_range]
      refine small ?_
      show T - 1 + 1 ≤ 1000000
      omega
    rw [cut_tail, natL_shift (g := fun i => vn ls (fi + i)) hthp (by show ((vn ls (fi + 0) : Nat) : Int) + (B : Int) = _; rw [Nat.add_zero, hper]; omega)]
    (intro p2 np2; generalize e_p2 : upd H8 p2 _ = H9; have s9 : Same H8 H9 := fun b x hb => (congrFun e_p2 b).symm.trans (same_new np2 b x hb); have h9 := (congrFun e_p2 p2).symm.trans upd_same; clear e_p2)
    have evq9 := s9 _ _ evq8
    refine ⟨vq, p2, _, _, rfl, SqL.lst evq9, SqL.lst h9, ?_⟩
    intro D nD
    refine lc_it (walk_zip (n := T) (by rw [natL_len, natL_len, List.length_map, List.length_map, List.length_range]; omega)) (fun i H' => Same H9 H' ∧ H' D = some (.lst (((List.range i).map (grow ls)).map V.int))) ⟨same_new nD, upd_same⟩ (fun i H' _ ⟨sm, _⟩ => ⟨sm.seq (SqL.lst evq9), sm.seq (SqL.lst h9)⟩) ?_ ?_
    · rintro i x H2' H3' hi ⟨sm, eD⟩ ⟨tt, x1, x2, rfl, nT, rfl, g1, g2⟩
      have f1 : x1 = V.int ((vn ls (fi + i) : Nat) : Int) := by
        have : (natL ((List.range T).map fun i => vn ls (fi + i)))[i]? = some (V.int ((vn ls (fi + i) : Nat) : Int)) := by
          unfold natL
          rw [List.getElem?_map, List.getElem?_map, List.getElem?_range hi]
          rfl
        exact Option.some.inj (g1.symm.trans this)
      have f2 : x2 = V.int ((vn ls (fi + (i + 1)) : Nat) : Int) := by
        have : (natL ((List.range T).map fun i => vn ls (fi + (i + 1))))[i]? = some (V.int ((vn ls (fi + (i + 1)) : Nat) : Int)) := by
          unfold natL
          rw [List.getElem?_map, List.getElem?_map, List.getElem?_range hi]
          rfl
        exact Option.some.inj (g2.symm.trans this)
      subst f1 f2
      refine ⟨tt, _, rfl, SqT.tup upd_same, rfl, _, _, rfl, _, _, rfl, rfl, rfl, ?_⟩
      have eD2 := same_new nT (o := HO.tup [V.int ((vn ls (fi + i) : Nat) : Int), V.int ((vn ls (fi + (i + 1)) : Nat) : Int)]) _ _ eD
      refine ⟨_, rfl, _, rfl, _, _, rfl, rfl, _, eD2, smallLt (by rw [List.length_map, List.length_map, List.length_range]; omega), same_mut (Same.of_new sm nT) nD, ?_⟩
      rw [upd_same, List.range_succ, List.map_append, List.map_append]
      unfold grow
      rw [hFi]
      rfl
    rintro H10 ⟨s10, eD⟩
    have s710 := s8.trans (s9.trans s10)
    have s010 := s07.trans s710
    have evq10 := s10 _ _ evq9
    have hgl : ((List.range T).map (grow ls)).length = T := by rw [List.length_map, List.length_range]
    refine ⟨_, rfl, D, _, rfl, SqL.lst eD, by omega, by omega, fun k H11 s11 rep => ?_⟩
    have lp0 := rep_least (hT ▸ grow_per hok) rep
    have hkT : k ≤ T := by have := rep.2.1; omega
    have s011 := s010.trans s11
    have hm11 := s011 _ _ hm
    have hH11 := hH.same s011
    have hS11 := hS.same s011
    have hL11 := hL6.same (s7.trans (s710.trans s11))
    have eD11 := s11 _ _ eD
    have evq11 := s11 _ _ evq10
    refine ⟨_, rfl, _, rfl, m, cm, dx, _, rfl, hm11, TM.cl, TM.n1, few0, ?_⟩
    generalize z12 : upd H11 m _ = H12
    have hm12 := (congrFun z12 m).symm.trans upd_same
    have x12 : Else m H11 H12 := z12 ▸ els_upd
    refine ⟨_, rfl, _, rfl, m, cm, dx, _, rfl, hm12, TM.cl, TM.n2, few1, ?_⟩
    generalize z13 : upd H12 m _ = H13
    have hm13 := (congrFun z13 m).symm.trans upd_same
    have x13 : Else m H11 H13 := x12.trans (z13 ▸ els_upd)
    refine ⟨_, rfl, _, rfl, old, ht, st, hs, sts, rfl, hH11.elsI hm11 x13, h3, hS11.elsI hm11 x13, fitS_parts hH h3 h1 hfit, h8, fun H14 s14 => ?_⟩
    have hm14 := s14 _ _ hm13
    have x14 : Else m H11 H14 := x13.trans (Same.els s14)
    refine ⟨_, rfl, m, cm, dx, _, rfl, hm14, TM.cl, TM.n3, few2, ?_⟩
    generalize z15 : upd H14 m _ = H15
    have hm15 := (congrFun z15 m).symm.trans upd_same
    have x15 : Else m H11 H15 := x14.trans (z15 ▸ els_upd)
    refine ⟨_, rfl, _, rfl, old, ht, st, hs, sts, rfl, hH11.elsI hm11 x15, h1, hS11.elsI hm11 x15, hfit, fun H16 s16 => ?_⟩
    have hm16 := s16 _ _ hm15
    have x16 : Else m H11 H16 := x15.trans (Same.els s16)
    refine ⟨_, rfl, m, cm, dx, _, rfl, hm16, TM.cl, TM.n4, few3, ?_⟩
    generalize z17 : upd H16 m _ = H17
    have hm17 := (congrFun z17 m).symm.trans upd_same
    have x17 : Else m H11 H17 := x16.trans (z17 ▸ els_upd)
    refine ⟨_, rfl, _, rfl, m, cm, dx, _, rfl, hm17, TM.cl, TM.n5, few4, ?_⟩
    generalize z18 : upd H17 m _ = H18
    have hm18 := (congrFun z18 m).symm.trans upd_same
    have x18 : Else m H11 H18 := x17.trans (z18 ▸ els_upd)
    refine ⟨_, rfl, _, rfl, m, cm, dx, _, rfl, hm18, TM.cl, TM.n6, few5, ?_⟩
    generalize z19 : upd H18 m _ = H19
    have hm19 := (congrFun z19 m).symm.trans upd_same
    have x19 : Else m H11 H19 := x18.trans (z19 ▸ els_upd)
    refine ⟨_, rfl, _, rfl, m, cm, dx, _, rfl, hm19, TM.cl, TM.n7, few6, ?_⟩
    generalize z20 : upd H19 m _ = H20
    have hm20 := (congrFun z20 m).symm.trans upd_same
    have x20 : Else m H11 H20 := x19.trans (z20 ▸ els_upd)
    refine ⟨_, rfl, _, rfl, m, cm, dx, _, rfl, hm20, TM.cl, TM.n8, few7, ?_⟩
    generalize z21 : upd H20 m _ = H21
    have hm21 := (congrFun z21 m).symm.trans upd_same
    have x21 : Else m H11 H21 := x20.trans (z21 ▸ els_upd)
    have nvm : vq ≠ m := fun z => by rw [z, hm11] at evq11; cases evq11
    have nDm : D ≠ m := fun z => by rw [z, hm11] at eD11; cases eD11
    refine ⟨_, rfl, _, rfl, _, rfl, vq, _, rfl, SqL.lst (x21 _ _ nvm evq11), ?_⟩
    (intro vs nvs; generalize e_vs : upd H21 vs _ = H22; have s22 : Same H21 H22 := fun b x hb => (congrFun e_vs b).symm.trans (same_new nvs b x hb); have h22 := (congrFun e_vs vs).symm.trans upd_same; clear e_vs)
    have hm22 := s22 _ _ hm21
    have nvsm : vs ≠ m := fun z => by rw [z, hm21] at nvs; cases nvs
    refine ⟨_, rfl, m, cm, dx, _, rfl, hm22, TM.cl, TM.n9, few8, ?_⟩
    generalize z23 : upd H22 m _ = H23
    have hm23 := (congrFun z23 m).symm.trans upd_same
    have x23 : Else m H11 H23 := (x21.trans (Same.els s22)).trans (z23 ▸ els_upd)
    refine ⟨_, rfl, _, rfl, _, rfl, _, rfl, D, _, rfl, SqL.lst (x23 _ _ nDm eD11), ?_⟩
    (intro p3 np3; generalize e_p3 : upd H23 p3 _ = H24; have s24 : Same H23 H24 := fun b x hb => (congrFun e_p3 b).symm.trans (same_new np3 b x hb); have h24 := (congrFun e_p3 p3).symm.trans upd_same; clear e_p3)
    have hm24 := s24 _ _ hm23
    refine ⟨p3, ((List.range k).map (grow ls)), rfl, SqL.lst (by rw [h24, cut_to, ← List.map_take, ← List.map_take, List.take_range, Nat.min_eq_left hkT]), Nat.le_of_ble_eq_true rfl, ?_⟩
    (intro rd nrd; generalize e_rd : upd H24 rd _ = H25; have s25 : Same H24 H25 := fun b x hb => (congrFun e_rd b).symm.trans (same_new nrd b x hb); have h25 := (congrFun e_rd rd).symm.trans upd_same; clear e_rd)
    have hm25 := s25 _ _ hm24
    have nrm : rd ≠ m := fun z => by rw [z, hm24] at nrd; cases nrd
    refine ⟨_, rfl, m, cm, dx, _, rfl, hm25, TM.cl, TM.n10, few9, ?_⟩
    generalize z26 : upd H25 m _ = H26
    have hm26 := (congrFun z26 m).symm.trans upd_same
    have y26 : Else m H25 H26 := z26 ▸ els_upd
    have x26 : Else m H11 H26 := (x23.trans (Same.els (s24.trans s25))).trans y26
    have notold : ∀ {a : Addr}, H a = none → ¬ old a := fun {a} hn ho => hold a ho hn
    rw [grow_sum, hFi] at h25
    have lpn : lp ≠ m := fun z => by
      obtain ⟨as, e, _⟩ := hL11
      rw [z, hm11] at e
      cases e
    refine q ⟨hs, sts, ht, st, lp, vs, rd, k⟩ H26 rfl rfl rfl rfl ⟨⟨dx, ?_⟩, hH11.elsI hm11 x26, h1, h3, hS11.elsI hm11 x26, hfit, h8, hL11.elsI hm11 x26, ?_, ?_, notold (s02.free nlp), notold ?_, ?_, ?_, ?_⟩ ((Same.els s011).trans x26)
    · rw [hm26]
      unfold MD.fs MD.th MD.be MD.fi MD.ls
      dsimp only
      rw [hL0, hT, hB, hFi]
      rfl
    · have hz : H26 vs = some (.lst (cutV (natL ((List.range T).map fun i => vn ls (fi + i))) none (some (k : Int)))) := y26 _ _ nvsm ((s24.trans s25) _ _ (z23 ▸ (by rw [upd_ne nvsm]; exact h22)))
      rw [hz, cut_to]
      unfold MD.fi MD.ls
      dsimp only
      rw [hL0, hFi]
      refine congrArg (fun z => some (HO.lst z)) ?_
      unfold natL
      rw [← List.map_take, ← List.map_take, List.take_range, Nat.min_eq_left hkT]
    · have hz := y26 _ _ nrm h25
      rw [hz]
      unfold MD.U MD.fi MD.ls
      dsimp only
      rw [hL0, hFi]
    · exact s011.free (els_free x21 nvsm nvs)
    · show (thr (legsM hs sts) (1, 1)).1 ≤ 20000
      rw [hL0, hT]
      exact hth
    · show LeastPer (grow (legsM hs sts)) k
      rw [hL0]
      exact lp0
    · show k ≤ (thr (legsM hs sts) (1, 1)).1
      rw [hL0, hT]
      exact hkT
end
end LM

set_option Elab.async false
set_option linter.all false
set_option maxRecDepth 100000
set_option maxHeartbeats 1000000
set_option pp.maxSteps 600
set_option pp.deepTerms false
namespace LM
open PySem PySem.Spec PyProof.Rows L2 RZ RT
local macro_rules | `(tactic| walk_at "hp") => `(tactic| first | assumption | exact upd_same | (rw [upd_ne (by assumption)]; assumption) | (rw [upd_ne (Ne.symm (by assumption))]; assumption) | (rw [upd_ne (by assumption)]; exact upd_same) | (rw [upd_ne (Ne.symm (by assumption))]; exact upd_same))
local macro_rules | `(tactic| walk_at "sq") => `(tactic| first | assumption | exact Or.inl (Or.inl (by assumption)) | exact Or.inl (Or.inl upd_same) | exact Or.inl (Or.inl (by walk_at "hp")))
local macro_rules | `(tactic| walk_at "ixl") => `(tactic| refine ⟨_, _, _, _, rfl, rfl, (by walk_at "sq"), (by rfl), ?_⟩)
local macro_rules | `(tactic| walk_at "setl") => `(tactic| refine ⟨_, _, _, _, rfl, rfl, (by walk_at "hp"), (by rfl), ?_⟩)
local macro_rules | `(tactic| walk_at "side") => `(tactic| refine idP ?_; first | omega | (show (0 : Int) < _; omega) | (show (0 : Int) < _ ∧ _ < _; omega) | (refine Or.inr ?_; show (-(2 ^ 64) : Int) < _ ∧ _ < _; omega) | (refine Or.inl ?_; show (-(2 ^ 64) : Int) < _ ∧ _ < _; omega) | exact divW (by omega) (by omega) _ | (refine ⟨by decide, by decide, ?_⟩; decide))
local macro_rules | `(tactic| walk_at "go1") => `(tactic| first
  | refine ⟨_, rfl, ?_⟩
  | refine ⟨_, _, rfl, rfl, (by walk_at "side"), ?_⟩
  | refine ⟨_, _, rfl, (by walk_at "side"), ?_⟩
  | refine ⟨_, _, rfl, rfl, ?_⟩
  | refine Or.inl ⟨_, rfl, ?_⟩
  | refine ⟨_, _, rfl, Or.inl (by walk_at "sq"), ?_⟩
  | walk_at "ixl"
  | walk_at "setl"
  | refine ⟨_, _, rfl, (by walk_at "sq"), rfl, ?_⟩
  | refine ⟨_, _, rfl, (by walk_at "sq"), ?_⟩
  | refine ⟨_, _, rfl, ?_⟩
  | refine ⟨rfl, ?_⟩
  | refine ⟨small (Nat.le_of_ble_eq_true rfl), ?_⟩)
local macro_rules | `(tactic| walk_at "go") => `(tactic| repeat walk_at "go1")

local macro_rules | `(tactic| walk_at "lk") => `(tactic| first | rfl | (rw [lookup_putF, if_pos rfl]) | (rw [lookup_putF, if_neg (by decide +kernel)]; walk_at "lk"))
abbrev sMove_of : Stmt := inClass (topS 88) 9
theorem scMove_of : FnScope ["self", "frame", "many", "growth", "rounds", "rest"] ["self", "frame"] (defScope sMove_of) := ⟨rfl, rfl, rfl, by decide +kernel, rfl, by decide +kernel, by decide +kernel⟩
theorem MD.first (d : MD) : d.fs.lookup ("_first" : Str) = some (.int (d.fi : Int)) := by
  unfold MD.fs mf
  walk_at "lk"
theorem MD.round (d : MD) : d.fs.lookup ("_round" : Str) = some (.ref d.rd) := by
  unfold MD.fs mf
  walk_at "lk"
theorem MD.values (d : MD) : d.fs.lookup ("_values" : Str) = some (.ref d.vs) := by
  unfold MD.fs mf
  walk_at "lk"
theorem MD.no (d : MD) {m : Str} (h1 : ¬ m = "_round") (h2 : ¬ m = "_values") (h3 : ¬ m = "_first") (h4 : ¬ m = "_becoming") (h5 : ¬ m = "_through") (h6 : ¬ m = "_legs") (h7 : ¬ m = "_end") (h8 : ¬ m = "_text") (h9 : ¬ m = "_steps") (h10 : ¬ m = "_houses") : d.fs.lookup m = none := by
  unfold MD.fs mf
  rw [lookup_putF, if_neg h1, lookup_putF, if_neg h2, lookup_putF, if_neg h3, lookup_putF, if_neg h4, lookup_putF, if_neg h5, lookup_putF, if_neg h6, lookup_putF, if_neg h7, lookup_putF, if_neg h8, lookup_putF, if_neg h9, lookup_putF, if_neg h10]
  rfl
theorem MD.no_of (d : MD) : d.fs.lookup ("of" : Str) = none := d.no (by decide +kernel) (by decide +kernel) (by decide +kernel) (by decide +kernel) (by decide +kernel) (by decide +kernel) (by decide +kernel) (by decide +kernel) (by decide +kernel) (by decide +kernel)
theorem MD.no_round (d : MD) : d.fs.lookup ("round" : Str) = none := d.no (by decide +kernel) (by decide +kernel) (by decide +kernel) (by decide +kernel) (by decide +kernel) (by decide +kernel) (by decide +kernel) (by decide +kernel) (by decide +kernel) (by decide +kernel)
/-- the value for a frame -/
noncomputable def MD.val (d : MD) (n : Nat) : Option Int := (vl d.ls n).map fun v => (v : Int)
section
variable {K : PySem.W.Frag} {C cm : Addr} {c : LCs} {old : Addr → Prop} {H : Hp} {m : Addr} {d : MD}
theorem MoveAt.ok (a : MoveAt K C cm c old H m d) : ∀ l ∈ d.ls, l.Ok := a.lg.ok
theorem MoveAt.U_le (a : MoveAt K C cm c old H m d) : 0 ≤ d.U ∧ d.U ≤ (d.be : Int) := by
  have k := a.ok
  obtain ⟨t, ht⟩ := a.lp.dvd (grow_per k)
  have e := vn_rounds a.lp.2.1 0 t
  rw [Nat.zero_add, Nat.add_zero, ← ht] at e
  have e2 := vn_per k 1 (n := lsl d.ls 0) (Nat.le_refl _)
  rw [Nat.mul_one, Nat.mul_one] at e2
  have hb := (thr_pos k (1, 1) (Nat.le_refl _) (Nat.le_refl _)).1
  have ht1 : 1 ≤ t := by
    rcases Nat.eq_zero_or_pos t with z | z
    · rw [z, Nat.mul_zero] at ht
      omega
    · exact z
  have hU : d.U = (vn d.ls (lsl d.ls 0 + d.many) : Int) - (vn d.ls (lsl d.ls 0) : Int) := rfl
  have hbe : (d.be : Int) = (t : Int) * d.U := by
    rw [hU]
    show (((thr d.ls (1, 1)).2 : Nat) : Int) = _
    omega
  have h0 : 0 ≤ d.U := by
    have : vn d.ls (lsl d.ls 0) ≤ vn d.ls (lsl d.ls 0 + d.many) := by
      obtain ⟨w, e, hw⟩ := vl_mono k (show lsl d.ls 0 ≤ lsl d.ls 0 + d.many by omega) (vn_some k (Nat.le_refl _))
      rw [vn_of e]
      exact hw
    omega
  refine ⟨h0, ?_⟩
  rw [hbe]
  have := Int.mul_le_mul_of_nonneg_right (show (1 : Int) ≤ (t : Int) by omega) h0
  omega
theorem MoveAt.val_lost (a : MoveAt K C cm c old H m d) {n : Nat} (h : n < d.fi) : d.val n = none := by
  unfold MD.val
  rw [(vl_none a.ok n).mpr h]
  rfl
theorem MoveAt.val_at (a : MoveAt K C cm c old H m d) {n : Nat} (h : d.fi ≤ n) : d.val n = some ((vn d.ls (d.fi + (n - d.fi) % d.many) : Int) + (((n - d.fi) / d.many : Nat) : Int) * d.U) := by
  unfold MD.val
  rw [vn_some a.ok h]
  have e := vn_rounds a.lp.2.1 ((n - d.fi) % d.many) ((n - d.fi) / d.many)
  rw [Nat.mod_add_div] at e
  show some ((vn d.ls n : Nat) : Int) = _
  have hn : lsl d.ls 0 + (n - d.fi) = n := by
    show d.fi + _ = _
    omega
  rw [hn] at e
  rw [e]
  rfl
end
def spOf (K : PySem.W.Frag) (C cm : Addr) (c : LCs) : Sp := fun vs H Q _ => ∃ (old : Addr → Prop) (m : Addr) (d : MD) (n : Nat), vs = [.ref m, .int (n : Int)] ∧ MoveAt K C cm c old H m d ∧ n < 2 ^ 250 ∧ d.be < 2 ^ 200 ∧ ∀ H', Same H H' → Q (optV (d.val n)) H'
section
variable {P : Program} {w : World} {K : PySem.W.Frag} {mg : Str → Option Value} {base : Heap} {C cm : Addr} {c : LCs}
theorem ok_of {f : Addr} {fd : FuncData} (F : Fun K "of" "Move.of" sMove_of f fd) (TM : MoveTxt K mg cm) (N : Names mg) (Dcheck_number : DefK P w K mg base "check_number" ["given"] 3 spChkNum) : FnOk P w K mg base CX0 4 f fd ["self", "frame"] (spOf K C cm c) := by
  have sc := scMove_of
  refine F.ok sc (fun vs H Q E h => ?_) (fun cdv A outer s H vs Q E hr h => ?_)
  · obtain ⟨old, m, d, n, rfl, _⟩ := h
    rfl
  · obtain ⟨old, m, d, n, rfl, a, hn, hbe, k⟩ := h
    obtain ⟨dx, eo⟩ := a.ob
    refine ⟨_, (pss_cons (ps_expr (pe_d Dcheck_number (hr.mono (by decide)) rfl (pa_cons (pv 1) pa_nil)))
      (pss_cons (ps_if (pt_cmpR op_lt (pv 1) (pe_fld (pv 0) rfl) (nomark _)) (pss_one (ps_ret pe_non)) pss_nil)
      (pss_cons (ps_asg (pe_fld (pv 0) rfl) (pg_tup rfl (pgs_cons (pg_name (i := 2) sc.nd rfl (Or.inl rfl)) (pgs_cons (pg_name (i := 3) sc.nd rfl (Or.inl rfl)) pgs_nil))))
      (pss_cons (ps_asg (pe_callB call_divmod (by rfl) N.divmod (by decide +kernel) (pa_cons (pe_op op_sub (pv 1) (pe_fld (pv 0) rfl)) (pa_cons (pv 2) pa_nil))) (pg_tup rfl (pgs_cons (pg_name (i := 4) sc.nd rfl (Or.inl rfl)) (pgs_cons (pg_name (i := 5) sc.nd rfl (Or.inl rfl)) pgs_nil))))
      (pss_one (ps_ret (pe_op op_add (pe_ix ix_list (pe_fld (pv 0) rfl) (pv 5) (fun _ _ => rfl)) (pe_op op_mulW (pv 4) (pv 3))))))))), ?_⟩
    refine ⟨_, rfl, (n : Int), rfl, by omega, ?_⟩
    refine ⟨_, rfl, _, rfl, m, cm, dx, _, _, rfl, eo, TM.cl, TM.n8, d.first, _, _, rfl, rfl, _, rfl, ?_⟩
    refine ifD (fun hl => ?_) (fun hl => ?_)
    · rw [a.val_lost (by omega)] at k
      exact k H (Same.refl H)
    rw [a.val_at (by omega)] at k
    refine ⟨_, rfl, m, cm, dx, _, _, rfl, eo, TM.cl, TM.n10, d.round, d.rd, _, rfl, SqT.tup a.rd, rfl, _, _, rfl, _, _, rfl, rfl, ?_⟩
    obtain ⟨U0, U1⟩ := a.U_le
    have hm1 := a.lp.1
    have hm2 := a.le
    have hm3 := a.th2
    refine ⟨_, rfl, _, rfl, m, cm, dx, _, _, rfl, eo, TM.cl, TM.n8, d.first, _, _, rfl, rfl, _, rfl, _, _, rfl, ⟨by omega, by omega⟩, ?_⟩
    (intro q nq; generalize e_q : upd H q _ = H1; have s1 : Same H H1 := fun b x hb => (congrFun e_q b).symm.trans (same_new nq b x hb); have h1 := (congrFun e_q q).symm.trans upd_same; clear e_q)
    refine ⟨q, _, rfl, SqT.tup h1, rfl, _, _, rfl, _, _, rfl, rfl, ?_⟩
    have hlt : (n - d.fi) % d.many < d.many := Nat.mod_lt _ hm1
    have hget : atI (natL ((List.range d.many).map fun i => vn d.ls (d.fi + i))) (((n : Int) - (d.fi : Int)) % (d.many : Int)) = some (.int ((vn d.ls (d.fi + (n - d.fi) % d.many) : Nat) : Int)) := by
      rw [show ((n : Int) - (d.fi : Int)) % (d.many : Int) = (((n - d.fi) % d.many : Nat) : Int) by rw [Int.natCast_emod]; congr 1; omega]
      exact natL_at (by rw [List.getElem?_map, List.getElem?_range hlt]; rfl)
    have hr0 : ((n : Int) - (d.fi : Int)) / (d.many : Int) = (((n - d.fi) / d.many : Nat) : Int) := by
      rw [Int.natCast_ediv]
      congr 1
      omega
    have hrb : (n - d.fi) / d.many < 2 ^ 250 := Nat.lt_of_le_of_lt (Nat.div_le_self _ _) (by omega)
    rw [hr0]
    refine ⟨_, rfl, m, cm, dx, _, _, rfl, s1 _ _ eo, TM.cl, TM.n9, d.values, _, rfl, ?_⟩
    refine ⟨d.vs, _, _, _, rfl, rfl, SqL.lst (s1 _ _ a.vs), hget, _, rfl, _, rfl, _, _, rfl, rfl, wide_mul (a := 250) (b := 200) (by rw [Int.natAbs_natCast]; exact hrb) (by omega) (by decide) (by decide) (by decide), _, _, rfl, rfl, ?_⟩
    exact k H1 s1
end
end LM

set_option Elab.async false
set_option linter.all false
set_option maxRecDepth 100000
set_option maxHeartbeats 1000000
set_option pp.maxSteps 600
set_option pp.deepTerms false
namespace LM
open PySem PySem.Spec PyProof.Rows L2 RZ RT
theorem vl_one {l : Leg} {n : Nat} {v : Nat} (h : l.F n = (v : Int)) : vl [l] n = some v := by
  unfold vl
  rw [h, if_pos (by omega)]
  unfold vl
  rw [Int.toNat_natCast]
/-- there and back -/
theorem there_back {h1 h2 : HN} (k1 : h1.Ok) (k2 : h2.Ok) (a n m : Nat) : ∃ v, vl [.lb h1 h2 (a : Int) true] n = some v ∧ v = h2.bl (h1.plc n + a) ∧ (v ≤ m ↔ ∃ g, vl [.lb h2 h1 (-(a : Int)) false] m = some g ∧ n ≤ g) := by
  have hF : (Leg.lb h1 h2 (a : Int) true).F n = ((h2.bl (h1.plc n + a) : Nat) : Int) := by
    rw [F_lb (by omega), HN.nr_next, show ((h1.plc n : Int) + (a : Int)).toNat = h1.plc n + a by omega]
  refine ⟨_, vl_one hF, rfl, ?_⟩
  rw [k2.bl_le]
  constructor
  · intro h
    have hb : n < h1.bl (h2.plc m - a + 1) := k1.lt_bl.mpr (by omega)
    have hG : (Leg.lb h2 h1 (-(a : Int)) false).F m = ((h1.bl (h2.plc m - a + 1) - 1 : Nat) : Int) := by
      rw [F_lb (by omega), HN.nr_last, show ((h2.plc m : Int) + -(a : Int)).toNat = h2.plc m - a by omega]
      omega
    exact ⟨_, vl_one hG, by omega⟩
  · rintro ⟨g, hg, hn⟩
    unfold vl at hg
    split at hg
    · rename_i h0
      have hl := F_lb_lost h0
      rw [F_lb hl, HN.nr_last, show ((h2.plc m : Int) + -(a : Int)).toNat = h2.plc m - a by omega] at hg h0
      unfold vl at hg
      have hg' := Option.some.inj hg
      have : n < h1.bl (h2.plc m - a + 1) := by omega
      have := k1.lt_bl.mp this
      omega
    · cases hg
theorem thr_one {l : Leg} (k : l.Ok) : thr [l] (1, 1) = (l.D, l.S) := by
  have hD := (Leg.D_pos k).1
  unfold thr
  rw [Nat.gcd_one_right, Nat.div_one, Nat.one_mul, Nat.div_self (by omega), Nat.one_mul]
  rfl
theorem rate_val (a b n : Nat) : vl [.rt a b] n = some (n * a / b) := vl_one rfl
/-- legs between two houses whose rounds divide M -/
theorem lb_small {h1 h2 : HN} (k1 : h1.Ok) (k2 : h2.Ok) {M : Nat} (hM : 0 < M) (d1 : h1.P ∣ M) (d2 : h2.P ∣ M) (a : Int) (nx : Bool) : (Leg.lb h1 h2 a nx).D ≤ M ∧ (Leg.lb h1 h2 a nx).S ≤ M := by
  have hl : Nat.lcm h1.P h2.P ≤ M := Nat.le_of_dvd hM (Nat.lcm_dvd d1 d2)
  have e1 := lcm_quot (a := h1.P) (b := h2.P)
  have e2 := lcm_quot2 (a := h1.P) (b := h2.P)
  have n1 := Nat.mul_le_mul_right (Nat.lcm h1.P h2.P / h1.P) k1.N_le
  have n2 := Nat.mul_le_mul_right (Nat.lcm h1.P h2.P / h2.P) k2.N_le
  exact ⟨Nat.le_trans (Nat.le_trans n1 (Nat.le_of_eq e1)) hl, Nat.le_trans (Nat.le_trans n2 (Nat.le_of_eq e2)) hl⟩
theorem natL_ex {ns : List Nat} {i : Nat} {x : V} (h : (natL ns)[i]? = some x) : ∃ n, ns[i]? = some n ∧ x = V.int (n : Int) := by
  unfold natL at h
  rw [List.getElem?_map] at h
  obtain ⟨z, hz, e⟩ := Option.map_eq_some_iff.mp h
  exact ⟨z, hz, e.symm⟩
theorem every_dvd12 {rows : List R3} (h : ∀ r ∈ rows, 1 ≤ r.2.1 ∧ r.2.1 ≤ 4) : everyL rows ∣ 12 := by
  have := every_12 rows 1 (by decide) h
  unfold everyL
  simp at this
  rcases this with e | e | e | e | e | e <;> rw [e] <;> decide
/-- the labels of a round divide this -/
theorem P_dvd {K : PySem.W.Frag} {C : Addr} {old : Addr → Prop} {H : Hp} {h : HD} (a : h.At K C old H) (he : everyL h.rows ∣ 12) : h.n.P ∣ unitL h.bs * 12 * (h.bs.getLastD 1).toNat := by
  have ct := a.cnt
  have hd : h.n.L ∣ groupsP h.bs h.rows := ct.least.dvd (GN_per (keeps_groups h.bs h.rows))
  have hg : groupsP h.bs h.rows ∣ unitL h.bs * 12 := by
    unfold groupsP
    rw [unitP_unitL]
    exact Nat.mul_dvd_mul (Nat.dvd_refl _) he
  exact Nat.mul_dvd_mul (Nat.dvd_trans hd hg) (Nat.dvd_refl _)
/-- a move that is made -/
theorem make_use {K : PySem.W.Frag} {C cm : Addr} {c : LCs} {old : Addr → Prop} {H3 : Hp} {ht st : Addr} {hs : List HD} {sts : List Stp} {R : VK} {E : XK} {x dx : Addr} (nx : H3 x = none) (ndx : H3 dx = none) (hold : ∀ q, old q → H3 q ≠ none) (hH : HousesAt K C old H3 ht hs) (h1 : 1 ≤ hs.length) (h3 : hs.length ≤ 3) (hS : StepsAt K H3 st sts) (fit : fitS hs 0 sts) (s8 : sts.length ≤ 8) (hth : (thr (legsM hs sts) (1, 1)).1 ≤ 20000)
    (k : ∀ (d : MD) H', d.hs = hs → d.sts = sts → MoveAt K C cm c old H' x d → Same H3 H' → R .non H') :
    spMoveInit K C cm c (.ref x :: ([.ref ht, .ref st] ++ [])) (upd (upd H3 dx (.own x)) x (.ins cm dx [])) R E := by
  generalize e4 : upd (upd H3 dx (.own x)) x _ = H4
  have s4 : Same H3 H4 := fun c o h => (congrFun e4 c).symm.trans (by rw [upd_ne (ne_of_none h nx), upd_ne (ne_of_none h ndx)]; exact h)
  have hp4 : H4 x = some (.ins cm dx []) := (congrFun e4 x).symm.trans upd_same
  have hold4 : ∀ q, old q → H4 q ≠ none := fun q hq z => by
    cases e : H3 q with
    | none => exact hold q hq e
    | some o =>
      have := s4 _ _ e
      rw [z] at this
      cases this
  refine ⟨old, x, dx, ht, st, hs, sts, rfl, hp4, hold4, hH.same s4, h1, h3, hS.same s4, fit, s8, hth, fun d H' e1 e2 _ _ a e => k d H' e1 e2 a fun c o h => e _ _ (ne_of_none h nx) (s4 _ _ h)⟩
theorem bl_le {h : HN} (s : Nat) : h.bl s ≤ s := by
  show bel h.B h.c s ≤ s
  unfold bel
  exact Nat.le_trans (List.length_filter_le _ _) (by rw [List.length_range]; exact Nat.le_refl _)
theorem plc_bound {K : PySem.W.Frag} {C : Addr} {old : Addr → Prop} {H : Hp} {h : HD} (a : h.At K C old H) (n : Nat) : h.n.plc n ≤ (n + 1) * 60 := by
  have ct := a.cnt
  obtain ⟨s, p1, b1, f1, l1⟩ := ct.at n
  have e : h.n.plc n = s := a.ok.plc_of b1 f1
  have hB6 := ct.hB6
  have h1 : (n + 1) * h.n.B ≤ (n + 1) * 60 := Nat.mul_le_mul_left _ hB6
  omega
/-- a house read in a house of the same counts -/
theorem lb_self {h : HN} (k : h.Ok) (nx : Bool) (n : Nat) : vl [.lb h h 0 nx] n = some n := by
  obtain ⟨s1, s2⟩ := k.plc_spec n
  refine vl_one ?_
  rw [F_lb (by omega), show ((h.plc n : Int) + 0).toNat = h.plc n by omega]
  cases nx with
  | true =>
    rw [HN.nr_next, s2]
  | false =>
    rw [HN.nr_last]
    have e : h.bl (h.plc n + 1) = h.bl (h.plc n) + 1 := by
      show bel h.B h.c (h.plc n + 1) = _
      rw [bel_succ, if_pos s1]
    rw [e, s2]
    omega
theorem MoveAt.self {K : PySem.W.Frag} {C cm : Addr} {c : LCs} {old : Addr → Prop} {H : Hp} {m : Addr} {d : MD} (a : MoveAt K C cm c old H m d) {h : HN} (k : h.Ok) {nx : Bool} (e : d.ls = [.lb h h 0 nx]) : (∀ n, d.val n = some (n : Int)) ∧ d.many = 1 ∧ d.U = 1 := by
  have hv : ∀ n, vl d.ls n = some n := fun n => by rw [e]; exact lb_self k nx n
  have hn : ∀ n, vn d.ls n = n := fun n => vn_of (hv n)
  refine ⟨fun n => by unfold MD.val; rw [hv]; rfl, ?_⟩
  have hm : d.many = 1 := by
    have h1 := a.lp.1
    rcases Nat.lt_or_ge 1 d.many with z | z
    · refine absurd (fun i => ?_) (a.lp.2.2 1 (Nat.le_refl 1) z)
      unfold grow
      simp only [hn]
      omega
    · omega
  refine ⟨hm, ?_⟩
  unfold MD.U
  rw [hn, hn, hm]
  omega
end LM

set_option Elab.async false
set_option linter.all false
set_option maxRecDepth 100000
set_option maxHeartbeats 4000000
/-! a house whose units each lack their first labels, and one that lacks none: their numbers -/
namespace LM
open PySem PySem.Spec PyProof.Rows L2 RZ
def bentB (lo ba : Nat) : List Int := [(lo : Int), (ba : Int)]
def bentR (go : Nat) : List R3 := [(0, 1, (go : Int))]
def bentC (lo go : Nat) : List Int := (go : Int) :: List.replicate (lo - 1) 0
def los : List Nat := [2, 3, 4, 5]
def bas : List Nat := [3, 4, 5, 6, 7, 8, 9, 10, 11]
def gos : List Nat := [1, 2]
/-- what is drawn -/
structure Drawn (lo ba go : Nat) : Prop where
  lo : lo ∈ los
  ba : ba ∈ bas
  go : go ∈ gos
theorem Drawn.bd {lo ba go : Nat} (d : Drawn lo ba go) : 2 ≤ lo ∧ lo ≤ 5 ∧ 3 ≤ ba ∧ ba ≤ 11 ∧ 1 ≤ go ∧ go ≤ 2 := by
  obtain ⟨h1, h2, h3⟩ := d
  simp only [los, bas, gos, List.mem_cons, List.not_mem_nil, or_false] at h1 h2 h3
  omega
theorem Drawn.of {lo ba go : Nat} (h : 2 ≤ lo ∧ lo ≤ 5 ∧ 3 ≤ ba ∧ ba ≤ 11 ∧ 1 ≤ go ∧ go ≤ 2) : Drawn lo ba go := by
  constructor <;> simp only [los, bas, gos, List.mem_cons, List.not_mem_nil, or_false] <;> omega
theorem bent_groups : ∀ lo ∈ los, ∀ ba ∈ bas, ∀ go ∈ gos, groupsP (bentB lo ba) (bentR go) = lo ∧ groupsP (bentB lo ba) [] = lo := by decide +kernel
theorem bent_counts : ∀ lo ∈ los, ∀ ba ∈ bas, ∀ go ∈ gos, countsP (bentB lo ba) (bentR go) lo = bentC lo go := by decide +kernel
theorem flat_counts : ∀ lo ∈ los, ∀ ba ∈ bas, countsP (bentB lo ba) [] lo = List.replicate lo 0 := by decide +kernel
theorem bent_apart : ∀ lo ∈ los, ∀ go ∈ gos, ∀ k ∈ [1, 2, 3, 4], k < lo → ¬ (bentC lo go).drop k = (bentC lo go).take ((bentC lo go).length - k) := by decide +kernel
theorem flat_rep : ∀ lo ∈ los, (List.replicate lo (0 : Int)).drop 1 = (List.replicate lo (0 : Int)).take ((List.replicate lo (0 : Int)).length - 1) := by decide +kernel
theorem bent_len : ∀ lo ∈ los, ∀ go ∈ gos, (bentC lo go).length = lo := by decide +kernel
theorem Drawn.fair {lo ba go : Nat} (d : Drawn lo ba go) : Fair (bentB lo ba) (bentR go) := by
  obtain ⟨h1, h2, h3, h4, h5, h6⟩ := d.bd
  refine ⟨Nat.le_of_ble_eq_true rfl, Nat.le_of_ble_eq_true rfl, fun x hx => ?_, Nat.le_of_ble_eq_true rfl, fun x hx => ?_, ?_⟩
  · simp only [bentB, List.mem_cons, List.not_mem_nil, or_false] at hx
    rcases hx with rfl | rfl <;> omega
  · simp only [bentR, List.mem_cons, List.not_mem_nil, or_false] at hx
    subst hx
    show (0 : Int) ≤ 0 ∧ (0 : Int) < ((2 : Nat) : Int) ∧ (1 : Int) ≤ 1 ∧ (1 : Int) ≤ 60 ∧ (0 : Int) ≤ (go : Int) ∧ (go : Int) < (ba : Int)
    omega
  · rw [(bent_groups lo d.lo ba d.ba go d.go).1]
    omega
theorem Drawn.fairP {lo ba go : Nat} (d : Drawn lo ba go) : Fair (bentB lo ba) [] := by
  obtain ⟨h1, h2, h3, h4, h5, h6⟩ := d.bd
  refine ⟨Nat.le_of_ble_eq_true rfl, Nat.le_of_ble_eq_true rfl, fun x hx => ?_, Nat.le_of_ble_eq_true rfl, (fun x hx => nomatch hx), ?_⟩
  · simp only [bentB, List.mem_cons, List.not_mem_nil, or_false] at hx
    rcases hx with rfl | rfl <;> omega
  · rw [(bent_groups lo d.lo ba d.ba go d.go).2]
    omega
theorem bent_cs {lo ba go : Nat} (d : Drawn lo ba go) {cs : List Int} (h : ∃ k, RepIs (countsP (bentB lo ba) (bentR go) (groupsP (bentB lo ba) (bentR go))) k ∧ cs = (countsP (bentB lo ba) (bentR go) (groupsP (bentB lo ba) (bentR go))).take k) : cs = bentC lo go := by
  obtain ⟨k, hk, e⟩ := h
  rw [(bent_groups lo d.lo ba d.ba go d.go).1, bent_counts lo d.lo ba d.ba go d.go] at hk e
  obtain ⟨h1, h2, ⟨_, h3⟩, _⟩ := hk
  have hl := bent_len lo d.lo go d.go
  obtain ⟨q1, q2, _⟩ := d.bd
  rw [hl] at h2
  have hk : k = lo := by
    rcases Nat.lt_or_ge k lo with z | z
    · refine absurd h3 (bent_apart lo d.lo go d.go k ?_ z)
      simp only [List.mem_cons, List.not_mem_nil, or_false]
      omega
    · omega
  rw [e, hk, List.take_of_length_le (by omega)]
theorem flat_cs {lo ba go : Nat} (d : Drawn lo ba go) {cs : List Int} (h : ∃ k, RepIs (countsP (bentB lo ba) [] (groupsP (bentB lo ba) [])) k ∧ cs = (countsP (bentB lo ba) [] (groupsP (bentB lo ba) [])).take k) : cs = [0] := by
  obtain ⟨k, hk, e⟩ := h
  rw [(bent_groups lo d.lo ba d.ba go d.go).2, flat_counts lo d.lo ba d.ba] at hk e
  obtain ⟨h1, _, _, h4⟩ := hk
  have hk : k = 1 := by
    rcases Nat.lt_or_ge 1 k with z | z
    · exact absurd (show repOk (List.replicate lo (0 : Int)) 1 from ⟨Nat.mod_one _, flat_rep lo d.lo⟩) (h4 1 (Nat.le_refl 1) z)
    · omega
  obtain ⟨q1, _⟩ := d.bd
  rw [e, hk, List.take_replicate, Nat.min_eq_left (by omega)]
  rfl
/-- the numbers of a bent house -/
structure Bent (h : HN) (lo ba go : Nat) : Prop where
  hB : h.B = ba
  hL : h.L = lo
  c0 : h.c 0 = go
  cz : ∀ g, 0 < g → g < lo → h.c g = 0
/-- the numbers of a plain one -/
structure Flat (h : HN) (ba : Nat) : Prop where
  hB : h.B = ba
  hL : h.L = 1
  c0 : ∀ g, h.c g = 0
theorem bent_n {K : PySem.W.Frag} {C : Addr} {old : Addr → Prop} {H : Hp} {h : HD} {lo ba go : Nat} (d : Drawn lo ba go) (a : h.At K C old H) (eb : h.bs = bentB lo ba) (er : h.rows = bentR go) (ec : h.cs = bentC lo go) : Bent h.n lo ba go := by
  have ct := a.cnt
  have hB : h.n.B = ba := by
    show (h.bs.getLastD 1).toNat = ba
    rw [eb]; rfl
  have hL : h.n.L = lo := by
    show h.cs.length = lo
    rw [ec]
    exact bent_len lo d.lo go d.go
  have e := ct.cse
  rw [ec, hL] at e
  obtain ⟨q1, _⟩ := d.bd
  have at_ : ∀ g, g < lo → (bentC lo go)[g]? = some ((h.n.c g : Nat) : Int) := fun g hg => by
    rw [e, List.getElem?_map, List.getElem?_range hg]
    rfl
  refine ⟨hB, hL, ?_, fun g g0 hg => ?_⟩
  · have := Option.some.inj (at_ 0 (by omega))
    omega
  · have := at_ g hg
    obtain ⟨j, rfl⟩ : ∃ j, g = j + 1 := ⟨g - 1, by omega⟩
    unfold bentC at this
    rw [List.getElem?_cons_succ, List.getElem?_replicate, if_pos (by omega)] at this
    have := Option.some.inj this
    omega
theorem flat_n {K : PySem.W.Frag} {C : Addr} {old : Addr → Prop} {H : Hp} {h : HD} {lo ba : Nat} (a : h.At K C old H) (eb : h.bs = bentB lo ba) (er : h.rows = []) (ec : h.cs = [0]) : Flat h.n ba := by
  have ct := a.cnt
  refine ⟨?_, ?_, fun g => ?_⟩
  · show (h.bs.getLastD 1).toNat = ba
    rw [eb]; rfl
  · show h.cs.length = 1
    rw [ec]; rfl
  · have e := ct.eqG g
    rw [er] at e
    have z : GN h.bs [] g = 0 := rfl
    omega
section
variable {h g : HN} {lo ba go : Nat}
theorem Flat.bl (f : Flat h ba) (s : Nat) : h.bl s = s := by
  show ((List.range s).filter (bor h.B h.c)).length = s
  rw [List.filter_eq_self.mpr (fun x _ => by unfold bor; rw [f.c0]; exact decide_eq_true (Nat.zero_le _)), List.length_range]
theorem Flat.N (f : Flat h ba) : h.N = ba ∧ h.P = ba := by
  unfold HN.N HN.P
  rw [f.hL, f.hB]
  refine ⟨?_, Nat.one_mul _⟩
  show 0 + (ba - h.c 0) = ba
  rw [f.c0]
  omega
theorem Flat.plc (f : Flat h ba) (o : h.Ok) (n : Nat) : h.plc n = n := by
  refine o.plc_of ?_ (f.bl n)
  unfold bor
  rw [f.c0]
  exact decide_eq_true (Nat.zero_le _)
theorem Bent.P (b : Bent h lo ba go) : h.P = lo * ba := by
  unfold HN.P
  rw [b.hB, b.hL]
theorem Bent.bor (b : Bent h lo ba go) (d : Drawn lo ba go) {s : Nat} (hs : s < lo * ba) : bor h.B h.c s = decide (go ≤ s) := by
  obtain ⟨q1, q2, q3, q4, q5, q6⟩ := d.bd
  unfold _root_.LM.bor
  rw [b.hB]
  rcases Nat.lt_or_ge s ba with z | z
  · rw [Nat.div_eq_of_lt z, b.c0, Nat.mod_eq_of_lt z]
  · have h1 : 0 < s / ba := Nat.div_pos z (by omega)
    have h2 : s / ba < lo := Nat.div_lt_of_lt_mul (by rw [Nat.mul_comm]; exact hs)
    rw [b.cz _ h1 h2, decide_eq_true (Nat.zero_le _)]
    exact (decide_eq_true (by omega)).symm
theorem Bent.low (b : Bent h lo ba go) (d : Drawn lo ba go) : ∀ s, s ≤ lo * ba → h.bl s = s - min s go := by
  intro s
  induction s with
  | zero => intro _; rw [Nat.zero_sub]; rfl
  | succ s ih =>
    intro hs
    have e : h.bl (s + 1) = h.bl s + if _root_.LM.bor h.B h.c s = true then 1 else 0 := bel_succ s
    rw [e, ih (by omega), b.bor d (by omega)]
    by_cases z : go ≤ s
    · rw [if_pos (decide_eq_true z)]
      omega
    · rw [if_neg (by rw [decide_eq_false z]; exact Bool.false_ne_true)]
      omega
theorem Drawn.wide (d : Drawn lo ba go) : 6 ≤ lo * ba ∧ lo * ba ≤ 55 := by
  obtain ⟨q1, q2, q3, q4, q5, q6⟩ := d.bd
  exact ⟨Nat.mul_le_mul q1 q3, Nat.mul_le_mul q2 q4⟩
theorem Bent.N (b : Bent h lo ba go) (d : Drawn lo ba go) (o : h.Ok) : h.N = lo * ba - go := by
  have e := o.bl_per 0 1
  rw [Nat.mul_one, Nat.mul_one, b.P, Nat.zero_add, b.low d _ (Nat.le_refl _)] at e
  have w := d.wide
  have z : h.bl 0 = 0 := rfl
  obtain ⟨q1, q2, q3, q4, q5, q6⟩ := d.bd
  rw [z] at e
  omega
/-- the frames below a place -/
theorem Bent.bl (b : Bent h lo ba go) (d : Drawn lo ba go) (o : h.Ok) (s : Nat) : h.bl s = s / (lo * ba) * (lo * ba - go) + (s % (lo * ba) - go) := by
  have w := d.wide
  have e := o.bl_per (s % (lo * ba)) (s / (lo * ba))
  rw [b.P, b.N d o, Nat.mod_add_div, b.low d _ (Nat.le_of_lt (Nat.mod_lt _ (by omega)))] at e
  rw [e, Nat.mul_comm (lo * ba - go)]
  omega
/-- the place of a frame -/
theorem Bent.plc (b : Bent h lo ba go) (d : Drawn lo ba go) (o : h.Ok) (n : Nat) : h.plc n = n / (lo * ba - go) * (lo * ba) + n % (lo * ba - go) + go := by
  have w := d.wide
  obtain ⟨q1, q2, q3, q4, q5, q6⟩ := d.bd
  have hm := Nat.mod_lt n (show 0 < lo * ba - go by omega)
  have e2 := Nat.div_add_mod n (lo * ba - go)
  have ep : n / (lo * ba - go) * (lo * ba) + n % (lo * ba - go) + go = n % (lo * ba - go) + go + h.P * (n / (lo * ba - go)) := by
    rw [b.P, Nat.mul_comm (lo * ba)]
    omega
  rw [ep]
  refine o.plc_of ?_ ?_
  · refine (bor_mul (by have := o.hB; omega) o.per _ _).trans ?_
    rw [b.bor d (by omega)]
    exact decide_eq_true (by omega)
  · rw [o.bl_per, b.low d _ (by omega), b.N d o]
    omega
end
end LM

set_option Elab.async false
set_option linter.all false
set_option maxRecDepth 100000
set_option maxHeartbeats 4000000
/-! moves between a bent house and a plain one, by formulas -/
namespace LM
open PySem PySem.Spec PyProof.Rows L2 RZ
section
variable {h g : HN} {lo ba go : Nat}
/-- the least number of a run of which it is known where it breaks -/
theorem least_of {G : Nat → Int} {m N : Nat} (lp : LeastPer G m) (hN : Per G N) (hN1 : 1 ≤ N) (no : ∀ k, 1 ≤ k → k < N → ¬ Per G k) : m = N := lp.uniq ⟨hN1, hN, no⟩
theorem nr_lowz (h : HN) : nrLow h true h.plc 0 = 0 := rfl
/-! ### from the bent house into the plain one -/
theorem over_F (b : Bent h lo ba go) (f : Flat g ba) (n : Nat) : (Leg.lb h g 0 true).F n = ((h.plc n : Nat) : Int) := by
  rw [F_lb (by omega), HN.nr_next, f.bl]
  omega
theorem over_vl (b : Bent h lo ba go) (f : Flat g ba) (n : Nat) : vl [.lb h g 0 true] n = some (h.plc n) := vl_one (over_F b f n)
theorem over_fi : lsl [.lb h g 0 true] 0 = 0 := by
  show h.bl ((nrLow g true g.plc 0 : Int) - 0).toNat = 0
  rw [nr_lowz]
  rfl
theorem over_grow (b : Bent h lo ba go) (f : Flat g ba) (d : Drawn lo ba go) (o : h.Ok) (i : Nat) : grow [.lb h g 0 true] i = ((h.plc (i + 1) : Nat) : Int) - ((h.plc i : Nat) : Int) := by
  unfold grow
  rw [over_fi, vn_of (over_vl b f _), vn_of (over_vl b f _), Nat.zero_add]
theorem over_per (b : Bent h lo ba go) (f : Flat g ba) (d : Drawn lo ba go) (o : h.Ok) : Per (grow [.lb h g 0 true]) (lo * ba - go) := by
  intro i
  rw [over_grow b f d o, over_grow b f d o]
  have e1 := o.plc_per i 1
  have e2 := o.plc_per (i + 1) 1
  rw [b.N d o, Nat.mul_one, Nat.mul_one] at e1 e2
  rw [show i + (lo * ba - go) + 1 = i + 1 + (lo * ba - go) by omega, e1, e2]
  omega
theorem over_in (b : Bent h lo ba go) (d : Drawn lo ba go) (o : h.Ok) {n : Nat} (hn : n < lo * ba - go) : h.plc n = n + go := by
  rw [b.plc d o, Nat.div_eq_of_lt hn, Nat.mod_eq_of_lt hn, Nat.zero_mul, Nat.zero_add]
theorem over_end (b : Bent h lo ba go) (d : Drawn lo ba go) (o : h.Ok) : h.plc (lo * ba - go) = lo * ba + go := by
  have w := d.wide
  have q := d.bd
  rw [b.plc d o, Nat.div_self (by omega), Nat.mod_self, Nat.one_mul, Nat.add_zero]
theorem over_many (b : Bent h lo ba go) (f : Flat g ba) (d : Drawn lo ba go) (o : h.Ok) {m : Nat} (lp : LeastPer (grow [.lb h g 0 true]) m) : m = lo * ba - go := by
  have w := d.wide
  have q := d.bd
  refine least_of lp (over_per b f d o) (by omega) fun k k1 k2 p => ?_
  have e := p (lo * ba - go - 1 - k)
  rw [over_grow b f d o, over_grow b f d o, show lo * ba - go - 1 - k + k + 1 = lo * ba - go by omega, over_end b d o, over_in b d o (by omega), over_in b d o (by omega), over_in b d o (by omega)] at e
  omega
/-! ### from the plain house into the bent one -/
theorem back_F (b : Bent h lo ba go) (f : Flat g ba) (og : g.Ok) (n : Nat) : (Leg.lb g h 0 true).F n = ((h.bl n : Nat) : Int) := by
  rw [F_lb (by omega), HN.nr_next, f.plc og]
  exact congrArg (fun z : Nat => ((h.bl z : Nat) : Int)) (by omega)
theorem back_vl (b : Bent h lo ba go) (f : Flat g ba) (og : g.Ok) (n : Nat) : vl [.lb g h 0 true] n = some (h.bl n) := vl_one (back_F b f og n)
theorem back_fi : lsl [.lb g h 0 true] 0 = 0 := by
  show g.bl ((nrLow h true h.plc 0 : Int) - 0).toNat = 0
  rw [nr_lowz]
  rfl
theorem back_grow (b : Bent h lo ba go) (f : Flat g ba) (og : g.Ok) (i : Nat) : grow [.lb g h 0 true] i = ((h.bl (i + 1) : Nat) : Int) - ((h.bl i : Nat) : Int) := by
  unfold grow
  rw [back_fi, vn_of (back_vl b f og _), vn_of (back_vl b f og _), Nat.zero_add]
theorem back_per (b : Bent h lo ba go) (f : Flat g ba) (d : Drawn lo ba go) (o : h.Ok) (og : g.Ok) : Per (grow [.lb g h 0 true]) (lo * ba) := by
  intro i
  rw [back_grow b f og, back_grow b f og]
  have e1 := o.bl_per i 1
  have e2 := o.bl_per (i + 1) 1
  rw [b.P, Nat.mul_one, Nat.mul_one] at e1 e2
  rw [show i + lo * ba + 1 = i + 1 + lo * ba by omega, e1, e2]
  omega
theorem back_many (b : Bent h lo ba go) (f : Flat g ba) (d : Drawn lo ba go) (o : h.Ok) (og : g.Ok) {m : Nat} (lp : LeastPer (grow [.lb g h 0 true]) m) : m = lo * ba := by
  have w := d.wide
  have q := d.bd
  refine least_of lp (back_per b f d o og) (by omega) fun k k1 k2 p => ?_
  have lw := b.low d
  have e0 := p 0
  have e1 := p 1
  rw [back_grow b f og, back_grow b f og, Nat.zero_add, Nat.zero_add, lw _ (by omega), lw _ (by omega), lw _ (by omega), lw _ (by omega)] at e0
  rw [back_grow b f og, back_grow b f og, Nat.add_comm 1 k] at e1
  have hk : k < go := by omega
  rw [lw _ (by omega), lw _ (by omega), lw _ (by omega), lw _ (by omega)] at e1
  omega
/-! ### the last one not behind -/
theorem last_F (b : Bent h lo ba go) (f : Flat g ba) (og : g.Ok) (n : Nat) : (Leg.lb g h 0 false).F n = ((h.bl (n + 1) : Nat) : Int) - 1 := by
  rw [F_lb (by omega), HN.nr_last, f.plc og]
  exact congrArg (fun z : Nat => ((h.bl (z + 1) : Nat) : Int) - 1) (by omega)
theorem bl_next (b : Bent h lo ba go) (d : Drawn lo ba go) (o : h.Ok) (n : Nat) : h.bl (n + 1) = h.bl n + if go ≤ n % (lo * ba) then 1 else 0 := by
  have w := d.wide
  have e : h.bl (n + 1) = h.bl n + if _root_.LM.bor h.B h.c n = true then 1 else 0 := bel_succ n
  have e2 : _root_.LM.bor h.B h.c n = decide (go ≤ n % (lo * ba)) := by
    rw [← b.bor d (Nat.mod_lt n (by omega))]
    have e3 := bor_mul (B := h.B) (c := h.c) (by have := o.hB; omega) o.per (n / (lo * ba)) (n % (lo * ba))
    rw [← e3]
    refine congrArg _ ?_
    rw [b.hL, b.hB]
    exact (Nat.mod_add_div n (lo * ba)).symm
  rw [e, e2]
  by_cases z : go ≤ n % (lo * ba)
  · rw [if_pos z, if_pos (decide_eq_true z)]
  · rw [if_neg z, if_neg (by rw [decide_eq_false z]; exact Bool.false_ne_true)]
/-- the frame that the law counts: there, or one earlier, or none -/
def belowI (wide go due : Nat) (n : Nat) : Option Int := if go ≤ n % wide then some (due : Int) else if 0 < due then some ((due : Int) - 1) else none
theorem last_vl (b : Bent h lo ba go) (f : Flat g ba) (d : Drawn lo ba go) (o : h.Ok) (og : g.Ok) (n : Nat) : (vl [.lb g h 0 false] n).map (fun v => (v : Int)) = belowI (lo * ba) go (h.bl n) n := by
  show (if 0 ≤ (Leg.lb g h 0 false).F n then (some ((Leg.lb g h 0 false).F n).toNat : Option Nat) else none).map (fun v => (v : Int)) = _
  rw [last_F b f og, bl_next b d o]
  unfold belowI
  by_cases z : go ≤ n % (lo * ba)
  · rw [if_pos z, if_pos z, if_pos (by omega)]
    show some ((((((h.bl n + 1 : Nat) : Int) - 1).toNat : Nat)) : Int) = some _
    exact congrArg some (by omega)
  · rw [if_neg z, if_neg z]
    by_cases z2 : 0 < h.bl n
    · rw [if_pos z2, if_pos (by omega)]
      show some ((((((h.bl n + 0 : Nat) : Int) - 1).toNat : Nat)) : Int) = some _
      exact congrArg some (by omega)
    · rw [if_neg z2, if_neg (by omega)]
      rfl
theorem last_fi (b : Bent h lo ba go) (f : Flat g ba) (d : Drawn lo ba go) (o : h.Ok) : lsl [.lb g h 0 false] 0 = go := by
  have w := d.wide
  have q := d.bd
  show g.bl ((nrLow h false h.plc 0 : Int) - 0).toNat = go
  have e : nrLow h false h.plc 0 = h.plc 0 := if_pos rfl
  rw [e, f.bl, over_in b d o (by omega)]
  omega
/-! ### in the bent house alone -/
theorem bl_unit (b : Bent h lo ba go) (d : Drawn lo ba go) (o : h.Ok) (q : Nat) : h.bl (q * (lo * ba)) = q * (lo * ba - go) := by
  have w := d.wide
  rw [b.bl d o, Nat.mul_mod_left, Nat.mul_div_cancel _ (by omega), Nat.zero_sub, Nat.add_zero]
theorem plc_unit (b : Bent h lo ba go) (d : Drawn lo ba go) (o : h.Ok) (n : Nat) : h.plc n / (lo * ba) = n / (lo * ba - go) := by
  have w := d.wide
  have q := d.bd
  have hm := Nat.mod_lt n (show 0 < lo * ba - go by omega)
  rw [b.plc d o, Nat.add_assoc, Nat.mul_comm, Nat.mul_add_div (by omega), Nat.div_eq_of_lt (a := n % (lo * ba - go) + go) (by omega), Nat.add_zero]
theorem unit_vl (b : Bent h lo ba go) (d : Drawn lo ba go) (o : h.Ok) (a n : Nat) : vl [.un h (lo * ba) a] n = some ((n / (lo * ba - go) + a) * (lo * ba - go)) := by
  refine vl_one ?_
  show h.nr ((h.plc n / (lo * ba) + a) * (lo * ba)) true = _
  rw [HN.nr_next, plc_unit b d o, bl_unit b d o]
theorem shift_vl (b : Bent h lo ba go) (d : Drawn lo ba go) (o : h.Ok) (n : Nat) : vl [.lb h h ((3 * (lo * ba) : Nat) : Int) false] n = some (n + 3 * (lo * ba - go)) := by
  refine vl_one ?_
  rw [F_lb (by omega), HN.nr_last]
  have e1 : h.bl (h.plc n + 1) = n + 1 := by
    have e : h.bl (h.plc n + 1) = h.bl (h.plc n) + if _root_.LM.bor h.B h.c (h.plc n) = true then 1 else 0 := bel_succ _
    rw [e, (o.plc_spec n).2, if_pos (o.plc_spec n).1]
  have e2 := o.bl_per (h.plc n + 1) 3
  rw [e1, b.P, b.N d o] at e2
  rw [show (((h.plc n : Nat) : Int) + ((3 * (lo * ba) : Nat) : Int)).toNat + 1 = h.plc n + 1 + lo * ba * 3 by omega, e2]
  omega
theorem un_fi (b : Bent h lo ba go) (d : Drawn lo ba go) (o : h.Ok) : lsl [.lb h h (-((2 * (lo * ba) : Nat) : Int)) true] 0 = 2 * (lo * ba - go) := by
  show h.bl ((nrLow h true h.plc 0 : Int) - (-((2 * (lo * ba) : Nat) : Int))).toNat = _
  rw [nr_lowz, ← bl_unit b d o]
  exact congrArg h.bl (by omega)
/-! ### rounds stay small -/
theorem Bent.dvd (b : Bent h lo ba go) : h.P ∣ lo * ba := by rw [b.P]; exact Nat.dvd_refl _
theorem Flat.dvd (f : Flat g ba) : g.P ∣ lo * ba := by rw [f.N.2]; exact Nat.dvd_mul_left _ _
theorem lb_thr {h1 h2 : HN} (k1 : h1.Ok) (k2 : h2.Ok) (D1 : h1.P ∣ lo * ba) (D2 : h2.P ∣ lo * ba) (d : Drawn lo ba go) (a : Int) (nx : Bool) : (thr [.lb h1 h2 a nx] (1, 1)).1 ≤ 20000 ∧ (thr [.lb h1 h2 a nx] (1, 1)).2 < 2 ^ 200 := by
  have w := d.wide
  rw [thr_one (show (Leg.lb h1 h2 a nx).Ok from ⟨k1, k2⟩)]
  have s := lb_small k1 k2 (M := lo * ba) (by omega) D1 D2 a nx
  refine ⟨Nat.le_trans s.1 (by omega), Nat.lt_of_le_of_lt s.2 (Nat.lt_of_le_of_lt w.2 (by decide))⟩
theorem un_thr (b : Bent h lo ba go) (d : Drawn lo ba go) (o : h.Ok) (a : Nat) : (thr [.un h (lo * ba) a] (1, 1)).1 ≤ 20000 ∧ (thr [.un h (lo * ba) a] (1, 1)).2 < 2 ^ 200 := by
  have w := d.wide
  have e : h.N * (Nat.lcm h.P (lo * ba) / h.P) ≤ 55 := by
    rw [b.P, Nat.lcm_self, Nat.div_self (by omega), Nat.mul_one, b.N d o]
    omega
  rw [thr_one (show (Leg.un h (lo * ba) a).Ok from ⟨o, by omega⟩)]
  exact ⟨Nat.le_trans e (by decide), Nat.lt_of_le_of_lt e (by decide)⟩
end
end LM

set_option Elab.async false
set_option linter.all false
set_option maxRecDepth 100000
set_option maxHeartbeats 4000000
/-! from the house of 60, 60, 30 without rows into the one where two numbers are skipped -/
namespace LM
open PySem PySem.Spec PyProof.Rows L2 RZ
theorem wide_groups : groupsP dropB [] = 3600 := by decide +kernel
theorem wide_counts : countsP dropB [] 3600 = List.replicate 3600 0 := by decide +kernel
theorem wide_fair : Fair dropB [] := ⟨by decide, by decide, by decide, by decide, (fun x hx => nomatch hx), by decide +kernel⟩
theorem wide_cs {cs : List Int} (h : ∃ k, RepIs (countsP dropB [] (groupsP dropB [])) k ∧ cs = (countsP dropB [] (groupsP dropB [])).take k) : cs = [0] := by
  obtain ⟨k, hk, e⟩ := h
  rw [wide_groups, wide_counts] at hk e
  obtain ⟨h1, _, _, h4⟩ := hk
  have hk : k = 1 := by
    rcases Nat.lt_or_ge 1 k with z | z
    · refine absurd (show repOk (List.replicate 3600 (0 : Int)) 1 from ⟨Nat.mod_one _, ?_⟩) (h4 1 (Nat.le_refl 1) z)
      rw [List.drop_replicate, List.length_replicate, List.take_replicate]
      exact congrArg (fun n => List.replicate n (0 : Int)) (by decide)
    · omega
  rw [e, hk, List.take_replicate]
  rfl
theorem wide_n {K : PySem.W.Frag} {C : Addr} {old : Addr → Prop} {H : Hp} {h : HD} (a : h.At K C old H) (eb : h.bs = dropB) (er : h.rows = []) (ec : h.cs = [0]) : Flat h.n 30 := by
  have ct := a.cnt
  refine ⟨?_, ?_, fun g => ?_⟩
  · show (h.bs.getLastD 1).toNat = 30
    rw [eb]; rfl
  · show h.cs.length = 1
    rw [ec]; rfl
  · have e := ct.eqG g
    rw [er] at e
    have z : GN h.bs [] g = 0 := rfl
    omega
/-- the numbers of the house where two are skipped -/
structure DropN (h : HN) : Prop where
  hB : h.B = 30
  hL : h.L = 600
  c : ∀ g, g < 600 → ((h.c g : Nat) : Int) = dropF g
  N : h.N = 17982
theorem drop_n {K : PySem.W.Frag} {C : Addr} {old : Addr → Prop} {H : Hp} {h : HD} (a : h.At K C old H) (eb : h.bs = dropB) (er : h.rows = dropR) (ec : h.cs = dropC) : DropN h.n := by
  have ct := a.cnt
  rw [eb, er, ec] at ct
  obtain ⟨h1, h2, h3⟩ := drop_c ct
  refine ⟨h2, h1, h3, ?_⟩
  have e := ct.total
  rw [drop_sum] at e
  show sumC h.n.B h.n.c h.n.L = 17982
  omega
section
variable {h g : HN}
theorem DropN.P (b : DropN h) : h.P = 18000 := by
  unfold HN.P
  rw [b.hB, b.hL]
/-- whether a place of the round is borne -/
theorem DropN.bor (b : DropN h) {s : Nat} (hs : s < 18000) : _root_.LM.bor h.B h.c s = decide (dropF (s / 30) ≤ ((s % 30 : Nat) : Int)) := by
  unfold _root_.LM.bor
  have e := b.c (s / 30) (by omega)
  rw [b.hB]
  by_cases z : dropF (s / 30) ≤ ((s % 30 : Nat) : Int)
  · rw [decide_eq_true z]
    exact decide_eq_true (by omega)
  · rw [decide_eq_false z]
    exact decide_eq_false (by omega)
theorem DropN.next (b : DropN h) (s : Nat) : h.bl (s + 1) = h.bl s + if _root_.LM.bor h.B h.c s = true then 1 else 0 := bel_succ s
theorem DropN.low (b : DropN h) (o : h.Ok) : h.bl 1800 = 1800 := by
  have c0 : ∀ g, g < 60 → h.c g = 0 := fun g hg => by have := b.c g (by omega); rw [drop_early hg] at this; omega
  have sm : ∀ g, g ≤ 60 → sumC 30 h.c g = 30 * g := by
    intro g
    induction g with
    | zero => intro _; rfl
    | succ g ih =>
      intro hg
      show sumC 30 h.c g + (30 - h.c g) = _
      rw [ih (by omega), c0 g (by omega)]
      omega
  have e := bel_eq (B := 30) (c := h.c) (by decide) (fun g => by have := o.lt g; rw [b.hB] at this; omega) 60 0 (by omega)
  rw [sm 60 (by omega)] at e
  show bel h.B h.c 1800 = 1800
  rw [b.hB]
  have e' : bel 30 h.c 1800 = 30 * 60 + (0 - h.c 60) := e
  omega
theorem DropN.at (b : DropN h) (o : h.Ok) : h.bl 1801 = 1800 ∧ h.bl 1802 = 1800 ∧ h.bl 1803 = 1801 ∧ h.bl 18001 = 17983 ∧ h.bl 1 = 1 := by
  have e0 := b.low o
  have e1 : h.bl 1801 = h.bl 1800 + if _root_.LM.bor h.B h.c 1800 = true then 1 else 0 := b.next 1800
  have e2 : h.bl 1802 = h.bl 1801 + if _root_.LM.bor h.B h.c 1801 = true then 1 else 0 := b.next 1801
  have e3 : h.bl 1803 = h.bl 1802 + if _root_.LM.bor h.B h.c 1802 = true then 1 else 0 := b.next 1802
  have e4 : h.bl 1 = h.bl 0 + if _root_.LM.bor h.B h.c 0 = true then 1 else 0 := b.next 0
  rw [b.bor (by decide), if_neg (by decide)] at e1 e2
  rw [b.bor (by decide), if_pos (by decide)] at e3 e4
  have e5 := o.bl_per 1 1
  rw [b.P, b.N] at e5
  have z : h.bl 0 = 0 := rfl
  refine ⟨by omega, by omega, by omega, ?_, by omega⟩
  have e6 : h.bl (1 + 18000 * 1) = h.bl 18001 := rfl
  rw [e6] at e5
  omega
theorem long_F (b : DropN h) (f : Flat g 30) (og : g.Ok) (n : Nat) : (Leg.lb g h 0 false).F n = ((h.bl (n + 1) : Nat) : Int) - 1 := by
  rw [F_lb (by omega), HN.nr_last, f.plc og]
  exact congrArg (fun z : Nat => ((h.bl (z + 1) : Nat) : Int) - 1) (by omega)
theorem bl_pos (b : DropN h) (o : h.Ok) (n : Nat) : 1 ≤ h.bl (n + 1) := by
  have := bel_mono (B := h.B) (c := h.c) (show 1 ≤ n + 1 by omega)
  have e := (b.at o).2.2.2.2
  simp only [HN.bl] at e ⊢
  omega
theorem long_vl (b : DropN h) (f : Flat g 30) (o : h.Ok) (og : g.Ok) (n : Nat) : vl [.lb g h 0 false] n = some (h.bl (n + 1) - 1) := by
  have := bl_pos b o n
  refine vl_one ?_
  rw [long_F b f og]
  omega
theorem long_fi (b : DropN h) (f : Flat g 30) (o : h.Ok) : lsl [.lb g h 0 false] 0 = 0 := by
  show g.bl ((nrLow h false h.plc 0 : Int) - 0).toNat = 0
  have e : nrLow h false h.plc 0 = h.plc 0 := if_pos rfl
  have e2 : h.plc 0 = 0 := by
    refine o.plc_of ?_ rfl
    rw [b.bor (by decide)]
    decide
  rw [e, f.bl, e2]
  rfl
/-- the value grows from a frame to the next one where the place of the next is borne -/
theorem long_grow (b : DropN h) (f : Flat g 30) (o : h.Ok) (og : g.Ok) (i : Nat) : grow [.lb g h 0 false] i = if _root_.LM.bor h.B h.c (i + 1) = true then 1 else 0 := by
  unfold grow
  rw [long_fi b f o, vn_of (long_vl b f o og _), vn_of (long_vl b f o og _), Nat.zero_add]
  have e := b.next (i + 1)
  have := bl_pos b o i
  by_cases z : _root_.LM.bor h.B h.c (i + 1) = true
  · rw [if_pos z] at e ⊢
    omega
  · rw [if_neg z] at e ⊢
    omega
theorem long_per (b : DropN h) (f : Flat g 30) (o : h.Ok) (og : g.Ok) : Per (grow [.lb g h 0 false]) 18000 := by
  intro i
  rw [long_grow b f o og, long_grow b f o og]
  have e := bor_mul (B := h.B) (c := h.c) (by have := o.hB; omega) o.per 1 (i + 1)
  rw [b.hL, b.hB] at e
  rw [b.hB, show i + 18000 + 1 = i + 1 + 600 * 30 * 1 by omega, e]
theorem div_cases : ∀ m, m < 135 → 18000 % m = 0 → 9000 % m = 0 ∨ 6000 % m = 0 ∨ 3600 % m = 0 := by decide +kernel
theorem quot_cases : ∀ q, q < 135 → 18000 % q = 0 → q = 1 ∨ q % 2 = 0 ∨ q % 3 = 0 ∨ q % 5 = 0 := by decide +kernel
theorem part_of {m : Nat} (hd : m ∣ 18000) (hm : m < 18000) : m ∣ 9000 ∨ m ∣ 6000 ∨ m ∣ 3600 := by
  obtain ⟨q, e⟩ := hd
  rcases Nat.lt_or_ge m 135 with z | z
  · rcases div_cases m z (by rw [e]; exact Nat.mul_mod_right _ _) with h | h | h
    · exact .inl (Nat.dvd_of_mod_eq_zero h)
    · exact .inr (.inl (Nat.dvd_of_mod_eq_zero h))
    · exact .inr (.inr (Nat.dvd_of_mod_eq_zero h))
  · have hq : q < 135 := by
      rcases Nat.lt_or_ge q 135 with y | y
      · exact y
      · have := Nat.mul_le_mul z y
        omega
    have h1 : 18000 % q = 0 := by rw [e]; exact Nat.mul_mod_left _ _
    rcases quot_cases q hq h1 with h | h | h | h
    · subst h
      omega
    · obtain ⟨t, rfl⟩ := Nat.dvd_of_mod_eq_zero h
      exact .inl ⟨t, by rw [Nat.mul_left_comm] at e; omega⟩
    · obtain ⟨t, rfl⟩ := Nat.dvd_of_mod_eq_zero h
      exact .inr (.inl ⟨t, by rw [Nat.mul_left_comm] at e; omega⟩)
    · obtain ⟨t, rfl⟩ := Nat.dvd_of_mod_eq_zero h
      exact .inr (.inr ⟨t, by rw [Nat.mul_left_comm] at e; omega⟩)
theorem long_many (b : DropN h) (f : Flat g 30) (o : h.Ok) (og : g.Ok) {m : Nat} (lp : LeastPer (grow [.lb g h 0 false]) m) : m = 18000 := by
  have hd := lp.dvd (long_per b f o og)
  have hm := Nat.le_of_dvd (by decide) hd
  rcases Nat.lt_or_ge m 18000 with z | z
  · exfalso
    have e0 : _root_.LM.bor h.B h.c 18000 = true := by
      have e := bor_mul (B := h.B) (c := h.c) (by have := o.hB; omega) o.per 1 0
      rw [b.hL, b.hB] at e
      rw [b.hB, show 18000 = 0 + 600 * 30 * 1 by rfl, e, ← b.hB, b.bor (by decide)]
      decide
    have no : ∀ q, m ∣ q → ∀ i, grow [.lb g h 0 false] (i + q) = grow [.lb g h 0 false] i := fun q hq i => by
      obtain ⟨t, rfl⟩ := hq
      exact per_mul lp.2.1 t i
    rcases part_of hd z with y | y | y
    · have e := no 9000 y 8999
      rw [long_grow b f o og, long_grow b f o og, if_pos e0, if_neg (by rw [b.bor (by decide)]; decide)] at e
      exact absurd e (by decide)
    · have e := no 6000 y 1799
      rw [long_grow b f o og, long_grow b f o og, if_pos (by rw [b.bor (by decide)]; decide), if_neg (by rw [b.bor (by decide)]; decide)] at e
      exact absurd e (by decide)
    · have e := no 3600 y 14399
      rw [long_grow b f o og, long_grow b f o og, if_pos e0, if_neg (by rw [b.bor (by decide)]; decide)] at e
      exact absurd e (by decide)
  · omega
theorem long_thr (b : DropN h) (f : Flat g 30) (o : h.Ok) (og : g.Ok) : (thr [.lb g h 0 false] (1, 1)).1 ≤ 20000 ∧ (thr [.lb g h 0 false] (1, 1)).2 < 2 ^ 200 := by
  rw [thr_one (show (Leg.lb g h 0 false).Ok from ⟨og, o⟩)]
  have s := lb_small og o (M := 18000) (by decide) (by rw [f.N.2]; decide) (by rw [b.P]; exact Nat.dvd_refl _) 0 false
  exact ⟨Nat.le_trans s.1 (by decide), Nat.lt_of_le_of_lt s.2 (by decide)⟩
/-- what the law asks -/
theorem long_told (b : DropN h) (f : Flat g 30) (o : h.Ok) (og : g.Ok) : vl [.lb g h 0 false] 1799 = some 1799 ∧ vl [.lb g h 0 false] 1800 = some 1799 ∧ vl [.lb g h 0 false] 1801 = some 1799 ∧ vl [.lb g h 0 false] 1802 = some 1800 ∧ vl [.lb g h 0 false] 18000 = some 17982 := by
  have e0 := b.low o
  obtain ⟨e1, e2, e3, e4, _⟩ := b.at o
  simp only [long_vl b f o og]
  rw [show h.bl (1799 + 1) = 1800 from e0, show h.bl (1800 + 1) = 1800 from e1, show h.bl (1801 + 1) = 1800 from e2, show h.bl (1802 + 1) = 1801 from e3, show h.bl (18000 + 1) = 17983 from e4]
  exact ⟨rfl, rfl, rfl, rfl, rfl⟩
theorem long_U (b : DropN h) (f : Flat g 30) (o : h.Ok) (og : g.Ok) : (vn [.lb g h 0 false] (0 + 18000) : Int) - (vn [.lb g h 0 false] 0 : Int) = 17982 := by
  obtain ⟨e1, e2, e3, e4, e5⟩ := b.at o
  rw [vn_of (long_vl b f o og _), vn_of (long_vl b f o og _), show h.bl (0 + 18000 + 1) = 17983 from e4, show h.bl (0 + 1) = 1 from e5]
  decide
end
/-! ### the known places -/
def someL : List Int := [0, 1799, 1800, 3597, 3598, 17981, 17982, 19782, 107892, 2589408, 10 ^ 30]
def dropD (x : Int) : Int := x + 18 * (x / 17982) + (if 1800 ≤ x % 17982 then 2 * ((x % 17982 - 1800) / 1798 + 1) else 0)
theorem some_places : someL.map (placeP dropB dropC) = someL.map dropD := by decide +kernel
end LM

set_option Elab.async false
set_option linter.all false
set_option maxRecDepth 100000
set_option maxHeartbeats 4000000
set_option pp.maxSteps 600
set_option pp.deepTerms false
/-! what is known of the house of thirty frames -/
namespace LM
open PySem PySem.Spec PyProof.Rows L2 RZ
local macro_rules | `(tactic| walk_at "hp") => `(tactic| first | assumption | exact upd_same | (rw [upd_ne (by assumption)]; assumption) | (rw [upd_ne (Ne.symm (by assumption))]; assumption) | (rw [upd_ne (by assumption)]; exact upd_same) | (rw [upd_ne (Ne.symm (by assumption))]; exact upd_same))
local macro_rules | `(tactic| walk_at "sq") => `(tactic| first | assumption | exact Or.inl (Or.inl (by assumption)) | exact Or.inl (Or.inl upd_same) | exact Or.inl (Or.inl (by walk_at "hp")))
local macro_rules | `(tactic| walk_at "ixl") => `(tactic| refine ⟨_, _, _, _, rfl, rfl, (by walk_at "sq"), (by rfl), ?_⟩)
local macro_rules | `(tactic| walk_at "setl") => `(tactic| refine ⟨_, _, _, _, rfl, rfl, (by walk_at "hp"), (by rfl), ?_⟩)
local macro_rules | `(tactic| walk_at "side") => `(tactic| refine idP ?_; first | omega | (show (0 : Int) < _; omega) | (show (0 : Int) < _ ∧ _ < _; omega) | (refine Or.inr ?_; show (-(2 ^ 64) : Int) < _ ∧ _ < _; omega) | (refine Or.inl ?_; show (-(2 ^ 64) : Int) < _ ∧ _ < _; omega) | exact divW (by omega) (by omega) _ | (refine ⟨by decide, by decide, ?_⟩; decide))
local macro_rules | `(tactic| walk_at "go1") => `(tactic| first
  | refine ⟨_, rfl, ?_⟩
  | refine ⟨_, _, rfl, rfl, (by walk_at "side"), ?_⟩
  | refine ⟨_, _, rfl, (by walk_at "side"), ?_⟩
  | refine ⟨_, _, rfl, rfl, ?_⟩
  | refine Or.inl ⟨_, rfl, ?_⟩
  | refine ⟨_, _, rfl, Or.inl (by walk_at "sq"), ?_⟩
  | walk_at "ixl"
  | walk_at "setl"
  | refine ⟨_, _, rfl, (by walk_at "sq"), rfl, ?_⟩
  | refine ⟨_, _, rfl, (by walk_at "sq"), ?_⟩
  | refine ⟨_, _, rfl, ?_⟩
  | refine ⟨rfl, ?_⟩
  | refine ⟨small (Nat.le_of_ble_eq_true rfl), ?_⟩)
local macro_rules | `(tactic| walk_at "go") => `(tactic| repeat walk_at "go1")

abbrev s_law_drop : Stmt := topS 93
theorem sc_law_drop : FnScope ["_law_number", "_law_tens", "_law_rest"] ["_law_number"] (defScope s_law_drop) := ⟨rfl, rfl, rfl, by decide +kernel, rfl, by decide +kernel, by decide +kernel⟩
abbrev s_law_known_right : Stmt := topS 94
theorem sc_law_known_right : FnScope ["_law_drop_here", "_law_some", "_law_figure"] [] (defScope s_law_known_right) := ⟨rfl, rfl, rfl, by decide +kernel, rfl, by decide +kernel, by decide +kernel⟩
def spDrop : Sp := fun vs H Q _ => ∃ x : Int, vs = [.int x] ∧ ∀ H', Same H H' → Q (.int (dropD x)) H'
def spTrue : Sp := fun vs H Q _ => vs = [] ∧ ∀ H', Same H H' → Q (.bl true) H'
theorem known_texts : labelS dropB (labelP dropB (placeP dropB dropC 2589408)) = ("24:00:00:00" : Str) ∧ labelS dropB (labelP dropB (placeP dropB dropC 3597)) = ("0:01:59:29" : Str) := by decide +kernel
theorem known_bounds : 0 ≤ placeP dropB dropC 2589408 ∧ placeP dropB dropC 2589408 < 10 ^ 59 ∧ 0 ≤ placeP dropB dropC 3597 ∧ placeP dropB dropC 3597 < 10 ^ 59 := by decide +kernel
theorem some_pos : ∀ x ∈ someL, 0 ≤ x := by decide
theorem mapI_get {α : Type} {f : Int → α} {xs : List Int} {i : Nat} {x : α} (h : (xs.map f)[i]? = some x) : ∃ z, xs[i]? = some z ∧ x = f z := by
  rw [List.getElem?_map] at h
  obtain ⟨z, hz, e⟩ := Option.map_eq_some_iff.mp h
  exact ⟨z, hz, e.symm⟩
theorem take_get {f : Int → Int} {xs : List Int} {i : Nat} {z : Int} (h : xs[i]? = some z) : ((xs.take (i + 1)).map f).map V.int = ((xs.take i).map f).map V.int ++ [V.int (f z)] := by
  rw [List.take_succ, h, List.map_append, List.map_append]
  rfl
section
variable {P : Program} {w : World} {K : PySem.W.Frag} {mg : Str → Option Value} {base : Heap} {C : Addr}
theorem ok_drop {f : Addr} {fd : FuncData} (F : Fun K "_law_drop" "_law_drop" s_law_drop f fd) (N : Names mg) : FnOk P w K mg base CX0 1 f fd ["_law_number"] spDrop := by
  have sc := sc_law_drop
  refine F.ok sc (fun vs H Q E h => ?_) (fun cdv A outer s H vs Q E hr h => ?_)
  · obtain ⟨_, rfl, _⟩ := h
    rfl
  · obtain ⟨x, rfl, k⟩ := h
    refine ⟨_, (pss_cons (ps_asg (pe_callB call_divmod (by rfl) N.divmod (by decide +kernel) (pa_cons (pv 0) (pa_cons pe_int pa_nil))) (pg_tup rfl (pgs_cons (pg_name (i := 1) sc.nd rfl (Or.inl rfl)) (pgs_cons (pg_name (i := 2) sc.nd rfl (Or.inl rfl)) pgs_nil))))
      (pss_one (ps_ret (pe_op op_add (pe_op op_add (pv 0) (pe_op op_mul pe_int (pv 1))) (pe_ifExp (pt_cmpR op_ge (pv 2) pe_int (nomark _)) (pe_op op_mul pe_int (pe_op op_add (pe_op op_fdiv (pe_op op_sub (pv 2) pe_int) pe_int) pe_int)) pe_int))))), ?_⟩
    refine ⟨_, rfl, _, _, rfl, ⟨by decide, by decide⟩, ?_⟩
    (intro q nq; generalize e_q : upd H q _ = H1; have s1 : Same H H1 := fun b x hb => (congrFun e_q b).symm.trans (same_new nq b x hb); have h1 := (congrFun e_q q).symm.trans upd_same; clear e_q)
    refine ⟨q, _, rfl, SqT.tup h1, rfl, _, _, rfl, _, _, rfl, rfl, ?_⟩
    refine ⟨_, rfl, _, rfl, _, _, rfl, rfl, .inl ⟨by decide, by decide⟩, _, _, rfl, rfl, ?_⟩
    have kk := k H1 s1
    unfold dropD at kk
    refine ⟨_, rfl, _, _, rfl, rfl, _, rfl, ifB (fun h => ?_) (fun h => ?_)⟩
    · rw [if_pos (of_decide_eq_true h)] at kk
      refine ⟨_, rfl, _, _, rfl, rfl, _, _, rfl, rfl, ⟨by decide, by decide⟩, _, _, rfl, rfl, _, _, rfl, rfl, .inl ⟨by decide, by decide⟩, _, _, rfl, rfl, kk⟩
    · rw [if_neg (of_decide_eq_false h), Int.add_zero] at kk
      refine ⟨_, _, rfl, rfl, ?_⟩
      show Q (.int (x + 18 * (x / 17982) + 0)) H1
      rw [Int.add_zero]
      exact kk
theorem ok_known {f fI fPl fWr : Addr} {fd fdI fdPl fdWr : FuncData} (F : Fun K "_law_known_right" "_law_known_right" s_law_known_right f fd) (T : HouseTxt K mg C) (N : Names mg)
    (MK : Mk K C fI) (GI : FnOk P w K mg base CX0 5 fI fdI ["self", "bases", "rows"] (spInit K C)) (bI : Binds K fdI ["self", "bases", "rows"] [])
    (mPl : Meth K C "place" fPl) (GPl : FnOk P w K mg base CX0 4 fPl fdPl ["self", "frame"] (spPlaceM K C)) (bPl : Binds K fdPl ["self", "frame"] [])
    (mWr : Meth K C "written" fWr) (GWr : FnOk P w K mg base CX0 4 fWr fdWr ["self", "frame"] (spWritten K C)) (bWr : Binds K fdWr ["self", "frame"] [])
    (D_law_drop : DefK P w K mg base "_law_drop" ["_law_number"] 1 spDrop) : FnOk P w K mg base CX0 7 f fd [] spTrue := by
  have sc := sc_law_known_right
  refine F.ok sc (fun vs H Q E h => ?_) (fun cdv A outer s H vs Q E hr h => ?_)
  · obtain ⟨rfl, _⟩ := h
    rfl
  · obtain ⟨rfl, k⟩ := h
    refine ⟨_, (pss_cons (ps_set (i := 0) sc.nd rfl (Or.inr rfl) (pe_make MK GI (hr.mono (by decide)) rfl T.mgC bI .nil pass0 (pa_cons (pe_tup (pa_cons pe_int (pa_cons pe_int (pa_cons pe_int pa_nil)))) (pa_cons (pe_tup (pa_cons (pe_tup (pa_cons pe_int (pa_cons pe_int (pa_cons pe_int pa_nil)))) (pa_cons (pe_tup (pa_cons pe_int (pa_cons pe_int (pa_cons pe_int pa_nil)))) pa_nil))) pa_nil))))
      (pss_cons (ps_set (i := 1) sc.nd rfl (Or.inl rfl) (pe_lst (pa_cons pe_int (pa_cons pe_int (pa_cons pe_int (pa_cons pe_int (pa_cons pe_int (pa_cons pe_int (pa_cons pe_int (pa_cons pe_int (pa_cons pe_int (pa_cons pe_int (pa_cons (pe_op op_pow pe_int pe_int) pa_nil)))))))))))))
      (pss_cons (ps_if (pt_cmpR (op_neIs (hu64 hr)) (pe_lc (own := [("_law_figure", 2)]) rfl sc.nd (pi_list (pv 1)) (blkOk_by (own := [("_law_figure", 2)]) (N := ["_law_drop_here", "_law_some", "_law_figure"]) (sc := defScope (topS 94)) (by decide +kernel)) (fun _ _ _ _ _ => (pg_name (i := 2) sc.nd rfl (Or.inl rfl))) (fun _ _ _ _ _ => pts_nil) (fun _ _ _ _ _ => (pe_meth (pv 0) T.cl mPl GPl (hr.mono (by decide)) bPl .nil pass0 (pa_cons (pv 2) pa_nil)))) (pe_lc (own := [("_law_figure", 2)]) rfl sc.nd (pi_list (pv 1)) (blkOk_by (own := [("_law_figure", 2)]) (N := ["_law_drop_here", "_law_some", "_law_figure"]) (sc := defScope (topS 94)) (by decide +kernel)) (fun _ _ _ _ _ => (pg_name (i := 2) sc.nd rfl (Or.inl rfl))) (fun _ _ _ _ _ => pts_nil) (fun _ _ _ _ _ => (pe_d D_law_drop (hr.mono (by decide)) rfl (pa_cons (pv 2) pa_nil)))) (nomark _)) (pss_one (ps_ret pe_bl)) pss_nil)
      (pss_one (ps_ret (pe_and (pe_cmpR op_eq (pe_meth (pv 0) T.cl mWr GWr (hr.mono (by decide)) bWr .nil pass0 (pa_cons pe_int pa_nil)) pe_str (nomark _)) (pe_one (pe_cmpR op_eq (pe_meth (pv 0) T.cl mWr GWr (hr.mono (by decide)) bWr .nil pass0 (pa_cons pe_int pa_nil)) pe_str (nomark _))))))))), ?_⟩
    refine ⟨Nat.le_of_ble_eq_true rfl, ?_⟩
    (intro ba n_ba; generalize e_ba : upd H ba _ = H1; have s1 : Same H H1 := fun b x hb => (congrFun e_ba b).symm.trans (same_new n_ba b x hb); have h_ba := (congrFun e_ba ba).symm.trans upd_same; clear e_ba)
    refine ⟨Nat.le_of_ble_eq_true rfl, ?_⟩
    (intro r1 n_r1; generalize e_r1 : upd H1 r1 _ = H2; have s2 : Same H1 H2 := fun b x hb => (congrFun e_r1 b).symm.trans (same_new n_r1 b x hb); have h_r1 := (congrFun e_r1 r1).symm.trans upd_same; clear e_r1)
    refine ⟨Nat.le_of_ble_eq_true rfl, ?_⟩
    (intro r2 n_r2; generalize e_r2 : upd H2 r2 _ = H3; have s3 : Same H2 H3 := fun b x hb => (congrFun e_r2 b).symm.trans (same_new n_r2 b x hb); have h_r2 := (congrFun e_r2 r2).symm.trans upd_same; clear e_r2)
    refine ⟨Nat.le_of_ble_eq_true rfl, ?_⟩
    (intro rr n_rr; generalize e_rr : upd H3 rr _ = H4; have s4 : Same H3 H4 := fun b x hb => (congrFun e_rr b).symm.trans (same_new n_rr b x hb); have h_rr := (congrFun e_rr rr).symm.trans upd_same; clear e_rr)
    intro pm dx np ndx ndp
    refine house_use (bs := dropB) (rows := dropR) (b := ba) (r := rr) np ndx rfl (SqT.tup ((s2.trans (s3.trans s4)) _ _ h_ba)) ⟨[r1, r2], SqT.tup h_rr, .cons (SqT.tup ((s3.trans s4) _ _ h_r1)) (.cons (SqT.tup (s4 _ _ h_r2)) .nil)⟩ drop_fair fun cs H5 s5 hA => ⟨rfl, ?_⟩
    obtain rfl := drop_cs hA.rep
    refine g_nx ?_
    dsimp only
    refine ⟨_, _, rfl, rfl, ⟨by decide, by decide, by decide⟩, Nat.le_of_ble_eq_true rfl, ?_⟩
    (intro so n_so; generalize e_so : upd H5 so _ = H6; have s6 : Same H5 H6 := fun b x hb => (congrFun e_so b).symm.trans (same_new n_so b x hb); have h_so := (congrFun e_so so).symm.trans upd_same; clear e_so)
    have h_so' : H6 so = some (.lst (someL.map V.int)) := h_so
    refine ⟨_, rfl, so, rfl, ⟨_, SqL.lst h_so'⟩, ?_⟩
    intro D nD
    refine lc_list (K := K) (xs := someL.map V.int) (fun i H' => Same H6 H' ∧ H' D = some (.lst (((someL.take i).map (placeP dropB dropC)).map V.int))) ⟨same_new nD, upd_same⟩ (fun i H' _ ⟨sm, _⟩ => SqL.lst (sm _ _ h_so')) ?_ ?_
    · rintro i x H' hx ⟨sm, eD⟩
      obtain ⟨z, hz, rfl⟩ := mapI_get hx
      refine ⟨rfl, ?_⟩
      have hA' := hA.same (s6.trans sm)
      obtain ⟨dxA, skA, ahA, rdA, e1, _⟩ := id hA'.ob
      refine ⟨_, rfl, pm, dxA, _, rfl, e1, hf_pl _ _ _ _ _ _, _, rfl, _, pm, ba, rr, dropB, dropR, dropC, z, rfl, hA', some_pos z (List.mem_of_getElem? hz), fun H7 s7 => ?_⟩
      refine ⟨_, s7 _ _ eD, smallLt (by rw [List.length_map, List.length_map, List.length_take]; have : someL.length = 11 := rfl; omega), same_mut (sm.trans s7) nD, ?_⟩
      rw [upd_same, take_get hz]
    rintro H7 ⟨sm7, eD⟩
    refine ⟨_, rfl, so, rfl, ⟨_, SqL.lst (sm7 _ _ h_so')⟩, ?_⟩
    intro D2 nD2
    refine lc_list (K := K) (xs := someL.map V.int) (fun i H' => Same H7 H' ∧ H' D2 = some (.lst (((someL.take i).map dropD).map V.int))) ⟨same_new nD2, upd_same⟩ (fun i H' _ ⟨sm, _⟩ => SqL.lst (sm _ _ (sm7 _ _ h_so'))) ?_ ?_
    · rintro i x H' hx ⟨sm, eD⟩
      obtain ⟨z, hz, rfl⟩ := mapI_get hx
      refine ⟨rfl, ?_⟩
      refine ⟨_, rfl, z, rfl, fun H7 s7 => ?_⟩
      refine ⟨_, s7 _ _ eD, smallLt (by rw [List.length_map, List.length_map, List.length_take]; have : someL.length = 11 := rfl; omega), same_mut (sm.trans s7) nD2, ?_⟩
      rw [upd_same, take_get hz]
    rintro H8 ⟨sm8, eD2⟩
    refine ⟨D, D2, someL.map (placeP dropB dropC), someL.map dropD, rfl, rfl, .inl ⟨SqL.lst (sm8 _ _ eD), SqL.lst eD2⟩, _, rfl, ?_⟩
    rw [some_places, decide_eq_true rfl]
    refine iteF ?_
    refine g_nx ?_
    dsimp only
    have s58 := s6.trans (sm7.trans sm8)
    have hA8 := hA.same s58
    obtain ⟨dxA, skA, ahA, rdA, e1, _⟩ := id hA8.ob
    refine ⟨_, rfl, pm, dxA, _, rfl, e1, (hf_nm _ _ _ _ _ _).2.2, _, pm, ba, rr, dropB, dropR, dropC, 2589408, rfl, hA8, by decide, known_bounds.1, known_bounds.2.1, fun H9 s9 => ?_⟩
    rw [known_texts.1]
    refine ⟨rfl, _, rfl, ?_⟩
    rw [decide_eq_true rfl]
    refine iteT ?_
    have hA9 := hA8.same s9
    obtain ⟨dxB, skB, ahB, rdB, e2, _⟩ := id hA9.ob
    refine ⟨_, rfl, pm, dxB, _, rfl, e2, (hf_nm _ _ _ _ _ _).2.2, _, pm, ba, rr, dropB, dropR, dropC, 3597, rfl, hA9, by decide, known_bounds.2.2.1, known_bounds.2.2.2, fun H10 s10 => ?_⟩
    rw [known_texts.2]
    refine ⟨rfl, ?_⟩
    rw [decide_eq_true rfl]
    exact k _ ((s1.trans (s2.trans (s3.trans s4))).trans (s5.trans (s58.trans (s9.trans s10))))
end
end LM

set_option Elab.async false
set_option linter.all false
set_option maxRecDepth 100000
set_option maxHeartbeats 4000000
set_option pp.maxSteps 600
set_option pp.deepTerms false
/-! reading into the house of thirty frames -/
namespace LM
open PySem PySem.Spec PyProof.Rows L2 RZ
local macro_rules | `(tactic| walk_at "hp") => `(tactic| first | assumption | exact upd_same | (rw [upd_ne (by assumption)]; assumption) | (rw [upd_ne (Ne.symm (by assumption))]; assumption) | (rw [upd_ne (by assumption)]; exact upd_same) | (rw [upd_ne (Ne.symm (by assumption))]; exact upd_same))
local macro_rules | `(tactic| walk_at "sq") => `(tactic| first | assumption | exact Or.inl (Or.inl (by assumption)) | exact Or.inl (Or.inl upd_same) | exact Or.inl (Or.inl (by walk_at "hp")))
local macro_rules | `(tactic| walk_at "ixl") => `(tactic| refine ⟨_, _, _, _, rfl, rfl, (by walk_at "sq"), (by rfl), ?_⟩)
local macro_rules | `(tactic| walk_at "setl") => `(tactic| refine ⟨_, _, _, _, rfl, rfl, (by walk_at "hp"), (by rfl), ?_⟩)
local macro_rules | `(tactic| walk_at "side") => `(tactic| refine idP ?_; first | omega | (show (0 : Int) < _; omega) | (show (0 : Int) < _ ∧ _ < _; omega) | (refine Or.inr ?_; show (-(2 ^ 64) : Int) < _ ∧ _ < _; omega) | (refine Or.inl ?_; show (-(2 ^ 64) : Int) < _ ∧ _ < _; omega) | exact divW (by omega) (by omega) _ | (refine ⟨by decide, by decide, ?_⟩; decide))
local macro_rules | `(tactic| walk_at "go1") => `(tactic| first
  | refine ⟨_, rfl, ?_⟩
  | refine ⟨_, _, rfl, rfl, (by walk_at "side"), ?_⟩
  | refine ⟨_, _, rfl, (by walk_at "side"), ?_⟩
  | refine ⟨_, _, rfl, rfl, ?_⟩
  | refine Or.inl ⟨_, rfl, ?_⟩
  | refine ⟨_, _, rfl, Or.inl (by walk_at "sq"), ?_⟩
  | walk_at "ixl"
  | walk_at "setl"
  | refine ⟨_, _, rfl, (by walk_at "sq"), rfl, ?_⟩
  | refine ⟨_, _, rfl, (by walk_at "sq"), ?_⟩
  | refine ⟨_, _, rfl, ?_⟩
  | refine ⟨rfl, ?_⟩
  | refine ⟨small (Nat.le_of_ble_eq_true rfl), ?_⟩)
local macro_rules | `(tactic| walk_at "go") => `(tactic| repeat walk_at "go1")

abbrev s_law_long_right : Stmt := topS 95
theorem sc_law_long_right : FnScope ["_law_drop_here", "_law_plain", "_law_back", "_law_told", "_law_figure"] [] (defScope s_law_long_right) := ⟨rfl, rfl, rfl, by decide +kernel, rfl, by decide +kernel, by decide +kernel⟩
section
variable {P : Program} {w : World} {K : PySem.W.Frag} {mg : Str → Option Value} {base : Heap} {C cm : Addr} {c : LCs}
theorem ok_long {f fI fIM fOf pFi fFi pRd fRd e0 : Addr} {fd fdI fdIM fdOf fdFi fdRd : FuncData} {ds2 : List Value} (F : Fun K "_law_long_right" "_law_long_right" s_law_long_right f fd) (T : HouseTxt K mg C) (TM : MoveTxt K mg cm) (N : Names mg)
    (MK : Mk K C fI) (GI : FnOk P w K mg base CX0 5 fI fdI ["self", "bases", "rows"] (spInit K C)) (bI : Binds K fdI ["self", "bases", "rows"] []) (bI2 : Binds K fdI ["self", "bases", "rows"] ds2) (hd2 : Vals [V.ref e0] ds2) (hE : ∀ H, SqT K H e0 [])
    (MKM : Mk K cm fIM) (GIM : FnOk P w K mg base CX0 8 fIM fdIM ["self", "houses", "steps"] (spMoveInit K C cm c)) (bIM : Binds K fdIM ["self", "houses", "steps"] [])
    (mOf : Meth K cm "of" fOf) (GOf : FnOk P w K mg base CX0 4 fOf fdOf ["self", "frame"] (spOf K C cm c)) (bOf : Binds K fdOf ["self", "frame"] [])
    (qFi : PropOf K cm "first" pFi fFi) (GFi : FnOk P w K mg base CX0 1 fFi fdFi ["self"] (getSp cm "_first")) (bFi : Binds K fdFi ["self"] []) (qRd : PropOf K cm "round" pRd fRd) (GRd : FnOk P w K mg base CX0 1 fRd fdRd ["self"] (getSp cm "_round")) (bRd : Binds K fdRd ["self"] []) :
    FnOk P w K mg base CX0 10 f fd [] spTrue := by
  have sc := sc_law_long_right
  refine F.ok sc (fun vs H Q E h => ?_) (fun cdv A outer s H vs Q E hr h => ?_)
  · obtain ⟨rfl, _⟩ := h
    rfl
  · obtain ⟨rfl, k⟩ := h
    refine ⟨_, (pss_cons (ps_par (i := 0) (j := 1) rfl sc.nd rfl rfl (by decide) rfl rfl (pa_cons (pe_make MK GI (hr.mono (by decide)) rfl T.mgC bI .nil pass0 (pa_cons (pe_tup (pa_cons pe_int (pa_cons pe_int (pa_cons pe_int pa_nil)))) (pa_cons (pe_tup (pa_cons (pe_tup (pa_cons pe_int (pa_cons pe_int (pa_cons pe_int pa_nil)))) (pa_cons (pe_tup (pa_cons pe_int (pa_cons pe_int (pa_cons pe_int pa_nil)))) pa_nil))) pa_nil))) (pa_cons (pe_make MK GI (hr.mono (by decide)) rfl T.mgC bI2 hd2 pass0 (pa_cons (pe_tup (pa_cons pe_int (pa_cons pe_int (pa_cons pe_int pa_nil)))) pa_nil)) pa_nil)) (by rfl))
      (pss_cons (ps_set (i := 2) sc.nd rfl (Or.inr rfl) (pe_make MKM GIM (hr.mono (by decide)) rfl TM.mgM bIM .nil pass0 (pa_cons (pe_tup (pa_cons (pv 1) (pa_cons (pv 0) pa_nil))) (pa_cons (pe_tup (pa_cons (pe_tup (pa_cons pe_str (pa_cons pe_int (pa_cons pe_str pa_nil)))) pa_nil)) pa_nil))))
      (pss_cons (ps_set (i := 3) sc.nd rfl (Or.inl rfl) (pe_op op_cat (pe_lc (own := [("_law_figure", 4)]) rfl sc.nd (pi_list (pe_lst (pa_cons pe_int (pa_cons pe_int (pa_cons pe_int (pa_cons pe_int (pa_cons pe_int pa_nil))))))) (blkOk_by (own := [("_law_figure", 4)]) (N := ["_law_drop_here", "_law_plain", "_law_back", "_law_told", "_law_figure"]) (sc := defScope (topS 95)) (by decide +kernel)) (fun _ _ _ _ _ => (pg_name (i := 4) sc.nd rfl (Or.inl rfl))) (fun _ _ _ _ _ => pts_nil) (fun _ _ _ _ _ => (pe_meth (pv 2) TM.cl mOf GOf (hr.mono (by decide)) bOf .nil pass0 (pa_cons (pv 4) pa_nil)))) (pe_lst (pa_cons (pe_prop (pv 2) TM.cl qFi GFi (hr.mono (by decide)) bFi .nil pass0 rfl) (pa_cons (pe_prop (pv 2) TM.cl qRd GRd (hr.mono (by decide)) bRd .nil pass0 rfl) pa_nil)))))
      (pss_one (ps_ret (pe_cmpR (op_eqD (hu64 hr)) (pv 3) (pe_lst (pa_cons pe_int (pa_cons pe_int (pa_cons pe_int (pa_cons pe_int (pa_cons pe_int (pa_cons pe_int (pa_cons (pe_tup (pa_cons pe_int (pa_cons pe_int pa_nil))) pa_nil)))))))) (nomark _))))))), ?_⟩
    refine ⟨Nat.le_of_ble_eq_true rfl, ?_⟩
    (intro ba n_ba; generalize e_ba : upd H ba _ = H1; have s1 : Same H H1 := fun b x hb => (congrFun e_ba b).symm.trans (same_new n_ba b x hb); have h_ba := (congrFun e_ba ba).symm.trans upd_same; clear e_ba)
    refine ⟨Nat.le_of_ble_eq_true rfl, ?_⟩
    (intro r1 n_r1; generalize e_r1 : upd H1 r1 _ = H2; have s2 : Same H1 H2 := fun b x hb => (congrFun e_r1 b).symm.trans (same_new n_r1 b x hb); have h_r1 := (congrFun e_r1 r1).symm.trans upd_same; clear e_r1)
    refine ⟨Nat.le_of_ble_eq_true rfl, ?_⟩
    (intro r2 n_r2; generalize e_r2 : upd H2 r2 _ = H3; have s3 : Same H2 H3 := fun b x hb => (congrFun e_r2 b).symm.trans (same_new n_r2 b x hb); have h_r2 := (congrFun e_r2 r2).symm.trans upd_same; clear e_r2)
    refine ⟨Nat.le_of_ble_eq_true rfl, ?_⟩
    (intro rr n_rr; generalize e_rr : upd H3 rr _ = H4; have s4 : Same H3 H4 := fun b x hb => (congrFun e_rr b).symm.trans (same_new n_rr b x hb); have h_rr := (congrFun e_rr rr).symm.trans upd_same; clear e_rr)
    intro pm dx np ndx ndp
    refine house_use (bs := dropB) (rows := dropR) (b := ba) (r := rr) np ndx rfl (SqT.tup ((s2.trans (s3.trans s4)) _ _ h_ba)) ⟨[r1, r2], SqT.tup h_rr, .cons (SqT.tup ((s3.trans s4) _ _ h_r1)) (.cons (SqT.tup (s4 _ _ h_r2)) .nil)⟩ drop_fair fun cs H5 s5 hA => ⟨rfl, ?_⟩
    obtain rfl := drop_cs hA.rep
    refine ⟨Nat.le_of_ble_eq_true rfl, ?_⟩
    (intro bb n_bb; generalize e_bb : upd H5 bb _ = H6; have s6 : Same H5 H6 := fun b x hb => (congrFun e_bb b).symm.trans (same_new n_bb b x hb); have h_bb := (congrFun e_bb bb).symm.trans upd_same; clear e_bb)
    intro pl dx2 np2 ndx2 ndp2
    refine house_use (bs := dropB) (rows := []) (b := bb) (r := e0) np2 ndx2 rfl (SqT.tup h_bb) ⟨[], hE _, .nil⟩ wide_fair fun cs2 H7 s7 hB => ⟨rfl, ?_⟩
    obtain rfl := wide_cs hB.rep
    have hA := (hA.same (s6.trans s7)).weak (fun q (hq : False) => False.elim hq)
    have hB := hB.weak (fun q (hq : False) => False.elim hq)
    refine ⟨_, _, rfl, ?_⟩
    refine g_nx ?_
    dsimp only
    refine ⟨_, rfl, _, rfl, Nat.le_of_ble_eq_true rfl, ?_⟩
    (intro hh n_hh; generalize e_hh : upd H7 hh _ = H8; have s8 : Same H7 H8 := fun b x hb => (congrFun e_hh b).symm.trans (same_new n_hh b x hb); have h_hh := (congrFun e_hh hh).symm.trans upd_same; clear e_hh)
    refine ⟨Nat.le_of_ble_eq_true rfl, ?_⟩
    (intro sr n_sr; generalize e_sr : upd H8 sr _ = H9; have s9 : Same H8 H9 := fun b x hb => (congrFun e_sr b).symm.trans (same_new n_sr b x hb); have h_sr := (congrFun e_sr sr).symm.trans upd_same; clear e_sr)
    refine ⟨Nat.le_of_ble_eq_true rfl, ?_⟩
    (intro st n_st; generalize e_st : upd H9 st _ = H10; have s10 : Same H9 H10 := fun b x hb => (congrFun e_st b).symm.trans (same_new n_st b x hb); have h_st := (congrFun e_st st).symm.trans upd_same; clear e_st)
    have s710 := s8.trans (s9.trans s10)
    generalize e1 : HD.mk pl bb e0 dropB [] [0] = h1
    generalize e2 : HD.mk pm ba rr dropB dropR dropC = h2
    have A1 : HD.At K C (fun _ => False) H10 h1 := by rw [← e1]; exact hB.same s710
    have A2 : HD.At K C (fun _ => False) H10 h2 := by rw [← e2]; exact hA.same s710
    have f1 : Flat h1.n 30 := wide_n A1 (by rw [← e1]) (by rw [← e1]) (by rw [← e1])
    have b2 : DropN h2.n := drop_n A2 (by rw [← e2]) (by rw [← e2]) (by rw [← e2])
    have o1 := A1.ok
    have o2 := A2.ok
    have p1 : h1.p = pl := by rw [← e1]
    have p2 : h2.p = pm := by rw [← e2]
    have hbs : h2.bs = h1.bs := by rw [← e1, ← e2]
    rw [← p1, ← p2] at h_hh
    refine fun mA dx nmA ndx ndx' => make_use nmA ndx (old := fun _ => False) (hs := [h1, h2]) (sts := [.read 1 false]) (fun q (hq : False) => False.elim hq) ⟨SqT.tup ((s9.trans s10) _ _ h_hh), fun h hh => ?_⟩ (Nat.le_of_ble_eq_true rfl) (Nat.le_of_ble_eq_true rfl) ⟨[sr], SqT.tup h_st, .cons (SqT.tup (s10 _ _ h_sr)) .nil⟩ ⟨⟨by show 1 < 2; decide, hbs⟩, trivial⟩ (Nat.le_of_ble_eq_true rfl) (long_thr b2 f1 o2 o1).1 (fun dA H11 eA1 eA2 aA sA => ⟨rfl, ?_⟩)
    · simp only [List.mem_cons, List.not_mem_nil, or_false] at hh
      rcases hh with rfl | rfl
      · exact A1
      · exact A2
    have lA : dA.ls = [.lb h1.n h2.n 0 false] := by unfold MD.ls; rw [eA1, eA2]; rfl
    have beA : dA.be < 2 ^ 200 := by unfold MD.be; rw [lA]; exact (long_thr b2 f1 o2 o1).2
    have vA : ∀ n, dA.val n = some ((h2.n.bl (n + 1) - 1 : Nat) : Int) := fun n => by unfold MD.val; rw [lA, long_vl b2 f1 o2 o1]; rfl
    have mA' : dA.many = 18000 := long_many b2 f1 o2 o1 (by rw [← lA]; exact aA.lp)
    have fA : dA.fi = 0 := by unfold MD.fi; rw [lA]; exact long_fi b2 f1 o2
    have uA : dA.U = 17982 := by unfold MD.U; rw [fA, mA', lA]; exact long_U b2 f1 o2 o1
    obtain ⟨dxA, eoA⟩ := aA.ob
    refine g_nx ?_
    dsimp only
    refine ⟨Nat.le_of_ble_eq_true rfl, ?_⟩
    (intro so n_so; generalize e_so : upd H11 so _ = H12; have s12 : Same H11 H12 := fun b x hb => (congrFun e_so b).symm.trans (same_new n_so b x hb); have h_so := (congrFun e_so so).symm.trans upd_same; clear e_so)
    have h_so' : H12 so = some (.lst (natL [1799, 1800, 1801, 1802, 18000])) := h_so
    refine ⟨so, rfl, ⟨_, SqL.lst h_so'⟩, ?_⟩
    intro D nD
    refine lc_list (K := K) (xs := natL [1799, 1800, 1801, 1802, 18000]) (fun i H' => Same H12 H' ∧ H' D = some (.lst (natL (([1799, 1800, 1801, 1802, 18000].take i).map fun n => h2.n.bl (n + 1) - 1)))) ⟨same_new nD, upd_same⟩ (fun i H' _ ⟨sm, _⟩ => SqL.lst (sm _ _ h_so')) ?_ ?_
    · rintro i x H' hx ⟨sm, eD⟩
      obtain ⟨n, hn, rfl⟩ := natL_ex hx
      refine ⟨rfl, ?_⟩
      have hm := List.mem_of_getElem? hn
      have hn2 : n < 2 ^ 250 := by
        have : ∀ n ∈ [1799, 1800, 1801, 1802, 18000], n < 2 ^ 250 := by decide
        exact this n hm
      have sm' := s12.trans sm
      refine ⟨_, rfl, mA, dxA, _, rfl, sm' _ _ eoA, dA.no_of, _, rfl, _, mA, dA, n, rfl, aA.same sm', hn2, beA, fun H13 s13 => ?_⟩
      rw [vA]
      refine ⟨_, s13 _ _ eD, smallLt (by unfold natL; rw [List.length_map, List.length_map, List.length_take]; have : ([1799, 1800, 1801, 1802, 18000] : List Nat).length = 5 := rfl; omega), same_mut (sm.trans s13) nD, ?_⟩
      rw [upd_same, natL_take hn]
      rfl
    rintro H13 ⟨sm, eD⟩
    have e13 := (s12.trans sm) _ _ eoA
    refine ⟨_, rfl, mA, dxA, _, rfl, e13, mA, dxA, _, _, rfl, e13, dA.first, _, rfl, mA, dxA, _, rfl, e13, mA, dxA, _, _, rfl, e13, dA.round, Nat.le_of_ble_eq_true rfl, ?_⟩
    (intro l2 n_l2; generalize e_l2 : upd H13 l2 _ = H14; have s14 : Same H13 H14 := fun b x hb => (congrFun e_l2 b).symm.trans (same_new n_l2 b x hb); have h_l2 := (congrFun e_l2 l2).symm.trans upd_same; clear e_l2)
    have eD14 := s14 _ _ eD
    have hlD : (natL (([1799, 1800, 1801, 1802, 18000].take ([1799, 1800, 1801, 1802, 18000] : List Nat).length).map fun n => h2.n.bl (n + 1) - 1)) = [V.int 1799, V.int 1799, V.int 1799, V.int 1800, V.int 17982] := by
      obtain ⟨q1, q2, q3, q4, _⟩ := b2.at o2
      have q0 := b2.low o2
      show [V.int ((h2.n.bl 1800 - 1 : Nat) : Int), V.int ((h2.n.bl 1801 - 1 : Nat) : Int), V.int ((h2.n.bl 1802 - 1 : Nat) : Int), V.int ((h2.n.bl 1803 - 1 : Nat) : Int), V.int ((h2.n.bl 18001 - 1 : Nat) : Int)] = _
      rw [q0, q1, q2, q3, q4]
      rfl
    have hx : H14 D = some (.lst [V.int 1799, V.int 1799, V.int 1799, V.int 1800, V.int 17982]) := eD14.trans (congrArg (fun z => some (HO.lst z)) hlD)
    refine ⟨D, l2, _, _, rfl, rfl, hx, h_l2, Nat.le_of_ble_eq_true rfl, ?_⟩
    (intro l3 n_l3; generalize e_l3 : upd H14 l3 _ = H15; have s15 : Same H14 H15 := fun b x hb => (congrFun e_l3 b).symm.trans (same_new n_l3 b x hb); have h_l3 := (congrFun e_l3 l3).symm.trans upd_same; clear e_l3)
    refine g_nx ?_
    dsimp only
    refine ⟨_, rfl, Nat.le_of_ble_eq_true rfl, ?_⟩
    (intro tt n_tt; generalize e_tt : upd H15 tt _ = H16; have s16 : Same H15 H16 := fun b x hb => (congrFun e_tt b).symm.trans (same_new n_tt b x hb); have h_tt := (congrFun e_tt tt).symm.trans upd_same; clear e_tt)
    refine ⟨Nat.le_of_ble_eq_true rfl, ?_⟩
    (intro l4 n_l4; generalize e_l4 : upd H16 l4 _ = H17; have s17 : Same H16 H17 := fun b x hb => (congrFun e_l4 b).symm.trans (same_new n_l4 b x hb); have h_l4 := (congrFun e_l4 l4).symm.trans upd_same; clear e_l4)
    have rd17 : H17 dA.rd = some (.tup [.int 18000, .int 17982]) := by
      have := ((s12.trans sm).trans (s14.trans (s15.trans (s16.trans s17)))) _ _ aA.rd
      rw [mA', uA] at this
      exact this
    have l3' : H17 l3 = some (.lst ([V.int 1799, V.int 1799, V.int 1799, V.int 1800, V.int 17982] ++ [V.int 0, V.ref dA.rd])) := by
      have := (s16.trans s17) _ _ h_l3
      rw [fA] at this
      exact this
    have d0 : DpAll K H17 ([V.int 1799, V.int 1799, V.int 1799, V.int 1800, V.int 17982] ++ [V.int 0, V.ref dA.rd]) [.int 1799, .int 1799, .int 1799, .int 1800, .int 17982, .int 0, .tuple [.int 18000, .int 17982]] :=
      .cons (.int _) (.cons (.int _) (.cons (.int _) (.cons (.int _) (.cons (.int _) (.cons (.int _) (.cons (.tup (SqT.tup rd17) (.cons (.int _) (.cons (.int _) .nil))) .nil))))))
    have d1 : DpAll K H17 [V.int 1799, V.int 1799, V.int 1799, V.int 1800, V.int 17982, V.int 0, V.ref tt] [.int 1799, .int 1799, .int 1799, .int 1800, .int 17982, .int 0, .tuple [.int 18000, .int 17982]] :=
      .cons (.int _) (.cons (.int _) (.cons (.int _) (.cons (.int _) (.cons (.int _) (.cons (.int _) (.cons (.tup (SqT.tup (s17 _ _ h_tt)) (.cons (.int _) (.cons (.int _) .nil))) .nil))))))
    refine ⟨_, _, .lst (SqL.lst l3') d0, .lst (SqL.lst h_l4) d1, by decide +kernel, by decide +kernel, ?_⟩
    rw [SeqAt.eqv_refl _ (by decide +kernel)]
    exact k _ ((s1.trans (s2.trans (s3.trans s4))).trans (s5.trans (s6.trans (s7.trans (s710.trans (sA.trans ((s12.trans sm).trans (s14.trans (s15.trans (s16.trans s17))))))))))
end
end LM

set_option Elab.async false
set_option linter.all false
set_option maxRecDepth 100000
set_option maxHeartbeats 4000000
/-! the law's formulas, in whole numbers -/
namespace LM
open PySem PySem.Spec PyProof.Rows L2 RZ
theorem unit_W : ∀ lo ∈ los, ∀ ba ∈ bas, unitP (bentB lo ba) 0 * ((bentB lo ba).getLastD 1).toNat = lo * ba := by decide +kernel
theorem bent_W {h : HD} {lo ba go : Nat} (d : Drawn lo ba go) (e : h.bs = bentB lo ba) : h.W 0 = lo * ba := by
  unfold HD.W
  rw [e]
  exact unit_W lo d.lo ba d.ba
section
variable {h g : HN} {lo ba go : Nat}
theorem over_int (b : Bent h lo ba go) (d : Drawn lo ba go) (o : h.Ok) (n : Nat) : (n : Int) / ((lo * ba - go : Nat) : Int) * ((lo * ba : Nat) : Int) + (n : Int) % ((lo * ba - go : Nat) : Int) + (go : Int) = ((h.plc n : Nat) : Int) := by
  rw [b.plc d o]
  generalize lo * ba - go = Kp
  generalize lo * ba = Wd
  rw [Int.natCast_add, Int.natCast_add, Int.natCast_mul, Int.natCast_ediv, Int.natCast_emod]
theorem back_int (b : Bent h lo ba go) (d : Drawn lo ba go) (o : h.Ok) (n : Nat) : (n : Int) / ((lo * ba : Nat) : Int) * ((lo * ba - go : Nat) : Int) + (if (n : Int) % ((lo * ba : Nat) : Int) - (go : Int) > 0 then (n : Int) % ((lo * ba : Nat) : Int) - (go : Int) else 0) = ((h.bl n : Nat) : Int) := by
  rw [b.bl d o]
  generalize lo * ba - go = Kp
  generalize lo * ba = Wd
  rw [Int.natCast_add, Int.natCast_mul, Int.natCast_ediv]
  congr 1
  rw [← Int.natCast_emod]
  split <;> omega
theorem below_rem {wide n : Nat} : (n : Int) % ((wide : Nat) : Int) = ((n % wide : Nat) : Int) := (Int.natCast_emod _ _).symm
theorem unit_int (kept n : Nat) : (n : Int) / ((kept : Nat) : Int) * ((kept : Nat) : Int) = ((n / kept * kept : Nat) : Int) := by
  rw [Int.natCast_mul, Int.natCast_ediv]
end
theorem pe_d0 {X : Cx} {x : Str} {p pos : Pos} {ps : List Str} {k : Nat} {sp : Sp} (D : DefK X.prog X.w X.K X.mg X.base x ps k sp) (hr : Room k X.A) (hg : Gl X x) (hdb : (x == ("__debug__" : Str)) = false := by decide) :
    PE X (.Call (.Name x p) [] [] pos) (tCall sp [] E0 tNil) := by
  obtain ⟨f, fd, F, m, kp, b⟩ := D.all
  exact pe_call0 F hr hg m kp b .nil pass0 hdb
theorem ite_ne {x y : V} {A B : Prop} (e : x = y) (h : B) : if (!decide (x = y)) = true then A else B := by
  subst e
  rw [decide_eq_true rfl]
  exact h
theorem g_nxt {D : Ends} {σ : L2.St} {H : Hp} (h : D.nx σ H) : tNext D σ H := h
theorem optV_scal (x : Option Int) : scal (optV x) (optV x) = true := by cases x <;> rfl
end LM

set_option Elab.async false
set_option linter.all false
set_option maxRecDepth 100000
set_option maxHeartbeats 4000000
set_option pp.maxSteps 600
set_option pp.deepTerms false
/-! moves by formulas -/
namespace LM
open PySem PySem.Spec PyProof.Rows L2 RZ
local macro_rules | `(tactic| walk_at "hp") => `(tactic| first | assumption | exact upd_same | (rw [upd_ne (by assumption)]; assumption) | (rw [upd_ne (Ne.symm (by assumption))]; assumption) | (rw [upd_ne (by assumption)]; exact upd_same) | (rw [upd_ne (Ne.symm (by assumption))]; exact upd_same))
local macro_rules | `(tactic| walk_at "sq") => `(tactic| first | assumption | exact Or.inl (Or.inl (by assumption)) | exact Or.inl (Or.inl upd_same) | exact Or.inl (Or.inl (by walk_at "hp")))
local macro_rules | `(tactic| walk_at "ixl") => `(tactic| refine ⟨_, _, _, _, rfl, rfl, (by walk_at "sq"), (by rfl), ?_⟩)
local macro_rules | `(tactic| walk_at "setl") => `(tactic| refine ⟨_, _, _, _, rfl, rfl, (by walk_at "hp"), (by rfl), ?_⟩)
local macro_rules | `(tactic| walk_at "side") => `(tactic| refine idP ?_; first | omega | (show (0 : Int) < _; omega) | (show (0 : Int) < _ ∧ _ < _; omega) | (refine Or.inr ?_; show (-(2 ^ 64) : Int) < _ ∧ _ < _; omega) | (refine Or.inl ?_; show (-(2 ^ 64) : Int) < _ ∧ _ < _; omega) | exact divW (by omega) (by omega) _ | (refine ⟨by decide, by decide, ?_⟩; decide))
local macro_rules | `(tactic| walk_at "go1") => `(tactic| first
  | refine ⟨_, rfl, ?_⟩
  | refine ⟨_, _, rfl, rfl, (by walk_at "side"), ?_⟩
  | refine ⟨_, _, rfl, (by walk_at "side"), ?_⟩
  | refine ⟨_, _, rfl, rfl, ?_⟩
  | refine Or.inl ⟨_, rfl, ?_⟩
  | refine ⟨_, _, rfl, Or.inl (by walk_at "sq"), ?_⟩
  | walk_at "ixl"
  | walk_at "setl"
  | refine ⟨_, _, rfl, (by walk_at "sq"), rfl, ?_⟩
  | refine ⟨_, _, rfl, (by walk_at "sq"), ?_⟩
  | refine ⟨_, _, rfl, ?_⟩
  | refine ⟨rfl, ?_⟩
  | refine ⟨small (Nat.le_of_ble_eq_true rfl), ?_⟩)
local macro_rules | `(tactic| walk_at "go") => `(tactic| repeat walk_at "go1")

abbrev s_law_right : Stmt := topS 96
theorem sc_law_right : FnScope ["_law_vase_here", "_law_low", "_law_base", "_law_gone", "_law_plain", "_law_bent", "_law_wide", "_law_kept", "_law_over", "_law_back", "_law_last", "_law_figure", "_law_turns", "_law_inner", "_law_due", "_law_below", "_law_told"] ["_law_vase_here"] (defScope s_law_right) := ⟨rfl, rfl, rfl, by decide +kernel, rfl, by decide +kernel, by decide +kernel⟩
def spRight (K : PySem.W.Frag) : Sp := fun vs H Q _ => ∃ (p : Addr), vs = [.ref p] ∧ VaseAt H p ∧ ∀ H', Else p H H' → Q (.bl true) H'
section
variable {P : Program} {w : World} {K : PySem.W.Frag} {mg : Str → Option Value} {base : Heap} {C cm : Addr} {c : LCs}
theorem ok_right {f fI fIM fOf pFi fFi pRd fRd e0 : Addr} {fd fdI fdIM fdOf fdFi fdRd : FuncData} {ds2 : List Value} (F : Fun K "_law_right" "_law_right" s_law_right f fd) (TH : HouseTxt K mg C) (T : MoveTxt K mg cm) (N : Names mg)
    (MK : Mk K C fI) (GI : FnOk P w K mg base CX0 5 fI fdI ["self", "bases", "rows"] (spInit K C)) (bI : Binds K fdI ["self", "bases", "rows"] []) (bI2 : Binds K fdI ["self", "bases", "rows"] ds2) (hd2 : Vals [V.ref e0] ds2) (hE : ∀ H, SqT K H e0 [])
    (MKM : Mk K cm fIM) (GIM : FnOk P w K mg base CX0 8 fIM fdIM ["self", "houses", "steps"] (spMoveInit K C cm c)) (bIM : Binds K fdIM ["self", "houses", "steps"] [])
    (mOf : Meth K cm "of" fOf) (GOf : FnOk P w K mg base CX0 4 fOf fdOf ["self", "frame"] (spOf K C cm c)) (bOf : Binds K fdOf ["self", "frame"] [])
    (qFi : PropOf K cm "first" pFi fFi) (GFi : FnOk P w K mg base CX0 1 fFi fdFi ["self"] (getSp cm "_first")) (bFi : Binds K fdFi ["self"] []) (qRd : PropOf K cm "round" pRd fRd) (GRd : FnOk P w K mg base CX0 1 fRd fdRd ["self"] (getSp cm "_round")) (bRd : Binds K fdRd ["self"] [])
    (D_law_pour : DefK P w K mg base "_law_pour" ["_law_vase_here", "_law_top"] 1 spPour) :
    FnOk P w K mg base CX0 10 f fd ["_law_vase_here"] (spRight K) := by
  have sc := sc_law_right
  refine F.ok sc (fun vs H Q E h => ?_) (fun cdv A outer s H vs Q E hr h => ?_)
  · obtain ⟨p, rfl, _⟩ := h
    rfl
  · obtain ⟨p, rfl, hv, k⟩ := h
    refine ⟨_, (pss_cons (ps_par3 (i := 1) (j := 2) (l := 3) rfl sc.nd rfl rfl rfl (by decide) (by decide) (by decide) rfl rfl rfl (pa_cons (pe_op op_add pe_int (pe_d D_law_pour (hr.mono (by decide)) rfl (pa_cons (pv 0) (pa_cons pe_int pa_nil)))) (pa_cons (pe_op op_add pe_int (pe_d D_law_pour (hr.mono (by decide)) rfl (pa_cons (pv 0) (pa_cons pe_int pa_nil)))) (pa_cons (pe_op op_add pe_int (pe_d D_law_pour (hr.mono (by decide)) rfl (pa_cons (pv 0) (pa_cons pe_int pa_nil)))) pa_nil))) (by rfl))
      (pss_cons (ps_par (i := 4) (j := 5) rfl sc.nd rfl rfl (by decide) rfl rfl (pa_cons (pe_make MK GI (hr.mono (by decide)) rfl TH.mgC bI2 hd2 pass0 (pa_cons (pe_tup (pa_cons (pv 1) (pa_cons (pv 2) pa_nil))) pa_nil)) (pa_cons (pe_make MK GI (hr.mono (by decide)) rfl TH.mgC bI .nil pass0 (pa_cons (pe_tup (pa_cons (pv 1) (pa_cons (pv 2) pa_nil))) (pa_cons (pe_tup (pa_cons (pe_tup (pa_cons pe_int (pa_cons pe_int (pa_cons (pv 3) pa_nil)))) pa_nil)) pa_nil))) pa_nil)) (by rfl))
      (pss_cons (ps_par (i := 6) (j := 7) rfl sc.nd rfl rfl (by decide) rfl rfl (pa_cons (pe_op op_mul (pv 1) (pv 2)) (pa_cons (pe_op op_sub (pe_op op_mul (pv 1) (pv 2)) (pv 3)) pa_nil)) (by rfl))
      (pss_cons (ps_par (i := 8) (j := 9) rfl sc.nd rfl rfl (by decide) rfl rfl (pa_cons (pe_make MKM GIM (hr.mono (by decide)) rfl T.mgM bIM .nil pass0 (pa_cons (pe_tup (pa_cons (pv 5) (pa_cons (pv 4) pa_nil))) (pa_cons (pe_tup (pa_cons (pe_tup (pa_cons pe_str (pa_cons pe_int (pa_cons pe_str pa_nil)))) pa_nil)) pa_nil))) (pa_cons (pe_make MKM GIM (hr.mono (by decide)) rfl T.mgM bIM .nil pass0 (pa_cons (pe_tup (pa_cons (pv 4) (pa_cons (pv 5) pa_nil))) (pa_cons (pe_tup (pa_cons (pe_tup (pa_cons pe_str (pa_cons pe_int (pa_cons pe_str pa_nil)))) pa_nil)) pa_nil))) pa_nil)) (by rfl))
      (pss_cons (ps_set (i := 10) sc.nd rfl (Or.inl rfl) (pe_make MKM GIM (hr.mono (by decide)) rfl T.mgM bIM .nil pass0 (pa_cons (pe_tup (pa_cons (pv 4) (pa_cons (pv 5) pa_nil))) (pa_cons (pe_tup (pa_cons (pe_tup (pa_cons pe_str (pa_cons pe_int (pa_cons pe_str pa_nil)))) pa_nil)) pa_nil))))
      (pss_cons (ps_for PassesOwn.never rfl (pi_list (pe_lst (pa_cons pe_int (pa_cons pe_int (pa_cons (pe_op op_sub (pv 7) pe_int) (pa_cons (pv 7) (pa_cons (pv 6) (pa_cons (pe_d D_law_pour (hr.mono (by decide)) rfl (pa_cons (pv 0) (pa_cons pe_int pa_nil))) (pa_cons (pe_d D_law_pour (hr.mono (by decide)) rfl (pa_cons (pv 0) (pa_cons (pe_op op_pow pe_int pe_int) pa_nil))) (pa_cons (pe_op op_pow pe_int pe_int) pa_nil)))))))))) (pg_name (i := 11) sc.nd rfl (Or.inl rfl)) (pss_cons (ps_asg (pe_callB call_divmod (by rfl) N.divmod (by decide +kernel) (pa_cons (pv 11) (pa_cons (pv 7) pa_nil))) (pg_tup rfl (pgs_cons (pg_name (i := 12) sc.nd rfl (Or.inl rfl)) (pgs_cons (pg_name (i := 13) sc.nd rfl (Or.inl rfl)) pgs_nil))))
      (pss_cons (ps_if (pt_cmpR op_ne (pe_meth (pv 8) T.cl mOf GOf (hr.mono (by decide)) bOf .nil pass0 (pa_cons (pv 11) pa_nil)) (pe_op op_add (pe_op op_add (pe_op op_mul (pv 12) (pv 6)) (pv 13)) (pv 3)) (nomark _)) (pss_one (ps_ret pe_bl)) pss_nil)
      (pss_cons (ps_asg (pe_callB call_divmod (by rfl) N.divmod (by decide +kernel) (pa_cons (pv 11) (pa_cons (pv 6) pa_nil))) (pg_tup rfl (pgs_cons (pg_name (i := 12) sc.nd rfl (Or.inl rfl)) (pgs_cons (pg_name (i := 13) sc.nd rfl (Or.inl rfl)) pgs_nil))))
      (pss_cons (ps_set (i := 14) sc.nd rfl (Or.inl rfl) (pe_op op_add (pe_op op_mul (pv 12) (pv 7)) (pe_callB (call_max2 rfl) (by rfl) N.max (by decide +kernel) (pa_cons pe_int (pa_cons (pe_op op_sub (pv 13) (pv 3)) pa_nil)))))
      (pss_cons (ps_set (i := 15) sc.nd rfl (Or.inl rfl) (pe_ifExp (pt_cmpR op_ge (pv 13) (pv 3) (nomark _)) (pv 14) (pe_ifExp (pt_cmpR op_gt (pv 14) pe_int (nomark _)) (pe_op op_sub (pv 14) pe_int) pe_non)))
      (pss_cons (ps_if (PW.pt (pw_or (pt_cmpR op_ne (pe_meth (pv 9) T.cl mOf GOf (hr.mono (by decide)) bOf .nil pass0 (pa_cons (pv 11) pa_nil)) (pv 14) (nomark _)) (pw_or1 (pt_cmpR op_ne (pe_meth (pv 10) T.cl mOf GOf (hr.mono (by decide)) bOf .nil pass0 (pa_cons (pv 11) pa_nil)) (pv 15) (nomark _))))) (pss_one (ps_ret pe_bl)) pss_nil)
      (pss_cons (ps_if (pt_cmpR op_ne (pe_meth (pe_make MKM GIM (hr.mono (by decide)) rfl T.mgM bIM .nil pass0 (pa_cons (pe_tup (pa_cons (pv 5) pa_nil)) (pa_cons (pe_tup (pa_cons (pe_tup (pa_cons pe_str (pa_cons pe_int pa_nil))) pa_nil)) pa_nil))) T.cl mOf GOf (hr.mono (by decide)) bOf .nil pass0 (pa_cons (pv 11) pa_nil)) (pe_op op_mul (pe_op op_fdiv (pv 11) (pv 7)) (pv 7)) (nomark _)) (pss_one (ps_ret pe_bl)) pss_nil)
      (pss_cons (ps_if (pt_cmpR op_ne (pe_meth (pe_make MKM GIM (hr.mono (by decide)) rfl T.mgM bIM .nil pass0 (pa_cons (pe_tup (pa_cons (pv 5) pa_nil)) (pa_cons (pe_tup (pa_cons (pe_tup (pa_cons pe_str (pa_cons pe_int pa_nil))) pa_nil)) pa_nil))) T.cl mOf GOf (hr.mono (by decide)) bOf .nil pass0 (pa_cons (pv 11) pa_nil)) (pe_op op_add (pe_op op_mul (pe_op op_fdiv (pv 11) (pv 7)) (pv 7)) (pv 7)) (nomark _)) (pss_one (ps_ret pe_bl)) pss_nil)
      (pss_one (ps_if (pt_cmpR op_ne (pe_meth (pe_make MKM GIM (hr.mono (by decide)) rfl T.mgM bIM .nil pass0 (pa_cons (pe_tup (pa_cons (pv 5) pa_nil)) (pa_cons (pe_tup (pa_cons (pe_tup (pa_cons pe_str (pa_cons (pe_op op_mul pe_int (pv 6)) (pa_cons pe_str pa_nil)))) pa_nil)) pa_nil))) T.cl mOf GOf (hr.mono (by decide)) bOf .nil pass0 (pa_cons (pv 11) pa_nil)) (pe_op op_add (pv 11) (pe_op op_mul pe_int (pv 7))) (nomark _)) (pss_one (ps_ret pe_bl)) pss_nil)))))))))))
      (pss_cons (ps_set (i := 16) sc.nd rfl (Or.inl rfl) (pe_lst (pa_cons (pe_prop (pv 8) T.cl qRd GRd (hr.mono (by decide)) bRd .nil pass0 rfl) (pa_cons (pe_prop (pv 9) T.cl qRd GRd (hr.mono (by decide)) bRd .nil pass0 rfl) (pa_cons (pe_prop (pv 10) T.cl qFi GFi (hr.mono (by decide)) bFi .nil pass0 rfl) (pa_cons (pe_prop (pe_make MKM GIM (hr.mono (by decide)) rfl T.mgM bIM .nil pass0 (pa_cons (pe_tup (pa_cons (pv 5) pa_nil)) (pa_cons (pe_tup (pa_cons (pe_tup (pa_cons pe_str (pa_cons (pe_op op_mul pe_int (pv 6)) (pa_cons pe_str pa_nil)))) pa_nil)) pa_nil))) T.cl qFi GFi (hr.mono (by decide)) bFi .nil pass0 rfl) pa_nil))))))
      (pss_one (ps_ret (pe_cmpR (op_eqD (hu64 hr)) (pv 16) (pe_lst (pa_cons (pe_tup (pa_cons (pv 7) (pa_cons (pv 6) pa_nil))) (pa_cons (pe_tup (pa_cons (pv 6) (pa_cons (pv 7) pa_nil))) (pa_cons (pv 3) (pa_cons (pe_op op_mul pe_int (pv 7)) pa_nil))))) (nomark _))))))))))), ?_⟩
    obtain ⟨_, _, _, _, _, _, ep0⟩ := id hv
    refine ⟨_, rfl, p, _, rfl, hv, by decide, by decide, fun z1 H1 a0 a1 hv1 e1 => ?_⟩
    obtain ⟨z1, rfl⟩ := nat_of a0
    refine ⟨_, _, rfl, rfl, _, rfl, p, _, rfl, hv1, by decide, by decide, fun z2 H2 b0 b1 hv2 e2 => ?_⟩
    obtain ⟨z2, rfl⟩ := nat_of b0
    refine ⟨_, _, rfl, rfl, _, rfl, p, _, rfl, hv2, by decide, by decide, fun z3 H3 c0 c1 hv3 e3 => ?_⟩
    obtain ⟨z3, rfl⟩ := nat_of c0
    refine ⟨_, _, rfl, rfl, ?_⟩
    refine ⟨_, _, _, rfl, ?_⟩
    refine g_nx ?_
    dsimp only
    rw [show (2 : Int) + (z1 : Int) = ((2 + z1 : Nat) : Int) by omega, show (3 : Int) + (z2 : Int) = ((3 + z2 : Nat) : Int) by omega, show (1 : Int) + (z3 : Int) = ((1 + z3 : Nat) : Int) by omega]
    have d : Drawn (2 + z1) (3 + z2) (1 + z3) := Drawn.of (by omega)
    generalize 2 + z1 = lo at d ⊢
    generalize 3 + z2 = ba at d ⊢
    generalize 1 + z3 = go at d ⊢
    have bd := d.bd
    have wd := d.wide
    have e03 := e1.trans (e2.trans e3)
    clear a0 a1 b0 b1 c0 c1 hv1 hv2 e1 e2 e3
    refine ⟨_, rfl, _, rfl, Nat.le_of_ble_eq_true rfl, ?_⟩
    (intro b1 n_b1; generalize e_b1 : upd H3 b1 _ = H4; have s4 : Same H3 H4 := fun b x hb => (congrFun e_b1 b).symm.trans (same_new n_b1 b x hb); have h_b1 := (congrFun e_b1 b1).symm.trans upd_same; clear e_b1)
    intro pl dx2 np2 ndx2 ndp2
    refine house_use (bs := bentB lo ba) (rows := []) (b := b1) (r := e0) np2 ndx2 rfl (SqT.tup h_b1) ⟨[], hE _, .nil⟩ d.fairP fun cs2 H5 s5 hB => ⟨rfl, ?_⟩
    obtain rfl := flat_cs d hB.rep
    refine ⟨_, rfl, _, rfl, Nat.le_of_ble_eq_true rfl, ?_⟩
    (intro b2 n_b2; generalize e_b2 : upd H5 b2 _ = H6; have s6 : Same H5 H6 := fun b x hb => (congrFun e_b2 b).symm.trans (same_new n_b2 b x hb); have h_b2 := (congrFun e_b2 b2).symm.trans upd_same; clear e_b2)
    refine ⟨_, rfl, Nat.le_of_ble_eq_true rfl, ?_⟩
    (intro r1 n_r1; generalize e_r1 : upd H6 r1 _ = H7; have s7 : Same H6 H7 := fun b x hb => (congrFun e_r1 b).symm.trans (same_new n_r1 b x hb); have h_r1 := (congrFun e_r1 r1).symm.trans upd_same; clear e_r1)
    refine ⟨Nat.le_of_ble_eq_true rfl, ?_⟩
    (intro rr n_rr; generalize e_rr : upd H7 rr _ = H8; have s8 : Same H7 H8 := fun b x hb => (congrFun e_rr b).symm.trans (same_new n_rr b x hb); have h_rr := (congrFun e_rr rr).symm.trans upd_same; clear e_rr)
    intro pm dx np ndx ndp
    refine house_use (bs := bentB lo ba) (rows := bentR go) (b := b2) (r := rr) np ndx rfl (SqT.tup ((s7.trans s8) _ _ h_b2)) ⟨[r1], SqT.tup h_rr, .cons (SqT.tup (s8 _ _ h_r1)) .nil⟩ d.fair fun cs H9 s9 hA => ⟨rfl, ?_⟩
    obtain rfl := bent_cs d hA.rep
    have s59 := s6.trans (s7.trans (s8.trans s9))
    have s39 := s4.trans (s5.trans s59)
    have hv9 := hv3.same s39
    have hB := (hB.same s59).weak (fun q (hq : q = p) => by rw [hq]; exact (hv3.same s4).here)
    have hA := hA.weak (fun q (hq : q = p) => by rw [hq]; exact (hv3.same (s4.trans (s5.trans (s6.trans (s7.trans s8))))).here)
    refine ⟨_, _, rfl, ?_⟩
    refine g_nx ?_
    dsimp only
    obtain ⟨g1, eg1⟩ : ∃ g1 : HD, g1 = HD.mk pl b1 e0 (bentB lo ba) [] [0] := ⟨_, rfl⟩
    obtain ⟨h1, eh1⟩ : ∃ h1 : HD, h1 = HD.mk pm b2 rr (bentB lo ba) (bentR go) (bentC lo go) := ⟨_, rfl⟩
    have A1 : HD.At K C (fun q => q = p) H9 g1 := by rw [eg1]; exact hB
    have A2 : HD.At K C (fun q => q = p) H9 h1 := by rw [eh1]; exact hA
    have F1 : Flat g1.n ba := flat_n (lo := lo) A1 (by rw [eg1]) (by rw [eg1]) (by rw [eg1])
    have B2 : Bent h1.n lo ba go := bent_n d A2 (by rw [eh1]) (by rw [eh1]) (by rw [eh1])
    have o1 := A1.ok
    have o2 := A2.ok
    have p1 : g1.p = pl := by rw [eg1]
    have p2 : h1.p = pm := by rw [eh1]
    have hb1 : g1.bs = bentB lo ba := by rw [eg1]
    have hb2 : h1.bs = bentB lo ba := by rw [eh1]
    rw [← p1, ← p2]
    have e09 := e03.trans (Same.els s39)
    clear hA hB eg1 eh1 p1 p2 s39 s59 s4 s5 s6 s7 s8 s9 hv3 e03 h_b1 h_b2 h_r1 h_rr
    refine ⟨_, rfl, _, rfl, _, _, rfl, rfl, .inl ⟨by omega, by omega⟩, ?_⟩
    refine ⟨_, rfl, _, rfl, _, _, rfl, rfl, .inl ⟨by omega, by omega⟩, _, rfl, _, _, rfl, rfl, ?_⟩
    refine ⟨_, _, rfl, ?_⟩
    refine g_nx ?_
    dsimp only
    rw [show (lo : Int) * (ba : Int) = ((lo * ba : Nat) : Int) from (Int.natCast_mul _ _).symm, show ((lo * ba : Nat) : Int) - (go : Int) = ((lo * ba - go : Nat) : Int) by omega]
    have hold : ∀ {H : Hp}, VaseAt H p → ∀ q, q = p → H q ≠ none := fun hv q hq => by rw [hq]; exact hv.here
    refine ⟨_, rfl, _, rfl, Nat.le_of_ble_eq_true rfl, ?_⟩
    (intro ta nta; generalize e_ta : upd H9 ta _ = H10; have s10 : Same H9 H10 := fun b x hb => (congrFun e_ta b).symm.trans (same_new nta b x hb); have h10 := (congrFun e_ta ta).symm.trans upd_same; clear e_ta)
    refine ⟨Nat.le_of_ble_eq_true rfl, ?_⟩
    (intro tb ntb; generalize e_tb : upd H10 tb _ = H11; have s11 : Same H10 H11 := fun b x hb => (congrFun e_tb b).symm.trans (same_new ntb b x hb); have h11 := (congrFun e_tb tb).symm.trans upd_same; clear e_tb)
    refine ⟨Nat.le_of_ble_eq_true rfl, ?_⟩
    (intro tc ntc; generalize e_tc : upd H11 tc _ = H12; have s12 : Same H11 H12 := fun b x hb => (congrFun e_tc b).symm.trans (same_new ntc b x hb); have h12 := (congrFun e_tc tc).symm.trans upd_same; clear e_tc)
    have s912 := s10.trans (s11.trans s12)
    refine fun mA dx nmA ndx ndx' => make_use nmA ndx (old := fun q => q = p) (hs := [h1, g1]) (sts := [.read 1 true]) (hold (hv9.same s912)) ⟨SqT.tup ((s11.trans s12) _ _ h10), fun h hh => ?_⟩ (Nat.le_of_ble_eq_true rfl) (Nat.le_of_ble_eq_true rfl) ⟨[tb], SqT.tup h12, .cons (SqT.tup (s12 _ _ h11)) .nil⟩ ⟨⟨by show 1 < 2; decide, by show g1.bs = h1.bs; rw [hb1, hb2]⟩, trivial⟩ (Nat.le_of_ble_eq_true rfl) (lb_thr o2 o1 B2.dvd F1.dvd d 0 true).1 (fun dA H13 eA1 eA2 aA sA => ⟨rfl, ?_⟩)
    · simp only [List.mem_cons, List.not_mem_nil, or_false] at hh
      rcases hh with rfl | rfl
      · exact A2.same s912
      · exact A1.same s912
    have lA : dA.ls = [.lb h1.n g1.n 0 true] := by unfold MD.ls; rw [eA1, eA2]; rfl
    have s913 := s912.trans sA
    have hv13 := hv9.same s913
    refine ⟨_, rfl, _, rfl, Nat.le_of_ble_eq_true rfl, ?_⟩
    (intro td ntd; generalize e_td : upd H13 td _ = H14; have s14 : Same H13 H14 := fun b x hb => (congrFun e_td b).symm.trans (same_new ntd b x hb); have h14 := (congrFun e_td td).symm.trans upd_same; clear e_td)
    refine ⟨Nat.le_of_ble_eq_true rfl, ?_⟩
    (intro te nte; generalize e_te : upd H14 te _ = H15; have s15 : Same H14 H15 := fun b x hb => (congrFun e_te b).symm.trans (same_new nte b x hb); have h15 := (congrFun e_te te).symm.trans upd_same; clear e_te)
    refine ⟨Nat.le_of_ble_eq_true rfl, ?_⟩
    (intro tf ntf; generalize e_tf : upd H15 tf _ = H16; have s16 : Same H15 H16 := fun b x hb => (congrFun e_tf b).symm.trans (same_new ntf b x hb); have h16 := (congrFun e_tf tf).symm.trans upd_same; clear e_tf)
    have s1316 := s14.trans (s15.trans s16)
    have s916 := s913.trans s1316
    refine fun mB dx nmB ndx ndx' => make_use nmB ndx (old := fun q => q = p) (hs := [g1, h1]) (sts := [.read 1 true]) (hold (hv9.same s916)) ⟨SqT.tup ((s15.trans s16) _ _ h14), fun h hh => ?_⟩ (Nat.le_of_ble_eq_true rfl) (Nat.le_of_ble_eq_true rfl) ⟨[te], SqT.tup h16, .cons (SqT.tup (s16 _ _ h15)) .nil⟩ ⟨⟨by show 1 < 2; decide, by show h1.bs = g1.bs; rw [hb1, hb2]⟩, trivial⟩ (Nat.le_of_ble_eq_true rfl) (lb_thr o1 o2 F1.dvd B2.dvd d 0 true).1 (fun dB H17 eB1 eB2 aB sB => ⟨rfl, ?_⟩)
    · simp only [List.mem_cons, List.not_mem_nil, or_false] at hh
      rcases hh with rfl | rfl
      · exact A1.same s916
      · exact A2.same s916
    have lB : dB.ls = [.lb g1.n h1.n 0 true] := by unfold MD.ls; rw [eB1, eB2]; rfl
    have s1317 := s1316.trans sB
    have s917 := s913.trans s1317
    refine ⟨_, _, rfl, ?_⟩
    refine g_nx ?_
    dsimp only
    refine ⟨_, rfl, _, rfl, Nat.le_of_ble_eq_true rfl, ?_⟩
    (intro tg ntg; generalize e_tg : upd H17 tg _ = H18; have s18 : Same H17 H18 := fun b x hb => (congrFun e_tg b).symm.trans (same_new ntg b x hb); have h18 := (congrFun e_tg tg).symm.trans upd_same; clear e_tg)
    refine ⟨Nat.le_of_ble_eq_true rfl, ?_⟩
    (intro ti nti; generalize e_ti : upd H18 ti _ = H19; have s19 : Same H18 H19 := fun b x hb => (congrFun e_ti b).symm.trans (same_new nti b x hb); have h19 := (congrFun e_ti ti).symm.trans upd_same; clear e_ti)
    refine ⟨Nat.le_of_ble_eq_true rfl, ?_⟩
    (intro tj ntj; generalize e_tj : upd H19 tj _ = H20; have s20 : Same H19 H20 := fun b x hb => (congrFun e_tj b).symm.trans (same_new ntj b x hb); have h20 := (congrFun e_tj tj).symm.trans upd_same; clear e_tj)
    have s1720 := s18.trans (s19.trans s20)
    have s920 := s917.trans s1720
    refine fun mC dx nmC ndx ndx' => make_use nmC ndx (old := fun q => q = p) (hs := [g1, h1]) (sts := [.read 1 false]) (hold (hv9.same s920)) ⟨SqT.tup ((s19.trans s20) _ _ h18), fun h hh => ?_⟩ (Nat.le_of_ble_eq_true rfl) (Nat.le_of_ble_eq_true rfl) ⟨[ti], SqT.tup h20, .cons (SqT.tup (s20 _ _ h19)) .nil⟩ ⟨⟨by show 1 < 2; decide, by show h1.bs = g1.bs; rw [hb1, hb2]⟩, trivial⟩ (Nat.le_of_ble_eq_true rfl) (lb_thr o1 o2 F1.dvd B2.dvd d 0 false).1 (fun dC H21 eC1 eC2 aC sC => ⟨rfl, ?_⟩)
    · simp only [List.mem_cons, List.not_mem_nil, or_false] at hh
      rcases hh with rfl | rfl
      · exact A1.same s920
      · exact A2.same s920
    have lC : dC.ls = [.lb g1.n h1.n 0 false] := by unfold MD.ls; rw [eC1, eC2]; rfl
    have s1721 := s1720.trans sC
    have s921 := s917.trans s1721
    have hv21 := hv9.same s921
    have aA := aA.same (s1317.trans s1721)
    have aB := aB.same s1721
    have A2 := A2.same s921
    have beA : dA.be < 2 ^ 200 := by unfold MD.be; rw [lA]; exact (lb_thr o2 o1 B2.dvd F1.dvd d 0 true).2
    have beB : dB.be < 2 ^ 200 := by unfold MD.be; rw [lB]; exact (lb_thr o1 o2 F1.dvd B2.dvd d 0 true).2
    have beC : dC.be < 2 ^ 200 := by unfold MD.be; rw [lC]; exact (lb_thr o1 o2 F1.dvd B2.dvd d 0 false).2
    have vA : ∀ n, dA.val n = some ((h1.n.plc n : Nat) : Int) := fun n => by unfold MD.val; rw [lA, over_vl B2 F1]; rfl
    have vB : ∀ n, dB.val n = some ((h1.n.bl n : Nat) : Int) := fun n => by unfold MD.val; rw [lB, back_vl B2 F1 o1]; rfl
    have vC : ∀ n, dC.val n = belowI (lo * ba) go (h1.n.bl n) n := fun n => by unfold MD.val; rw [lC, last_vl B2 F1 d o2 o1]
    have qA : dA.many = lo * ba - go ∧ dA.U = ((lo * ba : Nat) : Int) := by
      have m := over_many B2 F1 d o2 (by rw [← lA]; exact aA.lp)
      refine ⟨m, ?_⟩
      unfold MD.U MD.fi
      rw [m, lA, over_fi, vn_of (over_vl B2 F1 _), vn_of (over_vl B2 F1 _), Nat.zero_add, over_end B2 d o2, over_in B2 d o2 (by omega)]
      omega
    have qB : dB.many = lo * ba ∧ dB.U = ((lo * ba - go : Nat) : Int) := by
      have m := back_many B2 F1 d o2 o1 (by rw [← lB]; exact aB.lp)
      refine ⟨m, ?_⟩
      unfold MD.U MD.fi
      rw [m, lB, back_fi, vn_of (back_vl B2 F1 o1 _), vn_of (back_vl B2 F1 o1 _), Nat.zero_add, B2.low d _ (Nat.le_refl _), B2.low d _ (Nat.zero_le _)]
      omega
    have qC : dC.fi = go := by unfold MD.fi; rw [lC]; exact last_fi B2 F1 d o2
    have e021 := e09.trans (Same.els s921)
    clear s921 s917 s1317 s1316 s916 s913 s912 s1720 s920 s1721 sA sB sC s10 s11 s12 s14 s15 s16 s18 s19 s20 h10 h11 h12 h14 h15 h16 h18 h19 h20 hv9 hv13 e09 A1
    refine g_nx ?_
    dsimp only
    refine ⟨_, rfl, _, _, rfl, rfl, _, rfl, _, rfl, _, rfl, p, _, rfl, hv21, by decide, by decide, fun w1 H22 a0 a1 hv22 e22 => ?_⟩
    obtain ⟨w1, rfl⟩ := nat_of a0
    refine ⟨_, rfl, _, _, rfl, rfl, ⟨by decide, by decide, by decide⟩, p, _, rfl, hv22, by decide, by decide, fun w2 H23 b0 b1 hv23 e23 => ?_⟩
    obtain ⟨w2, rfl⟩ := nat_of b0
    refine ⟨_, _, rfl, rfl, ⟨by decide, by decide, by decide⟩, Nat.le_of_ble_eq_true rfl, ?_⟩
    (intro lw n_lw; generalize e_lw : upd H23 lw _ = H24; have s24 : Same H23 H24 := fun b x hb => (congrFun e_lw b).symm.trans (same_new n_lw b x hb); have h_lw := (congrFun e_lw lw).symm.trans upd_same; clear e_lw)
    obtain ⟨ns, hns, hnb⟩ : ∃ ns : List Nat, [V.int 0, V.int 1, V.int (((lo * ba - go : Nat) : Int) - 1), V.int ((lo * ba - go : Nat) : Int), V.int ((lo * ba : Nat) : Int), V.int (w1 : Int), V.int (w2 : Int), V.int ((10 : Int) ^ (30 : Int).toNat)] = natL ns ∧ ∀ n ∈ ns, n ≤ 10 ^ 30 := by
      refine ⟨[0, 1, lo * ba - go - 1, lo * ba - go, lo * ba, w1, w2, 10 ^ 30], ?_, fun n hn => ?_⟩
      · rw [show ((lo * ba - go : Nat) : Int) - 1 = ((lo * ba - go - 1 : Nat) : Int) by omega, show (10 : Int) ^ (30 : Int).toNat = ((10 ^ 30 : Nat) : Int) by decide]
        rfl
      · have h2 : (w2 : Int) < ((10 ^ 30 : Nat) : Int) := b1
        have h3 : 400 ≤ 10 ^ 30 := by decide
        simp only [List.mem_cons, List.not_mem_nil, or_false] at hn
        omega
    have h_lw : H24 lw = some (.lst (natL ns)) := by rw [← hns]; exact h_lw
    clear hns a0 a1 b0 b1
    obtain ⟨_, _, _, _, _, _, ep21⟩ := id hv21
    have e2123 := e22.trans e23
    have aA := (aA.els ep21 rfl e2123).same s24
    have aB := (aB.els ep21 rfl e2123).same s24
    have aC := (aC.els ep21 rfl e2123).same s24
    have A2 := (A2.els ep21 rfl e2123).same s24
    have hv24 := hv23.same s24
    have e024 := (e021.trans e2123).trans (Same.els s24)
    clear e021 e2123 e22 e23 hv22 hv23 hv21 ep21 s24
    obtain ⟨dxA, eoA⟩ := id aA.ob
    obtain ⟨dxB, eoB⟩ := id aB.ob
    obtain ⟨dxC, eoC⟩ := id aC.ob
    have W0 := bent_W d hb2
    refine ⟨lw, rfl, ⟨_, SqL.lst h_lw⟩, for_list (K := K) (xs := natL ns) (fun i σ H' => Same H24 H' ∧ ∃ (v11 v12 v13 v14 v15 : Option V), σ = [some (.ref p), some (.int (lo : Int)), some (.int (ba : Int)), some (.int (go : Int)), some (.ref g1.p), some (.ref h1.p), some (.int ((lo * ba : Nat) : Int)), some (.int ((lo * ba - go : Nat) : Int)), some (.ref mA), some (.ref mB), some (.ref mC), v11, v12, v13, v14, v15, none]) ⟨Same.refl H24, _, _, _, _, _, rfl⟩ (fun i σ H' _ ⟨sm, _⟩ => SqL.lst (sm _ _ h_lw)) ?_ ?_⟩
    · rintro i x σ H' hx ⟨sm, v11, v12, v13, v14, v15, rfl⟩
      obtain ⟨n, hn, rfl⟩ := natL_ex hx
      have hnb := hnb n (List.mem_of_getElem? hn)
      have hn2 : n < 2 ^ 250 := Nat.lt_of_le_of_lt hnb (by decide)
      refine g_nx ?_
      dsimp only
      refine ⟨_, rfl, _, rfl, _, _, rfl, ⟨by omega, by omega⟩, ?_⟩
      (intro q1 nq1; generalize e_q1 : upd H' q1 _ = H25; have s25 : Same H' H25 := fun b x hb => (congrFun e_q1 b).symm.trans (same_new nq1 b x hb); have h25 := (congrFun e_q1 q1).symm.trans upd_same; clear e_q1)
      refine ⟨q1, _, rfl, SqT.tup h25, rfl, _, _, rfl, _, _, rfl, rfl, ?_⟩
      refine g_nx ?_
      dsimp only
      have sm := sm.trans s25
      refine ⟨_, rfl, mA, dxA, _, rfl, sm _ _ eoA, dA.no_of, _, rfl, _, mA, dA, n, rfl, aA.same sm, hn2, beA, fun H26 s26 => ?_⟩
      rw [vA]
      refine ⟨_, rfl, _, rfl, _, _, rfl, rfl, .inr ⟨by omega, by omega⟩, _, rfl, _, _, rfl, rfl, _, rfl, _, _, rfl, rfl, rfl, _, rfl, ?_⟩
      refine ite_ne (congrArg V.int (over_int B2 d o2 n).symm) ?_
      refine g_nxt ?_
      dsimp only
      have sm := sm.trans s26
      refine ⟨_, rfl, _, rfl, _, _, rfl, ⟨by omega, by omega⟩, ?_⟩
      (intro q2 nq2; generalize e_q2 : upd H26 q2 _ = H27; have s27 : Same H26 H27 := fun b x hb => (congrFun e_q2 b).symm.trans (same_new nq2 b x hb); have h27 := (congrFun e_q2 q2).symm.trans upd_same; clear e_q2)
      refine ⟨q2, _, rfl, SqT.tup h27, rfl, _, _, rfl, _, _, rfl, rfl, ?_⟩
      refine g_nx ?_
      dsimp only
      have sm := sm.trans s27
      refine ⟨_, rfl, _, rfl, _, _, rfl, rfl, .inr ⟨by omega, by omega⟩, _, rfl, _, rfl, _, _, rfl, rfl, _, _, rfl, _, _, rfl, rfl, ?_⟩
      refine g_nx ?_
      dsimp only
      rw [back_int B2 d o2 n]
      refine seq_joinC (fun σ' H' => H' = H27 ∧ σ' = [some (.ref p), some (.int (lo : Int)), some (.int (ba : Int)), some (.int (go : Int)), some (.ref g1.p), some (.ref h1.p), some (.int ((lo * ba : Nat) : Int)), some (.int ((lo * ba - go : Nat) : Int)), some (.ref mA), some (.ref mB), some (.ref mC), some (.int (n : Int)), some (.int ((n : Int) / ((lo * ba : Nat) : Int))), some (.int ((n : Int) % ((lo * ba : Nat) : Int))), some (.int ((h1.n.bl n : Nat) : Int)), some (optV (belowI (lo * ba) go (h1.n.bl n) n)), none]) (fun D' hD => ?_) ?_
      · refine ⟨_, rfl, _, rfl, _, _, rfl, rfl, _, rfl, ifB (fun hh => ?_) (fun hh => ?_)⟩
        · have hh := of_decide_eq_true hh
          rw [below_rem] at hh
          refine ⟨_, rfl, hD _ _ ⟨rfl, ?_⟩⟩
          unfold belowI
          rw [if_pos (by omega)]
          rfl
        · have hh := of_decide_eq_false hh
          rw [below_rem] at hh
          refine ⟨_, rfl, _, _, rfl, rfl, _, rfl, ifB (fun h2 => ?_) (fun h2 => ?_)⟩
          · have h2 := of_decide_eq_true h2
            refine ⟨_, rfl, _, _, rfl, rfl, hD _ _ ⟨rfl, ?_⟩⟩
            unfold belowI
            rw [if_neg (by omega), if_pos (by omega)]
            rfl
          · have h2 := of_decide_eq_false h2
            refine hD _ _ ⟨rfl, ?_⟩
            unfold belowI
            rw [if_neg (by omega), if_neg (by omega)]
            rfl
      rintro σ H27 ⟨rfl, rfl⟩
      refine ⟨_, rfl, mB, dxB, _, rfl, sm _ _ eoB, dB.no_of, _, rfl, _, mB, dB, n, rfl, aB.same sm, hn2, beB, fun H28 s28 => ?_⟩
      rw [vB]
      have sm := sm.trans s28
      refine ⟨_, rfl, rfl, _, rfl, ite_ne rfl ?_⟩
      refine ⟨_, rfl, mC, dxC, _, rfl, sm _ _ eoC, dC.no_of, _, rfl, _, mC, dC, n, rfl, aC.same sm, hn2, beC, fun H29 s29 => ?_⟩
      rw [vC]
      have sm := sm.trans s29
      refine ⟨_, rfl, optV_scal _, _, rfl, ite_ne rfl ?_⟩
      refine g_nxt ?_
      dsimp only
      refine ⟨_, rfl, Nat.le_of_ble_eq_true rfl, ?_⟩
      (intro Ta n_Ta; generalize e_Ta : upd H29 Ta _ = H30; have s30 : Same H29 H30 := fun b x hb => (congrFun e_Ta b).symm.trans (same_new n_Ta b x hb); have h_Ta := (congrFun e_Ta Ta).symm.trans upd_same; clear e_Ta)
      refine ⟨Nat.le_of_ble_eq_true rfl, ?_⟩
      (intro Tb n_Tb; generalize e_Tb : upd H30 Tb _ = H31; have s31 : Same H30 H31 := fun b x hb => (congrFun e_Tb b).symm.trans (same_new n_Tb b x hb); have h_Tb := (congrFun e_Tb Tb).symm.trans upd_same; clear e_Tb)
      refine ⟨Nat.le_of_ble_eq_true rfl, ?_⟩
      (intro Tc n_Tc; generalize e_Tc : upd H31 Tc _ = H32; have s32 : Same H31 H32 := fun b x hb => (congrFun e_Tc b).symm.trans (same_new n_Tc b x hb); have h_Tc := (congrFun e_Tc Tc).symm.trans upd_same; clear e_Tc)
      have sm := sm.trans (s30.trans (s31.trans s32))
      refine fun mT dx nm ndx ndx' => make_use nm ndx (old := fun q => q = p) (hs := [h1]) (sts := [.to 0]) (hold (hv24.same sm)) ⟨SqT.tup ((s31.trans s32) _ _ h_Ta), fun h hh => ?_⟩ (Nat.le_of_ble_eq_true rfl) (Nat.le_of_ble_eq_true rfl) ⟨[Tb], SqT.tup h_Tc, .cons (SqT.tup (s32 _ _ h_Tb)) .nil⟩ ⟨(show 0 < h1.bs.length by rw [hb2]; exact (by decide : 0 < 2)), trivial⟩ (Nat.le_of_ble_eq_true rfl) (by rw [show legsM [h1] [.to 0] = [.un h1.n (lo * ba) 0] from (by rw [← W0]; rfl)]; exact (un_thr B2 d o2 0).1) (fun dT H33 e1 e2 aT s33 => ⟨rfl, ?_⟩)
      · obtain rfl := List.mem_singleton.mp hh
        exact A2.same sm
      have lT : dT.ls = [.un h1.n (lo * ba) 0] := by unfold MD.ls; rw [e1, e2, ← W0]; rfl
      have beT : dT.be < 2 ^ 200 := by unfold MD.be; rw [lT]; exact (un_thr B2 d o2 0).2
      have vT := show dT.val n = _ from (by unfold MD.val; rw [lT, unit_vl B2 d o2]; rfl : dT.val n = some (((n / (lo * ba - go) + 0) * (lo * ba - go) : Nat) : Int))
      have sm := sm.trans s33
      obtain ⟨dxT, eoT⟩ := id aT.ob
      refine ⟨mT, dxT, _, rfl, eoT, dT.no_of, _, rfl, _, mT, dT, n, rfl, aT, hn2, beT, fun H34 s34 => ?_⟩
      rw [vT]
      have sm := sm.trans s34
      refine ⟨_, rfl, _, rfl, _, _, rfl, rfl, ⟨by omega, by omega⟩, _, rfl, _, _, rfl, rfl, .inr ⟨by omega, by omega⟩, rfl, _, rfl, ite_ne (congrArg V.int (by rw [unit_int, Nat.add_zero])) ?_⟩
      refine g_nxt ?_
      dsimp only
      refine ⟨_, rfl, Nat.le_of_ble_eq_true rfl, ?_⟩
      (intro Ua n_Ua; generalize e_Ua : upd H34 Ua _ = H35; have s35 : Same H34 H35 := fun b x hb => (congrFun e_Ua b).symm.trans (same_new n_Ua b x hb); have h_Ua := (congrFun e_Ua Ua).symm.trans upd_same; clear e_Ua)
      refine ⟨Nat.le_of_ble_eq_true rfl, ?_⟩
      (intro Ub n_Ub; generalize e_Ub : upd H35 Ub _ = H36; have s36 : Same H35 H36 := fun b x hb => (congrFun e_Ub b).symm.trans (same_new n_Ub b x hb); have h_Ub := (congrFun e_Ub Ub).symm.trans upd_same; clear e_Ub)
      refine ⟨Nat.le_of_ble_eq_true rfl, ?_⟩
      (intro Uc n_Uc; generalize e_Uc : upd H36 Uc _ = H37; have s37 : Same H36 H37 := fun b x hb => (congrFun e_Uc b).symm.trans (same_new n_Uc b x hb); have h_Uc := (congrFun e_Uc Uc).symm.trans upd_same; clear e_Uc)
      have sm := sm.trans (s35.trans (s36.trans s37))
      refine fun mU dx nm ndx ndx' => make_use nm ndx (old := fun q => q = p) (hs := [h1]) (sts := [.after 0]) (hold (hv24.same sm)) ⟨SqT.tup ((s36.trans s37) _ _ h_Ua), fun h hh => ?_⟩ (Nat.le_of_ble_eq_true rfl) (Nat.le_of_ble_eq_true rfl) ⟨[Ub], SqT.tup h_Uc, .cons (SqT.tup (s37 _ _ h_Ub)) .nil⟩ ⟨(show 0 < h1.bs.length by rw [hb2]; exact (by decide : 0 < 2)), trivial⟩ (Nat.le_of_ble_eq_true rfl) (by rw [show legsM [h1] [.after 0] = [.un h1.n (lo * ba) 1] from (by rw [← W0]; rfl)]; exact (un_thr B2 d o2 1).1) (fun dU H38 e1 e2 aU s38 => ⟨rfl, ?_⟩)
      · obtain rfl := List.mem_singleton.mp hh
        exact A2.same sm
      have lU : dU.ls = [.un h1.n (lo * ba) 1] := by unfold MD.ls; rw [e1, e2, ← W0]; rfl
      have beU : dU.be < 2 ^ 200 := by unfold MD.be; rw [lU]; exact (un_thr B2 d o2 1).2
      have vU := show dU.val n = _ from (by unfold MD.val; rw [lU, unit_vl B2 d o2]; rfl : dU.val n = some (((n / (lo * ba - go) + 1) * (lo * ba - go) : Nat) : Int))
      have sm := sm.trans s38
      obtain ⟨dxU, eoU⟩ := id aU.ob
      refine ⟨mU, dxU, _, rfl, eoU, dU.no_of, _, rfl, _, mU, dU, n, rfl, aU, hn2, beU, fun H39 s39 => ?_⟩
      rw [vU]
      have sm := sm.trans s39
      refine ⟨_, rfl, _, rfl, _, _, rfl, rfl, ⟨by omega, by omega⟩, _, rfl, _, _, rfl, rfl, .inr ⟨by omega, by omega⟩, _, rfl, _, _, rfl, rfl, rfl, _, rfl, ite_ne (congrArg V.int (by rw [unit_int, Nat.succ_mul, Int.natCast_add])) ?_⟩
      refine g_nxt ?_
      dsimp only
      refine ⟨_, rfl, Nat.le_of_ble_eq_true rfl, ?_⟩
      (intro La n_La; generalize e_La : upd H39 La _ = H40; have s40 : Same H39 H40 := fun b x hb => (congrFun e_La b).symm.trans (same_new n_La b x hb); have h_La := (congrFun e_La La).symm.trans upd_same; clear e_La)
      refine ⟨_, rfl, _, _, rfl, rfl, .inl ⟨by decide, by decide⟩, Nat.le_of_ble_eq_true rfl, ?_⟩
      (intro Lb n_Lb; generalize e_Lb : upd H40 Lb _ = H41; have s41 : Same H40 H41 := fun b x hb => (congrFun e_Lb b).symm.trans (same_new n_Lb b x hb); have h_Lb := (congrFun e_Lb Lb).symm.trans upd_same; clear e_Lb)
      replace h_Lb : H41 Lb = some (.tup [.str "label", .int (3 * ((lo * ba : Nat) : Int)), .str "last"]) := h_Lb
      rw [show (3 : Int) * ((lo * ba : Nat) : Int) = ((3 * (lo * ba) : Nat) : Int) by omega] at h_Lb
      refine ⟨Nat.le_of_ble_eq_true rfl, ?_⟩
      (intro Lc n_Lc; generalize e_Lc : upd H41 Lc _ = H42; have s42 : Same H41 H42 := fun b x hb => (congrFun e_Lc b).symm.trans (same_new n_Lc b x hb); have h_Lc := (congrFun e_Lc Lc).symm.trans upd_same; clear e_Lc)
      have sm := sm.trans (s40.trans (s41.trans s42))
      refine fun mL dx nm ndx ndx' => make_use nm ndx (old := fun q => q = p) (hs := [h1]) (sts := [.label (3 * (lo * ba)) false]) (hold (hv24.same sm)) ⟨SqT.tup ((s41.trans s42) _ _ h_La), fun h hh => ?_⟩ (Nat.le_of_ble_eq_true rfl) (Nat.le_of_ble_eq_true rfl) ⟨[Lb], SqT.tup h_Lc, .cons (SqT.tup (s42 _ _ h_Lb)) .nil⟩ ⟨(show (3 * (lo * ba)) ≤ 10 ^ 40 from Nat.le_trans (show 3 * (lo * ba) ≤ 165 by omega) (by decide)), trivial⟩ (Nat.le_of_ble_eq_true rfl) (by rw [show legsM [h1] [.label (3 * (lo * ba)) false] = [.lb h1.n h1.n ((3 * (lo * ba) : Nat) : Int) false] from rfl]; exact (lb_thr o2 o2 B2.dvd B2.dvd d ((3 * (lo * ba) : Nat) : Int) false).1) (fun dL H43 e1 e2 aL s43 => ⟨rfl, ?_⟩)
      · obtain rfl := List.mem_singleton.mp hh
        exact A2.same sm
      have lL : dL.ls = [.lb h1.n h1.n ((3 * (lo * ba) : Nat) : Int) false] := by unfold MD.ls; rw [e1, e2]; rfl
      have beL : dL.be < 2 ^ 200 := by unfold MD.be; rw [lL]; exact (lb_thr o2 o2 B2.dvd B2.dvd d ((3 * (lo * ba) : Nat) : Int) false).2
      have vL := show dL.val n = _ from (by unfold MD.val; rw [lL, shift_vl B2 d o2]; rfl : dL.val n = some ((n + 3 * (lo * ba - go) : Nat) : Int))
      have sm := sm.trans s43
      obtain ⟨dxL, eoL⟩ := id aL.ob
      refine ⟨mL, dxL, _, rfl, eoL, dL.no_of, _, rfl, _, mL, dL, n, rfl, aL, hn2, beL, fun H44 s44 => ?_⟩
      rw [vL]
      have sm := sm.trans s44
      refine ⟨_, rfl, _, rfl, _, _, rfl, rfl, .inl ⟨by decide, by decide⟩, _, _, rfl, rfl, rfl, _, rfl, ite_ne (congrArg V.int (by rw [Int.natCast_add, Int.natCast_mul]; rfl)) ⟨sm, _, _, _, _, _, rfl⟩⟩
    · rintro σ H29 ⟨sm, v11, v12, v13, v14, v15, rfl⟩
      dsimp only
      have eoA := sm _ _ eoA
      have eoB := sm _ _ eoB
      have eoC := sm _ _ eoC
      refine ⟨_, rfl, mA, dxA, _, rfl, eoA, mA, dxA, _, _, rfl, eoA, dA.round, _, rfl, mB, dxB, _, rfl, eoB, mB, dxB, _, _, rfl, eoB, dB.round, _, rfl, mC, dxC, _, rfl, eoC, mC, dxC, _, _, rfl, eoC, dC.first, ?_⟩
      refine ⟨_, rfl, Nat.le_of_ble_eq_true rfl, ?_⟩
      (intro Ea n_Ea; generalize e_Ea : upd H29 Ea _ = H30; have s30 : Same H29 H30 := fun b x hb => (congrFun e_Ea b).symm.trans (same_new n_Ea b x hb); have h_Ea := (congrFun e_Ea Ea).symm.trans upd_same; clear e_Ea)
      refine ⟨_, rfl, _, _, rfl, rfl, .inl ⟨by decide, by decide⟩, Nat.le_of_ble_eq_true rfl, ?_⟩
      (intro Eb n_Eb; generalize e_Eb : upd H30 Eb _ = H31; have s31 : Same H30 H31 := fun b x hb => (congrFun e_Eb b).symm.trans (same_new n_Eb b x hb); have h_Eb := (congrFun e_Eb Eb).symm.trans upd_same; clear e_Eb)
      replace h_Eb : H31 Eb = some (.tup [.str "unlabel", .int (2 * ((lo * ba : Nat) : Int)), .str "next"]) := h_Eb
      rw [show (2 : Int) * ((lo * ba : Nat) : Int) = ((2 * (lo * ba) : Nat) : Int) by omega] at h_Eb
      refine ⟨Nat.le_of_ble_eq_true rfl, ?_⟩
      (intro Ec n_Ec; generalize e_Ec : upd H31 Ec _ = H32; have s32 : Same H31 H32 := fun b x hb => (congrFun e_Ec b).symm.trans (same_new n_Ec b x hb); have h_Ec := (congrFun e_Ec Ec).symm.trans upd_same; clear e_Ec)
      have sm := sm.trans (s30.trans (s31.trans s32))
      refine fun mE dx nm ndx ndx' => make_use nm ndx (old := fun q => q = p) (hs := [h1]) (sts := [.unlabel (2 * (lo * ba)) true]) (hold (hv24.same sm)) ⟨SqT.tup ((s31.trans s32) _ _ h_Ea), fun h hh => ?_⟩ (Nat.le_of_ble_eq_true rfl) (Nat.le_of_ble_eq_true rfl) ⟨[Eb], SqT.tup h_Ec, .cons (SqT.tup (s32 _ _ h_Eb)) .nil⟩ ⟨(show (2 * (lo * ba)) ≤ 10 ^ 40 from Nat.le_trans (show 2 * (lo * ba) ≤ 110 by omega) (by decide)), trivial⟩ (Nat.le_of_ble_eq_true rfl) (lb_thr o2 o2 B2.dvd B2.dvd d (-((2 * (lo * ba) : Nat) : Int)) true).1 (fun dE H33 e1 e2 aE s33 => ⟨rfl, ?_⟩)
      · obtain rfl := List.mem_singleton.mp hh
        exact A2.same sm
      have lE : dE.ls = [.lb h1.n h1.n (-((2 * (lo * ba) : Nat) : Int)) true] := by unfold MD.ls; rw [e1, e2]; rfl
      have qE : dE.fi = 2 * (lo * ba - go) := by unfold MD.fi; rw [lE]; exact un_fi B2 d o2
      obtain ⟨dxE, eoE⟩ := id aE.ob
      have sm := sm.trans s33
      refine ⟨mE, dxE, _, rfl, eoE, mE, dxE, _, _, rfl, eoE, dE.first, Nat.le_of_ble_eq_true rfl, ?_⟩
      (intro l3 n_l3; generalize e_l3 : upd H33 l3 _ = H34; have s34 : Same H33 H34 := fun b x hb => (congrFun e_l3 b).symm.trans (same_new n_l3 b x hb); have h_l3 := (congrFun e_l3 l3).symm.trans upd_same; clear e_l3)
      refine g_nx ?_
      dsimp only
      refine ⟨_, rfl, _, rfl, _, rfl, Nat.le_of_ble_eq_true rfl, ?_⟩
      (intro t1 n_t1; generalize e_t1 : upd H34 t1 _ = H35; have s35 : Same H34 H35 := fun b x hb => (congrFun e_t1 b).symm.trans (same_new n_t1 b x hb); have h_t1 := (congrFun e_t1 t1).symm.trans upd_same; clear e_t1)
      refine ⟨_, rfl, _, rfl, Nat.le_of_ble_eq_true rfl, ?_⟩
      (intro t2 n_t2; generalize e_t2 : upd H35 t2 _ = H36; have s36 : Same H35 H36 := fun b x hb => (congrFun e_t2 b).symm.trans (same_new n_t2 b x hb); have h_t2 := (congrFun e_t2 t2).symm.trans upd_same; clear e_t2)
      refine ⟨_, rfl, _, rfl, _, _, rfl, rfl, .inl ⟨by decide, by decide⟩, Nat.le_of_ble_eq_true rfl, ?_⟩
      (intro l4 n_l4; generalize e_l4 : upd H36 l4 _ = H37; have s37 : Same H36 H37 := fun b x hb => (congrFun e_l4 b).symm.trans (same_new n_l4 b x hb); have h_l4 := (congrFun e_l4 l4).symm.trans upd_same; clear e_l4)
      have sm' := sm.trans (s34.trans (s35.trans (s36.trans s37)))
      have rA := sm' _ _ aA.rd
      have rB := sm' _ _ aB.rd
      rw [qA.1, qA.2] at rA
      rw [qB.1, qB.2] at rB
      have l3' := (s35.trans (s36.trans s37)) _ _ h_l3
      rw [qC, qE] at l3'
      have i2 : (2 : Int) * ((lo * ba - go : Nat) : Int) = ((2 * (lo * ba - go) : Nat) : Int) := by omega
      have dd : ∀ {x y : Addr} {H : Hp}, H x = some (.tup [.int ((lo * ba - go : Nat) : Int), .int ((lo * ba : Nat) : Int)]) → H y = some (.tup [.int ((lo * ba : Nat) : Int), .int ((lo * ba - go : Nat) : Int)]) → DpAll K H [V.ref x, V.ref y, V.int (go : Int), V.int ((2 * (lo * ba - go) : Nat) : Int)] [.tuple [.int ((lo * ba - go : Nat) : Int), .int ((lo * ba : Nat) : Int)], .tuple [.int ((lo * ba : Nat) : Int), .int ((lo * ba - go : Nat) : Int)], .int (go : Int), .int ((2 * (lo * ba - go) : Nat) : Int)] := fun h1 h2 =>
        .cons (.tup (SqT.tup h1) (.cons (.int _) (.cons (.int _) .nil))) (.cons (.tup (SqT.tup h2) (.cons (.int _) (.cons (.int _) .nil))) (.cons (.int _) (.cons (.int _) .nil)))
      have cl : (PyData.list [.tuple [.int ((lo * ba - go : Nat) : Int), .int ((lo * ba : Nat) : Int)], .tuple [.int ((lo * ba : Nat) : Int), .int ((lo * ba - go : Nat) : Int)], .int (go : Int), .int ((2 * (lo * ba - go) : Nat) : Int)]).canLay0 = true := by
        simp only [PyData.canLay0, PyData.canLayAll0]
        rfl
      have sh : SeqAt.shaped (PyData.list [.tuple [.int ((lo * ba - go : Nat) : Int), .int ((lo * ba : Nat) : Int)], .tuple [.int ((lo * ba : Nat) : Int), .int ((lo * ba - go : Nat) : Int)], .int (go : Int), .int ((2 * (lo * ba - go) : Nat) : Int)]) = true := by
        unfold SeqAt.shaped
        rw [cl]
        simp only [PyData.depth, PyData.depthAll]
        rfl
      replace h_l4 : H37 l4 = some (.lst [V.ref t1, V.ref t2, V.int (go : Int), V.int ((2 : Int) * ((lo * ba - go : Nat) : Int))]) := h_l4
      rw [i2] at h_l4
      refine ⟨_, _, .lst (SqL.lst l3') (dd rA rB), .lst (SqL.lst h_l4) (dd ((s36.trans s37) _ _ h_t1) (s37 _ _ h_t2)), sh, sh, ?_⟩
      rw [SeqAt.eqv_refl _ cl]
      exact k _ (e024.trans (Same.els sm'))
end
end LM

set_option Elab.async false
set_option linter.all false
set_option maxRecDepth 100000
set_option maxHeartbeats 4000000
set_option pp.maxSteps 600
set_option pp.deepTerms false
namespace LM
open PySem PySem.Spec PyProof.Rows L2
local macro_rules | `(tactic| walk_at "hp") => `(tactic| first | assumption | exact upd_same | (rw [upd_ne (by assumption)]; assumption) | (rw [upd_ne (Ne.symm (by assumption))]; assumption) | (rw [upd_ne (by assumption)]; exact upd_same) | (rw [upd_ne (Ne.symm (by assumption))]; exact upd_same))
local macro_rules | `(tactic| walk_at "sq") => `(tactic| first | assumption | exact Or.inl (Or.inl (by assumption)) | exact Or.inl (Or.inl upd_same) | exact Or.inl (Or.inl (by walk_at "hp")))
local macro_rules | `(tactic| walk_at "ixl") => `(tactic| refine ⟨_, _, _, _, rfl, rfl, (by walk_at "sq"), (by rfl), ?_⟩)
local macro_rules | `(tactic| walk_at "setl") => `(tactic| refine ⟨_, _, _, _, rfl, rfl, (by walk_at "hp"), (by rfl), ?_⟩)
local macro_rules | `(tactic| walk_at "side") => `(tactic| refine idP ?_; first | omega | (show (0 : Int) < _; omega) | (show (0 : Int) < _ ∧ _ < _; omega) | (refine Or.inr ?_; show (-(2 ^ 64) : Int) < _ ∧ _ < _; omega) | (refine Or.inl ?_; show (-(2 ^ 64) : Int) < _ ∧ _ < _; omega) | exact divW (by omega) (by omega) _ | (refine ⟨by decide, by decide, ?_⟩; decide))
local macro_rules | `(tactic| walk_at "go1") => `(tactic| first
  | refine ⟨_, rfl, ?_⟩
  | refine ⟨_, _, rfl, rfl, (by walk_at "side"), ?_⟩
  | refine ⟨_, _, rfl, (by walk_at "side"), ?_⟩
  | refine ⟨_, _, rfl, rfl, ?_⟩
  | refine Or.inl ⟨_, rfl, ?_⟩
  | refine ⟨_, _, rfl, Or.inl (by walk_at "sq"), ?_⟩
  | walk_at "ixl"
  | walk_at "setl"
  | refine ⟨_, _, rfl, (by walk_at "sq"), rfl, ?_⟩
  | refine ⟨_, _, rfl, (by walk_at "sq"), ?_⟩
  | refine ⟨_, _, rfl, ?_⟩
  | refine ⟨rfl, ?_⟩
  | refine ⟨small (Nat.le_of_ble_eq_true rfl), ?_⟩)
local macro_rules | `(tactic| walk_at "go") => `(tactic| repeat walk_at "go1")

abbrev slaw : Stmt := topS 97
theorem sclaw : FnScope ["_law_cells", "_law_turn"] ["_law_cells"] (defScope slaw) := ⟨rfl, rfl, rfl, by decide +kernel, rfl, by decide +kernel, by decide +kernel⟩
theorem clamp {x : Int} (h : 0 ≤ x) : 2 ≤ (if (if (8 : Int) < x then 8 else x) > 2 then (if (8 : Int) < x then 8 else x) else 2) ∧ (if (if (8 : Int) < x then 8 else x) > 2 then (if (8 : Int) < x then 8 else x) else 2) ≤ 8 := by
  by_cases h1 : (8 : Int) < x
  · rw [if_pos h1]
    decide
  · rw [if_neg h1]
    by_cases h2 : x > 2
    · rw [if_pos h2]
      omega
    · rw [if_neg h2]
      decide
def spLaw (K : PySem.W.Frag) : Sp := fun vs H Q _ => ∃ (a : Addr) (ns : List Int), vs = [.ref a] ∧ SqL K H a (ns.map V.int) ∧ ns.length ≤ 63 ∧ ∀ H', Q (.bl true) H'
section
variable {P : Program} {w : World} {K : PySem.W.Frag} {mg : Str → Option Value} {base : Heap}
theorem ok_law {f : Addr} {fd : FuncData} (F : Fun K "law" "law" slaw f fd) (N : Names mg) (D_law_vase : DefK P w K mg base "_law_vase" ["_law_cells", "_law_turn"] 1 (spVase K)) (D2 : DefK P w K mg base "_law_pour" ["_law_vase_here", "_law_top"] 1 spPour ∧ DefK P w K mg base "_law_known_right" [] 7 spTrue ∧ DefK P w K mg base "_law_long_right" [] 10 spTrue ∧ DefK P w K mg base "_law_right" ["_law_vase_here"] 10 (spRight K)) : FnG P w K mg base 11 f fd ["_law_cells"] (spLaw K) := by
  obtain ⟨D_law_pour, D_law_known_right, D_law_long_right, D_law_right⟩ := D2
  have sc := sclaw
  refine funG_ok F sc (fun vs H Q E h => ?_) (fun cdv A outer s H vs Q E hgd hr h => ?_)
  · obtain ⟨a, ns, rfl, _⟩ := h
    rfl
  · obtain ⟨a, ns, rfl, ha, hl, k⟩ := h
    refine ⟨_, (pss_cons (ps_if (PW.pt (pw_or (pt_not (pt_val (pe_d0 D_law_known_right (hr.mono (by decide)) rfl))) (pw_or1 (PW.pt (pw_and (pt_cmpR op_eq (pe_d D_law_pour (hr.mono (by decide)) rfl (pa_cons (pe_d D_law_vase (hr.mono (by decide)) rfl (pa_cons (pv 0) (pa_cons pe_int pa_nil))) (pa_cons pe_int pa_nil))) pe_int (nomark _)) (pw_and1 (pt_not (pt_val (pe_d0 D_law_long_right (hr.mono (by decide)) rfl))))))))) (pss_one (ps_ret pe_bl)) pss_nil)
      (pss_one (ps_ret (pe_callB (cr_all rfl) (by rfl) N.all (by decide +kernel) (pa_cons (pe_lc (own := [("_law_turn", 1)]) rfl sc.nd (pi_range1 rfl N.range (pa_cons (pe_callB (call_max2 rfl) (by rfl) N.max (by decide +kernel) (pa_cons pe_int (pa_cons (pe_callB (call_min2 rfl) (by rfl) N.min (by decide +kernel) (pa_cons (pe_callB call_len_seq (by rfl) N.len (by decide +kernel) (pa_cons (pv 0) pa_nil)) (pa_cons pe_int pa_nil))) pa_nil))) pa_nil)) (blkOk_by (own := [("_law_turn", 1)]) (N := ["_law_cells", "_law_turn"]) (sc := defScope (topS 97)) (by decide +kernel)) (fun _ _ _ _ _ => (pg_name (i := 1) sc.nd rfl (Or.inl rfl))) (fun _ _ _ _ _ => pts_nil) (fun _ _ _ _ _ => (pe_d D_law_right (hr.mono (by decide)) rfl (pa_cons (pe_d D_law_vase (hr.mono (by decide)) rfl (pa_cons (pv 0) (pa_cons (pv 1) pa_nil))) pa_nil)))) pa_nil))))), ?_⟩
    refine seq_joinC (fun σ' H' => Same H H' ∧ σ' = [some (.ref a), none]) (fun D' hD => ?_) ?_
    · refine ⟨rfl, fun H1 s1 => ⟨_, rfl, iteF ?_⟩⟩
      refine ⟨_, rfl, a, ns, 0, rfl, s1.seq ha, hl, fun H2 p s2 np hv => ?_⟩
      refine ⟨p, _, rfl, hv, by decide, by decide, fun z H3 z0 z1 hv3 e3 => ?_⟩
      have s03 : Same H H3 := s1.trans fun b o e => e3 b o (ne_of_none e np) (s2 _ _ e)
      refine ⟨rfl, _, rfl, ifB (fun _ => ?_) (fun _ => ?_)⟩
      · refine ⟨rfl, fun H4 s4 => ⟨_, rfl, iteF ?_⟩⟩
        exact hD _ _ ⟨s03.trans s4, rfl⟩
      · refine iteF ?_
        exact hD _ _ ⟨s03, rfl⟩
    rintro σ H4 ⟨s4, rfl⟩
    refine ⟨_, rfl, a, _, rfl, .inl (s4.seq ha), _, _, rfl, _, _, rfl, ?_⟩
    obtain ⟨b1, b2⟩ := clamp (x := (((ns.map V.int).length : Nat) : Int)) (by omega)
    generalize (if (if (8 : Int) < (((ns.map V.int).length : Nat) : Int) then 8 else (((ns.map V.int).length : Nat) : Int)) > 2 then (if (8 : Int) < (((ns.map V.int).length : Nat) : Int) then 8 else (((ns.map V.int).length : Nat) : Int)) else 2) = M at b1 b2 ⊢
    obtain ⟨n, rfl⟩ := nat_of (show 0 ≤ M by omega)
    refine ⟨_, rfl, by omega, by omega, ?_⟩
    intro D nD
    refine lc_range (n := n) (fun i H' => Same H4 H' ∧ H' D = some (.lst ((List.replicate i true).map V.bl))) ⟨same_new nD, upd_same⟩ ?_ ?_
    · rintro i H' hi ⟨sm, eD⟩
      refine ⟨rfl, ?_⟩
      refine ⟨_, rfl, _, rfl, a, ns, i, (by rw [Int.zero_add]; rfl), (s4.trans sm).seq ha, hl, fun H1 p s1 np hv => ?_⟩
      refine ⟨p, rfl, hv, fun H2 e2 => ?_⟩
      have s02 : Same H' H2 := fun b o e => e2 b o (ne_of_none e np) (s1 _ _ e)
      refine ⟨_, s02 _ _ eD, smallLt (by rw [List.length_map, List.length_replicate]; omega), same_mut (sm.trans s02) nD, ?_⟩
      rw [upd_same, List.replicate_succ', List.map_append]
      rfl
    · rintro H' ⟨sm, eD⟩
      refine ⟨D, List.replicate n true, rfl, SqL.lst eD, ?_⟩
      have e : (List.replicate n true).all id = true := by simp
      rw [e]
      exact k H'
end
end LM

set_option Elab.async false
set_option linter.all false
set_option maxRecDepth 100000
set_option maxHeartbeats 4000000
namespace LM
open PySem PySem.Spec PyProof.Rows L2
/-- a def of the top -/
def TopD (K : PySem.W.Frag) (mg : Str → Option Value) (x : Str) (st : Stmt) (ps : List Str) : Prop := ∃ (f : Addr) (fd : FuncData), Fun K x x st f fd ∧ mg x = some (.ref f) ∧ PySem.W.keepIn K (.ref f) = true ∧ Binds K fd ps []
theorem TopD.mk {K : PySem.W.Frag} {h : Heap} {mg : Str → Option Value} (X : K.In h) (G : h.Ns mainGlobals mg) {x : Str} {st : Stmt} {ps : List Str} {f : Addr} {oc : Value} {od an : Option Addr} {osl : Array (Option Value)} {kV doc pm cdv ct : Value}
    (a : PySem.W.nsIn K mainGlobals x = some (some (.ref f))) (l : K.lookup f = some ⟨oc, od, .func (PySem.W.fnOf x x (defArgs st) (defBody st) (defScope st) .none kV doc pm an cdv ct), osl⟩) (c : PySem.W.codeIn K cdv x = true) (k : PySem.W.keepIn K (.ref f) = true)
    (b : ∀ (kV doc pm : Value) (an : Option Addr) (cdv ct : Value) (us : List Value), us.length = ps.length → bindArgs (PySem.W.fnOf x x (defArgs st) (defBody st) (defScope st) .none kV doc pm an cdv ct) ⟨us, []⟩ = pure (ps.zip us)) : TopD K mg x st ps := by
  have F := fun_mk (st := st) l c k
  exact ⟨f, _, F, PySem.W.mg_of X G a, k, F.binds b⟩
theorem TopD.defK {P : Program} {w : World} {K : PySem.W.Frag} {mg : Str → Option Value} {base : Heap} {x : Str} {st : Stmt} {ps : List Str} {k : Nat} {sp : Sp} (t : TopD K mg x st ps) (ok : ∀ {f : Addr} {fd : FuncData}, Fun K x x st f fd → FnOk P w K mg base CX0 k f fd ps sp) : DefK P w K mg base x ps k sp := by
  obtain ⟨f, fd, F, m, kp, b⟩ := t
  exact ⟨f, fd, ok F, m, kp, b⟩
theorem TopD.defG {P : Program} {w : World} {K : PySem.W.Frag} {mg : Str → Option Value} {base : Heap} {x : Str} {st : Stmt} {ps : List Str} {k : Nat} {sp : Sp} (t : TopD K mg x st ps) (ok : ∀ {f : Addr} {fd : FuncData}, Fun K x x st f fd → FnG P w K mg base k f fd ps sp) : DefG P w K mg base x ps k sp := by
  obtain ⟨f, fd, F, m, kp, b⟩ := t
  exact ⟨f, fd, ok F, m, kp, b⟩
/-- a method of the class -/
def MethD (K : PySem.W.Frag) (C : Addr) (m qual : Str) (st : Stmt) (ps : List Str) : Prop := ∃ (f : Addr) (fd : FuncData), Meth K C m f ∧ Fun K m qual st f fd ∧ Binds K fd ps []
theorem MethD.mk {K : PySem.W.Frag} {C : Addr} {m qual : Str} {st : Stmt} {ps : List Str} {f : Addr} {oc : Value} {od an : Option Addr} {osl : Array (Option Value)} {kV doc pm cdv ct : Value}
    (a : PySem.W.findIn K (.ref C) m = some (some (.ref f))) (i : PySem.W.isFn K (.ref f) = true) (l : K.lookup f = some ⟨oc, od, .func (PySem.W.fnOf m qual (defArgs st) (defBody st) (defScope st) .none kV doc pm an cdv ct), osl⟩) (c : PySem.W.codeIn K cdv qual = true) (k : PySem.W.keepIn K (.ref f) = true)
    (b : ∀ (kV doc pm : Value) (an : Option Addr) (cdv ct : Value) (us : List Value), us.length = ps.length → bindArgs (PySem.W.fnOf m qual (defArgs st) (defBody st) (defScope st) .none kV doc pm an cdv ct) ⟨us, []⟩ = pure (ps.zip us)) : MethD K C m qual st ps := by
  have F := fun_mk (st := st) l c k
  exact ⟨f, _, ⟨a, i, k⟩, F, F.binds b⟩
/-- __init__ with its default -/
def InitD (K : PySem.W.Frag) (C : Addr) : Prop := ∃ (f : Addr) (fd : FuncData) (dv : List V), Mk K C f ∧ FunD K "__init__" "House.__init__" (defArgs sHouse__init_) (defBody sHouse__init_) (defScope sHouse__init_) dv [] f fd ∧ Binds K fd ["self", "bases", "rows"] []
theorem InitD.mk {K : PySem.W.Frag} {C f T e : Addr} {oc ocT : Value} {od an odT : Option Addr} {osl oslT : Array (Option Value)} {kV doc pm cdv ct : Value} {n : Nat}
    (mk : PySem.W.makesIn K C = true) (a : PySem.W.findIn K (.ref C) "__init__" = some (some (.ref f))) (i : PySem.W.isFn K (.ref f) = true) (kc : PySem.W.keepIn K (.ref C) = true)
    (l : K.lookup f = some ⟨oc, od, .func (PySem.W.fnOf "__init__" "House.__init__" (defArgs sHouse__init_) (defBody sHouse__init_) (defScope sHouse__init_) (.ref T) kV doc pm an cdv ct), osl⟩) (lT : K.lookup T = some ⟨ocT, odT, .seq #[.ref e] n, oslT⟩) (c : PySem.W.codeIn K cdv "House.__init__" = true) (k : PySem.W.keepIn K (.ref f) = true) : InitD K C := by
  have F : FunD K "__init__" "House.__init__" (defArgs sHouse__init_) (defBody sHouse__init_) (defScope sHouse__init_) [V.ref e] [] f _ := ⟨⟨oc, od, _, kV, doc, pm, an, cdv, ct, osl, rfl, l, c, .inr ⟨(fun z => nomatch z), T, _, [.ref e], n, rfl, lT, rfl, .cons rfl .nil⟩, .inl rfl⟩, k⟩
  obtain ⟨ds, hv, b⟩ := FunD.binds1 (ps := ["self", "bases", "rows"]) F 3 1 (fun z => nomatch z) rfl fun T kV doc pm an cdv ct us its hu hi => match us, its, hu, hi with | [_, _, _], [_], _, _ => ⟨_, rfl, rfl⟩
  cases hv
  exact ⟨f, _, _, ⟨mk, a, i, kc⟩, F, b⟩

abbrev sHouse_bases : Stmt := inClass (topS 57) 2
theorem scHouse_bases : FnScope ["self"] ["self"] (defScope sHouse_bases) := ⟨rfl, rfl, rfl, by decide +kernel, rfl, by decide +kernel, by decide +kernel⟩
/-- a property -/
def PropBs (K : PySem.W.Frag) (C : Addr) : Prop := ∃ (p f : Addr) (fd : FuncData), PropOf K C "bases" p f ∧ Binds K fd ["self"] [] ∧ (Cls K C → NoAttr K C "_bases" → ∀ (P : Program) (w : World) (mg : Str → Option Value) (base : Heap), FnOk P w K mg base CX0 1 f fd ["self"] (getSp C "_bases"))
theorem PropBs.mk {K : PySem.W.Frag} {C p f : Addr} {oc : Value} {od an : Option Addr} {osl : Array (Option Value)} {kV doc pm cdv ct : Value} {rest : List Value}
    (a : PySem.W.findIn K (.ref C) "bases" = some (some (.ref p))) (g : PySem.W.specialIn K (.ref p) "__get__" = some (some (.builtin "property.__get__"))) (t : PySem.W.takesIn K (.ref p) = some true) (r : PySem.W.recIn K p "property" = some (.ref f :: rest))
    (l : K.lookup f = some ⟨oc, od, .func (PySem.W.fnOf "bases" "House.bases" (defArgs sHouse_bases) (defBody sHouse_bases) (defScope sHouse_bases) .none kV doc pm an cdv ct), osl⟩) (c : PySem.W.codeIn K cdv "House.bases" = true) : PropBs K C :=
  ⟨p, f, _, ⟨a, g, t, rest, r⟩, .all fun us hl => match us, hl with | [_], _ => rfl, fun cl nA P w mg base => fn_getter (N := ["self"]) l c scHouse_bases rfl rfl cl nA⟩

abbrev sHouse_round : Stmt := inClass (topS 57) 4
theorem scHouse_round : FnScope ["self"] ["self"] (defScope sHouse_round) := ⟨rfl, rfl, rfl, by decide +kernel, rfl, by decide +kernel, by decide +kernel⟩
/-- a property -/
def PropRo (K : PySem.W.Frag) (C : Addr) : Prop := ∃ (p f : Addr) (fd : FuncData), PropOf K C "round" p f ∧ Binds K fd ["self"] [] ∧ (Cls K C → NoAttr K C "_round" → ∀ (P : Program) (w : World) (mg : Str → Option Value) (base : Heap), FnOk P w K mg base CX0 1 f fd ["self"] (getSp C "_round"))
theorem PropRo.mk {K : PySem.W.Frag} {C p f : Addr} {oc : Value} {od an : Option Addr} {osl : Array (Option Value)} {kV doc pm cdv ct : Value} {rest : List Value}
    (a : PySem.W.findIn K (.ref C) "round" = some (some (.ref p))) (g : PySem.W.specialIn K (.ref p) "__get__" = some (some (.builtin "property.__get__"))) (t : PySem.W.takesIn K (.ref p) = some true) (r : PySem.W.recIn K p "property" = some (.ref f :: rest))
    (l : K.lookup f = some ⟨oc, od, .func (PySem.W.fnOf "round" "House.round" (defArgs sHouse_round) (defBody sHouse_round) (defScope sHouse_round) .none kV doc pm an cdv ct), osl⟩) (c : PySem.W.codeIn K cdv "House.round" = true) : PropRo K C :=
  ⟨p, f, _, ⟨a, g, t, rest, r⟩, .all fun us hl => match us, hl with | [_], _ => rfl, fun cl nA P w mg base => fn_getter (N := ["self"]) l c scHouse_round rfl rfl cl nA⟩

/-- House.__init__ with its default -/
def InitF (K : PySem.W.Frag) (C : Addr) : Prop := ∃ (f : Addr) (fd : FuncData) (dv : List V) (e0 : Addr) (ds2 : List Value), Mk K C f ∧ FunD K "__init__" "House.__init__" (defArgs sHouse__init_) (defBody sHouse__init_) (defScope sHouse__init_) dv [] f fd ∧ Binds K fd ["self", "bases", "rows"] [] ∧ Binds K fd ["self", "bases", "rows"] ds2 ∧ Vals [V.ref e0] ds2 ∧ (∀ H, SqT K H e0 [])
theorem InitF.mk {K : PySem.W.Frag} {C f T e : Addr} {oc ocT : Value} {od an odT odE : Option Addr} {osl oslT oslE : Array (Option Value)} {kV doc pm cdv ct : Value} {n m : Nat}
    (mk : PySem.W.makesIn K C = true) (a : PySem.W.findIn K (.ref C) "__init__" = some (some (.ref f))) (i : PySem.W.isFn K (.ref f) = true) (kc : PySem.W.keepIn K (.ref C) = true)
    (l : K.lookup f = some ⟨oc, od, .func (PySem.W.fnOf "__init__" "House.__init__" (defArgs sHouse__init_) (defBody sHouse__init_) (defScope sHouse__init_) (.ref T) kV doc pm an cdv ct), osl⟩) (lT : K.lookup T = some ⟨ocT, odT, .seq #[.ref e] n, oslT⟩) (c : PySem.W.codeIn K cdv "House.__init__" = true) (k : PySem.W.keepIn K (.ref f) = true)
    (lE : K.lookup e = some ⟨.type "tuple", odE, .seq #[] m, oslE⟩) : InitF K C := by
  have F : FunD K "__init__" "House.__init__" (defArgs sHouse__init_) (defBody sHouse__init_) (defScope sHouse__init_) [V.ref e] [] f _ := ⟨⟨oc, od, _, kV, doc, pm, an, cdv, ct, osl, rfl, l, c, .inr ⟨(fun z => nomatch z), T, _, [.ref e], n, rfl, lT, rfl, .cons rfl .nil⟩, .inl rfl⟩, k⟩
  obtain ⟨ds, hv, b⟩ := FunD.binds1 (ps := ["self", "bases", "rows"]) F 3 1 (fun z => nomatch z) rfl fun T kV doc pm an cdv ct us its hu hi => match us, its, hu, hi with | [_, _, _], [_], _, _ => ⟨_, rfl, rfl⟩
  cases hv
  obtain ⟨ds2, hv2, b2⟩ := FunD.binds1 (ps := ["self", "bases", "rows"]) F 2 0 (fun z => nomatch z) rfl fun T kV doc pm an cdv ct us its hu hi => match us, its, hu, hi with | [_, _], [_], _, _ => ⟨_, rfl, rfl⟩
  exact ⟨f, _, _, e, ds2, ⟨mk, a, i, kc⟩, F, b, b2, hv2, fun H => .inr ⟨_, #[], m, lE, rfl, rfl, Nat.zero_le _, .nil⟩⟩
/-- more of the class -/
structure MoreD (K : PySem.W.Frag) (C : Addr) : Prop where
  ot : Other K C
  ow : OwnT K C
  ne : PySem.W.findIn K (.ref C) "__ne__" = some (some (.builtin "object.__ne__"))
  bo : PySem.W.findIn K (.ref C) "__bool__" = some none
  le : PySem.W.findIn K (.ref C) "__len__" = some none
theorem MoreD.of {K : PySem.W.Frag} {C : Addr} (own1 : PySem.W.notFirst K C (.ref C) = true) (str1 : PySem.W.notFirst K C (.type "str") = true) (str2 : PySem.W.kitOne K (.type "str") (.ref C) = some false) (int1 : PySem.W.notFirst K C (.type "int") = true) (int2 : PySem.W.kitOne K (.type "int") (.ref C) = some false) (non1 : PySem.W.notFirst K C (.type "NoneType") = true) (non2 : PySem.W.kitOne K (.type "NoneType") (.ref C) = some false) (lst1 : PySem.W.notFirst K C (.type "list") = true) (lst2 : PySem.W.kitOne K (.type "list") (.ref C) = some false) (tup1 : PySem.W.notFirst K C (.type "tuple") = true) (tup2 : PySem.W.kitOne K (.type "tuple") (.ref C) = some false) (dic1 : PySem.W.notFirst K C (.type "dict") = true) (dic2 : PySem.W.kitOne K (.type "dict") (.ref C) = some false) (ha : PySem.W.findIn K (.ref C) "__class__" = some (some (.builtin "object.__class__"))) (hn : PySem.W.specialIn K (.builtin "object.__class__") "__get__" = some (some (.builtin "getset_descriptor.__get__"))) (htk : PySem.W.takesIn K (.builtin "object.__class__") = some true) (hm : PySem.W.mroIn K C (.type "object") = some true)
  (ne : PySem.W.findIn K (.ref C) "__ne__" = some (some (.builtin "object.__ne__"))) (bo : PySem.W.findIn K (.ref C) "__bool__" = some none) (le : PySem.W.findIn K (.ref C) "__len__" = some none) : MoreD K C := ⟨⟨own1, if_pos (beq_self_eq_true _), str1, str2, int1, int2, non1, non2, lst1, lst2, tup1, tup2, dic1, dic2⟩, ⟨ha, hn, htk, hm⟩, ne, bo, le⟩

/-- a class's __init__ -/
def IniD (K : PySem.W.Frag) (C : Addr) (qual : Str) (st : Stmt) (ps : List Str) : Prop := ∃ (f : Addr) (fd : FuncData), Mk K C f ∧ Fun K "__init__" qual st f fd ∧ Binds K fd ps []
theorem IniD.mk {K : PySem.W.Frag} {C f : Addr} {qual : Str} {st : Stmt} {ps : List Str} {oc : Value} {od an : Option Addr} {osl : Array (Option Value)} {kV doc pm cdv ct : Value}
    (mk : PySem.W.makesIn K C = true) (a : PySem.W.findIn K (.ref C) "__init__" = some (some (.ref f))) (i : PySem.W.isFn K (.ref f) = true) (kc : PySem.W.keepIn K (.ref C) = true)
    (l : K.lookup f = some ⟨oc, od, .func (PySem.W.fnOf "__init__" qual (defArgs st) (defBody st) (defScope st) .none kV doc pm an cdv ct), osl⟩) (c : PySem.W.codeIn K cdv qual = true) (k : PySem.W.keepIn K (.ref f) = true)
    (b : ∀ (kV doc pm : Value) (an : Option Addr) (cdv ct : Value) (us : List Value), us.length = ps.length → bindArgs (PySem.W.fnOf "__init__" qual (defArgs st) (defBody st) (defScope st) .none kV doc pm an cdv ct) ⟨us, []⟩ = pure (ps.zip us)) : IniD K C qual st ps := by
  have F := fun_mk (st := st) l c k
  exact ⟨f, _, ⟨mk, a, i, kc⟩, F, F.binds b⟩
/-- Move.__init__ with its default -/
def InitM (K : PySem.W.Frag) (C : Addr) : Prop := ∃ (f : Addr) (fd : FuncData) (dv : List V), Mk K C f ∧ FunD K "__init__" "Move.__init__" (defArgs sMove__init_) (defBody sMove__init_) (defScope sMove__init_) dv [] f fd ∧ Binds K fd ["self", "houses", "steps"] []
theorem InitM.mk {K : PySem.W.Frag} {C f T e : Addr} {oc ocT : Value} {od an odT : Option Addr} {osl oslT : Array (Option Value)} {kV doc pm cdv ct : Value} {n : Nat}
    (mk : PySem.W.makesIn K C = true) (a : PySem.W.findIn K (.ref C) "__init__" = some (some (.ref f))) (i : PySem.W.isFn K (.ref f) = true) (kc : PySem.W.keepIn K (.ref C) = true)
    (l : K.lookup f = some ⟨oc, od, .func (PySem.W.fnOf "__init__" "Move.__init__" (defArgs sMove__init_) (defBody sMove__init_) (defScope sMove__init_) (.ref T) kV doc pm an cdv ct), osl⟩) (lT : K.lookup T = some ⟨ocT, odT, .seq #[.ref e] n, oslT⟩) (c : PySem.W.codeIn K cdv "Move.__init__" = true) (k : PySem.W.keepIn K (.ref f) = true) : InitM K C := by
  have F : FunD K "__init__" "Move.__init__" (defArgs sMove__init_) (defBody sMove__init_) (defScope sMove__init_) [V.ref e] [] f _ := ⟨⟨oc, od, _, kV, doc, pm, an, cdv, ct, osl, rfl, l, c, .inr ⟨(fun z => nomatch z), T, _, [.ref e], n, rfl, lT, rfl, .cons rfl .nil⟩, .inl rfl⟩, k⟩
  obtain ⟨ds, hv, b⟩ := FunD.binds1 (ps := ["self", "houses", "steps"]) F 3 1 (fun z => nomatch z) rfl fun T kV doc pm an cdv ct us its hu hi => match us, its, hu, hi with | [_, _, _], [_], _, _ => ⟨_, rfl, rfl⟩
  cases hv
  exact ⟨f, _, _, ⟨mk, a, i, kc⟩, F, b⟩
theorem TupK.mk {K : PySem.W.Frag} {a : Addr} {cl : Value} {od : Option Addr} {its : Array Value} {n : Nat} {sl : Array (Option Value)} {xs : List V} (l : K.lookup a = some ⟨cl, od, .seq its n, sl⟩) (hc : cl = .type "tuple") (hs : its.size ≤ sizeLine) (hv : Vals xs its.toList) : TupK K a xs := ⟨_, its, n, l, hc, rfl, hs, hv⟩

theorem FormsD.of {K : PySem.W.Frag} {w : World} {h : Heap} {mg : Str → Option Value} (X : K.In h) (G : h.Ns mainGlobals mg) {d : Addr} {es : Array DictEntry} {n : Nat} (am : PySem.W.nsIn K mainGlobals "FORMS" = some (some (.ref d))) (l : K.lookup d = some ⟨.type "dict", none, .dict es n, #[]⟩) (kl : PySem.W.KeysLit w.params es.toList) (lo : (d == sysModules) = false)
    {a0 a1 a2 a3 a4 a5 a6 a7 a8 : Addr} (n0 : PySem.W.nsIn K d "on" = some (some (.ref a0))) (n1 : PySem.W.nsIn K d "back" = some (some (.ref a1))) (n2 : PySem.W.nsIn K d "label" = some (some (.ref a2))) (n3 : PySem.W.nsIn K d "unlabel" = some (some (.ref a3))) (n4 : PySem.W.nsIn K d "to" = some (some (.ref a4))) (n5 : PySem.W.nsIn K d "after" = some (some (.ref a5))) (n6 : PySem.W.nsIn K d "read" = some (some (.ref a6))) (n7 : PySem.W.nsIn K d "call" = some (some (.ref a7))) (n8 : PySem.W.nsIn K d "rate" = some (some (.ref a8))) (t0 : TupK K a0 [V.str "amount"]) (t1 : TupK K a1 [V.str "amount"]) (t2 : TupK K a2 [V.str "amount", V.str "way"]) (t3 : TupK K a3 [V.str "amount", V.str "way"]) (t4 : TupK K a4 [V.str "field"]) (t5 : TupK K a5 [V.str "field"]) (t6 : TupK K a6 [V.str "house", V.str "way"]) (t7 : TupK K a7 [V.str "house"]) (t8 : TupK K a8 [V.str "rate", V.str "rate"]) : FormsD K w mg d := by
  refine ⟨PySem.W.mg_of X G am, ⟨es, n, l, kl, lo⟩, fun s => ?_⟩
  cases s
  · exact ⟨a0, ⟨es, n, _, l, kl, n0, rfl⟩, t0⟩
  · exact ⟨a1, ⟨es, n, _, l, kl, n1, rfl⟩, t1⟩
  · exact ⟨a2, ⟨es, n, _, l, kl, n2, rfl⟩, t2⟩
  · exact ⟨a3, ⟨es, n, _, l, kl, n3, rfl⟩, t3⟩
  · exact ⟨a4, ⟨es, n, _, l, kl, n4, rfl⟩, t4⟩
  · exact ⟨a5, ⟨es, n, _, l, kl, n5, rfl⟩, t5⟩
  · exact ⟨a6, ⟨es, n, _, l, kl, n6, rfl⟩, t6⟩
  · exact ⟨a7, ⟨es, n, _, l, kl, n7, rfl⟩, t7⟩
  · exact ⟨a8, ⟨es, n, _, l, kl, n8, rfl⟩, t8⟩

abbrev sMove_first : Stmt := inClass (topS 88) 5
theorem scMove_first : FnScope ["self"] ["self"] (defScope sMove_first) := ⟨rfl, rfl, rfl, by decide +kernel, rfl, by decide +kernel, by decide +kernel⟩
/-- a property -/
def PropMfirst (K : PySem.W.Frag) (C : Addr) : Prop := ∃ (p f : Addr) (fd : FuncData), PropOf K C "first" p f ∧ Binds K fd ["self"] [] ∧ (Cls K C → NoAttr K C "_first" → ∀ (P : Program) (w : World) (mg : Str → Option Value) (base : Heap), FnOk P w K mg base CX0 1 f fd ["self"] (getSp C "_first"))
theorem PropMfirst.mk {K : PySem.W.Frag} {C p f : Addr} {oc : Value} {od an : Option Addr} {osl : Array (Option Value)} {kV doc pm cdv ct : Value} {rest : List Value}
    (a : PySem.W.findIn K (.ref C) "first" = some (some (.ref p))) (g : PySem.W.specialIn K (.ref p) "__get__" = some (some (.builtin "property.__get__"))) (t : PySem.W.takesIn K (.ref p) = some true) (r : PySem.W.recIn K p "property" = some (.ref f :: rest))
    (l : K.lookup f = some ⟨oc, od, .func (PySem.W.fnOf "first" "Move.first" (defArgs sMove_first) (defBody sMove_first) (defScope sMove_first) .none kV doc pm an cdv ct), osl⟩) (c : PySem.W.codeIn K cdv "Move.first" = true) : PropMfirst K C :=
  ⟨p, f, _, ⟨a, g, t, rest, r⟩, .all fun us hl => match us, hl with | [_], _ => rfl, fun cl nA P w mg base => fn_getter (N := ["self"]) l c scMove_first rfl rfl cl nA⟩

abbrev sMove_round : Stmt := inClass (topS 88) 6
theorem scMove_round : FnScope ["self"] ["self"] (defScope sMove_round) := ⟨rfl, rfl, rfl, by decide +kernel, rfl, by decide +kernel, by decide +kernel⟩
/-- a property -/
def PropMround (K : PySem.W.Frag) (C : Addr) : Prop := ∃ (p f : Addr) (fd : FuncData), PropOf K C "round" p f ∧ Binds K fd ["self"] [] ∧ (Cls K C → NoAttr K C "_round" → ∀ (P : Program) (w : World) (mg : Str → Option Value) (base : Heap), FnOk P w K mg base CX0 1 f fd ["self"] (getSp C "_round"))
theorem PropMround.mk {K : PySem.W.Frag} {C p f : Addr} {oc : Value} {od an : Option Addr} {osl : Array (Option Value)} {kV doc pm cdv ct : Value} {rest : List Value}
    (a : PySem.W.findIn K (.ref C) "round" = some (some (.ref p))) (g : PySem.W.specialIn K (.ref p) "__get__" = some (some (.builtin "property.__get__"))) (t : PySem.W.takesIn K (.ref p) = some true) (r : PySem.W.recIn K p "property" = some (.ref f :: rest))
    (l : K.lookup f = some ⟨oc, od, .func (PySem.W.fnOf "round" "Move.round" (defArgs sMove_round) (defBody sMove_round) (defScope sMove_round) .none kV doc pm an cdv ct), osl⟩) (c : PySem.W.codeIn K cdv "Move.round" = true) : PropMround K C :=
  ⟨p, f, _, ⟨a, g, t, rest, r⟩, .all fun us hl => match us, hl with | [_], _ => rfl, fun cl nA P w mg base => fn_getter (N := ["self"]) l c scMove_round rfl rfl cl nA⟩

theorem LegTxt.of {K : PySem.W.Frag} {mg : Str → Option Value} {cS cL cU cR : Addr} (kS : Cls K cS) (kL : Cls K cL) (kU : Cls K cU) (kR : Cls K cR) (n0 : NoAttr K cS "_amount") (n1 : NoAttr K cL "_here") (n2 : NoAttr K cL "_there") (n3 : NoAttr K cL "_amount") (n4 : NoAttr K cL "_way") (n5 : NoAttr K cU "_house") (n6 : NoAttr K cU "_labels") (n7 : NoAttr K cU "_ahead") (n8 : NoAttr K cR "_factor") (n9 : NoAttr K cR "_divisor") (gS : mg "FrameShift" = some (.ref cS)) (gL : mg "LabelShift" = some (.ref cL)) (gU : mg "UnitStart" = some (.ref cU)) (gR : mg "Rate" = some (.ref cR)) : LegTxt K mg ⟨cS, cL, cU, cR⟩ := ⟨kS, kL, kU, kR, n0, n1, n2, n3, n4, n5, n6, n7, n8, n9, gS, gL, gU, gR⟩

/-- the legs' classes and Move -/
def MovD (K : PySem.W.Frag) (w : World) (mg : Str → Option Value) : Prop := ∃ (cS cL cU cR cm dF : Addr), LegTxt K mg ⟨cS, cL, cU, cR⟩ ∧ MoveTxt K mg cm ∧ FormsD K w mg dF ∧ IniD K cS "FrameShift.__init__" sFrameShift__init_ ["self", "amount"] ∧ IniD K cL "LabelShift.__init__" sLabelShift__init_ ["self", "here", "there", "amount", "way"] ∧ IniD K cU "UnitStart.__init__" sUnitStart__init_ ["self", "house", "labels", "ahead"] ∧ IniD K cR "Rate.__init__" sRate__init_ ["self", "factor", "divisor"] ∧ InitM K cm ∧ MethD K cS "lead" "FrameShift.lead" sFrameShift_lead ["self", "frames"] ∧ MethD K cS "least_start" "FrameShift.least_start" sFrameShift_least_start ["self", "frame"] ∧ MethD K cS "passing" "FrameShift.passing" sFrameShift_passing ["self"] ∧ MethD K cL "lead" "LabelShift.lead" sLabelShift_lead ["self", "frames"] ∧ MethD K cL "least_start" "LabelShift.least_start" sLabelShift_least_start ["self", "frame"] ∧ MethD K cL "passing" "LabelShift.passing" sLabelShift_passing ["self"] ∧ MethD K cU "lead" "UnitStart.lead" sUnitStart_lead ["self", "frames"] ∧ MethD K cU "least_start" "UnitStart.least_start" sUnitStart_least_start ["self", "frame"] ∧ MethD K cU "passing" "UnitStart.passing" sUnitStart_passing ["self"] ∧ MethD K cR "lead" "Rate.lead" sRate_lead ["self", "frames"] ∧ MethD K cR "least_start" "Rate.least_start" sRate_least_start ["self", "frame"] ∧ MethD K cR "passing" "Rate.passing" sRate_passing ["self"] ∧ MethD K cm "of" "Move.of" sMove_of ["self", "frame"] ∧ PropMfirst K cm ∧ PropMround K cm

/-- the class -/
def HouseD (K : PySem.W.Frag) (mg : Str → Option Value) : Prop := ∃ C : Addr, HouseTxt K mg C ∧ InitF K C ∧ PropBs K C ∧ PropRo K C ∧ MethD K C "_place_borne" "House._place_borne" sHouse_place_borne ["self", "frame"] ∧ MethD K C "place" "House.place" sHouse_place ["self", "frame"] ∧ MethD K C "_first_frame" "House._first_frame" sHouse_first_frame ["self", "group"] ∧ MethD K C "_frame_bearing" "House._frame_bearing" sHouse_frame_bearing ["self", "place"] ∧ MethD K C "written" "House.written" sHouse_written ["self", "frame"] ∧ MethD K C "at" "House.at" sHouse_at ["self", "place", "way"] ∧ MethD K C "frames_at" "House.frames_at" sHouse_frames_at ["self", "places", "way"] ∧ MethD K C "places_of" "House.places_of" sHouse_places_of ["self", "frames"] ∧ MethD K C "__str__" "House.__str__" sHouse__str_ ["self"] ∧ MoreD K C

theorem all_mk {P : Program} {w : World} {K : PySem.W.Frag} {h : Heap} {mg : Str → Option Value} {fa : Addr} (X : K.In h) (G : h.Ns mainGlobals mg) (hfa : mg "law" = some (.ref fa)) (N : Names mg) (M : Consts mg) (hD : HouseD K mg)
    (hM : MovD K w mg) (MC : MConsts mg) (hgcd : mg "gcd" = some (.builtin "math.gcd")) (t__law_vase : TopD K mg "_law_vase" s_law_vase ["_law_cells", "_law_turn"]) (t__law_pour : TopD K mg "_law_pour" s_law_pour ["_law_vase_here", "_law_top"]) (t__law_drop : TopD K mg "_law_drop" s_law_drop ["_law_number"]) (t_is_integer : TopD K mg "is_integer" sis_integer ["value"]) (t_is_integer_within : TopD K mg "is_integer_within" sis_integer_within ["value", "low", "high"]) (t_is_number : TopD K mg "is_number" sis_number ["value"]) (t_check_number : TopD K mg "check_number" scheck_number ["given"]) (t_is_way : TopD K mg "is_way" sis_way ["value"]) (t_check_way : TopD K mg "check_way" scheck_way ["given"]) (t_check_bases : TopD K mg "check_bases" scheck_bases ["bases"]) (t_is_row : TopD K mg "is_row" sis_row ["bases", "value"]) (t_check_rows : TopD K mg "check_rows" scheck_rows ["bases", "rows"]) (t_spaced : TopD K mg "spaced" sspaced ["parts"]) (t_house_text : TopD K mg "house_text" shouse_text ["bases", "rows"]) (t_groups_in_unit : TopD K mg "groups_in_unit" sgroups_in_unit ["bases", "field"]) (t_groups_to_repeat : TopD K mg "groups_to_repeat" sgroups_to_repeat ["bases", "rows"]) (t_fitted_groups : TopD K mg "fitted_groups" sfitted_groups ["bases", "row", "groups"]) (t_skipped_counts : TopD K mg "skipped_counts" sskipped_counts ["bases", "rows", "groups"]) (t_least_repeat : TopD K mg "least_repeat" sleast_repeat ["counts"]) (t_sums_ahead : TopD K mg "sums_ahead" ssums_ahead ["numbers"]) (t_last_not_above : TopD K mg "last_not_above" slast_not_above ["ascending", "number"]) (t_label_at : TopD K mg "label_at" slabel_at ["bases", "place"]) (t_written_number : TopD K mg "written_number" swritten_number ["number"]) (t_written_label : TopD K mg "written_label" swritten_label ["bases", "label"]) (t_places_in_round : TopD K mg "places_in_round" splaces_in_round ["house"]) (t_frames_in_places : TopD K mg "frames_in_places" sframes_in_places ["house", "places"]) (t_place_behind_frame_ahead : TopD K mg "place_behind_frame_ahead" splace_behind_frame_ahead ["house", "frame"]) (t_house_behind : TopD K mg "house_behind" shouse_behind ["at", "step"]) (t_leg_of : TopD K mg "leg_of" sleg_of ["houses", "at", "step"]) (t_legs_of : TopD K mg "legs_of" slegs_of ["houses", "steps"]) (t_led : TopD K mg "led" sled ["legs", "frames"]) (t_least_led_to : TopD K mg "least_led_to" sleast_led_to ["legs", "frame"]) (t_least_through : TopD K mg "least_through" sleast_through ["legs"]) (t_word_of : TopD K mg "word_of" sword_of ["value"]) (t_has_form : TopD K mg "has_form" shas_form ["value"]) (t_bounds : TopD K mg "bounds" sbounds ["kind", "houses", "at"]) (t_is_part : TopD K mg "is_part" sis_part ["kind", "houses", "at", "value"]) (t_is_step : TopD K mg "is_step" sis_step ["houses", "at", "value"]) (t_check_steps : TopD K mg "check_steps" scheck_steps ["houses", "steps"]) (t_check_houses : TopD K mg "check_houses" scheck_houses ["houses"]) (t_last_house : TopD K mg "last_house" slast_house ["houses", "steps"]) (t_move_text : TopD K mg "move_text" smove_text ["houses", "steps"]) (t__law_known_right : TopD K mg "_law_known_right" s_law_known_right []) (t__law_long_right : TopD K mg "_law_long_right" s_law_long_right []) (t__law_right : TopD K mg "_law_right" s_law_right ["_law_vase_here"])
    {f : Addr} {oc : Value} {od an : Option Addr} {osl : Array (Option Value)} {kV doc pm cdv ct : Value} (a : PySem.W.nsIn K mainGlobals "law" = some (some (.ref f))) (l : K.lookup f = some ⟨oc, od, .func (PySem.W.fnOf "law" "law" (defArgs slaw) (defBody slaw) (defScope slaw) .none kV doc pm an cdv ct), osl⟩) (c : PySem.W.codeIn K cdv "law" = true) (k : PySem.W.keepIn K (.ref f) = true) :
    ∃ fd : FuncData, (∀ (s : Shared) (v : Value), BindsTo s fd ⟨[v], []⟩ [("_law_cells", v)]) ∧ ∀ base : Heap, K.In base → base.Ns mainGlobals mg → FnG P w K mg base 11 fa fd ["_law_cells"] (spLaw K) := by
  have e := hfa.symm.trans (PySem.W.mg_of X G a)
  cases e
  have FL := fun_mk (st := slaw) l c k
  refine ⟨_, fun s v => .of_eq rfl, fun base _ _ => ok_law FL N ?_ ?_⟩
  · exact t__law_vase.defK fun F => ok_vase F N
  have D_law_vase : DefK P w K mg base "_law_vase" ["_law_cells", "_law_turn"] 1 (spVase K) := t__law_vase.defK fun F => ok_vase F N
  have D_law_pour : DefK P w K mg base "_law_pour" ["_law_vase_here", "_law_top"] 1 (spPour) := t__law_pour.defK fun F => ok_pour F N
  have D_law_drop : DefK P w K mg base "_law_drop" ["_law_number"] 1 (spDrop) := t__law_drop.defK fun F => ok_drop F N
  have Dis_integer : DefK P w K mg base "is_integer" ["value"] 1 (spIsInt) := t_is_integer.defK fun F => ok_isint F N
  have Dis_integer_within : DefK P w K mg base "is_integer_within" ["value", "low", "high"] 2 (spWithin) := t_is_integer_within.defK fun F => ok_within F Dis_integer
  have Dis_number : DefK P w K mg base "is_number" ["value"] 2 (spIsNum) := t_is_number.defK fun F => ok_isnum F Dis_integer
  have Dcheck_number : DefK P w K mg base "check_number" ["given"] 3 (spChkNum) := t_check_number.defK fun F => ok_chknum F Dis_number
  have Dis_way : DefK P w K mg base "is_way" ["value"] 1 (spIsWay) := t_is_way.defK fun F => ok_isway F N
  have Dcheck_way : DefK P w K mg base "check_way" ["given"] 2 (spWay) := t_check_way.defK fun F => ok_way F Dis_way
  have Dcheck_bases : DefK P w K mg base "check_bases" ["bases"] 3 (spChkBases K) := t_check_bases.defK fun F => ok_chkbases F N M Dis_integer_within
  have Dis_row : DefK P w K mg base "is_row" ["bases", "value"] 3 (spIsRow K) := t_is_row.defK fun F => ok_isrow F N M Dis_integer_within
  have Dcheck_rows : DefK P w K mg base "check_rows" ["bases", "rows"] 4 (spChkRows K) := t_check_rows.defK fun F => ok_chkrows F N M Dis_row
  have Dspaced : DefK P w K mg base "spaced" ["parts"] 1 (spSpaced K) := t_spaced.defK fun F => ok_spaced F N
  have Dhouse_text : DefK P w K mg base "house_text" ["bases", "rows"] 2 (spHouseText K) := t_house_text.defK fun F => ok_housetext F Dspaced
  have Dgroups_in_unit : DefK P w K mg base "groups_in_unit" ["bases", "field"] 1 (spUnit K) := t_groups_in_unit.defK fun F => ok_unit F
  have Dgroups_to_repeat : DefK P w K mg base "groups_to_repeat" ["bases", "rows"] 2 (spRepeat K) := t_groups_to_repeat.defK fun F => ok_repeat F N Dgroups_in_unit
  have Dfitted_groups : DefK P w K mg base "fitted_groups" ["bases", "row", "groups"] 2 (spFitted K) := t_fitted_groups.defK fun F => ok_fitted F N Dgroups_in_unit
  have Dskipped_counts : DefK P w K mg base "skipped_counts" ["bases", "rows", "groups"] 3 (spSkipped K) := t_skipped_counts.defK fun F => ok_skipped F Dfitted_groups
  have Dleast_repeat : DefK P w K mg base "least_repeat" ["counts"] 1 (spLeast K) := t_least_repeat.defK fun F => ok_least F N
  have Dsums_ahead : DefK P w K mg base "sums_ahead" ["numbers"] 1 (spSums K) := t_sums_ahead.defK fun F => ok_sums F
  have Dlast_not_above : DefK P w K mg base "last_not_above" ["ascending", "number"] 1 (spLna K) := t_last_not_above.defK fun F => ok_lna F N
  have Dlabel_at : DefK P w K mg base "label_at" ["bases", "place"] 1 (spLabelAt K) := t_label_at.defK fun F => ok_labelat F N
  have Dwritten_number : DefK P w K mg base "written_number" ["number"] 1 (spNumText) := t_written_number.defK fun F => ok_numtext F N
  have Dwritten_label : DefK P w K mg base "written_label" ["bases", "label"] 2 (spLabelText K) := t_written_label.defK fun F => ok_labeltext F N Dwritten_number
  obtain ⟨C, T, ⟨fI, fdI, dv, e0H, ds2H, MK, FI, bI, bI2H, hd2H, hEH⟩, ⟨pBs, fBs, fdBs, qBs, bBs, gBs⟩, ⟨pRo, fRo, fdRo, qRo, bRo, gRo⟩, ⟨fB, fdB, mB, FB, bB⟩, ⟨fPl, fdPl, mPl, FPl, bPl⟩, ⟨fF_, fdF_, mF_, FF_, bF_⟩, ⟨fN_, fdN_, mN_, FN_, bN_⟩, ⟨fWr, fdWr, mWr, FWr, bWr⟩, ⟨fAt, fdAt, mAt, FAt, bAt⟩, ⟨fFa, fdFa, mFa, FFa, bFa⟩, ⟨fPo, fdPo, mPo, FPo, bPo⟩, ⟨fSt, fdSt, mSt, FSt, bSt⟩, XD⟩ := hD
  have XO := XD.ot
  have XW := XD.ow
  have GI := ok_init (P := P) (w := w) (base := base) FI T N M Dcheck_bases Dcheck_rows Dgroups_to_repeat Dskipped_counts Dhouse_text Dleast_repeat Dsums_ahead
  have GBs := gBs T.cl T.nB P w mg base
  have GRo := gRo T.cl T.nD P w mg base
  have GB := ok_placeborne (P := P) (w := w) (base := base) FB T N Dlast_not_above
  have GPl := ok_placeM (P := P) (w := w) (base := base) FPl T Dcheck_number mB GB bB
  have GF_ := ok_first (P := P) (w := w) (base := base) FF_ T N
  have GN_ := ok_bear (P := P) (w := w) (base := base) FN_ T N mF_ GF_ bF_
  have GWr := ok_written (P := P) (w := w) (base := base) FWr T Dcheck_number Dlabel_at Dwritten_label mB GB bB
  have GAt := ok_at (P := P) (w := w) (base := base) FAt T N Dcheck_number Dcheck_way mF_ GF_ bF_ mN_ GN_ bN_
  have GFa := ok_framesat (P := P) (w := w) (base := base) FFa T N mF_ GF_ bF_
  have GPo := ok_placesof (P := P) (w := w) (base := base) FPo T N mB GB bB
  have GSt := ok_str (P := P) (w := w) (base := base) FSt T N
  obtain ⟨cS, cL, cU, cR, cm, dF, TL, TM, FD, ⟨fiS, fdiS, MkiS, FiS, biS⟩, ⟨fiL, fdiL, MkiL, FiL, biL⟩, ⟨fiU, fdiU, MkiU, FiU, biU⟩, ⟨fiR, fdiR, MkiR, FiR, biR⟩, ⟨fiM, fdiM, dviM, MKM, FiM, bIM⟩, ⟨fLeS, fdLeS, mLeS, FLeS, bLeS⟩, ⟨fLsS, fdLsS, mLsS, FLsS, bLsS⟩, ⟨fPsS, fdPsS, mPsS, FPsS, bPsS⟩, ⟨fLeL, fdLeL, mLeL, FLeL, bLeL⟩, ⟨fLsL, fdLsL, mLsL, FLsL, bLsL⟩, ⟨fPsL, fdPsL, mPsL, FPsL, bPsL⟩, ⟨fLeU, fdLeU, mLeU, FLeU, bLeU⟩, ⟨fLsU, fdLsU, mLsU, FLsU, bLsU⟩, ⟨fPsU, fdPsU, mPsU, FPsU, bPsU⟩, ⟨fLeR, fdLeR, mLeR, FLeR, bLeR⟩, ⟨fLsR, fdLsR, mLsR, FLsR, bLsR⟩, ⟨fPsR, fdPsR, mPsR, FPsR, bPsR⟩, ⟨fM_of, fdM_of, mM_of, FM_of, bM_of⟩, ⟨pP_first, fP_first, fdP_first, qP_first, bP_first, gP_first⟩, ⟨pP_round, fP_round, fdP_round, qP_round, bP_round, gP_round⟩⟩ := hM
  obtain ⟨c, rfl, rfl, rfl, rfl⟩ : ∃ c : LCs, c.S = cS ∧ c.L = cL ∧ c.U = cU ∧ c.R = cR := ⟨⟨cS, cL, cU, cR⟩, rfl, rfl, rfl, rfl⟩
  have TL : LegTxt K mg c := TL
  have Dplaces_in_round : DefK P w K mg base "places_in_round" ["house"] 3 (spPlacesIn K C) := t_places_in_round.defK fun F => ok_placesin F T qBs GBs bBs qRo GRo bRo
  have Dframes_in_places : DefK P w K mg base "frames_in_places" ["house", "places"] 4 (spFramesIn K C) := t_frames_in_places.defK fun F => ok_framesin F T qRo GRo bRo Dplaces_in_round
  have Dplace_behind_frame_ahead : DefK P w K mg base "place_behind_frame_ahead" ["house", "frame"] 5 (spBehindAhead K C) := t_place_behind_frame_ahead.defK fun F => ok_behindahead F T mPl GPl bPl
  have LI : LegI P w K mg base c := ⟨⟨fiS, fdiS, MkiS, ok_iniS FiS TL, biS⟩, ⟨fiL, fdiL, MkiL, ok_iniL FiL TL, biL⟩, ⟨fiU, fdiU, MkiU, ok_iniU FiU TL, biU⟩, ⟨fiR, fdiR, MkiR, ok_iniR FiR TL, biR⟩⟩
  have LLe : LegM P w K mg base c "lead" 4 ["self", "frames"] (spLead K C c) := ⟨⟨_, _, mLeS, (ok_leadS FLeS TL).mono (by decide), bLeS⟩, ⟨_, _, mLeL, ok_leadL FLeL TL T mPo GPo bPo mFa GFa bFa, bLeL⟩, ⟨_, _, mLeU, ok_leadU FLeU TL T mPo GPo bPo mFa GFa bFa, bLeU⟩, ⟨_, _, mLeR, (ok_leadR FLeR TL).mono (by decide), bLeR⟩⟩
  have LLs : LegM P w K mg base c "least_start" 6 ["self", "frame"] (spLs K C c) := ⟨⟨_, _, mLsS, (ok_lsS FLsS TL N).mono (by decide), bLsS⟩, ⟨_, _, mLsL, ok_lsL FLsL TL T N mPl GPl bPl mAt GAt bAt Dplace_behind_frame_ahead, bLsL⟩, ⟨_, _, mLsU, ok_lsU FLsU TL T N mAt GAt bAt Dplace_behind_frame_ahead, bLsU⟩, ⟨_, _, mLsR, (ok_lsR FLsR TL N).mono (by decide), bLsR⟩⟩
  have LPs : LegM P w K mg base c "passing" 5 ["self"] (spPass K C c) := ⟨⟨_, _, mPsS, (ok_passS FPsS).mono (by decide), bPsS⟩, ⟨_, _, mPsL, ok_passL FPsL TL N Dplaces_in_round Dframes_in_places, bPsL⟩, ⟨_, _, mPsU, ok_passU FPsU TL N Dplaces_in_round Dframes_in_places, bPsU⟩, ⟨_, _, mPsR, (ok_passR FPsR TL hgcd).mono (by decide), bPsR⟩⟩
  have Dhouse_behind : DefK P w K mg base "house_behind" ["at", "step"] 1 (spHBehind K) := t_house_behind.defK fun F => ok_hbehind F
  have Dleg_of : DefK P w K mg base "leg_of" ["houses", "at", "step"] 4 (spLegOf K C c) := t_leg_of.defK fun F => ok_legof F T TL LI qBs GBs bBs Dgroups_in_unit
  have Dlegs_of : DefK P w K mg base "legs_of" ["houses", "steps"] 5 (spLegsOf K C c) := t_legs_of.defK fun F => ok_legsof F Dleg_of Dhouse_behind
  have Dled : DefK P w K mg base "led" ["legs", "frames"] 5 (spLed K C c) := t_led.defK fun F => ok_led F TL LLe
  have Dleast_led_to : DefK P w K mg base "least_led_to" ["legs", "frame"] 7 (spLeastLed K C c) := t_least_led_to.defK fun F => ok_leastled F N TL LLs
  have Dleast_through : DefK P w K mg base "least_through" ["legs"] 6 (spThrough K C c) := t_least_through.defK fun F => ok_through F hgcd TL LPs
  have Dword_of : DefK P w K mg base "word_of" ["value"] 1 (spWordOf K) := t_word_of.defK fun F => ok_wordof F N
  have Dhas_form : DefK P w K mg base "has_form" ["value"] 2 (spHasForm K) := t_has_form.defK fun F => ok_hasform F N FD Dword_of
  have Dbounds : DefK P w K mg base "bounds" ["kind", "houses", "at"] 3 (spBounds K C) := t_bounds.defK fun F => ok_bounds F N MC T qBs GBs bBs
  have Dis_part : DefK P w K mg base "is_part" ["kind", "houses", "at", "value"] 4 (spIsPart K C) := t_is_part.defK fun F => ok_ispart F N Dis_way Dbounds Dis_integer_within
  have Dis_step : DefK P w K mg base "is_step" ["houses", "at", "value"] 5 (spIsStep K C) := t_is_step.defK fun F => ok_isstep F N T FD Dhas_form Dis_part qBs GBs bBs
  have Dcheck_steps : DefK P w K mg base "check_steps" ["houses", "steps"] 6 (spChkSteps K C) := t_check_steps.defK fun F => ok_chksteps F N MC Dis_step Dhouse_behind
  have Dcheck_houses : DefK P w K mg base "check_houses" ["houses"] 1 (spChkHouses K C) := t_check_houses.defK fun F => ok_chkhouses F T N MC XO XW
  have DspacedV : DefK P w K mg base "spaced" ["parts"] 1 (spSpacedV K) := t_spaced.defK fun F => ok_spacedV F N
  have Dlast_house : DefK P w K mg base "last_house" ["houses", "steps"] 2 (spLastHouse K C) := t_last_house.defK fun F => ok_lasthouse F Dhouse_behind
  have Dmove_text : DefK P w K mg base "move_text" ["houses", "steps"] 4 (spMoveText K C) := t_move_text.defK fun F => ok_movetext F N mSt.at_ mSt.fn GSt bSt DspacedV
  have GIM := ok_moveinit (P := P) (w := w) (base := base) FiM TM N MC Dcheck_houses Dcheck_steps Dlegs_of Dleast_through Dleast_led_to Dled Dleast_repeat Dmove_text Dlast_house
  have GP_first := gP_first TM.cl TM.n8 P w mg base
  have GP_round := gP_round TM.cl TM.n10 P w mg base
  have GM_of := ok_of (P := P) (w := w) (base := base) (C := C) (c := c) FM_of TM N Dcheck_number
  have D_law_known_right : DefK P w K mg base "_law_known_right" [] 7 (spTrue) := t__law_known_right.defK fun F => ok_known F T N MK GI bI mPl GPl bPl mWr GWr bWr D_law_drop
  have D_law_long_right : DefK P w K mg base "_law_long_right" [] 10 (spTrue) := t__law_long_right.defK fun F => ok_long F T TM N MK GI bI bI2H hd2H hEH MKM GIM bIM mM_of GM_of bM_of qP_first GP_first bP_first qP_round GP_round bP_round
  exact ⟨D_law_pour, D_law_known_right, D_law_long_right, t__law_right.defK fun F => ok_right F T TM N MK GI bI bI2H hd2H hEH MKM GIM bIM mM_of GM_of bM_of qP_first GP_first bP_first qP_round GP_round bP_round D_law_pour⟩
theorem walk {l : PySem.W.OpenLaw} {q : Program} {loose : List Str} {XP : (Str → Option Value) → Heap → Prop} {YP : World → Heap → Prop} {d : DefRec} {K : Params → PySem.W.Frag} (hn : l.most = some 63) (hdf : d.params.defaults = [])
    (hY : ∀ (w : World) (h : Heap), YP w h → (K w.params).In h)
    (F : ∀ (w : World) (mg : Str → Option Value) (fa : Addr) (h : Heap), (K w.params).In h → h.Ns mainGlobals mg → mg d.name = some (.ref fa) →
      ∃ fd : FuncData, (∀ (s : Shared) (u : Value), BindsTo s fd ⟨[u], []⟩ [("_law_cells", u)]) ∧ ∀ base : Heap, (K w.params).In base → base.Ns mainGlobals mg → FnG l.prog w (K w.params) mg base 11 fa fd ["_law_cells"] (spLaw (K w.params))) :
    PySem.W.WalkO q loose XP YP l.row.toRowW d [] (fun f vs => PySem.call f vs) :=
  walk_ofG (n := 63) (k := 11) (x := "_law_cells") (sp := spLaw) hn (by decide) hdf ⟨rfl, by decide, by decide⟩ rfl hY F fun _ _ a ns hl _ hS => ⟨a, ns, rfl, hS, hl, fun _ => rfl⟩
end LM

set_option Elab.async false
set_option linter.all false
set_option maxRecDepth 100000
open PySem PySem.W PyProof.Rows
set_option maxHeartbeats 0 in
theorem PySem.Challenge.cw_labelmoves_k21_moves_by_hand_holds : PySem.Challenge.rw_labelmoves_k21_moves_by_hand.Holds := by
  w_on; o_law; (refine LM.head_top3 (r := LM.HX.R) (q := LM.HX.q) (H := LM.HX.H) (M := 20000) (loose := LM.HX.loose) (d := LM.HX.dR) LM.HX.said ?run (by assumption) ?hw ?hc); (case run => (intro w; exact ⟨LM.HX.looks w, LM.HX.seen w, LM.HX.ob w⟩)); (case hw => w_witness2)
  show PySem.W.WalkO _ _ _ (PySem.W.kHook LM.HX.HP.heap_1 _ (fun _ => by kernel_rfl)).says _ _ _ _
  k_fill
  refine LM.walk (l := PySem.Challenge.rw_labelmoves_k21_moves_by_hand) rfl LM.HX.said.noDf (fun w h Y => PySem.W.kIn_of Y) ?F
  case F =>
    intro w mg fa h KX G hmg
    refine' LM.all_mk KX G hmg ?zN ?zM ?zH ?zV ?zMC ?zgc ?t__law_vase ?t__law_pour ?t__law_drop ?t_is_integer ?t_is_integer_within ?t_is_number ?t_check_number ?t_is_way ?t_check_way ?t_check_bases ?t_is_row ?t_check_rows ?t_spaced ?t_house_text ?t_groups_in_unit ?t_groups_to_repeat ?t_fitted_groups ?t_skipped_counts ?t_least_repeat ?t_sums_ahead ?t_last_not_above ?t_label_at ?t_written_number ?t_written_label ?t_places_in_round ?t_frames_in_places ?t_place_behind_frame_ahead ?t_house_behind ?t_leg_of ?t_legs_of ?t_led ?t_least_led_to ?t_least_through ?t_word_of ?t_has_form ?t_bounds ?t_is_part ?t_is_step ?t_check_steps ?t_check_houses ?t_last_house ?t_move_text ?t__law_known_right ?t__law_long_right ?t__law_right ?za ?zl ?zc ?zk
    case zN => exact ⟨PySem.W.mg_none_of KX G (by k_is), PySem.W.mg_none_of KX G (by k_is), PySem.W.mg_none_of KX G (by k_is), PySem.W.mg_none_of KX G (by k_is), PySem.W.mg_none_of KX G (by k_is), PySem.W.mg_none_of KX G (by k_is), PySem.W.mg_none_of KX G (by k_is), PySem.W.mg_none_of KX G (by k_is), PySem.W.mg_none_of KX G (by k_is), PySem.W.mg_none_of KX G (by k_is), PySem.W.mg_none_of KX G (by k_is), PySem.W.mg_none_of KX G (by k_is), PySem.W.mg_none_of KX G (by k_is), PySem.W.mg_none_of KX G (by k_is), PySem.W.mg_none_of KX G (by k_is), PySem.W.mg_none_of KX G (by k_is), PySem.W.mg_none_of KX G (by k_is), PySem.W.mg_none_of KX G (by k_is), PySem.W.mg_none_of KX G (by k_is), PySem.W.mg_none_of KX G (by k_is), PySem.W.mg_none_of KX G (by k_is), PySem.W.mg_of KX G (by k_is)⟩
    case zM => exact ⟨⟨_, PySem.W.mg_of KX G (by k_is)⟩, ⟨_, PySem.W.mg_of KX G (by k_is)⟩, ⟨_, PySem.W.mg_of KX G (by k_is)⟩, ⟨_, PySem.W.mg_of KX G (by k_is)⟩, ⟨_, PySem.W.mg_of KX G (by k_is)⟩, ⟨_, PySem.W.mg_of KX G (by k_is)⟩⟩
    (case t__law_vase => (refine' LM.TopD.mk KX G ?a_1 ?l_1 ?c_1 ?k_1 ?b_1; (case a_1 => k_is); (case l_1 => k_is); (case c_1 => k_is); (case k_1 => k_is); (case b_1 => exact fun _ _ _ _ _ _ us hl => match us, hl with | [_, _], _ => rfl)))
    (case t__law_pour => (refine' LM.TopD.mk KX G ?a_2 ?l_2 ?c_2 ?k_2 ?b_2; (case a_2 => k_is); (case l_2 => k_is); (case c_2 => k_is); (case k_2 => k_is); (case b_2 => exact fun _ _ _ _ _ _ us hl => match us, hl with | [_, _], _ => rfl)))
    (case t__law_drop => (refine' LM.TopD.mk KX G ?a_3 ?l_3 ?c_3 ?k_3 ?b_3; (case a_3 => k_is); (case l_3 => k_is); (case c_3 => k_is); (case k_3 => k_is); (case b_3 => exact fun _ _ _ _ _ _ us hl => match us, hl with | [_], _ => rfl)))
    (case t_is_integer => (refine' LM.TopD.mk KX G ?a_4 ?l_4 ?c_4 ?k_4 ?b_4; (case a_4 => k_is); (case l_4 => k_is); (case c_4 => k_is); (case k_4 => k_is); (case b_4 => exact fun _ _ _ _ _ _ us hl => match us, hl with | [_], _ => rfl)))
    (case t_is_integer_within => (refine' LM.TopD.mk KX G ?a_5 ?l_5 ?c_5 ?k_5 ?b_5; (case a_5 => k_is); (case l_5 => k_is); (case c_5 => k_is); (case k_5 => k_is); (case b_5 => exact fun _ _ _ _ _ _ us hl => match us, hl with | [_, _, _], _ => rfl)))
    (case t_is_number => (refine' LM.TopD.mk KX G ?a_6 ?l_6 ?c_6 ?k_6 ?b_6; (case a_6 => k_is); (case l_6 => k_is); (case c_6 => k_is); (case k_6 => k_is); (case b_6 => exact fun _ _ _ _ _ _ us hl => match us, hl with | [_], _ => rfl)))
    (case t_check_number => (refine' LM.TopD.mk KX G ?a_7 ?l_7 ?c_7 ?k_7 ?b_7; (case a_7 => k_is); (case l_7 => k_is); (case c_7 => k_is); (case k_7 => k_is); (case b_7 => exact fun _ _ _ _ _ _ us hl => match us, hl with | [_], _ => rfl)))
    (case t_is_way => (refine' LM.TopD.mk KX G ?a_8 ?l_8 ?c_8 ?k_8 ?b_8; (case a_8 => k_is); (case l_8 => k_is); (case c_8 => k_is); (case k_8 => k_is); (case b_8 => exact fun _ _ _ _ _ _ us hl => match us, hl with | [_], _ => rfl)))
    (case t_check_way => (refine' LM.TopD.mk KX G ?a_9 ?l_9 ?c_9 ?k_9 ?b_9; (case a_9 => k_is); (case l_9 => k_is); (case c_9 => k_is); (case k_9 => k_is); (case b_9 => exact fun _ _ _ _ _ _ us hl => match us, hl with | [_], _ => rfl)))
    (case t_check_bases => (refine' LM.TopD.mk KX G ?a_10 ?l_10 ?c_10 ?k_10 ?b_10; (case a_10 => k_is); (case l_10 => k_is); (case c_10 => k_is); (case k_10 => k_is); (case b_10 => exact fun _ _ _ _ _ _ us hl => match us, hl with | [_], _ => rfl)))
    (case t_is_row => (refine' LM.TopD.mk KX G ?a_11 ?l_11 ?c_11 ?k_11 ?b_11; (case a_11 => k_is); (case l_11 => k_is); (case c_11 => k_is); (case k_11 => k_is); (case b_11 => exact fun _ _ _ _ _ _ us hl => match us, hl with | [_, _], _ => rfl)))
    (case t_check_rows => (refine' LM.TopD.mk KX G ?a_12 ?l_12 ?c_12 ?k_12 ?b_12; (case a_12 => k_is); (case l_12 => k_is); (case c_12 => k_is); (case k_12 => k_is); (case b_12 => exact fun _ _ _ _ _ _ us hl => match us, hl with | [_, _], _ => rfl)))
    (case t_spaced => (refine' LM.TopD.mk KX G ?a_13 ?l_13 ?c_13 ?k_13 ?b_13; (case a_13 => k_is); (case l_13 => k_is); (case c_13 => k_is); (case k_13 => k_is); (case b_13 => exact fun _ _ _ _ _ _ us hl => match us, hl with | [_], _ => rfl)))
    (case t_house_text => (refine' LM.TopD.mk KX G ?a_14 ?l_14 ?c_14 ?k_14 ?b_14; (case a_14 => k_is); (case l_14 => k_is); (case c_14 => k_is); (case k_14 => k_is); (case b_14 => exact fun _ _ _ _ _ _ us hl => match us, hl with | [_, _], _ => rfl)))
    (case t_groups_in_unit => (refine' LM.TopD.mk KX G ?a_15 ?l_15 ?c_15 ?k_15 ?b_15; (case a_15 => k_is); (case l_15 => k_is); (case c_15 => k_is); (case k_15 => k_is); (case b_15 => exact fun _ _ _ _ _ _ us hl => match us, hl with | [_, _], _ => rfl)))
    (case t_groups_to_repeat => (refine' LM.TopD.mk KX G ?a_16 ?l_16 ?c_16 ?k_16 ?b_16; (case a_16 => k_is); (case l_16 => k_is); (case c_16 => k_is); (case k_16 => k_is); (case b_16 => exact fun _ _ _ _ _ _ us hl => match us, hl with | [_, _], _ => rfl)))
    (case t_fitted_groups => (refine' LM.TopD.mk KX G ?a_17 ?l_17 ?c_17 ?k_17 ?b_17; (case a_17 => k_is); (case l_17 => k_is); (case c_17 => k_is); (case k_17 => k_is); (case b_17 => exact fun _ _ _ _ _ _ us hl => match us, hl with | [_, _, _], _ => rfl)))
    (case t_skipped_counts => (refine' LM.TopD.mk KX G ?a_18 ?l_18 ?c_18 ?k_18 ?b_18; (case a_18 => k_is); (case l_18 => k_is); (case c_18 => k_is); (case k_18 => k_is); (case b_18 => exact fun _ _ _ _ _ _ us hl => match us, hl with | [_, _, _], _ => rfl)))
    (case t_least_repeat => (refine' LM.TopD.mk KX G ?a_19 ?l_19 ?c_19 ?k_19 ?b_19; (case a_19 => k_is); (case l_19 => k_is); (case c_19 => k_is); (case k_19 => k_is); (case b_19 => exact fun _ _ _ _ _ _ us hl => match us, hl with | [_], _ => rfl)))
    (case t_sums_ahead => (refine' LM.TopD.mk KX G ?a_20 ?l_20 ?c_20 ?k_20 ?b_20; (case a_20 => k_is); (case l_20 => k_is); (case c_20 => k_is); (case k_20 => k_is); (case b_20 => exact fun _ _ _ _ _ _ us hl => match us, hl with | [_], _ => rfl)))
    (case t_last_not_above => (refine' LM.TopD.mk KX G ?a_21 ?l_21 ?c_21 ?k_21 ?b_21; (case a_21 => k_is); (case l_21 => k_is); (case c_21 => k_is); (case k_21 => k_is); (case b_21 => exact fun _ _ _ _ _ _ us hl => match us, hl with | [_, _], _ => rfl)))
    (case t_label_at => (refine' LM.TopD.mk KX G ?a_22 ?l_22 ?c_22 ?k_22 ?b_22; (case a_22 => k_is); (case l_22 => k_is); (case c_22 => k_is); (case k_22 => k_is); (case b_22 => exact fun _ _ _ _ _ _ us hl => match us, hl with | [_, _], _ => rfl)))
    (case t_written_number => (refine' LM.TopD.mk KX G ?a_23 ?l_23 ?c_23 ?k_23 ?b_23; (case a_23 => k_is); (case l_23 => k_is); (case c_23 => k_is); (case k_23 => k_is); (case b_23 => exact fun _ _ _ _ _ _ us hl => match us, hl with | [_], _ => rfl)))
    (case t_written_label => (refine' LM.TopD.mk KX G ?a_24 ?l_24 ?c_24 ?k_24 ?b_24; (case a_24 => k_is); (case l_24 => k_is); (case c_24 => k_is); (case k_24 => k_is); (case b_24 => exact fun _ _ _ _ _ _ us hl => match us, hl with | [_, _], _ => rfl)))
    (case t_places_in_round => (refine' LM.TopD.mk KX G ?a_25 ?l_25 ?c_25 ?k_25 ?b_25; (case a_25 => k_is); (case l_25 => k_is); (case c_25 => k_is); (case k_25 => k_is); (case b_25 => exact fun _ _ _ _ _ _ us hl => match us, hl with | [_], _ => rfl)))
    (case t_frames_in_places => (refine' LM.TopD.mk KX G ?a_26 ?l_26 ?c_26 ?k_26 ?b_26; (case a_26 => k_is); (case l_26 => k_is); (case c_26 => k_is); (case k_26 => k_is); (case b_26 => exact fun _ _ _ _ _ _ us hl => match us, hl with | [_, _], _ => rfl)))
    (case t_place_behind_frame_ahead => (refine' LM.TopD.mk KX G ?a_27 ?l_27 ?c_27 ?k_27 ?b_27; (case a_27 => k_is); (case l_27 => k_is); (case c_27 => k_is); (case k_27 => k_is); (case b_27 => exact fun _ _ _ _ _ _ us hl => match us, hl with | [_, _], _ => rfl)))
    (case t_house_behind => (refine' LM.TopD.mk KX G ?a_28 ?l_28 ?c_28 ?k_28 ?b_28; (case a_28 => k_is); (case l_28 => k_is); (case c_28 => k_is); (case k_28 => k_is); (case b_28 => exact fun _ _ _ _ _ _ us hl => match us, hl with | [_, _], _ => rfl)))
    (case t_leg_of => (refine' LM.TopD.mk KX G ?a_29 ?l_29 ?c_29 ?k_29 ?b_29; (case a_29 => k_is); (case l_29 => k_is); (case c_29 => k_is); (case k_29 => k_is); (case b_29 => exact fun _ _ _ _ _ _ us hl => match us, hl with | [_, _, _], _ => rfl)))
    (case t_legs_of => (refine' LM.TopD.mk KX G ?a_30 ?l_30 ?c_30 ?k_30 ?b_30; (case a_30 => k_is); (case l_30 => k_is); (case c_30 => k_is); (case k_30 => k_is); (case b_30 => exact fun _ _ _ _ _ _ us hl => match us, hl with | [_, _], _ => rfl)))
    (case t_led => (refine' LM.TopD.mk KX G ?a_31 ?l_31 ?c_31 ?k_31 ?b_31; (case a_31 => k_is); (case l_31 => k_is); (case c_31 => k_is); (case k_31 => k_is); (case b_31 => exact fun _ _ _ _ _ _ us hl => match us, hl with | [_, _], _ => rfl)))
    (case t_least_led_to => (refine' LM.TopD.mk KX G ?a_32 ?l_32 ?c_32 ?k_32 ?b_32; (case a_32 => k_is); (case l_32 => k_is); (case c_32 => k_is); (case k_32 => k_is); (case b_32 => exact fun _ _ _ _ _ _ us hl => match us, hl with | [_, _], _ => rfl)))
    (case t_least_through => (refine' LM.TopD.mk KX G ?a_33 ?l_33 ?c_33 ?k_33 ?b_33; (case a_33 => k_is); (case l_33 => k_is); (case c_33 => k_is); (case k_33 => k_is); (case b_33 => exact fun _ _ _ _ _ _ us hl => match us, hl with | [_], _ => rfl)))
    (case t_word_of => (refine' LM.TopD.mk KX G ?a_34 ?l_34 ?c_34 ?k_34 ?b_34; (case a_34 => k_is); (case l_34 => k_is); (case c_34 => k_is); (case k_34 => k_is); (case b_34 => exact fun _ _ _ _ _ _ us hl => match us, hl with | [_], _ => rfl)))
    (case t_has_form => (refine' LM.TopD.mk KX G ?a_35 ?l_35 ?c_35 ?k_35 ?b_35; (case a_35 => k_is); (case l_35 => k_is); (case c_35 => k_is); (case k_35 => k_is); (case b_35 => exact fun _ _ _ _ _ _ us hl => match us, hl with | [_], _ => rfl)))
    (case t_bounds => (refine' LM.TopD.mk KX G ?a_36 ?l_36 ?c_36 ?k_36 ?b_36; (case a_36 => k_is); (case l_36 => k_is); (case c_36 => k_is); (case k_36 => k_is); (case b_36 => exact fun _ _ _ _ _ _ us hl => match us, hl with | [_, _, _], _ => rfl)))
    (case t_is_part => (refine' LM.TopD.mk KX G ?a_37 ?l_37 ?c_37 ?k_37 ?b_37; (case a_37 => k_is); (case l_37 => k_is); (case c_37 => k_is); (case k_37 => k_is); (case b_37 => exact fun _ _ _ _ _ _ us hl => match us, hl with | [_, _, _, _], _ => rfl)))
    (case t_is_step => (refine' LM.TopD.mk KX G ?a_38 ?l_38 ?c_38 ?k_38 ?b_38; (case a_38 => k_is); (case l_38 => k_is); (case c_38 => k_is); (case k_38 => k_is); (case b_38 => exact fun _ _ _ _ _ _ us hl => match us, hl with | [_, _, _], _ => rfl)))
    (case t_check_steps => (refine' LM.TopD.mk KX G ?a_39 ?l_39 ?c_39 ?k_39 ?b_39; (case a_39 => k_is); (case l_39 => k_is); (case c_39 => k_is); (case k_39 => k_is); (case b_39 => exact fun _ _ _ _ _ _ us hl => match us, hl with | [_, _], _ => rfl)))
    (case t_check_houses => (refine' LM.TopD.mk KX G ?a_40 ?l_40 ?c_40 ?k_40 ?b_40; (case a_40 => k_is); (case l_40 => k_is); (case c_40 => k_is); (case k_40 => k_is); (case b_40 => exact fun _ _ _ _ _ _ us hl => match us, hl with | [_], _ => rfl)))
    (case t_last_house => (refine' LM.TopD.mk KX G ?a_41 ?l_41 ?c_41 ?k_41 ?b_41; (case a_41 => k_is); (case l_41 => k_is); (case c_41 => k_is); (case k_41 => k_is); (case b_41 => exact fun _ _ _ _ _ _ us hl => match us, hl with | [_, _], _ => rfl)))
    (case t_move_text => (refine' LM.TopD.mk KX G ?a_42 ?l_42 ?c_42 ?k_42 ?b_42; (case a_42 => k_is); (case l_42 => k_is); (case c_42 => k_is); (case k_42 => k_is); (case b_42 => exact fun _ _ _ _ _ _ us hl => match us, hl with | [_, _], _ => rfl)))
    (case t__law_known_right => (refine' LM.TopD.mk KX G ?a_43 ?l_43 ?c_43 ?k_43 ?b_43; (case a_43 => k_is); (case l_43 => k_is); (case c_43 => k_is); (case k_43 => k_is); (case b_43 => exact fun _ _ _ _ _ _ us hl => match us, hl with | [], _ => rfl)))
    (case t__law_long_right => (refine' LM.TopD.mk KX G ?a_44 ?l_44 ?c_44 ?k_44 ?b_44; (case a_44 => k_is); (case l_44 => k_is); (case c_44 => k_is); (case k_44 => k_is); (case b_44 => exact fun _ _ _ _ _ _ us hl => match us, hl with | [], _ => rfl)))
    (case t__law_right => (refine' LM.TopD.mk KX G ?a_45 ?l_45 ?c_45 ?k_45 ?b_45; (case a_45 => k_is); (case l_45 => k_is); (case c_45 => k_is); (case k_45 => k_is); (case b_45 => exact fun _ _ _ _ _ _ us hl => match us, hl with | [_], _ => rfl)))
    case zH =>
      refine' ⟨_, ⟨⟨?y_pg, ?y_hd, ?y_po, ?y_sa⟩, ?y_nB, ?y_nR, ?y_nT, ?y_nS, ?y_nA, ?y_nD, PySem.W.mg_of KX G ?y_aC⟩, ?y_I, ?y_Bs, ?y_Ro, ?y_mB, ?y_mPl, ?y_mF_, ?y_mN_, ?y_mWr, ?y_mAt, ?y_mFa, ?y_mPo, ?y_mSt, ?y_xmore⟩
      (case y_aC => k_is); (case y_pg => k_is); (case y_hd => k_is); (case y_po => k_is); (case y_sa => k_is)
      (case y_nB => (unfold L2.NoAttr; k_is)); (case y_nR => (unfold L2.NoAttr; k_is)); (case y_nT => (unfold L2.NoAttr; k_is)); (case y_nS => (unfold L2.NoAttr; k_is)); (case y_nA => (unfold L2.NoAttr; k_is)); (case y_nD => (unfold L2.NoAttr; k_is))
      (case y_I => (refine' LM.InitF.mk ?mk_46 ?a_46 ?i_46 ?kc_46 ?l_46 ?lT_46 ?c_46 ?k_46 ?lE_46; (case mk_46 => k_is); (case a_46 => k_is); (case i_46 => k_is); (case kc_46 => k_is); (case l_46 => k_is); (case lT_46 => k_is); (case c_46 => k_is); (case k_46 => k_is); (case lE_46 => k_is)))
      (case y_Bs => (refine' LM.PropBs.mk ?a_47 ?g_47 ?t_47 ?r_47 ?l_47 ?c_47; (case a_47 => k_is); (case g_47 => k_is); (case t_47 => k_is); (case r_47 => k_is); (case l_47 => k_is); (case c_47 => k_is)))
      (case y_Ro => (refine' LM.PropRo.mk ?a_48 ?g_48 ?t_48 ?r_48 ?l_48 ?c_48; (case a_48 => k_is); (case g_48 => k_is); (case t_48 => k_is); (case r_48 => k_is); (case l_48 => k_is); (case c_48 => k_is)))
      (case y_mB => (refine' LM.MethD.mk ?a_49 ?i_49 ?l_49 ?c_49 ?k_49 ?b_49; (case a_49 => k_is); (case i_49 => k_is); (case l_49 => k_is); (case c_49 => k_is); (case k_49 => k_is); (case b_49 => exact fun _ _ _ _ _ _ us hl => match us, hl with | [_, _], _ => rfl)))
      (case y_mPl => (refine' LM.MethD.mk ?a_50 ?i_50 ?l_50 ?c_50 ?k_50 ?b_50; (case a_50 => k_is); (case i_50 => k_is); (case l_50 => k_is); (case c_50 => k_is); (case k_50 => k_is); (case b_50 => exact fun _ _ _ _ _ _ us hl => match us, hl with | [_, _], _ => rfl)))
      (case y_mF_ => (refine' LM.MethD.mk ?a_51 ?i_51 ?l_51 ?c_51 ?k_51 ?b_51; (case a_51 => k_is); (case i_51 => k_is); (case l_51 => k_is); (case c_51 => k_is); (case k_51 => k_is); (case b_51 => exact fun _ _ _ _ _ _ us hl => match us, hl with | [_, _], _ => rfl)))
      (case y_mN_ => (refine' LM.MethD.mk ?a_52 ?i_52 ?l_52 ?c_52 ?k_52 ?b_52; (case a_52 => k_is); (case i_52 => k_is); (case l_52 => k_is); (case c_52 => k_is); (case k_52 => k_is); (case b_52 => exact fun _ _ _ _ _ _ us hl => match us, hl with | [_, _], _ => rfl)))
      (case y_mWr => (refine' LM.MethD.mk ?a_53 ?i_53 ?l_53 ?c_53 ?k_53 ?b_53; (case a_53 => k_is); (case i_53 => k_is); (case l_53 => k_is); (case c_53 => k_is); (case k_53 => k_is); (case b_53 => exact fun _ _ _ _ _ _ us hl => match us, hl with | [_, _], _ => rfl)))
      (case y_mAt => (refine' LM.MethD.mk ?a_54 ?i_54 ?l_54 ?c_54 ?k_54 ?b_54; (case a_54 => k_is); (case i_54 => k_is); (case l_54 => k_is); (case c_54 => k_is); (case k_54 => k_is); (case b_54 => exact fun _ _ _ _ _ _ us hl => match us, hl with | [_, _, _], _ => rfl)))
      (case y_mFa => (refine' LM.MethD.mk ?a_55 ?i_55 ?l_55 ?c_55 ?k_55 ?b_55; (case a_55 => k_is); (case i_55 => k_is); (case l_55 => k_is); (case c_55 => k_is); (case k_55 => k_is); (case b_55 => exact fun _ _ _ _ _ _ us hl => match us, hl with | [_, _, _], _ => rfl)))
      (case y_mPo => (refine' LM.MethD.mk ?a_56 ?i_56 ?l_56 ?c_56 ?k_56 ?b_56; (case a_56 => k_is); (case i_56 => k_is); (case l_56 => k_is); (case c_56 => k_is); (case k_56 => k_is); (case b_56 => exact fun _ _ _ _ _ _ us hl => match us, hl with | [_, _], _ => rfl)))
      (case y_mSt => (refine' LM.MethD.mk ?a_57 ?i_57 ?l_57 ?c_57 ?k_57 ?b_57; (case a_57 => k_is); (case i_57 => k_is); (case l_57 => k_is); (case c_57 => k_is); (case k_57 => k_is); (case b_57 => exact fun _ _ _ _ _ _ us hl => match us, hl with | [_], _ => rfl)))
      (case y_xmore => (refine' LM.MoreD.of ?own1_58 ?str1_58 ?str2_58 ?int1_58 ?int2_58 ?non1_58 ?non2_58 ?lst1_58 ?lst2_58 ?tup1_58 ?tup2_58 ?dic1_58 ?dic2_58 ?ha_58 ?hn_58 ?htk_58 ?hm_58 ?ne_58 ?bo_58 ?le_58; (case own1_58 => k_is); (case str1_58 => k_is); (case str2_58 => kit_is); (case int1_58 => k_is); (case int2_58 => kit_is); (case non1_58 => k_is); (case non2_58 => kit_is); (case lst1_58 => k_is); (case lst2_58 => kit_is); (case tup1_58 => k_is); (case tup2_58 => kit_is); (case dic1_58 => k_is); (case dic2_58 => kit_is); (case ha_58 => k_is); (case hn_58 => k_is); (case htk_58 => k_is); (case hm_58 => k_is); (case ne_58 => k_is); (case bo_58 => k_is); (case le_58 => k_is)))
    case zV =>
      refine' ⟨_, _, _, _, _, _, LM.LegTxt.of ⟨?vS_pg, ?vS_hd, ?vS_po, ?vS_sa⟩ ⟨?vL_pg, ?vL_hd, ?vL_po, ?vL_sa⟩ ⟨?vU_pg, ?vU_hd, ?vU_po, ?vU_sa⟩ ⟨?vR_pg, ?vR_hd, ?vR_po, ?vR_sa⟩ ?vnS0 ?vnL0 ?vnL1 ?vnL2 ?vnL3 ?vnU0 ?vnU1 ?vnU2 ?vnR0 ?vnR1 (PySem.W.mg_of KX G ?v_gS) (PySem.W.mg_of KX G ?v_gL) (PySem.W.mg_of KX G ?v_gU) (PySem.W.mg_of KX G ?v_gR), ⟨⟨?vM_pg, ?vM_hd, ?vM_po, ?vM_sa⟩, ?vnM0, ?vnM1, ?vnM2, ?vnM3, ?vnM4, ?vnM5, ?vnM6, ?vnM7, ?vnM8, ?vnM9, PySem.W.mg_of KX G ?v_gM⟩, ?v_F, ?v_iS, ?v_iL, ?v_iU, ?v_iR, ?v_iM, ?v_LeS, ?v_LsS, ?v_PsS, ?v_LeL, ?v_LsL, ?v_PsL, ?v_LeU, ?v_LsU, ?v_PsU, ?v_LeR, ?v_LsR, ?v_PsR, ?v_M_of, ?v_P_first, ?v_P_round⟩
      (case v_gS => k_is); (case v_gL => k_is); (case v_gU => k_is); (case v_gR => k_is); (case v_gM => k_is)
      (case vS_pg => k_is); (case vS_hd => k_is); (case vS_po => k_is); (case vS_sa => k_is); (case vL_pg => k_is); (case vL_hd => k_is); (case vL_po => k_is); (case vL_sa => k_is); (case vU_pg => k_is); (case vU_hd => k_is); (case vU_po => k_is); (case vU_sa => k_is); (case vR_pg => k_is); (case vR_hd => k_is); (case vR_po => k_is); (case vR_sa => k_is); (case vM_pg => k_is); (case vM_hd => k_is); (case vM_po => k_is); (case vM_sa => k_is)
      (case vnS0 => (unfold L2.NoAttr; k_is)); (case vnL0 => (unfold L2.NoAttr; k_is)); (case vnL1 => (unfold L2.NoAttr; k_is)); (case vnL2 => (unfold L2.NoAttr; k_is)); (case vnL3 => (unfold L2.NoAttr; k_is)); (case vnU0 => (unfold L2.NoAttr; k_is)); (case vnU1 => (unfold L2.NoAttr; k_is)); (case vnU2 => (unfold L2.NoAttr; k_is)); (case vnR0 => (unfold L2.NoAttr; k_is)); (case vnR1 => (unfold L2.NoAttr; k_is)); (case vnM0 => (unfold L2.NoAttr; k_is)); (case vnM1 => (unfold L2.NoAttr; k_is)); (case vnM2 => (unfold L2.NoAttr; k_is)); (case vnM3 => (unfold L2.NoAttr; k_is)); (case vnM4 => (unfold L2.NoAttr; k_is)); (case vnM5 => (unfold L2.NoAttr; k_is)); (case vnM6 => (unfold L2.NoAttr; k_is)); (case vnM7 => (unfold L2.NoAttr; k_is)); (case vnM8 => (unfold L2.NoAttr; k_is)); (case vnM9 => (unfold L2.NoAttr; k_is))
      (case v_F => (refine' LM.FormsD.of KX G ?am_59 ?l_59 ?kl_59 ?lo_59 ?n0_59 ?n1_59 ?n2_59 ?n3_59 ?n4_59 ?n5_59 ?n6_59 ?n7_59 ?n8_59 ?t0_59 ?t1_59 ?t2_59 ?t3_59 ?t4_59 ?t5_59 ?t6_59 ?t7_59 ?t8_59; (case am_59 => k_is); (case l_59 => k_is); (case kl_59 => k_keys); (case lo_59 => first | rfl | decide); (case n0_59 => k_is); (case n1_59 => k_is); (case n2_59 => k_is); (case n3_59 => k_is); (case n4_59 => k_is); (case n5_59 => k_is); (case n6_59 => k_is); (case n7_59 => k_is); (case n8_59 => k_is); (case t0_59 => (refine' LM.TupK.mk ?l rfl ?s ?v; (case l => k_is); (case s => exact Nat.le_of_ble_eq_true rfl); (case v => repeat (first | exact .nil | refine .cons ⟨_, rfl⟩ ?_)))); (case t1_59 => (refine' LM.TupK.mk ?l rfl ?s ?v; (case l => k_is); (case s => exact Nat.le_of_ble_eq_true rfl); (case v => repeat (first | exact .nil | refine .cons ⟨_, rfl⟩ ?_)))); (case t2_59 => (refine' LM.TupK.mk ?l rfl ?s ?v; (case l => k_is); (case s => exact Nat.le_of_ble_eq_true rfl); (case v => repeat (first | exact .nil | refine .cons ⟨_, rfl⟩ ?_)))); (case t3_59 => (refine' LM.TupK.mk ?l rfl ?s ?v; (case l => k_is); (case s => exact Nat.le_of_ble_eq_true rfl); (case v => repeat (first | exact .nil | refine .cons ⟨_, rfl⟩ ?_)))); (case t4_59 => (refine' LM.TupK.mk ?l rfl ?s ?v; (case l => k_is); (case s => exact Nat.le_of_ble_eq_true rfl); (case v => repeat (first | exact .nil | refine .cons ⟨_, rfl⟩ ?_)))); (case t5_59 => (refine' LM.TupK.mk ?l rfl ?s ?v; (case l => k_is); (case s => exact Nat.le_of_ble_eq_true rfl); (case v => repeat (first | exact .nil | refine .cons ⟨_, rfl⟩ ?_)))); (case t6_59 => (refine' LM.TupK.mk ?l rfl ?s ?v; (case l => k_is); (case s => exact Nat.le_of_ble_eq_true rfl); (case v => repeat (first | exact .nil | refine .cons ⟨_, rfl⟩ ?_)))); (case t7_59 => (refine' LM.TupK.mk ?l rfl ?s ?v; (case l => k_is); (case s => exact Nat.le_of_ble_eq_true rfl); (case v => repeat (first | exact .nil | refine .cons ⟨_, rfl⟩ ?_)))); (case t8_59 => (refine' LM.TupK.mk ?l rfl ?s ?v; (case l => k_is); (case s => exact Nat.le_of_ble_eq_true rfl); (case v => repeat (first | exact .nil | refine .cons ⟨_, rfl⟩ ?_))))))
      (case v_iS => (refine' LM.IniD.mk ?mk_60 ?a_60 ?i_60 ?kc_60 ?l_60 ?c_60 ?k_60 ?b_60; (case mk_60 => k_is); (case a_60 => k_is); (case i_60 => k_is); (case kc_60 => k_is); (case l_60 => k_is); (case c_60 => k_is); (case k_60 => k_is); (case b_60 => exact fun _ _ _ _ _ _ us hl => match us, hl with | [_, _], _ => rfl)))
      (case v_iL => (refine' LM.IniD.mk ?mk_61 ?a_61 ?i_61 ?kc_61 ?l_61 ?c_61 ?k_61 ?b_61; (case mk_61 => k_is); (case a_61 => k_is); (case i_61 => k_is); (case kc_61 => k_is); (case l_61 => k_is); (case c_61 => k_is); (case k_61 => k_is); (case b_61 => exact fun _ _ _ _ _ _ us hl => match us, hl with | [_, _, _, _, _], _ => rfl)))
      (case v_iU => (refine' LM.IniD.mk ?mk_62 ?a_62 ?i_62 ?kc_62 ?l_62 ?c_62 ?k_62 ?b_62; (case mk_62 => k_is); (case a_62 => k_is); (case i_62 => k_is); (case kc_62 => k_is); (case l_62 => k_is); (case c_62 => k_is); (case k_62 => k_is); (case b_62 => exact fun _ _ _ _ _ _ us hl => match us, hl with | [_, _, _, _], _ => rfl)))
      (case v_iR => (refine' LM.IniD.mk ?mk_63 ?a_63 ?i_63 ?kc_63 ?l_63 ?c_63 ?k_63 ?b_63; (case mk_63 => k_is); (case a_63 => k_is); (case i_63 => k_is); (case kc_63 => k_is); (case l_63 => k_is); (case c_63 => k_is); (case k_63 => k_is); (case b_63 => exact fun _ _ _ _ _ _ us hl => match us, hl with | [_, _, _], _ => rfl)))
      (case v_iM => (refine' LM.InitM.mk ?mk_64 ?a_64 ?i_64 ?kc_64 ?l_64 ?lT_64 ?c_64 ?k_64; (case mk_64 => k_is); (case a_64 => k_is); (case i_64 => k_is); (case kc_64 => k_is); (case l_64 => k_is); (case lT_64 => k_is); (case c_64 => k_is); (case k_64 => k_is)))
      (case v_LeS => (refine' LM.MethD.mk ?a_65 ?i_65 ?l_65 ?c_65 ?k_65 ?b_65; (case a_65 => k_is); (case i_65 => k_is); (case l_65 => k_is); (case c_65 => k_is); (case k_65 => k_is); (case b_65 => exact fun _ _ _ _ _ _ us hl => match us, hl with | [_, _], _ => rfl)))
      (case v_LsS => (refine' LM.MethD.mk ?a_66 ?i_66 ?l_66 ?c_66 ?k_66 ?b_66; (case a_66 => k_is); (case i_66 => k_is); (case l_66 => k_is); (case c_66 => k_is); (case k_66 => k_is); (case b_66 => exact fun _ _ _ _ _ _ us hl => match us, hl with | [_, _], _ => rfl)))
      (case v_PsS => (refine' LM.MethD.mk ?a_67 ?i_67 ?l_67 ?c_67 ?k_67 ?b_67; (case a_67 => k_is); (case i_67 => k_is); (case l_67 => k_is); (case c_67 => k_is); (case k_67 => k_is); (case b_67 => exact fun _ _ _ _ _ _ us hl => match us, hl with | [_], _ => rfl)))
      (case v_LeL => (refine' LM.MethD.mk ?a_68 ?i_68 ?l_68 ?c_68 ?k_68 ?b_68; (case a_68 => k_is); (case i_68 => k_is); (case l_68 => k_is); (case c_68 => k_is); (case k_68 => k_is); (case b_68 => exact fun _ _ _ _ _ _ us hl => match us, hl with | [_, _], _ => rfl)))
      (case v_LsL => (refine' LM.MethD.mk ?a_69 ?i_69 ?l_69 ?c_69 ?k_69 ?b_69; (case a_69 => k_is); (case i_69 => k_is); (case l_69 => k_is); (case c_69 => k_is); (case k_69 => k_is); (case b_69 => exact fun _ _ _ _ _ _ us hl => match us, hl with | [_, _], _ => rfl)))
      (case v_PsL => (refine' LM.MethD.mk ?a_70 ?i_70 ?l_70 ?c_70 ?k_70 ?b_70; (case a_70 => k_is); (case i_70 => k_is); (case l_70 => k_is); (case c_70 => k_is); (case k_70 => k_is); (case b_70 => exact fun _ _ _ _ _ _ us hl => match us, hl with | [_], _ => rfl)))
      (case v_LeU => (refine' LM.MethD.mk ?a_71 ?i_71 ?l_71 ?c_71 ?k_71 ?b_71; (case a_71 => k_is); (case i_71 => k_is); (case l_71 => k_is); (case c_71 => k_is); (case k_71 => k_is); (case b_71 => exact fun _ _ _ _ _ _ us hl => match us, hl with | [_, _], _ => rfl)))
      (case v_LsU => (refine' LM.MethD.mk ?a_72 ?i_72 ?l_72 ?c_72 ?k_72 ?b_72; (case a_72 => k_is); (case i_72 => k_is); (case l_72 => k_is); (case c_72 => k_is); (case k_72 => k_is); (case b_72 => exact fun _ _ _ _ _ _ us hl => match us, hl with | [_, _], _ => rfl)))
      (case v_PsU => (refine' LM.MethD.mk ?a_73 ?i_73 ?l_73 ?c_73 ?k_73 ?b_73; (case a_73 => k_is); (case i_73 => k_is); (case l_73 => k_is); (case c_73 => k_is); (case k_73 => k_is); (case b_73 => exact fun _ _ _ _ _ _ us hl => match us, hl with | [_], _ => rfl)))
      (case v_LeR => (refine' LM.MethD.mk ?a_74 ?i_74 ?l_74 ?c_74 ?k_74 ?b_74; (case a_74 => k_is); (case i_74 => k_is); (case l_74 => k_is); (case c_74 => k_is); (case k_74 => k_is); (case b_74 => exact fun _ _ _ _ _ _ us hl => match us, hl with | [_, _], _ => rfl)))
      (case v_LsR => (refine' LM.MethD.mk ?a_75 ?i_75 ?l_75 ?c_75 ?k_75 ?b_75; (case a_75 => k_is); (case i_75 => k_is); (case l_75 => k_is); (case c_75 => k_is); (case k_75 => k_is); (case b_75 => exact fun _ _ _ _ _ _ us hl => match us, hl with | [_, _], _ => rfl)))
      (case v_PsR => (refine' LM.MethD.mk ?a_76 ?i_76 ?l_76 ?c_76 ?k_76 ?b_76; (case a_76 => k_is); (case i_76 => k_is); (case l_76 => k_is); (case c_76 => k_is); (case k_76 => k_is); (case b_76 => exact fun _ _ _ _ _ _ us hl => match us, hl with | [_], _ => rfl)))
      (case v_M_of => (refine' LM.MethD.mk ?a_77 ?i_77 ?l_77 ?c_77 ?k_77 ?b_77; (case a_77 => k_is); (case i_77 => k_is); (case l_77 => k_is); (case c_77 => k_is); (case k_77 => k_is); (case b_77 => exact fun _ _ _ _ _ _ us hl => match us, hl with | [_, _], _ => rfl)))
      (case v_P_first => (refine' LM.PropMfirst.mk ?a_78 ?g_78 ?t_78 ?r_78 ?l_78 ?c_78; (case a_78 => k_is); (case g_78 => k_is); (case t_78 => k_is); (case r_78 => k_is); (case l_78 => k_is); (case c_78 => k_is)))
      (case v_P_round => (refine' LM.PropMround.mk ?a_79 ?g_79 ?t_79 ?r_79 ?l_79 ?c_79; (case a_79 => k_is); (case g_79 => k_is); (case t_79 => k_is); (case r_79 => k_is); (case l_79 => k_is); (case c_79 => k_is)))
    case zMC => exact ⟨⟨⟨_, PySem.W.mg_of KX G (by k_is)⟩, ⟨_, PySem.W.mg_of KX G (by k_is)⟩, ⟨_, PySem.W.mg_of KX G (by k_is)⟩, ⟨_, PySem.W.mg_of KX G (by k_is)⟩, ⟨_, PySem.W.mg_of KX G (by k_is)⟩, ⟨_, PySem.W.mg_of KX G (by k_is)⟩⟩, ⟨_, PySem.W.mg_of KX G (by k_is)⟩, ⟨_, PySem.W.mg_of KX G (by k_is)⟩, ⟨_, PySem.W.mg_of KX G (by k_is)⟩, ⟨_, PySem.W.mg_of KX G (by k_is)⟩, ⟨_, PySem.W.mg_of KX G (by k_is)⟩⟩
    case zgc => exact PySem.W.mg_of KX G (by k_is)
    (case za => k_is); (case zl => k_is); (case zc => k_is); (case zk => k_is)
